/- Walks of the program's own functions of package crc: shiftFour, process, Next, Sum, given that the table holds its sixteen words. -/
import Derived.Test.YthlbkaenpoeljaaDoorRows
import Derived.Test.YthlbkaenpoeljaaDoorMath
import Derived.WalkKit
import Derived.WalkSpells
import Derived.WalkLawsBesides
import Derived.Lib.Hide
import Derived.Lib.SlBytesConst
namespace Go.Proofs.YthlbkaenpoeljaaDoor
open Go.RowKit

def Tab (w : World) : Prop := ∀ i, i < 16 → w.cell? ⟨0, i, none⟩ = some (.int .u32 ((Crc.tab.getD i 0 : Nat) : Int))

/-- The first 'len' cells behind 'a' hold the bytes 'bs'. -/
structure Row (w : World) (a : Option Addr) (len : Nat) (bs : List Nat) : Prop where
  size : bs.length = len
  small : ∀ c ∈ bs, c < 256
  cells : len = 0 ∨ ∃ b off, a = some ⟨b, off, none⟩ ∧ ∀ i, i < len → w.cell? ⟨b, off + i, none⟩ = some (.int .u8 ((bs.getD i 0 : Nat) : Int))

theorem getD_at {l : List Nat} {k : Nat} (h : k < l.length) : l.getD k 0 = l[k] := by simp [List.getD, h]

theorem ret_int {k : IntKind} {a b : Int} (h : a = b) : Ending.returned (.int k a) = .returned (.int k b) := by rw [h]

set_option maxHeartbeats 400000 in
theorem four_core (r i t : Nat) (w : World) (_hi : i < 16) (_hr : r < 4294967296) (hb : bits .and .u32 (r : Int) 15 = (i : Int)) (hc : w.cell? ⟨0, i, none⟩ = some (.int .u32 (t : Int))) :
    Calls Tryd.prog 15 #[.int .u32 (r : Int)] w fun e w' => e = .returned (.int .u32 (bits .xor .u32 ((r : Int) / 16) (t : Int))) ∧ w = w' := by
  go_enter Tryd.func15, Tryd.ntmps15
  go_wp2
  go_ret
  exact ⟨rfl, rfl⟩

theorem four_any (r : Nat) (w : World) (hT : Tab w) (hr : r < 4294967296) :
    Calls Tryd.prog 15 #[.int .u32 (r : Int)] w fun e w' => e = .returned (.int .u32 ((Crc.four r : Nat) : Int)) ∧ w = w' := by
  have hi : r % 16 < 16 := Nat.mod_lt _ (by omega)
  have hb : bits .and .u32 (r : Int) 15 = ((r % 16 : Nat) : Int) := by
    have := u32_and_nat r 15 hr (by omega)
    rw [nat_mask4] at this
    exact this
  refine (four_core r (r % 16) (Crc.tab.getD (r % 16) 0) w hi hr hb (hT _ hi)).mono ?_
  rintro e w' ⟨rfl, rfl⟩
  refine ⟨ret_int ?_, rfl⟩
  have h := u32_xor_nat (r / 16) (Crc.tab.getD (r % 16) 0) (by omega) (Crc.tab_lt _ hi)
  rw [show ((r : Int) / 16) = ((r / 16 : Nat) : Int) by omega, h]
  rfl

set_option maxHeartbeats 400000 in
theorem byte_core (r c x : Nat) (w : World) (hT : Hid (Tab w)) (hx : x < 4294967296) (hc : c < 256) (hb : bits .xor .u32 (r : Int) (c : Int) = (x : Int)) :
    Calls Tryd.prog 13 #[.int .u32 (r : Int), .int .u8 (c : Int)] w fun e w' => e = .returned (.int .u32 ((Crc.four (Crc.four x) : Nat) : Int)) ∧ w = w' := by
  go_enter Tryd.func13, Tryd.ntmps13
  go_wp2_with fail
  refine (four_any x _ hT.out hx).mono ?_
  rintro e w' ⟨rfl, rfl⟩
  go_wp2_with fail
  refine (four_any _ _ hT.out (Crc.four_lt x hx)).mono ?_
  rintro e w' ⟨rfl, rfl⟩
  go_wp2_with fail
  go_ret
  exact ⟨rfl, rfl⟩

theorem byte_any (r c : Nat) (w : World) (hT : Tab w) (hr : r < 4294967296) (hc : c < 256) :
    Calls Tryd.prog 13 #[.int .u32 (r : Int), .int .u8 (c : Int)] w fun e w' => e = .returned (.int .u32 ((Crc.byte r c : Nat) : Int)) ∧ w = w' :=
  byte_core r c (r ^^^ c) w (Lib.hid hT) (Crc.xor_lt32 hr (by omega)) hc (u32_xor_nat r c hr (by omega))

set_option maxHeartbeats 400000 in
theorem next_core (s m : Nat) (a : Option Addr) (len cap : Nat) (bs : List Nat) (w : World) (hT : Hid (Tab w)) (hR : Hid (Row w a len bs)) (hl : len ≤ maxLen) (hm : m < 4294967296)
    (hb : bits .xor .u32 (s : Int) 4294967295 = (m : Int)) :
    Calls Tryd.prog 11 #[.int .u32 (s : Int), .slice a len cap] w fun e w' => e = .returned (.int .u32 ((Crc.run m bs ^^^ 4294967295 : Nat) : Int)) ∧ w = w' := by
  unfold maxLen at hl
  go_enter Tryd.func11, Tryd.ntmps11
  go_wp2_with fail
  go_loop [5, 12] (fun r i => ∃ k x : Nat, k ≤ len ∧ i = .int .i64 k ∧ r = .int .u32 (x : Int) ∧ Hid (x = Crc.run m (bs.take k))) (fun _ i => len - (intOf i).toNat)
  case atStart => exact ⟨0, m, Nat.zero_le _, rfl, rfl, Lib.hid (by simp [Crc.run])⟩
  case round =>
    obtain ⟨k, x, hk, rfl, rfl, hx⟩ := hrel
    by_cases hlt : k < len
    · obtain ⟨b, off, ha, hcs⟩ := hR.out.cells.resolve_left (by omega)
      have hc := hcs k hlt
      have hsm : bs.getD k 0 < 256 := by
        have hk' : k < bs.length := by have := hR.out.size; omega
        rw [getD_at hk']
        exact hR.out.small _ (List.getElem_mem hk')
      have hxl : x < 4294967296 := by
        rw [hx.out]
        exact Crc.run_lt _ _ hm (fun c hc => hR.out.small c (List.mem_of_mem_take hc))
      have HN : Hid (Crc.byte x (bs.getD k 0) = Crc.run m (bs.take (k + 1))) := Lib.hid (by
        have hk' : k < bs.length := by have := hR.out.size; omega
        rw [hx.out, List.take_succ_eq_append_getElem hk', Crc.run_append, getD_at hk']
        rfl)
      subst ha
      generalize bs.getD k 0 = c at hc hsm HN
      clear hcs
      go_wp2_with fail
      refine (byte_any x c _ hT.out hxl hsm).mono ?_
      rintro e w' ⟨rfl, rfl⟩
      go_wp2_with fail
      go_round
      case rel => exact ⟨k + 1, _, by omega, by go_num, rfl, HN⟩
      case measure => simp [intOf]; omega
    · have HZ : Hid (x = Crc.run m bs) := Lib.hid (by
        rw [hx.out, List.take_of_length_le (by have := hR.out.size; omega)])
      have hxl : x < 4294967296 := by
        rw [HZ.out]
        exact Crc.run_lt _ _ hm hR.out.small
      have HX := Lib.hid (u32_xor_nat x 4294967295 hxl (by omega))
      go_wp2_with fail
      go_ret
      refine ⟨ret_int ?_, rfl⟩
      rw [← HZ.out]
      exact HX.out

theorem next_any (s : Nat) (a : Option Addr) (len cap : Nat) (bs : List Nat) (w : World) (hT : Tab w) (hR : Row w a len bs) (hl : len ≤ maxLen) (hs : s < 4294967296) :
    Calls Tryd.prog 11 #[.int .u32 (s : Int), .slice a len cap] w fun e w' => e = .returned (.int .u32 ((Crc.next s bs : Nat) : Int)) ∧ w = w' :=
  next_core s (s ^^^ 4294967295) a len cap bs w (Lib.hid hT) (Lib.hid hR) hl (Crc.xor_lt32 hs (by omega)) (u32_xor_nat s 4294967295 hs (by omega))

set_option maxHeartbeats 400000 in
theorem sum_any (a : Option Addr) (len cap : Nat) (bs : List Nat) (w : World) (hT : Tab w) (hR : Row w a len bs) (hl : len ≤ maxLen) :
    Calls Tryd.prog 9 #[.slice a len cap] w fun e w' => e = .returned (.int .u32 ((Crc.next 0 bs : Nat) : Int)) ∧ w = w' := by
  have hN := Lib.hid (next_any 0 a len cap bs w hT hR hl (by omega))
  clear hR hT
  go_enter Tryd.func9, Tryd.ntmps9
  go_wp2_with fail
  refine hN.out.mono ?_
  rintro e w' ⟨rfl, rfl⟩
  go_wp2_with fail
  go_ret
  exact ⟨rfl, rfl⟩

theorem row_nil (w : World) (a : Option Addr) : Row w a 0 [] := ⟨rfl, by simp, .inl rfl⟩

theorem Tab.below {w w' : World} (h : Tab w) (hb : Below w.heap.size w w') : Tab w' := fun i hi => by
  rw [hb.cell (p := ⟨0, i, none⟩) (block_lt_of_cell (h i hi))]; exact h i hi

theorem Row.below {w w' : World} {a : Option Addr} {len : Nat} {bs : List Nat} (h : Row w a len bs) (hb : Below w.heap.size w w') : Row w' a len bs := by
  refine ⟨h.size, h.small, ?_⟩
  rcases h.cells with h0 | ⟨b, off, ha, hc⟩
  · exact .inl h0
  · exact .inr ⟨b, off, ha, fun i hi => by rw [hb.cell (p := ⟨b, off + i, none⟩) (block_lt_of_cell (hc i hi))]; exact hc i hi⟩

/-- The nine digits as the walk lays them. -/
def digits : Array Value := #[.int .u8 49, .int .u8 50, .int .u8 51, .int .u8 52, .int .u8 53, .int .u8 54, .int .u8 55, .int .u8 56, .int .u8 57]

theorem row_digits (w : World) (fr : Nat × Nat) : Row (w.alloc (.cells digits 5 fr)) (some ⟨w.heap.size, 0, none⟩) 9 [49, 50, 51, 52, 53, 54, 55, 56, 57] := by
  refine ⟨rfl, by decide, .inr ⟨w.heap.size, 0, rfl, fun i hi => ?_⟩⟩
  rw [World.cell?_alloc_mark]
  match i, hi with
  | 0, _ | 1, _ | 2, _ | 3, _ | 4, _ | 5, _ | 6, _ | 7, _ | 8, _ => rfl

set_option maxHeartbeats 400000 in
theorem alive_any (w : World) (hT : Tab w) :
    Calls Tryd.prog 8 #[] w fun e w' => e = .returned (.bool true) ∧ Below w.heap.size w w' := by
  have hb : Below w.heap.size w (w.alloc (.cells digits 5 (9, 10))) := (Below.refl _ _).alloc (Nat.le_refl _) _
  have h1 := sum_any (some ⟨w.heap.size, 0, none⟩) 9 9 _ _ (hT.below hb) (row_digits w (9, 10)) (by decide)
  have h2 := sum_any none 0 0 _ _ (hT.below hb) (row_nil _ none) (by decide)
  rw [Crc.known] at h1
  rw [Crc.known0] at h2
  have H1 := Lib.hid h1
  have H2 := Lib.hid h2
  have HB := Lib.hid hb
  clear hT h1 h2 hb
  have kc := fun (w : World) (C : Array Value) (n c : Nat) => Lib.run_convert_bytes_const (P := Tryd.prog) w 23 5 C n c Tryd.underlying23 Tryd.underlying5
  go_enter Tryd.func8, Tryd.ntmps8
  go_wp2_with fail
  clear kc
  refine H1.out.mono ?_
  rintro e w' ⟨rfl, rfl⟩
  go_wp2_with fail
  refine H2.out.mono ?_
  rintro e w' ⟨rfl, rfl⟩
  go_wp2_with fail
  go_ret
  exact ⟨rfl, HB.out⟩
end Go.Proofs.YthlbkaenpoeljaaDoor
