/- Walks of bytes.Clone and of the document's Join and Field; slices cut off. Walks of the functions of layer 1, the program's and the document's, given that the table holds its sixteen words. -/
import Derived.Test.YtcgbkfnjohbglaaDoorHy
import Derived.Test.YtcgbkfnjohbglaaDoorCm
namespace Go.Proofs.YtcgbkfnjohbglaaDoor
open Go.RowKit


set_option maxHeartbeats 1000000 in
theorem jn_any (a b : Option Addr) (n m c d : Nat) (x y : List Nat) (w : World) (hl : n + m ≤ 1000000) (hR : Row w a n x) (hz : a = none → n = 0 ∧ c = 0) (hR2 : Row w b m y) (hz2 : b = none → m = 0 ∧ d = 0) :
    Calls Tryd.prog 60 #[.slice a n c, .slice b m d] w (Fresh (x ++ y) w) := by
  have hal : Below w.heap.size w (w.alloc (.cells #[] 5)) := (Below.refl w.heap.size w).alloc (Nat.le_refl _) (.cells #[] 5)
  have HR := Lib.hid (hR.below hal)
  have HZ := Lib.hid hz
  have HR2 := Lib.hid hR2
  have HZ2 := Lib.hid hz2
  have HS := Lib.hid hR.size
  have HS2 := Lib.hid hR2.size
  clear hR hR2 hal hz hz2
  go_enter Tryd.func60, Tryd.ntmps60
  go_wp2_with (at_builtin; first
    | (refine wpList_append_own_row _ rfl _ _ rfl w.heap.size (some ⟨w.heap.size, 0, none⟩) 0 0 [] rfl (own_empty w) a n c x rfl HR.out HZ.out (by omega) (by simp) ?_
       intro a1 c1 w1 ho hk hl1
       simp only [Nat.zero_add, List.nil_append] at ho ⊢
       have HO := Lib.hid ho
       have HB := Lib.hid (below_new hk (fun i ⟨ad', h1, h2⟩ => by obtain rfl := Option.some.inj h1; exact Nat.le_of_eq h2.symm))
       clear ho hk hl1)
    | (refine wpList_append_own_row w1 rfl _ _ rfl w.heap.size a1 n c1 x rfl HO.out b m d y rfl (HR2.out.below HB.out) HZ2.out (by omega) HB.out.size ?_
       intro a2 c2 w2 ho hk hl1
       have HO2 := Lib.hid ho
       have HB2 := Lib.hid (HB.out.trans (hk.below HB.out.size (fun i ⟨ad', h1, h2⟩ => by have := (HO.out.lt ad' h1).1; omega)))
       clear ho hk hl1))
  go_ret
  have hlen : (x ++ y).length = n + m := by rw [List.length_append, HS.out, HS2.out]
  exact ⟨a2, c2, by rw [hlen]; rfl, by rw [hlen]; exact HO2.out, HB2.out⟩

set_option maxHeartbeats 1000000 in
theorem fld_any (b : Option Addr) (m d : Nat) (y : List Nat) (w : World) (hl : m ≤ 100000) (hR2 : Row w b m y) (hz2 : b = none → m = 0 ∧ d = 0) :
    Calls Tryd.prog 55 #[.slice b m d] w (Fresh (Vint.enc m ++ y) w) := by
  have HP := Lib.hid (rput_any m w (by omega))
  have hL := Vint.enc_ten (n := m) (by omega)
  have HX := Lib.hid (Vint.enc_lt m)
  have HR2 := Lib.hid hR2
  have HZ2 := Lib.hid hz2
  clear hR2 hz2
  generalize Vint.enc m = l at HP hL HX
  go_enter Tryd.func55, Tryd.ntmps55
  go_wp2_with fail
  refine HP.out.mono ?_
  rintro e w1 ⟨g, c1, rfl, ho, hb⟩
  have HJ := Lib.hid (jn_any (some ⟨g, 0, none⟩) b l.length m c1 d l y w1 (by omega) (Own.row (B := w.heap.size) (cap := c1) ho HX.out) (fun h => by cases h) (HR2.out.below hb) HZ2.out)
  have HB := Lib.hid hb
  clear ho hb
  go_wp2_with fail
  refine HJ.out.mono ?_
  rintro e w2 ⟨a2, c2, rfl, ho2, hb2⟩
  have HO2 := Lib.hid (ho2.mono HB.out.size)
  have HB2 := Lib.hid (HB.out.trans (hb2.mono HB.out.size))
  clear ho2 hb2
  go_wp2_with fail
  go_ret
  exact ⟨a2, c2, by rw [List.length_append]; rfl, HO2.out, HB2.out⟩


end Go.Proofs.YtcgbkfnjohbglaaDoor

namespace Go.Proofs.YtcgbkfnjohbglaaDoor
open Go.RowKit

def Tab (w : World) : Prop := ∀ i, i < 16 → w.cell? ⟨0, i, none⟩ = some (.int .u32 ((Crc.tab.getD i 0 : Nat) : Int))

set_option maxHeartbeats 400000 in
theorem four_core (r i t : Nat) (w : World) (_hi : i < 16) (_hr : r < 4294967296) (hb : bits .and .u32 (r : Int) 15 = (i : Int)) (hc : w.cell? ⟨0, i, none⟩ = some (.int .u32 (t : Int))) :
    Calls Tryd.prog 65 #[.int .u32 (r : Int)] w fun e w' => e = .returned (.int .u32 (bits .xor .u32 ((r : Int) / 16) (t : Int))) ∧ w = w' := by
  go_enter Tryd.func65, Tryd.ntmps65
  go_wp2
  go_ret
  exact ⟨rfl, rfl⟩

theorem four_any (r : Nat) (w : World) (hT : Tab w) (hr : r < 4294967296) :
    Calls Tryd.prog 65 #[.int .u32 (r : Int)] w fun e w' => e = .returned (.int .u32 ((Crc.four r : Nat) : Int)) ∧ w = w' := by
  have hi : r % 16 < 16 := Nat.mod_lt _ (by omega)
  have hb : bits .and .u32 (r : Int) 15 = ((r % 16 : Nat) : Int) := by
    have := u32_and_nat r 15 hr (by omega)
    rw [nat_mask4] at this
    exact this
  refine (four_core r (r % 16) (Crc.tab.getD (r % 16) 0) w hi hr hb (hT _ hi)).mono ?_
  rintro e w' ⟨rfl, rfl⟩
  refine ⟨ret_int ?_, rfl⟩
  have h := u32_xor_nat (r / 16) (Crc.tab.getD (r % 16) 0) (by omega) (Crc.tab_lt _ hi)
  rw [show ((r : Int) / 16) = ((r / 16 : Nat) : Int) by omega, h]
  rfl

set_option maxHeartbeats 400000 in
theorem byte_core (r c x : Nat) (w : World) (hT : Hid (Tab w)) (hx : x < 4294967296) (hc : c < 256) (hb : bits .xor .u32 (r : Int) (c : Int) = (x : Int)) :
    Calls Tryd.prog 63 #[.int .u32 (r : Int), .int .u8 (c : Int)] w fun e w' => e = .returned (.int .u32 ((Crc.four (Crc.four x) : Nat) : Int)) ∧ w = w' := by
  go_enter Tryd.func63, Tryd.ntmps63
  go_wp2_with fail
  refine (four_any x _ hT.out hx).mono ?_
  rintro e w' ⟨rfl, rfl⟩
  go_wp2_with fail
  refine (four_any _ _ hT.out (Crc.four_lt x hx)).mono ?_
  rintro e w' ⟨rfl, rfl⟩
  go_wp2_with fail
  go_ret
  exact ⟨rfl, rfl⟩

theorem byte_any (r c : Nat) (w : World) (hT : Tab w) (hr : r < 4294967296) (hc : c < 256) :
    Calls Tryd.prog 63 #[.int .u32 (r : Int), .int .u8 (c : Int)] w fun e w' => e = .returned (.int .u32 ((Crc.byte r c : Nat) : Int)) ∧ w = w' :=
  byte_core r c (r ^^^ c) w (Lib.hid hT) (Crc.xor_lt32 hr (by omega)) hc (u32_xor_nat r c hr (by omega))

set_option maxHeartbeats 400000 in
theorem next_core (s m : Nat) (a : Option Addr) (len cap : Nat) (bs : List Nat) (w : World) (hT : Hid (Tab w)) (hR : Hid (Row w a len bs)) (hl : len ≤ maxLen) (hm : m < 4294967296)
    (hb : bits .xor .u32 (s : Int) 4294967295 = (m : Int)) :
    Calls Tryd.prog 59 #[.int .u32 (s : Int), .slice a len cap] w fun e w' => e = .returned (.int .u32 ((Crc.run m bs ^^^ 4294967295 : Nat) : Int)) ∧ w = w' := by
  unfold maxLen at hl
  go_enter Tryd.func59, Tryd.ntmps59
  go_wp2_with fail
  go_loop [5, 12] (fun r i => ∃ k x : Nat, k ≤ len ∧ i = .int .i64 k ∧ r = .int .u32 (x : Int) ∧ Hid (x = Crc.run m (bs.take k))) (fun _ i => len - (intOf i).toNat)
  case atStart => exact ⟨0, m, Nat.zero_le _, rfl, rfl, Lib.hid (by simp [Crc.run])⟩
  case round =>
    obtain ⟨k, x, hk, rfl, rfl, hx⟩ := hrel
    by_cases hlt : k < len
    · obtain ⟨b, off, ha, hcs⟩ := hR.out.cells.resolve_left (by omega)
      have hc := hcs k hlt
      have hsm : bs.getD k 0 < 256 := by
        have hk' : k < bs.length := by have := hR.out.size; omega
        rw [getD_at hk']
        exact hR.out.small _ (List.getElem_mem hk')
      have hxl : x < 4294967296 := by
        rw [hx.out]
        exact Crc.run_lt _ _ hm (fun c hc => hR.out.small c (List.mem_of_mem_take hc))
      have HN : Hid (Crc.byte x (bs.getD k 0) = Crc.run m (bs.take (k + 1))) := Lib.hid (by
        have hk' : k < bs.length := by have := hR.out.size; omega
        rw [hx.out, List.take_succ_eq_append_getElem hk', Crc.run_append, getD_at hk']
        rfl)
      subst ha
      generalize bs.getD k 0 = c at hc hsm HN
      clear hcs
      go_wp2_with fail
      refine (byte_any x c _ hT.out hxl hsm).mono ?_
      rintro e w' ⟨rfl, rfl⟩
      go_wp2_with fail
      go_round
      case rel => exact ⟨k + 1, _, by omega, by go_num, rfl, HN⟩
      case measure => simp [intOf]; omega
    · have HZ : Hid (x = Crc.run m bs) := Lib.hid (by
        rw [hx.out, List.take_of_length_le (by have := hR.out.size; omega)])
      have hxl : x < 4294967296 := by
        rw [HZ.out]
        exact Crc.run_lt _ _ hm hR.out.small
      have HX := Lib.hid (u32_xor_nat x 4294967295 hxl (by omega))
      go_wp2_with fail
      go_ret
      refine ⟨ret_int ?_, rfl⟩
      rw [← HZ.out]
      exact HX.out

theorem cnext_any (s : Nat) (a : Option Addr) (len cap : Nat) (bs : List Nat) (w : World) (hT : Tab w) (hR : Row w a len bs) (hl : len ≤ maxLen) (hs : s < 4294967296) :
    Calls Tryd.prog 59 #[.int .u32 (s : Int), .slice a len cap] w fun e w' => e = .returned (.int .u32 ((Crc.next s bs : Nat) : Int)) ∧ w = w' :=
  next_core s (s ^^^ 4294967295) a len cap bs w (Lib.hid hT) (Lib.hid hR) hl (Crc.xor_lt32 hs (by omega)) (u32_xor_nat s 4294967295 hs (by omega))

set_option maxHeartbeats 400000 in
theorem sum_any (a : Option Addr) (len cap : Nat) (bs : List Nat) (w : World) (hT : Tab w) (hR : Row w a len bs) (hl : len ≤ maxLen) :
    Calls Tryd.prog 53 #[.slice a len cap] w fun e w' => e = .returned (.int .u32 ((Crc.next 0 bs : Nat) : Int)) ∧ w = w' := by
  have hN := Lib.hid (cnext_any 0 a len cap bs w hT hR hl (by omega))
  clear hR hT
  go_enter Tryd.func53, Tryd.ntmps53
  go_wp2_with fail
  refine hN.out.mono ?_
  rintro e w' ⟨rfl, rfl⟩
  go_wp2_with fail
  go_ret
  exact ⟨rfl, rfl⟩

theorem Tab.below {w w' : World} (h : Tab w) (hb : Below w.heap.size w w') : Tab w' := fun i hi => by
  rw [hb.cell (p := ⟨0, i, none⟩) (block_lt_of_cell (h i hi))]; exact h i hi

def steps : Nat → Nat → Nat
  | 0, r => r
  | k + 1, r => Crc.bit (steps k r)

theorem steps_lt (k r : Nat) (h : r < 4294967296) : steps k r < 4294967296 := by
  induction k with
  | zero => exact h
  | succ k ih => exact Crc.bit_lt _ ih

theorem steps_eight (r : Nat) : steps 8 r = Crc.eight r := rfl

set_option maxHeartbeats 400000 in
theorem take_core (r c m : Nat) (w : World) (hm : m < 4294967296) (hc : c < 256) (hb : bits .xor .u32 (r : Int) (c : Int) = (m : Int)) :
    Calls Tryd.prog 64 #[.int .u32 (r : Int), .int .u8 (c : Int)] w fun e w' => e = .returned (.int .u32 ((steps 8 m : Nat) : Int)) ∧ w = w' := by
  go_enter Tryd.func64, Tryd.ntmps64
  go_wp2_with fail
  go_loop [0, 5] (fun r i => ∃ k x : Nat, k ≤ 8 ∧ i = .int .i64 k ∧ r = .int .u32 (x : Int) ∧ Hid (x = steps k m)) (fun _ i => 8 - (intOf i).toNat)
  case atStart => exact ⟨0, m, Nat.zero_le _, rfl, rfl, Lib.hid rfl⟩
  case round =>
    obtain ⟨k, x, hk, rfl, rfl, hx⟩ := hrel
    have hxl : x < 4294967296 := by rw [hx.out]; exact steps_lt _ _ hm
    by_cases hlt : k < 8
    · have HN : Hid (Crc.bit x = steps (k + 1) m) := Lib.hid (by rw [hx.out]; rfl)
      by_cases hp : x % 2 = 1
      · have hq : ((x : Int) % 2 == 1) = true := by simp; omega
        have HX := Lib.hid (u32_xor_nat (x / 2) 3988292384 (by omega) (by omega))
        have HV : Hid (Crc.bit x = x / 2 ^^^ 3988292384) := Lib.hid (by unfold Crc.bit; rw [if_pos hp])
        go_wp2_with fail
        go_round
        case rel => exact ⟨k + 1, Crc.bit x, by omega, by go_num, by rw [HV.out]; exact congrArg _ HX.out, HN⟩
        case measure => simp [intOf]; omega
      · have hq : ((x : Int) % 2 == 1) = false := by simp; omega
        have HV : Hid (Crc.bit x = x / 2) := Lib.hid (by unfold Crc.bit; rw [if_neg hp])
        go_wp2_with fail
        go_round
        case rel => exact ⟨k + 1, Crc.bit x, by omega, by go_num, by rw [HV.out]; rfl, HN⟩
        case measure => simp [intOf]; omega
    · have HZ : Hid (x = steps 8 m) := Lib.hid (by rw [hx.out, show k = 8 by omega])
      go_wp2_with fail
      go_ret
      exact ⟨ret_int (by rw [← HZ.out]), rfl⟩

theorem take_any (r c : Nat) (w : World) (hr : r < 4294967296) (hc : c < 256) :
    Calls Tryd.prog 64 #[.int .u32 (r : Int), .int .u8 (c : Int)] w fun e w' => e = .returned (.int .u32 ((Crc.byte r c : Nat) : Int)) ∧ w = w' := by
  rw [Crc.byte_eq, ← steps_eight]
  exact take_core r c (r ^^^ c) w (Crc.xor_lt32 hr (by omega)) hc (u32_xor_nat r c hr (by omega))

set_option maxHeartbeats 400000 in
theorem rnext_core (s m : Nat) (a : Option Addr) (len cap : Nat) (bs : List Nat) (w : World) (hR : Hid (Row w a len bs)) (hl : len ≤ maxLen) (hm : m < 4294967296)
    (hb : bits .xor .u32 (s : Int) 4294967295 = (m : Int)) :
    Calls Tryd.prog 61 #[.int .u32 (s : Int), .slice a len cap] w fun e w' => e = .returned (.int .u32 ((Crc.run m bs ^^^ 4294967295 : Nat) : Int)) ∧ w = w' := by
  unfold maxLen at hl
  go_enter Tryd.func61, Tryd.ntmps61
  go_wp2_with fail
  go_loop [5, 6] (fun r i => ∃ k x : Nat, k ≤ len ∧ i = .int .i64 k ∧ r = .int .u32 (x : Int) ∧ Hid (x = Crc.run m (bs.take k))) (fun _ i => len - (intOf i).toNat)
  case atStart => exact ⟨0, m, Nat.zero_le _, rfl, rfl, Lib.hid (by simp [Crc.run])⟩
  case round =>
    obtain ⟨k, x, hk, rfl, rfl, hx⟩ := hrel
    by_cases hlt : k < len
    · obtain ⟨b, off, ha, hcs⟩ := hR.out.cells.resolve_left (by omega)
      have hc := hcs k hlt
      have hsm : bs.getD k 0 < 256 := by
        have hk' : k < bs.length := by have := hR.out.size; omega
        rw [getD_at hk']
        exact hR.out.small _ (List.getElem_mem hk')
      have hxl : x < 4294967296 := by
        rw [hx.out]
        exact Crc.run_lt _ _ hm (fun c hc => hR.out.small c (List.mem_of_mem_take hc))
      have HN : Hid (Crc.byte x (bs.getD k 0) = Crc.run m (bs.take (k + 1))) := Lib.hid (by
        have hk' : k < bs.length := by have := hR.out.size; omega
        rw [hx.out, List.take_succ_eq_append_getElem hk', Crc.run_append, getD_at hk']
        rfl)
      subst ha
      generalize bs.getD k 0 = c at hc hsm HN
      clear hcs
      go_wp2_with fail
      refine (take_any x c _ hxl hsm).mono ?_
      rintro e w' ⟨rfl, rfl⟩
      go_wp2_with fail
      go_round
      case rel => exact ⟨k + 1, _, by omega, by go_num, rfl, HN⟩
      case measure => simp [intOf]; omega
    · have HZ : Hid (x = Crc.run m bs) := Lib.hid (by
        rw [hx.out, List.take_of_length_le (by have := hR.out.size; omega)])
      have hxl : x < 4294967296 := by
        rw [HZ.out]
        exact Crc.run_lt _ _ hm hR.out.small
      have HX := Lib.hid (u32_xor_nat x 4294967295 hxl (by omega))
      go_wp2_with fail
      go_ret
      refine ⟨ret_int ?_, rfl⟩
      rw [← HZ.out]
      exact HX.out

theorem rnext_any (s : Nat) (a : Option Addr) (len cap : Nat) (bs : List Nat) (w : World) (hR : Row w a len bs) (hl : len ≤ maxLen) (hs : s < 4294967296) :
    Calls Tryd.prog 61 #[.int .u32 (s : Int), .slice a len cap] w fun e w' => e = .returned (.int .u32 ((Crc.next s bs : Nat) : Int)) ∧ w = w' :=
  rnext_core s (s ^^^ 4294967295) a len cap bs w (Lib.hid hR) hl (Crc.xor_lt32 hs (by omega)) (u32_xor_nat s 4294967295 hs (by omega))

set_option maxHeartbeats 400000 in
theorem rsum_any (a : Option Addr) (len cap : Nat) (bs : List Nat) (w : World) (hR : Row w a len bs) (hl : len ≤ maxLen) :
    Calls Tryd.prog 56 #[.slice a len cap] w fun e w' => e = .returned (.int .u32 ((Crc.next 0 bs : Nat) : Int)) ∧ w = w' := by
  have hN := Lib.hid (rnext_any 0 a len cap bs w hR hl (by omega))
  clear hR
  go_enter Tryd.func56, Tryd.ntmps56
  go_wp2_with fail
  refine hN.out.mono ?_
  rintro e w' ⟨rfl, rfl⟩
  go_wp2_with fail
  go_ret
  exact ⟨rfl, rfl⟩

end Go.Proofs.YtcgbkfnjohbglaaDoor
