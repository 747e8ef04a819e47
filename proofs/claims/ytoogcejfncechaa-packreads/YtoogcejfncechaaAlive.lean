/- Strings of rows that may be empty or nil, and the walk of the law's own question whether the program is there (alive): it answers true, and turns nothing that was there. -/
import Derived.Test.YtoogcejfncechaaRd
import Derived.Lib.SlBytesConst
namespace Go.Proofs.Ytoogcejfncechaa
open Go.RowKit

theorem str_nil : strOf [] = ByteArray.empty := by decide

theorem conv_any {w : World} {a : Option Addr} {len cap : Nat} {l : List Nat} (h : Row w a len l) :
    (convert 26 9 (.slice a len cap)).run Try.prog w = .ok (.string (strOf l)) w := by
  by_cases h0 : len = 0
  · subst h0
    obtain rfl := List.eq_nil_of_length_eq_zero h.size
    rw [str_nil]
    cases a with
    | none => exact run_convert_bytes_nil w 26 5 Try.underlying26 Try.underlying5 0 cap 9 Try.underlying9
    | some ad => exact run_convert_bytes_back w 26 9 5 ad cap [] Try.underlying26 Try.underlying5 Try.underlying9 (fun j hj => by simp at hj)
  · obtain ⟨b, off, rfl, _⟩ := h.cells.resolve_left h0
    exact conv_row h

/-- A writer without an error, its slice not named. -/
def WrX (w : World) (p : Nat) (bs : List Nat) : Prop := ∃ a len cap, Wr w p 0 a len cap bs
/-- A reader without an error, its slice not named. -/
def RdX (w : World) (p : Nat) (bs : List Nat) : Prop := ∃ a len cap, Rd w p 0 a len cap bs

theorem WrX.below {w w' : World} {p : Nat} {bs : List Nat} (h : WrX w p bs) (hb : Below w.heap.size w w') : WrX w' p bs := by
  obtain ⟨a, len, cap, h⟩ := h
  exact ⟨a, len, cap, h.below hb⟩

theorem Wrote.ok {p : Nat} {a : Option Addr} {len cap : Nat} {bs l : List Nat} {w : World} {e : Ending} {w' : World} (h : Wrote p 0 a bs l w e w') (hw : Wr w p 0 a len cap bs) (hl : bs.length + l.length ≤ 65536) :
    e = .returned (.int .i64 0) ∧ WrX w' p (bs ++ l) ∧ Below p w w' := by
  obtain ⟨a', len', cap', he, hw', hk, _⟩ := h
  have e1 : layE 0 bs.length l.length = 0 := by unfold layE; rw [if_pos rfl, if_neg (by omega)]
  have e2 : layB 0 bs l = bs ++ l := by unfold layB; rw [if_pos ⟨rfl, hl⟩]
  rw [e1] at he hw'
  rw [e2] at hw'
  exact ⟨he, ⟨a', len', cap', hw'⟩, hk.below (Nat.le_of_lt hw.block.lt) (fun k hk => (hw.at_lt k hk).1)⟩

theorem al_num (p : Nat) (w : World) (h : WrX w p []) : Calls Try.prog 22 #[.pointer (some ⟨p, 0, none⟩), .int .u64 300] w fun e w' => e = .returned (.int .i64 0) ∧ WrX w' p [172, 2] ∧ Below p w w' := by
  obtain ⟨a, len, cap, h⟩ := h
  refine (wnum_any p 0 a len cap [] 300 w (by omega) h).mono ?_
  intro e w' hW
  rw [Vint.enc_300] at hW
  exact hW.ok h (by decide)

theorem al_int (p : Nat) (w : World) (h : WrX w p [172, 2]) : Calls Try.prog 23 #[.pointer (some ⟨p, 0, none⟩), .int .i64 (-1)] w fun e w' => e = .returned (.int .i64 0) ∧ WrX w' p [172, 2, 1] ∧ Below p w w' := by
  obtain ⟨a, len, cap, h⟩ := h
  refine (wint_any p 0 a len cap [172, 2] (-1) w (by omega) (by omega) h).mono ?_
  intro e w' hW
  rw [show (fold (-1)).toNat = 1 by decide, Vint.enc_small (by omega)] at hW
  exact hW.ok h (by decide)

theorem row_ab (w : World) : Row (w.alloc (.cells #[.int .u8 97, .int .u8 98] 5 (2, 3))) (some ⟨w.heap.size, 0, none⟩) 2 [97, 98] := by
  have hg : (w.alloc (.cells #[.int .u8 97, .int .u8 98] 5 (2, 3))).heap[w.heap.size]? = some (.cells #[.int .u8 97, .int .u8 98] 5 (2, 3)) := heap_alloc_new w _
  refine ⟨rfl, by decide, .inr ⟨w.heap.size, 0, rfl, fun i hi => ?_⟩⟩
  have : i = 0 ∨ i = 1 := by omega
  rcases this with rfl | rfl
  · exact cell_of_row _ _ 0 _ _ _ hg
  · exact cell_of_row _ _ 1 _ _ _ hg

theorem al_bytes (p H : Nat) (w : World) (hH : w.heap.size = H) (h : WrX w p [172, 2, 1]) : Calls Try.prog 24 #[.pointer (some ⟨p, 0, none⟩), .slice (some ⟨H, 0, none⟩) 2 2] (w.alloc (.cells #[.int .u8 97, .int .u8 98] 5 (2, 3))) fun e w' => e = .returned (.int .i64 0) ∧ WrX w' p [172, 2, 1, 2, 97, 98] ∧ Below p w w' := by
  subst hH
  obtain ⟨a, len, cap, h⟩ := h
  have hal : Below w.heap.size w (w.alloc (.cells #[.int .u8 97, .int .u8 98] 5 (2, 3))) := (Below.refl _ _).alloc (Nat.le_refl _) _
  refine (wbytes_any p 0 a len cap [172, 2, 1] (some ⟨w.heap.size, 0, none⟩) 2 2 [97, 98] _ (by omega) (h.below hal) (row_ab w) (fun h => by cases h) (fun ad e _ hk => by
      obtain rfl := Option.some.inj e
      exact absurd (h.at_lt _ hk).2 (by simp))).mono ?_
  intro e w' hW
  rw [Vint.enc_small (by omega)] at hW
  obtain ⟨h1, h2, h3⟩ := hW.ok (h.below hal) (by decide)
  exact ⟨h1, h2, (hal.mono (Nat.le_of_lt h.block.lt)).trans h3⟩

/-- What All leaves of a writer without an error. -/
def AllX (bs : List Nat) (w : World) (e : Ending) (w' : World) : Prop :=
  ∃ a cap, e = .returned (.tuple #[.slice a bs.length cap, .int .i64 0]) ∧ Own w' w.heap.size a bs.length cap bs ∧ Below w.heap.size w w'

theorem al_all (p : Nat) (bs : List Nat) (w : World) (h : WrX w p bs) : Calls Try.prog 12 #[.pointer (some ⟨p, 0, none⟩)] w (AllX bs w) := by
  obtain ⟨a, len, cap, h⟩ := h
  refine (all_any p 0 a len cap bs w h).mono ?_
  rintro e w' ⟨a', len', cap', he, ho, hb⟩
  rw [if_pos rfl] at ho
  have := ho.len
  subst this
  exact ⟨a', cap', he, ho, hb⟩

theorem al_rnum (p : Nat) (w : World) (h : RdX w p [172, 2, 1, 2, 97, 98]) : Calls Try.prog 14 #[.pointer (some ⟨p, 0, none⟩)] w fun e w' => e = .returned (.tuple #[.int .u64 300, .int .i64 0]) ∧ RdX w' p [1, 2, 97, 98] ∧ Below p w w' := by
  obtain ⟨a, len, cap, h⟩ := h
  refine (rnum_any p 0 a len cap _ w h).mono ?_
  rintro e w' ⟨a', len', cap', he, hr, hk⟩
  exact ⟨he, ⟨a', len', cap', hr⟩, hk.below (Nat.le_of_lt h.block.lt) (fun k (e : k = p) => by omega)⟩

theorem al_rint (p : Nat) (w : World) (h : RdX w p [1, 2, 97, 98]) : Calls Try.prog 16 #[.pointer (some ⟨p, 0, none⟩)] w fun e w' => e = .returned (.tuple #[.int .i64 (-1), .int .i64 0]) ∧ RdX w' p [2, 97, 98] ∧ Below p w w' := by
  obtain ⟨a, len, cap, h⟩ := h
  refine (rint_any p 0 a len cap _ w h).mono ?_
  rintro e w' ⟨a', len', cap', he, hr, hk⟩
  exact ⟨he, ⟨a', len', cap', hr⟩, hk.below (Nat.le_of_lt h.block.lt) (fun k (e : k = p) => by omega)⟩

theorem al_done (p : Nat) (w : World) (h : RdX w p [2, 97, 98]) : Calls Try.prog 20 #[.pointer (some ⟨p, 0, none⟩)] w fun e w' => e = .returned (.bool false) ∧ w = w' := by
  obtain ⟨a, len, cap, h⟩ := h
  exact done_any p 0 a len cap _ w h

theorem str_alive : strOf [172, 2, 1, 2, 97, 98] = ⟨#[172, 2, 1, 2, 97, 98]⟩ := by decide

set_option maxHeartbeats 1000000 in
theorem alive_any (w : World) : Calls Try.prog 8 #[] w fun e w' => e = .returned (.bool true) ∧ Below w.heap.size w w' := by
  go_enter Try.func8, Try.ntmps8
  go_wp2_with fail
  refine (new_any w).mono ?_
  rintro e w1 ⟨rfl, hw1, hb1⟩
  have HW := Lib.hid (show WrX w1 w.heap.size [] from ⟨_, _, _, hw1⟩)
  have HB := Lib.hid hb1
  clear hw1 hb1
  go_wp2_with fail
  refine (al_num _ _ HW.out).mono ?_
  rintro e w2 ⟨rfl, hw2, hb2⟩
  have HW2 := Lib.hid hw2
  have HB2 := Lib.hid (HB.out.trans hb2)
  clear hw2 hb2 HW HB
  go_wp2_with fail
  refine (al_int _ _ HW2.out).mono ?_
  rintro e w3 ⟨rfl, hw3, hb3⟩
  have HW3 := Lib.hid hw3
  have HB3 := Lib.hid (HB2.out.trans hb3)
  clear hw3 hb3 HW2 HB2
  have hcs : (convert 26 26 (.slice (some ⟨w3.heap.size, 0, none⟩) 2 2)).run Try.prog (w3.alloc (.cells #[.int .u8 97, .int .u8 98] 5)) = .ok (.slice (some ⟨w3.heap.size, 0, none⟩) 2 2) (w3.alloc (.cells #[.int .u8 97, .int .u8 98] 5 (2, 3))) := Lib.run_convert_bytes_const w3 26 5 _ 2 2 Try.underlying26 Try.underlying5
  go_wp2_with fail
  refine (al_bytes _ _ _ rfl HW3.out).mono ?_
  rintro e w4 ⟨rfl, hw4, hb4⟩
  have HW4 := Lib.hid hw4
  have HB4 := Lib.hid (HB3.out.trans hb4)
  clear hw4 hb4 HW3 HB3 hcs
  go_wp2_with fail
  refine (al_all _ _ _ HW4.out).mono ?_
  rintro e w5 ⟨a5, c5, rfl, ho5, hb5⟩
  have HO5 := Lib.hid ho5
  have HB5 := Lib.hid (HB4.out.trans (hb5.mono HB4.out.size))
  clear ho5 hb5 HW4 HB4
  go_wp2_with fail
  refine (read_any a5 6 c5 _ w5 (by omega) (HO5.out.row (by decide)) HO5.out.cap.2.2).mono ?_
  rintro e w6 ⟨p6, a6, c6, rfl, hp6, hr6, hb6, _⟩
  have HR6 := Lib.hid (show RdX w6 p6 _ from ⟨_, _, _, hr6⟩)
  have hcv : (convert 26 9 (.slice a5 6 c5)).run Try.prog w6 = .ok (.string ⟨#[172, 2, 1, 2, 97, 98]⟩) w6 := by
    rw [← str_alive]
    exact conv_any ((HO5.out.row (by decide)).below hb6)
  have HB6 := Lib.hid (HB5.out.trans (hb6.mono HB5.out.size))
  have hp6' : w.heap.size ≤ p6 := Nat.le_trans HB5.out.size hp6
  clear hr6 hb6 HO5 HB5
  go_wp2_with fail
  refine (al_rnum _ _ HR6.out).mono ?_
  rintro e w7 ⟨rfl, hr7, hb7⟩
  have HR7 := Lib.hid hr7
  have HB7 := Lib.hid (HB6.out.trans (hb7.mono hp6'))
  clear hr7 hb7 hcv HR6 HB6
  go_wp2_with fail
  refine (al_rint _ _ HR7.out).mono ?_
  rintro e w8 ⟨rfl, hr8, hb8⟩
  have HR8 := Lib.hid hr8
  have HB8 := Lib.hid (HB7.out.trans (hb8.mono hp6'))
  clear hr8 hb8 HR7 HB7
  go_wp2_with fail
  refine (al_done _ _ HR8.out).mono ?_
  rintro e w' ⟨rfl, rfl⟩
  go_wp2_with fail
  go_ret
  exact ⟨rfl, HB8.out⟩

end Go.Proofs.Ytoogcejfncechaa
