/- Walk of Carts of fold. -/
import Derived.Test.YtmibfbbkjejkmaaFa
namespace Go.Proofs.Ytmibfbbkjejkmaa
open Go.RowKit

def ones (l : List Nat) : List (List Value) := l.map fun x => [encK x]
theorem ones_flat (l : List Nat) : (ones l).flatten = encN l := by
  induction l with
  | nil => rfl
  | cons x l ih => simp [ones, encN] at ih ⊢; exact ih
theorem ownU_of {w : World} {B n cap : Nat} {a : Option Addr} {l : List Nat} (h : OwnG w 34 1 B a n cap (ones l)) : OwnU w B a n cap l := by
  unfold OwnU
  rw [← ones_flat]
  exact h.row
theorem ownG_of {w : World} {B n cap : Nat} {a : Option Addr} {l : List Nat} (h : OwnU w B a n cap l) : OwnG w 34 1 B a n cap (ones l) := by
  refine ⟨?_, fun v hv => ?_, by rw [← h.len]; simp [ones]⟩
  · rw [ones_flat]; exact h
  · obtain ⟨x, _, rfl⟩ := List.mem_map.1 hv
    rfl
theorem und28 : Try.prog.underlying 28 = some (.slice 34) := Try.underlying28

/-- Numbers in increasing order, in a slice of the call's own. -/
def NumsP (P : Nat → Prop) (w : World) (e : Ending) (w' : World) : Prop :=
  ∃ a cap l, e = .returned (.slice a l.length cap) ∧ l.Pairwise (· < ·) ∧ (∀ x, x ∈ l ↔ P x) ∧ OwnU w' w.heap.size a l.length cap l ∧ Below w.heap.size w w'

def CrtR (w : World) (l : List O) (n : Nat) (v u : Value) (W : World) : Prop :=
  ∃ (k g cap : Nat), v = .slice (some ⟨g, 0, none⟩) k cap ∧ u = .int .i64 (k : Int) ∧ k ≤ n ∧ Hid (OwnG W 34 1 w.heap.size (some ⟨g, 0, none⟩) k cap (ones ((l.take k).map O.c))) ∧ Hid (Below w.heap.size w W)

set_option maxRecDepth 100000 in
set_option maxHeartbeats 1000000 in
theorem carts_any {a : Option Addr} {n cap : Nat} {l : List O} {w : World} (hl : OL w a n l) (hn : n < 50) : Calls Try.prog 11 #[.slice a n cap] w (NumsP (fun x => ∃ o ∈ l, o.c = x) w) := by
  obtain ⟨i0, hi, hz0, hz1, hz2⟩ := info_parts info34
  obtain ⟨zo, ho⟩ : ∃ z, O.zero = z := ⟨_, rfl⟩
  have HO := Lib.hid ho
  have HL := Lib.hid hl
  have HLEN := Lib.hid hl.len'
  have HI := Lib.hid hi
  have HZ0 := Lib.hid hz0
  have HZ1 := Lib.hid hz1
  have HZ2 := Lib.hid hz2
  clear ho hl hi hz0 hz1 hz2
  go_enter Try.func11, Try.ntmps11
  go_wp2_with (at_make; refine wpList_make_own _ rfl _ _ 28 rfl w.heap.size 34 i0 _ 1 und28 HI.out HZ0.out HZ1.out _ _ _ n rfl rfl rfl (by rw [HZ2.out]; omega) (by unfold maxLen; omega) (Nat.le_refl _) ?_; intro w1 hrow1 hg1)
  have HB1 : Hid (Below w.heap.size w w1) := Lib.hid ((Below.refl _ _).grown hg1 (Nat.le_refl _) (fun j hj => by cases hj))
  have HW1 : Hid (OwnG w1 34 1 w.heap.size (some ⟨w.heap.size, 0, none⟩) 0 n []) := Lib.hid ⟨hrow1, by simp, rfl⟩
  clear hrow1 hg1
  go_loopw [3, 11] (CrtR w l n) (fun _ u _ => n - (numI u).toNat)
  case atStart => exact ⟨0, w.heap.size, n, rfl, rfl, Nat.zero_le _, HW1, HB1⟩
  case round =>
    obtain ⟨k, g, cap', rfl, rfl, hk, HW, HB⟩ := hrel
    by_cases hlt : k < n
    · obtain ⟨b, off, x, rfl, hx, hr⟩ := OL.at (HL.out.below HB.out) hlt
      have HX := Lib.hid hx
      have HR := Lib.hid hr
      clear hx hr
      go_wp2_with (first | (refine wpList_run rfl (exec_idxO (i := k) rfl rfl rfl rfl hlt) ?_) | (refine wpList_run rfl (exec_ldO rfl rfl HR.out) ?_) | (refine wpList_run rfl (exec_alloc40z HO.out rfl) ?_) | (refine wpList_stop40 rfl ?_))
      refine ⟨?_⟩
      refine wpList_void rfl rfl (exec_store40 (p := zo) (u := x) rfl rfl rfl (Blk.new wr 40 zo.arr)) ?_
      have H1 : Hid (Ow wr ((wr.alloc (.cells zo.arr 40)).setRow wr.heap.size x.arr) x) := Lib.hid ⟨olaid_blk wr zo x, olaid_old wr zo x⟩
      generalize (wr.alloc (.cells zo.arr 40)).setRow wr.heap.size x.arr = w2 at H1
      have c3 := oc3 H1.out.one
      go_wp2_with (at_builtin; refine wpList_appendG 28 34 1 2 info34 und28 rfl (by decide) (by decide) rfl rfl rfl rfl (HW.out.below (H1.out.old.trans ((below_one w2 _).mono H1.out.old.size))) (Blk.new w2 34 #[encK x.c]) rfl (by simp [Value.oneCell']) (by omega) (by have := HB.out.size; have := H1.out.old.size; simp; omega) ?_; intro a3 cap3 w3 ho3 hk3 hl3)
      obtain ⟨g3, rfl⟩ : ∃ g3, a3 = some ⟨g3, 0, none⟩ := by
        rcases ho3.row.2 with ⟨h0, h1⟩ | ⟨g', c', cur, hv', _⟩
        · omega
        · cases hv'; exact ⟨g', rfl⟩
      have HW3 : Hid (OwnG w3 34 1 w.heap.size (some ⟨g3, 0, none⟩) (k + 1) cap3 (ones ((l.take (k + 1)).map O.c))) := Lib.hid (by
        rw [List.take_add_one, HX.out]
        simpa [ones] using ho3)
      have HB3 : Hid (Below w.heap.size w w3) := Lib.hid ((HB.out.trans ((H1.out.old.trans ((below_one w2 (.cells #[encK x.c] 34)).mono H1.out.old.size)).mono HB.out.size)).trans (hk3.below (by have := HB.out.size; have := H1.out.old.size; simp; omega) (fun j ⟨ad, had, e⟩ => by rw [e]; exact (HW.out.lt ad had).1)))
      clear ho3 hk3 hl3
      go_roundw
      case rel => exact ⟨k + 1, g3, cap3, rfl, by go_num, hlt, HW3, HB3⟩
      case measure => simp [numI]; omega
    · obtain rfl : k = n := by omega
      have hown : OwnU wr w.heap.size (some ⟨g, 0, none⟩) k cap' (l.map O.c) := ownU_of (by
        have := HW.out
        rw [List.take_of_length_le (by rw [HLEN.out]; omega)] at this
        exact this)
      have HS := Lib.hid (sortU_any hown hn)
      have HG : Hid (w.heap.size ≤ g) := Lib.hid (hown.lt _ rfl).1
      clear hown
      go_wp2_with fail
      refine HS.out.mono ?_
      rintro e w4 ⟨rfl, l4, hp4, hs4, ho4, hk4⟩
      have HC := Lib.hid (compU_any ho4 hs4 (by omega))
      have HB4 : Hid (Below w.heap.size w w4) := Lib.hid (HB.out.trans (hk4.below HB.out.size (fun j e => by rw [e]; exact HG.out)))
      have HP4 := Lib.hid hp4
      clear hp4 hs4 ho4 hk4
      go_wp2_with fail
      refine HC.out.mono ?_
      rintro e w5 ⟨l5, rfl, hs5, hm5, ho5, hk5⟩
      have HE : Hid (NumsP (fun x => ∃ o ∈ l, o.c = x) w (.returned (.slice (some ⟨g, 0, none⟩) l5.length cap')) w5) := Lib.hid ⟨_, cap', l5, rfl, hs5, fun x => by rw [hm5, HP4.out.mem_iff, List.mem_map], ho5, HB4.out.trans (hk5.below HB4.out.size (fun j e => by rw [e]; exact HG.out))⟩
      clear hs5 hm5 ho5 hk5
      generalize l5.length = n5 at HE
      go_wp2_with fail
      go_ret
      exact HE.out

end Go.Proofs.Ytmibfbbkjejkmaa
