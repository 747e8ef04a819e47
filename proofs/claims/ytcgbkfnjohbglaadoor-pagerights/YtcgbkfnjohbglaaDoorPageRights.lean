/- PageRights is proved: which pages may be, which of two keys comes first, and where any key stands in a page, is told as the document says; the table of four bits is tied to the program's text. No other condition. -/
import Derived.Test.YtcgbkfnjohbglaaDoorPo
import Derived.Test.YtcgbkfnjohbglaaDoorPq
import Derived.Test.YtcgbkfnjohbglaaDoorPr
import Derived.Test.YtcgbkfnjohbglaaDoorPs
import Derived.Test.YtcgbkfnjohbglaaDoorPt
namespace Go.Proofs.YtcgbkfnjohbglaaDoor
namespace PageRights
open Go.ChangeShapes Go.WideShapes Go.ChangeAt Go.RowKit

/-- A page and two keys in boxes of their own. -/
structure R3 (w W : World) (p q r : Nat) (P : Pg) (a1 : Option Addr) (n1 c1 : Nat) (a2 : Option Addr) (n2 c2 : Nat) (a3 : Option Addr) (n3 c3 : Nat) (a b : Ky) : Prop where
  box : Blk W p 26 (pgA P.leaf a1 n1 c1 a2 n2 c2 a3 n3 c3)
  one : Blk W q 32 a.arr
  two : Blk W r 32 b.arr
  pv : PV W P a1 n1 a2 n2 a3 n3
  old : Below w.heap.size w W
theorem R3.below {w W W' : World} {p q r : Nat} {P : Pg} {a1 : Option Addr} {n1 c1 : Nat} {a2 : Option Addr} {n2 c2 : Nat} {a3 : Option Addr} {n3 c3 : Nat} {a b : Ky} (h : R3 w W p q r P a1 n1 c1 a2 n2 c2 a3 n3 c3 a b) (hb : Below W.heap.size W W') : R3 w W' p q r P a1 n1 c1 a2 n2 c2 a3 n3 c3 a b := ⟨h.box.below hb, h.one.below hb, h.two.below hb, h.pv.below hb, h.old.trans (hb.mono h.old.size)⟩
/-- What the copy leaves while they stand. -/
def ThP (w : World) (p q r : Nat) (P : Pg) (a1 : Option Addr) (n1 c1 : Nat) (a2 : Option Addr) (n2 c2 : Nat) (a3 : Option Addr) (n3 c3 : Nat) (a b : Ky) (e : Ending) (w' : World) : Prop :=
  ∃ b1 d1 b2 d2, e = .returned (.agg (pgA P.leaf b1 n1 d1 b2 n2 d2 a3 n3 c3)) ∧ PV w' P b1 n1 b2 n2 a3 n3 ∧ R3 w w' p q r P a1 n1 c1 a2 n2 c2 a3 n3 c3 a b
theorem R3.theirs {w W : World} {p q r : Nat} {P : Pg} {a1 : Option Addr} {n1 c1 : Nat} {a2 : Option Addr} {n2 c2 : Nat} {a3 : Option Addr} {n3 c3 : Nat} {a b : Ky} (h : R3 w W p q r P a1 n1 c1 a2 n2 c2 a3 n3 c3 a b) (h1 : n1 ≤ 1000000) (h2 : n2 ≤ 1000000) :
    Calls Tryd.prog 12 #[.agg (pgA P.leaf a1 n1 c1 a2 n2 c2 a3 n3 c3)] W (ThP w p q r P a1 n1 c1 a2 n2 c2 a3 n3 c3 a b) :=
  (theirs_any c1 c2 c3 h.pv h1 h2).mono fun _ _ hc => by
    obtain ⟨b1, d1, b2, d2, he, hpv, hb⟩ := hc.pv h.pv
    exact ⟨b1, d1, b2, d2, he, hpv, h.below hb⟩

set_option maxHeartbeats 8000000 in
set_option maxRecDepth 100000 in
theorem walk (P : Pg) (a1 : Option Addr) (n1 c1 : Nat) (a2 : Option Addr) (n2 c2 : Nat) (a3 : Option Addr) (n3 c3 : Nat) (k1 k2 : Ky) (W : World) (hT : Tab W) (_m1 : n1 ≤ maxLen) (_m2 : n2 ≤ maxLen) (_m3 : n3 ≤ maxLen) (hP : PV W P a1 n1 a2 n2 a3 n3) :
    Calls Tryd.prog 3 #[.agg (pgA P.leaf a1 n1 c1 a2 n2 c2 a3 n3 c3), .agg k1.arr, .agg k2.arr] W (Says (.bool true) W) := by
  have HT := Lib.hid hT
  have hb := fun (k : Ky) (w : World) => box32 k w
  have H0 : Hid (R3 W (((W.alloc (.cells (pgA P.leaf a1 n1 c1 a2 n2 c2 a3 n3 c3) 26)).alloc (.cells k1.arr 32)).alloc (.cells k2.arr 32)) W.heap.size (W.heap.size + 1) (W.heap.size + 1 + 1) P a1 n1 c1 a2 n2 c2 a3 n3 c3 k1 k2) := Lib.hid (by
    have h1 := Blk.new W 26 (pgA P.leaf a1 n1 c1 a2 n2 c2 a3 n3 c3)
    have h2 := Blk.new (W.alloc (.cells (pgA P.leaf a1 n1 c1 a2 n2 c2 a3 n3 c3) 26)) 32 k1.arr
    have h3 := Blk.new ((W.alloc (.cells (pgA P.leaf a1 n1 c1 a2 n2 c2 a3 n3 c3) 26)).alloc (.cells k1.arr 32)) 32 k2.arr
    simp only [World.size_alloc] at h2 h3
    have b1 := below_one W (.cells (pgA P.leaf a1 n1 c1 a2 n2 c2 a3 n3 c3) 26)
    have b2 := below_one (W.alloc (.cells (pgA P.leaf a1 n1 c1 a2 n2 c2 a3 n3 c3) 26)) (.cells k1.arr 32)
    have b3 := below_one ((W.alloc (.cells (pgA P.leaf a1 n1 c1 a2 n2 c2 a3 n3 c3) 26)).alloc (.cells k1.arr 32)) (.cells k2.arr 32)
    exact ⟨(h1.below b2).below b3, h2.below b3, h3, ((hP.below b1).below b2).below b3, (b1.trans (b2.mono b1.size)).trans (b3.mono (Nat.le_trans b1.size b2.size))⟩)
  clear hT hP _m1 _m2 _m3
  show Calls Tryd.prog 3 #[.agg #[.bool P.leaf, .slice a1 n1 c1, .slice a2 n2 c2, .slice a3 n3 c3], .agg k1.arr, .agg k2.arr] W (Says (.bool true) W)
  go_enter Tryd.func3, Tryd.ntmps3
  go_upto_region 1 with fail
  clear hb
  try simp only [World.size_alloc, Act.put, List.setIfInBounds_toArray, List.set_cons_zero, List.set_cons_succ]
  generalize ((W.alloc (.cells #[.bool P.leaf, .slice a1 n1 c1, .slice a2 n2 c2, .slice a3 n3 c3] 26)).alloc (.cells k1.arr 32)).alloc (.cells k2.arr 32) = w0 at H0 ⊢
  generalize W.heap.size + 1 + 1 = r at H0 ⊢
  generalize W.heap.size + 1 = q at H0 ⊢
  obtain ⟨p, hp1⟩ : ∃ p, W.heap.size = p := ⟨_, rfl⟩
  rw [hp1] at H0
  rw [hp1]
  clear hp1
  go_wp2_with fail
  refine (alive_any _ (HT.out.below H0.out.old)).mono ?_
  rintro e w1 ⟨rfl, hb⟩
  have H1 := Lib.hid (H0.out.below hb)
  clear hb H0
  go_wp2_with (refine wpList_run rfl (exec_load26 rfl rfl H1.out.box) ?_)
  have HF := Lib.hid (few_any P.leaf a1 n1 c1 a2 n2 c2 a3 n3 c3 w1)
  by_cases hf : n1 ≤ 300 ∧ n2 ≤ 300 ∧ n3 ≤ 300
  case neg =>
    rw [show (decide (n1 ≤ 300) && decide (n2 ≤ 300) && decide (n3 ≤ 300)) = false by simp; omega] at HF
    clear hf
    refine HF.out.mono ?_
    rintro e w2 ⟨rfl, hb⟩
    have H2 := Lib.hid (H1.out.below hb)
    clear hb H1
    go_wp2_with fail
    go_ret
    exact ⟨rfl, H2.out.old⟩
  obtain ⟨f1, f2, f3⟩ := hf
  rw [show (decide (n1 ≤ 300) && decide (n2 ≤ 300) && decide (n3 ≤ 300)) = true by simp; omega] at HF
  refine HF.out.mono ?_
  rintro e w2 ⟨rfl, hb⟩
  have H2 := Lib.hid (H1.out.below hb)
  clear hb H1 HF
  go_upto_region 5 with fail
  obtain ⟨nf, hnf⟩ : ∃ n, P.findN k1 = n := ⟨_, rfl⟩
  obtain ⟨bf, hbf⟩ : ∃ b, P.findB k1 = b := ⟨_, rfl⟩
  have HNF := Lib.hid hnf
  have HBF := Lib.hid hbf
  clear hnf hbf
  have HFI : Hid (∀ (V : World) b1 d1 b2 d2, PV V P b1 n1 b2 n2 a3 n3 → Calls Tryd.prog 11 #[.agg (pgA P.leaf b1 n1 d1 b2 n2 d2 a3 n3 c3), .agg k1.arr] V (Says (.tuple #[.int .i64 (nf : Int), .bool bf]) V)) := Lib.hid (fun V b1 d1 b2 d2 h => by have := find_any d1 d2 c3 k1 h (by omega); rw [HNF.out, HBF.out] at this; exact this)
  have HRF : Hid (∀ (V : World), PV V P a1 n1 a2 n2 a3 n3 → Calls Tryd.prog 13 #[.agg (pgA P.leaf a1 n1 c1 a2 n2 c2 a3 n3 c3), .agg k1.arr] V (Says (.tuple #[.int .i64 (nf : Int), .bool bf]) V)) := Lib.hid (fun V h => by have := rfind_any c1 c2 c3 k1 h (by omega); rw [HNF.out, HBF.out] at this; exact this)
  have HRT : Hid (∀ (V : World) b1 d1 b2 d2, PV V P b1 n1 b2 n2 a3 n3 → Calls Tryd.prog 14 #[.agg (pgA P.leaf b1 n1 d1 b2 n2 d2 a3 n3 c3)] V (Says (.bool P.right) V)) := Lib.hid (fun V b1 d1 b2 d2 h => right_any d1 d2 c3 h (by omega))
  have HRR : Hid (∀ (V : World), PV V P a1 n1 a2 n2 a3 n3 → Calls Tryd.prog 15 #[.agg (pgA P.leaf a1 n1 c1 a2 n2 c2 a3 n3 c3)] V (Says (.bool P.right) V)) := Lib.hid (fun V h => rright_any c1 c2 c3 h (by omega))
  have HLK := Lib.hid (fun V : World => less_any k1 k2 V)
  have HLR := Lib.hid (fun V : World => rless_any k1 k2 V)
  generalize lessK k1 k2 = lk at HLK HLR
  generalize P.right = rt at HRT HRR
  refine wp_region_held_drew (S := fun w' => R3 W w' p q r P a1 n1 c1 a2 n2 c2 a3 n3 c3 k1 k2) (by kernel_rfl) (H2.out.below (drew_below _)) (fun hS => ?_)
  refine held_take 0 17 (.agg (pgA P.leaf a1 n1 c1 a2 n2 c2 a3 n3 c3)) rfl rfl (by kernel_rfl) (by kernel_rfl) (by kernel_rfl) (fun _ _ _ h => h) (by kernel_rfl) (fun _ h => exec_load26 rfl rfl h.box) hS ?_
  simp only [Act.put, List.setIfInBounds_toArray, List.set_cons_zero, List.set_cons_succ]
  refine held_take 2 19 (.agg k1.arr) rfl rfl (by kernel_rfl) (by kernel_rfl) (by kernel_rfl) (fun _ _ _ h => h) (by kernel_rfl) (fun _ h => exec_load32 rfl rfl h.one) hS ?_
  simp only [Act.put, List.setIfInBounds_toArray, List.set_cons_zero, List.set_cons_succ]
  refine held_callP 1 18 12 #[(.agg (pgA P.leaf a1 n1 c1 a2 n2 c2 a3 n3 c3))] rfl (by kernel_rfl) rfl (by kernel_rfl) (by kernel_rfl) (hS.theirs (by omega) (by omega)) (fun e w101 hP => ?_)
  obtain ⟨b1x, d1x, b2x, d2x, rfl, hpvx, hSn⟩ := hP
  refine ⟨_, rfl, hSn, fun hS => ?_⟩
  simp only [Act.put, List.setIfInBounds_toArray, List.set_cons_zero, List.set_cons_succ]
  refine held_call 3 20 11 #[(.agg (pgA P.leaf b1x n1 d1x b2x n2 d2x a3 n3 c3)), (.agg k1.arr)] (.tuple #[.int .i64 (nf : Int), .bool bf]) rfl (by kernel_rfl) rfl (by kernel_rfl) (by kernel_rfl) (HFI.out _ _ _ _ _ hpvx) (fun _ h hb => h.below hb) hS (fun w103 hS => ?_)
  simp only [Act.put, List.setIfInBounds_toArray, List.set_cons_zero, List.set_cons_succ]
  refine held_take 4 16 (.tuple #[.int .i64 (nf : Int), .bool bf]) rfl rfl (by kernel_rfl) (by kernel_rfl) (by kernel_rfl) (fun _ _ _ h => h) (by kernel_rfl) (fun _ _ => rfl) hS ?_
  simp only [Act.put, List.setIfInBounds_toArray, List.set_cons_zero, List.set_cons_succ]
  refine held_take 5 21 (.int .i64 (nf : Int)) rfl rfl (by kernel_rfl) (by kernel_rfl) (by kernel_rfl) (fun _ _ _ h => h) (by kernel_rfl) (fun _ _ => rfl) hS ?_
  simp only [Act.put, List.setIfInBounds_toArray, List.set_cons_zero, List.set_cons_succ]
  refine held_take 6 22 (.bool bf) rfl rfl (by kernel_rfl) (by kernel_rfl) (by kernel_rfl) (fun _ _ _ h => h) (by kernel_rfl) (fun _ _ => rfl) hS ?_
  simp only [Act.put, List.setIfInBounds_toArray, List.set_cons_zero, List.set_cons_succ]
  refine held_take 7 7 (.int .i64 (nf : Int)) rfl rfl (by kernel_rfl) (by kernel_rfl) (by kernel_rfl) (fun _ _ _ h => h) (by kernel_rfl) (fun _ _ => rfl) hS ?_
  simp only [Act.put, List.setIfInBounds_toArray, List.set_cons_zero, List.set_cons_succ]
  refine held_take 8 8 (.bool bf) rfl rfl (by kernel_rfl) (by kernel_rfl) (by kernel_rfl) (fun _ _ _ h => h) (by kernel_rfl) (fun _ _ => rfl) hS ?_
  simp only [Act.put, List.setIfInBounds_toArray, List.set_cons_zero, List.set_cons_succ]
  refine wpAnyH_done (by kernel_rfl) ?_ _
  have H3 := Lib.hid hS
  clear hS H2
  go_upto_region 6 with fail
  go_upto_region 7 with (first | (refine wpList_run rfl (exec_load26 rfl rfl H3.out.box) ?_) | (refine wpList_run rfl (exec_load32 rfl rfl H3.out.one) ?_) | (go_at_call 13; refine (HRF.out _ H3.out.pv).mono ?_; rintro e w4 ⟨rfl, hb⟩; have H4 := Lib.hid (H3.out.below hb); clear hb))
  refine wp_region_held_drew (S := fun w' => R3 W w' p q r P a1 n1 c1 a2 n2 c2 a3 n3 c3 k1 k2) (by kernel_rfl) (H4.out.below (drew_below _)) (fun hS => ?_)
  refine held_take 0 29 (.agg (pgA P.leaf a1 n1 c1 a2 n2 c2 a3 n3 c3)) rfl rfl (by kernel_rfl) (by kernel_rfl) (by kernel_rfl) (fun _ _ _ h => h) (by kernel_rfl) (fun _ h => exec_load26 rfl rfl h.box) hS ?_
  simp only [Act.put, List.setIfInBounds_toArray, List.set_cons_zero, List.set_cons_succ]
  refine held_take 3 32 (.agg (pgA P.leaf a1 n1 c1 a2 n2 c2 a3 n3 c3)) rfl rfl (by kernel_rfl) (by kernel_rfl) (by kernel_rfl) (fun _ _ _ h => h) (by kernel_rfl) (fun _ h => exec_load26 rfl rfl h.box) hS ?_
  simp only [Act.put, List.setIfInBounds_toArray, List.set_cons_zero, List.set_cons_succ]
  refine held_callP 1 30 12 #[(.agg (pgA P.leaf a1 n1 c1 a2 n2 c2 a3 n3 c3))] rfl (by kernel_rfl) rfl (by kernel_rfl) (by kernel_rfl) (hS.theirs (by omega) (by omega)) (fun e w101 hP => ?_)
  obtain ⟨b1y, d1y, b2y, d2y, rfl, hpvy, hSn⟩ := hP
  refine ⟨_, rfl, hSn, fun hS => ?_⟩
  simp only [Act.put, List.setIfInBounds_toArray, List.set_cons_zero, List.set_cons_succ]
  refine held_call 2 31 14 #[(.agg (pgA P.leaf b1y n1 d1y b2y n2 d2y a3 n3 c3))] (.bool rt) rfl (by kernel_rfl) rfl (by kernel_rfl) (by kernel_rfl) (HRT.out _ _ _ _ _ hpvy) (fun _ h hb => h.below hb) hS (fun w102 hS => ?_)
  simp only [Act.put, List.setIfInBounds_toArray, List.set_cons_zero, List.set_cons_succ]
  refine held_call 4 33 15 #[(.agg (pgA P.leaf a1 n1 c1 a2 n2 c2 a3 n3 c3))] (.bool rt) rfl (by kernel_rfl) rfl (by kernel_rfl) (by kernel_rfl) (HRR.out _ hS.pv) (fun _ h hb => h.below hb) hS (fun w104 hS => ?_)
  simp only [Act.put, List.setIfInBounds_toArray, List.set_cons_zero, List.set_cons_succ]
  refine held_take 5 34 (.bool true) rfl rfl (by kernel_rfl) (by kernel_rfl) (by kernel_rfl) (fun _ _ _ h => h) (by kernel_rfl) (fun _ _ => exec_eqlB (by kernel_rfl) rfl rfl rfl (by simp)) hS ?_
  simp only [Act.put, List.setIfInBounds_toArray, List.set_cons_zero, List.set_cons_succ]
  refine held_take 6 35 (.bool true) rfl rfl (by kernel_rfl) (by kernel_rfl) (by kernel_rfl) (fun _ _ _ h => h) (by kernel_rfl) (fun _ _ => rfl) hS ?_
  simp only [Act.put, List.setIfInBounds_toArray, List.set_cons_zero, List.set_cons_succ]
  refine held_take 7 36 (.agg k1.arr) rfl rfl (by kernel_rfl) (by kernel_rfl) (by kernel_rfl) (fun _ _ _ h => h) (by kernel_rfl) (fun _ h => exec_load32 rfl rfl h.one) hS ?_
  simp only [Act.put, List.setIfInBounds_toArray, List.set_cons_zero, List.set_cons_succ]
  refine held_take 8 37 (.agg k2.arr) rfl rfl (by kernel_rfl) (by kernel_rfl) (by kernel_rfl) (fun _ _ _ h => h) (by kernel_rfl) (fun _ h => exec_load32 rfl rfl h.two) hS ?_
  simp only [Act.put, List.setIfInBounds_toArray, List.set_cons_zero, List.set_cons_succ]
  refine held_take 10 39 (.agg k1.arr) rfl rfl (by kernel_rfl) (by kernel_rfl) (by kernel_rfl) (fun _ _ _ h => h) (by kernel_rfl) (fun _ h => exec_load32 rfl rfl h.one) hS ?_
  simp only [Act.put, List.setIfInBounds_toArray, List.set_cons_zero, List.set_cons_succ]
  refine held_take 11 40 (.agg k2.arr) rfl rfl (by kernel_rfl) (by kernel_rfl) (by kernel_rfl) (fun _ _ _ h => h) (by kernel_rfl) (fun _ h => exec_load32 rfl rfl h.two) hS ?_
  simp only [Act.put, List.setIfInBounds_toArray, List.set_cons_zero, List.set_cons_succ]
  refine held_call 9 38 16 #[(.agg k1.arr), (.agg k2.arr)] (.bool lk) rfl (by kernel_rfl) rfl (by kernel_rfl) (by kernel_rfl) (HLK.out _) (fun _ h hb => h.below hb) hS (fun w109 hS => ?_)
  simp only [Act.put, List.setIfInBounds_toArray, List.set_cons_zero, List.set_cons_succ]
  refine held_call 12 41 17 #[(.agg k1.arr), (.agg k2.arr)] (.bool lk) rfl (by kernel_rfl) rfl (by kernel_rfl) (by kernel_rfl) (HLR.out _) (fun _ h hb => h.below hb) hS (fun w112 hS => ?_)
  simp only [Act.put, List.setIfInBounds_toArray, List.set_cons_zero, List.set_cons_succ]
  refine held_take 13 42 (.bool true) rfl rfl (by kernel_rfl) (by kernel_rfl) (by kernel_rfl) (fun _ _ _ h => h) (by kernel_rfl) (fun _ _ => exec_eqlB (by kernel_rfl) rfl rfl rfl (by simp)) hS ?_
  simp only [Act.put, List.setIfInBounds_toArray, List.set_cons_zero, List.set_cons_succ]
  refine held_take 14 43 (.bool true) rfl rfl (by kernel_rfl) (by kernel_rfl) (by kernel_rfl) (fun _ _ _ h => h) (by kernel_rfl) (fun _ _ => rfl) hS ?_
  simp only [Act.put, List.setIfInBounds_toArray, List.set_cons_zero, List.set_cons_succ]
  refine held_take 15 44 (.bool true) rfl rfl (by kernel_rfl) (by kernel_rfl) (by kernel_rfl) (fun _ _ _ h => h) (by kernel_rfl) (fun _ _ => rfl) hS ?_
  simp only [Act.put, List.setIfInBounds_toArray, List.set_cons_zero, List.set_cons_succ]
  refine held_take 16 45 (.int .i64 (nf : Int)) rfl rfl (by kernel_rfl) (by kernel_rfl) (by kernel_rfl) (fun _ _ _ h => h) (by kernel_rfl) (fun _ _ => rfl) hS ?_
  simp only [Act.put, List.setIfInBounds_toArray, List.set_cons_zero, List.set_cons_succ]
  refine held_take 17 46 (.int .i64 (nf : Int)) rfl rfl (by kernel_rfl) (by kernel_rfl) (by kernel_rfl) (fun _ _ _ h => h) (by kernel_rfl) (fun _ _ => rfl) hS ?_
  simp only [Act.put, List.setIfInBounds_toArray, List.set_cons_zero, List.set_cons_succ]
  refine held_take 18 47 (.bool true) rfl rfl (by kernel_rfl) (by kernel_rfl) (by kernel_rfl) (fun _ _ _ h => h) (by kernel_rfl) (fun _ _ => exec_eqlI trivial rfl rfl rfl (by simp)) hS ?_
  simp only [Act.put, List.setIfInBounds_toArray, List.set_cons_zero, List.set_cons_succ]
  refine held_take 19 48 (.bool true) rfl rfl (by kernel_rfl) (by kernel_rfl) (by kernel_rfl) (fun _ _ _ h => h) (by kernel_rfl) (fun _ _ => rfl) hS ?_
  simp only [Act.put, List.setIfInBounds_toArray, List.set_cons_zero, List.set_cons_succ]
  refine held_take 20 49 (.bool true) rfl rfl (by kernel_rfl) (by kernel_rfl) (by kernel_rfl) (fun _ _ _ h => h) (by kernel_rfl) (fun _ _ => rfl) hS ?_
  simp only [Act.put, List.setIfInBounds_toArray, List.set_cons_zero, List.set_cons_succ]
  refine held_take 21 50 (.bool bf) rfl rfl (by kernel_rfl) (by kernel_rfl) (by kernel_rfl) (fun _ _ _ h => h) (by kernel_rfl) (fun _ _ => rfl) hS ?_
  simp only [Act.put, List.setIfInBounds_toArray, List.set_cons_zero, List.set_cons_succ]
  refine held_take 22 51 (.bool bf) rfl rfl (by kernel_rfl) (by kernel_rfl) (by kernel_rfl) (fun _ _ _ h => h) (by kernel_rfl) (fun _ _ => rfl) hS ?_
  simp only [Act.put, List.setIfInBounds_toArray, List.set_cons_zero, List.set_cons_succ]
  refine held_take 23 52 (.bool true) rfl rfl (by kernel_rfl) (by kernel_rfl) (by kernel_rfl) (fun _ _ _ h => h) (by kernel_rfl) (fun _ _ => exec_eqlB (by kernel_rfl) rfl rfl rfl (by simp)) hS ?_
  simp only [Act.put, List.setIfInBounds_toArray, List.set_cons_zero, List.set_cons_succ]
  refine held_take 24 53 (.bool true) rfl rfl (by kernel_rfl) (by kernel_rfl) (by kernel_rfl) (fun _ _ _ h => h) (by kernel_rfl) (fun _ _ => rfl) hS ?_
  simp only [Act.put, List.setIfInBounds_toArray, List.set_cons_zero, List.set_cons_succ]
  refine held_take 25 6 (.bool true) rfl rfl (by kernel_rfl) (by kernel_rfl) (by kernel_rfl) (fun _ _ _ h => h) (by kernel_rfl) (fun _ _ => rfl) hS ?_
  simp only [Act.put, List.setIfInBounds_toArray, List.set_cons_zero, List.set_cons_succ]
  refine wpAnyH_done (by kernel_rfl) ?_ _
  have H5 := Lib.hid hS
  clear hS
  go_wp2_with fail
  go_ret
  exact ⟨rfl, H5.out.old⟩

set_option maxRecDepth 100000 in
theorem lifted (os : Os) (started : os.Started) (H : Type) (enc : TypeId × Value → H) :
    ReturnsInHanded {} Tryd.checked os 3 .any (fun w args => (Rows.pageRightsSpec.pre enc Tryd.prog Tryd.f3 [] false w args ∧ laidMetH Tryd.prog laid1 w) ∧ sizedMet enc Tryd.prog Tryd.f3 (OpenSpec.ofChange Rows.pageRightsSpec) false w args)
      (Rows.pageRightsSpec.post enc Tryd.prog Tryd.f3 false true false false) := by
  refine returnsInHanded_of_change_and (C := Tryd.checked) (X := fun w _ => laidMetH Tryd.prog laid1 w) (fun _ _ _ hh h => h.of_heap hh) own started (by kernel_rfl) Tryd.func3
    (ChangeSpec.witness_shaped (enc := enc) (C := Tryd.checked) (os := os) (X := fun w _ => laidMetH Tryd.prog laid1 w) false (World.doorLaid Tryd.prog 14 os) #[.agg #[.bool false, .slice none 0 0, .slice none 0 0, .slice none 0 0], .agg #[.int .u16 0, .int .u8 0, .int .u32 0], .agg #[.int .u16 0, .int .u8 0, .int .u32 0]] 8 rfl (World.shaped_of_RefB (by kernel_rfl) (by kernel_rfl)) (by kernel_rfl) (by kernel_rfl) (by kernel_rfl) (door_met os _)) ?_
  intro W base args ds gs before hval0 hW _ _ hL _
  have hval : ∀ (j : Nat) t v, Tryd.f3.params[j]? = some t → args[j]? = some v → Value.okWide Tryd.prog W .any base t v := hval0
  have hW' := hW
  obtain ⟨p, q, hA0, hV, rfl, hfz, hnd⟩ := hW
  have hA : DataW.TrodAll enc Tryd.prog W 0 (fun _ => true) true Tryd.f3.params.toList args.toList ds p := hA0
  rw [Tryd.params3] at hA hval
  obtain ⟨v0, v1, v2, d0, d1, d2, p0, p1, p2, rfl, rfl, rfl, h0, h1, h2⟩ := trodAll_three hA
  obtain ⟨rfl, rfl⟩ := trodVars_none hV
  have lt0 : ∀ x ∈ p0, x.block < W.heap.size := by obtain ⟨m, hm⟩ := h0; exact DataW.trod_lt m _ _ _ hm
  obtain ⟨P0, a01, n01, c01, a02, n02, c02, a03, n03, c03, rfl, m01, m02, m03, x0⟩ := page_of (hval 0 26 v0 rfl rfl) h0
  have lt1 : ∀ x ∈ p1, x.block < W.heap.size := by obtain ⟨m, hm⟩ := h1; exact DataW.trod_lt m _ _ _ hm
  obtain ⟨k1, rfl⟩ := key_of (hval 1 32 v1 rfl rfl) h1
  have lt2 : ∀ x ∈ p2, x.block < W.heap.size := by obtain ⟨m, hm⟩ := h2; exact DataW.trod_lt m _ _ _ hm
  obtain ⟨k2, rfl⟩ := key_of (hval 2 32 v2 rfl rfl) h2
  clear hA0 hval0
  refine (walk P0 a01 n01 c01 a02 n02 c02 a03 n03 c03 k1 k2 W (of_laid hL) m01 m02 m03 x0).mono fun e W' ⟨he, bel⟩ => ?_
  subst he
  exact ⟨_, rfl, _, _, _, [], _, [], hW', trodAll_mk1 (shut_bool Tryd.underlying4 _), trodAll_mk3 (Below.trod laidOut (by kernel_rfl) (of_decide_eq_true (by kernel_rfl)) h0 bel lt0) (Below.trod laidOut (by kernel_rfl) (of_decide_eq_true (by kernel_rfl)) h1 bel lt1) (Below.trod laidOut (by kernel_rfl) (of_decide_eq_true (by kernel_rfl)) h2 bel lt2), rfl, bel.frame _, fun h => by cases h⟩

theorem row_holds : Rows.PageRightsSaid :=
  OpenClaim.holds_of_wide 3 Tryd.f3 rfl rfl rfl rfl rfl rfl rfl ⟨rfl, rfl, rfl, rfl, rfl⟩ rfl rfl rfl rfl rfl (by kernel_rfl) Tryd.func3 (by kernel_rfl)
    (of_decide_eq_true (by kernel_rfl)) (by unfold Func.isWrapper; first | (rw [if_pos (by decide +kernel)]; kernel_rfl) | (rw [if_neg (by decide +kernel)]; exact ⟨rfl, rfl⟩))
    (fun os started H enc _ => lifted os started H enc)
end PageRights

theorem pageRights_card : Rows.PageRightsCardSaid :=
  Claim7.holds_tied_plain_at .later [] [.data] true (true, "b90d5132cacc69b8af3e47d8b89c9f2e9ff94c7b619f5af158f7875afb797316") false
    PageRights.row_holds (fun _ h => by cases h) (by kernel_rfl) (fun _ h => by cases h) pageRights_row_tie rfl ⟨rfl, rfl⟩ (by kernel_rfl) rfl
    (fun f fn hf hfn => by
      obtain rfl : f = 3 := Option.some.inj ((show Tryd.prog.funcNamed "trug/truglaw13.PageRights" = some 3 by kernel_rfl).symm.trans hf) |>.symm
      obtain rfl : fn = Tryd.f3 := (Option.some.inj (Tryd.func3.symm.trans hfn)).symm
      exact ⟨by kernel_rfl, fun j t ht => by
        rw [Tryd.params3] at ht
        have hm : t ∈ [26, 32, 32] := by simpa using Array.mem_of_getElem? ht
        have hall : ([26, 32, 32].all fun u => !Tryd.prog.wantsStandIn u) = true := by kernel_rfl
        exact (show Tryd.prog.wantsStandIn t = false by simpa using List.all_eq_true.1 hall t hm)⟩)
    (by kernel_rfl)
#print axioms pageRights_card
end Go.Proofs.YtcgbkfnjohbglaaDoor
