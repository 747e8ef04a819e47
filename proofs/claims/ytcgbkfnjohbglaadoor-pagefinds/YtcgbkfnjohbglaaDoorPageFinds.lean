/- PageFinds is proved: all keys ahead of the place that is found come first, and none behind it does; the table of four bits is tied to the program's text. No other condition. -/
import Derived.Test.YtcgbkfnjohbglaaDoorPo
import Derived.Test.YtcgbkfnjohbglaaDoorPq
import Derived.Test.YtcgbkfnjohbglaaDoorPu
import Derived.Test.YtcgbkfnjohbglaaDoorPs
import Derived.Test.YtcgbkfnjohbglaaDoorPt
namespace Go.Proofs.YtcgbkfnjohbglaaDoor
namespace PageFinds
open Go.ChangeShapes Go.WideShapes Go.ChangeAt Go.RowKit

set_option maxHeartbeats 8000000 in
set_option maxRecDepth 100000 in
theorem walk (P : Pg) (a1 : Option Addr) (n1 c1 : Nat) (a2 : Option Addr) (n2 c2 : Nat) (a3 : Option Addr) (n3 c3 : Nat) (k1 : Ky) (W : World) (hT : Tab W) (_m1 : n1 ≤ maxLen) (_m2 : n2 ≤ maxLen) (_m3 : n3 ≤ maxLen) (hP : PV W P a1 n1 a2 n2 a3 n3) :
    Calls Tryd.prog 7 #[.agg (pgA P.leaf a1 n1 c1 a2 n2 c2 a3 n3 c3), .agg k1.arr] W (Says (.bool true) W) := by
  have HT := Lib.hid hT
  have hb := fun (k : Ky) (w : World) => box32 k w
  have H0 : Hid (R3 W ((W.alloc (.cells (pgA P.leaf a1 n1 c1 a2 n2 c2 a3 n3 c3) 26)).alloc (.cells k1.arr 32)) W.heap.size (W.heap.size + 1) (W.heap.size + 1) P a1 n1 c1 a2 n2 c2 a3 n3 c3 k1 k1) := Lib.hid (by
    have h1 := Blk.new W 26 (pgA P.leaf a1 n1 c1 a2 n2 c2 a3 n3 c3)
    have h2 := Blk.new (W.alloc (.cells (pgA P.leaf a1 n1 c1 a2 n2 c2 a3 n3 c3) 26)) 32 k1.arr
    simp only [World.size_alloc] at h2
    have b1 := below_one W (.cells (pgA P.leaf a1 n1 c1 a2 n2 c2 a3 n3 c3) 26)
    have b2 := below_one (W.alloc (.cells (pgA P.leaf a1 n1 c1 a2 n2 c2 a3 n3 c3) 26)) (.cells k1.arr 32)
    exact ⟨h1.below b2, h2, h2, (hP.below b1).below b2, b1.trans (b2.mono b1.size)⟩)
  clear hT hP _m1 _m2 _m3
  show Calls Tryd.prog 7 #[.agg #[.bool P.leaf, .slice a1 n1 c1, .slice a2 n2 c2, .slice a3 n3 c3], .agg k1.arr] W (Says (.bool true) W)
  go_enter Tryd.func7, Tryd.ntmps7
  go_upto_region 1 with fail
  clear hb
  try simp only [World.size_alloc, Act.put, List.setIfInBounds_toArray, List.set_cons_zero, List.set_cons_succ]
  generalize (W.alloc (.cells #[.bool P.leaf, .slice a1 n1 c1, .slice a2 n2 c2, .slice a3 n3 c3] 26)).alloc (.cells k1.arr 32) = w0 at H0 ⊢
  generalize W.heap.size + 1 = q at H0 ⊢
  obtain ⟨p, hp1⟩ : ∃ p, W.heap.size = p := ⟨_, rfl⟩
  rw [hp1] at H0
  rw [hp1]
  clear hp1
  go_wp2_with fail
  refine (alive_any _ (HT.out.below H0.out.old)).mono ?_
  rintro e w1 ⟨rfl, hb⟩
  have H1 := Lib.hid (H0.out.below hb)
  clear hb H0
  go_wp2_with (refine wpList_run rfl (exec_load26 rfl rfl H1.out.box) ?_)
  have HF := Lib.hid (few_any P.leaf a1 n1 c1 a2 n2 c2 a3 n3 c3 w1)
  by_cases hf : n1 ≤ 300 ∧ n2 ≤ 300 ∧ n3 ≤ 300
  case neg =>
    rw [show (decide (n1 ≤ 300) && decide (n2 ≤ 300) && decide (n3 ≤ 300)) = false by simp; omega] at HF
    clear hf
    refine HF.out.mono ?_
    rintro e w2 ⟨rfl, hb⟩
    have H2 := Lib.hid (H1.out.below hb)
    clear hb H1
    go_wp2_with fail
    go_ret
    exact ⟨rfl, H2.out.old⟩
  obtain ⟨f1, f2, f3⟩ := hf
  rw [show (decide (n1 ≤ 300) && decide (n2 ≤ 300) && decide (n3 ≤ 300)) = true by simp; omega] at HF
  refine HF.out.mono ?_
  rintro e w2 ⟨rfl, hb⟩
  have H2 := Lib.hid (H1.out.below hb)
  clear hb H1 HF
  go_wp2_with (refine wpList_runW (exec_load26 rfl rfl H2.out.box) (by kernel_rfl) ?_)
  have HRC := Lib.hid (rright_any c1 c2 c3 H2.out.pv (by omega))
  cases hr : P.right
  · rw [hr] at HRC
    clear hr
    refine HRC.out.mono ?_
    rintro e w3 ⟨rfl, hb⟩
    have H3 := Lib.hid (H2.out.below hb)
    clear hb H2
    go_wp2_with fail
    go_ret
    exact ⟨rfl, H3.out.old⟩
  rw [hr] at HRC
  have HRI := Lib.hid (Pg.right_iff.1 hr).2.1
  have HN := Lib.hid H2.out.pv.ks.len'
  have HNF : Hid (P.findN k1 = cntK P.ks k1) := Lib.hid (by unfold Pg.findN; rw [hr]; rfl)
  have HBF : Hid (P.findB k1 = isK P.ks k1) := Lib.hid (by unfold Pg.findB; rw [hr]; rfl)
  clear hr
  refine HRC.out.mono ?_
  rintro e w3 ⟨rfl, hb⟩
  have H3 := Lib.hid (H2.out.below hb)
  clear hb H2 HRC
  go_upto_region 5 with fail
  have HLE := Lib.hid (cnt_le P.ks k1)
  obtain ⟨nf, hnf⟩ : ∃ n, cntK P.ks k1 = n := ⟨_, rfl⟩
  have HCN := Lib.hid hnf
  have hnle : nf ≤ n1 := by have := HLE.out; have := HN.out; omega
  clear hnf HLE
  obtain ⟨bf, hbf⟩ : ∃ b, isK P.ks k1 = b := ⟨_, rfl⟩
  have HIK := Lib.hid hbf
  clear hbf
  have HFI : Hid (∀ (V : World) b1 d1 b2 d2, PV V P b1 n1 b2 n2 a3 n3 → Calls Tryd.prog 11 #[.agg (pgA P.leaf b1 n1 d1 b2 n2 d2 a3 n3 c3), .agg k1.arr] V (Says (.tuple #[.int .i64 (nf : Int), .bool bf]) V)) := Lib.hid (fun V b1 d1 b2 d2 h => by have := find_any d1 d2 c3 k1 h (by omega); rw [HNF.out, HBF.out, HCN.out, HIK.out] at this; exact this)
  refine wp_region_held_drew (S := fun w' => R3 W w' p q q P a1 n1 c1 a2 n2 c2 a3 n3 c3 k1 k1) (by kernel_rfl) (H3.out.below (drew_below _)) (fun hS => ?_)
  refine held_take 0 20 (.agg (pgA P.leaf a1 n1 c1 a2 n2 c2 a3 n3 c3)) rfl rfl (by kernel_rfl) (by kernel_rfl) (by kernel_rfl) (fun _ _ _ h => h) (by kernel_rfl) (fun _ h => exec_load26 rfl rfl h.box) hS ?_
  simp only [Act.put, List.setIfInBounds_toArray, List.set_cons_zero, List.set_cons_succ]
  refine held_take 2 22 (.agg k1.arr) rfl rfl (by kernel_rfl) (by kernel_rfl) (by kernel_rfl) (fun _ _ _ h => h) (by kernel_rfl) (fun _ h => exec_load32 rfl rfl h.one) hS ?_
  simp only [Act.put, List.setIfInBounds_toArray, List.set_cons_zero, List.set_cons_succ]
  refine held_callP 1 21 12 #[(.agg (pgA P.leaf a1 n1 c1 a2 n2 c2 a3 n3 c3))] rfl (by kernel_rfl) rfl (by kernel_rfl) (by kernel_rfl) (hS.theirs (by omega) (by omega)) (fun e w101 hP => ?_)
  obtain ⟨b1x, d1x, b2x, d2x, rfl, hpvx, hSn⟩ := hP
  refine ⟨_, rfl, hSn, fun hS => ?_⟩
  simp only [Act.put, List.setIfInBounds_toArray, List.set_cons_zero, List.set_cons_succ]
  refine held_call 3 23 11 #[(.agg (pgA P.leaf b1x n1 d1x b2x n2 d2x a3 n3 c3)), (.agg k1.arr)] (.tuple #[.int .i64 (nf : Int), .bool bf]) rfl (by kernel_rfl) rfl (by kernel_rfl) (by kernel_rfl) (HFI.out _ _ _ _ _ hpvx) (fun _ h hb => h.below hb) hS (fun w103 hS => ?_)
  simp only [Act.put, List.setIfInBounds_toArray, List.set_cons_zero, List.set_cons_succ]
  refine held_take 4 19 (.tuple #[.int .i64 (nf : Int), .bool bf]) rfl rfl (by kernel_rfl) (by kernel_rfl) (by kernel_rfl) (fun _ _ _ h => h) (by kernel_rfl) (fun _ _ => rfl) hS ?_
  simp only [Act.put, List.setIfInBounds_toArray, List.set_cons_zero, List.set_cons_succ]
  refine held_take 5 24 (.int .i64 (nf : Int)) rfl rfl (by kernel_rfl) (by kernel_rfl) (by kernel_rfl) (fun _ _ _ h => h) (by kernel_rfl) (fun _ _ => rfl) hS ?_
  simp only [Act.put, List.setIfInBounds_toArray, List.set_cons_zero, List.set_cons_succ]
  refine held_take 6 25 (.bool bf) rfl rfl (by kernel_rfl) (by kernel_rfl) (by kernel_rfl) (fun _ _ _ h => h) (by kernel_rfl) (fun _ _ => rfl) hS ?_
  simp only [Act.put, List.setIfInBounds_toArray, List.set_cons_zero, List.set_cons_succ]
  refine held_take 7 5 (.int .i64 (nf : Int)) rfl rfl (by kernel_rfl) (by kernel_rfl) (by kernel_rfl) (fun _ _ _ h => h) (by kernel_rfl) (fun _ _ => rfl) hS ?_
  simp only [Act.put, List.setIfInBounds_toArray, List.set_cons_zero, List.set_cons_succ]
  refine held_take 8 6 (.bool bf) rfl rfl (by kernel_rfl) (by kernel_rfl) (by kernel_rfl) (fun _ _ _ h => h) (by kernel_rfl) (fun _ _ => rfl) hS ?_
  simp only [Act.put, List.setIfInBounds_toArray, List.set_cons_zero, List.set_cons_succ]
  refine wpAnyH_done (by kernel_rfl) ?_ _
  have H4 := Lib.hid hS
  clear hS H3 HFI
  go_upto_region 6 with fail
  have q0 : Hid (decide ((nf : Int) < 0) = false) := Lib.hid (by simp)
  have q1 : Hid (decide ((n1 : Int) < (nf : Int)) = false) := Lib.hid (by simp; omega)
  have HAT : Hid (n1 ≤ 1000000) := Lib.hid (by omega)
  by_cases hlt : nf < n1
  · obtain ⟨b, off, x, hab, hx, _⟩ := KL.at H4.out.pv.ks hlt
    subst hab
    have HX := Lib.hid hx
    have q2 : Hid (decide ((nf : Int) < (n1 : Int)) = true) := Lib.hid (by simp; omega)
    have HKX : Hid (kyAt P.ks nf = x) := Lib.hid (kyAt_of hx)
    clear hx
    cases heq : Ky.eqB x k1
    · have hbf : bf = false := by
        rw [← HIK.out]; unfold isK; rw [HCN.out, HKX.out, heq]; simp
      subst hbf
      have HEQ := Lib.hid heq
      clear heq
      refine wp_region_held_drew (S := fun w' => R3 W w' p q q P (some ⟨b, off, none⟩) n1 c1 a2 n2 c2 a3 n3 c3 k1 k1) (by kernel_rfl) (H4.out.below (drew_below _)) (fun hS => ?_)
      refine held_take 0 26 (.int .i64 (nf : Int)) rfl rfl (by kernel_rfl) (by kernel_rfl) (by kernel_rfl) (fun _ _ _ h => h) (by kernel_rfl) (fun _ _ => rfl) hS ?_
      simp only [Act.put, List.setIfInBounds_toArray, List.set_cons_zero, List.set_cons_succ]
      refine held_take 1 27 (.bool false) rfl rfl (by kernel_rfl) (by kernel_rfl) (by kernel_rfl) (fun _ _ _ h => h) (by kernel_rfl) (fun _ _ => exec_lssI rfl rfl rfl q0.out) hS ?_
      simp only [Act.put, List.setIfInBounds_toArray, List.set_cons_zero, List.set_cons_succ]
      refine held_take 2 28 (.bool false) rfl rfl (by kernel_rfl) (by kernel_rfl) (by kernel_rfl) (fun _ _ _ h => h) (by kernel_rfl) (fun _ _ => rfl) hS ?_
      simp only [Act.put, List.setIfInBounds_toArray, List.set_cons_zero, List.set_cons_succ]
      refine held_take 3 29 (.int .i64 (nf : Int)) rfl rfl (by kernel_rfl) (by kernel_rfl) (by kernel_rfl) (fun _ _ _ h => h) (by kernel_rfl) (fun _ _ => rfl) hS ?_
      simp only [Act.put, List.setIfInBounds_toArray, List.set_cons_zero, List.set_cons_succ]
      refine held_take 4 30 (.pointer (some ⟨p, 1, none⟩)) rfl rfl (by kernel_rfl) (by kernel_rfl) (by kernel_rfl) (fun _ _ _ h => h) (by kernel_rfl) (fun _ _ => (by kernel_rfl)) hS ?_
      simp only [Act.put, List.setIfInBounds_toArray, List.set_cons_zero, List.set_cons_succ]
      refine held_take 5 31 (.slice (some ⟨b, off, none⟩) n1 c1) rfl rfl (by kernel_rfl) (by kernel_rfl) (by kernel_rfl) (fun _ _ _ h => h) (by kernel_rfl) (fun _ h => exec_cell rfl rfl (load_cell (by kernel_rfl) (h.box.cell 1))) hS ?_
      simp only [Act.put, List.setIfInBounds_toArray, List.set_cons_zero, List.set_cons_succ]
      refine held_take 6 32 (.int .i64 (n1 : Int)) rfl rfl (by kernel_rfl) (by kernel_rfl) (by kernel_rfl) (fun _ _ _ h => h) (by kernel_rfl) (fun _ _ => exec_lenG ⟨_, Tryd.underlying22⟩ rfl rfl) hS ?_
      simp only [Act.put, List.setIfInBounds_toArray, List.set_cons_zero, List.set_cons_succ]
      refine held_take 7 33 (.bool false) rfl rfl (by kernel_rfl) (by kernel_rfl) (by kernel_rfl) (fun _ _ _ h => h) (by kernel_rfl) (fun _ _ => exec_gtrI rfl rfl rfl q1.out) hS ?_
      simp only [Act.put, List.setIfInBounds_toArray, List.set_cons_zero, List.set_cons_succ]
      refine held_take 8 34 (.bool false) rfl rfl (by kernel_rfl) (by kernel_rfl) (by kernel_rfl) (fun _ _ _ h => h) (by kernel_rfl) (fun _ _ => rfl) hS ?_
      simp only [Act.put, List.setIfInBounds_toArray, List.set_cons_zero, List.set_cons_succ]
      refine held_take 9 35 (.bool false) rfl rfl (by kernel_rfl) (by kernel_rfl) (by kernel_rfl) (fun _ _ _ h => h) (by kernel_rfl) (fun _ _ => rfl) hS ?_
      simp only [Act.put, List.setIfInBounds_toArray, List.set_cons_zero, List.set_cons_succ]
      refine held_take 10 36 (.bool false) rfl rfl (by kernel_rfl) (by kernel_rfl) (by kernel_rfl) (fun _ _ _ h => h) (by kernel_rfl) (fun _ _ => rfl) hS ?_
      simp only [Act.put, List.setIfInBounds_toArray, List.set_cons_zero, List.set_cons_succ]
      refine held_take 11 37 (.int .i64 (nf : Int)) rfl rfl (by kernel_rfl) (by kernel_rfl) (by kernel_rfl) (fun _ _ _ h => h) (by kernel_rfl) (fun _ _ => rfl) hS ?_
      simp only [Act.put, List.setIfInBounds_toArray, List.set_cons_zero, List.set_cons_succ]
      refine held_take 12 38 (.pointer (some ⟨p, 1, none⟩)) rfl rfl (by kernel_rfl) (by kernel_rfl) (by kernel_rfl) (fun _ _ _ h => h) (by kernel_rfl) (fun _ _ => (by kernel_rfl)) hS ?_
      simp only [Act.put, List.setIfInBounds_toArray, List.set_cons_zero, List.set_cons_succ]
      refine held_take 13 39 (.slice (some ⟨b, off, none⟩) n1 c1) rfl rfl (by kernel_rfl) (by kernel_rfl) (by kernel_rfl) (fun _ _ _ h => h) (by kernel_rfl) (fun _ h => exec_cell rfl rfl (load_cell (by kernel_rfl) (h.box.cell 1))) hS ?_
      simp only [Act.put, List.setIfInBounds_toArray, List.set_cons_zero, List.set_cons_succ]
      refine held_take 14 40 (.int .i64 (n1 : Int)) rfl rfl (by kernel_rfl) (by kernel_rfl) (by kernel_rfl) (fun _ _ _ h => h) (by kernel_rfl) (fun _ _ => exec_lenG ⟨_, Tryd.underlying22⟩ rfl rfl) hS ?_
      simp only [Act.put, List.setIfInBounds_toArray, List.set_cons_zero, List.set_cons_succ]
      refine held_take 15 41 (.bool true) rfl rfl (by kernel_rfl) (by kernel_rfl) (by kernel_rfl) (fun _ _ _ h => h) (by kernel_rfl) (fun _ _ => exec_lssI rfl rfl rfl q2.out) hS ?_
      simp only [Act.put, List.setIfInBounds_toArray, List.set_cons_zero, List.set_cons_succ]
      refine held_take 16 42 (.bool true) rfl rfl (by kernel_rfl) (by kernel_rfl) (by kernel_rfl) (fun _ _ _ h => h) (by kernel_rfl) (fun _ _ => rfl) hS ?_
      simp only [Act.put, List.setIfInBounds_toArray, List.set_cons_zero, List.set_cons_succ]
      refine held_take 17 43 (.pointer (some ⟨p, 1, none⟩)) rfl rfl (by kernel_rfl) (by kernel_rfl) (by kernel_rfl) (fun _ _ _ h => h) (by kernel_rfl) (fun _ _ => (by kernel_rfl)) hS ?_
      simp only [Act.put, List.setIfInBounds_toArray, List.set_cons_zero, List.set_cons_succ]
      refine held_take 18 44 (.slice (some ⟨b, off, none⟩) n1 c1) rfl rfl (by kernel_rfl) (by kernel_rfl) (by kernel_rfl) (fun _ _ _ h => h) (by kernel_rfl) (fun _ h => exec_cell rfl rfl (load_cell (by kernel_rfl) (h.box.cell 1))) hS ?_
      simp only [Act.put, List.setIfInBounds_toArray, List.set_cons_zero, List.set_cons_succ]
      refine held_take 19 45 (.int .i64 (nf : Int)) rfl rfl (by kernel_rfl) (by kernel_rfl) (by kernel_rfl) (fun _ _ _ h => h) (by kernel_rfl) (fun _ _ => rfl) hS ?_
      simp only [Act.put, List.setIfInBounds_toArray, List.set_cons_zero, List.set_cons_succ]
      refine held_take 20 46 (.pointer (some ⟨b, off + nf * 3, none⟩)) rfl rfl (by kernel_rfl) (by kernel_rfl) (by kernel_rfl) (fun _ _ _ h => h) (by kernel_rfl) (fun _ _ => exec_idx32 (i := nf) rfl rfl rfl rfl hlt) hS ?_
      simp only [Act.put, List.setIfInBounds_toArray, List.set_cons_zero, List.set_cons_succ]
      refine held_take 21 47 (.agg x.arr) rfl rfl (by kernel_rfl) (by kernel_rfl) (by kernel_rfl) (fun _ _ _ h => h) (by kernel_rfl) (fun _ h => exec_ld32 rfl rfl (h.pv.ks.rng HX.out)) hS ?_
      simp only [Act.put, List.setIfInBounds_toArray, List.set_cons_zero, List.set_cons_succ]
      refine held_take 22 48 (.agg k1.arr) rfl rfl (by kernel_rfl) (by kernel_rfl) (by kernel_rfl) (fun _ _ _ h => h) (by kernel_rfl) (fun _ h => exec_load32 rfl rfl h.one) hS ?_
      simp only [Act.put, List.setIfInBounds_toArray, List.set_cons_zero, List.set_cons_succ]
      refine held_take 23 49 (.bool false) rfl rfl (by kernel_rfl) (by kernel_rfl) (by kernel_rfl) (fun _ _ _ h => h) (by kernel_rfl) (fun _ _ => exec_eql32 rfl rfl rfl HEQ.out) hS ?_
      simp only [Act.put, List.setIfInBounds_toArray, List.set_cons_zero, List.set_cons_succ]
      refine held_take 24 50 (.bool false) rfl rfl (by kernel_rfl) (by kernel_rfl) (by kernel_rfl) (fun _ _ _ h => h) (by kernel_rfl) (fun _ _ => rfl) hS ?_
      simp only [Act.put, List.setIfInBounds_toArray, List.set_cons_zero, List.set_cons_succ]
      refine held_take 25 51 (.bool false) rfl rfl (by kernel_rfl) (by kernel_rfl) (by kernel_rfl) (fun _ _ _ h => h) (by kernel_rfl) (fun _ _ => exec_neqB (by kernel_rfl) rfl rfl rfl (by simp)) hS ?_
      simp only [Act.put, List.setIfInBounds_toArray, List.set_cons_zero, List.set_cons_succ]
      refine held_take 26 52 (.bool false) rfl rfl (by kernel_rfl) (by kernel_rfl) (by kernel_rfl) (fun _ _ _ h => h) (by kernel_rfl) (fun _ _ => rfl) hS ?_
      simp only [Act.put, List.setIfInBounds_toArray, List.set_cons_zero, List.set_cons_succ]
      refine wpAnyH_done (by kernel_rfl) ?_ _
      have H5 := Lib.hid hS
      clear hS H4
      have u1 := H5.out.box.cell 1
      simp at u1
      go_wp2_with fail
      clear u1
      go_loopw [56] (fun iv wr => ∃ k : Nat, k ≤ n1 ∧ iv = .int .i64 (k : Int) ∧ Hid (R3 W wr p q q P (some ⟨b, off, none⟩) n1 c1 a2 n2 c2 a3 n3 c3 k1 k1)) (fun iv _ => n1 - (intOf iv).toNat)
      case atStart => exact ⟨0, Nat.zero_le _, rfl, H5⟩
      case round =>
        obtain ⟨k, hk, rfl, HX0⟩ := hrel
        clear H5
        by_cases hlk : k < n1
        · obtain ⟨g, og, y, hab, hy, hr⟩ := KL.at HX0.out.pv.ks hlk
          have hsl : (Value.slice (some ⟨b, off, none⟩) n1 c1) = .slice (some ⟨g, og, none⟩) n1 c1 := by rw [hab]
          have HSL := Lib.hid hsl
          have HR := Lib.hid hr
          have HKY : Hid (kyAt P.ks k = y) := Lib.hid (kyAt_of hy)
          clear hab hy hr hsl
          obtain ⟨zo, hzo⟩ : ∃ zo, Ky.zero = zo := ⟨_, rfl⟩
          have HZO := Lib.hid hzo
          clear hzo
          go_wp2_with (first | (refine wpList_run rfl (exec_idx32 (i := k) rfl HSL.out rfl rfl hlk) ?_) | (refine wpList_run rfl (exec_ld32 rfl rfl HR.out) ?_) | (refine wpList_run rfl (exec_alloc32z HZO.out rfl) ?_) | (refine wpList_stop32 rfl ?_))
          refine ⟨?_⟩
          refine wpList_void rfl rfl (exec_store32 (p := zo) (u := y) rfl rfl rfl (Blk.new wr 32 zo.arr)) ?_
          have HKB := Lib.hid ((Blk.new wr 32 zo.arr).row (ds := y.arr))
          have H6 := Lib.hid (HX0.out.below ((below_one wr (.cells zo.arr 32)).trans ((Kept.setRow (wr.alloc (.cells zo.arr 32)) wr.heap.size y.arr).below (B := wr.heap.size) (by simp) (fun k hk => by omega))))
          generalize (wr.alloc (.cells zo.arr 32)).setRow wr.heap.size y.arr = v0 at H6 HKB ⊢
          generalize wr.heap.size = g1 at HKB ⊢
          clear HX0 HR HZO HSL
          have HLS := Lib.hid (less_any y k1 v0)
          go_wp2_with (first | (refine wpList_run rfl (exec_load32 (p := y) rfl rfl HKB.out) ?_) | (refine wpList_run rfl (exec_load32 (p := k1) rfl rfl H6.out.one) ?_))
          by_cases hkn : k < nf
          · skip
            rw [show lessK y k1 = true from (by rw [← HKY.out]; exact cnt_less (by rw [HCN.out]; exact hkn))] at HLS
            have q3 : (k : Int) < (nf : Int) := by omega
            refine HLS.out.mono ?_
            rintro e v1 ⟨rfl, hb⟩
            have H7 := Lib.hid (H6.out.below hb)
            clear hb H6 HKB HLS
            go_wp2_with fail
            go_roundw
            case rel => exact ⟨k + 1, by omega, by go_num, H7⟩
            case measure => simp [intOf]; omega
          · skip
            rw [show lessK y k1 = false from (by rw [← HKY.out]; exact cnt_behind HRI.out (by rw [HCN.out]; omega) (by have := HN.out; omega))] at HLS
            have q3 : ¬ ((k : Int) < (nf : Int)) := by omega
            refine HLS.out.mono ?_
            rintro e v1 ⟨rfl, hb⟩
            have H7 := Lib.hid (H6.out.below hb)
            clear hb H6 HKB HLS
            go_wp2_with fail
            go_roundw
            case rel => exact ⟨k + 1, by omega, by go_num, H7⟩
            case measure => simp [intOf]; omega
        · go_wp2_with fail
          go_ret
          exact ⟨rfl, HX0.out.old⟩
    · have hbf : bf = true := by
        rw [← HIK.out]; unfold isK; rw [HCN.out, HKX.out, heq]
        have h1 := HN.out
        have h2 : nf < P.ks.length := by omega
        simp [h2]
      subst hbf
      have HEQ := Lib.hid heq
      clear heq
      refine wp_region_held_drew (S := fun w' => R3 W w' p q q P (some ⟨b, off, none⟩) n1 c1 a2 n2 c2 a3 n3 c3 k1 k1) (by kernel_rfl) (H4.out.below (drew_below _)) (fun hS => ?_)
      refine held_take 0 26 (.int .i64 (nf : Int)) rfl rfl (by kernel_rfl) (by kernel_rfl) (by kernel_rfl) (fun _ _ _ h => h) (by kernel_rfl) (fun _ _ => rfl) hS ?_
      simp only [Act.put, List.setIfInBounds_toArray, List.set_cons_zero, List.set_cons_succ]
      refine held_take 1 27 (.bool false) rfl rfl (by kernel_rfl) (by kernel_rfl) (by kernel_rfl) (fun _ _ _ h => h) (by kernel_rfl) (fun _ _ => exec_lssI rfl rfl rfl q0.out) hS ?_
      simp only [Act.put, List.setIfInBounds_toArray, List.set_cons_zero, List.set_cons_succ]
      refine held_take 2 28 (.bool false) rfl rfl (by kernel_rfl) (by kernel_rfl) (by kernel_rfl) (fun _ _ _ h => h) (by kernel_rfl) (fun _ _ => rfl) hS ?_
      simp only [Act.put, List.setIfInBounds_toArray, List.set_cons_zero, List.set_cons_succ]
      refine held_take 3 29 (.int .i64 (nf : Int)) rfl rfl (by kernel_rfl) (by kernel_rfl) (by kernel_rfl) (fun _ _ _ h => h) (by kernel_rfl) (fun _ _ => rfl) hS ?_
      simp only [Act.put, List.setIfInBounds_toArray, List.set_cons_zero, List.set_cons_succ]
      refine held_take 4 30 (.pointer (some ⟨p, 1, none⟩)) rfl rfl (by kernel_rfl) (by kernel_rfl) (by kernel_rfl) (fun _ _ _ h => h) (by kernel_rfl) (fun _ _ => (by kernel_rfl)) hS ?_
      simp only [Act.put, List.setIfInBounds_toArray, List.set_cons_zero, List.set_cons_succ]
      refine held_take 5 31 (.slice (some ⟨b, off, none⟩) n1 c1) rfl rfl (by kernel_rfl) (by kernel_rfl) (by kernel_rfl) (fun _ _ _ h => h) (by kernel_rfl) (fun _ h => exec_cell rfl rfl (load_cell (by kernel_rfl) (h.box.cell 1))) hS ?_
      simp only [Act.put, List.setIfInBounds_toArray, List.set_cons_zero, List.set_cons_succ]
      refine held_take 6 32 (.int .i64 (n1 : Int)) rfl rfl (by kernel_rfl) (by kernel_rfl) (by kernel_rfl) (fun _ _ _ h => h) (by kernel_rfl) (fun _ _ => exec_lenG ⟨_, Tryd.underlying22⟩ rfl rfl) hS ?_
      simp only [Act.put, List.setIfInBounds_toArray, List.set_cons_zero, List.set_cons_succ]
      refine held_take 7 33 (.bool false) rfl rfl (by kernel_rfl) (by kernel_rfl) (by kernel_rfl) (fun _ _ _ h => h) (by kernel_rfl) (fun _ _ => exec_gtrI rfl rfl rfl q1.out) hS ?_
      simp only [Act.put, List.setIfInBounds_toArray, List.set_cons_zero, List.set_cons_succ]
      refine held_take 8 34 (.bool false) rfl rfl (by kernel_rfl) (by kernel_rfl) (by kernel_rfl) (fun _ _ _ h => h) (by kernel_rfl) (fun _ _ => rfl) hS ?_
      simp only [Act.put, List.setIfInBounds_toArray, List.set_cons_zero, List.set_cons_succ]
      refine held_take 9 35 (.bool false) rfl rfl (by kernel_rfl) (by kernel_rfl) (by kernel_rfl) (fun _ _ _ h => h) (by kernel_rfl) (fun _ _ => rfl) hS ?_
      simp only [Act.put, List.setIfInBounds_toArray, List.set_cons_zero, List.set_cons_succ]
      refine held_take 10 36 (.bool true) rfl rfl (by kernel_rfl) (by kernel_rfl) (by kernel_rfl) (fun _ _ _ h => h) (by kernel_rfl) (fun _ _ => rfl) hS ?_
      simp only [Act.put, List.setIfInBounds_toArray, List.set_cons_zero, List.set_cons_succ]
      refine held_take 11 37 (.int .i64 (nf : Int)) rfl rfl (by kernel_rfl) (by kernel_rfl) (by kernel_rfl) (fun _ _ _ h => h) (by kernel_rfl) (fun _ _ => rfl) hS ?_
      simp only [Act.put, List.setIfInBounds_toArray, List.set_cons_zero, List.set_cons_succ]
      refine held_take 12 38 (.pointer (some ⟨p, 1, none⟩)) rfl rfl (by kernel_rfl) (by kernel_rfl) (by kernel_rfl) (fun _ _ _ h => h) (by kernel_rfl) (fun _ _ => (by kernel_rfl)) hS ?_
      simp only [Act.put, List.setIfInBounds_toArray, List.set_cons_zero, List.set_cons_succ]
      refine held_take 13 39 (.slice (some ⟨b, off, none⟩) n1 c1) rfl rfl (by kernel_rfl) (by kernel_rfl) (by kernel_rfl) (fun _ _ _ h => h) (by kernel_rfl) (fun _ h => exec_cell rfl rfl (load_cell (by kernel_rfl) (h.box.cell 1))) hS ?_
      simp only [Act.put, List.setIfInBounds_toArray, List.set_cons_zero, List.set_cons_succ]
      refine held_take 14 40 (.int .i64 (n1 : Int)) rfl rfl (by kernel_rfl) (by kernel_rfl) (by kernel_rfl) (fun _ _ _ h => h) (by kernel_rfl) (fun _ _ => exec_lenG ⟨_, Tryd.underlying22⟩ rfl rfl) hS ?_
      simp only [Act.put, List.setIfInBounds_toArray, List.set_cons_zero, List.set_cons_succ]
      refine held_take 15 41 (.bool true) rfl rfl (by kernel_rfl) (by kernel_rfl) (by kernel_rfl) (fun _ _ _ h => h) (by kernel_rfl) (fun _ _ => exec_lssI rfl rfl rfl q2.out) hS ?_
      simp only [Act.put, List.setIfInBounds_toArray, List.set_cons_zero, List.set_cons_succ]
      refine held_take 16 42 (.bool true) rfl rfl (by kernel_rfl) (by kernel_rfl) (by kernel_rfl) (fun _ _ _ h => h) (by kernel_rfl) (fun _ _ => rfl) hS ?_
      simp only [Act.put, List.setIfInBounds_toArray, List.set_cons_zero, List.set_cons_succ]
      refine held_take 17 43 (.pointer (some ⟨p, 1, none⟩)) rfl rfl (by kernel_rfl) (by kernel_rfl) (by kernel_rfl) (fun _ _ _ h => h) (by kernel_rfl) (fun _ _ => (by kernel_rfl)) hS ?_
      simp only [Act.put, List.setIfInBounds_toArray, List.set_cons_zero, List.set_cons_succ]
      refine held_take 18 44 (.slice (some ⟨b, off, none⟩) n1 c1) rfl rfl (by kernel_rfl) (by kernel_rfl) (by kernel_rfl) (fun _ _ _ h => h) (by kernel_rfl) (fun _ h => exec_cell rfl rfl (load_cell (by kernel_rfl) (h.box.cell 1))) hS ?_
      simp only [Act.put, List.setIfInBounds_toArray, List.set_cons_zero, List.set_cons_succ]
      refine held_take 19 45 (.int .i64 (nf : Int)) rfl rfl (by kernel_rfl) (by kernel_rfl) (by kernel_rfl) (fun _ _ _ h => h) (by kernel_rfl) (fun _ _ => rfl) hS ?_
      simp only [Act.put, List.setIfInBounds_toArray, List.set_cons_zero, List.set_cons_succ]
      refine held_take 20 46 (.pointer (some ⟨b, off + nf * 3, none⟩)) rfl rfl (by kernel_rfl) (by kernel_rfl) (by kernel_rfl) (fun _ _ _ h => h) (by kernel_rfl) (fun _ _ => exec_idx32 (i := nf) rfl rfl rfl rfl hlt) hS ?_
      simp only [Act.put, List.setIfInBounds_toArray, List.set_cons_zero, List.set_cons_succ]
      refine held_take 21 47 (.agg x.arr) rfl rfl (by kernel_rfl) (by kernel_rfl) (by kernel_rfl) (fun _ _ _ h => h) (by kernel_rfl) (fun _ h => exec_ld32 rfl rfl (h.pv.ks.rng HX.out)) hS ?_
      simp only [Act.put, List.setIfInBounds_toArray, List.set_cons_zero, List.set_cons_succ]
      refine held_take 22 48 (.agg k1.arr) rfl rfl (by kernel_rfl) (by kernel_rfl) (by kernel_rfl) (fun _ _ _ h => h) (by kernel_rfl) (fun _ h => exec_load32 rfl rfl h.one) hS ?_
      simp only [Act.put, List.setIfInBounds_toArray, List.set_cons_zero, List.set_cons_succ]
      refine held_take 23 49 (.bool true) rfl rfl (by kernel_rfl) (by kernel_rfl) (by kernel_rfl) (fun _ _ _ h => h) (by kernel_rfl) (fun _ _ => exec_eql32 rfl rfl rfl HEQ.out) hS ?_
      simp only [Act.put, List.setIfInBounds_toArray, List.set_cons_zero, List.set_cons_succ]
      refine held_take 24 50 (.bool true) rfl rfl (by kernel_rfl) (by kernel_rfl) (by kernel_rfl) (fun _ _ _ h => h) (by kernel_rfl) (fun _ _ => rfl) hS ?_
      simp only [Act.put, List.setIfInBounds_toArray, List.set_cons_zero, List.set_cons_succ]
      refine held_take 25 51 (.bool false) rfl rfl (by kernel_rfl) (by kernel_rfl) (by kernel_rfl) (fun _ _ _ h => h) (by kernel_rfl) (fun _ _ => exec_neqB (by kernel_rfl) rfl rfl rfl (by simp)) hS ?_
      simp only [Act.put, List.setIfInBounds_toArray, List.set_cons_zero, List.set_cons_succ]
      refine held_take 26 52 (.bool false) rfl rfl (by kernel_rfl) (by kernel_rfl) (by kernel_rfl) (fun _ _ _ h => h) (by kernel_rfl) (fun _ _ => rfl) hS ?_
      simp only [Act.put, List.setIfInBounds_toArray, List.set_cons_zero, List.set_cons_succ]
      refine wpAnyH_done (by kernel_rfl) ?_ _
      have H5 := Lib.hid hS
      clear hS H4
      have u1 := H5.out.box.cell 1
      simp at u1
      go_wp2_with fail
      clear u1
      go_loopw [56] (fun iv wr => ∃ k : Nat, k ≤ n1 ∧ iv = .int .i64 (k : Int) ∧ Hid (R3 W wr p q q P (some ⟨b, off, none⟩) n1 c1 a2 n2 c2 a3 n3 c3 k1 k1)) (fun iv _ => n1 - (intOf iv).toNat)
      case atStart => exact ⟨0, Nat.zero_le _, rfl, H5⟩
      case round =>
        obtain ⟨k, hk, rfl, HX0⟩ := hrel
        clear H5
        by_cases hlk : k < n1
        · obtain ⟨g, og, y, hab, hy, hr⟩ := KL.at HX0.out.pv.ks hlk
          have hsl : (Value.slice (some ⟨b, off, none⟩) n1 c1) = .slice (some ⟨g, og, none⟩) n1 c1 := by rw [hab]
          have HSL := Lib.hid hsl
          have HR := Lib.hid hr
          have HKY : Hid (kyAt P.ks k = y) := Lib.hid (kyAt_of hy)
          clear hab hy hr hsl
          obtain ⟨zo, hzo⟩ : ∃ zo, Ky.zero = zo := ⟨_, rfl⟩
          have HZO := Lib.hid hzo
          clear hzo
          go_wp2_with (first | (refine wpList_run rfl (exec_idx32 (i := k) rfl HSL.out rfl rfl hlk) ?_) | (refine wpList_run rfl (exec_ld32 rfl rfl HR.out) ?_) | (refine wpList_run rfl (exec_alloc32z HZO.out rfl) ?_) | (refine wpList_stop32 rfl ?_))
          refine ⟨?_⟩
          refine wpList_void rfl rfl (exec_store32 (p := zo) (u := y) rfl rfl rfl (Blk.new wr 32 zo.arr)) ?_
          have HKB := Lib.hid ((Blk.new wr 32 zo.arr).row (ds := y.arr))
          have H6 := Lib.hid (HX0.out.below ((below_one wr (.cells zo.arr 32)).trans ((Kept.setRow (wr.alloc (.cells zo.arr 32)) wr.heap.size y.arr).below (B := wr.heap.size) (by simp) (fun k hk => by omega))))
          generalize (wr.alloc (.cells zo.arr 32)).setRow wr.heap.size y.arr = v0 at H6 HKB ⊢
          generalize wr.heap.size = g1 at HKB ⊢
          clear HX0 HR HZO HSL
          have HLS := Lib.hid (less_any y k1 v0)
          go_wp2_with (first | (refine wpList_run rfl (exec_load32 (p := y) rfl rfl HKB.out) ?_) | (refine wpList_run rfl (exec_load32 (p := k1) rfl rfl H6.out.one) ?_))
          by_cases hkn : k < nf
          · skip
            rw [show lessK y k1 = true from (by rw [← HKY.out]; exact cnt_less (by rw [HCN.out]; exact hkn))] at HLS
            have q3 : (k : Int) < (nf : Int) := by omega
            refine HLS.out.mono ?_
            rintro e v1 ⟨rfl, hb⟩
            have H7 := Lib.hid (H6.out.below hb)
            clear hb H6 HKB HLS
            go_wp2_with fail
            go_roundw
            case rel => exact ⟨k + 1, by omega, by go_num, H7⟩
            case measure => simp [intOf]; omega
          · skip
            rw [show lessK y k1 = false from (by rw [← HKY.out]; exact cnt_behind HRI.out (by rw [HCN.out]; omega) (by have := HN.out; omega))] at HLS
            have q3 : ¬ ((k : Int) < (nf : Int)) := by omega
            refine HLS.out.mono ?_
            rintro e v1 ⟨rfl, hb⟩
            have H7 := Lib.hid (H6.out.below hb)
            clear hb H6 HKB HLS
            go_wp2_with fail
            go_roundw
            case rel => exact ⟨k + 1, by omega, by go_num, H7⟩
            case measure => simp [intOf]; omega
        · go_wp2_with fail
          go_ret
          exact ⟨rfl, HX0.out.old⟩
  · have hbf : bf = false := by
      rw [← HIK.out]; unfold isK; rw [HCN.out]
      have h1 := HN.out
      have h2 : ¬ nf < P.ks.length := by omega
      simp [h2]
    subst hbf
    have q2 : Hid (decide ((nf : Int) < (n1 : Int)) = false) := Lib.hid (by simp; omega)
    refine wp_region_held_drew (S := fun w' => R3 W w' p q q P a1 n1 c1 a2 n2 c2 a3 n3 c3 k1 k1) (by kernel_rfl) (H4.out.below (drew_below _)) (fun hS => ?_)
    refine held_take 0 26 (.int .i64 (nf : Int)) rfl rfl (by kernel_rfl) (by kernel_rfl) (by kernel_rfl) (fun _ _ _ h => h) (by kernel_rfl) (fun _ _ => rfl) hS ?_
    simp only [Act.put, List.setIfInBounds_toArray, List.set_cons_zero, List.set_cons_succ]
    refine held_take 1 27 (.bool false) rfl rfl (by kernel_rfl) (by kernel_rfl) (by kernel_rfl) (fun _ _ _ h => h) (by kernel_rfl) (fun _ _ => exec_lssI rfl rfl rfl q0.out) hS ?_
    simp only [Act.put, List.setIfInBounds_toArray, List.set_cons_zero, List.set_cons_succ]
    refine held_take 2 28 (.bool false) rfl rfl (by kernel_rfl) (by kernel_rfl) (by kernel_rfl) (fun _ _ _ h => h) (by kernel_rfl) (fun _ _ => rfl) hS ?_
    simp only [Act.put, List.setIfInBounds_toArray, List.set_cons_zero, List.set_cons_succ]
    refine held_take 3 29 (.int .i64 (nf : Int)) rfl rfl (by kernel_rfl) (by kernel_rfl) (by kernel_rfl) (fun _ _ _ h => h) (by kernel_rfl) (fun _ _ => rfl) hS ?_
    simp only [Act.put, List.setIfInBounds_toArray, List.set_cons_zero, List.set_cons_succ]
    refine held_take 4 30 (.pointer (some ⟨p, 1, none⟩)) rfl rfl (by kernel_rfl) (by kernel_rfl) (by kernel_rfl) (fun _ _ _ h => h) (by kernel_rfl) (fun _ _ => (by kernel_rfl)) hS ?_
    simp only [Act.put, List.setIfInBounds_toArray, List.set_cons_zero, List.set_cons_succ]
    refine held_take 5 31 (.slice a1 n1 c1) rfl rfl (by kernel_rfl) (by kernel_rfl) (by kernel_rfl) (fun _ _ _ h => h) (by kernel_rfl) (fun _ h => exec_cell rfl rfl (load_cell (by kernel_rfl) (h.box.cell 1))) hS ?_
    simp only [Act.put, List.setIfInBounds_toArray, List.set_cons_zero, List.set_cons_succ]
    refine held_take 6 32 (.int .i64 (n1 : Int)) rfl rfl (by kernel_rfl) (by kernel_rfl) (by kernel_rfl) (fun _ _ _ h => h) (by kernel_rfl) (fun _ _ => exec_lenG ⟨_, Tryd.underlying22⟩ rfl rfl) hS ?_
    simp only [Act.put, List.setIfInBounds_toArray, List.set_cons_zero, List.set_cons_succ]
    refine held_take 7 33 (.bool false) rfl rfl (by kernel_rfl) (by kernel_rfl) (by kernel_rfl) (fun _ _ _ h => h) (by kernel_rfl) (fun _ _ => exec_gtrI rfl rfl rfl q1.out) hS ?_
    simp only [Act.put, List.setIfInBounds_toArray, List.set_cons_zero, List.set_cons_succ]
    refine held_take 8 34 (.bool false) rfl rfl (by kernel_rfl) (by kernel_rfl) (by kernel_rfl) (fun _ _ _ h => h) (by kernel_rfl) (fun _ _ => rfl) hS ?_
    simp only [Act.put, List.setIfInBounds_toArray, List.set_cons_zero, List.set_cons_succ]
    refine held_take 9 35 (.bool false) rfl rfl (by kernel_rfl) (by kernel_rfl) (by kernel_rfl) (fun _ _ _ h => h) (by kernel_rfl) (fun _ _ => rfl) hS ?_
    simp only [Act.put, List.setIfInBounds_toArray, List.set_cons_zero, List.set_cons_succ]
    refine held_take 10 36 (.bool false) rfl rfl (by kernel_rfl) (by kernel_rfl) (by kernel_rfl) (fun _ _ _ h => h) (by kernel_rfl) (fun _ _ => rfl) hS ?_
    simp only [Act.put, List.setIfInBounds_toArray, List.set_cons_zero, List.set_cons_succ]
    refine held_take 11 37 (.int .i64 (nf : Int)) rfl rfl (by kernel_rfl) (by kernel_rfl) (by kernel_rfl) (fun _ _ _ h => h) (by kernel_rfl) (fun _ _ => rfl) hS ?_
    simp only [Act.put, List.setIfInBounds_toArray, List.set_cons_zero, List.set_cons_succ]
    refine held_take 12 38 (.pointer (some ⟨p, 1, none⟩)) rfl rfl (by kernel_rfl) (by kernel_rfl) (by kernel_rfl) (fun _ _ _ h => h) (by kernel_rfl) (fun _ _ => (by kernel_rfl)) hS ?_
    simp only [Act.put, List.setIfInBounds_toArray, List.set_cons_zero, List.set_cons_succ]
    refine held_take 13 39 (.slice a1 n1 c1) rfl rfl (by kernel_rfl) (by kernel_rfl) (by kernel_rfl) (fun _ _ _ h => h) (by kernel_rfl) (fun _ h => exec_cell rfl rfl (load_cell (by kernel_rfl) (h.box.cell 1))) hS ?_
    simp only [Act.put, List.setIfInBounds_toArray, List.set_cons_zero, List.set_cons_succ]
    refine held_take 14 40 (.int .i64 (n1 : Int)) rfl rfl (by kernel_rfl) (by kernel_rfl) (by kernel_rfl) (fun _ _ _ h => h) (by kernel_rfl) (fun _ _ => exec_lenG ⟨_, Tryd.underlying22⟩ rfl rfl) hS ?_
    simp only [Act.put, List.setIfInBounds_toArray, List.set_cons_zero, List.set_cons_succ]
    refine held_take 15 41 (.bool false) rfl rfl (by kernel_rfl) (by kernel_rfl) (by kernel_rfl) (fun _ _ _ h => h) (by kernel_rfl) (fun _ _ => exec_lssI rfl rfl rfl q2.out) hS ?_
    simp only [Act.put, List.setIfInBounds_toArray, List.set_cons_zero, List.set_cons_succ]
    refine held_take 16 42 (.bool false) rfl rfl (by kernel_rfl) (by kernel_rfl) (by kernel_rfl) (fun _ _ _ h => h) (by kernel_rfl) (fun _ _ => rfl) hS ?_
    simp only [Act.put, List.setIfInBounds_toArray, List.set_cons_zero, List.set_cons_succ]
    refine held_skip 17 43 rfl rfl (by kernel_rfl) (by kernel_rfl) (by kernel_rfl) (fun _ _ _ h => h) (by kernel_rfl) hS ?_
    simp only [Act.put, List.setIfInBounds_toArray, List.set_cons_zero, List.set_cons_succ]
    refine held_skip 18 44 rfl rfl (by kernel_rfl) (by kernel_rfl) (by kernel_rfl) (fun _ _ _ h => h) (by kernel_rfl) hS ?_
    simp only [Act.put, List.setIfInBounds_toArray, List.set_cons_zero, List.set_cons_succ]
    refine held_skip 19 45 rfl rfl (by kernel_rfl) (by kernel_rfl) (by kernel_rfl) (fun _ _ _ h => h) (by kernel_rfl) hS ?_
    simp only [Act.put, List.setIfInBounds_toArray, List.set_cons_zero, List.set_cons_succ]
    refine held_skip 20 46 rfl rfl (by kernel_rfl) (by kernel_rfl) (by kernel_rfl) (fun _ _ _ h => h) (by kernel_rfl) hS ?_
    simp only [Act.put, List.setIfInBounds_toArray, List.set_cons_zero, List.set_cons_succ]
    refine held_skip 21 47 rfl rfl (by kernel_rfl) (by kernel_rfl) (by kernel_rfl) (fun _ _ _ h => h) (by kernel_rfl) hS ?_
    simp only [Act.put, List.setIfInBounds_toArray, List.set_cons_zero, List.set_cons_succ]
    refine held_skip 22 48 rfl rfl (by kernel_rfl) (by kernel_rfl) (by kernel_rfl) (fun _ _ _ h => h) (by kernel_rfl) hS ?_
    simp only [Act.put, List.setIfInBounds_toArray, List.set_cons_zero, List.set_cons_succ]
    refine held_skip 23 49 rfl rfl (by kernel_rfl) (by kernel_rfl) (by kernel_rfl) (fun _ _ _ h => h) (by kernel_rfl) hS ?_
    simp only [Act.put, List.setIfInBounds_toArray, List.set_cons_zero, List.set_cons_succ]
    refine held_take 24 50 (.bool false) rfl rfl (by kernel_rfl) (by kernel_rfl) (by kernel_rfl) (fun _ _ _ h => h) (by kernel_rfl) (fun _ _ => rfl) hS ?_
    simp only [Act.put, List.setIfInBounds_toArray, List.set_cons_zero, List.set_cons_succ]
    refine held_take 25 51 (.bool false) rfl rfl (by kernel_rfl) (by kernel_rfl) (by kernel_rfl) (fun _ _ _ h => h) (by kernel_rfl) (fun _ _ => exec_neqB (by kernel_rfl) rfl rfl rfl (by simp)) hS ?_
    simp only [Act.put, List.setIfInBounds_toArray, List.set_cons_zero, List.set_cons_succ]
    refine held_take 26 52 (.bool false) rfl rfl (by kernel_rfl) (by kernel_rfl) (by kernel_rfl) (fun _ _ _ h => h) (by kernel_rfl) (fun _ _ => rfl) hS ?_
    simp only [Act.put, List.setIfInBounds_toArray, List.set_cons_zero, List.set_cons_succ]
    refine wpAnyH_done (by kernel_rfl) ?_ _
    have H5 := Lib.hid hS
    clear hS H4
    have u1 := H5.out.box.cell 1
    simp at u1
    go_wp2_with fail
    clear u1
    go_loopw [56] (fun iv wr => ∃ k : Nat, k ≤ n1 ∧ iv = .int .i64 (k : Int) ∧ Hid (R3 W wr p q q P a1 n1 c1 a2 n2 c2 a3 n3 c3 k1 k1)) (fun iv _ => n1 - (intOf iv).toNat)
    case atStart => exact ⟨0, Nat.zero_le _, rfl, H5⟩
    case round =>
      obtain ⟨k, hk, rfl, HX0⟩ := hrel
      clear H5
      by_cases hlk : k < n1
      · obtain ⟨g, og, y, hab, hy, hr⟩ := KL.at HX0.out.pv.ks hlk
        have hsl : (Value.slice a1 n1 c1) = .slice (some ⟨g, og, none⟩) n1 c1 := by rw [hab]
        have HSL := Lib.hid hsl
        have HR := Lib.hid hr
        have HKY : Hid (kyAt P.ks k = y) := Lib.hid (kyAt_of hy)
        clear hab hy hr hsl
        obtain ⟨zo, hzo⟩ : ∃ zo, Ky.zero = zo := ⟨_, rfl⟩
        have HZO := Lib.hid hzo
        clear hzo
        go_wp2_with (first | (refine wpList_run rfl (exec_idx32 (i := k) rfl HSL.out rfl rfl hlk) ?_) | (refine wpList_run rfl (exec_ld32 rfl rfl HR.out) ?_) | (refine wpList_run rfl (exec_alloc32z HZO.out rfl) ?_) | (refine wpList_stop32 rfl ?_))
        refine ⟨?_⟩
        refine wpList_void rfl rfl (exec_store32 (p := zo) (u := y) rfl rfl rfl (Blk.new wr 32 zo.arr)) ?_
        have HKB := Lib.hid ((Blk.new wr 32 zo.arr).row (ds := y.arr))
        have H6 := Lib.hid (HX0.out.below ((below_one wr (.cells zo.arr 32)).trans ((Kept.setRow (wr.alloc (.cells zo.arr 32)) wr.heap.size y.arr).below (B := wr.heap.size) (by simp) (fun k hk => by omega))))
        generalize (wr.alloc (.cells zo.arr 32)).setRow wr.heap.size y.arr = v0 at H6 HKB ⊢
        generalize wr.heap.size = g1 at HKB ⊢
        clear HX0 HR HZO HSL
        have HLS := Lib.hid (less_any y k1 v0)
        go_wp2_with (first | (refine wpList_run rfl (exec_load32 (p := y) rfl rfl HKB.out) ?_) | (refine wpList_run rfl (exec_load32 (p := k1) rfl rfl H6.out.one) ?_))
        by_cases hkn : k < nf
        · skip
          rw [show lessK y k1 = true from (by rw [← HKY.out]; exact cnt_less (by rw [HCN.out]; exact hkn))] at HLS
          have q3 : (k : Int) < (nf : Int) := by omega
          refine HLS.out.mono ?_
          rintro e v1 ⟨rfl, hb⟩
          have H7 := Lib.hid (H6.out.below hb)
          clear hb H6 HKB HLS
          go_wp2_with fail
          go_roundw
          case rel => exact ⟨k + 1, by omega, by go_num, H7⟩
          case measure => simp [intOf]; omega
        · skip
          rw [show lessK y k1 = false from (by rw [← HKY.out]; exact cnt_behind HRI.out (by rw [HCN.out]; omega) (by have := HN.out; omega))] at HLS
          have q3 : ¬ ((k : Int) < (nf : Int)) := by omega
          refine HLS.out.mono ?_
          rintro e v1 ⟨rfl, hb⟩
          have H7 := Lib.hid (H6.out.below hb)
          clear hb H6 HKB HLS
          go_wp2_with fail
          go_roundw
          case rel => exact ⟨k + 1, by omega, by go_num, H7⟩
          case measure => simp [intOf]; omega
      · go_wp2_with fail
        go_ret
        exact ⟨rfl, HX0.out.old⟩

set_option maxRecDepth 100000 in
theorem lifted (os : Os) (started : os.Started) (H : Type) (enc : TypeId × Value → H) :
    ReturnsInHanded {} Tryd.checked os 7 .any (fun w args => (Rows.pageFindsSpec.pre enc Tryd.prog Tryd.f7 [] false w args ∧ laidMetH Tryd.prog laid1 w) ∧ sizedMet enc Tryd.prog Tryd.f7 (OpenSpec.ofChange Rows.pageFindsSpec) false w args)
      (Rows.pageFindsSpec.post enc Tryd.prog Tryd.f7 false true false false) := by
  refine returnsInHanded_of_change_and (C := Tryd.checked) (X := fun w _ => laidMetH Tryd.prog laid1 w) (fun _ _ _ hh h => h.of_heap hh) own started (by kernel_rfl) Tryd.func7
    (ChangeSpec.witness_shaped (enc := enc) (C := Tryd.checked) (os := os) (X := fun w _ => laidMetH Tryd.prog laid1 w) false (World.doorLaid Tryd.prog 14 os) #[.agg #[.bool false, .slice none 0 0, .slice none 0 0, .slice none 0 0], .agg #[.int .u16 0, .int .u8 0, .int .u32 0]] 8 rfl (World.shaped_of_RefB (by kernel_rfl) (by kernel_rfl)) (by kernel_rfl) (by kernel_rfl) (by kernel_rfl) (door_met os _)) ?_
  intro W base args ds gs before hval0 hW _ _ hL _
  have hval : ∀ (j : Nat) t v, Tryd.f7.params[j]? = some t → args[j]? = some v → Value.okWide Tryd.prog W .any base t v := hval0
  have hW' := hW
  obtain ⟨p, q, hA0, hV, rfl, hfz, hnd⟩ := hW
  have hA : DataW.TrodAll enc Tryd.prog W 0 (fun _ => true) true Tryd.f7.params.toList args.toList ds p := hA0
  rw [Tryd.params7] at hA hval
  obtain ⟨v0, v1, d0, d1, p0, p1, rfl, rfl, rfl, h0, h1⟩ := trodAll_two hA
  obtain ⟨rfl, rfl⟩ := trodVars_none hV
  have lt0 : ∀ x ∈ p0, x.block < W.heap.size := by obtain ⟨m, hm⟩ := h0; exact DataW.trod_lt m _ _ _ hm
  obtain ⟨P0, a01, n01, c01, a02, n02, c02, a03, n03, c03, rfl, m01, m02, m03, x0⟩ := page_of (hval 0 26 v0 rfl rfl) h0
  have lt1 : ∀ x ∈ p1, x.block < W.heap.size := by obtain ⟨m, hm⟩ := h1; exact DataW.trod_lt m _ _ _ hm
  obtain ⟨k1, rfl⟩ := key_of (hval 1 32 v1 rfl rfl) h1
  clear hA0 hval0
  refine (walk P0 a01 n01 c01 a02 n02 c02 a03 n03 c03 k1 W (of_laid hL) m01 m02 m03 x0).mono fun e W' ⟨he, bel⟩ => ?_
  subst he
  exact ⟨_, rfl, _, _, _, [], _, [], hW', trodAll_mk1 (shut_bool Tryd.underlying4 _), trodAll_mk2 (Below.trod laidOut (by kernel_rfl) (of_decide_eq_true (by kernel_rfl)) h0 bel lt0) (Below.trod laidOut (by kernel_rfl) (of_decide_eq_true (by kernel_rfl)) h1 bel lt1), rfl, bel.frame _, fun h => by cases h⟩

theorem row_holds : Rows.PageFindsSaid :=
  OpenClaim.holds_of_wide 7 Tryd.f7 rfl rfl rfl rfl rfl rfl rfl ⟨rfl, rfl, rfl, rfl, rfl⟩ rfl rfl rfl rfl rfl (by kernel_rfl) Tryd.func7 (by kernel_rfl)
    (of_decide_eq_true (by kernel_rfl)) (by unfold Func.isWrapper; first | (rw [if_pos (by decide +kernel)]; kernel_rfl) | (rw [if_neg (by decide +kernel)]; exact ⟨rfl, rfl⟩))
    (fun os started H enc _ => lifted os started H enc)
end PageFinds

theorem pageFinds_card : Rows.PageFindsCardSaid :=
  Claim7.holds_tied_plain_at .later [] [.data] true (true, "b90d5132cacc69b8af3e47d8b89c9f2e9ff94c7b619f5af158f7875afb797316") false
    PageFinds.row_holds (fun _ h => by cases h) (by kernel_rfl) (fun _ h => by cases h) pageFinds_row_tie rfl ⟨rfl, rfl⟩ (by kernel_rfl) rfl
    (fun f fn hf hfn => by
      obtain rfl : f = 7 := Option.some.inj ((show Tryd.prog.funcNamed "trug/truglaw13.PageFinds" = some 7 by kernel_rfl).symm.trans hf) |>.symm
      obtain rfl : fn = Tryd.f7 := (Option.some.inj (Tryd.func7.symm.trans hfn)).symm
      exact ⟨by kernel_rfl, fun j t ht => by
        rw [Tryd.params7] at ht
        have hm : t ∈ [26, 32] := by simpa using Array.mem_of_getElem? ht
        have hall : ([26, 32].all fun u => !Tryd.prog.wantsStandIn u) = true := by kernel_rfl
        exact (show Tryd.prog.wantsStandIn t = false by simpa using List.all_eq_true.1 hall t hm)⟩)
    (by kernel_rfl)
#print axioms pageFinds_card
end Go.Proofs.YtcgbkfnjohbglaaDoor
