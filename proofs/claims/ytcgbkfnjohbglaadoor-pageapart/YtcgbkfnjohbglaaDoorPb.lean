/- Walks of Right in whole, of the document's Right, and of both Finds. -/
import Derived.Test.YtcgbkfnjohbglaaDoorPa
import Derived.Deep.DeepCutAuto
import Derived.Deep.Cut
namespace Go.Proofs.YtcgbkfnjohbglaaDoor
open Go.RowKit

theorem right_any {P : Pg} {a1 a2 a3 : Option Addr} {n1 n2 n3 : Nat} (c1 c2 c3 : Nat) {w : World} (h : PV w P a1 n1 a2 n2 a3 n3) (hn : n1 ≤ 1000000) : Calls Tryd.prog 14 #[.agg (pgA P.leaf a1 n1 c1 a2 n2 c2 a3 n3 c3)] w (Says (.bool P.right) w) :=
  right_core P.leaf a1 n1 c1 a2 n2 c2 a3 n3 c3 P.ks w h.ks hn _ (right_eq h.ks.len' h.ls.len' h.ds.len').symm

/-- A page in a box of its own, and its keys. -/
structure BxK (w W : World) (t p : Nat) (lf : Bool) (a1 : Option Addr) (n1 c1 : Nat) (a2 : Option Addr) (n2 c2 : Nat) (a3 : Option Addr) (n3 c3 : Nat) (l : List Ky) : Prop where
  box : Blk W p t (pgA lf a1 n1 c1 a2 n2 c2 a3 n3 c3)
  ks : KL W a1 n1 l
  old : Below w.heap.size w W
section
variable {w W W' : World} {t p : Nat} {lf : Bool} {a1 : Option Addr} {n1 c1 : Nat} {a2 : Option Addr} {n2 c2 : Nat} {a3 : Option Addr} {n3 c3 : Nat} {l : List Ky}
theorem BxK.below (h : BxK w W t p lf a1 n1 c1 a2 n2 c2 a3 n3 c3 l) (hb : Below W.heap.size W W') : BxK w W' t p lf a1 n1 c1 a2 n2 c2 a3 n3 c3 l := ⟨h.box.below hb, h.ks.below hb, h.old.trans (hb.mono h.old.size)⟩
theorem BxK.drew (h : BxK w W t p lf a1 n1 c1 a2 n2 c2 a3 n3 c3 l) : BxK w W.drew t p lf a1 n1 c1 a2 n2 c2 a3 n3 c3 l := h.below (drew_below W)
theorem BxK.e0 (h : BxK w W t p lf a1 n1 c1 a2 n2 c2 a3 n3 c3 l) : W.cell? ⟨p, 0, none⟩ = some (.bool lf) := h.box.cell 0
theorem BxK.e1 (h : BxK w W t p lf a1 n1 c1 a2 n2 c2 a3 n3 c3 l) : W.cell? ⟨p, 1, none⟩ = some (.slice a1 n1 c1) := h.box.cell 1
theorem BxK.e2 (h : BxK w W t p lf a1 n1 c1 a2 n2 c2 a3 n3 c3 l) : W.cell? ⟨p, 2, none⟩ = some (.slice a2 n2 c2) := h.box.cell 2
theorem BxK.e3 (h : BxK w W t p lf a1 n1 c1 a2 n2 c2 a3 n3 c3 l) : W.cell? ⟨p, 3, none⟩ = some (.slice a3 n3 c3) := h.box.cell 3
end

set_option maxHeartbeats 1000000 in
set_option maxRecDepth 100000 in
theorem rright_core (lf : Bool) (a1 : Option Addr) (n1 c1 : Nat) (a2 : Option Addr) (n2 c2 : Nat) (a3 : Option Addr) (n3 c3 : Nat) (l : List Ky) (w : World) (hl : KL w a1 n1 l) (hn : n1 ≤ 1000000) (b : Bool)
    (hb : (decide (n1 ≤ 8) && risingB l && (if lf then decide (n2 = n1) && decide (n3 = 0) else decide (1 ≤ n1) && decide (n3 = n1) && decide (n2 = 0))) = b) :
    Calls Tryd.prog 15 #[.agg #[.bool lf, .slice a1 n1 c1, .slice a2 n2 c2, .slice a3 n3 c3]] w (Says (.bool b) w) := by
  have HN := Lib.hid hl.len'
  have H0 : Hid (BxK w (w.alloc (.cells #[.bool lf, .slice a1 n1 c1, .slice a2 n2 c2, .slice a3 n3 c3] 26)) 26 w.heap.size lf a1 n1 c1 a2 n2 c2 a3 n3 c3 l) := Lib.hid ⟨Blk.new w 26 _, hl.below (below_one _ _), below_one _ _⟩
  have HB := Lib.hid hb
  clear hl hb
  go_enter Tryd.func15, Tryd.ntmps15
  go_upto_region 1 with fail
  try simp only [World.size_alloc, Act.put, List.setIfInBounds_toArray, List.set_cons_zero, List.set_cons_succ]
  generalize w.alloc (.cells #[.bool lf, .slice a1 n1 c1, .slice a2 n2 c2, .slice a3 n3 c3] 26) = w0 at H0
  obtain ⟨p, hp⟩ : ∃ p, w.heap.size = p := ⟨_, rfl⟩
  rw [hp] at H0
  rw [hp]
  clear hp
  go_wp2_with fail
  go_loopw [3] (fun i wr => ∃ k : Nat, 1 ≤ k ∧ (k ≤ n1 ∨ k = 1) ∧ i = .int .i64 (k : Int) ∧ Hid (∀ i, i + 1 < k → lessK (kyAt l i) (kyAt l (i + 1)) = true) ∧ Hid (BxK w wr 26 p lf a1 n1 c1 a2 n2 c2 a3 n3 c3 l)) (fun i _ => n1 - (intOf i).toNat)
  case atStart => exact ⟨1, Nat.le_refl _, .inr rfl, rfl, Lib.hid (fun i h => by omega), H0⟩
  case round =>
    obtain ⟨k, hk1, hk, rfl, HK, HX0⟩ := hrel
    clear H0
    have k1 := HX0.out.e1
    by_cases hlt : k < n1
    · obtain ⟨j, rfl⟩ : ∃ j, k = j + 1 := ⟨k - 1, by omega⟩
      generalize hkj : j + 1 = k at *
      obtain ⟨b, off, y, rfl, hy, _⟩ := HX0.out.ks.at hlt
      obtain ⟨x, hx⟩ : ∃ x, l[j]? = some x := ⟨l[j]'(by have := HN.out; omega), List.getElem?_eq_getElem _⟩
      have HX := Lib.hid hx
      have HY := Lib.hid hy
      have HDIF : Hid (IntKind.i64.wrap ((k : Int) - 1) = (j : Int)) := Lib.hid (by rw [IntKind.wrap_i64]; omega)
      have HE : Hid (lessK (kyAt l j) (kyAt l (j + 1)) = lessK x y) := Lib.hid (by rw [kyAt_of hx, hkj, kyAt_of hy])
      have HC := Lib.hid (fun w => rless_any x y w)
      have HKJ := Lib.hid (show k = j + 1 by omega)
      have hjk : j < k := by omega
      clear hx hy hkj
      cases hv : lessK x y
      · rw [hv] at HC
        have HV := Lib.hid hv
        clear hv
        go_wp2_with fail
        refine wp_region_held_drew (S := fun w' => BxK w w' 26 p lf (some ⟨b, off, none⟩) n1 c1 a2 n2 c2 a3 n3 c3 l) (by kernel_rfl) HX0.out.drew (fun hS => ?_)
        refine held_take 0 12 (.pointer (some ⟨p, 1, none⟩)) rfl rfl (by kernel_rfl) (by kernel_rfl) (by kernel_rfl) (fun _ _ _ h => h) (by kernel_rfl) (fun _ _ => (by kernel_rfl)) hS ?_
        simp only [Act.put, List.setIfInBounds_toArray, List.set_cons_zero, List.set_cons_succ]
        refine held_take 1 13 (.slice (some ⟨b, off, none⟩) n1 c1) rfl rfl (by kernel_rfl) (by kernel_rfl) (by kernel_rfl) (fun _ _ _ h => h) (by kernel_rfl) (fun _ h => exec_cell rfl rfl (load_cell (by kernel_rfl) h.e1)) hS ?_
        simp only [Act.put, List.setIfInBounds_toArray, List.set_cons_zero, List.set_cons_succ]
        refine held_take 2 14 (.int .i64 (k : Int)) rfl rfl (by kernel_rfl) (by kernel_rfl) (by kernel_rfl) (fun _ _ _ h => h) (by kernel_rfl) (fun _ _ => rfl) hS ?_
        simp only [Act.put, List.setIfInBounds_toArray, List.set_cons_zero, List.set_cons_succ]
        refine held_take 3 15 (.int .i64 ((j : Nat) : Int)) rfl rfl (by kernel_rfl) (by kernel_rfl) (by kernel_rfl) (fun _ _ _ h => h) (by kernel_rfl) (fun _ _ => exec_dif rfl rfl rfl HDIF.out) hS ?_
        simp only [Act.put, List.setIfInBounds_toArray, List.set_cons_zero, List.set_cons_succ]
        refine held_take 4 16 (.pointer (some ⟨b, off + j * 3, none⟩)) rfl rfl (by kernel_rfl) (by kernel_rfl) (by kernel_rfl) (fun _ _ _ h => h) (by kernel_rfl) (fun _ _ => exec_idx32 (i := j) rfl rfl rfl rfl (by omega)) hS ?_
        simp only [Act.put, List.setIfInBounds_toArray, List.set_cons_zero, List.set_cons_succ]
        refine held_take 5 17 (.agg x.arr) rfl rfl (by kernel_rfl) (by kernel_rfl) (by kernel_rfl) (fun _ _ _ h => h) (by kernel_rfl) (fun _ h => exec_ld32 rfl rfl (h.ks.rng HX.out)) hS ?_
        simp only [Act.put, List.setIfInBounds_toArray, List.set_cons_zero, List.set_cons_succ]
        refine held_take 6 18 (.pointer (some ⟨p, 1, none⟩)) rfl rfl (by kernel_rfl) (by kernel_rfl) (by kernel_rfl) (fun _ _ _ h => h) (by kernel_rfl) (fun _ _ => (by kernel_rfl)) hS ?_
        simp only [Act.put, List.setIfInBounds_toArray, List.set_cons_zero, List.set_cons_succ]
        refine held_take 7 19 (.slice (some ⟨b, off, none⟩) n1 c1) rfl rfl (by kernel_rfl) (by kernel_rfl) (by kernel_rfl) (fun _ _ _ h => h) (by kernel_rfl) (fun _ h => exec_cell rfl rfl (load_cell (by kernel_rfl) h.e1)) hS ?_
        simp only [Act.put, List.setIfInBounds_toArray, List.set_cons_zero, List.set_cons_succ]
        refine held_take 8 20 (.int .i64 (k : Int)) rfl rfl (by kernel_rfl) (by kernel_rfl) (by kernel_rfl) (fun _ _ _ h => h) (by kernel_rfl) (fun _ _ => rfl) hS ?_
        simp only [Act.put, List.setIfInBounds_toArray, List.set_cons_zero, List.set_cons_succ]
        refine held_take 9 21 (.pointer (some ⟨b, off + k * 3, none⟩)) rfl rfl (by kernel_rfl) (by kernel_rfl) (by kernel_rfl) (fun _ _ _ h => h) (by kernel_rfl) (fun _ _ => exec_idx32 (i := k) rfl rfl rfl rfl (by omega)) hS ?_
        simp only [Act.put, List.setIfInBounds_toArray, List.set_cons_zero, List.set_cons_succ]
        refine held_take 10 22 (.agg y.arr) rfl rfl (by kernel_rfl) (by kernel_rfl) (by kernel_rfl) (fun _ _ _ h => h) (by kernel_rfl) (fun _ h => exec_ld32 rfl rfl (h.ks.rng HY.out)) hS ?_
        simp only [Act.put, List.setIfInBounds_toArray, List.set_cons_zero, List.set_cons_succ]
        refine held_call 11 23 17 #[(.agg x.arr), (.agg y.arr)] (.bool false) rfl (by kernel_rfl) rfl (by kernel_rfl) (by kernel_rfl) (HC.out _) (fun _ h hb => h.below hb) hS (fun w111 hS => ?_)
        simp only [Act.put, List.setIfInBounds_toArray, List.set_cons_zero, List.set_cons_succ]
        refine held_take 12 24 (.bool true) rfl rfl (by kernel_rfl) (by kernel_rfl) (by kernel_rfl) (fun _ _ _ h => h) (by kernel_rfl) (fun _ _ => rfl) hS ?_
        simp only [Act.put, List.setIfInBounds_toArray, List.set_cons_zero, List.set_cons_succ]
        refine wpAnyH_done (by kernel_rfl) ?_ _
        go_wp2_with fail
        go_ret
        refine ⟨ret_bool ?_, hS.old⟩
        rw [← HB.out, rising_not (l := l) (i := j) (by have := HN.out; have := HKJ.out; omega) (by rw [HE.out, HV.out])]
        simp
      · rw [hv] at HC
        have HK2 : Hid (∀ i, i + 1 < k + 1 → lessK (kyAt l i) (kyAt l (i + 1)) = true) := Lib.hid (fun i h1 => by
          by_cases e : i = j
          · subst e; rw [HE.out, hv]
          · exact HK.out i (by have := HKJ.out; omega))
        clear hv
        go_wp2_with fail
        refine wp_region_held_drew (S := fun w' => BxK w w' 26 p lf (some ⟨b, off, none⟩) n1 c1 a2 n2 c2 a3 n3 c3 l) (by kernel_rfl) HX0.out.drew (fun hS => ?_)
        refine held_take 0 12 (.pointer (some ⟨p, 1, none⟩)) rfl rfl (by kernel_rfl) (by kernel_rfl) (by kernel_rfl) (fun _ _ _ h => h) (by kernel_rfl) (fun _ _ => (by kernel_rfl)) hS ?_
        simp only [Act.put, List.setIfInBounds_toArray, List.set_cons_zero, List.set_cons_succ]
        refine held_take 1 13 (.slice (some ⟨b, off, none⟩) n1 c1) rfl rfl (by kernel_rfl) (by kernel_rfl) (by kernel_rfl) (fun _ _ _ h => h) (by kernel_rfl) (fun _ h => exec_cell rfl rfl (load_cell (by kernel_rfl) h.e1)) hS ?_
        simp only [Act.put, List.setIfInBounds_toArray, List.set_cons_zero, List.set_cons_succ]
        refine held_take 2 14 (.int .i64 (k : Int)) rfl rfl (by kernel_rfl) (by kernel_rfl) (by kernel_rfl) (fun _ _ _ h => h) (by kernel_rfl) (fun _ _ => rfl) hS ?_
        simp only [Act.put, List.setIfInBounds_toArray, List.set_cons_zero, List.set_cons_succ]
        refine held_take 3 15 (.int .i64 ((j : Nat) : Int)) rfl rfl (by kernel_rfl) (by kernel_rfl) (by kernel_rfl) (fun _ _ _ h => h) (by kernel_rfl) (fun _ _ => exec_dif rfl rfl rfl HDIF.out) hS ?_
        simp only [Act.put, List.setIfInBounds_toArray, List.set_cons_zero, List.set_cons_succ]
        refine held_take 4 16 (.pointer (some ⟨b, off + j * 3, none⟩)) rfl rfl (by kernel_rfl) (by kernel_rfl) (by kernel_rfl) (fun _ _ _ h => h) (by kernel_rfl) (fun _ _ => exec_idx32 (i := j) rfl rfl rfl rfl (by omega)) hS ?_
        simp only [Act.put, List.setIfInBounds_toArray, List.set_cons_zero, List.set_cons_succ]
        refine held_take 5 17 (.agg x.arr) rfl rfl (by kernel_rfl) (by kernel_rfl) (by kernel_rfl) (fun _ _ _ h => h) (by kernel_rfl) (fun _ h => exec_ld32 rfl rfl (h.ks.rng HX.out)) hS ?_
        simp only [Act.put, List.setIfInBounds_toArray, List.set_cons_zero, List.set_cons_succ]
        refine held_take 6 18 (.pointer (some ⟨p, 1, none⟩)) rfl rfl (by kernel_rfl) (by kernel_rfl) (by kernel_rfl) (fun _ _ _ h => h) (by kernel_rfl) (fun _ _ => (by kernel_rfl)) hS ?_
        simp only [Act.put, List.setIfInBounds_toArray, List.set_cons_zero, List.set_cons_succ]
        refine held_take 7 19 (.slice (some ⟨b, off, none⟩) n1 c1) rfl rfl (by kernel_rfl) (by kernel_rfl) (by kernel_rfl) (fun _ _ _ h => h) (by kernel_rfl) (fun _ h => exec_cell rfl rfl (load_cell (by kernel_rfl) h.e1)) hS ?_
        simp only [Act.put, List.setIfInBounds_toArray, List.set_cons_zero, List.set_cons_succ]
        refine held_take 8 20 (.int .i64 (k : Int)) rfl rfl (by kernel_rfl) (by kernel_rfl) (by kernel_rfl) (fun _ _ _ h => h) (by kernel_rfl) (fun _ _ => rfl) hS ?_
        simp only [Act.put, List.setIfInBounds_toArray, List.set_cons_zero, List.set_cons_succ]
        refine held_take 9 21 (.pointer (some ⟨b, off + k * 3, none⟩)) rfl rfl (by kernel_rfl) (by kernel_rfl) (by kernel_rfl) (fun _ _ _ h => h) (by kernel_rfl) (fun _ _ => exec_idx32 (i := k) rfl rfl rfl rfl (by omega)) hS ?_
        simp only [Act.put, List.setIfInBounds_toArray, List.set_cons_zero, List.set_cons_succ]
        refine held_take 10 22 (.agg y.arr) rfl rfl (by kernel_rfl) (by kernel_rfl) (by kernel_rfl) (fun _ _ _ h => h) (by kernel_rfl) (fun _ h => exec_ld32 rfl rfl (h.ks.rng HY.out)) hS ?_
        simp only [Act.put, List.setIfInBounds_toArray, List.set_cons_zero, List.set_cons_succ]
        refine held_call 11 23 17 #[(.agg x.arr), (.agg y.arr)] (.bool true) rfl (by kernel_rfl) rfl (by kernel_rfl) (by kernel_rfl) (HC.out _) (fun _ h hb => h.below hb) hS (fun w111 hS => ?_)
        simp only [Act.put, List.setIfInBounds_toArray, List.set_cons_zero, List.set_cons_succ]
        refine held_take 12 24 (.bool false) rfl rfl (by kernel_rfl) (by kernel_rfl) (by kernel_rfl) (fun _ _ _ h => h) (by kernel_rfl) (fun _ _ => rfl) hS ?_
        simp only [Act.put, List.setIfInBounds_toArray, List.set_cons_zero, List.set_cons_succ]
        refine wpAnyH_done (by kernel_rfl) ?_ _
        have HS := Lib.hid hS
        clear hS
        go_wp2_with fail
        go_roundw
        case rel => exact ⟨k + 1, by omega, by omega, by go_num, HK2, HS⟩
        case measure => simp [intOf]; omega
    · have HR : Hid (risingB l = true) := Lib.hid (rising_iff.2 (fun i hi => by rw [HN.out] at hi; exact HK.out i (by omega)))
      clear HK
      have k0 := HX0.out.e0
      have k2 := HX0.out.e2
      have k3 := HX0.out.e3
      by_cases h8 : n1 ≤ 8
      case neg =>
        have q8 : ¬ ((n1 : Int) ≤ 8) := by omega
        cases lf
        all_goals go_wp2_with fail
        all_goals go_ret
        all_goals exact ⟨ret_bool (by rw [← HB.out, HR.out]; simp [h8]), HX0.out.old⟩
      have q8 : (n1 : Int) ≤ 8 := by omega
      cases lf
      · by_cases h1 : 1 ≤ n1
        case neg =>
          have q1 : ¬ ((1 : Int) ≤ (n1 : Int)) := by omega
          go_wp2_with fail
          go_ret
          exact ⟨ret_bool (by rw [← HB.out, HR.out]; simp [h1]), HX0.out.old⟩
        by_cases h2 : n3 = n1
        case neg =>
          have q1 : (1 : Int) ≤ (n1 : Int) := by omega
          have q2 : ((n3 : Int) == (n1 : Int)) = false := by simp; omega
          go_wp2_with fail
          go_ret
          exact ⟨ret_bool (by rw [← HB.out, HR.out]; simp [h2]), HX0.out.old⟩
        by_cases h3 : n2 = 0
        case neg =>
          have q1 : (1 : Int) ≤ (n1 : Int) := by omega
          have q2 : ((n3 : Int) == (n1 : Int)) = true := by simp; omega
          have q3 : ((n2 : Int) == (0 : Int)) = false := by simp; omega
          go_wp2_with fail
          go_ret
          exact ⟨ret_bool (by rw [← HB.out, HR.out]; simp [h3]), HX0.out.old⟩
        have q1 : (1 : Int) ≤ (n1 : Int) := by omega
        have q2 : ((n3 : Int) == (n1 : Int)) = true := by simp; omega
        have q3 : ((n2 : Int) == (0 : Int)) = true := by simp; omega
        go_wp2_with fail
        go_ret
        exact ⟨ret_bool (by rw [← HB.out, HR.out]; simp [h1, h2, h3, h8]), HX0.out.old⟩
      · by_cases h2 : n2 = n1
        case neg =>
          have q2 : ((n2 : Int) == (n1 : Int)) = false := by simp; omega
          go_wp2_with fail
          go_ret
          exact ⟨ret_bool (by rw [← HB.out, HR.out]; simp [h2]), HX0.out.old⟩
        by_cases h3 : n3 = 0
        case neg =>
          have q2 : ((n2 : Int) == (n1 : Int)) = true := by simp; omega
          have q3 : ((n3 : Int) == (0 : Int)) = false := by simp; omega
          go_wp2_with fail
          go_ret
          exact ⟨ret_bool (by rw [← HB.out, HR.out]; simp [h3]), HX0.out.old⟩
        have q2 : ((n2 : Int) == (n1 : Int)) = true := by simp; omega
        have q3 : ((n3 : Int) == (0 : Int)) = true := by simp; omega
        go_wp2_with fail
        go_ret
        exact ⟨ret_bool (by rw [← HB.out, HR.out]; simp [h2, h3, h8]), HX0.out.old⟩
theorem rright_any {P : Pg} {a1 a2 a3 : Option Addr} {n1 n2 n3 : Nat} (c1 c2 c3 : Nat) {w : World} (h : PV w P a1 n1 a2 n2 a3 n3) (hn : n1 ≤ 1000000) : Calls Tryd.prog 15 #[.agg (pgA P.leaf a1 n1 c1 a2 n2 c2 a3 n3 c3)] w (Says (.bool P.right) w) :=
  rright_core P.leaf a1 n1 c1 a2 n2 c2 a3 n3 c3 P.ks w h.ks hn _ (right_eq h.ks.len' h.ls.len' h.ds.len').symm

end Go.Proofs.YtcgbkfnjohbglaaDoor
