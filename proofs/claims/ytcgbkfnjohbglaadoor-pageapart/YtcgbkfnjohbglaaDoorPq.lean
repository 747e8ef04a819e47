/- Walk of Same of the document. -/
import Derived.Test.YtcgbkfnjohbglaaDoorPd
namespace Go.Proofs.YtcgbkfnjohbglaaDoor
open Go.RowKit

/-- A Bool that tells whether something holds. -/
def SaysIff (p : Prop) (w : World) (e : Ending) (w' : World) : Prop := ∃ b : Bool, e = .returned (.bool b) ∧ (b = true ↔ p) ∧ Below w.heap.size w w'
theorem saysIff_no {p : Prop} {w w' : World} (h : ¬ p) (hb : Below w.heap.size w w') : SaysIff p w (.returned (.bool false)) w' := ⟨false, rfl, ⟨(fun h => absurd h (by simp)), fun hp => absurd hp h⟩, hb⟩
theorem saysIff_yes {p : Prop} {w w' : World} (h : p) (hb : Below w.heap.size w w') : SaysIff p w (.returned (.bool true)) w' := ⟨true, rfl, ⟨fun _ => h, fun _ => rfl⟩, hb⟩
structure Sm2 (w W : World) (p q : Nat) (U V : Array Value) : Prop where
  s1 : Blk W p 26 U
  s2 : Blk W q 26 V
  old : Below w.heap.size w W
structure Sm3 (w W : World) (p q : Nat) (U V : Array Value) (g o g2 o2 : Nat) (xs ys : List Value) : Prop where
  s1 : Blk W p 26 U
  s2 : Blk W q 26 V
  e1 : W.rangeAt g o xs
  e2 : W.rangeAt g2 o2 ys
  old : Below w.heap.size w W
theorem Sm3.drew {w W : World} {p q : Nat} {U V : Array Value} {g o g2 o2 : Nat} {xs ys : List Value} (h : Sm3 w W p q U V g o g2 o2 xs ys) : Sm3 w W.drew p q U V g o g2 o2 xs ys := ⟨h.s1, h.s2, h.e1, h.e2, h.old.drew⟩
theorem take_eqG {α : Type} {l l2 : List α} {k : Nat} {x : α} (h : l.take k = l2.take k) (h1 : l[k]? = some x) (h2 : l2[k]? = some x) : l.take (k + 1) = l2.take (k + 1) := by
  rw [List.take_add_one, List.take_add_one, h, h1, h2]
theorem take_neG {α : Type} {l l2 : List α} {k : Nat} {x y : α} (h1 : l[k]? = some x) (h2 : l2[k]? = some y) (hne : x ≠ y) : l ≠ l2 := by
  rintro rfl
  rw [h1] at h2
  exact hne (Option.some.inj h2)
theorem ints_ne {n k : Nat} (h : n ≠ k) : ((n : Int) != (k : Int)) = true := by simp; omega
theorem ints_ne' {n k : Nat} (h : n ≠ k) : ¬ ((n : Int) = (k : Int)) := by omega
theorem exec_neqN {ev : Operand → Value} {o : Oper} {w : World} {x y : Operand} {t : TypeId} {a b : Nat} {r : Bool} (ho : o.op = .binOp .neq 28 x y t) (hx : ev x = .int .u32 (a : Int)) (hy : ev y = .int .u32 (b : Int)) (hr : (!(a == b)) = r) : (execOp ev o).run Tryd.prog w = .ok (.value (.bool r)) w := by
  refine exec_neqI trivial ho hx hy ?_
  rw [← hr]
  cases h : (a == b)
  · rw [beq_eq_false_iff_ne] at h
    simp only [bne_iff_ne, Bool.not_false, ne_eq]
    omega
  · rw [beq_iff_eq] at h
    subst h
    simp only [bne_self_eq_false, Bool.not_true]

set_option maxRecDepth 100000 in
set_option maxHeartbeats 8000000 in
theorem same_any {P Q : Pg} {a1 a2 a3 b1 b2 b3 : Option Addr} {n1 n2 n3 m1 m2 m3 : Nat} (c1 c2 c3 d1 d2 d3 : Nat) {w : World} (hP : PV w P a1 n1 a2 n2 a3 n3) (hQ : PV w Q b1 m1 b2 m2 b3 m3) (h1 : n1 ≤ 1000000) (h2 : n2 ≤ 1000000) (h3 : n3 ≤ 1000000) :
    Calls Tryd.prog 22 #[.agg (pgA P.leaf a1 n1 c1 a2 n2 c2 a3 n3 c3), .agg (pgA Q.leaf b1 m1 d1 b2 m2 d2 b3 m3 d3)] w (SaysIff (P = Q) w) := by
  have HP := Lib.hid hP
  have HQ := Lib.hid hQ
  have HN1 := Lib.hid hP.ks.len'
  have HN2 := Lib.hid hP.ls.len'
  have HN3 := Lib.hid hP.ds.len'
  have HM1 := Lib.hid hQ.ks.len'
  have HM2 := Lib.hid hQ.ls.len'
  have HM3 := Lib.hid hQ.ds.len'
  clear hP hQ
  generalize hl1 : P.leaf = f1
  generalize hl2 : Q.leaf = f2
  have HL1 := Lib.hid hl1
  have HL2 := Lib.hid hl2
  clear hl1 hl2
  have H0 : Hid (Sm2 w ((w.alloc (.cells (pgA f1 a1 n1 c1 a2 n2 c2 a3 n3 c3) 26)).alloc (.cells (pgA f2 b1 m1 d1 b2 m2 d2 b3 m3 d3) 26)) w.heap.size (w.heap.size + 1) (pgA f1 a1 n1 c1 a2 n2 c2 a3 n3 c3) (pgA f2 b1 m1 d1 b2 m2 d2 b3 m3 d3)) := Lib.hid ⟨(Blk.new w 26 _).below (below_one _ _), by have := Blk.new (w.alloc (.cells (pgA f1 a1 n1 c1 a2 n2 c2 a3 n3 c3) 26)) 26 (pgA f2 b1 m1 d1 b2 m2 d2 b3 m3 d3); simpa using this, below_two' _ _ _⟩
  show Calls Tryd.prog 22 #[.agg #[.bool f1, .slice a1 n1 c1, .slice a2 n2 c2, .slice a3 n3 c3], .agg #[.bool f2, .slice b1 m1 d1, .slice b2 m2 d2, .slice b3 m3 d3]] w (SaysIff (P = Q) w)
  go_enter Tryd.func22, Tryd.ntmps22
  go_upto_region 1 with fail
  try simp only [World.size_alloc, Act.put, List.setIfInBounds_toArray, List.set_cons_zero, List.set_cons_succ]
  generalize (w.alloc (.cells #[.bool f1, .slice a1 n1 c1, .slice a2 n2 c2, .slice a3 n3 c3] 26)).alloc (.cells #[.bool f2, .slice b1 m1 d1, .slice b2 m2 d2, .slice b3 m3 d3] 26) = w0 at H0 ⊢
  obtain ⟨p, hp⟩ : ∃ p, w.heap.size = p := ⟨_, rfl⟩
  obtain ⟨q, hq⟩ : ∃ q, p + 1 = q := ⟨_, rfl⟩
  rw [hp, hq] at H0
  rw [hp, hq]
  clear hp hq
  have u0 : w0.cell? ⟨p, 0, none⟩ = some (.bool f1) := H0.out.s1.cell 0
  have u1 : w0.cell? ⟨p, 1, none⟩ = some (.slice a1 n1 c1) := H0.out.s1.cell 1
  have u2 : w0.cell? ⟨p, 2, none⟩ = some (.slice a2 n2 c2) := H0.out.s1.cell 2
  have u3 : w0.cell? ⟨p, 3, none⟩ = some (.slice a3 n3 c3) := H0.out.s1.cell 3
  have v0 : w0.cell? ⟨q, 0, none⟩ = some (.bool f2) := H0.out.s2.cell 0
  have v1 : w0.cell? ⟨q, 1, none⟩ = some (.slice b1 m1 d1) := H0.out.s2.cell 1
  have v2 : w0.cell? ⟨q, 2, none⟩ = some (.slice b2 m2 d2) := H0.out.s2.cell 2
  have v3 : w0.cell? ⟨q, 3, none⟩ = some (.slice b3 m3 d3) := H0.out.s2.cell 3
  by_cases hf : f1 = f2
  case neg =>
    have HNE : Hid (P ≠ Q) := Lib.hid (fun h => hf (by rw [← HL1.out, ← HL2.out, h]))
    cases f1 <;> cases f2
    · exact absurd rfl hf
    · clear hf
      go_wp2_with fail
      go_ret
      exact saysIff_no HNE.out H0.out.old
    · clear hf
      go_wp2_with fail
      go_ret
      exact saysIff_no HNE.out H0.out.old
    · exact absurd rfl hf
  subst hf
  by_cases e1 : n1 = m1
  case neg =>
    have HNE : Hid (P ≠ Q) := Lib.hid (fun h => e1 (by rw [← HN1.out, ← HM1.out, h]))
    have q1 := ints_ne e1
    have q2 := ints_ne' e1
    clear e1
    cases f1
    all_goals go_wp2_with fail
    all_goals go_ret
    all_goals exact saysIff_no HNE.out H0.out.old
  subst e1
  by_cases e2 : n2 = m2
  case neg =>
    have HNE : Hid (P ≠ Q) := Lib.hid (fun h => e2 (by rw [← HN2.out, ← HM2.out, h]))
    have q1 := ints_ne e2
    have q2 := ints_ne' e2
    clear e2
    cases f1
    all_goals go_wp2_with fail
    all_goals go_ret
    all_goals exact saysIff_no HNE.out H0.out.old
  subst e2
  by_cases e3 : n3 = m3
  case neg =>
    have HNE : Hid (P ≠ Q) := Lib.hid (fun h => e3 (by rw [← HN3.out, ← HM3.out, h]))
    have q1 := ints_ne e3
    have q2 := ints_ne' e3
    clear e3
    cases f1
    all_goals go_wp2_with fail
    all_goals go_ret
    all_goals exact saysIff_no HNE.out H0.out.old
  subst e3
  have H1 := H0
  clear H0
  have HLL : Hid (P.leaf = Q.leaf) := Lib.hid (by rw [HL1.out, HL2.out])
  cases f1
  all_goals go_upto_region 4 with fail
  all_goals clear u0 u1 u2 u3 v0 v1 v2 v3
  · skip
    go_loopw [5] (fun iv wr => ∃ k : Nat, k ≤ n1 ∧ iv = .int .i64 (k : Int) ∧ Hid (P.ks.take k = Q.ks.take k) ∧ Hid (Sm2 w wr p q (pgA false a1 n1 c1 a2 n2 c2 a3 n3 c3) (pgA false b1 n1 d1 b2 n2 d2 b3 n3 d3))) (fun iv _ => n1 - (intOf iv).toNat)
    case atStart => exact ⟨0, Nat.zero_le _, rfl, Lib.hid (by simp), H1⟩
    case round =>
      obtain ⟨k, hk, rfl, HK, HW⟩ := hrel
      clear H1
      have u : wr.cell? ⟨p, 1, none⟩ = some (.slice a1 n1 c1) := HW.out.s1.cell 1
      by_cases hlt : k < n1
      · obtain ⟨g, off, x, rfl, hx, hr⟩ := KL.at (HP.out.ks.below HW.out.old) hlt
        obtain ⟨g2, off2, y, rfl, hy, hr2⟩ := KL.at (HQ.out.ks.below HW.out.old) hlt
        have HX := Lib.hid hx
        have HY := Lib.hid hy
        have HS0 : Hid (Sm3 w wr p q (pgA false (some ⟨g, off, none⟩) n1 c1 a2 n2 c2 a3 n3 c3) (pgA false (some ⟨g2, off2, none⟩) n1 d1 b2 n2 d2 b3 n3 d3) g (off + k * 3) g2 (off2 + k * 3) x.cs y.cs) := Lib.hid ⟨HW.out.s1, HW.out.s2, hr, hr2, HW.out.old⟩
        clear hx hr hy hr2
        by_cases hxy : x = y
        · have HQ0 : Hid ((!Ky.eqB x y) = false) := Lib.hid (by rw [Ky.eqB_iff.2 hxy]; rfl)
          have HK2 : Hid (P.ks.take (k + 1) = Q.ks.take (k + 1)) := Lib.hid (take_eqG HK.out HX.out (by rw [hxy]; exact HY.out))
          clear hxy
          go_wp2_with fail
          clear u
          refine wp_region_held_drew (S := fun w' => Sm3 w w' p q (pgA false (some ⟨g, off, none⟩) n1 c1 a2 n2 c2 a3 n3 c3) (pgA false (some ⟨g2, off2, none⟩) n1 d1 b2 n2 d2 b3 n3 d3) g (off + k * 3) g2 (off2 + k * 3) x.cs y.cs) (by kernel_rfl) HS0.out.drew (fun hS => ?_)
          refine held_take 0 47 (.pointer (some ⟨p, 1, none⟩)) rfl rfl (by kernel_rfl) (by kernel_rfl) (by kernel_rfl) (fun _ _ _ h => h) (by kernel_rfl) (fun _ _ => (by kernel_rfl)) hS ?_
          simp only [Act.put, List.setIfInBounds_toArray, List.set_cons_zero, List.set_cons_succ]
          refine held_take 1 48 (.slice (some ⟨g, off, none⟩) n1 c1) rfl rfl (by kernel_rfl) (by kernel_rfl) (by kernel_rfl) (fun _ _ _ h => h) (by kernel_rfl) (fun _ h => exec_cell rfl rfl (load_cell (by kernel_rfl) (h.s1.cell 1))) hS ?_
          simp only [Act.put, List.setIfInBounds_toArray, List.set_cons_zero, List.set_cons_succ]
          refine held_take 2 49 (.int .i64 (k : Int)) rfl rfl (by kernel_rfl) (by kernel_rfl) (by kernel_rfl) (fun _ _ _ h => h) (by kernel_rfl) (fun _ _ => rfl) hS ?_
          simp only [Act.put, List.setIfInBounds_toArray, List.set_cons_zero, List.set_cons_succ]
          refine held_take 3 50 (.pointer (some ⟨g, off + k * 3, none⟩)) rfl rfl (by kernel_rfl) (by kernel_rfl) (by kernel_rfl) (fun _ _ _ h => h) (by kernel_rfl) (fun _ _ => exec_idx32 (i := k) rfl rfl rfl rfl hlt) hS ?_
          simp only [Act.put, List.setIfInBounds_toArray, List.set_cons_zero, List.set_cons_succ]
          refine held_take 4 51 (.agg x.arr) rfl rfl (by kernel_rfl) (by kernel_rfl) (by kernel_rfl) (fun _ _ _ h => h) (by kernel_rfl) (fun _ h => exec_ld32 (p := x) rfl rfl h.e1) hS ?_
          simp only [Act.put, List.setIfInBounds_toArray, List.set_cons_zero, List.set_cons_succ]
          refine held_take 5 52 (.pointer (some ⟨q, 1, none⟩)) rfl rfl (by kernel_rfl) (by kernel_rfl) (by kernel_rfl) (fun _ _ _ h => h) (by kernel_rfl) (fun _ _ => (by kernel_rfl)) hS ?_
          simp only [Act.put, List.setIfInBounds_toArray, List.set_cons_zero, List.set_cons_succ]
          refine held_take 6 53 (.slice (some ⟨g2, off2, none⟩) n1 d1) rfl rfl (by kernel_rfl) (by kernel_rfl) (by kernel_rfl) (fun _ _ _ h => h) (by kernel_rfl) (fun _ h => exec_cell rfl rfl (load_cell (by kernel_rfl) (h.s2.cell 1))) hS ?_
          simp only [Act.put, List.setIfInBounds_toArray, List.set_cons_zero, List.set_cons_succ]
          refine held_take 7 54 (.int .i64 (k : Int)) rfl rfl (by kernel_rfl) (by kernel_rfl) (by kernel_rfl) (fun _ _ _ h => h) (by kernel_rfl) (fun _ _ => rfl) hS ?_
          simp only [Act.put, List.setIfInBounds_toArray, List.set_cons_zero, List.set_cons_succ]
          refine held_take 8 55 (.pointer (some ⟨g2, off2 + k * 3, none⟩)) rfl rfl (by kernel_rfl) (by kernel_rfl) (by kernel_rfl) (fun _ _ _ h => h) (by kernel_rfl) (fun _ _ => exec_idx32 (i := k) rfl rfl rfl rfl hlt) hS ?_
          simp only [Act.put, List.setIfInBounds_toArray, List.set_cons_zero, List.set_cons_succ]
          refine held_take 9 56 (.agg y.arr) rfl rfl (by kernel_rfl) (by kernel_rfl) (by kernel_rfl) (fun _ _ _ h => h) (by kernel_rfl) (fun _ h => exec_ld32 (p := y) rfl rfl h.e2) hS ?_
          simp only [Act.put, List.setIfInBounds_toArray, List.set_cons_zero, List.set_cons_succ]
          refine held_take 10 57 (.bool false) rfl rfl (by kernel_rfl) (by kernel_rfl) (by kernel_rfl) (fun _ _ _ h => h) (by kernel_rfl) (fun _ _ => exec_neq32 rfl rfl rfl HQ0.out) hS ?_
          simp only [Act.put, List.setIfInBounds_toArray, List.set_cons_zero, List.set_cons_succ]
          refine wpAnyH_done (by kernel_rfl) ?_ _
          have HS2 := Lib.hid hS
          clear hS
          go_wp2_with fail
          go_roundw
          case rel => exact ⟨k + 1, hlt, by go_num, HK2, Lib.hid ⟨HS2.out.s1, HS2.out.s2, HS2.out.old⟩⟩
          case measure => simp [intOf]; omega
        · have HQ0 : Hid ((!Ky.eqB x y) = true) := by
            refine Lib.hid ?_
            cases h : Ky.eqB x y
            · rfl
            · exact absurd (Ky.eqB_iff.1 h) hxy
          have HNE : Hid (P ≠ Q) := Lib.hid (fun h => take_neG HX.out HY.out hxy (by rw [h]))
          clear hxy
          go_wp2_with fail
          clear u
          refine wp_region_held_drew (S := fun w' => Sm3 w w' p q (pgA false (some ⟨g, off, none⟩) n1 c1 a2 n2 c2 a3 n3 c3) (pgA false (some ⟨g2, off2, none⟩) n1 d1 b2 n2 d2 b3 n3 d3) g (off + k * 3) g2 (off2 + k * 3) x.cs y.cs) (by kernel_rfl) HS0.out.drew (fun hS => ?_)
          refine held_take 0 47 (.pointer (some ⟨p, 1, none⟩)) rfl rfl (by kernel_rfl) (by kernel_rfl) (by kernel_rfl) (fun _ _ _ h => h) (by kernel_rfl) (fun _ _ => (by kernel_rfl)) hS ?_
          simp only [Act.put, List.setIfInBounds_toArray, List.set_cons_zero, List.set_cons_succ]
          refine held_take 1 48 (.slice (some ⟨g, off, none⟩) n1 c1) rfl rfl (by kernel_rfl) (by kernel_rfl) (by kernel_rfl) (fun _ _ _ h => h) (by kernel_rfl) (fun _ h => exec_cell rfl rfl (load_cell (by kernel_rfl) (h.s1.cell 1))) hS ?_
          simp only [Act.put, List.setIfInBounds_toArray, List.set_cons_zero, List.set_cons_succ]
          refine held_take 2 49 (.int .i64 (k : Int)) rfl rfl (by kernel_rfl) (by kernel_rfl) (by kernel_rfl) (fun _ _ _ h => h) (by kernel_rfl) (fun _ _ => rfl) hS ?_
          simp only [Act.put, List.setIfInBounds_toArray, List.set_cons_zero, List.set_cons_succ]
          refine held_take 3 50 (.pointer (some ⟨g, off + k * 3, none⟩)) rfl rfl (by kernel_rfl) (by kernel_rfl) (by kernel_rfl) (fun _ _ _ h => h) (by kernel_rfl) (fun _ _ => exec_idx32 (i := k) rfl rfl rfl rfl hlt) hS ?_
          simp only [Act.put, List.setIfInBounds_toArray, List.set_cons_zero, List.set_cons_succ]
          refine held_take 4 51 (.agg x.arr) rfl rfl (by kernel_rfl) (by kernel_rfl) (by kernel_rfl) (fun _ _ _ h => h) (by kernel_rfl) (fun _ h => exec_ld32 (p := x) rfl rfl h.e1) hS ?_
          simp only [Act.put, List.setIfInBounds_toArray, List.set_cons_zero, List.set_cons_succ]
          refine held_take 5 52 (.pointer (some ⟨q, 1, none⟩)) rfl rfl (by kernel_rfl) (by kernel_rfl) (by kernel_rfl) (fun _ _ _ h => h) (by kernel_rfl) (fun _ _ => (by kernel_rfl)) hS ?_
          simp only [Act.put, List.setIfInBounds_toArray, List.set_cons_zero, List.set_cons_succ]
          refine held_take 6 53 (.slice (some ⟨g2, off2, none⟩) n1 d1) rfl rfl (by kernel_rfl) (by kernel_rfl) (by kernel_rfl) (fun _ _ _ h => h) (by kernel_rfl) (fun _ h => exec_cell rfl rfl (load_cell (by kernel_rfl) (h.s2.cell 1))) hS ?_
          simp only [Act.put, List.setIfInBounds_toArray, List.set_cons_zero, List.set_cons_succ]
          refine held_take 7 54 (.int .i64 (k : Int)) rfl rfl (by kernel_rfl) (by kernel_rfl) (by kernel_rfl) (fun _ _ _ h => h) (by kernel_rfl) (fun _ _ => rfl) hS ?_
          simp only [Act.put, List.setIfInBounds_toArray, List.set_cons_zero, List.set_cons_succ]
          refine held_take 8 55 (.pointer (some ⟨g2, off2 + k * 3, none⟩)) rfl rfl (by kernel_rfl) (by kernel_rfl) (by kernel_rfl) (fun _ _ _ h => h) (by kernel_rfl) (fun _ _ => exec_idx32 (i := k) rfl rfl rfl rfl hlt) hS ?_
          simp only [Act.put, List.setIfInBounds_toArray, List.set_cons_zero, List.set_cons_succ]
          refine held_take 9 56 (.agg y.arr) rfl rfl (by kernel_rfl) (by kernel_rfl) (by kernel_rfl) (fun _ _ _ h => h) (by kernel_rfl) (fun _ h => exec_ld32 (p := y) rfl rfl h.e2) hS ?_
          simp only [Act.put, List.setIfInBounds_toArray, List.set_cons_zero, List.set_cons_succ]
          refine held_take 10 57 (.bool true) rfl rfl (by kernel_rfl) (by kernel_rfl) (by kernel_rfl) (fun _ _ _ h => h) (by kernel_rfl) (fun _ _ => exec_neq32 rfl rfl rfl HQ0.out) hS ?_
          simp only [Act.put, List.setIfInBounds_toArray, List.set_cons_zero, List.set_cons_succ]
          refine wpAnyH_done (by kernel_rfl) ?_ _
          have HS2 := Lib.hid hS
          clear hS
          go_wp2_with fail
          go_ret
          exact saysIff_no HNE.out HS2.out.old
      · have HA1 : Hid (P.ks = Q.ks) := Lib.hid (by have := HK.out; rwa [List.take_of_length_le (by have := HN1.out; omega), List.take_of_length_le (by have := HM1.out; omega)] at this)
        have H2 := HW
        clear HW HK
        go_wp2_with fail
        clear u
        go_loopw [6] (fun iv wr => ∃ k : Nat, k ≤ n2 ∧ iv = .int .i64 (k : Int) ∧ Hid (P.ls.take k = Q.ls.take k) ∧ Hid (Sm2 w wr p q (pgA false a1 n1 c1 a2 n2 c2 a3 n3 c3) (pgA false b1 n1 d1 b2 n2 d2 b3 n3 d3))) (fun iv _ => n2 - (intOf iv).toNat)
        case atStart => exact ⟨0, Nat.zero_le _, rfl, Lib.hid (by simp), H2⟩
        case round =>
          obtain ⟨k, hk, rfl, HK, HW⟩ := hrel
          clear H2
          have u : wr.cell? ⟨p, 2, none⟩ = some (.slice a2 n2 c2) := HW.out.s1.cell 2
          by_cases hlt : k < n2
          · obtain ⟨g, off, x, rfl, hx, hr⟩ := LL.at (HP.out.ls.below HW.out.old) hlt
            obtain ⟨g2, off2, y, rfl, hy, hr2⟩ := LL.at (HQ.out.ls.below HW.out.old) hlt
            have HX := Lib.hid hx
            have HY := Lib.hid hy
            have HS0 : Hid (Sm3 w wr p q (pgA false a1 n1 c1 (some ⟨g, off, none⟩) n2 c2 a3 n3 c3) (pgA false b1 n1 d1 (some ⟨g2, off2, none⟩) n2 d2 b3 n3 d3) g (off + k * 2) g2 (off2 + k * 2) x.cs y.cs) := Lib.hid ⟨HW.out.s1, HW.out.s2, hr, hr2, HW.out.old⟩
            clear hx hr hy hr2
            by_cases hxy : x = y
            · have HQ0 : Hid ((!Lo.eqB x y) = false) := Lib.hid (by rw [Lo.eqB_iff.2 hxy]; rfl)
              have HK2 : Hid (P.ls.take (k + 1) = Q.ls.take (k + 1)) := Lib.hid (take_eqG HK.out HX.out (by rw [hxy]; exact HY.out))
              clear hxy
              go_wp2_with fail
              clear u
              refine wp_region_held_drew (S := fun w' => Sm3 w w' p q (pgA false a1 n1 c1 (some ⟨g, off, none⟩) n2 c2 a3 n3 c3) (pgA false b1 n1 d1 (some ⟨g2, off2, none⟩) n2 d2 b3 n3 d3) g (off + k * 2) g2 (off2 + k * 2) x.cs y.cs) (by kernel_rfl) HS0.out.drew (fun hS => ?_)
              refine held_take 0 65 (.pointer (some ⟨p, 2, none⟩)) rfl rfl (by kernel_rfl) (by kernel_rfl) (by kernel_rfl) (fun _ _ _ h => h) (by kernel_rfl) (fun _ _ => (by kernel_rfl)) hS ?_
              simp only [Act.put, List.setIfInBounds_toArray, List.set_cons_zero, List.set_cons_succ]
              refine held_take 1 66 (.slice (some ⟨g, off, none⟩) n2 c2) rfl rfl (by kernel_rfl) (by kernel_rfl) (by kernel_rfl) (fun _ _ _ h => h) (by kernel_rfl) (fun _ h => exec_cell rfl rfl (load_cell (by kernel_rfl) (h.s1.cell 2))) hS ?_
              simp only [Act.put, List.setIfInBounds_toArray, List.set_cons_zero, List.set_cons_succ]
              refine held_take 2 67 (.int .i64 (k : Int)) rfl rfl (by kernel_rfl) (by kernel_rfl) (by kernel_rfl) (fun _ _ _ h => h) (by kernel_rfl) (fun _ _ => rfl) hS ?_
              simp only [Act.put, List.setIfInBounds_toArray, List.set_cons_zero, List.set_cons_succ]
              refine held_take 3 68 (.pointer (some ⟨g, off + k * 2, none⟩)) rfl rfl (by kernel_rfl) (by kernel_rfl) (by kernel_rfl) (fun _ _ _ h => h) (by kernel_rfl) (fun _ _ => exec_idx67 (i := k) rfl rfl rfl rfl hlt) hS ?_
              simp only [Act.put, List.setIfInBounds_toArray, List.set_cons_zero, List.set_cons_succ]
              refine held_take 4 69 (.agg x.arr) rfl rfl (by kernel_rfl) (by kernel_rfl) (by kernel_rfl) (fun _ _ _ h => h) (by kernel_rfl) (fun _ h => exec_ld67 (p := x) rfl rfl h.e1) hS ?_
              simp only [Act.put, List.setIfInBounds_toArray, List.set_cons_zero, List.set_cons_succ]
              refine held_take 5 70 (.pointer (some ⟨q, 2, none⟩)) rfl rfl (by kernel_rfl) (by kernel_rfl) (by kernel_rfl) (fun _ _ _ h => h) (by kernel_rfl) (fun _ _ => (by kernel_rfl)) hS ?_
              simp only [Act.put, List.setIfInBounds_toArray, List.set_cons_zero, List.set_cons_succ]
              refine held_take 6 71 (.slice (some ⟨g2, off2, none⟩) n2 d2) rfl rfl (by kernel_rfl) (by kernel_rfl) (by kernel_rfl) (fun _ _ _ h => h) (by kernel_rfl) (fun _ h => exec_cell rfl rfl (load_cell (by kernel_rfl) (h.s2.cell 2))) hS ?_
              simp only [Act.put, List.setIfInBounds_toArray, List.set_cons_zero, List.set_cons_succ]
              refine held_take 7 72 (.int .i64 (k : Int)) rfl rfl (by kernel_rfl) (by kernel_rfl) (by kernel_rfl) (fun _ _ _ h => h) (by kernel_rfl) (fun _ _ => rfl) hS ?_
              simp only [Act.put, List.setIfInBounds_toArray, List.set_cons_zero, List.set_cons_succ]
              refine held_take 8 73 (.pointer (some ⟨g2, off2 + k * 2, none⟩)) rfl rfl (by kernel_rfl) (by kernel_rfl) (by kernel_rfl) (fun _ _ _ h => h) (by kernel_rfl) (fun _ _ => exec_idx67 (i := k) rfl rfl rfl rfl hlt) hS ?_
              simp only [Act.put, List.setIfInBounds_toArray, List.set_cons_zero, List.set_cons_succ]
              refine held_take 9 74 (.agg y.arr) rfl rfl (by kernel_rfl) (by kernel_rfl) (by kernel_rfl) (fun _ _ _ h => h) (by kernel_rfl) (fun _ h => exec_ld67 (p := y) rfl rfl h.e2) hS ?_
              simp only [Act.put, List.setIfInBounds_toArray, List.set_cons_zero, List.set_cons_succ]
              refine held_take 10 75 (.bool false) rfl rfl (by kernel_rfl) (by kernel_rfl) (by kernel_rfl) (fun _ _ _ h => h) (by kernel_rfl) (fun _ _ => exec_neq67 rfl rfl rfl HQ0.out) hS ?_
              simp only [Act.put, List.setIfInBounds_toArray, List.set_cons_zero, List.set_cons_succ]
              refine wpAnyH_done (by kernel_rfl) ?_ _
              have HS2 := Lib.hid hS
              clear hS
              go_wp2_with fail
              go_roundw
              case rel => exact ⟨k + 1, hlt, by go_num, HK2, Lib.hid ⟨HS2.out.s1, HS2.out.s2, HS2.out.old⟩⟩
              case measure => simp [intOf]; omega
            · have HQ0 : Hid ((!Lo.eqB x y) = true) := by
                refine Lib.hid ?_
                cases h : Lo.eqB x y
                · rfl
                · exact absurd (Lo.eqB_iff.1 h) hxy
              have HNE : Hid (P ≠ Q) := Lib.hid (fun h => take_neG HX.out HY.out hxy (by rw [h]))
              clear hxy
              go_wp2_with fail
              clear u
              refine wp_region_held_drew (S := fun w' => Sm3 w w' p q (pgA false a1 n1 c1 (some ⟨g, off, none⟩) n2 c2 a3 n3 c3) (pgA false b1 n1 d1 (some ⟨g2, off2, none⟩) n2 d2 b3 n3 d3) g (off + k * 2) g2 (off2 + k * 2) x.cs y.cs) (by kernel_rfl) HS0.out.drew (fun hS => ?_)
              refine held_take 0 65 (.pointer (some ⟨p, 2, none⟩)) rfl rfl (by kernel_rfl) (by kernel_rfl) (by kernel_rfl) (fun _ _ _ h => h) (by kernel_rfl) (fun _ _ => (by kernel_rfl)) hS ?_
              simp only [Act.put, List.setIfInBounds_toArray, List.set_cons_zero, List.set_cons_succ]
              refine held_take 1 66 (.slice (some ⟨g, off, none⟩) n2 c2) rfl rfl (by kernel_rfl) (by kernel_rfl) (by kernel_rfl) (fun _ _ _ h => h) (by kernel_rfl) (fun _ h => exec_cell rfl rfl (load_cell (by kernel_rfl) (h.s1.cell 2))) hS ?_
              simp only [Act.put, List.setIfInBounds_toArray, List.set_cons_zero, List.set_cons_succ]
              refine held_take 2 67 (.int .i64 (k : Int)) rfl rfl (by kernel_rfl) (by kernel_rfl) (by kernel_rfl) (fun _ _ _ h => h) (by kernel_rfl) (fun _ _ => rfl) hS ?_
              simp only [Act.put, List.setIfInBounds_toArray, List.set_cons_zero, List.set_cons_succ]
              refine held_take 3 68 (.pointer (some ⟨g, off + k * 2, none⟩)) rfl rfl (by kernel_rfl) (by kernel_rfl) (by kernel_rfl) (fun _ _ _ h => h) (by kernel_rfl) (fun _ _ => exec_idx67 (i := k) rfl rfl rfl rfl hlt) hS ?_
              simp only [Act.put, List.setIfInBounds_toArray, List.set_cons_zero, List.set_cons_succ]
              refine held_take 4 69 (.agg x.arr) rfl rfl (by kernel_rfl) (by kernel_rfl) (by kernel_rfl) (fun _ _ _ h => h) (by kernel_rfl) (fun _ h => exec_ld67 (p := x) rfl rfl h.e1) hS ?_
              simp only [Act.put, List.setIfInBounds_toArray, List.set_cons_zero, List.set_cons_succ]
              refine held_take 5 70 (.pointer (some ⟨q, 2, none⟩)) rfl rfl (by kernel_rfl) (by kernel_rfl) (by kernel_rfl) (fun _ _ _ h => h) (by kernel_rfl) (fun _ _ => (by kernel_rfl)) hS ?_
              simp only [Act.put, List.setIfInBounds_toArray, List.set_cons_zero, List.set_cons_succ]
              refine held_take 6 71 (.slice (some ⟨g2, off2, none⟩) n2 d2) rfl rfl (by kernel_rfl) (by kernel_rfl) (by kernel_rfl) (fun _ _ _ h => h) (by kernel_rfl) (fun _ h => exec_cell rfl rfl (load_cell (by kernel_rfl) (h.s2.cell 2))) hS ?_
              simp only [Act.put, List.setIfInBounds_toArray, List.set_cons_zero, List.set_cons_succ]
              refine held_take 7 72 (.int .i64 (k : Int)) rfl rfl (by kernel_rfl) (by kernel_rfl) (by kernel_rfl) (fun _ _ _ h => h) (by kernel_rfl) (fun _ _ => rfl) hS ?_
              simp only [Act.put, List.setIfInBounds_toArray, List.set_cons_zero, List.set_cons_succ]
              refine held_take 8 73 (.pointer (some ⟨g2, off2 + k * 2, none⟩)) rfl rfl (by kernel_rfl) (by kernel_rfl) (by kernel_rfl) (fun _ _ _ h => h) (by kernel_rfl) (fun _ _ => exec_idx67 (i := k) rfl rfl rfl rfl hlt) hS ?_
              simp only [Act.put, List.setIfInBounds_toArray, List.set_cons_zero, List.set_cons_succ]
              refine held_take 9 74 (.agg y.arr) rfl rfl (by kernel_rfl) (by kernel_rfl) (by kernel_rfl) (fun _ _ _ h => h) (by kernel_rfl) (fun _ h => exec_ld67 (p := y) rfl rfl h.e2) hS ?_
              simp only [Act.put, List.setIfInBounds_toArray, List.set_cons_zero, List.set_cons_succ]
              refine held_take 10 75 (.bool true) rfl rfl (by kernel_rfl) (by kernel_rfl) (by kernel_rfl) (fun _ _ _ h => h) (by kernel_rfl) (fun _ _ => exec_neq67 rfl rfl rfl HQ0.out) hS ?_
              simp only [Act.put, List.setIfInBounds_toArray, List.set_cons_zero, List.set_cons_succ]
              refine wpAnyH_done (by kernel_rfl) ?_ _
              have HS2 := Lib.hid hS
              clear hS
              go_wp2_with fail
              go_ret
              exact saysIff_no HNE.out HS2.out.old
          · have HA2 : Hid (P.ls = Q.ls) := Lib.hid (by have := HK.out; rwa [List.take_of_length_le (by have := HN2.out; omega), List.take_of_length_le (by have := HM2.out; omega)] at this)
            have H3 := HW
            clear HW HK
            go_wp2_with fail
            clear u
            go_loopw [7] (fun iv wr => ∃ k : Nat, k ≤ n3 ∧ iv = .int .i64 (k : Int) ∧ Hid (P.ds.take k = Q.ds.take k) ∧ Hid (Sm2 w wr p q (pgA false a1 n1 c1 a2 n2 c2 a3 n3 c3) (pgA false b1 n1 d1 b2 n2 d2 b3 n3 d3))) (fun iv _ => n3 - (intOf iv).toNat)
            case atStart => exact ⟨0, Nat.zero_le _, rfl, Lib.hid (by simp), H3⟩
            case round =>
              obtain ⟨k, hk, rfl, HK, HW⟩ := hrel
              clear H3
              have u : wr.cell? ⟨p, 3, none⟩ = some (.slice a3 n3 c3) := HW.out.s1.cell 3
              by_cases hlt : k < n3
              · obtain ⟨g, off, x, rfl, hx, hr⟩ := DL.at (HP.out.ds.below HW.out.old) hlt
                obtain ⟨g2, off2, y, rfl, hy, hr2⟩ := DL.at (HQ.out.ds.below HW.out.old) hlt
                have HX := Lib.hid hx
                have HY := Lib.hid hy
                have HS0 : Hid (Sm3 w wr p q (pgA false a1 n1 c1 a2 n2 c2 (some ⟨g, off, none⟩) n3 c3) (pgA false b1 n1 d1 b2 n2 d2 (some ⟨g2, off2, none⟩) n3 d3) g (off + k * 1) g2 (off2 + k * 1) x.cs y.cs) := Lib.hid ⟨HW.out.s1, HW.out.s2, hr, hr2, HW.out.old⟩
                clear hx hr hy hr2
                by_cases hxy : x = y
                · have HQ0 : Hid ((!(x.n == y.n)) = false) := Lib.hid (by rw [hxy]; simp)
                  have HK2 : Hid (P.ds.take (k + 1) = Q.ds.take (k + 1)) := Lib.hid (take_eqG HK.out HX.out (by rw [hxy]; exact HY.out))
                  clear hxy
                  go_wp2_with fail
                  clear u
                  refine wp_region_held_drew (S := fun w' => Sm3 w w' p q (pgA false a1 n1 c1 a2 n2 c2 (some ⟨g, off, none⟩) n3 c3) (pgA false b1 n1 d1 b2 n2 d2 (some ⟨g2, off2, none⟩) n3 d3) g (off + k * 1) g2 (off2 + k * 1) x.cs y.cs) (by kernel_rfl) HS0.out.drew (fun hS => ?_)
                  refine held_take 0 83 (.pointer (some ⟨p, 3, none⟩)) rfl rfl (by kernel_rfl) (by kernel_rfl) (by kernel_rfl) (fun _ _ _ h => h) (by kernel_rfl) (fun _ _ => (by kernel_rfl)) hS ?_
                  simp only [Act.put, List.setIfInBounds_toArray, List.set_cons_zero, List.set_cons_succ]
                  refine held_take 1 84 (.slice (some ⟨g, off, none⟩) n3 c3) rfl rfl (by kernel_rfl) (by kernel_rfl) (by kernel_rfl) (fun _ _ _ h => h) (by kernel_rfl) (fun _ h => exec_cell rfl rfl (load_cell (by kernel_rfl) (h.s1.cell 3))) hS ?_
                  simp only [Act.put, List.setIfInBounds_toArray, List.set_cons_zero, List.set_cons_succ]
                  refine held_take 2 85 (.int .i64 (k : Int)) rfl rfl (by kernel_rfl) (by kernel_rfl) (by kernel_rfl) (fun _ _ _ h => h) (by kernel_rfl) (fun _ _ => rfl) hS ?_
                  simp only [Act.put, List.setIfInBounds_toArray, List.set_cons_zero, List.set_cons_succ]
                  refine held_take 3 86 (.pointer (some ⟨g, off + k * 1, none⟩)) rfl rfl (by kernel_rfl) (by kernel_rfl) (by kernel_rfl) (fun _ _ _ h => h) (by kernel_rfl) (fun _ _ => exec_idx28 (i := k) rfl rfl rfl rfl hlt) hS ?_
                  simp only [Act.put, List.setIfInBounds_toArray, List.set_cons_zero, List.set_cons_succ]
                  refine held_take 4 87 (.int .u32 (x.n : Int)) rfl rfl (by kernel_rfl) (by kernel_rfl) (by kernel_rfl) (fun _ _ _ h => h) (by kernel_rfl) (fun _ h => exec_ld28 (n := x.n) rfl rfl h.e1) hS ?_
                  simp only [Act.put, List.setIfInBounds_toArray, List.set_cons_zero, List.set_cons_succ]
                  refine held_take 5 88 (.pointer (some ⟨q, 3, none⟩)) rfl rfl (by kernel_rfl) (by kernel_rfl) (by kernel_rfl) (fun _ _ _ h => h) (by kernel_rfl) (fun _ _ => (by kernel_rfl)) hS ?_
                  simp only [Act.put, List.setIfInBounds_toArray, List.set_cons_zero, List.set_cons_succ]
                  refine held_take 6 89 (.slice (some ⟨g2, off2, none⟩) n3 d3) rfl rfl (by kernel_rfl) (by kernel_rfl) (by kernel_rfl) (fun _ _ _ h => h) (by kernel_rfl) (fun _ h => exec_cell rfl rfl (load_cell (by kernel_rfl) (h.s2.cell 3))) hS ?_
                  simp only [Act.put, List.setIfInBounds_toArray, List.set_cons_zero, List.set_cons_succ]
                  refine held_take 7 90 (.int .i64 (k : Int)) rfl rfl (by kernel_rfl) (by kernel_rfl) (by kernel_rfl) (fun _ _ _ h => h) (by kernel_rfl) (fun _ _ => rfl) hS ?_
                  simp only [Act.put, List.setIfInBounds_toArray, List.set_cons_zero, List.set_cons_succ]
                  refine held_take 8 91 (.pointer (some ⟨g2, off2 + k * 1, none⟩)) rfl rfl (by kernel_rfl) (by kernel_rfl) (by kernel_rfl) (fun _ _ _ h => h) (by kernel_rfl) (fun _ _ => exec_idx28 (i := k) rfl rfl rfl rfl hlt) hS ?_
                  simp only [Act.put, List.setIfInBounds_toArray, List.set_cons_zero, List.set_cons_succ]
                  refine held_take 9 92 (.int .u32 (y.n : Int)) rfl rfl (by kernel_rfl) (by kernel_rfl) (by kernel_rfl) (fun _ _ _ h => h) (by kernel_rfl) (fun _ h => exec_ld28 (n := y.n) rfl rfl h.e2) hS ?_
                  simp only [Act.put, List.setIfInBounds_toArray, List.set_cons_zero, List.set_cons_succ]
                  refine held_take 10 93 (.bool false) rfl rfl (by kernel_rfl) (by kernel_rfl) (by kernel_rfl) (fun _ _ _ h => h) (by kernel_rfl) (fun _ _ => exec_neqN rfl rfl rfl HQ0.out) hS ?_
                  simp only [Act.put, List.setIfInBounds_toArray, List.set_cons_zero, List.set_cons_succ]
                  refine wpAnyH_done (by kernel_rfl) ?_ _
                  have HS2 := Lib.hid hS
                  clear hS
                  go_wp2_with fail
                  go_roundw
                  case rel => exact ⟨k + 1, hlt, by go_num, HK2, Lib.hid ⟨HS2.out.s1, HS2.out.s2, HS2.out.old⟩⟩
                  case measure => simp [intOf]; omega
                · have HQ0 : Hid ((!(x.n == y.n)) = true) := by
                    refine Lib.hid ?_
                    have : x.n ≠ y.n := fun h => hxy (Kd.ext' h)
                    simp [this]
                  have HNE : Hid (P ≠ Q) := Lib.hid (fun h => take_neG HX.out HY.out hxy (by rw [h]))
                  clear hxy
                  go_wp2_with fail
                  clear u
                  refine wp_region_held_drew (S := fun w' => Sm3 w w' p q (pgA false a1 n1 c1 a2 n2 c2 (some ⟨g, off, none⟩) n3 c3) (pgA false b1 n1 d1 b2 n2 d2 (some ⟨g2, off2, none⟩) n3 d3) g (off + k * 1) g2 (off2 + k * 1) x.cs y.cs) (by kernel_rfl) HS0.out.drew (fun hS => ?_)
                  refine held_take 0 83 (.pointer (some ⟨p, 3, none⟩)) rfl rfl (by kernel_rfl) (by kernel_rfl) (by kernel_rfl) (fun _ _ _ h => h) (by kernel_rfl) (fun _ _ => (by kernel_rfl)) hS ?_
                  simp only [Act.put, List.setIfInBounds_toArray, List.set_cons_zero, List.set_cons_succ]
                  refine held_take 1 84 (.slice (some ⟨g, off, none⟩) n3 c3) rfl rfl (by kernel_rfl) (by kernel_rfl) (by kernel_rfl) (fun _ _ _ h => h) (by kernel_rfl) (fun _ h => exec_cell rfl rfl (load_cell (by kernel_rfl) (h.s1.cell 3))) hS ?_
                  simp only [Act.put, List.setIfInBounds_toArray, List.set_cons_zero, List.set_cons_succ]
                  refine held_take 2 85 (.int .i64 (k : Int)) rfl rfl (by kernel_rfl) (by kernel_rfl) (by kernel_rfl) (fun _ _ _ h => h) (by kernel_rfl) (fun _ _ => rfl) hS ?_
                  simp only [Act.put, List.setIfInBounds_toArray, List.set_cons_zero, List.set_cons_succ]
                  refine held_take 3 86 (.pointer (some ⟨g, off + k * 1, none⟩)) rfl rfl (by kernel_rfl) (by kernel_rfl) (by kernel_rfl) (fun _ _ _ h => h) (by kernel_rfl) (fun _ _ => exec_idx28 (i := k) rfl rfl rfl rfl hlt) hS ?_
                  simp only [Act.put, List.setIfInBounds_toArray, List.set_cons_zero, List.set_cons_succ]
                  refine held_take 4 87 (.int .u32 (x.n : Int)) rfl rfl (by kernel_rfl) (by kernel_rfl) (by kernel_rfl) (fun _ _ _ h => h) (by kernel_rfl) (fun _ h => exec_ld28 (n := x.n) rfl rfl h.e1) hS ?_
                  simp only [Act.put, List.setIfInBounds_toArray, List.set_cons_zero, List.set_cons_succ]
                  refine held_take 5 88 (.pointer (some ⟨q, 3, none⟩)) rfl rfl (by kernel_rfl) (by kernel_rfl) (by kernel_rfl) (fun _ _ _ h => h) (by kernel_rfl) (fun _ _ => (by kernel_rfl)) hS ?_
                  simp only [Act.put, List.setIfInBounds_toArray, List.set_cons_zero, List.set_cons_succ]
                  refine held_take 6 89 (.slice (some ⟨g2, off2, none⟩) n3 d3) rfl rfl (by kernel_rfl) (by kernel_rfl) (by kernel_rfl) (fun _ _ _ h => h) (by kernel_rfl) (fun _ h => exec_cell rfl rfl (load_cell (by kernel_rfl) (h.s2.cell 3))) hS ?_
                  simp only [Act.put, List.setIfInBounds_toArray, List.set_cons_zero, List.set_cons_succ]
                  refine held_take 7 90 (.int .i64 (k : Int)) rfl rfl (by kernel_rfl) (by kernel_rfl) (by kernel_rfl) (fun _ _ _ h => h) (by kernel_rfl) (fun _ _ => rfl) hS ?_
                  simp only [Act.put, List.setIfInBounds_toArray, List.set_cons_zero, List.set_cons_succ]
                  refine held_take 8 91 (.pointer (some ⟨g2, off2 + k * 1, none⟩)) rfl rfl (by kernel_rfl) (by kernel_rfl) (by kernel_rfl) (fun _ _ _ h => h) (by kernel_rfl) (fun _ _ => exec_idx28 (i := k) rfl rfl rfl rfl hlt) hS ?_
                  simp only [Act.put, List.setIfInBounds_toArray, List.set_cons_zero, List.set_cons_succ]
                  refine held_take 9 92 (.int .u32 (y.n : Int)) rfl rfl (by kernel_rfl) (by kernel_rfl) (by kernel_rfl) (fun _ _ _ h => h) (by kernel_rfl) (fun _ h => exec_ld28 (n := y.n) rfl rfl h.e2) hS ?_
                  simp only [Act.put, List.setIfInBounds_toArray, List.set_cons_zero, List.set_cons_succ]
                  refine held_take 10 93 (.bool true) rfl rfl (by kernel_rfl) (by kernel_rfl) (by kernel_rfl) (fun _ _ _ h => h) (by kernel_rfl) (fun _ _ => exec_neqN rfl rfl rfl HQ0.out) hS ?_
                  simp only [Act.put, List.setIfInBounds_toArray, List.set_cons_zero, List.set_cons_succ]
                  refine wpAnyH_done (by kernel_rfl) ?_ _
                  have HS2 := Lib.hid hS
                  clear hS
                  go_wp2_with fail
                  go_ret
                  exact saysIff_no HNE.out HS2.out.old
              · have HA3 : Hid (P.ds = Q.ds) := Lib.hid (by have := HK.out; rwa [List.take_of_length_le (by have := HN3.out; omega), List.take_of_length_le (by have := HM3.out; omega)] at this)
                have H4 := HW
                clear HW HK
                go_wp2_with fail
                clear u
                go_ret
                exact saysIff_yes (Pg.ext' HLL.out HA1.out HA2.out HA3.out) H4.out.old
  · skip
    go_loopw [5] (fun iv wr => ∃ k : Nat, k ≤ n1 ∧ iv = .int .i64 (k : Int) ∧ Hid (P.ks.take k = Q.ks.take k) ∧ Hid (Sm2 w wr p q (pgA true a1 n1 c1 a2 n2 c2 a3 n3 c3) (pgA true b1 n1 d1 b2 n2 d2 b3 n3 d3))) (fun iv _ => n1 - (intOf iv).toNat)
    case atStart => exact ⟨0, Nat.zero_le _, rfl, Lib.hid (by simp), H1⟩
    case round =>
      obtain ⟨k, hk, rfl, HK, HW⟩ := hrel
      clear H1
      have u : wr.cell? ⟨p, 1, none⟩ = some (.slice a1 n1 c1) := HW.out.s1.cell 1
      by_cases hlt : k < n1
      · obtain ⟨g, off, x, rfl, hx, hr⟩ := KL.at (HP.out.ks.below HW.out.old) hlt
        obtain ⟨g2, off2, y, rfl, hy, hr2⟩ := KL.at (HQ.out.ks.below HW.out.old) hlt
        have HX := Lib.hid hx
        have HY := Lib.hid hy
        have HS0 : Hid (Sm3 w wr p q (pgA true (some ⟨g, off, none⟩) n1 c1 a2 n2 c2 a3 n3 c3) (pgA true (some ⟨g2, off2, none⟩) n1 d1 b2 n2 d2 b3 n3 d3) g (off + k * 3) g2 (off2 + k * 3) x.cs y.cs) := Lib.hid ⟨HW.out.s1, HW.out.s2, hr, hr2, HW.out.old⟩
        clear hx hr hy hr2
        by_cases hxy : x = y
        · have HQ0 : Hid ((!Ky.eqB x y) = false) := Lib.hid (by rw [Ky.eqB_iff.2 hxy]; rfl)
          have HK2 : Hid (P.ks.take (k + 1) = Q.ks.take (k + 1)) := Lib.hid (take_eqG HK.out HX.out (by rw [hxy]; exact HY.out))
          clear hxy
          go_wp2_with fail
          clear u
          refine wp_region_held_drew (S := fun w' => Sm3 w w' p q (pgA true (some ⟨g, off, none⟩) n1 c1 a2 n2 c2 a3 n3 c3) (pgA true (some ⟨g2, off2, none⟩) n1 d1 b2 n2 d2 b3 n3 d3) g (off + k * 3) g2 (off2 + k * 3) x.cs y.cs) (by kernel_rfl) HS0.out.drew (fun hS => ?_)
          refine held_take 0 47 (.pointer (some ⟨p, 1, none⟩)) rfl rfl (by kernel_rfl) (by kernel_rfl) (by kernel_rfl) (fun _ _ _ h => h) (by kernel_rfl) (fun _ _ => (by kernel_rfl)) hS ?_
          simp only [Act.put, List.setIfInBounds_toArray, List.set_cons_zero, List.set_cons_succ]
          refine held_take 1 48 (.slice (some ⟨g, off, none⟩) n1 c1) rfl rfl (by kernel_rfl) (by kernel_rfl) (by kernel_rfl) (fun _ _ _ h => h) (by kernel_rfl) (fun _ h => exec_cell rfl rfl (load_cell (by kernel_rfl) (h.s1.cell 1))) hS ?_
          simp only [Act.put, List.setIfInBounds_toArray, List.set_cons_zero, List.set_cons_succ]
          refine held_take 2 49 (.int .i64 (k : Int)) rfl rfl (by kernel_rfl) (by kernel_rfl) (by kernel_rfl) (fun _ _ _ h => h) (by kernel_rfl) (fun _ _ => rfl) hS ?_
          simp only [Act.put, List.setIfInBounds_toArray, List.set_cons_zero, List.set_cons_succ]
          refine held_take 3 50 (.pointer (some ⟨g, off + k * 3, none⟩)) rfl rfl (by kernel_rfl) (by kernel_rfl) (by kernel_rfl) (fun _ _ _ h => h) (by kernel_rfl) (fun _ _ => exec_idx32 (i := k) rfl rfl rfl rfl hlt) hS ?_
          simp only [Act.put, List.setIfInBounds_toArray, List.set_cons_zero, List.set_cons_succ]
          refine held_take 4 51 (.agg x.arr) rfl rfl (by kernel_rfl) (by kernel_rfl) (by kernel_rfl) (fun _ _ _ h => h) (by kernel_rfl) (fun _ h => exec_ld32 (p := x) rfl rfl h.e1) hS ?_
          simp only [Act.put, List.setIfInBounds_toArray, List.set_cons_zero, List.set_cons_succ]
          refine held_take 5 52 (.pointer (some ⟨q, 1, none⟩)) rfl rfl (by kernel_rfl) (by kernel_rfl) (by kernel_rfl) (fun _ _ _ h => h) (by kernel_rfl) (fun _ _ => (by kernel_rfl)) hS ?_
          simp only [Act.put, List.setIfInBounds_toArray, List.set_cons_zero, List.set_cons_succ]
          refine held_take 6 53 (.slice (some ⟨g2, off2, none⟩) n1 d1) rfl rfl (by kernel_rfl) (by kernel_rfl) (by kernel_rfl) (fun _ _ _ h => h) (by kernel_rfl) (fun _ h => exec_cell rfl rfl (load_cell (by kernel_rfl) (h.s2.cell 1))) hS ?_
          simp only [Act.put, List.setIfInBounds_toArray, List.set_cons_zero, List.set_cons_succ]
          refine held_take 7 54 (.int .i64 (k : Int)) rfl rfl (by kernel_rfl) (by kernel_rfl) (by kernel_rfl) (fun _ _ _ h => h) (by kernel_rfl) (fun _ _ => rfl) hS ?_
          simp only [Act.put, List.setIfInBounds_toArray, List.set_cons_zero, List.set_cons_succ]
          refine held_take 8 55 (.pointer (some ⟨g2, off2 + k * 3, none⟩)) rfl rfl (by kernel_rfl) (by kernel_rfl) (by kernel_rfl) (fun _ _ _ h => h) (by kernel_rfl) (fun _ _ => exec_idx32 (i := k) rfl rfl rfl rfl hlt) hS ?_
          simp only [Act.put, List.setIfInBounds_toArray, List.set_cons_zero, List.set_cons_succ]
          refine held_take 9 56 (.agg y.arr) rfl rfl (by kernel_rfl) (by kernel_rfl) (by kernel_rfl) (fun _ _ _ h => h) (by kernel_rfl) (fun _ h => exec_ld32 (p := y) rfl rfl h.e2) hS ?_
          simp only [Act.put, List.setIfInBounds_toArray, List.set_cons_zero, List.set_cons_succ]
          refine held_take 10 57 (.bool false) rfl rfl (by kernel_rfl) (by kernel_rfl) (by kernel_rfl) (fun _ _ _ h => h) (by kernel_rfl) (fun _ _ => exec_neq32 rfl rfl rfl HQ0.out) hS ?_
          simp only [Act.put, List.setIfInBounds_toArray, List.set_cons_zero, List.set_cons_succ]
          refine wpAnyH_done (by kernel_rfl) ?_ _
          have HS2 := Lib.hid hS
          clear hS
          go_wp2_with fail
          go_roundw
          case rel => exact ⟨k + 1, hlt, by go_num, HK2, Lib.hid ⟨HS2.out.s1, HS2.out.s2, HS2.out.old⟩⟩
          case measure => simp [intOf]; omega
        · have HQ0 : Hid ((!Ky.eqB x y) = true) := by
            refine Lib.hid ?_
            cases h : Ky.eqB x y
            · rfl
            · exact absurd (Ky.eqB_iff.1 h) hxy
          have HNE : Hid (P ≠ Q) := Lib.hid (fun h => take_neG HX.out HY.out hxy (by rw [h]))
          clear hxy
          go_wp2_with fail
          clear u
          refine wp_region_held_drew (S := fun w' => Sm3 w w' p q (pgA true (some ⟨g, off, none⟩) n1 c1 a2 n2 c2 a3 n3 c3) (pgA true (some ⟨g2, off2, none⟩) n1 d1 b2 n2 d2 b3 n3 d3) g (off + k * 3) g2 (off2 + k * 3) x.cs y.cs) (by kernel_rfl) HS0.out.drew (fun hS => ?_)
          refine held_take 0 47 (.pointer (some ⟨p, 1, none⟩)) rfl rfl (by kernel_rfl) (by kernel_rfl) (by kernel_rfl) (fun _ _ _ h => h) (by kernel_rfl) (fun _ _ => (by kernel_rfl)) hS ?_
          simp only [Act.put, List.setIfInBounds_toArray, List.set_cons_zero, List.set_cons_succ]
          refine held_take 1 48 (.slice (some ⟨g, off, none⟩) n1 c1) rfl rfl (by kernel_rfl) (by kernel_rfl) (by kernel_rfl) (fun _ _ _ h => h) (by kernel_rfl) (fun _ h => exec_cell rfl rfl (load_cell (by kernel_rfl) (h.s1.cell 1))) hS ?_
          simp only [Act.put, List.setIfInBounds_toArray, List.set_cons_zero, List.set_cons_succ]
          refine held_take 2 49 (.int .i64 (k : Int)) rfl rfl (by kernel_rfl) (by kernel_rfl) (by kernel_rfl) (fun _ _ _ h => h) (by kernel_rfl) (fun _ _ => rfl) hS ?_
          simp only [Act.put, List.setIfInBounds_toArray, List.set_cons_zero, List.set_cons_succ]
          refine held_take 3 50 (.pointer (some ⟨g, off + k * 3, none⟩)) rfl rfl (by kernel_rfl) (by kernel_rfl) (by kernel_rfl) (fun _ _ _ h => h) (by kernel_rfl) (fun _ _ => exec_idx32 (i := k) rfl rfl rfl rfl hlt) hS ?_
          simp only [Act.put, List.setIfInBounds_toArray, List.set_cons_zero, List.set_cons_succ]
          refine held_take 4 51 (.agg x.arr) rfl rfl (by kernel_rfl) (by kernel_rfl) (by kernel_rfl) (fun _ _ _ h => h) (by kernel_rfl) (fun _ h => exec_ld32 (p := x) rfl rfl h.e1) hS ?_
          simp only [Act.put, List.setIfInBounds_toArray, List.set_cons_zero, List.set_cons_succ]
          refine held_take 5 52 (.pointer (some ⟨q, 1, none⟩)) rfl rfl (by kernel_rfl) (by kernel_rfl) (by kernel_rfl) (fun _ _ _ h => h) (by kernel_rfl) (fun _ _ => (by kernel_rfl)) hS ?_
          simp only [Act.put, List.setIfInBounds_toArray, List.set_cons_zero, List.set_cons_succ]
          refine held_take 6 53 (.slice (some ⟨g2, off2, none⟩) n1 d1) rfl rfl (by kernel_rfl) (by kernel_rfl) (by kernel_rfl) (fun _ _ _ h => h) (by kernel_rfl) (fun _ h => exec_cell rfl rfl (load_cell (by kernel_rfl) (h.s2.cell 1))) hS ?_
          simp only [Act.put, List.setIfInBounds_toArray, List.set_cons_zero, List.set_cons_succ]
          refine held_take 7 54 (.int .i64 (k : Int)) rfl rfl (by kernel_rfl) (by kernel_rfl) (by kernel_rfl) (fun _ _ _ h => h) (by kernel_rfl) (fun _ _ => rfl) hS ?_
          simp only [Act.put, List.setIfInBounds_toArray, List.set_cons_zero, List.set_cons_succ]
          refine held_take 8 55 (.pointer (some ⟨g2, off2 + k * 3, none⟩)) rfl rfl (by kernel_rfl) (by kernel_rfl) (by kernel_rfl) (fun _ _ _ h => h) (by kernel_rfl) (fun _ _ => exec_idx32 (i := k) rfl rfl rfl rfl hlt) hS ?_
          simp only [Act.put, List.setIfInBounds_toArray, List.set_cons_zero, List.set_cons_succ]
          refine held_take 9 56 (.agg y.arr) rfl rfl (by kernel_rfl) (by kernel_rfl) (by kernel_rfl) (fun _ _ _ h => h) (by kernel_rfl) (fun _ h => exec_ld32 (p := y) rfl rfl h.e2) hS ?_
          simp only [Act.put, List.setIfInBounds_toArray, List.set_cons_zero, List.set_cons_succ]
          refine held_take 10 57 (.bool true) rfl rfl (by kernel_rfl) (by kernel_rfl) (by kernel_rfl) (fun _ _ _ h => h) (by kernel_rfl) (fun _ _ => exec_neq32 rfl rfl rfl HQ0.out) hS ?_
          simp only [Act.put, List.setIfInBounds_toArray, List.set_cons_zero, List.set_cons_succ]
          refine wpAnyH_done (by kernel_rfl) ?_ _
          have HS2 := Lib.hid hS
          clear hS
          go_wp2_with fail
          go_ret
          exact saysIff_no HNE.out HS2.out.old
      · have HA1 : Hid (P.ks = Q.ks) := Lib.hid (by have := HK.out; rwa [List.take_of_length_le (by have := HN1.out; omega), List.take_of_length_le (by have := HM1.out; omega)] at this)
        have H2 := HW
        clear HW HK
        go_wp2_with fail
        clear u
        go_loopw [6] (fun iv wr => ∃ k : Nat, k ≤ n2 ∧ iv = .int .i64 (k : Int) ∧ Hid (P.ls.take k = Q.ls.take k) ∧ Hid (Sm2 w wr p q (pgA true a1 n1 c1 a2 n2 c2 a3 n3 c3) (pgA true b1 n1 d1 b2 n2 d2 b3 n3 d3))) (fun iv _ => n2 - (intOf iv).toNat)
        case atStart => exact ⟨0, Nat.zero_le _, rfl, Lib.hid (by simp), H2⟩
        case round =>
          obtain ⟨k, hk, rfl, HK, HW⟩ := hrel
          clear H2
          have u : wr.cell? ⟨p, 2, none⟩ = some (.slice a2 n2 c2) := HW.out.s1.cell 2
          by_cases hlt : k < n2
          · obtain ⟨g, off, x, rfl, hx, hr⟩ := LL.at (HP.out.ls.below HW.out.old) hlt
            obtain ⟨g2, off2, y, rfl, hy, hr2⟩ := LL.at (HQ.out.ls.below HW.out.old) hlt
            have HX := Lib.hid hx
            have HY := Lib.hid hy
            have HS0 : Hid (Sm3 w wr p q (pgA true a1 n1 c1 (some ⟨g, off, none⟩) n2 c2 a3 n3 c3) (pgA true b1 n1 d1 (some ⟨g2, off2, none⟩) n2 d2 b3 n3 d3) g (off + k * 2) g2 (off2 + k * 2) x.cs y.cs) := Lib.hid ⟨HW.out.s1, HW.out.s2, hr, hr2, HW.out.old⟩
            clear hx hr hy hr2
            by_cases hxy : x = y
            · have HQ0 : Hid ((!Lo.eqB x y) = false) := Lib.hid (by rw [Lo.eqB_iff.2 hxy]; rfl)
              have HK2 : Hid (P.ls.take (k + 1) = Q.ls.take (k + 1)) := Lib.hid (take_eqG HK.out HX.out (by rw [hxy]; exact HY.out))
              clear hxy
              go_wp2_with fail
              clear u
              refine wp_region_held_drew (S := fun w' => Sm3 w w' p q (pgA true a1 n1 c1 (some ⟨g, off, none⟩) n2 c2 a3 n3 c3) (pgA true b1 n1 d1 (some ⟨g2, off2, none⟩) n2 d2 b3 n3 d3) g (off + k * 2) g2 (off2 + k * 2) x.cs y.cs) (by kernel_rfl) HS0.out.drew (fun hS => ?_)
              refine held_take 0 65 (.pointer (some ⟨p, 2, none⟩)) rfl rfl (by kernel_rfl) (by kernel_rfl) (by kernel_rfl) (fun _ _ _ h => h) (by kernel_rfl) (fun _ _ => (by kernel_rfl)) hS ?_
              simp only [Act.put, List.setIfInBounds_toArray, List.set_cons_zero, List.set_cons_succ]
              refine held_take 1 66 (.slice (some ⟨g, off, none⟩) n2 c2) rfl rfl (by kernel_rfl) (by kernel_rfl) (by kernel_rfl) (fun _ _ _ h => h) (by kernel_rfl) (fun _ h => exec_cell rfl rfl (load_cell (by kernel_rfl) (h.s1.cell 2))) hS ?_
              simp only [Act.put, List.setIfInBounds_toArray, List.set_cons_zero, List.set_cons_succ]
              refine held_take 2 67 (.int .i64 (k : Int)) rfl rfl (by kernel_rfl) (by kernel_rfl) (by kernel_rfl) (fun _ _ _ h => h) (by kernel_rfl) (fun _ _ => rfl) hS ?_
              simp only [Act.put, List.setIfInBounds_toArray, List.set_cons_zero, List.set_cons_succ]
              refine held_take 3 68 (.pointer (some ⟨g, off + k * 2, none⟩)) rfl rfl (by kernel_rfl) (by kernel_rfl) (by kernel_rfl) (fun _ _ _ h => h) (by kernel_rfl) (fun _ _ => exec_idx67 (i := k) rfl rfl rfl rfl hlt) hS ?_
              simp only [Act.put, List.setIfInBounds_toArray, List.set_cons_zero, List.set_cons_succ]
              refine held_take 4 69 (.agg x.arr) rfl rfl (by kernel_rfl) (by kernel_rfl) (by kernel_rfl) (fun _ _ _ h => h) (by kernel_rfl) (fun _ h => exec_ld67 (p := x) rfl rfl h.e1) hS ?_
              simp only [Act.put, List.setIfInBounds_toArray, List.set_cons_zero, List.set_cons_succ]
              refine held_take 5 70 (.pointer (some ⟨q, 2, none⟩)) rfl rfl (by kernel_rfl) (by kernel_rfl) (by kernel_rfl) (fun _ _ _ h => h) (by kernel_rfl) (fun _ _ => (by kernel_rfl)) hS ?_
              simp only [Act.put, List.setIfInBounds_toArray, List.set_cons_zero, List.set_cons_succ]
              refine held_take 6 71 (.slice (some ⟨g2, off2, none⟩) n2 d2) rfl rfl (by kernel_rfl) (by kernel_rfl) (by kernel_rfl) (fun _ _ _ h => h) (by kernel_rfl) (fun _ h => exec_cell rfl rfl (load_cell (by kernel_rfl) (h.s2.cell 2))) hS ?_
              simp only [Act.put, List.setIfInBounds_toArray, List.set_cons_zero, List.set_cons_succ]
              refine held_take 7 72 (.int .i64 (k : Int)) rfl rfl (by kernel_rfl) (by kernel_rfl) (by kernel_rfl) (fun _ _ _ h => h) (by kernel_rfl) (fun _ _ => rfl) hS ?_
              simp only [Act.put, List.setIfInBounds_toArray, List.set_cons_zero, List.set_cons_succ]
              refine held_take 8 73 (.pointer (some ⟨g2, off2 + k * 2, none⟩)) rfl rfl (by kernel_rfl) (by kernel_rfl) (by kernel_rfl) (fun _ _ _ h => h) (by kernel_rfl) (fun _ _ => exec_idx67 (i := k) rfl rfl rfl rfl hlt) hS ?_
              simp only [Act.put, List.setIfInBounds_toArray, List.set_cons_zero, List.set_cons_succ]
              refine held_take 9 74 (.agg y.arr) rfl rfl (by kernel_rfl) (by kernel_rfl) (by kernel_rfl) (fun _ _ _ h => h) (by kernel_rfl) (fun _ h => exec_ld67 (p := y) rfl rfl h.e2) hS ?_
              simp only [Act.put, List.setIfInBounds_toArray, List.set_cons_zero, List.set_cons_succ]
              refine held_take 10 75 (.bool false) rfl rfl (by kernel_rfl) (by kernel_rfl) (by kernel_rfl) (fun _ _ _ h => h) (by kernel_rfl) (fun _ _ => exec_neq67 rfl rfl rfl HQ0.out) hS ?_
              simp only [Act.put, List.setIfInBounds_toArray, List.set_cons_zero, List.set_cons_succ]
              refine wpAnyH_done (by kernel_rfl) ?_ _
              have HS2 := Lib.hid hS
              clear hS
              go_wp2_with fail
              go_roundw
              case rel => exact ⟨k + 1, hlt, by go_num, HK2, Lib.hid ⟨HS2.out.s1, HS2.out.s2, HS2.out.old⟩⟩
              case measure => simp [intOf]; omega
            · have HQ0 : Hid ((!Lo.eqB x y) = true) := by
                refine Lib.hid ?_
                cases h : Lo.eqB x y
                · rfl
                · exact absurd (Lo.eqB_iff.1 h) hxy
              have HNE : Hid (P ≠ Q) := Lib.hid (fun h => take_neG HX.out HY.out hxy (by rw [h]))
              clear hxy
              go_wp2_with fail
              clear u
              refine wp_region_held_drew (S := fun w' => Sm3 w w' p q (pgA true a1 n1 c1 (some ⟨g, off, none⟩) n2 c2 a3 n3 c3) (pgA true b1 n1 d1 (some ⟨g2, off2, none⟩) n2 d2 b3 n3 d3) g (off + k * 2) g2 (off2 + k * 2) x.cs y.cs) (by kernel_rfl) HS0.out.drew (fun hS => ?_)
              refine held_take 0 65 (.pointer (some ⟨p, 2, none⟩)) rfl rfl (by kernel_rfl) (by kernel_rfl) (by kernel_rfl) (fun _ _ _ h => h) (by kernel_rfl) (fun _ _ => (by kernel_rfl)) hS ?_
              simp only [Act.put, List.setIfInBounds_toArray, List.set_cons_zero, List.set_cons_succ]
              refine held_take 1 66 (.slice (some ⟨g, off, none⟩) n2 c2) rfl rfl (by kernel_rfl) (by kernel_rfl) (by kernel_rfl) (fun _ _ _ h => h) (by kernel_rfl) (fun _ h => exec_cell rfl rfl (load_cell (by kernel_rfl) (h.s1.cell 2))) hS ?_
              simp only [Act.put, List.setIfInBounds_toArray, List.set_cons_zero, List.set_cons_succ]
              refine held_take 2 67 (.int .i64 (k : Int)) rfl rfl (by kernel_rfl) (by kernel_rfl) (by kernel_rfl) (fun _ _ _ h => h) (by kernel_rfl) (fun _ _ => rfl) hS ?_
              simp only [Act.put, List.setIfInBounds_toArray, List.set_cons_zero, List.set_cons_succ]
              refine held_take 3 68 (.pointer (some ⟨g, off + k * 2, none⟩)) rfl rfl (by kernel_rfl) (by kernel_rfl) (by kernel_rfl) (fun _ _ _ h => h) (by kernel_rfl) (fun _ _ => exec_idx67 (i := k) rfl rfl rfl rfl hlt) hS ?_
              simp only [Act.put, List.setIfInBounds_toArray, List.set_cons_zero, List.set_cons_succ]
              refine held_take 4 69 (.agg x.arr) rfl rfl (by kernel_rfl) (by kernel_rfl) (by kernel_rfl) (fun _ _ _ h => h) (by kernel_rfl) (fun _ h => exec_ld67 (p := x) rfl rfl h.e1) hS ?_
              simp only [Act.put, List.setIfInBounds_toArray, List.set_cons_zero, List.set_cons_succ]
              refine held_take 5 70 (.pointer (some ⟨q, 2, none⟩)) rfl rfl (by kernel_rfl) (by kernel_rfl) (by kernel_rfl) (fun _ _ _ h => h) (by kernel_rfl) (fun _ _ => (by kernel_rfl)) hS ?_
              simp only [Act.put, List.setIfInBounds_toArray, List.set_cons_zero, List.set_cons_succ]
              refine held_take 6 71 (.slice (some ⟨g2, off2, none⟩) n2 d2) rfl rfl (by kernel_rfl) (by kernel_rfl) (by kernel_rfl) (fun _ _ _ h => h) (by kernel_rfl) (fun _ h => exec_cell rfl rfl (load_cell (by kernel_rfl) (h.s2.cell 2))) hS ?_
              simp only [Act.put, List.setIfInBounds_toArray, List.set_cons_zero, List.set_cons_succ]
              refine held_take 7 72 (.int .i64 (k : Int)) rfl rfl (by kernel_rfl) (by kernel_rfl) (by kernel_rfl) (fun _ _ _ h => h) (by kernel_rfl) (fun _ _ => rfl) hS ?_
              simp only [Act.put, List.setIfInBounds_toArray, List.set_cons_zero, List.set_cons_succ]
              refine held_take 8 73 (.pointer (some ⟨g2, off2 + k * 2, none⟩)) rfl rfl (by kernel_rfl) (by kernel_rfl) (by kernel_rfl) (fun _ _ _ h => h) (by kernel_rfl) (fun _ _ => exec_idx67 (i := k) rfl rfl rfl rfl hlt) hS ?_
              simp only [Act.put, List.setIfInBounds_toArray, List.set_cons_zero, List.set_cons_succ]
              refine held_take 9 74 (.agg y.arr) rfl rfl (by kernel_rfl) (by kernel_rfl) (by kernel_rfl) (fun _ _ _ h => h) (by kernel_rfl) (fun _ h => exec_ld67 (p := y) rfl rfl h.e2) hS ?_
              simp only [Act.put, List.setIfInBounds_toArray, List.set_cons_zero, List.set_cons_succ]
              refine held_take 10 75 (.bool true) rfl rfl (by kernel_rfl) (by kernel_rfl) (by kernel_rfl) (fun _ _ _ h => h) (by kernel_rfl) (fun _ _ => exec_neq67 rfl rfl rfl HQ0.out) hS ?_
              simp only [Act.put, List.setIfInBounds_toArray, List.set_cons_zero, List.set_cons_succ]
              refine wpAnyH_done (by kernel_rfl) ?_ _
              have HS2 := Lib.hid hS
              clear hS
              go_wp2_with fail
              go_ret
              exact saysIff_no HNE.out HS2.out.old
          · have HA2 : Hid (P.ls = Q.ls) := Lib.hid (by have := HK.out; rwa [List.take_of_length_le (by have := HN2.out; omega), List.take_of_length_le (by have := HM2.out; omega)] at this)
            have H3 := HW
            clear HW HK
            go_wp2_with fail
            clear u
            go_loopw [7] (fun iv wr => ∃ k : Nat, k ≤ n3 ∧ iv = .int .i64 (k : Int) ∧ Hid (P.ds.take k = Q.ds.take k) ∧ Hid (Sm2 w wr p q (pgA true a1 n1 c1 a2 n2 c2 a3 n3 c3) (pgA true b1 n1 d1 b2 n2 d2 b3 n3 d3))) (fun iv _ => n3 - (intOf iv).toNat)
            case atStart => exact ⟨0, Nat.zero_le _, rfl, Lib.hid (by simp), H3⟩
            case round =>
              obtain ⟨k, hk, rfl, HK, HW⟩ := hrel
              clear H3
              have u : wr.cell? ⟨p, 3, none⟩ = some (.slice a3 n3 c3) := HW.out.s1.cell 3
              by_cases hlt : k < n3
              · obtain ⟨g, off, x, rfl, hx, hr⟩ := DL.at (HP.out.ds.below HW.out.old) hlt
                obtain ⟨g2, off2, y, rfl, hy, hr2⟩ := DL.at (HQ.out.ds.below HW.out.old) hlt
                have HX := Lib.hid hx
                have HY := Lib.hid hy
                have HS0 : Hid (Sm3 w wr p q (pgA true a1 n1 c1 a2 n2 c2 (some ⟨g, off, none⟩) n3 c3) (pgA true b1 n1 d1 b2 n2 d2 (some ⟨g2, off2, none⟩) n3 d3) g (off + k * 1) g2 (off2 + k * 1) x.cs y.cs) := Lib.hid ⟨HW.out.s1, HW.out.s2, hr, hr2, HW.out.old⟩
                clear hx hr hy hr2
                by_cases hxy : x = y
                · have HQ0 : Hid ((!(x.n == y.n)) = false) := Lib.hid (by rw [hxy]; simp)
                  have HK2 : Hid (P.ds.take (k + 1) = Q.ds.take (k + 1)) := Lib.hid (take_eqG HK.out HX.out (by rw [hxy]; exact HY.out))
                  clear hxy
                  go_wp2_with fail
                  clear u
                  refine wp_region_held_drew (S := fun w' => Sm3 w w' p q (pgA true a1 n1 c1 a2 n2 c2 (some ⟨g, off, none⟩) n3 c3) (pgA true b1 n1 d1 b2 n2 d2 (some ⟨g2, off2, none⟩) n3 d3) g (off + k * 1) g2 (off2 + k * 1) x.cs y.cs) (by kernel_rfl) HS0.out.drew (fun hS => ?_)
                  refine held_take 0 83 (.pointer (some ⟨p, 3, none⟩)) rfl rfl (by kernel_rfl) (by kernel_rfl) (by kernel_rfl) (fun _ _ _ h => h) (by kernel_rfl) (fun _ _ => (by kernel_rfl)) hS ?_
                  simp only [Act.put, List.setIfInBounds_toArray, List.set_cons_zero, List.set_cons_succ]
                  refine held_take 1 84 (.slice (some ⟨g, off, none⟩) n3 c3) rfl rfl (by kernel_rfl) (by kernel_rfl) (by kernel_rfl) (fun _ _ _ h => h) (by kernel_rfl) (fun _ h => exec_cell rfl rfl (load_cell (by kernel_rfl) (h.s1.cell 3))) hS ?_
                  simp only [Act.put, List.setIfInBounds_toArray, List.set_cons_zero, List.set_cons_succ]
                  refine held_take 2 85 (.int .i64 (k : Int)) rfl rfl (by kernel_rfl) (by kernel_rfl) (by kernel_rfl) (fun _ _ _ h => h) (by kernel_rfl) (fun _ _ => rfl) hS ?_
                  simp only [Act.put, List.setIfInBounds_toArray, List.set_cons_zero, List.set_cons_succ]
                  refine held_take 3 86 (.pointer (some ⟨g, off + k * 1, none⟩)) rfl rfl (by kernel_rfl) (by kernel_rfl) (by kernel_rfl) (fun _ _ _ h => h) (by kernel_rfl) (fun _ _ => exec_idx28 (i := k) rfl rfl rfl rfl hlt) hS ?_
                  simp only [Act.put, List.setIfInBounds_toArray, List.set_cons_zero, List.set_cons_succ]
                  refine held_take 4 87 (.int .u32 (x.n : Int)) rfl rfl (by kernel_rfl) (by kernel_rfl) (by kernel_rfl) (fun _ _ _ h => h) (by kernel_rfl) (fun _ h => exec_ld28 (n := x.n) rfl rfl h.e1) hS ?_
                  simp only [Act.put, List.setIfInBounds_toArray, List.set_cons_zero, List.set_cons_succ]
                  refine held_take 5 88 (.pointer (some ⟨q, 3, none⟩)) rfl rfl (by kernel_rfl) (by kernel_rfl) (by kernel_rfl) (fun _ _ _ h => h) (by kernel_rfl) (fun _ _ => (by kernel_rfl)) hS ?_
                  simp only [Act.put, List.setIfInBounds_toArray, List.set_cons_zero, List.set_cons_succ]
                  refine held_take 6 89 (.slice (some ⟨g2, off2, none⟩) n3 d3) rfl rfl (by kernel_rfl) (by kernel_rfl) (by kernel_rfl) (fun _ _ _ h => h) (by kernel_rfl) (fun _ h => exec_cell rfl rfl (load_cell (by kernel_rfl) (h.s2.cell 3))) hS ?_
                  simp only [Act.put, List.setIfInBounds_toArray, List.set_cons_zero, List.set_cons_succ]
                  refine held_take 7 90 (.int .i64 (k : Int)) rfl rfl (by kernel_rfl) (by kernel_rfl) (by kernel_rfl) (fun _ _ _ h => h) (by kernel_rfl) (fun _ _ => rfl) hS ?_
                  simp only [Act.put, List.setIfInBounds_toArray, List.set_cons_zero, List.set_cons_succ]
                  refine held_take 8 91 (.pointer (some ⟨g2, off2 + k * 1, none⟩)) rfl rfl (by kernel_rfl) (by kernel_rfl) (by kernel_rfl) (fun _ _ _ h => h) (by kernel_rfl) (fun _ _ => exec_idx28 (i := k) rfl rfl rfl rfl hlt) hS ?_
                  simp only [Act.put, List.setIfInBounds_toArray, List.set_cons_zero, List.set_cons_succ]
                  refine held_take 9 92 (.int .u32 (y.n : Int)) rfl rfl (by kernel_rfl) (by kernel_rfl) (by kernel_rfl) (fun _ _ _ h => h) (by kernel_rfl) (fun _ h => exec_ld28 (n := y.n) rfl rfl h.e2) hS ?_
                  simp only [Act.put, List.setIfInBounds_toArray, List.set_cons_zero, List.set_cons_succ]
                  refine held_take 10 93 (.bool false) rfl rfl (by kernel_rfl) (by kernel_rfl) (by kernel_rfl) (fun _ _ _ h => h) (by kernel_rfl) (fun _ _ => exec_neqN rfl rfl rfl HQ0.out) hS ?_
                  simp only [Act.put, List.setIfInBounds_toArray, List.set_cons_zero, List.set_cons_succ]
                  refine wpAnyH_done (by kernel_rfl) ?_ _
                  have HS2 := Lib.hid hS
                  clear hS
                  go_wp2_with fail
                  go_roundw
                  case rel => exact ⟨k + 1, hlt, by go_num, HK2, Lib.hid ⟨HS2.out.s1, HS2.out.s2, HS2.out.old⟩⟩
                  case measure => simp [intOf]; omega
                · have HQ0 : Hid ((!(x.n == y.n)) = true) := by
                    refine Lib.hid ?_
                    have : x.n ≠ y.n := fun h => hxy (Kd.ext' h)
                    simp [this]
                  have HNE : Hid (P ≠ Q) := Lib.hid (fun h => take_neG HX.out HY.out hxy (by rw [h]))
                  clear hxy
                  go_wp2_with fail
                  clear u
                  refine wp_region_held_drew (S := fun w' => Sm3 w w' p q (pgA true a1 n1 c1 a2 n2 c2 (some ⟨g, off, none⟩) n3 c3) (pgA true b1 n1 d1 b2 n2 d2 (some ⟨g2, off2, none⟩) n3 d3) g (off + k * 1) g2 (off2 + k * 1) x.cs y.cs) (by kernel_rfl) HS0.out.drew (fun hS => ?_)
                  refine held_take 0 83 (.pointer (some ⟨p, 3, none⟩)) rfl rfl (by kernel_rfl) (by kernel_rfl) (by kernel_rfl) (fun _ _ _ h => h) (by kernel_rfl) (fun _ _ => (by kernel_rfl)) hS ?_
                  simp only [Act.put, List.setIfInBounds_toArray, List.set_cons_zero, List.set_cons_succ]
                  refine held_take 1 84 (.slice (some ⟨g, off, none⟩) n3 c3) rfl rfl (by kernel_rfl) (by kernel_rfl) (by kernel_rfl) (fun _ _ _ h => h) (by kernel_rfl) (fun _ h => exec_cell rfl rfl (load_cell (by kernel_rfl) (h.s1.cell 3))) hS ?_
                  simp only [Act.put, List.setIfInBounds_toArray, List.set_cons_zero, List.set_cons_succ]
                  refine held_take 2 85 (.int .i64 (k : Int)) rfl rfl (by kernel_rfl) (by kernel_rfl) (by kernel_rfl) (fun _ _ _ h => h) (by kernel_rfl) (fun _ _ => rfl) hS ?_
                  simp only [Act.put, List.setIfInBounds_toArray, List.set_cons_zero, List.set_cons_succ]
                  refine held_take 3 86 (.pointer (some ⟨g, off + k * 1, none⟩)) rfl rfl (by kernel_rfl) (by kernel_rfl) (by kernel_rfl) (fun _ _ _ h => h) (by kernel_rfl) (fun _ _ => exec_idx28 (i := k) rfl rfl rfl rfl hlt) hS ?_
                  simp only [Act.put, List.setIfInBounds_toArray, List.set_cons_zero, List.set_cons_succ]
                  refine held_take 4 87 (.int .u32 (x.n : Int)) rfl rfl (by kernel_rfl) (by kernel_rfl) (by kernel_rfl) (fun _ _ _ h => h) (by kernel_rfl) (fun _ h => exec_ld28 (n := x.n) rfl rfl h.e1) hS ?_
                  simp only [Act.put, List.setIfInBounds_toArray, List.set_cons_zero, List.set_cons_succ]
                  refine held_take 5 88 (.pointer (some ⟨q, 3, none⟩)) rfl rfl (by kernel_rfl) (by kernel_rfl) (by kernel_rfl) (fun _ _ _ h => h) (by kernel_rfl) (fun _ _ => (by kernel_rfl)) hS ?_
                  simp only [Act.put, List.setIfInBounds_toArray, List.set_cons_zero, List.set_cons_succ]
                  refine held_take 6 89 (.slice (some ⟨g2, off2, none⟩) n3 d3) rfl rfl (by kernel_rfl) (by kernel_rfl) (by kernel_rfl) (fun _ _ _ h => h) (by kernel_rfl) (fun _ h => exec_cell rfl rfl (load_cell (by kernel_rfl) (h.s2.cell 3))) hS ?_
                  simp only [Act.put, List.setIfInBounds_toArray, List.set_cons_zero, List.set_cons_succ]
                  refine held_take 7 90 (.int .i64 (k : Int)) rfl rfl (by kernel_rfl) (by kernel_rfl) (by kernel_rfl) (fun _ _ _ h => h) (by kernel_rfl) (fun _ _ => rfl) hS ?_
                  simp only [Act.put, List.setIfInBounds_toArray, List.set_cons_zero, List.set_cons_succ]
                  refine held_take 8 91 (.pointer (some ⟨g2, off2 + k * 1, none⟩)) rfl rfl (by kernel_rfl) (by kernel_rfl) (by kernel_rfl) (fun _ _ _ h => h) (by kernel_rfl) (fun _ _ => exec_idx28 (i := k) rfl rfl rfl rfl hlt) hS ?_
                  simp only [Act.put, List.setIfInBounds_toArray, List.set_cons_zero, List.set_cons_succ]
                  refine held_take 9 92 (.int .u32 (y.n : Int)) rfl rfl (by kernel_rfl) (by kernel_rfl) (by kernel_rfl) (fun _ _ _ h => h) (by kernel_rfl) (fun _ h => exec_ld28 (n := y.n) rfl rfl h.e2) hS ?_
                  simp only [Act.put, List.setIfInBounds_toArray, List.set_cons_zero, List.set_cons_succ]
                  refine held_take 10 93 (.bool true) rfl rfl (by kernel_rfl) (by kernel_rfl) (by kernel_rfl) (fun _ _ _ h => h) (by kernel_rfl) (fun _ _ => exec_neqN rfl rfl rfl HQ0.out) hS ?_
                  simp only [Act.put, List.setIfInBounds_toArray, List.set_cons_zero, List.set_cons_succ]
                  refine wpAnyH_done (by kernel_rfl) ?_ _
                  have HS2 := Lib.hid hS
                  clear hS
                  go_wp2_with fail
                  go_ret
                  exact saysIff_no HNE.out HS2.out.old
              · have HA3 : Hid (P.ds = Q.ds) := Lib.hid (by have := HK.out; rwa [List.take_of_length_le (by have := HN3.out; omega), List.take_of_length_le (by have := HM3.out; omega)] at this)
                have H4 := HW
                clear HW HK
                go_wp2_with fail
                clear u
                go_ret
                exact saysIff_yes (Pg.ext' HLL.out HA1.out HA2.out HA3.out) H4.out.old

end Go.Proofs.YtcgbkfnjohbglaaDoor
