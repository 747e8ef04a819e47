/- Walk of Add of a set of dots. -/
import Derived.Test.YtkamldmcjegjgaaGrp4
namespace Go.Proofs.Ytkamldmcjegjgaa
open Go.RowKit Go.Maps

theorem blk_cells {p : Nat} {t : TypeId} : ∀ (vs : List Value) (o : Nat) (w : World) (cs : Array Value), Blk w p t cs → ∃ ds, Blk (w.setCells p o vs) p t ds ∧ ds.size = cs.size
  | [], _, _, cs, h => ⟨cs, h, rfl⟩
  | v :: r, o, w, cs, h => by
    obtain ⟨ds, h1, h2⟩ := blk_cells r (o + 1) _ _ (h.set o v)
    exact ⟨ds, h1, by simpa using h2⟩
theorem kept_cells {p : Nat} : ∀ (vs : List Value) (o : Nat) (w : World), Kept (fun k => k = p) w (w.setCells p o vs)
  | [], _, _ => Kept.refl _ _
  | v :: r, o, w => (Kept.setCell w ⟨p, o, none⟩ v).trans (kept_cells r (o + 1) _) (fun _ h => .inl h)

/-- The object with another vector. -/
theorem obj_store {w : World} {p : Nat} {t : TypeId} {c u : V} {x : Value} (h : Blk w p t (c.obj x)) : Blk (w.setCells p 0 u.cs) p t (u.obj x) ∧ w.there p 0 u.arr.size := by
  have h17 : (c.obj x).size = 17 := by simp [V.obj, c.cs_len]
  have hth : w.there p 0 u.arr.size := fun j hj => by
    rw [u.arr_size] at hj
    refine ⟨?_, h.frozen _⟩
    rw [Nat.zero_add, h.cell, push_at c x hj]
    rfl
  refine ⟨?_, hth⟩
  obtain ⟨ds, h1, h2⟩ := blk_cells u.cs 0 w _ h
  have hds : ds = u.obj x := by
    apply Array.ext_getElem?
    intro i
    by_cases hi : i < 16
    · have := World.rangeAt_setCells_same w p 0 u.cs (by rw [u.cs_len, ← u.arr_size]; exact hth) i _ (u.cs_at hi)
      rw [Nat.zero_add, h1.cell] at this
      rw [this, push_at u x hi]
    · by_cases h16 : i = 16
      · subst h16
        rw [push_last, ← h1.cell, World.cell?_setCells_out p u.cs 0 w ⟨p, 16, none⟩ (fun _ _ => .inr (by rw [u.cs_len]; exact Nat.le_refl _)), h.cell, push_last]
      · rw [Array.getElem?_eq_none (by omega), Array.getElem?_eq_none (by simp [V.obj, u.cs_len]; omega)]
  rw [hds] at h1
  exact h1

theorem exec_storev {ev : Operand → Value} {o : Oper} {x y : Operand} {p : Nat} {c u : V} {z : Value} {t : TypeId} {w : World} (ho : o.op = .store 24 x y) (hx : ev x = .pointer (some ⟨p, 0, none⟩)) (hy : ev y = .agg u.arr) (h : Blk w p t (c.obj z)) : (execOp ev o).run Try.prog w = .ok .skip (w.setCells p 0 u.cs) := by
  have hs := run_storeAt_mid (P := Try.prog) w p 0 24 u.arr (obj_store (u := u) h).2 (by rw [u.arr_size]; exact size24) u.arr_one
  unfold execOp
  simp only [ho, hx, hy, Sem.run_bind, hs, Result.andThen_ok]
  rfl
theorem exec_alloc24 {ev : Operand → Value} {o : Oper} {w : World} (ho : o.op = .alloc 24) : (execOp ev o).run Try.prog w = .ok (.value (.pointer (some ⟨w.heap.size, 0, none⟩))) (w.alloc (.cells V.zero.arr 24)) := by
  unfold execOp
  simp only [ho, Sem.run_bind, alloc24, Result.andThen_ok]
  rfl
theorem exec_store24 {ev : Operand → Value} {o : Oper} {x y : Operand} {g : Nat} {v u : V} {w : World} (ho : o.op = .store 24 x y) (hx : ev x = .pointer (some ⟨g, 0, none⟩)) (hy : ev y = .agg u.arr) (h : Blk w g 24 v.arr) : (execOp ev o).run Try.prog w = .ok .skip (w.setRow g u.arr) := by
  unfold execOp
  simp only [ho, hx, hy, Sem.run_bind, store24 (u := u) h, Result.andThen_ok]
  rfl

/-- What Add answers. -/
def AddP (p m : Nat) (c : V) (L : List Dt) (x : Dt) (w : World) (e : Ending) (w' : World) : Prop :=
  ∃ c' L', e = .returned (.int .i64 (addE c L x : Int)) ∧ AddR c L x c' L' ∧ Grp w' p m c' L' ∧ Kept (fun k => k = p ∨ k = m) w w'

theorem add_took {w w' : World} {p m r s : Nat} {c : V} {L : List Dt} {c' : V} {L' : List Dt} (hn : Norm c L) (hd : V.dotB r s = true) (hz : c.at_ r + 1 = s) (T : Tk w w' p m r (c.put r s) L c' L') (hnot : (r, c'.at_ r + 1) ∉ L') : addE c L (r, s) = 0 ∧ AddR c L (r, s) c' L' := by
  have hok := (dotB_iff _ _).1 hd
  have hin : inB c L (r, s) = false := by
    cases hh : inB c L (r, s)
    · rfl
    · have := (inB_iff _ _ _).1 hh
      rw [← hz] at this
      exact absurd this (hn.not_next r)
  have he : addE c L (r, s) = 0 := addE_ok hd hin (by simp only; omega)
  refine ⟨he, ?_⟩
  unfold AddR
  rw [if_pos he]
  subst hz
  have hs := sum_put c hok.1 (s := c.at_ r + 1) (by omega)
  refine ⟨T.semi.norm hnot, by have := T.sum; omega, fun y => ?_, by have := T.len; omega⟩
  rw [T.mem y, in_put c L hok.1 hok.2.2 y]

theorem add_same {c : V} {L : List Dt} {x : Dt} {n : Nat} (h : addE c L x = n) (hn : n ≠ 0) : AddR c L x c L := by
  unfold AddR
  rw [if_neg (by rw [h]; exact hn)]
  exact ⟨rfl, rfl⟩

/-- The object, a dot, and a vector, that a call has laid down. -/
structure Gv (w W : World) (p m : Nat) (c : V) (L : List Dt) (x : Dt) (g : Nat) (u : V) : Prop where
  gd : Gd w W p m c L x
  vec : Blk W g 24 u.arr
  gt : w.heap.size < g
theorem Gv.drew {w W : World} {p m : Nat} {c : V} {L : List Dt} {x : Dt} {g : Nat} {u : V} (h : Gv w W p m c L x g u) : Gv w W.drew p m c L x g u := ⟨h.gd.drew, h.vec, h.gt⟩

theorem gv_new {w W : World} {p m : Nat} {c : V} {L : List Dt} {x : Dt} (h : Gd w W p m c L x) (u : V) : Gv w ((W.alloc (.cells V.zero.arr 24)).setRow W.heap.size u.arr) p m c L x W.heap.size u := by
  have k1 := Kept.setRow (W.alloc (.cells V.zero.arr 24)) W.heap.size u.arr
  have hb : Below W.heap.size W ((W.alloc (.cells V.zero.arr 24)).setRow W.heap.size u.arr) := ret_row (below_one W _) (Nat.le_refl _)
  exact ⟨h.below hb, (Blk.new W 24 V.zero.arr).row, h.dot.lt⟩

theorem gv_set {w W : World} {p m : Nat} {c : V} {L : List Dt} {x : Dt} (h : Gd w W p m c L x) {g : Nat} {z : V} (hg : Blk W g 24 z.arr) (hlt : w.heap.size < g) (u : V) : Gv w (W.setRow g u.arr) p m c L x g u := by
  have k1 := Kept.setRow W g u.arr
  have := h.lt
  refine ⟨⟨h.grp.kept k1 (by omega) (by omega), h.dot.kept k1 (by omega), h.old.trans (k1.below h.old.size (fun k hk => by omega)), h.lt⟩, hg.row, hlt⟩

theorem next_cases (c : V) (r s : Nat) : (V.dotB r s = false ∧ V.nextE c r s = 2) ∨ (V.dotB r s = true ∧ V.hasB c r s = true ∧ V.nextE c r s = 8) ∨ (V.dotB r s = true ∧ V.hasB c r s = false ∧ 1 < s - c.at_ r ∧ V.nextE c r s = 9) ∨
    (V.dotB r s = true ∧ V.hasB c r s = false ∧ c.at_ r + 1 = s ∧ V.nextE c r s = 0 ∧ V.nextV c r s = c.put r s) := by
  cases hd : V.dotB r s
  · exact .inl ⟨rfl, (next_arg hd).1⟩
  · cases hh : V.hasB c r s
    · have hgt : c.at_ r < s := by
        rcases Nat.lt_or_ge (c.at_ r) s with h1 | h1
        · exact h1
        · rw [(hasB_iff _ _ _).2 ⟨(dotB_iff _ _).1 hd, h1⟩] at hh; cases hh
      by_cases hg : 1 < s - c.at_ r
      · exact .inr (.inr (.inl ⟨rfl, rfl, hg, (next_gap hd hh hg).1⟩))
      · exact .inr (.inr (.inr ⟨rfl, rfl, by omega, next_ok hd hh hg⟩))
    · exact .inr (.inl ⟨rfl, rfl, (next_have hd hh).1⟩)

set_option maxHeartbeats 2000000 in
theorem gadd_any {w : World} {p m : Nat} {c : V} {L : List Dt} (h : Grp w p m c L) (hn : Norm c L) (x : Dt) (hx : Raw x) (hl : L.length < 1000000) : Calls Try.prog 15 #[.pointer (some ⟨p, 0, none⟩), x.val] w (AddP p m c L x w) := by
  have HT := Lib.hid (gd_new h x)
  have HX := Lib.hid hx
  have HN := Lib.hid hn
  have HL := Lib.hid hl
  have HC := Lib.hid (fun w => next_any c x.1 x.2 w hx.1 hx.2)
  have HQ := Lib.hid (next_cases c x.1 x.2)
  obtain ⟨r, s⟩ := x
  clear h hx hn hl
  simp only at HT HC HQ
  generalize V.nextE c r s = en at HC HQ
  generalize V.nextV c r s = u at HC HQ
  go_enter Try.func15, Try.ntmps15
  go_wp2_with fail
  generalize w.alloc (.cells #[.int .u8 (r : Int), .int .u32 (s : Int)] 34) = W at HT
  refine (made_any HT.out.grp).mono ?_
  rintro e w1 ⟨rfl, rfl⟩
  go_wp2_with fail
  refine Code.wp_mono (Q := fun e a' w' => e = .normal ∧ ∃ g, a' = { tmps := #[.pointer (some ⟨p, 0, none⟩), dotV r s, undef, .pointer (some ⟨w.heap.size, 0, none⟩), .int .i64 0, .pointer (some ⟨g, 0, none⟩), .int .i64 (en : Int), .pointer (some ⟨p, 0, none⟩), .bool true, .bool false, .tuple #[.agg u.arr, .int .i64 (en : Int)], .pointer (some ⟨p, 0, none⟩), .pointer (some ⟨p, 0, none⟩), .pointer (some ⟨p, 0, none⟩), .agg c.arr, dotV r s, .tuple #[.agg u.arr, .int .i64 (en : Int)], .agg u.arr, .int .i64 (en : Int), undef, undef, undef, undef, undef, undef, undef, undef, undef, undef, undef, undef, undef, undef, undef, undef, undef], defers := [] } ∧ Gv w w' p m c L (r, s) g u) ?cont ?reg
  case reg =>
    refine wp_region_held_drew (S := fun w' => Gd w w' p m c L (r, s)) (by kernel_rfl) HT.out.drew (fun hS => ?_)
    refine held_take 0 11 (.pointer (some ⟨p, 0, none⟩)) rfl rfl (by kernel_rfl) (by kernel_rfl) (by kernel_rfl) (fun _ _ _ h => by cases h.1) (by kernel_rfl) (fun _ _ => rfl) hS ?_
    simp only [Act.put, List.setIfInBounds_toArray, List.set_cons_zero, List.set_cons_succ]
    refine held_take 1 12 (.pointer (some ⟨p, 0, none⟩)) rfl rfl (by kernel_rfl) (by kernel_rfl) (by kernel_rfl) (fun _ _ _ h => by cases h.1) (by kernel_rfl) (fun _ _ => (by kernel_rfl)) hS ?_
    simp only [Act.put, List.setIfInBounds_toArray, List.set_cons_zero, List.set_cons_succ]
    refine held_take 2 13 (.pointer (some ⟨p, 0, none⟩)) rfl rfl (by kernel_rfl) (by kernel_rfl) (by kernel_rfl) (fun _ _ _ h => by cases h.1) (by kernel_rfl) (fun _ _ => (by kernel_rfl)) hS ?_
    simp only [Act.put, List.setIfInBounds_toArray, List.set_cons_zero, List.set_cons_succ]
    refine held_take 3 14 (.agg c.arr) rfl rfl (by kernel_rfl) (by kernel_rfl) (by kernel_rfl) (fun _ _ _ h => by cases h.1) (by kernel_rfl) (fun _ h => exec_loadv rfl rfl h.grp) hS ?_
    simp only [Act.put, List.setIfInBounds_toArray, List.set_cons_zero, List.set_cons_succ]
    refine held_take 4 15 (dotV r s) rfl rfl (by kernel_rfl) (by kernel_rfl) (by kernel_rfl) (fun _ _ _ h => by cases h.1) (by kernel_rfl) (fun _ h => exec_load34 rfl rfl h.dot) hS ?_
    simp only [Act.put, List.setIfInBounds_toArray, List.set_cons_zero, List.set_cons_succ]
    refine wpAnyH_ready (rs := [5, 9]) (by kernel_rfl) (by simp) ?_
    refine br_callP 5 16 31 #[.agg c.arr, dotV r s] rfl rfl (by kernel_rfl) (by kernel_rfl) (HC.out _) (fun e x1 hP => ?_) ?_
    · obtain ⟨rfl, hb⟩ := hP
      refine ⟨_, rfl, hS.below hb, fun hS => ?_⟩
      clear hb
      simp only [Act.put, List.setIfInBounds_toArray, List.set_cons_zero, List.set_cons_succ]
      refine held_take 6 10 (.tuple #[.agg u.arr, .int .i64 (en : Int)]) rfl rfl (by kernel_rfl) (by kernel_rfl) (by kernel_rfl) (fun _ _ _ h => by cases h.1) (by kernel_rfl) (fun _ _ => rfl) hS ?_
      simp only [Act.put, List.setIfInBounds_toArray, List.set_cons_zero, List.set_cons_succ]
      refine held_take 7 17 (.agg u.arr) rfl rfl (by kernel_rfl) (by kernel_rfl) (by kernel_rfl) (fun _ _ _ h => by cases h.1) (by kernel_rfl) (fun _ _ => (by kernel_rfl)) hS ?_
      simp only [Act.put, List.setIfInBounds_toArray, List.set_cons_zero, List.set_cons_succ]
      refine held_take 8 18 (.int .i64 (en : Int)) rfl rfl (by kernel_rfl) (by kernel_rfl) (by kernel_rfl) (fun _ _ _ h => by cases h.1) (by kernel_rfl) (fun _ _ => (by kernel_rfl)) hS ?_
      simp only [Act.put, List.setIfInBounds_toArray, List.set_cons_zero, List.set_cons_succ]
      have HV := Lib.hid (gv_new hS u)
      refine held_exec 9 5 (.pointer (some ⟨x1.heap.size, 0, none⟩)) rfl rfl (by kernel_rfl) (by kernel_rfl) (exec_alloc24 rfl) (hS.below (below_one x1 _)) ?_
      simp only [Act.put, List.setIfInBounds_toArray, List.set_cons_zero, List.set_cons_succ]
      refine held_void 10 rfl rfl (by kernel_rfl) (by kernel_rfl) (exec_store24 (u := u) rfl rfl rfl (Blk.new x1 24 V.zero.arr)) HV.out.gd ?_
      refine held_take 11 6 (.int .i64 (en : Int)) rfl rfl (by kernel_rfl) (by kernel_rfl) (by kernel_rfl) (fun _ _ _ h => by cases h.1) (by kernel_rfl) (fun _ _ => rfl) HV.out.gd ?_
      simp only [Act.put, List.setIfInBounds_toArray, List.set_cons_zero, List.set_cons_succ]
      refine wpAnyH_done (by kernel_rfl) ?_ _
      exact ⟨rfl, _, rfl, HV.out⟩
    have hgn := Blk.new W.drew 24 V.zero.arr
    have hlt := hS.dot.lt
    refine br_exec 9 5 (.pointer (some ⟨W.drew.heap.size, 0, none⟩)) rfl rfl (by kernel_rfl) (exec_alloc24 rfl) (hS.below (below_one W.drew _)) ?_ AllReadyH.nil
    have hS := hS.below (below_one W.drew (.cells V.zero.arr 24))
    generalize W.drew.alloc (.cells V.zero.arr 24) = W3 at hgn hS
    generalize W.drew.heap.size = g at hgn hlt
    simp only [Act.put, List.setIfInBounds_toArray, List.set_cons_zero, List.set_cons_succ]
    refine held_callP 5 16 31 #[.agg c.arr, dotV r s] rfl (by kernel_rfl) rfl (by kernel_rfl) (by kernel_rfl) (HC.out _) (fun e x1 hP => ?_)
    obtain ⟨rfl, hb⟩ := hP
    refine ⟨_, rfl, hS.below hb, fun hS => ?_⟩
    have hgn := hgn.below hb
    clear hb
    simp only [Act.put, List.setIfInBounds_toArray, List.set_cons_zero, List.set_cons_succ]
    refine held_take 6 10 (.tuple #[.agg u.arr, .int .i64 (en : Int)]) rfl rfl (by kernel_rfl) (by kernel_rfl) (by kernel_rfl) (fun _ _ _ h => by cases h.1) (by kernel_rfl) (fun _ _ => rfl) hS ?_
    simp only [Act.put, List.setIfInBounds_toArray, List.set_cons_zero, List.set_cons_succ]
    refine held_take 7 17 (.agg u.arr) rfl rfl (by kernel_rfl) (by kernel_rfl) (by kernel_rfl) (fun _ _ _ h => by cases h.1) (by kernel_rfl) (fun _ _ => (by kernel_rfl)) hS ?_
    simp only [Act.put, List.setIfInBounds_toArray, List.set_cons_zero, List.set_cons_succ]
    refine held_take 8 18 (.int .i64 (en : Int)) rfl rfl (by kernel_rfl) (by kernel_rfl) (by kernel_rfl) (fun _ _ _ h => by cases h.1) (by kernel_rfl) (fun _ _ => (by kernel_rfl)) hS ?_
    simp only [Act.put, List.setIfInBounds_toArray, List.set_cons_zero, List.set_cons_succ]
    have HV := Lib.hid (gv_set hS hgn hlt u)
    refine held_void 10 rfl rfl (by kernel_rfl) (by kernel_rfl) (exec_store24 (u := u) rfl rfl rfl hgn) HV.out.gd ?_
    refine held_take 11 6 (.int .i64 (en : Int)) rfl rfl (by kernel_rfl) (by kernel_rfl) (by kernel_rfl) (fun _ _ _ h => by cases h.1) (by kernel_rfl) (fun _ _ => rfl) HV.out.gd ?_
    simp only [Act.put, List.setIfInBounds_toArray, List.set_cons_zero, List.set_cons_succ]
    refine wpAnyH_done (by kernel_rfl) ?_ _
    exact ⟨rfl, _, rfl, HV.out⟩
  rintro ex a' W2 ⟨rfl, g, rfl, hv⟩
  have HV := Lib.hid hv
  clear hv
  rcases HQ.out with ⟨q1, rfl⟩ | ⟨q1, q2, rfl⟩ | ⟨q1, q2, q3, rfl⟩ | ⟨q1, q2, q3, rfl, hu⟩
  · have HE := Lib.hid (show addE c L (r, s) = 2 by simp [addE, q1])
    clear q1 HQ
    go_wp2_with fail
    go_ret
    exact ⟨c, L, by rw [HE.out]; rfl, add_same HE.out (by omega), HV.out.gd.grp, .of_below HV.out.gd.old⟩
  · have HE := Lib.hid (show addE c L (r, s) = 8 from addE_have q1 (by simp [inB, q2]))
    clear q1 q2 HQ
    go_wp2_with fail
    go_ret
    exact ⟨c, L, by rw [HE.out]; rfl, add_same HE.out (by omega), HV.out.gd.grp, .of_below HV.out.gd.old⟩
  · have HA := Lib.hid (fun (w : World) (h : Grp w p m c L) => addloose_any h (r, s) q1 q2 HL.out)
    have HD := Lib.hid q1
    have HG := Lib.hid q3
    have HH := Lib.hid q2
    clear q1 q2 q3 HQ
    have c1 := HV.out.gd.rep
    have c2 := HV.out.gd.seq
    simp only at c1 c2
    go_wp2_with fail
    clear c1 c2
    refine (HA.out _ HV.out.gd.grp).mono ?_
    rintro e w3 ⟨rfl, hg3, hk3⟩
    have H3 := Lib.hid hg3
    have K3 := Lib.hid hk3
    clear hg3 hk3
    go_wp2_with fail
    go_ret
    have hok := (dotB_iff _ _).1 HD.out
    refine ⟨c, _, rfl, ?_, H3.out, (Kept.of_below HV.out.gd.old).trans K3.out (fun _ h => .inl (.inr h))⟩
    by_cases he : addE c L (r, s) = 0
    · rw [if_pos he]
      unfold AddR
      rw [if_pos he]
      refine added_ins HN.out ?_ hok.1 hok.2.2 (by have := HG.out; simp only; omega)
      intro hm
      rw [addE_have HD.out ((inB_iff _ _ _).2 (.inr hm))] at he
      cases he
    · rw [if_neg he]
      exact add_same rfl he
  · have HD := Lib.hid q1
    have HZ := Lib.hid q3
    have hok := (dotB_iff _ _).1 q1
    have HOK := Lib.hid hok
    clear q1 q2 q3 HQ
    have HU := Lib.hid hu
    clear hu
    have hst := obj_store (u := u) HV.out.gd.grp.blk
    have k1 := kept_cells (p := p) u.cs 0 W2
    have hlt := HV.out.gd.lt
    have hne := HV.out.gd.grp.ne
    have HG : Hid (Grp (W2.setCells p 0 u.cs) p m u L) := Lib.hid ⟨hst.1, HV.out.gd.grp.mp.kept k1 hne, HV.out.gd.grp.srt, HV.out.gd.grp.raw⟩
    have c1 : (W2.setCells p 0 u.cs).cell? ⟨w.heap.size, 0, none⟩ = some (.int .u8 (r : Int)) := k1.at_ HV.out.gd.rep (by omega)
    have HK : Hid (Kept (fun k => k = p ∨ k = m) w (W2.setCells p 0 u.cs)) := Lib.hid ((Kept.of_below HV.out.gd.old).trans k1 (fun _ h => .inl (.inl h)))
    have HS : Hid (Semi r u L) := Lib.hid (by rw [HU.out, ← HZ.out]; exact semi_start HN.out (by have := HZ.out; omega))
    clear hst k1 hlt hne hok
    go_wp2_with (first | (refine wpList_load24 rfl rfl rfl HV.out.vec ?_) | (refine wpList_void rfl rfl (exec_storev (u := u) rfl rfl rfl HV.out.gd.grp.blk) ?_))
    clear c1
    refine (take_any HG.out HS.out HOK.out.1).mono ?_
    rintro e w3 ⟨rfl, c', L', hT, hnot⟩
    have H3 := Lib.hid hT
    have N3 := Lib.hid hnot
    clear hT hnot
    go_wp2_with fail
    go_ret
    have hT := H3.out
    rw [HU.out] at hT
    obtain ⟨e1, e2⟩ := add_took HN.out HD.out HZ.out hT N3.out
    exact ⟨c', L', by rw [e1]; rfl, e2, hT.grp, HK.out.trans H3.out.old (fun _ h => .inl h)⟩

end Go.Proofs.Ytkamldmcjegjgaa
