/- Walks of New, Has and Closed of a set of dots. -/
import Derived.Test.YtkamldmcjegjgaaGrp
namespace Go.Proofs.Ytkamldmcjegjgaa
open Go.RowKit Go.Maps

theorem made_says {w : World} {p m : Nat} {c : V} {L : List Dt} (h : Grp w p m c L) : Calls Try.prog 27 #[.pointer (some ⟨p, 0, none⟩)] w (Says (.bool true) w) :=
  (made_any h).mono fun _ _ ⟨he, hw⟩ => ⟨he, hw ▸ Below.refl _ _⟩

set_option maxHeartbeats 1000000 in
theorem ghas_any {w : World} {p m : Nat} {c : V} {L : List Dt} (h : Grp w p m c L) (x : Dt) (hx : Raw x) : Calls Try.prog 12 #[.pointer (some ⟨p, 0, none⟩), x.val] w (Says (.bool (inB c L x)) w) := by
  have HT := Lib.hid (gd_new h x)
  have HX := Lib.hid hx
  have HC := Lib.hid (fun w => has_any c x.1 x.2 w hx.1 hx.2)
  obtain ⟨r, s⟩ := x
  clear h hx
  simp only at HT HC
  cases hh : V.hasB c r s
  · have HE := Lib.hid (show inB c L (r, s) = decide ((r, s) ∈ L) by simp [inB, hh])
    rw [hh] at HC
    clear hh
    obtain ⟨b, hb⟩ : ∃ b, decide ((r, s) ∈ L) = b := ⟨_, rfl⟩
    rw [hb] at HE
    have HB := Lib.hid hb
    clear hb
    go_enter Try.func12, Try.ntmps12
    go_wp2_with fail
    generalize w.alloc (.cells #[.int .u8 (r : Int), .int .u32 (s : Int)] 34) = W at HT
    refine wp_region_held_drew (S := fun w' => Gd w w' p m c L (r, s)) (by kernel_rfl) HT.out.drew (fun hS => ?_)
    refine held_take 0 5 (.pointer (some ⟨p, 0, none⟩)) rfl rfl (by kernel_rfl) (by kernel_rfl) (by kernel_rfl) (fun _ _ _ h => h) (by kernel_rfl) (fun _ _ => rfl) hS ?_
    simp only [Act.put, List.setIfInBounds_toArray, List.set_cons_zero, List.set_cons_succ]
    refine held_call 1 6 27 #[(.pointer (some ⟨p, 0, none⟩))] (.bool true) rfl (by kernel_rfl) rfl (by kernel_rfl) (by kernel_rfl) (made_says hS.grp) (fun _ h hb => h.below hb) hS (fun w101 hS => ?_)
    simp only [Act.put, List.setIfInBounds_toArray, List.set_cons_zero, List.set_cons_succ]
    refine held_take 2 7 (.bool true) rfl rfl (by kernel_rfl) (by kernel_rfl) (by kernel_rfl) (fun _ _ _ h => h) (by kernel_rfl) (fun _ _ => rfl) hS ?_
    simp only [Act.put, List.setIfInBounds_toArray, List.set_cons_zero, List.set_cons_succ]
    refine held_take 3 8 (.pointer (some ⟨p, 0, none⟩)) rfl rfl (by kernel_rfl) (by kernel_rfl) (by kernel_rfl) (fun _ _ _ h => h) (by kernel_rfl) (fun _ _ => rfl) hS ?_
    simp only [Act.put, List.setIfInBounds_toArray, List.set_cons_zero, List.set_cons_succ]
    refine held_take 4 9 (.pointer (some ⟨p, 0, none⟩)) rfl rfl (by kernel_rfl) (by kernel_rfl) (by kernel_rfl) (fun _ _ _ h => h) (by kernel_rfl) (fun _ _ => (by kernel_rfl)) hS ?_
    simp only [Act.put, List.setIfInBounds_toArray, List.set_cons_zero, List.set_cons_succ]
    refine held_take 5 10 (.pointer (some ⟨p, 0, none⟩)) rfl rfl (by kernel_rfl) (by kernel_rfl) (by kernel_rfl) (fun _ _ _ h => h) (by kernel_rfl) (fun _ _ => (by kernel_rfl)) hS ?_
    simp only [Act.put, List.setIfInBounds_toArray, List.set_cons_zero, List.set_cons_succ]
    refine held_take 6 11 (.agg c.arr) rfl rfl (by kernel_rfl) (by kernel_rfl) (by kernel_rfl) (fun _ _ _ h => h) (by kernel_rfl) (fun _ h => exec_loadv rfl rfl h.grp) hS ?_
    simp only [Act.put, List.setIfInBounds_toArray, List.set_cons_zero, List.set_cons_succ]
    refine held_take 7 12 (dotV r s) rfl rfl (by kernel_rfl) (by kernel_rfl) (by kernel_rfl) (fun _ _ _ h => h) (by kernel_rfl) (fun _ h => exec_load34 rfl rfl h.dot) hS ?_
    simp only [Act.put, List.setIfInBounds_toArray, List.set_cons_zero, List.set_cons_succ]
    refine held_call 8 13 28 #[(.agg c.arr), (dotV r s)] (.bool false) rfl (by kernel_rfl) rfl (by kernel_rfl) (by kernel_rfl) (HC.out _) (fun _ h hb => h.below hb) hS (fun w108 hS => ?_)
    simp only [Act.put, List.setIfInBounds_toArray, List.set_cons_zero, List.set_cons_succ]
    refine held_take 9 14 (.bool false) rfl rfl (by kernel_rfl) (by kernel_rfl) (by kernel_rfl) (fun _ _ _ h => h) (by kernel_rfl) (fun _ _ => rfl) hS ?_
    simp only [Act.put, List.setIfInBounds_toArray, List.set_cons_zero, List.set_cons_succ]
    refine held_take 10 15 (.pointer (some ⟨p, 0, none⟩)) rfl rfl (by kernel_rfl) (by kernel_rfl) (by kernel_rfl) (fun _ _ _ h => h) (by kernel_rfl) (fun _ _ => rfl) hS ?_
    simp only [Act.put, List.setIfInBounds_toArray, List.set_cons_zero, List.set_cons_succ]
    refine held_take 11 16 (dotV r s) rfl rfl (by kernel_rfl) (by kernel_rfl) (by kernel_rfl) (fun _ _ _ h => h) (by kernel_rfl) (fun _ h => exec_load34 rfl rfl h.dot) hS ?_
    simp only [Act.put, List.setIfInBounds_toArray, List.set_cons_zero, List.set_cons_succ]
    refine held_call 12 17 29 #[(.pointer (some ⟨p, 0, none⟩)), (dotV r s)] (.bool b) rfl (by kernel_rfl) rfl (by kernel_rfl) (by kernel_rfl) (HB.out ▸ loose_any hS.grp (r, s) HX.out) (fun _ h hb => h.below hb) hS (fun w112 hS => ?_)
    simp only [Act.put, List.setIfInBounds_toArray, List.set_cons_zero, List.set_cons_succ]
    refine held_take 13 18 (.bool b) rfl rfl (by kernel_rfl) (by kernel_rfl) (by kernel_rfl) (fun _ _ _ h => h) (by kernel_rfl) (fun _ _ => rfl) hS ?_
    simp only [Act.put, List.setIfInBounds_toArray, List.set_cons_zero, List.set_cons_succ]
    refine held_take 14 19 (.bool b) rfl rfl (by kernel_rfl) (by kernel_rfl) (by kernel_rfl) (fun _ _ _ h => h) (by kernel_rfl) (fun _ _ => rfl) hS ?_
    simp only [Act.put, List.setIfInBounds_toArray, List.set_cons_zero, List.set_cons_succ]
    refine held_take 15 4 (.bool b) rfl rfl (by kernel_rfl) (by kernel_rfl) (by kernel_rfl) (fun _ _ _ h => h) (by kernel_rfl) (fun _ _ => rfl) hS ?_
    simp only [Act.put, List.setIfInBounds_toArray, List.set_cons_zero, List.set_cons_succ]
    refine wpAnyH_done (by kernel_rfl) ?_ _
    go_wp2_with fail
    go_ret
    exact ⟨ret_bool HE.out.symm, hS.old⟩
  · have HE := Lib.hid (show inB c L (r, s) = true by simp [inB, hh])
    rw [hh] at HC
    clear hh
    go_enter Try.func12, Try.ntmps12
    go_wp2_with fail
    generalize w.alloc (.cells #[.int .u8 (r : Int), .int .u32 (s : Int)] 34) = W at HT
    refine wp_region_held_drew (S := fun w' => Gd w w' p m c L (r, s)) (by kernel_rfl) HT.out.drew (fun hS => ?_)
    refine held_take 0 5 (.pointer (some ⟨p, 0, none⟩)) rfl rfl (by kernel_rfl) (by kernel_rfl) (by kernel_rfl) (fun _ _ _ h => h) (by kernel_rfl) (fun _ _ => rfl) hS ?_
    simp only [Act.put, List.setIfInBounds_toArray, List.set_cons_zero, List.set_cons_succ]
    refine held_call 1 6 27 #[(.pointer (some ⟨p, 0, none⟩))] (.bool true) rfl (by kernel_rfl) rfl (by kernel_rfl) (by kernel_rfl) (made_says hS.grp) (fun _ h hb => h.below hb) hS (fun w101 hS => ?_)
    simp only [Act.put, List.setIfInBounds_toArray, List.set_cons_zero, List.set_cons_succ]
    refine held_take 2 7 (.bool true) rfl rfl (by kernel_rfl) (by kernel_rfl) (by kernel_rfl) (fun _ _ _ h => h) (by kernel_rfl) (fun _ _ => rfl) hS ?_
    simp only [Act.put, List.setIfInBounds_toArray, List.set_cons_zero, List.set_cons_succ]
    refine held_take 3 8 (.pointer (some ⟨p, 0, none⟩)) rfl rfl (by kernel_rfl) (by kernel_rfl) (by kernel_rfl) (fun _ _ _ h => h) (by kernel_rfl) (fun _ _ => rfl) hS ?_
    simp only [Act.put, List.setIfInBounds_toArray, List.set_cons_zero, List.set_cons_succ]
    refine held_take 4 9 (.pointer (some ⟨p, 0, none⟩)) rfl rfl (by kernel_rfl) (by kernel_rfl) (by kernel_rfl) (fun _ _ _ h => h) (by kernel_rfl) (fun _ _ => (by kernel_rfl)) hS ?_
    simp only [Act.put, List.setIfInBounds_toArray, List.set_cons_zero, List.set_cons_succ]
    refine held_take 5 10 (.pointer (some ⟨p, 0, none⟩)) rfl rfl (by kernel_rfl) (by kernel_rfl) (by kernel_rfl) (fun _ _ _ h => h) (by kernel_rfl) (fun _ _ => (by kernel_rfl)) hS ?_
    simp only [Act.put, List.setIfInBounds_toArray, List.set_cons_zero, List.set_cons_succ]
    refine held_take 6 11 (.agg c.arr) rfl rfl (by kernel_rfl) (by kernel_rfl) (by kernel_rfl) (fun _ _ _ h => h) (by kernel_rfl) (fun _ h => exec_loadv rfl rfl h.grp) hS ?_
    simp only [Act.put, List.setIfInBounds_toArray, List.set_cons_zero, List.set_cons_succ]
    refine held_take 7 12 (dotV r s) rfl rfl (by kernel_rfl) (by kernel_rfl) (by kernel_rfl) (fun _ _ _ h => h) (by kernel_rfl) (fun _ h => exec_load34 rfl rfl h.dot) hS ?_
    simp only [Act.put, List.setIfInBounds_toArray, List.set_cons_zero, List.set_cons_succ]
    refine held_call 8 13 28 #[(.agg c.arr), (dotV r s)] (.bool true) rfl (by kernel_rfl) rfl (by kernel_rfl) (by kernel_rfl) (HC.out _) (fun _ h hb => h.below hb) hS (fun w108 hS => ?_)
    simp only [Act.put, List.setIfInBounds_toArray, List.set_cons_zero, List.set_cons_succ]
    refine held_take 9 14 (.bool true) rfl rfl (by kernel_rfl) (by kernel_rfl) (by kernel_rfl) (fun _ _ _ h => h) (by kernel_rfl) (fun _ _ => rfl) hS ?_
    simp only [Act.put, List.setIfInBounds_toArray, List.set_cons_zero, List.set_cons_succ]
    refine held_skip 10 15 rfl rfl (by kernel_rfl) (by kernel_rfl) (by kernel_rfl) (fun _ _ _ h => h) (by kernel_rfl) hS ?_
    simp only [Act.put, List.setIfInBounds_toArray, List.set_cons_zero, List.set_cons_succ]
    refine held_skip 11 16 rfl rfl (by kernel_rfl) (by kernel_rfl) (by kernel_rfl) (fun _ _ _ h => h) (by kernel_rfl) hS ?_
    simp only [Act.put, List.setIfInBounds_toArray, List.set_cons_zero, List.set_cons_succ]
    refine held_skip 12 17 rfl rfl (by kernel_rfl) (by kernel_rfl) (by kernel_rfl) (fun _ _ _ h => h) (by kernel_rfl) hS ?_
    simp only [Act.put, List.setIfInBounds_toArray, List.set_cons_zero, List.set_cons_succ]
    refine held_take 13 18 (.bool true) rfl rfl (by kernel_rfl) (by kernel_rfl) (by kernel_rfl) (fun _ _ _ h => h) (by kernel_rfl) (fun _ _ => rfl) hS ?_
    simp only [Act.put, List.setIfInBounds_toArray, List.set_cons_zero, List.set_cons_succ]
    refine held_take 14 19 (.bool true) rfl rfl (by kernel_rfl) (by kernel_rfl) (by kernel_rfl) (fun _ _ _ h => h) (by kernel_rfl) (fun _ _ => rfl) hS ?_
    simp only [Act.put, List.setIfInBounds_toArray, List.set_cons_zero, List.set_cons_succ]
    refine held_take 15 4 (.bool true) rfl rfl (by kernel_rfl) (by kernel_rfl) (by kernel_rfl) (fun _ _ _ h => h) (by kernel_rfl) (fun _ _ => rfl) hS ?_
    simp only [Act.put, List.setIfInBounds_toArray, List.set_cons_zero, List.set_cons_succ]
    refine wpAnyH_done (by kernel_rfl) ?_ _
    go_wp2_with fail
    go_ret
    exact ⟨ret_bool HE.out.symm, hS.old⟩

section
variable {ops : Array Oper} {rest : List Oper} {o : Oper} {act : Act} {Q : Exit → Act → World → Prop} {W : World}
/-- The vector loaded out of the object, in the walk. -/
theorem wpList_loadv {x : Operand} {p m : Nat} {c : V} {L : List Dt} (hgd : o.guard = none) (ho : o.op = .load 24 x) (hx : act.eval x = .pointer (some ⟨p, 0, none⟩)) (h : Grp W p m c L)
    (k : wpList Try.prog ops Q rest (act.put o.dst (.agg c.arr)) W) : wpList Try.prog ops Q (o :: rest) act W :=
  wpList_plain hgd fun _ hK => by
    unfold Oper.wp execOp
    simp only [ho, hx, Sem.run_bind, load_vec h, Result.andThen_ok]
    exact hK _ _ k
end

/-- The object, and a place for an answer. -/
structure Ga (w W : World) (p m : Nat) (c : V) (L : List Dt) : Prop where
  grp : Grp W p m c L
  ans : Blk W w.heap.size 24 V.zero.arr
  old : Below w.heap.size w W
theorem ga_new {w : World} {p m : Nat} {c : V} {L : List Dt} (h : Grp w p m c L) : Ga w (w.alloc (.cells V.zero.arr 24)) p m c L :=
  ⟨h.below (below_one w _), Blk.new w 24 _, below_one w _⟩
theorem ret_row {w W : World} {g : Nat} {ds : Array Value} (h : Below w.heap.size w W) (hg : w.heap.size ≤ g) : Below w.heap.size w (W.setRow g ds) :=
  ((Kept.of_below (S := fun k => k = g) h).trans (Kept.setRow _ _ _) (fun _ h => .inl h)).below (Nat.le_refl _) (fun k hk => by omega)

set_option maxHeartbeats 1000000 in
theorem closed_any {w : World} {p m : Nat} {c : V} {L : List Dt} (h : Grp w p m c L) : Calls Try.prog 16 #[.pointer (some ⟨p, 0, none⟩)] w (Says (.agg c.arr) w) := by
  have HT := Lib.hid (ga_new h)
  have ha1 := fun (w : World) => alloc24 w
  clear h
  go_enter Try.func16, Try.ntmps16
  go_wp2_with fail
  clear ha1
  rw [← zero_arr]
  generalize w.alloc (.cells V.zero.arr 24) = W at HT
  refine (made_any HT.out.grp).mono ?_
  rintro e w1 ⟨rfl, rfl⟩
  go_wp2_with (first | (refine wpList_loadv rfl rfl rfl HT.out.grp ?_) | (refine wpList_store24 rfl rfl rfl rfl HT.out.ans ?_))
  exact bodyPost_ret (ret24 rfl rfl (Blk.row HT.out.ans)) rfl ⟨rfl, ret_row HT.out.old (Nat.le_refl _)⟩

theorem sixteen {l : List Nat} (h : l.length = 16) : ∃ a0 a1 a2 a3 a4 a5 a6 a7 a8 a9 a10 a11 a12 a13 a14 a15, l = [a0, a1, a2, a3, a4, a5, a6, a7, a8, a9, a10, a11, a12, a13, a14, a15] := by
  match l, h with
  | [a0, a1, a2, a3, a4, a5, a6, a7, a8, a9, a10, a11, a12, a13, a14, a15], _ => exact ⟨_, _, _, _, _, _, _, _, _, _, _, _, _, _, _, _, rfl⟩

theorem build53 (c : V) (m : Nat) (w : World) : (Instr.build 53 #[(0, .agg c.arr), (1, .map (some m))]).run Try.prog w = .ok (.agg (c.obj (.map (some m)))) w := by
  obtain ⟨l, hl, hb⟩ := c
  obtain ⟨a0, a1, a2, a3, a4, a5, a6, a7, a8, a9, a10, a11, a12, a13, a14, a15, rfl⟩ := sixteen hl
  kernel_rfl
theorem exec_build53 {ev : Operand → Value} {o : Oper} {x y : Operand} {c : V} {m : Nat} {w : World} (ho : o.op = .build 53 #[(0, x), (1, y)]) (hx : ev x = .agg c.arr) (hy : ev y = .map (some m)) : (execOp ev o).run Try.prog w = .ok (.value (.agg (c.obj (.map (some m))))) w := by
  have h := build53 c m w
  unfold execOp
  simp only [ho]
  rw [show (#[(0, x), (1, y)] : Array (Nat × Operand)).map (fun (i, x) => (i, ev x)) = #[(0, .agg c.arr), (1, .map (some m))] by simp [hx, hy]]
  simp only [Sem.run_bind, h, Result.andThen_ok]
  rfl
theorem box53 (cs : Array Value) (w : World) : (Instr.box 53 (.agg cs)).run Try.prog w = .ok (.pointer (some ⟨w.heap.size, 0, none⟩)) (w.alloc (.cells cs 53)) := by
  simp [Instr.box, newVar, newRow, Value.cells, go_sem]

/-- What New answers. -/
def Newed (v : V) (w : World) (e : Ending) (w' : World) : Prop :=
  (V.rightB v 16 = false ∧ e = .returned (.pointer none) ∧ Below w.heap.size w w') ∨
  (V.rightB v 16 = true ∧ ∃ p m, e = .returned (.pointer (some ⟨p, 0, none⟩)) ∧ Grp w' p m v [] ∧ w.heap.size ≤ p ∧ w.heap.size ≤ m ∧ Below w.heap.size w w')

theorem mp_new (w : World) : Mp (w.alloc (.map #[] 0)) w.heap.size [] :=
  ⟨.map [], 0, World.ownsMap_made w Try.prog 34 unitElem, fun kl => by simp [Maps.has]⟩

set_option maxHeartbeats 1000000 in
theorem new_any (v : V) (w : World) : Calls Try.prog 10 #[.agg v.arr] w (Newed v w) := by
  have hb1 := fun (v : V) (w : World) => box24 v w
  have HC := Lib.hid (fun w => right_any v 16 w (by omega) (by omega))
  have HB := Lib.hid (Blk.new w 24 v.arr)
  have HO := Lib.hid (below_one w (.cells v.arr 24))
  cases hr : V.rightB v 16
  · have HR := Lib.hid hr
    rw [hr] at HC
    clear hr
    go_enter Try.func10, Try.ntmps10
    go_wp2_with (refine wpList_load24 rfl rfl rfl HB.out ?_)
    clear hb1
    generalize w.alloc (.cells v.arr 24) = W at HB HO
    refine (HC.out W).mono ?_
    rintro e w1 ⟨rfl, hb⟩
    have HO2 := Lib.hid (HO.out.trans (hb.mono HO.out.size))
    clear hb
    go_wp2_with fail
    go_ret
    exact .inl ⟨HR.out, rfl, HO2.out⟩
  · have HR := Lib.hid hr
    rw [hr] at HC
    clear hr
    go_enter Try.func10, Try.ntmps10
    go_wp2_with (refine wpList_load24 rfl rfl rfl HB.out ?_)
    clear hb1
    generalize w.alloc (.cells v.arr 24) = W at HB HO
    refine (HC.out W).mono ?_
    rintro e w1 ⟨rfl, hb⟩
    have HO2 := Lib.hid (HO.out.trans (hb.mono HO.out.size))
    have HB2 := Lib.hid (HB.out.below hb)
    clear hb HB HO
    have hmm := @run_makeMap Try.prog
    have hbx := fun w => box53 (v.obj (.map (some w1.heap.size))) w
    go_wp2_with (first | (refine wpList_load24 rfl rfl rfl HB2.out ?_) | (refine wpList_run rfl (exec_build53 (c := v) rfl rfl rfl) ?_))
    go_ret
    have h1 := mp_new w1
    have k1 := Kept.alloc (fun _ => False) (w1.alloc (.map #[] 0)) (.cells (v.obj (.map (some w1.heap.size))) 53)
    have h2 := Blk.new (w1.alloc (.map #[] 0)) 53 (v.obj (.map (some w1.heap.size)))
    have hs := HO2.out.size
    simp only [World.size_alloc] at h2
    exact .inr ⟨HR.out, _, _, rfl, ⟨h2, h1.kept k1 (fun h => h), by simp [Srt], by simp⟩, by omega, by omega, HO2.out.trans ((below_two' w1 _ _).mono hs)⟩

end Go.Proofs.Ytkamldmcjegjgaa
