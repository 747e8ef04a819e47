/- Walks of Has and Next, the program's and the document's: whether a vector means an operation, and what it is with one more. -/
import Derived.Test.YtfnaccmgmocolaaDoorCmp
namespace Go.Proofs.YtfnaccmgmocolaaDoor
open Go.RowKit

/-- A dot in the program. -/
abbrev dotV (r s : Nat) : Value := .agg #[.int .u8 (r : Int), .int .u32 (s : Int)]

/-- A vector and a dot that a call laid down. -/
structure VDot (w W : World) (v : V) (r s : Nat) : Prop where
  one : Blk W w.heap.size 27 v.arr
  dot : Blk W (w.heap.size + 1) 24 #[.int .u8 (r : Int), .int .u32 (s : Int)]
  old : Below w.heap.size w W

theorem vdot_new (w : World) (v : V) (r s : Nat) : VDot w ((w.alloc (.cells v.arr 27)).alloc (.cells #[.int .u8 (r : Int), .int .u32 (s : Int)] 24)) v r s := by
  have h1 := Blk.new w 27 v.arr
  have h2 := Blk.new (w.alloc (.cells v.arr 27)) 24 #[.int .u8 (r : Int), .int .u32 (s : Int)]
  have k2 := Kept.alloc (fun _ => False) (w.alloc (.cells v.arr 27)) (.cells #[.int .u8 (r : Int), .int .u32 (s : Int)] 24)
  simp only [World.size_alloc] at h2
  exact ⟨h1.kept k2 (fun h => h), h2, below_two' _ _ _⟩

theorem VDot.below {w W W' : World} {v : V} {r s : Nat} (h : VDot w W v r s) (hb : Below W.heap.size W W') : VDot w W' v r s :=
  ⟨h.one.below hb, h.dot.below hb, h.old.trans (hb.mono h.old.size)⟩
theorem VDot.drew {w W : World} {v : V} {r s : Nat} (h : VDot w W v r s) : VDot w W.drew v r s := ⟨h.one, h.dot, h.old.drew⟩
theorem VDot.rep {w W : World} {v : V} {r s : Nat} (h : VDot w W v r s) : W.cell? ⟨w.heap.size + 1, 0, none⟩ = some (.int .u8 (r : Int)) := h.dot.cell 0
theorem VDot.seq {w W : World} {v : V} {r s : Nat} (h : VDot w W v r s) : W.cell? ⟨w.heap.size + 1, 1, none⟩ = some (.int .u32 (s : Int)) := h.dot.cell 1
theorem VDot.num {w W : World} {v : V} {r s : Nat} (h : VDot w W v r s) (hr : r < 16) : W.cell? ⟨w.heap.size, r, none⟩ = some (.int .u32 (v.at_ r : Int)) := by rw [h.one.cell, V.arr_at _ hr]

theorem dotB_lt {r s : Nat} (h : V.dotB r s = true) : r < 16 ∧ 1 ≤ s ∧ s ≤ 1048576 := by simpa [V.dotB] using h

set_option maxHeartbeats 1000000 in
theorem has_any (v : V) (r s : Nat) (w : World) (hr : r < 256) (hs : s < 4294967296) : Calls Tryd.prog 85 #[.agg v.arr, dotV r s] w (Says (.bool (V.hasB v r s)) w) := by
  have hb1 := fun (v : V) (w : World) => box27 v w
  have HT := Lib.hid (vdot_new w v r s)
  have HC := Lib.hid (fun w => valid_any r s w hr hs)
  cases hd : V.dotB r s
  · rw [hd] at HC
    have HE : Hid (V.hasB v r s = false) := Lib.hid (by simp [V.hasB, hd])
    clear hd
    go_enter Tryd.func85, Tryd.ntmps85
    go_wp2_with fail
    clear hb1
    generalize (w.alloc (.cells v.arr 27)).alloc (.cells #[.int .u8 (r : Int), .int .u32 (s : Int)] 24) = W at HT
    refine wp_region_held_drew (S := fun w' => VDot w w' v r s) (by kernel_rfl) HT.out.drew (fun hS => ?_)
    refine held_take 0 5 (dotV r s) rfl rfl (by kernel_rfl) (by kernel_rfl) (by kernel_rfl) (fun _ _ _ h => h) (by kernel_rfl) (fun _ h => exec_load24 rfl rfl h.dot) hS ?_
    simp only [Act.put, List.setIfInBounds_toArray, List.set_cons_zero, List.set_cons_succ]
    refine held_call 1 6 84 #[(dotV r s)] (.bool false) rfl (by kernel_rfl) rfl (by kernel_rfl) (by kernel_rfl) (HC.out _) (fun _ h hb => h.below hb) hS (fun w101 hS => ?_)
    simp only [Act.put, List.setIfInBounds_toArray, List.set_cons_zero, List.set_cons_succ]
    refine held_take 2 7 (.bool false) rfl rfl (by kernel_rfl) (by kernel_rfl) (by kernel_rfl) (fun _ _ _ h => h) (by kernel_rfl) (fun _ _ => rfl) hS ?_
    simp only [Act.put, List.setIfInBounds_toArray, List.set_cons_zero, List.set_cons_succ]
    refine held_skip 3 8 rfl rfl (by kernel_rfl) (by kernel_rfl) (by kernel_rfl) (fun _ _ _ h => h) (by kernel_rfl) hS ?_
    simp only [Act.put, List.setIfInBounds_toArray, List.set_cons_zero, List.set_cons_succ]
    refine held_skip 4 9 rfl rfl (by kernel_rfl) (by kernel_rfl) (by kernel_rfl) (fun _ _ _ h => h) (by kernel_rfl) hS ?_
    simp only [Act.put, List.setIfInBounds_toArray, List.set_cons_zero, List.set_cons_succ]
    refine held_skip 5 10 rfl rfl (by kernel_rfl) (by kernel_rfl) (by kernel_rfl) (fun _ _ _ h => h) (by kernel_rfl) hS ?_
    simp only [Act.put, List.setIfInBounds_toArray, List.set_cons_zero, List.set_cons_succ]
    refine held_skip 6 11 rfl rfl (by kernel_rfl) (by kernel_rfl) (by kernel_rfl) (fun _ _ _ h => h) (by kernel_rfl) hS ?_
    simp only [Act.put, List.setIfInBounds_toArray, List.set_cons_zero, List.set_cons_succ]
    refine held_skip 7 12 rfl rfl (by kernel_rfl) (by kernel_rfl) (by kernel_rfl) (fun _ _ _ h => h) (by kernel_rfl) hS ?_
    simp only [Act.put, List.setIfInBounds_toArray, List.set_cons_zero, List.set_cons_succ]
    refine held_skip 8 13 rfl rfl (by kernel_rfl) (by kernel_rfl) (by kernel_rfl) (fun _ _ _ h => h) (by kernel_rfl) hS ?_
    simp only [Act.put, List.setIfInBounds_toArray, List.set_cons_zero, List.set_cons_succ]
    refine held_skip 9 14 rfl rfl (by kernel_rfl) (by kernel_rfl) (by kernel_rfl) (fun _ _ _ h => h) (by kernel_rfl) hS ?_
    simp only [Act.put, List.setIfInBounds_toArray, List.set_cons_zero, List.set_cons_succ]
    refine held_take 10 15 (.bool false) rfl rfl (by kernel_rfl) (by kernel_rfl) (by kernel_rfl) (fun _ _ _ h => h) (by kernel_rfl) (fun _ _ => rfl) hS ?_
    simp only [Act.put, List.setIfInBounds_toArray, List.set_cons_zero, List.set_cons_succ]
    refine held_take 11 4 (.bool false) rfl rfl (by kernel_rfl) (by kernel_rfl) (by kernel_rfl) (fun _ _ _ h => h) (by kernel_rfl) (fun _ _ => rfl) hS ?_
    simp only [Act.put, List.setIfInBounds_toArray, List.set_cons_zero, List.set_cons_succ]
    refine wpAnyH_done (by kernel_rfl) ?_ _
    go_wp2_with fail
    go_ret
    exact ⟨ret_bool HE.out.symm, hS.old⟩
  · rw [hd] at HC
    have HE : Hid (V.hasB v r s = decide (s ≤ v.at_ r)) := Lib.hid (by simp [V.hasB, hd])
    obtain ⟨hr1, hs1, hs2⟩ := dotB_lt hd
    have hr2 : (r : Int) < 16 := by omega
    clear hd
    go_enter Tryd.func85, Tryd.ntmps85
    go_wp2_with fail
    clear hb1
    generalize (w.alloc (.cells v.arr 27)).alloc (.cells #[.int .u8 (r : Int), .int .u32 (s : Int)] 24) = W at HT
    have c1 := HT.out.rep
    have c2 := HT.out.seq
    have c3 := HT.out.num hr1
    have l1 := v.lt r
    generalize hx : v.at_ r = x at c3 l1 HE
    have HX := Lib.hid hx
    clear hx
    go_region_held3 (fun w' => w'.cell? ⟨w.heap.size + 1, 0, none⟩ = some (.int .u8 (r : Int)) ∧ w'.cell? ⟨w.heap.size + 1, 1, none⟩ = some (.int .u32 (s : Int)) ∧ w'.cell? ⟨w.heap.size, r, none⟩ = some (.int .u32 (x : Int))) (first | exact ⟨c1, c2, c3⟩ | exact ⟨k1, k2, k3⟩) (first
      | (go_at_call 84; refine (HC.out _).mono ?_; rintro e w2 ⟨rfl, hb2⟩; have HT2 := Lib.hid (HT.out.drew.below hb2); have k1 := HT2.out.rep; have k2 := HT2.out.seq; have k3 := HT2.out.num hr1; rw [HX.out] at k3; clear hb2))
    go_wp2_with fail
    go_ret
    exact ⟨ret_bool (by rw [HE.out]), HT2.out.old⟩


/-- A vector, a dot and an answer that a call laid down. -/
structure Trio (w W : World) (v : V) (r s : Nat) : Prop where
  one : Blk W w.heap.size 27 v.arr
  dot : Blk W (w.heap.size + 1) 24 #[.int .u8 (r : Int), .int .u32 (s : Int)]
  ans : Blk W (w.heap.size + 2) 27 V.zero.arr
  old : Below w.heap.size w W

theorem trio_new (w : World) (v : V) (r s : Nat) : Trio w (((w.alloc (.cells v.arr 27)).alloc (.cells #[.int .u8 (r : Int), .int .u32 (s : Int)] 24)).alloc (.cells V.zero.arr 27)) v r s := by
  have h := vdot_new w v r s
  have h3 := Blk.new ((w.alloc (.cells v.arr 27)).alloc (.cells #[.int .u8 (r : Int), .int .u32 (s : Int)] 24)) 27 V.zero.arr
  have k3 := Kept.alloc (fun _ => False) ((w.alloc (.cells v.arr 27)).alloc (.cells #[.int .u8 (r : Int), .int .u32 (s : Int)] 24)) (.cells V.zero.arr 27)
  simp only [World.size_alloc] at h3
  exact ⟨h.one.kept k3 (fun h => h), h.dot.kept k3 (fun h => h), h3, h.old.alloc (by simp; omega) _⟩

theorem Trio.below {w W W' : World} {v : V} {r s : Nat} (h : Trio w W v r s) (hb : Below W.heap.size W W') : Trio w W' v r s :=
  ⟨h.one.below hb, h.dot.below hb, h.ans.below hb, h.old.trans (hb.mono h.old.size)⟩
theorem Trio.drew {w W : World} {v : V} {r s : Nat} (h : Trio w W v r s) : Trio w W.drew v r s := ⟨h.one, h.dot, h.ans, h.old.drew⟩
theorem Trio.rep {w W : World} {v : V} {r s : Nat} (h : Trio w W v r s) : W.cell? ⟨w.heap.size + 1, 0, none⟩ = some (.int .u8 (r : Int)) := h.dot.cell 0
theorem Trio.seq {w W : World} {v : V} {r s : Nat} (h : Trio w W v r s) : W.cell? ⟨w.heap.size + 1, 1, none⟩ = some (.int .u32 (s : Int)) := h.dot.cell 1
theorem Trio.num {w W : World} {v : V} {r s : Nat} (h : Trio w W v r s) (hr : r < 16) : W.cell? ⟨w.heap.size, r, none⟩ = some (.int .u32 (v.at_ r : Int)) := by rw [h.one.cell, V.arr_at _ hr]
theorem Trio.ret {w W : World} {v : V} {r s : Nat} (h : Trio w W v r s) {ds : Array Value} : Below w.heap.size w (W.setRow (w.heap.size + 1 + 1) ds) :=
  ((Kept.of_below (S := fun k => k = w.heap.size + 1 + 1) h.old).trans (Kept.setRow _ _ _) (fun _ h => .inl h)).below (Nat.le_refl _) (fun k hk => by omega)

theorem Trio.put {w W : World} {v : V} {r s : Nat} (h : Trio w W v r s) {k u : Nat} (hk : k < 16) (hu : u < 4294967296) : Trio w (W.setCell ⟨w.heap.size, k, none⟩ (.int .u32 (u : Int))) (v.put k u) r s := by
  have k1 := Kept.setCell W ⟨w.heap.size, k, none⟩ (.int .u32 (u : Int))
  refine ⟨?_, h.dot.kept k1 (by simp), h.ans.kept k1 (by simp), h.old.setCell (by simp) _⟩
  have := h.one.set k (.int .u32 (u : Int))
  rwa [V.arr_put v hk hu] at this

/-- A vector and an error are answered; nothing that was there has turned. -/
def Both (v : V) (e : Nat) : World → Ending → World → Prop := Says (.tuple #[.agg v.arr, .int .i64 (e : Int)])

theorem next_arg {v : V} {r s : Nat} (h : V.dotB r s = false) : V.nextE v r s = 2 ∧ V.nextV v r s = V.zero := by simp [V.nextV, V.nextE, h]
theorem next_have {v : V} {r s : Nat} (h : V.dotB r s = true) (h1 : V.hasB v r s = true) : V.nextE v r s = 8 ∧ V.nextV v r s = V.zero := by simp [V.nextV, V.nextE, h, h1]
theorem next_gap {v : V} {r s : Nat} (h : V.dotB r s = true) (h1 : V.hasB v r s = false) (h2 : 1 < s - v.at_ r) : V.nextE v r s = 9 ∧ V.nextV v r s = V.zero := by simp [V.nextV, V.nextE, h, h1, h2]
theorem next_ok {v : V} {r s : Nat} (h : V.dotB r s = true) (h1 : V.hasB v r s = false) (h2 : ¬ 1 < s - v.at_ r) : V.nextE v r s = 0 ∧ V.nextV v r s = V.put v r s := by simp [V.nextV, V.nextE, h, h1, h2]
theorem both_of {v : V} {r s e : Nat} {u : V} {w w' : World} (h : V.nextE v r s = e ∧ V.nextV v r s = u) (hb : Below w.heap.size w w') : Both (V.nextV v r s) (V.nextE v r s) w (.returned (.tuple #[.agg u.arr, .int .i64 (e : Int)])) w' := ⟨by rw [h.1, h.2], hb⟩

theorem wrap_sub (s x : Nat) (hs : s < 4294967296) (hx : x ≤ s) : IntKind.u32.wrap ((s : Int) - (x : Int)) = (s : Int) - (x : Int) := by
  rw [IntKind.wrap_u32]
  omega

set_option maxHeartbeats 1000000 in
theorem next_any (v : V) (r s : Nat) (w : World) (hr : r < 256) (hs : s < 4294967296) : Calls Tryd.prog 67 #[.agg v.arr, dotV r s] w (Both (V.nextV v r s) (V.nextE v r s) w) := by
  have hb1 := fun (v : V) (w : World) => box27 v w
  have HT := Lib.hid (trio_new w v r s)
  have HC := Lib.hid (fun w => valid_any r s w hr hs)
  have HH := Lib.hid (fun w => has_any v r s w hr hs)
  cases hd : V.dotB r s
  · rw [hd] at HC
    have HE := Lib.hid (next_arg (v := v) hd)
    clear hd
    go_enter Tryd.func67, Tryd.ntmps67
    go_wp2_with fail
    clear hb1
    rw [← zero_arr]
    generalize ((w.alloc (.cells v.arr 27)).alloc (.cells #[.int .u8 (r : Int), .int .u32 (s : Int)] 24)).alloc (.cells V.zero.arr 27) = W at HT
    refine (HC.out _).mono ?_
    rintro e w1 ⟨rfl, hb⟩
    have HT1 := Lib.hid (HT.out.below hb)
    clear hb
    go_wp2_with (first | (refine wpList_load27 rfl rfl rfl HT1.out.one ?_) | (refine wpList_store27 (u := V.zero) rfl rfl rfl (congrArg Value.agg zero_arr.symm) HT1.out.ans ?_) | (refine wpList_store27 (u := V.zero) rfl rfl rfl rfl HT1.out.ans ?_))
    exact bodyPost_ret (ret27_two (t := 4) (s := 5) (y := .int .i64 2) rfl rfl rfl (Blk.row HT1.out.ans)) rfl (both_of HE.out HT1.out.ret)
  · cases hh : V.hasB v r s
    · have hx : s > v.at_ r := by simp [V.hasB, hd] at hh; exact hh
      obtain ⟨hr1, hs1, hs2⟩ := dotB_lt hd
      have hr2 : (r : Int) < 16 := by omega
      by_cases hgap : 1 < s - v.at_ r
      · have HE := Lib.hid (next_gap hd hh hgap)
        rw [hd] at HC
        rw [hh] at HH
        clear hd hh
        go_enter Tryd.func67, Tryd.ntmps67
        go_wp2_with fail
        clear hb1
        rw [← zero_arr]
        generalize ((w.alloc (.cells v.arr 27)).alloc (.cells #[.int .u8 (r : Int), .int .u32 (s : Int)] 24)).alloc (.cells V.zero.arr 27) = W at HT
        refine (HC.out _).mono ?_
        rintro e w1 ⟨rfl, hb⟩
        have HT1 := Lib.hid (HT.out.below hb)
        have c1 := HT1.out.rep
        have c2 := HT1.out.seq
        clear hb
        go_wp2_with (first | (refine wpList_load27 rfl rfl rfl HT1.out.one ?_) | (refine wpList_store27 (u := V.zero) rfl rfl rfl (congrArg Value.agg zero_arr.symm) HT1.out.ans ?_) | (refine wpList_store27 (u := V.zero) rfl rfl rfl rfl HT1.out.ans ?_))
        refine (HH.out _).mono ?_
        rintro e w2 ⟨rfl, hb⟩
        have HT2 := Lib.hid (HT1.out.below hb)
        clear hb c1 c2
        have c1 := HT2.out.rep
        have c2 := HT2.out.seq
        have c3 := HT2.out.num hr1
        have l1 := v.lt r
        generalize v.at_ r = x at c3 l1 hx hgap
        have hg1 : (1 : Int) < (s : Int) - (x : Int) := by omega
        have hwr := wrap_sub s x hs (by omega)
        go_wp2_with fail
        go_region_held3 (fun w' => w'.cell? ⟨w.heap.size + 1, 0, none⟩ = some (.int .u8 (r : Int)) ∧ w'.cell? ⟨w.heap.size + 1, 1, none⟩ = some (.int .u32 (s : Int)) ∧ w'.cell? ⟨w.heap.size, r, none⟩ = some (.int .u32 (x : Int))) (exact ⟨c1, c2, c3⟩) (fail)
        have HT3 := Lib.hid HT2.out.drew
        clear c1 c2 c3
        go_wp2_with (first | (refine wpList_load27 rfl rfl rfl HT3.out.one ?_) | (refine wpList_store27 (u := V.zero) rfl rfl rfl (congrArg Value.agg zero_arr.symm) HT3.out.ans ?_) | (refine wpList_store27 (u := V.zero) rfl rfl rfl rfl HT3.out.ans ?_))
        exact bodyPost_ret (ret27_two (t := 4) (s := 5) (y := .int .i64 9) rfl rfl rfl (Blk.row HT3.out.ans)) rfl (both_of HE.out HT3.out.ret)
      · have HE := Lib.hid (next_ok hd hh hgap)
        rw [hd] at HC
        rw [hh] at HH
        clear hd hh
        go_enter Tryd.func67, Tryd.ntmps67
        go_wp2_with fail
        clear hb1
        rw [← zero_arr]
        generalize ((w.alloc (.cells v.arr 27)).alloc (.cells #[.int .u8 (r : Int), .int .u32 (s : Int)] 24)).alloc (.cells V.zero.arr 27) = W at HT
        refine (HC.out _).mono ?_
        rintro e w1 ⟨rfl, hb⟩
        have HT1 := Lib.hid (HT.out.below hb)
        have c1 := HT1.out.rep
        have c2 := HT1.out.seq
        clear hb
        go_wp2_with (first | (refine wpList_load27 rfl rfl rfl HT1.out.one ?_) | (refine wpList_store27 (u := V.zero) rfl rfl rfl (congrArg Value.agg zero_arr.symm) HT1.out.ans ?_) | (refine wpList_store27 (u := V.zero) rfl rfl rfl rfl HT1.out.ans ?_))
        refine (HH.out _).mono ?_
        rintro e w2 ⟨rfl, hb⟩
        have HT2 := Lib.hid (HT1.out.below hb)
        clear hb c1 c2
        have c1 := HT2.out.rep
        have c2 := HT2.out.seq
        have c3 := HT2.out.num hr1
        have f1 := HT2.out.one.frozen r
        have l1 := v.lt r
        generalize v.at_ r = x at c3 l1 hx hgap
        have hg1 : (s : Int) - (x : Int) ≤ 1 := by omega
        have hwr := wrap_sub s x hs (by omega)
        go_wp2_with fail
        go_region_held3 (fun w' => w'.cell? ⟨w.heap.size + 1, 0, none⟩ = some (.int .u8 (r : Int)) ∧ w'.cell? ⟨w.heap.size + 1, 1, none⟩ = some (.int .u32 (s : Int)) ∧ w'.cell? ⟨w.heap.size, r, none⟩ = some (.int .u32 (x : Int))) (exact ⟨c1, c2, c3⟩) (fail)
        have HT3 := Lib.hid (HT2.out.drew.put hr1 hs)
        go_wp2_with (first | (refine wpList_load27 rfl rfl rfl HT3.out.one ?_) | (refine wpList_store27 rfl rfl rfl rfl HT3.out.ans ?_))
        exact bodyPost_ret (ret27_two (t := 4) (s := 5) (y := .int .i64 0) rfl rfl rfl (Blk.row HT3.out.ans)) rfl (both_of HE.out HT3.out.ret)
    · have HE := Lib.hid (next_have hd hh)
      rw [hd] at HC
      rw [hh] at HH
      clear hd hh
      go_enter Tryd.func67, Tryd.ntmps67
      go_wp2_with fail
      clear hb1
      rw [← zero_arr]
      generalize ((w.alloc (.cells v.arr 27)).alloc (.cells #[.int .u8 (r : Int), .int .u32 (s : Int)] 24)).alloc (.cells V.zero.arr 27) = W at HT
      refine (HC.out _).mono ?_
      rintro e w1 ⟨rfl, hb⟩
      have HT1 := Lib.hid (HT.out.below hb)
      have c1 := HT1.out.rep
      have c2 := HT1.out.seq
      clear hb
      go_wp2_with (first | (refine wpList_load27 rfl rfl rfl HT1.out.one ?_) | (refine wpList_store27 (u := V.zero) rfl rfl rfl (congrArg Value.agg zero_arr.symm) HT1.out.ans ?_) | (refine wpList_store27 (u := V.zero) rfl rfl rfl rfl HT1.out.ans ?_))
      refine (HH.out _).mono ?_
      rintro e w2 ⟨rfl, hb⟩
      have HT2 := Lib.hid (HT1.out.below hb)
      clear hb c1 c2
      go_wp2_with (first | (refine wpList_load27 rfl rfl rfl HT2.out.one ?_) | (refine wpList_store27 (u := V.zero) rfl rfl rfl (congrArg Value.agg zero_arr.symm) HT2.out.ans ?_) | (refine wpList_store27 (u := V.zero) rfl rfl rfl rfl HT2.out.ans ?_))
      exact bodyPost_ret (ret27_two (t := 4) (s := 5) (y := .int .i64 8) rfl rfl rfl (Blk.row HT2.out.ans)) rfl (both_of HE.out HT2.out.ret)

end Go.Proofs.YtfnaccmgmocolaaDoor
