/- Walks of the document's set of dots: Has and Closed. -/
import Derived.Test.YtkamldmcjegjgaaDeq
namespace Go.Proofs.Ytkamldmcjegjgaa
open Go.RowKit

/-- A set of the document's as a value. -/
abbrev setV (v : V) (a : Option Addr) (n cap : Nat) : Value := .agg (v.obj (.slice a n cap))

theorem obj_size (v : V) (x : Value) : (v.obj x).size = 17 := by simp [V.obj, v.cs_len]
theorem obj_one (v : V) {x : Value} (hx : x.oneCell' = true) : (v.obj x).all (·.oneCell') = true := by
  have := v.arr_one
  rw [V.obj, Array.all_push, this, hx]
  rfl
theorem size31 : (Try.prog.info? 31).map (·.size) = some 17 := by kernel_rfl
theorem box31 (cs : Array Value) (w : World) : (Instr.box 31 (.agg cs)).run Try.prog w = .ok (.pointer (some ⟨w.heap.size, 0, none⟩)) (w.alloc (.cells cs 31)) := by
  simp [Instr.box, newVar, newRow, Value.cells, go_sem]
theorem load31 {w : World} {g : Nat} {v : V} {x : Value} (h : Blk w g 31 (v.obj x)) : (Instr.loadAt 31 (.pointer (some ⟨g, 0, none⟩))).run Try.prog w = .ok (.agg (v.obj x)) w := by
  have hi : (Try.prog.info? 31).map (·.size) = some (v.obj x).size := by rw [obj_size]; exact size31
  simp only [Instr.loadAt, Instr.sureAddr, Sem.run_bind, Sem.run_pure, Result.andThen]
  exact run_loadVar_row _ _ 31 31 (v.obj x) (0, 0) _ h Try.underlying31 rfl hi
theorem store31 {w : World} {g : Nat} {v u : V} {x y : Value} (h : Blk w g 31 (v.obj x)) (hy : y.oneCell' = true) : (Instr.storeAt 31 (.pointer (some ⟨g, 0, none⟩)) (.agg (u.obj y))).run Try.prog w = .ok () (w.setRow g (u.obj y)) := by
  have hi : (Try.prog.info? 31).map (·.size) = some (u.obj y).size := by rw [obj_size]; exact size31
  simp only [Instr.storeAt, Instr.sureAddr, Sem.run_bind, Sem.run_pure, Result.andThen]
  exact run_storeVar_row _ _ 31 31 (v.obj x) (u.obj y) h hi (by rw [obj_size, obj_size]) (obj_one u hy)
/-- The vector loaded out of a set. -/
theorem load_vec31 {w : World} {g : Nat} {v : V} {x : Value} {t : TypeId} (h : Blk w g t (v.obj x)) : (Instr.loadAt 24 (.pointer (some ⟨g, 0, none⟩))).run Try.prog w = .ok (.agg v.arr) w := by
  have hl := run_loadVar_mid (P := Try.prog) w g 0 24 v.cs _ (by
    intro j u hu
    have hj : j < 16 := by rw [← v.cs_len]; exact (List.getElem?_eq_some_iff.1 hu).1
    rw [Nat.zero_add, h.cell, push_at v x hj, ← v.cs_at hj, hu]) und24 rfl (by rw [v.cs_len]; exact size24)
  simp only [Instr.loadAt, Instr.sureAddr, Sem.run_bind, Sem.run_pure, Result.andThen_ok, hl]

section
variable {ev : Operand → Value} {o : Oper} {w : World}
theorem exec_load31 {x : Operand} {g : Nat} {v : V} {y : Value} (ho : o.op = .load 31 x) (hx : ev x = .pointer (some ⟨g, 0, none⟩)) (h : Blk w g 31 (v.obj y)) : (execOp ev o).run Try.prog w = .ok (.value (.agg (v.obj y))) w := exec_cell ho hx (load31 h)
theorem exec_loadv31 {x : Operand} {g : Nat} {v : V} {y : Value} {t : TypeId} (ho : o.op = .load 24 x) (hx : ev x = .pointer (some ⟨g, 0, none⟩)) (h : Blk w g t (v.obj y)) : (execOp ev o).run Try.prog w = .ok (.value (.agg v.arr)) w := exec_cell ho hx (load_vec31 h)
theorem exec_store31 {x y : Operand} {g : Nat} {v u : V} {z z' : Value} (ho : o.op = .store 31 x y) (hx : ev x = .pointer (some ⟨g, 0, none⟩)) (hy : ev y = .agg (u.obj z')) (h : Blk w g 31 (v.obj z)) (hz : z'.oneCell' = true) : (execOp ev o).run Try.prog w = .ok .skip (w.setRow g (u.obj z')) := by
  unfold execOp
  simp only [ho, hx, hy, Sem.run_bind, store31 (u := u) h hz, Result.andThen_ok]
  rfl
end

theorem agg25 {w : World} : (isAgg 25).run Try.prog w = .ok false w := by kernel_rfl

/-- A set and a dot that a call laid down. -/
structure Rh (w W : World) (v : V) (a : Option Addr) (n cap : Nat) (l : List Dt) (r s : Nat) : Prop where
  grp : Blk W w.heap.size 31 (v.obj (.slice a n cap))
  dot : Blk W (w.heap.size + 1) 34 #[.int .u8 (r : Int), .int .u32 (s : Int)]
  dl : DL W a n l
  old : Below w.heap.size w W
theorem rh_new {w : World} {v : V} {a : Option Addr} {n cap : Nat} {l : List Dt} (h : DL w a n l) (r s : Nat) : Rh w ((w.alloc (.cells (v.obj (.slice a n cap)) 31)).alloc (.cells #[.int .u8 (r : Int), .int .u32 (s : Int)] 34)) v a n cap l r s := by
  have h1 := Blk.new w 31 (v.obj (.slice a n cap))
  have h2 := Blk.new (w.alloc (.cells (v.obj (.slice a n cap)) 31)) 34 #[.int .u8 (r : Int), .int .u32 (s : Int)]
  have k2 := Kept.alloc (fun _ => False) (w.alloc (.cells (v.obj (.slice a n cap)) 31)) (.cells #[.int .u8 (r : Int), .int .u32 (s : Int)] 34)
  simp only [World.size_alloc] at h2
  exact ⟨h1.kept k2 (fun h => h), h2, h.below (below_two' _ _ _), below_two' _ _ _⟩
section
variable {w W W' : World} {v : V} {a : Option Addr} {n cap : Nat} {l : List Dt} {r s : Nat}
theorem Rh.drew (h : Rh w W v a n cap l r s) : Rh w W.drew v a n cap l r s := ⟨h.grp, h.dot, h.dl.drew, h.old.drew⟩
theorem Rh.below (h : Rh w W v a n cap l r s) (hb : Below W.heap.size W W') : Rh w W' v a n cap l r s := ⟨h.grp.below hb, h.dot.below hb, h.dl.below hb, h.old.trans (hb.mono h.old.size)⟩
theorem Rh.slice (h : Rh w W v a n cap l r s) : W.cell? ⟨w.heap.size, 16, none⟩ = some (.slice a n cap) := by rw [h.grp.cell, push_last]
end

set_option maxHeartbeats 1000000 in
theorem rfhas_any {w : World} {v : V} {a : Option Addr} {n cap : Nat} {l : List Dt} (h : DL w a n l) (r s : Nat) (hr : r < 256) (hs : s < 4294967296) (hn : n < 1000000) : Calls Try.prog 13 #[setV v a n cap, dotV r s] w (Says (.bool (rin v l (r, s))) w) := by
  have HT := Lib.hid (rh_new (v := v) (cap := cap) h r s)
  have HC := Lib.hid (fun w => rhas_any v r s w hr hs)
  have hb1 := fun w => box31 (v.obj (.slice a n cap)) w
  have HL := Lib.hid h.len
  clear h
  go_enter Try.func13, Try.ntmps13
  go_wp2_with fail
  clear hb1
  generalize (w.alloc (.cells (v.obj (.slice a n cap)) 31)).alloc (.cells #[.int .u8 (r : Int), .int .u32 (s : Int)] 34) = W at HT
  go_loopw [5] (fun i wr => ∃ k : Nat, k ≤ n ∧ i = .int .i64 (k : Int) ∧ Hid (Rh w wr v a n cap l r s) ∧ Hid (∀ j, j < k → l[j]? ≠ some (r, s))) (fun i _ => n - (intOf i).toNat)
  case atStart => exact ⟨0, by omega, rfl, HT, Lib.hid (fun j h => by omega)⟩
  case round =>
    obtain ⟨k, hk, rfl, HR, HE⟩ := hrel
    have c16 := HR.out.slice
    by_cases hlt : k < n
    · obtain ⟨b1, o1, rfl, hc1⟩ := HR.out.dl.cells.resolve_left (by omega)
      obtain ⟨⟨r1, s1⟩, hx⟩ : ∃ x, l[k]? = some x := ⟨l[k]'(by rw [HL.out]; exact hlt), by simp⟩
      have HC1 : Hid (∀ w', Rh w w' v (some ⟨b1, o1, none⟩) n cap l r s → w'.cell? ⟨b1, o1 + k * 2, none⟩ = some (.int .u8 (r1 : Int)) ∧ w'.cell? ⟨b1, o1 + k * 2 + 1, none⟩ = some (.int .u32 (s1 : Int))) := Lib.hid (fun w' h => by
        obtain ⟨b2, o2, e, hc⟩ := h.dl.cells.resolve_left (by omega)
        cases e
        exact hc k _ hx)
      have HX := Lib.hid hx
      clear hx hc1
      cases hd : deq r1 s1 r s
      · have HD := Lib.hid hd
        clear hd
        go_wp2_with fail
        clear c16
        refine wp_region_held_drew (S := fun w' => Rh w w' v (some ⟨b1, o1, none⟩) n cap l r s) (by kernel_rfl) HR.out.drew (fun hS => ?_)
        refine held_take 0 13 (.pointer (some ⟨w.heap.size, 16, none⟩)) rfl rfl (by kernel_rfl) (by kernel_rfl) (by kernel_rfl) (fun _ _ _ h => h) (by kernel_rfl) (fun _ _ => (by kernel_rfl)) hS ?_
        simp only [Act.put, List.setIfInBounds_toArray, List.set_cons_zero, List.set_cons_succ]
        refine held_take 1 14 (.slice (some ⟨b1, o1, none⟩) n cap) rfl rfl (by kernel_rfl) (by kernel_rfl) (by kernel_rfl) (fun _ _ _ h => h) (by kernel_rfl) (fun _ h => exec_cell rfl rfl (load_cell agg25 h.slice)) hS ?_
        simp only [Act.put, List.setIfInBounds_toArray, List.set_cons_zero, List.set_cons_succ]
        refine held_take 2 15 (.int .i64 (k : Int)) rfl rfl (by kernel_rfl) (by kernel_rfl) (by kernel_rfl) (fun _ _ _ h => h) (by kernel_rfl) (fun _ _ => rfl) hS ?_
        simp only [Act.put, List.setIfInBounds_toArray, List.set_cons_zero, List.set_cons_succ]
        refine held_take 3 16 (.pointer (some ⟨b1, o1 + k * 2, none⟩)) rfl rfl (by kernel_rfl) (by kernel_rfl) (by kernel_rfl) (fun _ _ _ h => h) (by kernel_rfl) (fun _ _ => exec_index25 rfl rfl rfl hlt) hS ?_
        simp only [Act.put, List.setIfInBounds_toArray, List.set_cons_zero, List.set_cons_succ]
        refine held_take 4 17 (dotV r1 s1) rfl rfl (by kernel_rfl) (by kernel_rfl) (by kernel_rfl) (fun _ _ _ h => h) (by kernel_rfl) (fun _ h => exec_loadD rfl rfl (HC1.out _ h).1 (HC1.out _ h).2) hS ?_
        simp only [Act.put, List.setIfInBounds_toArray, List.set_cons_zero, List.set_cons_succ]
        refine held_take 5 18 (dotV r s) rfl rfl (by kernel_rfl) (by kernel_rfl) (by kernel_rfl) (fun _ _ _ h => h) (by kernel_rfl) (fun _ h => exec_load34 rfl rfl h.dot) hS ?_
        simp only [Act.put, List.setIfInBounds_toArray, List.set_cons_zero, List.set_cons_succ]
        refine held_take 6 19 (.bool false) rfl rfl (by kernel_rfl) (by kernel_rfl) (by kernel_rfl) (fun _ _ _ h => h) (by kernel_rfl) (fun _ _ => exec_eql34 rfl rfl rfl HD.out) hS ?_
        simp only [Act.put, List.setIfInBounds_toArray, List.set_cons_zero, List.set_cons_succ]
        refine wpAnyH_done (by kernel_rfl) ?_ _
        go_wp2_with fail
        go_roundw
        case rel =>
          refine ⟨k + 1, by omega, by go_num, Lib.hid hS, Lib.hid (fun j hj => ?_)⟩
          by_cases e : j = k
          · subst e
            rw [HX.out]
            intro e
            rw [← Bool.not_eq_true, deq_iff] at HD
            exact HD.out (Option.some.inj e)
          · exact HE.out j (by omega)
        case measure => simp [intOf]; omega
      · have HD := Lib.hid hd
        have HN : Hid (rin v l (r, s) = true) := Lib.hid (by
          have : (r, s) ∈ l := by rw [← (deq_iff _ _ _ _).1 hd]; exact List.mem_of_getElem? HX.out
          simp [rin, this])
        clear hd
        go_wp2_with fail
        clear c16
        refine wp_region_held_drew (S := fun w' => Rh w w' v (some ⟨b1, o1, none⟩) n cap l r s) (by kernel_rfl) HR.out.drew (fun hS => ?_)
        refine held_take 0 13 (.pointer (some ⟨w.heap.size, 16, none⟩)) rfl rfl (by kernel_rfl) (by kernel_rfl) (by kernel_rfl) (fun _ _ _ h => h) (by kernel_rfl) (fun _ _ => (by kernel_rfl)) hS ?_
        simp only [Act.put, List.setIfInBounds_toArray, List.set_cons_zero, List.set_cons_succ]
        refine held_take 1 14 (.slice (some ⟨b1, o1, none⟩) n cap) rfl rfl (by kernel_rfl) (by kernel_rfl) (by kernel_rfl) (fun _ _ _ h => h) (by kernel_rfl) (fun _ h => exec_cell rfl rfl (load_cell agg25 h.slice)) hS ?_
        simp only [Act.put, List.setIfInBounds_toArray, List.set_cons_zero, List.set_cons_succ]
        refine held_take 2 15 (.int .i64 (k : Int)) rfl rfl (by kernel_rfl) (by kernel_rfl) (by kernel_rfl) (fun _ _ _ h => h) (by kernel_rfl) (fun _ _ => rfl) hS ?_
        simp only [Act.put, List.setIfInBounds_toArray, List.set_cons_zero, List.set_cons_succ]
        refine held_take 3 16 (.pointer (some ⟨b1, o1 + k * 2, none⟩)) rfl rfl (by kernel_rfl) (by kernel_rfl) (by kernel_rfl) (fun _ _ _ h => h) (by kernel_rfl) (fun _ _ => exec_index25 rfl rfl rfl hlt) hS ?_
        simp only [Act.put, List.setIfInBounds_toArray, List.set_cons_zero, List.set_cons_succ]
        refine held_take 4 17 (dotV r1 s1) rfl rfl (by kernel_rfl) (by kernel_rfl) (by kernel_rfl) (fun _ _ _ h => h) (by kernel_rfl) (fun _ h => exec_loadD rfl rfl (HC1.out _ h).1 (HC1.out _ h).2) hS ?_
        simp only [Act.put, List.setIfInBounds_toArray, List.set_cons_zero, List.set_cons_succ]
        refine held_take 5 18 (dotV r s) rfl rfl (by kernel_rfl) (by kernel_rfl) (by kernel_rfl) (fun _ _ _ h => h) (by kernel_rfl) (fun _ h => exec_load34 rfl rfl h.dot) hS ?_
        simp only [Act.put, List.setIfInBounds_toArray, List.set_cons_zero, List.set_cons_succ]
        refine held_take 6 19 (.bool true) rfl rfl (by kernel_rfl) (by kernel_rfl) (by kernel_rfl) (fun _ _ _ h => h) (by kernel_rfl) (fun _ _ => exec_eql34 rfl rfl rfl HD.out) hS ?_
        simp only [Act.put, List.setIfInBounds_toArray, List.set_cons_zero, List.set_cons_succ]
        refine wpAnyH_done (by kernel_rfl) ?_ _
        go_wp2_with fail
        go_ret
        exact ⟨ret_bool HN.out.symm, hS.old⟩
    · obtain rfl : k = n := by omega
      have HN : Hid (rin v l (r, s) = V.hasB v r s) := Lib.hid (by
        have : (r, s) ∉ l := by
          intro hm
          obtain ⟨j, hj⟩ := List.getElem?_of_mem hm
          exact HE.out j (by rw [← HL.out]; exact (List.getElem?_eq_some_iff.1 hj).1) hj
        simp [rin, this])
      have c1 : wr.cell? ⟨w.heap.size + 1, 0, none⟩ = some (.int .u8 (r : Int)) := by rw [HR.out.dot.cell]; rfl
      have c2 : wr.cell? ⟨w.heap.size + 1, 1, none⟩ = some (.int .u32 (s : Int)) := by rw [HR.out.dot.cell]; rfl
      go_wp2_with (refine wpList_run rfl (exec_loadv31 (v := v) rfl rfl HR.out.grp) ?_)
      clear c1 c2 c16
      refine (HC.out _).mono ?_
      rintro e w2 ⟨rfl, hb⟩
      have HB := Lib.hid (HR.out.old.trans (hb.mono HR.out.old.size))
      clear hb
      go_wp2_with fail
      go_ret
      exact ⟨ret_bool HN.out.symm, HB.out⟩

end Go.Proofs.Ytkamldmcjegjgaa
