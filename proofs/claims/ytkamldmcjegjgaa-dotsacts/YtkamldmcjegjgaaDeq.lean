/- Dots compared, and an element of a slice of dots; the walk of 'same'. -/
import Derived.Test.YtkamldmcjegjgaaMis
import Derived.Laws.StructEq
namespace Go.Proofs.Ytkamldmcjegjgaa
open Go.RowKit

/-- Two dots alike. -/
def deq (r s r' s' : Nat) : Bool := decide ((r, s) = (r', s'))

theorem equal34 (r s r' s' : Nat) (w : World) : (Op.equalIn 10000 34 (dotV r s) (dotV r' s')).run Try.prog w = .ok (deq r s r' s') w := by
  have u5 := Try.underlying5
  have u22 := Try.underlying22
  have a5 := Try.isAgg5
  have a22 := Try.isAgg22
  have z5 := Try.sizeOf5
  have z22 := Try.sizeOf22
  have hS : Try.prog.underlying 34 = some (.struct (Try.prog.fieldsOf 34)) := by kernel_rfl
  have hp : Try.prog.stoodInHeld 34 = false := by kernel_rfl
  rw [show (10000 : Nat) = 9999 + 1 from rfl, run_equalIn_agg w 9999 34 _ _ hS hp]
  simp only [Program.fieldsOf, Try.underlying34]
  go_simp
  by_cases h1 : r = r' <;> by_cases h2 : s = s' <;> simp [h1, h2, deq] <;> omega

theorem eql34 (r s r' s' : Nat) (w : World) : (binOp .eql 34 (dotV r s) (dotV r' s')).run Try.prog w = .ok (.bool (deq r s r' s')) w := by
  rw [run_eql_struct, equal34]; rfl
theorem neq34 (r s r' s' : Nat) (w : World) : (binOp .neq 34 (dotV r s) (dotV r' s')).run Try.prog w = .ok (.bool (!deq r s r' s')) w := by
  rw [run_neq_struct, equal34]; rfl
theorem guard34 (op : BinOp) (x y : Operand) (r s r' s' : Nat) (w : World) : (eqGuard op 34 x y (dotV r s) (dotV r' s')).run Try.prog w = .ok () w := run_eqGuard_agg w op 34 x y _ _ (by kernel_rfl)

section
variable {ev : Operand → Value} {o : Oper} {w : World}
theorem exec_eql34 {x y : Operand} {t : TypeId} {r s r' s' : Nat} {b : Bool} (ho : o.op = .binOp .eql 34 x y t) (hx : ev x = dotV r s) (hy : ev y = dotV r' s') (hr : deq r s r' s' = b) : (execOp ev o).run Try.prog w = .ok (.value (.bool b)) w := by
  unfold execOp
  simp only [ho, hx, hy, Sem.run_bind, guard34, eql34, Result.andThen_ok, hr]
  rfl
theorem exec_neq34 {x y : Operand} {t : TypeId} {r s r' s' : Nat} {b : Bool} (ho : o.op = .binOp .neq 34 x y t) (hx : ev x = dotV r s) (hy : ev y = dotV r' s') (hr : (!deq r s r' s') = b) : (execOp ev o).run Try.prog w = .ok (.value (.bool b)) w := by
  unfold execOp
  simp only [ho, hx, hy, Sem.run_bind, guard34, neq34, Result.andThen_ok, hr]
  rfl
theorem exec_loadD {x : Operand} {b off r s : Nat} (ho : o.op = .load 34 x) (hx : ev x = .pointer (some ⟨b, off, none⟩)) (h1 : w.cell? ⟨b, off, none⟩ = some (.int .u8 (r : Int))) (h2 : w.cell? ⟨b, off + 1, none⟩ = some (.int .u32 (s : Int))) : (execOp ev o).run Try.prog w = .ok (.value (dotV r s)) w := by
  have hl := run_loadVar_mid (P := Try.prog) w b off 34 [.int .u8 (r : Int), .int .u32 (s : Int)] _ (by
    intro j u hu
    match j, hu with
    | 0, hu => simpa using h1.trans (by simpa using hu)
    | 1, hu => simpa using h2.trans (by simpa using hu)) Try.underlying34 rfl (by kernel_rfl)
  unfold execOp
  simp only [ho, hx, Instr.loadAt, Instr.sureAddr, Sem.run_bind, Sem.run_pure, Result.andThen_ok, hl]
theorem exec_index25 {x y : Operand} {b off n cap k : Nat} (ho : o.op = .indexAddr 25 x y) (hx : ev x = .slice (some ⟨b, off, none⟩) n cap) (hy : ev y = .int .i64 (k : Int)) (hk : k < n) : (execOp ev o).run Try.prog w = .ok (.value (.pointer (some ⟨b, off + k * 2, none⟩))) w := by
  unfold execOp
  have h2 : (k : Int) < (n : Int) := by omega
  have h0 : (0 : Int) ≤ (k : Int) := by omega
  simp only [ho, hx, hy]
  go_simp
end

theorem deq_iff (r s r' s' : Nat) : deq r s r' s' = true ↔ (r, s) = (r', s') := by simp [deq]

/-- What was there is there. -/
theorem below_at' {w w' : World} (k : Below w.heap.size w w') {b o : Nat} {v : Value} (h : w.cell? ⟨b, o, none⟩ = some v) : w'.cell? ⟨b, o, none⟩ = some v := below_at k h

/-- Two slices, read. -/
structure Sl2 (W : World) (b1 o1 b2 o2 r s r' s' k : Nat) : Prop where
  x1 : W.cell? ⟨b1, o1 + k * 2, none⟩ = some (.int .u8 (r : Int))
  x2 : W.cell? ⟨b1, o1 + k * 2 + 1, none⟩ = some (.int .u32 (s : Int))
  y1 : W.cell? ⟨b2, o2 + k * 2, none⟩ = some (.int .u8 (r' : Int))
  y2 : W.cell? ⟨b2, o2 + k * 2 + 1, none⟩ = some (.int .u32 (s' : Int))

set_option maxHeartbeats 1000000 in
theorem same_any {w : World} {a b : Option Addr} {n m ca cb : Nat} {l1 l2 : List Dt} (h1 : DL w a n l1) (h2 : DL w b m l2) (hn : n < 4611686018427387904) (hm : m < 4611686018427387904) : Calls Try.prog 18 #[.slice a n ca, .slice b m cb] w (Says (.bool (decide (l1 = l2))) w) := by
  by_cases hnm : n = m
  · subst hnm
    have H1 := Lib.hid h1
    have H2 := Lib.hid h2
    clear h1 h2 hm
    go_enter Try.func18, Try.ntmps18
    go_wp2_with fail
    go_loopw [13] (fun i wr => ∃ k : Nat, k ≤ n ∧ i = .int .i64 (k : Int) ∧ Hid (Below w.heap.size w wr) ∧ Hid (∀ j, j < k → l1[j]? = l2[j]?)) (fun i _ => n - (intOf i).toNat)
    case atStart => exact ⟨0, by omega, rfl, Lib.hid (Below.refl _ _), Lib.hid (fun j h => by omega)⟩
    case round =>
      obtain ⟨k, hk, rfl, HB, HE⟩ := hrel
      by_cases hlt : k < n
      · obtain ⟨b1, o1, rfl, hc1⟩ := H1.out.cells.resolve_left (by omega)
        obtain ⟨b2, o2, rfl, hc2⟩ := H2.out.cells.resolve_left (by omega)
        obtain ⟨⟨r, s⟩, hx⟩ : ∃ x, l1[k]? = some x := ⟨l1[k]'(by rw [H1.out.len]; exact hlt), by simp⟩
        obtain ⟨⟨r2, s2⟩, hy⟩ : ∃ x, l2[k]? = some x := ⟨l2[k]'(by rw [H2.out.len]; exact hlt), by simp⟩
        have hs2 : Sl2 wr b1 o1 b2 o2 r s r2 s2 k := ⟨below_at' HB.out (hc1 k _ hx).1, below_at' HB.out (hc1 k _ hx).2, below_at' HB.out (hc2 k _ hy).1, below_at' HB.out (hc2 k _ hy).2⟩
        have HS := Lib.hid hs2
        have HX := Lib.hid hx
        have HY := Lib.hid hy
        clear hs2 hx hy hc1 hc2
        cases hd : deq r s r2 s2
        · have HN : Hid (decide (l1 = l2) = false) := Lib.hid (by
            rw [decide_eq_false_iff_not]
            rintro rfl
            have := HX.out.symm.trans HY.out
            rw [← Bool.not_eq_true, deq_iff] at hd
            exact hd (Option.some.inj this))
          have HD := Lib.hid hd
          clear hd
          go_wp2_with fail
          refine wp_region_held_drew (S := fun w' => Sl2 w' b1 o1 b2 o2 r s r2 s2 k ∧ Below w.heap.size w w') (by kernel_rfl) ⟨⟨HS.out.x1, HS.out.x2, HS.out.y1, HS.out.y2⟩, HB.out.drew⟩ (fun hS => ?_)
          refine held_take 0 16 (.slice (some ⟨b1, o1, none⟩) n ca) rfl rfl (by kernel_rfl) (by kernel_rfl) (by kernel_rfl) (fun _ _ _ h => h) (by kernel_rfl) (fun _ _ => rfl) hS ?_
          simp only [Act.put, List.setIfInBounds_toArray, List.set_cons_zero, List.set_cons_succ]
          refine held_take 1 17 (.int .i64 (k : Int)) rfl rfl (by kernel_rfl) (by kernel_rfl) (by kernel_rfl) (fun _ _ _ h => h) (by kernel_rfl) (fun _ _ => rfl) hS ?_
          simp only [Act.put, List.setIfInBounds_toArray, List.set_cons_zero, List.set_cons_succ]
          refine held_take 2 18 (.pointer (some ⟨b1, o1 + k * 2, none⟩)) rfl rfl (by kernel_rfl) (by kernel_rfl) (by kernel_rfl) (fun _ _ _ h => h) (by kernel_rfl) (fun _ _ => exec_index25 rfl rfl rfl hlt) hS ?_
          simp only [Act.put, List.setIfInBounds_toArray, List.set_cons_zero, List.set_cons_succ]
          refine held_take 3 19 (dotV r s) rfl rfl (by kernel_rfl) (by kernel_rfl) (by kernel_rfl) (fun _ _ _ h => h) (by kernel_rfl) (fun _ h => exec_loadD rfl rfl h.1.x1 h.1.x2) hS ?_
          simp only [Act.put, List.setIfInBounds_toArray, List.set_cons_zero, List.set_cons_succ]
          refine held_take 4 20 (.slice (some ⟨b2, o2, none⟩) n cb) rfl rfl (by kernel_rfl) (by kernel_rfl) (by kernel_rfl) (fun _ _ _ h => h) (by kernel_rfl) (fun _ _ => rfl) hS ?_
          simp only [Act.put, List.setIfInBounds_toArray, List.set_cons_zero, List.set_cons_succ]
          refine held_take 5 21 (.int .i64 (k : Int)) rfl rfl (by kernel_rfl) (by kernel_rfl) (by kernel_rfl) (fun _ _ _ h => h) (by kernel_rfl) (fun _ _ => rfl) hS ?_
          simp only [Act.put, List.setIfInBounds_toArray, List.set_cons_zero, List.set_cons_succ]
          refine held_take 6 22 (.pointer (some ⟨b2, o2 + k * 2, none⟩)) rfl rfl (by kernel_rfl) (by kernel_rfl) (by kernel_rfl) (fun _ _ _ h => h) (by kernel_rfl) (fun _ _ => exec_index25 rfl rfl rfl hlt) hS ?_
          simp only [Act.put, List.setIfInBounds_toArray, List.set_cons_zero, List.set_cons_succ]
          refine held_take 7 23 (dotV r2 s2) rfl rfl (by kernel_rfl) (by kernel_rfl) (by kernel_rfl) (fun _ _ _ h => h) (by kernel_rfl) (fun _ h => exec_loadD rfl rfl h.1.y1 h.1.y2) hS ?_
          simp only [Act.put, List.setIfInBounds_toArray, List.set_cons_zero, List.set_cons_succ]
          refine held_take 8 24 (.bool true) rfl rfl (by kernel_rfl) (by kernel_rfl) (by kernel_rfl) (fun _ _ _ h => h) (by kernel_rfl) (fun _ _ => exec_neq34 rfl rfl rfl (by rw [HD.out]; rfl)) hS ?_
          simp only [Act.put, List.setIfInBounds_toArray, List.set_cons_zero, List.set_cons_succ]
          refine wpAnyH_done (by kernel_rfl) ?_ _
          go_wp2_with fail
          go_ret
          exact ⟨ret_bool HN.out.symm, hS.2⟩
        · have HD := Lib.hid hd
          clear hd
          go_wp2_with fail
          refine wp_region_held_drew (S := fun w' => Sl2 w' b1 o1 b2 o2 r s r2 s2 k ∧ Below w.heap.size w w') (by kernel_rfl) ⟨⟨HS.out.x1, HS.out.x2, HS.out.y1, HS.out.y2⟩, HB.out.drew⟩ (fun hS => ?_)
          refine held_take 0 16 (.slice (some ⟨b1, o1, none⟩) n ca) rfl rfl (by kernel_rfl) (by kernel_rfl) (by kernel_rfl) (fun _ _ _ h => h) (by kernel_rfl) (fun _ _ => rfl) hS ?_
          simp only [Act.put, List.setIfInBounds_toArray, List.set_cons_zero, List.set_cons_succ]
          refine held_take 1 17 (.int .i64 (k : Int)) rfl rfl (by kernel_rfl) (by kernel_rfl) (by kernel_rfl) (fun _ _ _ h => h) (by kernel_rfl) (fun _ _ => rfl) hS ?_
          simp only [Act.put, List.setIfInBounds_toArray, List.set_cons_zero, List.set_cons_succ]
          refine held_take 2 18 (.pointer (some ⟨b1, o1 + k * 2, none⟩)) rfl rfl (by kernel_rfl) (by kernel_rfl) (by kernel_rfl) (fun _ _ _ h => h) (by kernel_rfl) (fun _ _ => exec_index25 rfl rfl rfl hlt) hS ?_
          simp only [Act.put, List.setIfInBounds_toArray, List.set_cons_zero, List.set_cons_succ]
          refine held_take 3 19 (dotV r s) rfl rfl (by kernel_rfl) (by kernel_rfl) (by kernel_rfl) (fun _ _ _ h => h) (by kernel_rfl) (fun _ h => exec_loadD rfl rfl h.1.x1 h.1.x2) hS ?_
          simp only [Act.put, List.setIfInBounds_toArray, List.set_cons_zero, List.set_cons_succ]
          refine held_take 4 20 (.slice (some ⟨b2, o2, none⟩) n cb) rfl rfl (by kernel_rfl) (by kernel_rfl) (by kernel_rfl) (fun _ _ _ h => h) (by kernel_rfl) (fun _ _ => rfl) hS ?_
          simp only [Act.put, List.setIfInBounds_toArray, List.set_cons_zero, List.set_cons_succ]
          refine held_take 5 21 (.int .i64 (k : Int)) rfl rfl (by kernel_rfl) (by kernel_rfl) (by kernel_rfl) (fun _ _ _ h => h) (by kernel_rfl) (fun _ _ => rfl) hS ?_
          simp only [Act.put, List.setIfInBounds_toArray, List.set_cons_zero, List.set_cons_succ]
          refine held_take 6 22 (.pointer (some ⟨b2, o2 + k * 2, none⟩)) rfl rfl (by kernel_rfl) (by kernel_rfl) (by kernel_rfl) (fun _ _ _ h => h) (by kernel_rfl) (fun _ _ => exec_index25 rfl rfl rfl hlt) hS ?_
          simp only [Act.put, List.setIfInBounds_toArray, List.set_cons_zero, List.set_cons_succ]
          refine held_take 7 23 (dotV r2 s2) rfl rfl (by kernel_rfl) (by kernel_rfl) (by kernel_rfl) (fun _ _ _ h => h) (by kernel_rfl) (fun _ h => exec_loadD rfl rfl h.1.y1 h.1.y2) hS ?_
          simp only [Act.put, List.setIfInBounds_toArray, List.set_cons_zero, List.set_cons_succ]
          refine held_take 8 24 (.bool false) rfl rfl (by kernel_rfl) (by kernel_rfl) (by kernel_rfl) (fun _ _ _ h => h) (by kernel_rfl) (fun _ _ => exec_neq34 rfl rfl rfl (by rw [HD.out]; rfl)) hS ?_
          simp only [Act.put, List.setIfInBounds_toArray, List.set_cons_zero, List.set_cons_succ]
          refine wpAnyH_done (by kernel_rfl) ?_ _
          go_wp2_with fail
          go_roundw
          case rel =>
            refine ⟨k + 1, by omega, by go_num, Lib.hid hS.2, Lib.hid (fun j hj => ?_)⟩
            by_cases e : j = k
            · subst e
              rw [HX.out, HY.out, (deq_iff _ _ _ _).1 HD.out]
            · exact HE.out j (by omega)
          case measure => simp [intOf]; omega
      · obtain rfl : k = n := by omega
        have HN : Hid (decide (l1 = l2) = true) := Lib.hid (by
          rw [decide_eq_true_iff]
          apply List.ext_getElem?
          intro j
          by_cases hj : j < k
          · exact HE.out j hj
          · rw [List.getElem?_eq_none (by rw [H1.out.len]; omega), List.getElem?_eq_none (by rw [H2.out.len]; omega)])
        go_wp2_with fail
        go_ret
        exact ⟨ret_bool HN.out.symm, HB.out⟩
  · have HN : Hid (decide (l1 = l2) = false) := Lib.hid (by
      rw [decide_eq_false_iff_not]
      rintro rfl
      exact hnm (h1.len.symm.trans h2.len))
    have hne : ((n : Int) != (m : Int)) = true := by simp; omega
    clear h1 h2
    go_enter Try.func18, Try.ntmps18
    go_wp2_with fail
    go_ret
    exact ⟨ret_bool HN.out.symm, Below.refl _ _⟩

end Go.Proofs.Ytkamldmcjegjgaa
