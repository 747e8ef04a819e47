/- OpOrder: operations stand in one order, and what one knew comes ahead of it. No condition. -/
import Derived.Test.YtjfcddfnmbeolaaLaw
import Derived.Deep.DeepCutAuto
namespace Go.Proofs.Ytjfcddfnmbeolaa
open Go.ChangeShapes Go.WideShapes Go.ChangeAt Go.RowKit

theorem sumTo_le {a b : V} (h : ∀ i, i < 16 → a.at_ i ≤ b.at_ i) : ∀ k, k ≤ 16 → V.sumTo a k ≤ V.sumTo b k
  | 0, _ => Nat.le_refl _
  | k + 1, hk => by
    have := sumTo_le h k (by omega)
    have := h k (by omega)
    simp only [V.sumTo]
    omega
theorem sumTo_lt {a b : V} (h : ∀ i, i < 16 → a.at_ i ≤ b.at_ i) {j : Nat} (hj : a.at_ j < b.at_ j) : ∀ k, k ≤ 16 → j < k → V.sumTo a k < V.sumTo b k
  | 0, _, h0 => by omega
  | k + 1, hk, h0 => by
    have h1 := sumTo_le h k (by omega)
    have h2 := h k (by omega)
    simp only [V.sumTo]
    by_cases e : j = k
    · subst e; omega
    · have := sumTo_lt h hj k (by omega) (by omega)
      omega
theorem less_iff (a b : O) : O.lessB a b = true ↔ (a.count < b.count ∨ (a.count = b.count ∧ (a.r < b.r ∨ (a.r = b.r ∧ a.s < b.s)))) := by
  unfold O.lessB; rw [decide_eq_true_eq]
theorem less_irr (a : O) : O.lessB a a = false := by
  rw [← Bool.not_eq_true, less_iff]; omega
theorem less_asym {a b : O} (h : O.lessB a b = true) : O.lessB b a = false := by
  rw [less_iff] at h
  rw [← Bool.not_eq_true, less_iff]; omega
theorem less_trans {a b c : O} (h : O.lessB a b = true) (k : O.lessB b c = true) : O.lessB a c = true := by
  rw [less_iff] at h k ⊢
  omega
/-- What one knew comes ahead of it. -/
theorem less_known {a b : O} (h : a.rightB 16 = true) (hh : V.hasB b.v a.r a.s = true) (hb : V.belowB a.v b.v = true) : O.lessB a b = true := by
  obtain ⟨hd, hq, _⟩ := (O.right_iff a 16).1 h
  obtain ⟨hr, _, _⟩ := dotB_lt hd
  simp only [V.hasB, Bool.and_eq_true, decide_eq_true_eq] at hh
  have := sumTo_lt ((V.belowB_iff a.v b.v).1 hb) (j := a.r) (by omega) 16 (Nat.le_refl _) hr
  rw [less_iff]
  unfold O.count V.sum
  omega
theorem less_total {a b : O} (hc : a.count = b.count) : (a.r = b.r ∧ a.s = b.s) ∨ O.lessB a b = true ∨ O.lessB b a = true := by
  rw [less_iff, less_iff]
  omega

/-- Are two dots one. -/
def deq (r s r' s' : Nat) : Bool := decide (r = r' ∧ s = s')
theorem equal24 (r s r' s' : Nat) (w : World) : (Op.equalIn 10000 24 (dotV r s) (dotV r' s')).run Try.prog w = .ok (deq r s r' s') w := by
  have u5 := Try.underlying5
  have u22 := Try.underlying22
  have a5 := Try.isAgg5
  have a22 := Try.isAgg22
  have z5 := Try.sizeOf5
  have z22 := Try.sizeOf22
  have hS : Try.prog.underlying 24 = some (.struct (Try.prog.fieldsOf 24)) := by kernel_rfl
  have hp : Try.prog.stoodInHeld 24 = false := by kernel_rfl
  rw [show (10000 : Nat) = 9999 + 1 from rfl, run_equalIn_agg w 9999 24 _ _ hS hp]
  simp only [Program.fieldsOf, Try.underlying24]
  go_simp
  by_cases h1 : r = r' <;> by_cases h2 : s = s' <;> simp [h1, h2, deq] <;> omega
theorem exec_eql24 {ev : Operand → Value} {o : Oper} {w : World} {x y : Operand} {t : TypeId} {r s r' s' : Nat} {b : Bool} (ho : o.op = .binOp .eql 24 x y t) (hx : ev x = dotV r s) (hy : ev y = dotV r' s') (hr : deq r s r' s' = b) : (execOp ev o).run Try.prog w = .ok (.value (.bool b)) w := by
  have hg : (eqGuard .eql 24 x y (dotV r s) (dotV r' s')).run Try.prog w = .ok () w := run_eqGuard_agg w .eql 24 x y _ _ (by kernel_rfl)
  have he : (binOp .eql 24 (dotV r s) (dotV r' s')).run Try.prog w = .ok (.bool (deq r s r' s')) w := by rw [run_eql_struct, equal24]; rfl
  unfold execOp
  simp only [ho, hx, hy, Sem.run_bind, hg, he, Result.andThen_ok, hr]
  rfl
theorem neq_true {x y : Nat} (h : ¬ x = y) : ((x : Int) != (y : Int)) = true := by simp; omega
theorem neq_false {x y : Nat} (h : x = y) : ((x : Int) != (y : Int)) = false := by simp; omega

namespace OpOrder
set_option maxHeartbeats 8000000 in
set_option maxRecDepth 100000 in
theorem walk (a b d : O) (w : World) : Calls Try.prog 7 #[.agg a.arr, .agg b.arr, .agg d.arr] w (Says (.bool true) w) := by
  have hb1 := fun (o : O) w => box29 o w
  have HT := Lib.hid (ow3_new w a b d)
  have HAA := Lib.hid (fun w => less_any a a w)
  rw [less_irr] at HAA
  have HAB := Lib.hid (fun w => less_any a b w)
  have HBA := Lib.hid (fun w => less_any b a w)
  have HBD := Lib.hid (fun w => less_any b d w)
  have HAD := Lib.hid (fun w => less_any a d w)
  have HAS := Lib.hid (less_asym (a := a) (b := b))
  have HTR := Lib.hid (less_trans (a := a) (b := b) (c := d))
  have HKN := Lib.hid (less_known (a := a) (b := b))
  have HTO := Lib.hid (less_total (a := a) (b := b))
  have HRA := Lib.hid (fun w => right_op a 16 w (by omega) (by omega))
  have HRB := Lib.hid (fun w => right_op b 16 w (by omega) (by omega))
  have HHS := Lib.hid (fun w => rhas_any b.v a.r a.s w a.hr a.hs)
  have HBL := Lib.hid (fun w => rbelow_any a.v b.v w)
  generalize O.lessB a b = xab at HAB HAS HTR HKN HTO
  generalize O.lessB b a = xba at HBA HAS HTO
  generalize O.lessB b d = xbd at HBD HTR
  generalize O.lessB a d = xad at HAD HTR
  go_enter Try.func7, Try.ntmps7
  go_wp2_with fail
  clear hb1
  generalize ((w.alloc (.cells a.arr 29)).alloc (.cells b.arr 29)).alloc (.cells d.arr 29) = W at HT
  refine (alive_any _).mono ?_
  rintro e w1 ⟨rfl, hb⟩
  have HT1 := Lib.hid (HT.out.below hb)
  clear hb HT
  go_wp2_with fail
  refine wp_region_held_drew (S := fun w' => Ow3 w w' a b d) (by kernel_rfl) HT1.out.drew (fun hS => ?_)
  refine held_take 0 13 (.agg a.arr) rfl rfl (by kernel_rfl) (by kernel_rfl) (by kernel_rfl) (fun _ _ _ h => h) (by kernel_rfl) (fun _ h => exec_load29 (p := a) rfl rfl h.one) hS ?_
  simp only [Act.put, List.setIfInBounds_toArray, List.set_cons_zero, List.set_cons_succ]
  refine held_take 1 14 (.agg b.arr) rfl rfl (by kernel_rfl) (by kernel_rfl) (by kernel_rfl) (fun _ _ _ h => h) (by kernel_rfl) (fun _ h => exec_load29 (p := b) rfl rfl h.two) hS ?_
  simp only [Act.put, List.setIfInBounds_toArray, List.set_cons_zero, List.set_cons_succ]
  refine held_take 3 16 (.agg b.arr) rfl rfl (by kernel_rfl) (by kernel_rfl) (by kernel_rfl) (fun _ _ _ h => h) (by kernel_rfl) (fun _ h => exec_load29 (p := b) rfl rfl h.two) hS ?_
  simp only [Act.put, List.setIfInBounds_toArray, List.set_cons_zero, List.set_cons_succ]
  refine held_take 4 17 (.agg a.arr) rfl rfl (by kernel_rfl) (by kernel_rfl) (by kernel_rfl) (fun _ _ _ h => h) (by kernel_rfl) (fun _ h => exec_load29 (p := a) rfl rfl h.one) hS ?_
  simp only [Act.put, List.setIfInBounds_toArray, List.set_cons_zero, List.set_cons_succ]
  refine held_take 6 19 (.agg b.arr) rfl rfl (by kernel_rfl) (by kernel_rfl) (by kernel_rfl) (fun _ _ _ h => h) (by kernel_rfl) (fun _ h => exec_load29 (p := b) rfl rfl h.two) hS ?_
  simp only [Act.put, List.setIfInBounds_toArray, List.set_cons_zero, List.set_cons_succ]
  refine held_take 7 20 (.agg d.arr) rfl rfl (by kernel_rfl) (by kernel_rfl) (by kernel_rfl) (fun _ _ _ h => h) (by kernel_rfl) (fun _ h => exec_load29 (p := d) rfl rfl h.thr) hS ?_
  simp only [Act.put, List.setIfInBounds_toArray, List.set_cons_zero, List.set_cons_succ]
  refine held_take 9 22 (.agg a.arr) rfl rfl (by kernel_rfl) (by kernel_rfl) (by kernel_rfl) (fun _ _ _ h => h) (by kernel_rfl) (fun _ h => exec_load29 (p := a) rfl rfl h.one) hS ?_
  simp only [Act.put, List.setIfInBounds_toArray, List.set_cons_zero, List.set_cons_succ]
  refine held_take 10 23 (.agg d.arr) rfl rfl (by kernel_rfl) (by kernel_rfl) (by kernel_rfl) (fun _ _ _ h => h) (by kernel_rfl) (fun _ h => exec_load29 (p := d) rfl rfl h.thr) hS ?_
  simp only [Act.put, List.setIfInBounds_toArray, List.set_cons_zero, List.set_cons_succ]
  refine held_call 2 15 16 #[(.agg a.arr), (.agg b.arr)] (.bool xab) rfl (by kernel_rfl) rfl (by kernel_rfl) (by kernel_rfl) (HAB.out _) (fun _ h hb => h.below hb) hS (fun w102 hS => ?_)
  simp only [Act.put, List.setIfInBounds_toArray, List.set_cons_zero, List.set_cons_succ]
  refine held_call 5 18 16 #[(.agg b.arr), (.agg a.arr)] (.bool xba) rfl (by kernel_rfl) rfl (by kernel_rfl) (by kernel_rfl) (HBA.out _) (fun _ h hb => h.below hb) hS (fun w105 hS => ?_)
  simp only [Act.put, List.setIfInBounds_toArray, List.set_cons_zero, List.set_cons_succ]
  refine held_call 8 21 16 #[(.agg b.arr), (.agg d.arr)] (.bool xbd) rfl (by kernel_rfl) rfl (by kernel_rfl) (by kernel_rfl) (HBD.out _) (fun _ h hb => h.below hb) hS (fun w108 hS => ?_)
  simp only [Act.put, List.setIfInBounds_toArray, List.set_cons_zero, List.set_cons_succ]
  refine held_call 11 24 16 #[(.agg a.arr), (.agg d.arr)] (.bool xad) rfl (by kernel_rfl) rfl (by kernel_rfl) (by kernel_rfl) (HAD.out _) (fun _ h hb => h.below hb) hS (fun w111 hS => ?_)
  simp only [Act.put, List.setIfInBounds_toArray, List.set_cons_zero, List.set_cons_succ]
  refine held_take 12 7 (.bool xab) rfl rfl (by kernel_rfl) (by kernel_rfl) (by kernel_rfl) (fun _ _ _ h => h) (by kernel_rfl) (fun _ _ => rfl) hS ?_
  simp only [Act.put, List.setIfInBounds_toArray, List.set_cons_zero, List.set_cons_succ]
  refine held_take 13 8 (.bool xba) rfl rfl (by kernel_rfl) (by kernel_rfl) (by kernel_rfl) (fun _ _ _ h => h) (by kernel_rfl) (fun _ _ => rfl) hS ?_
  simp only [Act.put, List.setIfInBounds_toArray, List.set_cons_zero, List.set_cons_succ]
  refine held_take 14 9 (.bool xbd) rfl rfl (by kernel_rfl) (by kernel_rfl) (by kernel_rfl) (fun _ _ _ h => h) (by kernel_rfl) (fun _ _ => rfl) hS ?_
  simp only [Act.put, List.setIfInBounds_toArray, List.set_cons_zero, List.set_cons_succ]
  refine held_take 15 10 (.bool xad) rfl rfl (by kernel_rfl) (by kernel_rfl) (by kernel_rfl) (fun _ _ _ h => h) (by kernel_rfl) (fun _ _ => rfl) hS ?_
  simp only [Act.put, List.setIfInBounds_toArray, List.set_cons_zero, List.set_cons_succ]
  refine wpAnyH_done (by kernel_rfl) ?_ _
  have HT2 := Lib.hid hS
  clear hS HT1 HAB HBA HBD HAD
  go_upto_region 4 with fail
  go_cut [43] (fun c wx => c = .bool false ∧ Hid (Ow3 w wx a b d))
  case first =>
    go_wp2_with (refine wpList_run rfl (exec_load29 (p := a) rfl rfl HT2.out.one) ?_)
    refine (HAA.out _).mono ?_
    rintro e w3 ⟨rfl, hb⟩
    have HT3 := Lib.hid (HT2.out.below hb)
    clear hb HT2
    cases xab
    · go_wp2_with fail
      go_meet
      exact ⟨rfl, HT3⟩
    · have e1 := HAS.out rfl
      subst e1
      cases xbd
      · go_wp2_with fail
        go_meet
        exact ⟨rfl, HT3⟩
      · have e2 := HTR.out rfl rfl
        subst e2
        go_wp2_with fail
        go_meet
        exact ⟨rfl, HT3⟩
  case rest =>
    obtain ⟨rfl, HT4⟩ := hcut
    go_upto_region 6 with fail
    go_cut [67] (fun c wx => c = .bool false ∧ Hid (Ow3 w wx a b d))
    case first =>
      go_wp2_with (refine wpList_run rfl (exec_load29 (p := a) rfl rfl HT4.out.one) ?_)
      cases h1 : a.rightB 16
      · rw [h1] at HRA
        clear h1
        refine (HRA.out _).mono ?_
        rintro e w5 ⟨rfl, hb⟩
        have HT5 := Lib.hid (HT4.out.below hb)
        clear hb
        go_wp2_with fail
        go_meet
        exact ⟨rfl, HT5⟩
      · have HK1 := Lib.hid (HKN.out h1)
        rw [h1] at HRA
        clear h1
        refine (HRA.out _).mono ?_
        rintro e w5 ⟨rfl, hb⟩
        have HT5 := Lib.hid (HT4.out.below hb)
        clear hb
        go_wp2_with (refine wpList_runW (exec_load29 (p := b) rfl rfl HT5.out.two) (by kernel_rfl) ?_)
        cases h2 : b.rightB 16
        · rw [h2] at HRB
          clear h2
          refine (HRB.out _).mono ?_
          rintro e w6 ⟨rfl, hb⟩
          have HT6 := Lib.hid (HT5.out.below hb)
          clear hb
          go_wp2_with fail
          go_meet
          exact ⟨rfl, HT6⟩
        · rw [h2] at HRB
          clear h2
          refine (HRB.out _).mono ?_
          rintro e w6 ⟨rfl, hb⟩
          have HT6 := Lib.hid (HT5.out.below hb)
          clear hb
          go_wp2_with (first | (refine wpList_runW (exec_ctx (p := b) rfl rfl HT6.out.two) (by kernel_rfl) ?_) | (refine wpList_runW (exec_dot (p := a) rfl rfl HT6.out.one) (by kernel_rfl) ?_))
          cases h3 : V.hasB b.v a.r a.s
          · rw [h3] at HHS
            clear h3
            refine (HHS.out _).mono ?_
            rintro e w7 ⟨rfl, hb⟩
            have HT7 := Lib.hid (HT6.out.below hb)
            clear hb
            go_wp2_with fail
            go_meet
            exact ⟨rfl, HT7⟩
          · have HK2 := Lib.hid (HK1.out h3)
            rw [h3] at HHS
            clear h3
            refine (HHS.out _).mono ?_
            rintro e w7 ⟨rfl, hb⟩
            have HT7 := Lib.hid (HT6.out.below hb)
            clear hb
            go_wp2_with (first | (refine wpList_runW (exec_ctx (p := a) rfl rfl HT7.out.one) (by kernel_rfl) ?_) | (refine wpList_runW (exec_ctx (p := b) rfl rfl HT7.out.two) (by kernel_rfl) ?_))
            cases h4 : V.belowB a.v b.v
            · rw [h4] at HBL
              clear h4
              refine (HBL.out _).mono ?_
              rintro e w8 ⟨rfl, hb⟩
              have HT8 := Lib.hid (HT7.out.below hb)
              clear hb
              go_wp2_with fail
              go_meet
              exact ⟨rfl, HT8⟩
            · have e3 := HK2.out h4
              subst e3
              rw [h4] at HBL
              clear h4
              refine (HBL.out _).mono ?_
              rintro e w8 ⟨rfl, hb⟩
              have HT8 := Lib.hid (HT7.out.below hb)
              clear hb
              go_wp2_with fail
              go_meet
              exact ⟨rfl, HT8⟩
    case rest =>
      obtain ⟨rfl, HT9⟩ := hcut
      have HCA := Lib.hid (fun w => count_any a w)
      have HCB := Lib.hid (fun w => count_any b w)
      have HDE : Hid (deq a.r a.s b.r b.s = decide (a.r = b.r ∧ a.s = b.s)) := Lib.hid rfl
      go_wp2_with fail
      by_cases hc : a.count = b.count
      · have HTT := Lib.hid (HTO.out hc)
        have HC := Lib.hid hc
        clear hc
        by_cases hdd : a.r = b.r ∧ a.s = b.s
        · have HD : Hid (deq a.r a.s b.r b.s = true) := Lib.hid (by rw [HDE.out]; exact decide_eq_true hdd)
          clear hdd
          refine wp_region_held_drew (S := fun w' => Ow3 w w' a b d) (by kernel_rfl) HT9.out.drew (fun hS => ?_)
          refine held_take 0 68 (.agg a.arr) rfl rfl (by kernel_rfl) (by kernel_rfl) (by kernel_rfl) (fun _ _ _ h => h) (by kernel_rfl) (fun _ h => exec_load29 (p := a) rfl rfl h.one) hS ?_
          simp only [Act.put, List.setIfInBounds_toArray, List.set_cons_zero, List.set_cons_succ]
          refine held_take 2 70 (.agg b.arr) rfl rfl (by kernel_rfl) (by kernel_rfl) (by kernel_rfl) (fun _ _ _ h => h) (by kernel_rfl) (fun _ h => exec_load29 (p := b) rfl rfl h.two) hS ?_
          simp only [Act.put, List.setIfInBounds_toArray, List.set_cons_zero, List.set_cons_succ]
          refine held_call 1 69 14 #[(.agg a.arr)] (.int .u64 (a.count : Int)) rfl (by kernel_rfl) rfl (by kernel_rfl) (by kernel_rfl) (HCA.out _) (fun _ h hb => h.below hb) hS (fun w101 hS => ?_)
          simp only [Act.put, List.setIfInBounds_toArray, List.set_cons_zero, List.set_cons_succ]
          refine held_call 3 71 14 #[(.agg b.arr)] (.int .u64 (b.count : Int)) rfl (by kernel_rfl) rfl (by kernel_rfl) (by kernel_rfl) (HCB.out _) (fun _ h hb => h.below hb) hS (fun w103 hS => ?_)
          simp only [Act.put, List.setIfInBounds_toArray, List.set_cons_zero, List.set_cons_succ]
          refine held_take 4 72 (.bool false) rfl rfl (by kernel_rfl) (by kernel_rfl) (by kernel_rfl) (fun _ _ _ h => h) (by kernel_rfl) (fun _ _ => exec_neqI trivial rfl rfl rfl (neq_false HC.out)) hS ?_
          simp only [Act.put, List.setIfInBounds_toArray, List.set_cons_zero, List.set_cons_succ]
          refine held_take 5 73 (.bool false) rfl rfl (by kernel_rfl) (by kernel_rfl) (by kernel_rfl) (fun _ _ _ h => h) (by kernel_rfl) (fun _ _ => rfl) hS ?_
          simp only [Act.put, List.setIfInBounds_toArray, List.set_cons_zero, List.set_cons_succ]
          refine held_take 6 74 (.pointer (some ⟨w.heap.size, 0, none⟩)) rfl rfl (by kernel_rfl) (by kernel_rfl) (by kernel_rfl) (fun _ _ _ h => h) (by kernel_rfl) (fun _ _ => (by kernel_rfl)) hS ?_
          simp only [Act.put, List.setIfInBounds_toArray, List.set_cons_zero, List.set_cons_succ]
          refine held_take 7 75 (dotV a.r a.s) rfl rfl (by kernel_rfl) (by kernel_rfl) (by kernel_rfl) (fun _ _ _ h => h) (by kernel_rfl) (fun _ h => exec_dot (p := a) rfl rfl h.one) hS ?_
          simp only [Act.put, List.setIfInBounds_toArray, List.set_cons_zero, List.set_cons_succ]
          refine held_take 8 76 (.pointer (some ⟨w.heap.size + 1, 0, none⟩)) rfl rfl (by kernel_rfl) (by kernel_rfl) (by kernel_rfl) (fun _ _ _ h => h) (by kernel_rfl) (fun _ _ => (by kernel_rfl)) hS ?_
          simp only [Act.put, List.setIfInBounds_toArray, List.set_cons_zero, List.set_cons_succ]
          refine held_take 9 77 (dotV b.r b.s) rfl rfl (by kernel_rfl) (by kernel_rfl) (by kernel_rfl) (fun _ _ _ h => h) (by kernel_rfl) (fun _ h => exec_dot (p := b) rfl rfl h.two) hS ?_
          simp only [Act.put, List.setIfInBounds_toArray, List.set_cons_zero, List.set_cons_succ]
          refine held_take 10 78 (.bool true) rfl rfl (by kernel_rfl) (by kernel_rfl) (by kernel_rfl) (fun _ _ _ h => h) (by kernel_rfl) (fun _ _ => exec_eql24 rfl rfl rfl HD.out) hS ?_
          simp only [Act.put, List.setIfInBounds_toArray, List.set_cons_zero, List.set_cons_succ]
          refine held_take 11 79 (.bool true) rfl rfl (by kernel_rfl) (by kernel_rfl) (by kernel_rfl) (fun _ _ _ h => h) (by kernel_rfl) (fun _ _ => rfl) hS ?_
          simp only [Act.put, List.setIfInBounds_toArray, List.set_cons_zero, List.set_cons_succ]
          refine held_take 12 80 (.bool true) rfl rfl (by kernel_rfl) (by kernel_rfl) (by kernel_rfl) (fun _ _ _ h => h) (by kernel_rfl) (fun _ _ => rfl) hS ?_
          simp only [Act.put, List.setIfInBounds_toArray, List.set_cons_zero, List.set_cons_succ]
          refine held_skip 13 81 rfl rfl (by kernel_rfl) (by kernel_rfl) (by kernel_rfl) (fun _ _ _ h => h) (by kernel_rfl) hS ?_
          simp only [Act.put, List.setIfInBounds_toArray, List.set_cons_zero, List.set_cons_succ]
          refine held_take 14 82 (.bool true) rfl rfl (by kernel_rfl) (by kernel_rfl) (by kernel_rfl) (fun _ _ _ h => h) (by kernel_rfl) (fun _ _ => rfl) hS ?_
          simp only [Act.put, List.setIfInBounds_toArray, List.set_cons_zero, List.set_cons_succ]
          refine held_take 15 83 (.bool true) rfl rfl (by kernel_rfl) (by kernel_rfl) (by kernel_rfl) (fun _ _ _ h => h) (by kernel_rfl) (fun _ _ => rfl) hS ?_
          simp only [Act.put, List.setIfInBounds_toArray, List.set_cons_zero, List.set_cons_succ]
          refine held_skip 16 84 rfl rfl (by kernel_rfl) (by kernel_rfl) (by kernel_rfl) (fun _ _ _ h => h) (by kernel_rfl) hS ?_
          simp only [Act.put, List.setIfInBounds_toArray, List.set_cons_zero, List.set_cons_succ]
          refine held_take 17 85 (.bool true) rfl rfl (by kernel_rfl) (by kernel_rfl) (by kernel_rfl) (fun _ _ _ h => h) (by kernel_rfl) (fun _ _ => rfl) hS ?_
          simp only [Act.put, List.setIfInBounds_toArray, List.set_cons_zero, List.set_cons_succ]
          refine held_take 18 6 (.bool true) rfl rfl (by kernel_rfl) (by kernel_rfl) (by kernel_rfl) (fun _ _ _ h => h) (by kernel_rfl) (fun _ _ => rfl) hS ?_
          simp only [Act.put, List.setIfInBounds_toArray, List.set_cons_zero, List.set_cons_succ]
          refine wpAnyH_done (by kernel_rfl) ?_ _
          go_wp2_with fail
          go_ret
          exact ⟨rfl, hS.old⟩
        · have HD : Hid (deq a.r a.s b.r b.s = false) := Lib.hid (by rw [HDE.out]; exact decide_eq_false hdd)
          have HU : Hid (xab = true ∨ xba = true) := Lib.hid (HTT.out.resolve_left hdd)
          clear hdd
          cases xab
          · have e4 : xba = true := by
              rcases HU.out with h | h
              · cases h
              · exact h
            subst e4
            refine wp_region_held_drew (S := fun w' => Ow3 w w' a b d) (by kernel_rfl) HT9.out.drew (fun hS => ?_)
            refine held_take 0 68 (.agg a.arr) rfl rfl (by kernel_rfl) (by kernel_rfl) (by kernel_rfl) (fun _ _ _ h => h) (by kernel_rfl) (fun _ h => exec_load29 (p := a) rfl rfl h.one) hS ?_
            simp only [Act.put, List.setIfInBounds_toArray, List.set_cons_zero, List.set_cons_succ]
            refine held_take 2 70 (.agg b.arr) rfl rfl (by kernel_rfl) (by kernel_rfl) (by kernel_rfl) (fun _ _ _ h => h) (by kernel_rfl) (fun _ h => exec_load29 (p := b) rfl rfl h.two) hS ?_
            simp only [Act.put, List.setIfInBounds_toArray, List.set_cons_zero, List.set_cons_succ]
            refine held_call 1 69 14 #[(.agg a.arr)] (.int .u64 (a.count : Int)) rfl (by kernel_rfl) rfl (by kernel_rfl) (by kernel_rfl) (HCA.out _) (fun _ h hb => h.below hb) hS (fun w101 hS => ?_)
            simp only [Act.put, List.setIfInBounds_toArray, List.set_cons_zero, List.set_cons_succ]
            refine held_call 3 71 14 #[(.agg b.arr)] (.int .u64 (b.count : Int)) rfl (by kernel_rfl) rfl (by kernel_rfl) (by kernel_rfl) (HCB.out _) (fun _ h hb => h.below hb) hS (fun w103 hS => ?_)
            simp only [Act.put, List.setIfInBounds_toArray, List.set_cons_zero, List.set_cons_succ]
            refine held_take 4 72 (.bool false) rfl rfl (by kernel_rfl) (by kernel_rfl) (by kernel_rfl) (fun _ _ _ h => h) (by kernel_rfl) (fun _ _ => exec_neqI trivial rfl rfl rfl (neq_false HC.out)) hS ?_
            simp only [Act.put, List.setIfInBounds_toArray, List.set_cons_zero, List.set_cons_succ]
            refine held_take 5 73 (.bool false) rfl rfl (by kernel_rfl) (by kernel_rfl) (by kernel_rfl) (fun _ _ _ h => h) (by kernel_rfl) (fun _ _ => rfl) hS ?_
            simp only [Act.put, List.setIfInBounds_toArray, List.set_cons_zero, List.set_cons_succ]
            refine held_take 6 74 (.pointer (some ⟨w.heap.size, 0, none⟩)) rfl rfl (by kernel_rfl) (by kernel_rfl) (by kernel_rfl) (fun _ _ _ h => h) (by kernel_rfl) (fun _ _ => (by kernel_rfl)) hS ?_
            simp only [Act.put, List.setIfInBounds_toArray, List.set_cons_zero, List.set_cons_succ]
            refine held_take 7 75 (dotV a.r a.s) rfl rfl (by kernel_rfl) (by kernel_rfl) (by kernel_rfl) (fun _ _ _ h => h) (by kernel_rfl) (fun _ h => exec_dot (p := a) rfl rfl h.one) hS ?_
            simp only [Act.put, List.setIfInBounds_toArray, List.set_cons_zero, List.set_cons_succ]
            refine held_take 8 76 (.pointer (some ⟨w.heap.size + 1, 0, none⟩)) rfl rfl (by kernel_rfl) (by kernel_rfl) (by kernel_rfl) (fun _ _ _ h => h) (by kernel_rfl) (fun _ _ => (by kernel_rfl)) hS ?_
            simp only [Act.put, List.setIfInBounds_toArray, List.set_cons_zero, List.set_cons_succ]
            refine held_take 9 77 (dotV b.r b.s) rfl rfl (by kernel_rfl) (by kernel_rfl) (by kernel_rfl) (fun _ _ _ h => h) (by kernel_rfl) (fun _ h => exec_dot (p := b) rfl rfl h.two) hS ?_
            simp only [Act.put, List.setIfInBounds_toArray, List.set_cons_zero, List.set_cons_succ]
            refine held_take 10 78 (.bool false) rfl rfl (by kernel_rfl) (by kernel_rfl) (by kernel_rfl) (fun _ _ _ h => h) (by kernel_rfl) (fun _ _ => exec_eql24 rfl rfl rfl HD.out) hS ?_
            simp only [Act.put, List.setIfInBounds_toArray, List.set_cons_zero, List.set_cons_succ]
            refine held_take 11 79 (.bool false) rfl rfl (by kernel_rfl) (by kernel_rfl) (by kernel_rfl) (fun _ _ _ h => h) (by kernel_rfl) (fun _ _ => rfl) hS ?_
            simp only [Act.put, List.setIfInBounds_toArray, List.set_cons_zero, List.set_cons_succ]
            refine held_take 12 80 (.bool false) rfl rfl (by kernel_rfl) (by kernel_rfl) (by kernel_rfl) (fun _ _ _ h => h) (by kernel_rfl) (fun _ _ => rfl) hS ?_
            simp only [Act.put, List.setIfInBounds_toArray, List.set_cons_zero, List.set_cons_succ]
            refine held_take 13 81 (.bool false) rfl rfl (by kernel_rfl) (by kernel_rfl) (by kernel_rfl) (fun _ _ _ h => h) (by kernel_rfl) (fun _ _ => rfl) hS ?_
            simp only [Act.put, List.setIfInBounds_toArray, List.set_cons_zero, List.set_cons_succ]
            refine held_take 14 82 (.bool false) rfl rfl (by kernel_rfl) (by kernel_rfl) (by kernel_rfl) (fun _ _ _ h => h) (by kernel_rfl) (fun _ _ => rfl) hS ?_
            simp only [Act.put, List.setIfInBounds_toArray, List.set_cons_zero, List.set_cons_succ]
            refine held_take 15 83 (.bool false) rfl rfl (by kernel_rfl) (by kernel_rfl) (by kernel_rfl) (fun _ _ _ h => h) (by kernel_rfl) (fun _ _ => rfl) hS ?_
            simp only [Act.put, List.setIfInBounds_toArray, List.set_cons_zero, List.set_cons_succ]
            refine held_take 16 84 (.bool true) rfl rfl (by kernel_rfl) (by kernel_rfl) (by kernel_rfl) (fun _ _ _ h => h) (by kernel_rfl) (fun _ _ => rfl) hS ?_
            simp only [Act.put, List.setIfInBounds_toArray, List.set_cons_zero, List.set_cons_succ]
            refine held_take 17 85 (.bool true) rfl rfl (by kernel_rfl) (by kernel_rfl) (by kernel_rfl) (fun _ _ _ h => h) (by kernel_rfl) (fun _ _ => rfl) hS ?_
            simp only [Act.put, List.setIfInBounds_toArray, List.set_cons_zero, List.set_cons_succ]
            refine held_take 18 6 (.bool true) rfl rfl (by kernel_rfl) (by kernel_rfl) (by kernel_rfl) (fun _ _ _ h => h) (by kernel_rfl) (fun _ _ => rfl) hS ?_
            simp only [Act.put, List.setIfInBounds_toArray, List.set_cons_zero, List.set_cons_succ]
            refine wpAnyH_done (by kernel_rfl) ?_ _
            go_wp2_with fail
            go_ret
            exact ⟨rfl, hS.old⟩
          · refine wp_region_held_drew (S := fun w' => Ow3 w w' a b d) (by kernel_rfl) HT9.out.drew (fun hS => ?_)
            refine held_take 0 68 (.agg a.arr) rfl rfl (by kernel_rfl) (by kernel_rfl) (by kernel_rfl) (fun _ _ _ h => h) (by kernel_rfl) (fun _ h => exec_load29 (p := a) rfl rfl h.one) hS ?_
            simp only [Act.put, List.setIfInBounds_toArray, List.set_cons_zero, List.set_cons_succ]
            refine held_take 2 70 (.agg b.arr) rfl rfl (by kernel_rfl) (by kernel_rfl) (by kernel_rfl) (fun _ _ _ h => h) (by kernel_rfl) (fun _ h => exec_load29 (p := b) rfl rfl h.two) hS ?_
            simp only [Act.put, List.setIfInBounds_toArray, List.set_cons_zero, List.set_cons_succ]
            refine held_call 1 69 14 #[(.agg a.arr)] (.int .u64 (a.count : Int)) rfl (by kernel_rfl) rfl (by kernel_rfl) (by kernel_rfl) (HCA.out _) (fun _ h hb => h.below hb) hS (fun w101 hS => ?_)
            simp only [Act.put, List.setIfInBounds_toArray, List.set_cons_zero, List.set_cons_succ]
            refine held_call 3 71 14 #[(.agg b.arr)] (.int .u64 (b.count : Int)) rfl (by kernel_rfl) rfl (by kernel_rfl) (by kernel_rfl) (HCB.out _) (fun _ h hb => h.below hb) hS (fun w103 hS => ?_)
            simp only [Act.put, List.setIfInBounds_toArray, List.set_cons_zero, List.set_cons_succ]
            refine held_take 4 72 (.bool false) rfl rfl (by kernel_rfl) (by kernel_rfl) (by kernel_rfl) (fun _ _ _ h => h) (by kernel_rfl) (fun _ _ => exec_neqI trivial rfl rfl rfl (neq_false HC.out)) hS ?_
            simp only [Act.put, List.setIfInBounds_toArray, List.set_cons_zero, List.set_cons_succ]
            refine held_take 5 73 (.bool false) rfl rfl (by kernel_rfl) (by kernel_rfl) (by kernel_rfl) (fun _ _ _ h => h) (by kernel_rfl) (fun _ _ => rfl) hS ?_
            simp only [Act.put, List.setIfInBounds_toArray, List.set_cons_zero, List.set_cons_succ]
            refine held_take 6 74 (.pointer (some ⟨w.heap.size, 0, none⟩)) rfl rfl (by kernel_rfl) (by kernel_rfl) (by kernel_rfl) (fun _ _ _ h => h) (by kernel_rfl) (fun _ _ => (by kernel_rfl)) hS ?_
            simp only [Act.put, List.setIfInBounds_toArray, List.set_cons_zero, List.set_cons_succ]
            refine held_take 7 75 (dotV a.r a.s) rfl rfl (by kernel_rfl) (by kernel_rfl) (by kernel_rfl) (fun _ _ _ h => h) (by kernel_rfl) (fun _ h => exec_dot (p := a) rfl rfl h.one) hS ?_
            simp only [Act.put, List.setIfInBounds_toArray, List.set_cons_zero, List.set_cons_succ]
            refine held_take 8 76 (.pointer (some ⟨w.heap.size + 1, 0, none⟩)) rfl rfl (by kernel_rfl) (by kernel_rfl) (by kernel_rfl) (fun _ _ _ h => h) (by kernel_rfl) (fun _ _ => (by kernel_rfl)) hS ?_
            simp only [Act.put, List.setIfInBounds_toArray, List.set_cons_zero, List.set_cons_succ]
            refine held_take 9 77 (dotV b.r b.s) rfl rfl (by kernel_rfl) (by kernel_rfl) (by kernel_rfl) (fun _ _ _ h => h) (by kernel_rfl) (fun _ h => exec_dot (p := b) rfl rfl h.two) hS ?_
            simp only [Act.put, List.setIfInBounds_toArray, List.set_cons_zero, List.set_cons_succ]
            refine held_take 10 78 (.bool false) rfl rfl (by kernel_rfl) (by kernel_rfl) (by kernel_rfl) (fun _ _ _ h => h) (by kernel_rfl) (fun _ _ => exec_eql24 rfl rfl rfl HD.out) hS ?_
            simp only [Act.put, List.setIfInBounds_toArray, List.set_cons_zero, List.set_cons_succ]
            refine held_take 11 79 (.bool false) rfl rfl (by kernel_rfl) (by kernel_rfl) (by kernel_rfl) (fun _ _ _ h => h) (by kernel_rfl) (fun _ _ => rfl) hS ?_
            simp only [Act.put, List.setIfInBounds_toArray, List.set_cons_zero, List.set_cons_succ]
            refine held_take 12 80 (.bool false) rfl rfl (by kernel_rfl) (by kernel_rfl) (by kernel_rfl) (fun _ _ _ h => h) (by kernel_rfl) (fun _ _ => rfl) hS ?_
            simp only [Act.put, List.setIfInBounds_toArray, List.set_cons_zero, List.set_cons_succ]
            refine held_take 13 81 (.bool true) rfl rfl (by kernel_rfl) (by kernel_rfl) (by kernel_rfl) (fun _ _ _ h => h) (by kernel_rfl) (fun _ _ => rfl) hS ?_
            simp only [Act.put, List.setIfInBounds_toArray, List.set_cons_zero, List.set_cons_succ]
            refine held_take 14 82 (.bool true) rfl rfl (by kernel_rfl) (by kernel_rfl) (by kernel_rfl) (fun _ _ _ h => h) (by kernel_rfl) (fun _ _ => rfl) hS ?_
            simp only [Act.put, List.setIfInBounds_toArray, List.set_cons_zero, List.set_cons_succ]
            refine held_take 15 83 (.bool true) rfl rfl (by kernel_rfl) (by kernel_rfl) (by kernel_rfl) (fun _ _ _ h => h) (by kernel_rfl) (fun _ _ => rfl) hS ?_
            simp only [Act.put, List.setIfInBounds_toArray, List.set_cons_zero, List.set_cons_succ]
            refine held_skip 16 84 rfl rfl (by kernel_rfl) (by kernel_rfl) (by kernel_rfl) (fun _ _ _ h => h) (by kernel_rfl) hS ?_
            simp only [Act.put, List.setIfInBounds_toArray, List.set_cons_zero, List.set_cons_succ]
            refine held_take 17 85 (.bool true) rfl rfl (by kernel_rfl) (by kernel_rfl) (by kernel_rfl) (fun _ _ _ h => h) (by kernel_rfl) (fun _ _ => rfl) hS ?_
            simp only [Act.put, List.setIfInBounds_toArray, List.set_cons_zero, List.set_cons_succ]
            refine held_take 18 6 (.bool true) rfl rfl (by kernel_rfl) (by kernel_rfl) (by kernel_rfl) (fun _ _ _ h => h) (by kernel_rfl) (fun _ _ => rfl) hS ?_
            simp only [Act.put, List.setIfInBounds_toArray, List.set_cons_zero, List.set_cons_succ]
            refine wpAnyH_done (by kernel_rfl) ?_ _
            go_wp2_with fail
            go_ret
            exact ⟨rfl, hS.old⟩
      · have HC := Lib.hid hc
        clear hc
        refine wp_region_held_drew (S := fun w' => Ow3 w w' a b d) (by kernel_rfl) HT9.out.drew (fun hS => ?_)
        refine held_take 0 68 (.agg a.arr) rfl rfl (by kernel_rfl) (by kernel_rfl) (by kernel_rfl) (fun _ _ _ h => h) (by kernel_rfl) (fun _ h => exec_load29 (p := a) rfl rfl h.one) hS ?_
        simp only [Act.put, List.setIfInBounds_toArray, List.set_cons_zero, List.set_cons_succ]
        refine held_take 2 70 (.agg b.arr) rfl rfl (by kernel_rfl) (by kernel_rfl) (by kernel_rfl) (fun _ _ _ h => h) (by kernel_rfl) (fun _ h => exec_load29 (p := b) rfl rfl h.two) hS ?_
        simp only [Act.put, List.setIfInBounds_toArray, List.set_cons_zero, List.set_cons_succ]
        refine held_call 1 69 14 #[(.agg a.arr)] (.int .u64 (a.count : Int)) rfl (by kernel_rfl) rfl (by kernel_rfl) (by kernel_rfl) (HCA.out _) (fun _ h hb => h.below hb) hS (fun w101 hS => ?_)
        simp only [Act.put, List.setIfInBounds_toArray, List.set_cons_zero, List.set_cons_succ]
        refine held_call 3 71 14 #[(.agg b.arr)] (.int .u64 (b.count : Int)) rfl (by kernel_rfl) rfl (by kernel_rfl) (by kernel_rfl) (HCB.out _) (fun _ h hb => h.below hb) hS (fun w103 hS => ?_)
        simp only [Act.put, List.setIfInBounds_toArray, List.set_cons_zero, List.set_cons_succ]
        refine held_take 4 72 (.bool true) rfl rfl (by kernel_rfl) (by kernel_rfl) (by kernel_rfl) (fun _ _ _ h => h) (by kernel_rfl) (fun _ _ => exec_neqI trivial rfl rfl rfl (neq_true HC.out)) hS ?_
        simp only [Act.put, List.setIfInBounds_toArray, List.set_cons_zero, List.set_cons_succ]
        refine held_take 5 73 (.bool true) rfl rfl (by kernel_rfl) (by kernel_rfl) (by kernel_rfl) (fun _ _ _ h => h) (by kernel_rfl) (fun _ _ => rfl) hS ?_
        simp only [Act.put, List.setIfInBounds_toArray, List.set_cons_zero, List.set_cons_succ]
        refine held_skip 6 74 rfl rfl (by kernel_rfl) (by kernel_rfl) (by kernel_rfl) (fun _ _ _ h => h) (by kernel_rfl) hS ?_
        simp only [Act.put, List.setIfInBounds_toArray, List.set_cons_zero, List.set_cons_succ]
        refine held_skip 7 75 rfl rfl (by kernel_rfl) (by kernel_rfl) (by kernel_rfl) (fun _ _ _ h => h) (by kernel_rfl) hS ?_
        simp only [Act.put, List.setIfInBounds_toArray, List.set_cons_zero, List.set_cons_succ]
        refine held_skip 8 76 rfl rfl (by kernel_rfl) (by kernel_rfl) (by kernel_rfl) (fun _ _ _ h => h) (by kernel_rfl) hS ?_
        simp only [Act.put, List.setIfInBounds_toArray, List.set_cons_zero, List.set_cons_succ]
        refine held_skip 9 77 rfl rfl (by kernel_rfl) (by kernel_rfl) (by kernel_rfl) (fun _ _ _ h => h) (by kernel_rfl) hS ?_
        simp only [Act.put, List.setIfInBounds_toArray, List.set_cons_zero, List.set_cons_succ]
        refine held_skip 10 78 rfl rfl (by kernel_rfl) (by kernel_rfl) (by kernel_rfl) (fun _ _ _ h => h) (by kernel_rfl) hS ?_
        simp only [Act.put, List.setIfInBounds_toArray, List.set_cons_zero, List.set_cons_succ]
        refine held_take 11 79 (.bool true) rfl rfl (by kernel_rfl) (by kernel_rfl) (by kernel_rfl) (fun _ _ _ h => h) (by kernel_rfl) (fun _ _ => rfl) hS ?_
        simp only [Act.put, List.setIfInBounds_toArray, List.set_cons_zero, List.set_cons_succ]
        refine held_take 12 80 (.bool true) rfl rfl (by kernel_rfl) (by kernel_rfl) (by kernel_rfl) (fun _ _ _ h => h) (by kernel_rfl) (fun _ _ => rfl) hS ?_
        simp only [Act.put, List.setIfInBounds_toArray, List.set_cons_zero, List.set_cons_succ]
        refine held_skip 13 81 rfl rfl (by kernel_rfl) (by kernel_rfl) (by kernel_rfl) (fun _ _ _ h => h) (by kernel_rfl) hS ?_
        simp only [Act.put, List.setIfInBounds_toArray, List.set_cons_zero, List.set_cons_succ]
        refine held_take 14 82 (.bool true) rfl rfl (by kernel_rfl) (by kernel_rfl) (by kernel_rfl) (fun _ _ _ h => h) (by kernel_rfl) (fun _ _ => rfl) hS ?_
        simp only [Act.put, List.setIfInBounds_toArray, List.set_cons_zero, List.set_cons_succ]
        refine held_take 15 83 (.bool true) rfl rfl (by kernel_rfl) (by kernel_rfl) (by kernel_rfl) (fun _ _ _ h => h) (by kernel_rfl) (fun _ _ => rfl) hS ?_
        simp only [Act.put, List.setIfInBounds_toArray, List.set_cons_zero, List.set_cons_succ]
        refine held_skip 16 84 rfl rfl (by kernel_rfl) (by kernel_rfl) (by kernel_rfl) (fun _ _ _ h => h) (by kernel_rfl) hS ?_
        simp only [Act.put, List.setIfInBounds_toArray, List.set_cons_zero, List.set_cons_succ]
        refine held_take 17 85 (.bool true) rfl rfl (by kernel_rfl) (by kernel_rfl) (by kernel_rfl) (fun _ _ _ h => h) (by kernel_rfl) (fun _ _ => rfl) hS ?_
        simp only [Act.put, List.setIfInBounds_toArray, List.set_cons_zero, List.set_cons_succ]
        refine held_take 18 6 (.bool true) rfl rfl (by kernel_rfl) (by kernel_rfl) (by kernel_rfl) (fun _ _ _ h => h) (by kernel_rfl) (fun _ _ => rfl) hS ?_
        simp only [Act.put, List.setIfInBounds_toArray, List.set_cons_zero, List.set_cons_succ]
        refine wpAnyH_done (by kernel_rfl) ?_ _
        go_wp2_with fail
        go_ret
        exact ⟨rfl, hS.old⟩

set_option maxRecDepth 100000 in
theorem lifted (os : Os) (started : os.Started) (H : Type) (enc : TypeId × Value → H) :
    ReturnsInHanded {} Try.checked os 7 .any (Rows.opOrderSpec.pre6 enc Try.prog Try.f7 Rows.opOrderRow.domain false) (Rows.opOrderSpec.post enc Try.prog Try.f7 false true false false) := by
  refine returnsInHanded_of_change (C := Try.checked) own started (by kernel_rfl) Try.func7
    (ChangeSpec.witness6 (enc := enc) (C := Try.checked) false ⟨#[], #[.agg #[.int .u8 0, .int .u32 0, .int .u8 0, .int .u16 0, .int .u16 0, .int .u16 0, .int .u32 0, .int .u32 0, .int .u32 0, .int .u32 0, .int .u32 0, .int .u32 0, .int .u32 0, .int .u32 0, .int .u32 0, .int .u32 0, .int .u32 0, .int .u32 0, .int .u32 0, .int .u32 0, .int .u32 0, .int .u32 0, .int .u32 0], .agg #[.int .u8 0, .int .u32 0, .int .u8 0, .int .u16 0, .int .u16 0, .int .u16 0, .int .u32 0, .int .u32 0, .int .u32 0, .int .u32 0, .int .u32 0, .int .u32 0, .int .u32 0, .int .u32 0, .int .u32 0, .int .u32 0, .int .u32 0, .int .u32 0, .int .u32 0, .int .u32 0, .int .u32 0, .int .u32 0, .int .u32 0], .agg #[.int .u8 0, .int .u32 0, .int .u8 0, .int .u16 0, .int .u16 0, .int .u16 0, .int .u32 0, .int .u32 0, .int .u32 0, .int .u32 0, .int .u32 0, .int .u32 0, .int .u32 0, .int .u32 0, .int .u32 0, .int .u32 0, .int .u32 0, .int .u32 0, .int .u32 0, .int .u32 0, .int .u32 0, .int .u32 0, .int .u32 0]], []⟩ 8 (by kernel_rfl) (by kernel_rfl) (by kernel_rfl) (by kernel_rfl)) ?_
  intro W base args ds gs before hval0 hW hcnd _
  have hval : ∀ (j : Nat) t v, Try.f7.params[j]? = some t → args[j]? = some v → Value.okWide Try.prog W .any base t v := hval0
  have hW' := hW
  obtain ⟨p, q, hA0, hV, rfl, hfz, hnd⟩ := hW
  have hA : DataW.TrodAll enc Try.prog W 0 (fun _ => true) true Try.f7.params.toList args.toList ds p := hA0
  rw [Try.params7] at hA hval
  obtain ⟨v0, v1, v2, d0, d1, d2, p0, p1, p2, rfl, rfl, rfl, h0, h1, h2⟩ := trodAll_three hA
  obtain ⟨rfl, rfl⟩ := trodVars_none hV
  have lt0 : ∀ x ∈ p0, x.block < W.heap.size := by obtain ⟨m, hm⟩ := h0; exact DataW.trod_lt m _ _ _ hm
  obtain ⟨a0, rfl⟩ := op_of (hval 0 29 v0 rfl rfl) h0
  have lt1 : ∀ x ∈ p1, x.block < W.heap.size := by obtain ⟨m, hm⟩ := h1; exact DataW.trod_lt m _ _ _ hm
  obtain ⟨a1, rfl⟩ := op_of (hval 1 29 v1 rfl rfl) h1
  have lt2 : ∀ x ∈ p2, x.block < W.heap.size := by obtain ⟨m, hm⟩ := h2; exact DataW.trod_lt m _ _ _ hm
  obtain ⟨a2, rfl⟩ := op_of (hval 2 29 v2 rfl rfl) h2
  clear hA0 hval0
  refine (walk a0 a1 a2 W).mono fun e W' ⟨he, bel⟩ => ?_
  subst he
  exact ⟨_, rfl, _, _, _, [], _, [], hW', trodAll_mk1 (shut_bool Try.underlying4 _), trodAll_mk3 (Below.trod laidOut (by kernel_rfl) (of_decide_eq_true (by kernel_rfl)) h0 bel lt0) (Below.trod laidOut (by kernel_rfl) (of_decide_eq_true (by kernel_rfl)) h1 bel lt1) (Below.trod laidOut (by kernel_rfl) (of_decide_eq_true (by kernel_rfl)) h2 bel lt2), rfl, bel.frame _, fun h => by cases h⟩
end OpOrder

theorem opOrder_proved : Rows.OpOrderSaid :=
  OpenClaim.holds_of_wide 7 Try.f7 rfl rfl rfl rfl rfl rfl rfl ⟨rfl, rfl, rfl, rfl, rfl⟩ rfl rfl rfl rfl rfl (by kernel_rfl) Try.func7 (by kernel_rfl)
    (of_decide_eq_true (by kernel_rfl)) (by unfold Func.isWrapper; first | (rw [if_pos (by decide +kernel)]; kernel_rfl) | (rw [if_neg (by decide +kernel)]; exact ⟨rfl, rfl⟩))
    (fun os started H enc _ => OpOrder.lifted os started H enc)
#print axioms opOrder_proved
end Go.Proofs.Ytjfcddfnmbeolaa
