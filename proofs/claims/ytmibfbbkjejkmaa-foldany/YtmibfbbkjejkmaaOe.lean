/- Walks of Ends and Ready, the program's and the document's. -/
import Derived.Test.YtmibfbbkjejkmaaOs
namespace Go.Proofs.Ytmibfbbkjejkmaa
open Go.RowKit

set_option maxHeartbeats 4000000 in
theorem ends_any (o p : O) (w : World) : Calls Try.prog 47 #[.agg o.arr, .agg p.arr] w (Says (.bool (O.endsB o p)) w) := by
  have hb1 := fun (o : O) w => box40 o w
  have HT := Lib.hid (ow2_new w o p)
  have HM := Lib.hid (fun w => makes_any p w)
  have HH := Lib.hid (fun w => has_any o.v p.r p.s w p.hr p.hs)
  have HL : Hid (O.endsB o p = decide (p.laysB = true ∧ o.c = p.c ∧ V.hasB o.v p.r p.s = true ∧ (o.k = 5 ∨ ((o.k = 3 ∨ o.k = 2) ∧ p.k ≠ 4 ∧ o.i = p.i)))) := Lib.hid rfl
  have b1 := o.hk
  have b2 := p.hk
  have b3 := o.hc
  have b4 := p.hc
  have b5 := o.hi
  have b6 := p.hi
  go_enter Try.func47, Try.ntmps47
  go_wp2_with (refine wpList_run rfl (exec_load40 (p := p) rfl rfl HT.out.two) ?_)
  clear hb1
  generalize (w.alloc (.cells o.arr 40)).alloc (.cells p.arr 40) = W at HT
  cases hm : p.laysB
  · have HE : Hid (O.endsB o p = false) := Lib.hid (by rw [HL.out, hm]; simp)
    rw [hm] at HM
    clear hm
    refine (HM.out _).mono ?_
    rintro e w1 ⟨rfl, hb⟩
    have HT2 := Lib.hid (HT.out.below hb)
    clear hb
    go_wp2_with fail
    go_ret
    exact ⟨ret_bool HE.out.symm, HT2.out.old⟩
  rw [hm] at HM HL
  clear hm
  refine (HM.out _).mono ?_
  rintro e w1 ⟨rfl, hb⟩
  have HT1 := Lib.hid (HT.out.below hb)
  clear hb HT
  have c3 := oc3 HT1.out.one
  have d3 := oc3 HT1.out.two
  by_cases hc : o.c = p.c
  · have gc : ((o.c : Int) != (p.c : Int)) = false := by simp <;> omega
    go_wp2_with (first | (refine wpList_runW (exec_ctx (p := o) rfl rfl HT1.out.one) (by kernel_rfl) ?_) | (refine wpList_runW (exec_dot (p := p) rfl rfl HT1.out.two) (by kernel_rfl) ?_))
    clear c3 d3
    cases hh : V.hasB o.v p.r p.s
    · have HE : Hid (O.endsB o p = false) := Lib.hid (by rw [HL.out, hh]; simp)
      rw [hh] at HH
      clear hh
      refine (HH.out _).mono ?_
      rintro e w2 ⟨rfl, hb⟩
      have HT2 := Lib.hid (HT1.out.below hb)
      clear hb
      go_wp2_with fail
      go_ret
      exact ⟨ret_bool HE.out.symm, HT2.out.old⟩
    · have HL2 : Hid (O.endsB o p = decide (o.k = 5 ∨ ((o.k = 3 ∨ o.k = 2) ∧ p.k ≠ 4 ∧ o.i = p.i))) := Lib.hid (by rw [HL.out, hh]; simp [hc])
      rw [hh] at HH
      clear hh HL
      refine (HH.out _).mono ?_
      rintro e w2 ⟨rfl, hb⟩
      have HT2 := Lib.hid (HT1.out.below hb)
      clear hb HT1
      have c2 := oc2 HT2.out.one
      have d2 := oc2 HT2.out.two
      have c4 := oc4 HT2.out.one
      have d4 := oc4 HT2.out.two
      by_cases k5 : o.k = 5
      · rw [k5] at c2
        have HE : Hid (O.endsB o p = true) := Lib.hid (by rw [HL2.out]; simp <;> omega)
        go_wp2_with fail
        go_ret
        exact ⟨ret_bool HE.out.symm, HT2.out.old⟩
      by_cases k3 : o.k = 3
      · rw [k3] at c2
        by_cases e4 : p.k = 4
        · have HE : Hid (O.endsB o p = false) := Lib.hid (by rw [HL2.out]; simp <;> omega)
          rw [e4] at d2
          go_wp2_with fail
          go_ret
          exact ⟨ret_bool HE.out.symm, HT2.out.old⟩
        · have HE : Hid (O.endsB o p = decide (o.i = p.i)) := Lib.hid (by rw [HL2.out, Bool.eq_iff_iff]; simp <;> omega)
          have g4 : ((p.k : Int) != 4) = true := by simp <;> omega
          go_wp2_with fail
          go_ret
          exact ⟨ret_bool (by rw [HE.out, Bool.eq_iff_iff]; simp <;> omega), HT2.out.old⟩
      by_cases k2 : o.k = 2
      · rw [k2] at c2
        by_cases e4 : p.k = 4
        · have HE : Hid (O.endsB o p = false) := Lib.hid (by rw [HL2.out]; simp <;> omega)
          rw [e4] at d2
          go_wp2_with fail
          go_ret
          exact ⟨ret_bool HE.out.symm, HT2.out.old⟩
        · have HE : Hid (O.endsB o p = decide (o.i = p.i)) := Lib.hid (by rw [HL2.out, Bool.eq_iff_iff]; simp <;> omega)
          have g4 : ((p.k : Int) != 4) = true := by simp <;> omega
          go_wp2_with fail
          go_ret
          exact ⟨ret_bool (by rw [HE.out, Bool.eq_iff_iff]; simp <;> omega), HT2.out.old⟩
      have HE : Hid (O.endsB o p = false) := Lib.hid (by rw [HL2.out]; simp <;> omega)
      have g5 : ((o.k : Int) == 5) = false := by simp <;> omega
      have g3 : ((o.k : Int) == 3) = false := by simp <;> omega
      have g2 : ((o.k : Int) == 2) = false := by simp <;> omega
      go_wp2_with fail
      go_ret
      exact ⟨ret_bool HE.out.symm, HT2.out.old⟩
  · have HE : Hid (O.endsB o p = false) := Lib.hid (by rw [HL.out]; simp [hc])
    have gc : ((o.c : Int) != (p.c : Int)) = true := by simp <;> omega
    go_wp2_with fail
    go_ret
    exact ⟨ret_bool HE.out.symm, HT1.out.old⟩

end Go.Proofs.Ytmibfbbkjejkmaa
