/- Walk of Right, the program's. -/
import Derived.Test.YtjfcddfnmbeolaaOk
namespace Go.Proofs.Ytjfcddfnmbeolaa
open Go.RowKit

set_option maxHeartbeats 2000000 in
theorem right_op (o : O) (n : Int) (w : World) (h0 : -9223372036854775808 ≤ n) (h1 : n ≤ 9223372036854775807) : Calls Try.prog 12 #[.agg o.arr, .int .i64 n] w (Says (.bool (o.rightB n)) w) := by
  obtain ⟨z, hz⟩ : ∃ z, V.zero = z := ⟨_, rfl⟩
  have HZ := Lib.hid hz
  clear hz
  have hb1 := fun w => box29 o w
  have HT := Lib.hid (ow_new w o)
  have HN := Lib.hid (fun w => next_any o.v o.r o.s w o.hr o.hs)
  have HR := Lib.hid (fun w => right_any o.v n w h0 h1)
  have HK := Lib.hid (fun w => kind_any o w)
  have HX := Lib.hid (O.next_zero o.v o.r o.s)
  have hr := o.hr
  have ht := o.ht
  generalize V.nextE o.v o.r o.s = E at HN HX
  generalize V.nextV o.v o.r o.s = u at HN
  go_enter Try.func12, Try.ntmps12
  go_wp2_with (first | (refine wpList_run rfl (exec_ctx (p := o) rfl rfl HT.out.one) ?_) | (refine wpList_run rfl (exec_dot (p := o) rfl rfl HT.out.one) ?_))
  clear hb1
  generalize w.alloc (.cells o.arr 29) = W at HT
  refine (HN.out _).mono ?_
  rintro e w1 ⟨rfl, hb⟩
  have HT1 := Lib.hid (HT.out.below hb)
  clear hb HT
  go_wp2_with (first | (refine wpList_alloc27 HZ.out rfl rfl ?_) | (refine wpList_stop rfl ?_))
  refine ⟨?_⟩
  refine wpList_store27 rfl rfl rfl rfl (Blk.new w1 27 z.arr) ?_
  have HT2 := Lib.hid (HT1.out.below (laid_old w1 z u))
  clear HT1
  generalize (w1.alloc (.cells z.arr 27)).setRow w1.heap.size u.arr = w2 at HT2
  by_cases hE : E = 0
  · subst hE
    obtain ⟨hd1, hd2⟩ := HX.out.1 rfl
    have c0 := oc0 HT2.out.one
    by_cases hn : (o.r : Int) < n
    · cases hv : V.rightB o.v n
      · have HE : Hid (o.rightB n = false) := Lib.hid (O.right_no (fun h => by have := h.2.2.2.1; rw [hv] at this; cases this))
        rw [hv] at HR
        clear hv hd1 hd2
        go_wp2_with (refine wpList_runW (exec_ctx (p := o) rfl rfl HT2.out.one) (by kernel_rfl) ?_)
        refine (HR.out _).mono ?_
        rintro e w3 ⟨rfl, hb⟩
        have HT3 := Lib.hid (HT2.out.below hb)
        clear hb
        go_wp2_with fail
        go_ret
        exact ⟨ret_bool HE.out.symm, HT3.out.old⟩
      · by_cases htk : o.t ≤ 1073741824
        · have HE : Hid (o.rightB n = o.kindB) := Lib.hid (by
            rw [Bool.eq_iff_iff, O.right_iff]
            exact ⟨fun h => h.2.2.2.2.2, fun h => ⟨hd1, hd2, hn, hv, htk, h⟩⟩)
          rw [hv] at HR
          have htk' : (o.t : Int) ≤ 1073741824 := by omega
          clear hv hd1 hd2
          go_wp2_with (refine wpList_runW (exec_ctx (p := o) rfl rfl HT2.out.one) (by kernel_rfl) ?_)
          refine (HR.out _).mono ?_
          rintro e w3 ⟨rfl, hb⟩
          have HT3 := Lib.hid (HT2.out.below hb)
          have c6 := oc6 HT3.out.one
          clear hb
          go_wp2_with (refine wpList_runW (exec_load29 (p := o) rfl rfl HT3.out.one) (by kernel_rfl) ?_)
          refine (HK.out _).mono ?_
          rintro e w4 ⟨rfl, hb⟩
          have HT4 := Lib.hid (HT3.out.below hb)
          clear hb
          go_wp2_with fail
          go_ret
          exact ⟨ret_bool HE.out.symm, HT4.out.old⟩
        · have HE : Hid (o.rightB n = false) := Lib.hid (O.right_no (fun h => htk h.2.2.2.2.1))
          rw [hv] at HR
          have htk' : (1073741824 : Int) < (o.t : Int) := by omega
          clear hv hd1 hd2
          go_wp2_with (refine wpList_runW (exec_ctx (p := o) rfl rfl HT2.out.one) (by kernel_rfl) ?_)
          refine (HR.out _).mono ?_
          rintro e w3 ⟨rfl, hb⟩
          have HT3 := Lib.hid (HT2.out.below hb)
          have c6 := oc6 HT3.out.one
          clear hb
          go_wp2_with fail
          go_ret
          exact ⟨ret_bool HE.out.symm, HT3.out.old⟩
    · have HE : Hid (o.rightB n = false) := Lib.hid (O.right_no (fun h => hn h.2.2.1))
      have hn' : n ≤ (o.r : Int) := by omega
      go_wp2_with fail
      go_ret
      exact ⟨ret_bool HE.out.symm, HT2.out.old⟩
  · have HE : Hid (o.rightB n = false) := Lib.hid (O.right_no (fun h => hE (HX.out.2 ⟨h.1, h.2.1⟩)))
    have g0 : ((E : Int) == 0) = false := by simp <;> omega
    go_wp2_with fail
    go_ret
    exact ⟨ret_bool HE.out.symm, HT2.out.old⟩

end Go.Proofs.Ytjfcddfnmbeolaa
