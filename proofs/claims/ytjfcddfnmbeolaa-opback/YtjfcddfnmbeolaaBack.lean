/- OpBack: operations come back from their bytes, and bytes from their operations. No condition. -/
import Derived.Test.YtjfcddfnmbeolaaLaw
namespace Go.Proofs.Ytjfcddfnmbeolaa
open Go.ChangeShapes Go.WideShapes Go.ChangeAt Go.RowKit

theorem encP_bad {o : O} {w w' : World} {e : Ending} (h : o.rightB 16 = false) (hp : EncP o w e w') : ∃ a cap, e = .returned (.tuple #[.slice a 0 cap, .int .i64 2]) ∧ Below w.heap.size w w' := by
  obtain ⟨e1, e2⟩ := enc_no h
  unfold EncP at hp
  rw [e1, e2] at hp
  obtain ⟨a, cap, h1, _, h2⟩ := hp
  exact ⟨a, cap, h1, h2⟩
theorem decP_two {bs : List Nat} {w : World} {f : FuncId} {args : Array Value} (h : Calls Try.prog f args w (DecP bs w)) :
    (∃ u : O, u.rightB 16 = true ∧ u.bytes = bs ∧ Calls Try.prog f args w (Says (.tuple #[.agg u.arr, .int .i64 0]) w)) ∨ Calls Try.prog f args w (Says (.tuple #[.agg O.zero.arr, .int .i64 5]) w) := by
  unfold DecP at h
  rcases O.dec_two bs with ⟨e0, h1, h2⟩ | ⟨e5, ez⟩
  · rw [e0] at h
    exact .inl ⟨_, h1, h2, h⟩
  · rw [e5, ez] at h
    exact .inr h

namespace OpBack
set_option maxHeartbeats 8000000 in
set_option maxRecDepth 100000 in
theorem walk (o : O) (ab : Option Addr) (nb cb : Nat) (bs : List Nat) (w : World) (hl : nb ≤ maxLen) (hR : Row w ab nb bs) (hz : (ab = none ∧ nb = 0 ∧ cb = 0) ∨ ∃ x, ab = some x ∧ nb ≤ cb ∧ cb ≤ maxLen) : Calls Try.prog 6 #[.agg o.arr, .slice ab nb cb] w (Says (.bool true) w) := by
  obtain ⟨zo, ho⟩ : ∃ z, O.zero = z := ⟨_, rfl⟩
  have HO := Lib.hid ho
  have hb1 := fun w => box29 o w
  have HT := Lib.hid (ow_new w o)
  have HR0 := Lib.hid hR
  have HZ0 : Hid (ab = none → nb = 0 ∧ cb = 0) := Lib.hid (fun h => by
    rcases hz with ⟨_, h1, h2⟩ | ⟨x, h1, _⟩
    · exact ⟨h1, h2⟩
    · rw [h] at h1; cases h1)
  have HRT := Lib.hid (fun w => right_op o 16 w (by omega) (by omega))
  have hml : nb ≤ 9223372036854775807 := by unfold maxLen at hl; omega
  clear ho hR hz hl
  by_cases hn : nb ≤ 500
  · have hn' : (nb : Int) ≤ 500 := by omega
    go_enter Try.func6, Try.ntmps6
    go_wp2_with fail
    clear hb1
    generalize w.alloc (.cells o.arr 29) = W at HT
    refine (alive_any _).mono ?_
    rintro e w1 ⟨rfl, hb⟩
    have HT1 := Lib.hid (HT.out.below hb)
    clear hb HT
    go_wp2_with (refine wpList_run rfl (exec_load29 (p := o) rfl rfl HT1.out.one) ?_)
    cases hr : o.rightB 16
    · rw [hr] at HRT
      refine (encode_op o _).mono ?_
      intro e w2 hP
      obtain ⟨ae, ce, rfl, hbe⟩ := encP_bad hr hP
      have HT2 := Lib.hid (HT1.out.below hbe)
      clear hP hbe HT1 hr
      go_wp2_with (refine wpList_run rfl (exec_load29 (p := o) rfl rfl HT2.out.one) ?_)
      refine (HRT.out _).mono ?_
      rintro e w3 ⟨rfl, hb⟩
      have HT5 := Lib.hid (HT2.out.below hb)
      clear hb HT2
      go_wp2_with fail
      rcases decP_two (decode_op ab nb cb bs _ (by omega) (HR0.out.below HT5.out.old) HZ0.out) with ⟨u, hu1, hu2, hcall⟩ | hcall
      · have HU1 := Lib.hid hu1
        have HU2 := Lib.hid hu2
        have HC := Lib.hid hcall
        clear hu1 hu2 hcall
        refine HC.out.mono ?_
        rintro e w6 ⟨rfl, hb⟩
        have HT6 := Lib.hid (HT5.out.below hb)
        clear hb HC
        go_wp2_with (first | (refine wpList_run rfl (exec_alloc29z HO.out rfl) ?_) | (refine wpList_stop29 rfl ?_))
        refine ⟨?_⟩
        refine wpList_void rfl rfl (exec_store29 (p := zo) (u := u) rfl rfl rfl (Blk.new w6 29 zo.arr)) ?_
        have HT7 := Lib.hid (HT6.out.below (olaid_old w6 zo u))
        have HQ7 := Lib.hid (olaid_blk w6 zo u)
        clear HT6
        generalize (w6.alloc (.cells zo.arr 29)).setRow w6.heap.size u.arr = w7 at HT7 HQ7
        generalize w6.heap.size = q7 at HQ7
        go_wp2_with (refine wpList_run rfl (exec_load29 (p := u) rfl rfl HQ7.out) ?_)
        refine (encode_op u _).mono ?_
        intro e w8 hP
        obtain ⟨az, cz, rfl, hoz, hbz⟩ := encP_ok HU1.out hP
        have HT8 := Lib.hid (HT7.out.below hbz)
        have HZR := Lib.hid (hoz.row u.bytes_lt)
        have HBR := Lib.hid (HR0.out.below HT8.out.old)
        have HQS : Hid ((!((strOf u.bytes).toList == (strOf bs).toList)) = false) := Lib.hid (by rw [HU2.out]; simp)
        clear hP hoz hbz HT7
        generalize u.bytes.length = un at HZR
        go_wp2_with (first | (refine wpList_runW (exec_str rfl rfl (conv_any HZR.out)) (by kernel_rfl) ?_) | (refine wpList_runW (exec_str rfl rfl (conv_any HBR.out)) (by kernel_rfl) ?_) | (refine wpList_runW (exec_neqS rfl rfl rfl HQS.out) (by kernel_rfl) ?_))
        go_ret
        exact ⟨rfl, HT8.out.old⟩
      · have HC := Lib.hid hcall
        clear hcall
        rw [HO.out] at HC
        refine HC.out.mono ?_
        rintro e w6 ⟨rfl, hb⟩
        have HT6 := Lib.hid (HT5.out.below hb)
        clear hb HC
        go_wp2_with (first | (refine wpList_run rfl (exec_alloc29z HO.out rfl) ?_) | (refine wpList_stop29 rfl ?_))
        refine ⟨?_⟩
        refine wpList_void rfl rfl (exec_store29 (p := zo) (u := zo) rfl rfl rfl (Blk.new w6 29 zo.arr)) ?_
        have HT7 := Lib.hid (HT6.out.below (olaid_old w6 zo zo))
        clear HT6
        generalize (w6.alloc (.cells zo.arr 29)).setRow w6.heap.size zo.arr = w7 at HT7
        go_wp2_with fail
        go_ret
        exact ⟨rfl, HT7.out.old⟩
    · have HRR := Lib.hid hr
      rw [hr] at HRT
      refine (encode_op o _).mono ?_
      intro e w2 hP
      obtain ⟨ae, ce, rfl, hoe, hbe⟩ := encP_ok hr hP
      have HT2 := Lib.hid (HT1.out.below hbe)
      have HOE := Lib.hid hoe
      clear hP hbe HT1 hr hoe
      go_wp2_with (refine wpList_run rfl (exec_load29 (p := o) rfl rfl HT2.out.one) ?_)
      refine (HRT.out _).mono ?_
      rintro e w3 ⟨rfl, hb⟩
      have HT3 := Lib.hid (HT2.out.below hb)
      have HBK := Lib.hid (back_op HRR.out (HOE.out.below hb))
      clear hb HT2 HOE
      generalize o.bytes.length = ob at HBK
      go_wp2_with fail
      refine HBK.out.mono ?_
      rintro e w4 ⟨rfl, hb⟩
      have HT4 := Lib.hid (HT3.out.below hb)
      clear hb HT3 HBK
      go_wp2_with (first | (refine wpList_run rfl (exec_alloc29z HO.out rfl) ?_) | (refine wpList_stop29 rfl ?_))
      refine ⟨?_⟩
      refine wpList_void rfl rfl (exec_store29 (p := zo) (u := o) rfl rfl rfl (Blk.new w4 29 zo.arr)) ?_
      have HT5 := Lib.hid (HT4.out.below (olaid_old w4 zo o))
      have HQ5 := Lib.hid (olaid_blk w4 zo o)
      clear HT4
      generalize (w4.alloc (.cells zo.arr 29)).setRow w4.heap.size o.arr = w5 at HT5 HQ5
      generalize w4.heap.size = q at HQ5
      go_wp2_with (first | (refine wpList_runW (exec_load29 (p := o) rfl rfl HQ5.out) (by kernel_rfl) ?_) | (refine wpList_runW (exec_load29 (p := o) rfl rfl HT5.out.one) (by kernel_rfl) ?_) | (refine wpList_runW (exec_neq29 (a := o) (b := o) rfl rfl rfl rfl) (by kernel_rfl) ?_))
      rcases decP_two (decode_op ab nb cb bs _ (by omega) (HR0.out.below HT5.out.old) HZ0.out) with ⟨u, hu1, hu2, hcall⟩ | hcall
      · have HU1 := Lib.hid hu1
        have HU2 := Lib.hid hu2
        have HC := Lib.hid hcall
        clear hu1 hu2 hcall
        refine HC.out.mono ?_
        rintro e w6 ⟨rfl, hb⟩
        have HT6 := Lib.hid (HT5.out.below hb)
        clear hb HC
        go_wp2_with (first | (refine wpList_run rfl (exec_alloc29z HO.out rfl) ?_) | (refine wpList_stop29 rfl ?_))
        refine ⟨?_⟩
        refine wpList_void rfl rfl (exec_store29 (p := zo) (u := u) rfl rfl rfl (Blk.new w6 29 zo.arr)) ?_
        have HT7 := Lib.hid (HT6.out.below (olaid_old w6 zo u))
        have HQ7 := Lib.hid (olaid_blk w6 zo u)
        clear HT6
        generalize (w6.alloc (.cells zo.arr 29)).setRow w6.heap.size u.arr = w7 at HT7 HQ7
        generalize w6.heap.size = q7 at HQ7
        go_wp2_with (refine wpList_run rfl (exec_load29 (p := u) rfl rfl HQ7.out) ?_)
        refine (encode_op u _).mono ?_
        intro e w8 hP
        obtain ⟨az, cz, rfl, hoz, hbz⟩ := encP_ok HU1.out hP
        have HT8 := Lib.hid (HT7.out.below hbz)
        have HZR := Lib.hid (hoz.row u.bytes_lt)
        have HBR := Lib.hid (HR0.out.below HT8.out.old)
        have HQS : Hid ((!((strOf u.bytes).toList == (strOf bs).toList)) = false) := Lib.hid (by rw [HU2.out]; simp)
        clear hP hoz hbz HT7
        generalize u.bytes.length = un at HZR
        go_wp2_with (first | (refine wpList_runW (exec_str rfl rfl (conv_any HZR.out)) (by kernel_rfl) ?_) | (refine wpList_runW (exec_str rfl rfl (conv_any HBR.out)) (by kernel_rfl) ?_) | (refine wpList_runW (exec_neqS rfl rfl rfl HQS.out) (by kernel_rfl) ?_))
        go_ret
        exact ⟨rfl, HT8.out.old⟩
      · have HC := Lib.hid hcall
        clear hcall
        rw [HO.out] at HC
        refine HC.out.mono ?_
        rintro e w6 ⟨rfl, hb⟩
        have HT6 := Lib.hid (HT5.out.below hb)
        clear hb HC
        go_wp2_with (first | (refine wpList_run rfl (exec_alloc29z HO.out rfl) ?_) | (refine wpList_stop29 rfl ?_))
        refine ⟨?_⟩
        refine wpList_void rfl rfl (exec_store29 (p := zo) (u := zo) rfl rfl rfl (Blk.new w6 29 zo.arr)) ?_
        have HT7 := Lib.hid (HT6.out.below (olaid_old w6 zo zo))
        clear HT6
        generalize (w6.alloc (.cells zo.arr 29)).setRow w6.heap.size zo.arr = w7 at HT7
        go_wp2_with fail
        go_ret
        exact ⟨rfl, HT7.out.old⟩
  · have hn' : (500 : Int) < (nb : Int) := by omega
    go_enter Try.func6, Try.ntmps6
    go_wp2_with fail
    clear hb1
    generalize w.alloc (.cells o.arr 29) = W at HT
    refine (alive_any _).mono ?_
    rintro e w1 ⟨rfl, hb⟩
    have HT1 := Lib.hid (HT.out.below hb)
    clear hb HT
    go_wp2_with fail
    go_ret
    exact ⟨rfl, HT1.out.old⟩

set_option maxRecDepth 100000 in
theorem lifted (os : Os) (started : os.Started) (H : Type) (enc : TypeId × Value → H) :
    ReturnsInHanded {} Try.checked os 6 .any (Rows.opBackSpec.pre6 enc Try.prog Try.f6 Rows.opBackRow.domain false) (Rows.opBackSpec.post enc Try.prog Try.f6 false true false false) := by
  refine returnsInHanded_of_change (C := Try.checked) own started (by kernel_rfl) Try.func6
    (ChangeSpec.witness6 (enc := enc) (C := Try.checked) false ⟨#[], #[.agg #[.int .u8 0, .int .u32 0, .int .u8 0, .int .u16 0, .int .u16 0, .int .u16 0, .int .u32 0, .int .u32 0, .int .u32 0, .int .u32 0, .int .u32 0, .int .u32 0, .int .u32 0, .int .u32 0, .int .u32 0, .int .u32 0, .int .u32 0, .int .u32 0, .int .u32 0, .int .u32 0, .int .u32 0, .int .u32 0, .int .u32 0], .slice none 0 0], []⟩ 8 (by kernel_rfl) (by kernel_rfl) (by kernel_rfl) (by kernel_rfl)) ?_
  intro W base args ds gs before hval0 hW hcnd _
  have hval : ∀ (j : Nat) t v, Try.f6.params[j]? = some t → args[j]? = some v → Value.okWide Try.prog W .any base t v := hval0
  have hW' := hW
  obtain ⟨p, q, hA0, hV, rfl, hfz, hnd⟩ := hW
  have hA : DataW.TrodAll enc Try.prog W 0 (fun _ => true) true Try.f6.params.toList args.toList ds p := hA0
  rw [Try.params6] at hA hval
  obtain ⟨v0, v1, d0, d1, p0, p1, rfl, rfl, rfl, h0, h1⟩ := trodAll_two hA
  obtain ⟨rfl, rfl⟩ := trodVars_none hV
  have lt0 : ∀ x ∈ p0, x.block < W.heap.size := by obtain ⟨m, hm⟩ := h0; exact DataW.trod_lt m _ _ _ hm
  obtain ⟨a0, rfl⟩ := op_of (hval 0 29 v0 rfl rfl) h0
  have lt1 : ∀ x ∈ p1, x.block < W.heap.size := by obtain ⟨m, hm⟩ := h1; exact DataW.trod_lt m _ _ _ hm
  obtain ⟨ab, nb, cb, rfl⟩ := okWide_slice Try.underlying40 (hval 1 40 v1 rfl rfl)
  obtain ⟨hl1, hz1, bs, hR1⟩ := row_of h1
  clear hA0 hval0
  refine (walk a0 ab nb cb bs W hl1 hR1 hz1).mono fun e W' ⟨he, bel⟩ => ?_
  subst he
  exact ⟨_, rfl, _, _, _, [], _, [], hW', trodAll_mk1 (shut_bool Try.underlying4 _), trodAll_mk2 (Below.trod laidOut (by kernel_rfl) (of_decide_eq_true (by kernel_rfl)) h0 bel lt0) (Below.trod laidOut (by kernel_rfl) (of_decide_eq_true (by kernel_rfl)) h1 bel lt1), rfl, bel.frame _, fun h => by cases h⟩
end OpBack

theorem opBack_proved : Rows.OpBackSaid :=
  OpenClaim.holds_of_wide 6 Try.f6 rfl rfl rfl rfl rfl rfl rfl ⟨rfl, rfl, rfl, rfl, rfl⟩ rfl rfl rfl rfl rfl (by kernel_rfl) Try.func6 (by kernel_rfl)
    (of_decide_eq_true (by kernel_rfl)) (by unfold Func.isWrapper; first | (rw [if_pos (by decide +kernel)]; kernel_rfl) | (rw [if_neg (by decide +kernel)]; exact ⟨rfl, rfl⟩))
    (fun os started H enc _ => OpBack.lifted os started H enc)
#print axioms opBack_proved
end Go.Proofs.Ytjfcddfnmbeolaa
