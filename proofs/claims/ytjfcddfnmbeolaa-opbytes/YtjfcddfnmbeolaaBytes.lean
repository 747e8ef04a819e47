/- OpBytes: any operation's bytes, and the operation of any bytes, are the document's, or refused. No condition. -/
import Derived.Test.YtjfcddfnmbeolaaOq
namespace Go.Proofs.Ytjfcddfnmbeolaa
open Go.ChangeShapes Go.WideShapes Go.ChangeAt Go.RowKit

theorem encB_lt (o : O) : ∀ c ∈ o.encB, c < 256 := by
  unfold O.encB
  split
  · exact o.bytes_lt
  · simp

namespace OpBytes
set_option maxHeartbeats 8000000 in
set_option maxRecDepth 100000 in
theorem walk (o : O) (ab : Option Addr) (nb cb : Nat) (bs : List Nat) (w : World) (hl : nb ≤ maxLen) (hR : Row w ab nb bs) (hz : (ab = none ∧ nb = 0 ∧ cb = 0) ∨ ∃ x, ab = some x ∧ nb ≤ cb ∧ cb ≤ maxLen) : Calls Try.prog 5 #[.agg o.arr, .slice ab nb cb] w (Says (.bool true) w) := by
  obtain ⟨zo, ho⟩ : ∃ z, O.zero = z := ⟨_, rfl⟩
  have HO := Lib.hid ho
  have hb1 := fun w => box29 o w
  have HT := Lib.hid (ow_new w o)
  have HR0 := Lib.hid hR
  have HZ0 : Hid (ab = none → nb = 0 ∧ cb = 0) := Lib.hid (fun h => by
    rcases hz with ⟨_, h1, h2⟩ | ⟨x, h1, _⟩
    · exact ⟨h1, h2⟩
    · rw [h] at h1; cases h1)
  have HC0 : Hid (nb ≤ cb) := Lib.hid (by
    rcases hz with ⟨_, h1, h2⟩ | ⟨x, _, h1, _⟩
    · omega
    · exact h1)
  have HLT := Lib.hid (encB_lt o)
  have hml : nb ≤ 9223372036854775807 := by unfold maxLen at hl; omega
  clear ho hR hz hl
  by_cases hn : nb ≤ 500
  · have hn' : (nb : Int) ≤ 500 := by omega
    go_enter Try.func5, Try.ntmps5
    go_wp2_with fail
    clear hb1
    generalize w.alloc (.cells o.arr 29) = W at HT
    refine (alive_any _).mono ?_
    rintro e w1 ⟨rfl, hb⟩
    have HT1 := Lib.hid (HT.out.below hb)
    clear hb HT
    go_wp2_with (refine wpList_run rfl (exec_load29 (p := o) rfl rfl HT1.out.one) ?_)
    refine (encode_op o _).mono ?_
    rintro e w2 ⟨a1, c1, rfl, ho1, hb⟩
    have HT2 := Lib.hid (HT1.out.below hb)
    have HX2 := Lib.hid (ho1.row HLT.out)
    clear hb HT1 ho1
    go_wp2_with (refine wpList_run rfl (exec_load29 (p := o) rfl rfl HT2.out.one) ?_)
    refine (rencode_op o _).mono ?_
    rintro e w3 ⟨a2, c2, rfl, ho2, hb⟩
    have HT3 := Lib.hid (HT2.out.below hb)
    have HX3 := Lib.hid (HX2.out.below hb)
    have HY3 := Lib.hid (ho2.row HLT.out)
    clear hb HT2 HX2 ho2 HLT
    generalize o.encB = ex at HX3 HY3
    generalize ex.length = n at HX3 HY3
    generalize o.encE = E
    have HD := Lib.hid (decode_op ab nb cb bs w3 (by omega) (HR0.out.below HT3.out.old) HZ0.out)
    have HQ : Hid (∀ W, Below w.heap.size w W → Calls Try.prog 25 #[.slice ab nb cb] W (DecP bs W)) := Lib.hid (fun W hb => rdecode_op ab nb cb bs W (by omega) (HR0.out.below hb) HC0.out HZ0.out)
    unfold DecP at HD HQ
    generalize O.decO bs = u at HD HQ
    generalize O.decE bs = F at HD HQ
    go_wp2_with fail
    refine HD.out.mono ?_
    rintro e w4 ⟨rfl, hb⟩
    have HT4 := Lib.hid (HT3.out.below hb)
    have HX4 := Lib.hid (HX3.out.below hb)
    have HY4 := Lib.hid (HY3.out.below hb)
    clear hb HT3 HX3 HY3 HD
    go_wp2_with (first | (refine wpList_run rfl (exec_alloc29z HO.out rfl) ?_) | (refine wpList_stop29 rfl ?_))
    refine ⟨?_⟩
    refine wpList_void rfl rfl (exec_store29 (p := zo) (u := u) rfl rfl rfl (Blk.new w4 29 zo.arr)) ?_
    have hlo := olaid_old w4 zo u
    have HT5 := Lib.hid (HT4.out.below hlo)
    have HX5 := Lib.hid (HX4.out.below hlo)
    have HY5 := Lib.hid (HY4.out.below hlo)
    have HU5 := Lib.hid (olaid_blk w4 zo u)
    clear hlo HT4 HX4 HY4
    generalize (w4.alloc (.cells zo.arr 29)).setRow w4.heap.size u.arr = w5 at HT5 HX5 HY5 HU5
    generalize w4.heap.size = q5 at HU5
    go_wp2_with fail
    refine (HQ.out _ HT5.out.old).mono ?_
    rintro e w6 ⟨rfl, hb⟩
    have HT6 := Lib.hid (HT5.out.below hb)
    have HX6 := Lib.hid (HX5.out.below hb)
    have HY6 := Lib.hid (HY5.out.below hb)
    have HU6 := Lib.hid (HU5.out.below hb)
    clear hb HT5 HX5 HY5 HU5 HQ
    go_wp2_with (first | (refine wpList_run rfl (exec_alloc29z HO.out rfl) ?_) | (refine wpList_stop29 rfl ?_))
    refine ⟨?_⟩
    refine wpList_void rfl rfl (exec_store29 (p := zo) (u := u) rfl rfl rfl (Blk.new w6 29 zo.arr)) ?_
    have hlo := olaid_old w6 zo u
    have HT7 := Lib.hid (HT6.out.below hlo)
    have HX7 := Lib.hid (HX6.out.below hlo)
    have HY7 := Lib.hid (HY6.out.below hlo)
    have HU7 := Lib.hid (HU6.out.below hlo)
    have HV7 := Lib.hid (olaid_blk w6 zo u)
    clear hlo HT6 HX6 HY6 HU6
    generalize (w6.alloc (.cells zo.arr 29)).setRow w6.heap.size u.arr = w7 at HT7 HX7 HY7 HU7 HV7
    generalize w6.heap.size = q7 at HV7
    have HQS : Hid (((strOf ex).toList == (strOf ex).toList) = true) := Lib.hid (by simp)
    go_wp2_with (first | (refine wpList_runW (exec_str rfl rfl (conv_any HX7.out)) (by kernel_rfl) ?_) | (refine wpList_runW (exec_str rfl rfl (conv_any HY7.out)) (by kernel_rfl) ?_) | (refine wpList_runW (exec_eqlS rfl rfl rfl HQS.out) (by kernel_rfl) ?_) | (refine wpList_runW (exec_load29 (p := u) rfl rfl HU7.out) (by kernel_rfl) ?_) | (refine wpList_runW (exec_load29 (p := u) rfl rfl HV7.out) (by kernel_rfl) ?_) | (refine wpList_runW (exec_eql29 (a := u) (b := u) rfl rfl rfl rfl) (by kernel_rfl) ?_))
    go_ret
    exact ⟨rfl, HT7.out.old⟩
  · have hn' : (500 : Int) < (nb : Int) := by omega
    go_enter Try.func5, Try.ntmps5
    go_wp2_with fail
    clear hb1
    generalize w.alloc (.cells o.arr 29) = W at HT
    refine (alive_any _).mono ?_
    rintro e w1 ⟨rfl, hb⟩
    have HT1 := Lib.hid (HT.out.below hb)
    clear hb HT
    go_wp2_with fail
    go_ret
    exact ⟨rfl, HT1.out.old⟩

set_option maxRecDepth 100000 in
theorem lifted (os : Os) (started : os.Started) (H : Type) (enc : TypeId × Value → H) :
    ReturnsInHanded {} Try.checked os 5 .any (Rows.opBytesSpec.pre6 enc Try.prog Try.f5 Rows.opBytesRow.domain false) (Rows.opBytesSpec.post enc Try.prog Try.f5 false true false false) := by
  refine returnsInHanded_of_change (C := Try.checked) own started (by kernel_rfl) Try.func5
    (ChangeSpec.witness6 (enc := enc) (C := Try.checked) false ⟨#[], #[.agg #[.int .u8 0, .int .u32 0, .int .u8 0, .int .u16 0, .int .u16 0, .int .u16 0, .int .u32 0, .int .u32 0, .int .u32 0, .int .u32 0, .int .u32 0, .int .u32 0, .int .u32 0, .int .u32 0, .int .u32 0, .int .u32 0, .int .u32 0, .int .u32 0, .int .u32 0, .int .u32 0, .int .u32 0, .int .u32 0, .int .u32 0], .slice none 0 0], []⟩ 8 (by kernel_rfl) (by kernel_rfl) (by kernel_rfl) (by kernel_rfl)) ?_
  intro W base args ds gs before hval0 hW hcnd _
  have hval : ∀ (j : Nat) t v, Try.f5.params[j]? = some t → args[j]? = some v → Value.okWide Try.prog W .any base t v := hval0
  have hW' := hW
  obtain ⟨p, q, hA0, hV, rfl, hfz, hnd⟩ := hW
  have hA : DataW.TrodAll enc Try.prog W 0 (fun _ => true) true Try.f5.params.toList args.toList ds p := hA0
  rw [Try.params5] at hA hval
  obtain ⟨v0, v1, d0, d1, p0, p1, rfl, rfl, rfl, h0, h1⟩ := trodAll_two hA
  obtain ⟨rfl, rfl⟩ := trodVars_none hV
  have lt0 : ∀ x ∈ p0, x.block < W.heap.size := by obtain ⟨m, hm⟩ := h0; exact DataW.trod_lt m _ _ _ hm
  obtain ⟨a0, rfl⟩ := op_of (hval 0 29 v0 rfl rfl) h0
  have lt1 : ∀ x ∈ p1, x.block < W.heap.size := by obtain ⟨m, hm⟩ := h1; exact DataW.trod_lt m _ _ _ hm
  obtain ⟨ab, nb, cb, rfl⟩ := okWide_slice Try.underlying40 (hval 1 40 v1 rfl rfl)
  obtain ⟨hl1, hz1, bs, hR1⟩ := row_of h1
  clear hA0 hval0
  refine (walk a0 ab nb cb bs W hl1 hR1 hz1).mono fun e W' ⟨he, bel⟩ => ?_
  subst he
  exact ⟨_, rfl, _, _, _, [], _, [], hW', trodAll_mk1 (shut_bool Try.underlying4 _), trodAll_mk2 (Below.trod laidOut (by kernel_rfl) (of_decide_eq_true (by kernel_rfl)) h0 bel lt0) (Below.trod laidOut (by kernel_rfl) (of_decide_eq_true (by kernel_rfl)) h1 bel lt1), rfl, bel.frame _, fun h => by cases h⟩
end OpBytes

theorem opBytes_proved : Rows.OpBytesSaid :=
  OpenClaim.holds_of_wide 5 Try.f5 rfl rfl rfl rfl rfl rfl rfl ⟨rfl, rfl, rfl, rfl, rfl⟩ rfl rfl rfl rfl rfl (by kernel_rfl) Try.func5 (by kernel_rfl)
    (of_decide_eq_true (by kernel_rfl)) (by unfold Func.isWrapper; first | (rw [if_pos (by decide +kernel)]; kernel_rfl) | (rw [if_neg (by decide +kernel)]; exact ⟨rfl, rfl⟩))
    (fun os started H enc _ => OpBytes.lifted os started H enc)
#print axioms opBytes_proved
end Go.Proofs.Ytjfcddfnmbeolaa
