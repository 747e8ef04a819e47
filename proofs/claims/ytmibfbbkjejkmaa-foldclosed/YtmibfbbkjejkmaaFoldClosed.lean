/- FoldClosed: of a closed list what a vector means is closed, if the vector means what all that it means knew. -/
import Derived.Test.YtmibfbbkjejkmaaLw
import Derived.Test.YtmibfbbkjejkmaaRows
namespace Go.Proofs.Ytmibfbbkjejkmaa
open Go.ChangeShapes Go.WideShapes Go.ChangeAt Go.RowKit Fold

theorem below_has {a v : V} (h : V.belowB a v = true) {r s : Nat} (hh : V.hasB a r s = true) : V.hasB v r s = true := by
  simp only [V.hasB, Bool.and_eq_true, decide_eq_true_eq] at hh ⊢
  have := (V.belowB_iff a v).1 h r (dotB_lt hh.1).1
  exact ⟨hh.1, by omega⟩
theorem closed_under {l : List O} {v : V} (hc : Closed l) (hb : ∀ o ∈ under l v, V.belowB o.v v = true) : Closed (under l v) := by
  refine ⟨fun o ho => hc.valid o (List.mem_filter.1 ho).1, hc.unlike.sublist List.filter_sublist, fun o ho r s hh => ?_⟩
  obtain ⟨p, hp, e1, e2⟩ := hc.known o (List.mem_filter.1 ho).1 r s hh
  refine ⟨p, List.mem_filter.2 ⟨hp, ?_⟩, e1, e2⟩
  rw [e1, e2]
  exact below_has (hb o ho) hh

namespace FoldClosed
def R (w : World) (v : V) (u : List O) (a : Option Addr) (n : Nat) (i : Value) (W : World) : Prop :=
  ∃ k : Nat, i = .int .i64 (k : Int) ∧ k ≤ n ∧ Hid (∀ o ∈ u.take k, V.belowB o.v v = true) ∧ Hid (OL W a n u) ∧ Hid (Blk W w.heap.size 25 v.arr) ∧ Hid (Below w.heap.size w W)
set_option maxHeartbeats 8000000 in
set_option maxRecDepth 100000 in
theorem walk (a : Option Addr) (n cap : Nat) (l : List O) (v : V) (w : World) (hlen : n ≤ maxLen) (hl : OL w a n l) : Calls Try.prog 6 #[.slice a n cap, .agg v.arr] w (Says (.bool true) w) := by
  obtain ⟨zo, ho⟩ : ∃ z, O.zero = z := ⟨_, rfl⟩
  have HO := Lib.hid ho
  have hb1 := fun (v : V) (w : World) => box25 v w
  have HL := Lib.hid (hl.below (below_one w (.cells v.arr 25)))
  have HBX : Hid (Blk (w.alloc (.cells v.arr 25)) w.heap.size 25 v.arr) := Lib.hid (Blk.new _ _ _)
  have HB : Hid (Below w.heap.size w (w.alloc (.cells v.arr 25))) := Lib.hid (below_one _ _)
  have hlen2 : n ≤ 9223372036854775807 := by unfold maxLen at hlen; omega
  clear hl ho hlen
  go_enter Try.func6, Try.ntmps6
  go_wp2_with fail
  clear hb1
  generalize w.alloc (.cells v.arr 25) = w0 at HL HBX HB
  refine (alive_any _).mono ?_
  rintro e w1 ⟨rfl, hb⟩
  have HL1 := Lib.hid (HL.out.below hb)
  have HBX1 := Lib.hid (HBX.out.below hb)
  have HB1 : Hid (Below w.heap.size w w1) := Lib.hid (HB.out.trans (hb.mono HB.out.size))
  clear hb HL HBX HB
  by_cases hgt : 40 < n
  · go_wp2_with fail
    go_ret
    exact ⟨rfl, HB1.out⟩
  go_wp2_with fail
  refine (closed_any HL1.out (by omega)).mono ?_
  rintro e w2 ⟨b, rfl, hcl, hb⟩
  have HL2 := Lib.hid (HL1.out.below hb)
  have HBX2 := Lib.hid (HBX1.out.below hb)
  have HB2 : Hid (Below w.heap.size w w2) := Lib.hid (HB1.out.trans (hb.mono HB1.out.size))
  clear hb HL1 HBX1 HB1
  cases b
  · clear hcl
    go_wp2_with fail
    go_ret
    exact ⟨rfl, HB2.out⟩
  have HC : Hid (Closed l) := Lib.hid (hcl.1 rfl)
  clear hcl
  go_wp2_with (refine wpList_run rfl (exec_load25 (v := v) rfl rfl HBX2.out) ?_)
  refine (under_any HL2.out (by omega) v).mono ?_
  rintro e w3 ⟨au, cu, rfl, hu, hb⟩
  have HBX3 := Lib.hid (HBX2.out.below hb)
  have HB3 : Hid (Below w.heap.size w w3) := Lib.hid (HB2.out.trans (hb.mono HB2.out.size))
  have HU3 : Hid (OL w3 au (under l v).length (under l v)) := Lib.hid hu.gl
  have hul : (under l v).length ≤ n := by rw [← OL.len' HL2.out]; exact List.length_filter_le _ _
  have HCU := Lib.hid (closed_under (v := v) HC.out)
  clear hb hu HL2 HBX2 HB2 HC
  generalize under l v = u at HU3 hul HCU
  obtain ⟨m, hm⟩ : ∃ m, u.length = m := ⟨_, rfl⟩
  have HUL := Lib.hid hm
  rw [hm] at HU3 hul ⊢
  clear hm
  go_wp2_with fail
  go_loopw [23] (R w v u au m) (fun i _ => m - (numI i).toNat)
  case atStart => exact ⟨0, rfl, Nat.zero_le _, Lib.hid (fun o h => by simp at h), HU3, HBX3, HB3⟩
  case round =>
    obtain ⟨k, rfl, hk, HF, HU, HBX, HB⟩ := hrel
    clear HU3 HBX3 HB3
    by_cases hlt : k < m
    · obtain ⟨b, off, x, rfl, hx, hr⟩ := OL.at HU.out hlt
      have HX := Lib.hid hx
      have HR := Lib.hid hr
      clear hx hr
      go_wp2_with (first | (refine wpList_run rfl (exec_idxO (i := k) rfl rfl rfl rfl hlt) ?_) | (refine wpList_run rfl (exec_ldO rfl rfl HR.out) ?_) | (refine wpList_run rfl (exec_alloc40z HO.out rfl) ?_) | (refine wpList_stop40 rfl ?_))
      refine ⟨?_⟩
      refine wpList_void rfl rfl (exec_store40 (p := zo) (u := x) rfl rfl rfl (Blk.new wr 40 zo.arr)) ?_
      have H1 : Hid (Ow wr ((wr.alloc (.cells zo.arr 40)).setRow wr.heap.size x.arr) x) := Lib.hid ⟨olaid_blk wr zo x, olaid_old wr zo x⟩
      generalize (wr.alloc (.cells zo.arr 40)).setRow wr.heap.size x.arr = w4 at H1
      have HBX4 := Lib.hid (HBX.out.below H1.out.old)
      go_wp2_with (first | (refine wpList_run rfl (exec_ctx (p := x) rfl rfl H1.out.one) ?_) | (refine wpList_run rfl (exec_load25 (v := v) rfl rfl HBX4.out) ?_))
      refine (rbelow_any x.v v _).mono ?_
      rintro e w5 ⟨rfl, hb5⟩
      have HO5 : Hid (Below wr.heap.size wr w5) := Lib.hid (H1.out.old.trans (hb5.mono H1.out.old.size))
      clear hb5 HBX4 H1
      have HB5 : Hid (Below w.heap.size w w5) := Lib.hid (HB.out.trans (HO5.out.mono HB.out.size))
      cases hbb : V.belowB x.v v
      · clear hbb
        go_wp2_with fail
        go_ret
        exact ⟨rfl, HB5.out⟩
      · have HF2 : Hid (∀ o ∈ u.take (k + 1), V.belowB o.v v = true) := Lib.hid (fun o ho => by
          rw [List.take_add_one, HX.out] at ho
          rcases List.mem_append.1 ho with ho | ho
          · exact HF.out o ho
          · obtain rfl : o = x := by simpa using ho
            exact hbb)
        have HU5 := Lib.hid (HU.out.below HO5.out)
        have HBX5 := Lib.hid (HBX.out.below HO5.out)
        clear hbb
        go_wp2_with fail
        go_roundw
        case rel => exact ⟨k + 1, by go_num, hlt, HF2, HU5, HBX5, HB5⟩
        case measure => simp [numI]; omega
    · obtain rfl : k = m := by omega
      have HCC : Hid (Closed u) := Lib.hid (HCU.out (fun o ho => HF.out o (by rw [List.take_of_length_le (by rw [HUL.out]; exact Nat.le_refl _)]; exact ho)))
      go_wp2_with fail
      refine (closed_any HU.out (by omega)).mono ?_
      rintro e w6 ⟨b, rfl, hcl, hb6⟩
      obtain rfl : b = true := hcl.2 HCC.out
      have HB6 : Hid (Below w.heap.size w w6) := Lib.hid (HB.out.trans (hb6.mono HB.out.size))
      clear hcl hb6
      go_wp2_with fail
      go_ret
      exact ⟨rfl, HB6.out⟩

set_option maxRecDepth 100000 in
theorem lifted (os : Os) (started : os.Started) (H : Type) (enc : TypeId × Value → H) :
    ReturnsInHanded {} Try.checked os 6 .any (Rows.foldClosedSpec.pre6 enc Try.prog Try.f6 Rows.foldClosedRow.domain false) (Rows.foldClosedSpec.post enc Try.prog Try.f6 false true false false) := by
  refine returnsInHanded_of_change (C := Try.checked) own started (by kernel_rfl) Try.func6
    (ChangeSpec.witness6 (enc := enc) (C := Try.checked) false ⟨#[], #[.slice none 0 0, .agg #[.int .u32 0, .int .u32 0, .int .u32 0, .int .u32 0, .int .u32 0, .int .u32 0, .int .u32 0, .int .u32 0, .int .u32 0, .int .u32 0, .int .u32 0, .int .u32 0, .int .u32 0, .int .u32 0, .int .u32 0, .int .u32 0]], []⟩ 8 (by kernel_rfl) (by kernel_rfl) (by kernel_rfl) (by kernel_rfl)) ?_
  intro W base args ds gs before hval0 hW hcnd _
  have hval : ∀ (j : Nat) t v, Try.f6.params[j]? = some t → args[j]? = some v → Value.okWide Try.prog W .any base t v := hval0
  have hW' := hW
  obtain ⟨p, q, hA0, hV, rfl, hfz, hnd⟩ := hW
  have hA : DataW.TrodAll enc Try.prog W 0 (fun _ => true) true Try.f6.params.toList args.toList ds p := hA0
  rw [Try.params6] at hA hval
  obtain ⟨v0, v1, d0, d1, p0, p1, rfl, rfl, rfl, h0, h1⟩ := trodAll_two hA
  obtain ⟨rfl, rfl⟩ := trodVars_none hV
  have lt0 : ∀ x ∈ p0, x.block < W.heap.size := by obtain ⟨m, hm⟩ := h0; exact DataW.trod_lt m _ _ _ hm
  obtain ⟨ab, nb, cb, rfl⟩ := okWide_slice Try.underlying22 (hval 0 22 v0 rfl rfl)
  obtain ⟨hl0, l0, hR0⟩ := ops_of h0
  have lt1 : ∀ x ∈ p1, x.block < W.heap.size := by obtain ⟨m, hm⟩ := h1; exact DataW.trod_lt m _ _ _ hm
  obtain ⟨a1, rfl⟩ := vec_of (hval 1 25 v1 rfl rfl) h1
  clear hA0 hval0
  refine (walk ab nb cb l0 a1 W hl0 hR0).mono fun e W' ⟨he, bel⟩ => ?_
  subst he
  exact ⟨_, rfl, _, _, _, [], _, [], hW', trodAll_mk1 (shut_bool Try.underlying4 _), trodAll_mk2 (Below.trod laidOut (by kernel_rfl) (of_decide_eq_true (by kernel_rfl)) h0 bel lt0) (Below.trod laidOut (by kernel_rfl) (of_decide_eq_true (by kernel_rfl)) h1 bel lt1), rfl, bel.frame _, fun h => by cases h⟩
end FoldClosed

theorem foldClosed_proved : Rows.FoldClosedSaid :=
  OpenClaim.holds_of_wide 6 Try.f6 rfl rfl rfl rfl rfl rfl rfl ⟨rfl, rfl, rfl, rfl, rfl⟩ rfl rfl rfl rfl rfl (by kernel_rfl) Try.func6 (by kernel_rfl)
    (of_decide_eq_true (by kernel_rfl)) (by unfold Func.isWrapper; first | (rw [if_pos (by decide +kernel)]; kernel_rfl) | (rw [if_neg (by decide +kernel)]; exact ⟨rfl, rfl⟩))
    (fun os started H enc _ => FoldClosed.lifted os started H enc)
#print axioms foldClosed_proved
end Go.Proofs.Ytmibfbbkjejkmaa
