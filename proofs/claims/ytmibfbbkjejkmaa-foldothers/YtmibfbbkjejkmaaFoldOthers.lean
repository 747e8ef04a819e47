/- FoldOthers: what is seen of a cart hangs on the operations for it alone. -/
import Derived.Test.YtmibfbbkjejkmaaSm
import Derived.Test.YtmibfbbkjejkmaaRows
namespace Go.Proofs.Ytmibfbbkjejkmaa
open Go.ChangeShapes Go.WideShapes Go.ChangeAt Go.RowKit Fold

namespace FoldOthers
set_option maxHeartbeats 8000000 in
set_option maxRecDepth 100000 in
theorem walk (a : Option Addr) (n cap : Nat) (l : List O) (c : Nat) (w : World) (hlen : n ≤ maxLen) (hl : OL w a n l) (_hc : c < 65536) : Calls Try.prog 5 #[.slice a n cap, .int .u16 (c : Int)] w (Says (.bool true) w) := by
  obtain ⟨zo, ho⟩ : ∃ z, O.zero = z := ⟨_, rfl⟩
  have HO := Lib.hid ho
  have HL := Lib.hid hl
  have hlen2 : n ≤ 9223372036854775807 := by unfold maxLen at hlen; omega
  have HLEN := Lib.hid (OL.len' hl)
  clear hl ho hlen
  go_enter Try.func5, Try.ntmps5
  go_wp2_with fail
  refine (alive_any _).mono ?_
  rintro e w1 ⟨rfl, hb⟩
  have HL1 := Lib.hid (HL.out.below hb)
  have HB1 := Lib.hid hb
  clear hb HL
  by_cases hgt : 40 < n
  · go_wp2_with fail
    go_ret
    exact ⟨rfl, HB1.out⟩
  go_wp2_with fail
  go_loopw [5, 15] (OutR w1 (fun o => decide (o.c = c)) l n) (fun _ u _ => n - (numI u).toNat)
  case atStart => exact ⟨0, none, 0, 0, rfl, rfl, Nat.zero_le _, Lib.hid rfl, Lib.hid (ownG_nil _ _ _ _), Lib.hid (Below.refl _ _)⟩
  case round =>
    obtain ⟨k, a', m, cap', rfl, rfl, hk, HM, HW, HB⟩ := hrel
    by_cases hlt : k < n
    · obtain ⟨b, off, x, rfl, hx, hr⟩ := OL.at (HL1.out.below HB.out) hlt
      have HX := Lib.hid hx
      have HR := Lib.hid hr
      clear hx hr
      go_wp2_with (first | (refine wpList_run rfl (exec_idxO (i := k) rfl rfl rfl rfl hlt) ?_) | (refine wpList_run rfl (exec_ldO rfl rfl HR.out) ?_) | (refine wpList_run rfl (exec_alloc40z HO.out rfl) ?_) | (refine wpList_stop40 rfl ?_))
      refine ⟨?_⟩
      refine wpList_void rfl rfl (exec_store40 (p := zo) (u := x) rfl rfl rfl (Blk.new wr 40 zo.arr)) ?_
      have H1 : Hid (Ow wr ((wr.alloc (.cells zo.arr 40)).setRow wr.heap.size x.arr) x) := Lib.hid ⟨olaid_blk wr zo x, olaid_old wr zo x⟩
      generalize (wr.alloc (.cells zo.arr 40)).setRow wr.heap.size x.arr = w2 at H1
      have c3 := oc3 H1.out.one
      by_cases hc : x.c = c
      · have hq : ((x.c : Int) == (c : Int)) = true := by simp; omega
        go_wp2_with (first | (refine wpList_run rfl (exec_load40 (p := x) rfl rfl H1.out.one) ?_) | (refine wpList_run rfl (exec_bsO (p := x) rfl rfl) ?_) | (at_builtin; refine wpList_appendG 22 40 23 84 info40b und22 rfl (by decide) (by decide) rfl rfl rfl rfl (HW.out.below (H1.out.old.trans ((below_one w2 _).mono H1.out.old.size))) (Blk.new w2 40 x.arr) x.arr_size (one_cs x) (by have := HM.out; have := List.length_filter_le (fun o => decide (o.c = c)) (l.take k); have := List.length_take_le k l; omega) (by have := HB.out.size; have := H1.out.old.size; simp; omega) ?_; intro a3 cap3 w3 ho3 hk3 hl3))
        have HE := Lib.hid (out_app HM.out HX.out hlt (decide_eq_true hc) HW.out HB.out (H1.out.old.trans ((below_one w2 _).mono H1.out.old.size)) (OwnO.snoc ho3) hk3)
        clear ho3 hk3 hl3
        go_roundw
        case rel => exact HE.out
        case measure => simp [numI]; omega
      · have hq : ((x.c : Int) == (c : Int)) = false := by simp; omega
        have HE := Lib.hid (out_skip (cap := cap') HM.out HX.out hlt (decide_eq_false hc) HW.out HB.out H1.out.old)
        go_wp2_with fail
        go_roundw
        case rel => exact HE.out
        case measure => simp [numI]; omega
    · obtain rfl : k = n := by omega
      have HOW : Hid (OL wr a' m (l.filter fun o => decide (o.c = c))) := Lib.hid (by
        have ho := HW.out
        rw [List.take_of_length_le (by rw [HLEN.out]; omega)] at ho
        exact ho.gl)
      have hmk : m ≤ k := by
        have := HM.out
        have h2 := List.length_filter_le (fun o : O => decide (o.c = c)) (l.take k)
        have h3 := List.length_take_le k l
        omega
      have HBB : Hid (Below w.heap.size w wr) := Lib.hid (HB1.out.trans (HB.out.mono HB1.out.size))
      have HL2 := Lib.hid (HL1.out.below HB.out)
      clear HL1 HB1 HW HB HM
      obtain ⟨L, hL⟩ : ∃ L, l.filter (fun o => decide (o.c = c)) = L := ⟨_, rfl⟩
      have HFL := Lib.hid hL
      have HFF : Hid (L.filter (fun o => decide (o.c = c)) = L) := Lib.hid (by rw [← hL, List.filter_filter]; simp)
      rw [hL] at HOW
      clear hL
      go_wp2_with fail
      refine (view_lines HL2.out (by omega) c HFL.out).mono ?_
      rintro e w3 ⟨its, a3, cap3, hit, rfl, hown, hb3⟩
      have HI := Lib.hid hit
      have HG := Lib.hid hown.gl
      have HOW3 := Lib.hid (HOW.out.below hb3)
      have HB3 : Hid (Below w.heap.size w w3) := Lib.hid (HBB.out.trans (hb3.mono HBB.out.size))
      clear hit hown hb3 HL2 HOW HBB
      go_wp2_with fail
      refine (view_lines HOW3.out (by omega) c HFF.out).mono ?_
      rintro e w4 ⟨its2, a4, cap4, hit2, rfl, hown2, hb4⟩
      obtain rfl := items_one HI.out hit2
      have HG4 := Lib.hid (HG.out.below hb4)
      have HG5 := Lib.hid hown2.gl
      have HB4 : Hid (Below w.heap.size w w4) := Lib.hid (HB3.out.trans (hb4.mono HB3.out.size))
      have hsz : its.length < 1000000 := items_lt hit2
      rw [lines_ln] at HG4 HG5
      clear hit2 hown2 hb4 HG HOW3 HB3
      generalize outTo L L.length = o
      generalize tkTo L L.length = t
      generalize (its.map fun i => (i, qtyAt L i)) = ls at HG4 HG5
      generalize its.length = nk at HG4 HG5 hsz
      unfold viewV
      go_wp2_with fail
      refine (same_any c a3 a4 nk cap3 cap4 o t ls _ hsz HG4.out HG5.out).mono ?_
      rintro e w5 ⟨rfl, hb5⟩
      have HB5 : Hid (Below w.heap.size w w5) := Lib.hid (HB4.out.trans (hb5.mono HB4.out.size))
      clear hb5
      go_wp2_with fail
      go_ret
      exact ⟨rfl, HB5.out⟩

set_option maxRecDepth 100000 in
theorem lifted (os : Os) (started : os.Started) (H : Type) (enc : TypeId × Value → H) :
    ReturnsInHanded {} Try.checked os 5 .any (Rows.foldOthersSpec.pre6 enc Try.prog Try.f5 Rows.foldOthersRow.domain false) (Rows.foldOthersSpec.post enc Try.prog Try.f5 false true false false) := by
  refine returnsInHanded_of_change (C := Try.checked) own started (by kernel_rfl) Try.func5
    (ChangeSpec.witness6 (enc := enc) (C := Try.checked) false ⟨#[], #[.slice none 0 0, .int .u16 0], []⟩ 8 (by kernel_rfl) (by kernel_rfl) (by kernel_rfl) (by kernel_rfl)) ?_
  intro W base args ds gs before hval0 hW hcnd _
  have hval : ∀ (j : Nat) t v, Try.f5.params[j]? = some t → args[j]? = some v → Value.okWide Try.prog W .any base t v := hval0
  have hW' := hW
  obtain ⟨p, q, hA0, hV, rfl, hfz, hnd⟩ := hW
  have hA : DataW.TrodAll enc Try.prog W 0 (fun _ => true) true Try.f5.params.toList args.toList ds p := hA0
  rw [Try.params5] at hA hval
  obtain ⟨v0, v1, d0, d1, p0, p1, rfl, rfl, rfl, h0, h1⟩ := trodAll_two hA
  obtain ⟨rfl, rfl⟩ := trodVars_none hV
  have lt0 : ∀ x ∈ p0, x.block < W.heap.size := by obtain ⟨m, hm⟩ := h0; exact DataW.trod_lt m _ _ _ hm
  obtain ⟨ab, nb, cb, rfl⟩ := okWide_slice Try.underlying22 (hval 0 22 v0 rfl rfl)
  obtain ⟨hl0, l0, hR0⟩ := ops_of h0
  obtain ⟨a1, rfl, rfl, rfl, w1⟩ := open_int Try.underlying34 (hval 1 34 v1 rfl rfl) h1
  have c1 := bounds_u16 w1
  obtain ⟨a1, rfl⟩ := Int.eq_ofNat_of_zero_le c1.1
  clear hA0 hval0
  refine (walk ab nb cb l0 a1 W hl0 hR0 (by omega)).mono fun e W' ⟨he, bel⟩ => ?_
  subst he
  exact ⟨_, rfl, _, _, _, [], _, [], hW', trodAll_mk1 (shut_bool Try.underlying4 _), trodAll_mk2 (Below.trod laidOut (by kernel_rfl) (of_decide_eq_true (by kernel_rfl)) h0 bel lt0) (shut_int Try.underlying34 w1), rfl, bel.frame _, fun h => by cases h⟩
end FoldOthers

theorem foldOthers_proved : Rows.FoldOthersSaid :=
  OpenClaim.holds_of_wide 5 Try.f5 rfl rfl rfl rfl rfl rfl rfl ⟨rfl, rfl, rfl, rfl, rfl⟩ rfl rfl rfl rfl rfl (by kernel_rfl) Try.func5 (by kernel_rfl)
    (of_decide_eq_true (by kernel_rfl)) (by unfold Func.isWrapper; first | (rw [if_pos (by decide +kernel)]; kernel_rfl) | (rw [if_neg (by decide +kernel)]; exact ⟨rfl, rfl⟩))
    (fun os started H enc _ => FoldOthers.lifted os started H enc)
#print axioms foldOthers_proved
end Go.Proofs.Ytmibfbbkjejkmaa
