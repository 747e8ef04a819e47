/- Walks of ofCart, Under and makesEntry of fold. -/
import Derived.Test.YtmibfbbkjejkmaaOl
import Derived.Test.YtmibfbbkjejkmaaFm
import Derived.Test.YtmibfbbkjejkmaaMd
import Derived.Test.YtmibfbbkjejkmaaCo
import Derived.Test.YtmibfbbkjejkmaaBs
namespace Go.Proofs.Ytmibfbbkjejkmaa
open Go.RowKit

theorem one_cs (p : O) : ∀ u ∈ p.arr.toList, u.oneCell' = true := by
  have h := p.arr_one
  intro u hu
  exact Array.all_eq_true_iff_forall_mem.1 h u (by simpa using hu)

/-- Some of the operations, in order, in a slice of the call's own. -/
def OpsP (l : List O) (w : World) (e : Ending) (w' : World) : Prop := ∃ a cap, e = .returned (.slice a l.length cap) ∧ OwnO w' w.heap.size a l.length cap l ∧ Below w.heap.size w w'
def OutR (w : World) (p : O → Bool) (l : List O) (n : Nat) (v u : Value) (W : World) : Prop :=
  ∃ (k : Nat) (a : Option Addr) (m cap : Nat), v = .slice a m cap ∧ u = .int .i64 (k : Int) ∧ k ≤ n ∧ Hid (m = ((l.take k).filter p).length) ∧ Hid (OwnO W w.heap.size a m cap ((l.take k).filter p)) ∧ Hid (Below w.heap.size w W)

def UndR (w : World) (x : V) (p : O → Bool) (l : List O) (n : Nat) (v u : Value) (W : World) : Prop := OutR w p l n v u W ∧ Blk W w.heap.size 25 x.arr

theorem filter_yes {p : O → Bool} {l : List O} {k : Nat} {x : O} (hx : l[k]? = some x) (h : p x = true) : (l.take (k + 1)).filter p = (l.take k).filter p ++ [x] := by
  rw [List.take_add_one, hx, List.filter_append]
  simp [h]
theorem filter_no {p : O → Bool} {l : List O} {k : Nat} {x : O} (hx : l[k]? = some x) (h : p x = false) : (l.take (k + 1)).filter p = (l.take k).filter p := by
  rw [List.take_add_one, hx, List.filter_append]
  simp [h]

/-- The end of a round in which an element was appended. -/
theorem out_app {w W W2 W3 : World} {a a' : Option Addr} {m cap cap' k n : Nat} {l : List O} {p : O → Bool} {x : O} (hm : m = ((l.take k).filter p).length) (hx : l[k]? = some x) (hk : k < n) (hp : p x = true) (ho : OwnO W w.heap.size a m cap ((l.take k).filter p)) (hb : Below w.heap.size w W) (h2 : Below W.heap.size W W2)
    (h3 : OwnO W3 w.heap.size a' (m + 1) cap' ((l.take k).filter p ++ [x])) (hk3 : Kept (At a) W2 W3) : OutR w p l n (.slice a' (m + 1) cap') (.int .i64 ((k : Int) + 1)) W3 := by
  refine ⟨k + 1, a', m + 1, cap', rfl, by go_num, hk, Lib.hid ?_, Lib.hid ?_, Lib.hid ?_⟩
  · rw [filter_yes hx hp, List.length_append, ← hm]; rfl
  · rw [filter_yes hx hp]; exact h3
  · exact (hb.trans (h2.mono hb.size)).trans (hk3.below (Nat.le_trans hb.size h2.size) (fun j ⟨ad, had, e⟩ => by rw [e]; exact (ho.lt ad had).1))
theorem out_skip {w W W2 : World} {a : Option Addr} {m cap k n : Nat} {l : List O} {p : O → Bool} {x : O} (hm : m = ((l.take k).filter p).length) (hx : l[k]? = some x) (hk : k < n) (hp : p x = false) (ho : OwnO W w.heap.size a m cap ((l.take k).filter p)) (hb : Below w.heap.size w W) (h2 : Below W.heap.size W W2) : OutR w p l n (.slice a m cap) (.int .i64 ((k : Int) + 1)) W2 := by
  refine ⟨k + 1, a, m, cap, rfl, by go_num, hk, Lib.hid ?_, Lib.hid ?_, Lib.hid (hb.trans (h2.mono hb.size))⟩
  · rw [filter_no hx hp]; exact hm
  · rw [filter_no hx hp]; exact ho.below h2
theorem OwnO.snoc {w : World} {B n cap : Nat} {a : Option Addr} {l : List O} {x : O} (h : OwnG w 40 23 B a n cap (cellsO l ++ [x.arr.toList])) : OwnO w B a n cap (l ++ [x]) := by
  have e : cellsO (l ++ [x]) = cellsO l ++ [x.arr.toList] := by simp [cellsO]
  unfold OwnO
  rw [e]
  exact h

set_option maxRecDepth 100000 in
set_option maxHeartbeats 1000000 in
theorem ofcart_any {a : Option Addr} {n cap : Nat} {l : List O} {w : World} (hl : OL w a n l) (hn : n < 1000000) (c : Nat) : Calls Try.prog 32 #[.slice a n cap, .int .u16 (c : Int)] w (OpsP (l.filter fun o => decide (o.c = c)) w) := by
  obtain ⟨zo, ho⟩ : ∃ z, O.zero = z := ⟨_, rfl⟩
  have HO := Lib.hid ho
  have HL := Lib.hid hl
  have hlen := hl.len'
  have HLEN := Lib.hid hlen
  clear ho hl hlen
  go_enter Try.func32, Try.ntmps32
  go_wp2_with fail
  go_loopw [5, 10] (OutR w (fun o => decide (o.c = c)) l n) (fun _ u _ => n - (numI u).toNat)
  case atStart => exact ⟨0, none, 0, 0, rfl, rfl, Nat.zero_le _, Lib.hid rfl, Lib.hid (ownG_nil _ _ _ _), Lib.hid (Below.refl _ _)⟩
  case round =>
    obtain ⟨k, a', m, cap', rfl, rfl, hk, HM, HW, HB⟩ := hrel
    by_cases hlt : k < n
    · obtain ⟨b, off, x, rfl, hx, hr⟩ := OL.at (HL.out.below HB.out) hlt
      have HX := Lib.hid hx
      have HR := Lib.hid hr
      clear hx hr
      go_wp2_with (first | (refine wpList_run rfl (exec_idxO (i := k) rfl rfl rfl rfl hlt) ?_) | (refine wpList_run rfl (exec_ldO rfl rfl HR.out) ?_) | (refine wpList_run rfl (exec_alloc40z HO.out rfl) ?_) | (refine wpList_stop40 rfl ?_))
      refine ⟨?_⟩
      refine wpList_void rfl rfl (exec_store40 (p := zo) (u := x) rfl rfl rfl (Blk.new wr 40 zo.arr)) ?_
      have H1 : Hid (Ow wr ((wr.alloc (.cells zo.arr 40)).setRow wr.heap.size x.arr) x) := Lib.hid ⟨olaid_blk wr zo x, olaid_old wr zo x⟩
      generalize (wr.alloc (.cells zo.arr 40)).setRow wr.heap.size x.arr = w1 at H1
      have c3 := oc3 H1.out.one
      by_cases hc : x.c = c
      · have hq : ((x.c : Int) == (c : Int)) = true := by simp; omega
        go_wp2_with (first | (refine wpList_run rfl (exec_load40 (p := x) rfl rfl H1.out.one) ?_) | (refine wpList_run rfl (exec_bsO (p := x) rfl rfl) ?_) | (at_builtin; refine wpList_appendG 22 40 23 84 info40b und22 rfl (by decide) (by decide) rfl rfl rfl rfl (HW.out.below (H1.out.old.trans ((below_one w1 _).mono H1.out.old.size))) (Blk.new w1 40 x.arr) x.arr_size (one_cs x) (by have := HM.out; have := List.length_filter_le (fun o => decide (o.c = c)) (l.take k); have := List.length_take_le k l; omega) (by have := HB.out.size; have := H1.out.old.size; simp; omega) ?_; intro a3 cap3 w3 ho3 hk3 hl3))
        have HE := Lib.hid (out_app HM.out HX.out hlt (decide_eq_true hc) HW.out HB.out (H1.out.old.trans ((below_one w1 _).mono H1.out.old.size)) (OwnO.snoc ho3) hk3)
        clear ho3 hk3 hl3
        go_roundw
        case rel => exact HE.out
        case measure => simp [numI]; omega
      · have hq : ((x.c : Int) == (c : Int)) = false := by simp; omega
        have HE := Lib.hid (out_skip (cap := cap') HM.out HX.out hlt (decide_eq_false hc) HW.out HB.out H1.out.old)
        go_wp2_with fail
        go_roundw
        case rel => exact HE.out
        case measure => simp [numI]; omega
    · obtain rfl : k = n := by omega
      have HE : Hid (OpsP (l.filter fun o => decide (o.c = c)) w (.returned (.slice a' m cap')) wr) := by
        have hm := HM.out
        have ho := HW.out
        rw [List.take_of_length_le (by rw [HLEN.out]; omega)] at hm ho
        subst hm
        exact Lib.hid ⟨a', cap', rfl, ho, HB.out⟩
      go_wp2_with fail
      go_ret
      exact HE.out

set_option maxRecDepth 100000 in
set_option maxHeartbeats 1000000 in
theorem under_any {a : Option Addr} {n cap : Nat} {l : List O} {w : World} (hl : OL w a n l) (hn : n < 1000000) (v : V) : Calls Try.prog 14 #[.slice a n cap, .agg v.arr] w (OpsP (Fold.under l v) w) := by
  obtain ⟨zo, ho⟩ : ∃ z, O.zero = z := ⟨_, rfl⟩
  have HO := Lib.hid ho
  have HL := Lib.hid hl
  have HLEN := Lib.hid hl.len'
  have hb1 := fun (v : V) (w : World) => box25 v w
  clear ho hl
  go_enter Try.func14, Try.ntmps14
  go_wp2_with fail
  clear hb1
  go_loopw [5, 10] (UndR w v (fun o => V.hasB v o.r o.s) l n) (fun _ u _ => n - (numI u).toNat)
  case atStart => exact ⟨⟨0, none, 0, 0, rfl, rfl, Nat.zero_le _, Lib.hid rfl, Lib.hid (ownG_nil _ _ _ _), Lib.hid (below_one _ _)⟩, Blk.new w 25 v.arr⟩
  case round =>
    obtain ⟨⟨k, a', m, cap', rfl, rfl, hk, HM, HW, HB⟩, hvb⟩ := hrel
    have HV := Lib.hid hvb
    clear hvb
    by_cases hlt : k < n
    · obtain ⟨b, off, x, rfl, hx, hr⟩ := OL.at (HL.out.below HB.out) hlt
      have HX := Lib.hid hx
      have HR := Lib.hid hr
      clear hx hr
      go_wp2_with (first | (refine wpList_run rfl (exec_idxO (i := k) rfl rfl rfl rfl hlt) ?_) | (refine wpList_run rfl (exec_ldO rfl rfl HR.out) ?_) | (refine wpList_run rfl (exec_alloc40z HO.out rfl) ?_) | (refine wpList_stop40 rfl ?_))
      refine ⟨?_⟩
      refine wpList_void rfl rfl (exec_store40 (p := zo) (u := x) rfl rfl rfl (Blk.new wr 40 zo.arr)) ?_
      have H1 : Hid (Ow wr ((wr.alloc (.cells zo.arr 40)).setRow wr.heap.size x.arr) x) := Lib.hid ⟨olaid_blk wr zo x, olaid_old wr zo x⟩
      generalize (wr.alloc (.cells zo.arr 40)).setRow wr.heap.size x.arr = w1 at H1
      have HV1 := Lib.hid (HV.out.below H1.out.old)
      go_wp2_with (first | (refine wpList_run rfl (exec_load25 (v := v) rfl rfl HV1.out) ?_) | (refine wpList_run rfl (exec_dot (p := x) rfl rfl H1.out.one) ?_))
      refine (has_any v x.r x.s w1 x.hr x.hs).mono ?_
      rintro e w2 ⟨rfl, hb2⟩
      have H2 := Lib.hid (H1.out.below hb2)
      have HV2 := Lib.hid (HV1.out.below hb2)
      clear hb2 H1 HV1
      cases hc : V.hasB v x.r x.s
      · have HE := Lib.hid (out_skip (cap := cap') HM.out HX.out hlt hc HW.out HB.out H2.out.old)
        go_wp2_with fail
        go_roundw
        case rel => exact ⟨HE.out, HV2.out⟩
        case measure => simp [numI]; omega
      · go_wp2_with (first | (refine wpList_run rfl (exec_load40 (p := x) rfl rfl H2.out.one) ?_) | (refine wpList_run rfl (exec_bsO (p := x) rfl rfl) ?_) | (at_builtin; refine wpList_appendG 22 40 23 84 info40b und22 rfl (by decide) (by decide) rfl rfl rfl rfl (HW.out.below (H2.out.old.trans ((below_one w2 _).mono H2.out.old.size))) (Blk.new w2 40 x.arr) x.arr_size (one_cs x) (by have := HM.out; have := List.length_filter_le (fun o : O => V.hasB v o.r o.s) (l.take k); have := List.length_take_le k l; omega) (by have := HB.out.size; have := H2.out.old.size; simp; omega) ?_; intro a3 cap3 w3 ho3 hk3 hl3))
        have HE := Lib.hid (out_app HM.out HX.out hlt hc HW.out HB.out (H2.out.old.trans ((below_one w2 _).mono H2.out.old.size)) (OwnO.snoc ho3) hk3)
        have HV3 := Lib.hid ((HV2.out.below (below_one w2 (.cells x.arr 40))).kept hk3 (fun ⟨ad, had, e⟩ => by
          have hg := (HW.out.lt ad had)
          have hne : ad.block ≠ w.heap.size := fun e2 => by
            rcases HW.out.row.2 with ⟨h0, _⟩ | ⟨g', c', cur, hv', _, hgb, _⟩
            · rw [had] at h0; cases h0
            · rw [had] at hv'
              cases hv'
              have h5 := HV.out
              unfold Blk at h5
              simp only at e2
              rw [e2, h5] at hgb
              cases hgb
          exact hne e.symm))
        clear ho3 hk3 hl3
        go_roundw
        case rel => exact ⟨HE.out, HV3.out⟩
        case measure => simp [numI]; omega
    · obtain rfl : k = n := by omega
      have HE : Hid (OpsP (Fold.under l v) w (.returned (.slice a' m cap')) wr) := by
        have hm := HM.out
        have ho := HW.out
        rw [List.take_of_length_le (by rw [HLEN.out]; omega)] at hm ho
        subst hm
        exact Lib.hid ⟨a', cap', rfl, ho, HB.out⟩
      go_wp2_with fail
      go_ret
      exact HE.out

set_option maxHeartbeats 1000000 in
theorem fmakes_any (o : O) (w : World) : Calls Try.prog 38 #[.agg o.arr] w (Says (.bool o.laysB) w) := by
  have hb1 := fun (o : O) (w : World) => box40 o w
  have hbx := Blk.new w 40 o.arr
  have c2 := oc2 hbx
  clear hbx
  have HD : Hid (o.laysB = (decide (o.k = 1) || decide (o.k = 2) || decide (o.k = 4))) := Lib.hid (by unfold O.laysB; rw [Bool.eq_iff_iff]; simp [or_assoc])
  by_cases h1 : o.k = 1
  · have e1 : ((o.k : Int) == 1) = true := by simp; omega
    go_enter Try.func38, Try.ntmps38
    go_wp2_with fail
    go_ret
    exact ⟨ret_bool (by rw [HD.out]; simp [h1]), below_one _ _⟩
  · have e1 : ((o.k : Int) == 1) = false := by simp; omega
    by_cases h2 : o.k = 2
    · have e2 : ((o.k : Int) == 2) = true := by simp; omega
      go_enter Try.func38, Try.ntmps38
      go_wp2_with fail
      go_ret
      exact ⟨ret_bool (by rw [HD.out]; simp [h2]), below_one _ _⟩
    · have e2 : ((o.k : Int) == 2) = false := by simp; omega
      by_cases h4 : o.k = 4
      · have e4 : ((o.k : Int) == 4) = true := by simp; omega
        go_enter Try.func38, Try.ntmps38
        go_wp2_with fail
        go_ret
        exact ⟨ret_bool (by rw [HD.out]; simp [h4]), below_one _ _⟩
      · have e4 : ((o.k : Int) == 4) = false := by simp; omega
        go_enter Try.func38, Try.ntmps38
        go_wp2_with fail
        go_ret
        exact ⟨ret_bool (by rw [HD.out]; simp [h1, h2, h4]), below_one _ _⟩

end Go.Proofs.Ytmibfbbkjejkmaa
