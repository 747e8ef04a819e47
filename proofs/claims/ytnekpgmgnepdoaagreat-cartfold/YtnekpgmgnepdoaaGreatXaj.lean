import Derived.RangeFuncNested
import Derived.RangeFuncBound
import Derived.RangeFuncCalls
import Derived.RangeFuncLeaves
import Derived.RangeFuncFrom
import Derived.RangeFuncBox
import Derived.Shelf.Abstract
import Derived.Shelf.RegionOpen
import Derived.OwnWalkIn
import Derived.TacticsInMore
import Derived.LoopNIn
import Derived.LoopIn
import Derived.Maps.OwnIn
import Derived.Maps.AppendAt
import Derived.Test.YtnekpgmgnepdoaaGreatWai
section
namespace Go.Proofs.YtnekpgmgnepdoaaGreat.F
open Go.Proofs.YtnekpgmgnepdoaaGreat
section
open Go.RowKit Go.Maps Go.Shelf
abbrev encK (x : Nat) : Value := .int .u16 (x : Int)
abbrev litK (x : Nat) : Lit := .int .u16 (x : Int)
theorem law31 : Keyed Tryz.prog 31 := int_keyed Tryz.underlying31
theorem wf16 {x : Nat} (h : x < 65536) : (Lit.int .u16 (x : Int)).wf = true := by
 simp [Lit.wf, IntKind.min, IntKind.max, IntKind.bits, IntKind.signed]; omega
theorem key31 {x : Nat} (h : x < 65536) : keyOf Tryz.prog 31 (encK x) = some (litK x) := keyOf_int_mk Tryz.underlying31 (wf16 h)
theorem key31_inv {v : Value} {kl : Lit} (h : keyOf Tryz.prog 31 v = some kl) : ∃ x : Nat, v = encK x ∧ x < 65536 ∧ kl = litK x := by
 obtain ⟨z, rfl, rfl, hw⟩ := keyOf_int_inv Tryz.underlying31 h
 simp [Lit.wf, IntKind.min, IntKind.max, IntKind.bits, IntKind.signed] at hw
 obtain ⟨n, rfl⟩ := Int.eq_ofNat_of_zero_le hw.1
 exact ⟨n, rfl, by omega, rfl⟩
theorem litK_inj {x y : Nat} (h : litK x = litK y) : x = y := by
 simp only [Lit.int.injEq, true_and] at h
 omega
theorem und129 : Tryz.prog.underlying 129 = some (.map 31 131) := Tryz.underlying129
structure Came (f : Lit → Option Value) (left : Lit → Bool) (ss : List Nat) : Prop where
 nodup : ss.Nodup
 lt : ∀ x ∈ ss, x < 65536
 mem : ∀ x, x < 65536 → (x ∈ ss ↔ (f (litK x)).isSome = true ∧ left (litK x) = false)
theorem came_start {w : World} {m n : Nat} {f : Lit → Option Value} {D : DataW Value} (h : MpD w 31 m n f D) : Came f (Maps.has D) [] := by
 refine ⟨List.nodup_nil, by simp, fun x _ => ?_⟩
 simp only [List.not_mem_nil, false_iff]
 rintro ⟨h1, h2⟩
 rw [h.has, h1] at h2
 cases h2
theorem Came.step {f : Lit → Option Value} {left : Lit → Bool} {ss : List Nat} (h : Came f left ss) {x : Nat} (hx : x < 65536) (hl : left (litK x) = true) (hm : (f (litK x)).isSome = true) : Came f (fun z => left z && !z.sameKey (litK x)) (ss ++ [x]) := by
 have hn : x ∉ ss := fun hh => by
  have := ((h.mem x hx).1 hh).2
  rw [hl] at this
  cases this
 refine ⟨?_, ?_, fun y hy => ?_⟩
 ·rw [List.nodup_append]
  exact ⟨h.nodup, by simp, fun a ha b hb e => by
   obtain rfl : b = x := by simpa using hb
   exact hn (e ▸ ha)⟩
 ·intro y hy
  rcases List.mem_append.1 hy with hy | hy
  ·exact h.lt y hy
  ·obtain rfl : y = x := by simpa using hy
   exact hx
 ·rw [List.mem_append, h.mem y hy]
  simp only [List.mem_singleton, Bool.and_eq_false_iff, Bool.not_eq_false']
  constructor
  ·rintro (⟨h1, h2⟩ | rfl)
   ·exact ⟨h1, .inl h2⟩
   ·exact ⟨hm, .inr (WideAt.sameKey_self (law31.key (key31 hy)))⟩
  ·rintro ⟨h1, h2 | h2⟩
   ·exact .inl ⟨h1, h2⟩
   ·exact .inr (litK_inj (WideAt.sameKey_eq h2))
def KeysOf (f : Lit → Option Value) (ss : List Nat) : Prop := ss.Nodup ∧ ∀ x, x ∈ ss ↔ x < 65536 ∧ (f (litK x)).isSome = true
theorem Came.all {f : Lit → Option Value} {left : Lit → Bool} {ss : List Nat} (h : Came f left ss) (hl : ∀ kl, left kl = false) : KeysOf f ss := by
 refine ⟨h.nodup, fun x => ⟨fun hx => ⟨h.lt x hx, ((h.mem x (h.lt x hx)).1 hx).1⟩, fun hx => (h.mem x hx.1).2 ⟨hx.2, hl _⟩⟩⟩
set_option maxRecDepth 100000 in
set_option maxHeartbeats 1000000 in
theorem keys_in {f : Lit → Option Value} {m n : Nat} {D : DataW Value} (F : Fence) (d : Nat) (h46 : F.fn 120) (hro : F.round = none) (hn : 1 ≤ d) (l Bm : Nat) (J Jx : List Nat → World → Prop)
  (hY : ∀ pre x W, J pre W → pre.length < n → YieldAt F (d - 1) Tryz.prog l #[encK x] W fun e W' => (e = .returned (.bool true) ∧ J (pre ++ [x]) W' ∧ KeepsWalks W W') ∨ (e = .returned (.bool false) ∧ Jx (pre ++ [x]) W'))
  (W : World) (hJ : AbidesFrom W.heap.size J) (hc : W.cell? ⟨Bm, 0, none⟩ = some (.map (some m))) (hm : MpD W 31 m n f D) (h0 : J [] W) :
  CallsIn F d Tryz.prog 120 #[.func (.yield l) #[] #[], .pointer (some ⟨Bm, 0, none⟩)] W fun e W' => (∃ v, e = .returned v) ∧ ((∃ ss, KeysOf f ss ∧ J ss W') ∨ (∃ pre, True ∧ Jx pre W')) := by
 have HM := Lib.hid hm
 have hown := hm.own
 clear hm
 refine callsIn_of_wp Tryz.func120 rfl h46 ?_ hro
 simp only [Tryz.ntmps120, List.size_toArray, List.length_cons, List.length_nil, Nat.reduceAdd, Nat.reduceSub, Array.replicate_succ, Array.replicate_zero, List.push_toArray, List.append_toArray, List.nil_append, List.cons_append]
 gi_wp2_with (first
  | (gi_at_range; refine wpListIn_range_own _ rfl _ 129 rfl 31 131 law31 und129 _ m n _ rfl hown ?_; intro w0 hrg0 hg0 hs0)
  | gi_in)
 go_frame
 gi_loopw [3] (fun _ wr => ∃ (left : Lit → Bool) (cnt : Nat) (ss : List Nat), wr.ranges Tryz.prog 31 anyE m W.heap.size n D left cnt ∧ ss.length + cnt ≤ n ∧ Came f left ss ∧ J ss wr)
  (fun _ wr => wr.rangeLeft m W.heap.size)
 case atStart =>
  exact ⟨_, _, [], hrg0, by rw [HM.out.size]; simp, came_start HM.out, hJ [] W w0 none h0 hg0 (fun r e => by cases e)⟩
 case round =>
  obtain ⟨left, cnt, ss, hrg, hcs, hC, hJs⟩ := hrel
  gi_wp2_with (first
   | (gi_at_next; refine wpListIn_next_ranges _ rfl _ rfl 31 law31 anyE encK id (fun key kl hk => by obtain ⟨x, hx, _⟩ := key31_inv hk; exact ⟨x, hx⟩) (fun v _ _ => ⟨v, rfl⟩) m W.heap.size n _ _ _ rfl hrg ?_ ?_)
   | gi_in)
  ·intro hc0 hl0
   gi_wp2
   go_end0
   exact ⟨⟨_, rfl⟩, .inl ⟨ss, hC.all hl0, hJs⟩⟩
  ·intro x c kl yd yp w2 cnt2 hkey hlk hv hat hrg2 hlt hg2 hs2 hen
   obtain ⟨x', ex, hx16, rfl⟩ := key31_inv hkey
   obtain rfl : x = x' := by
    simp only [Value.int.injEq, true_and] at ex
    omega
   have hsome : (f (litK x)).isSome = true := by rw [← HM.out.has]; exact has_true_of_atKey hat
   have hJ2 : J ss w2 := hJ ss wr w2 (some W.heap.size) hJs hg2 (fun r e => by cases e; exact ⟨Nat.le_refl _, hrg.iter_walk⟩)
   obtain ⟨fn, tmps, assign, body, hy, hR⟩ := hY ss x w2 hJ2 (by omega)
   clear hs2
   gi_wp2
   refine hR.mono ?_
   have hC2 := hC.step hx16 hlk hsome
   rintro e W3 (⟨rfl, hJ3, hk3⟩ | ⟨rfl, hJx3⟩)
   ·gi_wp2
    have hrg3 := hrg2.of_walks hk3
    go_roundw
    case rel => exact ⟨_, cnt2, ss ++ [x], hrg3, by simp; omega, hC2, hJ3⟩
    case measure => rw [hrg3.left_eq, hrg.left_eq]; exact hlt
   ·gi_wp2
    exact bodyPost_ret (results_none rfl _ _ _) rfl ⟨⟨_, rfl⟩, .inr ⟨ss ++ [x], trivial, hJx3⟩⟩
theorem keys_stops {f : Lit → Option Value} {m n Bm : Nat} (F : Fence) (d : Nat) (h46 : F.fn 120) (hro : F.round = none) (hn : 1 ≤ d) (w : World) (hBm : Bm < w.heap.size) (hc : w.cell? ⟨Bm, 0, none⟩ = some (.map (some m))) (hm : MpF w 31 m n f) :
  SeqStops F d Tryz.prog 120 #[.pointer (some ⟨Bm, 0, none⟩)] encK (KeysOf f) (fun _ => True) n w := fun l J Jx W hW hJ _ hY h0 => by
 obtain ⟨D, hD⟩ := hm.kept (S := fun k => w.heap.size ≤ k) ⟨hW.os, hW.tape, hW.output, hW.size, fun k hk _ => hW.block k hk⟩ (by have := hm.lt; omega)
 exact keys_in F d h46 hro hn l Bm J Jx hY W hJ ((hW.cell (p := ⟨Bm, 0, none⟩) hBm).trans hc) hD h0
end
section
open Go.RowKit Go.Maps Go.Shelf
theorem info31 : (Tryz.prog.info? 31).map (fun i => (i.zero, i.size, i.bytes)) = some (some (.int .u16 0), 1, 2) := by kernel_rfl
def Colls (f : Lit → Option Value) (w : World) (e : Ending) (W' : World) : Prop :=
 ∃ (v : Value) (ss : List Nat), e = .returned v ∧ KeysOf f ss ∧ W'.ownsRow w.heap.size 31 1 v ss.length (ss.map encK) ∧ (v = .slice none 0 0 ↔ ss = []) ∧ Below w.heap.size w W'
set_option maxRecDepth 100000 in
set_option maxHeartbeats 2000000 in
theorem appendseq_in (F : Fence) (d : Nat) (h60 : F.fn 141) (h46 : F.fn 120) (hro : F.round = none) (hd : 3 ≤ d) {f : Lit → Option Value} {m n Bm : Nat} (hn : n < 1000000) (w : World) (hBm : Bm < w.heap.size) (hc : w.cell? ⟨Bm, 0, none⟩ = some (.map (some m))) (hm : MpF w 31 m n f) :
  CallsIn F d Tryz.prog 141 #[.slice none 0 0, .func (.func 120) #[] #[.pointer (some ⟨Bm, 0, none⟩)]] w (Colls f w) := by
 have h1 : 1 ≤ d := by omega
 obtain ⟨i0, hi, hz0, hz1, hz2⟩ := info_parts info31
 refine callsIn_of_wp_marks Tryz.func141 rfl h60 ?_ hro
 simp only [Tryz.ntmps141, List.size_toArray, List.length_cons, List.length_nil, Nat.reduceAdd, Nat.reduceSub, Array.replicate_succ, Array.replicate_zero, List.push_toArray, List.append_toArray, List.nil_append, List.cons_append]
 gi_wp2
 have bO := Boxed.new w 59 (.slice none 0 0)
 have hB0 : Below w.heap.size w (w.alloc (.cells #[.slice none 0 0] 59)) := (Below.refl _ w).alloc (Nat.le_refl _) _
 refine wpIn_rangeFunc_ownF hro h1 (gf := 120) (lb := #[.pointer (some ⟨Bm, 0, none⟩)]) rfl h46 (enters_of Tryz.func120 (by kernel_rfl) rfl)
  (keys_stops F (d - 1) h46 hro (by omega) w hBm hc hm) walksK_t walksK_b hB0 (fun _ => rfl)
  (fun pre W => (∃ v, Boxed W w.heap.size 59 v ∧ W.ownsRow w.heap.size 31 1 v pre.length (pre.map encK) ∧ (v = .slice none 0 0 ↔ pre = [])) ∧ Below w.heap.size w W)
  (fun _ _ _ => False)
  (OwnFrom.and (Own.from (holdsRow_own w.heap.size w.heap.size 59 31 1 (fun pre : List Nat => pre.length) (fun pre => pre.map encK) (fun pre v => (v = .slice none 0 0 ↔ pre = []))) _) (ownFrom_below (Nat.le_refl _) (by simp)))
  (fun _ _ _ _ _ hs _ _ => hs)
  ⟨⟨_, bO, ⟨rfl, .inl ⟨rfl, rfl⟩⟩, by simp⟩, hB0⟩
  (fun x => { tmps := #[.slice none 0 0, .func (.func 120) #[] #[.pointer (some ⟨Bm, 0, none⟩)], .pointer (some ⟨w.heap.size, 0, none⟩), undef, .slice none 0 0, encK x, .func (.func 120) #[] #[.pointer (some ⟨Bm, 0, none⟩)], encK x, undef, undef, undef, undef, undef], defers := [] }) ?assign ?body ?done ?stop
 case assign =>
  intro l x W K hK
  have hsa := Oper.semAt_some l
  gi_wp2
  exact hK
 case body =>
  rintro l pre x W ⟨⟨v, hv, hrow, hnil⟩, hB⟩ hlen
  have hsa := Oper.semAt_some l
  have hc0 := hv.cell
  gi_wp2_with (first
   | (gi_at_builtin; refine wpListIn_append_own _ rfl _ _ 59 rfl w.heap.size 31 i0 (.int .u16 0) 1 2 Tryz.underlying59 hi hz0 hz1 hz2 rfl (by decide) _ _ _ rfl (hrow.alloc _) ⟨W.heap.size, 0, none⟩ 1 1 [encK x] rfl rfl (cell_one_new _ _ _) (by simp [Value.oneCell']) (by unfold maxLen; omega) (by omega) (by have := hB.size; simp; omega) ?_; intro v' w1 hown' hgrow _; obtain ⟨g', cap', rfl⟩ := ownsRow_succ hown'; obtain ⟨hv1, hv2, hr2, hk2, hb2⟩ := hv.appended (by decide) hrow hB.size (Nat.le_refl _) hown' hgrow; have hc1 := hv1.cell; have hf1 := hv1.frozen)
   | fail)
  exact ⟨hk2, hk2.walks, ⟨_, hv2, by simpa using hr2, by simp⟩, hB.trans hb2⟩
 case done =>
  rintro D ys W hD hK2 ⟨⟨v, hv, hrow, hnil⟩, hB⟩ hK
  have hc0 := hv.cell
  gi_wp2
  refine ⟨by simp, .inl ⟨_, _, rfl, run_takeDeferred hK, ?_⟩⟩
  exact ⟨_, results_tmp rfl _ _ _, v, ys, rfl, hK2, ownsRow_putObj hrow _ hK rfl, hnil, hB.trans (belowK_b (w := w) (Nat.le_refl _) W D _ _ (by simp at hD; omega) hK rfl rfl)⟩
 case stop =>
  rintro D c pre W _ _ h _
  exact h.elim
end
section
open Go.RowKit Go.Maps
set_option maxRecDepth 100000 in
theorem insert_none (a : Option Addr) (cap : Nat) (w : World) : Calls Tryz.prog 166 #[.slice a 0 cap, .int .i64 0, .int .i64 0] w fun e w' => e = .returned (.tuple #[]) ∧ w = w' := by
 go_enter Tryz.func166, Tryz.ntmps166
 go_wp2
 go_loopw [6] (fun v W => v = .int .i64 1 ∧ w = W) (fun _ _ => 0)
 case atStart => exact ⟨rfl, rfl⟩
 case round =>
  obtain ⟨rfl, rfl⟩ := hrel
  go_wp2
  go_end0
  exact ⟨rfl, rfl⟩
set_option maxRecDepth 100000 in
theorem pdq_none (a : Option Addr) (cap : Nat) (l : Int) (w : World) : Calls Tryz.prog 142 #[.slice a 0 cap, .int .i64 0, .int .i64 0, .int .i64 l] w fun e w' => e = .returned (.tuple #[]) ∧ w = w' := by
 go_enter Tryz.func142, Tryz.ntmps142
 go_wp2_with fail
 go_loopw [1, 2] (fun v u W => v = .int .i64 0 ∧ u = .int .i64 0 ∧ w = W) (fun _ _ _ => 0)
 case atStart => exact ⟨rfl, rfl, rfl⟩
 case round =>
  obtain ⟨rfl, rfl, rfl⟩ := hrel
  go_wp2_with fail
  refine (insert_none a cap w).mono ?_
  rintro e w' ⟨rfl, rfl⟩
  go_wp2_with fail
  exact bodyPost_ret (results_none rfl _ _ _) rfl ⟨rfl, rfl⟩
set_option maxRecDepth 100000 in
theorem sort_none (a : Option Addr) (cap : Nat) (w : World) : Calls Tryz.prog 113 #[.slice a 0 cap] w fun e w' => e = .returned (.tuple #[]) ∧ w = w' := by
 go_enter Tryz.func113, Tryz.ntmps113
 go_wp2_with fail
 refine (len_x 0 0 w (by omega) (Lib.hid rfl) (by omega) (by omega)).mono ?_
 rintro e w' ⟨rfl, rfl⟩
 go_wp2_with fail
 refine (pdq_none a cap _ w).mono ?_
 rintro e w' ⟨rfl, rfl⟩
 go_wp2_with fail
 go_end0
 exact ⟨rfl, rfl⟩
theorem keys_any (m : Option Nat) (w : World) : Calls Tryz.prog 73 #[.map m] w fun e w' => e = .returned (.func (.func 120) #[] #[.pointer (some ⟨w.heap.size, 0, none⟩)]) ∧ w' = w.alloc (.cells #[.map m] 129) := by
 go_enter Tryz.func73, Tryz.ntmps73
 go_wp2
 go_ret
 exact ⟨rfl, rfl⟩
section
variable {f : Lit → Option Value} {m n Bm : Nat} {w : World}
theorem appendseq_any (hn : n < 1000000) (hBm : Bm < w.heap.size) (hc : w.cell? ⟨Bm, 0, none⟩ = some (.map (some m))) (hm : MpF w 31 m n f) :
  Calls Tryz.prog 141 #[.slice none 0 0, .func (.func 120) #[] #[.pointer (some ⟨Bm, 0, none⟩)]] w (Colls f w) :=
 callsIn_wide.1 (appendseq_in Fence.wide 3 trivial trivial rfl (by omega) hn w hBm hc hm)
theorem collect_any (hn : n < 1000000) (hBm : Bm < w.heap.size) (hc : w.cell? ⟨Bm, 0, none⟩ = some (.map (some m))) (hm : MpF w 31 m n f) :
  Calls Tryz.prog 112 #[.func (.func 120) #[] #[.pointer (some ⟨Bm, 0, none⟩)]] w (Colls f w) := by
 have HC := Lib.hid (appendseq_any hn hBm hc hm)
 clear hn hBm hc hm
 go_enter Tryz.func112, Tryz.ntmps112
 go_wp2_with fail
 refine HC.out.mono ?_
 rintro e w' ⟨v, ss, rfl, h1, h2, h3, h4⟩
 have HH : Hid (Colls f w (.returned v) w') := Lib.hid ⟨v, ss, rfl, h1, h2, h3, h4⟩
 clear h1 h2 h3 h4
 go_wp2_with fail
 go_ret
 exact HH.out
end
def SKeys (f : Lit → Option Value) (w : World) (e : Ending) (W' : World) : Prop :=
 ∃ (a : Option Addr) (cap : Nat) (l : List Nat), e = .returned (.slice a l.length cap) ∧ l.Pairwise (· < ·) ∧ (∀ x, x ∈ l ↔ x < 65536 ∧ (f (litK x)).isSome = true) ∧ OwnU W' w.heap.size a l.length cap l ∧ Below w.heap.size w W'
theorem keys_le {f : Lit → Option Value} {ss : List Nat} {w : World} {m n : Nat} (hm : MpF w 31 m n f) (hk : KeysOf f ss) : ss.length ≤ n := by
 obtain ⟨D, hD⟩ := hm
 obtain ⟨es', e1, hp, hl⟩ := hD.own.entries law31
 have hs := hD.size
 subst e1
 have h1 : (ss.map litK).Nodup := by
  rw [List.nodup_iff_pairwise_ne, List.pairwise_map]
  have := List.nodup_iff_pairwise_ne.1 hk.1
  exact this.imp fun hne e => hne (litK_inj e)
 have h2 : ∀ kl ∈ ss.map litK, kl ∈ es'.map (·.1) := by
  intro kl hkl
  obtain ⟨x, hx, rfl⟩ := List.mem_map.1 hkl
  have hh := hD.has (litK x)
  rw [((hk.2 x).1 hx).2, Maps.has_eq] at hh
  obtain ⟨q, hq, e⟩ := List.any_eq_true.1 hh
  exact List.mem_map.2 ⟨q, hq, WideAt.sameKey_eq e⟩
 have h3 := h1.length_le_of_subset h2
 have h4 : es'.length = n := hs
 simp only [List.length_map] at h3
 omega
set_option maxRecDepth 100000 in
theorem sorted_any {f : Lit → Option Value} {m n Bm : Nat} {w : World} (hn : n < 100) (hBm : Bm < w.heap.size) (hc : w.cell? ⟨Bm, 0, none⟩ = some (.map (some m))) (hm : MpF w 31 m n f) :
  Calls Tryz.prog 63 #[.func (.func 120) #[] #[.pointer (some ⟨Bm, 0, none⟩)]] w (SKeys f w) := by
 have HC := Lib.hid (collect_any (by omega) hBm hc hm)
 have HM := Lib.hid hm
 clear hBm hc hm
 go_enter Tryz.func63, Tryz.ntmps63
 go_wp2_with fail
 refine HC.out.mono ?_
 rintro e w1 ⟨v, ss, rfl, h1, h2, h3, h4⟩
 have hlen := keys_le HM.out h1
 cases ss with
 | nil =>
  obtain rfl := h3.2 rfl
  have HH : Hid (SKeys f w (.returned (.slice none 0 0)) w1) := Lib.hid ⟨none, 0, [], rfl, List.Pairwise.nil, h1.2, ownU_nil _ _, h4⟩
  clear h1 h2 h3 h4
  go_wp2_with fail
  refine (sort_none none 0 w1).mono ?_
  rintro e w2 ⟨rfl, rfl⟩
  go_wp2_with fail
  go_ret
  exact HH.out
 | cons y ys =>
  obtain ⟨g, cap, rfl⟩ : ∃ g cap, v = .slice (some ⟨g, 0, none⟩) (y :: ys).length cap := by
   rcases h2.2 with ⟨_, h0⟩ | ⟨g, cap, cur, hv, _⟩
   ·simp at h0
   ·exact ⟨g, cap, hv⟩
  have ho : OwnU w1 w.heap.size (some ⟨g, 0, none⟩) (y :: ys).length cap (y :: ys) := h2
  have HS := Lib.hid (sortU_any ho (by omega))
  have HF : Hid (KeysOf f (y :: ys) ∧ Below w.heap.size w w1 ∧ w.heap.size ≤ g) := Lib.hid ⟨h1, h4, (ho.lt _ rfl).1⟩
  clear h1 h2 h3 h4 ho hlen
  generalize hN : (y :: ys).length = N at HS
  have HN := Lib.hid hN
  clear hN
  go_wp2_with fail
  refine HS.out.mono ?_
  rintro e w2 ⟨rfl, l, hp, hso, ho, hk⟩
  have HH : Hid (SKeys f w (.returned (.slice (some ⟨g, 0, none⟩) N cap)) w2) := by
   obtain ⟨hk1, hb, hg⟩ := HF.out
   have hl : l.length = N := ho.len
   subst hl
   refine Lib.hid ⟨_, cap, l, rfl, ?_, fun x => by rw [hp.mem_iff]; exact hk1.2 x, ho, hb.trans (hk.below hb.size (fun k hk => by rw [hk]; exact hg))⟩
   have hnd : l.Nodup := hp.nodup_iff.2 hk1.1
   exact (hso.and (List.nodup_iff_pairwise_ne.1 hnd)).imp fun ⟨h1, h2⟩ => by omega
  clear hp hso ho hk
  go_wp2_with fail
  go_ret
  exact HH.out
end
end Go.Proofs.YtnekpgmgnepdoaaGreat.F
end
section
namespace Go.Proofs.YtnekpgmgnepdoaaGreat
open Go.RowKit
theorem foldl_set (off : Nat) : ∀ (cs : List Value) (k : Nat) (zs : Array Value), off + k + cs.length ≤ zs.size → ∀ i, ((cs.zipIdx k).foldl (fun a (x : Value × Nat) => a.setIfInBounds (off + x.2) x.1) zs)[i]? = if off + k ≤ i ∧ i < off + k + cs.length then cs[i - (off + k)]? else zs[i]?
 | [], k, zs, _, i => by
  rw [if_neg (by simp)]; rfl
 | c :: cs, k, zs, h, i => by
  simp only [List.length_cons] at h
  rw [List.zipIdx_cons, List.foldl_cons, foldl_set off cs (k + 1) _ (by simp; omega)]
  simp only [List.length_cons, Array.getElem?_setIfInBounds]
  by_cases h1 : off + (k + 1) ≤ i ∧ i < off + (k + 1) + cs.length
  ·rw [if_pos h1, if_pos (by omega), show i - (off + k) = (i - (off + (k + 1))) + 1 by omega, List.getElem?_cons_succ]
  ·rw [if_neg h1]
   by_cases h2 : off + k = i
   ·rw [if_pos h2, if_pos (by omega), if_pos (by omega), show i - (off + k) = 0 by omega]; rfl
   ·rw [if_neg h2, if_neg (by omega)]
theorem fill_parts {n : Nat} : ∀ (vs : List (List Value)) (k : Nat) (zs : Array Value), (∀ v ∈ vs, v.length = n) → zs.size = k * n + vs.length * n → ∀ r, Instr.fill (fun i => some (i * n, n)) zs ((vs.zipIdx k).map fun x => (x.2, Value.agg x.1.toArray)) = some r → r.size = zs.size ∧ (∀ i, i < k * n → r[i]? = zs[i]?) ∧ ∀ i, k * n ≤ i → r[i]? = vs.flatten[i - k * n]?
 | [], k, zs, _, hz, r, h => by
  simp only [List.zipIdx_nil, List.map_nil, Instr.fill, Option.some.injEq] at h
  subst h
  exact ⟨rfl, fun _ _ => rfl, fun i hi => by rw [Array.getElem?_eq_none (by simp at hz; omega)]; simp⟩
 | v :: vs, k, zs, hv, hz, r, h => by
  have hvn := hv v List.mem_cons_self
  rw [List.length_cons, Nat.add_mul] at hz
  rw [List.zipIdx_cons, List.map_cons, Instr.fill] at h
  simp only [Value.cells, List.size_toArray] at h
  rw [if_neg (by simp [hvn]; omega)] at h
  obtain ⟨z2, hz2⟩ : ∃ z2, v.toArray.zipIdx.foldl (fun cs (x : Value × Nat) => cs.setIfInBounds (k * n + x.2) x.1) zs = z2 := ⟨_, rfl⟩
  have hg : ∀ i, z2[i]? = if k * n ≤ i ∧ i < k * n + n then v[i - k * n]? else zs[i]? := fun i => by
   have := foldl_set (k * n) v 0 zs (by omega) i
   rw [← hz2, ← Array.foldl_toList, Array.toList_zipIdx]
   simpa [hvn] using this
  have h' : Instr.fill (fun i => some (i * n, n)) z2 ((vs.zipIdx (k + 1)).map fun x => (x.2, Value.agg x.1.toArray)) = some r := by rw [← hz2]; exact h
  have hs : z2.size = zs.size := by
   rw [← hz2]
   exact Array.foldl_induction (motive := fun _ (b : Array Value) => b.size = zs.size) rfl (fun i b hb => by simpa using hb)
  have ih := fill_parts vs (k + 1) z2 (fun x hx => hv x (List.mem_cons_of_mem _ hx)) (by rw [hs, hz, Nat.add_mul]; omega) r h'
  refine ⟨ih.1.trans hs, fun i hi => ?_, fun i hi => ?_⟩
  ·rw [ih.2.1 i (by rw [Nat.add_mul]; omega), hg, if_neg (by omega)]
  ·by_cases h1 : i < (k + 1) * n
   ·rw [Nat.add_mul, Nat.one_mul] at h1
    rw [ih.2.1 i (by rw [Nat.add_mul]; omega), hg, if_pos (by omega), List.flatten_cons, List.getElem?_append_left (by omega)]
   ·rw [Nat.add_mul, Nat.one_mul] at h1
    rw [ih.2.2 i (by rw [Nat.add_mul]; omega), List.flatten_cons, List.getElem?_append_right (by omega), hvn, Nat.add_mul, Nat.one_mul, Nat.sub_sub]
theorem fill_some {n : Nat} : ∀ (vs : List (List Value)) (k : Nat) (zs : Array Value), (∀ v ∈ vs, v.length = n) → zs.size = k * n + vs.length * n → ∃ r, Instr.fill (fun i => some (i * n, n)) zs ((vs.zipIdx k).map fun x => (x.2, Value.agg x.1.toArray)) = some r
 | [], k, zs, _, _ => ⟨zs, rfl⟩
 | v :: vs, k, zs, hv, hz => by
  have hvn := hv v List.mem_cons_self
  rw [List.length_cons, Nat.add_mul] at hz
  rw [List.zipIdx_cons, List.map_cons, Instr.fill]
  simp only [Value.cells, List.size_toArray]
  rw [if_neg (by simp [hvn]; omega)]
  refine fill_some vs (k + 1) _ (fun x hx => hv x (List.mem_cons_of_mem _ hx)) ?_
  rw [Nat.add_mul]
  have : (v.toArray.zipIdx.foldl (fun cs (x : Value × Nat) => cs.setIfInBounds (k * n + x.2) x.1) zs).size = zs.size :=
   Array.foldl_induction (motive := fun _ (b : Array Value) => b.size = zs.size) rfl (fun i b hb => by simpa using hb)
  exact this.trans (by omega)
theorem bsO (l : List O) (hl : l ≠ []) (hs : l.length ≤ 10) (w : World) : (Instr.buildSlice 63 l.length (((cellsO l).zipIdx).map fun x => (x.2, Value.agg x.1.toArray)).toArray).run Tryz.prog w = .ok (.slice (some ⟨w.heap.size, 0, none⟩) l.length l.length) (w.alloc (.cells (cellsO l).flatten.toArray 33)) := by
 obtain ⟨i0, hi, hz0, hz1, hz2⟩ := info_parts info33b
 have hpos : 0 < l.length := List.length_pos_iff.2 hl
 refine run_buildSlice w 63 33 l.length _ _ i0 _ und63 hi hz0 (by rw [hz1]; omega) (by rw [hz1]; omega) ?_
 rw [hz1]
 have hv : ∀ v ∈ cellsO l, v.length = 23 := fun v hv => by
  obtain ⟨o, _, rfl⟩ := List.mem_map.1 hv
  exact o.cs_len
 have hz : ((Array.range (l.length * 23)).map ((Value.agg O.zero.arr).cells[· % (Value.agg O.zero.arr).cells.size]!)).size = 0 * 23 + (cellsO l).length * 23 := by simp [cellsO]
 obtain ⟨r, hr⟩ := fill_some (cellsO l) 0 _ hv hz
 have hh := fill_parts (cellsO l) 0 _ hv hz r hr
 have e : r = (cellsO l).flatten.toArray := by
  apply Array.ext_getElem?
  intro i
  have h2 := hh.2.2 i (by omega)
  rw [h2, Nat.zero_mul, Nat.sub_zero, List.getElem?_toArray]
 subst e
 exact hr
section
variable {ev : Operand → Value} {q : Oper} {w : World}
theorem exec_bsO {x : Operand} {p : O} (ho : q.op = .buildSlice 63 1 #[(0, x)]) (hx : ev x = .agg p.arr) : (execOp ev q).run Tryz.prog w = .ok (.value (.slice (some ⟨w.heap.size, 0, none⟩) 1 1)) (w.alloc (.cells p.arr 33)) := by
 have hm : (#[((0 : Nat), x)]).map (fun (i, x) => (i, ev x)) = (((cellsO [p]).zipIdx).map fun x => (x.2, Value.agg x.1.toArray)).toArray := by simp [hx, cellsO]
 have hb := bsO [p] (by simp) (by simp) w
 have hf : (cellsO [p]).flatten.toArray = p.arr := by simp [cellsO]
 rw [hf] at hb
 unfold execOp
 simp only [ho, hm, Sem.run_bind]
 rw [show (1 : Nat) = [p].length from rfl, hb]
 rfl
end
end Go.Proofs.YtnekpgmgnepdoaaGreat
end
