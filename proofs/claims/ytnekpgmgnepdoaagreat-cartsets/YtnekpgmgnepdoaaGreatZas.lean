import Derived.RangeFuncNested
import Derived.RangeFuncBound
import Derived.RangeFuncCalls
import Derived.RangeFuncLeaves
import Derived.RangeFuncFrom
import Derived.RangeFuncBox
import Derived.Shelf.Abstract
import Derived.Shelf.RegionOpen
import Derived.OwnWalkIn
import Derived.TacticsInMore
import Derived.LoopNIn
import Derived.LoopIn
import Derived.Maps.OwnIn
import Derived.Maps.AppendAt
import Derived.Test.YtnekpgmgnepdoaaGreatZai
import Derived.Test.YtnekpgmgnepdoaaGreatZar
section
namespace Go.Proofs.YtnekpgmgnepdoaaGreat
section
open Go.RowKit Go.Maps Go.Shelf
abbrev encK (x : Nat) : Value := .int .u16 (x : Int)
abbrev litK (x : Nat) : Lit := .int .u16 (x : Int)
theorem law31 : Keyed Tryz.prog 31 := int_keyed Tryz.underlying31
theorem wf16 {x : Nat} (h : x < 65536) : (Lit.int .u16 (x : Int)).wf = true := by
 simp [Lit.wf, IntKind.min, IntKind.max, IntKind.bits, IntKind.signed]; omega
theorem key31 {x : Nat} (h : x < 65536) : keyOf Tryz.prog 31 (encK x) = some (litK x) := keyOf_int_mk Tryz.underlying31 (wf16 h)
theorem key31_inv {v : Value} {kl : Lit} (h : keyOf Tryz.prog 31 v = some kl) : ∃ x : Nat, v = encK x ∧ x < 65536 ∧ kl = litK x := by
 obtain ⟨z, rfl, rfl, hw⟩ := keyOf_int_inv Tryz.underlying31 h
 simp [Lit.wf, IntKind.min, IntKind.max, IntKind.bits, IntKind.signed] at hw
 obtain ⟨n, rfl⟩ := Int.eq_ofNat_of_zero_le hw.1
 exact ⟨n, rfl, by omega, rfl⟩
theorem litK_inj {x y : Nat} (h : litK x = litK y) : x = y := by
 simp only [Lit.int.injEq, true_and] at h
 omega
theorem und114 : Tryz.prog.underlying 114 = some (.map 31 116) := Tryz.underlying114
structure Came (f : Lit → Option Value) (left : Lit → Bool) (ss : List Nat) : Prop where
 nodup : ss.Nodup
 lt : ∀ x ∈ ss, x < 65536
 mem : ∀ x, x < 65536 → (x ∈ ss ↔ (f (litK x)).isSome = true ∧ left (litK x) = false)
theorem came_start {w : World} {m n : Nat} {f : Lit → Option Value} {D : DataW Value} (h : MpD w 31 m n f D) : Came f (Maps.has D) [] := by
 refine ⟨List.nodup_nil, by simp, fun x _ => ?_⟩
 simp only [List.not_mem_nil, false_iff]
 rintro ⟨h1, h2⟩
 rw [h.has, h1] at h2
 cases h2
theorem Came.step {f : Lit → Option Value} {left : Lit → Bool} {ss : List Nat} (h : Came f left ss) {x : Nat} (hx : x < 65536) (hl : left (litK x) = true) (hm : (f (litK x)).isSome = true) : Came f (fun z => left z && !z.sameKey (litK x)) (ss ++ [x]) := by
 have hn : x ∉ ss := fun hh => by
  have := ((h.mem x hx).1 hh).2
  rw [hl] at this
  cases this
 refine ⟨?_, ?_, fun y hy => ?_⟩
 ·rw [List.nodup_append]
  exact ⟨h.nodup, by simp, fun a ha b hb e => by
   obtain rfl : b = x := by simpa using hb
   exact hn (e ▸ ha)⟩
 ·intro y hy
  rcases List.mem_append.1 hy with hy | hy
  ·exact h.lt y hy
  ·obtain rfl : y = x := by simpa using hy
   exact hx
 ·rw [List.mem_append, h.mem y hy]
  simp only [List.mem_singleton, Bool.and_eq_false_iff, Bool.not_eq_false']
  constructor
  ·rintro (⟨h1, h2⟩ | rfl)
   ·exact ⟨h1, .inl h2⟩
   ·exact ⟨hm, .inr (WideAt.sameKey_self (law31.key (key31 hy)))⟩
  ·rintro ⟨h1, h2 | h2⟩
   ·exact .inl ⟨h1, h2⟩
   ·exact .inr (litK_inj (WideAt.sameKey_eq h2))
def KeysOf (f : Lit → Option Value) (ss : List Nat) : Prop := ss.Nodup ∧ ∀ x, x ∈ ss ↔ x < 65536 ∧ (f (litK x)).isSome = true
theorem Came.all {f : Lit → Option Value} {left : Lit → Bool} {ss : List Nat} (h : Came f left ss) (hl : ∀ kl, left kl = false) : KeysOf f ss := by
 refine ⟨h.nodup, fun x => ⟨fun hx => ⟨h.lt x hx, ((h.mem x (h.lt x hx)).1 hx).1⟩, fun hx => (h.mem x hx.1).2 ⟨hx.2, hl _⟩⟩⟩
set_option maxRecDepth 100000 in
set_option maxHeartbeats 1000000 in
theorem keys_in {f : Lit → Option Value} {m n : Nat} {D : DataW Value} (F : Fence) (d : Nat) (h46 : F.fn 114) (hro : F.round = none) (hn : 1 ≤ d) (l Bm : Nat) (J Jx : List Nat → World → Prop)
  (hY : ∀ pre x W, J pre W → pre.length < n → YieldAt F (d - 1) Tryz.prog l #[encK x] W fun e W' => (e = .returned (.bool true) ∧ J (pre ++ [x]) W' ∧ KeepsWalks W W') ∨ (e = .returned (.bool false) ∧ Jx (pre ++ [x]) W'))
  (W : World) (hJ : AbidesFrom W.heap.size J) (hc : W.cell? ⟨Bm, 0, none⟩ = some (.map (some m))) (hm : MpD W 31 m n f D) (h0 : J [] W) :
  CallsIn F d Tryz.prog 114 #[.func (.yield l) #[] #[], .pointer (some ⟨Bm, 0, none⟩)] W fun e W' => (∃ v, e = .returned v) ∧ ((∃ ss, KeysOf f ss ∧ J ss W') ∨ (∃ pre, True ∧ Jx pre W')) := by
 have HM := Lib.hid hm
 have hown := hm.own
 clear hm
 refine callsIn_of_wp Tryz.func114 rfl h46 ?_ hro
 simp only [Tryz.ntmps114, List.size_toArray, List.length_cons, List.length_nil, Nat.reduceAdd, Nat.reduceSub, Array.replicate_succ, Array.replicate_zero, List.push_toArray, List.append_toArray, List.nil_append, List.cons_append]
 gi_wp2_with (first
  | (gi_at_range; refine wpListIn_range_own _ rfl _ 114 rfl 31 116 law31 und114 _ m n _ rfl hown ?_; intro w0 hrg0 hg0 hs0)
  | gi_in)
 go_frame
 gi_loopw [3] (fun _ wr => ∃ (left : Lit → Bool) (cnt : Nat) (ss : List Nat), wr.ranges Tryz.prog 31 anyE m W.heap.size n D left cnt ∧ ss.length + cnt ≤ n ∧ Came f left ss ∧ J ss wr)
  (fun _ wr => wr.rangeLeft m W.heap.size)
 case atStart =>
  exact ⟨_, _, [], hrg0, by rw [HM.out.size]; simp, came_start HM.out, hJ [] W w0 none h0 hg0 (fun r e => by cases e)⟩
 case round =>
  obtain ⟨left, cnt, ss, hrg, hcs, hC, hJs⟩ := hrel
  gi_wp2_with (first
   | (gi_at_next; refine wpListIn_next_ranges _ rfl _ rfl 31 law31 anyE encK id (fun key kl hk => by obtain ⟨x, hx, _⟩ := key31_inv hk; exact ⟨x, hx⟩) (fun v _ _ => ⟨v, rfl⟩) m W.heap.size n _ _ _ rfl hrg ?_ ?_)
   | gi_in)
  ·intro hc0 hl0
   gi_wp2
   go_end0
   exact ⟨⟨_, rfl⟩, .inl ⟨ss, hC.all hl0, hJs⟩⟩
  ·intro x c kl yd yp w2 cnt2 hkey hlk hv hat hrg2 hlt hg2 hs2 hen
   obtain ⟨x', ex, hx16, rfl⟩ := key31_inv hkey
   obtain rfl : x = x' := by
    simp only [Value.int.injEq, true_and] at ex
    omega
   have hsome : (f (litK x)).isSome = true := by rw [← HM.out.has]; exact has_true_of_atKey hat
   have hJ2 : J ss w2 := hJ ss wr w2 (some W.heap.size) hJs hg2 (fun r e => by cases e; exact ⟨Nat.le_refl _, hrg.iter_walk⟩)
   obtain ⟨fn, tmps, assign, body, hy, hR⟩ := hY ss x w2 hJ2 (by omega)
   clear hs2
   gi_wp2
   refine hR.mono ?_
   have hC2 := hC.step hx16 hlk hsome
   rintro e W3 (⟨rfl, hJ3, hk3⟩ | ⟨rfl, hJx3⟩)
   ·gi_wp2
    have hrg3 := hrg2.of_walks hk3
    go_roundw
    case rel => exact ⟨_, cnt2, ss ++ [x], hrg3, by simp; omega, hC2, hJ3⟩
    case measure => rw [hrg3.left_eq, hrg.left_eq]; exact hlt
   ·gi_wp2
    exact bodyPost_ret (results_none rfl _ _ _) rfl ⟨⟨_, rfl⟩, .inr ⟨ss ++ [x], trivial, hJx3⟩⟩
theorem keys_stops {f : Lit → Option Value} {m n Bm : Nat} (F : Fence) (d : Nat) (h46 : F.fn 114) (hro : F.round = none) (hn : 1 ≤ d) (w : World) (hBm : Bm < w.heap.size) (hc : w.cell? ⟨Bm, 0, none⟩ = some (.map (some m))) (hm : MpF w 31 m n f) :
  SeqStops F d Tryz.prog 114 #[.pointer (some ⟨Bm, 0, none⟩)] encK (KeysOf f) (fun _ => True) n w := fun l J Jx W hW hJ _ hY h0 => by
 obtain ⟨D, hD⟩ := hm.kept (S := fun k => w.heap.size ≤ k) ⟨hW.os, hW.tape, hW.output, hW.size, fun k hk _ => hW.block k hk⟩ (by have := hm.lt; omega)
 exact keys_in F d h46 hro hn l Bm J Jx hY W hJ ((hW.cell (p := ⟨Bm, 0, none⟩) hBm).trans hc) hD h0
end
section
open Go.RowKit Go.Maps Go.Shelf
theorem info31 : (Tryz.prog.info? 31).map (fun i => (i.zero, i.size, i.bytes)) = some (some (.int .u16 0), 1, 2) := by kernel_rfl
def Colls (f : Lit → Option Value) (w : World) (e : Ending) (W' : World) : Prop :=
 ∃ (v : Value) (ss : List Nat), e = .returned v ∧ KeysOf f ss ∧ W'.ownsRow w.heap.size 31 1 v ss.length (ss.map encK) ∧ (v = .slice none 0 0 ↔ ss = []) ∧ Below w.heap.size w W'
set_option maxRecDepth 100000 in
set_option maxHeartbeats 2000000 in
theorem appendseq_in (F : Fence) (d : Nat) (h60 : F.fn 141) (h46 : F.fn 114) (hro : F.round = none) (hd : 3 ≤ d) {f : Lit → Option Value} {m n Bm : Nat} (hn : n < 1000000) (w : World) (hBm : Bm < w.heap.size) (hc : w.cell? ⟨Bm, 0, none⟩ = some (.map (some m))) (hm : MpF w 31 m n f) :
  CallsIn F d Tryz.prog 141 #[.slice none 0 0, .func (.func 114) #[] #[.pointer (some ⟨Bm, 0, none⟩)]] w (Colls f w) := by
 have h1 : 1 ≤ d := by omega
 obtain ⟨i0, hi, hz0, hz1, hz2⟩ := info_parts info31
 refine callsIn_of_wp_marks Tryz.func141 rfl h60 ?_ hro
 simp only [Tryz.ntmps141, List.size_toArray, List.length_cons, List.length_nil, Nat.reduceAdd, Nat.reduceSub, Array.replicate_succ, Array.replicate_zero, List.push_toArray, List.append_toArray, List.nil_append, List.cons_append]
 gi_wp2
 have bO := Boxed.new w 59 (.slice none 0 0)
 have hB0 : Below w.heap.size w (w.alloc (.cells #[.slice none 0 0] 59)) := (Below.refl _ w).alloc (Nat.le_refl _) _
 refine wpIn_rangeFunc_ownF hro h1 (gf := 114) (lb := #[.pointer (some ⟨Bm, 0, none⟩)]) rfl h46 (enters_of Tryz.func114 (by kernel_rfl) rfl)
  (keys_stops F (d - 1) h46 hro (by omega) w hBm hc hm) walksK_t walksK_b hB0 (fun _ => rfl)
  (fun pre W => (∃ v, Boxed W w.heap.size 59 v ∧ W.ownsRow w.heap.size 31 1 v pre.length (pre.map encK) ∧ (v = .slice none 0 0 ↔ pre = [])) ∧ Below w.heap.size w W)
  (fun _ _ _ => False)
  (OwnFrom.and (Own.from (holdsRow_own w.heap.size w.heap.size 59 31 1 (fun pre : List Nat => pre.length) (fun pre => pre.map encK) (fun pre v => (v = .slice none 0 0 ↔ pre = []))) _) (ownFrom_below (Nat.le_refl _) (by simp)))
  (fun _ _ _ _ _ hs _ _ => hs)
  ⟨⟨_, bO, ⟨rfl, .inl ⟨rfl, rfl⟩⟩, by simp⟩, hB0⟩
  (fun x => { tmps := #[.slice none 0 0, .func (.func 114) #[] #[.pointer (some ⟨Bm, 0, none⟩)], .pointer (some ⟨w.heap.size, 0, none⟩), undef, .slice none 0 0, encK x, .func (.func 114) #[] #[.pointer (some ⟨Bm, 0, none⟩)], encK x, undef, undef, undef, undef, undef], defers := [] }) ?assign ?body ?done ?stop
 case assign =>
  intro l x W K hK
  have hsa := Oper.semAt_some l
  gi_wp2
  exact hK
 case body =>
  rintro l pre x W ⟨⟨v, hv, hrow, hnil⟩, hB⟩ hlen
  have hsa := Oper.semAt_some l
  have hc0 := hv.cell
  gi_wp2_with (first
   | (gi_at_builtin; refine wpListIn_append_own _ rfl _ _ 59 rfl w.heap.size 31 i0 (.int .u16 0) 1 2 Tryz.underlying59 hi hz0 hz1 hz2 rfl (by decide) _ _ _ rfl (hrow.alloc _) ⟨W.heap.size, 0, none⟩ 1 1 [encK x] rfl rfl (cell_one_new _ _ _) (by simp [Value.oneCell']) (by unfold maxLen; omega) (by omega) (by have := hB.size; simp; omega) ?_; intro v' w1 hown' hgrow _; obtain ⟨g', cap', rfl⟩ := ownsRow_succ hown'; obtain ⟨hv1, hv2, hr2, hk2, hb2⟩ := hv.appended (by decide) hrow hB.size (Nat.le_refl _) hown' hgrow; have hc1 := hv1.cell; have hf1 := hv1.frozen)
   | fail)
  exact ⟨hk2, hk2.walks, ⟨_, hv2, by simpa using hr2, by simp⟩, hB.trans hb2⟩
 case done =>
  rintro D ys W hD hK2 ⟨⟨v, hv, hrow, hnil⟩, hB⟩ hK
  have hc0 := hv.cell
  gi_wp2
  refine ⟨by simp, .inl ⟨_, _, rfl, run_takeDeferred hK, ?_⟩⟩
  exact ⟨_, results_tmp rfl _ _ _, v, ys, rfl, hK2, ownsRow_putObj hrow _ hK rfl, hnil, hB.trans (belowK_b (w := w) (Nat.le_refl _) W D _ _ (by simp at hD; omega) hK rfl rfl)⟩
 case stop =>
  rintro D c pre W _ _ h _
  exact h.elim
end
section
open Go.RowKit Go.Maps
set_option maxRecDepth 100000 in
theorem insert_none (a : Option Addr) (cap : Nat) (w : World) : Calls Tryz.prog 166 #[.slice a 0 cap, .int .i64 0, .int .i64 0] w fun e w' => e = .returned (.tuple #[]) ∧ w = w' := by
 go_enter Tryz.func166, Tryz.ntmps166
 go_wp2
 go_loopw [6] (fun v W => v = .int .i64 1 ∧ w = W) (fun _ _ => 0)
 case atStart => exact ⟨rfl, rfl⟩
 case round =>
  obtain ⟨rfl, rfl⟩ := hrel
  go_wp2
  go_end0
  exact ⟨rfl, rfl⟩
set_option maxRecDepth 100000 in
theorem pdq_none (a : Option Addr) (cap : Nat) (l : Int) (w : World) : Calls Tryz.prog 142 #[.slice a 0 cap, .int .i64 0, .int .i64 0, .int .i64 l] w fun e w' => e = .returned (.tuple #[]) ∧ w = w' := by
 go_enter Tryz.func142, Tryz.ntmps142
 go_wp2_with fail
 go_loopw [1, 2] (fun v u W => v = .int .i64 0 ∧ u = .int .i64 0 ∧ w = W) (fun _ _ _ => 0)
 case atStart => exact ⟨rfl, rfl, rfl⟩
 case round =>
  obtain ⟨rfl, rfl, rfl⟩ := hrel
  go_wp2_with fail
  refine (insert_none a cap w).mono ?_
  rintro e w' ⟨rfl, rfl⟩
  go_wp2_with fail
  exact bodyPost_ret (results_none rfl _ _ _) rfl ⟨rfl, rfl⟩
set_option maxRecDepth 100000 in
theorem sort_none (a : Option Addr) (cap : Nat) (w : World) : Calls Tryz.prog 113 #[.slice a 0 cap] w fun e w' => e = .returned (.tuple #[]) ∧ w = w' := by
 go_enter Tryz.func113, Tryz.ntmps113
 go_wp2_with fail
 refine (len_x 0 0 w (by omega) (Lib.hid rfl) (by omega) (by omega)).mono ?_
 rintro e w' ⟨rfl, rfl⟩
 go_wp2_with fail
 refine (pdq_none a cap _ w).mono ?_
 rintro e w' ⟨rfl, rfl⟩
 go_wp2_with fail
 go_end0
 exact ⟨rfl, rfl⟩
theorem keys_any (m : Option Nat) (w : World) : Calls Tryz.prog 64 #[.map m] w fun e w' => e = .returned (.func (.func 114) #[] #[.pointer (some ⟨w.heap.size, 0, none⟩)]) ∧ w' = w.alloc (.cells #[.map m] 114) := by
 go_enter Tryz.func64, Tryz.ntmps64
 go_wp2
 go_ret
 exact ⟨rfl, rfl⟩
section
variable {f : Lit → Option Value} {m n Bm : Nat} {w : World}
theorem appendseq_any (hn : n < 1000000) (hBm : Bm < w.heap.size) (hc : w.cell? ⟨Bm, 0, none⟩ = some (.map (some m))) (hm : MpF w 31 m n f) :
  Calls Tryz.prog 141 #[.slice none 0 0, .func (.func 114) #[] #[.pointer (some ⟨Bm, 0, none⟩)]] w (Colls f w) :=
 callsIn_wide.1 (appendseq_in Fence.wide 3 trivial trivial rfl (by omega) hn w hBm hc hm)
theorem collect_any (hn : n < 1000000) (hBm : Bm < w.heap.size) (hc : w.cell? ⟨Bm, 0, none⟩ = some (.map (some m))) (hm : MpF w 31 m n f) :
  Calls Tryz.prog 112 #[.func (.func 114) #[] #[.pointer (some ⟨Bm, 0, none⟩)]] w (Colls f w) := by
 have HC := Lib.hid (appendseq_any hn hBm hc hm)
 clear hn hBm hc hm
 go_enter Tryz.func112, Tryz.ntmps112
 go_wp2_with fail
 refine HC.out.mono ?_
 rintro e w' ⟨v, ss, rfl, h1, h2, h3, h4⟩
 have HH : Hid (Colls f w (.returned v) w') := Lib.hid ⟨v, ss, rfl, h1, h2, h3, h4⟩
 clear h1 h2 h3 h4
 go_wp2_with fail
 go_ret
 exact HH.out
end
def SKeys (f : Lit → Option Value) (w : World) (e : Ending) (W' : World) : Prop :=
 ∃ (a : Option Addr) (cap : Nat) (l : List Nat), e = .returned (.slice a l.length cap) ∧ l.Pairwise (· < ·) ∧ (∀ x, x ∈ l ↔ x < 65536 ∧ (f (litK x)).isSome = true) ∧ OwnU W' w.heap.size a l.length cap l ∧ Below w.heap.size w W'
theorem keys_le {f : Lit → Option Value} {ss : List Nat} {w : World} {m n : Nat} (hm : MpF w 31 m n f) (hk : KeysOf f ss) : ss.length ≤ n := by
 obtain ⟨D, hD⟩ := hm
 obtain ⟨es', e1, hp, hl⟩ := hD.own.entries law31
 have hs := hD.size
 subst e1
 have h1 : (ss.map litK).Nodup := by
  rw [List.nodup_iff_pairwise_ne, List.pairwise_map]
  have := List.nodup_iff_pairwise_ne.1 hk.1
  exact this.imp fun hne e => hne (litK_inj e)
 have h2 : ∀ kl ∈ ss.map litK, kl ∈ es'.map (·.1) := by
  intro kl hkl
  obtain ⟨x, hx, rfl⟩ := List.mem_map.1 hkl
  have hh := hD.has (litK x)
  rw [((hk.2 x).1 hx).2, Maps.has_eq] at hh
  obtain ⟨q, hq, e⟩ := List.any_eq_true.1 hh
  exact List.mem_map.2 ⟨q, hq, WideAt.sameKey_eq e⟩
 have h3 := h1.length_le_of_subset h2
 have h4 : es'.length = n := hs
 simp only [List.length_map] at h3
 omega
set_option maxRecDepth 100000 in
theorem sorted_any {f : Lit → Option Value} {m n Bm : Nat} {w : World} (hn : n < 100) (hBm : Bm < w.heap.size) (hc : w.cell? ⟨Bm, 0, none⟩ = some (.map (some m))) (hm : MpF w 31 m n f) :
  Calls Tryz.prog 63 #[.func (.func 114) #[] #[.pointer (some ⟨Bm, 0, none⟩)]] w (SKeys f w) := by
 have HC := Lib.hid (collect_any (by omega) hBm hc hm)
 have HM := Lib.hid hm
 clear hBm hc hm
 go_enter Tryz.func63, Tryz.ntmps63
 go_wp2_with fail
 refine HC.out.mono ?_
 rintro e w1 ⟨v, ss, rfl, h1, h2, h3, h4⟩
 have hlen := keys_le HM.out h1
 cases ss with
 | nil =>
  obtain rfl := h3.2 rfl
  have HH : Hid (SKeys f w (.returned (.slice none 0 0)) w1) := Lib.hid ⟨none, 0, [], rfl, List.Pairwise.nil, h1.2, ownU_nil _ _, h4⟩
  clear h1 h2 h3 h4
  go_wp2_with fail
  refine (sort_none none 0 w1).mono ?_
  rintro e w2 ⟨rfl, rfl⟩
  go_wp2_with fail
  go_ret
  exact HH.out
 | cons y ys =>
  obtain ⟨g, cap, rfl⟩ : ∃ g cap, v = .slice (some ⟨g, 0, none⟩) (y :: ys).length cap := by
   rcases h2.2 with ⟨_, h0⟩ | ⟨g, cap, cur, hv, _⟩
   ·simp at h0
   ·exact ⟨g, cap, hv⟩
  have ho : OwnU w1 w.heap.size (some ⟨g, 0, none⟩) (y :: ys).length cap (y :: ys) := h2
  have HS := Lib.hid (sortU_any ho (by omega))
  have HF : Hid (KeysOf f (y :: ys) ∧ Below w.heap.size w w1 ∧ w.heap.size ≤ g) := Lib.hid ⟨h1, h4, (ho.lt _ rfl).1⟩
  clear h1 h2 h3 h4 ho hlen
  generalize hN : (y :: ys).length = N at HS
  have HN := Lib.hid hN
  clear hN
  go_wp2_with fail
  refine HS.out.mono ?_
  rintro e w2 ⟨rfl, l, hp, hso, ho, hk⟩
  have HH : Hid (SKeys f w (.returned (.slice (some ⟨g, 0, none⟩) N cap)) w2) := by
   obtain ⟨hk1, hb, hg⟩ := HF.out
   have hl : l.length = N := ho.len
   subst hl
   refine Lib.hid ⟨_, cap, l, rfl, ?_, fun x => by rw [hp.mem_iff]; exact hk1.2 x, ho, hb.trans (hk.below hb.size (fun k hk => by rw [hk]; exact hg))⟩
   have hnd : l.Nodup := hp.nodup_iff.2 hk1.1
   exact (hso.and (List.nodup_iff_pairwise_ne.1 hnd)).imp fun ⟨h1, h2⟩ => by omega
  clear hp hso ho hk
  go_wp2_with fail
  go_ret
  exact HH.out
end
end Go.Proofs.YtnekpgmgnepdoaaGreat
end
section
namespace Go.Proofs.YtnekpgmgnepdoaaGreat
open Go.RowKit Go.Maps
def ones (l : List Nat) : List (List Value) := l.map fun x => [encK x]
theorem ones_flat (l : List Nat) : (ones l).flatten = encN l := by
 induction l with
 | nil => rfl
 | cons x l ih => simp [ones, encN] at ih ⊢; exact ih
theorem ownG_of {w : World} {B n cap : Nat} {a : Option Addr} {l : List Nat} (h : OwnU w B a n cap l) : OwnG w 31 1 B a n cap (ones l) := by
 refine ⟨?_, fun v hv => ?_, by rw [← h.len]; simp [ones]⟩
 ·rw [ones_flat]; exact h
 ·obtain ⟨x, _, rfl⟩ := List.mem_map.1 hv
  rfl
def camStep (c i : Nat) (x : Option Ac) (e : En) : Option Ac := if e.c = c ∧ e.k ≠ 4 ∧ e.i = i then some ((x.getD Ac.zero).with e) else x
def camTo (c : Nat) (L : List En) (k i : Nat) : Option Ac := (L.take k).foldl (camStep c i) none
def coutTo (c : Nat) (L : List En) (k : Nat) : Bool := (L.take k).any fun e => decide (e.c = c ∧ e.k = 4)
theorem camTo_succ {c : Nat} {L : List En} {k : Nat} {x : En} (hx : L[k]? = some x) (i : Nat) : camTo c L (k + 1) i = camStep c i (camTo c L k i) x := by
 unfold camTo; rw [List.take_add_one, hx, List.foldl_append]; rfl
theorem coutTo_succ {c : Nat} {L : List En} {k : Nat} {x : En} (hx : L[k]? = some x) : coutTo c L (k + 1) = (coutTo c L k || decide (x.c = c ∧ x.k = 4)) := by
 unfold coutTo; rw [List.take_add_one, hx, List.any_append]; simp
structure CItems (c : Nat) (L : List En) (its : List Nat) : Prop where
 up : its.Pairwise (· < ·)
 mem : ∀ i, i ∈ its ↔ i < 65536 ∧ (camTo c L L.length i).isSome = true
def cqtyAt (c : Nat) (L : List En) (i : Nat) : Nat := ((camTo c L L.length i).getD Ac.zero).qty
def clineCs (c : Nat) (L : List En) (i : Nat) : List Value := [.int .u16 (i : Int), .int .u32 (cqtyAt c L i : Int)]
def viewV (c : Nat) (v : Value) (o : Bool) (t : Nat) : Array Value := #[.int .u16 (c : Int), v, .bool o, .int .u32 (t : Int)]
def CViewP (s : Sta) (c : Nat) (w : World) (e : Ending) (w' : World) : Prop :=
 (s.Right ∧ ∃ its a cap, CItems c s.es its ∧ e = .returned (.agg (viewV c (.slice a its.length cap) (coutTo c s.es s.es.length) ((tkOf s.ts c).getD 0))) ∧ OwnG w' 86 2 w.heap.size a its.length cap (its.map (clineCs c s.es)) ∧ Below w.heap.size w w') ∨
 (¬ s.Right ∧ e = .returned (.agg (viewV c (.slice none 0 0) false 0)) ∧ Below w.heap.size w w')
structure Vs (W : World) (r v m : Nat) (c : Nat) (L : List En) (k T cnt : Nat) (f : Lit → Option Value) : Prop where
 res : Blk W r 55 (viewV 0 (.slice none 0 0) false 0)
 view : Blk W v 55 (viewV c (.slice none 0 0) (coutTo c L k) T)
 mp : MpF W 31 m cnt f
 cnt : cnt ≤ k
 val : ∀ i, i < 65536 → f (litK i) = (camTo c L k i).map fun x => .agg x.arr
 apart : r < v ∧ v < m
theorem Vs.below {W W' : World} {r v m c k T cnt : Nat} {L : List En} {f : Lit → Option Value} (h : Vs W r v m c L k T cnt f) (hb : Below W.heap.size W W') : Vs W' r v m c L k T cnt f :=
 ⟨h.res.below hb, h.view.below hb, h.mp.below hb, h.cnt, h.val, h.apart⟩
def VwR (w : World) (r v m n c T : Nat) (L : List En) (u : Value) (W : World) : Prop :=
 ∃ (k cnt : Nat) (f : Lit → Option Value), u = .int .i64 (k : Int) ∧ k ≤ n ∧ Hid (Vs W r v m c L k T cnt f) ∧ Hid (Below w.heap.size w W)
section
variable {W W2 : World} {r v m c k T cnt : Nat} {L : List En} {f : Lit → Option Value} {x : En}
theorem Vs.turn (h : Vs W r v m c L k T cnt f) (hk : Kept (fun i => i = v) W W2) {k' : Nat} (hv : Blk W2 v 55 (viewV c (.slice none 0 0) (coutTo c L k') T)) (hle : k ≤ k') (hval : ∀ i, camTo c L k' i = camTo c L k i) : Vs W2 r v m c L k' T cnt f :=
 ⟨h.res.kept hk (by have := h.apart; omega), hv, h.mp.kept hk (by have := h.apart; omega), Nat.le_trans h.cnt hle, fun i hi => by rw [hval]; exact h.val i hi, h.apart⟩
theorem Vs.skip (h : Vs W r v m c L k T cnt f) (hx : L[k]? = some x) (hn : ¬ x.c = c) : Vs W r v m c L (k + 1) T cnt f :=
 h.turn (Kept.refl _ _) (by rw [coutTo_succ hx, decide_eq_false (fun h => hn h.1), Bool.or_false]; exact h.view) (Nat.le_succ _) (fun i => by rw [camTo_succ hx]; unfold camStep; rw [if_neg (fun h => hn h.1)])
theorem Vs.out (h : Vs W r v m c L k T cnt f) (hx : L[k]? = some x) (hn : x.c = c) (h4 : x.k = 4) : Vs (W.setCell ⟨v, 2, none⟩ (.bool true)) r v m c L (k + 1) T cnt f :=
 h.turn (Kept.setCell W ⟨v, 2, none⟩ _) (by rw [coutTo_succ hx, decide_eq_true ⟨hn, h4⟩, Bool.or_true]; exact h.view.set 2 (.bool true)) (Nat.le_succ _) (fun i => by rw [camTo_succ hx]; unfold camStep; rw [if_neg (fun hh => hh.2.1 h4)])
theorem Vs.put (h : Vs W r v m c L k T cnt f) (hx : L[k]? = some x) (hn : x.c = c) (h4 : x.k ≠ 4) (hk : Kept (fun i => i = m) W W2)
  (h2 : MpF W2 31 m (if (f (litK x.i)).isSome then cnt else cnt + 1) (upd f (litK x.i) (.agg (((camTo c L k x.i).getD Ac.zero).with x).arr))) : ∃ cnt' f', Vs W2 r v m c L (k + 1) T cnt' f' := by
 have hap := h.apart
 refine ⟨_, _, h.res.kept hk (by omega), ?_, h2, ?_, fun i hi => ?_, h.apart⟩
 ·have e : coutTo c L (k + 1) = coutTo c L k := by rw [coutTo_succ hx]; simp [h4]
  rw [e]
  exact h.view.kept hk (by omega)
 ·have := h.cnt
  split <;> omega
 ·rw [camTo_succ hx]
  unfold camStep
  by_cases e : x.i = i
  ·subst e
   rw [if_pos ⟨hn, h4, rfl⟩, upd_same]
   rfl
  ·rw [if_neg (fun hh => e hh.2.2), upd_other _ _ (fun hh => e (litK_inj hh).symm)]
   exact h.val i hi
end
set_option maxRecDepth 100000 in
theorem und53 : Tryz.prog.underlying 53 = some (.slice 86) := Tryz.underlying53
set_option maxRecDepth 100000 in
theorem info86 : (Tryz.prog.info? 86).map (fun i => (i.zero, i.size, i.bytes)) = some (some (.agg #[.int .u16 0, .int .u32 0]), 2, 8) := by kernel_rfl
section
variable {ev : Operand → Value} {q : Oper} {w : World}
theorem exec_lookAc {x y : Operand} {m n i : Nat} {f : Lit → Option Value} {am : Option Ac} {z : Ac} (ho : q.op = .lookup 114 x y false) (hx : ev x = .map (some m)) (hy : ev y = .int .u16 (i : Int)) (h : MpF w 31 m n f) (hi : i < 65536) (hv : f (litK i) = am.map fun x => .agg x.arr) (hz : am.getD Ac.zero = z) : (execOp ev q).run Tryz.prog w = .ok (.value (.agg z.arr)) w := by
 subst hz
 have hl := h.look law31 und114 (zero116 w) (key31 hi)
 rw [hv] at hl
 have e1 : (am.map (fun o => Value.agg o.arr)).getD (.agg Ac.zero.arr) = .agg (am.getD Ac.zero).arr := by
  cases am <;> rfl
 rw [e1] at hl
 have hl' : (Instr.lookup 114 (.map (some m)) (.int .u16 (i : Int)) false).run Tryz.prog w = .ok (.agg (am.getD Ac.zero).arr) w := hl
 unfold execOp
 simp only [ho, hx, hy, Sem.run_bind, hl', Result.andThen_ok]
 rfl
theorem exec_bldLine {x y : Operand} {i n : Nat} (ho : q.op = .build 86 #[(0, x), (1, y)]) (hx : ev x = .int .u16 (i : Int)) (hy : ev y = .int .u32 (n : Int)) : (execOp ev q).run Tryz.prog w = .ok (.value (.agg #[.int .u16 (i : Int), .int .u32 (n : Int)])) w := by
 have hm : (#[((0 : Nat), x), (1, y)]).map (fun (i, x) => (i, ev x)) = #[(0, .int .u16 (i : Int)), (1, .int .u32 (n : Int))] := by simp [hx, hy]
 have hb : (Instr.build 86 #[(0, .int .u16 (i : Int)), (1, .int .u32 (n : Int))]).run Tryz.prog w = .ok (.agg #[.int .u16 (i : Int), .int .u32 (n : Int)]) w := run_build w 86 _ _ (by kernel_rfl)
 unfold execOp
 simp only [ho, hm, Sem.run_bind, hb, Result.andThen_ok]
 rfl
end
theorem bsLine (cs : List Value) (hc : cs.length = 2) (w : World) : (Instr.buildSlice 53 1 #[(0, .agg cs.toArray)]).run Tryz.prog w = .ok (.slice (some ⟨w.heap.size, 0, none⟩) 1 1) (w.alloc (.cells cs.toArray 86)) := by
 obtain ⟨i0, hi, hz0, hz1, hz2⟩ := info_parts info86
 refine run_buildSlice w 53 86 1 _ _ i0 _ und53 hi hz0 (by rw [hz1]; omega) (by rw [hz1]; omega) ?_
 rw [hz1]
 obtain ⟨a, b, rfl⟩ : ∃ a b, cs = [a, b] := by
  match cs, hc with
  | [a, b], _ => exact ⟨a, b, rfl⟩
 kernel_rfl
section
variable {ev : Operand → Value} {q : Oper} {w : World}
theorem exec_bsLine {x : Operand} {cs : List Value} (hc : cs.length = 2) (ho : q.op = .buildSlice 53 1 #[(0, x)]) (hx : ev x = .agg cs.toArray) : (execOp ev q).run Tryz.prog w = .ok (.value (.slice (some ⟨w.heap.size, 0, none⟩) 1 1)) (w.alloc (.cells cs.toArray 86)) := by
 have hm : (#[((0 : Nat), x)]).map (fun (i, x) => (i, ev x)) = #[(0, Value.agg cs.toArray)] := by simp [hx]
 unfold execOp
 simp only [ho, hm, Sem.run_bind, bsLine cs hc w, Result.andThen_ok]
 rfl
theorem exec_stSl {x y : Operand} {g o : Nat} {a : Option Addr} {n cap : Nat} {t : TypeId} {cs : Array Value} (ho : q.op = .store 53 x y) (hx : ev x = .pointer (some ⟨g, o, none⟩)) (hy : ev y = .slice a n cap) (h : Blk w g t cs) (hlt : o < cs.size) : (execOp ev q).run Tryz.prog w = .ok .skip (w.setCell ⟨g, o, none⟩ (.slice a n cap)) := by
 have u42 := und53
 have hc : w.cell? ⟨g, o, none⟩ = some cs[o] := by rw [h.cell]; exact Array.getElem?_eq_getElem hlt
 have hf : w.frozen? ⟨g, o, none⟩ = false := h.frozen o
 generalize cs[o] = old at hc
 unfold execOp
 simp only [ho, hx, hy]
 go_simp
end
theorem size55 : (Tryz.prog.info? 55).map (·.size) = some 4 := by kernel_rfl
theorem und55 : Tryz.prog.underlying 55 = some (.struct (Tryz.prog.fieldsOf 55)) := by kernel_rfl
theorem viewV_one (c : Nat) (a : Option Addr) (n cap : Nat) (o : Bool) (t : Nat) : (viewV c (.slice a n cap) o t).all (·.oneCell') = true := by
 refine all_oneCell_toArray fun u hu => ?_
 simp only [List.mem_cons, List.not_mem_nil, or_false] at hu
 rcases hu with rfl | rfl | rfl | rfl <;> rfl
section
variable {w : World} {g c c2 t t2 : Nat} {v v2 : Value} {o o2 : Bool}
theorem loadVar55 (h : Blk w g 55 (viewV c v o t)) : (loadVar 55 ⟨g, 0, none⟩).run Tryz.prog w = .ok (.agg (viewV c v o t)) w :=
 run_loadVar_row _ _ 55 55 (viewV c v o t) (0, 0) _ h und55 rfl size55
theorem load55 (h : Blk w g 55 (viewV c v o t)) : (Instr.loadAt 55 (.pointer (some ⟨g, 0, none⟩))).run Tryz.prog w = .ok (.agg (viewV c v o t)) w := by
 simp only [Instr.loadAt, Instr.sureAddr, Sem.run_bind, Sem.run_pure, Result.andThen]
 exact loadVar55 h
theorem store55 {a : Option Addr} {n cap : Nat} (h : Blk w g 55 (viewV c v o t)) : (Instr.storeAt 55 (.pointer (some ⟨g, 0, none⟩)) (.agg (viewV c2 (.slice a n cap) o2 t2))).run Tryz.prog w = .ok () (w.setRow g (viewV c2 (.slice a n cap) o2 t2)) := by
 simp only [Instr.storeAt, Instr.sureAddr, Sem.run_bind, Sem.run_pure, Result.andThen]
 exact run_storeVar_row _ _ 55 55 (viewV c v o t) _ h size55 rfl (viewV_one _ _ _ _ _ _)
theorem ret55 {fn : Func} {x : Tmp} (hf : fn.results = #[.cell x 55]) {tmps : Array Value} (hx : tmps.getD x undef = .pointer (some ⟨g, 0, none⟩)) (hb : Blk w g 55 (viewV c v o t)) :
  (results fn tmps).run Tryz.prog w = .ok (.agg (viewV c v o t)) w := by
 have hx' : tmps[x]?.getD undef = .pointer (some ⟨g, 0, none⟩) := by rw [← hx]; simp [Array.getD_eq_getD_getElem?]
 simp only [results, hf]
 simp [hx', asAddr, loadVar55 hb]
variable {ev : Operand → Value} {q : Oper}
theorem exec_load55 {x : Operand} (ho : q.op = .load 55 x) (hx : ev x = .pointer (some ⟨g, 0, none⟩)) (h : Blk w g 55 (viewV c v o t)) : (execOp ev q).run Tryz.prog w = .ok (.value (.agg (viewV c v o t))) w := exec_cell ho hx (load55 h)
theorem exec_store55 {x y : Operand} {a : Option Addr} {n cap : Nat} (ho : q.op = .store 55 x y) (hx : ev x = .pointer (some ⟨g, 0, none⟩)) (hy : ev y = .agg (viewV c2 (.slice a n cap) o2 t2)) (h : Blk w g 55 (viewV c v o t)) : (execOp ev q).run Tryz.prog w = .ok .skip (w.setRow g (viewV c2 (.slice a n cap) o2 t2)) := by
 unfold execOp
 simp only [ho, hx, hy, Sem.run_bind, store55 (c2 := c2) (o2 := o2) (t2 := t2) (a := a) (n := n) (cap := cap) h, Result.andThen_ok]
 rfl
end
theorem wpList_stop55 {ops : Array Oper} {rest : List Oper} {o : Oper} {act : Act} {Q : Exit → Act → World → Prop} {W : World} {x : Operand} (_ho : o.op = .load 55 x) (k : Halt_ (wpList Tryz.prog ops Q (o :: rest) act W)) : wpList Tryz.prog ops Q (o :: rest) act W := k.out
theorem held_appendG {ops : Array Oper} {Q : Exit → Act → World → Prop} {S : World → Prop} {fuel : Nat} {listed : Array Bool} {act : Act} {W : World} (i : Nat) (d : Tmp) {o : Oper} (t e size bytes : Nat) {z : Value} (hinfo : (Tryz.prog.info? e).map (fun i => (i.zero, i.size, i.bytes)) = some (some z, size, bytes)) (ht : Tryz.prog.underlying t = some (.slice e)) (hzs : z.cells.size = size) (hsz : 0 < size) (hby : bytes ≤ 1000)
  {x y : Operand} {B n cap g : Nat} {a : Option Addr} {vs : List (List Value)} {cs : Array Value} (hd : o.dst = some d) (hi0 : ops[i]? = some o) (hr : Region.ready .any ops listed = [i]) (hw : Region.wanted o (yielded ops act.tmps) = true) (ho : o.op = .call { callee := .builtin .append, args := #[x, y], argTypes := #[t, t] })
  (hx : act.eval x = .slice a n cap) (hy : act.eval y = .slice (some ⟨g, 0, none⟩) 1 1) (hown : OwnG W e size B a n cap vs) (hg : Blk W g e cs) (hc : cs.size = size) (h1 : ∀ u ∈ cs.toList, u.oneCell' = true) (hn : n < 1000000000) (hB : B ≤ W.heap.size)
  (k : ∀ a' cap' w', OwnG w' e size B a' (n + 1) cap' (vs ++ [cs.toList]) → Kept (At a) W w' → Lies W a a' → S w' ∧ wpAnyH Tryz.prog .any ops Q S fuel (listed.setIfInBounds i true) (act.put (some d) (.slice a' (n + 1) cap')) w') : wpAnyH Tryz.prog .any ops Q S (fuel + 1) listed act W := by
 obtain ⟨i0, hi, hz0, hz1, hz2⟩ := info_parts hinfo
 have hnb : (n + 1) * bytes ≤ 140737488355328 := by
  have : (n + 1) * bytes ≤ 1000000000 * 1000 := Nat.mul_le_mul (by omega) hby
  omega
 refine wpAnyH_ready (rs := [i]) hr (by simp) (AllReadyH.cons hi0 (fun K hK => ?_) AllReadyH.nil)
 rw [if_pos hw]
 refine wp_append_lies W x y t ho B e i0 _ size bytes ht hi hz0 hz1 hz2 hzs hsz (.slice a n cap) n vs.flatten hx hown.row ⟨g, 0, none⟩ 1 1 cs.toList hy (by simp [hc])
  (World.news_of_block (cs := cs) (t := e) (fr := (0, 0)) hg) h1 (by omega) (by unfold maxLen; omega) hnb hB _ rfl ?_
 intro g' cap' w' h1' h2 h3 h4
 have hh := k _ cap' w' ⟨by simpa using h1', ?_, by simp [hown.len]⟩ ⟨h2.os, h2.tape, h2.output, h2.size, fun k hk hn => h2.block k hk (fun e => hn ?_)⟩ ?_
 ·exact hK.out _ _ hh.1 (fun _ => by rw [hd]; exact hh.2)
 ·intro v hv
  rcases List.mem_append.1 hv with hv | hv
  ·exact hown.each v hv
  ·obtain rfl : v = cs.toList := by simpa using hv
   simp [hc]
 ·cases a with
  | none => simp [Value.ownBlock] at e
  | some ad => exact ⟨ad, rfl, by simpa [Value.ownBlock] using e⟩
 ·rintro ad rfl2
  obtain rfl := Option.some.inj rfl2
  rcases h3 with h3 | h3
  ·cases a with
   | none => simp [Value.ownBlock] at h3
   | some ad => exact .inl ⟨ad, rfl, by simpa [Value.ownBlock] using h3.symm⟩
  ·exact .inr (by simp [h3])
structure Vl (W : World) (B r v m : Nat) (ak : Option Addr) (nk : Nat) (a : Option Addr) (j cap c T : Nat) (L : List En) (ss : List Nat) (cnt : Nat) (f : Lit → Option Value) : Prop where
 res : Blk W r 55 (viewV 0 (.slice none 0 0) false 0)
 view : Blk W v 55 (viewV c (.slice a j cap) (coutTo c L L.length) (T))
 mp : MpF W 31 m cnt f
 keys : GL W 1 ak nk (ones ss)
 own : OwnG W 86 2 B a j cap ((ss.take j).map (clineCs c L))
 lt : r < v ∧ v < m ∧ m < B
 klt : ∀ ad, ak = some ad → ad.block < B ∧ m < ad.block
theorem Vl.below {W W' : World} {B r v m nk j cap c T cnt : Nat} {ak a : Option Addr} {L : List En} {ss : List Nat} {f : Lit → Option Value} (h : Vl W B r v m ak nk a j cap c T L ss cnt f) (hb : Below W.heap.size W W') : Vl W' B r v m ak nk a j cap c T L ss cnt f :=
 ⟨h.res.below hb, h.view.below hb, h.mp.below hb, h.keys.below hb, h.own.below hb, h.lt, h.klt⟩
theorem Vl.more {W W' : World} {B r v m nk j cap cap' c T cnt i : Nat} {ak a a' : Option Addr} {L : List En} {ss : List Nat} {f : Lit → Option Value} (h : Vl W B r v m ak nk a j cap c T L ss cnt f) (hi : ss[j]? = some i) (hk : Kept (At a) W W')
  (ho : OwnG W' 86 2 B a' (j + 1) cap' ((ss.take j).map (clineCs c L) ++ [clineCs c L i])) : Vl (W'.setCell ⟨v, 1, none⟩ (.slice a' (j + 1) cap')) B r v m ak nk a' (j + 1) cap' c T L ss cnt f := by
 have hlt := h.lt
 have hat : ∀ g, g < B → ¬ At a g := fun g hg ⟨ad, e, e2⟩ => by have := (h.own.lt ad e).1; omega
 have hs : Kept (fun i => i = v) W' (W'.setCell ⟨v, 1, none⟩ (.slice a' (j + 1) cap')) := Kept.setCell W' ⟨v, 1, none⟩ _
 refine ⟨(h.res.kept hk (hat _ (by omega))).kept hs (by omega), ?_, (h.mp.kept hk (hat _ (by omega))).kept hs (by omega), (h.keys.keep hk (fun ad e _ => hat _ (h.klt ad e).1)).keep hs (fun ad e _ => by have := h.klt ad e; omega), ?_, h.lt, h.klt⟩
 ·exact (h.view.kept hk (hat _ (by omega))).set 1 (.slice a' (j + 1) cap')
 ·rw [List.take_add_one, hi, List.map_append]
  refine ho.keep hs (fun ad e => ?_)
  have := (ho.lt ad e).1
  omega
def VlR (w : World) (B r v m : Nat) (ak : Option Addr) (nk c T : Nat) (L : List En) (ss : List Nat) (cnt : Nat) (f : Lit → Option Value) (u : Value) (W : World) : Prop :=
 ∃ (j cap : Nat) (a : Option Addr), u = .int .i64 (j : Int) ∧ j ≤ nk ∧ Hid (Vl W B r v m ak nk a j cap c T L ss cnt f) ∧ Hid (Below w.heap.size w W) ∧ Hid (B ≤ W.heap.size)
end Go.Proofs.YtnekpgmgnepdoaaGreat
end
