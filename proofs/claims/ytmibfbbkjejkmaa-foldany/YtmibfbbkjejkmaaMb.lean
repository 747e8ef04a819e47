/- The keys of a map of uint16 numbers, as they come out of its iterator, and their collection in a slice. -/
import Derived.Test.YtmibfbbkjejkmaaMa
import Derived.Test.YtmibfbbkjejkmaaTf
import Derived.RangeFuncNested
import Derived.RangeFuncBound
import Derived.RangeFuncCalls
import Derived.RangeFuncLeaves
import Derived.RangeFuncFrom
import Derived.RangeFuncBox
import Derived.Shelf.Abstract
import Derived.Shelf.RegionOpen
import Derived.OwnWalkIn
import Derived.TacticsInMore
import Derived.LoopNIn
import Derived.LoopIn
import Derived.Maps.OwnIn
import Derived.Maps.AppendAt
namespace Go.Proofs.Ytmibfbbkjejkmaa
open Go.RowKit Go.Maps Go.Shelf

abbrev encK (x : Nat) : Value := .int .u16 (x : Int)
abbrev litK (x : Nat) : Lit := .int .u16 (x : Int)
theorem law34 : Keyed Try.prog 34 := int_keyed Try.underlying34
theorem wf16 {x : Nat} (h : x < 65536) : (Lit.int .u16 (x : Int)).wf = true := by
  simp [Lit.wf, IntKind.min, IntKind.max, IntKind.bits, IntKind.signed]; omega
theorem key34 {x : Nat} (h : x < 65536) : keyOf Try.prog 34 (encK x) = some (litK x) := keyOf_int_mk Try.underlying34 (wf16 h)
theorem key34_inv {v : Value} {kl : Lit} (h : keyOf Try.prog 34 v = some kl) : ∃ x : Nat, v = encK x ∧ x < 65536 ∧ kl = litK x := by
  obtain ⟨z, rfl, rfl, hw⟩ := keyOf_int_inv Try.underlying34 h
  simp [Lit.wf, IntKind.min, IntKind.max, IntKind.bits, IntKind.signed] at hw
  obtain ⟨n, rfl⟩ := Int.eq_ofNat_of_zero_le hw.1
  exact ⟨n, rfl, by omega, rfl⟩
theorem litK_inj {x y : Nat} (h : litK x = litK y) : x = y := by
  simp only [Lit.int.injEq, true_and] at h
  omega
theorem und65 : Try.prog.underlying 65 = some (.map 34 67) := Try.underlying65

/-- The keys that have come: those that are no longer to come. -/
structure Came (f : Lit → Option Value) (left : Lit → Bool) (ss : List Nat) : Prop where
  nodup : ss.Nodup
  lt : ∀ x ∈ ss, x < 65536
  mem : ∀ x, x < 65536 → (x ∈ ss ↔ (f (litK x)).isSome = true ∧ left (litK x) = false)
theorem came_start {w : World} {m n : Nat} {f : Lit → Option Value} {D : DataW Value} (h : MpD w 34 m n f D) : Came f (Maps.has D) [] := by
  refine ⟨List.nodup_nil, by simp, fun x _ => ?_⟩
  simp only [List.not_mem_nil, false_iff]
  rintro ⟨h1, h2⟩
  rw [h.has, h1] at h2
  cases h2
theorem Came.step {f : Lit → Option Value} {left : Lit → Bool} {ss : List Nat} (h : Came f left ss) {x : Nat} (hx : x < 65536) (hl : left (litK x) = true) (hm : (f (litK x)).isSome = true) : Came f (fun z => left z && !z.sameKey (litK x)) (ss ++ [x]) := by
  have hn : x ∉ ss := fun hh => by
    have := ((h.mem x hx).1 hh).2
    rw [hl] at this
    cases this
  refine ⟨?_, ?_, fun y hy => ?_⟩
  · rw [List.nodup_append]
    exact ⟨h.nodup, by simp, fun a ha b hb e => by
      obtain rfl : b = x := by simpa using hb
      exact hn (e ▸ ha)⟩
  · intro y hy
    rcases List.mem_append.1 hy with hy | hy
    · exact h.lt y hy
    · obtain rfl : y = x := by simpa using hy
      exact hx
  · rw [List.mem_append, h.mem y hy]
    simp only [List.mem_singleton, Bool.and_eq_false_iff, Bool.not_eq_false']
    constructor
    · rintro (⟨h1, h2⟩ | rfl)
      · exact ⟨h1, .inl h2⟩
      · exact ⟨hm, .inr (WideAt.sameKey_self (law34.key (key34 hy)))⟩
    · rintro ⟨h1, h2 | h2⟩
      · exact .inl ⟨h1, h2⟩
      · exact .inr (litK_inj (WideAt.sameKey_eq h2))
/-- All keys, each once. -/
def KeysOf (f : Lit → Option Value) (ss : List Nat) : Prop := ss.Nodup ∧ ∀ x, x ∈ ss ↔ x < 65536 ∧ (f (litK x)).isSome = true
theorem Came.all {f : Lit → Option Value} {left : Lit → Bool} {ss : List Nat} (h : Came f left ss) (hl : ∀ kl, left kl = false) : KeysOf f ss := by
  refine ⟨h.nodup, fun x => ⟨fun hx => ⟨h.lt x hx, ((h.mem x (h.lt x hx)).1 hx).1⟩, fun hx => (h.mem x hx.1).2 ⟨hx.2, hl _⟩⟩⟩

set_option maxRecDepth 100000 in
set_option maxHeartbeats 1000000 in
/-- The iterator over the keys, for every loop body. -/
theorem keys_in {f : Lit → Option Value} {m n : Nat} {D : DataW Value} (F : Fence) (d : Nat) (h46 : F.fn 46) (hro : F.round = none) (hn : 1 ≤ d) (l Bm : Nat) (J Jx : List Nat → World → Prop)
    (hY : ∀ pre x W, J pre W → pre.length < n → YieldAt F (d - 1) Try.prog l #[encK x] W fun e W' => (e = .returned (.bool true) ∧ J (pre ++ [x]) W' ∧ KeepsWalks W W') ∨ (e = .returned (.bool false) ∧ Jx (pre ++ [x]) W'))
    (W : World) (hJ : AbidesFrom W.heap.size J) (hc : W.cell? ⟨Bm, 0, none⟩ = some (.map (some m))) (hm : MpD W 34 m n f D) (h0 : J [] W) :
    CallsIn F d Try.prog 46 #[.func (.yield l) #[] #[], .pointer (some ⟨Bm, 0, none⟩)] W fun e W' => (∃ v, e = .returned v) ∧ ((∃ ss, KeysOf f ss ∧ J ss W') ∨ (∃ pre, True ∧ Jx pre W')) := by
  have HM := Lib.hid hm
  have hown := hm.own
  clear hm
  refine callsIn_of_wp Try.func46 rfl h46 ?_ hro
  simp only [Try.ntmps46, List.size_toArray, List.length_cons, List.length_nil, Nat.reduceAdd, Nat.reduceSub, Array.replicate_succ, Array.replicate_zero, List.push_toArray, List.append_toArray, List.nil_append, List.cons_append]
  gi_wp2_with (first
    | (gi_at_range; refine wpListIn_range_own _ rfl _ 65 rfl 34 67 law34 und65 _ m n _ rfl hown ?_; intro w0 hrg0 hg0 hs0)
    | gi_in)
  go_frame
  gi_loopw [3] (fun _ wr => ∃ (left : Lit → Bool) (cnt : Nat) (ss : List Nat), wr.ranges Try.prog 34 anyE m W.heap.size n D left cnt ∧ ss.length + cnt ≤ n ∧ Came f left ss ∧ J ss wr)
    (fun _ wr => wr.rangeLeft m W.heap.size)
  case atStart =>
    exact ⟨_, _, [], hrg0, by rw [HM.out.size]; simp, came_start HM.out, hJ [] W w0 none h0 hg0 (fun r e => by cases e)⟩
  case round =>
    obtain ⟨left, cnt, ss, hrg, hcs, hC, hJs⟩ := hrel
    gi_wp2_with (first
      | (gi_at_next; refine wpListIn_next_ranges _ rfl _ rfl 34 law34 anyE encK id (fun key kl hk => by obtain ⟨x, hx, _⟩ := key34_inv hk; exact ⟨x, hx⟩) (fun v _ _ => ⟨v, rfl⟩) m W.heap.size n _ _ _ rfl hrg ?_ ?_)
      | gi_in)
    · intro hc0 hl0
      gi_wp2
      go_end0
      exact ⟨⟨_, rfl⟩, .inl ⟨ss, hC.all hl0, hJs⟩⟩
    · intro x c kl yd yp w2 cnt2 hkey hlk hv hat hrg2 hlt hg2 hs2 hen
      obtain ⟨x', ex, hx16, rfl⟩ := key34_inv hkey
      obtain rfl : x = x' := by
        simp only [Value.int.injEq, true_and] at ex
        omega
      have hsome : (f (litK x)).isSome = true := by rw [← HM.out.has]; exact has_true_of_atKey hat
      have hJ2 : J ss w2 := hJ ss wr w2 (some W.heap.size) hJs hg2 (fun r e => by cases e; exact ⟨Nat.le_refl _, hrg.iter_walk⟩)
      obtain ⟨fn, tmps, assign, body, hy, hR⟩ := hY ss x w2 hJ2 (by omega)
      clear hs2
      gi_wp2
      refine hR.mono ?_
      have hC2 := hC.step hx16 hlk hsome
      rintro e W3 (⟨rfl, hJ3, hk3⟩ | ⟨rfl, hJx3⟩)
      · gi_wp2
        have hrg3 := hrg2.of_walks hk3
        go_roundw
        case rel => exact ⟨_, cnt2, ss ++ [x], hrg3, by simp; omega, hC2, hJ3⟩
        case measure => rw [hrg3.left_eq, hrg.left_eq]; exact hlt
      · gi_wp2
        exact bodyPost_ret (results_none rfl _ _ _) rfl ⟨⟨_, rfl⟩, .inr ⟨ss ++ [x], trivial, hJx3⟩⟩

theorem keys_stops {f : Lit → Option Value} {m n Bm : Nat} (F : Fence) (d : Nat) (h46 : F.fn 46) (hro : F.round = none) (hn : 1 ≤ d) (w : World) (hBm : Bm < w.heap.size) (hc : w.cell? ⟨Bm, 0, none⟩ = some (.map (some m))) (hm : MpF w 34 m n f) :
    SeqStops F d Try.prog 46 #[.pointer (some ⟨Bm, 0, none⟩)] encK (KeysOf f) (fun _ => True) n w := fun l J Jx W hW hJ _ hY h0 => by
  obtain ⟨D, hD⟩ := hm.kept (S := fun k => w.heap.size ≤ k) ⟨hW.os, hW.tape, hW.output, hW.size, fun k hk _ => hW.block k hk⟩ (by have := hm.lt; omega)
  exact keys_in F d h46 hro hn l Bm J Jx hY W hJ ((hW.cell (p := ⟨Bm, 0, none⟩) hBm).trans hc) hD h0

end Go.Proofs.Ytmibfbbkjejkmaa
