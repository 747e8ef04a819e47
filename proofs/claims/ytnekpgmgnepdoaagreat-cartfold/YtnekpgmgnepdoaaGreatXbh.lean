import Derived.Test.YtnekpgmgnepdoaaGreatXba
import Derived.Test.YtnekpgmgnepdoaaGreatXbg
namespace Go.Proofs.YtnekpgmgnepdoaaGreat.F
open Go.Proofs.YtnekpgmgnepdoaaGreat Go.Proofs.YtnekpgmgnepdoaaGreat.Fold
open Go.RowKit Fold
def ofL (L : List O) (i : Nat) (o : O) : Bool := decide (o.i = i ∧ o.k ≠ 4) && liveB L o
theorem ofL_iff {L : List O} {i : Nat} {o : O} : ofL L i o = true ↔ liveB L o = true ∧ o.k ≠ 4 ∧ o.i = i := by
 simp only [ofL, Bool.and_eq_true, decide_eq_true_eq]
 constructor
 ·rintro ⟨⟨h1, h2⟩, h3⟩; exact ⟨h3, h2, h1⟩
 ·rintro ⟨h3, h2, h1⟩; exact ⟨⟨h1, h2⟩, h3⟩
theorem live_kind {L : List O} {o : O} (h : liveB L o = true) : o.k = 1 ∨ o.k = 2 ∨ o.k = 4 := by
 simp only [liveB, Bool.and_eq_true] at h
 have := h.1
 simpa [O.laysB] using this
structure Sum (L : List O) (i k : Nat) (a : Am) : Prop where
 n : a.n = addsOf (ofL L i) (L.take k) % 4294967296
 nob : bestOf (ofL L i) none (L.take k) = none → a.o = O.zero
 oneb : ∀ y, bestOf (ofL L i) none (L.take k) = some y → a.o = y ∧ y.k = 2
structure Sums (L : List O) (i k : Nat) : Prop where
 nil : amTo L k i = none → addsOf (ofL L i) (L.take k) = 0 ∧ bestOf (ofL L i) none (L.take k) = none ∧ ∀ o ∈ L.take k, ofL L i o = false
 one : ∀ a, amTo L k i = some a → Sum L i k a ∧ ∃ o ∈ L.take k, ofL L i o = true
theorem sum_zero (L : List O) (i k : Nat) (h1 : addsOf (ofL L i) (L.take k) = 0) (h2 : bestOf (ofL L i) none (L.take k) = none) : Sum L i k Am.zero :=
 ⟨by rw [h1]; rfl, fun _ => rfl, fun y h => by rw [h2] at h; cases h⟩
theorem sum_step {L : List O} {i k : Nat} {a : Am} {x : O} (h : Sum L i k a) (hx : L[k]? = some x) (hb : ofL L i x = true) : Sum L i (k + 1) (a.with x) := by
 have et : L.take (k + 1) = L.take k ++ [x] := by rw [List.take_add_one, hx]; rfl
 obtain ⟨hl, h4, _⟩ := ofL_iff.1 hb
 rcases live_kind hl with h1 | h2 | h3
 ·have ew : (a.with x).n = (a.n + x.q) % 4294967296 ∧ (a.with x).o = a.o := by unfold Am.with; rw [if_pos h1]; exact ⟨rfl, rfl⟩
  have ep : pick (ofL L i) (bestOf (ofL L i) none (L.take k)) x = bestOf (ofL L i) none (L.take k) := by unfold pick; rw [if_neg (by omega)]
  refine ⟨?_, ?_, ?_⟩
  ·rw [ew.1, et, adds_snoc, if_pos ⟨h1, hb⟩, h.n]; omega
  ·rw [et, best_snoc, ep, ew.2]; exact h.nob
  ·rw [et, best_snoc, ep, ew.2]; exact h.oneb
 ·have en : ¬ x.k = 1 := by omega
  have ead : addsOf (ofL L i) (L.take (k + 1)) = addsOf (ofL L i) (L.take k) := by rw [et, adds_snoc, if_neg (by omega)]; omega
  have ep : pick (ofL L i) (bestOf (ofL L i) none (L.take k)) x = over (bestOf (ofL L i) none (L.take k)) x := by unfold pick; rw [if_pos ⟨h2, hb⟩]
  cases hbb : bestOf (ofL L i) none (L.take k) with
  | none =>
   have hz := h.nob hbb
   have hw : a.with x = ⟨a.n, x, a.hn⟩ := by
    unfold Am.with
    rw [if_neg en, if_pos (.inl (by rw [hz]; show (0 : Nat) ≠ 2; omega))]
   rw [hbb] at ep
   refine ⟨by rw [ead, hw]; exact h.n, fun hn => ?_, fun y hy => ?_⟩
   ·rw [et, best_snoc, hbb, ep] at hn; cases hn
   ·rw [et, best_snoc, hbb, ep] at hy
    obtain rfl : x = y := Option.some.inj hy
    rw [hw]
    exact ⟨rfl, h2⟩
  | some z =>
   obtain ⟨hz, hz2⟩ := h.oneb z hbb
   rw [hbb] at ep
   have eo : over (some z) x = if O.lessB z x = true then some x else some z := rfl
   by_cases hle : O.lessB z x = true
   ·have hw : a.with x = ⟨a.n, x, a.hn⟩ := by
     unfold Am.with
     rw [if_neg en, if_pos (.inr (by rw [hz]; exact hle))]
    rw [eo, if_pos hle] at ep
    refine ⟨by rw [ead, hw]; exact h.n, fun hn => ?_, fun y hy => ?_⟩
    ·rw [et, best_snoc, hbb, ep] at hn; cases hn
    ·rw [et, best_snoc, hbb, ep] at hy
     obtain rfl : x = y := Option.some.inj hy
     rw [hw]
     exact ⟨rfl, h2⟩
   ·have hw : a.with x = a := by
     unfold Am.with
     rw [if_neg en, if_neg (by rw [hz]; intro hh; rcases hh with hh | hh; exact hh hz2; exact hle hh)]
    rw [eo, if_neg hle] at ep
    refine ⟨by rw [ead, hw]; exact h.n, fun hn => ?_, fun y hy => ?_⟩
    ·rw [et, best_snoc, hbb, ep] at hn; cases hn
    ·rw [et, best_snoc, hbb, ep] at hy
     obtain rfl : z = y := Option.some.inj hy
     rw [hw]
     exact ⟨hz, hz2⟩
 ·exact absurd h3 h4
theorem sums (L : List O) (i : Nat) : ∀ k, k ≤ L.length → Sums L i k
 | 0, _ => ⟨fun _ => ⟨rfl, rfl, fun o h => (by simp at h)⟩, fun a h => (by cases h)⟩
 | k + 1, hk => by
  have hx : L[k]? = some L[k] := List.getElem?_eq_getElem (by omega)
  have et : L.take (k + 1) = L.take k ++ [L[k]] := by rw [List.take_add_one, hx]; rfl
  have ih := sums L i k (by omega)
  have hs := amTo_succ hx i
  unfold amStep at hs
  by_cases hb : ofL L i L[k] = true
  ·rw [if_pos (ofL_iff.1 hb)] at hs
   refine ⟨fun h => (by rw [hs] at h; cases h), fun a h => ?_⟩
   rw [hs] at h
   obtain rfl := Option.some.inj h
   refine ⟨sum_step ?_ hx hb, L[k], (by rw [et]; exact List.mem_append_right _ (List.mem_singleton.2 rfl)), hb⟩
   cases ha : amTo L k i with
   | none => exact sum_zero L i k (ih.nil ha).1 (ih.nil ha).2.1
   | some a => exact (ih.one a ha).1
  ·rw [if_neg (fun hh => hb (ofL_iff.2 hh))] at hs
   have hbf : ofL L i L[k] = false := by simpa using hb
   have ea : addsOf (ofL L i) (L.take (k + 1)) = addsOf (ofL L i) (L.take k) := by rw [et, adds_snoc, if_neg (fun hh => hb hh.2)]; omega
   have eb : bestOf (ofL L i) none (L.take (k + 1)) = bestOf (ofL L i) none (L.take k) := by rw [et, best_snoc]; unfold pick; rw [if_neg (fun hh => hb hh.2)]
   refine ⟨fun h => ?_, fun a h => ?_⟩
   ·rw [hs] at h
    obtain ⟨h1, h2, h3⟩ := ih.nil h
    refine ⟨by rw [ea]; exact h1, by rw [eb]; exact h2, fun o ho => ?_⟩
    rw [et] at ho
    rcases List.mem_append.1 ho with ho | ho
    ·exact h3 o ho
    ·obtain rfl : o = L[k] := by simpa using ho
     exact hbf
   ·rw [hs] at h
    obtain ⟨h1, o, ho, h2⟩ := ih.one a h
    exact ⟨⟨(by rw [ea]; exact h1.n), (by rw [eb]; exact h1.nob), (by rw [eb]; exact h1.oneb)⟩, o, by rw [et]; exact List.mem_append_left _ ho, h2⟩
theorem qty_sum (L : List O) (i : Nat) : qtyAt L i = (addsOf (ofL L i) L + qtyOf (bestOf (ofL L i) none L)) % 4294967296 := by
 have h := sums L i L.length (Nat.le_refl _)
 have e : L.take L.length = L := List.take_of_length_le (Nat.le_refl _)
 unfold qtyAt
 cases ha : amTo L L.length i with
 | none =>
  obtain ⟨h1, h2, _⟩ := h.nil ha
  rw [e] at h1 h2
  rw [h1, h2]
  rfl
 | some a =>
  obtain ⟨h1, _⟩ := h.one a ha
  have hn := h1.n
  have h2 := h1.nob
  have h3 := h1.oneb
  rw [e] at hn h2 h3
  show (a.n + a.o.q) % 4294967296 = _
  cases hb : bestOf (ofL L i) none L with
  | none =>
   rw [h2 hb, hn]
   show (_ + 0) % 4294967296 = (_ + 0) % 4294967296
   omega
  | some y =>
   rw [(h3 y hb).1, hn]
   show (_ + y.q) % 4294967296 = (_ + y.q) % 4294967296
   omega
theorem some_iff (L : List O) (i : Nat) : (amTo L L.length i).isSome = true ↔ ∃ o ∈ L, ofL L i o = true := by
 have h := sums L i L.length (Nat.le_refl _)
 have e : L.take L.length = L := List.take_of_length_le (Nat.le_refl _)
 cases ha : amTo L L.length i with
 | none =>
  have h3 := (h.nil ha).2.2
  rw [e] at h3
  constructor
  ·intro hh; cases hh
  ·rintro ⟨o, ho, hh⟩
   rw [h3 o ho] at hh
   cases hh
 | some a =>
  have h3 := (h.one a ha).2
  rw [e] at h3
  exact ⟨fun _ => h3, fun _ => rfl⟩
def ofC (l : List O) (c : Nat) : List O := l.filter fun o => decide (o.c = c)
theorem live_cart (l : List O) {c : Nat} {o : O} (hc : o.c = c) : liveB (ofC l c) o = liveB l o := live_congr fun p hp => by
 unfold ofC
 rw [List.mem_filter]
 simp [ends_cart hp, hc]
theorem ofB_eq (l : List O) (c i : Nat) : (fun o => ofL (ofC l c) i o && decide (o.c = c)) = ofB l c i := by
 funext o
 by_cases hc : o.c = c
 ·simp [ofL, ofB, live_cart l hc, hc]
 ·simp [ofB, hc]
theorem qty_cart (l : List O) (c i : Nat) : qtyAt (ofC l c) i = qty l c i := by
 rw [qty_sum]
 unfold qty
 rw [← ofB_eq, adds_filter, best_filter]
 rfl
theorem some_cart (l : List O) (c i : Nat) : (amTo (ofC l c) (ofC l c).length i).isSome = true ↔ l.any (ofB l c i) = true := by
 rw [some_iff, List.any_eq_true, ← ofB_eq]
 constructor
 ·rintro ⟨o, ho, h⟩
  obtain ⟨h1, h2⟩ := List.mem_filter.1 (show o ∈ l.filter fun o => decide (o.c = c) from ho)
  exact ⟨o, h1, by show (ofL (ofC l c) i o && decide (o.c = c)) = true; rw [h, h2]; rfl⟩
 ·rintro ⟨o, ho, h⟩
  rw [Bool.and_eq_true] at h
  exact ⟨o, List.mem_filter.2 ⟨ho, h.2⟩, h.1⟩
theorem items_cart {l : List O} {c : Nat} {its : List Nat} (hi : Items (ofC l c) its) : its = items l c := sorted_one hi.up (items_up l c) (fun x => by
 rw [hi.mem, some_cart]
 unfold items
 rw [List.mem_filter, List.mem_range])
theorem out_cart (l : List O) (c : Nat) : outTo (ofC l c) (ofC l c).length = outB l c := by
 unfold outTo outB
 rw [List.take_length]
 show (l.filter fun o => decide (o.c = c)).any _ = _
 rw [List.any_filter]
 congr 1
 funext o
 by_cases hc : o.c = c
 ·simp [live_cart l hc, hc, Bool.and_comm]
 ·simp [hc]
theorem tick_from (c : Nat) : ∀ (l : List O) (t : Nat), (ofC l c).foldl (fun t o => max t o.t) t = max t (tickTo c l)
 | [], t => by simp [ofC, tickTo]
 | o :: l, t => by
  have ih := tick_from c l
  unfold ofC at ih ⊢
  by_cases hc : o.c = c
  ·rw [List.filter_cons_of_pos (by simp [hc]), List.foldl_cons, ih]
   simp only [tickTo, if_pos hc]
   omega
  ·rw [List.filter_cons_of_neg (by simp [hc]), ih]
   simp only [tickTo, if_neg hc]
theorem tick_cart (l : List O) (c : Nat) : tkTo (ofC l c) (ofC l c).length = tickTo c l := by
 unfold tkTo
 rw [List.take_length, tick_from]
 omega
def FoldP (l : List O) (c : Nat) (w : World) (e : Ending) (w' : World) : Prop :=
 ∃ a cap, e = .returned (.agg (vw c a (lines l c).length cap (outB l c) (tickTo c l))) ∧ GL w' 2 a (lines l c).length ((lines l c).map ln) ∧ Below w.heap.size w w'
set_option maxRecDepth 100000 in
theorem foldP {l : List O} {c : Nat} {w : World} {e : Ending} {w' : World} (h : ViewP (ofC l c) c w e w') : FoldP l c w e w' := by
 obtain ⟨its, a, cap, hi, rfl, ho, hb⟩ := h
 obtain rfl := items_cart hi
 have e1 : (lines l c).length = (items l c).length := by simp [lines]
 have e2 : (items l c).map (lineCs (ofC l c)) = (lines l c).map ln := by
  unfold lines
  rw [List.map_map]
  exact List.map_congr_left fun i _ => by simp [lineCs, ln, qty_cart]
 refine ⟨a, cap, ?_, ?_, hb⟩
 ·rw [out_cart, tick_cart, e1]; rfl
 ·rw [e1, ← e2]; exact ho.gl
set_option maxRecDepth 100000 in
theorem seenF {s : Sta} {l : List O} (h : Spec s l) (hu : Unlike l) {c : Nat} {w : World} {e : Ending} {w' : World} (hs : SeenP s c w e w') : FoldP l c w e w' := by
 obtain ⟨ls, o, t, a, cap, rfl, hs, hg, hb⟩ := hs
 obtain ⟨rfl, rfl, rfl⟩ := seen_fold h hu hs
 exact ⟨a, cap, rfl, hg, hb⟩
end Go.Proofs.YtnekpgmgnepdoaaGreat.F
