/- What an Add that nobody knew, put to a list, does to what is seen: plain lists. -/
import Derived.Test.YtmibfbbkjejkmaaSm
namespace Go.Proofs.Ytmibfbbkjejkmaa
open Go.RowKit Fold

/-- An Add whose dot nobody of the list knew. -/
structure Fresh_ (L : List O) (o : O) : Prop where
  add : o.k = 1
  them : ∀ x ∈ L, V.hasB x.v o.r o.s = false
  self : V.hasB o.v o.r o.s = false
section
variable {L : List O} {o : O}
theorem ends_add (h : o.k = 1) (x : O) : O.endsB o x = false := by
  unfold O.endsB
  simp only [decide_eq_false_iff_not]
  omega
theorem live_old (h : Fresh_ L o) (x : O) : liveB (L ++ [o]) x = liveB L x := by
  unfold liveB
  rw [List.all_append]
  simp [ends_add h.add]
theorem live_new (h : Fresh_ L o) : liveB (L ++ [o]) o = true := by
  unfold liveB
  simp only [Bool.and_eq_true, List.all_eq_true, Bool.not_eq_true']
  refine ⟨by simp [O.laysB, h.add], fun x hx => ?_⟩
  have hh : V.hasB x.v o.r o.s = false := by
    rcases List.mem_append.1 hx with hx | hx
    · exact h.them x hx
    · obtain rfl : x = o := by simpa using hx
      exact h.self
  unfold O.endsB
  simp [hh]
theorem amTo_old (h : Fresh_ L o) (i : Nat) : ∀ k, k ≤ L.length → amTo (L ++ [o]) k i = amTo L k i
  | 0, _ => rfl
  | k + 1, hk => by
    have hx : L[k]? = some L[k] := List.getElem?_eq_getElem (by omega)
    have hx2 : (L ++ [o])[k]? = some L[k] := by rw [List.getElem?_append_left (by omega)]; exact hx
    rw [amTo_succ hx2, amTo_succ hx, amTo_old h i k (by omega)]
    unfold amStep
    rw [live_old h]
theorem amTo_new (h : Fresh_ L o) (i : Nat) : amTo (L ++ [o]) (L ++ [o]).length i = if o.i = i then some (((amTo L L.length i).getD Am.zero).with o) else amTo L L.length i := by
  have hx : (L ++ [o])[L.length]? = some o := by simp
  rw [show (L ++ [o]).length = L.length + 1 by simp, amTo_succ hx, amTo_old h i L.length (Nat.le_refl _)]
  unfold amStep
  by_cases e : o.i = i
  · rw [if_pos ⟨live_new h, by have := h.add; omega, e⟩, if_pos e]
  · rw [if_neg (fun hh => e hh.2.2), if_neg e]
theorem with_qty (a : Am) (h : o.k = 1) : (a.with o).qty = (a.qty + o.q) % 4294967296 := by
  unfold Am.with Am.qty
  rw [if_pos h]
  simp only
  omega
theorem qty_new (h : Fresh_ L o) : qtyAt (L ++ [o]) o.i = (qtyAt L o.i + o.q) % 4294967296 := by
  unfold qtyAt
  rw [amTo_new h, if_pos rfl]
  exact with_qty _ h.add
theorem qty_other (h : Fresh_ L o) {i : Nat} (hi : i ≠ o.i) : qtyAt (L ++ [o]) i = qtyAt L i := by
  unfold qtyAt
  rw [amTo_new h, if_neg (fun e => hi e.symm)]
theorem qty_none {i : Nat} (h : (amTo L L.length i).isSome = false) : qtyAt L i = 0 := by
  unfold qtyAt
  cases e : amTo L L.length i with
  | none => rfl
  | some a => rw [e] at h; cases h
theorem out_new (h : Fresh_ L o) : outTo (L ++ [o]) (L ++ [o]).length = outTo L L.length := by
  unfold outTo
  rw [List.take_of_length_le (Nat.le_refl _), List.take_of_length_le (Nat.le_refl _), List.any_append]
  have e : (fun x => liveB (L ++ [o]) x && decide (x.k = 4)) = fun x => liveB L x && decide (x.k = 4) := by
    funext x; rw [live_old h]
  rw [e]
  have hk := h.add
  have hd : decide (o.k = 4) = false := by simp; omega
  simp [hd]
theorem tick_new (L : List O) (o : O) : tkTo (L ++ [o]) (L ++ [o]).length = max (tkTo L L.length) o.t := by
  unfold tkTo
  rw [List.take_of_length_le (Nat.le_refl _), List.take_of_length_le (Nat.le_refl _), List.foldl_append]
  rfl
theorem its_new (h : Fresh_ L o) {its its' : List Nat} (h1 : Items L its) (h2 : Items (L ++ [o]) its') : (∀ i, i ∈ its' ↔ i ∈ its ∨ i = o.i) ∧ its'.filter (fun i => decide (i ≠ o.i)) = its.filter (fun i => decide (i ≠ o.i)) := by
  have hm : ∀ i, i ∈ its' ↔ i ∈ its ∨ i = o.i := fun i => by
    rw [h2.mem, h1.mem, amTo_new h]
    by_cases e : o.i = i
    · rw [if_pos e]
      have := o.hi
      constructor
      · exact fun _ => .inr e.symm
      · exact fun _ => ⟨by omega, rfl⟩
    · rw [if_neg e]
      constructor
      · exact fun h => .inl h
      · rintro (h | h)
        · exact h
        · exact absurd h.symm e
  refine ⟨hm, sorted_one (h2.up.sublist List.filter_sublist) (h1.up.sublist List.filter_sublist) (fun x => ?_)⟩
  simp only [List.mem_filter, decide_eq_true_eq, hm]
  constructor
  · rintro ⟨h | h, h3⟩
    · exact ⟨h, h3⟩
    · exact absurd h h3
  · exact fun h => ⟨.inl h.1, h.2⟩
theorem filter_new {l : List O} (o : O) : (l ++ [o]).filter (fun x => decide (x.c = o.c)) = l.filter (fun x => decide (x.c = o.c)) ++ [o] := by
  rw [List.filter_append]; simp
end

end Go.Proofs.Ytmibfbbkjejkmaa
