/- What FoldAdds compares, as lists of pairs; reading lines, cutting them, copying them. -/
import Derived.Test.YtmibfbbkjejkmaaApo
namespace Go.Proofs.Ytmibfbbkjejkmaa
open Go.RowKit Fold

/-- Pairs of another item. -/
def oth (it : Nat) (ls : List (Nat × Nat)) : List (Nat × Nat) := ls.filter fun x => decide (x.1 ≠ it)
def hadTo (it : Nat) (ls : List (Nat × Nat)) : Nat := ls.foldl (fun h x => if x.1 = it then x.2 else h) 0
theorem oth_take_eq {it j : Nat} {ls : List (Nat × Nat)} {x : Nat × Nat} (hx : ls[j]? = some x) (e : x.1 = it) : oth it (ls.take (j + 1)) = oth it (ls.take j) := by
  unfold oth; rw [List.take_add_one, hx, List.filter_append]; simp [e]
theorem oth_take_ne {it j : Nat} {ls : List (Nat × Nat)} {x : Nat × Nat} (hx : ls[j]? = some x) (e : ¬ x.1 = it) : oth it (ls.take (j + 1)) = oth it (ls.take j) ++ [x] := by
  unfold oth; rw [List.take_add_one, hx, List.filter_append]; simp [e]
theorem hadTo_eq {it j : Nat} {ls : List (Nat × Nat)} {x : Nat × Nat} (hx : ls[j]? = some x) (e : x.1 = it) : hadTo it (ls.take (j + 1)) = x.2 := by
  unfold hadTo; rw [List.take_add_one, hx, List.foldl_append]; simp [e]
theorem hadTo_ne {it j : Nat} {ls : List (Nat × Nat)} {x : Nat × Nat} (hx : ls[j]? = some x) (e : ¬ x.1 = it) : hadTo it (ls.take (j + 1)) = hadTo it (ls.take j) := by
  unfold hadTo; rw [List.take_add_one, hx, List.foldl_append]; simp [e]
theorem hadTo_val {it c : Nat} : ∀ (ls : List (Nat × Nat)) (h0 : Nat), (∀ x ∈ ls, x.1 = it → x.2 = c) → (ls.foldl (fun h x => if x.1 = it then x.2 else h) h0 = if (ls.any fun x => decide (x.1 = it)) = true then c else h0)
  | [], h0, _ => by simp
  | x :: ls, h0, h => by
    rw [List.foldl_cons, hadTo_val ls _ (fun y hy => h y (List.mem_cons_of_mem _ hy)), List.any_cons]
    by_cases e : x.1 = it
    · have := h x List.mem_cons_self e
      by_cases e2 : (ls.any fun x => decide (x.1 = it)) = true
      · simp [e2]
      · simp [e, e2, this]
    · by_cases e2 : (ls.any fun x => decide (x.1 = it)) = true
      · simp [e2]
      · simp [e, e2]
def prs (L : List O) (its : List Nat) : List (Nat × Nat) := its.map fun i => (i, qtyAt L i)
theorem mem_prs {L : List O} {its : List Nat} {x : Nat × Nat} : x ∈ prs L its ↔ x.1 ∈ its ∧ x.2 = qtyAt L x.1 := by
  unfold prs
  rw [List.mem_map]
  constructor
  · rintro ⟨i, hi, rfl⟩; exact ⟨hi, rfl⟩
  · rintro ⟨h1, h2⟩; exact ⟨x.1, h1, Prod.ext rfl h2.symm⟩
theorem am_qty_lt (a : Am) : a.qty < 4294967296 := by unfold Am.qty; omega
theorem qty_lt (L : List O) (i : Nat) : qtyAt L i < 4294967296 := am_qty_lt _
structure Plain (it q : Nat) (ls7 ls8 : List (Nat × Nat)) : Prop where
  same : oth it ls8 = oth it ls7
  more : ∀ x ∈ ls8, x.1 = it → x.2 = (hadTo it ls7 + q) % 4294967296
  found : ∃ x ∈ ls8, x.1 = it
  b7 : ∀ x ∈ ls7, x.1 < 65536 ∧ x.2 < 4294967296
  b8 : ∀ x ∈ ls8, x.1 < 65536 ∧ x.2 < 4294967296
  had : hadTo it ls7 < 4294967296
theorem oth_prs (L : List O) (it : Nat) (its : List Nat) : oth it (prs L its) = (its.filter fun i => decide (i ≠ it)).map fun i => (i, qtyAt L i) := by
  unfold oth prs
  rw [List.filter_map]
  rfl
theorem plain_of {L : List O} {o : O} {its its2 : List Nat} (h : Fresh_ L o) (h1 : Items L its) (h2 : Items (L ++ [o]) its2) : Plain o.i o.q (prs L its) (prs (L ++ [o]) its2) := by
  obtain ⟨hm, hf⟩ := its_new h h1 h2
  have hh : hadTo o.i (prs L its) = qtyAt L o.i := by
    unfold hadTo
    rw [hadTo_val (c := qtyAt L o.i) _ _ (fun x hx e => by rw [(mem_prs.1 hx).2, e])]
    split
    · rfl
    · rename_i hn
      refine (qty_none ?_).symm
      cases hs : (amTo L L.length o.i).isSome with
      | false => rfl
      | true =>
        exact absurd (List.any_eq_true.2 ⟨(o.i, qtyAt L o.i), mem_prs.2 ⟨(h1.mem o.i).2 ⟨o.hi, hs⟩, rfl⟩, by simp⟩) hn
  refine ⟨?_, fun x hx e => ?_, ?_, fun x hx => ?_, fun x hx => ?_, ?_⟩
  · rw [oth_prs, oth_prs, hf]
    refine List.map_congr_left fun i hi => ?_
    rw [qty_other h (by simpa using (List.mem_filter.1 hi).2)]
  · rw [(mem_prs.1 hx).2, e, qty_new h, hh]
  · exact ⟨(o.i, qtyAt (L ++ [o]) o.i), mem_prs.2 ⟨(hm o.i).2 (.inr rfl), rfl⟩, rfl⟩
  · have := mem_prs.1 hx
    exact ⟨((h1.mem _).1 this.1).1, by rw [this.2]; exact qty_lt _ _⟩
  · have := mem_prs.1 hx
    exact ⟨((h2.mem _).1 this.1).1, by rw [this.2]; exact qty_lt _ _⟩
  · rw [hh]; exact qty_lt _ _
/-- The next pair of another item stands next in what is left. -/
theorem next_oth {it j : Nat} {ls : List (Nat × Nat)} {x : Nat × Nat} (hx : ls[j]? = some x) (e : ¬ x.1 = it) : ∃ r, (oth it ls).drop (oth it (ls.take j)).length = x :: r ∧ (oth it ls).drop (oth it (ls.take (j + 1))).length = r := by
  have hs : oth it ls = oth it (ls.take j) ++ oth it (ls.drop j) := by
    unfold oth; rw [← List.filter_append, List.take_append_drop]
  have hd : ls.drop j = x :: ls.drop (j + 1) := by
    obtain ⟨hlt, rfl⟩ := List.getElem?_eq_some_iff.1 hx
    exact List.drop_eq_getElem_cons hlt
  have hc : oth it (ls.drop j) = x :: oth it (ls.drop (j + 1)) := by rw [hd]; unfold oth; simp [e]
  refine ⟨oth it (ls.drop (j + 1)), ?_, ?_⟩
  · rw [hs, List.drop_left, hc]
  · rw [oth_take_ne hx e, hs, hc, List.length_append, ← List.drop_drop, List.drop_left]; rfl
theorem all_oth {it : Nat} {ls : List (Nat × Nat)} : (oth it ls).drop (oth it (ls.take ls.length)).length = [] := by
  rw [List.take_of_length_le (Nat.le_refl _)]; exact List.drop_eq_nil_of_le (Nat.le_refl _)

theorem GL.line {w : World} {a : Option Addr} {n j : Nat} {ls : List (Nat × Nat)} (h : GL w 2 a n (ls.map ln)) (hj : j < n) : ∃ b off x, a = some ⟨b, off, none⟩ ∧ ls[j]? = some x ∧ w.rangeAt b (off + j * 2) (ln x) := by
  have hl : ls.length = n := by simpa using h.len
  obtain ⟨x, hx⟩ : ∃ x, ls[j]? = some x := ⟨_, List.getElem?_eq_getElem (by omega)⟩
  rcases h.cells with h0 | ⟨b, off, ha, hc⟩
  · omega
  · exact ⟨b, off, x, ha, hx, hc j _ (by simp [hx])⟩
/-- All but the first line. -/
theorem GL.tail {w : World} {b off n : Nat} {x : Nat × Nat} {ls : List (Nat × Nat)} (h : GL w 2 (some ⟨b, off, none⟩) n ((x :: ls).map ln)) : GL w 2 (some ⟨b, off + 2, none⟩) (n - 1) (ls.map ln) := by
  have hl : ls.length + 1 = n := by simpa using h.len
  refine ⟨by simp; omega, ?_⟩
  rcases h.cells with h0 | ⟨b', off', ha, hc⟩
  · omega
  · simp only [Option.some.injEq, Addr.mk.injEq, and_true] at ha
    obtain ⟨rfl, rfl⟩ := ha
    refine .inr ⟨_, _, rfl, fun i v hv => ?_⟩
    have := hc (i + 1) v (by simpa using hv)
    rw [show off + (i + 1) * 2 = off + 2 + i * 2 by omega] at this
    exact this
theorem Blk.rangeL {w : World} {g : Nat} {t : TypeId} {cs : Array Value} (h : Blk w g t cs) : w.rangeAt g 0 cs.toList := fun j u hu => by
  rw [Nat.zero_add, h.cell]; simpa using hu
theorem range0 {w w' : World} {b off : Nat} {cs : List Value} (h : w.rangeAt b off cs) (hb : Below w.heap.size w w') : w'.rangeAt b (off + 0 * 2) cs := fun j u hu => by
  rw [Nat.zero_mul, Nat.add_zero]; exact below_at hb (h j u hu)
theorem OwnG.cap {w : World} {e size B n cap : Nat} {a : Option Addr} {vs : List (List Value)} (h : OwnG w e size B a n cap vs) : n ≤ cap := by
  rcases h.row.2 with ⟨h0, hn⟩ | ⟨g', cap', cur, hv, hB, hg, hc, _⟩
  · omega
  · cases hv; exact hc

end Go.Proofs.Ytmibfbbkjejkmaa
