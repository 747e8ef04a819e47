/- What the laws' arguments are: a slice of bytes that came in, and a slice of such slices. -/
import Derived.Test.YtphljhbeahkkaaaDoorAl
import Derived.Test.YtphljhbeahkkaaaDoorDoor
import Derived.Deep.Slices
import Derived.Deep.Fields
namespace Go.Proofs.YtphljhbeahkkaaaDoor
open Go.ChangeShapes Go.WideShapes Go.ChangeAt Go.RowKit Go.Deep

/-- A slice of bytes that came in. -/
structure In (w : World) (a : Option Addr) (len cap : Nat) (bs : List Nat) : Prop where
  row : Row w a len bs
  nil : a = none → len = 0 ∧ cap = 0
  le : len ≤ cap
  max : len ≤ 9223372036854775807

theorem In.below {w w' : World} {a : Option Addr} {len cap : Nat} {bs : List Nat} (h : In w a len cap bs) (hb : Below w.heap.size w w') : In w' a len cap bs := ⟨h.row.below hb, h.nil, h.le, h.max⟩

theorem in_of {H : Type} {enc : TypeId × Value → H} {W : World} {a : Option Addr} {len cap : Nat} {d : DataW H} {p : List MemPlace}
    (h : DataW.Trod enc Tryd.prog W 0 (fun _ => true) true 22 (.slice a len cap) d p) : ∃ bs, In W a len cap bs := by
  obtain ⟨h1, h2, bs, h3⟩ := row_of h
  refine ⟨bs, h3, fun ha => ?_, ?_, by unfold maxLen at h1; omega⟩
  · rcases h2 with ⟨_, h4, h5⟩ | ⟨x, hx, _⟩
    · exact ⟨h4, h5⟩
    · rw [ha] at hx; cases hx
  · rcases h2 with ⟨_, rfl, rfl⟩ | ⟨x, _, h4, _⟩
    · exact Nat.le_refl _
    · exact h4

/-- A slice of slices of bytes that came in. -/
structure Ins (w : World) (a : Option Addr) (n : Nat) (ls : List (List Nat)) : Prop where
  size : ls.length = n
  max : n ≤ 9223372036854775807
  cells : n = 0 ∨ ∃ b off, a = some ⟨b, off, none⟩ ∧ ∀ i, i < n → ∃ ai li ci, w.cell? ⟨b, off + i, none⟩ = some (.slice ai li ci) ∧ In w ai li ci (ls.getD i [])

theorem Ins.below {w w' : World} {a : Option Addr} {n : Nat} {ls : List (List Nat)} (h : Ins w a n ls) (hb : Below w.heap.size w w') : Ins w' a n ls := by
  refine ⟨h.size, h.max, ?_⟩
  rcases h.cells with h0 | ⟨b, off, ha, hc⟩
  · exact .inl h0
  · refine .inr ⟨b, off, ha, fun i hi => ?_⟩
    obtain ⟨ai, li, ci, h1, h2⟩ := hc i hi
    exact ⟨ai, li, ci, below_at hb h1, h2.below hb⟩

theorem cells22 : Tryd.prog.cellsOf 22 = 1 := by kernel_rfl

theorem choose_lists {n : Nat} {P : Nat → List Nat → Prop} (h : ∀ i, i < n → ∃ x, P i x) : ∃ ls : List (List Nat), ls.length = n ∧ ∀ i, i < n → P i (ls.getD i []) := by
  induction n with
  | zero => exact ⟨[], rfl, fun i hi => by omega⟩
  | succ n ih =>
    obtain ⟨ls, h1, h2⟩ := ih (fun i hi => h i (by omega))
    obtain ⟨x, hx⟩ := h n (by omega)
    refine ⟨ls ++ [x], by simp [h1], fun i hi => ?_⟩
    by_cases hin : i < n
    · have := h2 i hin
      rw [List.getD_eq_getElem?_getD, List.getElem?_append_left (by omega), ← List.getD_eq_getElem?_getD]
      exact this
    · obtain rfl : i = n := by omega
      rw [List.getD_eq_getElem?_getD, List.getElem?_append_right (by omega), h1]
      simpa using hx

theorem add_lit (b off : Nat) (k : Nat) : (⟨b, off, none⟩ : Addr).add k = ⟨b, off + k, none⟩ := by
  unfold Addr.add
  split
  · subst_vars; rfl
  · rfl

theorem ins_of {H : Type} {enc : TypeId × Value → H} {W : World} {a : Option Addr} {len cap : Nat} {d : DataW H} {p : List MemPlace}
    (h : DataW.Trod enc Tryd.prog W 0 (fun _ => true) true 34 (.slice a len cap) d p) : ∃ ls, Ins W a len ls := by
  obtain ⟨fuel, hf⟩ := h
  rcases open_slice Tryd.underlying34 hf with ⟨hcs, _⟩ | ⟨x, l, c, m, n, D, Pl, hcs, _, hl, hm, hmm, _, hi⟩
  · simp [Value.cells] at hcs
    obtain ⟨rfl, rfl, rfl⟩ := hcs
    exact ⟨[], rfl, by omega, .inl rfl⟩
  · simp [Value.cells] at hcs
    obtain ⟨rfl, rfl, rfl⟩ := hcs
    simp at hmm
    have hall : ∀ i, i < len → ∃ bs, ∃ ai li ci, W.cell? (x.add i) = some (.slice ai li ci) ∧ In W ai li ci bs := by
      intro i hil
      obtain ⟨cs', hc, ht⟩ := hi i (by omega)
      rw [cells22, Nat.mul_one] at hc
      obtain ⟨hlen, _, hat⟩ := World.cells?_some hc
      have hs : ∃ ai li ci, cs' = [.slice ai li ci] := by
        rcases DataW.trod_slice Tryd.underlying22 ht with ⟨hc, _⟩ | ⟨a, l, c, _, _, _, _, hc, _⟩
        · exact ⟨none, 0, 0, by simpa using hc⟩
        · exact ⟨some a, l, c, by simpa using hc⟩
      obtain ⟨ai, li, ci, rfl⟩ := hs
      obtain ⟨bs, hb⟩ := in_of (a := ai) (len := li) (cap := ci) ⟨n, ht⟩
      refine ⟨bs, ai, li, ci, ?_, hb⟩
      have := hat 0 (by omega)
      rw [Go.Deep.add_add] at this
      simpa using this
    obtain ⟨ls, hls, hxs⟩ := choose_lists hall
    refine ⟨ls, hls, by unfold maxLen at hm; omega, ?_⟩
    by_cases h0 : len = 0
    · exact .inl h0
    · obtain ⟨b, off, spot⟩ := x
      have hspot : spot = none := by
        obtain ⟨ai, li, ci, this, _⟩ := hxs 0 (by omega)
        simpa [Addr.add] using World.cell?_spot this
      subst hspot
      refine .inr ⟨b, off, rfl, fun i hi => ?_⟩
      have := hxs i hi
      rw [add_lit] at this
      exact this

end Go.Proofs.YtphljhbeahkkaaaDoor
