/- Slices of bytes: what it means that one holds a list, and that a slice that the call itself made does. -/
import Derived.Test.YtjpmjidpdgikgaaMath
import Derived.Deep.AppendLies
import Derived.Below
namespace Go.Proofs.Ytjpmjidpdgikgaa
open Go.RowKit

theorem info5 : (Try.prog.info? 5).map (fun i => (i.zero, i.size, i.bytes)) = some (some (.int .u8 0), 1, 1) := by kernel_rfl

/-- The first 'len' cells behind 'a' hold the bytes 'bs'. -/
structure Row (w : World) (a : Option Addr) (len : Nat) (bs : List Nat) : Prop where
  size : bs.length = len
  small : ∀ c ∈ bs, c < 256
  cells : len = 0 ∨ ∃ b off, a = some ⟨b, off, none⟩ ∧ ∀ i, i < len → w.cell? ⟨b, off + i, none⟩ = some (.int .u8 ((bs.getD i 0 : Nat) : Int))

theorem getD_at {l : List Nat} {k : Nat} (h : k < l.length) : l.getD k 0 = l[k] := by simp [List.getD, h]

theorem row_nil (w : World) (a : Option Addr) : Row w a 0 [] := ⟨rfl, by simp, .inl rfl⟩

theorem Row.below {w w' : World} {a : Option Addr} {len : Nat} {bs : List Nat} (h : Row w a len bs) (hb : Below w.heap.size w w') : Row w' a len bs := by
  refine ⟨h.size, h.small, ?_⟩
  rcases h.cells with h0 | ⟨b, off, ha, hc⟩
  · exact .inl h0
  · exact .inr ⟨b, off, ha, fun i hi => by rw [hb.cell (p := ⟨b, off + i, none⟩) (block_lt_of_cell (hc i hi))]; exact hc i hi⟩

/-- A row behind a change of memory that leaves its block. -/
theorem Row.kept {w w' : World} {b off len : Nat} {bs : List Nat} (h : Row w (some ⟨b, off, none⟩) len bs) (hb : w'.heap[b]? = w.heap[b]?) : Row w' (some ⟨b, off, none⟩) len bs := by
  refine ⟨h.size, h.small, ?_⟩
  rcases h.cells with h0 | ⟨b', off', ha, hc⟩
  · exact .inl h0
  · simp only [Option.some.injEq, Addr.mk.injEq, and_true] at ha
    obtain ⟨rfl, rfl⟩ := ha
    exact .inr ⟨b, off, rfl, fun i hi => by rw [World.cell?_of_block (w := w) (w' := w') (a := ⟨b, off + i, none⟩) hb]; exact hc i hi⟩

theorem small_at {w : World} {a : Option Addr} {len k : Nat} {l : List Nat} (h : Row w a len l) (hk : k < len) : l.getD k 0 < 256 := by
  have hk' : k < l.length := by have := h.size; omega
  rw [getD_at hk']
  exact h.small _ (List.getElem_mem hk')

/-- Bytes as cells. -/
def cellsOf (l : List Nat) : List Value := l.map fun n => Value.int .u8 ((n : Nat) : Int)

theorem cellsOf_len (l : List Nat) : (cellsOf l).length = l.length := by simp [cellsOf]
theorem cellsOf_append (a b : List Nat) : cellsOf (a ++ b) = cellsOf a ++ cellsOf b := by simp [cellsOf]
theorem cellsOf_one (l : List Nat) : ∀ u ∈ cellsOf l, u.oneCell' = true := by
  intro u hu
  obtain ⟨n, _, rfl⟩ := List.mem_map.1 hu
  rfl

theorem row_of_owns {w : World} {B : Nat} {v : Value} {n : Nat} {l : List Nat} (h : w.ownsRow B 5 1 v n (cellsOf l)) (hs : ∀ c ∈ l, c < 256) : ∃ a cap, v = .slice a n cap ∧ Row w a n l ∧ n ≤ maxLen := by
  obtain ⟨hlen, hv⟩ := h
  have hl : l.length = n := by simpa [cellsOf] using hlen
  rcases hv with ⟨rfl, rfl⟩ | ⟨g, cap, cur, rfl, hb, hg, hnc, hcm, hcs, ht⟩
  · obtain rfl := List.eq_nil_of_length_eq_zero hl
    exact ⟨none, 0, rfl, row_nil _ _, Nat.zero_le _⟩
  · refine ⟨some ⟨g, 0, none⟩, cap, rfl, ⟨hl, hs, .inr ⟨g, 0, rfl, fun i hi => ?_⟩⟩, by omega⟩
    have h1 : cur.toList[i]? = some (.int .u8 ((l.getD i 0 : Nat) : Int)) := by
      have e : (cur.toList.take (n * 1))[i]? = (cellsOf l)[i]? := by rw [ht]
      rw [List.getElem?_take_of_lt (by omega)] at e
      rw [e]
      have hi' : i < l.length := by omega
      simp [cellsOf, List.getD, hi']
    unfold World.cell?
    simp only [Nat.zero_add]
    rw [hg]
    simpa using h1

/-- The cells of a row, as an append wants them. -/
theorem Row.news {w : World} {b off len : Nat} {l : List Nat} (h : Row w (some ⟨b, off, none⟩) len l) : ∀ j u, (cellsOf l)[j]? = some u → w.cell? ((⟨b, off, none⟩ : Addr).add j) = some u := by
  intro j u hu
  have hj : j < len := by
    have := (List.getElem?_eq_some_iff.1 hu).1
    simpa [cellsOf, h.size] using this
  obtain ⟨b', o', ha, hc⟩ := h.cells.resolve_left (by omega)
  simp only [Option.some.injEq, Addr.mk.injEq, and_true] at ha
  obtain ⟨rfl, rfl⟩ := ha
  have h2 := hc j hj
  have hu2 : u = .int .u8 ((l.getD j 0 : Nat) : Int) := by
    have hjl : j < l.length := by rw [h.size]; exact hj
    simp [cellsOf, hjl] at hu
    rw [← hu, getD_at hjl]
  rw [hu2, ← h2]
  by_cases hj0 : j = 0
  · subst hj0; simp [Addr.add]
  · simp [Addr.add, hj0]

/-- What a call leaves that answers a new slice of bytes. -/
def Made (l : List Nat) (w : World) (e : Ending) (w' : World) : Prop :=
  ∃ g cap, e = .returned (.slice (some ⟨g, 0, none⟩) l.length cap) ∧ w'.ownsRow w.heap.size 5 1 (.slice (some ⟨g, 0, none⟩) l.length cap) l.length (cellsOf l) ∧ Below w.heap.size w w'

end Go.Proofs.Ytjpmjidpdgikgaa
