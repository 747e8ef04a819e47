/- Words for the laws about what was written: where a record stands among a segment's bytes; sums, cuts of slices, reading of what was told. -/
import Derived.Test.YtfnaccmgmocolaaDoorWn
namespace Go.Proofs.YtfnaccmgmocolaaDoor
open Go.RowKit

namespace Seg
theorem at_rec : ∀ (g : List O) (p : List Nat) (k : Nat) (x : O), g[k]? = some x → ∃ A u t, (starts p.length g)[k]? = some A ∧ p ++ recs g = u ++ (Frm.fr (recB x) ++ t) ∧ u.length = A
  | [], _, k, x, h => by simp at h
  | o :: g, p, 0, x, h => by
    obtain rfl : o = x := by simpa using h
    exact ⟨p.length, p, recs g, by simp [starts], by rw [recs_cons], rfl⟩
  | o :: g, p, k + 1, x, h => by
    obtain ⟨A, u, t, h1, h2, h3⟩ := at_rec g (p ++ Frm.fr (recB o)) k x (by simpa using h)
    refine ⟨A, u, t, ?_, ?_, h3⟩
    · rw [starts, List.getElem?_cons_succ]
      rw [List.length_append] at h1
      exact h1
    · rw [recs_cons, ← List.append_assoc]
      exact h2
theorem at_bytes {g : List O} {p : List Nat} {k : Nat} {x : O} (h : g[k]? = some x) : ∃ A, (starts p.length g)[k]? = some A ∧ A + (Frm.fr (recB x)).length ≤ (p ++ recs g).length ∧ ((p ++ recs g).take (A + (Frm.fr (recB x)).length)).drop A = Frm.fr (recB x) := by
  obtain ⟨A, u, t, h1, h2, h3⟩ := at_rec g p k x h
  refine ⟨A, h1, ?_, ?_⟩
  · rw [h2, List.length_append, List.length_append, h3]; omega
  · rw [h2, ← h3, List.take_append, List.drop_append]
    simp
end Seg

theorem int_idx {w : World} {B n c k x : Nat} {a : Option Addr} {es : List Nat} (h : OwnG w 3 1 B a n c (cellsN es)) (hk : es[k]? = some x) : ∃ b off, a = some ⟨b, off, none⟩ ∧ w.cell? ⟨b, off + k, none⟩ = some (.int .i64 (x : Int)) ∧ k < n := by
  have hkl : k < es.length := (List.getElem?_eq_some_iff.1 hk).1
  have hn : n = es.length := by have := h.len; simpa [cellsN] using this.symm
  rcases h.gl.cells with h0 | ⟨b, off, ha, hc⟩
  · omega
  · have := hc k [.int .i64 (x : Int)] (by simp [cellsN, hk]) 0 _ rfl
    exact ⟨b, off, ha, by simpa using this, by omega⟩
theorem op_idx {w : World} {B n c k : Nat} {x : O} {a : Option Addr} {g : List O} (h : OwnG w 29 23 B a n c (cellsO g)) (hk : g[k]? = some x) : ∃ b off, a = some ⟨b, off, none⟩ ∧ w.rangeAt b (off + k * 23) x.cs ∧ k < n := by
  have hkl : k < g.length := (List.getElem?_eq_some_iff.1 hk).1
  have hn : n = g.length := by have := h.len; simpa [cellsO] using this.symm
  rcases h.gl.cells with h0 | ⟨b, off, ha, hc⟩
  · omega
  · have := hc k x.cs (by simp [cellsO, hk])
    exact ⟨b, off, ha, this, by omega⟩

section
variable {ev : Operand → Value} {q : Oper} {w : World}
theorem exec_gtrI {x y : Operand} {u t : TypeId} {k : IntKind} {a b : Int} {r : Bool} (ho : q.op = .binOp .gtr u x y t) (hx : ev x = .int k a) (hy : ev y = .int k b) (hr : decide (b < a) = r) : (execOp ev q).run Tryd.prog w = .ok (.value (.bool r)) w := by
  subst hr
  unfold execOp
  simp only [ho, hx, hy]
  go_simp
theorem exec_addN {x y : Operand} {a b : Nat} (ho : q.op = .binOp .add 3 x y 3) (hx : ev x = .int .i64 (a : Int)) (hy : ev y = .int .i64 (b : Int)) (hab : a + b < 9223372036854775808) : (execOp ev q).run Tryd.prog w = .ok (.value (.int .i64 ((a + b : Nat) : Int))) w := by
  have e : IntKind.i64.wrap ((a : Int) + (b : Int)) = ((a + b : Nat) : Int) := by rw [IntKind.wrap_i64]; omega
  unfold execOp
  simp only [ho, hx, hy]
  go_simp
theorem exec_sliceLH {x y z : Operand} {a : Option Addr} {n c l h : Nat} (ho : q.op = .slice 31 x (some y) (some z) none) (hx : ev x = .slice a n c) (hy : ev y = .int .i64 (l : Int)) (hz : ev z = .int .i64 (h : Int)) (h1 : l ≤ h) (h2 : h ≤ c) : (execOp ev q).run Tryd.prog w = .ok (.value (.slice (cutA a c l) (h - l) (c - l))) w := by
  have hs := slice_lh .i64 .i64 a n c l h (l : Int) (h : Int) rfl rfl h1 h2 w
  unfold execOp
  simp only [ho, hx, hy, hz, Option.map_some, Option.map_none]
  go_simp
end

end Go.Proofs.YtfnaccmgmocolaaDoor
