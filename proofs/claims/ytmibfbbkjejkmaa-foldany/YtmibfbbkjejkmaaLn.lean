/- Lines of a view: what is read of them; ticks. -/
import Derived.Test.YtmibfbbkjejkmaaLw
namespace Go.Proofs.Ytmibfbbkjejkmaa
open Go.RowKit Fold

theorem tick_ge {L : List O} {o : O} : ∀ k, o ∈ L.take k → o.t ≤ tkTo L k
  | 0, h => by simp at h
  | k + 1, h => by
    by_cases hk : k < L.length
    · have hx := List.getElem?_eq_getElem hk
      rw [tkTo_succ hx]
      rw [List.take_add_one, hx] at h
      rcases List.mem_append.1 h with h | h
      · have := tick_ge k h; omega
      · obtain rfl : o = L[k] := by simpa using h
        omega
    · have e : tkTo L (k + 1) = tkTo L k := by unfold tkTo; rw [List.take_of_length_le (by omega), List.take_of_length_le (by omega)]
      rw [e]
      refine tick_ge k ?_
      rw [List.take_of_length_le (by omega)] at h ⊢
      exact h
theorem tick_in (L : List O) : ∀ k, tkTo L k = 0 ∨ ∃ o ∈ L, o.t = tkTo L k
  | 0 => .inl rfl
  | k + 1 => by
    by_cases hk : k < L.length
    · have hx := List.getElem?_eq_getElem hk
      rw [tkTo_succ hx]
      by_cases h : tkTo L k ≤ L[k].t
      · exact .inr ⟨L[k], List.getElem_mem hk, by omega⟩
      · rw [show max (tkTo L k) L[k].t = tkTo L k by omega]
        exact tick_in L k
    · have e : tkTo L (k + 1) = tkTo L k := by unfold tkTo; rw [List.take_of_length_le (by omega), List.take_of_length_le (by omega)]
      rw [e]
      exact tick_in L k

section
variable {ev : Operand → Value} {q : Oper} {w : World}
theorem exec_idxL {x y : Operand} {b off n cap i : Nat} {z : Int} (ho : q.op = .indexAddr 42 x y) (hx : ev x = .slice (some ⟨b, off, none⟩) n cap) (hy : ev y = .int .i64 z) (hz : z = (i : Int)) (hi : i < n) : (execOp ev q).run Try.prog w = .ok (.value (.pointer (some ⟨b, off + i * 2, none⟩))) w := by
  subst hz
  have u42 := und42
  have z51 : ∀ w, (Go.sizeOf 51).run Try.prog w = .ok 2 w := Try.sizeOf51
  unfold execOp
  simp only [ho, hx, hy]
  go_simp
theorem exec_predL {x y : Operand} {j : Nat} (ho : q.op = .binOp .sub 3 x y 3) (hx : ev x = .int .i64 (j : Int)) (hy : ev y = .int .i64 1) (h1 : 1 ≤ j) (h2 : j < 1000000) : (execOp ev q).run Try.prog w = .ok (.value (.int .i64 ((j - 1 : Nat) : Int))) w := by
  have e : IntKind.i64.wrap ((j : Int) - 1) = ((j - 1 : Nat) : Int) := by rw [IntKind.wrap_i64]; omega
  unfold execOp
  simp [ho, hx, hy, eqGuard, binOp, Op.intArith, e]
end

/-- A line's cells. -/
theorem line_at {w : World} {B n cap : Nat} {a : Option Addr} {L : List O} {its : List Nat} (h : OwnG w 51 2 B a n cap (its.map (lineCs L))) {j i : Nat} (hj : its[j]? = some i) : ∃ b off, a = some ⟨b, off, none⟩ ∧ w.cell? ⟨b, off + j * 2, none⟩ = some (.int .u16 (i : Int)) ∧ w.cell? ⟨b, off + j * 2 + 1, none⟩ = some (.int .u32 (qtyAt L i : Int)) := by
  have hl : n = its.length := by rw [← h.len]; simp
  have hjl := (List.getElem?_eq_some_iff.1 hj).1
  rcases h.gl.cells with h0 | ⟨b, off, rfl, hc⟩
  · omega
  · have h1 := hc j (lineCs L i) (by simp [hj])
    exact ⟨b, off, rfl, h1 0 _ rfl, h1 1 _ rfl⟩

end Go.Proofs.Ytmibfbbkjejkmaa
