/- Appends of whole lists of operations to nothing. -/
import Derived.Test.YtmibfbbkjejkmaaAd
namespace Go.Proofs.Ytmibfbbkjejkmaa
open Go.RowKit Fold

theorem exec_app0 {ev : Operand → Value} {q : Oper} {w : World} {x y : Operand} {a : Option Addr} {cap : Nat} (ho : q.op = .call { callee := .builtin .append, args := #[x, y], argTypes := #[22, 22] }) (hx : ev x = .slice none 0 0) (hy : ev y = .slice a 0 cap) : (execOp ev q).run Try.prog w = .ok (.value (.slice none 0 0)) w := by
  have u22 := und22
  cases a <;>
  · unfold execOp
    simp only [ho]
    go_simp
theorem flat_len {vs : List (List Value)} {size : Nat} (h : ∀ v ∈ vs, v.length = size) : vs.flatten.length = vs.length * size := by
  induction vs with
  | nil => simp
  | cons v vs ih =>
    rw [List.flatten_cons, List.length_append, h v List.mem_cons_self, ih (fun u hu => h u (List.mem_cons_of_mem _ hu)), List.length_cons, Nat.add_mul]
    omega
theorem flat_at {w : World} {b off size : Nat} (hs : 0 < size) : ∀ {vs : List (List Value)} {k : Nat}, (∀ v ∈ vs, v.length = size) → (∀ i v, vs[i]? = some v → w.rangeAt b (off + (k + i) * size) v) → ∀ j u, vs.flatten[j]? = some u → w.cell? ⟨b, off + k * size + j, none⟩ = some u
  | [], _, _, _, j, u, h => by simp at h
  | v :: vs, k, hv, hc, j, u, h => by
    have hvl := hv v List.mem_cons_self
    rw [List.flatten_cons] at h
    by_cases hj : j < size
    · rw [List.getElem?_append_left (by omega)] at h
      have := hc 0 v rfl j u h
      rw [Nat.add_zero] at this
      exact this
    · rw [List.getElem?_append_right (by omega), hvl] at h
      have ih := flat_at hs (vs := vs) (k := k + 1) (fun x hx => hv x (List.mem_cons_of_mem _ hx)) (fun i x hx => by
        have := hc (i + 1) x (by simpa using hx)
        rw [show k + 1 + i = k + (i + 1) by omega]
        exact this) (j - size) u h
      rw [show off + (k + 1) * size + (j - size) = off + k * size + j by rw [Nat.add_mul]; omega] at ih
      exact ih
theorem cellsO_each (l : List O) : ∀ v ∈ cellsO l, v.length = 23 := fun v hv => by
  obtain ⟨o, _, rfl⟩ := List.mem_map.1 hv
  exact o.cs_len
/-- A list that is not empty, appended to nothing. -/
theorem wp_appendN {o : Oper} {act : Act} {W : World} {K : Act → World → Prop} {Q : Exit → Act → World → Prop} {x y : Operand} {b off n cap B : Nat} {l : List O} (ho : o.op = .call { callee := .builtin .append, args := #[x, y], argTypes := #[22, 22] })
    (hx : act.eval x = .slice none 0 0) (hy : act.eval y = .slice (some ⟨b, off, none⟩) n cap) (hl : OL W (some ⟨b, off, none⟩) n l) (h0 : 0 < n) (hn : n < 1000000) (hB : B ≤ W.heap.size)
    (k : ∀ a' cap' w', OwnO w' B a' n cap' l → Kept (fun _ => False) W w' → K (act.put o.dst (.slice a' n cap')) w') : Oper.wp Try.prog o act W K Q := by
  obtain ⟨i0, hi, hz0, hz1, hz2⟩ := info_parts info40b
  have hlen := OL.len' hl
  have hc : ∀ i v, (cellsO l)[i]? = some v → W.rangeAt b (off + (0 + i) * 23) v := fun i v hv => by
    rcases hl.cells with h | ⟨b', off', e, hcc⟩
    · omega
    · simp only [Option.some.injEq, Addr.mk.injEq, and_true] at e
      obtain ⟨rfl, rfl⟩ := e
      rw [Nat.zero_add]
      exact hcc i v hv
  have hat := flat_at (w := W) (b := b) (off := off) (size := 23) (by omega) (k := 0) (cellsO_each l) hc
  refine wp_append_lies W x y 22 ho B 40 i0 _ 23 84 und22 hi hz0 hz1 hz2 rfl (by omega) (.slice none 0 0) 0 [] hx (World.ownsRow_nil _ _ _ _) ⟨b, off, none⟩ n cap (cellsO l).flatten hy (by rw [flat_len (cellsO_each l)]; simp [cellsO, hlen])
    (fun j u hu => ?_) (fun u hu => ?_) h0 (by unfold maxLen; omega) (by omega) hB _ rfl ?_
  · have := hat j u hu
    rw [Nat.zero_mul, Nat.add_zero] at this
    rw [Addr.add_mid]
    exact this
  · obtain ⟨v, hv, hu2⟩ := List.mem_flatten.1 hu
    obtain ⟨p, _, rfl⟩ := List.mem_map.1 hv
    exact one_cs p u (by simpa using hu2)
  · intro g' cap' w' h1 h2 h3 h4
    have h1' : w'.ownsRow B 40 23 (.slice (some ⟨g', 0, none⟩) n cap') n (cellsO l).flatten := by simpa using h1
    have := k (some ⟨g', 0, none⟩) cap' w' ⟨h1', cellsO_each l, by simp [cellsO, hlen]⟩ ⟨h2.os, h2.tape, h2.output, h2.size, fun k hk _ => h2.block k hk (by simp [Value.ownBlock])⟩
    simpa using this

end Go.Proofs.Ytmibfbbkjejkmaa
