/- Closed, by counting. Operations of the document's Closed. -/
import Derived.Test.YtmibfbbkjejkmaaRc
namespace Go.Proofs.Ytmibfbbkjejkmaa
open Go.RowKit Fold

theorem map_nodup {l : List O} {r : Nat} : Differ l → (∀ o ∈ l, o.r = r) → (l.map O.s).Nodup := fun hd hr => by
  rw [List.nodup_iff_pairwise_ne, List.pairwise_map]
  unfold Differ at hd
  refine (List.Pairwise.and_mem.1 hd).imp ?_
  rintro a b ⟨ha, hb, h⟩ e
  exact h ⟨by rw [hr a ha, hr b hb], e⟩
theorem count_iff {l : List O} (hd : Differ l) (v : V) {r : Nat} (hr : r < 16) : cntTo l v r l.length = min (v.at_ r) 1048576 ↔ ∀ s, V.hasB v r s = true → ∃ p ∈ l, p.r = r ∧ p.s = s := by
  have hc : cntTo l v r l.length = ((l.filter (isIn v r)).map O.s).length := by
    unfold cntTo
    rw [List.take_of_length_le (Nat.le_refl _), List.countP_eq_length_filter, List.length_map]
  have hin : ∀ o ∈ l.filter (isIn v r), o ∈ l ∧ o.r = r ∧ V.hasB v r o.s = true := fun o ho => by
    obtain ⟨h1, h2⟩ := List.mem_filter.1 ho
    simp only [isIn, Bool.and_eq_true, decide_eq_true_eq] at h2
    obtain ⟨rfl, h3⟩ := h2
    exact ⟨h1, rfl, h3⟩
  have hnd : ((l.filter (isIn v r)).map O.s).Nodup := map_nodup (r := r) (List.Pairwise.sublist List.filter_sublist hd) (fun o ho => (hin o ho).2.1)
  have hsub : ∀ s ∈ (l.filter (isIn v r)).map O.s, s ∈ List.range' 1 (min (v.at_ r) 1048576) := fun s hs => by
    obtain ⟨o, ho, rfl⟩ := List.mem_map.1 hs
    have h := (hin o ho).2.2
    simp only [V.hasB, V.dotB, Bool.and_eq_true, decide_eq_true_eq] at h
    rw [List.mem_range'_1]
    omega
  have hhas : ∀ s, V.hasB v r s = true ↔ s ∈ List.range' 1 (min (v.at_ r) 1048576) := fun s => by
    simp only [V.hasB, V.dotB, Bool.and_eq_true, decide_eq_true_eq]
    rw [List.mem_range'_1]
    omega
  have hmem : ∀ s, s ∈ (l.filter (isIn v r)).map O.s ↔ V.hasB v r s = true ∧ ∃ p ∈ l, p.r = r ∧ p.s = s := fun s => by
    constructor
    · intro hs
      obtain ⟨o, ho, rfl⟩ := List.mem_map.1 hs
      have h := hin o ho
      exact ⟨h.2.2, o, h.1, h.2.1, rfl⟩
    · rintro ⟨h, p, hp, rfl, rfl⟩
      exact List.mem_map.2 ⟨p, List.mem_filter.2 ⟨hp, by simp [isIn, h]⟩, rfl⟩
  rw [hc]
  constructor
  · intro hl s hs
    by_cases hx : s ∈ (l.filter (isIn v r)).map O.s
    · exact ((hmem s).1 hx).2
    · exfalso
      have h1 : (s :: (l.filter (isIn v r)).map O.s).Nodup := List.nodup_cons.2 ⟨hx, hnd⟩
      have h2 := h1.length_le_of_subset (l₂ := List.range' 1 (min (v.at_ r) 1048576)) (fun y hy => by
        rcases List.mem_cons.1 hy with rfl | hy
        · exact (hhas _).1 hs
        · exact hsub y hy)
      rw [List.length_cons, hl, List.length_range'] at h2
      omega
  · intro h
    have h1 := hnd.length_le_of_subset (l₂ := List.range' 1 (min (v.at_ r) 1048576)) hsub
    have hnr : (List.range' 1 (min (v.at_ r) 1048576)).Nodup := List.nodup_range'
    have h2 := hnr.length_le_of_subset (l₂ := (l.filter (isIn v r)).map O.s) (fun y hy => (hmem y).2 ⟨(hhas y).2 hy, h y ((hhas y).2 hy)⟩)
    rw [List.length_range'] at h1 h2
    omega
theorem closed_count {l : List O} (hv : ∀ o ∈ l, V.dotB o.r o.s = true) (hd : Differ l) : Closed l ↔ ∀ o ∈ l, ∀ r, r < 16 → cntTo l o.v r l.length = min (o.v.at_ r) 1048576 := by
  constructor
  · intro h o ho r hr
    exact (count_iff hd o.v hr).2 (fun s hs => h.known o ho r s hs)
  · intro h
    refine ⟨hv, hd, fun o ho r s hs => ?_⟩
    have hr : r < 16 := by
      simp only [V.hasB, V.dotB, Bool.and_eq_true, decide_eq_true_eq] at hs
      omega
    exact (count_iff hd o.v hr).1 (h o ho r hr) s hs

section
variable {ev : Operand → Value} {q : Oper} {w : World}
theorem exec_cutO {x y : Operand} {b off n cap k : Nat} (ho : q.op = .slice 22 x none (some y) none) (hx : ev x = .slice (some ⟨b, off, none⟩) n cap) (hy : ev y = .int .i64 (k : Int)) (hk : k ≤ cap) : (execOp ev q).run Try.prog w = .ok (.value (.slice (some ⟨b, off, none⟩) k cap)) w := by
  have u22 := und22
  have z40 : ∀ w, (Go.sizeOf 40).run Try.prog w = .ok 23 w := Try.sizeOf40
  unfold execOp
  simp only [ho, hx]
  go_simp
theorem exec_ctxO {x : Operand} {b off : Nat} {p : O} (ho : q.op = .load 25 x) (hx : ev x = .pointer (some ⟨b, off + 7, none⟩)) (h : w.rangeAt b off p.cs) : (execOp ev q).run Try.prog w = .ok (.value (.agg p.v.arr)) w := by
  have hl := run_loadVar_mid (P := Try.prog) w b (off + 7) 25 p.v.cs _ (fun j u hu => by
    have := h (7 + j) u (by unfold O.cs; rw [List.getElem?_append_right (by simp [O.hd])]; simpa [O.hd] using hu)
    rw [← Nat.add_assoc] at this
    exact this) und25 rfl (by rw [p.v.cs_len]; exact size25)
  refine exec_cell ho hx ?_
  simp only [Instr.loadAt, Instr.sureAddr, Sem.run_bind, Sem.run_pure, Result.andThen_ok, hl]
theorem exec_idxV {x y : Operand} {b off r : Nat} (ho : q.op = .indexAddr 25 x y) (hx : ev x = .pointer (some ⟨b, off, none⟩)) (hy : ev y = .int .i64 (r : Int)) (hr : r < 16) : (execOp ev q).run Try.prog w = .ok (.value (.pointer (some ⟨b, off + r, none⟩))) w := by
  have u25 := und25
  unfold execOp
  simp only [ho, hx, hy]
  go_simp
  intro h
  omega
theorem exec_min32 {x y : Operand} {n : Nat} (ho : q.op = .call { callee := .builtin .min, args := #[x, y], argTypes := #[23, 23] }) (hx : ev x = .int .u32 (n : Int)) (hy : ev y = .int .u32 1048576) : (execOp ev q).run Try.prog w = .ok (.value (.int .u32 ((min n 1048576 : Nat) : Int))) w := by
  unfold execOp
  simp only [ho]
  go_simp
  omega
end
theorem op_vec {w : World} {b off r : Nat} {p : O} (h : w.rangeAt b off p.cs) (hr : r < 16) : w.cell? ⟨b, off + 7 + r, none⟩ = some (.int .u32 (p.v.at_ r : Int)) := by
  have := h (7 + r) (.int .u32 (p.v.at_ r : Int)) (by unfold O.cs; rw [List.getElem?_append_right (by simp [O.hd])]; simpa [O.hd] using V.cs_at p.v hr)
  rw [← Nat.add_assoc] at this
  exact this
theorem OL.take {w : World} {a : Option Addr} {n : Nat} {l : List O} (h : OL w a n l) {k : Nat} (hk : k ≤ n) : OL w a k (l.take k) := by
  have hl := OL.len' h
  refine ⟨by simp [cellsO]; omega, ?_⟩
  rcases h.cells with h0 | ⟨b, off, ha, hc⟩
  · exact .inl (by omega)
  · refine .inr ⟨b, off, ha, fun i v hv => hc i v ?_⟩
    simp only [cellsO, List.map_take] at hv ⊢
    have hi : i < k := by have := (List.getElem?_eq_some_iff.1 hv).1; simp at this; omega
    rw [List.getElem?_take_of_lt hi] at hv
    exact hv

end Go.Proofs.Ytmibfbbkjejkmaa
