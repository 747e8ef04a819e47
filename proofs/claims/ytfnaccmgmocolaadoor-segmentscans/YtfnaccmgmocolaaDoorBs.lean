/- A slice literal of operations. -/
import Derived.Test.YtfnaccmgmocolaaDoorLw
import Derived.Great.BuildSlice
namespace Go.Proofs.YtfnaccmgmocolaaDoor
open Go.RowKit

theorem foldl_set (off : Nat) : ∀ (cs : List Value) (k : Nat) (zs : Array Value), off + k + cs.length ≤ zs.size → ∀ i, ((cs.zipIdx k).foldl (fun a (x : Value × Nat) => a.setIfInBounds (off + x.2) x.1) zs)[i]? = if off + k ≤ i ∧ i < off + k + cs.length then cs[i - (off + k)]? else zs[i]?
  | [], k, zs, _, i => by
    rw [if_neg (by simp)]; rfl
  | c :: cs, k, zs, h, i => by
    simp only [List.length_cons] at h
    rw [List.zipIdx_cons, List.foldl_cons, foldl_set off cs (k + 1) _ (by simp; omega)]
    simp only [List.length_cons, Array.getElem?_setIfInBounds]
    by_cases h1 : off + (k + 1) ≤ i ∧ i < off + (k + 1) + cs.length
    · rw [if_pos h1, if_pos (by omega), show i - (off + k) = (i - (off + (k + 1))) + 1 by omega, List.getElem?_cons_succ]
    · rw [if_neg h1]
      by_cases h2 : off + k = i
      · rw [if_pos h2, if_pos (by omega), if_pos (by omega), show i - (off + k) = 0 by omega]; rfl
      · rw [if_neg h2, if_neg (by omega)]

/-- Parts of one size, laid one behind the other. -/
theorem fill_parts {n : Nat} : ∀ (vs : List (List Value)) (k : Nat) (zs : Array Value), (∀ v ∈ vs, v.length = n) → zs.size = k * n + vs.length * n → ∀ r, Instr.fill (fun i => some (i * n, n)) zs ((vs.zipIdx k).map fun x => (x.2, Value.agg x.1.toArray)) = some r → r.size = zs.size ∧ (∀ i, i < k * n → r[i]? = zs[i]?) ∧ ∀ i, k * n ≤ i → r[i]? = vs.flatten[i - k * n]?
  | [], k, zs, _, hz, r, h => by
    simp only [List.zipIdx_nil, List.map_nil, Instr.fill, Option.some.injEq] at h
    subst h
    exact ⟨rfl, fun _ _ => rfl, fun i hi => by rw [Array.getElem?_eq_none (by simp at hz; omega)]; simp⟩
  | v :: vs, k, zs, hv, hz, r, h => by
    have hvn := hv v List.mem_cons_self
    rw [List.length_cons, Nat.add_mul] at hz
    rw [List.zipIdx_cons, List.map_cons, Instr.fill] at h
    simp only [Value.cells, List.size_toArray] at h
    rw [if_neg (by simp [hvn]; omega)] at h
    obtain ⟨z2, hz2⟩ : ∃ z2, v.toArray.zipIdx.foldl (fun cs (x : Value × Nat) => cs.setIfInBounds (k * n + x.2) x.1) zs = z2 := ⟨_, rfl⟩
    have hg : ∀ i, z2[i]? = if k * n ≤ i ∧ i < k * n + n then v[i - k * n]? else zs[i]? := fun i => by
      have := foldl_set (k * n) v 0 zs (by omega) i
      rw [← hz2, ← Array.foldl_toList, Array.toList_zipIdx]
      simpa [hvn] using this
    have h' : Instr.fill (fun i => some (i * n, n)) z2 ((vs.zipIdx (k + 1)).map fun x => (x.2, Value.agg x.1.toArray)) = some r := by rw [← hz2]; exact h
    have hs : z2.size = zs.size := by
      rw [← hz2]
      exact Array.foldl_induction (motive := fun _ (b : Array Value) => b.size = zs.size) rfl (fun i b hb => by simpa using hb)
    have ih := fill_parts vs (k + 1) z2 (fun x hx => hv x (List.mem_cons_of_mem _ hx)) (by rw [hs, hz, Nat.add_mul]; omega) r h'
    refine ⟨ih.1.trans hs, fun i hi => ?_, fun i hi => ?_⟩
    · rw [ih.2.1 i (by rw [Nat.add_mul]; omega), hg, if_neg (by omega)]
    · by_cases h1 : i < (k + 1) * n
      · rw [Nat.add_mul, Nat.one_mul] at h1
        rw [ih.2.1 i (by rw [Nat.add_mul]; omega), hg, if_pos (by omega), List.flatten_cons, List.getElem?_append_left (by omega)]
      · rw [Nat.add_mul, Nat.one_mul] at h1
        rw [ih.2.2 i (by rw [Nat.add_mul]; omega), List.flatten_cons, List.getElem?_append_right (by omega), hvn, Nat.add_mul, Nat.one_mul, Nat.sub_sub]
theorem fill_some {n : Nat} : ∀ (vs : List (List Value)) (k : Nat) (zs : Array Value), (∀ v ∈ vs, v.length = n) → zs.size = k * n + vs.length * n → ∃ r, Instr.fill (fun i => some (i * n, n)) zs ((vs.zipIdx k).map fun x => (x.2, Value.agg x.1.toArray)) = some r
  | [], k, zs, _, _ => ⟨zs, rfl⟩
  | v :: vs, k, zs, hv, hz => by
    have hvn := hv v List.mem_cons_self
    rw [List.length_cons, Nat.add_mul] at hz
    rw [List.zipIdx_cons, List.map_cons, Instr.fill]
    simp only [Value.cells, List.size_toArray]
    rw [if_neg (by simp [hvn]; omega)]
    refine fill_some vs (k + 1) _ (fun x hx => hv x (List.mem_cons_of_mem _ hx)) ?_
    rw [Nat.add_mul]
    have : (v.toArray.zipIdx.foldl (fun cs (x : Value × Nat) => cs.setIfInBounds (k * n + x.2) x.1) zs).size = zs.size :=
      Array.foldl_induction (motive := fun _ (b : Array Value) => b.size = zs.size) rfl (fun i b hb => by simpa using hb)
    exact this.trans (by omega)

theorem bsO (l : List O) (hl : l ≠ []) (hs : l.length ≤ 10) (w : World) : (Instr.buildSlice 41 l.length (((cellsO l).zipIdx).map fun x => (x.2, Value.agg x.1.toArray)).toArray).run Tryd.prog w = .ok (.slice (some ⟨w.heap.size, 0, none⟩) l.length l.length) (w.alloc (.cells (cellsO l).flatten.toArray 29)) := by
  obtain ⟨i0, hi, hz0, hz1, hz2⟩ := info_parts info29b
  have hpos : 0 < l.length := List.length_pos_iff.2 hl
  refine run_buildSlice w 41 29 l.length _ _ i0 _ und41 hi hz0 (by rw [hz1]; omega) (by rw [hz1]; omega) ?_
  rw [hz1]
  have hv : ∀ v ∈ cellsO l, v.length = 23 := fun v hv => by
    obtain ⟨o, _, rfl⟩ := List.mem_map.1 hv
    exact o.cs_len
  have hz : ((Array.range (l.length * 23)).map ((Value.agg O.zero.arr).cells[· % (Value.agg O.zero.arr).cells.size]!)).size = 0 * 23 + (cellsO l).length * 23 := by simp [cellsO]
  obtain ⟨r, hr⟩ := fill_some (cellsO l) 0 _ hv hz
  have hh := fill_parts (cellsO l) 0 _ hv hz r hr
  have e : r = (cellsO l).flatten.toArray := by
    apply Array.ext_getElem?
    intro i
    have h2 := hh.2.2 i (by omega)
    rw [h2, Nat.zero_mul, Nat.sub_zero, List.getElem?_toArray]
  subst e
  exact hr

section
variable {ev : Operand → Value} {q : Oper} {w : World}
theorem exec_bsO {x : Operand} {p : O} (ho : q.op = .buildSlice 41 1 #[(0, x)]) (hx : ev x = .agg p.arr) : (execOp ev q).run Tryd.prog w = .ok (.value (.slice (some ⟨w.heap.size, 0, none⟩) 1 1)) (w.alloc (.cells p.arr 29)) := by
  have hm : (#[((0 : Nat), x)]).map (fun (i, x) => (i, ev x)) = (((cellsO [p]).zipIdx).map fun x => (x.2, Value.agg x.1.toArray)).toArray := by simp [hx, cellsO]
  have hb := bsO [p] (by simp) (by simp) w
  have hf : (cellsO [p]).flatten.toArray = p.arr := by simp [cellsO]
  rw [hf] at hb
  unfold execOp
  simp only [ho, hm, Sem.run_bind]
  rw [show (1 : Nat) = [p].length from rfl, hb]
  rfl
theorem exec_bsO2 {x y : Operand} {p r : O} (ho : q.op = .buildSlice 41 2 #[(0, x), (1, y)]) (hx : ev x = .agg p.arr) (hy : ev y = .agg r.arr) : (execOp ev q).run Tryd.prog w = .ok (.value (.slice (some ⟨w.heap.size, 0, none⟩) 2 2)) (w.alloc (.cells (cellsO [p, r]).flatten.toArray 29)) := by
  have hm : (#[((0 : Nat), x), (1, y)]).map (fun (i, x) => (i, ev x)) = (((cellsO [p, r]).zipIdx).map fun x => (x.2, Value.agg x.1.toArray)).toArray := by simp [hx, hy, cellsO]
  have hb := bsO [p, r] (by simp) (by simp) w
  unfold execOp
  simp only [ho, hm, Sem.run_bind]
  rw [show (2 : Nat) = [p, r].length from rfl, hb]
  rfl
theorem exec_bsO3 {x y z : Operand} {p r s : O} (ho : q.op = .buildSlice 41 3 #[(0, x), (1, y), (2, z)]) (hx : ev x = .agg p.arr) (hy : ev y = .agg r.arr) (hz : ev z = .agg s.arr) : (execOp ev q).run Tryd.prog w = .ok (.value (.slice (some ⟨w.heap.size, 0, none⟩) 3 3)) (w.alloc (.cells (cellsO [p, r, s]).flatten.toArray 29)) := by
  have hm : (#[((0 : Nat), x), (1, y), (2, z)]).map (fun (i, x) => (i, ev x)) = (((cellsO [p, r, s]).zipIdx).map fun x => (x.2, Value.agg x.1.toArray)).toArray := by simp [hx, hy, hz, cellsO]
  have hb := bsO [p, r, s] (by simp) (by simp) w
  unfold execOp
  simp only [ho, hm, Sem.run_bind]
  rw [show (3 : Nat) = [p, r, s].length from rfl, hb]
  rfl
end
/-- What such a block holds. -/
theorem blk_ol {w : World} {g : Nat} {l : List O} (h : Blk w g 29 (cellsO l).flatten.toArray) : OL w (some ⟨g, 0, none⟩) l.length l := by
  refine ⟨by simp [cellsO], .inr ⟨g, 0, rfl, fun i v hv j u hu => ?_⟩⟩
  have e1 := flatten_get (size := 23) (fun v hv => by obtain ⟨o, _, rfl⟩ := List.mem_map.1 hv; exact o.cs_len) hv hu
  rw [h.cell, Nat.zero_add]
  simpa using e1

end Go.Proofs.YtfnaccmgmocolaaDoor
