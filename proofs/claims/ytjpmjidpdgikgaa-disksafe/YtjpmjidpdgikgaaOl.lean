/- Slices of structs: what is read of them, slices of the call's own, and an append of one element. Lists of operations. -/
import Derived.Test.YtjpmjidpdgikgaaAx
namespace Go.Proofs.Ytjpmjidpdgikgaa
open Go.RowKit

theorem Kept.at_ {S : Nat → Prop} {w w' : World} (k : Kept S w w') {b o : Nat} {v : Value} (h : w.cell? ⟨b, o, Option.none⟩ = some v) (hn : ¬ S b) : w'.cell? ⟨b, o, Option.none⟩ = some v :=
  (World.cell?_of_block (w := w) (w' := w') (a := ⟨b, o, Option.none⟩) (k.block b (block_lt_of_cell h) hn)).trans h
theorem below_at {w w' : World} (k : Below w.heap.size w w') {b o : Nat} {v : Value} (h : w.cell? ⟨b, o, none⟩ = some v) : w'.cell? ⟨b, o, none⟩ = some v :=
  (k.cell (p := ⟨b, o, none⟩) (block_lt_of_cell h)).trans h

/-- A slice whose elements' cells are vs. -/
structure GL (w : World) (size : Nat) (a : Option Addr) (n : Nat) (vs : List (List Value)) : Prop where
  len : vs.length = n
  cells : n = 0 ∨ ∃ b off, a = some ⟨b, off, none⟩ ∧ ∀ i v, vs[i]? = some v → w.rangeAt b (off + i * size) v
/-- One of the call's own, from block B on. -/
structure OwnG (w : World) (e size B : Nat) (a : Option Addr) (n cap : Nat) (vs : List (List Value)) : Prop where
  row : w.ownsRow B e size (.slice a n cap) n vs.flatten
  each : ∀ v ∈ vs, v.length = size
  len : vs.length = n


theorem flatten_get {size : Nat} : ∀ {vs : List (List Value)}, (∀ v ∈ vs, v.length = size) → ∀ {i : Nat} {v : List Value}, vs[i]? = some v → ∀ {j : Nat} {u : Value}, v[j]? = some u → vs.flatten[i * size + j]? = some u
  | [], _, i, v, h, _, _, _ => by simp at h
  | x :: vs, hs, 0, v, h, j, u, hu => by
    obtain rfl : x = v := by simpa using h
    have hj : j < x.length := (List.getElem?_eq_some_iff.1 hu).1
    rw [List.flatten_cons, Nat.zero_mul, Nat.zero_add, List.getElem?_append_left hj]
    exact hu
  | x :: vs, hs, i + 1, v, h, j, u, hu => by
    have hx := hs x List.mem_cons_self
    rw [List.flatten_cons, List.getElem?_append_right (by rw [hx, Nat.add_mul]; omega), hx, show (i + 1) * size + j - size = i * size + j by rw [Nat.add_mul]; omega]
    exact flatten_get (fun v hv => hs v (List.mem_cons_of_mem _ hv)) (by simpa using h) hu

section
variable {w w' : World} {e size B n cap : Nat} {a : Option Addr} {vs : List (List Value)}
theorem OwnG.gl (h : OwnG w e size B a n cap vs) : GL w size a n vs := by
  refine ⟨h.len, ?_⟩
  rcases h.row.2 with ⟨_, hn⟩ | ⟨g, cap', cur, hv, hB, hg, hnc, hcm, hcs, htk⟩
  · exact .inl hn
  · cases hv
    refine .inr ⟨g, 0, rfl, fun i v hv j u hu => ?_⟩
    have e1 := flatten_get h.each hv hu
    have hi : i < n := by rw [← h.len]; exact (List.getElem?_eq_some_iff.1 hv).1
    have hj : j < size := by rw [← h.each v (List.mem_of_getElem? hv)]; exact (List.getElem?_eq_some_iff.1 hu).1
    have hlt : i * size + j < n * size := by
      have : (i + 1) * size ≤ n * size := Nat.mul_le_mul_right _ hi
      rw [Nat.add_mul] at this
      omega
    rw [← htk, List.getElem?_take_of_lt hlt] at e1
    simp only [World.cell?, hg, Nat.zero_add, Option.isSome_none, Bool.false_eq_true, if_false]
    rw [← Array.getElem?_toList]
    exact e1
theorem OwnG.lt (h : OwnG w e size B a n cap vs) : ∀ ad, a = some ad → B ≤ ad.block ∧ ad.block < w.heap.size := by
  rintro ad rfl
  exact World.ownsRow.lt h.row ad.block rfl
theorem OwnG.keep {S : Nat → Prop} (h : OwnG w e size B a n cap vs) (k : Kept S w w') (hn : ∀ ad, a = some ad → ¬ S ad.block) : OwnG w' e size B a n cap vs := by
  refine ⟨⟨h.row.1, ?_⟩, h.each, h.len⟩
  rcases h.row.2 with h0 | ⟨g, cap', cur, hv, hB, hg, rest⟩
  · exact .inl h0
  · refine .inr ⟨g, cap', cur, hv, hB, ?_, rest⟩
    rw [k.block g (Array.getElem?_eq_some_iff.1 hg).1 (hn ⟨g, 0, none⟩ (by injection hv))]
    exact hg
theorem OwnG.below (h : OwnG w e size B a n cap vs) (hb : Below w.heap.size w w') : OwnG w' e size B a n cap vs :=
  h.keep (S := fun _ => False) (.of_below hb) (fun _ _ h => h)
theorem OwnG.mono (h : OwnG w e size B a n cap vs) {B' : Nat} (hB : B' ≤ B) : OwnG w e size B' a n cap vs := by
  refine ⟨⟨h.row.1, ?_⟩, h.each, h.len⟩
  rcases h.row.2 with h0 | ⟨g, cap', cur, hv, hg, rest⟩
  · exact .inl h0
  · exact .inr ⟨g, cap', cur, hv, Nat.le_trans hB hg, rest⟩
theorem ownG_nil (w : World) (e size B : Nat) : OwnG w e size B none 0 0 [] := ⟨World.ownsRow_nil _ _ _ _, by simp, rfl⟩
theorem GL.keep {S : Nat → Prop} (h : GL w size a n vs) (k : Kept S w w') (hn : ∀ ad, a = some ad → n ≠ 0 → ¬ S ad.block) : GL w' size a n vs := by
  refine ⟨h.len, ?_⟩
  rcases h.cells with h0 | ⟨b, off, ha, hc⟩
  · exact .inl h0
  · by_cases h0 : n = 0
    · exact .inl h0
    · exact .inr ⟨b, off, ha, fun i v hv j u hu => k.at_ (hc i v hv j u hu) (hn _ ha h0)⟩
theorem GL.below (h : GL w size a n vs) (hb : Below w.heap.size w w') : GL w' size a n vs := by
  refine ⟨h.len, ?_⟩
  rcases h.cells with h0 | ⟨b, off, ha, hc⟩
  · exact .inl h0
  · exact .inr ⟨b, off, ha, fun i v hv j u hu => below_at hb (hc i v hv j u hu)⟩
theorem GL.drew (h : GL w size a n vs) : GL w.drew size a n vs := ⟨h.len, h.cells⟩
end

section
variable {ops : Array Oper} {rest : List Oper} {o : Oper} {act : Act} {Q : Exit → Act → World → Prop} {W : World}
/-- One element appended, which lies in a block of its own. -/
theorem wpList_appendG (t e size bytes : Nat) {z : Value} (hinfo : (Try.prog.info? e).map (fun i => (i.zero, i.size, i.bytes)) = some (some z, size, bytes)) (ht : Try.prog.underlying t = some (.slice e)) (hzs : z.cells.size = size) (hsz : 0 < size) (hby : bytes ≤ 1000)
    {x y : Operand} {B n cap g : Nat} {a : Option Addr} {vs : List (List Value)} {cs : Array Value} (hgd : o.guard = none) (ho : o.op = .call { callee := .builtin .append, args := #[x, y], argTypes := #[t, t] })
    (hx : act.eval x = .slice a n cap) (hy : act.eval y = .slice (some ⟨g, 0, none⟩) 1 1) (hown : OwnG W e size B a n cap vs) (hg : Blk W g e cs) (hc : cs.size = size) (h1 : ∀ u ∈ cs.toList, u.oneCell' = true) (hn : n < 1000000000) (hB : B ≤ W.heap.size)
    (k : ∀ a' cap' w', OwnG w' e size B a' (n + 1) cap' (vs ++ [cs.toList]) → Kept (At a) W w' → Lies W a a' → wpList Try.prog ops Q rest (act.put o.dst (.slice a' (n + 1) cap')) w') : wpList Try.prog ops Q (o :: rest) act W := by
  obtain ⟨i0, hi, hz0, hz1, hz2⟩ := info_parts hinfo
  have hnb : (n + 1) * bytes ≤ 140737488355328 := by
    have : (n + 1) * bytes ≤ 1000000000 * 1000 := Nat.mul_le_mul (by omega) hby
    omega
  refine wpList_append_lies W hgd x y t ho B e i0 _ size bytes ht hi hz0 hz1 hz2 hzs hsz (.slice a n cap) n vs.flatten hx hown.row ⟨g, 0, none⟩ 1 1 cs.toList hy (by simp [hc])
    (World.news_of_block (cs := cs) (t := e) (fr := (0, 0)) hg) h1 (by omega) (by unfold maxLen; omega) hnb hB _ rfl ?_
  intro g' cap' w' h1' h2 h3 h4
  refine k _ _ _ ⟨by simpa using h1', ?_, by simp [hown.len]⟩ ⟨h2.os, h2.tape, h2.output, h2.size, fun k hk hn => h2.block k hk (fun e => hn ?_)⟩ ?_
  · intro v hv
    rcases List.mem_append.1 hv with hv | hv
    · exact hown.each v hv
    · obtain rfl : v = cs.toList := by simpa using hv
      simp [hc]
  · cases a with
    | none => simp [Value.ownBlock] at e
    | some ad => exact ⟨ad, rfl, by simpa [Value.ownBlock] using e⟩
  · rintro ad rfl2
    obtain rfl := Option.some.inj rfl2
    rcases h3 with h3 | h3
    · cases a with
      | none => simp [Value.ownBlock] at h3
      | some ad => exact .inl ⟨ad, rfl, by simpa [Value.ownBlock] using h3.symm⟩
    · exact .inr (by simp [h3])
end


end Go.Proofs.Ytjpmjidpdgikgaa
