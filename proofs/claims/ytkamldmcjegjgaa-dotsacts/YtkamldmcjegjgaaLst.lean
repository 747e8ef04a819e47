/- Slices of dots: of the call's own, and as they are read; an append of one dot. -/
import Derived.Test.YtkamldmcjegjgaaGrp5
import Derived.Test.YtkamldmcjegjgaaSort
namespace Go.Proofs.Ytkamldmcjegjgaa
open Go.RowKit

/-- A slice of dots of the call's own, from block B on. -/
def OwnD (w : World) (B : Nat) (a : Option Addr) (n cap : Nat) (l : List Dt) : Prop := w.ownsRow B 34 2 (.slice a n cap) n (flat l)

theorem OwnD.len {w : World} {B : Nat} {a : Option Addr} {n cap : Nat} {l : List Dt} (h : OwnD w B a n cap l) : l.length = n := by
  have := h.1
  rw [flat_len] at this
  omega
theorem OwnD.lt {w : World} {B : Nat} {a : Option Addr} {n cap : Nat} {l : List Dt} (h : OwnD w B a n cap l) : ∀ ad, a = some ad → B ≤ ad.block ∧ ad.block < w.heap.size := by
  rintro ad rfl
  exact World.ownsRow.lt h ad.block rfl
theorem OwnD.keep {S : Nat → Prop} {w w' : World} {B : Nat} {a : Option Addr} {n cap : Nat} {l : List Dt} (h : OwnD w B a n cap l) (k : Kept S w w') (hn : ∀ ad, a = some ad → ¬ S ad.block) : OwnD w' B a n cap l := by
  refine ⟨h.1, ?_⟩
  rcases h.2 with h0 | ⟨g, cap', cur, hv, hB, hg, rest⟩
  · exact .inl h0
  · refine .inr ⟨g, cap', cur, hv, hB, ?_, rest⟩
    rw [k.block g (Array.getElem?_eq_some_iff.1 hg).1 (hn ⟨g, 0, none⟩ (by injection hv))]
    exact hg
theorem OwnD.below {w w' : World} {B : Nat} {a : Option Addr} {n cap : Nat} {l : List Dt} (h : OwnD w B a n cap l) (hb : Below w.heap.size w w') : OwnD w' B a n cap l :=
  h.keep (S := fun _ => False) (.of_below hb) (fun _ _ h => h)
theorem OwnD.mono {w : World} {B B' : Nat} {a : Option Addr} {n cap : Nat} {l : List Dt} (h : OwnD w B a n cap l) (hB : B' ≤ B) : OwnD w B' a n cap l := by
  refine ⟨h.1, ?_⟩
  rcases h.2 with h0 | ⟨g, cap', cur, hv, hg, rest⟩
  · exact .inl h0
  · exact .inr ⟨g, cap', cur, hv, Nat.le_trans hB hg, rest⟩
theorem OwnD.ne_blk {w : World} {B : Nat} {a : Option Addr} {n cap : Nat} {l : List Dt} (h : OwnD w B a n cap l) {p : Nat} {t : TypeId} {cs : Array Value} (hb : Blk w p t cs) (ht : t ≠ 34) : ∀ ad, a = some ad → ad.block ≠ p := by
  rintro ad rfl rfl
  rcases h.2 with ⟨h0, _⟩ | ⟨g, cap', cur, hv, hB, hg, rest⟩
  · cases h0
  · cases hv
    unfold Blk at hb
    rw [hg] at hb
    cases hb
    exact ht rfl
theorem OwnD.ne_mp {w : World} {B : Nat} {a : Option Addr} {n cap : Nat} {l : List Dt} (h : OwnD w B a n cap l) {m : Nat} {L : List Dt} (hm : Mp w m L) : ∀ ad, a = some ad → ad.block ≠ m := by
  rintro ad rfl rfl
  obtain ⟨D, k, ⟨es, clock, hb, _⟩, _⟩ := hm
  rcases h.2 with ⟨h0, _⟩ | ⟨g, cap', cur, hv, hB, hg, rest⟩
  · cases h0
  · cases hv
    rw [hg] at hb
    cases hb
theorem own_nil (w : World) (B : Nat) : OwnD w B none 0 0 [] := World.ownsRow_nil _ _ _ _

/-- Where a slice's own block lies behind an append: where it lay, or at a new block. -/
def Lies (w : World) (a a' : Option Addr) : Prop := ∀ ad, a' = some ad → (∃ ad0, a = some ad0 ∧ ad.block = ad0.block) ∨ w.heap.size ≤ ad.block
/-- The block of a slice. -/
def At (a : Option Addr) (k : Nat) : Prop := ∃ ad, a = some ad ∧ k = ad.block

/-- A slice of dots as it is read. -/
structure DL (w : World) (a : Option Addr) (n : Nat) (l : List Dt) : Prop where
  len : l.length = n
  raw : ∀ x ∈ l, Raw x
  cells : n = 0 ∨ ∃ b off, a = some ⟨b, off, none⟩ ∧ ∀ i x, l[i]? = some x → w.cell? ⟨b, off + i * 2, none⟩ = some (.int .u8 (x.1 : Int)) ∧ w.cell? ⟨b, off + i * 2 + 1, none⟩ = some (.int .u32 (x.2 : Int))

theorem flat_get : ∀ (l : List Dt) (i : Nat) (x : Dt), l[i]? = some x → (flat l)[i * 2]? = some (.int .u8 (x.1 : Int)) ∧ (flat l)[i * 2 + 1]? = some (.int .u32 (x.2 : Int))
  | [], i, x, h => by simp at h
  | y :: l, 0, x, h => by
    obtain rfl : y = x := by simpa using h
    simp [flat, encD]
  | y :: l, i + 1, x, h => by
    have ih := flat_get l i x (by simpa using h)
    have e1 : (i + 1) * 2 = i * 2 + 2 := by omega
    rw [e1]
    simpa [flat, encD] using ih

theorem OwnD.dl {w : World} {B : Nat} {a : Option Addr} {n cap : Nat} {l : List Dt} (h : OwnD w B a n cap l) (hr : ∀ x ∈ l, Raw x) : DL w a n l := by
  refine ⟨h.len, hr, ?_⟩
  rcases h.2 with ⟨h0, hn⟩ | ⟨g, cap', cur, hv, hB, hg, hnc, hcm, hcs, htk⟩
  · exact .inl hn
  · cases hv
    refine .inr ⟨g, 0, rfl, fun i x hx => ?_⟩
    obtain ⟨e1, e2⟩ := flat_get l i x hx
    have hi : i < n := by rw [← h.len]; exact (List.getElem?_eq_some_iff.1 hx).1
    rw [← htk, List.getElem?_take_of_lt (by omega)] at e1 e2
    simp only [World.cell?, hg, Nat.zero_add, Option.isSome_none, Bool.false_eq_true, if_false]
    rw [← Array.getElem?_toList, ← Array.getElem?_toList]
    exact ⟨e1, e2⟩

theorem DL.keep {S : Nat → Prop} {w w' : World} {a : Option Addr} {n : Nat} {l : List Dt} (h : DL w a n l) (k : Kept S w w') (hn : ∀ ad, a = some ad → n ≠ 0 → ¬ S ad.block) : DL w' a n l := by
  refine ⟨h.len, h.raw, ?_⟩
  rcases h.cells with h0 | ⟨b, off, ha, hc⟩
  · exact .inl h0
  · by_cases h0 : n = 0
    · exact .inl h0
    · refine .inr ⟨b, off, ha, fun i x hx => ?_⟩
      have hS := hn _ ha h0
      exact ⟨k.at_ (hc i x hx).1 hS, k.at_ (hc i x hx).2 hS⟩
theorem DL.below {w w' : World} {a : Option Addr} {n : Nat} {l : List Dt} (h : DL w a n l) (hb : Below w.heap.size w w') : DL w' a n l :=
  h.keep (S := fun _ => False) (.of_below hb) (fun _ _ _ h => h)
theorem DL.lt {w : World} {a : Option Addr} {n : Nat} {l : List Dt} (h : DL w a n l) : ∀ ad, a = some ad → n ≠ 0 → ad.block < w.heap.size := by
  intro ad ha h0
  obtain ⟨b, off, ha', hc⟩ := h.cells.resolve_left h0
  rw [ha] at ha'
  obtain rfl := Option.some.inj ha'
  have hl : 0 < l.length := by rw [h.len]; omega
  exact block_lt_of_cell (hc 0 _ (List.getElem?_eq_getElem hl)).1
theorem DL.drew {w : World} {a : Option Addr} {n : Nat} {l : List Dt} (h : DL w a n l) : DL w.drew a n l := ⟨h.len, h.raw, h.cells⟩

theorem info34 : (Try.prog.info? 34).map (fun i => (i.zero, i.size, i.bytes)) = some (some (.agg #[.int .u8 0, .int .u32 0]), 2, 8) := by kernel_rfl

section
variable {ops : Array Oper} {rest : List Oper} {o : Oper} {act : Act} {Q : Exit → Act → World → Prop} {W : World}
/-- One dot appended. -/
theorem wpList_appendD {x y : Operand} {B n cap g r s : Nat} {a : Option Addr} {l : List Dt} (hgd : o.guard = none) (ho : o.op = .call { callee := .builtin .append, args := #[x, y], argTypes := #[25, 25] })
    (hx : act.eval x = .slice a n cap) (hy : act.eval y = .slice (some ⟨g, 0, none⟩) 1 1) (hown : OwnD W B a n cap l) (hg : Blk W g 34 #[.int .u8 (r : Int), .int .u32 (s : Int)]) (hn : n < 1000000000) (hB : B ≤ W.heap.size)
    (k : ∀ a' cap' w', OwnD w' B a' (n + 1) cap' (l ++ [(r, s)]) → Kept (At a) W w' → Lies W a a' → wpList Try.prog ops Q rest (act.put o.dst (.slice a' (n + 1) cap')) w') : wpList Try.prog ops Q (o :: rest) act W := by
  obtain ⟨i0, hi, hz0, hz1, hz2⟩ := info_parts info34
  refine wpList_append_lies W hgd x y 25 ho B 34 i0 _ 2 8 Try.underlying25 hi hz0 hz1 hz2 rfl (by omega) (.slice a n cap) n (flat l) hx hown ⟨g, 0, none⟩ 1 1 [.int .u8 (r : Int), .int .u32 (s : Int)] hy rfl
    (World.news_of_block (cs := #[.int .u8 (r : Int), .int .u32 (s : Int)]) (t := 34) (fr := (0, 0)) hg) (by simp [Value.oneCell']) (by omega) (by unfold maxLen; omega) (by omega) hB _ rfl ?_
  intro g' cap' w' h1 h2 h3 h4
  refine k _ _ _ ?_ ⟨h2.os, h2.tape, h2.output, h2.size, fun k hk hn => h2.block k hk (fun e => hn ?_)⟩ ?_
  · have : flat (l ++ [(r, s)]) = flat l ++ [.int .u8 (r : Int), .int .u32 (s : Int)] := by simp [flat, encD]
    unfold OwnD
    rw [this]
    exact h1
  · cases a with
    | none => simp [Value.ownBlock] at e
    | some ad => exact ⟨ad, rfl, by simpa [Value.ownBlock] using e⟩
  · rintro ad rfl2
    obtain rfl := Option.some.inj rfl2
    rcases h3 with h3 | h3
    · cases a with
      | none => simp [Value.ownBlock] at h3
      | some ad => exact .inl ⟨ad, rfl, by simpa [Value.ownBlock] using h3.symm⟩
    · exact .inr (by simp [h3])
end

end Go.Proofs.Ytkamldmcjegjgaa
