/- Memory: what stays where only named blocks may have turned, and an append of a row of bytes, empty or not, to a slice of the call's own, with the answer spelt as a slice. -/
import Derived.Test.YtjpmjidpdgikgaaApp
import Derived.Deep.RegionWith
namespace Go.Proofs.Ytjpmjidpdgikgaa
open Go.RowKit

/-- Of what was there nothing has turned but the blocks of S. -/
structure Kept (S : Nat → Prop) (w w' : World) : Prop where
  os : w'.os = w.os
  tape : w'.tape = w.tape
  output : w'.output = w.output
  size : w.heap.size ≤ w'.heap.size
  block : ∀ k, k < w.heap.size → ¬ S k → w'.heap[k]? = w.heap[k]?

theorem Kept.refl (S : Nat → Prop) (w : World) : Kept S w w := ⟨rfl, rfl, rfl, Nat.le_refl _, fun _ _ _ => rfl⟩

theorem Kept.trans {S T : Nat → Prop} {a b c : World} (h : Kept S a b) (k : Kept T b c) (hT : ∀ i, T i → S i ∨ a.heap.size ≤ i) : Kept S a c :=
  ⟨k.os.trans h.os, k.tape.trans h.tape, k.output.trans h.output, Nat.le_trans h.size k.size, fun i hi hs =>
    (k.block i (Nat.lt_of_lt_of_le hi h.size) (fun ht => by rcases hT i ht with h1 | h1; exact hs h1; omega)).trans (h.block i hi hs)⟩

theorem Kept.mono {S T : Nat → Prop} {w w' : World} (h : Kept S w w') (hS : ∀ k, S k → T k) : Kept T w w' :=
  ⟨h.os, h.tape, h.output, h.size, fun k hk hn => h.block k hk (fun hs => hn (hS k hs))⟩

theorem Kept.of_below {S : Nat → Prop} {w w' : World} (h : Below w.heap.size w w') : Kept S w w' :=
  ⟨h.os, h.tape, h.output, h.size, fun k hk _ => h.block k hk⟩

theorem Kept.below {S : Nat → Prop} {w w' : World} {B : Nat} (h : Kept S w w') (hB : B ≤ w.heap.size) (hS : ∀ k, S k → B ≤ k) : Below B w w' :=
  ⟨h.os, h.tape, h.output, h.size, fun k hk => h.block k (by omega) (fun hs => by have := hS k hs; omega)⟩

theorem Kept.none {w w' : World} (h : Kept (fun _ => False) w w') : Below w.heap.size w w' := h.below (Nat.le_refl _) (fun _ h => h.elim)

theorem Kept.of_grown {w w' : World} {row : Option Nat} (h : w.grownBy w' row) : Kept (fun k => row = some k) w w' :=
  ⟨h.os, h.tape, h.output, h.size, fun k hk hn => h.block k hk (fun e => hn e.symm)⟩

theorem Kept.setCell (w : World) (p : Addr) (u : Value) : Kept (fun k => k = p.block) w (w.setCell p u) :=
  ⟨rfl, rfl, rfl, by simp [World.setCell], fun k _ hn => Below.heap_setCell _ _ _ _ hn⟩

theorem Kept.alloc (S : Nat → Prop) (w : World) (o : Obj) : Kept S w (w.alloc o) :=
  .of_below ((Below.refl _ _).alloc (Nat.le_refl _) _)

theorem Kept.drew (S : Nat → Prop) (w : World) : Kept S w w.drew := ⟨rfl, rfl, rfl, Nat.le_refl _, fun _ _ _ => rfl⟩

/-- A block that is known whole. -/
def Blk (w : World) (g : Nat) (t : TypeId) (cs : Array Value) : Prop := w.heap[g]? = some (.cells cs t (0, 0))

theorem Blk.lt {w : World} {g : Nat} {t : TypeId} {cs : Array Value} (h : Blk w g t cs) : g < w.heap.size := (Array.getElem?_eq_some_iff.1 h).1
theorem Blk.cell {w : World} {g : Nat} {t : TypeId} {cs : Array Value} (h : Blk w g t cs) (i : Nat) : w.cell? ⟨g, i, none⟩ = cs[i]? := cell_of_row w g i cs t (0, 0) h
theorem Blk.frozen {w : World} {g : Nat} {t : TypeId} {cs : Array Value} (h : Blk w g t cs) (i : Nat) : w.frozen? ⟨g, i, none⟩ = false := by
  unfold Blk at h
  simp [World.frozen?, h]
theorem Blk.kept {S : Nat → Prop} {w w' : World} {g : Nat} {t : TypeId} {cs : Array Value} (h : Blk w g t cs) (k : Kept S w w') (hn : ¬ S g) : Blk w' g t cs := (k.block g h.lt hn).trans h
theorem Blk.below {w w' : World} {g : Nat} {t : TypeId} {cs : Array Value} (h : Blk w g t cs) (k : Below w.heap.size w w') : Blk w' g t cs := (k.block g h.lt).trans h
theorem Blk.new (w : World) (t : TypeId) (cs : Array Value) : Blk (w.alloc (.cells cs t)) w.heap.size t cs := heap_alloc_new w _
theorem Blk.set {w : World} {g : Nat} {t : TypeId} {cs : Array Value} (h : Blk w g t cs) (i : Nat) (u : Value) : Blk (w.setCell ⟨g, i, none⟩ u) g t (cs.setIfInBounds i u) := by
  unfold Blk at h ⊢
  simp [World.setCell, Array.getElem?_modify, h]

theorem Row.keep {S : Nat → Prop} {w w' : World} {a : Option Addr} {len : Nat} {bs : List Nat} (h : Row w a len bs) (k : Kept S w w') (hn : ∀ ad, a = some ad → len ≠ 0 → ¬ S ad.block) : Row w' a len bs := by
  refine ⟨h.size, h.small, ?_⟩
  rcases h.cells with h0 | ⟨b, off, ha, hc⟩
  · exact .inl h0
  · by_cases h0 : len = 0
    · exact .inl h0
    · refine .inr ⟨b, off, ha, fun i hi => ?_⟩
      rw [World.cell?_of_block (w := w) (w' := w') (a := ⟨b, off + i, none⟩) (k.block b (block_lt_of_cell (hc i hi)) (hn _ ha h0))]
      exact hc i hi

theorem Row.lt {w : World} {a : Option Addr} {len : Nat} {bs : List Nat} (h : Row w a len bs) : ∀ ad, a = some ad → len ≠ 0 → ad.block < w.heap.size := by
  intro ad ha h0
  obtain ⟨b, off, ha', hc⟩ := h.cells.resolve_left h0
  rw [ha] at ha'
  injection ha' with ha'
  subst ha'
  exact block_lt_of_cell (hc 0 (by omega))

/-- A slice of bytes of the call's own, from block B on. -/
def Own (w : World) (B : Nat) (a : Option Addr) (len cap : Nat) (bs : List Nat) : Prop := w.ownsRow B 5 1 (.slice a len cap) len (cellsOf bs)

theorem Own.len {w : World} {B : Nat} {a : Option Addr} {len cap : Nat} {bs : List Nat} (h : Own w B a len cap bs) : bs.length = len := by
  have := h.1
  simpa [cellsOf] using this

theorem Own.row {w : World} {B : Nat} {a : Option Addr} {len cap : Nat} {bs : List Nat} (h : Own w B a len cap bs) (hs : ∀ c ∈ bs, c < 256) : Row w a len bs := by
  obtain ⟨a', cap', hv, hR, _⟩ := row_of_owns h hs
  simp only [Value.slice.injEq, true_and] at hv
  obtain ⟨rfl, _⟩ := hv
  exact hR

theorem Own.cap {w : World} {B : Nat} {a : Option Addr} {len cap : Nat} {bs : List Nat} (h : Own w B a len cap bs) : len ≤ cap ∧ cap ≤ maxLen ∧ (a = none → len = 0 ∧ cap = 0) := by
  rcases h.2 with ⟨h', _⟩ | ⟨g', cap', cur, h', _, _, hnc, hcm, _⟩
  · simp only [Value.slice.injEq] at h'
    obtain ⟨_, rfl, rfl⟩ := h'
    exact ⟨Nat.le_refl _, Nat.zero_le _, fun _ => ⟨rfl, rfl⟩⟩
  · simp only [Value.slice.injEq, true_and] at h'
    obtain ⟨rfl, rfl⟩ := h'
    exact ⟨hnc, hcm, fun h => by cases h⟩

theorem Own.lt {w : World} {B : Nat} {a : Option Addr} {len cap : Nat} {bs : List Nat} (h : Own w B a len cap bs) : ∀ ad, a = some ad → B ≤ ad.block ∧ ad.block < w.heap.size := by
  rintro ad rfl
  exact World.ownsRow.lt h ad.block rfl

theorem Own.keep {S : Nat → Prop} {w w' : World} {B : Nat} {a : Option Addr} {len cap : Nat} {bs : List Nat} (h : Own w B a len cap bs) (k : Kept S w w') (hn : ∀ ad, a = some ad → ¬ S ad.block) : Own w' B a len cap bs := by
  refine ⟨h.1, ?_⟩
  rcases h.2 with h0 | ⟨g, cap', cur, hv, hB, hg, rest⟩
  · exact .inl h0
  · refine .inr ⟨g, cap', cur, hv, hB, ?_, rest⟩
    rw [k.block g (Array.getElem?_eq_some_iff.1 hg).1 (hn ⟨g, 0, none⟩ (by injection hv))]
    exact hg

theorem Own.below {w w' : World} {B : Nat} {a : Option Addr} {len cap : Nat} {bs : List Nat} (h : Own w B a len cap bs) (hb : Below w.heap.size w w') : Own w' B a len cap bs :=
  h.keep (S := fun _ => False) (.of_below hb) (fun _ _ h => h)

theorem Own.mono {w : World} {B B' : Nat} {a : Option Addr} {len cap : Nat} {bs : List Nat} (h : Own w B a len cap bs) (hB : B' ≤ B) : Own w B' a len cap bs := by
  refine ⟨h.1, ?_⟩
  rcases h.2 with h0 | ⟨g, cap', cur, hv, hg, rest⟩
  · exact .inl h0
  · exact .inr ⟨g, cap', cur, hv, Nat.le_trans hB hg, rest⟩

theorem own_nil (w : World) (B : Nat) : Own w B none 0 0 [] := World.ownsRow_nil _ _ _ _

/-- Where a slice's own block lies behind an append: where it lay, or at the new block. -/
def Lies (w : World) (a a' : Option Addr) : Prop := ∀ ad, a' = some ad → (∃ ad0, a = some ad0 ∧ ad.block = ad0.block) ∨ w.heap.size ≤ ad.block

theorem run_append_own_row (W : World) (B ty : Nat) (a : Option Addr) (n c : Nat) (l : List Nat) (hown : Own W B a n c l) (a2 : Option Addr) (m c2 : Nat) (bs : List Nat) (hR : Row W a2 m bs) (hz : a2 = none → m = 0 ∧ c2 = 0) (hm : n + m ≤ 1000000) (hb : B ≤ W.heap.size) :
    ∃ a' cap w', (Builtin.append_ #[23, 23] ty #[.slice a n c, .slice a2 m c2]).run Try.prog W = .ok (.slice a' (n + m) cap) w' ∧
      Own w' B a' (n + m) cap (l ++ bs) ∧ Kept (fun k => ∃ ad, a = some ad ∧ k = ad.block) W w' ∧ Lies W a a' := by
  obtain ⟨i0, hii, hz0, hz1, hz2⟩ := info_parts info5
  cases a2 with
  | none =>
    obtain ⟨rfl, rfl⟩ := hz rfl
    obtain rfl := List.eq_nil_of_length_eq_zero hR.size
    exact ⟨a, c, W, run_append_owned_none W B 23 ty 5 i0 1 Try.underlying23 hii _ n _ hown, by simpa [Own] using hown, Kept.refl _ _, fun ad h => .inl ⟨ad, h, rfl⟩⟩
  | some ad =>
    obtain ⟨v', w', hr, h2, h3, _, h5⟩ := run_append_own_at (P := Try.prog) W B 23 ty 5 i0 (.int .u8 0) 1 1 Try.underlying23 hii hz0 hz1 hz2 rfl (by omega) (.slice a n c) n (cellsOf l) hown ad m c2 (cellsOf bs)
      (by rw [cellsOf_len, hR.size]; omega)
      (by
        rcases hR.cells with h0 | ⟨b, off, ha, _⟩
        · have : bs = [] := List.eq_nil_of_length_eq_zero (by rw [hR.size]; exact h0)
          subst this
          intro j u hu
          simp [cellsOf] at hu
        · obtain rfl := Option.some.inj ha
          exact hR.news)
      (cellsOf_one bs) (by unfold maxLen; omega) (by omega) hb
    have hform : ∃ a' cap, v' = .slice a' (n + m) cap := by
      rcases h2.2 with ⟨hv, hn⟩ | ⟨g, cap, cur, hv, _⟩
      · exact ⟨none, 0, by rw [hn]; exact hv⟩
      · exact ⟨_, cap, hv⟩
    obtain ⟨a', cap, rfl⟩ := hform
    refine ⟨a', cap, w', hr, by unfold Own; rw [cellsOf_append]; exact h2, ⟨h3.os, h3.tape, h3.output, h3.size, fun k hk hn => h3.block k hk (fun e => hn ?_)⟩, ?_⟩
    · cases a with
      | none => simp [Value.ownBlock] at e
      | some ad0 => simp [Value.ownBlock] at e; exact ⟨ad0, rfl, e⟩
    · rintro ad' rfl
      rcases h5 with h5 | h5
      · cases a with
        | none => simp [Value.ownBlock] at h5
        | some ad0 => simp [Value.ownBlock] at h5; exact .inl ⟨ad0, rfl, h5⟩
      · simp [Value.ownBlock] at h5
        exact .inr (by omega)

theorem wpList_append_own_row {ops : Array Oper} {rest : List Oper} {o : Oper} {act : Act} {Q : Exit → Act → World → Prop} (W : World) (hgd : o.guard = none) (s x : Operand)
    (ho : o.op = .call { callee := .builtin .append, args := #[s, x], argTypes := #[23, 23] })
    (B : Nat) (a : Option Addr) (n c : Nat) (l : List Nat) (hs : act.eval s = .slice a n c) (hown : Own W B a n c l) (a2 : Option Addr) (m c2 : Nat) (bs : List Nat) (hx : act.eval x = .slice a2 m c2) (hR : Row W a2 m bs) (hz : a2 = none → m = 0 ∧ c2 = 0) (hm : n + m ≤ 1000000) (hb : B ≤ W.heap.size)
    (h : ∀ a' cap w', Own w' B a' (n + m) cap (l ++ bs) → Kept (fun k => ∃ ad, a = some ad ∧ k = ad.block) W w' → Lies W a a' → wpList Try.prog ops Q rest (act.put o.dst (.slice a' (n + m) cap)) w') : wpList Try.prog ops Q (o :: rest) act W :=
  wpList_plain hgd fun _ hK => by
    obtain ⟨a', cap, w', hr, h2, h3, h4⟩ := run_append_own_row W B o.type a n c l hown a2 m c2 bs hR hz hm hb
    unfold Oper.wp execOp
    simp only [ho, resolve, invoke, builtin, Sem.run_bind, Sem.run_pure, Result.andThen_ok, List.map_toArray, List.map_cons, List.map_nil, hs, hx, hr]
    exact hK _ _ (h a' cap w' h2 h3 h4)

end Go.Proofs.Ytjpmjidpdgikgaa
