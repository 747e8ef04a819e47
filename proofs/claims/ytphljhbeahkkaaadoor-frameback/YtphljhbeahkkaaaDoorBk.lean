/- Where frames end, as plain lists; and slices of ints of the call's own, apart from those of bytes and of slices. -/
import Derived.Test.YtphljhbeahkkaaaDoorTk
namespace Go.Proofs.YtphljhbeahkkaaaDoor
open Go.RowKit

/-- Where each frame ends. -/
def endsL : List (List Nat) → List Nat
  | [] => []
  | l :: T => (Frm.fr l).length :: (endsL T).map ((Frm.fr l).length + ·)

theorem endsL_len : ∀ T : List (List Nat), (endsL T).length = T.length
  | [] => rfl
  | l :: T => by simp [endsL, endsL_len T]

theorem endsL_snoc (x : List Nat) : ∀ T : List (List Nat), endsL (T ++ [x]) = endsL T ++ [(Frm.frs (T ++ [x])).length]
  | [] => by simp [endsL, Frm.frs]
  | l :: T => by
    rw [List.cons_append, endsL, endsL_snoc x T, List.map_append, Frm.frs_cons, List.length_append]
    rfl

theorem endsL_le : ∀ (T : List (List Nat)), ∀ e ∈ endsL T, e ≤ (Frm.frs T).length
  | [], e, h => by simp [endsL] at h
  | l :: T, e, h => by
    rw [Frm.frs_cons, List.length_append]
    rcases List.mem_cons.1 h with rfl | h
    · omega
    · obtain ⟨e', h1, rfl⟩ := List.mem_map.1 h
      have := endsL_le T e' h1
      omega

/-- One step of the count of what ends at k or ahead of it. -/
def step (k : Nat) (s : Nat × Nat) (x : Nat) : Nat × Nat := if x ≤ k then (s.1 + 1, x) else s
def pass (k : Nat) (es : List Nat) : Nat × Nat := es.foldl (step k) (0, 0)

theorem pass_snoc (k : Nat) (es : List Nat) (x : Nat) : pass k (es ++ [x]) = step k (pass k es) x := by simp [pass]
theorem pass_yes {k : Nat} {es : List Nat} {x : Nat} (h : x ≤ k) : pass k (es ++ [x]) = ((pass k es).1 + 1, x) := by rw [pass_snoc, step, if_pos h]
theorem pass_no {k : Nat} {es : List Nat} {x : Nat} (h : k < x) : pass k (es ++ [x]) = pass k es := by rw [pass_snoc, step, if_neg (by omega)]

theorem fold_shift {k F : Nat} (h : F ≤ k) : ∀ (es : List Nat) (t : Nat × Nat), (es.map (F + ·)).foldl (step k) (t.1 + 1, F + t.2) = ((es.foldl (step (k - F)) t).1 + 1, F + (es.foldl (step (k - F)) t).2)
  | [], t => rfl
  | x :: es, t => by
    rw [List.map_cons, List.foldl_cons, List.foldl_cons]
    by_cases hx : x ≤ k - F
    · have e1 : step k (t.1 + 1, F + t.2) (F + x) = ((t.1 + 1) + 1, F + x) := by unfold step; rw [if_pos (by omega)]
      have e2 : step (k - F) t x = (t.1 + 1, x) := by unfold step; rw [if_pos hx]
      rw [e1, e2]
      exact fold_shift h es (t.1 + 1, x)
    · have e1 : step k (t.1 + 1, F + t.2) (F + x) = (t.1 + 1, F + t.2) := by unfold step; rw [if_neg (by omega)]
      have e2 : step (k - F) t x = t := by unfold step; rw [if_neg hx]
      rw [e1, e2]
      exact fold_shift h es t

theorem fold_none {k : Nat} : ∀ (es : List Nat) (t : Nat × Nat), (∀ x ∈ es, k < x) → es.foldl (step k) t = t
  | [], _, _ => rfl
  | x :: es, t, h => by
    have e : step k t x = t := by unfold step; rw [if_neg (by have := h x List.mem_cons_self; omega)]
    rw [List.foldl_cons, e]
    exact fold_none es t (fun y hy => h y (List.mem_cons_of_mem _ hy))

theorem pass_ends : ∀ (T : List (List Nat)) (k : Nat), pass k (endsL T) = Frm.whole k T
  | [], k => rfl
  | l :: T, k => by
    unfold pass endsL Frm.whole
    rw [List.foldl_cons]
    by_cases h : (Frm.fr l).length ≤ k
    · have e : step k (0, 0) (Frm.fr l).length = ((0, 0).1 + 1, (Frm.fr l).length + (0, 0).2) := by simp [step, h]
      rw [e, fold_shift h, if_pos h, ← pass_ends T]
      rfl
    · have e : step k (0, 0) (Frm.fr l).length = (0, 0) := by unfold step; rw [if_neg h]
      rw [e, if_neg h]
      exact fold_none _ _ (fun x hx => by
        obtain ⟨y, _, rfl⟩ := List.mem_map.1 hx
        omega)

theorem whole_le : ∀ (T : List (List Nat)) (k : Nat), (Frm.whole k T).1 ≤ T.length
  | [], k => Nat.le_refl _
  | l :: T, k => by
    unfold Frm.whole
    by_cases h : (Frm.fr l).length ≤ k
    · rw [if_pos h]
      have := whole_le T (k - (Frm.fr l).length)
      simpa using this
    · rw [if_neg h]; simp

theorem whole_last : ∀ (T : List (List Nat)) (k : Nat), (Frm.whole k T).2 ≤ k
  | [], k => Nat.zero_le _
  | l :: T, k => by
    unfold Frm.whole
    by_cases h : (Frm.fr l).length ≤ k
    · rw [if_pos h]
      have := whole_last T (k - (Frm.fr l).length)
      simp only
      omega
    · rw [if_neg h]; simp

theorem getD_took (T : List (List Nat)) (W i : Nat) (h : i < W) : (T.take W).getD i [] = T.getD i [] := by
  rw [List.getD_eq_getElem?_getD, List.getD_eq_getElem?_getD, List.getElem?_take_of_lt h]

theorem info3 : (Tryd.prog.info? 3).map (fun i => (i.zero, i.size, i.bytes)) = some (some (.int .i64 0), 1, 8) := by kernel_rfl

/-- Ints as cells. -/
def cellsI (l : List Nat) : List Value := l.map fun n => Value.int .i64 ((n : Nat) : Int)

/-- A slice of ints of the call's own. -/
def OwnI (w : World) (B : Nat) (a : Option Addr) (n cap : Nat) (es : List Nat) : Prop := w.ownsRow B 3 1 (.slice a n cap) n (cellsI es)

theorem OwnI.nil (w : World) (B : Nat) : OwnI w B none 0 0 [] := World.ownsRow_nil _ _ _ _

theorem OwnI.len {w : World} {B : Nat} {a : Option Addr} {n cap : Nat} {es : List Nat} (h : OwnI w B a n cap es) : es.length = n := by
  have := h.1
  simpa [cellsI] using this

theorem OwnI.lt {w : World} {B : Nat} {a : Option Addr} {n cap : Nat} {es : List Nat} (h : OwnI w B a n cap es) : ∀ k, At a k → B ≤ k ∧ k < w.heap.size := by
  rintro k ⟨ad, rfl, rfl⟩
  exact World.ownsRow.lt h ad.block rfl

theorem OwnI.keep {S : Nat → Prop} {w w' : World} {B : Nat} {a : Option Addr} {n cap : Nat} {es : List Nat} (h : OwnI w B a n cap es) (k : Kept S w w') (hn : ∀ i, At a i → ¬ S i) : OwnI w' B a n cap es := by
  refine ⟨h.1, ?_⟩
  rcases h.2 with h0 | ⟨g, cap', cur, hv, hB, hg, rest⟩
  · exact .inl h0
  · refine .inr ⟨g, cap', cur, hv, hB, ?_, rest⟩
    rw [k.block g (Array.getElem?_eq_some_iff.1 hg).1 (hn g ⟨⟨g, 0, none⟩, by injection hv, rfl⟩)]
    exact hg

theorem OwnI.below {w w' : World} {B : Nat} {a : Option Addr} {n cap : Nat} {es : List Nat} (h : OwnI w B a n cap es) (hb : Below w.heap.size w w') : OwnI w' B a n cap es :=
  h.keep (S := fun _ => False) (.of_below hb) (fun _ _ h => h)

theorem OwnI.cell {w : World} {B : Nat} {a : Option Addr} {n cap : Nat} {es : List Nat} (h : OwnI w B a n cap es) {i : Nat} (hi : i < n) : ∃ g, a = some ⟨g, 0, none⟩ ∧ w.cell? ⟨g, i, none⟩ = some (.int .i64 ((es.getD i 0 : Nat) : Int)) := by
  have hl := h.len
  rcases h.2 with ⟨_, h0⟩ | ⟨g, cap', cur, hsl, hB, hg, _, _, _, ht⟩
  · omega
  · simp only [Value.slice.injEq] at hsl
    refine ⟨g, hsl.1, ?_⟩
    rw [cell_of_row w g i cur 3 (0, 0) hg]
    have e : (cur.toList.take (n * 1))[i]? = (cellsI es)[i]? := by rw [ht]
    rw [List.getElem?_take_of_lt (by omega)] at e
    have hi' : i < es.length := by omega
    simp [cellsI, hi'] at e
    rw [getD_at hi']
    simpa using e

/-- What is known of blocks of unlike kinds: they are not one. -/
theorem kinds_apart {w : World} {B B' : Nat} {t t' s s' : Nat} {a a' : Option Addr} {n n' c c' : Nat} {xs xs' : List Value} (h : w.ownsRow B t s (.slice a n c) n xs) (h' : w.ownsRow B' t' s' (.slice a' n' c') n' xs') (ht : t ≠ t') : ∀ i, At a i → ¬ At a' i := by
  rintro i ⟨ad, rfl, rfl⟩ ⟨ad', rfl, e⟩
  rcases h.2 with ⟨h0, _⟩ | ⟨g, cap', cur, hv, _, hg, _⟩
  · simp at h0
  · rcases h'.2 with ⟨h0, _⟩ | ⟨g', cap'', cur', hv', _, hg', _⟩
    · simp at h0
    · simp only [Value.slice.injEq, Option.some.injEq] at hv hv'
      obtain ⟨rfl, _⟩ := hv
      obtain ⟨rfl, _⟩ := hv'
      simp only at e
      subst e
      rw [hg] at hg'
      simp only [Option.some.injEq, Obj.cells.injEq] at hg'
      exact ht hg'.2.1

/-- One more int behind the others. -/
theorem wpList_append_int {ops : Array Oper} {rest : List Oper} {o : Oper} {act : Act} {Q : Exit → Act → World → Prop} (wr : World) {B : Nat} {a : Option Addr} {n cap : Nat} {es : List Nat} {e : Nat}
    (hL : OwnI wr B a n cap es) (hB : B ≤ wr.heap.size) (hn : n ≤ 1000000) (hgd : o.guard = none) (s x : Operand)
    (ho : o.op = .call { callee := .builtin .append, args := #[s, x], argTypes := #[38, 38] }) (hs : act.eval s = .slice a n cap) (hx : act.eval x = .slice (some ⟨wr.heap.size, 0, none⟩) 1 1)
    (h : ∀ g cap' w', OwnI w' B (some ⟨g, 0, none⟩) (n + 1) cap' (es ++ [e]) → Kept (At a) wr w' → wpList Tryd.prog ops Q rest (act.put o.dst (.slice (some ⟨g, 0, none⟩) (n + 1) cap')) w') :
    wpList Tryd.prog ops Q (o :: rest) act (wr.alloc (.cells #[.int .i64 (e : Int)] 3)) := by
  obtain ⟨i0, hii, hz0, hz1, hz2⟩ := info_parts info3
  refine wpList_append_lies _ hgd s x 38 ho B 3 i0 (.int .i64 0) 1 8 Tryd.underlying38 hii hz0 hz1 hz2 rfl (by omega) (.slice a n cap) n (cellsI es) hs (World.ownsRow.alloc hL _) ⟨wr.heap.size, 0, none⟩ 1 1 [.int .i64 (e : Int)] hx rfl
    (World.news_of_block (cs := #[.int .i64 (e : Int)]) (t := 3) (fr := (0, 0)) (heap_alloc_new wr _)) (by simp [Value.oneCell']) (by omega) (by unfold maxLen; omega) (by omega) (by simp; omega) (wr.heap.size + 1) (by simp) ?_
  intro g cap' w' hown hgrow hat _
  have hK : Kept (At a) wr w' := by
    refine (Kept.alloc (At a) wr _).trans (T := At a) ⟨hgrow.os, hgrow.tape, hgrow.output, hgrow.size, fun k hk hnot => hgrow.block k hk (fun e => hnot ?_)⟩ (fun i hi => .inl hi)
    cases a with
    | none => simp [Value.ownBlock] at e
    | some ad => simp [Value.ownBlock] at e; exact ⟨ad, rfl, e⟩
  exact h g cap' w' (by unfold OwnI cellsI; rw [List.map_append]; exact hown) hK

/-- A slice of slices of bytes of the call's own, whose elements lie below block B. -/
structure Old (w : World) (B : Nat) (a : Option Addr) (n cap : Nat) (ls : List (List Nat)) : Prop where
  size : ls.length = n
  own : ∃ xs, w.ownsRow B 22 1 (.slice a n cap) n xs ∧ Sls w (fun i => B ≤ i) xs ls

theorem Old.nil (w : World) (B : Nat) : Old w B none 0 0 [] := ⟨rfl, [], World.ownsRow_nil _ _ _ _, trivial⟩

theorem Old.lt {w : World} {B : Nat} {a : Option Addr} {n cap : Nat} {ls : List (List Nat)} (h : Old w B a n cap ls) : ∀ k, At a k → B ≤ k ∧ k < w.heap.size := by
  rintro k ⟨ad, rfl, rfl⟩
  obtain ⟨xs, h1, _⟩ := h.own
  exact World.ownsRow.lt h1 ad.block rfl

theorem Old.keep {S : Nat → Prop} {w w' : World} {B : Nat} {a : Option Addr} {n cap : Nat} {ls : List (List Nat)} (h : Old w B a n cap ls) (k : Kept S w w') (hn : ∀ i, At a i → ¬ S i) (hs : ∀ i, S i → B ≤ i) : Old w' B a n cap ls := by
  obtain ⟨xs, h1, h2⟩ := h.own
  refine ⟨h.size, xs, ⟨h1.1, ?_⟩, h2.imp (fun v l hv => hv.keep k (fun i _ hi => hs i hi) |>.mono (fun _ _ h => h))⟩
  rcases h1.2 with h0 | ⟨g, cap', cur, hv, hB, hg, rest⟩
  · exact .inl h0
  · refine .inr ⟨g, cap', cur, hv, hB, ?_, rest⟩
    rw [k.block g (Array.getElem?_eq_some_iff.1 hg).1 (hn g ⟨⟨g, 0, none⟩, by injection hv, rfl⟩)]
    exact hg

theorem Old.below {w w' : World} {B : Nat} {a : Option Addr} {n cap : Nat} {ls : List (List Nat)} (h : Old w B a n cap ls) (hb : Below w.heap.size w w') : Old w' B a n cap ls :=
  h.keep (S := fun _ => False) (.of_below hb) (fun _ _ h => h) (fun _ h => h.elim)

theorem Old.cell {w : World} {B : Nat} {a : Option Addr} {n cap : Nat} {ls : List (List Nat)} (h : Old w B a n cap ls) {i : Nat} (hi : i < n) :
    ∃ g v, a = some ⟨g, 0, none⟩ ∧ w.cell? ⟨g, i, none⟩ = some v ∧ Sl w v (ls.getD i []) (fun i => B ≤ i) := by
  obtain ⟨xs, h1, h2⟩ := h.own
  obtain ⟨v, hv, hs⟩ := h2.at_ i (by rw [h.size]; exact hi)
  rcases h1.2 with ⟨_, rfl⟩ | ⟨g, cap', cur, hsl, hB, hg, _, _, _, ht⟩
  · omega
  · simp only [Value.slice.injEq] at hsl
    refine ⟨g, v, hsl.1, ?_, hs⟩
    rw [cell_of_row w g i cur 22 (0, 0) hg]
    have e : (cur.toList.take (n * 1))[i]? = xs[i]? := by rw [ht]
    rw [List.getElem?_take_of_lt (by omega), hv] at e
    simpa using e

theorem wpList_append_old {ops : Array Oper} {rest : List Oper} {o : Oper} {act : Act} {Q : Exit → Act → World → Prop} (wr : World) {B : Nat} {a : Option Addr} {n cap : Nat} {ls : List (List Nat)} {v : Value} {l : List Nat}
    (hL : Old wr B a n cap ls) (hv : Sl wr v l (fun i => B ≤ i)) (hB : B ≤ wr.heap.size) (hn : n ≤ 1000000) (hgd : o.guard = none) (s x : Operand)
    (ho : o.op = .call { callee := .builtin .append, args := #[s, x], argTypes := #[34, 34] }) (hs : act.eval s = .slice a n cap) (hx : act.eval x = .slice (some ⟨wr.heap.size, 0, none⟩) 1 1)
    (h : ∀ g cap' w', Old w' B (some ⟨g, 0, none⟩) (n + 1) cap' (ls ++ [l]) → Kept (At a) wr w' → wpList Tryd.prog ops Q rest (act.put o.dst (.slice (some ⟨g, 0, none⟩) (n + 1) cap')) w') :
    wpList Tryd.prog ops Q (o :: rest) act (wr.alloc (.cells #[v] 22)) := by
  obtain ⟨i0, hii, hz0, hz1, hz2⟩ := info_parts info22
  obtain ⟨xs, h1, h2⟩ := hL.own
  have hone : v.oneCell' = true := by obtain ⟨_, _, _, rfl, _⟩ := hv; rfl
  refine wpList_append_lies _ hgd s x 34 ho B 22 i0 (.slice none 0 0) 1 24 Tryd.underlying34 hii hz0 hz1 hz2 rfl (by omega) (.slice a n cap) n xs hs (h1.alloc _) ⟨wr.heap.size, 0, none⟩ 1 1 [v] hx rfl
    (World.news_of_block (cs := #[v]) (t := 22) (fr := (0, 0)) (heap_alloc_new wr _)) (by simpa using hone) (by omega) (by unfold maxLen; omega) (by omega) (by simp; omega) (wr.heap.size + 1) (by simp) ?_
  intro g cap' w' hown hgrow hat _
  have hK : Kept (At a) wr w' := by
    refine (Kept.alloc (At a) wr _).trans (T := At a) ⟨hgrow.os, hgrow.tape, hgrow.output, hgrow.size, fun k hk hnot => hgrow.block k hk (fun e => hnot ?_)⟩ (fun i hi => .inl hi)
    cases a with
    | none => simp [Value.ownBlock] at e
    | some ad => simp [Value.ownBlock] at e; exact ⟨ad, rfl, e⟩
  have hlift : ∀ u m, Sl wr u m (fun i => B ≤ i) → Sl w' u m (fun i => B ≤ i) := fun u m hu => hu.keep hK (fun i _ hi => (hL.lt i hi).1)
  exact h g cap' w' ⟨by simp [hL.size], xs ++ [v], hown, (h2.imp hlift).snoc (hlift v l hv)⟩ hK

end Go.Proofs.YtphljhbeahkkaaaDoor
