/- An append that leaves the slice that it was called with as it was. Slices of ints of the call's own, and slices of bytes that came in or were made. -/
import Derived.Test.YtfnaccmgmocolaaDoorSc
import Derived.Deep.Upon
import Derived.Lib.SlBytesConst
namespace Go.Proofs.YtfnaccmgmocolaaDoor
open Go.RowKit

theorem Own.form {w : World} {B : Nat} {a : Option Addr} {len cap : Nat} {bs : List Nat} (h : Own w B a len cap bs) (h0 : 0 < len) : ∃ g, a = some ⟨g, 0, none⟩ := by
  rcases h.2 with ⟨_, hn⟩ | ⟨g, cap', cur, hv, _⟩
  · omega
  · simp only [Value.slice.injEq] at hv
    exact ⟨g, hv.1⟩

/-- An append leaves the slice that it was called with as it was. -/
theorem append_old {W w' : World} {B g n c m c2 : Nat} {ty : TypeId} {l bs : List Nat} {ad : Addr} {v' : Value} (hown : Own W B (some ⟨g, 0, none⟩) n c l) (hs : ∀ x ∈ l, x < 256) (hR : Row W (some ad) m bs) (hm : n + m ≤ 1000000)
    (hr : (Builtin.append_ #[31, 31] ty #[.slice (some ⟨g, 0, none⟩) n c, .slice (some ad) m c2]).run Tryd.prog W = .ok v' w') : Row w' (some ⟨g, 0, none⟩) n l := by
  obtain ⟨i0, hii, hz0, hz1, hz2⟩ := info_parts info5
  have hrow := hown.row hs
  rcases hown.2 with ⟨hv, _⟩ | ⟨g', cap', cur, hv, _, hg, hnc, hcm, hcs, ht⟩
  · simp at hv
  · simp only [Value.slice.injEq, Option.some.injEq, Addr.mk.injEq, and_true, true_and] at hv
    obtain ⟨rfl, rfl⟩ := hv
    have hlt : g < W.heap.size := (Array.getElem?_eq_some_iff.1 hg).1
    have hc : Came W 1 (some ⟨g, 0, none⟩) g 0 n c (cellsOf l) := by
      refine ⟨hnc, fun _ => rfl, fun _ => hlt, by rw [cellsOf_len, hown.len]; omega, fun j u hu => ?_, fun j hj => ?_⟩
      · have := hrow.news j u hu
        by_cases hj0 : j = 0
        · subst hj0; simpa [Addr.add] using this
        · simpa [Addr.add, hj0] using this
      · refine ⟨?_, frozen_of_row W g _ cur 5 hg⟩
        rw [cell_of_row W g _ cur 5 (0, 0) hg, Array.getElem?_eq_getElem (by omega)]
        rfl
    obtain ⟨v2, w2, hr2, hU⟩ := run_append_upon (P := Tryd.prog) hc 31 31 ty i0 (.int .u8 0) 1 Tryd.underlying31 hii hz0 hz1 hz2 rfl (Upon.start hc) (.slice (some ad) m c2) m (cellsOf bs)
      (Src.ofSlice (w := W) Tryd.underlying31 ad m c2 (cellsOf bs) (by rw [cellsOf_len, hR.size]; omega) (by
        rcases hR.cells with h0 | ⟨b, off, ha, _⟩
        · have : bs = [] := List.eq_nil_of_length_eq_zero (by rw [hR.size]; exact h0)
          subst this
          intro j u hu
          simp [cellsOf] at hu
        · obtain rfl := Option.some.inj ha
          exact hR.news) (cellsOf_one bs)) (by unfold maxLen; omega) (by omega)
    have e : w2 = w' := (Result.ok.inj (hr2.symm.trans hr)).2
    subst e
    refine ⟨hrow.size, hs, ?_⟩
    rcases hrow.cells with h0 | ⟨b, off, ha, hcl⟩
    · exact .inl h0
    · simp only [Option.some.injEq, Addr.mk.injEq, and_true] at ha
      obtain ⟨rfl, rfl⟩ := ha
      exact .inr ⟨g, 0, rfl, fun i hi => by rw [hU.old (b' := g) (o' := 0 + i) hlt (fun j _ ⟨_, e⟩ => by omega)]; exact hcl i hi⟩

theorem wpList_append_keep {ops : Array Oper} {rest : List Oper} {o : Oper} {act : Act} {Q : Exit → Act → World → Prop} (W : World) (hgd : o.guard = none) (s x : Operand)
    (ho : o.op = .call { callee := .builtin .append, args := #[s, x], argTypes := #[31, 31] })
    (B g n c : Nat) (l : List Nat) (hs : act.eval s = .slice (some ⟨g, 0, none⟩) n c) (hown : Own W B (some ⟨g, 0, none⟩) n c l) (hsm : ∀ x ∈ l, x < 256) (ad : Addr) (m c2 : Nat) (bs : List Nat) (hx : act.eval x = .slice (some ad) m c2) (hR : Row W (some ad) m bs) (hm : n + m ≤ 1000000) (hb : B ≤ W.heap.size)
    (h : ∀ a' cap w', Own w' B a' (n + m) cap (l ++ bs) → Kept (At (some ⟨g, 0, none⟩)) W w' → Row w' (some ⟨g, 0, none⟩) n l → wpList Tryd.prog ops Q rest (act.put o.dst (.slice a' (n + m) cap)) w') : wpList Tryd.prog ops Q (o :: rest) act W :=
  wpList_plain hgd fun _ hK => by
    obtain ⟨a', cap, w', hr, h2, h3, h4⟩ := run_append_own_row W B o.type (some ⟨g, 0, none⟩) n c l hown (some ad) m c2 bs hR (fun h => by cases h) hm hb
    unfold Oper.wp execOp
    simp only [ho, resolve, invoke, builtin, Sem.run_bind, Sem.run_pure, Result.andThen_ok, List.map_toArray, List.map_cons, List.map_nil, hs, hx, hr]
    exact hK _ _ (h a' cap w' h2 h3 (append_old hown hsm hR hm hr))

end Go.Proofs.YtfnaccmgmocolaaDoor

namespace Go.Proofs.YtfnaccmgmocolaaDoor
open Go.RowKit

theorem info3 : (Tryd.prog.info? 3).map (fun i => (i.zero, i.size, i.bytes)) = some (some (.int .i64 0), 1, 8) := by kernel_rfl

/-- Ints as cells. -/
def cellsI (l : List Nat) : List Value := l.map fun n => Value.int .i64 ((n : Nat) : Int)

/-- A slice of ints of the call's own. -/
def OwnI (w : World) (B : Nat) (a : Option Addr) (n cap : Nat) (es : List Nat) : Prop := w.ownsRow B 3 1 (.slice a n cap) n (cellsI es)

theorem OwnI.nil (w : World) (B : Nat) : OwnI w B none 0 0 [] := World.ownsRow_nil _ _ _ _

theorem OwnI.len {w : World} {B : Nat} {a : Option Addr} {n cap : Nat} {es : List Nat} (h : OwnI w B a n cap es) : es.length = n := by
  have := h.1
  simpa [cellsI] using this

theorem OwnI.lt {w : World} {B : Nat} {a : Option Addr} {n cap : Nat} {es : List Nat} (h : OwnI w B a n cap es) : ∀ k, At a k → B ≤ k ∧ k < w.heap.size := by
  rintro k ⟨ad, rfl, rfl⟩
  exact World.ownsRow.lt h ad.block rfl

theorem OwnI.keep {S : Nat → Prop} {w w' : World} {B : Nat} {a : Option Addr} {n cap : Nat} {es : List Nat} (h : OwnI w B a n cap es) (k : Kept S w w') (hn : ∀ i, At a i → ¬ S i) : OwnI w' B a n cap es := by
  refine ⟨h.1, ?_⟩
  rcases h.2 with h0 | ⟨g, cap', cur, hv, hB, hg, rest⟩
  · exact .inl h0
  · refine .inr ⟨g, cap', cur, hv, hB, ?_, rest⟩
    rw [k.block g (Array.getElem?_eq_some_iff.1 hg).1 (hn g ⟨⟨g, 0, none⟩, by injection hv, rfl⟩)]
    exact hg

theorem OwnI.below {w w' : World} {B : Nat} {a : Option Addr} {n cap : Nat} {es : List Nat} (h : OwnI w B a n cap es) (hb : Below w.heap.size w w') : OwnI w' B a n cap es :=
  h.keep (S := fun _ => False) (.of_below hb) (fun _ _ h => h)

theorem OwnI.cell {w : World} {B : Nat} {a : Option Addr} {n cap : Nat} {es : List Nat} (h : OwnI w B a n cap es) {i : Nat} (hi : i < n) : ∃ g, a = some ⟨g, 0, none⟩ ∧ w.cell? ⟨g, i, none⟩ = some (.int .i64 ((es.getD i 0 : Nat) : Int)) := by
  have hl := h.len
  rcases h.2 with ⟨_, h0⟩ | ⟨g, cap', cur, hsl, hB, hg, _, _, _, ht⟩
  · omega
  · simp only [Value.slice.injEq] at hsl
    refine ⟨g, hsl.1, ?_⟩
    rw [cell_of_row w g i cur 3 (0, 0) hg]
    have e : (cur.toList.take (n * 1))[i]? = (cellsI es)[i]? := by rw [ht]
    rw [List.getElem?_take_of_lt (by omega)] at e
    have hi' : i < es.length := by omega
    simp [cellsI, hi'] at e
    rw [getD_at hi']
    simpa using e

/-- What is known of blocks of unlike kinds: they are not one. -/
theorem kinds_apart {w : World} {B B' : Nat} {t t' s s' : Nat} {a a' : Option Addr} {n n' c c' : Nat} {xs xs' : List Value} (h : w.ownsRow B t s (.slice a n c) n xs) (h' : w.ownsRow B' t' s' (.slice a' n' c') n' xs') (ht : t ≠ t') : ∀ i, At a i → ¬ At a' i := by
  rintro i ⟨ad, rfl, rfl⟩ ⟨ad', rfl, e⟩
  rcases h.2 with ⟨h0, _⟩ | ⟨g, cap', cur, hv, _, hg, _⟩
  · simp at h0
  · rcases h'.2 with ⟨h0, _⟩ | ⟨g', cap'', cur', hv', _, hg', _⟩
    · simp at h0
    · simp only [Value.slice.injEq, Option.some.injEq] at hv hv'
      obtain ⟨rfl, _⟩ := hv
      obtain ⟨rfl, _⟩ := hv'
      simp only at e
      subst e
      rw [hg] at hg'
      simp only [Option.some.injEq, Obj.cells.injEq] at hg'
      exact ht hg'.2.1

/-- One more int behind the others. -/
theorem wpList_append_int {ops : Array Oper} {rest : List Oper} {o : Oper} {act : Act} {Q : Exit → Act → World → Prop} (wr : World) {B : Nat} {a : Option Addr} {n cap : Nat} {es : List Nat} {e : Nat}
    (hL : OwnI wr B a n cap es) (hB : B ≤ wr.heap.size) (hn : n ≤ 1000000) (hgd : o.guard = none) (s x : Operand)
    (ho : o.op = .call { callee := .builtin .append, args := #[s, x], argTypes := #[42, 42] }) (hs : act.eval s = .slice a n cap) (hx : act.eval x = .slice (some ⟨wr.heap.size, 0, none⟩) 1 1)
    (h : ∀ g cap' w', OwnI w' B (some ⟨g, 0, none⟩) (n + 1) cap' (es ++ [e]) → Kept (At a) wr w' → wpList Tryd.prog ops Q rest (act.put o.dst (.slice (some ⟨g, 0, none⟩) (n + 1) cap')) w') :
    wpList Tryd.prog ops Q (o :: rest) act (wr.alloc (.cells #[.int .i64 (e : Int)] 3)) := by
  obtain ⟨i0, hii, hz0, hz1, hz2⟩ := info_parts info3
  refine wpList_append_lies _ hgd s x 42 ho B 3 i0 (.int .i64 0) 1 8 Tryd.underlying42 hii hz0 hz1 hz2 rfl (by omega) (.slice a n cap) n (cellsI es) hs (World.ownsRow.alloc hL _) ⟨wr.heap.size, 0, none⟩ 1 1 [.int .i64 (e : Int)] hx rfl
    (World.news_of_block (cs := #[.int .i64 (e : Int)]) (t := 3) (fr := (0, 0)) (heap_alloc_new wr _)) (by simp [Value.oneCell']) (by omega) (by unfold maxLen; omega) (by omega) (by simp; omega) (wr.heap.size + 1) (by simp) ?_
  intro g cap' w' hown hgrow hat _
  have hK : Kept (At a) wr w' := by
    refine (Kept.alloc (At a) wr _).trans (T := At a) ⟨hgrow.os, hgrow.tape, hgrow.output, hgrow.size, fun k hk hnot => hgrow.block k hk (fun e => hnot ?_)⟩ (fun i hi => .inl hi)
    cases a with
    | none => simp [Value.ownBlock] at e
    | some ad => simp [Value.ownBlock] at e; exact ⟨ad, rfl, e⟩
  exact h g cap' w' (by unfold OwnI cellsI; rw [List.map_append]; exact hown) hK

/-- A slice of slices of bytes of the call's own, whose elements lie below block B. -/
structure Old (w : World) (B : Nat) (a : Option Addr) (n cap : Nat) (ls : List (List Nat)) : Prop where
  size : ls.length = n
  own : ∃ xs, w.ownsRow B 31 1 (.slice a n cap) n xs ∧ Sls w (fun i => B ≤ i) xs ls

theorem Old.nil (w : World) (B : Nat) : Old w B none 0 0 [] := ⟨rfl, [], World.ownsRow_nil _ _ _ _, trivial⟩

theorem Old.lt {w : World} {B : Nat} {a : Option Addr} {n cap : Nat} {ls : List (List Nat)} (h : Old w B a n cap ls) : ∀ k, At a k → B ≤ k ∧ k < w.heap.size := by
  rintro k ⟨ad, rfl, rfl⟩
  obtain ⟨xs, h1, _⟩ := h.own
  exact World.ownsRow.lt h1 ad.block rfl

theorem Old.keep {S : Nat → Prop} {w w' : World} {B : Nat} {a : Option Addr} {n cap : Nat} {ls : List (List Nat)} (h : Old w B a n cap ls) (k : Kept S w w') (hn : ∀ i, At a i → ¬ S i) (hs : ∀ i, S i → B ≤ i) : Old w' B a n cap ls := by
  obtain ⟨xs, h1, h2⟩ := h.own
  refine ⟨h.size, xs, ⟨h1.1, ?_⟩, h2.imp (fun v l hv => hv.keep k (fun i _ hi => hs i hi) |>.mono (fun _ _ h => h))⟩
  rcases h1.2 with h0 | ⟨g, cap', cur, hv, hB, hg, rest⟩
  · exact .inl h0
  · refine .inr ⟨g, cap', cur, hv, hB, ?_, rest⟩
    rw [k.block g (Array.getElem?_eq_some_iff.1 hg).1 (hn g ⟨⟨g, 0, none⟩, by injection hv, rfl⟩)]
    exact hg

theorem Old.below {w w' : World} {B : Nat} {a : Option Addr} {n cap : Nat} {ls : List (List Nat)} (h : Old w B a n cap ls) (hb : Below w.heap.size w w') : Old w' B a n cap ls :=
  h.keep (S := fun _ => False) (.of_below hb) (fun _ _ h => h) (fun _ h => h.elim)

theorem Old.cell {w : World} {B : Nat} {a : Option Addr} {n cap : Nat} {ls : List (List Nat)} (h : Old w B a n cap ls) {i : Nat} (hi : i < n) :
    ∃ g v, a = some ⟨g, 0, none⟩ ∧ w.cell? ⟨g, i, none⟩ = some v ∧ Sl w v (ls.getD i []) (fun i => B ≤ i) := by
  obtain ⟨xs, h1, h2⟩ := h.own
  obtain ⟨v, hv, hs⟩ := h2.at_ i (by rw [h.size]; exact hi)
  rcases h1.2 with ⟨_, rfl⟩ | ⟨g, cap', cur, hsl, hB, hg, _, _, _, ht⟩
  · omega
  · simp only [Value.slice.injEq] at hsl
    refine ⟨g, v, hsl.1, ?_, hs⟩
    rw [cell_of_row w g i cur 31 (0, 0) hg]
    have e : (cur.toList.take (n * 1))[i]? = xs[i]? := by rw [ht]
    rw [List.getElem?_take_of_lt (by omega), hv] at e
    simpa using e

theorem wpList_append_old {ops : Array Oper} {rest : List Oper} {o : Oper} {act : Act} {Q : Exit → Act → World → Prop} (wr : World) {B : Nat} {a : Option Addr} {n cap : Nat} {ls : List (List Nat)} {v : Value} {l : List Nat}
    (hL : Old wr B a n cap ls) (hv : Sl wr v l (fun i => B ≤ i)) (hB : B ≤ wr.heap.size) (hn : n ≤ 1000000) (hgd : o.guard = none) (s x : Operand)
    (ho : o.op = .call { callee := .builtin .append, args := #[s, x], argTypes := #[56, 56] }) (hs : act.eval s = .slice a n cap) (hx : act.eval x = .slice (some ⟨wr.heap.size, 0, none⟩) 1 1)
    (h : ∀ g cap' w', Old w' B (some ⟨g, 0, none⟩) (n + 1) cap' (ls ++ [l]) → Kept (At a) wr w' → wpList Tryd.prog ops Q rest (act.put o.dst (.slice (some ⟨g, 0, none⟩) (n + 1) cap')) w') :
    wpList Tryd.prog ops Q (o :: rest) act (wr.alloc (.cells #[v] 31)) := by
  obtain ⟨i0, hii, hz0, hz1, hz2⟩ := info_parts info31
  obtain ⟨xs, h1, h2⟩ := hL.own
  have hone : v.oneCell' = true := by obtain ⟨_, _, _, rfl, _⟩ := hv; rfl
  refine wpList_append_lies _ hgd s x 56 ho B 31 i0 (.slice none 0 0) 1 24 Tryd.underlying56 hii hz0 hz1 hz2 rfl (by omega) (.slice a n cap) n xs hs (h1.alloc _) ⟨wr.heap.size, 0, none⟩ 1 1 [v] hx rfl
    (World.news_of_block (cs := #[v]) (t := 31) (fr := (0, 0)) (heap_alloc_new wr _)) (by simpa using hone) (by omega) (by unfold maxLen; omega) (by omega) (by simp; omega) (wr.heap.size + 1) (by simp) ?_
  intro g cap' w' hown hgrow hat _
  have hK : Kept (At a) wr w' := by
    refine (Kept.alloc (At a) wr _).trans (T := At a) ⟨hgrow.os, hgrow.tape, hgrow.output, hgrow.size, fun k hk hnot => hgrow.block k hk (fun e => hnot ?_)⟩ (fun i hi => .inl hi)
    cases a with
    | none => simp [Value.ownBlock] at e
    | some ad => simp [Value.ownBlock] at e; exact ⟨ad, rfl, e⟩
  have hlift : ∀ u m, Sl wr u m (fun i => B ≤ i) → Sl w' u m (fun i => B ≤ i) := fun u m hu => hu.keep hK (fun i _ hi => (hL.lt i hi).1)
  exact h g cap' w' ⟨by simp [hL.size], xs ++ [v], hown, (h2.imp hlift).snoc (hlift v l hv)⟩ hK

end Go.Proofs.YtfnaccmgmocolaaDoor
