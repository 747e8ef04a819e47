/- Slices of slices of bytes, and the walk of the program's Scan: what stands in all frames at the beginning of bytes. -/
import Derived.Test.YtcgbkfnjohbglaaDoorFs
namespace Go.Proofs.YtcgbkfnjohbglaaDoor
open Go.RowKit

theorem info48 : (Tryd.prog.info? 48).map (fun i => (i.zero, i.size, i.bytes)) = some (some (.slice none 0 0), 1, 24) := by kernel_rfl

/-- A slice of bytes as a value, and what it holds. -/
def Sl (w : World) (v : Value) (l : List Nat) (S : Nat → Prop) : Prop :=
  ∃ a len cap, v = .slice a len cap ∧ Row w a len l ∧ (a = none → len = 0 ∧ cap = 0) ∧ len ≤ cap ∧ (∀ ad, a = some ad → len ≠ 0 → ¬ S ad.block)

theorem Sl.keep {S T : Nat → Prop} {w w' : World} {v : Value} {l : List Nat} (h : Sl w v l S) (k : Kept T w w') (hT : ∀ i, i < w.heap.size → T i → S i) : Sl w' v l S := by
  obtain ⟨a, len, cap, h1, h2, h3, h4, h5⟩ := h
  exact ⟨a, len, cap, h1, h2.keep k (fun ad ha h0 ht => h5 ad ha h0 (hT _ (h2.lt ad ha h0) ht)), h3, h4, h5⟩

theorem Sl.mono {S T : Nat → Prop} {w : World} {v : Value} {l : List Nat} (h : Sl w v l S) (hT : ∀ i, i < w.heap.size → T i → S i) : Sl w v l T := by
  obtain ⟨a, len, cap, h1, h2, h3, h4, h5⟩ := h
  exact ⟨a, len, cap, h1, h2, h3, h4, fun ad ha h0 ht => h5 ad ha h0 (hT _ (h2.lt ad ha h0) ht)⟩

/-- Values that hold lists, one by one. -/
def Sls (w : World) (S : Nat → Prop) : List Value → List (List Nat) → Prop
  | [], [] => True
  | v :: vs, l :: ls => Sl w v l S ∧ Sls w S vs ls
  | _, _ => False

theorem Sls.imp {S T : Nat → Prop} {w w' : World} (hi : ∀ v l, Sl w v l S → Sl w' v l T) : ∀ {vs : List Value} {ls : List (List Nat)}, Sls w S vs ls → Sls w' T vs ls
  | [], [], _ => trivial
  | [], _ :: _, h => h.elim
  | _ :: _, [], h => h.elim
  | _ :: _, _ :: _, h => ⟨hi _ _ h.1, Sls.imp hi h.2⟩

theorem Sls.snoc {S : Nat → Prop} {w : World} {v : Value} {l : List Nat} (h1 : Sl w v l S) : ∀ {vs : List Value} {ls : List (List Nat)}, Sls w S vs ls → Sls w S (vs ++ [v]) (ls ++ [l])
  | [], [], _ => ⟨h1, trivial⟩
  | [], _ :: _, h => h.elim
  | _ :: _, [], h => h.elim
  | _ :: _, _ :: _, h => ⟨h.1, Sls.snoc h1 h.2⟩

theorem Sls.at_ {S : Nat → Prop} {w : World} : ∀ {vs : List Value} {ls : List (List Nat)} (i : Nat), Sls w S vs ls → i < ls.length → ∃ v, vs[i]? = some v ∧ Sl w v (ls.getD i []) S
  | [], [], i, _, h => by simp at h
  | [], _ :: _, _, h, _ => h.elim
  | _ :: _, [], _, h, _ => h.elim
  | v :: _, _ :: _, 0, h, _ => ⟨v, rfl, h.1⟩
  | _ :: vs, _ :: ls, i + 1, h, hi => by
    obtain ⟨v, h1, h2⟩ := Sls.at_ (vs := vs) (ls := ls) i h.2 (by simpa using hi)
    exact ⟨v, by simpa using h1, by simpa using h2⟩

theorem Sls.len {S : Nat → Prop} {w : World} : ∀ {vs : List Value} {ls : List (List Nat)}, Sls w S vs ls → vs.length = ls.length
  | [], [], _ => rfl
  | [], _ :: _, h => h.elim
  | _ :: _, [], h => h.elim
  | _ :: _, _ :: _, h => by simp [Sls.len h.2]

theorem Sls.one {S : Nat → Prop} {w : World} : ∀ {vs : List Value} {ls : List (List Nat)}, Sls w S vs ls → ∀ u ∈ vs, u.oneCell' = true
  | [], _, _ => by simp
  | _ :: _, [], h => h.elim
  | v :: vs, _ :: _, h => fun u hu => by
    rcases List.mem_cons.1 hu with rfl | hu
    · obtain ⟨a, len, cap, rfl, _⟩ := h.1
      rfl
    · exact Sls.one h.2 u hu

/-- The block that a slice lies in. -/
def At (a : Option Addr) (k : Nat) : Prop := ∃ ad, a = some ad ∧ k = ad.block

/-- A slice of slices of bytes of the call's own, from block B on. -/
structure Lst (w : World) (B : Nat) (a : Option Addr) (n cap : Nat) (ls : List (List Nat)) : Prop where
  size : ls.length = n
  own : ∃ xs, w.ownsRow B 48 1 (.slice a n cap) n xs ∧ Sls w (At a) xs ls

theorem Lst.nil (w : World) (B : Nat) : Lst w B none 0 0 [] := ⟨rfl, [], World.ownsRow_nil _ _ _ _, trivial⟩

theorem Lst.lt {w : World} {B : Nat} {a : Option Addr} {n cap : Nat} {ls : List (List Nat)} (h : Lst w B a n cap ls) : ∀ k, At a k → B ≤ k ∧ k < w.heap.size := by
  rintro k ⟨ad, rfl, rfl⟩
  obtain ⟨xs, h1, _⟩ := h.own
  exact World.ownsRow.lt h1 ad.block rfl

theorem Lst.keep {S : Nat → Prop} {w w' : World} {B : Nat} {a : Option Addr} {n cap : Nat} {ls : List (List Nat)} (h : Lst w B a n cap ls) (k : Kept S w w') (hn : ∀ i, At a i → ¬ S i) (hs : ∀ i, i < w.heap.size → ¬ S i) : Lst w' B a n cap ls := by
  obtain ⟨xs, h1, h2⟩ := h.own
  refine ⟨h.size, xs, ⟨h1.1, ?_⟩, h2.imp (fun v l hv => hv.keep k (fun i hi hS => absurd hS (hs i hi)))⟩
  rcases h1.2 with h0 | ⟨g, cap', cur, hv, hB, hg, rest⟩
  · exact .inl h0
  · refine .inr ⟨g, cap', cur, hv, hB, ?_, rest⟩
    rw [k.block g (Array.getElem?_eq_some_iff.1 hg).1 (hn g ⟨⟨g, 0, none⟩, by injection hv, rfl⟩)]
    exact hg

theorem Lst.below {w w' : World} {B : Nat} {a : Option Addr} {n cap : Nat} {ls : List (List Nat)} (h : Lst w B a n cap ls) (hb : Below w.heap.size w w') : Lst w' B a n cap ls :=
  h.keep (S := fun _ => False) (.of_below hb) (fun _ _ h => h) (fun _ _ h => h)

theorem Lst.mono {w : World} {B B' : Nat} {a : Option Addr} {n cap : Nat} {ls : List (List Nat)} (h : Lst w B a n cap ls) (hB : B' ≤ B) : Lst w B' a n cap ls := by
  obtain ⟨xs, h1, h2⟩ := h.own
  refine ⟨h.size, xs, ⟨h1.1, ?_⟩, h2⟩
  rcases h1.2 with h0 | ⟨g, cap', cur, hv, hg, rest⟩
  · exact .inl h0
  · exact .inr ⟨g, cap', cur, hv, Nat.le_trans hB hg, rest⟩

/-- Reading an element. -/
theorem Lst.cell {w : World} {B : Nat} {a : Option Addr} {n cap : Nat} {ls : List (List Nat)} (h : Lst w B a n cap ls) {i : Nat} (hi : i < n) :
    ∃ g v, a = some ⟨g, 0, none⟩ ∧ w.cell? ⟨g, i, none⟩ = some v ∧ Sl w v (ls.getD i []) (At a) := by
  obtain ⟨xs, h1, h2⟩ := h.own
  obtain ⟨v, hv, hs⟩ := h2.at_ i (by rw [h.size]; exact hi)
  rcases h1.2 with ⟨_, rfl⟩ | ⟨g, cap', cur, hsl, hB, hg, _, _, _, ht⟩
  · omega
  · simp only [Value.slice.injEq] at hsl
    refine ⟨g, v, hsl.1, ?_, hs⟩
    rw [cell_of_row w g i cur 48 (0, 0) hg]
    have e : (cur.toList.take (n * 1))[i]? = xs[i]? := by rw [ht]
    rw [List.getElem?_take_of_lt (by omega), hv] at e
    simpa using e

/-- One more element behind the others. -/
theorem wpList_append_lst {ops : Array Oper} {rest : List Oper} {o : Oper} {act : Act} {Q : Exit → Act → World → Prop} (wr : World) {B : Nat} {a : Option Addr} {n cap : Nat} {ls : List (List Nat)} {v : Value} {l : List Nat}
    (hL : Lst wr B a n cap ls) (hv : Sl wr v l (At a)) (hB : B ≤ wr.heap.size) (hn : n ≤ 1000000) (hgd : o.guard = none) (s x : Operand)
    (ho : o.op = .call { callee := .builtin .append, args := #[s, x], argTypes := #[109, 109] }) (hs : act.eval s = .slice a n cap) (hx : act.eval x = .slice (some ⟨wr.heap.size, 0, none⟩) 1 1)
    (h : ∀ g cap' w', Lst w' B (some ⟨g, 0, none⟩) (n + 1) cap' (ls ++ [l]) → Kept (At a) wr w' → wpList Tryd.prog ops Q rest (act.put o.dst (.slice (some ⟨g, 0, none⟩) (n + 1) cap')) w') :
    wpList Tryd.prog ops Q (o :: rest) act (wr.alloc (.cells #[v] 48)) := by
  obtain ⟨i0, hii, hz0, hz1, hz2⟩ := info_parts info48
  obtain ⟨xs, h1, h2⟩ := hL.own
  have hone : v.oneCell' = true := by obtain ⟨_, _, _, rfl, _⟩ := hv; rfl
  refine wpList_append_lies _ hgd s x 109 ho B 48 i0 (.slice none 0 0) 1 24 Tryd.underlying109 hii hz0 hz1 hz2 rfl (by omega) (.slice a n cap) n xs hs (h1.alloc _) ⟨wr.heap.size, 0, none⟩ 1 1 [v] hx rfl
    (World.news_of_block (cs := #[v]) (t := 48) (fr := (0, 0)) (heap_alloc_new wr _)) (by simpa using hone) (by omega) (by unfold maxLen; omega) (by omega) (by simp; omega) (wr.heap.size + 1) (by simp) ?_
  intro g cap' w' hown hgrow hat _
  have hK : Kept (At a) wr w' := by
    refine (Kept.alloc (At a) wr _).trans (T := At a) ⟨hgrow.os, hgrow.tape, hgrow.output, hgrow.size, fun k hk hnot => hgrow.block k hk (fun e => hnot ?_)⟩ (fun i hi => .inl hi)
    cases a with
    | none => simp [Value.ownBlock] at e
    | some ad => simp [Value.ownBlock] at e; exact ⟨ad, rfl, e⟩
  have hg : ∀ i, i < wr.heap.size → At (some ⟨g, 0, none⟩) i → At a i := by
    rintro i hi ⟨ad, e, rfl⟩
    obtain rfl := Option.some.inj e
    rcases hat with hat | hat
    · cases a with
      | none => simp [Value.ownBlock] at hat
      | some ad0 => simp [Value.ownBlock] at hat; exact ⟨ad0, rfl, hat.symm⟩
    · simp at hi; omega
  have hlift : ∀ u m, Sl wr u m (At a) → Sl w' u m (At (some ⟨g, 0, none⟩)) := by
    intro u m hu
    obtain ⟨a1, len1, cap1, e1, e2, e3, e4, e5⟩ := hu
    exact ⟨a1, len1, cap1, e1, e2.keep hK e5, e3, e4, fun ad ha h0 ht => e5 ad ha h0 (hg _ (e2.lt ad ha h0) ht)⟩
  exact h g cap' w' ⟨by simp [hL.size], xs ++ [v], hown, (h2.imp hlift).snoc (hlift v l hv)⟩ hK

/-- What Scan leaves. -/
def ScanP (bs : List Nat) (w : World) (e : Ending) (w' : World) : Prop :=
  ∃ a cap, e = .returned (.tuple #[.slice a (Frm.scan bs).1.length cap, .int .i64 ((Frm.scan bs).2 : Int)]) ∧ Lst w' w.heap.size a (Frm.scan bs).1.length cap (Frm.scan bs).1 ∧ Below w.heap.size w w'

theorem scanP_of {bs : List Nat} {w w' : World} {a : Option Addr} {n cap k : Nat} {L : List (List Nat)} (h : Frm.scan bs = (L, k)) (hL : Lst w' w.heap.size a n cap L) (hb : Below w.heap.size w w') :
    ScanP bs w (.returned (.tuple #[.slice a n cap, .int .i64 (k : Int)])) w' := by
  unfold ScanP
  rw [h]
  have := hL.size
  exact ⟨a, cap, by simp [this], by simpa [this] using hL, hb⟩

/-- What is known in the middle of a scan. -/
structure Mid (bs : List Nat) (w wr : World) (a : Option Addr) (n cap k : Nat) (L : List (List Nat)) : Prop where
  lst : Lst wr w.heap.size a n cap L
  old : Below w.heap.size w wr
  sofar : Frm.scan bs = (L ++ (Frm.scan (bs.drop k)).1, k + (Frm.scan (bs.drop k)).2)

theorem Mid.stop {bs : List Nat} {w wr w' : World} {a : Option Addr} {n cap k : Nat} {L : List (List Nat)} (h : Mid bs w wr a n cap k L) (he : (Frm.first (bs.drop k)).2.2 ≠ 0) (hb : Below wr.heap.size wr w') :
    ScanP bs w (.returned (.tuple #[.slice a n cap, .int .i64 (k : Int)])) w' := by
  have hs := h.sofar
  rw [Frm.scan_stop he] at hs
  exact scanP_of (by simpa using hs) (h.lst.below hb) (h.old.trans (hb.mono h.old.size))

theorem Mid.step {bs : List Nat} {w wr w' : World} {a : Option Addr} {n cap k : Nat} {L : List (List Nat)} {g cap' : Nat} (h : Mid bs w wr a n cap k L) (he : (Frm.first (bs.drop k)).2.2 = 0)
    (hL : Lst w' w.heap.size (some ⟨g, 0, none⟩) (n + 1) cap' (L ++ [(Frm.first (bs.drop k)).1])) (hb : Below w.heap.size w w') :
    Mid bs w w' (some ⟨g, 0, none⟩) (n + 1) cap' (k + (Frm.first (bs.drop k)).2.1) (L ++ [(Frm.first (bs.drop k)).1]) := by
  have hs := h.sofar
  rw [Frm.scan_step he, List.drop_drop] at hs
  exact ⟨hL, hb, by rw [hs]; simp [Nat.add_assoc]⟩


end Go.Proofs.YtcgbkfnjohbglaaDoor
