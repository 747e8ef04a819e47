/- Makers of memory in whatever order a region draws: an append of a whole list, of one element, a new block. -/
import Derived.Test.YtmibfbbkjejkmaaApp
namespace Go.Proofs.Ytmibfbbkjejkmaa
open Go.RowKit Fold

theorem OwnG.ne {w : World} {e size B n cap g : Nat} {a : Option Addr} {vs : List (List Value)} {t : TypeId} {cs : Array Value} (h : OwnG w e size B a n cap vs) (hb : Blk w g t cs) (ht : e ≠ t) : ¬ At a g := by
  rintro ⟨ad, rfl, rfl⟩
  rcases h.row.2 with ⟨h0, _⟩ | ⟨g', cap', cur, hv, hB, hg, _⟩
  · cases h0
  · cases hv
    unfold Blk at hb
    simp only at hb
    rw [hg] at hb
    cases hb
    exact ht rfl
/-- A whole list, appended to nothing. -/
def Copied (W : World) (B n : Nat) (l : List O) (v : Value) (w' : World) : Prop := ∃ a' cap', v = .slice a' n cap' ∧ OwnO w' B a' n cap' l ∧ Below W.heap.size W w'
theorem wp_appendL {o : Oper} {act : Act} {W : World} {K : Act → World → Prop} {Q : Exit → Act → World → Prop} {x y : Operand} {a : Option Addr} {n cap B : Nat} {l : List O} (ho : o.op = .call { callee := .builtin .append, args := #[x, y], argTypes := #[22, 22] })
    (hx : act.eval x = .slice none 0 0) (hy : act.eval y = .slice a n cap) (hl : OL W a n l) (hn : n < 1000000) (hB : B ≤ W.heap.size)
    (k : ∀ v w', Copied W B n l v w' → K (act.put o.dst v) w') : Oper.wp Try.prog o act W K Q := by
  by_cases h0 : n = 0
  · subst h0
    have hlen := OL.len' hl
    obtain rfl : l = [] := List.eq_nil_of_length_eq_zero hlen
    unfold Oper.wp
    rw [exec_app0 ho hx hy]
    exact k _ _ ⟨none, 0, rfl, ownG_nil _ _ _ _, Below.refl _ _⟩
  · obtain ⟨b, off, x0, rfl, _, _⟩ := OL.at hl (i := 0) (by omega)
    exact wp_appendN ho hx hy hl (by omega) hn hB (fun a' cap' w' h1 h2 => k _ _ ⟨a', cap', rfl, h1, h2.below (Nat.le_refl _) (fun _ h => h.elim)⟩)
section
variable {ops : Array Oper} {Q : Exit → Act → World → Prop} {S : World → Prop} {fuel : Nat} {listed : Array Bool} {a : Act} {w : World} {rs : List Nat}
theorem br_copy (i : Nat) (d : Tmp) {oi : Oper} {x y : Operand} {ad : Option Addr} {n cap B : Nat} {l : List O} (hd : oi.dst = some d) (hi : ops[i]? = some oi) (hw : Region.wanted oi (yielded ops a.tmps) = true) (ho : oi.op = .call { callee := .builtin .append, args := #[x, y], argTypes := #[22, 22] })
    (hx : a.eval x = .slice none 0 0) (hy : a.eval y = .slice ad n cap) (hl : OL w ad n l) (hn : n < 1000000) (hB : B ≤ w.heap.size) (hm : ∀ w', Below w.heap.size w w' → S w')
    (h : ∀ a' cap' w', OwnO w' B a' n cap' l → Below w.heap.size w w' → S w' → wpAnyH Try.prog .any ops Q S fuel (listed.setIfInBounds i true) (a.put (some d) (.slice a' n cap')) w') (hs : AllReadyH Try.prog .any ops Q S fuel listed a w rs) : AllReadyH Try.prog .any ops Q S fuel listed a w (i :: rs) := by
  refine AllReadyH.cons hi (fun K hK => ?_) hs
  rw [if_pos hw]
  refine wp_appendL ho hx hy hl hn hB (fun v w' ⟨a', cap', e, h1, h2⟩ => ?_)
  subst e
  exact hK.out _ _ (hm w' h2) (fun hS => by rw [hd]; exact h a' cap' w' h1 h2 hS)
theorem br_new (i : Nat) (d : Tmp) {oi : Oper} (v : Nat → Value) {cs : Array Value} {t : TypeId} (hd : oi.dst = some d) (hi : ops[i]? = some oi) (hw : Region.wanted oi (yielded ops a.tmps) = true)
    (hy : (execOp a.eval oi).run Try.prog w = .ok (.value (v w.heap.size)) (w.alloc (.cells cs t))) (hm : ∀ w', Below w.heap.size w w' → S w')
    (h : ∀ g w', w.heap.size ≤ g → Blk w' g t cs → Below w.heap.size w w' → S w' → wpAnyH Try.prog .any ops Q S fuel (listed.setIfInBounds i true) (a.put (some d) (v g)) w') (hs : AllReadyH Try.prog .any ops Q S fuel listed a w rs) : AllReadyH Try.prog .any ops Q S fuel listed a w (i :: rs) :=
  br_exec i d (v w.heap.size) hd hi hw hy (hm _ (below_one w _)) (h _ _ (Nat.le_refl _) (Blk.new w t cs) (below_one w _) (hm _ (below_one w _))) hs
/-- One element appended. -/
theorem br_app (i : Nat) (d : Tmp) {oi : Oper} (t e size bytes : Nat) {z : Value} (hinfo : (Try.prog.info? e).map (fun i => (i.zero, i.size, i.bytes)) = some (some z, size, bytes)) (ht : Try.prog.underlying t = some (.slice e)) (hzs : z.cells.size = size) (hsz : 0 < size) (hby : bytes ≤ 1000)
    {x y : Operand} {B n cap g : Nat} {ad : Option Addr} {vs : List (List Value)} {cs : Array Value} (hd : oi.dst = some d) (hi0 : ops[i]? = some oi) (hw : Region.wanted oi (yielded ops a.tmps) = true) (ho : oi.op = .call { callee := .builtin .append, args := #[x, y], argTypes := #[t, t] })
    (hx : a.eval x = .slice ad n cap) (hy : a.eval y = .slice (some ⟨g, 0, none⟩) 1 1) (hown : OwnG w e size B ad n cap vs) (hg : Blk w g e cs) (hc : cs.size = size) (h1 : ∀ u ∈ cs.toList, u.oneCell' = true) (hn : n < 1000000000) (hB : B ≤ w.heap.size)
    (hm : ∀ w', Kept (At ad) w w' → S w')
    (k : ∀ a' cap' w', OwnG w' e size B a' (n + 1) cap' (vs ++ [cs.toList]) → Kept (At ad) w w' → Lies w ad a' → S w' → wpAnyH Try.prog .any ops Q S fuel (listed.setIfInBounds i true) (a.put (some d) (.slice a' (n + 1) cap')) w')
    (hs : AllReadyH Try.prog .any ops Q S fuel listed a w rs) : AllReadyH Try.prog .any ops Q S fuel listed a w (i :: rs) := by
  obtain ⟨i0, hi, hz0, hz1, hz2⟩ := info_parts hinfo
  have hnb : (n + 1) * bytes ≤ 140737488355328 := by
    have : (n + 1) * bytes ≤ 1000000000 * 1000 := Nat.mul_le_mul (by omega) hby
    omega
  refine AllReadyH.cons hi0 (fun K hK => ?_) hs
  rw [if_pos hw]
  refine wp_append_lies w x y t ho B e i0 _ size bytes ht hi hz0 hz1 hz2 hzs hsz (.slice ad n cap) n vs.flatten hx hown.row ⟨g, 0, none⟩ 1 1 cs.toList hy (by simp [hc])
    (World.news_of_block (cs := cs) (t := e) (fr := (0, 0)) hg) h1 (by omega) (by unfold maxLen; omega) hnb hB _ rfl ?_
  intro g' cap' w' h1' h2 h3 h4
  have hk : Kept (At ad) w w' := ⟨h2.os, h2.tape, h2.output, h2.size, fun k hk hn => h2.block k hk (fun e => hn (by
    cases ad with
    | none => simp [Value.ownBlock] at e
    | some ad => exact ⟨ad, rfl, by simpa [Value.ownBlock] using e⟩))⟩
  have hh := k (some ⟨g', 0, none⟩) cap' w' ⟨by simpa using h1', ?_, by simp [hown.len]⟩ hk ?_
  · exact hK.out _ _ (hm w' hk) (fun hS => by rw [hd]; exact hh hS)
  · intro v hv
    rcases List.mem_append.1 hv with hv | hv
    · exact hown.each v hv
    · obtain rfl : v = cs.toList := by simpa using hv
      simp [hc]
  · rintro ad' rfl2
    obtain rfl := Option.some.inj rfl2
    rcases h3 with h3 | h3
    · cases ad with
      | none => simp [Value.ownBlock] at h3
      | some ad => exact .inl ⟨ad, rfl, by simpa [Value.ownBlock] using h3.symm⟩
    · exact .inr (by simp [h3])
end
/-- A place where ways meet: what holds behind a region, of the frame ahead of it. -/
theorem wp_cut {P : Program} {c : Code} {Q : Exit → Act → World → Prop} {a : Act} {w : World} (Post : Act → Act → World → Prop) (hq : ∀ a' w', Post a a' w' → Q .normal a' w') (h : c.wp P (fun e a' w' => e = .normal ∧ Post a a' w') a w) : c.wp P Q a w :=
  Code.wp_mono (fun e a' w' ⟨he, hp⟩ => by subst he; exact hq a' w' hp) h
/-- A new view. -/
theorem exec_alloc44 {ev : Operand → Value} {q : Oper} {w : World} (ho : q.op = .alloc 44) : (execOp ev q).run Try.prog w = .ok (.value (.pointer (some ⟨w.heap.size, 0, none⟩))) (w.alloc (.cells (viewV 0 (.slice none 0 0) false 0) 44)) := by
  unfold execOp
  simp only [ho]
  have z44 := Try.zeroValue44
  go_simp
  rfl

end Go.Proofs.Ytmibfbbkjejkmaa
