/- Words for SegmentBack: how many records are whole, where they begin and end; ints appended to ints. -/
import Derived.Test.YtfnaccmgmocolaaDoorWo
namespace Go.Proofs.YtfnaccmgmocolaaDoor
open Go.RowKit

namespace Seg
theorem stops_ge : ∀ (b : Nat) (l : List O), ∀ x ∈ stops b l, b < x
  | _, [], _, h => by cases h
  | b, o :: l, x, h => by
    have hp := Frm.fr_pos (recB o)
    rcases List.mem_cons.1 h with rfl | h
    · omega
    · have := stops_ge (b + (Frm.fr (recB o)).length) l x h
      omega
theorem count_stops : ∀ (l : List O) (b k : Nat), (stops b l).countP (fun x => decide (x ≤ b + k)) = wholes k l
  | [], _, _ => rfl
  | o :: l, b, k => by
    rw [stops, wholes, List.countP_cons]
    by_cases h : (Frm.fr (recB o)).length ≤ k
    · rw [if_pos h, if_pos (by simpa using h)]
      have := count_stops l (b + (Frm.fr (recB o)).length) (k - (Frm.fr (recB o)).length)
      rw [show b + (Frm.fr (recB o)).length + (k - (Frm.fr (recB o)).length) = b + k by omega] at this
      rw [this]
    · rw [if_neg h, if_neg (by simpa using h)]
      rw [Nat.add_zero, List.countP_eq_zero]
      intro x hx
      have := stops_ge _ _ x hx
      simp
      omega
theorem starts_idx : ∀ (l : List O) (b i : Nat), i < l.length → (starts b l)[i]? = (b :: stops b l)[i]?
  | [], _, _, h => by simp at h
  | o :: l, b, 0, _ => by simp [starts]
  | o :: l, b, i + 1, h => by
    rw [starts, List.getElem?_cons_succ, stops, List.getElem?_cons_succ]
    exact starts_idx l _ i (by simpa using h)
theorem starts_take : ∀ (l : List O) (b j : Nat), starts b (l.take j) = (starts b l).take j
  | [], b, j => by simp [starts]
  | o :: l, b, 0 => by simp [starts]
  | o :: l, b, j + 1 => by
    rw [List.take_succ_cons, starts, starts, List.take_succ_cons, starts_take l]
end Seg

/-- A literal of one int is the call's own. -/
theorem own_lit (W : World) (x : Int) : OwnG (W.alloc (.cells #[.int .i64 x] 3)) 3 1 W.heap.size (some ⟨W.heap.size, 0, none⟩) 1 1 [[.int .i64 x]] :=
  ⟨⟨rfl, .inr ⟨W.heap.size, 1, #[.int .i64 x], rfl, Nat.le_refl _, heap_alloc_new W _, Nat.le_refl _, by unfold maxLen; omega, rfl, rfl⟩⟩, by simp, rfl⟩

theorem cellsN_flat : ∀ es : List Nat, (cellsN es).flatten = es.map fun z => Value.int .i64 ((z : Nat) : Int)
  | [] => rfl
  | e :: es => by
    have := cellsN_flat es
    simp only [cellsN, List.map_cons, List.flatten_cons] at this ⊢
    rw [this]
    rfl
/-- Ints appended to ints. -/
theorem held_appendN {ops : Array Oper} {Q : Exit → Act → World → Prop} {S : World → Prop} {fuel : Nat} {listed : Array Bool} {act : Act} {W : World} (i : Nat) (d : Tmp) {o : Oper}
    {x y : Operand} {B n cap m c b off : Nat} {a : Option Addr} {vs : List (List Value)} {es : List Nat} (hd : o.dst = some d) (hi0 : ops[i]? = some o) (hr : Region.ready .any ops listed = [i]) (hw : Region.wanted o (yielded ops act.tmps) = true) (ho : o.op = .call { callee := .builtin .append, args := #[x, y], argTypes := #[42, 42] })
    (hx : act.eval x = .slice a n cap) (hy : act.eval y = .slice (some ⟨b, off, none⟩) m c) (hown : OwnG W 3 1 B a n cap vs) (hl : es.length = m) (hc : ∀ (i z : Nat), es[i]? = some z → W.cell? ⟨b, off + i, none⟩ = some (.int .i64 (z : Int))) (hm : 0 < m) (hnm : n + m < 1000000000) (hB : B ≤ W.heap.size)
    (k : ∀ a' cap' w', OwnG w' 3 1 B a' (n + m) cap' (vs ++ cellsN es) → Kept (At a) W w' → Lies W a a' → S w' ∧ wpAnyH Tryd.prog .any ops Q S fuel (listed.setIfInBounds i true) (act.put (some d) (.slice a' (n + m) cap')) w') : wpAnyH Tryd.prog .any ops Q S (fuel + 1) listed act W := by
  obtain ⟨i0, hi, hz0, hz1, hz2⟩ := info_parts info3
  have hfl := cellsN_flat es
  refine wpAnyH_ready (rs := [i]) hr (by simp) (AllReadyH.cons hi0 (fun K hK => ?_) AllReadyH.nil)
  rw [if_pos hw]
  refine wp_append_lies W x y 42 ho B 3 i0 _ 1 8 und42n hi hz0 hz1 hz2 rfl (by decide) (.slice a n cap) n vs.flatten hx hown.row ⟨b, off, none⟩ m c (cellsN es).flatten hy (by rw [hfl]; simp [hl])
    (fun j u hu => ?_) (fun u hu => ?_) hm (by unfold maxLen; omega) (by omega) hB _ rfl ?_
  · rw [hfl, List.getElem?_map] at hu
    obtain ⟨z, hz, rfl⟩ := Option.map_eq_some_iff.1 hu
    have := hc j z hz
    rw [Addr.add_mid]
    exact this
  · rw [hfl] at hu
    obtain ⟨z, _, rfl⟩ := List.mem_map.1 hu
    rfl
  intro g' cap' w' h1' h2 h3 h4
  have hh := k _ cap' w' ⟨by simpa using h1', ?_, by simp [hown.len, cellsN, hl]⟩ ⟨h2.os, h2.tape, h2.output, h2.size, fun k hk hn => h2.block k hk (fun e => hn ?_)⟩ ?_
  · exact hK.out _ _ hh.1 (fun _ => by rw [hd]; exact hh.2)
  · intro v hv
    rcases List.mem_append.1 hv with hv | hv
    · exact hown.each v hv
    · obtain ⟨z, _, rfl⟩ := List.mem_map.1 hv
      rfl
  · cases a with
    | none => simp [Value.ownBlock] at e
    | some ad => exact ⟨ad, rfl, by simpa [Value.ownBlock] using e⟩
  · rintro ad rfl2
    obtain rfl := Option.some.inj rfl2
    rcases h3 with h3 | h3
    · cases a with
      | none => simp [Value.ownBlock] at h3
      | some ad => exact .inl ⟨ad, rfl, by simpa [Value.ownBlock] using h3.symm⟩
    · exact .inr (by simp [h3])

theorem ints_at {w : World} {B n c b off : Nat} {es : List Nat} (h : OwnG w 3 1 B (some ⟨b, off, none⟩) n c (cellsN es)) : ∀ (i z : Nat), es[i]? = some z → w.cell? ⟨b, off + i, none⟩ = some (.int .i64 (z : Int)) := fun i z hz => by
  obtain ⟨b', f', e, hc, _⟩ := int_idx h hz
  injection e with e
  injection e with e1 e2
  subst e1 e2
  exact hc

end Go.Proofs.YtfnaccmgmocolaaDoor
