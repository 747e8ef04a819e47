/- An append of one element to a slice of structs, in a region that draws. -/
import Derived.Test.YtjpmjidpdgikgaaOl
namespace Go.Proofs.Ytjpmjidpdgikgaa
open Go.RowKit

theorem held_appendG {ops : Array Oper} {Q : Exit → Act → World → Prop} {S : World → Prop} {fuel : Nat} {listed : Array Bool} {act : Act} {W : World} (i : Nat) (d : Tmp) {o : Oper} (t e size bytes : Nat) {z : Value} (hinfo : (Try.prog.info? e).map (fun i => (i.zero, i.size, i.bytes)) = some (some z, size, bytes)) (ht : Try.prog.underlying t = some (.slice e)) (hzs : z.cells.size = size) (hsz : 0 < size) (hby : bytes ≤ 1000)
    {x y : Operand} {B n cap g : Nat} {a : Option Addr} {vs : List (List Value)} {cs : Array Value} (hd : o.dst = some d) (hi0 : ops[i]? = some o) (hr : Region.ready .any ops listed = [i]) (hw : Region.wanted o (yielded ops act.tmps) = true) (ho : o.op = .call { callee := .builtin .append, args := #[x, y], argTypes := #[t, t] })
    (hx : act.eval x = .slice a n cap) (hy : act.eval y = .slice (some ⟨g, 0, none⟩) 1 1) (hown : OwnG W e size B a n cap vs) (hg : Blk W g e cs) (hc : cs.size = size) (h1 : ∀ u ∈ cs.toList, u.oneCell' = true) (hn : n < 1000000000) (hB : B ≤ W.heap.size)
    (k : ∀ a' cap' w', OwnG w' e size B a' (n + 1) cap' (vs ++ [cs.toList]) → Kept (At a) W w' → Lies W a a' → S w' ∧ wpAnyH Try.prog .any ops Q S fuel (listed.setIfInBounds i true) (act.put (some d) (.slice a' (n + 1) cap')) w') : wpAnyH Try.prog .any ops Q S (fuel + 1) listed act W := by
  obtain ⟨i0, hi, hz0, hz1, hz2⟩ := info_parts hinfo
  have hnb : (n + 1) * bytes ≤ 140737488355328 := by
    have : (n + 1) * bytes ≤ 1000000000 * 1000 := Nat.mul_le_mul (by omega) hby
    omega
  refine wpAnyH_ready (rs := [i]) hr (by simp) (AllReadyH.cons hi0 (fun K hK => ?_) AllReadyH.nil)
  rw [if_pos hw]
  refine wp_append_lies W x y t ho B e i0 _ size bytes ht hi hz0 hz1 hz2 hzs hsz (.slice a n cap) n vs.flatten hx hown.row ⟨g, 0, none⟩ 1 1 cs.toList hy (by simp [hc])
    (World.news_of_block (cs := cs) (t := e) (fr := (0, 0)) hg) h1 (by omega) (by unfold maxLen; omega) hnb hB _ rfl ?_
  intro g' cap' w' h1' h2 h3 h4
  have hh := k _ cap' w' ⟨by simpa using h1', ?_, by simp [hown.len]⟩ ⟨h2.os, h2.tape, h2.output, h2.size, fun k hk hn => h2.block k hk (fun e => hn ?_)⟩ ?_
  · exact hK.out _ _ hh.1 (fun _ => by rw [hd]; exact hh.2)
  · intro v hv
    rcases List.mem_append.1 hv with hv | hv
    · exact hown.each v hv
    · obtain rfl : v = cs.toList := by simpa using hv
      simp [hc]
  · cases a with
    | none => simp [Value.ownBlock] at e
    | some ad => exact ⟨ad, rfl, by simpa [Value.ownBlock] using e⟩
  · rintro ad rfl2
    obtain rfl := Option.some.inj rfl2
    rcases h3 with h3 | h3
    · cases a with
      | none => simp [Value.ownBlock] at h3
      | some ad => exact .inl ⟨ad, rfl, by simpa [Value.ownBlock] using h3.symm⟩
    · exact .inr (by simp [h3])

/-! While the lines are laid. -/

/-! What is read of fields, item by item. -/

end Go.Proofs.Ytjpmjidpdgikgaa
