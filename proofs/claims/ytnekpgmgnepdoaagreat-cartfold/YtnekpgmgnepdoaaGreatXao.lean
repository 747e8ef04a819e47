import Derived.Lib.AppendZeros
import Derived.Test.YtnekpgmgnepdoaaGreatXab
import Derived.Test.YtnekpgmgnepdoaaGreatXan
section
namespace Go.Proofs.YtnekpgmgnepdoaaGreat
open Go.RowKit
section
variable {ops : Array Oper} {rest : List Oper} {o : Oper} {act : Act} {Q : Exit → Act → World → Prop} {W : World}
theorem wpList_nilZ (t e size bytes : Nat) {zs : List Value} (hinfo : (Tryz.prog.info? e).map (fun i => (i.zero, i.size, i.bytes)) = some (some (.agg zs.toArray), size, bytes)) (ht : Tryz.prog.underlying t = some (.slice e)) (hzs : zs.length = size) (hsz : 0 < size) (hby : bytes ≤ 1000)
  {x y : Operand} {k : Nat} {z : Int} (hgd : o.guard = none) (ho : o.op = .call { callee := .builtin .append, args := #[x, y], argTypes := #[t, 3] })
  (hx : act.eval x = .slice none 0 0) (hy : act.eval y = .int .i64 z) (hz : z = (k : Int)) (hk : 0 < k) (hn : k < 1000000)
  (kk : ∀ h G w', Rw w' e size h (List.replicate G zs) → k ≤ G → G ≤ maxLen → W.heap.size ≤ h → Below W.heap.size W w' → wpList Tryz.prog ops Q rest (act.put o.dst (.slice (some ⟨h, 0, none⟩) k G)) w') : wpList Tryz.prog ops Q (o :: rest) act W := by
 subst hz
 obtain ⟨i0, hi0, hz0, hz1, hz2⟩ := info_parts hinfo
 have h := Lib.run_append_nil_zeros W t 3 o.type e i0 _ .i64 .i64 ht Tryz.underlying3 hi0 hz0 k hk (by rw [hz1]; exact hsz) (by omega) (by rw [hz2]; have : k * bytes ≤ 1000000 * 1000 := Nat.mul_le_mul (by omega) hby; omega)
 have hG1 := grownCap_ge W k 0 e
 have hG2 := grownCap_le_maxLen W k 0 e (by unfold maxLen; omega)
 generalize grownCap W k 0 e = G at h hG1 hG2
 refine Lib.wpList_append_run W hgd x y t 3 ho _ _ hx hy _ _ h ?_
 have hrow : Builtin.zeroCells (Value.agg zs.toArray).cells k ++ Builtin.zeroCells (Value.agg zs.toArray).cells (G - k) = (List.replicate G zs).flatten.toArray := by
  have e1 : (List.replicate (k + (G - k)) zs).flatten = (List.replicate k zs).flatten ++ (List.replicate (G - k) zs).flatten := by
   rw [← List.replicate_append_replicate, List.flatten_append]
  rw [zeroCells_flat zs size hzs hsz, zeroCells_flat zs size hzs hsz, show List.replicate G zs = List.replicate (k + (G - k)) zs by rw [show k + (G - k) = G by omega], e1]
  simp
 rw [hrow]
 exact kk W.heap.size G _ ⟨Blk.new W.drew e _, fun v hv => by rw [List.eq_of_mem_replicate hv]; exact hzs⟩ hG1 hG2 (Nat.le_refl _) ((drew_below W).trans ((below_one W.drew _).mono (Nat.le_refl _)))
end
theorem exec_sliceNil {ev : Operand → Value} {q : Oper} {w : World} {x y : Operand} {z : Int} (ho : q.op = .slice 37 x none (some y) none) (hx : ev x = .slice none 0 0) (hy : ev y = .int .i64 z) (hzi : z = 0) : (execOp ev q).run Tryz.prog w = .ok (.value (.slice none 0 0)) w := by
 subst hzi
 have u := und37
 unfold execOp
 simp only [ho, hx]
 go_simp
def GrowP (w : World) (e : Ending) (w' : World) : Prop := ∃ a cap, e = .returned (.slice a 0 cap) ∧ OwnG w' 96 2 w.heap.size a 0 cap [] ∧ Below w.heap.size w w'
set_option maxRecDepth 100000 in
set_option maxHeartbeats 4000000 in
theorem grow_any (k : Nat) (w : World) (hk : k < 1000000) : Calls Tryz.prog 136 #[.slice none 0 0, .int .i64 (k : Int)] w (GrowP w) := by
 by_cases h0 : k = 0
 ·subst h0
  have HE : Hid (GrowP w (.returned (.slice none 0 0)) w) := Lib.hid ⟨none, 0, rfl, ownG_nil _ _ _ _, Below.refl _ _⟩
  go_enter Tryz.func136, Tryz.ntmps136
  go_wp2_with fail
  go_ret
  exact HE.out
 ·have hp : 0 < k := by omega
  go_enter Tryz.func136, Tryz.ntmps136
  go_wp2_with (first | (refine wpList_run rfl (exec_sliceNil rfl rfl rfl rfl) ?_) | (at_builtin; refine wpList_nilZ 37 96 2 8 (zs := La.zero.cs) info96 und37 rfl (by decide) (by decide) (k := k) rfl rfl rfl rfl (by omega) hp hk ?_; intro g G w1 hr1 hG1 hG2 hg1 hb1) | (refine wpList_run rfl (exec_sliceHi und37 Tryz.sizeOf96 (i := 0) rfl rfl rfl rfl (by omega) rfl) ?_))
  have HE : Hid (GrowP w (.returned (.slice (some ⟨g, 0, none⟩) 0 G)) w1) := Lib.hid ⟨_, _, rfl, by have h := hr1.own hg1 (Nat.zero_le G) (by simp) hG2; simpa using h, hb1⟩
  go_ret
  exact HE.out
theorem und183 : Tryz.prog.underlying 183 = some (.slice 37) := Tryz.underlying183
theorem exec_idx37 {ev : Operand → Value} {q : Oper} {w : World} {x y : Operand} {g i k cap : Nat} {z : Int} (ho : q.op = .indexAddr 183 x y) (hx : ev x = .slice (some ⟨g, 0, none⟩) k cap) (hy : ev y = .int .i64 z) (hz : z = (i : Int)) (hi : i < k) : (execOp ev q).run Tryz.prog w = .ok (.value (.pointer (some ⟨g, i, none⟩))) w := by
 subst hz
 have u := und183
 have z37 : ∀ w, (Go.sizeOf 37).run Tryz.prog w = .ok 1 w := Tryz.sizeOf37
 unfold execOp
 simp only [ho, hx, hy]
 go_simp
set_option maxRecDepth 100000 in
set_option maxHeartbeats 8000000 in
theorem concat_any {g n c m d : Nat} {a b : Option Addr} {l l2 : List La} {w : World} (hg : Blk w g 37 #[.slice a n c, .slice b m d]) (hl : LL w a n l) (hm : LL w b m l2) (hn : n + m < 900000) : Calls Tryz.prog 101 #[.slice (some ⟨g, 0, none⟩) 2 2] w (OwnsP 96 2 (cellsL (l ++ l2)) w) := by
 have HG := Lib.hid hg
 have HL := Lib.hid hl
 have HM := Lib.hid hm
 have c0 : w.cell? ⟨g, 0, none⟩ = some (.slice a n c) := by rw [hg.cell]; rfl
 have c1 : w.cell? ⟨g, 1, none⟩ = some (.slice b m d) := by rw [hg.cell]; rfl
 clear hg hl hm
 go_enter Tryz.func101, Tryz.ntmps101
 go_wp2_with fail
 refine wp_loop_rounds 3 ?_
 rw [rounds_succ]
 go_wp2_with (refine wpList_run rfl (exec_idx37 (i := 0) rfl rfl rfl rfl (by omega)) ?_)
 rw [rounds_succ]
 go_wp2_with (refine wpList_run rfl (exec_idx37 (i := 1) rfl rfl rfl rfl (by omega)) ?_)
 rw [rounds_succ]
 go_wp2_with fail
 have hcg := grow_any (n + m) w (by omega)
 simp only [Int.natCast_add] at hcg
 refine hcg.mono ?_
 rintro e w1 ⟨a1, cap1, rfl, ho1, hb1⟩
 have HO1 := Lib.hid ho1
 have HB1 := Lib.hid hb1
 have d0 : w1.cell? ⟨g, 0, none⟩ = some (.slice a n c) := by rw [(HG.out.below hb1).cell]; rfl
 have HG1 := Lib.hid (HG.out.below hb1)
 have HNG : Hid (∀ ad, a1 = some ad → g ≠ ad.block) := Lib.hid (fun ad e h => by have h1 := (ho1.lt ad e).1; have h2 := HG.out.lt; omega)
 have HNA : Hid (g < w.heap.size) := Lib.hid HG.out.lt
 have HM1 := Lib.hid (HM.out.below hb1)
 clear hcg ho1 hb1 c0 c1
 go_wp2_with fail
 refine wp_loop_rounds 3 ?_
 rw [rounds_succ]
 go_wp2_with (first | (refine wpList_run rfl (exec_idx37 (i := 0) rfl rfl rfl rfl (by omega)) ?_) | (at_builtin; refine wpList_appendR (B := w.heap.size) 37 96 2 8 info96 und37 rfl (by decide) (by decide) rfl rfl rfl rfl HO1.out (HL.out.below HB1.out) (cellsL_each l) (cellsL_one l) (by omega) HB1.out.size ?_; intro a2 cap2 w2 ho2 hk2 hl2))
 rw [Nat.zero_add, List.nil_append] at ho2
 have HO2 := Lib.hid ho2
 have hat1 : ∀ k, At a1 k → w.heap.size ≤ k := fun k ⟨ad, had, e⟩ => by rw [e]; exact (HO1.out.lt ad had).1
 have hb2 : Below w.heap.size w w2 := HB1.out.trans (hk2.below HB1.out.size hat1)
 have HB2 := Lib.hid hb2
 have e1 : w2.cell? ⟨g, 1, none⟩ = some (.slice b m d) := by rw [(HG.out.below hb2).cell]; rfl
 clear ho2 hk2 hl2 hat1 hb2 d0
 rw [rounds_succ]
 go_wp2_with (first | (refine wpList_run rfl (exec_idx37 (i := 1) rfl rfl rfl rfl (by omega)) ?_) | (at_builtin; refine wpList_appendR (B := w.heap.size) 37 96 2 8 info96 und37 rfl (by decide) (by decide) rfl rfl rfl rfl HO2.out (HM.out.below HB2.out) (cellsL_each l2) (cellsL_one l2) (by omega) HB2.out.size ?_; intro a3 cap3 w3 ho3 hk3 hl3))
 have hat2 : ∀ k, At a2 k → w.heap.size ≤ k := fun k ⟨ad, had, e⟩ => by rw [e]; exact (HO2.out.lt ad had).1
 have hb3 : Below w.heap.size w w3 := HB2.out.trans (hk3.below HB2.out.size hat2)
 have HE : Hid (OwnsP 96 2 (cellsL (l ++ l2)) w (.returned (.slice a3 (n + m) cap3)) w3) := Lib.hid (by
  have e2 : cellsL l ++ cellsL l2 = cellsL (l ++ l2) := by unfold cellsL; rw [List.map_append]
  rw [e2] at ho3
  have e3 := ho3.len
  exact ⟨a3, cap3, by rw [e3], by rw [e3]; exact ho3, hb3⟩)
 clear ho3 hk3 hl3 hat2 hb3 e1
 rw [rounds_succ]
 go_wp2_with fail
 go_ret
 exact HE.out
end Go.Proofs.YtnekpgmgnepdoaaGreat
end
section
namespace Go.Proofs.YtnekpgmgnepdoaaGreat
open Go.RowKit
theorem tkOf_snoc (l : List La) (x : La) (c : Nat) : tkOf (l ++ [x]) c = (tkOf l c).or (if x.c = c then some x.t else none) := by
 induction l with
 | nil => rw [List.nil_append, tkOf_cons]; rfl
 | cons y l ih =>
  rw [List.cons_append, tkOf_cons, tkOf_cons, ih]
  by_cases e : y.c = c <;> simp [e]
theorem comp_tk (m : List La) (c : Nat) : ∀ j, j ≤ m.length → tkOf (compN m j) c = tkOf (m.take j) c
 | 0, _ => rfl
 | j + 1, h => by
  have ih := comp_tk m c j (by omega)
  obtain ⟨x, hx⟩ : ∃ x, m[j]? = some x := ⟨m[j]'(by omega), List.getElem?_eq_getElem _⟩
  have et : m.take (j + 1) = m.take j ++ [x] := by rw [List.take_add_one, hx]; rfl
  cases hk : keepAt m j
  ·rw [comp_skip hk, ih, et, tkOf_snoc]
   match j, hk, hx with
   | 0, hk, _ => cases hk
   | i + 1, hk, hx =>
    obtain ⟨y, hy⟩ : ∃ y, m[i]? = some y := ⟨m[i]'(by omega), List.getElem?_eq_getElem _⟩
    rw [keep_at hx hy] at hk
    have hxy : x.c = y.c := by simpa using hk
    by_cases e : x.c = c
    ·have : (tkOf (m.take (i + 1)) c).isSome = true := tkOf_some.2 ⟨y, by
      rw [List.take_add_one, hy]
      exact List.mem_append_right _ (by simp), by omega⟩
     obtain ⟨t, ht⟩ := Option.isSome_iff_exists.1 this
     rw [ht]; rfl
    ·rw [if_neg e, Option.or_none]
  ·rw [comp_keep hx hk, et, tkOf_snoc, tkOf_snoc, ih]
def SortedL (m : List La) : Prop := m.Pairwise fun x y => ¬ ordL y x < 0
theorem sorted_le {m : List La} (h : SortedL m) : m.Pairwise fun x y => x.c ≤ y.c ∧ (x.c = y.c → y.t ≤ x.t) := h.imp fun {x y} k => by
 rw [ordL_neg] at k
 omega
theorem up_sorted {m : List La} (h : m.Pairwise fun a b => a.c < b.c) : SortedL m := h.imp fun {x y} k => by
 rw [ordL_neg]
 omega
theorem comp_mem {m : List La} : ∀ {j : Nat} {x : La}, x ∈ compN m j → x ∈ m.take j
 | j + 1, x, h => by
  simp only [compN, List.mem_append] at h
  rw [List.take_add_one, List.mem_append]
  rcases h with h | h
  ·exact .inl (comp_mem h)
  ·cases hk : keepAt m j <;> rw [hk] at h
   ·simp at h
   ·exact .inr h
theorem comp_up {m : List La} (hs : SortedL m) : ∀ j, j ≤ m.length → (compN m j).Pairwise fun a b => a.c < b.c
 | 0, _ => List.Pairwise.nil
 | j + 1, h => by
  have ih := comp_up hs j (by omega)
  obtain ⟨x, hx⟩ : ∃ x, m[j]? = some x := ⟨m[j]'(by omega), List.getElem?_eq_getElem _⟩
  cases hk : keepAt m j
  ·rw [comp_skip hk]; exact ih
  ·rw [comp_keep hx hk, List.pairwise_append]
   refine ⟨ih, by simp, fun a ha b hb => ?_⟩
   obtain rfl : b = x := by simpa using hb
   have hm := comp_mem ha
   match j, hk, hx, hm with
   | 0, _, _, hm => simp at hm
   | i + 1, hk, hx, hm =>
    obtain ⟨y, hy⟩ : ∃ y, m[i]? = some y := ⟨m[i]'(by omega), List.getElem?_eq_getElem _⟩
    rw [keep_at hx hy] at hk
    have hxy : ¬ b.c = y.c := by simpa using hk
    have hp := List.pairwise_iff_getElem.1 (sorted_le hs)
    have h1 : y.c ≤ b.c := by
     have := (hp i (i + 1) (by omega) (by omega) (by omega)).1
     rw [(List.getElem?_eq_some_iff.1 hx).2, (List.getElem?_eq_some_iff.1 hy).2] at this
     exact this
    obtain ⟨q, hq, hqa⟩ := List.getElem_of_mem hm
    rw [List.length_take] at hq
    rw [List.getElem_take] at hqa
    have h2 : a.c ≤ y.c := by
     by_cases e : q = i
     ·subst e
      rw [(List.getElem?_eq_some_iff.1 hy).2] at hqa
      rw [hqa]
      exact Nat.le_refl _
     ·have := (hp q i (by omega) (by omega) (by omega)).1
      rw [hqa, (List.getElem?_eq_some_iff.1 hy).2] at this
      exact this
    omega
theorem tk_max {c t : Nat} : ∀ {m : List La}, SortedL m → tkOf m c = some t → (∃ y ∈ m, y.c = c ∧ y.t = t) ∧ ∀ y ∈ m, y.c = c → y.t ≤ t
 | [], _, h => by rw [tkOf_nil] at h; cases h
 | x :: m, hs, h => by
  obtain ⟨h1, h2⟩ := List.pairwise_cons.1 hs
  rw [tkOf_cons] at h
  by_cases e : x.c = c
  ·rw [if_pos e] at h
   obtain rfl := Option.some.inj h
   refine ⟨⟨x, List.mem_cons_self, e, rfl⟩, fun y hy hyc => ?_⟩
   rcases List.mem_cons.1 hy with hy1 | hy1
   ·rw [hy1]; exact Nat.le_refl _
   ·have := h1 y hy1
    rw [ordL_neg] at this
    omega
  ·rw [if_neg e] at h
   obtain ⟨⟨y, h3, h4⟩, h5⟩ := tk_max h2 h
   refine ⟨⟨y, List.mem_cons_of_mem _ h3, h4⟩, fun y hy hyc => ?_⟩
   rcases List.mem_cons.1 hy with hy1 | hy1
   ·rw [hy1] at hyc; exact absurd hyc e
   ·exact h5 y hy1 hyc
def mtk (a b : Option Nat) : Option Nat := match a, b with
 | none, y => y
 | some x, none => some x
 | some x, some y => some (max x y)
theorem tk_no {l : List La} {c : Nat} (h : tkOf l c = none) : ∀ y ∈ l, y.c ≠ c := fun y hy e => by
 have := tkOf_some.2 ⟨y, hy, e⟩
 rw [h] at this
 cases this
theorem tk_merge {a b m : List La} (ha : a.Pairwise fun a b => a.c < b.c) (hb : b.Pairwise fun a b => a.c < b.c) (hp : m.Perm (a ++ b)) (hs : SortedL m) (c : Nat) : tkOf m c = mtk (tkOf a c) (tkOf b c) := by
 have hmem : ∀ y, y ∈ m ↔ y ∈ a ∨ y ∈ b := fun y => by rw [hp.mem_iff, List.mem_append]
 cases hA : tkOf a c with
 | none =>
  cases hB : tkOf b c with
  | none =>
   refine tkOf_none fun y hy => ?_
   rcases (hmem y).1 hy with h | h
   ·exact tk_no hA y h
   ·exact tk_no hB y h
  | some y =>
   obtain ⟨⟨q, h1, h2, h3⟩, h4⟩ := tk_max (up_sorted hb) hB
   obtain ⟨t, ht⟩ := Option.isSome_iff_exists.1 (tkOf_some.2 ⟨q, (hmem q).2 (.inr h1), h2⟩)
   obtain ⟨⟨p, k1, k2, k3⟩, k4⟩ := tk_max hs ht
   have e1 := k4 q ((hmem q).2 (.inr h1)) h2
   rcases (hmem p).1 k1 with h | h
   ·exact absurd k2 (tk_no hA p h)
   ·have e2 := h4 p h k2
    rw [ht]
    show some t = some y
    congr 1; omega
 | some x =>
  obtain ⟨⟨p0, i1, i2, i3⟩, i4⟩ := tk_max (up_sorted ha) hA
  obtain ⟨t, ht⟩ := Option.isSome_iff_exists.1 (tkOf_some.2 ⟨p0, (hmem p0).2 (.inl i1), i2⟩)
  obtain ⟨⟨p, k1, k2, k3⟩, k4⟩ := tk_max hs ht
  have e0 := k4 p0 ((hmem p0).2 (.inl i1)) i2
  cases hB : tkOf b c with
  | none =>
   rcases (hmem p).1 k1 with h | h
   ·have e2 := i4 p h k2
    rw [ht]
    show some t = some x
    congr 1; omega
   ·exact absurd k2 (tk_no hB p h)
  | some y =>
   obtain ⟨⟨q, h1, h2, h3⟩, h4⟩ := tk_max (up_sorted hb) hB
   have e1 := k4 q ((hmem q).2 (.inr h1)) h2
   rw [ht]
   show some t = some (max x y)
   congr 1
   rcases (hmem p).1 k1 with h | h
   ·have e2 := i4 p h k2
    omega
   ·have e2 := h4 p h k2
    omega
theorem info37 : (Tryz.prog.info? 37).map (fun i => (i.zero, i.size, i.bytes)) = some (some (.slice none 0 0), 1, 24) := by kernel_rfl
theorem bs183 (a b : Option Addr) (n c m d : Nat) (w : World) : (Instr.buildSlice 183 2 #[(0, .slice a n c), (1, .slice b m d)]).run Tryz.prog w = .ok (.slice (some ⟨w.heap.size, 0, none⟩) 2 2) (w.alloc (.cells #[.slice a n c, .slice b m d] 37)) := by
 obtain ⟨i0, hi, hz0, hz1, hz2⟩ := info_parts info37
 refine run_buildSlice w 183 37 2 _ _ i0 _ und183 hi hz0 (by rw [hz1]; omega) (by rw [hz1]; omega) ?_
 rw [hz1]
 kernel_rfl
theorem exec_bs183 {ev : Operand → Value} {q : Oper} {w : World} {x y : Operand} {a b : Option Addr} {n c m d : Nat} (ho : q.op = .buildSlice 183 2 #[(0, x), (1, y)]) (hx : ev x = .slice a n c) (hy : ev y = .slice b m d) : (execOp ev q).run Tryz.prog w = .ok (.value (.slice (some ⟨w.heap.size, 0, none⟩) 2 2)) (w.alloc (.cells #[.slice a n c, .slice b m d] 37)) := by
 have hm : (#[((0 : Nat), x), (1, y)]).map (fun (i, x) => (i, ev x)) = #[(0, .slice a n c), (1, .slice b m d)] := by simp [hx, hy]
 unfold execOp
 simp only [ho, hm, Sem.run_bind, bs183 a b n c m d w, Result.andThen_ok]
 rfl
def TkP (l l2 : List La) (w : World) (e : Ending) (w' : World) : Prop :=
 ∃ ad k cap ts, e = .returned (.slice ad k cap) ∧ OwnG w' 96 2 w.heap.size ad k cap (cellsL ts) ∧ (ts.Pairwise fun a b => a.c < b.c) ∧ (∀ c, tkOf ts c = mtk (tkOf l c) (tkOf l2 c)) ∧ Below w.heap.size w w'
set_option maxRecDepth 100000 in
set_option maxHeartbeats 4000000 in
theorem mergeTicks_any {a b : Option Addr} {n c m d : Nat} {l l2 : List La} {w : World} (hl : LL w a n l) (hm : LL w b m l2) (hn : n + m < 900000) (h1 : l.Pairwise fun a b => a.c < b.c) (h2 : l2.Pairwise fun a b => a.c < b.c) : Calls Tryz.prog 58 #[.slice a n c, .slice b m d] w (TkP l l2 w) := by
 have hlen : l.length + l2.length = n + m := by rw [hl.len', hm.len']
 have HL := Lib.hid hl
 have HM := Lib.hid hm
 have H1 := Lib.hid h1
 have H2 := Lib.hid h2
 have HG := Lib.hid (Blk.new w 37 #[.slice a n c, .slice b m d])
 have HB0 := Lib.hid (below_one w (.cells #[.slice a n c, .slice b m d] 37))
 clear hl hm h1 h2
 go_enter Tryz.func58, Tryz.ntmps58
 go_wp2_with (refine wpList_run rfl (exec_bs183 rfl rfl rfl) ?_)
 generalize w.alloc (.cells #[.slice a n c, .slice b m d] 37) = w0 at HG HB0
 refine (concat_any HG.out (HL.out.below HB0.out) (HM.out.below HB0.out) hn).mono ?_
 rintro e w1 ⟨a1, cap1, rfl, ho1, hb1⟩
 have hk : (cellsL (l ++ l2)).length = n + m := by rw [cellsL_len, List.length_append, hlen]
 rw [hk] at ho1 ⊢
 have HO1 := Lib.hid ho1
 have HB1 : Hid (Below w.heap.size w w1) := Lib.hid (HB0.out.trans (hb1.mono HB0.out.size))
 have HW0 : Hid (w.heap.size ≤ w0.heap.size) := Lib.hid HB0.out.size
 have HAT : Hid (∀ k, At a1 k → w.heap.size ≤ k) := Lib.hid (fun k ⟨ad, had, e⟩ => by rw [e]; exact Nat.le_trans HW0.out (ho1.lt ad had).1)
 generalize hN : n + m = N at *
 clear ho1 hb1 hk HG HB0
 have HS := Lib.hid (sortL_any HO1.out (by omega))
 go_wp2_with fail
 refine HS.out.mono ?_
 rintro e w2 ⟨rfl, ts, hp, hso, ho2, hk2⟩
 have HO2 := Lib.hid ho2
 have HP := Lib.hid hp
 have HSO : Hid (SortedL ts) := Lib.hid hso
 have HTL : Hid (ts.length = N) := Lib.hid (by rw [hp.length_eq, List.length_append, hlen])
 have HB2 : Hid (Below w.heap.size w w2) := Lib.hid (HB1.out.trans (hk2.below HB1.out.size HAT.out))
 clear hp hso ho2 hk2 HS
 have HC := Lib.hid (compact_any HO2.out (by omega))
 go_wp2_with fail
 refine HC.out.mono ?_
 rintro e w3 ⟨rfl, ho3, hk3⟩
 have HE : Hid (TkP l l2 w (.returned (.slice a1 (compN ts N).length cap1)) w3) := Lib.hid ⟨a1, _, cap1, compN ts N, rfl, ho3.mono HW0.out, comp_up HSO.out N (by rw [HTL.out]; exact Nat.le_refl _), fun c => by
  rw [comp_tk ts c N (by rw [HTL.out]; exact Nat.le_refl _), List.take_of_length_le (by rw [HTL.out]; exact Nat.le_refl _)]
  exact tk_merge H1.out H2.out HP.out HSO.out c, HB2.out.trans (hk3.below HB2.out.size HAT.out)⟩
 generalize (compN ts N).length = M at HE
 clear ho3 hk3 HC
 go_wp2_with fail
 go_ret
 exact HE.out
end Go.Proofs.YtnekpgmgnepdoaaGreat
end
