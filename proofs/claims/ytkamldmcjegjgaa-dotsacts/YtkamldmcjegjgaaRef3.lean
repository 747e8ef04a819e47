/- Walk of the document's Add to a set of dots. -/
import Derived.Test.YtkamldmcjegjgaaRef2
namespace Go.Proofs.Ytkamldmcjegjgaa
open Go.RowKit

theorem zero31 : (V.zero.obj (.slice none 0 0)) = #[.int .u32 0, .int .u32 0, .int .u32 0, .int .u32 0, .int .u32 0, .int .u32 0, .int .u32 0, .int .u32 0, .int .u32 0, .int .u32 0, .int .u32 0, .int .u32 0, .int .u32 0, .int .u32 0, .int .u32 0, .int .u32 0, .slice none 0 0] := by
  unfold V.obj; rw [zero_arr]; rfl
theorem info31 : (Try.prog.info? 31).map (fun i => (i.zero, i.size)) = some (some (.agg #[.int .u32 0, .int .u32 0, .int .u32 0, .int .u32 0, .int .u32 0, .int .u32 0, .int .u32 0, .int .u32 0, .int .u32 0, .int .u32 0, .int .u32 0, .int .u32 0, .int .u32 0, .int .u32 0, .int .u32 0, .int .u32 0, .slice none 0 0]), 17) := by kernel_rfl
theorem alloc31 (w : World) : (Instr.alloc 31 true (.tuple #[])).run Try.prog w = .ok (.pointer (some ⟨w.heap.size, 0, none⟩)) (w.alloc (.cells (V.zero.obj (.slice none 0 0)) 31)) := by
  simp only [Instr.alloc, Sem.run_bind, (zero_of_info info31).1, Result.andThen_ok, zero31]
  simp [newVar, newRow, Value.cells, go_sem]
section
variable {ev : Operand → Value} {o : Oper} {w : World}
theorem exec_alloc31 (ho : o.op = .alloc 31) : (execOp ev o).run Try.prog w = .ok (.value (.pointer (some ⟨w.heap.size, 0, none⟩))) (w.alloc (.cells (V.zero.obj (.slice none 0 0)) 31)) := by
  unfold execOp
  simp only [ho, Sem.run_bind, alloc31, Result.andThen_ok]
  rfl
theorem exec_empty (ho : o.op = .buildSlice 25 0 #[]) : (execOp ev o).run Try.prog w = .ok (.value (.slice (some ⟨w.heap.size, 0, none⟩) 0 0)) (w.alloc (.cells #[] 34)) := by
  unfold execOp
  simp only [ho]
  simp [Instr.buildSlice, go_sem, Instr.fill, newRow]
theorem exec_idx24 {x y : Operand} {v : V} {k : Nat} {q : IntKind} (ho : o.op = .index 24 x y) (hx : ev x = .agg v.arr) (hy : ev y = .int q (k : Int)) (hk : k < 16) : (execOp ev o).run Try.prog w = .ok (.value (.int .u32 (v.at_ k : Int))) w := by
  unfold execOp
  simp only [ho, hx, hy, Sem.run_bind, index24 v q k w hk, Result.andThen_ok]
  rfl
theorem exec_plus {x : Operand} {t : TypeId} {y z : Nat} {c : Value} (ho : o.op = .binOp .add 22 x (.const c) t) (hx : ev x = .int .u32 (y : Int)) (hc : ev (.const c) = .int .u32 256) (hw : IntKind.u32.wrap ((y : Int) + 256) = (z : Int)) : (execOp ev o).run Try.prog w = .ok (.value (.int .u32 (z : Int))) w := by
  unfold execOp
  simp only [ho, hx, hc]
  go_simp
theorem exec_gtr {x y : Operand} {t : TypeId} {a b : Nat} {r : Bool} (ho : o.op = .binOp .gtr 22 x y t) (hx : ev x = .int .u32 (a : Int)) (hy : ev y = .int .u32 (b : Int)) (hr : decide (b < a) = r) : (execOp ev o).run Try.prog w = .ok (.value (.bool r)) w := by
  subst hr
  unfold execOp
  simp only [ho, hx, hy]
  go_simp
end

theorem own_empty (w : World) : OwnD (w.alloc (.cells #[] 34)) w.heap.size (some ⟨w.heap.size, 0, none⟩) 0 0 [] :=
  ⟨by simp [flat], .inr ⟨w.heap.size, 0, #[], rfl, Nat.le_refl _, heap_alloc_new w _, Nat.le_refl _, by unfold maxLen; omega, by simp, by simp [flat]⟩⟩

theorem flat_one (l : List Dt) : ∀ u ∈ flat l, u.oneCell' = true := by
  intro u hu
  obtain ⟨x, _, hx⟩ := List.mem_flatMap.1 hu
  simp only [encD, List.mem_cons, List.not_mem_nil, or_false] at hx
  rcases hx with rfl | rfl <;> rfl

theorem DL.news {w : World} {b off n : Nat} {l : List Dt} (h : DL w (some ⟨b, off, none⟩) n l) : ∀ j u, (flat l)[j]? = some u → w.cell? ((⟨b, off, none⟩ : Addr).add j) = some u := by
  intro j u hu
  have hj : j < l.length * 2 := by rw [← flat_len]; exact (List.getElem?_eq_some_iff.1 hu).1
  obtain ⟨b', off', e, hc⟩ := h.cells.resolve_left (by rw [← h.len]; omega)
  cases e
  have hi : j / 2 < l.length := by omega
  have hx : l[j / 2]? = some l[j / 2] := by simp [hi]
  obtain ⟨e1, e2⟩ := flat_get l _ _ hx
  obtain ⟨c1, c2⟩ := hc _ _ hx
  rw [Addr.add_mid]
  rcases Nat.mod_two_eq_zero_or_one j with hm | hm
  · have ej : j / 2 * 2 = j := by omega
    rw [ej] at e1 c1
    rw [hu] at e1
    rw [c1, e1]
  · have ej : j / 2 * 2 + 1 = j := by omega
    rw [ej] at e2
    rw [Nat.add_assoc, ej] at c2
    rw [hu] at e2
    rw [c2, e2]

section
variable {ops : Array Oper} {rest : List Oper} {o : Oper} {act : Act} {Q : Exit → Act → World → Prop} {W : World}
/-- Dots in a row appended, none or more. -/
theorem wpList_appendR {x y : Operand} {B n cap m c2 : Nat} {a a2 : Option Addr} {l l2 : List Dt} (hgd : o.guard = none) (ho : o.op = .call { callee := .builtin .append, args := #[x, y], argTypes := #[25, 25] })
    (hx : act.eval x = .slice a n cap) (hy : act.eval y = .slice a2 m c2) (hown : OwnD W B a n cap l) (h2 : DL W a2 m l2) (hz : a2 = none → m = 0 ∧ c2 = 0) (hs : ∀ ad, a2 = some ad → ad.spot = none) (hn : n + m < 1000000000) (hB : B ≤ W.heap.size)
    (k : ∀ a' cap' w', OwnD w' B a' (n + m) cap' (l ++ l2) → Kept (At a) W w' → Lies W a a' → wpList Try.prog ops Q rest (act.put o.dst (.slice a' (n + m) cap')) w') : wpList Try.prog ops Q (o :: rest) act W := by
  obtain ⟨i0, hi, hz0, hz1, hz2⟩ := info_parts info34
  have hex : ∃ a' cap' w', (Builtin.append_ #[25, 25] o.type #[.slice a n cap, .slice a2 m c2]).run Try.prog W = .ok (.slice a' (n + m) cap') w' ∧ OwnD w' B a' (n + m) cap' (l ++ l2) ∧ Kept (At a) W w' ∧ Lies W a a' := by
    cases a2 with
    | none =>
      obtain ⟨rfl, rfl⟩ := hz rfl
      obtain rfl := List.eq_nil_of_length_eq_zero h2.len
      exact ⟨a, cap, W, run_append_owned_none W B 25 o.type 34 i0 2 Try.underlying25 hi _ n _ hown, by simpa using hown, Kept.refl _ _, fun ad h => .inl ⟨ad, h, rfl⟩⟩
    | some ad =>
      obtain ⟨b, off, sp⟩ := ad
      obtain rfl : sp = none := hs _ rfl
      obtain ⟨v', w', hr, g2, g3, _, g5⟩ := run_append_own_at (P := Try.prog) W B 25 o.type 34 i0 _ 2 8 Try.underlying25 hi hz0 hz1 hz2 rfl (by omega) (.slice a n cap) n (flat l) hown ⟨b, off, none⟩ m c2 (flat l2)
        (by rw [flat_len, h2.len]) h2.news (flat_one l2) (by unfold maxLen; omega) (by omega) hB
      have hform : ∃ a' cap, v' = .slice a' (n + m) cap := by
        rcases g2.2 with ⟨hv, hn⟩ | ⟨g, cap, cur, hv, _⟩
        · exact ⟨none, 0, by rw [hn]; exact hv⟩
        · exact ⟨_, cap, hv⟩
      obtain ⟨a', cap', rfl⟩ := hform
      refine ⟨a', cap', w', hr, ?_, ⟨g3.os, g3.tape, g3.output, g3.size, fun k hk hn => g3.block k hk (fun e => hn ?_)⟩, ?_⟩
      · have : flat (l ++ l2) = flat l ++ flat l2 := by simp [flat]
        unfold OwnD
        rw [this]
        exact g2
      · cases a with
        | none => simp [Value.ownBlock] at e
        | some ad0 => simp [Value.ownBlock] at e; exact ⟨ad0, rfl, e⟩
      · rintro ad' rfl
        rcases g5 with g5 | g5
        · cases a with
          | none => simp [Value.ownBlock] at g5
          | some ad0 => simp [Value.ownBlock] at g5; exact .inl ⟨ad0, rfl, g5⟩
        · simp [Value.ownBlock] at g5
          exact .inr (by omega)
  obtain ⟨a', cap', w', hr, g2, g3, g4⟩ := hex
  refine wpList_plain hgd fun _ hK => ?_
  unfold Oper.wp execOp
  simp only [ho, resolve, invoke, builtin, Sem.run_bind, Sem.run_pure, Result.andThen_ok, List.map_toArray, List.map_cons, List.map_nil, hx, hy, hr]
  exact hK _ _ (k a' cap' w' g2 g3 g4)
end

theorem loadVar31 {w : World} {g : Nat} {v : V} {x : Value} (h : Blk w g 31 (v.obj x)) : (loadVar 31 ⟨g, 0, none⟩).run Try.prog w = .ok (.agg (v.obj x)) w := by
  have hi : (Try.prog.info? 31).map (·.size) = some (v.obj x).size := by rw [obj_size]; exact size31
  exact run_loadVar_row _ _ 31 31 (v.obj x) (0, 0) _ h Try.underlying31 rfl hi
theorem ret31_two {fn : Func} {t s : Tmp} (h : fn.results = #[.cell t 31, .tmp s]) {tmps : Array Value} {w : World} {g : Nat} {v : V} {x y : Value} (hx : tmps.getD t undef = .pointer (some ⟨g, 0, none⟩)) (hy : tmps.getD s undef = y) (hb : Blk w g 31 (v.obj x)) :
    (results fn tmps).run Try.prog w = .ok (.tuple #[.agg (v.obj x), y]) w := by
  rw [results_cell_tmp h, hx, hy]
  simp [Result.andThen, asAddr, loadVar31 hb]

/-- A set, a dot and a place for an answer that a call laid down. -/
structure Ra (w W : World) (v : V) (a : Option Addr) (n cap : Nat) (l : List Dt) (r s : Nat) : Prop where
  grp : Blk W w.heap.size 31 (v.obj (.slice a n cap))
  dot : Blk W (w.heap.size + 1) 34 #[.int .u8 (r : Int), .int .u32 (s : Int)]
  ans : Blk W (w.heap.size + 1 + 1) 31 (V.zero.obj (.slice none 0 0))
  dl : DL W a n l
  old : Below w.heap.size w W
section
variable {w W W' : World} {v : V} {a : Option Addr} {n cap : Nat} {l : List Dt} {r s : Nat}
theorem Ra.drew (h : Ra w W v a n cap l r s) : Ra w W.drew v a n cap l r s := ⟨h.grp, h.dot, h.ans, h.dl.drew, h.old.drew⟩
theorem Ra.below (h : Ra w W v a n cap l r s) (hb : Below W.heap.size W W') : Ra w W' v a n cap l r s := ⟨h.grp.below hb, h.dot.below hb, h.ans.below hb, h.dl.below hb, h.old.trans (hb.mono h.old.size)⟩
theorem Ra.rep (h : Ra w W v a n cap l r s) : W.cell? ⟨w.heap.size + 1, 0, none⟩ = some (.int .u8 (r : Int)) := by rw [h.dot.cell]; rfl
theorem Ra.seq (h : Ra w W v a n cap l r s) : W.cell? ⟨w.heap.size + 1, 1, none⟩ = some (.int .u32 (s : Int)) := by rw [h.dot.cell]; rfl
end
theorem ra_new {w : World} {v : V} {a : Option Addr} {n cap : Nat} {l : List Dt} (h : DL w a n l) (r s : Nat) : Ra w (((w.alloc (.cells (v.obj (.slice a n cap)) 31)).alloc (.cells #[.int .u8 (r : Int), .int .u32 (s : Int)] 34)).alloc (.cells (V.zero.obj (.slice none 0 0)) 31)) v a n cap l r s := by
  have h1 := rh_new (v := v) (cap := cap) h r s
  have h3 := Blk.new ((w.alloc (.cells (v.obj (.slice a n cap)) 31)).alloc (.cells #[.int .u8 (r : Int), .int .u32 (s : Int)] 34)) 31 (V.zero.obj (.slice none 0 0))
  simp only [World.size_alloc] at h3
  have h4 := h1.below (below_one _ (.cells (V.zero.obj (.slice none 0 0)) 31))
  exact ⟨h4.grp, h4.dot, h3, h4.dl, h4.old⟩

/-- What the document's Add answers. -/
def RAdds (v : V) (a : Option Addr) (l : List Dt) (c : V) (x : Dt) (w : World) (e : Ending) (w' : World) : Prop :=
  ∃ a' n' cap', e = .returned (.tuple #[setV v a' n' cap', .int .i64 (raddE v l c x : Int)]) ∧ DL w' a' n' (if raddE v l c x = 0 then l ++ [x] else l) ∧ (a' = none → n' = 0 ∧ cap' = 0) ∧
    (∀ ad, a' = some ad → a = some ad ∨ w.heap.size ≤ ad.block) ∧ (∀ ad, a' = some ad → ad.spot = none) ∧ Below w.heap.size w w'

theorem Ra.radds {w W : World} {v : V} {a : Option Addr} {n cap : Nat} {l : List Dt} {r s k : Nat} {c : V} (h : Ra w W v a n cap l r s) (he : raddE v l c (r, s) = k) (hk : k ≠ 0) (hz : a = none → n = 0 ∧ cap = 0) (hsp : ∀ ad, a = some ad → ad.spot = none) (hlt : ∀ ad, a = some ad → n ≠ 0 → ad.block < w.heap.size) :
    RAdds v a l c (r, s) w (.returned (.tuple #[setV v a n cap, .int .i64 (k : Int)])) (W.setRow (w.heap.size + 1 + 1) (v.obj (.slice a n cap))) := by
  refine ⟨a, n, cap, by rw [he], ?_, hz, fun ad h => .inl h, hsp, ret_row h.old (by omega)⟩
  rw [he, if_neg hk]
  exact h.dl.keep (Kept.setRow _ _ _) (fun ad had hn => by have := hlt ad had hn; omega)

theorem app_below {W w5 : World} {a5 : Option Addr} {n5 cap5 : Nat} {l5 : List Dt} (_ho : OwnD w5 W.heap.size a5 n5 cap5 l5) (hk : Kept (At (some ⟨W.heap.size, 0, none⟩)) (W.alloc (.cells #[] 34)) w5) : Below W.heap.size W w5 :=
  (below_one W _).trans (hk.below (by simp) (fun k ⟨ad, had, e⟩ => by cases had; rw [e]; exact Nat.le_refl _))
theorem app_below2 {W w5 w6 : World} {a5 : Option Addr} {n5 cap5 : Nat} {l5 : List Dt} {o : Obj} (hb : Below W.heap.size W w5) (ho : OwnD w5 W.heap.size a5 n5 cap5 l5) (hk : Kept (At a5) (w5.alloc o) w6) : Below W.heap.size W w6 :=
  (hb.trans ((below_one w5 o).mono hb.size)).trans (hk.below (by have := hb.size; simp; omega) (fun k ⟨ad, had, e⟩ => by rw [e]; exact (ho.lt ad had).1))
theorem obj_last (v : V) (x y : Value) : (v.obj x).setIfInBounds 16 y = v.obj y := by
  unfold V.obj
  apply Array.ext_getElem?
  intro j
  have h16 := v.arr_size
  simp only [Array.getElem?_setIfInBounds, Array.getElem?_push, Array.size_push]
  by_cases e : 16 = j
  · subst e
    rw [if_pos rfl, if_pos (by omega), if_pos (by omega)]
  · rw [if_neg e]
    split
    · omega
    · rfl

theorem Ra.laid {w W : World} {v : V} {a : Option Addr} {n cap : Nat} {l : List Dt} {r s : Nat} (h : Ra w W v a n cap l r s) (a' : Option Addr) (n' cap' : Nat) :
    Blk (W.setCell ⟨w.heap.size, 16, none⟩ (.slice a' n' cap')) w.heap.size 31 (v.obj (.slice a' n' cap')) ∧ Blk (W.setCell ⟨w.heap.size, 16, none⟩ (.slice a' n' cap')) (w.heap.size + 1 + 1) 31 (V.zero.obj (.slice none 0 0)) ∧ Below w.heap.size w (W.setCell ⟨w.heap.size, 16, none⟩ (.slice a' n' cap')) := by
  have k := Kept.setCell W ⟨w.heap.size, 16, none⟩ (.slice a' n' cap')
  have hb := h.grp.set 16 (.slice a' n' cap')
  rw [obj_last] at hb
  exact ⟨hb, h.ans.kept k (by simp; omega), h.old.trans (k.below h.old.size (fun k hk => by rw [hk]; exact Nat.le_refl _))⟩

set_option maxRecDepth 100000 in
set_option maxHeartbeats 2000000 in
theorem rfadd_any {w : World} {v : V} {a : Option Addr} {n cap : Nat} {l : List Dt} {c : V} {L : List Dt} (h : DL w a n l) (K : Link v l c L) (hz : a = none → n = 0 ∧ cap = 0) (hsp : ∀ ad, a = some ad → ad.spot = none) (hn : n < 1000) (r s : Nat) (hr : r < 256) (hs : s < 4294967296) : Calls Try.prog 14 #[setV v a n cap, dotV r s] w (RAdds v a l c (r, s) w) := by
  have HT := Lib.hid (ra_new (v := v) (cap := cap) h r s)
  have HK := Lib.hid K
  have HZ := Lib.hid hz
  have HSP := Lib.hid hsp
  have HLT := Lib.hid h.lt
  have HRW : Hid (Raw (r, s)) := Lib.hid ⟨hr, hs⟩
  have hb1 := fun w => box31 (v.obj (.slice a n cap)) w
  have HC := Lib.hid (fun w => rdot_any r s w hr hs)
  have HH := Lib.hid (fun (w : World) (h : DL w a n l) => rfhas_any (v := v) (cap := cap) h r s hr hs (by omega))
  clear h K hz hsp
  cases hd : V.dotB r s
  · have HE : Hid (raddE v l c (r, s) = 2) := Lib.hid (by simp [raddE, hd])
    rw [hd] at HC
    clear hd
    go_enter Try.func14, Try.ntmps14
    go_wp2_with (refine wpList_run rfl (exec_alloc31 rfl) ?_)
    clear hb1
    generalize ((w.alloc (.cells (v.obj (.slice a n cap)) 31)).alloc (.cells #[.int .u8 (r : Int), .int .u32 (s : Int)] 34)).alloc (.cells (V.zero.obj (.slice none 0 0)) 31) = W at HT
    refine (HC.out _).mono ?_
    rintro e w1 ⟨rfl, hb⟩
    have HT1 := Lib.hid (HT.out.below hb)
    clear hb
    go_wp2_with (first | (refine wpList_run rfl (exec_load31 (v := v) rfl rfl HT1.out.grp) ?_) | (refine wpList_void rfl rfl (exec_store31 (u := v) rfl rfl rfl HT1.out.ans rfl) ?_))
    exact bodyPost_ret (ret31_two (t := 4) (s := 5) (y := .int .i64 2) rfl rfl rfl (Blk.row HT1.out.ans)) rfl (HT1.out.radds (k := 2) HE.out (by decide) HZ.out HSP.out HLT.out)
  · rw [hd] at HC
    cases hh : rin v l (r, s)
    · by_cases hf : c.at_ r + 256 < s
      · have HE : Hid (raddE v l c (r, s) = 10) := Lib.hid (by simp [raddE, hd, hh, hf])
        rw [hh] at HH
        have hr16 : r < 16 := ((dotB_iff _ _).1 hd).1
        obtain ⟨y, hy⟩ : ∃ y, c.at_ r + 256 = y := ⟨_, rfl⟩
        have HY2 := Lib.hid hy
        have HW1 : Hid (IntKind.u32.wrap ((c.at_ r : Int) + 256) = (y : Int)) := Lib.hid (by
          have := HK.out.norm.top r hr16
          simp [IntKind.wrap, IntKind.bits, IntKind.signed]; omega)
        clear hy
        have HF : Hid (decide (y < s) = true) := Lib.hid (decide_eq_true (by have := HY2.out; omega))
        clear hd hh hf
        go_enter Try.func14, Try.ntmps14
        go_wp2_with (refine wpList_run rfl (exec_alloc31 rfl) ?_)
        clear hb1
        generalize ((w.alloc (.cells (v.obj (.slice a n cap)) 31)).alloc (.cells #[.int .u8 (r : Int), .int .u32 (s : Int)] 34)).alloc (.cells (V.zero.obj (.slice none 0 0)) 31) = W at HT
        refine (HC.out _).mono ?_
        rintro e w1 ⟨rfl, hb⟩
        have HT1 := Lib.hid (HT.out.below hb)
        clear hb
        have c1 := HT1.out.rep
        have c2 := HT1.out.seq
        go_wp2_with (first | (refine wpList_run rfl (exec_load31 (v := v) rfl rfl HT1.out.grp) ?_))
        clear c1 c2
        refine (HH.out _ HT1.out.dl).mono ?_
        rintro e w2 ⟨rfl, hb⟩
        have HT2 := Lib.hid (HT1.out.below hb)
        clear hb
        go_wp2_with fail
        refine wp_region_held_drew (S := fun w' => Ra w w' v a n cap l r s) (by kernel_rfl) HT2.out.drew (fun hS => ?_)
        refine held_take 0 18 (.pointer (some ⟨w.heap.size + 1, 1, none⟩)) rfl rfl (by kernel_rfl) (by kernel_rfl) (by kernel_rfl) (fun _ _ _ h => h) (by kernel_rfl) (fun _ _ => (by kernel_rfl)) hS ?_
        simp only [Act.put, List.setIfInBounds_toArray, List.set_cons_zero, List.set_cons_succ]
        refine held_take 1 19 (.int .u32 (s : Int)) rfl rfl (by kernel_rfl) (by kernel_rfl) (by kernel_rfl) (fun _ _ _ h => h) (by kernel_rfl) (fun _ h => exec_cell rfl rfl (load_cell agg22 h.seq)) hS ?_
        simp only [Act.put, List.setIfInBounds_toArray, List.set_cons_zero, List.set_cons_succ]
        refine held_take 2 20 (setV v a n cap) rfl rfl (by kernel_rfl) (by kernel_rfl) (by kernel_rfl) (fun _ _ _ h => h) (by kernel_rfl) (fun _ h => exec_load31 rfl rfl h.grp) hS ?_
        simp only [Act.put, List.setIfInBounds_toArray, List.set_cons_zero, List.set_cons_succ]
        refine held_take 4 22 (.pointer (some ⟨w.heap.size + 1, 0, none⟩)) rfl rfl (by kernel_rfl) (by kernel_rfl) (by kernel_rfl) (fun _ _ _ h => h) (by kernel_rfl) (fun _ _ => (by kernel_rfl)) hS ?_
        simp only [Act.put, List.setIfInBounds_toArray, List.set_cons_zero, List.set_cons_succ]
        refine held_take 5 23 (.int .u8 (r : Int)) rfl rfl (by kernel_rfl) (by kernel_rfl) (by kernel_rfl) (fun _ _ _ h => h) (by kernel_rfl) (fun _ h => exec_cell rfl rfl (load_cell agg5 h.rep)) hS ?_
        simp only [Act.put, List.setIfInBounds_toArray, List.set_cons_zero, List.set_cons_succ]
        refine held_call 3 21 17 #[(setV v a n cap)] (.agg c.arr) rfl (by kernel_rfl) rfl (by kernel_rfl) (by kernel_rfl) (rfclosed_any hS.dl HK.out (by omega)) (fun _ h hb => h.below hb) hS (fun w103 hS => ?_)
        simp only [Act.put, List.setIfInBounds_toArray, List.set_cons_zero, List.set_cons_succ]
        refine held_take 6 24 (.int .u32 (c.at_ r : Int)) rfl rfl (by kernel_rfl) (by kernel_rfl) (by kernel_rfl) (fun _ _ _ h => h) (by kernel_rfl) (fun _ _ => exec_idx24 rfl rfl rfl hr16) hS ?_
        simp only [Act.put, List.setIfInBounds_toArray, List.set_cons_zero, List.set_cons_succ]
        refine held_take 7 25 (.int .u32 (y : Int)) rfl rfl (by kernel_rfl) (by kernel_rfl) (by kernel_rfl) (fun _ _ _ h => h) (by kernel_rfl) (fun _ _ => exec_plus rfl rfl rfl HW1.out) hS ?_
        simp only [Act.put, List.setIfInBounds_toArray, List.set_cons_zero, List.set_cons_succ]
        refine held_take 8 26 (.bool true) rfl rfl (by kernel_rfl) (by kernel_rfl) (by kernel_rfl) (fun _ _ _ h => h) (by kernel_rfl) (fun _ _ => exec_gtr rfl rfl rfl HF.out) hS ?_
        simp only [Act.put, List.setIfInBounds_toArray, List.set_cons_zero, List.set_cons_succ]
        refine held_take 9 17 (.bool true) rfl rfl (by kernel_rfl) (by kernel_rfl) (by kernel_rfl) (fun _ _ _ h => h) (by kernel_rfl) (fun _ _ => rfl) hS ?_
        simp only [Act.put, List.setIfInBounds_toArray, List.set_cons_zero, List.set_cons_succ]
        refine wpAnyH_done (by kernel_rfl) ?_ _
        have HT3 := Lib.hid hS
        clear hS
        go_wp2_with (first | (refine wpList_run rfl (exec_load31 (v := v) rfl rfl HT3.out.grp) ?_) | (refine wpList_void rfl rfl (exec_store31 (u := v) rfl rfl rfl HT3.out.ans rfl) ?_))
        exact bodyPost_ret (ret31_two (t := 4) (s := 5) (y := .int .i64 10) rfl rfl rfl (Blk.row HT3.out.ans)) rfl (HT3.out.radds (k := 10) HE.out (by decide) HZ.out HSP.out HLT.out)
      · have HE : Hid (raddE v l c (r, s) = 0) := Lib.hid (by simp [raddE, hd, hh, hf])
        rw [hh] at HH
        have hr16 : r < 16 := ((dotB_iff _ _).1 hd).1
        obtain ⟨y, hy⟩ : ∃ y, c.at_ r + 256 = y := ⟨_, rfl⟩
        have HY2 := Lib.hid hy
        have HW1 : Hid (IntKind.u32.wrap ((c.at_ r : Int) + 256) = (y : Int)) := Lib.hid (by
          have := HK.out.norm.top r hr16
          simp [IntKind.wrap, IntKind.bits, IntKind.signed]; omega)
        clear hy
        have HF : Hid (decide (y < s) = false) := Lib.hid (decide_eq_false (by have := HY2.out; omega))
        clear hd hh hf
        go_enter Try.func14, Try.ntmps14
        go_wp2_with (refine wpList_run rfl (exec_alloc31 rfl) ?_)
        clear hb1
        generalize ((w.alloc (.cells (v.obj (.slice a n cap)) 31)).alloc (.cells #[.int .u8 (r : Int), .int .u32 (s : Int)] 34)).alloc (.cells (V.zero.obj (.slice none 0 0)) 31) = W at HT
        refine (HC.out _).mono ?_
        rintro e w1 ⟨rfl, hb⟩
        have HT1 := Lib.hid (HT.out.below hb)
        clear hb
        have c1 := HT1.out.rep
        have c2 := HT1.out.seq
        go_wp2_with (first | (refine wpList_run rfl (exec_load31 (v := v) rfl rfl HT1.out.grp) ?_))
        clear c1 c2
        refine (HH.out _ HT1.out.dl).mono ?_
        rintro e w2 ⟨rfl, hb⟩
        have HT2 := Lib.hid (HT1.out.below hb)
        clear hb
        go_wp2_with fail
        refine wp_region_held_drew (S := fun w' => Ra w w' v a n cap l r s) (by kernel_rfl) HT2.out.drew (fun hS => ?_)
        refine held_take 0 18 (.pointer (some ⟨w.heap.size + 1, 1, none⟩)) rfl rfl (by kernel_rfl) (by kernel_rfl) (by kernel_rfl) (fun _ _ _ h => h) (by kernel_rfl) (fun _ _ => (by kernel_rfl)) hS ?_
        simp only [Act.put, List.setIfInBounds_toArray, List.set_cons_zero, List.set_cons_succ]
        refine held_take 1 19 (.int .u32 (s : Int)) rfl rfl (by kernel_rfl) (by kernel_rfl) (by kernel_rfl) (fun _ _ _ h => h) (by kernel_rfl) (fun _ h => exec_cell rfl rfl (load_cell agg22 h.seq)) hS ?_
        simp only [Act.put, List.setIfInBounds_toArray, List.set_cons_zero, List.set_cons_succ]
        refine held_take 2 20 (setV v a n cap) rfl rfl (by kernel_rfl) (by kernel_rfl) (by kernel_rfl) (fun _ _ _ h => h) (by kernel_rfl) (fun _ h => exec_load31 rfl rfl h.grp) hS ?_
        simp only [Act.put, List.setIfInBounds_toArray, List.set_cons_zero, List.set_cons_succ]
        refine held_take 4 22 (.pointer (some ⟨w.heap.size + 1, 0, none⟩)) rfl rfl (by kernel_rfl) (by kernel_rfl) (by kernel_rfl) (fun _ _ _ h => h) (by kernel_rfl) (fun _ _ => (by kernel_rfl)) hS ?_
        simp only [Act.put, List.setIfInBounds_toArray, List.set_cons_zero, List.set_cons_succ]
        refine held_take 5 23 (.int .u8 (r : Int)) rfl rfl (by kernel_rfl) (by kernel_rfl) (by kernel_rfl) (fun _ _ _ h => h) (by kernel_rfl) (fun _ h => exec_cell rfl rfl (load_cell agg5 h.rep)) hS ?_
        simp only [Act.put, List.setIfInBounds_toArray, List.set_cons_zero, List.set_cons_succ]
        refine held_call 3 21 17 #[(setV v a n cap)] (.agg c.arr) rfl (by kernel_rfl) rfl (by kernel_rfl) (by kernel_rfl) (rfclosed_any hS.dl HK.out (by omega)) (fun _ h hb => h.below hb) hS (fun w103 hS => ?_)
        simp only [Act.put, List.setIfInBounds_toArray, List.set_cons_zero, List.set_cons_succ]
        refine held_take 6 24 (.int .u32 (c.at_ r : Int)) rfl rfl (by kernel_rfl) (by kernel_rfl) (by kernel_rfl) (fun _ _ _ h => h) (by kernel_rfl) (fun _ _ => exec_idx24 rfl rfl rfl hr16) hS ?_
        simp only [Act.put, List.setIfInBounds_toArray, List.set_cons_zero, List.set_cons_succ]
        refine held_take 7 25 (.int .u32 (y : Int)) rfl rfl (by kernel_rfl) (by kernel_rfl) (by kernel_rfl) (fun _ _ _ h => h) (by kernel_rfl) (fun _ _ => exec_plus rfl rfl rfl HW1.out) hS ?_
        simp only [Act.put, List.setIfInBounds_toArray, List.set_cons_zero, List.set_cons_succ]
        refine held_take 8 26 (.bool false) rfl rfl (by kernel_rfl) (by kernel_rfl) (by kernel_rfl) (fun _ _ _ h => h) (by kernel_rfl) (fun _ _ => exec_gtr rfl rfl rfl HF.out) hS ?_
        simp only [Act.put, List.setIfInBounds_toArray, List.set_cons_zero, List.set_cons_succ]
        refine held_take 9 17 (.bool false) rfl rfl (by kernel_rfl) (by kernel_rfl) (by kernel_rfl) (fun _ _ _ h => h) (by kernel_rfl) (fun _ _ => rfl) hS ?_
        simp only [Act.put, List.setIfInBounds_toArray, List.set_cons_zero, List.set_cons_succ]
        refine wpAnyH_done (by kernel_rfl) ?_ _
        have HT3 := Lib.hid hS
        clear hS
        have c16 : (w103.alloc (.cells #[] 34)).cell? ⟨w.heap.size, 16, none⟩ = some (.slice a n cap) := by rw [(HT3.out.below (below_one w103 _)).grp.cell, push_last]
        have HD3 := Lib.hid (HT3.out.dl.below (below_one w103 (.cells #[] 34)))
        have HOE := Lib.hid (own_empty w103)
        have HSZ : Hid (w103.heap.size ≤ (w103.alloc (.cells #[] 34)).heap.size) := Lib.hid (by simp)
        go_wp2_with (first
          | (at_builtin; refine wpList_appendR rfl rfl rfl rfl HOE.out HD3.out HZ.out HSP.out (by omega) HSZ.out ?_; intro a5 cap5 w5 ho5 hk5 hl5; have HB5 := Lib.hid (app_below ho5 hk5); have HT5 := Lib.hid (HT3.out.below HB5.out); have c1 := HT5.out.rep; have c2 := HT5.out.seq
             have HO5 : Hid (OwnD w5 w103.heap.size a5 n cap5 l) := Lib.hid (by simpa using ho5)
             have HO6 := Lib.hid (HO5.out.below (below_one w5 (.cells #[.int .u8 (r : Int), .int .u32 (s : Int)] 34)))
             have HBD := Lib.hid (Blk.new w5 34 #[.int .u8 (r : Int), .int .u32 (s : Int)])
             have HS6 : Hid (w103.heap.size ≤ (w5.alloc (.cells #[.int .u8 (r : Int), .int .u32 (s : Int)] 34)).heap.size) := Lib.hid (by have := HB5.out.size; simp; omega)
             clear ho5 hk5 hl5)
          | (at_builtin; refine wpList_appendD rfl rfl rfl rfl HO6.out HBD.out (by omega) HS6.out ?_; intro a6 cap6 w6 ho6 hk6 hl6
             have HB6 : Hid (Below w103.heap.size w103 w6) := Lib.hid (app_below2 HB5.out HO5.out hk6)
             have HT6 := Lib.hid (HT3.out.below HB6.out)
             have c6 : w6.cell? ⟨w.heap.size, 16, none⟩ = some (.slice a n cap) := by rw [HT6.out.grp.cell, push_last]
             have f6 := HT6.out.grp.frozen 16
             have HO7 := Lib.hid ho6
             have HG7 := Lib.hid (HT6.out.laid a6 (n + 1) cap6)
             clear ho6 hk6 hl6)
          | (refine wpList_run rfl (exec_load31 (v := v) rfl rfl HG7.out.1) ?_)
          | (refine wpList_void rfl rfl (exec_store31 (u := v) rfl rfl rfl HG7.out.2.1 rfl) ?_))
        refine bodyPost_ret (ret31_two (t := 4) (s := 5) (y := .int .i64 0) rfl rfl rfl (Blk.row HG7.out.2.1)) rfl ?_
        have hlt103 := HT3.out.ans.lt
        refine ⟨a6, n + 1, cap6, by rw [HE.out]; rfl, ?_, ?_, ?_, ?_, ret_row HG7.out.2.2 (by omega)⟩
        · rw [if_pos HE.out]
          refine ((HO7.out.dl ?_).keep (Kept.setCell _ _ _) ?_).keep (Kept.setRow _ _ _) ?_
          · intro x hx
            rcases List.mem_append.1 hx with hx | hx
            · exact HT3.out.dl.raw x hx
            · obtain rfl : x = (r, s) := by simpa using hx
              exact HRW.out
          · intro ad had _
            have := (HO7.out.lt ad had).1
            simp only; omega
          · intro ad had _
            have := (HO7.out.lt ad had).1
            omega
        · rintro rfl
          rcases HO7.out.2 with ⟨_, h0⟩ | ⟨g', cap', cur, hv, _⟩
          · omega
          · cases hv
        · intro ad had
          have := (HO7.out.lt ad had).1
          exact .inr (by omega)
        · intro ad had
          subst had
          rcases HO7.out.2 with ⟨h0, _⟩ | ⟨g', cap', cur, hv, _⟩
          · cases h0
          · cases hv; rfl
    · have HE : Hid (raddE v l c (r, s) = 8) := Lib.hid (by simp [raddE, hd, hh])
      rw [hh] at HH
      clear hd hh
      go_enter Try.func14, Try.ntmps14
      go_wp2_with (refine wpList_run rfl (exec_alloc31 rfl) ?_)
      clear hb1
      generalize ((w.alloc (.cells (v.obj (.slice a n cap)) 31)).alloc (.cells #[.int .u8 (r : Int), .int .u32 (s : Int)] 34)).alloc (.cells (V.zero.obj (.slice none 0 0)) 31) = W at HT
      refine (HC.out _).mono ?_
      rintro e w1 ⟨rfl, hb⟩
      have HT1 := Lib.hid (HT.out.below hb)
      clear hb
      have c1 := HT1.out.rep
      have c2 := HT1.out.seq
      go_wp2_with (first | (refine wpList_run rfl (exec_load31 (v := v) rfl rfl HT1.out.grp) ?_))
      clear c1 c2
      refine (HH.out _ HT1.out.dl).mono ?_
      rintro e w2 ⟨rfl, hb⟩
      have HT2 := Lib.hid (HT1.out.below hb)
      clear hb
      go_wp2_with (first | (refine wpList_run rfl (exec_load31 (v := v) rfl rfl HT2.out.grp) ?_) | (refine wpList_void rfl rfl (exec_store31 (u := v) rfl rfl rfl HT2.out.ans rfl) ?_))
      exact bodyPost_ret (ret31_two (t := 4) (s := 5) (y := .int .i64 8) rfl rfl rfl (Blk.row HT2.out.ans)) rfl (HT2.out.radds (k := 8) HE.out (by decide) HZ.out HSP.out HLT.out)

end Go.Proofs.Ytkamldmcjegjgaa
