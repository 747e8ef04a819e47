import Derived.Test.YtnekpgmgnepdoaaGreatXai
import Derived.Test.YtnekpgmgnepdoaaGreatXat
namespace Go.Proofs.YtnekpgmgnepdoaaGreat
open Go.RowKit Go.Maps
def ones (l : List Nat) : List (List Value) := l.map fun x => [encK x]
theorem ones_flat (l : List Nat) : (ones l).flatten = encN l := by
 induction l with
 | nil => rfl
 | cons x l ih => simp [ones, encN] at ih ⊢; exact ih
theorem ownG_of {w : World} {B n cap : Nat} {a : Option Addr} {l : List Nat} (h : OwnU w B a n cap l) : OwnG w 31 1 B a n cap (ones l) := by
 refine ⟨?_, fun v hv => ?_, by rw [← h.len]; simp [ones]⟩
 ·rw [ones_flat]; exact h
 ·obtain ⟨x, _, rfl⟩ := List.mem_map.1 hv
  rfl
def camStep (c i : Nat) (x : Option Ac) (e : En) : Option Ac := if e.c = c ∧ e.k ≠ 4 ∧ e.i = i then some ((x.getD Ac.zero).with e) else x
def camTo (c : Nat) (L : List En) (k i : Nat) : Option Ac := (L.take k).foldl (camStep c i) none
def coutTo (c : Nat) (L : List En) (k : Nat) : Bool := (L.take k).any fun e => decide (e.c = c ∧ e.k = 4)
theorem camTo_succ {c : Nat} {L : List En} {k : Nat} {x : En} (hx : L[k]? = some x) (i : Nat) : camTo c L (k + 1) i = camStep c i (camTo c L k i) x := by
 unfold camTo; rw [List.take_add_one, hx, List.foldl_append]; rfl
theorem coutTo_succ {c : Nat} {L : List En} {k : Nat} {x : En} (hx : L[k]? = some x) : coutTo c L (k + 1) = (coutTo c L k || decide (x.c = c ∧ x.k = 4)) := by
 unfold coutTo; rw [List.take_add_one, hx, List.any_append]; simp
structure CItems (c : Nat) (L : List En) (its : List Nat) : Prop where
 up : its.Pairwise (· < ·)
 mem : ∀ i, i ∈ its ↔ i < 65536 ∧ (camTo c L L.length i).isSome = true
def cqtyAt (c : Nat) (L : List En) (i : Nat) : Nat := ((camTo c L L.length i).getD Ac.zero).qty
def clineCs (c : Nat) (L : List En) (i : Nat) : List Value := [.int .u16 (i : Int), .int .u32 (cqtyAt c L i : Int)]
def viewV (c : Nat) (v : Value) (o : Bool) (t : Nat) : Array Value := #[.int .u16 (c : Int), v, .bool o, .int .u32 (t : Int)]
def CViewP (s : Sta) (c : Nat) (w : World) (e : Ending) (w' : World) : Prop :=
 (s.Right ∧ ∃ its a cap, CItems c s.es its ∧ e = .returned (.agg (viewV c (.slice a its.length cap) (coutTo c s.es s.es.length) ((tkOf s.ts c).getD 0))) ∧ OwnG w' 86 2 w.heap.size a its.length cap (its.map (clineCs c s.es)) ∧ Below w.heap.size w w') ∨
 (¬ s.Right ∧ e = .returned (.agg (viewV c (.slice none 0 0) false 0)) ∧ Below w.heap.size w w')
structure Vs (W : World) (r v m : Nat) (c : Nat) (L : List En) (k T cnt : Nat) (f : Lit → Option Value) : Prop where
 res : Blk W r 55 (viewV 0 (.slice none 0 0) false 0)
 view : Blk W v 55 (viewV c (.slice none 0 0) (coutTo c L k) T)
 mp : MpF W 31 m cnt f
 cnt : cnt ≤ k
 val : ∀ i, i < 65536 → f (litK i) = (camTo c L k i).map fun x => .agg x.arr
 apart : r < v ∧ v < m
theorem Vs.below {W W' : World} {r v m c k T cnt : Nat} {L : List En} {f : Lit → Option Value} (h : Vs W r v m c L k T cnt f) (hb : Below W.heap.size W W') : Vs W' r v m c L k T cnt f :=
 ⟨h.res.below hb, h.view.below hb, h.mp.below hb, h.cnt, h.val, h.apart⟩
def VwR (w : World) (r v m n c T : Nat) (L : List En) (u : Value) (W : World) : Prop :=
 ∃ (k cnt : Nat) (f : Lit → Option Value), u = .int .i64 (k : Int) ∧ k ≤ n ∧ Hid (Vs W r v m c L k T cnt f) ∧ Hid (Below w.heap.size w W)
section
variable {W W2 : World} {r v m c k T cnt : Nat} {L : List En} {f : Lit → Option Value} {x : En}
theorem Vs.turn (h : Vs W r v m c L k T cnt f) (hk : Kept (fun i => i = v) W W2) {k' : Nat} (hv : Blk W2 v 55 (viewV c (.slice none 0 0) (coutTo c L k') T)) (hle : k ≤ k') (hval : ∀ i, camTo c L k' i = camTo c L k i) : Vs W2 r v m c L k' T cnt f :=
 ⟨h.res.kept hk (by have := h.apart; omega), hv, h.mp.kept hk (by have := h.apart; omega), Nat.le_trans h.cnt hle, fun i hi => by rw [hval]; exact h.val i hi, h.apart⟩
theorem Vs.skip (h : Vs W r v m c L k T cnt f) (hx : L[k]? = some x) (hn : ¬ x.c = c) : Vs W r v m c L (k + 1) T cnt f :=
 h.turn (Kept.refl _ _) (by rw [coutTo_succ hx, decide_eq_false (fun h => hn h.1), Bool.or_false]; exact h.view) (Nat.le_succ _) (fun i => by rw [camTo_succ hx]; unfold camStep; rw [if_neg (fun h => hn h.1)])
theorem Vs.out (h : Vs W r v m c L k T cnt f) (hx : L[k]? = some x) (hn : x.c = c) (h4 : x.k = 4) : Vs (W.setCell ⟨v, 2, none⟩ (.bool true)) r v m c L (k + 1) T cnt f :=
 h.turn (Kept.setCell W ⟨v, 2, none⟩ _) (by rw [coutTo_succ hx, decide_eq_true ⟨hn, h4⟩, Bool.or_true]; exact h.view.set 2 (.bool true)) (Nat.le_succ _) (fun i => by rw [camTo_succ hx]; unfold camStep; rw [if_neg (fun hh => hh.2.1 h4)])
theorem Vs.put (h : Vs W r v m c L k T cnt f) (hx : L[k]? = some x) (hn : x.c = c) (h4 : x.k ≠ 4) (hk : Kept (fun i => i = m) W W2)
  (h2 : MpF W2 31 m (if (f (litK x.i)).isSome then cnt else cnt + 1) (upd f (litK x.i) (.agg (((camTo c L k x.i).getD Ac.zero).with x).arr))) : ∃ cnt' f', Vs W2 r v m c L (k + 1) T cnt' f' := by
 have hap := h.apart
 refine ⟨_, _, h.res.kept hk (by omega), ?_, h2, ?_, fun i hi => ?_, h.apart⟩
 ·have e : coutTo c L (k + 1) = coutTo c L k := by rw [coutTo_succ hx]; simp [h4]
  rw [e]
  exact h.view.kept hk (by omega)
 ·have := h.cnt
  split <;> omega
 ·rw [camTo_succ hx]
  unfold camStep
  by_cases e : x.i = i
  ·subst e
   rw [if_pos ⟨hn, h4, rfl⟩, upd_same]
   rfl
  ·rw [if_neg (fun hh => e hh.2.2), upd_other _ _ (fun hh => e (litK_inj hh).symm)]
   exact h.val i hi
end
set_option maxRecDepth 100000 in
theorem und53 : Tryz.prog.underlying 53 = some (.slice 86) := Tryz.underlying53
set_option maxRecDepth 100000 in
theorem info86 : (Tryz.prog.info? 86).map (fun i => (i.zero, i.size, i.bytes)) = some (some (.agg #[.int .u16 0, .int .u32 0]), 2, 8) := by kernel_rfl
section
variable {ev : Operand → Value} {q : Oper} {w : World}
theorem exec_lookAc {x y : Operand} {m n i : Nat} {f : Lit → Option Value} {am : Option Ac} {z : Ac} (ho : q.op = .lookup 114 x y false) (hx : ev x = .map (some m)) (hy : ev y = .int .u16 (i : Int)) (h : MpF w 31 m n f) (hi : i < 65536) (hv : f (litK i) = am.map fun x => .agg x.arr) (hz : am.getD Ac.zero = z) : (execOp ev q).run Tryz.prog w = .ok (.value (.agg z.arr)) w := by
 subst hz
 have hl := h.look law31 und114 (zero116 w) (key31 hi)
 rw [hv] at hl
 have e1 : (am.map (fun o => Value.agg o.arr)).getD (.agg Ac.zero.arr) = .agg (am.getD Ac.zero).arr := by
  cases am <;> rfl
 rw [e1] at hl
 have hl' : (Instr.lookup 114 (.map (some m)) (.int .u16 (i : Int)) false).run Tryz.prog w = .ok (.agg (am.getD Ac.zero).arr) w := hl
 unfold execOp
 simp only [ho, hx, hy, Sem.run_bind, hl', Result.andThen_ok]
 rfl
theorem exec_bldLine {x y : Operand} {i n : Nat} (ho : q.op = .build 86 #[(0, x), (1, y)]) (hx : ev x = .int .u16 (i : Int)) (hy : ev y = .int .u32 (n : Int)) : (execOp ev q).run Tryz.prog w = .ok (.value (.agg #[.int .u16 (i : Int), .int .u32 (n : Int)])) w := by
 have hm : (#[((0 : Nat), x), (1, y)]).map (fun (i, x) => (i, ev x)) = #[(0, .int .u16 (i : Int)), (1, .int .u32 (n : Int))] := by simp [hx, hy]
 have hb : (Instr.build 86 #[(0, .int .u16 (i : Int)), (1, .int .u32 (n : Int))]).run Tryz.prog w = .ok (.agg #[.int .u16 (i : Int), .int .u32 (n : Int)]) w := run_build w 86 _ _ (by kernel_rfl)
 unfold execOp
 simp only [ho, hm, Sem.run_bind, hb, Result.andThen_ok]
 rfl
end
theorem bsLine (cs : List Value) (hc : cs.length = 2) (w : World) : (Instr.buildSlice 53 1 #[(0, .agg cs.toArray)]).run Tryz.prog w = .ok (.slice (some ⟨w.heap.size, 0, none⟩) 1 1) (w.alloc (.cells cs.toArray 86)) := by
 obtain ⟨i0, hi, hz0, hz1, hz2⟩ := info_parts info86
 refine run_buildSlice w 53 86 1 _ _ i0 _ und53 hi hz0 (by rw [hz1]; omega) (by rw [hz1]; omega) ?_
 rw [hz1]
 obtain ⟨a, b, rfl⟩ : ∃ a b, cs = [a, b] := by
  match cs, hc with
  | [a, b], _ => exact ⟨a, b, rfl⟩
 kernel_rfl
section
variable {ev : Operand → Value} {q : Oper} {w : World}
theorem exec_bsLine {x : Operand} {cs : List Value} (hc : cs.length = 2) (ho : q.op = .buildSlice 53 1 #[(0, x)]) (hx : ev x = .agg cs.toArray) : (execOp ev q).run Tryz.prog w = .ok (.value (.slice (some ⟨w.heap.size, 0, none⟩) 1 1)) (w.alloc (.cells cs.toArray 86)) := by
 have hm : (#[((0 : Nat), x)]).map (fun (i, x) => (i, ev x)) = #[(0, Value.agg cs.toArray)] := by simp [hx]
 unfold execOp
 simp only [ho, hm, Sem.run_bind, bsLine cs hc w, Result.andThen_ok]
 rfl
theorem exec_stSl {x y : Operand} {g o : Nat} {a : Option Addr} {n cap : Nat} {t : TypeId} {cs : Array Value} (ho : q.op = .store 53 x y) (hx : ev x = .pointer (some ⟨g, o, none⟩)) (hy : ev y = .slice a n cap) (h : Blk w g t cs) (hlt : o < cs.size) : (execOp ev q).run Tryz.prog w = .ok .skip (w.setCell ⟨g, o, none⟩ (.slice a n cap)) := by
 have u42 := und53
 have hc : w.cell? ⟨g, o, none⟩ = some cs[o] := by rw [h.cell]; exact Array.getElem?_eq_getElem hlt
 have hf : w.frozen? ⟨g, o, none⟩ = false := h.frozen o
 generalize cs[o] = old at hc
 unfold execOp
 simp only [ho, hx, hy]
 go_simp
end
theorem size55 : (Tryz.prog.info? 55).map (·.size) = some 4 := by kernel_rfl
theorem und55 : Tryz.prog.underlying 55 = some (.struct (Tryz.prog.fieldsOf 55)) := by kernel_rfl
theorem viewV_one (c : Nat) (a : Option Addr) (n cap : Nat) (o : Bool) (t : Nat) : (viewV c (.slice a n cap) o t).all (·.oneCell') = true := by
 refine all_oneCell_toArray fun u hu => ?_
 simp only [List.mem_cons, List.not_mem_nil, or_false] at hu
 rcases hu with rfl | rfl | rfl | rfl <;> rfl
section
variable {w : World} {g c c2 t t2 : Nat} {v v2 : Value} {o o2 : Bool}
theorem loadVar55 (h : Blk w g 55 (viewV c v o t)) : (loadVar 55 ⟨g, 0, none⟩).run Tryz.prog w = .ok (.agg (viewV c v o t)) w :=
 run_loadVar_row _ _ 55 55 (viewV c v o t) (0, 0) _ h und55 rfl size55
theorem load55 (h : Blk w g 55 (viewV c v o t)) : (Instr.loadAt 55 (.pointer (some ⟨g, 0, none⟩))).run Tryz.prog w = .ok (.agg (viewV c v o t)) w := by
 simp only [Instr.loadAt, Instr.sureAddr, Sem.run_bind, Sem.run_pure, Result.andThen]
 exact loadVar55 h
theorem store55 {a : Option Addr} {n cap : Nat} (h : Blk w g 55 (viewV c v o t)) : (Instr.storeAt 55 (.pointer (some ⟨g, 0, none⟩)) (.agg (viewV c2 (.slice a n cap) o2 t2))).run Tryz.prog w = .ok () (w.setRow g (viewV c2 (.slice a n cap) o2 t2)) := by
 simp only [Instr.storeAt, Instr.sureAddr, Sem.run_bind, Sem.run_pure, Result.andThen]
 exact run_storeVar_row _ _ 55 55 (viewV c v o t) _ h size55 rfl (viewV_one _ _ _ _ _ _)
theorem ret55 {fn : Func} {x : Tmp} (hf : fn.results = #[.cell x 55]) {tmps : Array Value} (hx : tmps.getD x undef = .pointer (some ⟨g, 0, none⟩)) (hb : Blk w g 55 (viewV c v o t)) :
  (results fn tmps).run Tryz.prog w = .ok (.agg (viewV c v o t)) w := by
 have hx' : tmps[x]?.getD undef = .pointer (some ⟨g, 0, none⟩) := by rw [← hx]; simp [Array.getD_eq_getD_getElem?]
 simp only [results, hf]
 simp [hx', asAddr, loadVar55 hb]
variable {ev : Operand → Value} {q : Oper}
theorem exec_load55 {x : Operand} (ho : q.op = .load 55 x) (hx : ev x = .pointer (some ⟨g, 0, none⟩)) (h : Blk w g 55 (viewV c v o t)) : (execOp ev q).run Tryz.prog w = .ok (.value (.agg (viewV c v o t))) w := exec_cell ho hx (load55 h)
theorem exec_store55 {x y : Operand} {a : Option Addr} {n cap : Nat} (ho : q.op = .store 55 x y) (hx : ev x = .pointer (some ⟨g, 0, none⟩)) (hy : ev y = .agg (viewV c2 (.slice a n cap) o2 t2)) (h : Blk w g 55 (viewV c v o t)) : (execOp ev q).run Tryz.prog w = .ok .skip (w.setRow g (viewV c2 (.slice a n cap) o2 t2)) := by
 unfold execOp
 simp only [ho, hx, hy, Sem.run_bind, store55 (c2 := c2) (o2 := o2) (t2 := t2) (a := a) (n := n) (cap := cap) h, Result.andThen_ok]
 rfl
end
theorem wpList_stop55 {ops : Array Oper} {rest : List Oper} {o : Oper} {act : Act} {Q : Exit → Act → World → Prop} {W : World} {x : Operand} (_ho : o.op = .load 55 x) (k : Halt_ (wpList Tryz.prog ops Q (o :: rest) act W)) : wpList Tryz.prog ops Q (o :: rest) act W := k.out
theorem held_appendG {ops : Array Oper} {Q : Exit → Act → World → Prop} {S : World → Prop} {fuel : Nat} {listed : Array Bool} {act : Act} {W : World} (i : Nat) (d : Tmp) {o : Oper} (t e size bytes : Nat) {z : Value} (hinfo : (Tryz.prog.info? e).map (fun i => (i.zero, i.size, i.bytes)) = some (some z, size, bytes)) (ht : Tryz.prog.underlying t = some (.slice e)) (hzs : z.cells.size = size) (hsz : 0 < size) (hby : bytes ≤ 1000)
  {x y : Operand} {B n cap g : Nat} {a : Option Addr} {vs : List (List Value)} {cs : Array Value} (hd : o.dst = some d) (hi0 : ops[i]? = some o) (hr : Region.ready .any ops listed = [i]) (hw : Region.wanted o (yielded ops act.tmps) = true) (ho : o.op = .call { callee := .builtin .append, args := #[x, y], argTypes := #[t, t] })
  (hx : act.eval x = .slice a n cap) (hy : act.eval y = .slice (some ⟨g, 0, none⟩) 1 1) (hown : OwnG W e size B a n cap vs) (hg : Blk W g e cs) (hc : cs.size = size) (h1 : ∀ u ∈ cs.toList, u.oneCell' = true) (hn : n < 1000000000) (hB : B ≤ W.heap.size)
  (k : ∀ a' cap' w', OwnG w' e size B a' (n + 1) cap' (vs ++ [cs.toList]) → Kept (At a) W w' → Lies W a a' → S w' ∧ wpAnyH Tryz.prog .any ops Q S fuel (listed.setIfInBounds i true) (act.put (some d) (.slice a' (n + 1) cap')) w') : wpAnyH Tryz.prog .any ops Q S (fuel + 1) listed act W := by
 obtain ⟨i0, hi, hz0, hz1, hz2⟩ := info_parts hinfo
 have hnb : (n + 1) * bytes ≤ 140737488355328 := by
  have : (n + 1) * bytes ≤ 1000000000 * 1000 := Nat.mul_le_mul (by omega) hby
  omega
 refine wpAnyH_ready (rs := [i]) hr (by simp) (AllReadyH.cons hi0 (fun K hK => ?_) AllReadyH.nil)
 rw [if_pos hw]
 refine wp_append_lies W x y t ho B e i0 _ size bytes ht hi hz0 hz1 hz2 hzs hsz (.slice a n cap) n vs.flatten hx hown.row ⟨g, 0, none⟩ 1 1 cs.toList hy (by simp [hc])
  (World.news_of_block (cs := cs) (t := e) (fr := (0, 0)) hg) h1 (by omega) (by unfold maxLen; omega) hnb hB _ rfl ?_
 intro g' cap' w' h1' h2 h3 h4
 have hh := k _ cap' w' ⟨by simpa using h1', ?_, by simp [hown.len]⟩ ⟨h2.os, h2.tape, h2.output, h2.size, fun k hk hn => h2.block k hk (fun e => hn ?_)⟩ ?_
 ·exact hK.out _ _ hh.1 (fun _ => by rw [hd]; exact hh.2)
 ·intro v hv
  rcases List.mem_append.1 hv with hv | hv
  ·exact hown.each v hv
  ·obtain rfl : v = cs.toList := by simpa using hv
   simp [hc]
 ·cases a with
  | none => simp [Value.ownBlock] at e
  | some ad => exact ⟨ad, rfl, by simpa [Value.ownBlock] using e⟩
 ·rintro ad rfl2
  obtain rfl := Option.some.inj rfl2
  rcases h3 with h3 | h3
  ·cases a with
   | none => simp [Value.ownBlock] at h3
   | some ad => exact .inl ⟨ad, rfl, by simpa [Value.ownBlock] using h3.symm⟩
  ·exact .inr (by simp [h3])
structure Vl (W : World) (B r v m : Nat) (ak : Option Addr) (nk : Nat) (a : Option Addr) (j cap c T : Nat) (L : List En) (ss : List Nat) (cnt : Nat) (f : Lit → Option Value) : Prop where
 res : Blk W r 55 (viewV 0 (.slice none 0 0) false 0)
 view : Blk W v 55 (viewV c (.slice a j cap) (coutTo c L L.length) (T))
 mp : MpF W 31 m cnt f
 keys : GL W 1 ak nk (ones ss)
 own : OwnG W 86 2 B a j cap ((ss.take j).map (clineCs c L))
 lt : r < v ∧ v < m ∧ m < B
 klt : ∀ ad, ak = some ad → ad.block < B ∧ m < ad.block
theorem Vl.below {W W' : World} {B r v m nk j cap c T cnt : Nat} {ak a : Option Addr} {L : List En} {ss : List Nat} {f : Lit → Option Value} (h : Vl W B r v m ak nk a j cap c T L ss cnt f) (hb : Below W.heap.size W W') : Vl W' B r v m ak nk a j cap c T L ss cnt f :=
 ⟨h.res.below hb, h.view.below hb, h.mp.below hb, h.keys.below hb, h.own.below hb, h.lt, h.klt⟩
theorem Vl.more {W W' : World} {B r v m nk j cap cap' c T cnt i : Nat} {ak a a' : Option Addr} {L : List En} {ss : List Nat} {f : Lit → Option Value} (h : Vl W B r v m ak nk a j cap c T L ss cnt f) (hi : ss[j]? = some i) (hk : Kept (At a) W W')
  (ho : OwnG W' 86 2 B a' (j + 1) cap' ((ss.take j).map (clineCs c L) ++ [clineCs c L i])) : Vl (W'.setCell ⟨v, 1, none⟩ (.slice a' (j + 1) cap')) B r v m ak nk a' (j + 1) cap' c T L ss cnt f := by
 have hlt := h.lt
 have hat : ∀ g, g < B → ¬ At a g := fun g hg ⟨ad, e, e2⟩ => by have := (h.own.lt ad e).1; omega
 have hs : Kept (fun i => i = v) W' (W'.setCell ⟨v, 1, none⟩ (.slice a' (j + 1) cap')) := Kept.setCell W' ⟨v, 1, none⟩ _
 refine ⟨(h.res.kept hk (hat _ (by omega))).kept hs (by omega), ?_, (h.mp.kept hk (hat _ (by omega))).kept hs (by omega), (h.keys.keep hk (fun ad e _ => hat _ (h.klt ad e).1)).keep hs (fun ad e _ => by have := h.klt ad e; omega), ?_, h.lt, h.klt⟩
 ·exact (h.view.kept hk (hat _ (by omega))).set 1 (.slice a' (j + 1) cap')
 ·rw [List.take_add_one, hi, List.map_append]
  refine ho.keep hs (fun ad e => ?_)
  have := (ho.lt ad e).1
  omega
def VlR (w : World) (B r v m : Nat) (ak : Option Addr) (nk c T : Nat) (L : List En) (ss : List Nat) (cnt : Nat) (f : Lit → Option Value) (u : Value) (W : World) : Prop :=
 ∃ (j cap : Nat) (a : Option Addr), u = .int .i64 (j : Int) ∧ j ≤ nk ∧ Hid (Vl W B r v m ak nk a j cap c T L ss cnt f) ∧ Hid (Below w.heap.size w W) ∧ Hid (B ≤ W.heap.size)
end Go.Proofs.YtnekpgmgnepdoaaGreat
