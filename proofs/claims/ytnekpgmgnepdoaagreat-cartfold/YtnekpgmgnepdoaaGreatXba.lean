import Derived.Test.YtnekpgmgnepdoaaGreatXaz
namespace Go.Proofs.YtnekpgmgnepdoaaGreat.F
open Go.Proofs.YtnekpgmgnepdoaaGreat Go.Proofs.YtnekpgmgnepdoaaGreat.Fold
open Go.RowKit Go.Maps Fold
def amStep (L : List O) (i : Nat) (x : Option Am) (o : O) : Option Am := if liveB L o = true ∧ o.k ≠ 4 ∧ o.i = i then some ((x.getD Am.zero).with o) else x
def amTo (L : List O) (k i : Nat) : Option Am := (L.take k).foldl (amStep L i) none
def outTo (L : List O) (k : Nat) : Bool := (L.take k).any fun o => liveB L o && decide (o.k = 4)
def tkTo (L : List O) (k : Nat) : Nat := (L.take k).foldl (fun t o => max t o.t) 0
theorem amTo_succ {L : List O} {k : Nat} {x : O} (hx : L[k]? = some x) (i : Nat) : amTo L (k + 1) i = amStep L i (amTo L k i) x := by
 unfold amTo; rw [List.take_add_one, hx, List.foldl_append]; rfl
theorem outTo_succ {L : List O} {k : Nat} {x : O} (hx : L[k]? = some x) : outTo L (k + 1) = (outTo L k || (liveB L x && decide (x.k = 4))) := by
 unfold outTo; rw [List.take_add_one, hx, List.any_append]; simp
theorem tkTo_succ {L : List O} {k : Nat} {x : O} (hx : L[k]? = some x) : tkTo L (k + 1) = max (tkTo L k) x.t := by
 unfold tkTo; rw [List.take_add_one, hx, List.foldl_append]; rfl
structure Items (L : List O) (its : List Nat) : Prop where
 up : its.Pairwise (· < ·)
 mem : ∀ i, i ∈ its ↔ i < 65536 ∧ (amTo L L.length i).isSome = true
def qtyAt (L : List O) (i : Nat) : Nat := ((amTo L L.length i).getD Am.zero).qty
def lineCs (L : List O) (i : Nat) : List Value := [.int .u16 (i : Int), .int .u32 (qtyAt L i : Int)]
def viewV (c : Nat) (v : Value) (o : Bool) (t : Nat) : Array Value := #[.int .u16 (c : Int), v, .bool o, .int .u32 (t : Int)]
def ViewP (L : List O) (c : Nat) (w : World) (e : Ending) (w' : World) : Prop :=
 ∃ its a cap, Items L its ∧ e = .returned (.agg (viewV c (.slice a its.length cap) (outTo L L.length) (tkTo L L.length))) ∧ OwnG w' 86 2 w.heap.size a its.length cap (its.map (lineCs L)) ∧ Below w.heap.size w w'
structure Vs (W : World) (r v m gl : Nat) (a : Option Addr) (c : Nat) (L : List O) (k T cnt : Nat) (f : Lit → Option Value) : Prop where
 res : Blk W r 55 (viewV 0 (.slice none 0 0) false 0)
 view : Blk W v 55 (viewV c (.slice none 0 0) (outTo L k) T)
 mp : MpF W 31 m cnt f
 cnt : cnt ≤ k
 val : ∀ i, i < 65536 → f (litK i) = (amTo L k i).map fun x => .agg x.arr
 lives : Blk W gl 4 ((L.map (liveB L)).map Value.bool).toArray
 ol : OL W a L.length L
 apart : r < v ∧ v < m ∧ m < gl
 olt : ∀ ad, a = some ad → ad.block < v
theorem Vs.below {W W' : World} {r v m gl c k T cnt : Nat} {a : Option Addr} {L : List O} {f : Lit → Option Value} (h : Vs W r v m gl a c L k T cnt f) (hb : Below W.heap.size W W') : Vs W' r v m gl a c L k T cnt f :=
 ⟨h.res.below hb, h.view.below hb, h.mp.below hb, h.cnt, h.val, h.lives.below hb, h.ol.below hb, h.apart, h.olt⟩
theorem und53 : Tryz.prog.underlying 53 = some (.slice 86) := Tryz.underlying53
theorem info86 : (Tryz.prog.info? 86).map (fun i => (i.zero, i.size, i.bytes)) = some (some (.agg #[.int .u16 0, .int .u32 0]), 2, 8) := by kernel_rfl
structure VwP (W : World) (r v m : Nat) (a : Option Addr) (c : Nat) (L : List O) : Prop where
 res : Blk W r 55 (viewV 0 (.slice none 0 0) false 0)
 view : Blk W v 55 (viewV c (.slice none 0 0) false 0)
 mp : MpF W 31 m 0 (fun _ => none)
 ol : OL W a L.length L
theorem VwP.below {W W' : World} {r v m c : Nat} {a : Option Addr} {L : List O} (h : VwP W r v m a c L) (hb : Below W.heap.size W W') : VwP W' r v m a c L :=
 ⟨h.res.below hb, h.view.below hb, h.mp.below hb, h.ol.below hb⟩
theorem vwp_new {W : World} {r c : Nat} {a : Option Addr} {L : List O} (hr : Blk W r 55 (viewV 0 (.slice none 0 0) false 0)) (hl : OL W a L.length L) : VwP ((W.alloc (.cells #[.int .u16 (c : Int), .slice none 0 0, .bool false, .int .u32 0] 55)).alloc (.map #[] 0)) r W.heap.size (W.heap.size + 1) a c L := by
 have h1 := Blk.new W 55 #[.int .u16 (c : Int), .slice none 0 0, .bool false, .int .u32 0]
 have b1 := below_one (W.alloc (.cells #[.int .u16 (c : Int), .slice none 0 0, .bool false, .int .u32 0] 55)) (.map #[] 0)
 have h2 := mpF_new (W.alloc (.cells #[.int .u16 (c : Int), .slice none 0 0, .bool false, .int .u32 0] 55)) 31
 simp only [World.size_alloc] at h2
 exact ⟨hr.below (below_two' _ _ _), h1.below b1, h2, hl.below (below_two' _ _ _)⟩
def VwR (w : World) (r v m gl : Nat) (a : Option Addr) (n c : Nat) (L : List O) (u : Value) (W : World) : Prop :=
 ∃ (k cnt : Nat) (f : Lit → Option Value), u = .int .i64 (k : Int) ∧ k ≤ n ∧ Hid (Vs W r v m gl a c L k (tkTo L k) cnt f) ∧ Hid (Below w.heap.size w W)
theorem viewV_size (c : Nat) (v : Value) (o : Bool) (t : Nat) : (viewV c v o t).size = 4 := rfl
section
variable {W W2 : World} {r v m gl c k T cnt : Nat} {a : Option Addr} {L : List O} {f : Lit → Option Value} {x : O}
theorem Vs.turn (h : Vs W r v m gl a c L k T cnt f) (hk : Kept (fun i => i = v) W W2) {k' T' : Nat} (hv : Blk W2 v 55 (viewV c (.slice none 0 0) (outTo L k') T')) (hle : k ≤ k') (hval : ∀ i, amTo L k' i = amTo L k i) : Vs W2 r v m gl a c L k' T' cnt f :=
 ⟨h.res.kept hk (by have := h.apart; omega), hv, h.mp.kept hk (by have := h.apart; omega), Nat.le_trans h.cnt hle, fun i hi => by rw [hval]; exact h.val i hi, h.lives.kept hk (by have := h.apart; omega), h.ol.keep hk (fun ad e _ => by have := h.olt ad e; omega), h.apart, h.olt⟩
theorem Vs.tick (h : Vs W r v m gl a c L k T cnt f) (T' : Nat) {z : Int} (hz : z = (T' : Int)) : Vs (W.setCell ⟨v, 3, none⟩ (.int .u32 z)) r v m gl a c L k T' cnt f := by
 subst hz
 exact h.turn (Kept.setCell W ⟨v, 3, none⟩ _) (h.view.set 3 (.int .u32 (T' : Int))) (Nat.le_refl _) (fun _ => rfl)
theorem Vs.skip (h : Vs W r v m gl a c L k T cnt f) (hx : L[k]? = some x) (hn : liveB L x = false) : Vs W r v m gl a c L (k + 1) T cnt f :=
 h.turn (Kept.refl _ _) (by rw [outTo_succ hx, hn, Bool.false_and, Bool.or_false]; exact h.view) (Nat.le_succ _) (fun i => by rw [amTo_succ hx]; unfold amStep; rw [if_neg (by simp [hn])])
theorem Vs.out (h : Vs W r v m gl a c L k T cnt f) (hx : L[k]? = some x) (hn : liveB L x = true) (h4 : x.k = 4) : Vs (W.setCell ⟨v, 2, none⟩ (.bool true)) r v m gl a c L (k + 1) T cnt f :=
 h.turn (Kept.setCell W ⟨v, 2, none⟩ _) (by rw [outTo_succ hx, hn, h4]; simp only [decide_true, Bool.and_true, Bool.or_true]; exact h.view.set 2 (.bool true)) (Nat.le_succ _) (fun i => by rw [amTo_succ hx]; unfold amStep; rw [if_neg (by simp [h4])])
theorem Vs.put (h : Vs W r v m gl a c L k T cnt f) (hx : L[k]? = some x) (hn : liveB L x = true) (h4 : x.k ≠ 4) (hk : Kept (fun i => i = m) W W2)
  (h2 : MpF W2 31 m (if (f (litK x.i)).isSome then cnt else cnt + 1) (upd f (litK x.i) (.agg (((amTo L k x.i).getD Am.zero).with x).arr))) : ∃ cnt' f', Vs W2 r v m gl a c L (k + 1) T cnt' f' := by
 have hap := h.apart
 refine ⟨_, _, h.res.kept hk (by omega), ?_, h2, ?_, fun i hi => ?_, h.lives.kept hk (by omega), h.ol.keep hk (fun ad e _ => by have := h.olt ad e; omega), h.apart, h.olt⟩
 ·have e : outTo L (k + 1) = outTo L k := by rw [outTo_succ hx]; simp [h4]
  rw [e]
  exact h.view.kept hk (by omega)
 ·have := h.cnt
  split <;> omega
 ·rw [amTo_succ hx]
  unfold amStep
  by_cases e : x.i = i
  ·subst e
   rw [if_pos ⟨hn, h4, rfl⟩, upd_same]
   rfl
  ·rw [if_neg (fun hh => e hh.2.2), upd_other _ _ (fun hh => e (litK_inj hh).symm)]
   exact h.val i hi
end
section
variable {ev : Operand → Value} {q : Oper} {w : World}
theorem exec_lookAm {x y : Operand} {m n i : Nat} {f : Lit → Option Value} {am : Option Am} {z : Am} (ho : q.op = .lookup 129 x y false) (hx : ev x = .map (some m)) (hy : ev y = .int .u16 (i : Int)) (h : MpF w 31 m n f) (hi : i < 65536) (hv : f (litK i) = am.map fun x => .agg x.arr) (hz : am.getD Am.zero = z) : (execOp ev q).run Tryz.prog w = .ok (.value (.agg z.arr)) w := by
 subst hz
 have hl := h.look law31 und129 (zero131 w) (key31 hi)
 rw [hv] at hl
 have e1 : (am.map (fun o => Value.agg o.arr)).getD (.agg Am.zero.arr) = .agg (am.getD Am.zero).arr := by
  cases am <;> rfl
 rw [e1] at hl
 have hl' : (Instr.lookup 129 (.map (some m)) (.int .u16 (i : Int)) false).run Tryz.prog w = .ok (.agg (am.getD Am.zero).arr) w := hl
 unfold execOp
 simp only [ho, hx, hy, Sem.run_bind, hl', Result.andThen_ok]
 rfl
theorem exec_bldLine {x y : Operand} {i n : Nat} (ho : q.op = .build 86 #[(0, x), (1, y)]) (hx : ev x = .int .u16 (i : Int)) (hy : ev y = .int .u32 (n : Int)) : (execOp ev q).run Tryz.prog w = .ok (.value (.agg #[.int .u16 (i : Int), .int .u32 (n : Int)])) w := by
 have hm : (#[((0 : Nat), x), (1, y)]).map (fun (i, x) => (i, ev x)) = #[(0, .int .u16 (i : Int)), (1, .int .u32 (n : Int))] := by simp [hx, hy]
 have hb : (Instr.build 86 #[(0, .int .u16 (i : Int)), (1, .int .u32 (n : Int))]).run Tryz.prog w = .ok (.agg #[.int .u16 (i : Int), .int .u32 (n : Int)]) w := run_build w 86 _ _ (by kernel_rfl)
 unfold execOp
 simp only [ho, hm, Sem.run_bind, hb, Result.andThen_ok]
 rfl
end
theorem bsLine (cs : List Value) (hc : cs.length = 2) (w : World) : (Instr.buildSlice 53 1 #[(0, .agg cs.toArray)]).run Tryz.prog w = .ok (.slice (some ⟨w.heap.size, 0, none⟩) 1 1) (w.alloc (.cells cs.toArray 86)) := by
 obtain ⟨i0, hi, hz0, hz1, hz2⟩ := info_parts info86
 refine run_buildSlice w 53 86 1 _ _ i0 _ und53 hi hz0 (by rw [hz1]; omega) (by rw [hz1]; omega) ?_
 rw [hz1]
 obtain ⟨a, b, rfl⟩ : ∃ a b, cs = [a, b] := by
  match cs, hc with
  | [a, b], _ => exact ⟨a, b, rfl⟩
 kernel_rfl
section
variable {ev : Operand → Value} {q : Oper} {w : World}
theorem exec_bsLine {x : Operand} {cs : List Value} (hc : cs.length = 2) (ho : q.op = .buildSlice 53 1 #[(0, x)]) (hx : ev x = .agg cs.toArray) : (execOp ev q).run Tryz.prog w = .ok (.value (.slice (some ⟨w.heap.size, 0, none⟩) 1 1)) (w.alloc (.cells cs.toArray 86)) := by
 have hm : (#[((0 : Nat), x)]).map (fun (i, x) => (i, ev x)) = #[(0, Value.agg cs.toArray)] := by simp [hx]
 unfold execOp
 simp only [ho, hm, Sem.run_bind, bsLine cs hc w, Result.andThen_ok]
 rfl
theorem exec_stSl {x y : Operand} {g o : Nat} {a : Option Addr} {n cap : Nat} {t : TypeId} {cs : Array Value} (ho : q.op = .store 53 x y) (hx : ev x = .pointer (some ⟨g, o, none⟩)) (hy : ev y = .slice a n cap) (h : Blk w g t cs) (hlt : o < cs.size) : (execOp ev q).run Tryz.prog w = .ok .skip (w.setCell ⟨g, o, none⟩ (.slice a n cap)) := by
 have u53 := und53
 have hc : w.cell? ⟨g, o, none⟩ = some cs[o] := by rw [h.cell]; exact Array.getElem?_eq_getElem hlt
 have hf : w.frozen? ⟨g, o, none⟩ = false := h.frozen o
 generalize cs[o] = old at hc
 unfold execOp
 simp only [ho, hx, hy]
 go_simp
end
theorem size55 : (Tryz.prog.info? 55).map (·.size) = some 4 := by kernel_rfl
theorem und55 : Tryz.prog.underlying 55 = some (.struct (Tryz.prog.fieldsOf 55)) := by kernel_rfl
theorem viewV_one (c : Nat) (a : Option Addr) (n cap : Nat) (o : Bool) (t : Nat) : (viewV c (.slice a n cap) o t).all (·.oneCell') = true := by
 refine all_oneCell_toArray fun u hu => ?_
 simp only [List.mem_cons, List.not_mem_nil, or_false] at hu
 rcases hu with rfl | rfl | rfl | rfl <;> rfl
section
variable {w : World} {g c c2 t t2 : Nat} {v v2 : Value} {o o2 : Bool}
theorem loadVar55 (h : Blk w g 55 (viewV c v o t)) : (loadVar 55 ⟨g, 0, none⟩).run Tryz.prog w = .ok (.agg (viewV c v o t)) w :=
 run_loadVar_row _ _ 55 55 (viewV c v o t) (0, 0) _ h und55 rfl size55
theorem load55 (h : Blk w g 55 (viewV c v o t)) : (Instr.loadAt 55 (.pointer (some ⟨g, 0, none⟩))).run Tryz.prog w = .ok (.agg (viewV c v o t)) w := by
 simp only [Instr.loadAt, Instr.sureAddr, Sem.run_bind, Sem.run_pure, Result.andThen]
 exact loadVar55 h
theorem store55 {a : Option Addr} {n cap : Nat} (h : Blk w g 55 (viewV c v o t)) : (Instr.storeAt 55 (.pointer (some ⟨g, 0, none⟩)) (.agg (viewV c2 (.slice a n cap) o2 t2))).run Tryz.prog w = .ok () (w.setRow g (viewV c2 (.slice a n cap) o2 t2)) := by
 simp only [Instr.storeAt, Instr.sureAddr, Sem.run_bind, Sem.run_pure, Result.andThen]
 exact run_storeVar_row _ _ 55 55 (viewV c v o t) _ h size55 rfl (viewV_one _ _ _ _ _ _)
theorem ret55 {fn : Func} {x : Tmp} (hf : fn.results = #[.cell x 55]) {tmps : Array Value} (hx : tmps.getD x undef = .pointer (some ⟨g, 0, none⟩)) (hb : Blk w g 55 (viewV c v o t)) :
  (results fn tmps).run Tryz.prog w = .ok (.agg (viewV c v o t)) w := by
 have hx' : tmps[x]?.getD undef = .pointer (some ⟨g, 0, none⟩) := by rw [← hx]; simp [Array.getD_eq_getD_getElem?]
 simp only [results, hf]
 simp [hx', asAddr, loadVar55 hb]
variable {ev : Operand → Value} {q : Oper}
theorem exec_load55 {x : Operand} (ho : q.op = .load 55 x) (hx : ev x = .pointer (some ⟨g, 0, none⟩)) (h : Blk w g 55 (viewV c v o t)) : (execOp ev q).run Tryz.prog w = .ok (.value (.agg (viewV c v o t))) w := exec_cell ho hx (load55 h)
theorem exec_store55 {x y : Operand} {a : Option Addr} {n cap : Nat} (ho : q.op = .store 55 x y) (hx : ev x = .pointer (some ⟨g, 0, none⟩)) (hy : ev y = .agg (viewV c2 (.slice a n cap) o2 t2)) (h : Blk w g 55 (viewV c v o t)) : (execOp ev q).run Tryz.prog w = .ok .skip (w.setRow g (viewV c2 (.slice a n cap) o2 t2)) := by
 unfold execOp
 simp only [ho, hx, hy, Sem.run_bind, store55 (c2 := c2) (o2 := o2) (t2 := t2) (a := a) (n := n) (cap := cap) h, Result.andThen_ok]
 rfl
end
theorem wpList_stop55 {ops : Array Oper} {rest : List Oper} {o : Oper} {act : Act} {Q : Exit → Act → World → Prop} {W : World} {x : Operand} (_ho : o.op = .load 55 x) (k : Halt_ (wpList Tryz.prog ops Q (o :: rest) act W)) : wpList Tryz.prog ops Q (o :: rest) act W := k.out
theorem held_appendG {ops : Array Oper} {Q : Exit → Act → World → Prop} {S : World → Prop} {fuel : Nat} {listed : Array Bool} {act : Act} {W : World} (i : Nat) (d : Tmp) {o : Oper} (t e size bytes : Nat) {z : Value} (hinfo : (Tryz.prog.info? e).map (fun i => (i.zero, i.size, i.bytes)) = some (some z, size, bytes)) (ht : Tryz.prog.underlying t = some (.slice e)) (hzs : z.cells.size = size) (hsz : 0 < size) (hby : bytes ≤ 1000)
  {x y : Operand} {B n cap g : Nat} {a : Option Addr} {vs : List (List Value)} {cs : Array Value} (hd : o.dst = some d) (hi0 : ops[i]? = some o) (hr : Region.ready .any ops listed = [i]) (hw : Region.wanted o (yielded ops act.tmps) = true) (ho : o.op = .call { callee := .builtin .append, args := #[x, y], argTypes := #[t, t] })
  (hx : act.eval x = .slice a n cap) (hy : act.eval y = .slice (some ⟨g, 0, none⟩) 1 1) (hown : OwnG W e size B a n cap vs) (hg : Blk W g e cs) (hc : cs.size = size) (h1 : ∀ u ∈ cs.toList, u.oneCell' = true) (hn : n < 1000000000) (hB : B ≤ W.heap.size)
  (k : ∀ a' cap' w', OwnG w' e size B a' (n + 1) cap' (vs ++ [cs.toList]) → Kept (At a) W w' → Lies W a a' → S w' ∧ wpAnyH Tryz.prog .any ops Q S fuel (listed.setIfInBounds i true) (act.put (some d) (.slice a' (n + 1) cap')) w') : wpAnyH Tryz.prog .any ops Q S (fuel + 1) listed act W := by
 obtain ⟨i0, hi, hz0, hz1, hz2⟩ := info_parts hinfo
 have hnb : (n + 1) * bytes ≤ 140737488355328 := by
  have : (n + 1) * bytes ≤ 1000000000 * 1000 := Nat.mul_le_mul (by omega) hby
  omega
 refine wpAnyH_ready (rs := [i]) hr (by simp) (AllReadyH.cons hi0 (fun K hK => ?_) AllReadyH.nil)
 rw [if_pos hw]
 refine wp_append_lies W x y t ho B e i0 _ size bytes ht hi hz0 hz1 hz2 hzs hsz (.slice a n cap) n vs.flatten hx hown.row ⟨g, 0, none⟩ 1 1 cs.toList hy (by simp [hc])
  (World.news_of_block (cs := cs) (t := e) (fr := (0, 0)) hg) h1 (by omega) (by unfold maxLen; omega) hnb hB _ rfl ?_
 intro g' cap' w' h1' h2 h3 h4
 have hh := k _ cap' w' ⟨by simpa using h1', ?_, by simp [hown.len]⟩ ⟨h2.os, h2.tape, h2.output, h2.size, fun k hk hn => h2.block k hk (fun e => hn ?_)⟩ ?_
 ·exact hK.out _ _ hh.1 (fun _ => by rw [hd]; exact hh.2)
 ·intro v hv
  rcases List.mem_append.1 hv with hv | hv
  ·exact hown.each v hv
  ·obtain rfl : v = cs.toList := by simpa using hv
   simp [hc]
 ·cases a with
  | none => simp [Value.ownBlock] at e
  | some ad => exact ⟨ad, rfl, by simpa [Value.ownBlock] using e⟩
 ·rintro ad rfl2
  obtain rfl := Option.some.inj rfl2
  rcases h3 with h3 | h3
  ·cases a with
   | none => simp [Value.ownBlock] at h3
   | some ad => exact .inl ⟨ad, rfl, by simpa [Value.ownBlock] using h3.symm⟩
  ·exact .inr (by simp [h3])
structure Vl (W : World) (B r v m : Nat) (ak : Option Addr) (nk : Nat) (a : Option Addr) (j cap c : Nat) (L : List O) (ss : List Nat) (cnt : Nat) (f : Lit → Option Value) : Prop where
 res : Blk W r 55 (viewV 0 (.slice none 0 0) false 0)
 view : Blk W v 55 (viewV c (.slice a j cap) (outTo L L.length) (tkTo L L.length))
 mp : MpF W 31 m cnt f
 keys : GL W 1 ak nk (ones ss)
 own : OwnG W 86 2 B a j cap ((ss.take j).map (lineCs L))
 lt : r < v ∧ v < m ∧ m < B
 klt : ∀ ad, ak = some ad → ad.block < B ∧ m < ad.block
theorem Vl.below {W W' : World} {B r v m nk j cap c cnt : Nat} {ak a : Option Addr} {L : List O} {ss : List Nat} {f : Lit → Option Value} (h : Vl W B r v m ak nk a j cap c L ss cnt f) (hb : Below W.heap.size W W') : Vl W' B r v m ak nk a j cap c L ss cnt f :=
 ⟨h.res.below hb, h.view.below hb, h.mp.below hb, h.keys.below hb, h.own.below hb, h.lt, h.klt⟩
theorem Vl.more {W W' : World} {B r v m nk j cap cap' c cnt i : Nat} {ak a a' : Option Addr} {L : List O} {ss : List Nat} {f : Lit → Option Value} (h : Vl W B r v m ak nk a j cap c L ss cnt f) (hi : ss[j]? = some i) (hk : Kept (At a) W W')
  (ho : OwnG W' 86 2 B a' (j + 1) cap' ((ss.take j).map (lineCs L) ++ [lineCs L i])) : Vl (W'.setCell ⟨v, 1, none⟩ (.slice a' (j + 1) cap')) B r v m ak nk a' (j + 1) cap' c L ss cnt f := by
 have hlt := h.lt
 have hat : ∀ g, g < B → ¬ At a g := fun g hg ⟨ad, e, e2⟩ => by have := (h.own.lt ad e).1; omega
 have hs : Kept (fun i => i = v) W' (W'.setCell ⟨v, 1, none⟩ (.slice a' (j + 1) cap')) := Kept.setCell W' ⟨v, 1, none⟩ _
 refine ⟨(h.res.kept hk (hat _ (by omega))).kept hs (by omega), ?_, (h.mp.kept hk (hat _ (by omega))).kept hs (by omega), (h.keys.keep hk (fun ad e _ => hat _ (h.klt ad e).1)).keep hs (fun ad e _ => by have := h.klt ad e; omega), ?_, h.lt, h.klt⟩
 ·exact (h.view.kept hk (hat _ (by omega))).set 1 (.slice a' (j + 1) cap')
 ·rw [List.take_add_one, hi, List.map_append]
  refine ho.keep hs (fun ad e => ?_)
  have := (ho.lt ad e).1
  omega
def VlR (w : World) (B r v m : Nat) (ak : Option Addr) (nk c : Nat) (L : List O) (ss : List Nat) (cnt : Nat) (f : Lit → Option Value) (u : Value) (W : World) : Prop :=
 ∃ (j cap : Nat) (a : Option Addr), u = .int .i64 (j : Int) ∧ j ≤ nk ∧ Hid (Vl W B r v m ak nk a j cap c L ss cnt f) ∧ Hid (Below w.heap.size w W) ∧ Hid (B ≤ W.heap.size)
end Go.Proofs.YtnekpgmgnepdoaaGreat.F
