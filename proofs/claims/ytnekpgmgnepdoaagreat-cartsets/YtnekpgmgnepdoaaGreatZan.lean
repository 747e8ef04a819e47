import Derived.Test.YtnekpgmgnepdoaaGreatZam
section
namespace Go.Proofs.YtnekpgmgnepdoaaGreat
open Go.RowKit Go.Maps
theorem types_size : Tryz.prog.types.size = 259 := by kernel_rfl
theorem lits_int {d : Nat} {t : TypeId} {k : IntKind} (hu : Tryz.prog.underlying t = some (.int k)) {n : Int} (hw : (Lit.int k n).wf = true) : Tryz.prog.keyLits (d + 1) t [.int k n] = some [.int k n] := by
 unfold Program.keyLits
 simp [hu, hw]
theorem wf8 {r : Nat} (h : r < 256) : (Lit.int .u8 (r : Int)).wf = true := by
 simp [Lit.wf, IntKind.min, IntKind.max, IntKind.bits, IntKind.signed]; omega
theorem wf32 {s : Nat} (h : s < 4294967296) : (Lit.int .u32 (s : Int)).wf = true := by
 simp [Lit.wf, IntKind.min, IntKind.max, IntKind.bits, IntKind.signed]; omega
theorem cells30k : Tryz.prog.cellsOf 30 = 2 := by kernel_rfl
theorem cells5k : Tryz.prog.cellsOf 5 = 1 := by kernel_rfl
theorem cells22k : Tryz.prog.cellsOf 22 = 1 := by kernel_rfl
theorem law30 : Keyed Tryz.prog 30 := Keyed.of_law (deep_law_laid (m := 50) (by kernel_rfl) (by omega) (of_decide_eq_true (by kernel_rfl)) (by kernel_rfl) (by kernel_rfl))
theorem key_type30 : Tryz.prog.keyType 30 = true := by kernel_rfl
def kd (r s : Nat) : Lit := .string (keyBytes [.int .u8 (r : Int), .int .u32 (s : Int)])
theorem lits30 (d : Nat) (a b : Value) : Tryz.prog.keyLits (d + 2) 30 [a, b] = (Tryz.prog.keyLits (d + 1) 5 [a]).bind fun la => (Tryz.prog.keyLits (d + 1) 22 [b]).map fun lb => la ++ lb := by
 conv => lhs; unfold Program.keyLits
 simp only [Tryz.underlying30, cells30k]
 simp [cells5k, cells22k]
 cases Tryz.prog.keyLits (d + 1) 5 [a] <;> cases Tryz.prog.keyLits (d + 1) 22 [b] <;> simp
theorem key30 {r s : Nat} (hr : r < 256) (hs : s < 4294967296) : keyOf Tryz.prog 30 (dotV r s) = some (kd r s) := by
 have hl : ∀ d, Tryz.prog.keyLits (d + 2) 30 [.int .u8 (r : Int), .int .u32 (s : Int)] = some [.int .u8 (r : Int), .int .u32 (s : Int)] := fun d => by
  rw [lits30, lits_int Tryz.underlying5 (wf8 hr), lits_int Tryz.underlying22 (wf32 hs)]
  rfl
 have hf : Value.formed Tryz.prog 30 (dotV r s) = true := by simp [Value.formed, Tryz.underlying30, cells30k]
 have e : Tryz.prog.types.size + 1 = 258 + 2 := by rw [types_size]
 unfold keyOf
 simp only [Tryz.underlying30]
 rw [key_type30, hf, e]
 simp only [Value.cells]
 rw [hl]
 rfl
theorem kd_inj {r s r' s' : Nat} (h1 : r < 256) (h2 : s < 4294967296) (h3 : r' < 256) (h4 : s' < 4294967296) (h : kd r s = kd r' s') : r = r' ∧ s = s' := by
 have e1 := key30 h1 h2
 rw [h] at e1
 have := law30.inj e1 (key30 h3 h4)
 simp only [Value.agg.injEq, Array.mk.injEq, List.cons.injEq, Value.int.injEq, true_and, and_true, Int.natCast_inj] at this
 exact this
theorem und151 : Tryz.prog.underlying 151 = some (.map 30 72) := Tryz.underlying151
theorem zero72 (w : World) : (zeroValue 72).run Tryz.prog w = .ok (.agg En.zero.arr) w := (zero_of_info info72z).1 w
theorem epart (e : En) (w : World) {t : TypeId} {off : Nat} {v : Value} (ha : (isAgg t).run Tryz.prog w = .ok false w) (hv : e.cs[off]? = some v) : (part t e.arr off).run Tryz.prog w = .ok v w := by
 simp [part, ha, hv, go_sem]
theorem epart_dot (e : En) (w : World) : (part 30 e.arr 4).run Tryz.prog w = .ok (dotV e.r e.s) w := by
 have ha : (isAgg 30).run Tryz.prog w = .ok true w := by kernel_rfl
 have hz : (Go.sizeOf 30).run Tryz.prog w = .ok 2 w := by kernel_rfl
 simp only [part, Sem.run_bind, ha, hz, Result.andThen_ok, if_true, Sem.run_pure]
 rfl
theorem eqF_any {d : Nat} {xs ys : Array Value} {f : Field} {fs : List Field} {w : World} {r r2 : Bool} (a b : Value) (hn : f.name ≠ "_") (h1 : (part f.type xs f.offset).run Tryz.prog w = .ok a w) (h2 : (part f.type ys f.offset).run Tryz.prog w = .ok b w) (h3 : (Op.equalIn d f.type a b).run Tryz.prog w = .ok r w)
  (h : (Op.eqFields d xs ys fs).run Tryz.prog w = .ok r2 w) : (Op.eqFields d xs ys (f :: fs)).run Tryz.prog w = .ok (r && r2) w := by
 cases r <;> simp [Op.eqFields, Sem.run_bind, hn, h1, h2, h3, h]
theorem eq_intsD (d : Nat) (t : TypeId) (k : IntKind) (a b : Int) (w : World) (h : Tryz.prog.underlying t = some (.int k)) : (Op.equalIn (d + 1) t (.int k a) (.int k b)).run Tryz.prog w = .ok (a == b) w :=
 run_equalIn_int (P := Tryz.prog) w d t k k a b h
theorem eq_ints (t : TypeId) (k : IntKind) (a b : Int) (w : World) (h : Tryz.prog.underlying t = some (.int k)) : (Op.equalIn 9999 t (.int k a) (.int k b)).run Tryz.prog w = .ok (a == b) w := eq_intsD 9998 t k a b w h
theorem dpart (u v : Value) (w : World) {t : TypeId} {off : Nat} {x : Value} (ha : (isAgg t).run Tryz.prog w = .ok false w) (hv : [u, v][off]? = some x) : (part t #[u, v] off).run Tryz.prog w = .ok x w := by
 have hv' : #[u, v][off]? = some x := by simpa using hv
 simp [part, ha, hv', go_sem]
theorem eq_dots (r s r' s' : Nat) (w : World) : (Op.equalIn 9999 30 (dotV r s) (dotV r' s')).run Tryz.prog w = .ok (decide (r = r' ∧ s = s')) w := by
 have hS : Tryz.prog.underlying 30 = some (.struct (Tryz.prog.fieldsOf 30)) := by kernel_rfl
 have hp : Tryz.prog.stoodInHeld 30 = false := by kernel_rfl
 have hE : decide (r = r' ∧ s = s') = (((r : Int) == (r' : Int)) && (((s : Int) == (s' : Int)) && true)) := by
  rw [Bool.eq_iff_iff]
  simp only [decide_eq_true_eq, Bool.and_eq_true, beq_iff_eq, Int.natCast_inj, and_true]
 rw [hE, show (9999 : Nat) = 9998 + 1 from rfl, run_equalIn_agg w 9998 30 _ _ hS hp]
 simp only [Program.fieldsOf, Tryz.underlying30]
 refine eqF_any (.int .u8 (r : Int)) (.int .u8 (r' : Int)) (by decide) (dpart _ _ w (by kernel_rfl) rfl) (dpart _ _ w (by kernel_rfl) rfl) (eq_intsD 9997 5 .u8 _ _ w (by kernel_rfl)) ?_
 refine eqF_any (.int .u32 (s : Int)) (.int .u32 (s' : Int)) (by decide) (dpart _ _ w (by kernel_rfl) rfl) (dpart _ _ w (by kernel_rfl) rfl) (eq_intsD 9997 22 .u32 _ _ w (by kernel_rfl)) ?_
 exact eqF_nil
theorem und72f : Tryz.prog.underlying 72 = some (.struct (Tryz.prog.fieldsOf 72)) := by kernel_rfl
theorem eq72 (a b : En) (w : World) : (Op.equalIn 10000 72 (.agg a.arr) (.agg b.arr)).run Tryz.prog w = .ok (decide (a = b)) w := by
 have hp : Tryz.prog.stoodInHeld 72 = false := by kernel_rfl
 have p0 := epart a w (t := 31) (off := 0) (v := .int .u16 (a.c : Int)) (by kernel_rfl) rfl
 have p1 := epart a w (t := 31) (off := 1) (v := .int .u16 (a.i : Int)) (by kernel_rfl) rfl
 have p2 := epart a w (t := 31) (off := 2) (v := .int .u16 (a.q : Int)) (by kernel_rfl) rfl
 have p3 := epart a w (t := 5) (off := 3) (v := .int .u8 (a.k : Int)) (by kernel_rfl) rfl
 have p4 := epart_dot a w
 have p5 := epart a w (t := 67) (off := 6) (v := .int .u64 (a.n : Int)) (by kernel_rfl) rfl
 have q0 := epart b w (t := 31) (off := 0) (v := .int .u16 (b.c : Int)) (by kernel_rfl) rfl
 have q1 := epart b w (t := 31) (off := 1) (v := .int .u16 (b.i : Int)) (by kernel_rfl) rfl
 have q2 := epart b w (t := 31) (off := 2) (v := .int .u16 (b.q : Int)) (by kernel_rfl) rfl
 have q3 := epart b w (t := 5) (off := 3) (v := .int .u8 (b.k : Int)) (by kernel_rfl) rfl
 have q4 := epart_dot b w
 have q5 := epart b w (t := 67) (off := 6) (v := .int .u64 (b.n : Int)) (by kernel_rfl) rfl
 have e4 := eq_dots a.r a.s b.r b.s w
 have hE : decide (a = b) = (((a.c : Int) == (b.c : Int)) && (((a.i : Int) == (b.i : Int)) && (((a.q : Int) == (b.q : Int)) && (((a.k : Int) == (b.k : Int)) && (decide (a.r = b.r ∧ a.s = b.s) && (((a.n : Int) == (b.n : Int)) && true)))))) := by
  rw [Bool.eq_iff_iff]
  simp only [decide_eq_true_eq, Bool.and_eq_true, beq_iff_eq, Int.natCast_inj, and_true]
  constructor
  ·rintro rfl; simp
  ·rintro ⟨h0, h1, h2, h3, h4, h5⟩; exact En.ext' h0 h1 h2 h3 h4.1 h4.2 h5
 rw [hE, show (10000 : Nat) = 9999 + 1 from rfl, run_equalIn_agg w 9999 72 _ _ und72f hp]
 simp only [Program.fieldsOf, Tryz.underlying72]
 clear hp hE
 generalize a.arr = aa at *
 generalize b.arr = bb at *
 refine eqF_any _ _ (by decide) p0 q0 (eq_ints 31 .u16 _ _ w (by kernel_rfl)) ?_
 refine eqF_any _ _ (by decide) p1 q1 (eq_ints 31 .u16 _ _ w (by kernel_rfl)) ?_
 refine eqF_any _ _ (by decide) p2 q2 (eq_ints 31 .u16 _ _ w (by kernel_rfl)) ?_
 refine eqF_any _ _ (by decide) p3 q3 (eq_ints 5 .u8 _ _ w (by kernel_rfl)) ?_
 refine eqF_any _ _ (by decide) p4 q4 e4 ?_
 refine eqF_any _ _ (by decide) p5 q5 (eq_ints 67 .u64 _ _ w (by kernel_rfl)) ?_
 exact eqF_nil
theorem exec_neq72 {ev : Operand → Value} {o : Oper} {w : World} {x y : Operand} {t : TypeId} {a b : En} {r : Bool} (ho : o.op = .binOp .neq 72 x y t) (hx : ev x = .agg a.arr) (hy : ev y = .agg b.arr) (hr : (!decide (a = b)) = r) : (execOp ev o).run Tryz.prog w = .ok (.value (.bool r)) w := by
 subst hr
 have hq : (binOp .neq 72 (.agg a.arr) (.agg b.arr)).run Tryz.prog w = .ok (.bool (!decide (a = b))) w := by
  rw [run_neq_struct, eq72]; rfl
 have hg : (eqGuard .neq 72 x y (.agg a.arr) (.agg b.arr)).run Tryz.prog w = .ok () w := run_eqGuard_agg w .neq 72 x y _ _ (by kernel_rfl)
 unfold execOp
 simp only [ho, hx, hy, Sem.run_bind, hg, hq, Result.andThen_ok]
 rfl
def lastE (l : List En) (r s : Nat) : Option En := l.foldl (fun acc x => if x.r = r ∧ x.s = s then some x else acc) none
theorem last_snoc (l : List En) (x : En) (r s : Nat) : lastE (l ++ [x]) r s = if x.r = r ∧ x.s = s then some x else lastE l r s := by
 unfold lastE; rw [List.foldl_append]; rfl
theorem last_aux (r s : Nat) : ∀ (l : List En) (acc : Option En), l.foldl (fun acc x => if x.r = r ∧ x.s = s then some x else acc) acc = none → acc = none ∧ ∀ x ∈ l, ¬ (x.r = r ∧ x.s = s)
 | [], acc, h => ⟨h, by simp⟩
 | y :: l, acc, h => by
  obtain ⟨h1, h2⟩ := last_aux r s l _ h
  dsimp only at h1
  by_cases e : y.r = r ∧ y.s = s
  ·rw [if_pos e] at h1; cases h1
  ·rw [if_neg e] at h1
   refine ⟨h1, fun x hx => ?_⟩
   rcases List.mem_cons.1 hx with rfl | hx
   ·exact e
   ·exact h2 x hx
theorem last_none {l : List En} {r s : Nat} (h : lastE l r s = none) : ∀ x ∈ l, ¬ (x.r = r ∧ x.s = s) := (last_aux r s l none h).2
theorem last_aux2 (r s : Nat) (x : En) : ∀ (l : List En) (acc : Option En), l.foldl (fun acc x => if x.r = r ∧ x.s = s then some x else acc) acc = some x → acc = some x ∨ (x ∈ l ∧ x.r = r ∧ x.s = s)
 | [], acc, h => .inl h
 | y :: l, acc, h => by
  rcases last_aux2 r s x l _ h with h1 | h1
  ·dsimp only at h1
   by_cases e : y.r = r ∧ y.s = s
   ·rw [if_pos e] at h1
    obtain rfl := Option.some.inj h1
    exact .inr ⟨List.mem_cons_self, e⟩
   ·rw [if_neg e] at h1
    exact .inl h1
  ·exact .inr ⟨List.mem_cons_of_mem _ h1.1, h1.2⟩
theorem last_some {l : List En} {r s : Nat} {x : En} (h : lastE l r s = some x) : x ∈ l ∧ x.r = r ∧ x.s = s := by
 rcases last_aux2 r s x l none h with h1 | h1
 ·cases h1
 ·exact h1
structure DotM (W : World) (m : Nat) (l : List En) (n : Nat) (f : Lit → Option Value) : Prop where
 mp : MpF W 30 m n f
 le : n ≤ l.length
 val : ∀ r s, r < 256 → s < 4294967296 → f (kd r s) = (lastE l r s).map fun o => .agg o.arr
theorem DotM.kept {S : Nat → Prop} {W W' : World} {m n : Nat} {l : List En} {f : Lit → Option Value} (h : DotM W m l n f) (k : Kept S W W') (hn : ¬ S m) : DotM W' m l n f := ⟨h.mp.kept k hn, h.le, h.val⟩
theorem DotM.below {W W' : World} {m n : Nat} {l : List En} {f : Lit → Option Value} (h : DotM W m l n f) (hb : Below W.heap.size W W') : DotM W' m l n f := ⟨h.mp.below hb, h.le, h.val⟩
theorem dot_put {l : List En} {k c : Nat} {x : En} {f : Lit → Option Value} {W W2 : World} {m : Nat} (hx : l[k]? = some x) (h : DotM W m (l.take k) c f)
  (h2 : MpF W2 30 m (if (f (kd x.r x.s)).isSome then c else c + 1) (upd f (kd x.r x.s) (.agg x.arr))) : DotM W2 m (l.take (k + 1)) (if (f (kd x.r x.s)).isSome then c else c + 1) (upd f (kd x.r x.s) (.agg x.arr)) := by
 have et : l.take (k + 1) = l.take k ++ [x] := by rw [List.take_add_one, hx]; rfl
 refine ⟨h2, ?_, fun r s hr hs => ?_⟩
 ·have := h.le
  rw [et, List.length_append]
  simp only [List.length_cons, List.length_nil]
  split <;> omega
 ·rw [et, last_snoc]
  by_cases e : x.r = r ∧ x.s = s
  ·obtain ⟨rfl, rfl⟩ := e
   rw [if_pos ⟨rfl, rfl⟩, upd_same]
   rfl
  ·rw [if_neg e, upd_other _ _ (fun h => e (by obtain ⟨a, b⟩ := kd_inj hr hs x.hr x.hs h; exact ⟨a.symm, b.symm⟩)), h.val r s hr hs]
section
variable {ev : Operand → Value} {q : Oper} {w : World}
theorem exec_mkM {x : Operand} {n : Int} (ho : q.op = .makeMap 151 (some x)) (hx : ev x = .int .i64 n) : (execOp ev q).run Tryz.prog w = .ok (.value (.map (some w.heap.size))) (w.alloc (.map #[] 0)) := by
 unfold execOp
 simp only [ho, Option.map_some, hx]
 simp [Instr.makeMap, run_underlying und151, asInt, Sem.run_bind, go_sem]
theorem exec_upd {w2 : World} {t : TypeId} {x y z : Operand} {m key v : Value} (ho : q.op = .mapUpdate t x y z) (hx : ev x = m) (hy : ev y = key) (hz : ev z = v) (h : (Instr.mapUpdate t m key v).run Tryz.prog w = .ok () w2) : (execOp ev q).run Tryz.prog w = .ok .skip w2 := by
 unfold execOp
 simp only [ho, hx, hy, hz, Sem.run_bind, h, Result.andThen_ok]
 rfl
theorem exec_lookD {x y : Operand} {m n r s : Nat} {l : List En} {f : Lit → Option Value} {z e : En} {b : Bool} (hz : En.zero = z) (ho : q.op = .lookup 151 x y true) (hx : ev x = .map (some m)) (hy : ev y = dotV r s) (h : DotM w m l n f) (hr : r < 256) (hs : s < 4294967296) (he : (lastE l r s).getD z = e) (hb : (lastE l r s).isSome = b) : (execOp ev q).run Tryz.prog w = .ok (.value (.tuple #[.agg e.arr, .bool b])) w := by
 subst he hb hz
 have hl := h.mp.look_ok law30 und151 (zero72 w) (key30 hr hs)
 rw [h.val r s hr hs] at hl
 have e1 : ((lastE l r s).map (fun o => Value.agg o.arr)).getD (.agg En.zero.arr) = .agg ((lastE l r s).getD En.zero).arr := by
  cases lastE l r s <;> rfl
 have e2 : ((lastE l r s).map (fun o => Value.agg o.arr)).isSome = (lastE l r s).isSome := by
  cases lastE l r s <;> rfl
 rw [e1, e2] at hl
 unfold execOp
 simp only [ho, hx, hy, Sem.run_bind, hl, Result.andThen_ok]
 rfl
end
theorem wpList_stopMU {ops : Array Oper} {rest : List Oper} {o : Oper} {act : Act} {Q : Exit → Act → World → Prop} {W : World} {t : TypeId} {x y z : Operand} (_ho : o.op = .mapUpdate t x y z) (k : Halt_ (wpList Tryz.prog ops Q (o :: rest) act W)) : wpList Tryz.prog ops Q (o :: rest) act W := k.out
def DotP (l : List En) (w : World) (e : Ending) (w' : World) : Prop := ∃ m n f, e = .returned (.map (some m)) ∧ DotM w' m l n f ∧ w.heap.size ≤ m ∧ Below w.heap.size w w'
def DotR (w : World) (l : List En) (n m : Nat) (u : Value) (W : World) : Prop :=
 ∃ (k c : Nat) (f : Lit → Option Value), u = .int .i64 (k : Int) ∧ k ≤ n ∧ Hid (DotM W m (l.take k) c f) ∧ Hid (Below w.heap.size w W)
set_option maxRecDepth 100000 in
set_option maxHeartbeats 4000000 in
theorem byDot_any {a : Option Addr} {n cap : Nat} {l : List En} {w : World} (hl : EL w a n l) (hn : n < 1000000) : Calls Tryz.prog 99 #[.slice a n cap] w (DotP l w) := by
 obtain ⟨zo, ho⟩ : ∃ z, En.zero = z := ⟨_, rfl⟩
 have HO := Lib.hid ho
 have HL := Lib.hid hl
 have HLEN := Lib.hid hl.len'
 clear ho hl
 go_enter Tryz.func99, Tryz.ntmps99
 go_wp2_with (refine wpList_run rfl (exec_mkM rfl rfl) ?_)
 have HM0 : Hid (DotM (w.alloc (.map #[] 0)) w.heap.size (l.take 0) 0 (fun _ => none)) := Lib.hid ⟨mpF_new w 30, Nat.zero_le _, fun _ _ _ _ => rfl⟩
 have HB0 : Hid (Below w.heap.size w (w.alloc (.map #[] 0))) := Lib.hid (below_one _ _)
 obtain ⟨m, hm0⟩ : ∃ m, w.heap.size = m := ⟨_, rfl⟩
 rw [hm0] at HM0 ⊢
 have HGM : Hid (w.heap.size ≤ m) := Lib.hid (by omega)
 generalize w.alloc (.map #[] 0) = w0 at HM0 HB0
 clear hm0
 go_loopw [11] (DotR w l n m) (fun u _ => n - (numI u).toNat)
 case atStart => exact ⟨0, 0, _, rfl, Nat.zero_le _, HM0, HB0⟩
 case round =>
  obtain ⟨k, c, f, rfl, hk, HM, HB⟩ := hrel
  clear HM0 HB0
  by_cases hlt : k < n
  ·obtain ⟨b, off, x, rfl, hx, hr⟩ := EL.at (HL.out.below HB.out) hlt
   have HX := Lib.hid hx
   have HR := Lib.hid hr
   clear hx hr
   go_wp2_with (first | (refine wpList_run rfl (exec_idx72 (i := k) rfl rfl rfl rfl hlt) ?_) | (refine wpList_run rfl (exec_ld72 (p := x) rfl rfl HR.out) ?_) | (refine wpList_run rfl (exec_alloc72z HO.out rfl) ?_) | (refine wpList_stop72 rfl ?_))
   refine ⟨?_⟩
   refine wpList_void rfl rfl (exec_store72 (p := zo) (u := x) rfl rfl rfl (Blk.new wr 72 zo.arr)) ?_
   have H1 := Lib.hid (bo_laid wr 72 zo.arr x.arr)
   generalize (wr.alloc (.cells zo.arr 72)).setRow wr.heap.size x.arr = w1 at H1
   have HM1 := Lib.hid (HM.out.below H1.out.old)
   have HB1 : Hid (Below w.heap.size w w1) := Lib.hid (HB.out.trans (H1.out.old.mono HB.out.size))
   go_wp2_with (first | (refine wpList_run rfl (exec_edot (e := x) rfl rfl H1.out.one) ?_) | (refine wpList_run rfl (exec_load72 (p := x) rfl rfl H1.out.one) ?_) | (refine wpList_stopMU rfl ?_))
   refine ⟨?_⟩
   obtain ⟨w2, hrun, hmp, hkp⟩ := HM1.out.mp.put law30 und151 (by have h1 := HM1.out.le; have := HLEN.out; rw [List.length_take] at h1; omega) (key30 x.hr x.hs) (v := .agg x.arr)
   have HD2 := Lib.hid (dot_put HX.out HM1.out hmp)
   have HB2 : Hid (Below w.heap.size w w2) := Lib.hid (HB1.out.trans (hkp.below HB1.out.size (fun j e => by rw [e]; exact HGM.out)))
   refine wpList_void rfl rfl (exec_upd rfl rfl rfl rfl hrun) ?_
   clear hrun hmp hkp
   go_wp2_with fail
   go_roundw
   case rel => exact ⟨k + 1, _, _, by go_num, hlt, HD2, HB2⟩
   case measure => simp [numI]; omega
  ·obtain rfl : k = n := by omega
   go_wp2_with fail
   go_ret
   exact ⟨m, c, f, rfl, by have h := HM.out; rw [List.take_of_length_le (by rw [HLEN.out]; exact Nat.le_refl _)] at h; exact h, HGM.out, HB.out⟩
end Go.Proofs.YtnekpgmgnepdoaaGreat
end
section
namespace Go.Proofs.YtnekpgmgnepdoaaGreat
open Go.RowKit
def stC (v : V) (x y : Value) : List Value := v.cs ++ [x, y]
abbrev stA (v : V) (x y : Value) : Array Value := (stC v x y).toArray
theorem stC_len (v : V) (x y : Value) : (stC v x y).length = 18 := by simp [stC, v.cs_len]
theorem stA_size (v : V) (x y : Value) : (stA v x y).size = 18 := by simp [stC_len]
abbrev sv (v : V) (a : Option Addr) (n c : Nat) (b : Option Addr) (m d : Nat) : Array Value := stA v (.slice a n c) (.slice b m d)
theorem sv_one (v : V) (a : Option Addr) (n c : Nat) (b : Option Addr) (m d : Nat) : (sv v a n c b m d).all (·.oneCell') = true := by
 refine all_oneCell_toArray fun u hu => ?_
 rcases List.mem_append.1 hu with h | h
 ·obtain ⟨n, _, rfl⟩ := List.mem_map.1 h
  rfl
 ·simp only [List.mem_cons, List.not_mem_nil, or_false] at h
  rcases h with rfl | rfl <;> rfl
theorem stc16 {W : World} {g t : Nat} {v : V} {x y : Value} (h : Blk W g t (stA v x y)) : W.cell? ⟨g, 16, none⟩ = some x := by
 rw [h.cell, List.getElem?_toArray, stC, List.getElem?_append_right (by rw [v.cs_len]; omega), v.cs_len]; rfl
theorem stc17 {W : World} {g t : Nat} {v : V} {x y : Value} (h : Blk W g t (stA v x y)) : W.cell? ⟨g, 17, none⟩ = some y := by
 rw [h.cell, List.getElem?_toArray, stC, List.getElem?_append_right (by rw [v.cs_len]; omega), v.cs_len]; rfl
theorem load_stV {w : World} {g t : Nat} {v : V} {x y : Value} (h : Blk w g t (stA v x y)) : (Instr.loadAt 24 (.pointer (some ⟨g, 0, none⟩))).run Tryz.prog w = .ok (.agg v.arr) w := by
 have hl := run_loadVar_mid (P := Tryz.prog) w g 0 24 v.cs _ (by
  intro j u hu
  have hj : j < 16 := by rw [← v.cs_len]; exact (List.getElem?_eq_some_iff.1 hu).1
  rw [h.cell, Nat.zero_add, List.getElem?_toArray, stC, List.getElem?_append_left (by rw [v.cs_len]; exact hj), hu]) und24 rfl (by rw [v.cs_len]; exact size24)
 simp only [Instr.loadAt, Instr.sureAddr, Sem.run_bind, Sem.run_pure, Result.andThen_ok, hl]
theorem exec_stV {ev : Operand → Value} {o : Oper} {w : World} {x : Operand} {g t : Nat} {v : V} {a b : Value} (ho : o.op = .load 24 x) (hx : ev x = .pointer (some ⟨g, 0, none⟩)) (h : Blk w g t (stA v a b)) : (execOp ev o).run Tryz.prog w = .ok (.value (.agg v.arr)) w := exec_cell ho hx (load_stV h)
theorem stA_zero : stA V.zero (.slice none 0 0) (.slice none 0 0) = #[.int .u32 0, .int .u32 0, .int .u32 0, .int .u32 0, .int .u32 0, .int .u32 0, .int .u32 0, .int .u32 0, .int .u32 0, .int .u32 0, .int .u32 0, .int .u32 0, .int .u32 0, .int .u32 0, .int .u32 0, .int .u32 0, .slice none 0 0, .slice none 0 0] := by kernel_rfl
structure SL (w : World) (s : Sta) (a : Option Addr) (n : Nat) (b : Option Addr) (m : Nat) : Prop where
 es : EL w a n s.es
 ts : LL w b m s.ts
theorem SL.below {w w' : World} {s : Sta} {a b : Option Addr} {n m : Nat} (h : SL w s a n b m) (hb : Below w.heap.size w w') : SL w' s a n b m := ⟨h.es.below hb, h.ts.below hb⟩
theorem und39 : Tryz.prog.underlying 39 = some (.struct (Tryz.prog.fieldsOf 39)) := by kernel_rfl
theorem size39 : (Tryz.prog.info? 39).map (·.size) = some 18 := by kernel_rfl
theorem info39z : (Tryz.prog.info? 39).map (fun i => (i.zero, i.size)) = some (some (.agg (stA V.zero (.slice none 0 0) (.slice none 0 0))), 18) := by rw [stA_zero]; kernel_rfl
theorem box39 (v : V) (x y : Value) (w : World) : (Instr.box 39 (.agg (stA v x y))).run Tryz.prog w = .ok (.pointer (some ⟨w.heap.size, 0, none⟩)) (w.alloc (.cells (stA v x y) 39)) := by
 simp [Instr.box, newVar, newRow, Value.cells, go_sem]
theorem alloc39 (w : World) : (Instr.alloc 39 true (.tuple #[])).run Tryz.prog w = .ok (.pointer (some ⟨w.heap.size, 0, none⟩)) (w.alloc (.cells (stA V.zero (.slice none 0 0) (.slice none 0 0)) 39)) := by
 simp only [Instr.alloc, Sem.run_bind, (zero_of_info info39z).1, Result.andThen_ok]
 simp [newVar, newRow, Value.cells, go_sem]
theorem loadVar39 {w : World} {g : Nat} {v : V} {x y : Value} (h : Blk w g 39 (stA v x y)) : (loadVar 39 ⟨g, 0, none⟩).run Tryz.prog w = .ok (.agg (stA v x y)) w :=
 run_loadVar_row _ _ 39 39 (stA v x y) (0, 0) _ h und39 rfl (by rw [stA_size]; exact size39)
theorem load39 {w : World} {g : Nat} {v : V} {x y : Value} (h : Blk w g 39 (stA v x y)) : (Instr.loadAt 39 (.pointer (some ⟨g, 0, none⟩))).run Tryz.prog w = .ok (.agg (stA v x y)) w := by
 simp only [Instr.loadAt, Instr.sureAddr, Sem.run_bind, Sem.run_pure, Result.andThen]
 exact loadVar39 h
theorem store39 {w : World} {g n c m d : Nat} {v u : V} {x y : Value} {a b : Option Addr} (h : Blk w g 39 (stA v x y)) : (Instr.storeAt 39 (.pointer (some ⟨g, 0, none⟩)) (.agg (sv u a n c b m d))).run Tryz.prog w = .ok () (w.setRow g (sv u a n c b m d)) := by
 simp only [Instr.storeAt, Instr.sureAddr, Sem.run_bind, Sem.run_pure, Result.andThen]
 exact run_storeVar_row _ _ 39 39 (stA v x y) (sv u a n c b m d) h (by rw [stA_size]; exact size39) (by rw [stA_size, stA_size]) (sv_one _ _ _ _ _ _ _)
theorem build39z (w : World) : (Instr.build 39 #[]).run Tryz.prog w = .ok (.agg (stA V.zero (.slice none 0 0) (.slice none 0 0))) w := by rw [stA_zero]; kernel_rfl
theorem build39 (v : V) (a : Option Addr) (n c : Nat) (b : Option Addr) (m d : Nat) (w : World) : (Instr.build 39 #[(0, .agg v.arr), (1, .slice a n c), (2, .slice b m d)]).run Tryz.prog w = .ok (.agg (sv v a n c b m d)) w := by
 refine run_build w 39 _ _ ?_
 obtain ⟨x0, x1, x2, x3, x4, x5, x6, x7, x8, x9, y0, y1, y2, y3, y4, y5, hv⟩ := sixteen v
 unfold sv stA stC V.arr V.cs
 rw [hv]
 kernel_rfl
theorem ret39_two {fn : Func} {t s : Tmp} (h : fn.results = #[.cell t 39, .tmp s]) {tmps : Array Value} {w : World} {g : Nat} {v : V} {x y z : Value} (hx : tmps.getD t undef = .pointer (some ⟨g, 0, none⟩)) (hy : tmps.getD s undef = z) (hb : Blk w g 39 (stA v x y)) :
  (results fn tmps).run Tryz.prog w = .ok (.tuple #[.agg (stA v x y), z]) w := by
 rw [results_cell_tmp h, hx, hy]
 simp [Result.andThen, asAddr, loadVar39 hb]
theorem ret39 {fn : Func} {t : Tmp} (hf : fn.results = #[.cell t 39]) {tmps : Array Value} {w : World} {g : Nat} {v : V} {x y : Value} (hx : tmps.getD t undef = .pointer (some ⟨g, 0, none⟩)) (hb : Blk w g 39 (stA v x y)) :
  (results fn tmps).run Tryz.prog w = .ok (.agg (stA v x y)) w := by
 have hx' : tmps[t]?.getD undef = .pointer (some ⟨g, 0, none⟩) := by rw [← hx]; simp [Array.getD_eq_getD_getElem?]
 simp only [results, hf]
 simp [hx', asAddr, loadVar39 hb]
section
variable {ev : Operand → Value} {q : Oper} {w : World}
theorem exec_load39 {x : Operand} {g : Nat} {v : V} {a b : Value} (ho : q.op = .load 39 x) (hx : ev x = .pointer (some ⟨g, 0, none⟩)) (h : Blk w g 39 (stA v a b)) : (execOp ev q).run Tryz.prog w = .ok (.value (.agg (stA v a b))) w := exec_cell ho hx (load39 h)
theorem exec_store39 {x y : Operand} {g n c m d : Nat} {v u : V} {p r : Value} {a b : Option Addr} (ho : q.op = .store 39 x y) (hx : ev x = .pointer (some ⟨g, 0, none⟩)) (hy : ev y = .agg (sv u a n c b m d)) (h : Blk w g 39 (stA v p r)) : (execOp ev q).run Tryz.prog w = .ok .skip (w.setRow g (sv u a n c b m d)) := by
 unfold execOp
 simp only [ho, hx, hy, Sem.run_bind, store39 (u := u) (a := a) (b := b) (n := n) (c := c) (m := m) (d := d) h, Result.andThen_ok]
 rfl
theorem exec_alloc39z {z : V} (hz : V.zero = z) (ho : q.op = .alloc 39) : (execOp ev q).run Tryz.prog w = .ok (.value (.pointer (some ⟨w.heap.size, 0, none⟩))) (w.alloc (.cells (sv z none 0 0 none 0 0) 39)) := by
 subst hz
 unfold execOp
 simp only [ho, Sem.run_bind, alloc39, Result.andThen_ok]
 rfl
theorem exec_zero39 {z : V} (hz : V.zero = z) (ho : q.op = .build 39 #[]) : (execOp ev q).run Tryz.prog w = .ok (.value (.agg (sv z none 0 0 none 0 0))) w := by
 subst hz
 unfold execOp
 have h1 : ((#[] : Array (Nat × Operand)).map fun (i, x) => (i, ev x)) = #[] := by simp
 simp only [ho, h1, Sem.run_bind, build39z, Result.andThen_ok]
 rfl
theorem exec_build39 {x y z : Operand} {v : V} {a b : Option Addr} {n c m d : Nat} (ho : q.op = .build 39 #[(0, x), (1, y), (2, z)]) (hx : ev x = .agg v.arr) (hy : ev y = .slice a n c) (hz : ev z = .slice b m d) : (execOp ev q).run Tryz.prog w = .ok (.value (.agg (sv v a n c b m d))) w := by
 have hm : (#[((0 : Nat), x), (1, y), (2, z)]).map (fun (i, x) => (i, ev x)) = #[(0, .agg v.arr), (1, .slice a n c), (2, .slice b m d)] := by simp [hx, hy, hz]
 unfold execOp
 simp only [ho, hm, Sem.run_bind, build39 v a n c b m d w, Result.andThen_ok]
 rfl
end
section
variable {ops : Array Oper} {rest : List Oper} {o : Oper} {act : Act} {Q : Exit → Act → World → Prop} {W : World}
theorem wpList_stop39 {x y : Operand} (_ho : o.op = .store 39 x y) (k : Halt_ (wpList Tryz.prog ops Q (o :: rest) act W)) : wpList Tryz.prog ops Q (o :: rest) act W := k.out
end
theorem und28 : Tryz.prog.underlying 28 = some (.struct (Tryz.prog.fieldsOf 28)) := by kernel_rfl
theorem size28 : (Tryz.prog.info? 28).map (·.size) = some 18 := by kernel_rfl
theorem box28 (v : V) (x y : Value) (w : World) : (Instr.box 28 (.agg (stA v x y))).run Tryz.prog w = .ok (.pointer (some ⟨w.heap.size, 0, none⟩)) (w.alloc (.cells (stA v x y) 28)) := by
 simp [Instr.box, newVar, newRow, Value.cells, go_sem]
theorem loadVar28 {w : World} {g : Nat} {v : V} {x y : Value} (h : Blk w g 28 (stA v x y)) : (loadVar 28 ⟨g, 0, none⟩).run Tryz.prog w = .ok (.agg (stA v x y)) w :=
 run_loadVar_row _ _ 28 28 (stA v x y) (0, 0) _ h und28 rfl (by rw [stA_size]; exact size28)
theorem load28 {w : World} {g : Nat} {v : V} {x y : Value} (h : Blk w g 28 (stA v x y)) : (Instr.loadAt 28 (.pointer (some ⟨g, 0, none⟩))).run Tryz.prog w = .ok (.agg (stA v x y)) w := by
 simp only [Instr.loadAt, Instr.sureAddr, Sem.run_bind, Sem.run_pure, Result.andThen]
 exact loadVar28 h
section
variable {ev : Operand → Value} {q : Oper} {w : World}
theorem exec_load28 {x : Operand} {g : Nat} {v : V} {a b : Value} (ho : q.op = .load 28 x) (hx : ev x = .pointer (some ⟨g, 0, none⟩)) (h : Blk w g 28 (stA v a b)) : (execOp ev q).run Tryz.prog w = .ok (.value (.agg (stA v a b))) w := exec_cell ho hx (load28 h)
end
end Go.Proofs.YtnekpgmgnepdoaaGreat
end
