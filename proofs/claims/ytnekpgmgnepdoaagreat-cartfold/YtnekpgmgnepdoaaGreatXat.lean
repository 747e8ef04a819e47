import Derived.Lib.AppendZeros
import Derived.Test.YtnekpgmgnepdoaaGreatXah
section
namespace Go.Proofs.YtnekpgmgnepdoaaGreat
open Go.RowKit
theorem neB {a b : Nat} (h : ¬ a = b) : ((a : Int) != (b : Int)) = true := by simp; omega
theorem eqB' {a b : Nat} (h : a = b) : ((a : Int) != (b : Int)) = false := by simp; omega
theorem below_2 (w : World) (o u : Obj) : Below w.heap.size w ((w.alloc o).alloc u) := (below_one w o).trans ((below_one (w.alloc o) u).mono (by simp))
end Go.Proofs.YtnekpgmgnepdoaaGreat
end
section
namespace Go.Proofs.YtnekpgmgnepdoaaGreat
open Go.RowKit
theorem eq_dotsD (d : Nat) (r s r' s' : Nat) (w : World) : (Op.equalIn (d + 2) 30 (dotV r s) (dotV r' s')).run Tryz.prog w = .ok (decide (r = r' ∧ s = s')) w := by
 have hS : Tryz.prog.underlying 30 = some (.struct (Tryz.prog.fieldsOf 30)) := by kernel_rfl
 have hp : Tryz.prog.stoodInHeld 30 = false := by kernel_rfl
 have hE : decide (r = r' ∧ s = s') = (((r : Int) == (r' : Int)) && (((s : Int) == (s' : Int)) && true)) := by
  rw [Bool.eq_iff_iff]
  simp only [decide_eq_true_eq, Bool.and_eq_true, beq_iff_eq, Int.natCast_inj, and_true]
 rw [hE, run_equalIn_agg w (d + 1) 30 _ _ hS hp]
 simp only [Program.fieldsOf, Tryz.underlying30]
 refine eqF_any (.int .u8 (r : Int)) (.int .u8 (r' : Int)) (by decide) (dpart _ _ w (by kernel_rfl) rfl) (dpart _ _ w (by kernel_rfl) rfl) (eq_intsD d 5 .u8 _ _ w (by kernel_rfl)) ?_
 refine eqF_any (.int .u32 (s : Int)) (.int .u32 (s' : Int)) (by decide) (dpart _ _ w (by kernel_rfl) rfl) (dpart _ _ w (by kernel_rfl) rfl) (eq_intsD d 22 .u32 _ _ w (by kernel_rfl)) ?_
 exact eqF_nil
section
variable {ev : Operand → Value} {o : Oper} {w : World}
theorem exec_eqlD {x y : Operand} {t : TypeId} {r s r' s' : Nat} {q : Bool} (ho : o.op = .binOp .eql 30 x y t) (hx : ev x = dotV r s) (hy : ev y = dotV r' s') (hq : decide (r = r' ∧ s = s') = q) : (execOp ev o).run Tryz.prog w = .ok (.value (.bool q)) w := by
 subst hq
 have hb : (binOp .eql 30 (dotV r s) (dotV r' s')).run Tryz.prog w = .ok (.bool (decide (r = r' ∧ s = s'))) w := by
  rw [run_eql_struct, eq_dotsD 9998]; rfl
 have hg : (eqGuard .eql 30 x y (dotV r s) (dotV r' s')).run Tryz.prog w = .ok () w := run_eqGuard_agg w .eql 30 x y _ _ (by kernel_rfl)
 unfold execOp
 simp only [ho, hx, hy, Sem.run_bind, hg, hb, Result.andThen_ok]
 rfl
end
end Go.Proofs.YtnekpgmgnepdoaaGreat
end
section
namespace Go.Proofs.YtnekpgmgnepdoaaGreat
open Go.RowKit
section
variable {ev : Operand → Value} {q : Oper} {w : World} {ops : Array Oper} {rest : List Oper} {o : Oper} {act : Act} {Q : Exit → Act → World → Prop} {W : World}
theorem wpList_stopT {x y : Operand} (_ho : o.op = .store 22 x y) (k : Halt_ (wpList Tryz.prog ops Q (o :: rest) act W)) : wpList Tryz.prog ops Q (o :: rest) act W := k.out
end
end Go.Proofs.YtnekpgmgnepdoaaGreat
end
section
namespace Go.Proofs.YtnekpgmgnepdoaaGreat
open Go.RowKit
theorem V.arr16 (v : V) : v.arr.size = 16 := by have h := v.cs_len; simpa [V.arr] using h
end Go.Proofs.YtnekpgmgnepdoaaGreat
end
section
namespace Go.Proofs.YtnekpgmgnepdoaaGreat
open Go.RowKit
theorem setCells_blk {t : TypeId} {g : Nat} : ∀ (zs xs ys : List Value) (w : World), zs.length = ys.length → Blk w g t (xs ++ ys).toArray → Blk (w.setCells g xs.length zs) g t (xs ++ zs).toArray
 | [], xs, ys, w, h, hb => by
  obtain rfl : ys = [] := List.eq_nil_of_length_eq_zero h.symm
  exact hb
 | z :: zs, xs, [], w, h, hb => by simp at h
 | z :: zs, xs, y :: ys, w, h, hb => by
  have h1 := hb.set xs.length z
  have e : (xs ++ y :: ys).toArray.setIfInBounds xs.length z = ((xs ++ [z]) ++ ys).toArray := by simp
  rw [e] at h1
  have ih := setCells_blk zs (xs ++ [z]) ys _ (by simpa using h) h1
  simpa [World.setCells] using ih
theorem Kept.setRange {g : Nat} : ∀ (zs : List Value) (o : Nat) (w : World), Kept (fun k => k = g) w (w.setCells g o zs)
 | [], _, _ => Kept.refl _ _
 | z :: zs, o, w => (Kept.setCell w ⟨g, o, Option.none⟩ z).trans (Kept.setRange zs (o + 1) _) (fun _ h => .inl h)
theorem Blk.there {w : World} {g : Nat} {t : TypeId} {cs : Array Value} (h : Blk w g t cs) {o n : Nat} (hn : o + n ≤ cs.size) : w.there g o n := fun j hj => by
 rw [h.cell, h.frozen]
 exact ⟨by rw [Array.getElem?_eq_getElem (by omega)]; rfl, rfl⟩
structure Ac where
 n : Nat
 o : En
 hn : n < 4294967296
def Ac.cs (a : Ac) : List Value := .int .u32 (a.n : Int) :: a.o.cs
abbrev Ac.arr (a : Ac) : Array Value := a.cs.toArray
def Ac.zero : Ac := ⟨0, En.zero, by omega⟩
theorem Ac.cs_len (a : Ac) : a.cs.length = 8 := by simp [Ac.cs, a.o.cs_len]
theorem Ac.arr_size (a : Ac) : a.arr.size = 8 := by simp [a.cs_len]
theorem Ac.arr_one (a : Ac) : a.arr.all (·.oneCell') = true := by
 refine all_oneCell_toArray fun u hu => ?_
 rcases List.mem_cons.1 hu with rfl | h
 ·rfl
 ·exact a.o.one_cs u (by simpa using h)
theorem size116 : (Tryz.prog.info? 116).map (·.size) = some 8 := by kernel_rfl
theorem und116 : Tryz.prog.underlying 116 = some (.struct (Tryz.prog.fieldsOf 116)) := by kernel_rfl
theorem zero_aarr : Ac.zero.arr = #[.int .u32 0, .int .u16 0, .int .u16 0, .int .u16 0, .int .u8 0, .int .u8 0, .int .u32 0, .int .u64 0] := by kernel_rfl
theorem info116 : (Tryz.prog.info? 116).map (fun i => (i.zero, i.size)) = some (some (.agg Ac.zero.arr), 8) := by rw [zero_aarr]; kernel_rfl
theorem zero116 (w : World) : (zeroValue 116).run Tryz.prog w = .ok (.agg Ac.zero.arr) w := (zero_of_info info116).1 w
theorem box116 (a : Ac) (w : World) : (Instr.box 116 (.agg a.arr)).run Tryz.prog w = .ok (.pointer (some ⟨w.heap.size, 0, none⟩)) (w.alloc (.cells a.arr 116)) := by
 simp [Instr.box, newVar, newRow, Value.cells, go_sem]
theorem alloc116 (w : World) : (Instr.alloc 116 true (.tuple #[])).run Tryz.prog w = .ok (.pointer (some ⟨w.heap.size, 0, none⟩)) (w.alloc (.cells Ac.zero.arr 116)) := by
 simp only [Instr.alloc, Sem.run_bind, (zero_of_info info116).1, Result.andThen_ok]
 simp [newVar, newRow, Value.cells, go_sem]
theorem load116 {w : World} {g : Nat} {a : Ac} (h : Blk w g 116 a.arr) : (Instr.loadAt 116 (.pointer (some ⟨g, 0, none⟩))).run Tryz.prog w = .ok (.agg a.arr) w := by
 have hi : (Tryz.prog.info? 116).map (·.size) = some a.arr.size := by rw [a.arr_size]; exact size116
 simp only [Instr.loadAt, Instr.sureAddr, Sem.run_bind, Sem.run_pure, Result.andThen]
 exact run_loadVar_row _ _ 116 116 a.arr (0, 0) _ h und116 rfl hi
theorem loadVar116 {w : World} {g : Nat} {a : Ac} (h : Blk w g 116 a.arr) : (loadVar 116 ⟨g, 0, none⟩).run Tryz.prog w = .ok (.agg a.arr) w := by
 have hi : (Tryz.prog.info? 116).map (·.size) = some a.arr.size := by rw [a.arr_size]; exact size116
 exact run_loadVar_row _ _ 116 116 a.arr (0, 0) _ h und116 rfl hi
theorem store116 {w : World} {g : Nat} {a b : Ac} (h : Blk w g 116 a.arr) : (Instr.storeAt 116 (.pointer (some ⟨g, 0, none⟩)) (.agg b.arr)).run Tryz.prog w = .ok () (w.setRow g b.arr) := by
 have hi : (Tryz.prog.info? 116).map (·.size) = some b.arr.size := by rw [b.arr_size]; exact size116
 simp only [Instr.storeAt, Instr.sureAddr, Sem.run_bind, Sem.run_pure, Result.andThen]
 exact run_storeVar_row _ _ 116 116 a.arr b.arr h hi (by rw [a.arr_size, b.arr_size]) b.arr_one
theorem ret116 {fn : Func} {t : Tmp} (h : fn.results = #[.cell t 116]) {tmps : Array Value} {w : World} {g : Nat} {a : Ac} (hx : tmps.getD t undef = .pointer (some ⟨g, 0, none⟩)) (hb : Blk w g 116 a.arr) :
  (results fn tmps).run Tryz.prog w = .ok (.agg a.arr) w := by
 have hx' : tmps[t]?.getD undef = .pointer (some ⟨g, 0, none⟩) := by rw [← hx]; simp [Array.getD_eq_getD_getElem?]
 simp only [results, h]
 simp [hx', asAddr, loadVar116 hb]
section
variable {ev : Operand → Value} {q : Oper} {w : World}
theorem exec_load116 {x : Operand} {g : Nat} {a : Ac} (ho : q.op = .load 116 x) (hx : ev x = .pointer (some ⟨g, 0, none⟩)) (h : Blk w g 116 a.arr) : (execOp ev q).run Tryz.prog w = .ok (.value (.agg a.arr)) w := exec_cell ho hx (load116 h)
theorem exec_alloc116z {z : Ac} (hz : Ac.zero = z) (ho : q.op = .alloc 116) : (execOp ev q).run Tryz.prog w = .ok (.value (.pointer (some ⟨w.heap.size, 0, none⟩))) (w.alloc (.cells z.arr 116)) := by
 subst hz
 unfold execOp
 simp only [ho, Sem.run_bind, alloc116, Result.andThen_ok]
 rfl
theorem exec_store116 {x y : Operand} {g : Nat} {a b : Ac} (ho : q.op = .store 116 x y) (hx : ev x = .pointer (some ⟨g, 0, none⟩)) (hy : ev y = .agg b.arr) (h : Blk w g 116 a.arr) : (execOp ev q).run Tryz.prog w = .ok .skip (w.setRow g b.arr) := by
 unfold execOp
 simp only [ho, hx, hy, Sem.run_bind, store116 (b := b) h, Result.andThen_ok]
 rfl
theorem exec_stSet {x y : Operand} {g : Nat} {a : Ac} {p : En} (ho : q.op = .store 72 x y) (hx : ev x = .pointer (some ⟨g, 1, none⟩)) (hy : ev y = .agg p.arr) (h : Blk w g 116 a.arr) : (execOp ev q).run Tryz.prog w = .ok .skip (w.setCells g 1 p.cs) := by
 have hs := run_storeAt_mid (P := Tryz.prog) w g 1 72 p.arr (h.there (by rw [p.arr_size, a.arr_size]; omega)) (by rw [p.arr_size]; exact size72) p.arr_one
 unfold execOp
 simp only [ho, hx, hy, Sem.run_bind, hs, Result.andThen_ok]
 rfl
theorem wpList_stop116 {ops : Array Oper} {rest : List Oper} {o : Oper} {act : Act} {Q : Exit → Act → World → Prop} {W : World} {x : Operand} (_ho : o.op = .load 116 x) (k : Halt_ (wpList Tryz.prog ops Q (o :: rest) act W)) : wpList Tryz.prog ops Q (o :: rest) act W := k.out
end
theorem stSet_blk {w : World} {g : Nat} {a : Ac} {p : En} (h : Blk w g 116 a.arr) : Blk (w.setCells g 1 p.cs) g 116 (⟨a.n, p, a.hn⟩ : Ac).arr :=
 setCells_blk p.cs [.int .u32 (a.n : Int)] a.o.cs w (by rw [p.cs_len, a.o.cs_len]) h
theorem Ac.range {w : World} {g : Nat} {a : Ac} (h : Blk w g 116 a.arr) : w.rangeAt g 1 a.o.cs := fun j u hu => by
 rw [h.cell, Nat.add_comm]
 simpa [Ac.cs] using hu
theorem cc0 {w : World} {g : Nat} {a : Ac} (h : Blk w g 116 a.arr) : w.cell? ⟨g, 0, none⟩ = some (.int .u32 (a.n : Int)) := by rw [h.cell]; rfl
theorem cc3 {w : World} {g : Nat} {a : Ac} (h : Blk w g 116 a.arr) : w.cell? ⟨g, 3, none⟩ = some (.int .u16 (a.o.q : Int)) := by rw [h.cell]; rfl
def Ac.with (a : Ac) (o : En) : Ac := if o.k = 1 then ⟨(a.n + o.q) % 4294967296, a.o, Nat.mod_lt _ (by omega)⟩ else if En.lessB a.o o = true then ⟨a.n, o, a.hn⟩ else a
def Ac.qty (a : Ac) : Nat := (a.n + a.o.q) % 4294967296
structure Wc (w W : World) (a z : Ac) (o : En) : Prop where
 am : Blk W w.heap.size 116 a.arr
 op : Blk W (w.heap.size + 1) 72 o.arr
 ans : Blk W (w.heap.size + 1 + 1) 116 z.arr
 old : Below w.heap.size w W
theorem wc_new (w : World) (a z : Ac) (o : En) : Wc w (((w.alloc (.cells a.arr 116)).alloc (.cells o.arr 72)).alloc (.cells z.arr 116)) a z o := by
 have h1 := Blk.new w 116 a.arr
 have h2 := Blk.new (w.alloc (.cells a.arr 116)) 72 o.arr
 have h3 := Blk.new ((w.alloc (.cells a.arr 116)).alloc (.cells o.arr 72)) 116 z.arr
 have b1 := below_one (w.alloc (.cells a.arr 116)) (.cells o.arr 72)
 have b2 := below_one ((w.alloc (.cells a.arr 116)).alloc (.cells o.arr 72)) (.cells z.arr 116)
 simp only [World.size_alloc] at h2 h3
 exact ⟨(h1.below b1).below b2, h2.below b2, h3, (below_two' _ _ _).trans (b2.mono (by simp; omega))⟩
theorem Wc.below {w W W' : World} {a z : Ac} {o : En} (h : Wc w W a z o) (hb : Below W.heap.size W W') : Wc w W' a z o := ⟨h.am.below hb, h.op.below hb, h.ans.below hb, h.old.trans (hb.mono h.old.size)⟩
theorem Wc.keep {w W W' : World} {a b z : Ac} {o : En} (h : Wc w W a z o) (k : Kept (fun i => i = w.heap.size) W W') (hb : Blk W' w.heap.size 116 b.arr) : Wc w W' b z o :=
 ⟨hb, h.op.kept k (by omega), h.ans.kept k (by omega), h.old.trans (k.below h.old.size (fun j e => by rw [e]; exact Nat.le_refl _))⟩
set_option maxRecDepth 100000 in
set_option maxHeartbeats 2000000 in
theorem cwith_any (a : Ac) (o : En) (w : World) : Calls Tryz.prog 62 #[.agg a.arr, .agg o.arr] w (Says (.agg (a.with o).arr) w) := by
 obtain ⟨z, hz⟩ : ∃ z, Ac.zero = z := ⟨_, rfl⟩
 have HZ := Lib.hid hz
 have hb1 := fun (a : Ac) (w : World) => box116 a w
 have hb2 := fun (o : En) (w : World) => box72 o w
 have HT := Lib.hid (wc_new w a z o)
 have HD : Hid (a.with o = if o.k = 1 then ⟨(a.n + o.q) % 4294967296, a.o, Nat.mod_lt _ (by omega)⟩ else if En.lessB a.o o = true then ⟨a.n, o, a.hn⟩ else a) := Lib.hid rfl
 generalize a.with o = r at HD
 have hq := o.hq
 have hn := a.hn
 clear hz
 go_enter Tryz.func62, Tryz.ntmps62
 go_upto_region 1 with (refine wpList_run rfl (exec_alloc116z HZ.out rfl) ?_)
 clear hb1 hb2
 generalize ((w.alloc (.cells a.arr 116)).alloc (.cells o.arr 72)).alloc (.cells z.arr 116) = W at HT
 have c3 := ent3 HT.out.op
 by_cases h1 : o.k = 1
 ·have q1 : ((o.k : Int) == 1) = true := by simp; omega
  have c0 := cc0 HT.out.am
  have f0 : W.frozen? ⟨w.heap.size, 0, none⟩ = false := HT.out.am.frozen 0
  have c5 := ent2 HT.out.op
  have HD2 : Hid (r = ⟨(a.n + o.q) % 4294967296, a.o, Nat.mod_lt _ (by omega)⟩) := Lib.hid (by rw [HD.out, if_pos h1])
  clear HD h1
  go_wp2_with (refine wpList_stop116 rfl ?_)
  have hks := Kept.setCell W ⟨w.heap.size, 0, none⟩ (.int .u32 (((a.n : Int) + (o.q : Int)) % 4294967296))
  have HW : Hid (Wc w (W.setCell ⟨w.heap.size, 0, none⟩ (.int .u32 (((a.n : Int) + (o.q : Int)) % 4294967296))) r z o) := Lib.hid (HT.out.keep hks (by
   have h := HT.out.am.set 0 (.int .u32 (((a.n : Int) + (o.q : Int)) % 4294967296))
   have e : a.arr.setIfInBounds 0 (.int .u32 (((a.n : Int) + (o.q : Int)) % 4294967296)) = r.arr := by
    rw [HD2.out]
    simp [Ac.arr, Ac.cs]
   rw [e] at h
   exact h))
  clear hks
  generalize W.setCell ⟨w.heap.size, 0, none⟩ (.int .u32 (((a.n : Int) + (o.q : Int)) % 4294967296)) = W2 at HW
  refine ⟨?_⟩
  refine wpList_run rfl (exec_load116 (a := r) rfl rfl HW.out.am) ?_
  refine wpList_void rfl rfl (exec_store116 (a := z) (b := r) rfl rfl rfl HW.out.ans) ?_
  have HR := Lib.hid (HW.out.ans.row (ds := r.arr))
  have HB : Hid (Below w.heap.size w (W2.setRow (w.heap.size + 1 + 1) r.arr)) := Lib.hid (HW.out.old.trans ((Kept.setRow W2 (w.heap.size + 1 + 1) r.arr).below HW.out.old.size (fun j e => by omega)))
  go_wp2_with fail
  exact bodyPost_ret (v := .agg r.arr) (ret116 rfl rfl HR.out) rfl ⟨rfl, HB.out⟩
 ·have q1 : ((o.k : Int) == 1) = false := by simp; omega
  have HR2 := Lib.hid (Ac.range HT.out.am)
  have HD2 : Hid (r = if En.lessB a.o o = true then ⟨a.n, o, a.hn⟩ else a) := Lib.hid (by rw [HD.out, if_neg h1])
  clear HD h1
  go_wp2_with (first | (refine wpList_run rfl (exec_ld72 (p := a.o) rfl rfl HR2.out) ?_) | (refine wpList_run rfl (exec_load72 (p := o) rfl rfl HT.out.op) ?_))
  refine (eless_any a.o o _).mono ?_
  rintro e W3 ⟨rfl, hg3⟩
  have HT3 := Lib.hid (HT.out.below hg3.below)
  clear HT hg3 c3 HR2
  cases hl : En.lessB a.o o
  ·have HW : Hid (Wc w W3 r z o) := Lib.hid (by rw [HD2.out, hl]; exact HT3.out)
   go_wp2_with (refine wpList_stop116 rfl ?_)
   refine ⟨?_⟩
   refine wpList_run rfl (exec_load116 (a := r) rfl rfl HW.out.am) ?_
   refine wpList_void rfl rfl (exec_store116 (a := z) (b := r) rfl rfl rfl HW.out.ans) ?_
   have HR := Lib.hid (HW.out.ans.row (ds := r.arr))
   have HB : Hid (Below w.heap.size w (W3.setRow (w.heap.size + 1 + 1) r.arr)) := Lib.hid (HW.out.old.trans ((Kept.setRow W3 (w.heap.size + 1 + 1) r.arr).below HW.out.old.size (fun j e => by omega)))
   go_wp2_with fail
   exact bodyPost_ret (v := .agg r.arr) (ret116 rfl rfl HR.out) rfl ⟨rfl, HB.out⟩
  ·have HD4 : Hid (r = ⟨a.n, o, a.hn⟩) := Lib.hid (by rw [HD2.out, hl]; rfl)
   clear hl
   go_wp2_with (first | (refine wpList_run rfl (exec_load72 (p := o) rfl rfl HT3.out.op) ?_) | (refine wpList_stop116 rfl ?_) | (refine wpList_stop72 rfl ?_))
   refine ⟨?_⟩
   refine wpList_void rfl rfl (exec_stSet (a := a) (p := o) rfl rfl rfl HT3.out.am) ?_
   have HW : Hid (Wc w (W3.setCells w.heap.size 1 o.cs) r z o) := Lib.hid (HT3.out.keep (Kept.setRange o.cs 1 W3) (by rw [HD4.out]; exact stSet_blk HT3.out.am))
   generalize W3.setCells w.heap.size 1 o.cs = W5 at HW
   go_wp2_with (refine wpList_stop116 rfl ?_)
   refine ⟨?_⟩
   refine wpList_run rfl (exec_load116 (a := r) rfl rfl HW.out.am) ?_
   refine wpList_void rfl rfl (exec_store116 (a := z) (b := r) rfl rfl rfl HW.out.ans) ?_
   have HR := Lib.hid (HW.out.ans.row (ds := r.arr))
   have HB : Hid (Below w.heap.size w (W5.setRow (w.heap.size + 1 + 1) r.arr)) := Lib.hid (HW.out.old.trans ((Kept.setRow W5 (w.heap.size + 1 + 1) r.arr).below HW.out.old.size (fun j e => by omega)))
   go_wp2_with fail
   exact bodyPost_ret (v := .agg r.arr) (ret116 rfl rfl HR.out) rfl ⟨rfl, HB.out⟩
theorem cqty_any (a : Ac) (w : World) : Calls Tryz.prog 65 #[.agg a.arr] w (Says (.int .u32 (a.qty : Int)) w) := by
 have hb1 := fun (a : Ac) (w : World) => box116 a w
 have hbx := Blk.new w 116 a.arr
 have c0 := cc0 hbx
 have c6 := cc3 hbx
 have hq := a.o.hq
 have hn := a.hn
 have HQ : Hid (((a.qty : Nat) : Int) = ((a.n : Int) + (a.o.q : Int)) % 4294967296) := Lib.hid (by unfold Ac.qty; omega)
 clear hbx
 generalize a.qty = y at HQ
 go_enter Tryz.func65, Tryz.ntmps65
 go_wp2_with fail
 go_ret
 exact ⟨ret_int HQ.out.symm, below_one _ _⟩
end Go.Proofs.YtnekpgmgnepdoaaGreat
end
