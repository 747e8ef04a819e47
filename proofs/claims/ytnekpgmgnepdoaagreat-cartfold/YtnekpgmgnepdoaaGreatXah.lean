import Derived.Deep.OwnRows
import Derived.Shelf.SlSortCmp.WholeK
import Derived.Test.YtnekpgmgnepdoaaGreatWal
import Derived.Test.YtnekpgmgnepdoaaGreatXaa
import Derived.Test.YtnekpgmgnepdoaaGreatXaf
section
namespace Go.Proofs.YtnekpgmgnepdoaaGreat
open Go.RowKit
def dotN (e : En) : Nat := e.r * 4294967296 + e.s
theorem dotN_eq (a b : En) : dotN a = dotN b ↔ a.r = b.r ∧ a.s = b.s := by
 have := a.hs
 have := b.hs
 unfold dotN
 omega
theorem or_shift (r s : Nat) (hr : r < 256) (hs : s < 4294967296) : bits .or .u64 ((r : Int) * 4294967296) (s : Int) = ((r * 4294967296 + s : Nat) : Int) := by
 have e : bits .or .u64 ((r : Int) * 4294967296) (s : Int) = IntKind.u64.wrap ((BitVec.ofInt 64 ((r : Int) * 4294967296) ||| BitVec.ofInt 64 (s : Int)).toNat : Int) := rfl
 have h1 : (BitVec.ofInt 64 ((r : Int) * 4294967296)).toNat = r * 4294967296 := by
  rw [show ((r : Int) * 4294967296) = ((r * 4294967296 : Nat) : Int) by omega, BitVec.ofInt_natCast, BitVec.toNat_ofNat]
  exact Nat.mod_eq_of_lt (by omega)
 have h2 : (BitVec.ofInt 64 (s : Int)).toNat = s := by
  rw [BitVec.ofInt_natCast, BitVec.toNat_ofNat]; exact Nat.mod_eq_of_lt (by omega)
 have h3 : r * 4294967296 ||| s = r * 4294967296 + s := by
  have := Nat.two_pow_add_eq_or_of_lt (i := 32) (b := s) (by omega) r
  rw [show (2 : Nat) ^ 32 = 4294967296 by rfl, Nat.mul_comm] at this
  exact this.symm
 rw [e, BitVec.toNat_or, h1, h2, h3, IntKind.wrap_u64]
 omega
theorem info67 : (Tryz.prog.info? 67).map (fun i => (i.zero, i.size, i.bytes)) = some (some (.int .u64 0), 1, 8) := by kernel_rfl
theorem und178 : Tryz.prog.underlying 178 = some (.slice 67) := Tryz.underlying178
theorem made_rep (n : Nat) (z : Value) : madeCells #[z] n = Array.replicate n z := by
 apply Array.ext_getElem?
 intro i
 unfold madeCells
 by_cases hi : i < n
 ·simp [hi, Nat.mod_one]
 ·simp [hi]
section
variable {ev : Operand → Value} {q : Oper} {w : World}
theorem exec_mkU {x y : Operand} {n : Nat} (ho : q.op = .makeSlice 178 x y) (hx : ev x = .int .i64 (n : Int)) (hy : ev y = .int .i64 (n : Int)) (hn : n < 1000000) : (execOp ev q).run Tryz.prog w = .ok (.value (.slice (some ⟨w.heap.size, 0, none⟩) n n)) (w.alloc (.cells (Array.replicate n (.int .u64 0)) 67)) := by
 have hm := run_make_row' (P := Tryz.prog) 178 67 (.int .u64 0) 8 und178 info67 rfl .i64 .i64 n (by omega) (by omega) w
 rw [made_rep] at hm
 unfold execOp
 simp only [ho, hx, hy, Sem.run_bind, hm, Result.andThen_ok]
 rfl
theorem exec_idxU {x y : Operand} {g n cap i : Nat} {z : Int} (ho : q.op = .indexAddr 178 x y) (hx : ev x = .slice (some ⟨g, 0, none⟩) n cap) (hy : ev y = .int .i64 z) (hz : z = (i : Int)) (hi : i < n) : (execOp ev q).run Tryz.prog w = .ok (.value (.pointer (some ⟨g, i, none⟩))) w := by
 subst hz
 have u := und178
 unfold execOp
 simp only [ho, hx, hy]
 go_simp
end
def dotsTo (l : List En) (k : Nat) : List Value := ((l.take k).map fun e => Value.int .u64 (dotN e : Int)) ++ List.replicate (l.length - k) (.int .u64 0)
theorem dots_set {l : List En} {k : Nat} {x : En} (hx : l[k]? = some x) : (dotsTo l k).toArray.setIfInBounds k (.int .u64 (dotN x : Int)) = (dotsTo l (k + 1)).toArray := by
 have hk : k < l.length := (List.getElem?_eq_some_iff.1 hx).1
 have e1 : (l.take k).length = k := by simp; omega
 simp only [List.setIfInBounds_toArray]
 congr 1
 unfold dotsTo
 rw [List.set_append_right _ _ (by simp; omega), List.take_add_one, hx]
 simp only [List.length_map, e1, Nat.sub_self, Option.toList_some, List.map_append, List.map_cons, List.map_nil, List.append_assoc]
 congr 1
 rw [show l.length - k = (l.length - (k + 1)) + 1 by omega, List.replicate_succ]
 rfl
def DsR (w : World) (l : List En) (n g : Nat) (v : Value) (W : World) : Prop := ∃ k : Nat, v = .int .i64 (k : Int) ∧ k ≤ n ∧ Hid (Blk W g 67 (dotsTo l k).toArray) ∧ Hid (Below w.heap.size w W)
def OneE (l : List En) : Prop := l.Pairwise fun a b => ¬ (a.r = b.r ∧ a.s = b.s)
theorem oneE_iff (l : List En) : OneE l ↔ (l.map dotN).Nodup := by
 unfold OneE
 rw [List.nodup_iff_pairwise_ne, List.pairwise_map]
 constructor
 ·exact fun h => h.imp fun h e => h ((dotN_eq _ _).1 e)
 ·exact fun h => h.imp fun h e => h ((dotN_eq _ _).2 e)
theorem nodup_of_len : ∀ {l m : List Nat}, m.Nodup → (∀ x ∈ m, x ∈ l) → m.length = l.length → l.Nodup
 | [], _, _, _, _ => List.nodup_nil
 | y :: t, m, hm, hs, hl => by
  have hyt : y ∉ t := fun h => by
   have := hm.length_le_of_subset (l₂ := t) (fun x hx => by
    rcases List.mem_cons.1 (hs x hx) with rfl | h2
    ·exact h
    ·exact h2)
   simp at hl
   omega
  have hym : y ∈ m := Classical.byContradiction fun h => by
   have := hm.length_le_of_subset (l₂ := t) (fun x hx => by
    rcases List.mem_cons.1 (hs x hx) with rfl | h2
    ·exact absurd hx h
    ·exact h2)
   simp at hl
   omega
  refine List.nodup_cons.2 ⟨hyt, nodup_of_len (m := m.erase y) (hm.erase y) (fun x hx => ?_) (by rw [List.length_erase_of_mem hym]; simp at hl; omega)⟩
  have hxm := List.mem_of_mem_erase hx
  rcases List.mem_cons.1 (hs x hxm) with rfl | h2
  ·exact absurd hx (hm.not_mem_erase)
  ·exact h2
theorem nodup_count {l : List Nat} {m : List Nat} (hm : m.Pairwise (· < ·)) (h : ∀ x, x ∈ m ↔ x ∈ l) : m.length = l.length ↔ l.Nodup := by
 have hmn : m.Nodup := List.nodup_iff_pairwise_ne.2 (hm.imp fun h => by omega)
 constructor
 ·exact fun hl => nodup_of_len hmn (fun x hx => (h x).1 hx) hl
 ·intro hl
  have h1 := hmn.length_le_of_subset (l₂ := l) (fun x hx => (h x).1 hx)
  have h2 := hl.length_le_of_subset (l₂ := m) (fun x hx => (h x).2 hx)
  omega
set_option maxRecDepth 100000 in
set_option maxHeartbeats 4000000 in
theorem distinct_any {a : Option Addr} {n cap : Nat} {l : List En} {w : World} (hl : EL w a n l) (hn : n < 100) : Calls Tryz.prog 97 #[.slice a n cap] w (SaysIff (OneE l) w) := by
 have HL := Lib.hid hl
 have HLEN := Lib.hid hl.len'
 obtain ⟨zo, ho⟩ : ∃ z, En.zero = z := ⟨_, rfl⟩
 have HZO := Lib.hid ho
 clear hl ho
 have HB0 : Hid (Below w.heap.size w (w.alloc (.cells (Array.replicate n (.int .u64 0)) 67))) := Lib.hid (below_one _ _)
 have HK0 : Hid (Blk (w.alloc (.cells (Array.replicate n (.int .u64 0)) 67)) w.heap.size 67 (dotsTo l 0).toArray) := Lib.hid (by
  have := Blk.new w 67 (Array.replicate n (.int .u64 0))
  have e : (dotsTo l 0).toArray = Array.replicate n (.int .u64 0) := by unfold dotsTo; rw [HLEN.out]; simp
  rw [e]
  exact this)
 go_enter Tryz.func97, Tryz.ntmps97
 go_wp2_with (refine wpList_run rfl (exec_mkU (n := n) rfl rfl rfl (by omega)) ?_)
 obtain ⟨g, hg⟩ : ∃ g, w.heap.size = g := ⟨_, rfl⟩
 have HG := Lib.hid hg
 rw [hg] at HK0
 rw [hg]
 generalize w.alloc (.cells (Array.replicate n (.int .u64 0)) 67) = w0 at HB0 HK0
 clear hg
 go_loopw [11] (DsR w l n g) (fun v _ => n - (numI v).toNat)
 case atStart => exact ⟨0, rfl, Nat.zero_le _, HK0, HB0⟩
 case round =>
  obtain ⟨k, rfl, hk, HK, HB⟩ := hrel
  clear HB0 HK0
  by_cases hlt : k < n
  ·obtain ⟨b, off, x, rfl, hx, hr⟩ := EL.at (HL.out.below HB.out) hlt
   have HX := Lib.hid hx
   have HR := Lib.hid hr
   clear hx hr
   go_wp2_with (first | (refine wpList_run rfl (exec_idx72 (i := k) rfl rfl rfl rfl hlt) ?_) | (refine wpList_run rfl (exec_ld72 (p := x) rfl rfl HR.out) ?_) | (refine wpList_run rfl (exec_alloc72z HZO.out rfl) ?_) | (refine wpList_stop72 rfl ?_))
   refine ⟨?_⟩
   refine wpList_void rfl rfl (exec_store72 (p := zo) (u := x) rfl rfl rfl (Blk.new wr 72 zo.arr)) ?_
   have H1 := Lib.hid (bo_laid wr 72 zo.arr x.arr)
   generalize (wr.alloc (.cells zo.arr 72)).setRow wr.heap.size x.arr = w1 at H1
   have HK1 := Lib.hid (HK.out.below H1.out.old)
   have HB1 : Hid (Below w.heap.size w w1) := Lib.hid (HB.out.trans (H1.out.old.mono HB.out.size))
   have c4 := ent4 H1.out.one
   have c5 := ent5 H1.out.one
   have xr := x.hr
   have xs := x.hs
   have hcg : w1.cell? ⟨g, k, none⟩ = some (.int .u64 0) := by
    rw [HK1.out.cell]
    have h1 := HLEN.out
    unfold dotsTo
    have e2 : (l.take k).length = k := by simp; omega
    rw [List.getElem?_toArray, List.getElem?_append_right (by simp; omega), List.length_map, e2, Nat.sub_self, List.getElem?_replicate, if_pos (by omega)]
   have hfg : w1.frozen? ⟨g, k, none⟩ = false := HK1.out.frozen k
   have HK2 : Hid (Blk (w1.setCell ⟨g, k, none⟩ (.int .u64 ((x.r * 4294967296 + x.s : Nat) : Int))) g 67 (dotsTo l (k + 1)).toArray) := Lib.hid (by
    have h := HK1.out.set k (.int .u64 (dotN x : Int))
    rw [dots_set HX.out] at h
    exact h)
   have HB2 : Hid (Below w.heap.size w (w1.setCell ⟨g, k, none⟩ (.int .u64 ((x.r * 4294967296 + x.s : Nat) : Int)))) := Lib.hid (HB1.out.trans ((Kept.setCell w1 ⟨g, k, none⟩ _).below HB1.out.size (fun j e => by rw [e, HG.out]; exact Nat.le_refl _)))
   have hos := or_shift x.r x.s xr xs
   go_wp2_with (refine wpList_run rfl (exec_idxU (i := k) rfl rfl rfl rfl hlt) ?_)
   go_roundw
   case rel => exact ⟨k + 1, by go_num, hlt, HK2, HB2⟩
   case measure => simp [numI]; omega
  ·obtain rfl : k = n := by omega
   have HO : Hid (Q.OwnU wr w.heap.size (some ⟨g, 0, none⟩) k k (l.map dotN)) := by
    have hh := HK.out
    have h1 := HLEN.out
    have e : dotsTo l k = Q.encN (l.map dotN) := by
     unfold dotsTo Q.encN
     rw [List.take_of_length_le (by omega), show l.length - k = 0 by omega]
     simp
    rw [e] at hh
    refine Lib.hid ⟨by simp [Q.encN, h1], .inr ⟨g, k, _, rfl, by rw [HG.out]; exact Nat.le_refl _, hh, Nat.le_refl _, by unfold maxLen; omega, by simp [Q.encN, h1], by rw [Nat.mul_one]; exact List.take_of_length_le (by simp [Q.encN, h1])⟩⟩
   have HC := Lib.hid (Q.sortU_any HO.out hn)
   go_wp2_with fail
   refine HC.out.mono ?_
   rintro e w2 ⟨rfl, l2, hp2, hs2, ho2, hk2⟩
   have HC2 := Lib.hid (Q.compU_any ho2 hs2 (by omega))
   have HP2 := Lib.hid hp2
   have HB2 : Hid (Below w.heap.size w w2) := Lib.hid (HB.out.trans (hk2.below HB.out.size (fun j e => by rw [e, HG.out]; exact Nat.le_refl _)))
   clear hp2 hs2 ho2 hk2 HC
   go_wp2_with fail
   refine HC2.out.mono ?_
   rintro e w3 ⟨l3, rfl, hu3, hm3, _, hk3⟩
   have HB3 : Hid (Below w.heap.size w w3) := Lib.hid (HB2.out.trans (hk3.below HB2.out.size (fun j e => by rw [e, HG.out]; exact Nat.le_refl _)))
   have HI : Hid (l3.length = k ↔ OneE l) := Lib.hid (by
    rw [oneE_iff, ← nodup_count hu3 (fun x => by rw [hm3 x, HP2.out.mem_iff]), List.length_map, HLEN.out])
   generalize l3.length = m at HI
   clear hu3 hm3 hk3
   go_wp2_with fail
   go_ret
   exact ⟨decide (m = k), ret_bool (by rw [Bool.eq_iff_iff]; simp; omega), by rw [decide_eq_true_eq]; exact HI.out, HB3.out⟩
end Go.Proofs.YtnekpgmgnepdoaaGreat
end
section
namespace Go.Proofs.YtnekpgmgnepdoaaGreat
open Go.RowKit Go.Maps
theorem types_size : Tryz.prog.types.size = 259 := by kernel_rfl
theorem lits_int {d : Nat} {t : TypeId} {k : IntKind} (hu : Tryz.prog.underlying t = some (.int k)) {n : Int} (hw : (Lit.int k n).wf = true) : Tryz.prog.keyLits (d + 1) t [.int k n] = some [.int k n] := by
 unfold Program.keyLits
 simp [hu, hw]
theorem wf8 {r : Nat} (h : r < 256) : (Lit.int .u8 (r : Int)).wf = true := by
 simp [Lit.wf, IntKind.min, IntKind.max, IntKind.bits, IntKind.signed]; omega
theorem wf32 {s : Nat} (h : s < 4294967296) : (Lit.int .u32 (s : Int)).wf = true := by
 simp [Lit.wf, IntKind.min, IntKind.max, IntKind.bits, IntKind.signed]; omega
theorem cells30k : Tryz.prog.cellsOf 30 = 2 := by kernel_rfl
theorem cells5k : Tryz.prog.cellsOf 5 = 1 := by kernel_rfl
theorem cells22k : Tryz.prog.cellsOf 22 = 1 := by kernel_rfl
theorem law30 : Keyed Tryz.prog 30 := Keyed.of_law (deep_law_laid (m := 50) (by kernel_rfl) (by omega) (of_decide_eq_true (by kernel_rfl)) (by kernel_rfl) (by kernel_rfl))
theorem key_type30 : Tryz.prog.keyType 30 = true := by kernel_rfl
def kd (r s : Nat) : Lit := .string (keyBytes [.int .u8 (r : Int), .int .u32 (s : Int)])
theorem lits30 (d : Nat) (a b : Value) : Tryz.prog.keyLits (d + 2) 30 [a, b] = (Tryz.prog.keyLits (d + 1) 5 [a]).bind fun la => (Tryz.prog.keyLits (d + 1) 22 [b]).map fun lb => la ++ lb := by
 conv => lhs; unfold Program.keyLits
 simp only [Tryz.underlying30, cells30k]
 simp [cells5k, cells22k]
 cases Tryz.prog.keyLits (d + 1) 5 [a] <;> cases Tryz.prog.keyLits (d + 1) 22 [b] <;> simp
theorem key30 {r s : Nat} (hr : r < 256) (hs : s < 4294967296) : keyOf Tryz.prog 30 (dotV r s) = some (kd r s) := by
 have hl : ∀ d, Tryz.prog.keyLits (d + 2) 30 [.int .u8 (r : Int), .int .u32 (s : Int)] = some [.int .u8 (r : Int), .int .u32 (s : Int)] := fun d => by
  rw [lits30, lits_int Tryz.underlying5 (wf8 hr), lits_int Tryz.underlying22 (wf32 hs)]
  rfl
 have hf : Value.formed Tryz.prog 30 (dotV r s) = true := by simp [Value.formed, Tryz.underlying30, cells30k]
 have e : Tryz.prog.types.size + 1 = 258 + 2 := by rw [types_size]
 unfold keyOf
 simp only [Tryz.underlying30]
 rw [key_type30, hf, e]
 simp only [Value.cells]
 rw [hl]
 rfl
theorem kd_inj {r s r' s' : Nat} (h1 : r < 256) (h2 : s < 4294967296) (h3 : r' < 256) (h4 : s' < 4294967296) (h : kd r s = kd r' s') : r = r' ∧ s = s' := by
 have e1 := key30 h1 h2
 rw [h] at e1
 have := law30.inj e1 (key30 h3 h4)
 simp only [Value.agg.injEq, Array.mk.injEq, List.cons.injEq, Value.int.injEq, true_and, and_true, Int.natCast_inj] at this
 exact this
theorem und151 : Tryz.prog.underlying 151 = some (.map 30 72) := Tryz.underlying151
theorem zero72 (w : World) : (zeroValue 72).run Tryz.prog w = .ok (.agg En.zero.arr) w := (zero_of_info info72z).1 w
theorem epart (e : En) (w : World) {t : TypeId} {off : Nat} {v : Value} (ha : (isAgg t).run Tryz.prog w = .ok false w) (hv : e.cs[off]? = some v) : (part t e.arr off).run Tryz.prog w = .ok v w := by
 simp [part, ha, hv, go_sem]
theorem epart_dot (e : En) (w : World) : (part 30 e.arr 4).run Tryz.prog w = .ok (dotV e.r e.s) w := by
 have ha : (isAgg 30).run Tryz.prog w = .ok true w := by kernel_rfl
 have hz : (Go.sizeOf 30).run Tryz.prog w = .ok 2 w := by kernel_rfl
 simp only [part, Sem.run_bind, ha, hz, Result.andThen_ok, if_true, Sem.run_pure]
 rfl
theorem eqF_any {d : Nat} {xs ys : Array Value} {f : Field} {fs : List Field} {w : World} {r r2 : Bool} (a b : Value) (hn : f.name ≠ "_") (h1 : (part f.type xs f.offset).run Tryz.prog w = .ok a w) (h2 : (part f.type ys f.offset).run Tryz.prog w = .ok b w) (h3 : (Op.equalIn d f.type a b).run Tryz.prog w = .ok r w)
  (h : (Op.eqFields d xs ys fs).run Tryz.prog w = .ok r2 w) : (Op.eqFields d xs ys (f :: fs)).run Tryz.prog w = .ok (r && r2) w := by
 cases r <;> simp [Op.eqFields, Sem.run_bind, hn, h1, h2, h3, h]
theorem eq_intsD (d : Nat) (t : TypeId) (k : IntKind) (a b : Int) (w : World) (h : Tryz.prog.underlying t = some (.int k)) : (Op.equalIn (d + 1) t (.int k a) (.int k b)).run Tryz.prog w = .ok (a == b) w :=
 run_equalIn_int (P := Tryz.prog) w d t k k a b h
theorem eq_ints (t : TypeId) (k : IntKind) (a b : Int) (w : World) (h : Tryz.prog.underlying t = some (.int k)) : (Op.equalIn 9999 t (.int k a) (.int k b)).run Tryz.prog w = .ok (a == b) w := eq_intsD 9998 t k a b w h
theorem dpart (u v : Value) (w : World) {t : TypeId} {off : Nat} {x : Value} (ha : (isAgg t).run Tryz.prog w = .ok false w) (hv : [u, v][off]? = some x) : (part t #[u, v] off).run Tryz.prog w = .ok x w := by
 have hv' : #[u, v][off]? = some x := by simpa using hv
 simp [part, ha, hv', go_sem]
theorem eq_dots (r s r' s' : Nat) (w : World) : (Op.equalIn 9999 30 (dotV r s) (dotV r' s')).run Tryz.prog w = .ok (decide (r = r' ∧ s = s')) w := by
 have hS : Tryz.prog.underlying 30 = some (.struct (Tryz.prog.fieldsOf 30)) := by kernel_rfl
 have hp : Tryz.prog.stoodInHeld 30 = false := by kernel_rfl
 have hE : decide (r = r' ∧ s = s') = (((r : Int) == (r' : Int)) && (((s : Int) == (s' : Int)) && true)) := by
  rw [Bool.eq_iff_iff]
  simp only [decide_eq_true_eq, Bool.and_eq_true, beq_iff_eq, Int.natCast_inj, and_true]
 rw [hE, show (9999 : Nat) = 9998 + 1 from rfl, run_equalIn_agg w 9998 30 _ _ hS hp]
 simp only [Program.fieldsOf, Tryz.underlying30]
 refine eqF_any (.int .u8 (r : Int)) (.int .u8 (r' : Int)) (by decide) (dpart _ _ w (by kernel_rfl) rfl) (dpart _ _ w (by kernel_rfl) rfl) (eq_intsD 9997 5 .u8 _ _ w (by kernel_rfl)) ?_
 refine eqF_any (.int .u32 (s : Int)) (.int .u32 (s' : Int)) (by decide) (dpart _ _ w (by kernel_rfl) rfl) (dpart _ _ w (by kernel_rfl) rfl) (eq_intsD 9997 22 .u32 _ _ w (by kernel_rfl)) ?_
 exact eqF_nil
theorem und72f : Tryz.prog.underlying 72 = some (.struct (Tryz.prog.fieldsOf 72)) := by kernel_rfl
theorem eq72 (a b : En) (w : World) : (Op.equalIn 10000 72 (.agg a.arr) (.agg b.arr)).run Tryz.prog w = .ok (decide (a = b)) w := by
 have hp : Tryz.prog.stoodInHeld 72 = false := by kernel_rfl
 have p0 := epart a w (t := 31) (off := 0) (v := .int .u16 (a.c : Int)) (by kernel_rfl) rfl
 have p1 := epart a w (t := 31) (off := 1) (v := .int .u16 (a.i : Int)) (by kernel_rfl) rfl
 have p2 := epart a w (t := 31) (off := 2) (v := .int .u16 (a.q : Int)) (by kernel_rfl) rfl
 have p3 := epart a w (t := 5) (off := 3) (v := .int .u8 (a.k : Int)) (by kernel_rfl) rfl
 have p4 := epart_dot a w
 have p5 := epart a w (t := 67) (off := 6) (v := .int .u64 (a.n : Int)) (by kernel_rfl) rfl
 have q0 := epart b w (t := 31) (off := 0) (v := .int .u16 (b.c : Int)) (by kernel_rfl) rfl
 have q1 := epart b w (t := 31) (off := 1) (v := .int .u16 (b.i : Int)) (by kernel_rfl) rfl
 have q2 := epart b w (t := 31) (off := 2) (v := .int .u16 (b.q : Int)) (by kernel_rfl) rfl
 have q3 := epart b w (t := 5) (off := 3) (v := .int .u8 (b.k : Int)) (by kernel_rfl) rfl
 have q4 := epart_dot b w
 have q5 := epart b w (t := 67) (off := 6) (v := .int .u64 (b.n : Int)) (by kernel_rfl) rfl
 have e4 := eq_dots a.r a.s b.r b.s w
 have hE : decide (a = b) = (((a.c : Int) == (b.c : Int)) && (((a.i : Int) == (b.i : Int)) && (((a.q : Int) == (b.q : Int)) && (((a.k : Int) == (b.k : Int)) && (decide (a.r = b.r ∧ a.s = b.s) && (((a.n : Int) == (b.n : Int)) && true)))))) := by
  rw [Bool.eq_iff_iff]
  simp only [decide_eq_true_eq, Bool.and_eq_true, beq_iff_eq, Int.natCast_inj, and_true]
  constructor
  ·rintro rfl; simp
  ·rintro ⟨h0, h1, h2, h3, h4, h5⟩; exact En.ext' h0 h1 h2 h3 h4.1 h4.2 h5
 rw [hE, show (10000 : Nat) = 9999 + 1 from rfl, run_equalIn_agg w 9999 72 _ _ und72f hp]
 simp only [Program.fieldsOf, Tryz.underlying72]
 clear hp hE
 generalize a.arr = aa at *
 generalize b.arr = bb at *
 refine eqF_any _ _ (by decide) p0 q0 (eq_ints 31 .u16 _ _ w (by kernel_rfl)) ?_
 refine eqF_any _ _ (by decide) p1 q1 (eq_ints 31 .u16 _ _ w (by kernel_rfl)) ?_
 refine eqF_any _ _ (by decide) p2 q2 (eq_ints 31 .u16 _ _ w (by kernel_rfl)) ?_
 refine eqF_any _ _ (by decide) p3 q3 (eq_ints 5 .u8 _ _ w (by kernel_rfl)) ?_
 refine eqF_any _ _ (by decide) p4 q4 e4 ?_
 refine eqF_any _ _ (by decide) p5 q5 (eq_ints 67 .u64 _ _ w (by kernel_rfl)) ?_
 exact eqF_nil
theorem exec_neq72 {ev : Operand → Value} {o : Oper} {w : World} {x y : Operand} {t : TypeId} {a b : En} {r : Bool} (ho : o.op = .binOp .neq 72 x y t) (hx : ev x = .agg a.arr) (hy : ev y = .agg b.arr) (hr : (!decide (a = b)) = r) : (execOp ev o).run Tryz.prog w = .ok (.value (.bool r)) w := by
 subst hr
 have hq : (binOp .neq 72 (.agg a.arr) (.agg b.arr)).run Tryz.prog w = .ok (.bool (!decide (a = b))) w := by
  rw [run_neq_struct, eq72]; rfl
 have hg : (eqGuard .neq 72 x y (.agg a.arr) (.agg b.arr)).run Tryz.prog w = .ok () w := run_eqGuard_agg w .neq 72 x y _ _ (by kernel_rfl)
 unfold execOp
 simp only [ho, hx, hy, Sem.run_bind, hg, hq, Result.andThen_ok]
 rfl
def lastE (l : List En) (r s : Nat) : Option En := l.foldl (fun acc x => if x.r = r ∧ x.s = s then some x else acc) none
theorem last_snoc (l : List En) (x : En) (r s : Nat) : lastE (l ++ [x]) r s = if x.r = r ∧ x.s = s then some x else lastE l r s := by
 unfold lastE; rw [List.foldl_append]; rfl
theorem last_aux (r s : Nat) : ∀ (l : List En) (acc : Option En), l.foldl (fun acc x => if x.r = r ∧ x.s = s then some x else acc) acc = none → acc = none ∧ ∀ x ∈ l, ¬ (x.r = r ∧ x.s = s)
 | [], acc, h => ⟨h, by simp⟩
 | y :: l, acc, h => by
  obtain ⟨h1, h2⟩ := last_aux r s l _ h
  dsimp only at h1
  by_cases e : y.r = r ∧ y.s = s
  ·rw [if_pos e] at h1; cases h1
  ·rw [if_neg e] at h1
   refine ⟨h1, fun x hx => ?_⟩
   rcases List.mem_cons.1 hx with rfl | hx
   ·exact e
   ·exact h2 x hx
theorem last_none {l : List En} {r s : Nat} (h : lastE l r s = none) : ∀ x ∈ l, ¬ (x.r = r ∧ x.s = s) := (last_aux r s l none h).2
theorem last_aux2 (r s : Nat) (x : En) : ∀ (l : List En) (acc : Option En), l.foldl (fun acc x => if x.r = r ∧ x.s = s then some x else acc) acc = some x → acc = some x ∨ (x ∈ l ∧ x.r = r ∧ x.s = s)
 | [], acc, h => .inl h
 | y :: l, acc, h => by
  rcases last_aux2 r s x l _ h with h1 | h1
  ·dsimp only at h1
   by_cases e : y.r = r ∧ y.s = s
   ·rw [if_pos e] at h1
    obtain rfl := Option.some.inj h1
    exact .inr ⟨List.mem_cons_self, e⟩
   ·rw [if_neg e] at h1
    exact .inl h1
  ·exact .inr ⟨List.mem_cons_of_mem _ h1.1, h1.2⟩
theorem last_some {l : List En} {r s : Nat} {x : En} (h : lastE l r s = some x) : x ∈ l ∧ x.r = r ∧ x.s = s := by
 rcases last_aux2 r s x l none h with h1 | h1
 ·cases h1
 ·exact h1
structure DotM (W : World) (m : Nat) (l : List En) (n : Nat) (f : Lit → Option Value) : Prop where
 mp : MpF W 30 m n f
 le : n ≤ l.length
 val : ∀ r s, r < 256 → s < 4294967296 → f (kd r s) = (lastE l r s).map fun o => .agg o.arr
theorem DotM.kept {S : Nat → Prop} {W W' : World} {m n : Nat} {l : List En} {f : Lit → Option Value} (h : DotM W m l n f) (k : Kept S W W') (hn : ¬ S m) : DotM W' m l n f := ⟨h.mp.kept k hn, h.le, h.val⟩
theorem DotM.below {W W' : World} {m n : Nat} {l : List En} {f : Lit → Option Value} (h : DotM W m l n f) (hb : Below W.heap.size W W') : DotM W' m l n f := ⟨h.mp.below hb, h.le, h.val⟩
theorem dot_put {l : List En} {k c : Nat} {x : En} {f : Lit → Option Value} {W W2 : World} {m : Nat} (hx : l[k]? = some x) (h : DotM W m (l.take k) c f)
  (h2 : MpF W2 30 m (if (f (kd x.r x.s)).isSome then c else c + 1) (upd f (kd x.r x.s) (.agg x.arr))) : DotM W2 m (l.take (k + 1)) (if (f (kd x.r x.s)).isSome then c else c + 1) (upd f (kd x.r x.s) (.agg x.arr)) := by
 have et : l.take (k + 1) = l.take k ++ [x] := by rw [List.take_add_one, hx]; rfl
 refine ⟨h2, ?_, fun r s hr hs => ?_⟩
 ·have := h.le
  rw [et, List.length_append]
  simp only [List.length_cons, List.length_nil]
  split <;> omega
 ·rw [et, last_snoc]
  by_cases e : x.r = r ∧ x.s = s
  ·obtain ⟨rfl, rfl⟩ := e
   rw [if_pos ⟨rfl, rfl⟩, upd_same]
   rfl
  ·rw [if_neg e, upd_other _ _ (fun h => e (by obtain ⟨a, b⟩ := kd_inj hr hs x.hr x.hs h; exact ⟨a.symm, b.symm⟩)), h.val r s hr hs]
section
variable {ev : Operand → Value} {q : Oper} {w : World}
theorem exec_mkM {x : Operand} {n : Int} (ho : q.op = .makeMap 151 (some x)) (hx : ev x = .int .i64 n) : (execOp ev q).run Tryz.prog w = .ok (.value (.map (some w.heap.size))) (w.alloc (.map #[] 0)) := by
 unfold execOp
 simp only [ho, Option.map_some, hx]
 simp [Instr.makeMap, run_underlying und151, asInt, Sem.run_bind, go_sem]
theorem exec_upd {w2 : World} {t : TypeId} {x y z : Operand} {m key v : Value} (ho : q.op = .mapUpdate t x y z) (hx : ev x = m) (hy : ev y = key) (hz : ev z = v) (h : (Instr.mapUpdate t m key v).run Tryz.prog w = .ok () w2) : (execOp ev q).run Tryz.prog w = .ok .skip w2 := by
 unfold execOp
 simp only [ho, hx, hy, hz, Sem.run_bind, h, Result.andThen_ok]
 rfl
theorem exec_lookD {x y : Operand} {m n r s : Nat} {l : List En} {f : Lit → Option Value} {z e : En} {b : Bool} (hz : En.zero = z) (ho : q.op = .lookup 151 x y true) (hx : ev x = .map (some m)) (hy : ev y = dotV r s) (h : DotM w m l n f) (hr : r < 256) (hs : s < 4294967296) (he : (lastE l r s).getD z = e) (hb : (lastE l r s).isSome = b) : (execOp ev q).run Tryz.prog w = .ok (.value (.tuple #[.agg e.arr, .bool b])) w := by
 subst he hb hz
 have hl := h.mp.look_ok law30 und151 (zero72 w) (key30 hr hs)
 rw [h.val r s hr hs] at hl
 have e1 : ((lastE l r s).map (fun o => Value.agg o.arr)).getD (.agg En.zero.arr) = .agg ((lastE l r s).getD En.zero).arr := by
  cases lastE l r s <;> rfl
 have e2 : ((lastE l r s).map (fun o => Value.agg o.arr)).isSome = (lastE l r s).isSome := by
  cases lastE l r s <;> rfl
 rw [e1, e2] at hl
 unfold execOp
 simp only [ho, hx, hy, Sem.run_bind, hl, Result.andThen_ok]
 rfl
end
theorem wpList_stopMU {ops : Array Oper} {rest : List Oper} {o : Oper} {act : Act} {Q : Exit → Act → World → Prop} {W : World} {t : TypeId} {x y z : Operand} (_ho : o.op = .mapUpdate t x y z) (k : Halt_ (wpList Tryz.prog ops Q (o :: rest) act W)) : wpList Tryz.prog ops Q (o :: rest) act W := k.out
def DotP (l : List En) (w : World) (e : Ending) (w' : World) : Prop := ∃ m n f, e = .returned (.map (some m)) ∧ DotM w' m l n f ∧ w.heap.size ≤ m ∧ Below w.heap.size w w'
def DotR (w : World) (l : List En) (n m : Nat) (u : Value) (W : World) : Prop :=
 ∃ (k c : Nat) (f : Lit → Option Value), u = .int .i64 (k : Int) ∧ k ≤ n ∧ Hid (DotM W m (l.take k) c f) ∧ Hid (Below w.heap.size w W)
set_option maxRecDepth 100000 in
set_option maxHeartbeats 4000000 in
theorem byDot_any {a : Option Addr} {n cap : Nat} {l : List En} {w : World} (hl : EL w a n l) (hn : n < 1000000) : Calls Tryz.prog 99 #[.slice a n cap] w (DotP l w) := by
 obtain ⟨zo, ho⟩ : ∃ z, En.zero = z := ⟨_, rfl⟩
 have HO := Lib.hid ho
 have HL := Lib.hid hl
 have HLEN := Lib.hid hl.len'
 clear ho hl
 go_enter Tryz.func99, Tryz.ntmps99
 go_wp2_with (refine wpList_run rfl (exec_mkM rfl rfl) ?_)
 have HM0 : Hid (DotM (w.alloc (.map #[] 0)) w.heap.size (l.take 0) 0 (fun _ => none)) := Lib.hid ⟨mpF_new w 30, Nat.zero_le _, fun _ _ _ _ => rfl⟩
 have HB0 : Hid (Below w.heap.size w (w.alloc (.map #[] 0))) := Lib.hid (below_one _ _)
 obtain ⟨m, hm0⟩ : ∃ m, w.heap.size = m := ⟨_, rfl⟩
 rw [hm0] at HM0 ⊢
 have HGM : Hid (w.heap.size ≤ m) := Lib.hid (by omega)
 generalize w.alloc (.map #[] 0) = w0 at HM0 HB0
 clear hm0
 go_loopw [11] (DotR w l n m) (fun u _ => n - (numI u).toNat)
 case atStart => exact ⟨0, 0, _, rfl, Nat.zero_le _, HM0, HB0⟩
 case round =>
  obtain ⟨k, c, f, rfl, hk, HM, HB⟩ := hrel
  clear HM0 HB0
  by_cases hlt : k < n
  ·obtain ⟨b, off, x, rfl, hx, hr⟩ := EL.at (HL.out.below HB.out) hlt
   have HX := Lib.hid hx
   have HR := Lib.hid hr
   clear hx hr
   go_wp2_with (first | (refine wpList_run rfl (exec_idx72 (i := k) rfl rfl rfl rfl hlt) ?_) | (refine wpList_run rfl (exec_ld72 (p := x) rfl rfl HR.out) ?_) | (refine wpList_run rfl (exec_alloc72z HO.out rfl) ?_) | (refine wpList_stop72 rfl ?_))
   refine ⟨?_⟩
   refine wpList_void rfl rfl (exec_store72 (p := zo) (u := x) rfl rfl rfl (Blk.new wr 72 zo.arr)) ?_
   have H1 := Lib.hid (bo_laid wr 72 zo.arr x.arr)
   generalize (wr.alloc (.cells zo.arr 72)).setRow wr.heap.size x.arr = w1 at H1
   have HM1 := Lib.hid (HM.out.below H1.out.old)
   have HB1 : Hid (Below w.heap.size w w1) := Lib.hid (HB.out.trans (H1.out.old.mono HB.out.size))
   go_wp2_with (first | (refine wpList_run rfl (exec_edot (e := x) rfl rfl H1.out.one) ?_) | (refine wpList_run rfl (exec_load72 (p := x) rfl rfl H1.out.one) ?_) | (refine wpList_stopMU rfl ?_))
   refine ⟨?_⟩
   obtain ⟨w2, hrun, hmp, hkp⟩ := HM1.out.mp.put law30 und151 (by have h1 := HM1.out.le; have := HLEN.out; rw [List.length_take] at h1; omega) (key30 x.hr x.hs) (v := .agg x.arr)
   have HD2 := Lib.hid (dot_put HX.out HM1.out hmp)
   have HB2 : Hid (Below w.heap.size w w2) := Lib.hid (HB1.out.trans (hkp.below HB1.out.size (fun j e => by rw [e]; exact HGM.out)))
   refine wpList_void rfl rfl (exec_upd rfl rfl rfl rfl hrun) ?_
   clear hrun hmp hkp
   go_wp2_with fail
   go_roundw
   case rel => exact ⟨k + 1, _, _, by go_num, hlt, HD2, HB2⟩
   case measure => simp [numI]; omega
  ·obtain rfl : k = n := by omega
   go_wp2_with fail
   go_ret
   exact ⟨m, c, f, rfl, by have h := HM.out; rw [List.take_of_length_le (by rw [HLEN.out]; exact Nat.le_refl _)] at h; exact h, HGM.out, HB.out⟩
end Go.Proofs.YtnekpgmgnepdoaaGreat
end
