import Derived.Test.YtnekpgmgnepdoaaGreatXaa
section
namespace Go.Proofs.YtnekpgmgnepdoaaGreat
open Go.RowKit
theorem foldl_set (off : Nat) : ∀ (cs : List Value) (k : Nat) (zs : Array Value), off + k + cs.length ≤ zs.size → ∀ i, ((cs.zipIdx k).foldl (fun a (x : Value × Nat) => a.setIfInBounds (off + x.2) x.1) zs)[i]? = if off + k ≤ i ∧ i < off + k + cs.length then cs[i - (off + k)]? else zs[i]?
 | [], k, zs, _, i => by
  rw [if_neg (by simp)]; rfl
 | c :: cs, k, zs, h, i => by
  simp only [List.length_cons] at h
  rw [List.zipIdx_cons, List.foldl_cons, foldl_set off cs (k + 1) _ (by simp; omega)]
  simp only [List.length_cons, Array.getElem?_setIfInBounds]
  by_cases h1 : off + (k + 1) ≤ i ∧ i < off + (k + 1) + cs.length
  ·rw [if_pos h1, if_pos (by omega), show i - (off + k) = (i - (off + (k + 1))) + 1 by omega, List.getElem?_cons_succ]
  ·rw [if_neg h1]
   by_cases h2 : off + k = i
   ·rw [if_pos h2, if_pos (by omega), if_pos (by omega), show i - (off + k) = 0 by omega]; rfl
   ·rw [if_neg h2, if_neg (by omega)]
theorem fill_parts {n : Nat} : ∀ (vs : List (List Value)) (k : Nat) (zs : Array Value), (∀ v ∈ vs, v.length = n) → zs.size = k * n + vs.length * n → ∀ r, Instr.fill (fun i => some (i * n, n)) zs ((vs.zipIdx k).map fun x => (x.2, Value.agg x.1.toArray)) = some r → r.size = zs.size ∧ (∀ i, i < k * n → r[i]? = zs[i]?) ∧ ∀ i, k * n ≤ i → r[i]? = vs.flatten[i - k * n]?
 | [], k, zs, _, hz, r, h => by
  simp only [List.zipIdx_nil, List.map_nil, Instr.fill, Option.some.injEq] at h
  subst h
  exact ⟨rfl, fun _ _ => rfl, fun i hi => by rw [Array.getElem?_eq_none (by simp at hz; omega)]; simp⟩
 | v :: vs, k, zs, hv, hz, r, h => by
  have hvn := hv v List.mem_cons_self
  rw [List.length_cons, Nat.add_mul] at hz
  rw [List.zipIdx_cons, List.map_cons, Instr.fill] at h
  simp only [Value.cells, List.size_toArray] at h
  rw [if_neg (by simp [hvn]; omega)] at h
  obtain ⟨z2, hz2⟩ : ∃ z2, v.toArray.zipIdx.foldl (fun cs (x : Value × Nat) => cs.setIfInBounds (k * n + x.2) x.1) zs = z2 := ⟨_, rfl⟩
  have hg : ∀ i, z2[i]? = if k * n ≤ i ∧ i < k * n + n then v[i - k * n]? else zs[i]? := fun i => by
   have := foldl_set (k * n) v 0 zs (by omega) i
   rw [← hz2, ← Array.foldl_toList, Array.toList_zipIdx]
   simpa [hvn] using this
  have h' : Instr.fill (fun i => some (i * n, n)) z2 ((vs.zipIdx (k + 1)).map fun x => (x.2, Value.agg x.1.toArray)) = some r := by rw [← hz2]; exact h
  have hs : z2.size = zs.size := by
   rw [← hz2]
   exact Array.foldl_induction (motive := fun _ (b : Array Value) => b.size = zs.size) rfl (fun i b hb => by simpa using hb)
  have ih := fill_parts vs (k + 1) z2 (fun x hx => hv x (List.mem_cons_of_mem _ hx)) (by rw [hs, hz, Nat.add_mul]; omega) r h'
  refine ⟨ih.1.trans hs, fun i hi => ?_, fun i hi => ?_⟩
  ·rw [ih.2.1 i (by rw [Nat.add_mul]; omega), hg, if_neg (by omega)]
  ·by_cases h1 : i < (k + 1) * n
   ·rw [Nat.add_mul, Nat.one_mul] at h1
    rw [ih.2.1 i (by rw [Nat.add_mul]; omega), hg, if_pos (by omega), List.flatten_cons, List.getElem?_append_left (by omega)]
   ·rw [Nat.add_mul, Nat.one_mul] at h1
    rw [ih.2.2 i (by rw [Nat.add_mul]; omega), List.flatten_cons, List.getElem?_append_right (by omega), hvn, Nat.add_mul, Nat.one_mul, Nat.sub_sub]
theorem fill_some {n : Nat} : ∀ (vs : List (List Value)) (k : Nat) (zs : Array Value), (∀ v ∈ vs, v.length = n) → zs.size = k * n + vs.length * n → ∃ r, Instr.fill (fun i => some (i * n, n)) zs ((vs.zipIdx k).map fun x => (x.2, Value.agg x.1.toArray)) = some r
 | [], k, zs, _, _ => ⟨zs, rfl⟩
 | v :: vs, k, zs, hv, hz => by
  have hvn := hv v List.mem_cons_self
  rw [List.length_cons, Nat.add_mul] at hz
  rw [List.zipIdx_cons, List.map_cons, Instr.fill]
  simp only [Value.cells, List.size_toArray]
  rw [if_neg (by simp [hvn]; omega)]
  refine fill_some vs (k + 1) _ (fun x hx => hv x (List.mem_cons_of_mem _ hx)) ?_
  rw [Nat.add_mul]
  have : (v.toArray.zipIdx.foldl (fun cs (x : Value × Nat) => cs.setIfInBounds (k * n + x.2) x.1) zs).size = zs.size :=
   Array.foldl_induction (motive := fun _ (b : Array Value) => b.size = zs.size) rfl (fun i b hb => by simpa using hb)
  exact this.trans (by omega)
theorem bsO (l : List O) (hl : l ≠ []) (hs : l.length ≤ 10) (w : World) : (Instr.buildSlice 63 l.length (((cellsO l).zipIdx).map fun x => (x.2, Value.agg x.1.toArray)).toArray).run Tryz.prog w = .ok (.slice (some ⟨w.heap.size, 0, none⟩) l.length l.length) (w.alloc (.cells (cellsO l).flatten.toArray 33)) := by
 obtain ⟨i0, hi, hz0, hz1, hz2⟩ := info_parts info33b
 have hpos : 0 < l.length := List.length_pos_iff.2 hl
 refine run_buildSlice w 63 33 l.length _ _ i0 _ und63 hi hz0 (by rw [hz1]; omega) (by rw [hz1]; omega) ?_
 rw [hz1]
 have hv : ∀ v ∈ cellsO l, v.length = 23 := fun v hv => by
  obtain ⟨o, _, rfl⟩ := List.mem_map.1 hv
  exact o.cs_len
 have hz : ((Array.range (l.length * 23)).map ((Value.agg O.zero.arr).cells[· % (Value.agg O.zero.arr).cells.size]!)).size = 0 * 23 + (cellsO l).length * 23 := by simp [cellsO]
 obtain ⟨r, hr⟩ := fill_some (cellsO l) 0 _ hv hz
 have hh := fill_parts (cellsO l) 0 _ hv hz r hr
 have e : r = (cellsO l).flatten.toArray := by
  apply Array.ext_getElem?
  intro i
  have h2 := hh.2.2 i (by omega)
  rw [h2, Nat.zero_mul, Nat.sub_zero, List.getElem?_toArray]
 subst e
 exact hr
section
variable {ev : Operand → Value} {q : Oper} {w : World}
theorem exec_bsO {x : Operand} {p : O} (ho : q.op = .buildSlice 63 1 #[(0, x)]) (hx : ev x = .agg p.arr) : (execOp ev q).run Tryz.prog w = .ok (.value (.slice (some ⟨w.heap.size, 0, none⟩) 1 1)) (w.alloc (.cells p.arr 33)) := by
 have hm : (#[((0 : Nat), x)]).map (fun (i, x) => (i, ev x)) = (((cellsO [p]).zipIdx).map fun x => (x.2, Value.agg x.1.toArray)).toArray := by simp [hx, cellsO]
 have hb := bsO [p] (by simp) (by simp) w
 have hf : (cellsO [p]).flatten.toArray = p.arr := by simp [cellsO]
 rw [hf] at hb
 unfold execOp
 simp only [ho, hm, Sem.run_bind]
 rw [show (1 : Nat) = [p].length from rfl, hb]
 rfl
end
end Go.Proofs.YtnekpgmgnepdoaaGreat
end
section
namespace Go.Proofs.YtnekpgmgnepdoaaGreat
open Go.RowKit
theorem one_cs (p : O) : ∀ u ∈ p.arr.toList, u.oneCell' = true := by
 have h := p.arr_one
 intro u hu
 exact Array.all_eq_true_iff_forall_mem.1 h u (by simpa using hu)
def OpsP (l : List O) (w : World) (e : Ending) (w' : World) : Prop := ∃ a cap, e = .returned (.slice a l.length cap) ∧ OwnO w' w.heap.size a l.length cap l ∧ Below w.heap.size w w'
def OutR (w : World) (p : O → Bool) (l : List O) (n : Nat) (v u : Value) (W : World) : Prop :=
 ∃ (k : Nat) (a : Option Addr) (m cap : Nat), v = .slice a m cap ∧ u = .int .i64 (k : Int) ∧ k ≤ n ∧ Hid (m = ((l.take k).filter p).length) ∧ Hid (OwnO W w.heap.size a m cap ((l.take k).filter p)) ∧ Hid (Below w.heap.size w W)
def UndR (w : World) (x : V) (p : O → Bool) (l : List O) (n : Nat) (v u : Value) (W : World) : Prop := OutR w p l n v u W ∧ Blk W w.heap.size 24 x.arr
theorem filter_yes {p : O → Bool} {l : List O} {k : Nat} {x : O} (hx : l[k]? = some x) (h : p x = true) : (l.take (k + 1)).filter p = (l.take k).filter p ++ [x] := by
 rw [List.take_add_one, hx, List.filter_append]
 simp [h]
theorem filter_no {p : O → Bool} {l : List O} {k : Nat} {x : O} (hx : l[k]? = some x) (h : p x = false) : (l.take (k + 1)).filter p = (l.take k).filter p := by
 rw [List.take_add_one, hx, List.filter_append]
 simp [h]
theorem out_app {w W W2 W3 : World} {a a' : Option Addr} {m cap cap' k n : Nat} {l : List O} {p : O → Bool} {x : O} (hm : m = ((l.take k).filter p).length) (hx : l[k]? = some x) (hk : k < n) (hp : p x = true) (ho : OwnO W w.heap.size a m cap ((l.take k).filter p)) (hb : Below w.heap.size w W) (h2 : Below W.heap.size W W2)
  (h3 : OwnO W3 w.heap.size a' (m + 1) cap' ((l.take k).filter p ++ [x])) (hk3 : Kept (At a) W2 W3) : OutR w p l n (.slice a' (m + 1) cap') (.int .i64 ((k : Int) + 1)) W3 := by
 refine ⟨k + 1, a', m + 1, cap', rfl, by go_num, hk, Lib.hid ?_, Lib.hid ?_, Lib.hid ?_⟩
 ·rw [filter_yes hx hp, List.length_append, ← hm]; rfl
 ·rw [filter_yes hx hp]; exact h3
 ·exact (hb.trans (h2.mono hb.size)).trans (hk3.below (Nat.le_trans hb.size h2.size) (fun j ⟨ad, had, e⟩ => by rw [e]; exact (ho.lt ad had).1))
theorem out_skip {w W W2 : World} {a : Option Addr} {m cap k n : Nat} {l : List O} {p : O → Bool} {x : O} (hm : m = ((l.take k).filter p).length) (hx : l[k]? = some x) (hk : k < n) (hp : p x = false) (ho : OwnO W w.heap.size a m cap ((l.take k).filter p)) (hb : Below w.heap.size w W) (h2 : Below W.heap.size W W2) : OutR w p l n (.slice a m cap) (.int .i64 ((k : Int) + 1)) W2 := by
 refine ⟨k + 1, a, m, cap, rfl, by go_num, hk, Lib.hid ?_, Lib.hid ?_, Lib.hid (hb.trans (h2.mono hb.size))⟩
 ·rw [filter_no hx hp]; exact hm
 ·rw [filter_no hx hp]; exact ho.below h2
theorem OwnO.snoc {w : World} {B n cap : Nat} {a : Option Addr} {l : List O} {x : O} (h : OwnG w 33 23 B a n cap (cellsO l ++ [x.arr.toList])) : OwnO w B a n cap (l ++ [x]) := by
 have e : cellsO (l ++ [x]) = cellsO l ++ [x.arr.toList] := by simp [cellsO]
 unfold OwnO
 rw [e]
 exact h
end Go.Proofs.YtnekpgmgnepdoaaGreat
end
section
namespace Go.Proofs.YtnekpgmgnepdoaaGreat
open Go.RowKit Fold
section
variable {ev : Operand → Value} {q : Oper} {w : World}
theorem exec_dotO {x : Operand} {b off : Nat} {p : O} (ho : q.op = .load 30 x) (hx : ev x = .pointer (some ⟨b, off, none⟩)) (h : w.rangeAt b off p.cs) : (execOp ev q).run Tryz.prog w = .ok (.value (dotV p.r p.s)) w := by
 have hl := run_loadVar_mid (P := Tryz.prog) w b off 30 [.int .u8 (p.r : Int), .int .u32 (p.s : Int)] _ (fun j u hu => h j u (by
  match j, hu with
  | 0, hu => exact hu
  | 1, hu => exact hu)) Tryz.underlying30 rfl (by kernel_rfl)
 refine exec_cell ho hx ?_
 simp only [Instr.loadAt, Instr.sureAddr, Sem.run_bind, Sem.run_pure, Result.andThen_ok, hl]
theorem exec_eq30 {x y : Operand} {r s r' s' : Nat} {b : Bool} (ho : q.op = .binOp .eql 30 x y 30) (hx : ev x = dotV r s) (hy : ev y = dotV r' s') (hb : (((r : Int) == (r' : Int)) && ((s : Int) == (s' : Int))) = b) : (execOp ev q).run Tryz.prog w = .ok (.value (.bool b)) w := by
 subst hb
 unfold execOp dotV at *
 simp only [ho, hx, hy]
 go_simp
 by_cases h1 : (r : Int) = (r' : Int) <;> by_cases h2 : (s : Int) = (s' : Int) <;> simp [h1, h2]
theorem exec_conv8 {x : Operand} {n : Nat} (ho : q.op = .convert 5 3 x) (hx : ev x = .int .u8 (n : Int)) (hn : n < 256) : (execOp ev q).run Tryz.prog w = .ok (.value (.int .i64 (n : Int))) w := by
 have e : IntKind.i64.wrap (n : Int) = (n : Int) := by rw [IntKind.wrap_i64]; omega
 have h : (convert 5 3 (.int .u8 (n : Int))).run Tryz.prog w = .ok (.int .i64 (IntKind.i64.wrap (n : Int))) w := by kernel_rfl
 rw [e] at h
 unfold execOp
 simp only [ho, hx, Sem.run_bind, h, Result.andThen_ok]
 rfl
end
structure Ru (w W : World) (v : V) (b off : Nat) (x : O) : Prop where
 box : Blk W w.heap.size 24 v.arr
 op : W.rangeAt b off x.cs
theorem Ru.below {w W W' : World} {v : V} {b off : Nat} {x : O} (h : Ru w W v b off x) (hb : Below W.heap.size W W') : Ru w W' v b off x := ⟨h.box.below hb, fun j u hu => below_at hb (h.op j u hu)⟩
set_option maxRecDepth 100000 in
set_option maxHeartbeats 1000000 in
theorem runder_any {a : Option Addr} {n cap : Nat} {l : List O} {w : World} (hl : OL w a n l) (hn : n < 1000000) (v : V) : Calls Tryz.prog 37 #[.slice a n cap, .agg v.arr] w (OpsP (Fold.under l v) w) := by
 have HL := Lib.hid hl
 have HLEN := Lib.hid (OL.len' hl)
 have hb1 := fun (v : V) (w : World) => box24 v w
 clear hl
 go_enter Tryz.func37, Tryz.ntmps37
 go_wp2_with fail
 clear hb1
 go_loopw [5, 6] (UndR w v (fun o => V.hasB v o.r o.s) l n) (fun _ u _ => n - (numI u).toNat)
 case atStart => exact ⟨⟨0, none, 0, 0, rfl, rfl, Nat.zero_le _, Lib.hid rfl, Lib.hid (ownG_nil _ _ _ _), Lib.hid (below_one _ _)⟩, Blk.new w 24 v.arr⟩
 case round =>
  obtain ⟨⟨k, a', m, cap', rfl, rfl, hk, HM, HW, HB⟩, hvb⟩ := hrel
  have HV := Lib.hid hvb
  clear hvb
  by_cases hlt : k < n
  ·obtain ⟨b, off, x, rfl, hx, hr⟩ := OL.at (HL.out.below HB.out) hlt
   have HX := Lib.hid hx
   have HR : Hid (Ru w wr v b (off + k * 23) x) := Lib.hid ⟨HV.out, hr⟩
   have HH := Lib.hid (fun W => rhas_any v x.r x.s W x.hr x.hs)
   clear hx hr
   go_upto_region 5 with fail
   cases hh : V.hasB v x.r x.s
   ·rw [hh] at HH
    refine wp_region_held_drew (S := fun w' => Ru w w' v b (off + k * 23) x ∧ Below wr.heap.size wr w') (by kernel_rfl) ⟨HR.out.below (drew_below wr), drew_below wr⟩ (fun hS => ?_)
    refine held_tk 0 13 (.agg v.arr) rfl rfl (by kernel_rfl) (fun _ _ _ h => h) (fun _ h => exec_load24 (v := v) rfl rfl h.1.box) hS ?_
    simp only [Act.put, ap1, ap2, ap3]
    refine held_tk 1 14 (.slice (some ⟨b, off, none⟩) n cap) rfl rfl (by kernel_rfl) (fun _ _ _ h => h) (fun _ _ => rfl) hS ?_
    simp only [Act.put, ap1, ap2, ap3]
    refine held_tk 2 15 (.int .i64 (k : Int)) rfl rfl (by kernel_rfl) (fun _ _ _ h => h) (fun _ _ => rfl) hS ?_
    simp only [Act.put, ap1, ap2, ap3]
    refine held_tk 3 16 (.pointer (some ⟨b, off + k * 23, none⟩)) rfl rfl (by kernel_rfl) (fun _ _ _ h => h) (fun _ _ => exec_idxO (i := k) rfl rfl rfl rfl hlt) hS ?_
    simp only [Act.put, ap1, ap2, ap3]
    refine held_tk 4 17 (.pointer (some ⟨b, off + k * 23, none⟩)) rfl rfl (by kernel_rfl) (fun _ _ _ h => h) (fun _ _ => (by kernel_rfl)) hS ?_
    simp only [Act.put, ap1, ap2, ap3]
    refine held_tk 5 18 (dotV x.r x.s) rfl rfl (by kernel_rfl) (fun _ _ _ h => h) (fun _ h => exec_dotO (p := x) rfl rfl h.1.op) hS ?_
    simp only [Act.put, ap1, ap2, ap3]
    refine held_call 6 19 60 #[.agg v.arr, dotV x.r x.s] (.bool false) rfl (by kernel_rfl) rfl (by kernel_rfl) (by kernel_rfl) (HH.out _) (fun _ h hb => ⟨h.1.below hb, h.2.trans (hb.mono h.2.size)⟩) hS (fun w16 hS => ?_)
    simp only [Act.put, ap1, ap2, ap3]
    refine wpAnyH_done (by kernel_rfl) ?_ _
    have HE := Lib.hid (out_skip (cap := cap') HM.out HX.out hlt hh HW.out HB.out hS.2)
    have HV2 := Lib.hid hS.1.box
    clear hS hh
    go_wp2_with fail
    go_roundw
    case rel => exact ⟨HE.out, HV2.out⟩
    case measure => simp [numI]; omega
   ·rw [hh] at HH
    refine wp_region_held_drew (S := fun w' => Ru w w' v b (off + k * 23) x ∧ Below wr.heap.size wr w') (by kernel_rfl) ⟨HR.out.below (drew_below wr), drew_below wr⟩ (fun hS => ?_)
    refine held_tk 0 13 (.agg v.arr) rfl rfl (by kernel_rfl) (fun _ _ _ h => h) (fun _ h => exec_load24 (v := v) rfl rfl h.1.box) hS ?_
    simp only [Act.put, ap1, ap2, ap3]
    refine held_tk 1 14 (.slice (some ⟨b, off, none⟩) n cap) rfl rfl (by kernel_rfl) (fun _ _ _ h => h) (fun _ _ => rfl) hS ?_
    simp only [Act.put, ap1, ap2, ap3]
    refine held_tk 2 15 (.int .i64 (k : Int)) rfl rfl (by kernel_rfl) (fun _ _ _ h => h) (fun _ _ => rfl) hS ?_
    simp only [Act.put, ap1, ap2, ap3]
    refine held_tk 3 16 (.pointer (some ⟨b, off + k * 23, none⟩)) rfl rfl (by kernel_rfl) (fun _ _ _ h => h) (fun _ _ => exec_idxO (i := k) rfl rfl rfl rfl hlt) hS ?_
    simp only [Act.put, ap1, ap2, ap3]
    refine held_tk 4 17 (.pointer (some ⟨b, off + k * 23, none⟩)) rfl rfl (by kernel_rfl) (fun _ _ _ h => h) (fun _ _ => (by kernel_rfl)) hS ?_
    simp only [Act.put, ap1, ap2, ap3]
    refine held_tk 5 18 (dotV x.r x.s) rfl rfl (by kernel_rfl) (fun _ _ _ h => h) (fun _ h => exec_dotO (p := x) rfl rfl h.1.op) hS ?_
    simp only [Act.put, ap1, ap2, ap3]
    refine held_call 6 19 60 #[.agg v.arr, dotV x.r x.s] (.bool true) rfl (by kernel_rfl) rfl (by kernel_rfl) (by kernel_rfl) (HH.out _) (fun _ h hb => ⟨h.1.below hb, h.2.trans (hb.mono h.2.size)⟩) hS (fun w16 hS => ?_)
    simp only [Act.put, ap1, ap2, ap3]
    refine wpAnyH_done (by kernel_rfl) ?_ _
    have H1 := Lib.hid hS.2
    have HR1 := Lib.hid hS.1.op
    have HV1 := Lib.hid hS.1.box
    clear hS
    go_wp2_with (first | (refine wpList_run rfl (exec_idxO (i := k) rfl rfl rfl rfl hlt) ?_) | (refine wpList_run rfl (exec_ldO (p := x) rfl rfl HR1.out) ?_) | (refine wpList_run rfl (exec_bsO (p := x) rfl rfl) ?_) | (at_builtin; refine wpList_appendG 63 33 23 84 info33b und63 rfl (by decide) (by decide) rfl rfl rfl rfl (HW.out.below (H1.out.trans ((below_one w16 _).mono H1.out.size))) (Blk.new w16 33 x.arr) x.arr_size (one_cs x) (by have := HM.out; have := List.length_filter_le (fun o => V.hasB v o.r o.s) (l.take k); have := List.length_take_le k l; omega) (by have := HB.out.size; have := H1.out.size; simp; omega) ?_; intro a3 cap3 w3 ho3 hk3 hl3))
    have HE := Lib.hid (out_app HM.out HX.out hlt hh HW.out HB.out (H1.out.trans ((below_one w16 _).mono H1.out.size)) (OwnO.snoc ho3) hk3)
    have HV3 : Hid (Blk w3 w.heap.size 24 v.arr) := Lib.hid ((HV1.out.below (below_one w16 _)).kept hk3 (fun ⟨ad, had, e⟩ => by
     have hg := (HW.out.lt ad had)
     have hne : ad.block ≠ w.heap.size := fun e2 => by
      rcases HW.out.row.2 with ⟨h0, _⟩ | ⟨g', c', cur, hv', _, hgb, _⟩
      ·rw [had] at h0; cases h0
      ·rw [had] at hv'
       cases hv'
       have h5 := HV.out
       unfold Blk at h5
       simp only at e2
       rw [e2, h5] at hgb
       cases hgb
     exact hne e.symm))
    clear ho3 hk3 hl3 hh
    go_roundw
    case rel => exact ⟨HE.out, HV3.out⟩
    case measure => simp [numI]; omega
  ·obtain rfl : k = n := by omega
   have HE : Hid (OpsP (Fold.under l v) w (.returned (.slice a' m cap')) wr) := by
    have hm := HM.out
    have ho := HW.out
    rw [List.take_of_length_le (by rw [HLEN.out]; omega)] at hm ho
    subst hm
    exact Lib.hid ⟨a', cap', rfl, ho, HB.out⟩
   go_wp2_with fail
   go_ret
   exact HE.out
structure Rh (w W : World) (r s b off : Nat) (x : O) : Prop where
 dot : Blk W w.heap.size 30 #[.int .u8 (r : Int), .int .u32 (s : Int)]
 op : W.rangeAt b off x.cs
def RhR (w : World) (a : Option Addr) (n : Nat) (l : List O) (r s : Nat) (u : Value) (W : World) : Prop := ∃ k : Nat, u = .int .i64 (k : Int) ∧ k ≤ n ∧ Hid (∀ o ∈ l.take k, ¬ (o.r = r ∧ o.s = s)) ∧ Hid (Blk W w.heap.size 30 #[.int .u8 (r : Int), .int .u32 (s : Int)]) ∧ Hid (OL W a n l) ∧ Hid (Below w.heap.size w W)
def hasD (l : List O) (r s : Nat) : Bool := l.any fun o => decide (o.r = r ∧ o.s = s)
set_option maxRecDepth 100000 in
set_option maxHeartbeats 1000000 in
theorem refhas_any {a : Option Addr} {n cap : Nat} {l : List O} {w : World} (hl : OL w a n l) (hn : n < 1000000) (r s : Nat) : Calls Tryz.prog 78 #[.slice a n cap, dotV r s] w (Says (.bool (hasD l r s)) w) := by
 have HL := Lib.hid (hl.below (below_one w (.cells #[.int .u8 (r : Int), .int .u32 (s : Int)] 30)))
 have HLEN := Lib.hid (OL.len' hl)
 have HD : Hid (Blk (w.alloc (.cells #[.int .u8 (r : Int), .int .u32 (s : Int)] 30)) w.heap.size 30 #[.int .u8 (r : Int), .int .u32 (s : Int)]) := Lib.hid (Blk.new _ _ _)
 have HB0 := Lib.hid (below_one w (.cells #[.int .u8 (r : Int), .int .u32 (s : Int)] 30))
 clear hl
 go_enter Tryz.func78, Tryz.ntmps78
 go_wp2_with fail
 generalize w.alloc (.cells #[.int .u8 (r : Int), .int .u32 (s : Int)] 30) = w0 at HL HD HB0
 go_loopw [5] (RhR w a n l r s) (fun u _ => n - (numI u).toNat)
 case atStart => exact ⟨0, rfl, Nat.zero_le _, Lib.hid (fun o h => by simp at h), HD, HL, HB0⟩
 case round =>
  obtain ⟨k, rfl, hk, HF, HDk, HLk, HB⟩ := hrel
  clear HD HL HB0
  by_cases hlt : k < n
  ·obtain ⟨b, off, x, rfl, hx, hr⟩ := OL.at HLk.out hlt
   have HX := Lib.hid hx
   have HR : Hid (Rh w wr r s b (off + k * 23) x) := Lib.hid ⟨HDk.out, hr⟩
   clear hx hr
   go_upto_region 4 with fail
   by_cases he : x.r = r ∧ x.s = s
   ·have HQ : Hid ((((x.r : Int) == (r : Int)) && ((x.s : Int) == (s : Int))) = true) := Lib.hid (by simp [he.1, he.2])
    have HE : Hid (hasD l r s = true) := Lib.hid (List.any_eq_true.2 ⟨x, List.mem_of_getElem? HX.out, decide_eq_true he⟩)
    clear he
    refine wp_region_held_drew (S := fun w' => Rh w w' r s b (off + k * 23) x) (by kernel_rfl) ⟨HR.out.dot, HR.out.op⟩ (fun hS => ?_)
    refine held_tk 0 12 (.slice (some ⟨b, off, none⟩) n cap) rfl rfl (by kernel_rfl) (fun _ _ _ h => h) (fun _ _ => rfl) hS ?_
    simp only [Act.put, ap1, ap2, ap3]
    refine held_tk 1 13 (.int .i64 (k : Int)) rfl rfl (by kernel_rfl) (fun _ _ _ h => h) (fun _ _ => rfl) hS ?_
    simp only [Act.put, ap1, ap2, ap3]
    refine held_tk 2 14 (.pointer (some ⟨b, off + k * 23, none⟩)) rfl rfl (by kernel_rfl) (fun _ _ _ h => h) (fun _ _ => exec_idxO (i := k) rfl rfl rfl rfl hlt) hS ?_
    simp only [Act.put, ap1, ap2, ap3]
    refine held_tk 3 15 (.pointer (some ⟨b, off + k * 23, none⟩)) rfl rfl (by kernel_rfl) (fun _ _ _ h => h) (fun _ _ => (by kernel_rfl)) hS ?_
    simp only [Act.put, ap1, ap2, ap3]
    refine held_tk 4 16 (dotV x.r x.s) rfl rfl (by kernel_rfl) (fun _ _ _ h => h) (fun _ h => exec_dotO (p := x) rfl rfl h.op) hS ?_
    simp only [Act.put, ap1, ap2, ap3]
    refine held_tk 5 17 (dotV r s) rfl rfl (by kernel_rfl) (fun _ _ _ h => h) (fun _ h => exec_load30 rfl rfl h.dot) hS ?_
    simp only [Act.put, ap1, ap2, ap3]
    refine held_tk 6 18 (.bool true) rfl rfl (by kernel_rfl) (fun _ _ _ h => h) (fun _ _ => exec_eq30 rfl rfl rfl HQ.out) hS ?_
    simp only [Act.put, ap1, ap2, ap3]
    refine wpAnyH_done (by kernel_rfl) ?_ _
    clear hS
    go_wp2_with fail
    go_ret
    exact ⟨by rw [HE.out]; rfl, HB.out.drew⟩
   ·have HQ : Hid ((((x.r : Int) == (r : Int)) && ((x.s : Int) == (s : Int))) = false) := Lib.hid (by simp; omega)
    have HFN : Hid (∀ o ∈ l.take (k + 1), ¬ (o.r = r ∧ o.s = s)) := Lib.hid (fun o ho => by
     rw [List.take_add_one, HX.out] at ho
     rcases List.mem_append.1 ho with ho | ho
     ·exact HF.out o ho
     ·obtain rfl : o = x := by simpa using ho
      exact he)
    clear he
    refine wp_region_held_drew (S := fun w' => Rh w w' r s b (off + k * 23) x) (by kernel_rfl) ⟨HR.out.dot, HR.out.op⟩ (fun hS => ?_)
    refine held_tk 0 12 (.slice (some ⟨b, off, none⟩) n cap) rfl rfl (by kernel_rfl) (fun _ _ _ h => h) (fun _ _ => rfl) hS ?_
    simp only [Act.put, ap1, ap2, ap3]
    refine held_tk 1 13 (.int .i64 (k : Int)) rfl rfl (by kernel_rfl) (fun _ _ _ h => h) (fun _ _ => rfl) hS ?_
    simp only [Act.put, ap1, ap2, ap3]
    refine held_tk 2 14 (.pointer (some ⟨b, off + k * 23, none⟩)) rfl rfl (by kernel_rfl) (fun _ _ _ h => h) (fun _ _ => exec_idxO (i := k) rfl rfl rfl rfl hlt) hS ?_
    simp only [Act.put, ap1, ap2, ap3]
    refine held_tk 3 15 (.pointer (some ⟨b, off + k * 23, none⟩)) rfl rfl (by kernel_rfl) (fun _ _ _ h => h) (fun _ _ => (by kernel_rfl)) hS ?_
    simp only [Act.put, ap1, ap2, ap3]
    refine held_tk 4 16 (dotV x.r x.s) rfl rfl (by kernel_rfl) (fun _ _ _ h => h) (fun _ h => exec_dotO (p := x) rfl rfl h.op) hS ?_
    simp only [Act.put, ap1, ap2, ap3]
    refine held_tk 5 17 (dotV r s) rfl rfl (by kernel_rfl) (fun _ _ _ h => h) (fun _ h => exec_load30 rfl rfl h.dot) hS ?_
    simp only [Act.put, ap1, ap2, ap3]
    refine held_tk 6 18 (.bool false) rfl rfl (by kernel_rfl) (fun _ _ _ h => h) (fun _ _ => exec_eq30 rfl rfl rfl HQ.out) hS ?_
    simp only [Act.put, ap1, ap2, ap3]
    refine wpAnyH_done (by kernel_rfl) ?_ _
    have HDN := Lib.hid (HDk.out.below (drew_below wr))
    have HLN := Lib.hid (HLk.out.below (drew_below wr))
    have HBN : Hid (Below w.heap.size w wr.drew) := Lib.hid HB.out.drew
    clear hS
    go_wp2_with fail
    go_roundw
    case rel => exact ⟨k + 1, by go_num, hlt, HFN, HDN, HLN, HBN⟩
    case measure => simp [numI]; omega
  ·obtain rfl : k = n := by omega
   have HE : Hid (hasD l r s = false) := Lib.hid (by
    have h := HF.out
    rw [List.take_of_length_le (by rw [HLEN.out]; omega)] at h
    simp only [hasD, List.any_eq_false, decide_eq_true_eq]
    exact h)
   go_wp2_with fail
   go_ret
   exact ⟨by rw [HE.out]; rfl, HB.out⟩
end Go.Proofs.YtnekpgmgnepdoaaGreat
end
section
namespace Go.Proofs.YtnekpgmgnepdoaaGreat
open Go.RowKit Fold
theorem op0 {w : World} {b off : Nat} {p : O} (h : w.rangeAt b off p.cs) : w.cell? ⟨b, off, none⟩ = some (.int .u8 (p.r : Int)) := by
 have := h 0 _ rfl
 simpa using this
def isIn (v : V) (rep : Nat) (o : O) : Bool := decide (o.r = rep) && V.hasB v o.r o.s
def cntTo (l : List O) (v : V) (rep k : Nat) : Nat := (l.take k).countP (isIn v rep)
theorem cnt_le (l : List O) (v : V) (rep k : Nat) : cntTo l v rep k ≤ k := Nat.le_trans (List.countP_le_length) (List.length_take_le _ _)
theorem cnt_yes {l : List O} {v : V} {rep k : Nat} {x : O} (hx : l[k]? = some x) (h : isIn v rep x = true) : cntTo l v rep (k + 1) = cntTo l v rep k + 1 := by
 unfold cntTo; rw [List.take_add_one, hx, List.countP_append]; simp [h]
theorem cnt_no {l : List O} {v : V} {rep k : Nat} {x : O} (hx : l[k]? = some x) (h : isIn v rep x = false) : cntTo l v rep (k + 1) = cntTo l v rep k := by
 unfold cntTo; rw [List.take_add_one, hx, List.countP_append]; simp [h]
def RcR (w : World) (a : Option Addr) (n : Nat) (l : List O) (v : V) (rep : Nat) (c u : Value) (W : World) : Prop := ∃ k m : Nat, u = .int .i64 (k : Int) ∧ c = .int .u32 (m : Int) ∧ k ≤ n ∧ Hid (m = cntTo l v rep k) ∧ Hid (Blk W w.heap.size 24 v.arr) ∧ Hid (OL W a n l) ∧ Hid (Below w.heap.size w W)
set_option maxRecDepth 100000 in
set_option maxHeartbeats 2000000 in
theorem refcount_any {a : Option Addr} {n cap : Nat} {l : List O} {w : World} (hl : OL w a n l) (hn : n < 1000000) (v : V) (rep : Nat) : Calls Tryz.prog 79 #[.slice a n cap, .agg v.arr, .int .i64 (rep : Int)] w (Says (.int .u32 (cntTo l v rep n : Int)) w) := by
 have HL := Lib.hid (hl.below (below_one w (.cells v.arr 24)))
 have HV0 : Hid (Blk (w.alloc (.cells v.arr 24)) w.heap.size 24 v.arr) := Lib.hid (Blk.new _ _ _)
 have HB0 := Lib.hid (below_one w (.cells v.arr 24))
 have hb1 := fun (v : V) (w : World) => box24 v w
 clear hl
 go_enter Tryz.func79, Tryz.ntmps79
 go_wp2_with fail
 clear hb1
 generalize w.alloc (.cells v.arr 24) = w0 at HL HV0 HB0
 go_loopw [7, 8] (RcR w a n l v rep) (fun _ u _ => n - (numI u).toNat)
 case atStart => exact ⟨0, 0, rfl, rfl, Nat.zero_le _, Lib.hid rfl, HV0, HL, HB0⟩
 case round =>
  obtain ⟨k, m, rfl, rfl, hk, HCN, HVk, HLk, HB⟩ := hrel
  clear HL HV0 HB0
  have hm : m ≤ k := by rw [HCN.out]; exact cnt_le _ _ _ _
  by_cases hlt : k < n
  ·obtain ⟨b, off, x, rfl, hx, hr⟩ := OL.at HLk.out hlt
   have HX := Lib.hid hx
   have HR : Hid (Ru w wr v b (off + k * 23) x) := Lib.hid ⟨HVk.out, hr⟩
   have HH := Lib.hid (fun W => rhas_any v x.r x.s W x.hr x.hs)
   clear hx hr
   go_upto_region 5 with fail
   by_cases he : x.r = rep
   ·have HQ : Hid (((x.r : Int) == (rep : Int)) = true) := Lib.hid (by simp; omega)
    have HER := Lib.hid he
    clear he
    cases hh : V.hasB v x.r x.s
    ·rw [hh] at HH
     have HIN : Hid (isIn v rep x = false) := Lib.hid (by unfold isIn; rw [hh]; simp)
     clear hh
     refine wp_region_held_drew (S := fun w' => Ru w w' v b (off + k * 23) x ∧ Below wr.heap.size wr w') (by kernel_rfl) ⟨HR.out.below (drew_below wr), drew_below wr⟩ (fun hS => ?_)
     refine held_tk 0 15 (.slice (some ⟨b, off, none⟩) n cap) rfl rfl (by kernel_rfl) (fun _ _ _ h => h) (fun _ _ => rfl) hS ?_
     simp only [Act.put, ap1, ap2, ap3]
     refine held_tk 1 16 (.int .i64 (k : Int)) rfl rfl (by kernel_rfl) (fun _ _ _ h => h) (fun _ _ => rfl) hS ?_
     simp only [Act.put, ap1, ap2, ap3]
     refine held_tk 2 17 (.pointer (some ⟨b, off + k * 23, none⟩)) rfl rfl (by kernel_rfl) (fun _ _ _ h => h) (fun _ _ => exec_idxO (i := k) rfl rfl rfl rfl hlt) hS ?_
     simp only [Act.put, ap1, ap2, ap3]
     refine held_tk 3 18 (.pointer (some ⟨b, off + k * 23, none⟩)) rfl rfl (by kernel_rfl) (fun _ _ _ h => h) (fun _ _ => (by kernel_rfl)) hS ?_
     simp only [Act.put, ap1, ap2, ap3]
     refine held_tk 4 19 (.pointer (some ⟨b, off + k * 23, none⟩)) rfl rfl (by kernel_rfl) (fun _ _ _ h => h) (fun _ _ => (by kernel_rfl)) hS ?_
     simp only [Act.put, ap1, ap2, ap3]
     refine held_tk 5 20 (.int .u8 (x.r : Int)) rfl rfl (by kernel_rfl) (fun _ _ _ h => h) (fun _ h => exec_cell rfl rfl (load_cell (by kernel_rfl) (op0 h.1.op))) hS ?_
     simp only [Act.put, ap1, ap2, ap3]
     refine held_tk 6 21 (.int .i64 (x.r : Int)) rfl rfl (by kernel_rfl) (fun _ _ _ h => h) (fun _ _ => exec_conv8 rfl rfl x.hr) hS ?_
     simp only [Act.put, ap1, ap2, ap3]
     refine held_tk 7 22 (.int .i64 (rep : Int)) rfl rfl (by kernel_rfl) (fun _ _ _ h => h) (fun _ _ => rfl) hS ?_
     simp only [Act.put, ap1, ap2, ap3]
     refine held_tk 8 23 (.bool true) rfl rfl (by kernel_rfl) (fun _ _ _ h => h) (fun _ _ => exec_eqlI trivial rfl rfl rfl HQ.out) hS ?_
     simp only [Act.put, ap1, ap2, ap3]
     refine held_tk 9 24 (.bool true) rfl rfl (by kernel_rfl) (fun _ _ _ h => h) (fun _ _ => rfl) hS ?_
     simp only [Act.put, ap1, ap2, ap3]
     refine held_tk 10 25 (.agg v.arr) rfl rfl (by kernel_rfl) (fun _ _ _ h => h) (fun _ h => exec_load24 (v := v) rfl rfl h.1.box) hS ?_
     simp only [Act.put, ap1, ap2, ap3]
     refine held_tk 11 26 (.slice (some ⟨b, off, none⟩) n cap) rfl rfl (by kernel_rfl) (fun _ _ _ h => h) (fun _ _ => rfl) hS ?_
     simp only [Act.put, ap1, ap2, ap3]
     refine held_tk 12 27 (.int .i64 (k : Int)) rfl rfl (by kernel_rfl) (fun _ _ _ h => h) (fun _ _ => rfl) hS ?_
     simp only [Act.put, ap1, ap2, ap3]
     refine held_tk 13 28 (.pointer (some ⟨b, off + k * 23, none⟩)) rfl rfl (by kernel_rfl) (fun _ _ _ h => h) (fun _ _ => exec_idxO (i := k) rfl rfl rfl rfl hlt) hS ?_
     simp only [Act.put, ap1, ap2, ap3]
     refine held_tk 14 29 (.pointer (some ⟨b, off + k * 23, none⟩)) rfl rfl (by kernel_rfl) (fun _ _ _ h => h) (fun _ _ => (by kernel_rfl)) hS ?_
     simp only [Act.put, ap1, ap2, ap3]
     refine held_tk 15 30 (dotV x.r x.s) rfl rfl (by kernel_rfl) (fun _ _ _ h => h) (fun _ h => exec_dotO (p := x) rfl rfl h.1.op) hS ?_
     simp only [Act.put, ap1, ap2, ap3]
     refine held_call 16 31 60 #[.agg v.arr, dotV x.r x.s] (.bool false) rfl (by kernel_rfl) rfl (by kernel_rfl) (by kernel_rfl) (HH.out _) (fun _ h hb => ⟨h.1.below hb, h.2.trans (hb.mono h.2.size)⟩) hS (fun w116 hS => ?_)
     simp only [Act.put, ap1, ap2, ap3]
     refine held_tk 17 32 (.bool false) rfl rfl (by kernel_rfl) (fun _ _ _ h => h) (fun _ _ => rfl) hS ?_
     simp only [Act.put, ap1, ap2, ap3]
     refine wpAnyH_done (by kernel_rfl) ?_ _
     have HVN := Lib.hid hS.1.box
     have HLN := Lib.hid (HLk.out.below hS.2)
     have HBN : Hid (Below w.heap.size w w116) := Lib.hid (HB.out.trans (hS.2.mono HB.out.size))
     have HC := Lib.hid (cnt_no (v := v) (rep := rep) HX.out HIN.out)
     clear hS
     go_wp2_with fail
     go_roundw
     case rel => exact ⟨k + 1, m, by go_num, rfl, hlt, Lib.hid (by have := HCN.out; have := HC.out; omega), HVN, HLN, HBN⟩
     case measure => simp [numI]; omega
    ·rw [hh] at HH
     have HIN : Hid (isIn v rep x = true) := Lib.hid (by unfold isIn; rw [hh, HER.out]; simp)
     clear hh
     refine wp_region_held_drew (S := fun w' => Ru w w' v b (off + k * 23) x ∧ Below wr.heap.size wr w') (by kernel_rfl) ⟨HR.out.below (drew_below wr), drew_below wr⟩ (fun hS => ?_)
     refine held_tk 0 15 (.slice (some ⟨b, off, none⟩) n cap) rfl rfl (by kernel_rfl) (fun _ _ _ h => h) (fun _ _ => rfl) hS ?_
     simp only [Act.put, ap1, ap2, ap3]
     refine held_tk 1 16 (.int .i64 (k : Int)) rfl rfl (by kernel_rfl) (fun _ _ _ h => h) (fun _ _ => rfl) hS ?_
     simp only [Act.put, ap1, ap2, ap3]
     refine held_tk 2 17 (.pointer (some ⟨b, off + k * 23, none⟩)) rfl rfl (by kernel_rfl) (fun _ _ _ h => h) (fun _ _ => exec_idxO (i := k) rfl rfl rfl rfl hlt) hS ?_
     simp only [Act.put, ap1, ap2, ap3]
     refine held_tk 3 18 (.pointer (some ⟨b, off + k * 23, none⟩)) rfl rfl (by kernel_rfl) (fun _ _ _ h => h) (fun _ _ => (by kernel_rfl)) hS ?_
     simp only [Act.put, ap1, ap2, ap3]
     refine held_tk 4 19 (.pointer (some ⟨b, off + k * 23, none⟩)) rfl rfl (by kernel_rfl) (fun _ _ _ h => h) (fun _ _ => (by kernel_rfl)) hS ?_
     simp only [Act.put, ap1, ap2, ap3]
     refine held_tk 5 20 (.int .u8 (x.r : Int)) rfl rfl (by kernel_rfl) (fun _ _ _ h => h) (fun _ h => exec_cell rfl rfl (load_cell (by kernel_rfl) (op0 h.1.op))) hS ?_
     simp only [Act.put, ap1, ap2, ap3]
     refine held_tk 6 21 (.int .i64 (x.r : Int)) rfl rfl (by kernel_rfl) (fun _ _ _ h => h) (fun _ _ => exec_conv8 rfl rfl x.hr) hS ?_
     simp only [Act.put, ap1, ap2, ap3]
     refine held_tk 7 22 (.int .i64 (rep : Int)) rfl rfl (by kernel_rfl) (fun _ _ _ h => h) (fun _ _ => rfl) hS ?_
     simp only [Act.put, ap1, ap2, ap3]
     refine held_tk 8 23 (.bool true) rfl rfl (by kernel_rfl) (fun _ _ _ h => h) (fun _ _ => exec_eqlI trivial rfl rfl rfl HQ.out) hS ?_
     simp only [Act.put, ap1, ap2, ap3]
     refine held_tk 9 24 (.bool true) rfl rfl (by kernel_rfl) (fun _ _ _ h => h) (fun _ _ => rfl) hS ?_
     simp only [Act.put, ap1, ap2, ap3]
     refine held_tk 10 25 (.agg v.arr) rfl rfl (by kernel_rfl) (fun _ _ _ h => h) (fun _ h => exec_load24 (v := v) rfl rfl h.1.box) hS ?_
     simp only [Act.put, ap1, ap2, ap3]
     refine held_tk 11 26 (.slice (some ⟨b, off, none⟩) n cap) rfl rfl (by kernel_rfl) (fun _ _ _ h => h) (fun _ _ => rfl) hS ?_
     simp only [Act.put, ap1, ap2, ap3]
     refine held_tk 12 27 (.int .i64 (k : Int)) rfl rfl (by kernel_rfl) (fun _ _ _ h => h) (fun _ _ => rfl) hS ?_
     simp only [Act.put, ap1, ap2, ap3]
     refine held_tk 13 28 (.pointer (some ⟨b, off + k * 23, none⟩)) rfl rfl (by kernel_rfl) (fun _ _ _ h => h) (fun _ _ => exec_idxO (i := k) rfl rfl rfl rfl hlt) hS ?_
     simp only [Act.put, ap1, ap2, ap3]
     refine held_tk 14 29 (.pointer (some ⟨b, off + k * 23, none⟩)) rfl rfl (by kernel_rfl) (fun _ _ _ h => h) (fun _ _ => (by kernel_rfl)) hS ?_
     simp only [Act.put, ap1, ap2, ap3]
     refine held_tk 15 30 (dotV x.r x.s) rfl rfl (by kernel_rfl) (fun _ _ _ h => h) (fun _ h => exec_dotO (p := x) rfl rfl h.1.op) hS ?_
     simp only [Act.put, ap1, ap2, ap3]
     refine held_call 16 31 60 #[.agg v.arr, dotV x.r x.s] (.bool true) rfl (by kernel_rfl) rfl (by kernel_rfl) (by kernel_rfl) (HH.out _) (fun _ h hb => ⟨h.1.below hb, h.2.trans (hb.mono h.2.size)⟩) hS (fun w116 hS => ?_)
     simp only [Act.put, ap1, ap2, ap3]
     refine held_tk 17 32 (.bool true) rfl rfl (by kernel_rfl) (fun _ _ _ h => h) (fun _ _ => rfl) hS ?_
     simp only [Act.put, ap1, ap2, ap3]
     refine wpAnyH_done (by kernel_rfl) ?_ _
     have HVN := Lib.hid hS.1.box
     have HLN := Lib.hid (HLk.out.below hS.2)
     have HBN : Hid (Below w.heap.size w w116) := Lib.hid (HB.out.trans (hS.2.mono HB.out.size))
     have HC := Lib.hid (cnt_yes (v := v) (rep := rep) HX.out HIN.out)
     clear hS
     go_wp2_with fail
     go_roundw
     case rel => exact ⟨k + 1, m + 1, by go_num, by go_num, hlt, Lib.hid (by have := HCN.out; have := HC.out; omega), HVN, HLN, HBN⟩
     case measure => simp [numI]; omega
   ·have HQ : Hid (((x.r : Int) == (rep : Int)) = false) := Lib.hid (by simp; omega)
    have HIN : Hid (isIn v rep x = false) := Lib.hid (by unfold isIn; simp [he])
    clear he
    refine wp_region_held_drew (S := fun w' => Ru w w' v b (off + k * 23) x ∧ Below wr.heap.size wr w') (by kernel_rfl) ⟨HR.out.below (drew_below wr), drew_below wr⟩ (fun hS => ?_)
    refine held_tk 0 15 (.slice (some ⟨b, off, none⟩) n cap) rfl rfl (by kernel_rfl) (fun _ _ _ h => h) (fun _ _ => rfl) hS ?_
    simp only [Act.put, ap1, ap2, ap3]
    refine held_tk 1 16 (.int .i64 (k : Int)) rfl rfl (by kernel_rfl) (fun _ _ _ h => h) (fun _ _ => rfl) hS ?_
    simp only [Act.put, ap1, ap2, ap3]
    refine held_tk 2 17 (.pointer (some ⟨b, off + k * 23, none⟩)) rfl rfl (by kernel_rfl) (fun _ _ _ h => h) (fun _ _ => exec_idxO (i := k) rfl rfl rfl rfl hlt) hS ?_
    simp only [Act.put, ap1, ap2, ap3]
    refine held_tk 3 18 (.pointer (some ⟨b, off + k * 23, none⟩)) rfl rfl (by kernel_rfl) (fun _ _ _ h => h) (fun _ _ => (by kernel_rfl)) hS ?_
    simp only [Act.put, ap1, ap2, ap3]
    refine held_tk 4 19 (.pointer (some ⟨b, off + k * 23, none⟩)) rfl rfl (by kernel_rfl) (fun _ _ _ h => h) (fun _ _ => (by kernel_rfl)) hS ?_
    simp only [Act.put, ap1, ap2, ap3]
    refine held_tk 5 20 (.int .u8 (x.r : Int)) rfl rfl (by kernel_rfl) (fun _ _ _ h => h) (fun _ h => exec_cell rfl rfl (load_cell (by kernel_rfl) (op0 h.1.op))) hS ?_
    simp only [Act.put, ap1, ap2, ap3]
    refine held_tk 6 21 (.int .i64 (x.r : Int)) rfl rfl (by kernel_rfl) (fun _ _ _ h => h) (fun _ _ => exec_conv8 rfl rfl x.hr) hS ?_
    simp only [Act.put, ap1, ap2, ap3]
    refine held_tk 7 22 (.int .i64 (rep : Int)) rfl rfl (by kernel_rfl) (fun _ _ _ h => h) (fun _ _ => rfl) hS ?_
    simp only [Act.put, ap1, ap2, ap3]
    refine held_tk 8 23 (.bool false) rfl rfl (by kernel_rfl) (fun _ _ _ h => h) (fun _ _ => exec_eqlI trivial rfl rfl rfl HQ.out) hS ?_
    simp only [Act.put, ap1, ap2, ap3]
    refine held_tk 9 24 (.bool false) rfl rfl (by kernel_rfl) (fun _ _ _ h => h) (fun _ _ => rfl) hS ?_
    simp only [Act.put, ap1, ap2, ap3]
    refine held_sk 10 25 rfl rfl (by kernel_rfl) (fun _ _ _ h => h) hS ?_
    simp only [Act.put, ap1, ap2, ap3]
    refine held_sk 11 26 rfl rfl (by kernel_rfl) (fun _ _ _ h => h) hS ?_
    simp only [Act.put, ap1, ap2, ap3]
    refine held_sk 12 27 rfl rfl (by kernel_rfl) (fun _ _ _ h => h) hS ?_
    simp only [Act.put, ap1, ap2, ap3]
    refine held_sk 13 28 rfl rfl (by kernel_rfl) (fun _ _ _ h => h) hS ?_
    simp only [Act.put, ap1, ap2, ap3]
    refine held_sk 14 29 rfl rfl (by kernel_rfl) (fun _ _ _ h => h) hS ?_
    simp only [Act.put, ap1, ap2, ap3]
    refine held_sk 15 30 rfl rfl (by kernel_rfl) (fun _ _ _ h => h) hS ?_
    simp only [Act.put, ap1, ap2, ap3]
    refine held_sk 16 31 rfl rfl (by kernel_rfl) (fun _ _ _ h => h) hS ?_
    simp only [Act.put, ap1, ap2, ap3]
    refine held_tk 17 32 (.bool false) rfl rfl (by kernel_rfl) (fun _ _ _ h => h) (fun _ _ => rfl) hS ?_
    simp only [Act.put, ap1, ap2, ap3]
    refine wpAnyH_done (by kernel_rfl) ?_ _
    have HVN := Lib.hid hS.1.box
    have HLN := Lib.hid (HLk.out.below hS.2)
    have HBN : Hid (Below w.heap.size w wr.drew) := Lib.hid (HB.out.trans (hS.2.mono HB.out.size))
    have HC := Lib.hid (cnt_no (v := v) (rep := rep) HX.out HIN.out)
    clear hS
    go_wp2_with fail
    go_roundw
    case rel => exact ⟨k + 1, m, by go_num, rfl, hlt, Lib.hid (by have := HCN.out; have := HC.out; omega), HVN, HLN, HBN⟩
    case measure => simp [numI]; omega
  ·obtain rfl : k = n := by omega
   go_wp2_with fail
   go_ret
   exact ⟨by rw [← HCN.out]; rfl, HB.out⟩
end Go.Proofs.YtnekpgmgnepdoaaGreat
end
section
namespace Go.Proofs.YtnekpgmgnepdoaaGreat
open Go.RowKit Fold
def Differ (l : List O) : Prop := l.Pairwise fun a b => ¬ (a.r = b.r ∧ a.s = b.s)
theorem map_nodup {l : List O} {r : Nat} : Differ l → (∀ o ∈ l, o.r = r) → (l.map O.s).Nodup := fun hd hr => by
 rw [List.nodup_iff_pairwise_ne, List.pairwise_map]
 unfold Differ at hd
 refine (List.Pairwise.and_mem.1 hd).imp ?_
 rintro a b ⟨ha, hb, h⟩ e
 exact h ⟨by rw [hr a ha, hr b hb], e⟩
theorem count_iff {l : List O} (hd : Differ l) (v : V) {r : Nat} (hr : r < 16) : cntTo l v r l.length = min (v.at_ r) 1048576 ↔ ∀ s, V.hasB v r s = true → ∃ p ∈ l, p.r = r ∧ p.s = s := by
 have hc : cntTo l v r l.length = ((l.filter (isIn v r)).map O.s).length := by
  unfold cntTo
  rw [List.take_of_length_le (Nat.le_refl _), List.countP_eq_length_filter, List.length_map]
 have hin : ∀ o ∈ l.filter (isIn v r), o ∈ l ∧ o.r = r ∧ V.hasB v r o.s = true := fun o ho => by
  obtain ⟨h1, h2⟩ := List.mem_filter.1 ho
  simp only [isIn, Bool.and_eq_true, decide_eq_true_eq] at h2
  obtain ⟨rfl, h3⟩ := h2
  exact ⟨h1, rfl, h3⟩
 have hnd : ((l.filter (isIn v r)).map O.s).Nodup := map_nodup (r := r) (List.Pairwise.sublist List.filter_sublist hd) (fun o ho => (hin o ho).2.1)
 have hsub : ∀ s ∈ (l.filter (isIn v r)).map O.s, s ∈ List.range' 1 (min (v.at_ r) 1048576) := fun s hs => by
  obtain ⟨o, ho, rfl⟩ := List.mem_map.1 hs
  have h := (hin o ho).2.2
  simp only [V.hasB, V.dotB, Bool.and_eq_true, decide_eq_true_eq] at h
  rw [List.mem_range'_1]
  omega
 have hhas : ∀ s, V.hasB v r s = true ↔ s ∈ List.range' 1 (min (v.at_ r) 1048576) := fun s => by
  simp only [V.hasB, V.dotB, Bool.and_eq_true, decide_eq_true_eq]
  rw [List.mem_range'_1]
  omega
 have hmem : ∀ s, s ∈ (l.filter (isIn v r)).map O.s ↔ V.hasB v r s = true ∧ ∃ p ∈ l, p.r = r ∧ p.s = s := fun s => by
  constructor
  ·intro hs
   obtain ⟨o, ho, rfl⟩ := List.mem_map.1 hs
   have h := hin o ho
   exact ⟨h.2.2, o, h.1, h.2.1, rfl⟩
  ·rintro ⟨h, p, hp, rfl, rfl⟩
   exact List.mem_map.2 ⟨p, List.mem_filter.2 ⟨hp, by simp [isIn, h]⟩, rfl⟩
 rw [hc]
 constructor
 ·intro hl s hs
  by_cases hx : s ∈ (l.filter (isIn v r)).map O.s
  ·exact ((hmem s).1 hx).2
  ·exfalso
   have h1 : (s :: (l.filter (isIn v r)).map O.s).Nodup := List.nodup_cons.2 ⟨hx, hnd⟩
   have h2 := h1.length_le_of_subset (l₂ := List.range' 1 (min (v.at_ r) 1048576)) (fun y hy => by
    rcases List.mem_cons.1 hy with rfl | hy
    ·exact (hhas _).1 hs
    ·exact hsub y hy)
   rw [List.length_cons, hl, List.length_range'] at h2
   omega
 ·intro h
  have h1 := hnd.length_le_of_subset (l₂ := List.range' 1 (min (v.at_ r) 1048576)) hsub
  have hnr : (List.range' 1 (min (v.at_ r) 1048576)).Nodup := List.nodup_range'
  have h2 := hnr.length_le_of_subset (l₂ := (l.filter (isIn v r)).map O.s) (fun y hy => (hmem y).2 ⟨(hhas y).2 hy, h y ((hhas y).2 hy)⟩)
  rw [List.length_range'] at h1 h2
  omega
theorem closed_count {l : List O} (hv : ∀ o ∈ l, V.dotB o.r o.s = true) (hd : Differ l) : Closed l ↔ ∀ o ∈ l, ∀ r, r < 16 → cntTo l o.v r l.length = min (o.v.at_ r) 1048576 := by
 constructor
 ·intro h o ho r hr
  exact (count_iff hd o.v hr).2 (fun s hs => h.known o ho r s hs)
 ·intro h
  refine ⟨hv, hd, fun o ho r s hs => ?_⟩
  have hr : r < 16 := by
   simp only [V.hasB, V.dotB, Bool.and_eq_true, decide_eq_true_eq] at hs
   omega
  exact (count_iff hd o.v hr).1 (h o ho r hr) s hs
section
variable {ev : Operand → Value} {q : Oper} {w : World}
theorem exec_cutO {x y : Operand} {b off n cap k : Nat} (ho : q.op = .slice 63 x none (some y) none) (hx : ev x = .slice (some ⟨b, off, none⟩) n cap) (hy : ev y = .int .i64 (k : Int)) (hk : k ≤ cap) : (execOp ev q).run Tryz.prog w = .ok (.value (.slice (some ⟨b, off, none⟩) k cap)) w := by
 have u63 := und63
 have z33 : ∀ w, (Go.sizeOf 33).run Tryz.prog w = .ok 23 w := Tryz.sizeOf33
 unfold execOp
 simp only [ho, hx]
 go_simp
theorem exec_ctxO {x : Operand} {b off : Nat} {p : O} (ho : q.op = .load 24 x) (hx : ev x = .pointer (some ⟨b, off + 7, none⟩)) (h : w.rangeAt b off p.cs) : (execOp ev q).run Tryz.prog w = .ok (.value (.agg p.v.arr)) w := by
 have hl := run_loadVar_mid (P := Tryz.prog) w b (off + 7) 24 p.v.cs _ (fun j u hu => by
  have := h (7 + j) u (by unfold O.cs; rw [List.getElem?_append_right (by simp [O.hd])]; simpa [O.hd] using hu)
  rw [← Nat.add_assoc] at this
  exact this) und24 rfl (by rw [p.v.cs_len]; exact size24)
 refine exec_cell ho hx ?_
 simp only [Instr.loadAt, Instr.sureAddr, Sem.run_bind, Sem.run_pure, Result.andThen_ok, hl]
theorem exec_idxV {x y : Operand} {b off r : Nat} (ho : q.op = .indexAddr 24 x y) (hx : ev x = .pointer (some ⟨b, off, none⟩)) (hy : ev y = .int .i64 (r : Int)) (hr : r < 16) : (execOp ev q).run Tryz.prog w = .ok (.value (.pointer (some ⟨b, off + r, none⟩))) w := by
 have u24 := und24
 unfold execOp
 simp only [ho, hx, hy]
 go_simp
 intro h
 omega
theorem exec_min32 {x y : Operand} {n : Nat} (ho : q.op = .call { callee := .builtin .min, args := #[x, y], argTypes := #[22, 22] }) (hx : ev x = .int .u32 (n : Int)) (hy : ev y = .int .u32 1048576) : (execOp ev q).run Tryz.prog w = .ok (.value (.int .u32 ((min n 1048576 : Nat) : Int))) w := by
 unfold execOp
 simp only [ho]
 go_simp
 omega
end
theorem op_vec {w : World} {b off r : Nat} {p : O} (h : w.rangeAt b off p.cs) (hr : r < 16) : w.cell? ⟨b, off + 7 + r, none⟩ = some (.int .u32 (p.v.at_ r : Int)) := by
 have := h (7 + r) (.int .u32 (p.v.at_ r : Int)) (by unfold O.cs; rw [List.getElem?_append_right (by simp [O.hd])]; simpa [O.hd] using V.cs_at p.v hr)
 rw [← Nat.add_assoc] at this
 exact this
theorem OL.take {w : World} {a : Option Addr} {n : Nat} {l : List O} (h : OL w a n l) {k : Nat} (hk : k ≤ n) : OL w a k (l.take k) := by
 have hl := OL.len' h
 refine ⟨by simp [cellsO]; omega, ?_⟩
 rcases h.cells with h0 | ⟨b, off, ha, hc⟩
 ·exact .inl (by omega)
 ·refine .inr ⟨b, off, ha, fun i v hv => hc i v ?_⟩
  simp only [cellsO, List.map_take] at hv ⊢
  have hi : i < k := by have := (List.getElem?_eq_some_iff.1 hv).1; simp at this; omega
  rw [List.getElem?_take_of_lt hi] at hv
  exact hv
end Go.Proofs.YtnekpgmgnepdoaaGreat
end
