import Derived.Test.YtnekpgmgnepdoaaGreatXaw
import Derived.Test.YtnekpgmgnepdoaaGreatXay
section
namespace Go.Proofs.YtnekpgmgnepdoaaGreat.F
open Go.Proofs.YtnekpgmgnepdoaaGreat Go.Proofs.YtnekpgmgnepdoaaGreat.Fold
open Go.RowKit Go.Maps Fold
def BoolsP (l : List Bool) (w : World) (e : Ending) (w' : World) : Prop := ∃ g, e = .returned (.slice (some ⟨g, 0, none⟩) l.length l.length) ∧ Blk w' g 4 (l.map Value.bool).toArray ∧ w.heap.size ≤ g ∧ Below w.heap.size w w'
theorem info4 : (Tryz.prog.info? 4).map (fun i => (i.zero, i.size, i.bytes)) = some (some (.bool false), 1, 1) := by kernel_rfl
theorem und69 : Tryz.prog.underlying 69 = some (.slice 4) := Tryz.underlying69
def livesTo (l : List O) (k : Nat) : List Value := ((l.take k).map fun o => Value.bool (liveB l o)) ++ List.replicate (l.length - k) (.bool false)
theorem lives_len (l : List O) {k : Nat} (h : k ≤ l.length) : (livesTo l k).length = l.length := by simp [livesTo]; omega
theorem lives_set {l : List O} {k : Nat} {x : O} (hx : l[k]? = some x) : (livesTo l k).toArray.setIfInBounds k (.bool (liveB l x)) = (livesTo l (k + 1)).toArray := by
 have hk : k < l.length := (List.getElem?_eq_some_iff.1 hx).1
 have e1 : (l.take k).length = k := by simp; omega
 simp only [List.setIfInBounds_toArray]
 congr 1
 unfold livesTo
 rw [List.set_append_right _ _ (by simp; omega), List.take_add_one, hx]
 simp only [List.length_map, e1, Nat.sub_self, Option.toList_some, List.map_append, List.map_cons, List.map_nil, List.append_assoc]
 congr 1
 rw [show l.length - k = (l.length - (k + 1)) + 1 by omega, List.replicate_succ]
 rfl
theorem lives_all (l : List O) : livesTo l l.length = (l.map (liveB l)).map Value.bool := by
 simp [livesTo]
structure Lv (W : World) (g m : Nat) (l : List O) (k c : Nat) (f : Lit → Option Value) : Prop where
 row : Blk W g 4 (livesTo l k).toArray
 mp : EndM W m l c f
def LivR (w : World) (l : List O) (n g m c : Nat) (f : Lit → Option Value) (u : Value) (W : World) : Prop :=
 ∃ k : Nat, u = .int .i64 (k : Int) ∧ k ≤ n ∧ Hid (Lv W g m l k c f) ∧ Hid (Below w.heap.size w W)
section
variable {ev : Operand → Value} {q : Oper} {w : World}
theorem exec_idxB {x y : Operand} {g n cap i : Nat} {z : Int} (ho : q.op = .indexAddr 69 x y) (hx : ev x = .slice (some ⟨g, 0, none⟩) n cap) (hy : ev y = .int .i64 z) (hz : z = (i : Int)) (hi : i < n) : (execOp ev q).run Tryz.prog w = .ok (.value (.pointer (some ⟨g, i, none⟩))) w := by
 subst hz
 have u69 := und69
 unfold execOp
 simp only [ho, hx, hy]
 go_simp
theorem made_rep (n : Nat) (z : Value) : madeCells #[z] n = Array.replicate n z := by
 apply Array.ext_getElem?
 intro i
 unfold madeCells
 by_cases hi : i < n
 ·simp [hi, Nat.mod_one]
 ·simp [hi]
theorem exec_mkB {x y : Operand} {n : Nat} (ho : q.op = .makeSlice 69 x y) (hx : ev x = .int .i64 (n : Int)) (hy : ev y = .int .i64 (n : Int)) (hn : n < 1000000) : (execOp ev q).run Tryz.prog w = .ok (.value (.slice (some ⟨w.heap.size, 0, none⟩) n n)) (w.alloc (.cells (Array.replicate n (.bool false)) 4)) := by
 have hm := run_make_row' (P := Tryz.prog) 69 4 (.bool false) 1 und69 info4 rfl .i64 .i64 n (by omega) (by omega) w
 rw [made_rep] at hm
 unfold execOp
 simp only [ho, hx, hy, Sem.run_bind, hm, Result.andThen_ok]
 rfl
end
set_option maxRecDepth 100000 in
set_option maxHeartbeats 2000000 in
theorem live_any {a : Option Addr} {n cap : Nat} {l : List O} {w : World} (hl : OL w a n l) (hn : n < 1000000) : Calls Tryz.prog 71 #[.slice a n cap] w (BoolsP (l.map (liveB l)) w) := by
 obtain ⟨zo, ho⟩ : ∃ z, O.zero = z := ⟨_, rfl⟩
 have HO := Lib.hid ho
 have HL := Lib.hid hl
 have HLEN := Lib.hid hl.len'
 have HED := Lib.hid (enders_any (cap := cap) hl hn)
 clear ho hl
 go_enter Tryz.func71, Tryz.ntmps71
 go_wp2_with fail
 refine HED.out.mono ?_
 rintro e w1 ⟨m, c, f, rfl, hem, hgm, hb1⟩
 have HM1 := Lib.hid hem
 have HGM := Lib.hid hgm
 have HB1 := Lib.hid hb1
 clear hem hgm hb1 HED
 go_wp2_with (refine wpList_run rfl (exec_mkB (n := n) rfl rfl rfl hn) ?_)
 have HM2 : Hid (Lv (w1.alloc (.cells (Array.replicate n (.bool false)) 4)) w1.heap.size m l 0 c f) := Lib.hid ⟨by
  have e : (livesTo l 0).toArray = Array.replicate n (.bool false) := by simp [livesTo, HLEN.out]
  rw [e]
  exact Blk.new w1 4 _, HM1.out.below (below_one w1 _)⟩
 have HB2 : Hid (Below w.heap.size w (w1.alloc (.cells (Array.replicate n (.bool false)) 4))) := Lib.hid (HB1.out.trans ((below_one w1 _).mono HB1.out.size))
 have HG : Hid (w.heap.size ≤ w1.heap.size) := Lib.hid HB1.out.size
 have HGM2 : Hid (¬ m = w1.heap.size) := Lib.hid (fun e => by have := HM1.out.mp.lt; omega)
 generalize w1.alloc (.cells (Array.replicate n (.bool false)) 4) = w2 at HM2 HB2
 generalize w1.heap.size = g at HM2 HG HGM2
 clear HM1 HB1
 go_loopw [14] (LivR w l n g m c f) (fun u _ => n - (numI u).toNat)
 case atStart => exact ⟨0, rfl, Nat.zero_le _, HM2, HB2⟩
 case round =>
  obtain ⟨k, rfl, hk, HM, HB⟩ := hrel
  clear HM2 HB2
  by_cases hlt : k < n
  ·obtain ⟨b, off, x, rfl, hx, hr⟩ := OL.at (HL.out.below HB.out) hlt
   have HX := Lib.hid hx
   have HR := Lib.hid hr
   clear hx hr
   go_wp2_with (first | (refine wpList_run rfl (exec_idxO (i := k) rfl rfl rfl rfl hlt) ?_) | (refine wpList_run rfl (exec_ldO rfl rfl HR.out) ?_) | (refine wpList_run rfl (exec_alloc33z HO.out rfl) ?_) | (refine wpList_stop33 rfl ?_))
   refine ⟨?_⟩
   refine wpList_void rfl rfl (exec_store33 (p := zo) (u := x) rfl rfl rfl (Blk.new wr 33 zo.arr)) ?_
   have H1 : Hid (Ow wr ((wr.alloc (.cells zo.arr 33)).setRow wr.heap.size x.arr) x) := Lib.hid ⟨olaid_blk wr zo x, olaid_old wr zo x⟩
   generalize (wr.alloc (.cells zo.arr 33)).setRow wr.heap.size x.arr = w3 at H1
   go_wp2_with (refine wpList_run rfl (exec_load33 (p := x) rfl rfl H1.out.one) ?_)
   refine (fmakes_any x _).mono ?_
   rintro e w4 ⟨rfl, hb4⟩
   have H4 := Lib.hid (H1.out.below hb4)
   have HM4 : Hid (EndM w4 m l c f) := Lib.hid ((HM.out.mp.below H1.out.old).below hb4)
   clear hb4 H1
   cases hm : x.laysB
   ·have HLV : Hid (liveB l x = false) := Lib.hid (by rw [live_eq, hm]; rfl)
    clear hm
    have HRW := Lib.hid (HM.out.row.below H4.out.old)
    have hcell : w4.cell? ⟨g, k, none⟩ = some (((livesTo l k)[k]?).getD undef) := by
     rw [HRW.out.cell]
     have := lives_len l (k := k) (by rw [HLEN.out]; omega)
     have hk2 : k < (livesTo l k).length := by rw [this, HLEN.out]; exact hlt
     simp [hk2]
    have hfrz : w4.frozen? ⟨g, k, none⟩ = false := HRW.out.frozen k
    generalize ((livesTo l k)[k]?).getD undef = old at hcell
    go_wp2_with (refine wpList_run rfl (exec_idxB (i := k) rfl rfl rfl rfl hlt) ?_)
    have hks := Kept.setCell w4 ⟨g, k, none⟩ (.bool false)
    have HN : Hid (Lv (w4.setCell ⟨g, k, none⟩ (.bool false)) g m l (k + 1) c f) := Lib.hid ⟨by
     have h := HRW.out.set k (.bool (liveB l x))
     rw [lives_set HX.out] at h
     rw [HLV.out] at h
     exact h, ((HM.out.mp.below H4.out.old).kept hks HGM2.out)⟩
    have HBN : Hid (Below w.heap.size w (w4.setCell ⟨g, k, none⟩ (.bool false))) := Lib.hid ((HB.out.trans (H4.out.old.mono HB.out.size)).trans (hks.below (Nat.le_trans HB.out.size H4.out.old.size) (fun j e => by rw [e]; exact HG.out)))
    clear hks
    go_roundw
    case rel => exact ⟨k + 1, by go_num, hlt, HN, HBN⟩
    case measure => simp [numI]; omega
   ·have HEN := Lib.hid (fun w (h : EndM w m l c f) => ended_any h x)
    have HLV : Hid (liveB l x = !(l.any fun o => O.endsB o x)) := Lib.hid (by rw [live_eq, hm]; rfl)
    clear hm
    go_wp2_with (refine wpList_runW (exec_load33 (p := x) rfl rfl H4.out.one) (by kernel_rfl) ?_)
    refine (HEN.out _ HM4.out).mono ?_
    rintro e w5 ⟨rfl, hb5⟩
    have H5 := Lib.hid (H4.out.below hb5)
    clear H4 HM4 hb5
    have H4 := H5
    clear H5
    generalize hbb : (l.any fun o => O.endsB o x) = bb at HLV
    clear hbb
    have HRW := Lib.hid (HM.out.row.below H4.out.old)
    have hcell : w5.cell? ⟨g, k, none⟩ = some (((livesTo l k)[k]?).getD undef) := by
     rw [HRW.out.cell]
     have := lives_len l (k := k) (by rw [HLEN.out]; omega)
     have hk2 : k < (livesTo l k).length := by rw [this, HLEN.out]; exact hlt
     simp [hk2]
    have hfrz : w5.frozen? ⟨g, k, none⟩ = false := HRW.out.frozen k
    generalize ((livesTo l k)[k]?).getD undef = old at hcell
    go_wp2_with (refine wpList_run rfl (exec_idxB (i := k) rfl rfl rfl rfl hlt) ?_)
    have hks := Kept.setCell w5 ⟨g, k, none⟩ (.bool (!bb))
    have HN : Hid (Lv (w5.setCell ⟨g, k, none⟩ (.bool (!bb))) g m l (k + 1) c f) := Lib.hid ⟨by
     have h := HRW.out.set k (.bool (liveB l x))
     rw [lives_set HX.out] at h
     rw [HLV.out] at h
     exact h, ((HM.out.mp.below H4.out.old).kept hks HGM2.out)⟩
    have HBN : Hid (Below w.heap.size w (w5.setCell ⟨g, k, none⟩ (.bool (!bb)))) := Lib.hid ((HB.out.trans (H4.out.old.mono HB.out.size)).trans (hks.below (Nat.le_trans HB.out.size H4.out.old.size) (fun j e => by rw [e]; exact HG.out)))
    clear hks
    go_roundw
    case rel => exact ⟨k + 1, by go_num, hlt, HN, HBN⟩
    case measure => simp [numI]; omega
  ·obtain rfl : k = n := by omega
   have HE : Hid (BoolsP (l.map (liveB l)) w (.returned (.slice (some ⟨g, 0, none⟩) k k)) wr) := Lib.hid ⟨g, by simp [HLEN.out], by
    have h := HM.out.row
    rw [← HLEN.out, lives_all] at h
    exact h, HG.out, HB.out⟩
   go_wp2_with fail
   go_ret
   exact HE.out
end Go.Proofs.YtnekpgmgnepdoaaGreat.F
end
section
namespace Go.Proofs.YtnekpgmgnepdoaaGreat.F
open Go.Proofs.YtnekpgmgnepdoaaGreat Go.Proofs.YtnekpgmgnepdoaaGreat.Fold
open Go.RowKit Fold
structure Am where
 n : Nat
 o : O
 hn : n < 4294967296
def Am.cs (a : Am) : List Value := .int .u32 (a.n : Int) :: a.o.cs
abbrev Am.arr (a : Am) : Array Value := a.cs.toArray
def Am.zero : Am := ⟨0, O.zero, by omega⟩
theorem Am.cs_len (a : Am) : a.cs.length = 24 := by simp [Am.cs, a.o.cs_len]
theorem Am.arr_size (a : Am) : a.arr.size = 24 := by simp [a.cs_len]
theorem Am.arr_one (a : Am) : a.arr.all (·.oneCell') = true := by
 refine all_oneCell_toArray fun u hu => ?_
 rcases List.mem_cons.1 hu with rfl | h
 ·rfl
 ·exact one_cs a.o u (by simpa using h)
theorem size131 : (Tryz.prog.info? 131).map (·.size) = some 24 := by kernel_rfl
theorem und131 : Tryz.prog.underlying 131 = some (.struct (Tryz.prog.fieldsOf 131)) := by kernel_rfl
theorem zero_aarr : Am.zero.arr = #[.int .u32 0, .int .u8 0, .int .u32 0, .int .u8 0, .int .u16 0, .int .u16 0, .int .u16 0, .int .u32 0, .int .u32 0, .int .u32 0, .int .u32 0, .int .u32 0, .int .u32 0, .int .u32 0, .int .u32 0, .int .u32 0, .int .u32 0, .int .u32 0, .int .u32 0, .int .u32 0, .int .u32 0, .int .u32 0, .int .u32 0, .int .u32 0] := by kernel_rfl
theorem info131 : (Tryz.prog.info? 131).map (fun i => (i.zero, i.size)) = some (some (.agg Am.zero.arr), 24) := by rw [zero_aarr]; kernel_rfl
theorem zero131 (w : World) : (zeroValue 131).run Tryz.prog w = .ok (.agg Am.zero.arr) w := (zero_of_info info131).1 w
theorem box131 (a : Am) (w : World) : (Instr.box 131 (.agg a.arr)).run Tryz.prog w = .ok (.pointer (some ⟨w.heap.size, 0, none⟩)) (w.alloc (.cells a.arr 131)) := by
 simp [Instr.box, newVar, newRow, Value.cells, go_sem]
theorem alloc131 (w : World) : (Instr.alloc 131 true (.tuple #[])).run Tryz.prog w = .ok (.pointer (some ⟨w.heap.size, 0, none⟩)) (w.alloc (.cells Am.zero.arr 131)) := by
 simp only [Instr.alloc, Sem.run_bind, (zero_of_info info131).1, Result.andThen_ok]
 simp [newVar, newRow, Value.cells, go_sem]
theorem load131 {w : World} {g : Nat} {a : Am} (h : Blk w g 131 a.arr) : (Instr.loadAt 131 (.pointer (some ⟨g, 0, none⟩))).run Tryz.prog w = .ok (.agg a.arr) w := by
 have hi : (Tryz.prog.info? 131).map (·.size) = some a.arr.size := by rw [a.arr_size]; exact size131
 simp only [Instr.loadAt, Instr.sureAddr, Sem.run_bind, Sem.run_pure, Result.andThen]
 exact run_loadVar_row _ _ 131 131 a.arr (0, 0) _ h und131 rfl hi
theorem loadVar131 {w : World} {g : Nat} {a : Am} (h : Blk w g 131 a.arr) : (loadVar 131 ⟨g, 0, none⟩).run Tryz.prog w = .ok (.agg a.arr) w := by
 have hi : (Tryz.prog.info? 131).map (·.size) = some a.arr.size := by rw [a.arr_size]; exact size131
 exact run_loadVar_row _ _ 131 131 a.arr (0, 0) _ h und131 rfl hi
theorem store131 {w : World} {g : Nat} {a b : Am} (h : Blk w g 131 a.arr) : (Instr.storeAt 131 (.pointer (some ⟨g, 0, none⟩)) (.agg b.arr)).run Tryz.prog w = .ok () (w.setRow g b.arr) := by
 have hi : (Tryz.prog.info? 131).map (·.size) = some b.arr.size := by rw [b.arr_size]; exact size131
 simp only [Instr.storeAt, Instr.sureAddr, Sem.run_bind, Sem.run_pure, Result.andThen]
 exact run_storeVar_row _ _ 131 131 a.arr b.arr h hi (by rw [a.arr_size, b.arr_size]) b.arr_one
theorem ret131 {fn : Func} {t : Tmp} (h : fn.results = #[.cell t 131]) {tmps : Array Value} {w : World} {g : Nat} {a : Am} (hx : tmps.getD t undef = .pointer (some ⟨g, 0, none⟩)) (hb : Blk w g 131 a.arr) :
  (results fn tmps).run Tryz.prog w = .ok (.agg a.arr) w := by
 have hx' : tmps[t]?.getD undef = .pointer (some ⟨g, 0, none⟩) := by rw [← hx]; simp [Array.getD_eq_getD_getElem?]
 simp only [results, h]
 simp [hx', asAddr, loadVar131 hb]
section
variable {ev : Operand → Value} {q : Oper} {w : World}
theorem exec_load131 {x : Operand} {g : Nat} {a : Am} (ho : q.op = .load 131 x) (hx : ev x = .pointer (some ⟨g, 0, none⟩)) (h : Blk w g 131 a.arr) : (execOp ev q).run Tryz.prog w = .ok (.value (.agg a.arr)) w := exec_cell ho hx (load131 h)
theorem exec_alloc131z {z : Am} (hz : Am.zero = z) (ho : q.op = .alloc 131) : (execOp ev q).run Tryz.prog w = .ok (.value (.pointer (some ⟨w.heap.size, 0, none⟩))) (w.alloc (.cells z.arr 131)) := by
 subst hz
 unfold execOp
 simp only [ho, Sem.run_bind, alloc131, Result.andThen_ok]
 rfl
theorem exec_store131 {x y : Operand} {g : Nat} {a b : Am} (ho : q.op = .store 131 x y) (hx : ev x = .pointer (some ⟨g, 0, none⟩)) (hy : ev y = .agg b.arr) (h : Blk w g 131 a.arr) : (execOp ev q).run Tryz.prog w = .ok .skip (w.setRow g b.arr) := by
 unfold execOp
 simp only [ho, hx, hy, Sem.run_bind, store131 (b := b) h, Result.andThen_ok]
 rfl
theorem exec_stSet {x y : Operand} {g : Nat} {a : Am} {p : O} (ho : q.op = .store 33 x y) (hx : ev x = .pointer (some ⟨g, 1, none⟩)) (hy : ev y = .agg p.arr) (h : Blk w g 131 a.arr) : (execOp ev q).run Tryz.prog w = .ok .skip (w.setCells g 1 p.cs) := by
 have hs := run_storeAt_mid (P := Tryz.prog) w g 1 33 p.arr (h.there (by rw [p.arr_size, a.arr_size]; omega)) (by rw [p.arr_size]; exact size33) p.arr_one
 unfold execOp
 simp only [ho, hx, hy, Sem.run_bind, hs, Result.andThen_ok]
 rfl
theorem wpList_stop131 {ops : Array Oper} {rest : List Oper} {o : Oper} {act : Act} {Q : Exit → Act → World → Prop} {W : World} {x : Operand} (_ho : o.op = .load 131 x) (k : Halt_ (wpList Tryz.prog ops Q (o :: rest) act W)) : wpList Tryz.prog ops Q (o :: rest) act W := k.out
end
theorem stSet_blk {w : World} {g : Nat} {a : Am} {p : O} (h : Blk w g 131 a.arr) : Blk (w.setCells g 1 p.cs) g 131 (⟨a.n, p, a.hn⟩ : Am).arr :=
 setCells_blk p.cs [.int .u32 (a.n : Int)] a.o.cs w (by rw [p.cs_len, a.o.cs_len]) h
theorem Am.range {w : World} {g : Nat} {a : Am} (h : Blk w g 131 a.arr) : w.rangeAt g 1 a.o.cs := fun j u hu => by
 rw [h.cell, Nat.add_comm]
 simpa [Am.cs] using hu
theorem ac0 {w : World} {g : Nat} {a : Am} (h : Blk w g 131 a.arr) : w.cell? ⟨g, 0, none⟩ = some (.int .u32 (a.n : Int)) := by rw [h.cell]; rfl
theorem ac3 {w : World} {g : Nat} {a : Am} (h : Blk w g 131 a.arr) : w.cell? ⟨g, 3, none⟩ = some (.int .u8 (a.o.k : Int)) := by rw [h.cell]; rfl
theorem ac6 {w : World} {g : Nat} {a : Am} (h : Blk w g 131 a.arr) : w.cell? ⟨g, 6, none⟩ = some (.int .u16 (a.o.q : Int)) := by rw [h.cell]; rfl
def Am.with (a : Am) (o : O) : Am := if o.k = 1 then ⟨(a.n + o.q) % 4294967296, a.o, Nat.mod_lt _ (by omega)⟩ else if a.o.k ≠ 2 ∨ O.lessB a.o o = true then ⟨a.n, o, a.hn⟩ else a
def Am.qty (a : Am) : Nat := (a.n + a.o.q) % 4294967296
structure Wa (w W : World) (a z : Am) (o : O) : Prop where
 am : Blk W w.heap.size 131 a.arr
 op : Blk W (w.heap.size + 1) 33 o.arr
 ans : Blk W (w.heap.size + 1 + 1) 131 z.arr
 old : Below w.heap.size w W
theorem wa_new (w : World) (a z : Am) (o : O) : Wa w (((w.alloc (.cells a.arr 131)).alloc (.cells o.arr 33)).alloc (.cells z.arr 131)) a z o := by
 have h1 := Blk.new w 131 a.arr
 have h2 := Blk.new (w.alloc (.cells a.arr 131)) 33 o.arr
 have h3 := Blk.new ((w.alloc (.cells a.arr 131)).alloc (.cells o.arr 33)) 131 z.arr
 have b1 := below_one (w.alloc (.cells a.arr 131)) (.cells o.arr 33)
 have b2 := below_one ((w.alloc (.cells a.arr 131)).alloc (.cells o.arr 33)) (.cells z.arr 131)
 simp only [World.size_alloc] at h2 h3
 exact ⟨(h1.below b1).below b2, h2.below b2, h3, (below_two' _ _ _).trans (b2.mono (by simp; omega))⟩
theorem Wa.below {w W W' : World} {a z : Am} {o : O} (h : Wa w W a z o) (hb : Below W.heap.size W W') : Wa w W' a z o := ⟨h.am.below hb, h.op.below hb, h.ans.below hb, h.old.trans (hb.mono h.old.size)⟩
theorem Wa.keep {w W W' : World} {a b z : Am} {o : O} (h : Wa w W a z o) (k : Kept (fun i => i = w.heap.size) W W') (hb : Blk W' w.heap.size 131 b.arr) : Wa w W' b z o :=
 ⟨hb, h.op.kept k (by omega), h.ans.kept k (by omega), h.old.trans (k.below h.old.size (fun j e => by rw [e]; exact Nat.le_refl _))⟩
set_option maxRecDepth 100000 in
set_option maxHeartbeats 2000000 in
theorem with_any (a : Am) (o : O) (w : World) : Calls Tryz.prog 72 #[.agg a.arr, .agg o.arr] w (Says (.agg (a.with o).arr) w) := by
 obtain ⟨z, hz⟩ : ∃ z, Am.zero = z := ⟨_, rfl⟩
 have HZ := Lib.hid hz
 have hb1 := fun (a : Am) (w : World) => box131 a w
 have hb2 := fun (o : O) (w : World) => box33 o w
 have HT := Lib.hid (wa_new w a z o)
 have HD : Hid (a.with o = if o.k = 1 then ⟨(a.n + o.q) % 4294967296, a.o, Nat.mod_lt _ (by omega)⟩ else if a.o.k ≠ 2 ∨ O.lessB a.o o = true then ⟨a.n, o, a.hn⟩ else a) := Lib.hid rfl
 generalize a.with o = r at HD
 have hq := o.hq
 have hn := a.hn
 clear hz
 go_enter Tryz.func72, Tryz.ntmps72
 go_upto_region 1 with (refine wpList_run rfl (exec_alloc131z HZ.out rfl) ?_)
 clear hb1 hb2
 generalize ((w.alloc (.cells a.arr 131)).alloc (.cells o.arr 33)).alloc (.cells z.arr 131) = W at HT
 have c2 := oc2 HT.out.op
 by_cases h1 : o.k = 1
 ·have q1 : ((o.k : Int) == 1) = true := by simp; omega
  have c0 := ac0 HT.out.am
  have f0 : W.frozen? ⟨w.heap.size, 0, none⟩ = false := HT.out.am.frozen 0
  have c5 := oc5 HT.out.op
  have HD2 : Hid (r = ⟨(a.n + o.q) % 4294967296, a.o, Nat.mod_lt _ (by omega)⟩) := Lib.hid (by rw [HD.out, if_pos h1])
  clear HD h1
  go_wp2_with (refine wpList_stop131 rfl ?_)
  have hks := Kept.setCell W ⟨w.heap.size, 0, none⟩ (.int .u32 (((a.n : Int) + (o.q : Int)) % 4294967296))
  have HW : Hid (Wa w (W.setCell ⟨w.heap.size, 0, none⟩ (.int .u32 (((a.n : Int) + (o.q : Int)) % 4294967296))) r z o) := Lib.hid (HT.out.keep hks (by
   have h := HT.out.am.set 0 (.int .u32 (((a.n : Int) + (o.q : Int)) % 4294967296))
   have e : a.arr.setIfInBounds 0 (.int .u32 (((a.n : Int) + (o.q : Int)) % 4294967296)) = r.arr := by
    rw [HD2.out]
    simp [Am.arr, Am.cs]
   rw [e] at h
   exact h))
  clear hks
  generalize W.setCell ⟨w.heap.size, 0, none⟩ (.int .u32 (((a.n : Int) + (o.q : Int)) % 4294967296)) = W2 at HW
  refine ⟨?_⟩
  refine wpList_run rfl (exec_load131 (a := r) rfl rfl HW.out.am) ?_
  refine wpList_void rfl rfl (exec_store131 (a := z) (b := r) rfl rfl rfl HW.out.ans) ?_
  have HR := Lib.hid (HW.out.ans.row (ds := r.arr))
  have HB : Hid (Below w.heap.size w (W2.setRow (w.heap.size + 1 + 1) r.arr)) := Lib.hid (HW.out.old.trans ((Kept.setRow W2 (w.heap.size + 1 + 1) r.arr).below HW.out.old.size (fun j e => by omega)))
  go_wp2_with fail
  exact bodyPost_ret (v := .agg r.arr) (ret131 rfl rfl HR.out) rfl ⟨rfl, HB.out⟩
 ·have q1 : ((o.k : Int) == 1) = false := by simp; omega
  have c3 := ac3 HT.out.am
  have HD2 : Hid (r = if a.o.k ≠ 2 ∨ O.lessB a.o o = true then ⟨a.n, o, a.hn⟩ else a) := Lib.hid (by rw [HD.out, if_neg h1])
  clear HD h1
  by_cases h2 : a.o.k = 2
  ·have q2 : ((a.o.k : Int) != 2) = false := by simp; omega
   have HR2 := Lib.hid (Am.range HT.out.am)
   have HD3 : Hid (r = if O.lessB a.o o = true then ⟨a.n, o, a.hn⟩ else a) := Lib.hid (by rw [HD2.out]; simp [h2])
   clear h2 HD2
   go_wp2_with (first | (refine wpList_runW (exec_ldO (p := a.o) rfl rfl HR2.out) (by kernel_rfl) ?_) | (refine wpList_runW (exec_load33 (p := o) rfl rfl HT.out.op) (by kernel_rfl) ?_))
   refine (less_any a.o o _).mono ?_
   rintro e W3 ⟨rfl, hb3⟩
   have HT3 := Lib.hid (HT.out.below hb3)
   clear HT hb3 c2 c3 HR2
   cases hl : O.lessB a.o o
   ·have HW : Hid (Wa w W3 r z o) := Lib.hid (by rw [HD3.out, hl]; exact HT3.out)
    go_wp2_with (refine wpList_stop131 rfl ?_)
    refine ⟨?_⟩
    refine wpList_run rfl (exec_load131 (a := r) rfl rfl HW.out.am) ?_
    refine wpList_void rfl rfl (exec_store131 (a := z) (b := r) rfl rfl rfl HW.out.ans) ?_
    have HR := Lib.hid (HW.out.ans.row (ds := r.arr))
    have HB : Hid (Below w.heap.size w (W3.setRow (w.heap.size + 1 + 1) r.arr)) := Lib.hid (HW.out.old.trans ((Kept.setRow W3 (w.heap.size + 1 + 1) r.arr).below HW.out.old.size (fun j e => by omega)))
    go_wp2_with fail
    exact bodyPost_ret (v := .agg r.arr) (ret131 rfl rfl HR.out) rfl ⟨rfl, HB.out⟩
   ·have HD4 : Hid (r = ⟨a.n, o, a.hn⟩) := Lib.hid (by rw [HD3.out, hl]; rfl)
    clear hl
    go_wp2_with (first | (refine wpList_run rfl (exec_load33 (p := o) rfl rfl HT3.out.op) ?_) | (refine wpList_stop131 rfl ?_) | (refine wpList_stop33 rfl ?_))
    refine ⟨?_⟩
    refine wpList_void rfl rfl (exec_stSet (a := a) (p := o) rfl rfl rfl HT3.out.am) ?_
    have HW : Hid (Wa w (W3.setCells w.heap.size 1 o.cs) r z o) := Lib.hid (HT3.out.keep (Kept.setCellsF o.cs 1 W3) (by rw [HD4.out]; exact stSet_blk HT3.out.am))
    generalize W3.setCells w.heap.size 1 o.cs = W5 at HW
    go_wp2_with (refine wpList_stop131 rfl ?_)
    refine ⟨?_⟩
    refine wpList_run rfl (exec_load131 (a := r) rfl rfl HW.out.am) ?_
    refine wpList_void rfl rfl (exec_store131 (a := z) (b := r) rfl rfl rfl HW.out.ans) ?_
    have HR := Lib.hid (HW.out.ans.row (ds := r.arr))
    have HB : Hid (Below w.heap.size w (W5.setRow (w.heap.size + 1 + 1) r.arr)) := Lib.hid (HW.out.old.trans ((Kept.setRow W5 (w.heap.size + 1 + 1) r.arr).below HW.out.old.size (fun j e => by omega)))
    go_wp2_with fail
    exact bodyPost_ret (v := .agg r.arr) (ret131 rfl rfl HR.out) rfl ⟨rfl, HB.out⟩
  ·have q2 : ((a.o.k : Int) != 2) = true := by simp; omega
   have HD4 : Hid (r = ⟨a.n, o, a.hn⟩) := Lib.hid (by rw [HD2.out, if_pos (.inl h2)])
   have HT3 := HT
   clear HD2 h2 HT
   go_wp2_with (first | (refine wpList_run rfl (exec_load33 (p := o) rfl rfl HT3.out.op) ?_) | (refine wpList_stop131 rfl ?_) | (refine wpList_stop33 rfl ?_))
   refine ⟨?_⟩
   refine wpList_void rfl rfl (exec_stSet (a := a) (p := o) rfl rfl rfl HT3.out.am) ?_
   have HW : Hid (Wa w (W.setCells w.heap.size 1 o.cs) r z o) := Lib.hid (HT3.out.keep (Kept.setCellsF o.cs 1 W) (by rw [HD4.out]; exact stSet_blk HT3.out.am))
   generalize W.setCells w.heap.size 1 o.cs = W5 at HW
   go_wp2_with (refine wpList_stop131 rfl ?_)
   refine ⟨?_⟩
   refine wpList_run rfl (exec_load131 (a := r) rfl rfl HW.out.am) ?_
   refine wpList_void rfl rfl (exec_store131 (a := z) (b := r) rfl rfl rfl HW.out.ans) ?_
   have HR := Lib.hid (HW.out.ans.row (ds := r.arr))
   have HB : Hid (Below w.heap.size w (W5.setRow (w.heap.size + 1 + 1) r.arr)) := Lib.hid (HW.out.old.trans ((Kept.setRow W5 (w.heap.size + 1 + 1) r.arr).below HW.out.old.size (fun j e => by omega)))
   go_wp2_with fail
   exact bodyPost_ret (v := .agg r.arr) (ret131 rfl rfl HR.out) rfl ⟨rfl, HB.out⟩
theorem qty_any (a : Am) (w : World) : Calls Tryz.prog 74 #[.agg a.arr] w (Says (.int .u32 (a.qty : Int)) w) := by
 have hb1 := fun (a : Am) (w : World) => box131 a w
 have hbx := Blk.new w 131 a.arr
 have c0 := ac0 hbx
 have c6 := ac6 hbx
 have hq := a.o.hq
 have hn := a.hn
 have HQ : Hid (((a.qty : Nat) : Int) = ((a.n : Int) + (a.o.q : Int)) % 4294967296) := Lib.hid (by unfold Am.qty; omega)
 clear hbx
 generalize a.qty = y at HQ
 go_enter Tryz.func74, Tryz.ntmps74
 go_wp2_with fail
 go_ret
 exact ⟨ret_int HQ.out.symm, below_one _ _⟩
end Go.Proofs.YtnekpgmgnepdoaaGreat.F
end
