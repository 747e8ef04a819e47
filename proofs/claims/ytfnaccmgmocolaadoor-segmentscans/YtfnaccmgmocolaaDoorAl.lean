/- Walk of the law's own question whether the program is there (alive): it answers true, and turns nothing that was there. -/
import Derived.Test.YtfnaccmgmocolaaDoorSe
import Derived.Test.YtfnaccmgmocolaaDoorSg
namespace Go.Proofs.YtfnaccmgmocolaaDoor
open Go.RowKit

def opA : O := ⟨0, 1, 1, 3, 4, 2, 0, V.zero, by omega, by omega, by omega, by omega, by omega, by omega, by omega⟩
theorem build_A (w : World) : (Instr.build 29 #[(0, dotV 0 1), (1, .int .u8 1), (2, .int .u16 3), (3, .int .u16 4), (4, .int .u16 2)]).run Tryd.prog w = .ok (.agg opA.arr) w := by
  refine run_build w 29 _ _ ?_
  kernel_rfl
section
variable {ev : Operand → Value} {o : Oper} {w : World}
theorem exec_A {x0 x1 x2 x3 x4 : Operand} {a : O} (ha : opA = a) (ho : o.op = .build 29 #[(0, x0), (1, x1), (2, x2), (3, x3), (4, x4)]) (h0 : ev x0 = dotV 0 1) (h1 : ev x1 = .int .u8 1) (h2 : ev x2 = .int .u16 3) (h3 : ev x3 = .int .u16 4) (h4 : ev x4 = .int .u16 2) : (execOp ev o).run Tryd.prog w = .ok (.value (.agg a.arr)) w := by
  subst ha
  have hm : (#[((0 : Nat), x0), (1, x1), (2, x2), (3, x3), (4, x4)]).map (fun (i, x) => (i, ev x)) = #[(0, dotV 0 1), (1, .int .u8 1), (2, .int .u16 3), (3, .int .u16 4), (4, .int .u16 2)] := by simp [h0, h1, h2, h3, h4]
  unfold execOp
  simp only [ho, hm, Sem.run_bind, build_A w, Result.andThen_ok]
  rfl
end
theorem right_A : opA.rightB 16 = true := by decide

theorem recordP_get {o : O} {w w' : World} {e : Ending} (h : o.rightB 16 = true) (hp : RecordP o w e w') : ∃ a cap, e = .returned (.tuple #[.slice a (Frm.fr (Seg.recB o)).length cap, .int .i64 0]) ∧ Own w' w.heap.size a (Frm.fr (Seg.recB o)).length cap (Frm.fr (Seg.recB o)) ∧ Below w.heap.size w w' := by
  unfold RecordP recF recE at hp
  rw [if_pos h, if_pos h] at hp
  exact hp

/-- A segment that tells something. -/
def Tells (id : Nat) (s : Seg.St) (n : Nat) (w : World) (e : Ending) (w' : World) : Prop :=
  ∃ a1 c1 a2 c2, e = .returned (.tuple #[.agg (infoV id (.slice a1 n c1) (.slice a2 n c2) s.shut s.used), .int .i64 0]) ∧ OwnG w' 29 23 w.heap.size a1 n c1 (cellsO s.ops) ∧ OwnG w' 3 1 w.heap.size a2 n c2 (cellsN s.ats) ∧ Below w.heap.size w w'
theorem tells_of {bs : List Nat} {id n : Nat} {s : Seg.St} {w w' : World} {e : Ending} (h : Seg.scan bs = some (id, s)) (h1 : s.ops.length = n) (h2 : s.ats.length = n) (hp : InfoP (Seg.scan bs) w e w') : Tells id s n w e w' := by
  rcases hp with ⟨h0, _⟩ | ⟨id', s', a1, c1, a2, c2, h0, he, ho, ha, hb⟩
  · rw [h] at h0; cases h0
  · rw [h] at h0
    obtain ⟨rfl, rfl⟩ := Prod.mk.inj (Option.some.inj h0)
    rw [h1, h2] at he
    rw [h1] at ho
    rw [h2] at ha
    exact ⟨a1, c1, a2, c2, he, ho, ha, hb⟩
theorem tells_not {bs : List Nat} {w w' : World} {e : Ending} (h : Seg.scan bs = none) (hp : InfoP (Seg.scan bs) w e w') : e = .returned (.tuple #[.agg infoZ, .int .i64 5]) ∧ Below w.heap.size w w' := by
  rcases hp with ⟨_, h1, h2⟩ | ⟨id', s', a1, c1, a2, c2, h0, _⟩
  · exact ⟨h1, h2⟩
  · rw [h] at h0; cases h0
theorem ilaid_blk (w : World) (cs ds : Array Value) : Blk ((w.alloc (.cells cs 44)).setRow w.heap.size ds) w.heap.size 44 ds := (Blk.new w 44 cs).row

/-- What alive has in memory at its end. -/
structure Als (W : World) (g1 g7 g9 : Nat) (o : O) (b1 b2 f1 f2 d1 d2 h u u' : Nat) (a3 a4 : Option Addr) (c3 c4 : Nat) : Prop where
  op : Blk W g1 29 o.arr
  x : Blk W g7 44 (infoV 5 (.slice (some ⟨b1, f1, none⟩) 1 d1) (.slice (some ⟨b2, f2, none⟩) 1 d2) true u)
  y : Blk W g9 44 (infoV 5 (.slice a3 0 c3) (.slice a4 0 c4) false u')
  el : W.rangeAt b1 f1 o.cs
  en : W.cell? ⟨b2, f2, none⟩ = some (.int .i64 (h : Int))
  tab : Tab W
theorem Als.below {W W' : World} {g1 g7 g9 : Nat} {o : O} {b1 b2 f1 f2 d1 d2 h u u' : Nat} {a3 a4 : Option Addr} {c3 c4 : Nat} (hh : Als W g1 g7 g9 o b1 b2 f1 f2 d1 d2 h u u' a3 a4 c3 c4) (hb : Below W.heap.size W W') : Als W' g1 g7 g9 o b1 b2 f1 f2 d1 d2 h u u' a3 a4 c3 c4 :=
  ⟨hh.op.below hb, hh.x.below hb, hh.y.below hb, fun j u hu => below_at hb (hh.el j u hu), below_at hb hh.en, hh.tab.below hb⟩
theorem one_op {w : World} {B n c : Nat} {a : Option Addr} {o : O} (h : OwnG w 29 23 B a n c (cellsO [o])) : ∃ b off, a = some ⟨b, off, none⟩ ∧ w.rangeAt b off o.cs := by
  have hn : n = 1 := by have := h.len; simpa [cellsO] using this.symm
  rcases h.gl.cells with h0 | ⟨b, off, ha, hc⟩
  · omega
  · have := hc 0 o.cs (by simp [cellsO])
    exact ⟨b, off, ha, by simpa using this⟩
theorem one_at {w : World} {B n c x : Nat} {a : Option Addr} (h : OwnG w 3 1 B a n c (cellsN [x])) : ∃ b off, a = some ⟨b, off, none⟩ ∧ w.cell? ⟨b, off, none⟩ = some (.int .i64 (x : Int)) := by
  have hn : n = 1 := by have := h.len; simpa [cellsN] using this.symm
  rcases h.gl.cells with h0 | ⟨b, off, ha, hc⟩
  · omega
  · have := hc 0 [.int .i64 (x : Int)] (by simp [cellsN]) 0 _ rfl
    exact ⟨b, off, ha, by simpa using this⟩
section
variable {ev : Operand → Value} {q : Oper} {w : World}
theorem exec_idxN {x y : Operand} {b off n cap i : Nat} {z : Int} (ho : q.op = .indexAddr 42 x y) (hx : ev x = .slice (some ⟨b, off, none⟩) n cap) (hy : ev y = .int .i64 z) (hz : z = (i : Int)) (hi : i < n) : (execOp ev q).run Tryd.prog w = .ok (.value (.pointer (some ⟨b, off + i, none⟩))) w := by
  subst hz
  have u42 := und42n
  have z3 : ∀ w, (Go.sizeOf 3).run Tryd.prog w = .ok 1 w := Tryd.sizeOf3
  unfold execOp
  simp only [ho, hx, hy]
  go_simp
theorem exec_idxO0 {x y : Operand} {b off n cap : Nat} (ho : q.op = .indexAddr 41 x y) (hx : ev x = .slice (some ⟨b, off, none⟩) n cap) (hy : ev y = .int .i64 0) (hi : 0 < n) : (execOp ev q).run Tryd.prog w = .ok (.value (.pointer (some ⟨b, off, none⟩))) w := by
  have := exec_idxO (i := 0) (w := w) ho hx hy rfl hi
  simpa using this
theorem exec_idxN0 {x y : Operand} {b off n cap : Nat} (ho : q.op = .indexAddr 42 x y) (hx : ev x = .slice (some ⟨b, off, none⟩) n cap) (hy : ev y = .int .i64 0) (hi : 0 < n) : (execOp ev q).run Tryd.prog w = .ok (.value (.pointer (some ⟨b, off, none⟩))) w := by
  have := exec_idxN (i := 0) (w := w) ho hx hy rfl hi
  simpa using this
theorem exec_ldC (t : TypeId) (hagg : ∀ w, (isAgg t).run Tryd.prog w = .ok false w) {x : Operand} {p : Addr} {v : Value} (ho : q.op = .load t x) (hx : ev x = .pointer (some p)) (h : w.cell? p = some v) : (execOp ev q).run Tryd.prog w = .ok (.value v) w := exec_cell ho hx (load_cell (hagg w) h)
theorem agg3 (w : World) : (isAgg 3).run Tryd.prog w = .ok false w := by kernel_rfl
theorem agg4 (w : World) : (isAgg 4).run Tryd.prog w = .ok false w := by kernel_rfl
theorem agg22 (w : World) : (isAgg 22).run Tryd.prog w = .ok false w := by kernel_rfl
theorem agg41 (w : World) : (isAgg 41).run Tryd.prog w = .ok false w := by kernel_rfl
theorem agg42 (w : World) : (isAgg 42).run Tryd.prog w = .ok false w := by kernel_rfl
end
theorem exec_lenS {ev : Operand → Value} {o : Oper} {w : World} {x : Operand} {t : TypeId} {a : Option Addr} {n cap : Nat} (hu : ∃ e, Tryd.prog.underlying t = some (.slice e)) (ho : o.op = .call { callee := .builtin .len, args := #[x], argTypes := #[t] }) (hx : ev x = .slice a n cap) : (execOp ev o).run Tryd.prog w = .ok (.value (.int .i64 (n : Int))) w := by
  obtain ⟨e, hu⟩ := hu
  unfold execOp
  simp only [ho]
  simp [hx, hu, go_sem]
/-! Merging with nothing. -/

set_option maxHeartbeats 4000000 in
set_option maxRecDepth 100000 in
theorem alive_any (w : World) (hT : Tab w) : Calls Tryd.prog 9 #[] w (Says (.bool true) w) := by
  obtain ⟨o, ho⟩ : ∃ a, opA = a := ⟨_, rfl⟩
  obtain ⟨zo, hzo⟩ : ∃ z, O.zero = z := ⟨_, rfl⟩
  have HRT : Hid (o.rightB 16 = true) := Lib.hid (ho ▸ right_A)
  have HZ := Lib.hid hzo
  have HT := Lib.hid hT
  have HA := Lib.hid ho
  clear ho hzo hT
  go_enter Tryd.func9, Tryd.ntmps9
  go_wp2_with (first | (refine wpList_run rfl (exec_A HA.out rfl rfl rfl rfl rfl rfl) ?_) | (refine wpList_run rfl (exec_alloc29z HZ.out rfl) ?_) | (refine wpList_stop29 rfl ?_))
  refine ⟨?_⟩
  refine wpList_void rfl rfl (exec_store29 (p := zo) (u := o) rfl rfl rfl (Blk.new w 29 zo.arr)) ?_
  have HO1 := Lib.hid (olaid_blk w zo o)
  have HB1 := Lib.hid (olaid_old w zo o)
  generalize (w.alloc (.cells zo.arr 29)).setRow w.heap.size o.arr = w1 at HO1 HB1
  go_wp2_with (refine wpList_run rfl (exec_load29 (p := o) rfl rfl HO1.out) ?_)
  refine (record_any o w1 (HT.out.below HB1.out)).mono ?_
  intro e w2 hq
  obtain ⟨ra, rc, rfl, hro, hrb⟩ := recordP_get HRT.out hq
  have HR := Lib.hid (hro.mono HB1.out.size)
  have HB2 := Lib.hid (HB1.out.trans (hrb.mono HB1.out.size))
  have HO2 := Lib.hid (HO1.out.below hrb)
  have HRS := Lib.hid (Frm.fr_lt (Seg.rec_lt o))
  have hrl := Seg.fr_rec_le o
  have hrp := Frm.fr_pos (Seg.recB o)
  clear hro hrb hq HO1 HB1
  go_wp2_with fail
  refine (foot_ok 1 w2 (HT.out.below HB2.out) (by omega)).mono ?_
  rintro e w3 ⟨fa, fc, rfl, hfo, hfb⟩
  have HF := Lib.hid (hfo.mono HB2.out.size)
  have HB3 := Lib.hid (HB2.out.trans (hfb.mono HB2.out.size))
  have HO3 := Lib.hid (HO2.out.below hfb)
  have HR3 := Lib.hid (HR.out.below hfb)
  have HFR := Lib.hid (fun ad (ha : fa = some ad) => (hfo.lt ad ha).1)
  clear hfo hfb HB2 HO2
  go_wp2_with fail
  refine (head_any 5 w3 (HT.out.below HB3.out) (by omega)).mono ?_
  rintro e w4 ⟨ha, hc, rfl, hho, hhb⟩
  have HH := Lib.hid hho
  have HB4 := Lib.hid hhb
  have HRW := Lib.hid ((HR3.out.below hhb).row HRS.out)
  have HRZ := Lib.hid HR.out.cap.2.2
  have hhl := Seg.fr_pair_le (k := 1) (n := 5) (by omega) (by omega)
  have hhp := Frm.fr_pos (Seg.pairB 1 5)
  change (Seg.headB 5).length ≤ 40 at hhl
  change 5 ≤ (Seg.headB 5).length at hhp
  clear hho hhb
  have HBS : Hid (∀ c ∈ Seg.headB 5 ++ Frm.fr (Seg.recB o), c < 256) := Lib.hid (fun c hc => by
    rcases List.mem_append.1 hc with h | h
    · exact Frm.fr_lt (Seg.pair_lt 1 5) c h
    · exact HRS.out c h)
  have HFS := Lib.hid (Frm.fr_lt (Seg.pair_lt 3 1))
  have HFZ := Lib.hid HF.out.cap.2.2
  have hfl := Seg.fr_pair_le (k := 3) (n := 1) (by omega) (by omega)
  have hfp := Frm.fr_pos (Seg.pairB 3 1)
  go_wp2_with (at_builtin; first
    | (refine wpList_append_own_row w4 rfl _ _ rfl w3.heap.size ha (Seg.headB 5).length hc (Seg.headB 5) rfl HH.out ra (Frm.fr (Seg.recB o)).length rc (Frm.fr (Seg.recB o)) rfl HRW.out HRZ.out (by omega) HB4.out.size ?_
       intro ba bc w5 ho5 hk5 _
       have HO5 := Lib.hid ho5
       have HB5 := Lib.hid (HB4.out.trans (hk5.below HB4.out.size (fun i hi => by obtain ⟨ad, h1, h2⟩ := hi; have := (HH.out.lt ad h1).1; omega)))
       have HBW := Lib.hid (ho5.row HBS.out)
       have HFW := Lib.hid (((HF.out.row HFS.out).below HB5.out))
       have HBZ := Lib.hid ho5.cap.2.2
       clear ho5 hk5)
    | (refine wpList_append_own_row w5 rfl _ _ rfl w5.heap.size none 0 0 [] rfl (own_nil _ _) ba _ bc _ rfl HBW.out HBZ.out (by omega) (Nat.le_refl _) ?_
       intro ca cc w6 ho6 hk6 _
       simp only [Nat.zero_add, List.nil_append] at ho6 ⊢
       have HO6 := Lib.hid ho6
       have HB6 := Lib.hid (hk6.below (B := w5.heap.size) (Nat.le_refl _) (fun i hi => by obtain ⟨ad, h1, h2⟩ := hi; cases h1))
       clear ho6 hk6)
    | (refine wpList_append_own_row w6 rfl _ _ rfl w5.heap.size ca _ cc _ rfl HO6.out fa (Frm.fr (Seg.pairB 3 1)).length fc (Frm.fr (Seg.pairB 3 1)) rfl (HFW.out.below HB6.out) HFZ.out (by omega) HB6.out.size ?_
       intro da dc w7 ho7 hk7 _
       have HO7 := Lib.hid ho7
       have HB7 := Lib.hid (HB6.out.trans (hk7.below HB6.out.size (fun i hi => by obtain ⟨ad, h1, h2⟩ := hi; have := (HO6.out.lt ad h1).1; omega)))
       clear ho7 hk7))
  have HT5 : Hid (Tab w5) := Lib.hid ((HT.out.below HB3.out).below HB5.out)
  have HO5B := Lib.hid (HO3.out.below HB5.out)
  have HBO5 : Hid (Below w.heap.size w w5) := Lib.hid (HB3.out.trans (HB5.out.mono HB3.out.size))
  have HFB : Hid (∀ c ∈ Seg.headB 5 ++ Frm.fr (Seg.recB o) ++ Frm.fr (Seg.pairB 3 1), c < 256) := Lib.hid (fun c hc => by
    rcases List.mem_append.1 hc with h | h
    · exact HBS.out c h
    · exact HFS.out c h)
  have hsc1 : Seg.scan (Seg.headB 5 ++ Frm.fr (Seg.recB o) ++ Frm.fr (Seg.pairB 3 1)) = some (5, ⟨[o], [(Seg.headB 5).length], (Seg.headB 5).length + (Seg.recs [o]).length + (Seg.footB 1).length, true⟩) := by
    have := Seg.scan_foot (id := 5) (l := [o]) (by omega) (fun p hp => by obtain rfl := List.mem_singleton.1 hp; exact HRT.out) (by simp) []
    have e : Seg.recs [o] = Frm.fr (Seg.recB o) := by simp [Seg.recs, Frm.frs]
    rw [List.append_nil, e] at this
    rw [List.append_assoc]
    simpa [Seg.starts, Seg.footB, e] using this
  have hsc2 : Seg.scan ((Seg.headB 5 ++ Frm.fr (Seg.recB o)).take ((Seg.headB 5).length + (Frm.fr (Seg.recB o)).length - 1)) = some (5, ⟨[], [], (Seg.headB 5).length, false⟩) := by
    have e : Seg.recs [o] = Frm.fr (Seg.recB o) := by simp [Seg.recs, Frm.frs]
    have := Seg.scan_cut (id := 5) (l := [o]) (by omega) (fun p hp => by obtain rfl := List.mem_singleton.1 hp; exact HRT.out) ((Frm.fr (Seg.recB o)).length - 1)
    have hw : Seg.wholes ((Frm.fr (Seg.recB o)).length - 1) [o] = 0 := by rw [Seg.wholes, if_neg (by omega)]
    rw [hw, e] at this
    rw [List.take_append, List.take_of_length_le (by omega), show (Seg.headB 5).length + (Frm.fr (Seg.recB o)).length - 1 - (Seg.headB 5).length = (Frm.fr (Seg.recB o)).length - 1 by omega]
    simpa [Seg.recs, Frm.frs, Seg.starts] using this
  have hsc3 : Seg.scan (Frm.fr (Seg.recB o)) = none := by
    have := Seg.scan_rec o []
    rwa [List.append_nil] at this
  have HSC1 := Lib.hid hsc1
  have HSC2 := Lib.hid hsc2
  have HSC3 := Lib.hid hsc3
  clear hsc1 hsc2 hsc3
  have HCB := Lib.hid HO5.out.cap.1
  have HCR := Lib.hid HR.out.cap.1
  have HS1 := Lib.hid (sscan_any da _ dc _ w7 (HT5.out.below HB7.out) (HO7.out.row HFB.out) HO7.out.cap.2.2 HO7.out.cap.1 (by omega))
  have HRW5 := Lib.hid ((HR3.out.row HRS.out).below HB5.out)
  clear HO7 HO6 HF HH HR3 HR HO3 HFR HFW
  generalize (Seg.headB 5).length + (Frm.fr (Seg.recB o)).length + (Frm.fr (Seg.pairB 3 1)).length = LT at HS1
  refine HS1.out.mono ?_
  intro e w8 hq
  obtain ⟨a1, c1, a2, c2, rfl, hl1, hl2, hb8⟩ := tells_of (n := 1) HSC1.out rfl rfl hq
  obtain ⟨b1, f1, rfl, he1⟩ := one_op hl1
  obtain ⟨b2, f2, rfl, he2⟩ := one_at hl2
  have HE1 := Lib.hid he1
  have HE2 := Lib.hid he2
  have HB8 := Lib.hid (HB7.out.trans (hb8.mono HB7.out.size))
  clear hq hl1 hl2 hb8 HS1 he1 he2 HB6 HB7
  generalize hU : (Seg.headB 5).length + (Seg.recs [o]).length + (Seg.footB 1).length = U
  clear hU
  simp only
  go_wp2_with (first | (refine wpList_run rfl (exec_ialloc44 rfl) ?_) | (refine wpList_istop44 rfl ?_))
  refine ⟨?_⟩
  refine wpList_void rfl rfl (exec_istore44 (id := 0) (id2 := 5) (a1 := some ⟨b1, f1, none⟩) (n1 := 1) (c1 := c1) (a2 := some ⟨b2, f2, none⟩) (n2 := 1) (c2 := c2) (s2 := true) (u2 := U) (u := 0) rfl rfl rfl (Blk.new w8 44 infoZ)) ?_
  have hlo := ilaid_old w8 infoZ (infoV 5 (.slice (some ⟨b1, f1, none⟩) 1 c1) (.slice (some ⟨b2, f2, none⟩) 1 c2) true U)
  have HX9 := Lib.hid (ilaid_blk w8 infoZ (infoV 5 (.slice (some ⟨b1, f1, none⟩) 1 c1) (.slice (some ⟨b2, f2, none⟩) 1 c2) true U))
  have HB9 := Lib.hid (HB8.out.trans (hlo.mono HB8.out.size))
  have HE19 : Hid (World.rangeAt _ b1 f1 o.cs) := Lib.hid (fun j u hu => below_at hlo (HE1.out j u hu))
  have HE29 := Lib.hid (below_at hlo HE2.out)
  clear hlo HE1 HE2 HB8
  generalize (w8.alloc (.cells infoZ 44)).setRow w8.heap.size (infoV 5 (.slice (some ⟨b1, f1, none⟩) 1 c1) (.slice (some ⟨b2, f2, none⟩) 1 c2) true U) = w9 at HX9 HB9 HE19 HE29
  generalize w8.heap.size = g7 at HX9
  clear HO5
  generalize hLB : (Seg.headB 5).length + (Frm.fr (Seg.recB o)).length = LB at HBW HBZ HSC2 HCB ⊢
  have hlb0 : ((LB : Int) == 0) = false := by simp; omega
  have hsl := fun W => slice_hz .i64 ba LB bc (LB - 1) ((LB : Int) - 1) (by omega) (by have := HCB.out; omega) W
  go_wp2_with fail
  have hrow2 := ((HBW.out.below HB9.out).upto (show LB - 1 ≤ LB by omega))
  refine (sscan_any ba (LB - 1) bc _ w9 (HT5.out.below HB9.out) hrow2 (fun h => by have := (HBZ.out h).1; omega) (by have := HCB.out; omega) (by omega)).mono ?_
  intro e w10 hq
  obtain ⟨a3, c3, a4, c4, rfl, hl3, hl4, hb10⟩ := tells_of (n := 0) HSC2.out rfl rfl hq
  simp only
  have HB10 := Lib.hid (HB9.out.trans (hb10.mono HB9.out.size))
  have HX10 := Lib.hid (HX9.out.below hb10)
  have HE110 : Hid (World.rangeAt _ b1 f1 o.cs) := Lib.hid (fun j u hu => below_at hb10 (HE19.out j u hu))
  have HE210 := Lib.hid (below_at hb10 HE29.out)
  clear hrow2 hq hl3 hl4 hb10 HX9 HB9 HE19 HE29 hsl hlb0
  go_wp2_with (first | (refine wpList_run rfl (exec_ialloc44 rfl) ?_) | (refine wpList_istop44 rfl ?_))
  refine ⟨?_⟩
  refine wpList_void rfl rfl (exec_istore44 (id := 0) (id2 := 5) (a1 := a3) (n1 := 0) (c1 := c3) (a2 := a4) (n2 := 0) (c2 := c4) (s2 := false) (u2 := (Seg.headB 5).length) (u := 0) rfl rfl rfl (Blk.new w10 44 infoZ)) ?_
  have hlo := ilaid_old w10 infoZ (infoV 5 (.slice a3 0 c3) (.slice a4 0 c4) false (Seg.headB 5).length)
  have HY11 := Lib.hid (ilaid_blk w10 infoZ (infoV 5 (.slice a3 0 c3) (.slice a4 0 c4) false (Seg.headB 5).length))
  have HB11 := Lib.hid (HB10.out.trans (hlo.mono HB10.out.size))
  have HX11 := Lib.hid (HX10.out.below hlo)
  have HE111 : Hid (World.rangeAt _ b1 f1 o.cs) := Lib.hid (fun j u hu => below_at hlo (HE110.out j u hu))
  have HE211 := Lib.hid (below_at hlo HE210.out)
  clear hlo HE110 HE210 HB10 HX10
  generalize (w10.alloc (.cells infoZ 44)).setRow w10.heap.size (infoV 5 (.slice a3 0 c3) (.slice a4 0 c4) false (Seg.headB 5).length) = w11 at HY11 HB11 HX11 HE111 HE211
  generalize w10.heap.size = g9 at HY11
  go_wp2_with fail
  refine (sscan_any ra _ rc _ w11 (HT5.out.below HB11.out) (HRW5.out.below HB11.out) HRZ.out HCR.out (by omega)).mono ?_
  intro e w12 hq
  obtain ⟨rfl, hb12⟩ := tells_not HSC3.out hq
  have HB12 := Lib.hid (HB11.out.trans (hb12.mono HB11.out.size))
  have HX12 := Lib.hid (HX11.out.below hb12)
  have HY12 := Lib.hid (HY11.out.below hb12)
  have HE112 : Hid (World.rangeAt _ b1 f1 o.cs) := Lib.hid (fun j u hu => below_at hb12 (HE111.out j u hu))
  have HE212 := Lib.hid (below_at hb12 HE211.out)
  clear hq hb12 HB11 HX11 HY11 HE111 HE211
  go_wp2_with (first | (refine wpList_run rfl (exec_ialloc44 rfl) ?_) | (refine wpList_istop44 rfl ?_))
  refine ⟨?_⟩
  refine wpList_void rfl rfl (exec_istore44 (id := 0) (id2 := 0) (a1 := none) (n1 := 0) (c1 := 0) (a2 := none) (n2 := 0) (c2 := 0) (s2 := false) (u2 := 0) (u := 0) rfl rfl rfl (Blk.new w12 44 infoZ)) ?_
  have hlo := ilaid_old w12 infoZ infoZ
  have HB13 : Hid (Below w.heap.size w ((w12.alloc (.cells infoZ 44)).setRow w12.heap.size infoZ)) := Lib.hid (HBO5.out.trans ((HB12.out.trans (hlo.mono HB12.out.size)).mono HBO5.out.size))
  have HALS : Hid (Als ((w12.alloc (.cells infoZ 44)).setRow w12.heap.size infoZ) w.heap.size g7 g9 o b1 b2 f1 f2 c1 c2 (Seg.headB 5).length U (Seg.headB 5).length a3 a4 c3 c4) :=
    Lib.hid ⟨(HO5B.out.below HB12.out).below hlo, HX12.out.below hlo, HY12.out.below hlo, fun j u hu => below_at hlo (HE112.out j u hu), below_at hlo HE212.out, (HT5.out.below HB12.out).below hlo⟩
  clear hlo HX12 HY12 HE112 HE212 HB12 HT5 HO5B HBO5 HBW HBZ HRW5 HRW HRZ HB3 HB4 HB5
  generalize (w12.alloc (.cells infoZ 44)).setRow w12.heap.size infoZ = w13 at HB13 HALS
  go_upto_region 62 with fail
  refine wp_region_held_drew (S := fun w' => Als w' w.heap.size g7 g9 o b1 b2 f1 f2 c1 c2 (Seg.headB 5).length U (Seg.headB 5).length a3 a4 c3 c4 ∧ Below w13.heap.size w13 w') (by kernel_rfl) ⟨HALS.out.below (drew_below _), drew_below _⟩ (fun hS => ?_)
  refine held_take 0 52 (.int .i64 0) rfl rfl (by kernel_rfl) (by kernel_rfl) (by kernel_rfl) (fun _ _ _ h => h) (by kernel_rfl) (fun _ _ => rfl) hS ?_
  simp only [Act.put, List.setIfInBounds_toArray, List.set_cons_zero, List.set_cons_succ]
  refine held_take 1 53 (.bool true) rfl rfl (by kernel_rfl) (by kernel_rfl) (by kernel_rfl) (fun _ _ _ h => h) (by kernel_rfl) (fun _ _ => exec_eqlI trivial rfl rfl rfl (by simp)) hS ?_
  simp only [Act.put, List.setIfInBounds_toArray, List.set_cons_zero, List.set_cons_succ]
  refine held_take 2 54 (.bool true) rfl rfl (by kernel_rfl) (by kernel_rfl) (by kernel_rfl) (fun _ _ _ h => h) (by kernel_rfl) (fun _ _ => rfl) hS ?_
  simp only [Act.put, List.setIfInBounds_toArray, List.set_cons_zero, List.set_cons_succ]
  refine held_take 3 55 (.int .i64 0) rfl rfl (by kernel_rfl) (by kernel_rfl) (by kernel_rfl) (fun _ _ _ h => h) (by kernel_rfl) (fun _ _ => rfl) hS ?_
  simp only [Act.put, List.setIfInBounds_toArray, List.set_cons_zero, List.set_cons_succ]
  refine held_take 4 56 (.bool true) rfl rfl (by kernel_rfl) (by kernel_rfl) (by kernel_rfl) (fun _ _ _ h => h) (by kernel_rfl) (fun _ _ => exec_eqlI trivial rfl rfl rfl (by simp)) hS ?_
  simp only [Act.put, List.setIfInBounds_toArray, List.set_cons_zero, List.set_cons_succ]
  refine held_take 5 57 (.bool true) rfl rfl (by kernel_rfl) (by kernel_rfl) (by kernel_rfl) (fun _ _ _ h => h) (by kernel_rfl) (fun _ _ => rfl) hS ?_
  simp only [Act.put, List.setIfInBounds_toArray, List.set_cons_zero, List.set_cons_succ]
  refine held_take 6 58 (.bool true) rfl rfl (by kernel_rfl) (by kernel_rfl) (by kernel_rfl) (fun _ _ _ h => h) (by kernel_rfl) (fun _ _ => rfl) hS ?_
  simp only [Act.put, List.setIfInBounds_toArray, List.set_cons_zero, List.set_cons_succ]
  refine held_take 7 59 (.int .i64 0) rfl rfl (by kernel_rfl) (by kernel_rfl) (by kernel_rfl) (fun _ _ _ h => h) (by kernel_rfl) (fun _ _ => rfl) hS ?_
  simp only [Act.put, List.setIfInBounds_toArray, List.set_cons_zero, List.set_cons_succ]
  refine held_take 8 60 (.bool true) rfl rfl (by kernel_rfl) (by kernel_rfl) (by kernel_rfl) (fun _ _ _ h => h) (by kernel_rfl) (fun _ _ => exec_eqlI trivial rfl rfl rfl (by simp)) hS ?_
  simp only [Act.put, List.setIfInBounds_toArray, List.set_cons_zero, List.set_cons_succ]
  refine held_take 9 61 (.bool true) rfl rfl (by kernel_rfl) (by kernel_rfl) (by kernel_rfl) (fun _ _ _ h => h) (by kernel_rfl) (fun _ _ => rfl) hS ?_
  simp only [Act.put, List.setIfInBounds_toArray, List.set_cons_zero, List.set_cons_succ]
  refine held_take 10 62 (.bool true) rfl rfl (by kernel_rfl) (by kernel_rfl) (by kernel_rfl) (fun _ _ _ h => h) (by kernel_rfl) (fun _ _ => rfl) hS ?_
  simp only [Act.put, List.setIfInBounds_toArray, List.set_cons_zero, List.set_cons_succ]
  refine held_take 11 63 (.pointer (some ⟨g7, 0, none⟩)) rfl rfl (by kernel_rfl) (by kernel_rfl) (by kernel_rfl) (fun _ _ _ h => h) (by kernel_rfl) (fun _ _ => (by kernel_rfl)) hS ?_
  simp only [Act.put, List.setIfInBounds_toArray, List.set_cons_zero, List.set_cons_succ]
  refine held_take 12 64 (.int .u32 ((5 : Nat) : Int)) rfl rfl (by kernel_rfl) (by kernel_rfl) (by kernel_rfl) (fun _ _ _ h => h) (by kernel_rfl) (fun _ h => exec_ldC 22 agg22 rfl rfl (by rw [h.1.x.cell]; rfl)) hS ?_
  simp only [Act.put, List.setIfInBounds_toArray, List.set_cons_zero, List.set_cons_succ]
  refine held_take 13 65 (.bool true) rfl rfl (by kernel_rfl) (by kernel_rfl) (by kernel_rfl) (fun _ _ _ h => h) (by kernel_rfl) (fun _ _ => exec_eqlI trivial rfl rfl rfl (by simp)) hS ?_
  simp only [Act.put, List.setIfInBounds_toArray, List.set_cons_zero, List.set_cons_succ]
  refine held_take 14 66 (.bool true) rfl rfl (by kernel_rfl) (by kernel_rfl) (by kernel_rfl) (fun _ _ _ h => h) (by kernel_rfl) (fun _ _ => rfl) hS ?_
  simp only [Act.put, List.setIfInBounds_toArray, List.set_cons_zero, List.set_cons_succ]
  refine held_take 15 67 (.bool true) rfl rfl (by kernel_rfl) (by kernel_rfl) (by kernel_rfl) (fun _ _ _ h => h) (by kernel_rfl) (fun _ _ => rfl) hS ?_
  simp only [Act.put, List.setIfInBounds_toArray, List.set_cons_zero, List.set_cons_succ]
  refine held_take 16 68 (.pointer (some ⟨g7, 3, none⟩)) rfl rfl (by kernel_rfl) (by kernel_rfl) (by kernel_rfl) (fun _ _ _ h => h) (by kernel_rfl) (fun _ _ => (by kernel_rfl)) hS ?_
  simp only [Act.put, List.setIfInBounds_toArray, List.set_cons_zero, List.set_cons_succ]
  refine held_take 17 69 (.bool true) rfl rfl (by kernel_rfl) (by kernel_rfl) (by kernel_rfl) (fun _ _ _ h => h) (by kernel_rfl) (fun _ h => exec_ldC 4 agg4 rfl rfl (by rw [h.1.x.cell]; rfl)) hS ?_
  simp only [Act.put, List.setIfInBounds_toArray, List.set_cons_zero, List.set_cons_succ]
  refine held_take 18 70 (.bool true) rfl rfl (by kernel_rfl) (by kernel_rfl) (by kernel_rfl) (fun _ _ _ h => h) (by kernel_rfl) (fun _ _ => rfl) hS ?_
  simp only [Act.put, List.setIfInBounds_toArray, List.set_cons_zero, List.set_cons_succ]
  refine held_take 19 71 (.bool true) rfl rfl (by kernel_rfl) (by kernel_rfl) (by kernel_rfl) (fun _ _ _ h => h) (by kernel_rfl) (fun _ _ => rfl) hS ?_
  simp only [Act.put, List.setIfInBounds_toArray, List.set_cons_zero, List.set_cons_succ]
  refine held_take 20 72 (.pointer (some ⟨g7, 1, none⟩)) rfl rfl (by kernel_rfl) (by kernel_rfl) (by kernel_rfl) (fun _ _ _ h => h) (by kernel_rfl) (fun _ _ => (by kernel_rfl)) hS ?_
  simp only [Act.put, List.setIfInBounds_toArray, List.set_cons_zero, List.set_cons_succ]
  refine held_take 21 73 (.slice (some ⟨b1, f1, none⟩) 1 c1) rfl rfl (by kernel_rfl) (by kernel_rfl) (by kernel_rfl) (fun _ _ _ h => h) (by kernel_rfl) (fun _ h => exec_ldC 41 agg41 rfl rfl (by rw [h.1.x.cell]; rfl)) hS ?_
  simp only [Act.put, List.setIfInBounds_toArray, List.set_cons_zero, List.set_cons_succ]
  refine held_take 22 74 (.int .i64 ((1 : Nat) : Int)) rfl rfl (by kernel_rfl) (by kernel_rfl) (by kernel_rfl) (fun _ _ _ h => h) (by kernel_rfl) (fun _ _ => exec_lenS ⟨_, Tryd.underlying41⟩ rfl rfl) hS ?_
  simp only [Act.put, List.setIfInBounds_toArray, List.set_cons_zero, List.set_cons_succ]
  refine held_take 23 75 (.bool true) rfl rfl (by kernel_rfl) (by kernel_rfl) (by kernel_rfl) (fun _ _ _ h => h) (by kernel_rfl) (fun _ _ => exec_eqlI trivial rfl rfl rfl (by simp)) hS ?_
  simp only [Act.put, List.setIfInBounds_toArray, List.set_cons_zero, List.set_cons_succ]
  refine held_take 24 76 (.bool true) rfl rfl (by kernel_rfl) (by kernel_rfl) (by kernel_rfl) (fun _ _ _ h => h) (by kernel_rfl) (fun _ _ => rfl) hS ?_
  simp only [Act.put, List.setIfInBounds_toArray, List.set_cons_zero, List.set_cons_succ]
  refine held_take 25 77 (.bool true) rfl rfl (by kernel_rfl) (by kernel_rfl) (by kernel_rfl) (fun _ _ _ h => h) (by kernel_rfl) (fun _ _ => rfl) hS ?_
  simp only [Act.put, List.setIfInBounds_toArray, List.set_cons_zero, List.set_cons_succ]
  refine held_take 26 78 (.pointer (some ⟨g7, 1, none⟩)) rfl rfl (by kernel_rfl) (by kernel_rfl) (by kernel_rfl) (fun _ _ _ h => h) (by kernel_rfl) (fun _ _ => (by kernel_rfl)) hS ?_
  simp only [Act.put, List.setIfInBounds_toArray, List.set_cons_zero, List.set_cons_succ]
  refine held_take 27 79 (.slice (some ⟨b1, f1, none⟩) 1 c1) rfl rfl (by kernel_rfl) (by kernel_rfl) (by kernel_rfl) (fun _ _ _ h => h) (by kernel_rfl) (fun _ h => exec_ldC 41 agg41 rfl rfl (by rw [h.1.x.cell]; rfl)) hS ?_
  simp only [Act.put, List.setIfInBounds_toArray, List.set_cons_zero, List.set_cons_succ]
  refine held_take 28 80 (.pointer (some ⟨b1, f1, none⟩)) rfl rfl (by kernel_rfl) (by kernel_rfl) (by kernel_rfl) (fun _ _ _ h => h) (by kernel_rfl) (fun _ _ => exec_idxO0 rfl rfl rfl (by omega)) hS ?_
  simp only [Act.put, List.setIfInBounds_toArray, List.set_cons_zero, List.set_cons_succ]
  refine held_take 29 81 (.agg o.arr) rfl rfl (by kernel_rfl) (by kernel_rfl) (by kernel_rfl) (fun _ _ _ h => h) (by kernel_rfl) (fun _ h => exec_ldO (p := o) rfl rfl h.1.el) hS ?_
  simp only [Act.put, List.setIfInBounds_toArray, List.set_cons_zero, List.set_cons_succ]
  refine held_take 30 82 (.agg o.arr) rfl rfl (by kernel_rfl) (by kernel_rfl) (by kernel_rfl) (fun _ _ _ h => h) (by kernel_rfl) (fun _ h => exec_load29 (p := o) rfl rfl h.1.op) hS ?_
  simp only [Act.put, List.setIfInBounds_toArray, List.set_cons_zero, List.set_cons_succ]
  refine held_take 31 83 (.bool true) rfl rfl (by kernel_rfl) (by kernel_rfl) (by kernel_rfl) (fun _ _ _ h => h) (by kernel_rfl) (fun _ _ => exec_eql29 (a := o) (b := o) rfl rfl rfl rfl) hS ?_
  simp only [Act.put, List.setIfInBounds_toArray, List.set_cons_zero, List.set_cons_succ]
  refine held_take 32 84 (.bool true) rfl rfl (by kernel_rfl) (by kernel_rfl) (by kernel_rfl) (fun _ _ _ h => h) (by kernel_rfl) (fun _ _ => rfl) hS ?_
  simp only [Act.put, List.setIfInBounds_toArray, List.set_cons_zero, List.set_cons_succ]
  refine held_take 33 85 (.bool true) rfl rfl (by kernel_rfl) (by kernel_rfl) (by kernel_rfl) (fun _ _ _ h => h) (by kernel_rfl) (fun _ _ => rfl) hS ?_
  simp only [Act.put, List.setIfInBounds_toArray, List.set_cons_zero, List.set_cons_succ]
  refine held_take 34 86 (.pointer (some ⟨g7, 2, none⟩)) rfl rfl (by kernel_rfl) (by kernel_rfl) (by kernel_rfl) (fun _ _ _ h => h) (by kernel_rfl) (fun _ _ => (by kernel_rfl)) hS ?_
  simp only [Act.put, List.setIfInBounds_toArray, List.set_cons_zero, List.set_cons_succ]
  refine held_take 35 87 (.slice (some ⟨b2, f2, none⟩) 1 c2) rfl rfl (by kernel_rfl) (by kernel_rfl) (by kernel_rfl) (fun _ _ _ h => h) (by kernel_rfl) (fun _ h => exec_ldC 42 agg42 rfl rfl (by rw [h.1.x.cell]; rfl)) hS ?_
  simp only [Act.put, List.setIfInBounds_toArray, List.set_cons_zero, List.set_cons_succ]
  refine held_take 36 88 (.pointer (some ⟨b2, f2, none⟩)) rfl rfl (by kernel_rfl) (by kernel_rfl) (by kernel_rfl) (fun _ _ _ h => h) (by kernel_rfl) (fun _ _ => exec_idxN0 rfl rfl rfl (by omega)) hS ?_
  simp only [Act.put, List.setIfInBounds_toArray, List.set_cons_zero, List.set_cons_succ]
  refine held_take 37 89 (.int .i64 ((Seg.headB 5).length : Int)) rfl rfl (by kernel_rfl) (by kernel_rfl) (by kernel_rfl) (fun _ _ _ h => h) (by kernel_rfl) (fun _ h => exec_ldC 3 agg3 rfl rfl h.1.en) hS ?_
  simp only [Act.put, List.setIfInBounds_toArray, List.set_cons_zero, List.set_cons_succ]
  refine held_callP 38 90 14 #[(.int .u32 5)] rfl (by kernel_rfl) rfl (by kernel_rfl) (by kernel_rfl) (head_any 5 _ hS.1.tab (by omega)) (fun e w138 hP => ?_)
  obtain ⟨ga38, ca38, rfl, ho38, hb38⟩ := hP
  refine ⟨_, rfl, ⟨hS.1.below hb38, hS.2.trans (hb38.mono hS.2.size)⟩, fun hS => ?_⟩
  clear hb38 ho38
  simp only [Act.put, List.setIfInBounds_toArray, List.set_cons_zero, List.set_cons_succ]
  refine held_take 39 91 (.int .i64 ((Seg.headB 5).length : Int)) rfl rfl (by kernel_rfl) (by kernel_rfl) (by kernel_rfl) (fun _ _ _ h => h) (by kernel_rfl) (fun _ _ => exec_lenS ⟨_, Tryd.underlying31⟩ rfl rfl) hS ?_
  simp only [Act.put, List.setIfInBounds_toArray, List.set_cons_zero, List.set_cons_succ]
  refine held_take 40 92 (.bool true) rfl rfl (by kernel_rfl) (by kernel_rfl) (by kernel_rfl) (fun _ _ _ h => h) (by kernel_rfl) (fun _ _ => exec_eqlI trivial rfl rfl rfl (by simp)) hS ?_
  simp only [Act.put, List.setIfInBounds_toArray, List.set_cons_zero, List.set_cons_succ]
  refine held_take 41 93 (.bool true) rfl rfl (by kernel_rfl) (by kernel_rfl) (by kernel_rfl) (fun _ _ _ h => h) (by kernel_rfl) (fun _ _ => rfl) hS ?_
  simp only [Act.put, List.setIfInBounds_toArray, List.set_cons_zero, List.set_cons_succ]
  refine held_take 42 94 (.bool true) rfl rfl (by kernel_rfl) (by kernel_rfl) (by kernel_rfl) (fun _ _ _ h => h) (by kernel_rfl) (fun _ _ => rfl) hS ?_
  simp only [Act.put, List.setIfInBounds_toArray, List.set_cons_zero, List.set_cons_succ]
  refine held_take 43 95 (.int .i64 0) rfl rfl (by kernel_rfl) (by kernel_rfl) (by kernel_rfl) (fun _ _ _ h => h) (by kernel_rfl) (fun _ _ => rfl) hS ?_
  simp only [Act.put, List.setIfInBounds_toArray, List.set_cons_zero, List.set_cons_succ]
  refine held_take 44 96 (.bool true) rfl rfl (by kernel_rfl) (by kernel_rfl) (by kernel_rfl) (fun _ _ _ h => h) (by kernel_rfl) (fun _ _ => exec_eqlI trivial rfl rfl rfl (by simp)) hS ?_
  simp only [Act.put, List.setIfInBounds_toArray, List.set_cons_zero, List.set_cons_succ]
  refine held_take 45 97 (.bool true) rfl rfl (by kernel_rfl) (by kernel_rfl) (by kernel_rfl) (fun _ _ _ h => h) (by kernel_rfl) (fun _ _ => rfl) hS ?_
  simp only [Act.put, List.setIfInBounds_toArray, List.set_cons_zero, List.set_cons_succ]
  refine held_take 46 98 (.bool true) rfl rfl (by kernel_rfl) (by kernel_rfl) (by kernel_rfl) (fun _ _ _ h => h) (by kernel_rfl) (fun _ _ => rfl) hS ?_
  simp only [Act.put, List.setIfInBounds_toArray, List.set_cons_zero, List.set_cons_succ]
  refine held_take 47 99 (.pointer (some ⟨g9, 3, none⟩)) rfl rfl (by kernel_rfl) (by kernel_rfl) (by kernel_rfl) (fun _ _ _ h => h) (by kernel_rfl) (fun _ _ => (by kernel_rfl)) hS ?_
  simp only [Act.put, List.setIfInBounds_toArray, List.set_cons_zero, List.set_cons_succ]
  refine held_take 48 100 (.bool false) rfl rfl (by kernel_rfl) (by kernel_rfl) (by kernel_rfl) (fun _ _ _ h => h) (by kernel_rfl) (fun _ h => exec_ldC 4 agg4 rfl rfl (by rw [h.1.y.cell]; rfl)) hS ?_
  simp only [Act.put, List.setIfInBounds_toArray, List.set_cons_zero, List.set_cons_succ]
  refine held_take 49 101 (.bool true) rfl rfl (by kernel_rfl) (by kernel_rfl) (by kernel_rfl) (fun _ _ _ h => h) (by kernel_rfl) (fun _ _ => rfl) hS ?_
  simp only [Act.put, List.setIfInBounds_toArray, List.set_cons_zero, List.set_cons_succ]
  refine held_take 50 102 (.bool true) rfl rfl (by kernel_rfl) (by kernel_rfl) (by kernel_rfl) (fun _ _ _ h => h) (by kernel_rfl) (fun _ _ => rfl) hS ?_
  simp only [Act.put, List.setIfInBounds_toArray, List.set_cons_zero, List.set_cons_succ]
  refine held_take 51 103 (.bool true) rfl rfl (by kernel_rfl) (by kernel_rfl) (by kernel_rfl) (fun _ _ _ h => h) (by kernel_rfl) (fun _ _ => rfl) hS ?_
  simp only [Act.put, List.setIfInBounds_toArray, List.set_cons_zero, List.set_cons_succ]
  refine held_take 52 104 (.pointer (some ⟨g9, 1, none⟩)) rfl rfl (by kernel_rfl) (by kernel_rfl) (by kernel_rfl) (fun _ _ _ h => h) (by kernel_rfl) (fun _ _ => (by kernel_rfl)) hS ?_
  simp only [Act.put, List.setIfInBounds_toArray, List.set_cons_zero, List.set_cons_succ]
  refine held_take 53 105 (.slice a3 0 c3) rfl rfl (by kernel_rfl) (by kernel_rfl) (by kernel_rfl) (fun _ _ _ h => h) (by kernel_rfl) (fun _ h => exec_ldC 41 agg41 rfl rfl (by rw [h.1.y.cell]; rfl)) hS ?_
  simp only [Act.put, List.setIfInBounds_toArray, List.set_cons_zero, List.set_cons_succ]
  refine held_take 54 106 (.int .i64 ((0 : Nat) : Int)) rfl rfl (by kernel_rfl) (by kernel_rfl) (by kernel_rfl) (fun _ _ _ h => h) (by kernel_rfl) (fun _ _ => exec_lenS ⟨_, Tryd.underlying41⟩ rfl rfl) hS ?_
  simp only [Act.put, List.setIfInBounds_toArray, List.set_cons_zero, List.set_cons_succ]
  refine held_take 55 107 (.bool true) rfl rfl (by kernel_rfl) (by kernel_rfl) (by kernel_rfl) (fun _ _ _ h => h) (by kernel_rfl) (fun _ _ => exec_eqlI trivial rfl rfl rfl (by simp)) hS ?_
  simp only [Act.put, List.setIfInBounds_toArray, List.set_cons_zero, List.set_cons_succ]
  refine held_take 56 108 (.bool true) rfl rfl (by kernel_rfl) (by kernel_rfl) (by kernel_rfl) (fun _ _ _ h => h) (by kernel_rfl) (fun _ _ => rfl) hS ?_
  simp only [Act.put, List.setIfInBounds_toArray, List.set_cons_zero, List.set_cons_succ]
  refine held_take 57 109 (.bool true) rfl rfl (by kernel_rfl) (by kernel_rfl) (by kernel_rfl) (fun _ _ _ h => h) (by kernel_rfl) (fun _ _ => rfl) hS ?_
  simp only [Act.put, List.setIfInBounds_toArray, List.set_cons_zero, List.set_cons_succ]
  refine held_take 58 110 (.int .i64 5) rfl rfl (by kernel_rfl) (by kernel_rfl) (by kernel_rfl) (fun _ _ _ h => h) (by kernel_rfl) (fun _ _ => rfl) hS ?_
  simp only [Act.put, List.setIfInBounds_toArray, List.set_cons_zero, List.set_cons_succ]
  refine held_take 59 111 (.bool true) rfl rfl (by kernel_rfl) (by kernel_rfl) (by kernel_rfl) (fun _ _ _ h => h) (by kernel_rfl) (fun _ _ => exec_eqlI trivial rfl rfl rfl (by simp)) hS ?_
  simp only [Act.put, List.setIfInBounds_toArray, List.set_cons_zero, List.set_cons_succ]
  refine held_take 60 112 (.bool true) rfl rfl (by kernel_rfl) (by kernel_rfl) (by kernel_rfl) (fun _ _ _ h => h) (by kernel_rfl) (fun _ _ => rfl) hS ?_
  simp only [Act.put, List.setIfInBounds_toArray, List.set_cons_zero, List.set_cons_succ]
  refine held_take 61 0 (.bool true) rfl rfl (by kernel_rfl) (by kernel_rfl) (by kernel_rfl) (fun _ _ _ h => h) (by kernel_rfl) (fun _ _ => rfl) hS ?_
  simp only [Act.put, List.setIfInBounds_toArray, List.set_cons_zero]
  refine wpAnyH_done (by kernel_rfl) ?_ _
  have HEND := Lib.hid (HB13.out.trans (hS.2.mono HB13.out.size))
  clear hS
  go_wp2_with fail
  go_ret
  exact ⟨rfl, HEND.out⟩

end Go.Proofs.YtfnaccmgmocolaaDoor
