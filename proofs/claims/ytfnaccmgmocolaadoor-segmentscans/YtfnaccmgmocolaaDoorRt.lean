/- Walk of the document's Scan. -/
import Derived.Test.YtfnaccmgmocolaaDoorRs
import Derived.Test.YtfnaccmgmocolaaDoorWo
namespace Go.Proofs.YtfnaccmgmocolaaDoor
open Go.RowKit

/-- In the middle of the document's scan. -/
structure Rm (w1 W : World) (g8 id m : Nat) (s : Seg.St) (a1 : Option Addr) (c1 : Nat) (a2 : Option Addr) (c2 : Nat) : Prop where
  x : Blk W g8 47 (infoV id (.slice none 0 0) (.slice none 0 0) s.shut 0)
  o : OwnG W 29 23 (g8 + 1) a1 m c1 (cellsO s.ops)
  e : OwnG W 3 1 (g8 + 1) a2 m c2 (cellsN s.ats)
  old : Below w1.heap.size w1 W
  lt : w1.heap.size ≤ g8
theorem Rm.below {w1 W W' : World} {g8 id m : Nat} {s : Seg.St} {a1 a2 : Option Addr} {c1 c2 : Nat} (h : Rm w1 W g8 id m s a1 c1 a2 c2) (hb : Below W.heap.size W W') : Rm w1 W' g8 id m s a1 c1 a2 c2 :=
  ⟨h.x.below hb, h.o.below hb, h.e.below hb, h.old.trans (hb.mono h.old.size), h.lt⟩
theorem Rm.len {w1 W : World} {g8 id m : Nat} {s : Seg.St} {a1 a2 : Option Addr} {c1 c2 : Nat} (h : Rm w1 W g8 id m s a1 c1 a2 c2) : s.ops.length = m ∧ s.ats.length = m := by
  have h1 := h.o.len
  have h2 := h.e.len
  simp only [cellsO, cellsN, List.length_map] at h1 h2
  exact ⟨h1, h2⟩
theorem Rm.push1 {w1 W W1 : World} {g8 id m : Nat} {s : Seg.St} {a1 a2 a1' : Option Addr} {c1 c2 c1' : Nat} {u : O} (h : Rm w1 W g8 id m s a1 c1 a2 c2) (ho : OwnG W1 29 23 (g8 + 1) a1' (m + 1) c1' (cellsO s.ops ++ [u.arr.toList])) (hk : Kept (At a1) W W1) :
    Blk W1 g8 47 (infoV id (.slice none 0 0) (.slice none 0 0) s.shut 0) ∧ OwnG W1 29 23 (g8 + 1) a1' (m + 1) c1' (cellsO (s.ops ++ [u])) ∧ OwnG W1 3 1 (g8 + 1) a2 m c2 (cellsN s.ats) ∧ Below w1.heap.size w1 W1 := by
  refine ⟨h.x.kept hk (fun ⟨ad, e1, e2⟩ => by have := (h.o.lt ad e1).1; omega), ?_, h.e.keep hk (fun ad ha e => kinds_apart h.o.row h.e.row (by decide) _ e ⟨ad, ha, rfl⟩), h.old.trans (hk.below h.old.size (fun i ⟨ad, e1, e2⟩ => by have := (h.o.lt ad e1).1; have := h.lt; omega))⟩
  rw [cellsO_snoc]
  have e : u.arr.toList = u.cs := by simp
  rw [e] at ho
  exact ho
structure Rn (w1 W : World) (g8 id m : Nat) (s : Seg.St) (u : O) (a1 : Option Addr) (c1 : Nat) (a2 : Option Addr) (c2 : Nat) : Prop where
  x : Blk W g8 47 (infoV id (.slice none 0 0) (.slice none 0 0) s.shut 0)
  o : OwnG W 29 23 (g8 + 1) a1 (m + 1) c1 (cellsO (s.ops ++ [u]))
  e : OwnG W 3 1 (g8 + 1) a2 m c2 (cellsN s.ats)
  old : Below w1.heap.size w1 W
  lt : w1.heap.size ≤ g8
theorem Rn.below {w1 W W' : World} {g8 id m : Nat} {s : Seg.St} {u : O} {a1 a2 : Option Addr} {c1 c2 : Nat} (h : Rn w1 W g8 id m s u a1 c1 a2 c2) (hb : Below W.heap.size W W') : Rn w1 W' g8 id m s u a1 c1 a2 c2 :=
  ⟨h.x.below hb, h.o.below hb, h.e.below hb, h.old.trans (hb.mono h.old.size), h.lt⟩
theorem Rn.push2 {w1 W W1 : World} {g8 id m k : Nat} {s : Seg.St} {u : O} {a1 a2 a2' : Option Addr} {c1 c2 c2' : Nat} (h : Rn w1 W g8 id m s u a1 c1 a2 c2) (ho : OwnG W1 3 1 (g8 + 1) a2' (m + 1) c2' (cellsN s.ats ++ [[Value.int .i64 (k : Int)]])) (hk : Kept (At a2) W W1) (us : Nat) :
    Rm w1 W1 g8 id (m + 1) ⟨s.ops ++ [u], s.ats ++ [k], us, s.shut⟩ a1 c1 a2' c2' := by
  refine ⟨h.x.kept hk (fun ⟨ad, e1, e2⟩ => by have := (h.e.lt ad e1).1; omega), h.o.keep hk (fun ad ha e => kinds_apart h.e.row h.o.row (by decide) _ e ⟨ad, ha, rfl⟩), ?_, h.old.trans (hk.below h.old.size (fun i ⟨ad, e1, e2⟩ => by have := (h.e.lt ad e1).1; have := h.lt; omega)), h.lt⟩
  show OwnG W1 3 1 (g8 + 1) a2' (m + 1) c2' (cellsN (s.ats ++ [k]))
  rw [cellsN_snoc]
  exact ho
/-- Sealed, or not, and so many bytes used. -/
theorem Rm.seal3 {w1 W : World} {g8 id m : Nat} {s : Seg.St} {a1 a2 : Option Addr} {c1 c2 : Nat} (h : Rm w1 W g8 id m s a1 c1 a2 c2) (b : Bool) (us : Nat) : Rm w1 (W.setCell ⟨g8, 3, none⟩ (.bool b)) g8 id m ⟨s.ops, s.ats, us, b⟩ a1 c1 a2 c2 := by
  have hks : Kept (fun i => i = g8) W (W.setCell ⟨g8, 3, none⟩ (.bool b)) := Kept.setCell W ⟨g8, 3, none⟩ _
  refine ⟨?_, h.o.keep hks (fun ad ha e => by have := (h.o.lt ad ha).1; omega), h.e.keep hks (fun ad ha e => by have := (h.e.lt ad ha).1; omega), h.old.trans (hks.below h.old.size (fun i hi => by have := h.lt; omega)), h.lt⟩
  have e : (infoV id (.slice none 0 0) (.slice none 0 0) s.shut 0).setIfInBounds 3 (.bool b) = infoV id (.slice none 0 0) (.slice none 0 0) b 0 := rfl
  have := h.x.set 3 (.bool b)
  rw [e] at this
  exact this
/-- The three cells that are set at the end. -/
theorem Rm.ends {w1 W : World} {g8 id m : Nat} {s : Seg.St} {a1 a2 : Option Addr} {c1 c2 : Nat} (h : Rm w1 W g8 id m s a1 c1 a2 c2) (us : Nat) :
    Blk (((W.setCell ⟨g8, 1, none⟩ (.slice a1 m c1)).setCell ⟨g8, 2, none⟩ (.slice a2 m c2)).setCell ⟨g8, 4, none⟩ (.int .i64 (us : Int))) g8 47 (infoV id (.slice a1 m c1) (.slice a2 m c2) s.shut us) ∧
    Kept (fun i => i = g8) W (((W.setCell ⟨g8, 1, none⟩ (.slice a1 m c1)).setCell ⟨g8, 2, none⟩ (.slice a2 m c2)).setCell ⟨g8, 4, none⟩ (.int .i64 (us : Int))) := by
  refine ⟨?_, ((Kept.setCell W ⟨g8, 1, none⟩ _).trans (Kept.setCell _ ⟨g8, 2, none⟩ _) (fun i hi => .inl hi)).trans (Kept.setCell _ ⟨g8, 4, none⟩ _) (fun i hi => .inl hi)⟩
  have e : (((infoV id (.slice none 0 0) (.slice none 0 0) s.shut 0).setIfInBounds 1 (.slice a1 m c1)).setIfInBounds 2 (.slice a2 m c2)).setIfInBounds 4 (.int .i64 (us : Int)) = infoV id (.slice a1 m c1) (.slice a2 m c2) s.shut us := rfl
  have := ((h.x.set 1 (.slice a1 m c1)).set 2 (.slice a2 m c2)).set 4 (.int .i64 (us : Int))
  rw [e] at this
  exact this

section
variable {ev : Operand → Value} {q : Oper} {w : World}
theorem agg31 (w : World) : (isAgg 31).run Tryd.prog w = .ok false w := by kernel_rfl
theorem exec_idxL {x y : Operand} {b off n cap i : Nat} {z : Int} (ho : q.op = .indexAddr 56 x y) (hx : ev x = .slice (some ⟨b, off, none⟩) n cap) (hy : ev y = .int .i64 z) (hz : z = (i : Int)) (hi : i < n) : (execOp ev q).run Tryd.prog w = .ok (.value (.pointer (some ⟨b, off + i, none⟩))) w := by
  subst hz
  have u56 := Tryd.underlying56
  have z31 : ∀ w, (Go.sizeOf 31).run Tryd.prog w = .ok 1 w := Tryd.sizeOf31
  unfold execOp
  simp only [ho, hx, hy]
  go_simp
theorem exec_idxL0 {x y : Operand} {b n cap i : Nat} {z : Int} (ho : q.op = .indexAddr 56 x y) (hx : ev x = .slice (some ⟨b, 0, none⟩) n cap) (hy : ev y = .int .i64 z) (hz : z = (i : Int)) (hi : i < n) : (execOp ev q).run Tryd.prog w = .ok (.value (.pointer (some ⟨b, i, none⟩))) w := by
  have := exec_idxL (w := w) ho hx hy hz hi
  rwa [Nat.zero_add] at this
theorem exec_ibuild47h {x : Operand} {id : Nat} (ho : q.op = .build 47 #[(0, x)]) (hx : ev x = .int .u32 (id : Int)) : (execOp ev q).run Tryd.prog w = .ok (.value (.agg (infoV id (.slice none 0 0) (.slice none 0 0) false 0))) w := by
  have hm : (#[((0 : Nat), x)]).map (fun (i, x) => (i, ev x)) = #[(0, .int .u32 (id : Int))] := by simp [hx]
  have hb : (Instr.build 47 #[(0, .int .u32 (id : Int))]).run Tryd.prog w = .ok (.agg (infoV id (.slice none 0 0) (.slice none 0 0) false 0)) w := run_build w 47 _ _ (by kernel_rfl)
  unfold execOp
  simp only [ho, hm, Sem.run_bind, hb, Result.andThen_ok]
  rfl
end

theorem ilaid47_old (w : World) (cs ds : Array Value) : Below w.heap.size w ((w.alloc (.cells cs 47)).setRow w.heap.size ds) := (below_one w _).trans ((Kept.setRow _ _ _).below (by simp) (fun k hk => by omega))

abbrev rmW (W : World) (g8 m us : Nat) (a1 : Option Addr) (c1 : Nat) (a2 : Option Addr) (c2 : Nat) : World := ((W.setCell ⟨g8, 1, none⟩ (.slice a1 m c1)).setCell ⟨g8, 2, none⟩ (.slice a2 m c2)).setCell ⟨g8, 4, none⟩ (.int .i64 (us : Int))
theorem Rm.fin {w w1 W : World} {g8 id m : Nat} {s : Seg.St} {a1 a2 : Option Addr} {c1 c2 : Nat} {SC : Option (Nat × Seg.St)} (h : Rm w1 W g8 id m s a1 c1 a2 c2) (hw : Below w.heap.size w w1) (hr : Blk w1 w.heap.size 47 infoZ) (hsc : SC = some (id, s)) :
    Blk (rmW W g8 m s.used a1 c1 a2 c2) w.heap.size 47 infoZ ∧ InfoP SC w (.returned (.tuple #[.agg (infoV id (.slice a1 m c1) (.slice a2 m c2) s.shut s.used), .int .i64 0])) ((rmW W g8 m s.used a1 c1 a2 c2).setRow w.heap.size (infoV id (.slice a1 m c1) (.slice a2 m c2) s.shut s.used)) := by
  have hks := (h.ends s.used).2
  have hlt := hr.lt
  have hle := h.lt
  have hl := h.len
  have hkr := Kept.setRow (rmW W g8 m s.used a1 c1 a2 c2) w.heap.size (infoV id (.slice a1 m c1) (.slice a2 m c2) s.shut s.used)
  have hb3 : Below w.heap.size w (rmW W g8 m s.used a1 c1 a2 c2) := (hw.trans (h.old.mono hw.size)).trans (hks.below (Nat.le_trans hw.size h.old.size) (fun i hi => by omega))
  refine ⟨(hr.below h.old).kept hks (by omega), .inr ⟨id, s, a1, c1, a2, c2, hsc, by rw [hl.1, hl.2], ?_, ?_, hb3.trans (hkr.below hb3.size (fun i hi => by omega))⟩⟩
  · rw [hl.1]
    exact (((h.o.keep hks (fun ad ha e => by have := (h.o.lt ad ha).1; omega)).keep hkr (fun ad ha e => by have := (h.o.lt ad ha).1; omega))).mono (by omega)
  · rw [hl.2]
    exact (((h.e.keep hks (fun ad ha e => by have := (h.e.lt ad ha).1; omega)).keep hkr (fun ad ha e => by have := (h.e.lt ad ha).1; omega))).mono (by omega)

/-- What the document's take comes to. -/
theorem take_yes {s : Seg.St} {c : List Nat} {u : O} (h : Seg.opr c = some u) : Seg.take s c = some ⟨s.ops ++ [u], s.ats ++ [s.used], s.used + (Frm.fr c).length, false⟩ := by
  unfold Seg.take
  rw [h]
theorem take_shut {s : Seg.St} {c : List Nat} (hs : ∀ x ∈ c, x < 256) (h : Seg.opr c = none) (hd : Seg.pairD 3 c = true) (hn : Seg.pairN c = s.ops.length) (hl : s.ops.length ≤ 4096) : Seg.take s c = some ⟨s.ops, s.ats, s.used + (Frm.fr c).length, true⟩ := by
  have := Seg.num_pair (k := 3) (most := 4096) c (by omega) (by omega) (by omega) hs
  rw [if_pos ⟨hd, by omega⟩] at this
  unfold Seg.take
  rw [h, this]
  simp [hn]
theorem take_no {s : Seg.St} {c : List Nat} (hs : ∀ x ∈ c, x < 256) (h : Seg.opr c = none) (hd : Seg.pairD 3 c = false ∨ Seg.pairN c ≠ s.ops.length) : Seg.take s c = none := by
  have hp := Seg.num_pair (k := 3) (most := 4096) c (by omega) (by omega) (by omega) hs
  unfold Seg.take
  rw [h]
  by_cases hb : Seg.pairD 3 c = true ∧ Seg.pairN c ≤ 4096
  · rw [if_pos hb] at hp
    rw [hp]
    have : ¬ Seg.pairN c = s.ops.length := by
      rcases hd with h1 | h1
      · rw [hb.1] at h1; cases h1
      · exact h1
    simp [this]
  · rw [if_neg hb] at hp
    rw [hp]

set_option maxHeartbeats 8000000 in
set_option maxRecDepth 100000 in
theorem rsscan_any (a : Option Addr) (len cap : Nat) (bs : List Nat) (w : World) (hR : Row w a len bs) (hz : a = none → len = 0 ∧ cap = 0) (hc : len ≤ cap) (hl : len ≤ 16000) :
    Calls Tryd.prog 17 #[.slice a len cap] w (InfoP (Seg.scan bs) w) := by
  have hal := below_one w (.cells infoZ 47)
  have HRES := Lib.hid (Blk.new w 47 infoZ)
  have HAL := Lib.hid hal
  have HSC0 := Lib.hid (rscan_any a len cap bs _ (hR.below hal) hz hc (by omega))
  have hsl := (Frm.scan_le bs).1
  have hs4 := (Frm.scan_le bs).2
  rw [hR.size] at hsl
  have HSS := Lib.hid (Frm.scan_small hR.small)
  have hn : (Frm.scan bs).1.length ≤ 4000 := by omega
  have HTL : Hid (Seg.scan bs = Seg.tell (Frm.scan bs).1) := Lib.hid rfl
  unfold ScanP at HSC0
  generalize Seg.scan bs = SC at *
  generalize hLS : (Frm.scan bs).1 = ls at *
  generalize (Frm.scan bs).2 = sn at *
  clear hR hz hal hsl hs4 hLS
  go_enter Tryd.func17, Tryd.ntmps17
  go_wp2_with (refine wpList_run rfl (exec_ialloc47 rfl) ?_)
  refine HSC0.out.mono ?_
  rintro e w1 ⟨la, lc, rfl, hlst, hb1⟩
  have HLST := Lib.hid hlst
  have HB1 := Lib.hid (HAL.out.trans (hb1.mono HAL.out.size))
  have HRES1 := Lib.hid (HRES.out.below hb1)
  clear hlst hb1 HSC0 HAL HRES
  obtain ⟨n, hnn⟩ : ∃ n, ls.length = n := ⟨_, rfl⟩
  rw [hnn] at hn HLST ⊢
  have HNN := Lib.hid hnn
  cases ls with
  | nil =>
    obtain rfl : n = 0 := hnn.symm
    have HE : Hid (SC = none) := Lib.hid HTL.out
    clear hnn HTL
    go_wp2_with (first | (refine wpList_run rfl (exec_ibuildz47 rfl) ?_) | (refine wpList_istop47 rfl ?_))
    refine ⟨?_⟩
    refine wpList_void rfl rfl (exec_istore47 (id := 0) (id2 := 0) (a1 := none) (n1 := 0) (c1 := 0) (a2 := none) (n2 := 0) (c2 := 0) (s2 := false) (u2 := 0) (u := 0) rfl rfl rfl HRES1.out) ?_
    go_wp2_with fail
    exact bodyPost_ret (iret47_two (t := 2) (s' := 3) (y := .int .i64 5) rfl rfl rfl HRES1.out.row) rfl (.inl ⟨HE.out, rfl, HB1.out.trans ((Kept.setRow w1 w.heap.size infoZ).below HB1.out.size (fun i hi => by omega))⟩)
  | cons c0 cs =>
    have hpos : 0 < n := by rw [← hnn]; simp
    clear hnn
    obtain ⟨gl, v0, rfl, hcell, hslv⟩ := HLST.out.cell hpos
    obtain ⟨a0, l0, k0, rfl, hr0, hz0, hc0, _⟩ := hslv
    have hl0 := HSS.out c0 List.mem_cons_self
    have hc0l : c0.length = l0 := hr0.size
    have hne : ((n : Int) == 0) = false := by simp; omega
    have HSEC := Lib.hid (second_any a0 l0 k0 1 1 (by omega) c0 w1 (by omega) hr0 hz0 hc0 (by omega) (by omega))
    have hnp := Seg.num_pair (k := 1) (most := Seg.big) c0 (by omega) (by omega) (by rw [Seg.big_eq]; omega) hl0.2
    have HCELL := Lib.hid hcell
    obtain ⟨PD, hPD⟩ : ∃ PD, Seg.pairD 1 c0 = PD := ⟨_, rfl⟩
    obtain ⟨PN, hPN⟩ : ∃ PN, Seg.pairN c0 = PN := ⟨_, rfl⟩
    have hpy := fun h => Seg.pair_yes (k := 1) (by omega) hl0.2 h
    rw [hPD, hPN] at HSEC hnp hpy
    have HPY := Lib.hid hpy
    clear hPD hPN hpy hcell hr0 hz0 hc0 hl0 hc0l
    go_wp2_with (first | (refine wpList_run rfl (exec_idxL (i := 0) rfl rfl rfl rfl hpos) ?_) | (refine wpList_run rfl (exec_ldC 31 agg31 rfl rfl HCELL.out) ?_))
    refine HSEC.out.mono ?_
    rintro e w2 ⟨rfl, hb2⟩
    have HB2 := Lib.hid (HB1.out.trans (hb2.mono HB1.out.size))
    have HRES2 := Lib.hid (HRES1.out.below hb2)
    have HB12 := Lib.hid hb2
    clear hb2 HSEC hne
    cases PD with
    | false =>
      have HE : Hid (SC = none) := Lib.hid (by rw [HTL.out]; exact Seg.tell_none cs (by rw [hnp]; simp))
      clear hnp HTL
      go_wp2_with (first | (refine wpList_run rfl (exec_ibuildz47 rfl) ?_) | (refine wpList_istop47 rfl ?_))
      refine ⟨?_⟩
      refine wpList_void rfl rfl (exec_istore47 (id := 0) (id2 := 0) (a1 := none) (n1 := 0) (c1 := 0) (a2 := none) (n2 := 0) (c2 := 0) (s2 := false) (u2 := 0) (u := 0) rfl rfl rfl HRES2.out) ?_
      go_wp2_with fail
      exact bodyPost_ret (iret47_two (t := 2) (s' := 3) (y := .int .i64 5) rfl rfl rfl HRES2.out.row) rfl (.inl ⟨HE.out, rfl, HB2.out.trans ((Kept.setRow w2 w.heap.size infoZ).below HB2.out.size (fun i hi => by omega))⟩)
    | true =>
      by_cases hbig : 4294967295 < PN
      · have HE : Hid (SC = none) := Lib.hid (by rw [HTL.out]; exact Seg.tell_none cs (by rw [hnp, if_neg]; rw [Seg.big_eq]; omega))
        have hgt : decide ((4294967295 : Int) < (PN : Int)) = true := by simp; omega
        clear hnp HTL hbig
        go_wp2_with (first | (refine wpList_run rfl (exec_ibuildz47 rfl) ?_) | (refine wpList_istop47 rfl ?_))
        refine ⟨?_⟩
        refine wpList_void rfl rfl (exec_istore47 (id := 0) (id2 := 0) (a1 := none) (n1 := 0) (c1 := 0) (a2 := none) (n2 := 0) (c2 := 0) (s2 := false) (u2 := 0) (u := 0) rfl rfl rfl HRES2.out) ?_
        go_wp2_with fail
        exact bodyPost_ret (iret47_two (t := 2) (s' := 3) (y := .int .i64 5) rfl rfl rfl HRES2.out.row) rfl (.inl ⟨HE.out, rfl, HB2.out.trans ((Kept.setRow w2 w.heap.size infoZ).below HB2.out.size (fun i hi => by omega))⟩)
      · have hle : PN ≤ 4294967295 := by omega
        have hnum : Seg.num 1 Seg.big c0 = some PN := by rw [hnp, if_pos ⟨rfl, by rw [Seg.big_eq]; exact hle⟩]
        obtain ⟨hc0e, _⟩ := HPY.out rfl
        obtain ⟨fin, hfin⟩ : ∃ fin, Seg.run ⟨[], [], (Frm.fr c0).length, false⟩ cs = fin := ⟨_, rfl⟩
        have HTE : Hid (SC = some (PN, fin)) := Lib.hid (by rw [HTL.out, Seg.tell_cons cs hnum, hfin])
        have HFIN := Lib.hid hfin
        have HHD : Hid ((Seg.headB PN).length = (Frm.fr c0).length) := Lib.hid (by rw [hc0e]; rfl)
        have hcv : IntKind.u32.wrap (PN : Int) = (PN : Int) := by rw [IntKind.wrap_u32]; omega
        have hgt : decide ((4294967295 : Int) < (PN : Int)) = false := by simp; omega
        have hhl : (Frm.fr c0).length ≤ 5000 := by have h1 := (HSS.out c0 List.mem_cons_self).1; have := Vint.enc_ten (n := c0.length) (by omega); rw [Frm.fr_len]; omega
        clear hnp HTL hbig hnum hc0e hfin HPY
        go_wp2_with (first | (refine wpList_run rfl (exec_ibuild47h (id := PN) rfl rfl) ?_) | (refine wpList_run rfl (exec_ialloc47 rfl) ?_) | (refine wpList_istop47 rfl ?_))
        refine ⟨?_⟩
        refine wpList_void rfl rfl (exec_istore47 (id := 0) (id2 := PN) (a1 := none) (n1 := 0) (c1 := 0) (a2 := none) (n2 := 0) (c2 := 0) (s2 := false) (u2 := 0) (u := 0) rfl rfl rfl (Blk.new w2 47 infoZ)) ?_
        have hlo := ilaid47_old w2 infoZ (infoV PN (.slice none 0 0) (.slice none 0 0) false 0)
        have HRM : Hid (Rm w1 _ w2.heap.size PN 0 ⟨[], [], (Frm.fr c0).length, false⟩ none 0 none 0) := Lib.hid ⟨(Blk.new w2 47 infoZ).row (ds := infoV PN (.slice none 0 0) (.slice none 0 0) false 0), ownG_nil _ _ _ _, ownG_nil _ _ _ _, HB12.out.trans (hlo.mono HB12.out.size), HB12.out.size⟩
        clear hlo
        generalize (w2.alloc (.cells infoZ 47)).setRow w2.heap.size (infoV PN (.slice none 0 0) (.slice none 0 0) false 0) = w3 at HRM
        generalize w2.heap.size = g8 at HRM
        obtain ⟨F0, hF0⟩ : ∃ F0, (Frm.fr c0).length = F0 := ⟨_, rfl⟩
        rw [hF0] at HRM HFIN HHD hhl
        go_wp2_with fail
        refine (rhead_any PN w3 (by omega)).mono ?_
        rintro e w4 ⟨ha, hc, rfl, -, hb4⟩
        rw [HHD.out]
        have HRM4 := Lib.hid (HRM.out.below hb4)
        clear hb4 HRM hF0 HHD hcv hgt HB12 HB2 HRES2
        go_wp2_with fail
        obtain ⟨ls, hls⟩ : ∃ ls, c0 :: cs = ls := ⟨_, rfl⟩
        have HFN1 : Hid (fin = Seg.run ⟨[], [], F0, false⟩ (ls.drop 1)) := Lib.hid (by rw [← hls]; exact HFIN.out.symm)
        rw [hls] at HLST HNN HSS
        clear HFIN hls HCELL
        go_loopw [9, 10, 11, 12] (fun v9 v10 v11 v12 wr => ∃ (k m c1 c2 : Nat) (a1 a2 : Option Addr) (s : Seg.St), v9 = .slice a1 m c1 ∧ v10 = .slice a2 m c2 ∧ v11 = .int .i64 (s.used : Int) ∧ v12 = .int .i64 (k : Int) ∧ 1 ≤ k ∧ k ≤ n ∧ m ≤ k ∧ s.used ≤ 5000 * k ∧ Hid (Rm w1 wr g8 PN m s a1 c1 a2 c2) ∧ Hid (fin = Seg.run s (ls.drop k))) (fun _ _ _ i _ => n - (intOf i).toNat)
        case atStart => exact ⟨1, 0, 0, 0, none, none, _, rfl, rfl, rfl, rfl, Nat.le_refl _, hpos, by omega, by simpa using hhl, HRM4, HFN1⟩
        case round =>
          clear HRM4 HFN1
          obtain ⟨k, m, c1, c2, a1, a2, s, rfl, rfl, rfl, rfl, hk1, hk, hmk, hus, HM, HF⟩ := hrel
          have x3 : wr.cell? ⟨g8, 3, none⟩ = some (.bool s.shut) := by rw [HM.out.x.cell]; rfl
          by_cases hlt : k < n
          · cases hsh : s.shut
            · rw [hsh] at x3
              obtain ⟨g', v, e1, hcell, hslv⟩ := HLST.out.cell hlt
              obtain rfl : gl = g' := by injection e1 with e1; injection e1
              obtain ⟨a', l', k', rfl, hr, hz, hc, _⟩ := hslv
              have hkl : k < ls.length := by rw [HNN.out]; exact hlt
              obtain ⟨c, hcd⟩ : ∃ c, ls.getD k [] = c := ⟨_, rfl⟩
              have hck : ls[k]? = some c := by rw [← hcd, List.getD_eq_getElem?_getD, List.getElem?_eq_getElem hkl]; rfl
              have hdrop : ls.drop k = c :: ls.drop (k + 1) := by
                rw [List.drop_eq_getElem_cons hkl]
                have := List.getElem?_eq_getElem hkl
                rw [hck] at this
                rw [Option.some.inj this]
              rw [hcd] at hr
              have hcs := HSS.out c (List.mem_of_getElem? hck)
              have hcl : c.length = l' := hr.size
              have HCS := Lib.hid hcs.2
              have HROW := Lib.hid hr
              have HCZ := Lib.hid hz
              have HCC := Lib.hid hc
              have HCEL := Lib.hid hcell
              have HDR := Lib.hid hdrop
              have hl4 : l' ≤ 4096 := by rw [← hcl]; exact hcs.1
              have hF5 : (Frm.fr c).length ≤ 5000 := by have := Vint.enc_ten (n := c.length) (by omega); rw [Frm.fr_len]; omega
              have HWR := Lib.hid (rwrap_any a' l' k' c wr (hr.below HM.out.old) hz hl4)
              have HCE1 := Lib.hid (below_at HM.out.old hcell)
              have HTY := Lib.hid (fun u (h : Seg.opr c = some u) => take_yes (s := s) h)
              have HTS := Lib.hid (fun h hd hn hl => take_shut (s := s) hcs.2 h hd hn hl)
              have HTN := Lib.hid (fun h hd => take_no (s := s) hcs.2 h hd)
              have hlen := HM.out.len
              rw [hlen.1] at HTS HTN
              have HSH := Lib.hid hsh
              unfold WrapP at HWR
              generalize (Frm.fr c).length = F at hF5 HWR HTY HTS
              clear hcell hr hz hc hcd hck hdrop hcs hcl hlen hsh
              go_wp2_with (first | (refine wpList_run rfl (exec_idxL0 (i := k) rfl rfl rfl rfl hlt) ?_) | (refine wpList_run rfl (exec_ldC 31 agg31 rfl rfl HCE1.out) ?_))
              clear x3
              refine HWR.out.mono ?_
              rintro e w5 ⟨fa, fc, rfl, -, hb5⟩
              have HM5 := Lib.hid (HM.out.below hb5)
              have HCE5 := Lib.hid (below_at hb5 HCE1.out)
              have HOP := Lib.hid (roper_any a' l' k' c w5 (by omega) (HROW.out.below HM5.out.old) HCZ.out HCC.out)
              clear hb5 HWR HM HCE1
              go_wp2_with (first | (refine wpList_run rfl (exec_idxL0 (i := k) rfl rfl rfl rfl hlt) ?_) | (refine wpList_run rfl (exec_ldC 31 agg31 rfl rfl HCE5.out) ?_))
              refine HOP.out.mono ?_
              rintro e w6 ⟨u, ok, rfl, hop, hb6⟩
              have HOPR := Lib.hid hop
              obtain ⟨z, hz0⟩ : ∃ z, O.zero = z := ⟨_, rfl⟩
              have HZ := Lib.hid hz0
              clear hop hz0 HOP
              go_wp2_with (first | (refine wpList_run rfl (exec_alloc29z HZ.out rfl) ?_) | (refine wpList_stop29 rfl ?_))
              refine ⟨?_⟩
              refine wpList_void rfl rfl (exec_store29 (p := z) (u := u) rfl rfl rfl (Blk.new w6 29 z.arr)) ?_
              have hlo := olaid_old w6 z u
              have HU7 := Lib.hid (olaid_blk w6 z u)
              have HM7 := Lib.hid ((HM5.out.below hb6).below hlo)
              have HCE7 := Lib.hid (below_at hlo (below_at hb6 HCE5.out))
              clear hlo hb6 HM5 HCE5
              generalize (w6.alloc (.cells z.arr 29)).setRow w6.heap.size u.arr = w7 at HU7 HM7 HCE7
              generalize w6.heap.size = g15 at HU7
              have HSEC := Lib.hid (second_any a' l' k' 3 3 (by omega) c w7 (by omega) (HROW.out.below HM7.out.old) HCZ.out HCC.out (by omega) (by omega))
              generalize Seg.pairD 3 c = PD3 at HSEC HTS HTN
              generalize Seg.pairN c = PN3 at HSEC HTS HTN
              go_wp2_with (first | (refine wpList_run rfl (exec_idxL0 (i := k) rfl rfl rfl rfl hlt) ?_) | (refine wpList_run rfl (exec_ldC 31 agg31 rfl rfl HCE7.out) ?_))
              refine HSEC.out.mono ?_
              rintro e w8 ⟨rfl, hb8⟩
              have HM8 := Lib.hid (HM7.out.below hb8)
              have HU8 := Lib.hid (HU7.out.below hb8)
              have hm4 : m ≤ 4096 := by omega
              clear hb8 HSEC HM7 HU7 HCE7 HROW HCZ HCC HCEL
              cases ok
              · have hop := HOPR.out
                rw [if_neg (by decide)] at hop
                cases PD3 with
                | false =>
                  have HFS : Hid (fin = s) := Lib.hid (by rw [HF.out, HDR.out]; exact Seg.run_stop (HTN.out hop (.inl rfl)) _)
                  clear hop
                  have hen := Lib.hid (HM8.out.ends s.used).1
                  have hfn := Lib.hid (HM8.out.fin HB1.out HRES1.out (show SC = some (PN, s) by rw [HTE.out, HFS.out]))
                  have y1 : w8.cell? ⟨g8, 1, none⟩ = some (.slice none 0 0) := by rw [HM8.out.x.cell]; rfl
                  have y2 : w8.cell? ⟨g8, 2, none⟩ = some (.slice none 0 0) := by rw [HM8.out.x.cell]; rfl
                  have y4 : w8.cell? ⟨g8, 4, none⟩ = some (.int .i64 0) := by rw [HM8.out.x.cell]; rfl
                  have q1 : w8.frozen? ⟨g8, 1, none⟩ = false := HM8.out.x.frozen 1
                  have q2 : w8.frozen? ⟨g8, 2, none⟩ = false := HM8.out.x.frozen 2
                  have q4 : w8.frozen? ⟨g8, 4, none⟩ = false := HM8.out.x.frozen 4
                  go_wp2_with (first | (refine wpList_run rfl (exec_iload47 (id := PN) (s := s.shut) (u := s.used) rfl rfl hen.out) ?_) | (refine wpList_istop47 rfl ?_))
                  refine ⟨?_⟩
                  refine wpList_void rfl rfl (exec_istore47 (id := 0) (id2 := PN) (a1 := a1) (n1 := m) (c1 := c1) (a2 := a2) (n2 := m) (c2 := c2) (s2 := s.shut) (u2 := s.used) (u := 0) rfl rfl rfl hfn.out.1) ?_
                  go_wp2_with fail
                  exact bodyPost_ret (iret47_two (t := 2) (s' := 3) (y := .int .i64 0) rfl rfl rfl hfn.out.1.row) rfl hfn.out.2
                | true =>
                  have hcv : IntKind.u64.wrap (m : Int) = (m : Int) := by rw [IntKind.wrap_u64]; omega
                  by_cases hpm : PN3 = m
                  · have hq : ((PN3 : Int) != (m : Int)) = false := by simp; omega
                    have htk := HTS.out hop rfl hpm hm4
                    have HT : Hid (fin = Seg.run ⟨s.ops, s.ats, s.used + F, true⟩ (ls.drop (k + 1))) := Lib.hid (by rw [HF.out, HDR.out]; exact Seg.run_step HSH.out htk _)
                    have x3b : w8.cell? ⟨g8, 3, none⟩ = some (.bool s.shut) := by rw [HM8.out.x.cell]; rfl
                    have f3b : w8.frozen? ⟨g8, 3, none⟩ = false := HM8.out.x.frozen 3
                    clear hop hpm htk
                    go_wp2_with fail
                    go_roundw
                    case rel => exact ⟨k + 1, m, c1, c2, a1, a2, ⟨s.ops, s.ats, s.used + F, true⟩, rfl, rfl, by go_num, by go_num, by omega, by omega, by omega, (by show s.used + F ≤ 5000 * (k + 1); omega), Lib.hid (HM8.out.seal3 true (s.used + F)), HT⟩
                    case measure => simp [intOf]; omega
                  · have hq : ((PN3 : Int) != (m : Int)) = true := by simp; omega
                    have HFS : Hid (fin = s) := Lib.hid (by rw [HF.out, HDR.out]; exact Seg.run_stop (HTN.out hop (.inr hpm)) _)
                    clear hop hpm
                    have hen := Lib.hid (HM8.out.ends s.used).1
                    have hfn := Lib.hid (HM8.out.fin HB1.out HRES1.out (show SC = some (PN, s) by rw [HTE.out, HFS.out]))
                    have y1 : w8.cell? ⟨g8, 1, none⟩ = some (.slice none 0 0) := by rw [HM8.out.x.cell]; rfl
                    have y2 : w8.cell? ⟨g8, 2, none⟩ = some (.slice none 0 0) := by rw [HM8.out.x.cell]; rfl
                    have y4 : w8.cell? ⟨g8, 4, none⟩ = some (.int .i64 0) := by rw [HM8.out.x.cell]; rfl
                    have q1 : w8.frozen? ⟨g8, 1, none⟩ = false := HM8.out.x.frozen 1
                    have q2 : w8.frozen? ⟨g8, 2, none⟩ = false := HM8.out.x.frozen 2
                    have q4 : w8.frozen? ⟨g8, 4, none⟩ = false := HM8.out.x.frozen 4
                    go_wp2_with (first | (refine wpList_run rfl (exec_iload47 (id := PN) (s := s.shut) (u := s.used) rfl rfl hen.out) ?_) | (refine wpList_istop47 rfl ?_))
                    refine ⟨?_⟩
                    refine wpList_void rfl rfl (exec_istore47 (id := 0) (id2 := PN) (a1 := a1) (n1 := m) (c1 := c1) (a2 := a2) (n2 := m) (c2 := c2) (s2 := s.shut) (u2 := s.used) (u := 0) rfl rfl rfl hfn.out.1) ?_
                    go_wp2_with fail
                    exact bodyPost_ret (iret47_two (t := 2) (s' := 3) (y := .int .i64 0) rfl rfl rfl hfn.out.1.row) rfl hfn.out.2
              · have hop := HOPR.out
                rw [if_pos rfl] at hop
                have htk := HTY.out u hop
                have HT : Hid (fin = Seg.run ⟨s.ops ++ [u], s.ats ++ [s.used], s.used + F, false⟩ (ls.drop (k + 1))) := Lib.hid (by rw [HF.out, HDR.out]; exact Seg.run_step HSH.out htk _)
                clear hop htk
                go_wp2_with (first
                  | (refine wpList_run rfl (exec_load29 (p := u) rfl rfl HU8.out) ?_)
                  | (refine wpList_run rfl (exec_bsO (p := u) rfl rfl) ?_
                     have HP8 := Lib.hid (HM8.out.below (below_one w8 (.cells u.arr 29)))
                     have HGB := Lib.hid (Blk.new w8 29 u.arr)
                     generalize w8.alloc (.cells u.arr 29) = w9 at HP8 HGB ⊢
                     generalize w8.heap.size = h8 at HGB ⊢)
                  | (at_builtin; refine wpList_appendG 41 29 23 84 info29b und41 (by rw [show (Value.agg O.zero.arr).cells = O.zero.arr from rfl]; exact O.zero.arr_size) (by decide) (by decide) rfl rfl rfl rfl HP8.out.o HGB.out u.arr_size (by simpa using u.arr_one) (by omega) HP8.out.x.lt ?_
                     intro a1' c1' w10 ho10 hk10 _
                     have hpp := HP8.out.push1 ho10 hk10
                     have HQ : Hid (Rn w1 w10 g8 PN m s u a1' c1' a2 c2) := Lib.hid ⟨hpp.1, hpp.2.1, hpp.2.2.1, hpp.2.2.2, HP8.out.lt⟩
                     clear ho10 hk10 hpp)
                  | (refine wpList_run rfl (exec_bsN (n := s.used) rfl rfl) ?_
                     have HQ8 := Lib.hid (HQ.out.below (below_one w10 (.cells #[.int .i64 (s.used : Int)] 3)))
                     have HGC := Lib.hid (Blk.new w10 3 #[.int .i64 (s.used : Int)])
                     generalize w10.alloc (.cells #[.int .i64 (s.used : Int)] 3) = w11 at HQ8 HGC ⊢
                     generalize w10.heap.size = h9 at HGC ⊢)
                  | (at_builtin; refine wpList_appendG 42 3 1 8 info3 und42n rfl (by decide) (by decide) rfl rfl rfl rfl HQ8.out.e HGC.out rfl (by intro v hv; simp only [List.mem_cons, List.not_mem_nil, or_false] at hv; subst hv; rfl) (by omega) HQ8.out.x.lt ?_
                     intro a2' c2' w12 ho12 hk12 _
                     have HR9 := Lib.hid (HQ8.out.push2 ho12 hk12 (s.used + F))
                     have x3b : w12.cell? ⟨g8, 3, none⟩ = some (.bool s.shut) := by rw [HR9.out.x.cell]; rfl
                     have f3b : w12.frozen? ⟨g8, 3, none⟩ = false := HR9.out.x.frozen 3
                     clear ho12 hk12))
                go_roundw
                case rel => exact ⟨k + 1, m + 1, c1', c2', a1', a2', ⟨s.ops ++ [u], s.ats ++ [s.used], s.used + F, false⟩, rfl, rfl, by go_num, by go_num, by omega, by omega, by omega, (by show s.used + F ≤ 5000 * (k + 1); omega), Lib.hid (HR9.out.seal3 false (s.used + F)), HT⟩
                case measure => simp [intOf]; omega
            · have HFS : Hid (fin = s) := Lib.hid (by rw [HF.out, Seg.run_shut hsh])
              rw [hsh] at x3
              clear hsh
              have hen := Lib.hid (HM.out.ends s.used).1
              have hfn := Lib.hid (HM.out.fin HB1.out HRES1.out (show SC = some (PN, s) by rw [HTE.out, HFS.out]))
              have y1 : wr.cell? ⟨g8, 1, none⟩ = some (.slice none 0 0) := by rw [HM.out.x.cell]; rfl
              have y2 : wr.cell? ⟨g8, 2, none⟩ = some (.slice none 0 0) := by rw [HM.out.x.cell]; rfl
              have y4 : wr.cell? ⟨g8, 4, none⟩ = some (.int .i64 0) := by rw [HM.out.x.cell]; rfl
              have q1 : wr.frozen? ⟨g8, 1, none⟩ = false := HM.out.x.frozen 1
              have q2 : wr.frozen? ⟨g8, 2, none⟩ = false := HM.out.x.frozen 2
              have q4 : wr.frozen? ⟨g8, 4, none⟩ = false := HM.out.x.frozen 4
              go_wp2_with (first | (refine wpList_run rfl (exec_iload47 (id := PN) (s := s.shut) (u := s.used) rfl rfl hen.out) ?_) | (refine wpList_istop47 rfl ?_))
              refine ⟨?_⟩
              refine wpList_void rfl rfl (exec_istore47 (id := 0) (id2 := PN) (a1 := a1) (n1 := m) (c1 := c1) (a2 := a2) (n2 := m) (c2 := c2) (s2 := s.shut) (u2 := s.used) (u := 0) rfl rfl rfl hfn.out.1) ?_
              go_wp2_with fail
              exact bodyPost_ret (iret47_two (t := 2) (s' := 3) (y := .int .i64 0) rfl rfl rfl hfn.out.1.row) rfl hfn.out.2
          · obtain rfl : k = n := by omega
            have HFS : Hid (fin = s) := Lib.hid (by rw [HF.out, List.drop_of_length_le (by rw [HNN.out]; exact Nat.le_refl _)]; rfl)
            have hen := Lib.hid (HM.out.ends s.used).1
            have hfn := Lib.hid (HM.out.fin HB1.out HRES1.out (show SC = some (PN, s) by rw [HTE.out, HFS.out]))
            have y1 : wr.cell? ⟨g8, 1, none⟩ = some (.slice none 0 0) := by rw [HM.out.x.cell]; rfl
            have y2 : wr.cell? ⟨g8, 2, none⟩ = some (.slice none 0 0) := by rw [HM.out.x.cell]; rfl
            have y4 : wr.cell? ⟨g8, 4, none⟩ = some (.int .i64 0) := by rw [HM.out.x.cell]; rfl
            have q1 : wr.frozen? ⟨g8, 1, none⟩ = false := HM.out.x.frozen 1
            have q2 : wr.frozen? ⟨g8, 2, none⟩ = false := HM.out.x.frozen 2
            have q4 : wr.frozen? ⟨g8, 4, none⟩ = false := HM.out.x.frozen 4
            go_wp2_with (first | (refine wpList_run rfl (exec_iload47 (id := PN) (s := s.shut) (u := s.used) rfl rfl hen.out) ?_) | (refine wpList_istop47 rfl ?_))
            refine ⟨?_⟩
            refine wpList_void rfl rfl (exec_istore47 (id := 0) (id2 := PN) (a1 := a1) (n1 := m) (c1 := c1) (a2 := a2) (n2 := m) (c2 := c2) (s2 := s.shut) (u2 := s.used) (u := 0) rfl rfl rfl hfn.out.1) ?_
            go_wp2_with fail
            exact bodyPost_ret (iret47_two (t := 2) (s' := 3) (y := .int .i64 0) rfl rfl rfl hfn.out.1.row) rfl hfn.out.2

end Go.Proofs.YtfnaccmgmocolaaDoor
