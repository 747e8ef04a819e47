/- Walk of the program's Scan. -/
import Derived.Test.YtfnaccmgmocolaaDoorSd
namespace Go.Proofs.YtfnaccmgmocolaaDoor
open Go.RowKit

/-- What no segment tells. -/
abbrev infoZ : Array Value := infoV 0 (.slice none 0 0) (.slice none 0 0) false 0
theorem infoV_one (id : Nat) (a1 a2 : Option Addr) (n1 c1 n2 c2 : Nat) (s : Bool) (u : Nat) : (infoV id (.slice a1 n1 c1) (.slice a2 n2 c2) s u).all (·.oneCell') = true := by
  refine all_oneCell_toArray fun u hu => ?_
  simp only [List.mem_cons, List.not_mem_nil, or_false] at hu
  rcases hu with rfl | rfl | rfl | rfl | rfl <;> rfl
theorem isize44 : (Tryd.prog.info? 44).map (·.size) = some 5 := by kernel_rfl
theorem iund44 : Tryd.prog.underlying 44 = some (.struct (Tryd.prog.fieldsOf 44)) := by kernel_rfl
section
variable {w : World} {g id id2 n1 n2 u u2 : Nat} {v1 v2 v3 v4 : Value} {s s2 : Bool} {fn : Func} {ev : Operand → Value} {q : Oper}
theorem iloadVar44 (h : Blk w g 44 (infoV id v1 v2 s u)) : (loadVar 44 ⟨g, 0, none⟩).run Tryd.prog w = .ok (.agg (infoV id v1 v2 s u)) w :=
  run_loadVar_row _ _ 44 44 (infoV id v1 v2 s u) (0, 0) _ h iund44 rfl isize44
theorem exec_iload44 {x : Operand} (ho : q.op = .load 44 x) (hx : ev x = .pointer (some ⟨g, 0, none⟩)) (h : Blk w g 44 (infoV id v1 v2 s u)) : (execOp ev q).run Tryd.prog w = .ok (.value (.agg (infoV id v1 v2 s u))) w := by
  refine exec_cell ho hx ?_
  simp only [Instr.loadAt, Instr.sureAddr, Sem.run_bind, Sem.run_pure, Result.andThen]
  exact iloadVar44 h
theorem exec_istore44 {x y : Operand} {a1 a2 : Option Addr} {c1 c2 : Nat} (ho : q.op = .store 44 x y) (hx : ev x = .pointer (some ⟨g, 0, none⟩)) (hy : ev y = .agg (infoV id2 (.slice a1 n1 c1) (.slice a2 n2 c2) s2 u2)) (h : Blk w g 44 (infoV id v1 v2 s u)) :
    (execOp ev q).run Tryd.prog w = .ok .skip (w.setRow g (infoV id2 (.slice a1 n1 c1) (.slice a2 n2 c2) s2 u2)) := by
  have hs : (Instr.storeAt 44 (.pointer (some ⟨g, 0, none⟩)) (.agg (infoV id2 (.slice a1 n1 c1) (.slice a2 n2 c2) s2 u2))).run Tryd.prog w = .ok () (w.setRow g (infoV id2 (.slice a1 n1 c1) (.slice a2 n2 c2) s2 u2)) := by
    simp only [Instr.storeAt, Instr.sureAddr, Sem.run_bind, Sem.run_pure, Result.andThen]
    exact run_storeVar_row _ _ 44 44 (infoV id v1 v2 s u) _ h isize44 rfl (infoV_one _ _ _ _ _ _ _ _ _)
  unfold execOp
  simp only [ho, hx, hy, Sem.run_bind, hs, Result.andThen_ok]
  rfl
theorem iret44_two {t s' : Tmp} (h : fn.results = #[.cell t 44, .tmp s']) {tmps : Array Value} {y : Value} (hx : tmps.getD t undef = .pointer (some ⟨g, 0, none⟩)) (hy : tmps.getD s' undef = y) (hb : Blk w g 44 (infoV id v1 v2 s u)) :
    (results fn tmps).run Tryd.prog w = .ok (.tuple #[.agg (infoV id v1 v2 s u), y]) w := by
  rw [results_cell_tmp h, hx, hy]
  simp [Result.andThen, asAddr, iloadVar44 hb]
theorem iret44 {x : Tmp} (hf : fn.results = #[.cell x 44]) {tmps : Array Value} (hx : tmps.getD x undef = .pointer (some ⟨g, 0, none⟩)) (hb : Blk w g 44 (infoV id v1 v2 s u)) :
    (results fn tmps).run Tryd.prog w = .ok (.agg (infoV id v1 v2 s u)) w := by
  have hx' : tmps[x]?.getD undef = .pointer (some ⟨g, 0, none⟩) := by rw [← hx]; simp [Array.getD_eq_getD_getElem?]
  simp only [results, hf]
  simp [hx', asAddr, iloadVar44 hb]
theorem exec_ialloc44 (ho : q.op = .alloc 44) : (execOp ev q).run Tryd.prog w = .ok (.value (.pointer (some ⟨w.heap.size, 0, none⟩))) (w.alloc (.cells infoZ 44)) := by
  have ha : (Instr.alloc 44 true (.tuple #[])).run Tryd.prog w = .ok (.pointer (some ⟨w.heap.size, 0, none⟩)) (w.alloc (.cells infoZ 44)) := by kernel_rfl
  unfold execOp
  simp only [ho, Sem.run_bind, ha, Result.andThen_ok]
  rfl
theorem exec_ibuildz44 (ho : q.op = .build 44 #[]) : (execOp ev q).run Tryd.prog w = .ok (.value (.agg infoZ)) w := by
  have hb : (Instr.build 44 #[]).run Tryd.prog w = .ok (.agg infoZ) w := by kernel_rfl
  unfold execOp
  simp only [ho, Array.map_empty, Sem.run_bind, hb, Result.andThen_ok]
  rfl
end
theorem wpList_istop44 {ops : Array Oper} {rest : List Oper} {o : Oper} {act : Act} {Q : Exit → Act → World → Prop} {W : World} {x y : Operand} (_ho : o.op = .store 44 x y) (k : Halt_ (wpList Tryd.prog ops Q (o :: rest) act W)) : wpList Tryd.prog ops Q (o :: rest) act W := k.out
theorem isize47 : (Tryd.prog.info? 47).map (·.size) = some 5 := by kernel_rfl
theorem iund47 : Tryd.prog.underlying 47 = some (.struct (Tryd.prog.fieldsOf 47)) := by kernel_rfl
section
variable {w : World} {g id id2 n1 n2 u u2 : Nat} {v1 v2 v3 v4 : Value} {s s2 : Bool} {fn : Func} {ev : Operand → Value} {q : Oper}
theorem iloadVar47 (h : Blk w g 47 (infoV id v1 v2 s u)) : (loadVar 47 ⟨g, 0, none⟩).run Tryd.prog w = .ok (.agg (infoV id v1 v2 s u)) w :=
  run_loadVar_row _ _ 47 47 (infoV id v1 v2 s u) (0, 0) _ h iund47 rfl isize47
theorem exec_iload47 {x : Operand} (ho : q.op = .load 47 x) (hx : ev x = .pointer (some ⟨g, 0, none⟩)) (h : Blk w g 47 (infoV id v1 v2 s u)) : (execOp ev q).run Tryd.prog w = .ok (.value (.agg (infoV id v1 v2 s u))) w := by
  refine exec_cell ho hx ?_
  simp only [Instr.loadAt, Instr.sureAddr, Sem.run_bind, Sem.run_pure, Result.andThen]
  exact iloadVar47 h
theorem exec_istore47 {x y : Operand} {a1 a2 : Option Addr} {c1 c2 : Nat} (ho : q.op = .store 47 x y) (hx : ev x = .pointer (some ⟨g, 0, none⟩)) (hy : ev y = .agg (infoV id2 (.slice a1 n1 c1) (.slice a2 n2 c2) s2 u2)) (h : Blk w g 47 (infoV id v1 v2 s u)) :
    (execOp ev q).run Tryd.prog w = .ok .skip (w.setRow g (infoV id2 (.slice a1 n1 c1) (.slice a2 n2 c2) s2 u2)) := by
  have hs : (Instr.storeAt 47 (.pointer (some ⟨g, 0, none⟩)) (.agg (infoV id2 (.slice a1 n1 c1) (.slice a2 n2 c2) s2 u2))).run Tryd.prog w = .ok () (w.setRow g (infoV id2 (.slice a1 n1 c1) (.slice a2 n2 c2) s2 u2)) := by
    simp only [Instr.storeAt, Instr.sureAddr, Sem.run_bind, Sem.run_pure, Result.andThen]
    exact run_storeVar_row _ _ 47 47 (infoV id v1 v2 s u) _ h isize47 rfl (infoV_one _ _ _ _ _ _ _ _ _)
  unfold execOp
  simp only [ho, hx, hy, Sem.run_bind, hs, Result.andThen_ok]
  rfl
theorem iret47_two {t s' : Tmp} (h : fn.results = #[.cell t 47, .tmp s']) {tmps : Array Value} {y : Value} (hx : tmps.getD t undef = .pointer (some ⟨g, 0, none⟩)) (hy : tmps.getD s' undef = y) (hb : Blk w g 47 (infoV id v1 v2 s u)) :
    (results fn tmps).run Tryd.prog w = .ok (.tuple #[.agg (infoV id v1 v2 s u), y]) w := by
  rw [results_cell_tmp h, hx, hy]
  simp [Result.andThen, asAddr, iloadVar47 hb]
theorem iret47 {x : Tmp} (hf : fn.results = #[.cell x 47]) {tmps : Array Value} (hx : tmps.getD x undef = .pointer (some ⟨g, 0, none⟩)) (hb : Blk w g 47 (infoV id v1 v2 s u)) :
    (results fn tmps).run Tryd.prog w = .ok (.agg (infoV id v1 v2 s u)) w := by
  have hx' : tmps[x]?.getD undef = .pointer (some ⟨g, 0, none⟩) := by rw [← hx]; simp [Array.getD_eq_getD_getElem?]
  simp only [results, hf]
  simp [hx', asAddr, iloadVar47 hb]
theorem exec_ialloc47 (ho : q.op = .alloc 47) : (execOp ev q).run Tryd.prog w = .ok (.value (.pointer (some ⟨w.heap.size, 0, none⟩))) (w.alloc (.cells infoZ 47)) := by
  have ha : (Instr.alloc 47 true (.tuple #[])).run Tryd.prog w = .ok (.pointer (some ⟨w.heap.size, 0, none⟩)) (w.alloc (.cells infoZ 47)) := by kernel_rfl
  unfold execOp
  simp only [ho, Sem.run_bind, ha, Result.andThen_ok]
  rfl
theorem exec_ibuildz47 (ho : q.op = .build 47 #[]) : (execOp ev q).run Tryd.prog w = .ok (.value (.agg infoZ)) w := by
  have hb : (Instr.build 47 #[]).run Tryd.prog w = .ok (.agg infoZ) w := by kernel_rfl
  unfold execOp
  simp only [ho, Array.map_empty, Sem.run_bind, hb, Result.andThen_ok]
  rfl
end
theorem wpList_istop47 {ops : Array Oper} {rest : List Oper} {o : Oper} {act : Act} {Q : Exit → Act → World → Prop} {W : World} {x y : Operand} (_ho : o.op = .store 47 x y) (k : Halt_ (wpList Tryd.prog ops Q (o :: rest) act W)) : wpList Tryd.prog ops Q (o :: rest) act W := k.out
section
variable {w : World} {ev : Operand → Value} {q : Oper}
theorem exec_ibuild44 {x y : Operand} {id u : Nat} (ho : q.op = .build 44 #[(0, x), (4, y)]) (hx : ev x = .int .u32 (id : Int)) (hy : ev y = .int .i64 (u : Int)) : (execOp ev q).run Tryd.prog w = .ok (.value (.agg (infoV id (.slice none 0 0) (.slice none 0 0) false u))) w := by
  have hm : (#[((0 : Nat), x), (4, y)]).map (fun (i, x) => (i, ev x)) = #[(0, .int .u32 (id : Int)), (4, .int .i64 (u : Int))] := by simp [hx, hy]
  have hb : (Instr.build 44 #[(0, .int .u32 (id : Int)), (4, .int .i64 (u : Int))]).run Tryd.prog w = .ok (.agg (infoV id (.slice none 0 0) (.slice none 0 0) false u)) w := run_build w 44 _ _ (by kernel_rfl)
  unfold execOp
  simp only [ho, hm, Sem.run_bind, hb, Result.andThen_ok]
  rfl
end

/-- What Scan answers. -/
def InfoP (sc : Option (Nat × Seg.St)) (w : World) (e : Ending) (w' : World) : Prop :=
  (sc = none ∧ e = .returned (.tuple #[.agg infoZ, .int .i64 5]) ∧ Below w.heap.size w w') ∨
  ∃ (id : Nat) (s : Seg.St) (a1 : Option Addr) (c1 : Nat) (a2 : Option Addr) (c2 : Nat), sc = some (id, s) ∧ e = .returned (.tuple #[.agg (infoV id (.slice a1 s.ops.length c1) (.slice a2 s.ats.length c2) s.shut s.used), .int .i64 0]) ∧
    OwnG w' 29 23 w.heap.size a1 s.ops.length c1 (cellsO s.ops) ∧ OwnG w' 3 1 w.heap.size a2 s.ats.length c2 (cellsN s.ats) ∧ Below w.heap.size w w'

theorem Frm.first_len {bs : List Nat} (hs : ∀ c ∈ bs, c < 256) (h : (Frm.first bs).2.2 = 0) : (Frm.fr (Frm.first bs).1).length = (Frm.first bs).2.1 := by
  rcases Frm.first_ways bs with ⟨x, k, e, hG, he, hf⟩ | ⟨x, k, hG, hx, hf⟩ | ⟨x, k, hG, hx, hl, hf⟩ | ⟨x, k, hG, hx, hl, hn, hf⟩ | ⟨x, k, hG, hx, hl, hn, hf⟩
  · rw [hf] at h; exact absurd h he
  · rw [hf] at h; cases h
  · rw [hf] at h; cases h
  · rw [hf] at h; cases h
  · rw [hf]
    have hk := Frm.G_begin_len hs hG
    have hlen : ((bs.take (k + x)).drop k).length = x := by rw [List.length_drop, List.length_take]; omega
    rw [Frm.fr_len, hlen, hk]

/-- The place of a segment's number of bytes used. -/
def usedOf (W : World) (g : Nat) : Nat := match W.cell? ⟨g, 4, none⟩ with
  | some (.int _ z) => z.toNat
  | _ => 0

/-- In the middle of a scan. -/
structure Sm (bs : List Nat) (w W : World) (g id : Nat) (fin s : Seg.St) (a1 : Option Addr) (c1 : Nat) (a2 : Option Addr) (c2 : Nat) : Prop where
  inf : Inf W g id s.ops.length s.ops.length s.ops s.ats s.shut s.used a1 c1 a2 c2
  res : Blk W w.heap.size 44 infoZ
  old : Below w.heap.size w W
  lt : w.heap.size < g
  le : s.used ≤ bs.length
  few : s.ops.length ≤ s.used
  run : fin = Seg.run s (Frm.scan (bs.drop s.used)).1

theorem Sm.stop {bs : List Nat} {w W w' : World} {g id : Nat} {fin s : Seg.St} {a1 a2 : Option Addr} {c1 c2 : Nat} (h : Sm bs w W g id fin s a1 c1 a2 c2) (hsc : Seg.scan bs = some (id, fin)) (hf : fin = s) (hb : Below W.heap.size W w') :
    InfoP (Seg.scan bs) w (.returned (.tuple #[.agg (infoV id (.slice a1 s.ops.length c1) (.slice a2 s.ops.length c2) s.shut s.used), .int .i64 0])) (w'.setRow w.heap.size (infoV id (.slice a1 s.ops.length c1) (.slice a2 s.ops.length c2) s.shut s.used)) := by
  have hI := h.inf.below hb
  have hl := h.inf.len
  have hks := Kept.setRow w' w.heap.size (infoV id (.slice a1 s.ops.length c1) (.slice a2 s.ops.length c2) s.shut s.used)
  have hg := h.lt
  refine .inr ⟨id, s, a1, c1, a2, c2, by rw [hsc, hf], by rw [hl.2], (hI.ops.keep hks (fun ad ha e => by have := (hI.ops.lt ad ha).1; omega)).mono (by omega), ?_, (h.old.trans (hb.mono h.old.size)).trans (hks.below (Nat.le_trans h.old.size hb.size) (fun i hi => by omega))⟩
  rw [hl.2]
  exact (hI.ats.keep hks (fun ad ha e => by have := (hI.ats.lt ad ha).1; omega)).mono (by omega)

theorem numOf_z (a : Option Addr) (len cap k most : Nat) (K Z : Int) (hK : K = (k : Int)) (hZ : Z = (most : Int)) (fs : List Nat) (w : World) (hl : len ≤ 1000000) (hR : Row w a len fs) (hz : a = none → len = 0 ∧ cap = 0) (hk0 : k ≠ 0) (hk : k < 100) (hm : most < 4294967296) :
    Calls Tryd.prog 33 #[.slice a len cap, .int .u64 K, .int .u64 Z] w (NumP k most fs w) := by
  subst hK hZ
  exact numOf_any a len cap k most fs w hl hR hz hk0 hk hm

theorem take_len {s t : Seg.St} {c : List Nat} (h : Seg.take s c = some t) (hl : s.ats.length = s.ops.length) : t.ats.length = t.ops.length ∧ t.ops.length ≤ s.ops.length + 1 ∧ t.used = s.used + (Frm.fr c).length := by
  unfold Seg.take at h
  split at h
  · obtain rfl := Option.some.inj h
    simp [hl]
  · split at h
    · split at h
      · obtain rfl := Option.some.inj h
        exact ⟨hl, Nat.le_succ _, rfl⟩
      · cases h
    · cases h

theorem Sm.step {bs : List Nat} {w wr w3 w4 : World} {g id : Nat} {fin : Seg.St} {so : List O} {sa : List Nat} {su : Nat} {t : Seg.St} {b1 b2 b3 b4 : Option Addr} {d1 d2 d3 d4 m : Nat} {c : List Nat} (hs : ∀ c ∈ bs, c < 256)
    (h : Sm bs w wr g id fin ⟨so, sa, su, false⟩ b1 d1 b2 d2) (hf : Frm.first (bs.drop su) = (c, m, 0)) (htk : Seg.take ⟨so, sa, su, false⟩ c = some ⟨t.ops, t.ats, su + (Frm.fr c).length, t.shut⟩)
    (hb3 : Below wr.heap.size wr w3) (hI : Inf w4 g id t.ops.length t.ats.length t.ops t.ats t.shut su b3 d3 b4 d4) (hb4 : Below g w3 w4) :
    ∀ Z : Int, Z = ((su + m : Nat) : Int) → Sm bs w (w4.setCell ⟨g, 4, none⟩ (.int .i64 Z)) g id fin ⟨t.ops, t.ats, su + m, t.shut⟩ b3 d3 b4 d4 := by
  rintro Z rfl
  have hsd : ∀ x ∈ bs.drop su, x < 256 := fun x hx => hs x (List.mem_of_mem_drop hx)
  have he : (Frm.first (bs.drop su)).2.2 = 0 := by rw [hf]
  have hfl := Frm.first_len hsd he
  have hfz := Frm.first_size he
  rw [hf] at hfl hfz
  simp only at hfl hfz
  have hll := take_len htk (by have := h.inf.len; simp only at this; rw [this.2])
  simp only at hll
  have hi4 := hI.use4 (su + m)
  have hr3 := (h.res.below hb3)
  have hlt := h.lt
  have hle := h.le
  have hfew := h.few
  simp only at hle hfew
  rw [List.length_drop] at hfz
  have hks : Kept (fun i => i = g) w4 (w4.setCell ⟨g, 4, none⟩ (.int .i64 ((su + m : Nat) : Int))) := Kept.setCell w4 ⟨g, 4, none⟩ _
  refine ⟨by rw [← hll.1]; rw [hll.1]; have := hi4; rw [hll.1] at this; exact this, ?_, ?_, hlt, by simp only; omega, by simp only; omega, ?_⟩
  · have : Blk w4 w.heap.size 44 infoZ := (hb4.block _ hlt).trans hr3
    exact this.kept hks (by omega)
  · have h1 := h.old.trans (hb3.mono h.old.size)
    have h2 : Below w.heap.size w3 w4 := hb4.mono (by omega)
    exact (h1.trans h2).trans (hks.below (Nat.le_trans (h1.trans h2).size (Nat.le_refl _)) (fun i hi => by omega))
  · rw [h.run, Frm.scan_step he, Seg.run_step rfl (by rw [hf]; exact htk), hf]
    simp only [List.drop_drop]
    rw [hfl]

theorem Sm.fail {bs : List Nat} {w wr w3 w4 : World} {g id : Nat} {fin s : Seg.St} {b1 b2 b3 b4 : Option Addr} {d1 d2 d3 d4 : Nat}
    (h : Sm bs w wr g id fin s b1 d1 b2 d2) (hb3 : Below wr.heap.size wr w3) (hI : Inf w4 g id s.ops.length s.ats.length s.ops s.ats s.shut s.used b3 d3 b4 d4) (hb4 : Below g w3 w4) : Sm bs w w4 g id fin s b3 d3 b4 d4 := by
  have hl := h.inf.len
  have hlt := h.lt
  rw [hl.2] at hI
  have h1 := h.old.trans (hb3.mono h.old.size)
  exact ⟨hI, (hb4.block _ hlt).trans (h.res.below hb3), h1.trans (hb4.mono (by omega)), hlt, h.le, h.few, h.run⟩
theorem usedOf_eq {W : World} {g : Nat} {k : IntKind} {z : Int} (h : W.cell? ⟨g, 4, none⟩ = some (.int k z)) : usedOf W g = z.toNat := by
  unfold usedOf
  rw [h]

theorem ilaid_old (w : World) (cs ds : Array Value) : Below w.heap.size w ((w.alloc (.cells cs 44)).setRow w.heap.size ds) := (below_one w _).trans ((Kept.setRow _ _ _).below (by simp) (fun k hk => by omega))

set_option maxHeartbeats 4000000 in
set_option maxRecDepth 100000 in
theorem sscan_any (a : Option Addr) (len cap : Nat) (bs : List Nat) (w : World) (hT : Tab w) (hR : Row w a len bs) (hz : a = none → len = 0 ∧ cap = 0) (hc : len ≤ cap) (hl : len ≤ 100000) :
    Calls Tryd.prog 16 #[.slice a len cap] w (InfoP (Seg.scan bs) w) := by
  have hal := below_one w (.cells infoZ 44)
  have HRES := Lib.hid (Blk.new w 44 infoZ)
  have HT := Lib.hid hT
  have HR := Lib.hid hR
  have HZ := Lib.hid hz
  have HLN := Lib.hid hR.size
  have HAL := Lib.hid hal
  have HF0 := Lib.hid (first_any a len cap bs _ (hT.below hal) (hR.below hal) hz hc (by omega))
  clear hT hR hz hal
  go_enter Tryd.func16, Tryd.ntmps16
  go_wp2_with (refine wpList_run rfl (exec_ialloc44 rfl) ?_)
  refine HF0.out.mono ?_
  rintro e w1 ⟨a1, c1, rfl, ho1, hb1⟩
  have HB1 := Lib.hid hb1
  have HO1 := Lib.hid ho1
  clear ho1 hb1 HF0
  by_cases he : (Frm.first bs).2.2 = 0
  · have hfs := Frm.first_size he
    have HFL := Lib.hid (Frm.first_len HR.out.small he)
    have HSM := Lib.hid (Frm.first_small HR.out.small)
    have HSC := Lib.hid (Frm.scan_step he)
    rw [HLN.out] at hfs
    rw [he]
    generalize Frm.first bs = f at *
    obtain ⟨fc, fm, fe⟩ := f
    simp only at hfs HFL HSM HSC HO1 ⊢
    have HN := Lib.hid (numOf_z a1 fc.length c1 1 Seg.big 1 4294967295 (by omega) (by rw [Seg.big_eq]; omega) fc w1 (by omega) (HO1.out.row HSM.out) HO1.out.cap.2.2 (by omega) (by omega) (by rw [Seg.big_eq]; omega))
    clear he
    rcases Seg.num_two (k := 1) (most := Seg.big) fc with ⟨id, hid, -, hsome⟩ | ⟨-, hnone⟩
    · have HS : Hid (Seg.num 1 Seg.big fc = some id) := Lib.hid hsome
      have HTL : Hid (Seg.scan bs = some (id, Seg.run ⟨[], [], fm, false⟩ (Frm.scan (bs.drop fm)).1)) := Lib.hid (by
        have := Seg.scan_cons (bs := bs) (c := fc) (cs := (Frm.scan (bs.drop fm)).1) (by rw [HSC.out]) hsome
        rw [HFL.out] at this
        exact this)
      have hid2 : id ≤ 4294967295 := by rw [Seg.big_eq] at hid; exact hid
      clear hsome hid
      go_wp2_with fail
      refine HN.out.mono ?_
      intro e w2 hq
      obtain ⟨rfl, hb2⟩ := numP_some HS.out hq
      have HB2 : Hid (Below w.heap.size w w2) := Lib.hid (HAL.out.trans ((HB1.out.trans (hb2.mono HB1.out.size)).mono HAL.out.size))
      have HRES2 := Lib.hid ((HRES.out.below HB1.out).below hb2)
      have hcv : IntKind.u32.wrap (id : Int) = (id : Int) := by rw [IntKind.wrap_u32]; omega
      clear hq hb2 HN HB1 HAL HO1 HRES
      go_wp2_with (first | (refine wpList_run rfl (exec_ibuild44 (id := id) (u := fm) rfl rfl rfl) ?_) | (refine wpList_run rfl (exec_ialloc44 rfl) ?_) | (refine wpList_istop44 rfl ?_))
      refine ⟨?_⟩
      refine wpList_void rfl rfl (exec_istore44 (id := 0) (id2 := id) (a1 := none) (n1 := 0) (c1 := 0) (a2 := none) (n2 := 0) (c2 := 0) (s2 := false) (u2 := fm) (u := 0) rfl rfl rfl (Blk.new w2 44 infoZ)) ?_
      have hlo := ilaid_old w2 infoZ (infoV id (.slice none 0 0) (.slice none 0 0) false fm)
      obtain ⟨fin, hfin⟩ : ∃ fin, Seg.run ⟨[], [], fm, false⟩ (Frm.scan (bs.drop fm)).1 = fin := ⟨_, rfl⟩
      rw [hfin] at HTL
      have HSM0 : Hid (Sm bs w ((w2.alloc (.cells infoZ 44)).setRow w2.heap.size (infoV id (.slice none 0 0) (.slice none 0 0) false fm)) w2.heap.size id fin ⟨[], [], fm, false⟩ none 0 none 0) :=
        Lib.hid ⟨⟨(Blk.new w2 44 infoZ).row, ownG_nil _ _ _ _, ownG_nil _ _ _ _⟩, HRES2.out.below hlo, HB2.out.trans (hlo.mono HB2.out.size), HRES2.out.lt, by rw [HLN.out]; exact hfs.2.1, Nat.zero_le _, hfin.symm⟩
      clear hlo hfin HRES2 HB2 HS hcv HFL HSM HSC hfs
      generalize (w2.alloc (.cells infoZ 44)).setRow w2.heap.size (infoV id (.slice none 0 0) (.slice none 0 0) false fm) = W at HSM0
      generalize w2.heap.size = g at HSM0
      go_wp2_with fail
      go_loopw [] (fun wr => ∃ (s : Seg.St) (b1 : Option Addr) (d1 : Nat) (b2 : Option Addr) (d2 : Nat), Hid (Sm bs w wr g id fin s b1 d1 b2 d2)) (fun wr => len - usedOf wr g)
      case atStart => exact ⟨_, _, _, _, _, HSM0⟩
      case round =>
        obtain ⟨s, b1, d1, b2, d2, HM⟩ := hrel
        have k3 := HM.out.inf.cells.2.2.2.1
        have k4 := HM.out.inf.cells.2.2.2.2
        cases hsh : s.shut
        · obtain ⟨so, sa, su, sh⟩ := s
          simp only at hsh k4 ⊢
          subst hsh
          simp only at k3
          have hle := HM.out.le
          have hfew := HM.out.few
          simp only at hle hfew
          rw [HLN.out] at hle
          have hsl := fun W => slice_l .i64 a len cap su W hle
          have HF := Lib.hid (first_any (cutA a cap su) (len - su) (cap - su) (bs.drop su) wr (HT.out.below HM.out.old) (cut_row (HR.out.below HM.out.old) hle hc) (fun h => by have := HZ.out (cut_none h); omega) (by omega) (by omega))
          have HFS := Lib.hid (Frm.first_small (bs := bs.drop su) (fun c hc => HR.out.small c (List.mem_of_mem_drop hc)))
          generalize cutA a cap su = a3 at hsl HF
          by_cases he : (Frm.first (bs.drop su)).2.2 = 0
          · have hfz := Frm.first_size he
            rw [List.length_drop, HLN.out] at hfz
            obtain ⟨f, hf⟩ : ∃ f, Frm.first (bs.drop su) = f := ⟨_, rfl⟩
            rw [hf] at hfz he HFS
            unfold FirstP at HF
            rw [hf] at HF
            obtain ⟨fc, fm, fe⟩ := f
            simp only at he hfz HFS HF
            subst he
            have HFF := Lib.hid hf
            clear hf
            go_wp2_with fail
            refine HF.out.mono ?_
            rintro e w3 ⟨a4, c4, rfl, ho4, hb3⟩
            have HB3 := Lib.hid hb3
            have HI3 := Lib.hid (HM.out.inf.below hb3)
            have HTK := Lib.hid (stake_any g id so.length so sa su b1 d1 b2 d2 a4 fc.length c4 fc w3 HI3.out (ho4.row HFS.out) ho4.cap.2.2 (by omega) (by omega))
            clear ho4 hb3 HF hsl
            go_wp2_with fail
            refine HTK.out.mono ?_
            rintro e w4 ⟨t, r, b3, d3, b4, d4, rfl, hcase, hI4, hb4⟩
            rcases hcase with ⟨rfl, htk⟩ | ⟨rfl, htk, rfl⟩
            · have HSTP := Lib.hid (HM.out.step HR.out.small HFF.out htk HB3.out hI4 hb4)
              have m4 := hI4.cells.2.2.2.2
              have f4 : w4.frozen? ⟨g, 4, none⟩ = false := hI4.blk.frozen 4
              have HU := Lib.hid (fun Z : Int => (fun hz => usedOf_eq ((HSTP.out Z hz).inf.cells.2.2.2.2) : Z = ((su + fm : Nat) : Int) → _))
              have HK4 := Lib.hid k4
              clear htk hI4 hb4 HTK HI3 k3 k4
              go_wp2_with fail
              go_roundw
              case rel => exact ⟨_, _, _, _, _, Lib.hid (HSTP.out _ (by go_num))⟩
              case measure =>
                rw [HU.out _ (by go_num), usedOf_eq HK4.out]
                omega
            · have HM4 := Lib.hid (HM.out.fail HB3.out hI4 hb4)
              have hfin2 : fin = ⟨so, sa, su, false⟩ := by
                have hst := Frm.scan_step (bs := bs.drop su) (by rw [HFF.out])
                rw [HM.out.run, hst, HFF.out]
                exact Seg.run_stop htk _
              have HFIN := Lib.hid hfin2
              clear htk hI4 hb4 HTK HI3 k3 k4 hfin2 HM
              go_wp2_with (first | (refine wpList_run rfl (exec_iload44 (id := id) (s := false) (u := su) rfl rfl HM4.out.inf.blk) ?_) | (refine wpList_istop44 rfl ?_))
              refine ⟨?_⟩
              refine wpList_void rfl rfl (exec_istore44 (id := 0) (id2 := id) (a1 := b3) (n1 := so.length) (c1 := d3) (a2 := b4) (n2 := so.length) (c2 := d4) (s2 := false) (u2 := su) (u := 0) rfl rfl rfl HM4.out.res) ?_
              go_wp2_with fail
              exact bodyPost_ret (iret44_two (t := 2) (s' := 3) (y := .int .i64 0) rfl rfl rfl HM4.out.res.row) rfl (HM4.out.stop HTL.out HFIN.out (Below.refl _ _))
          · have hfin2 : fin = ⟨so, sa, su, false⟩ := by
              rw [HM.out.run, Frm.scan_stop he]
              rfl
            have HFIN := Lib.hid hfin2
            have hne : (((Frm.first (bs.drop su)).2.2 : Int) != 0) = true := by simp; omega
            unfold FirstP at HF
            generalize Frm.first (bs.drop su) = f at *
            obtain ⟨fc, fm, fe⟩ := f
            simp only at hne HF
            clear he hfin2
            go_wp2_with fail
            refine HF.out.mono ?_
            rintro e w3 ⟨a4, c4, rfl, ho4, hb3⟩
            have HM4 := Lib.hid (HM.out.fail (w4 := w3) (b3 := b1) (b4 := b2) (d3 := d1) (d4 := d2) (w3 := w3) hb3 (by have h1 := HM.out.inf.below hb3; have h2 := HM.out.inf.len.2; simp only at h1 h2 ⊢; rw [h2]; exact h1) (Below.refl _ _))
            clear ho4 hb3 HF hsl k3 k4 HM
            go_wp2_with (first | (refine wpList_run rfl (exec_iload44 (id := id) (s := false) (u := su) rfl rfl HM4.out.inf.blk) ?_) | (refine wpList_istop44 rfl ?_))
            refine ⟨?_⟩
            refine wpList_void rfl rfl (exec_istore44 (id := 0) (id2 := id) (a1 := b1) (n1 := so.length) (c1 := d1) (a2 := b2) (n2 := so.length) (c2 := d2) (s2 := false) (u2 := su) (u := 0) rfl rfl rfl HM4.out.res) ?_
            go_wp2_with fail
            exact bodyPost_ret (iret44_two (t := 2) (s' := 3) (y := .int .i64 0) rfl rfl rfl HM4.out.res.row) rfl (HM4.out.stop HTL.out HFIN.out (Below.refl _ _))
        · have hfin2 : fin = s := by rw [HM.out.run, Seg.run_shut hsh]
          rw [hsh] at k3
          have HFIN := Lib.hid hfin2
          clear hfin2 hsh
          go_wp2_with (first | (refine wpList_run rfl (exec_iload44 (id := id) (s := s.shut) (u := s.used) rfl rfl HM.out.inf.blk) ?_) | (refine wpList_istop44 rfl ?_))
          refine ⟨?_⟩
          refine wpList_void rfl rfl (exec_istore44 (id := 0) (id2 := id) (a1 := b1) (n1 := s.ops.length) (c1 := d1) (a2 := b2) (n2 := s.ops.length) (c2 := d2) (s2 := s.shut) (u2 := s.used) (u := 0) rfl rfl rfl HM.out.res) ?_
          go_wp2_with fail
          exact bodyPost_ret (iret44_two (t := 2) (s' := 3) (y := .int .i64 0) rfl rfl rfl HM.out.res.row) rfl (HM.out.stop HTL.out HFIN.out (Below.refl _ _))
    · have HS : Hid (Seg.num 1 Seg.big fc = none) := Lib.hid hnone
      have HTL : Hid (Seg.scan bs = none) := Lib.hid (by
        unfold Seg.scan
        rw [HSC.out]
        exact Seg.tell_none _ hnone)
      clear hnone
      go_wp2_with fail
      refine HN.out.mono ?_
      intro e w2 hq
      obtain ⟨rfl, hb2⟩ := numP_none HS.out hq
      have HB2 : Hid (Below w.heap.size w w2) := Lib.hid (HAL.out.trans ((HB1.out.trans (hb2.mono HB1.out.size)).mono HAL.out.size))
      have HRES2 := Lib.hid ((HRES.out.below HB1.out).below hb2)
      clear hq hb2 HN HB1 HAL HO1 HRES
      go_wp2_with (first | (refine wpList_run rfl (exec_ibuildz44 rfl) ?_) | (refine wpList_istop44 rfl ?_))
      refine ⟨?_⟩
      refine wpList_void rfl rfl (exec_istore44 (id := 0) (id2 := 0) (a1 := none) (n1 := 0) (c1 := 0) (a2 := none) (n2 := 0) (c2 := 0) (s2 := false) (u2 := 0) (u := 0) rfl rfl rfl HRES2.out) ?_
      go_wp2_with fail
      exact bodyPost_ret (iret44_two (t := 2) (s' := 3) (y := .int .i64 5) rfl rfl rfl HRES2.out.row) rfl (.inl ⟨HTL.out, rfl, HB2.out.trans ((Kept.setRow w2 w.heap.size infoZ).below HB2.out.size (fun i hi => by omega))⟩)
  · have HE : Hid (Seg.scan bs = none) := Lib.hid (by
      unfold Seg.scan
      rw [Frm.scan_stop he]
      rfl)
    have hne : (((Frm.first bs).2.2 : Int) != 0) = true := by simp; omega
    have HSM := Lib.hid (Frm.first_small HR.out.small)
    have hln : (Frm.first bs).1.length ≤ 1000000 := by rw [(Frm.first_zero he).1]; simp
    generalize Frm.first bs = f at *
    obtain ⟨fc, fm, fe⟩ := f
    simp only at hne HO1 HSM hln ⊢
    have HN := Lib.hid (numOf_z a1 fc.length c1 1 Seg.big 1 4294967295 (by omega) (by rw [Seg.big_eq]; omega) fc w1 hln (HO1.out.row HSM.out) HO1.out.cap.2.2 (by omega) (by omega) (by rw [Seg.big_eq]; omega))
    clear he
    go_wp2_with fail
    refine HN.out.mono ?_
    rintro e w2 ⟨rfl, hb2⟩
    generalize ((Seg.num 1 Seg.big fc).getD 0 : Int) = q1
    generalize (Seg.num 1 Seg.big fc).isSome = q2
    have HB2 : Hid (Below w.heap.size w w2) := Lib.hid (HAL.out.trans ((HB1.out.trans (hb2.mono HB1.out.size)).mono HAL.out.size))
    have HRES2 := Lib.hid ((HRES.out.below HB1.out).below hb2)
    clear hb2 HN HB1 HAL HO1 HRES
    go_wp2_with (first | (refine wpList_run rfl (exec_ibuildz44 rfl) ?_) | (refine wpList_istop44 rfl ?_))
    refine ⟨?_⟩
    refine wpList_void rfl rfl (exec_istore44 (id := 0) (id2 := 0) (a1 := none) (n1 := 0) (c1 := 0) (a2 := none) (n2 := 0) (c2 := 0) (s2 := false) (u2 := 0) (u := 0) rfl rfl rfl HRES2.out) ?_
    go_wp2_with fail
    exact bodyPost_ret (iret44_two (t := 2) (s' := 3) (y := .int .i64 5) rfl rfl rfl HRES2.out.row) rfl (.inl ⟨HE.out, rfl, HB2.out.trans ((Kept.setRow w2 w.heap.size infoZ).below HB2.out.size (fun i hi => by omega))⟩)

end Go.Proofs.YtfnaccmgmocolaaDoor
