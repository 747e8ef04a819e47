/- Walk of note. -/
import Derived.Test.YtjpmjidpdgikgaaAp
namespace Go.Proofs.Ytjpmjidpdgikgaa
open Go.RowKit Go.Maps

theorem exec_st9 {ev : Operand → Value} {q : Oper} {w : World} {x y : Operand} {g o : Nat} {s : ByteArray} {t : TypeId} {cs : Array Value} (ho : q.op = .store 9 x y) (hx : ev x = .pointer (some ⟨g, o, none⟩)) (hy : ev y = .string s) (h : Blk w g t cs) (hlt : o < cs.size) : (execOp ev q).run Try.prog w = .ok .skip (w.setCell ⟨g, o, none⟩ (.string s)) := by
  have hc : w.cell? ⟨g, o, none⟩ = some cs[o] := by rw [h.cell]; exact Array.getElem?_eq_getElem hlt
  have hf := h.frozen o
  have hst : (Instr.storeAt 9 (.pointer (some ⟨g, o, none⟩)) (.string s)).run Try.prog w = .ok () (w.setCell ⟨g, o, none⟩ (.string s)) := by
    have u := Try.underlying9
    go_simp
  unfold execOp
  simp only [ho, hx, hy, Sem.run_bind, hst, Result.andThen_ok]
  rfl
theorem und54 : Try.prog.underlying 54 = some (.struct (Try.prog.fieldsOf 54)) := by kernel_rfl
theorem size54 : (Try.prog.info? 54).map (·.size) = some 3 := by kernel_rfl
theorem exec_load54 {ev : Operand → Value} {q : Oper} {w : World} {x : Operand} {g : Nat} {s r : ByteArray} {v : Value} (ho : q.op = .load 54 x) (hx : ev x = .pointer (some ⟨g, 0, none⟩)) (h : Blk w g 54 #[.string s, .string r, v]) : (execOp ev q).run Try.prog w = .ok (.value (.agg #[.string s, .string r, v])) w := by
  refine exec_cell ho hx ?_
  simp only [Instr.loadAt, Instr.sureAddr, Sem.run_bind, Sem.run_pure, Result.andThen]
  exact run_loadVar_row _ _ 54 54 _ (0, 0) _ h und54 rfl size54
theorem exec_nil {ev : Operand → Value} {q : Oper} {w : World} {x : Operand} {a : Addr} (ho : q.op = .nilCheck x) (hx : ev x = .pointer (some a)) : (execOp ev q).run Try.prog w = .ok (.value (.pointer (some a))) w := by
  unfold execOp
  simp only [ho, hx]
  rfl
/-- The change in its box, all that was there as it was. -/
def Bx (w : World) (q : Nat) (gone set : ByteArray) (v : Value) (w' : World) : Prop := Blk w' q 54 #[.string gone, .string set, v] ∧ Below w.heap.size w w' ∧ w.heap.size ≤ q
theorem Bx.below {w : World} {q : Nat} {gone set : ByteArray} {v : Value} {W W' : World} (h : Bx w q gone set v W) (hb : Below W.heap.size W W') : Bx w q gone set v W' := ⟨h.1.below hb, h.2.1.trans (hb.mono h.2.1.size), h.2.2⟩
theorem Bx.set0 {w : World} {q : Nat} {gone set : ByteArray} {v : Value} {W : World} (h : Bx w q gone set v W) : Bx w q gone set v (W.setCell ⟨q, 0, none⟩ (.string gone)) := ⟨h.1.set 0 (.string gone), h.2.1.setCell h.2.2 _, h.2.2⟩
theorem Bx.set1 {w : World} {q : Nat} {gone set : ByteArray} {v : Value} {W : World} (h : Bx w q gone set v W) : Bx w q gone set v (W.setCell ⟨q, 1, none⟩ (.string set)) := ⟨h.1.set 1 (.string set), h.2.1.setCell h.2.2 _, h.2.2⟩

theorem info54 : (Try.prog.info? 54).map (fun i => (i.zero, i.size, i.bytes)) = some (some (.agg #[.string ⟨#[]⟩, .string ⟨#[]⟩, .pointer none]), 3, 40) := by kernel_rfl
theorem und41 : Try.prog.underlying 41 = some (.slice 54) := Try.underlying41
theorem exec_bs54 {ev : Operand → Value} {q : Oper} {w : World} {x : Operand} {s r : ByteArray} {v : Option Addr} (ho : q.op = .buildSlice 41 1 #[(0, x)]) (hx : ev x = .agg #[.string s, .string r, .pointer v]) : (execOp ev q).run Try.prog w = .ok (.value (.slice (some ⟨w.heap.size, 0, none⟩) 1 1)) (w.alloc (.cells #[.string s, .string r, .pointer v] 54)) := by
  have hm : (#[((0 : Nat), x)]).map (fun (i, x) => (i, ev x)) = #[(0, Value.agg #[.string s, .string r, .pointer v])] := by simp [hx]
  obtain ⟨i0, hi, hz0, hz1, hz2⟩ := info_parts info54
  have hb : (Instr.buildSlice 41 1 #[(0, Value.agg #[.string s, .string r, .pointer v])]).run Try.prog w = .ok (.slice (some ⟨w.heap.size, 0, none⟩) 1 1) (w.alloc (.cells #[.string s, .string r, .pointer v] 54)) := by
    refine run_buildSlice w 41 54 1 _ _ i0 _ und41 hi hz0 (by rw [hz1]; omega) (by rw [hz1]; omega) ?_
    rw [hz1]
    kernel_rfl
  unfold execOp
  simp only [ho, hm, Sem.run_bind, hb, Result.andThen_ok]
  rfl
theorem exec_st41 {ev : Operand → Value} {q : Oper} {w : World} {x y : Operand} {g o : Nat} {a : Option Addr} {n cap : Nat} {t2 : TypeId} {cs : Array Value} (ho : q.op = .store 41 x y) (hx : ev x = .pointer (some ⟨g, o, none⟩)) (hy : ev y = .slice a n cap) (h : Blk w g t2 cs) (hlt : o < cs.size) : (execOp ev q).run Try.prog w = .ok .skip (w.setCell ⟨g, o, none⟩ (.slice a n cap)) := by
  have hc : w.cell? ⟨g, o, none⟩ = some cs[o] := by rw [h.cell]; exact Array.getElem?_eq_getElem hlt
  have hf := h.frozen o
  have hst : (Instr.storeAt 41 (.pointer (some ⟨g, o, none⟩)) (.slice a n cap)).run Try.prog w = .ok () (w.setCell ⟨g, o, none⟩ (.slice a n cap)) := by
    have u := Try.underlying41
    go_simp
  unfold execOp
  simp only [ho, hx, hy, Sem.run_bind, hst, Result.andThen_ok]
  rfl
theorem ownG_block {w : World} {e size B n cap : Nat} {a : Option Addr} {vs : List (List Value)} (h : OwnG w e size B a n cap vs) : ∀ i, At a i → ∃ cs fr, w.heap[i]? = some (.cells cs e fr) := by
  rintro i ⟨ad, rfl, rfl⟩
  rcases h.row.2 with ⟨h0, _⟩ | ⟨g, cap', cur, hv, _, hg, _⟩
  · simp at h0
  · simp only [Value.slice.injEq, Option.some.injEq] at hv
    obtain ⟨rfl, _⟩ := hv
    exact ⟨_, _, hg⟩
theorem ownG_notBlk {w : World} {e size B n cap g t : Nat} {a : Option Addr} {vs : List (List Value)} {cs : Array Value} (h : OwnG w e size B a n cap vs) (hb : Blk w g t cs) (ht : e ≠ t) : ¬ At a g := fun ha => by
  obtain ⟨_, _, he⟩ := ownG_block h g ha
  unfold Blk at hb
  rw [hb] at he
  simp only [Option.some.injEq, Obj.cells.injEq] at he
  exact ht he.2.1.symm
theorem ownG_notMap {w : World} {e size B n cap m k kt : Nat} {a : Option Addr} {vs : List (List Value)} {f : Lit → Option Value} (h : OwnG w e size B a n cap vs) (hm : MpF w kt m k f) : ¬ At a m := fun ha => by
  obtain ⟨_, _, he⟩ := ownG_block h m ha
  obtain ⟨D, ⟨⟨es, clock, hb, _⟩, _⟩⟩ := hm
  rw [hb] at he
  cases he
/-- The pending changes behind one more. -/
def addCh (vs : List (List Value)) (gone set : ByteArray) (v : Option Addr) : List (List Value) := if vs.length < 255 then vs ++ [[.string gone, .string set, .pointer v]] else vs
/-- What note leaves. -/
def Noted (B p room n m k : Nat) (m2 : Option Nat) (f : Lit → Option Value) (pa : Option Addr) (vs : List (List Value)) (gone set : ByteArray) (v : Option Addr) (w : World) (e : Ending) (w' : World) : Prop :=
  e = .returned (.tuple #[]) ∧ ∃ k' qa qn qc, k' ≤ k + 1 ∧ Dk w' p room n (some m) m2 qa qn qc ∧ MpF w' 9 m k' (chF f gone set (.pointer v)) ∧ OwnG w' 54 3 B qa qn qc (addCh vs gone set v) ∧ Lies w pa qa ∧ Kept (fun i => i = p ∨ i = m ∨ At pa i) w w'

set_option maxRecDepth 100000 in
set_option maxHeartbeats 4000000 in
theorem note_any {w : World} {p room n m k : Nat} {m2 : Option Nat} {pa : Option Addr} {pn pc : Nat} {f : Lit → Option Value} {B : Nat} {vs : List (List Value)} (gone set : ByteArray) (v : Option Addr) (h : Dk w p room n (some m) m2 pa pn pc) (hm : MpF w 9 m k f) (ho : OwnG w 54 3 B pa pn pc vs) (hB : B ≤ w.heap.size) (hk : k < 900000) (h1 : gone.size ≤ 1000000) (h2 : set.size ≤ 1000000) :
    Calls Try.prog 21 #[.pointer (some ⟨p, 0, none⟩), .agg #[.string gone, .string set, .pointer v]] w (Noted B p room n m k m2 f pa vs gone set v w) := by
  have H0 : Hid (Bx w w.heap.size gone set (.pointer v) (w.alloc (.cells #[.string gone, .string set, .pointer v] 54))) := Lib.hid ⟨Blk.new w 54 _, below_one _ _, Nat.le_refl _⟩
  have HD := Lib.hid h
  have HM := Lib.hid hm
  have HO := Lib.hid ho
  have HLB := Lib.hid hB
  have HPN : Hid (pn = vs.length) := Lib.hid ho.len.symm
  clear h hm ho hB
  go_enter Try.func21, Try.ntmps21
  go_upto_region 1 with fail
  try simp only [World.size_alloc, Act.put, List.setIfInBounds_toArray, List.set_cons_zero, List.set_cons_succ]
  generalize w.alloc (.cells #[.string gone, .string set, .pointer v] 54) = w0 at H0 ⊢
  obtain ⟨q, hq⟩ : ∃ q, w.heap.size = q := ⟨_, rfl⟩
  rw [show Bx w w.heap.size gone set (.pointer v) w0 = Bx w q gone set (.pointer v) w0 by rw [hq]] at H0
  rw [hq]
  clear hq
  refine wp_region_held_drew (S := Bx w q gone set (.pointer v)) (by kernel_rfl) (H0.out.below (drew_below _)) (fun hS => ?_)
  refine held_take 0 4 (.pointer (some ⟨q, 0, none⟩)) rfl rfl (by kernel_rfl) (by kernel_rfl) (by kernel_rfl) (fun _ _ _ h => h) (by kernel_rfl) (fun _ _ => (by kernel_rfl)) hS ?_
  simp only [Act.put, List.setIfInBounds_toArray, List.set_cons_zero, List.set_cons_succ]
  refine held_take 1 5 (.string gone) rfl rfl (by kernel_rfl) (by kernel_rfl) (by kernel_rfl) (fun _ _ _ h => h) (by kernel_rfl) (fun _ h => exec_cell rfl rfl (load_cell (by kernel_rfl) (h.1.cell 0))) hS ?_
  simp only [Act.put, List.setIfInBounds_toArray, List.set_cons_zero, List.set_cons_succ]
  refine held_take 3 7 (.pointer (some ⟨q, 1, none⟩)) rfl rfl (by kernel_rfl) (by kernel_rfl) (by kernel_rfl) (fun _ _ _ h => h) (by kernel_rfl) (fun _ _ => (by kernel_rfl)) hS ?_
  simp only [Act.put, List.setIfInBounds_toArray, List.set_cons_zero, List.set_cons_succ]
  refine held_take 4 8 (.string set) rfl rfl (by kernel_rfl) (by kernel_rfl) (by kernel_rfl) (fun _ _ _ h => h) (by kernel_rfl) (fun _ h => exec_cell rfl rfl (load_cell (by kernel_rfl) (h.1.cell 1))) hS ?_
  simp only [Act.put, List.setIfInBounds_toArray, List.set_cons_zero, List.set_cons_succ]
  refine held_call 2 6 30 #[(.string gone)] (.string gone) rfl (by kernel_rfl) rfl (by kernel_rfl) (by kernel_rfl) (sclone_any gone _ h1) (fun _ h hb => h.below hb) hS (fun w102 hS => ?_)
  simp only [Act.put, List.setIfInBounds_toArray, List.set_cons_zero, List.set_cons_succ]
  refine held_take 6 10 (.pointer (some ⟨q, 0, none⟩)) rfl rfl (by kernel_rfl) (by kernel_rfl) (by kernel_rfl) (fun _ _ _ h => h) (by kernel_rfl) (fun _ _ => (by kernel_rfl)) hS ?_
  simp only [Act.put, List.setIfInBounds_toArray, List.set_cons_zero, List.set_cons_succ]
  refine held_call 5 9 30 #[(.string set)] (.string set) rfl (by kernel_rfl) rfl (by kernel_rfl) (by kernel_rfl) (sclone_any set _ h2) (fun _ h hb => h.below hb) hS (fun w105 hS => ?_)
  simp only [Act.put, List.setIfInBounds_toArray, List.set_cons_zero, List.set_cons_succ]
  refine held_void 7 rfl rfl (by kernel_rfl) (by kernel_rfl) (exec_st9 rfl rfl rfl hS.1 (by show 0 < 3; omega)) hS.set0 ?_
  have hS := hS.set0
  refine held_take 8 11 (.pointer (some ⟨q, 1, none⟩)) rfl rfl (by kernel_rfl) (by kernel_rfl) (by kernel_rfl) (fun _ _ _ h => h) (by kernel_rfl) (fun _ _ => (by kernel_rfl)) hS ?_
  simp only [Act.put, List.setIfInBounds_toArray, List.set_cons_zero, List.set_cons_succ]
  refine held_void 9 rfl rfl (by kernel_rfl) (by kernel_rfl) (exec_st9 rfl rfl rfl hS.1 (by show 1 < 3; omega)) hS.set1 ?_
  have hS := hS.set1
  refine wpAnyH_done (by kernel_rfl) ?_ _
  have H1 := Lib.hid hS
  clear hS
  generalize (w105.setCell ⟨q, 0, none⟩ (.string gone)).setCell ⟨q, 1, none⟩ (.string set) = w1 at H1 ⊢
  go_upto_region 2 with fail
  have H2 := Lib.hid (H1.out.below (drew_below _))
  have HD2 := Lib.hid (HD.out.below H2.out.2.1)
  have HM2 := Lib.hid (HM.out.below H2.out.2.1)
  have HN : Hid (¬ q = m ∧ ¬ p = m) := Lib.hid ⟨fun e => HM2.out.ne H2.out.1 e.symm, fun e => HM2.out.ne HD2.out e.symm⟩
  refine wp_region_held_drew (S := fun w' => Blk w' q 54 #[.string gone, .string set, .pointer v] ∧ Dk w' p room n (some m) m2 pa pn pc) (by kernel_rfl) ⟨H2.out.1, HD2.out⟩ (fun hS => ?_)
  refine held_take 0 12 (.agg #[.string gone, .string set, .pointer v]) rfl rfl (by kernel_rfl) (by kernel_rfl) (by kernel_rfl) (fun _ _ _ h => h) (by kernel_rfl) (fun _ h => exec_load54 rfl rfl h.1) hS ?_
  simp only [Act.put, List.setIfInBounds_toArray, List.set_cons_zero, List.set_cons_succ]
  refine held_take 1 13 (.pointer (some ⟨p, 0, none⟩)) rfl rfl (by kernel_rfl) (by kernel_rfl) (by kernel_rfl) (fun _ _ _ h => h) (by kernel_rfl) (fun _ _ => rfl) hS ?_
  simp only [Act.put, List.setIfInBounds_toArray, List.set_cons_zero, List.set_cons_succ]
  refine held_take 2 14 (.pointer (some ⟨p, 0, none⟩)) rfl rfl (by kernel_rfl) (by kernel_rfl) (by kernel_rfl) (fun _ _ _ h => h) (by kernel_rfl) (fun _ _ => exec_nil rfl rfl) hS ?_
  simp only [Act.put, List.setIfInBounds_toArray, List.set_cons_zero, List.set_cons_succ]
  refine held_take 3 15 (.pointer (some ⟨p, 2, none⟩)) rfl rfl (by kernel_rfl) (by kernel_rfl) (by kernel_rfl) (fun _ _ _ h => h) (by kernel_rfl) (fun _ _ => (by kernel_rfl)) hS ?_
  simp only [Act.put, List.setIfInBounds_toArray, List.set_cons_zero, List.set_cons_succ]
  refine held_take 4 16 (.map (some m)) rfl rfl (by kernel_rfl) (by kernel_rfl) (by kernel_rfl) (fun _ _ _ h => h) (by kernel_rfl) (fun _ h => exec_cell rfl rfl (load_cell (by kernel_rfl) (h.2.cell 2))) hS ?_
  simp only [Act.put, List.setIfInBounds_toArray, List.set_cons_zero, List.set_cons_succ]
  refine held_callP 5 17 25 #[(.agg #[.string gone, .string set, .pointer v]), (.map (some m))] rfl (by kernel_rfl) rfl (by kernel_rfl) (by kernel_rfl) (apply_any gone set (.pointer v) HM2.out hk h1 h2) (fun e w105 hP => ?_)
  obtain ⟨rfl, ⟨k2, hk2, hm2⟩, kp2⟩ := hP
  refine ⟨_, rfl, ⟨hS.1.kept kp2 HN.out.1, hS.2.kept kp2 HN.out.2⟩, fun hS => ?_⟩
  simp only [Act.put, List.setIfInBounds_toArray, List.set_cons_zero, List.set_cons_succ]
  refine wpAnyH_done (by kernel_rfl) ?_ _
  have H3 := Lib.hid hS
  have HM3 := Lib.hid hm2
  have HO2 := Lib.hid (HO.out.below H2.out.2.1)
  have HNM := Lib.hid (ownG_notMap HO2.out HM2.out)
  have HO3 := Lib.hid (HO2.out.keep kp2 (fun ad ha e => HNM.out ⟨ad, ha, e.symm⟩))
  have HK3 : Hid (Kept (fun i => i = p ∨ i = m ∨ At pa i) w w105) := Lib.hid ((Kept.of_below H2.out.2.1).trans kp2 (fun i hi => .inl (.inr (.inl hi))))
  have HNQ : Hid (¬ At pa q) := Lib.hid (fun ⟨ad, ha, e⟩ => by have := (HO.out.lt ad ha).2; have := H2.out.2.2; omega)
  have HQP : Hid (¬ q = p) := Lib.hid (fun e => by have := HD.out.lt; have := H2.out.2.2; omega)
  have HL3 := Lib.hid (Nat.le_trans H2.out.2.1.size kp2.size)
  clear hS hm2 kp2 H0 H1 HD HM HO H2 HD2 HM2 HN HO2 HNM
  have u4 : w105.cell? ⟨p, 4, none⟩ = some (.slice pa pn pc) := H3.out.2.cell 4
  by_cases hlt : pn < 255
  case neg =>
    have q1 : decide ((pn : Int) < 255) = false := by simp; omega
    go_wp2_with fail
    exact Go.Great.bodyPost_end0 rfl rfl ⟨rfl, k2, pa, pn, pc, hk2, H3.out.2, HM3.out, by unfold addCh; rw [if_neg (by have := HPN.out; omega)]; exact HO3.out, fun ad ha => .inl ⟨ad, ha, rfl⟩, HK3.out⟩
  have q1 : decide ((pn : Int) < 255) = true := by simp; omega
  go_upto_region 4 with fail
  have HD4 := Lib.hid (H3.out.2.below (drew_below _))
  have HM4 := Lib.hid (HM3.out.below (drew_below _))
  have HO4 := Lib.hid (HO3.out.below (drew_below _))
  have HL4 := Lib.hid (show B ≤ w105.drew.heap.size from Nat.le_trans HLB.out (Nat.le_trans HL3.out (drew_below _).size))
  have HNP := Lib.hid (ownG_notBlk HO3.out H3.out.2 (by decide))
  have HNM := Lib.hid (ownG_notMap HO3.out HM3.out)
  refine wp_region_held_drew (S := fun w' => Blk w' q 54 #[.string gone, .string set, .pointer v]) (by kernel_rfl) (H3.out.1.below (drew_below _)) (fun hS => ?_)
  refine held_take 0 24 (.pointer (some ⟨p, 0, none⟩)) rfl rfl (by kernel_rfl) (by kernel_rfl) (by kernel_rfl) (fun _ _ _ h => h) (by kernel_rfl) (fun _ _ => rfl) hS ?_
  simp only [Act.put, List.setIfInBounds_toArray, List.set_cons_zero, List.set_cons_succ]
  refine held_take 1 25 (.pointer (some ⟨p, 0, none⟩)) rfl rfl (by kernel_rfl) (by kernel_rfl) (by kernel_rfl) (fun _ _ _ h => h) (by kernel_rfl) (fun _ _ => rfl) hS ?_
  simp only [Act.put, List.setIfInBounds_toArray, List.set_cons_zero, List.set_cons_succ]
  refine held_take 2 26 (.pointer (some ⟨p, 0, none⟩)) rfl rfl (by kernel_rfl) (by kernel_rfl) (by kernel_rfl) (fun _ _ _ h => h) (by kernel_rfl) (fun _ _ => exec_nil rfl rfl) hS ?_
  simp only [Act.put, List.setIfInBounds_toArray, List.set_cons_zero, List.set_cons_succ]
  refine held_take 3 27 (.pointer (some ⟨p, 4, none⟩)) rfl rfl (by kernel_rfl) (by kernel_rfl) (by kernel_rfl) (fun _ _ _ h => h) (by kernel_rfl) (fun _ _ => (by kernel_rfl)) hS ?_
  simp only [Act.put, List.setIfInBounds_toArray, List.set_cons_zero, List.set_cons_succ]
  refine held_take 5 29 (.agg #[.string gone, .string set, .pointer v]) rfl rfl (by kernel_rfl) (by kernel_rfl) (by kernel_rfl) (fun _ _ _ h => h) (by kernel_rfl) (fun _ h => exec_load54 rfl rfl h) hS ?_
  simp only [Act.put, List.setIfInBounds_toArray, List.set_cons_zero, List.set_cons_succ]
  refine wpAnyH_ready (rs := [4, 6]) (by kernel_rfl) (by simp) (br_exec 4 28 (.slice pa pn pc) rfl rfl (by kernel_rfl) (exec_cell rfl rfl (load_cell (by kernel_rfl) (HD4.out.cell 4))) hS ?_ (br_exec 6 30 (.slice (some ⟨w105.drew.heap.size, 0, none⟩) 1 1) rfl rfl (by kernel_rfl) (exec_bs54 rfl rfl) (hS.below (below_one _ _)) ?_ AllReadyH.nil))
  · simp only [Act.put, List.setIfInBounds_toArray, List.set_cons_zero, List.set_cons_succ]
    refine held_exec 6 30 (.slice (some ⟨w105.drew.heap.size, 0, none⟩) 1 1) rfl rfl (by kernel_rfl) (by kernel_rfl) (exec_bs54 rfl rfl) (hS.below (below_one _ _)) ?_
    simp only [Act.put, List.setIfInBounds_toArray, List.set_cons_zero, List.set_cons_succ]
    refine held_appendG 7 31 41 54 3 40 info54 und41 rfl (by decide) (by decide) rfl rfl (by kernel_rfl) (by kernel_rfl) rfl rfl rfl (HO4.out.below (below_one _ _)) (Blk.new w105.drew 54 #[.string gone, .string set, .pointer v]) rfl (by intro u hu; simp only [List.mem_cons, List.not_mem_nil, or_false] at hu; rcases hu with rfl | rfl | rfl <;> rfl) (by omega) (Nat.le_trans HL4.out (by simp)) ?_
    intro a' c' w8 ho8 hk8 hl8
    have hS8 := (hS.below (below_one w105.drew (.cells #[.string gone, .string set, .pointer v] 54))).kept hk8 HNQ.out
    refine ⟨hS8, ?_⟩
    have HD8 := Lib.hid ((HD4.out.below (below_one w105.drew (.cells #[.string gone, .string set, .pointer v] 54))).kept hk8 HNP.out)
    have HM8 := Lib.hid ((HM4.out.below (below_one w105.drew (.cells #[.string gone, .string set, .pointer v] 54))).kept hk8 HNM.out)
    have HO8 := Lib.hid ho8
    have HK8 := Lib.hid hk8
    have HL8 := Lib.hid hl8
    clear ho8 hk8 hl8 hS
    have hS := hS8
    simp only [Act.put, List.setIfInBounds_toArray, List.set_cons_zero, List.set_cons_succ]
    refine held_take 8 32 (.pointer (some ⟨p, 0, none⟩)) rfl rfl (by kernel_rfl) (by kernel_rfl) (by kernel_rfl) (fun _ _ _ h => h) (by kernel_rfl) (fun _ _ => exec_nil rfl rfl) hS ?_
    simp only [Act.put, List.setIfInBounds_toArray, List.set_cons_zero, List.set_cons_succ]
    refine held_take 9 33 (.pointer (some ⟨p, 4, none⟩)) rfl rfl (by kernel_rfl) (by kernel_rfl) (by kernel_rfl) (fun _ _ _ h => h) (by kernel_rfl) (fun _ _ => (by kernel_rfl)) hS ?_
    simp only [Act.put, List.setIfInBounds_toArray, List.set_cons_zero, List.set_cons_succ]
    have hnq : ¬ q = p := HQP.out
    have k4 := Kept.setCell w8 ⟨p, 4, none⟩ (.slice a' (pn + 1) c')
    refine held_void 10 rfl rfl (by kernel_rfl) (by kernel_rfl) (exec_st41 rfl rfl rfl HD8.out (by show 4 < 7; omega)) (hS.kept k4 hnq) ?_
    refine wpAnyH_done (by kernel_rfl) ?_ _
    go_wp2_with fail
    have hnp : ¬ At a' p := ownG_notBlk HO8.out HD8.out (by decide)
    refine Go.Great.bodyPost_end0 rfl rfl ⟨rfl, k2, a', pn + 1, c', hk2, HD8.out.set 4 (.slice a' (pn + 1) c'), HM8.out.kept k4 (fun e => HM8.out.ne HD8.out e), ?_, ?_, ?_⟩
    · unfold addCh
      rw [if_pos (by have := HPN.out; omega)]
      exact HO8.out.keep k4 (fun ad ha e => hnp ⟨ad, ha, e.symm⟩)
    · intro ad ha
      rcases HL8.out ad ha with h | h
      · exact .inl h
      · exact .inr (by have := HL3.out; simp at h; omega)
    · exact ((HK3.out.trans (Kept.of_below (S := fun _ => False) ((drew_below w105).trans ((below_one w105.drew (.cells #[.string gone, .string set, .pointer v] 54)).mono (drew_below w105).size))) (fun i hi => hi.elim)).trans HK8.out (fun i hi => .inl (.inr (.inr hi)))).trans k4 (fun i hi => .inl (.inl hi))
  · simp only [Act.put, List.setIfInBounds_toArray, List.set_cons_zero, List.set_cons_succ]
    refine held_exec 4 28 (.slice pa pn pc) rfl rfl (by kernel_rfl) (by kernel_rfl) (exec_cell rfl rfl (load_cell (by kernel_rfl) ((HD4.out.below (below_one _ _)).cell 4))) (hS.below (below_one _ _)) ?_
    simp only [Act.put, List.setIfInBounds_toArray, List.set_cons_zero, List.set_cons_succ]
    refine held_appendG 7 31 41 54 3 40 info54 und41 rfl (by decide) (by decide) rfl rfl (by kernel_rfl) (by kernel_rfl) rfl rfl rfl (HO4.out.below (below_one _ _)) (Blk.new w105.drew 54 #[.string gone, .string set, .pointer v]) rfl (by intro u hu; simp only [List.mem_cons, List.not_mem_nil, or_false] at hu; rcases hu with rfl | rfl | rfl <;> rfl) (by omega) (Nat.le_trans HL4.out (by simp)) ?_
    intro a' c' w8 ho8 hk8 hl8
    have hS8 := (hS.below (below_one w105.drew (.cells #[.string gone, .string set, .pointer v] 54))).kept hk8 HNQ.out
    refine ⟨hS8, ?_⟩
    have HD8 := Lib.hid ((HD4.out.below (below_one w105.drew (.cells #[.string gone, .string set, .pointer v] 54))).kept hk8 HNP.out)
    have HM8 := Lib.hid ((HM4.out.below (below_one w105.drew (.cells #[.string gone, .string set, .pointer v] 54))).kept hk8 HNM.out)
    have HO8 := Lib.hid ho8
    have HK8 := Lib.hid hk8
    have HL8 := Lib.hid hl8
    clear ho8 hk8 hl8 hS
    have hS := hS8
    simp only [Act.put, List.setIfInBounds_toArray, List.set_cons_zero, List.set_cons_succ]
    refine held_take 8 32 (.pointer (some ⟨p, 0, none⟩)) rfl rfl (by kernel_rfl) (by kernel_rfl) (by kernel_rfl) (fun _ _ _ h => h) (by kernel_rfl) (fun _ _ => exec_nil rfl rfl) hS ?_
    simp only [Act.put, List.setIfInBounds_toArray, List.set_cons_zero, List.set_cons_succ]
    refine held_take 9 33 (.pointer (some ⟨p, 4, none⟩)) rfl rfl (by kernel_rfl) (by kernel_rfl) (by kernel_rfl) (fun _ _ _ h => h) (by kernel_rfl) (fun _ _ => (by kernel_rfl)) hS ?_
    simp only [Act.put, List.setIfInBounds_toArray, List.set_cons_zero, List.set_cons_succ]
    have hnq : ¬ q = p := HQP.out
    have k4 := Kept.setCell w8 ⟨p, 4, none⟩ (.slice a' (pn + 1) c')
    refine held_void 10 rfl rfl (by kernel_rfl) (by kernel_rfl) (exec_st41 rfl rfl rfl HD8.out (by show 4 < 7; omega)) (hS.kept k4 hnq) ?_
    refine wpAnyH_done (by kernel_rfl) ?_ _
    go_wp2_with fail
    have hnp : ¬ At a' p := ownG_notBlk HO8.out HD8.out (by decide)
    refine Go.Great.bodyPost_end0 rfl rfl ⟨rfl, k2, a', pn + 1, c', hk2, HD8.out.set 4 (.slice a' (pn + 1) c'), HM8.out.kept k4 (fun e => HM8.out.ne HD8.out e), ?_, ?_, ?_⟩
    · unfold addCh
      rw [if_pos (by have := HPN.out; omega)]
      exact HO8.out.keep k4 (fun ad ha e => hnp ⟨ad, ha, e.symm⟩)
    · intro ad ha
      rcases HL8.out ad ha with h | h
      · exact .inl h
      · exact .inr (by have := HL3.out; simp at h; omega)
    · exact ((HK3.out.trans (Kept.of_below (S := fun _ => False) ((drew_below w105).trans ((below_one w105.drew (.cells #[.string gone, .string set, .pointer v] 54)).mono (drew_below w105).size))) (fun i hi => hi.elim)).trans HK8.out (fun i hi => .inl (.inr (.inr hi)))).trans k4 (fun i hi => .inl (.inl hi))

end Go.Proofs.Ytjpmjidpdgikgaa
