/- Walk of 'alive': the answers that the document fixes. -/
import Derived.Test.YtmibfbbkjejkmaaFj
namespace Go.Proofs.Ytmibfbbkjejkmaa
open Go.RowKit Go.Maps Fold

def lv (n : Nat) : V := V.zero.put 0 n
theorem build_lv (n : Nat) (hn : n < 4294967296) (w : World) : (Instr.build 25 #[(0, .int .u32 (n : Int))]).run Try.prog w = .ok (.agg (lv n).arr) w := by
  rw [lv, ← V.arr_put V.zero (by omega) hn, zero_arr]
  kernel_rfl
/-- The three operations. -/
def opA : O := ⟨0, 1, 1, 3, 4, 2, 5, V.zero, by omega, by omega, by omega, by omega, by omega, by omega, by omega⟩
def opB : O := ⟨1, 1, 1, 3, 4, 3, 9, V.zero, by omega, by omega, by omega, by omega, by omega, by omega, by omega⟩
def opC (v : V) : O := ⟨2, 1, 2, 3, 4, 1, 7, v, by omega, by omega, by omega, by omega, by omega, by omega, by omega⟩
theorem build_A (w : World) : (Instr.build 40 #[(0, dotV 0 1), (1, .int .u8 1), (2, .int .u16 3), (3, .int .u16 4), (4, .int .u16 2), (5, .int .u32 5)]).run Try.prog w = .ok (.agg opA.arr) w := by
  refine run_build w 40 _ _ ?_
  kernel_rfl
theorem build_B (w : World) : (Instr.build 40 #[(0, dotV 1 1), (1, .int .u8 1), (2, .int .u16 3), (3, .int .u16 4), (4, .int .u16 3), (5, .int .u32 9)]).run Try.prog w = .ok (.agg opB.arr) w := by
  refine run_build w 40 _ _ ?_
  kernel_rfl
section
variable {ev : Operand → Value} {o : Oper} {w : World}
theorem exec_lv {x : Operand} {n : Nat} {z : V} (hz : lv n = z) (hn : n < 4294967296) (ho : o.op = .build 25 #[(0, x)]) (hx : ev x = .int .u32 (n : Int)) : (execOp ev o).run Try.prog w = .ok (.value (.agg z.arr)) w := by
  subst hz
  have hm : (#[((0 : Nat), x)]).map (fun (i, x) => (i, ev x)) = #[(0, .int .u32 (n : Int))] := by simp [hx]
  unfold execOp
  simp only [ho, hm, Sem.run_bind, build_lv n hn w, Result.andThen_ok]
  rfl
theorem exec_A {x0 x1 x2 x3 x4 x5 : Operand} {a : O} (ha : opA = a) (ho : o.op = .build 40 #[(0, x0), (1, x1), (2, x2), (3, x3), (4, x4), (5, x5)]) (h0 : ev x0 = dotV 0 1) (h1 : ev x1 = .int .u8 1) (h2 : ev x2 = .int .u16 3) (h3 : ev x3 = .int .u16 4) (h4 : ev x4 = .int .u16 2) (h5 : ev x5 = .int .u32 5) : (execOp ev o).run Try.prog w = .ok (.value (.agg a.arr)) w := by
  subst ha
  have hm : (#[((0 : Nat), x0), (1, x1), (2, x2), (3, x3), (4, x4), (5, x5)]).map (fun (i, x) => (i, ev x)) = #[(0, dotV 0 1), (1, .int .u8 1), (2, .int .u16 3), (3, .int .u16 4), (4, .int .u16 2), (5, .int .u32 5)] := by simp [h0, h1, h2, h3, h4, h5]
  unfold execOp
  simp only [ho, hm, Sem.run_bind, build_A w, Result.andThen_ok]
  rfl
theorem exec_B {x0 x1 x2 x3 x4 x5 : Operand} {a : O} (ha : opB = a) (ho : o.op = .build 40 #[(0, x0), (1, x1), (2, x2), (3, x3), (4, x4), (5, x5)]) (h0 : ev x0 = dotV 1 1) (h1 : ev x1 = .int .u8 1) (h2 : ev x2 = .int .u16 3) (h3 : ev x3 = .int .u16 4) (h4 : ev x4 = .int .u16 3) (h5 : ev x5 = .int .u32 9) : (execOp ev o).run Try.prog w = .ok (.value (.agg a.arr)) w := by
  subst ha
  have hm : (#[((0 : Nat), x0), (1, x1), (2, x2), (3, x3), (4, x4), (5, x5)]).map (fun (i, x) => (i, ev x)) = #[(0, dotV 1 1), (1, .int .u8 1), (2, .int .u16 3), (3, .int .u16 4), (4, .int .u16 3), (5, .int .u32 9)] := by simp [h0, h1, h2, h3, h4, h5]
  unfold execOp
  simp only [ho, hm, Sem.run_bind, build_B w, Result.andThen_ok]
  rfl
theorem exec_C {x0 x1 x2 x3 x4 x5 x6 : Operand} {v : V} {a : O} (ha : opC v = a) (ho : o.op = .build 40 #[(0, x0), (1, x1), (2, x2), (3, x3), (4, x4), (5, x5), (6, x6)]) (h0 : ev x0 = dotV 2 1) (h1 : ev x1 = .int .u8 2) (h2 : ev x2 = .int .u16 3) (h3 : ev x3 = .int .u16 4) (h4 : ev x4 = .int .u16 1) (h5 : ev x5 = .int .u32 7) (h6 : ev x6 = .agg v.arr) : (execOp ev o).run Try.prog w = .ok (.value (.agg a.arr)) w := by
  subst ha
  have hm : (#[((0 : Nat), x0), (1, x1), (2, x2), (3, x3), (4, x4), (5, x5), (6, x6)]).map (fun (i, x) => (i, ev x)) = #[(0, dotV 2 1), (1, .int .u8 2), (2, .int .u16 3), (3, .int .u16 4), (4, .int .u16 1), (5, .int .u32 7), (6, .agg v.arr)] := by simp [h0, h1, h2, h3, h4, h5, h6]
  have hb := build40 (opC v) w
  have hb' : (Instr.build 40 #[(0, dotV 2 1), (1, .int .u8 2), (2, .int .u16 3), (3, .int .u16 4), (4, .int .u16 1), (5, .int .u32 7), (6, .agg v.arr)]).run Try.prog w = .ok (.agg (opC v).arr) w := hb
  unfold execOp
  simp only [ho, hm, Sem.run_bind, hb', Result.andThen_ok]
  rfl
end

/-! What they come to. -/
theorem amTo_none {L : List O} {i : Nat} (h : ∀ o ∈ L, o.i ≠ i) : ∀ k, amTo L k i = none
  | 0 => rfl
  | k + 1 => by
    by_cases hk : k < L.length
    · have hx := List.getElem?_eq_getElem hk
      rw [amTo_succ hx, amTo_none h k]
      unfold amStep
      rw [if_neg (fun hh => h _ (List.getElem_mem hk) hh.2.2)]
    · have e : amTo L (k + 1) i = amTo L k i := by unfold amTo; rw [List.take_of_length_le (by omega), List.take_of_length_le (by omega)]
      rw [e, amTo_none h k]
theorem its_one {L : List O} {its : List Nat} {i : Nat} (h : Items L its) (hi : i < 65536) (hL : ∀ o ∈ L, o.i = i) (hs : (amTo L L.length i).isSome = true) : its = [i] := by
  have hm : i ∈ its := (h.mem i).2 ⟨hi, hs⟩
  have hall : ∀ x ∈ its, x = i := fun x hx => by
    by_cases e : x = i
    · exact e
    · have := ((h.mem x).1 hx).2
      rw [amTo_none (fun o ho => by rw [hL o ho]; exact fun e2 => e e2.symm)] at this
      cases this
  have hup := h.up
  match its, hm, hall, hup with
  | [x], _, hall, _ => rw [hall x (by simp)]
  | x :: y :: t, _, hall, hup =>
    have h1 := hall x (by simp)
    have h2 := hall y (by simp)
    have := (List.pairwise_cons.1 hup).1 y (by simp)
    omega
structure Facts (a b c : O) : Prop where
  v1 : (amTo [a, b] 2 4).isSome = true ∧ qtyAt [a, b] 4 = 5 ∧ tkTo [a, b] 2 = 9
  v2 : (amTo [a, b, c] 3 4).isSome = true ∧ qtyAt [a, b, c] 4 = 4
  f1 : [a, b].filter (fun o => decide (o.c = 3)) = [a, b]
  f2 : [a, b, c].filter (fun o => decide (o.c = 3)) = [a, b, c]
  f3 : [a].filter (fun o => decide (o.c = 2)) = []
  l1 : ∀ o ∈ [a, b], o.i = 4
  l2 : ∀ o ∈ [a, b, c], o.i = 4
  yes : Closed [c, a]
  no : ¬ Closed [c]
theorem facts : Facts opA opB (opC (lv 1)) := by
  have h1 : ∀ r s, V.hasB (lv 1) r s = true ↔ r = 0 ∧ s = 1 := fun r s => by
    have hp : (lv 1).at_ 0 = 1 := by decide
    constructor
    · intro h
      simp only [V.hasB, Bool.and_eq_true, decide_eq_true_eq] at h
      have hd := dotB_lt h.1
      by_cases e : r = 0
      · subst e; rw [hp] at h; omega
      · have : (lv 1).at_ r = 0 := by
          have h3 := V.put_at V.zero 0 1 hd.1 (by omega)
          rw [if_neg e, V.zero_at] at h3
          exact h3
        omega
    · rintro ⟨rfl, rfl⟩; decide
  exact ⟨⟨by decide, by decide, by decide⟩, ⟨by decide, by decide⟩, by rfl, by rfl, by rfl, (by simp [opA, opB]), (by simp [opA, opB, opC]), ⟨by
    intro o ho
    simp only [List.mem_cons, List.not_mem_nil, or_false] at ho
    rcases ho with rfl | rfl <;> decide, by
      simp [opA, opC], by
      intro o ho r s hh
      simp only [List.mem_cons, List.not_mem_nil, or_false] at ho
      rcases ho with rfl | rfl
      · obtain ⟨rfl, rfl⟩ := (h1 r s).1 hh
        exact ⟨opA, by simp, rfl, rfl⟩
      · have hh' : V.hasB V.zero r s = true := hh
        simp only [V.hasB, Bool.and_eq_true, decide_eq_true_eq, V.zero_at] at hh'
        have hd := dotB_lt hh'.1
        omega⟩, fun h => by
      obtain ⟨p, hp, h2⟩ := h.known (opC (lv 1)) (by simp) 0 1 ((h1 0 1).2 ⟨rfl, rfl⟩)
      simp only [List.mem_cons, List.not_mem_nil, or_false] at hp
      subst hp
      simp [opC] at h2⟩

theorem exec_fldOut {ev : Operand → Value} {q : Oper} {w : World} {x : Operand} {c t : Nat} {a : Option Addr} {n cap : Nat} {o : Bool} (ho : q.op = .field 44 x 2) (hx : ev x = .agg #[.int .u16 (c : Int), .slice a n cap, .bool o, .int .u32 (t : Int)]) : (execOp ev q).run Try.prog w = .ok (.value (.bool o)) w := by
  have hf : (Instr.field 44 (.agg #[.int .u16 (c : Int), .slice a n cap, .bool o, .int .u32 (t : Int)]) 2).run Try.prog w = .ok (.bool o) w := by kernel_rfl
  unfold execOp
  simp only [ho, hx, Sem.run_bind, hf, Result.andThen_ok]
  rfl
/-- The operations in memory. -/
structure Av (w W : World) (g1 g2 g3 : Nat) (a b c : O) : Prop where
  one : Blk W g1 40 a.arr
  two : Blk W g2 40 b.arr
  thr : Blk W g3 40 c.arr
  old : Below w.heap.size w W
theorem Av.below {w W W' : World} {g1 g2 g3 : Nat} {a b c : O} (h : Av w W g1 g2 g3 a b c) (hb : Below W.heap.size W W') : Av w W' g1 g2 g3 a b c := ⟨h.one.below hb, h.two.below hb, h.thr.below hb, h.old.trans (hb.mono h.old.size)⟩
/-- What is seen, with the lines known. -/
theorem view_lines {a : Option Addr} {n cap : Nat} {l L : List O} {w : World} (hl : OL w a n l) (hn : n < 50) (c : Nat) (hL : l.filter (fun o => decide (o.c = c)) = L) : Calls Try.prog 19 #[.slice a n cap, .int .u16 (c : Int)] w (ViewP L c w) := by
  subst hL; exact view_any hl hn c
def OneP (c i q t : Nat) (w : World) (e : Ending) (w' : World) : Prop := ∃ g o cap b, e = .returned (.agg #[.int .u16 (c : Int), .slice (some ⟨g, o, none⟩) 1 cap, .bool b, .int .u32 (t : Int)]) ∧ w'.cell? ⟨g, o, none⟩ = some (.int .u16 (i : Int)) ∧ w'.cell? ⟨g, o + 1, none⟩ = some (.int .u32 (q : Int)) ∧ Below w.heap.size w w'
theorem view_one {L : List O} {c i : Nat} {w w' : World} {e : Ending} (h : ViewP L c w e w') (hi : i < 65536) (hL : ∀ o ∈ L, o.i = i) (hs : (amTo L L.length i).isSome = true) : OneP c i (qtyAt L i) (tkTo L L.length) w e w' := by
  obtain ⟨its, a, cap, hit, rfl, ho, hb⟩ := h
  obtain rfl := its_one hit hi hL hs
  rcases ho.gl.cells with h0 | ⟨g, o, rfl, hc⟩
  · cases h0
  · have h1 := hc 0 (lineCs L i) rfl
    rw [Nat.zero_mul, Nat.add_zero] at h1
    have e0 := h1 0 _ rfl
    have e1 := h1 1 _ rfl
    exact ⟨g, o, cap, _, rfl, e0, e1, hb⟩

set_option maxRecDepth 100000 in
set_option maxHeartbeats 4000000 in
theorem alive_any (w : World) : Calls Try.prog 9 #[] w (Says (.bool true) w) := by
  obtain ⟨z1, h1⟩ : ∃ z, lv 1 = z := ⟨_, rfl⟩
  obtain ⟨zo, ho⟩ : ∃ z, O.zero = z := ⟨_, rfl⟩
  have HF := Lib.hid facts
  obtain ⟨a, ha⟩ : ∃ a, opA = a := ⟨_, rfl⟩
  obtain ⟨b, hb⟩ : ∃ b, opB = b := ⟨_, rfl⟩
  rw [ha, hb, h1] at HF
  obtain ⟨c, hc⟩ : ∃ c, opC z1 = c := ⟨_, rfl⟩
  rw [hc] at HF
  have H1 := Lib.hid h1
  have HO := Lib.hid ho
  have HA := Lib.hid ha
  have HB := Lib.hid hb
  have HC := Lib.hid hc
  clear h1 ho ha hb hc
  go_enter Try.func9, Try.ntmps9
  go_wp2_with (first | (refine wpList_run rfl (exec_A HA.out rfl rfl rfl rfl rfl rfl rfl) ?_) | (refine wpList_run rfl (exec_alloc40z HO.out rfl) ?_) | (refine wpList_stop40 rfl ?_))
  refine ⟨?_⟩
  refine wpList_void rfl rfl (exec_store40 (p := zo) (u := a) rfl rfl rfl (Blk.new w 40 zo.arr)) ?_
  have HX1 : Hid (Ow w ((w.alloc (.cells zo.arr 40)).setRow w.heap.size a.arr) a) := Lib.hid ⟨olaid_blk w zo a, olaid_old w zo a⟩
  generalize (w.alloc (.cells zo.arr 40)).setRow w.heap.size a.arr = w1 at HX1
  go_wp2_with (first | (refine wpList_run rfl (exec_B HB.out rfl rfl rfl rfl rfl rfl rfl) ?_) | (refine wpList_run rfl (exec_alloc40z HO.out rfl) ?_) | (refine wpList_stop40 rfl ?_))
  refine ⟨?_⟩
  refine wpList_void rfl rfl (exec_store40 (p := zo) (u := b) rfl rfl rfl (Blk.new w1 40 zo.arr)) ?_
  have hl2 := olaid_old w1 zo b
  have HX2 : Hid (Blk ((w1.alloc (.cells zo.arr 40)).setRow w1.heap.size b.arr) w1.heap.size 40 b.arr) := Lib.hid (olaid_blk w1 zo b)
  have HX1b : Hid (Blk ((w1.alloc (.cells zo.arr 40)).setRow w1.heap.size b.arr) w.heap.size 40 a.arr) := Lib.hid (HX1.out.one.below hl2)
  have HBe2 : Hid (Below w.heap.size w ((w1.alloc (.cells zo.arr 40)).setRow w1.heap.size b.arr)) := Lib.hid (HX1.out.old.trans (hl2.mono HX1.out.old.size))
  clear hl2 HX1
  generalize (w1.alloc (.cells zo.arr 40)).setRow w1.heap.size b.arr = w2 at HX2 HX1b HBe2
  go_wp2_with (first | (refine wpList_run rfl (exec_lv H1.out (by omega) rfl rfl) ?_) | (refine wpList_run rfl (exec_C HC.out rfl rfl rfl rfl rfl rfl rfl rfl) ?_) | (refine wpList_run rfl (exec_alloc40z HO.out rfl) ?_) | (refine wpList_stop40 rfl ?_))
  refine ⟨?_⟩
  refine wpList_void rfl rfl (exec_store40 (p := zo) (u := c) rfl rfl rfl (Blk.new w2 40 zo.arr)) ?_
  have hl3 := olaid_old w2 zo c
  have HV : Hid (Av w ((w2.alloc (.cells zo.arr 40)).setRow w2.heap.size c.arr) w.heap.size w1.heap.size w2.heap.size a b c) := Lib.hid ⟨HX1b.out.below hl3, HX2.out.below hl3, olaid_blk w2 zo c, HBe2.out.trans (hl3.mono HBe2.out.size)⟩
  clear hl3 HX2 HX1b HBe2
  generalize (w2.alloc (.cells zo.arr 40)).setRow w2.heap.size c.arr = w3 at HV
  obtain ⟨g1, hg1⟩ : ∃ g, w.heap.size = g := ⟨_, rfl⟩
  obtain ⟨g2, hg2⟩ : ∃ g, w1.heap.size = g := ⟨_, rfl⟩
  obtain ⟨g3, hg3⟩ : ∃ g, w2.heap.size = g := ⟨_, rfl⟩
  rw [hg1, hg2, hg3] at HV
  rw [hg1, hg2, hg3]
  clear hg1 hg2 hg3 HO HA HB HC H1
  go_wp2_with (first | (refine wpList_run rfl (exec_load40 (p := a) rfl rfl HV.out.one) ?_) | (refine wpList_run rfl (exec_load40 (p := b) rfl rfl HV.out.two) ?_) | (refine wpList_run rfl (exec_bsO2 (p := a) (r := b) rfl rfl rfl) ?_))
  have hn4 := below_one w3 (.cells (cellsO [a, b]).flatten.toArray 40)
  have HOL4 : Hid (OL (w3.alloc (.cells (cellsO [a, b]).flatten.toArray 40)) (some ⟨w3.heap.size, 0, none⟩) 2 [a, b]) := Lib.hid (blk_ol (l := [a, b]) (Blk.new w3 40 _))
  have HV4 := Lib.hid (HV.out.below hn4)
  clear hn4 HV
  generalize w3.alloc (.cells (cellsO [a, b]).flatten.toArray 40) = w4 at HOL4 HV4
  refine (view_lines (c := 3) HOL4.out (by omega) HF.out.f1).mono ?_
  intro e w5 hP
  obtain ⟨p1, o1, cap1, b1, rfl, c10, c11, hb5⟩ := view_one hP (i := 4) (by omega) HF.out.l1 HF.out.v1.1
  rw [show [a, b].length = 2 from rfl, HF.out.v1.2.2]
  rw [HF.out.v1.2.1] at c11
  have HV5 := Lib.hid (HV4.out.below hb5)
  clear hb5 HV4 hP HOL4
  have d10 : w5.cell? ⟨p1, o1, none⟩ = some (.int .u16 4) := c10
  have d11 : w5.cell? ⟨p1, o1 + 1, none⟩ = some (.int .u32 5) := c11
  clear c10 c11
  go_upto_region 5 with fail
  have hn6 := below_one w5 (.cells #[.int .u16 3, .slice (some ⟨p1, o1, none⟩) 1 cap1, .bool b1, .int .u32 9] 44)
  have HV6 := Lib.hid (HV5.out.below hn6)
  have c10 := below_at hn6 d10
  have c11 := below_at hn6 d11
  have HG6 : Hid (Blk (w5.alloc (.cells #[.int .u16 3, .slice (some ⟨p1, o1, none⟩) 1 cap1, .bool b1, .int .u32 9] 44)) w5.heap.size 44 #[.int .u16 3, .slice (some ⟨p1, o1, none⟩) 1 cap1, .bool b1, .int .u32 9]) := Lib.hid (Blk.new _ _ _)
  clear hn6 d10 d11 HV5
  generalize w5.alloc (.cells #[.int .u16 3, .slice (some ⟨p1, o1, none⟩) 1 cap1, .bool b1, .int .u32 9] 44) = w6 at HV6 c10 c11 HG6
  obtain ⟨gv, hgv⟩ : ∃ g, w5.heap.size = g := ⟨_, rfl⟩
  rw [hgv] at HG6
  rw [hgv]
  clear hgv
  go_wp2_with (first | (refine wpList_run rfl (exec_load40 (p := a) rfl rfl HV6.out.one) ?_) | (refine wpList_run rfl (exec_load40 (p := b) rfl rfl HV6.out.two) ?_) | (refine wpList_run rfl (exec_load40 (p := c) rfl rfl HV6.out.thr) ?_) | (refine wpList_run rfl (exec_bsO3 (p := a) (r := b) (s := c) rfl rfl rfl rfl) ?_))
  have hn7 := below_one w6 (.cells (cellsO [a, b, c]).flatten.toArray 40)
  have HOL7 : Hid (OL (w6.alloc (.cells (cellsO [a, b, c]).flatten.toArray 40)) (some ⟨w6.heap.size, 0, none⟩) 3 [a, b, c]) := Lib.hid (blk_ol (l := [a, b, c]) (Blk.new w6 40 _))
  have HV7 := Lib.hid (HV6.out.below hn7)
  have HG7 := Lib.hid (HG6.out.below hn7)
  have d10 := below_at hn7 c10
  have d11 := below_at hn7 c11
  clear hn7 HV6 HG6 c10 c11
  generalize w6.alloc (.cells (cellsO [a, b, c]).flatten.toArray 40) = w7 at HOL7 HV7 HG7 d10 d11
  refine (view_lines (c := 3) HOL7.out (by omega) HF.out.f2).mono ?_
  intro e w8 hP
  obtain ⟨p2, o2, cap2, b2, rfl, c20, c21, hb8⟩ := view_one hP (i := 4) (by omega) HF.out.l2 HF.out.v2.1
  rw [HF.out.v2.2] at c21
  have HV8 := Lib.hid (HV7.out.below hb8)
  have HG8 := Lib.hid (HG7.out.below hb8)
  have c10 := below_at hb8 d10
  have c11 := below_at hb8 d11
  clear hb8 HV7 hP HOL7 HG7 d10 d11
  generalize tkTo [a, b, c] [a, b, c].length = t2
  go_upto_region 6 with fail
  have hn9 := below_one w8 (.cells #[.int .u16 3, .slice (some ⟨p2, o2, none⟩) 1 cap2, .bool b2, .int .u32 (t2 : Int)] 44)
  have HV9 := Lib.hid (HV8.out.below hn9)
  have HG9 := Lib.hid (HG8.out.below hn9)
  have d10 := below_at hn9 c10
  have d11 := below_at hn9 c11
  have d21 := below_at hn9 c21
  have HH9 : Hid (Blk (w8.alloc (.cells #[.int .u16 3, .slice (some ⟨p2, o2, none⟩) 1 cap2, .bool b2, .int .u32 (t2 : Int)] 44)) w8.heap.size 44 #[.int .u16 3, .slice (some ⟨p2, o2, none⟩) 1 cap2, .bool b2, .int .u32 (t2 : Int)]) := Lib.hid (Blk.new _ _ _)
  clear hn9 HV8 HG8 c10 c11 c21 c20
  generalize w8.alloc (.cells #[.int .u16 3, .slice (some ⟨p2, o2, none⟩) 1 cap2, .bool b2, .int .u32 (t2 : Int)] 44) = w9 at HV9 HG9 HH9 d10 d11 d21
  obtain ⟨gw, hgw⟩ : ∃ g, w8.heap.size = g := ⟨_, rfl⟩
  rw [hgw] at HH9
  rw [hgw]
  clear hgw
  have e1 : w9.cell? ⟨gv, 1, none⟩ = some (.slice (some ⟨p1, o1, none⟩) 1 cap1) := by rw [HG9.out.cell]; rfl
  have e3 : w9.cell? ⟨gv, 3, none⟩ = some (.int .u32 9) := by rw [HG9.out.cell]; rfl
  have e4 : w9.cell? ⟨gw, 1, none⟩ = some (.slice (some ⟨p2, o2, none⟩) 1 cap2) := by rw [HH9.out.cell]; rfl
  have f21 : w9.cell? ⟨p2, o2 + 1, none⟩ = some (.int .u32 4) := d21
  clear d21
  go_wp2_with (first | (refine wpList_runW (exec_load40 (p := a) rfl rfl HV9.out.one) (by kernel_rfl) ?_) | (refine wpList_runW (exec_bsO (p := a) rfl rfl) (by kernel_rfl) ?_))
  have hA := below_one w9 (.cells a.arr 40)
  have HOLA : Hid (OL (w9.alloc (.cells a.arr 40)) (some ⟨w9.heap.size, 0, none⟩) 1 [a]) := Lib.hid (blk_ol (l := [a]) (by have e : (cellsO [a]).flatten.toArray = a.arr := (by simp [cellsO]); rw [e]; exact Blk.new w9 40 _))
  have HVA := Lib.hid (HV9.out.below hA)
  clear hA HV9 HG9 HH9 d10 d11 e1 e3 e4 f21
  generalize w9.alloc (.cells a.arr 40) = wA at HOLA HVA
  refine (view_lines (c := 2) HOLA.out (by omega) HF.out.f3).mono ?_
  rintro e wB ⟨its, aB, capB, hitB, rfl, hoB, hbB⟩
  have HVB := Lib.hid (HVA.out.below hbB)
  clear hitB hoB hbB HVA HOLA
  rw [show outTo [] ([] : List O).length = false from rfl]
  generalize tkTo [] ([] : List O).length = tB
  generalize its.length = nB
  unfold viewV
  go_wp2_with (first | (refine wpList_runW (exec_fldOut (c := 2) (o := false) (t := tB) rfl rfl) (by kernel_rfl) ?_) | (refine wpList_runW (exec_load40 (p := c) rfl rfl HVB.out.thr) (by kernel_rfl) ?_) | (refine wpList_runW (exec_load40 (p := a) rfl rfl HVB.out.one) (by kernel_rfl) ?_) | (refine wpList_runW (exec_bsO2 (p := c) (r := a) rfl rfl rfl) (by kernel_rfl) ?_))
  have hC := below_one wB (.cells (cellsO [c, a]).flatten.toArray 40)
  have HOLC : Hid (OL (wB.alloc (.cells (cellsO [c, a]).flatten.toArray 40)) (some ⟨wB.heap.size, 0, none⟩) 2 [c, a]) := Lib.hid (blk_ol (l := [c, a]) (Blk.new wB 40 _))
  have HVC := Lib.hid (HVB.out.below hC)
  clear hC HVB
  generalize wB.alloc (.cells (cellsO [c, a]).flatten.toArray 40) = wC at HOLC HVC
  refine (closed_any HOLC.out (by omega)).mono ?_
  rintro e wD ⟨bD, rfl, hD, hbD⟩
  obtain rfl : bD = true := hD.2 HF.out.yes
  have HVD := Lib.hid (HVC.out.below hbD)
  clear hD hbD HVC HOLC
  go_wp2_with (first | (refine wpList_runW (exec_load40 (p := c) rfl rfl HVD.out.thr) (by kernel_rfl) ?_) | (refine wpList_runW (exec_bsO (p := c) rfl rfl) (by kernel_rfl) ?_))
  have hE := below_one wD (.cells c.arr 40)
  have HOLE : Hid (OL (wD.alloc (.cells c.arr 40)) (some ⟨wD.heap.size, 0, none⟩) 1 [c]) := Lib.hid (blk_ol (l := [c]) (by have e : (cellsO [c]).flatten.toArray = c.arr := (by simp [cellsO]); rw [e]; exact Blk.new wD 40 _))
  have HVE := Lib.hid (HVD.out.below hE)
  clear hE HVD
  generalize wD.alloc (.cells c.arr 40) = wE at HOLE HVE
  refine (closed_any HOLE.out (by omega)).mono ?_
  rintro e wF ⟨bF, rfl, hF, hbF⟩
  obtain rfl : bF = false := by cases bF; rfl; exact absurd (hF.1 rfl) HF.out.no
  have HVF := Lib.hid (HVE.out.below hbF)
  clear hF hbF HVE HOLE
  go_wp2_with (first | (refine wpList_runW (exec_load40 (p := a) rfl rfl HVF.out.one) (by kernel_rfl) ?_) | (refine wpList_runW (exec_load40 (p := c) rfl rfl HVF.out.thr) (by kernel_rfl) ?_) | (refine wpList_runW (exec_bsO2 (p := a) (r := c) rfl rfl rfl) (by kernel_rfl) ?_))
  have hG := below_one wF (.cells (cellsO [a, c]).flatten.toArray 40)
  have HOLG : Hid (OL (wF.alloc (.cells (cellsO [a, c]).flatten.toArray 40)) (some ⟨wF.heap.size, 0, none⟩) 2 [a, c]) := Lib.hid (blk_ol (l := [a, c]) (Blk.new wF 40 _))
  have HVG := Lib.hid (HVF.out.below hG)
  clear hG HVF
  generalize wF.alloc (.cells (cellsO [a, c]).flatten.toArray 40) = wG at HOLG HVG
  refine (live_any HOLG.out (by omega)).mono ?_
  rintro e wH ⟨gH, rfl, _, _, hbH⟩
  have HBH : Hid (Below w.heap.size w wH) := Lib.hid (HVG.out.old.trans (hbH.mono HVG.out.old.size))
  clear hbH HVG HOLG
  rw [show ([a, c].map (liveB [a, c])).length = 2 from rfl]
  go_wp2_with fail
  go_ret
  exact ⟨rfl, HBH.out⟩

end Go.Proofs.Ytmibfbbkjejkmaa
