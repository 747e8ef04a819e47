import Derived.ProofKit
import Derived.OpenShut
import Derived.ChangeOld
import Derived.ChangeSame
import Derived.Lib.SmallJoins
import Derived.Deep.Slices
import Derived.Deep.Fields
import Derived.Test.YtnekpgmgnepdoaaGreatZat
section
namespace Go.Proofs.YtnekpgmgnepdoaaGreat
open Go.ChangeShapes Go.WideShapes Go.ChangeAt Go.RowKit Go.Joins
theorem own : ownKnob Tryz.prog.godebug = none := by kernel_rfl
theorem laidOut : laidOutB Tryz.prog = true := by kernel_rfl
theorem cells24' : Tryz.prog.cellsOf 24 = 16 := by kernel_rfl
theorem cells30' : Tryz.prog.cellsOf 30 = 2 := by kernel_rfl
theorem cells22' : Tryz.prog.cellsOf 22 = 1 := by kernel_rfl
theorem cells31' : Tryz.prog.cellsOf 31 = 1 := by kernel_rfl
theorem cells5' : Tryz.prog.cellsOf 5 = 1 := by kernel_rfl
def numOf : Value → Nat
 | .int _ z => z.toNat
 | _ => 0
section
variable {H : Type} {enc : TypeId × Value → H} {W : World}
theorem vec_cells {fuel : Nat} {cs : List Value} {x : DataW H × List MemPlace} (hs : cs.length = 16) (hf : DataW.trod enc Tryz.prog W 0 (fun _ => true) true fuel 24 cs = some x) : ∃ a : V, cs = a.cs := by
 cases fuel with
 | zero => simp [DataW.trod] at hf
 | succ n =>
  unfold DataW.trod at hf
  rw [und24] at hf
  simp only [cells22', cells24', Nat.mul_one] at hf
  rw [if_pos hs] at hf
  ·simp only [Option.map_eq_some_iff] at hf
   obtain ⟨xs, hx, _⟩ := hf
   have hcell : ∀ i, i < 16 → ∃ z : Nat, z < 4294967296 ∧ cs[i]? = some (.int .u32 (z : Int)) := by
    intro i hi
    have hg := mapM_some_get hx i i (by simp [hi])
    have hxl : i < xs.length := by
     have := mapM_some_length hx
     simp at this
     omega
    rw [List.getElem?_eq_getElem hxl] at hg
    obtain ⟨z, hz, _, hw⟩ := DataW.trod_int Tryz.underlying22 hg
    have hb := bounds_u32 hw
    have hl : i < cs.length := by rw [hs]; exact hi
    rw [List.drop_eq_getElem_cons hl] at hz
    simp only [List.take_succ_cons, List.take_zero, List.cons.injEq, and_true] at hz
    refine ⟨z.toNat, by omega, ?_⟩
    rw [show ((z.toNat : Nat) : Int) = z by omega, ← hz]
    simp [hl]
   refine ⟨V.of fun i => numOf (cs[i]?.getD undef), ?_⟩
   apply List.ext_getElem?
   intro i
   by_cases hi : i < 16
   ·obtain ⟨z, hz, hc⟩ := hcell i hi
    rw [V.cs_at _ hi, V.of_at _ hi (by rw [hc]; simpa [numOf] using hz), hc]
    simp [numOf]
   ·rw [List.getElem?_eq_none (by omega), List.getElem?_eq_none (by rw [V.cs_len]; omega)]
theorem u8_cell {fuel : Nat} {c : Value} {x : DataW H × List MemPlace} (h : DataW.trod enc Tryz.prog W 0 (fun _ => true) true fuel 5 [c] = some x) : ∃ n : Nat, n < 256 ∧ c = .int .u8 (n : Int) := by
 obtain ⟨z, e, _, w⟩ := DataW.trod_int Tryz.underlying5 h
 have b := bounds_u8 w
 simp only [List.cons.injEq, and_true] at e
 subst e
 obtain ⟨n, rfl⟩ := Int.eq_ofNat_of_zero_le b.1
 exact ⟨n, by omega, rfl⟩
theorem u32_cell {fuel : Nat} {c : Value} {x : DataW H × List MemPlace} (h : DataW.trod enc Tryz.prog W 0 (fun _ => true) true fuel 22 [c] = some x) : ∃ n : Nat, n < 4294967296 ∧ c = .int .u32 (n : Int) := by
 obtain ⟨z, e, _, w⟩ := DataW.trod_int Tryz.underlying22 h
 have b := bounds_u32 w
 simp only [List.cons.injEq, and_true] at e
 subst e
 obtain ⟨n, rfl⟩ := Int.eq_ofNat_of_zero_le b.1
 exact ⟨n, by omega, rfl⟩
theorem u16_cell {fuel : Nat} {c : Value} {x : DataW H × List MemPlace} (h : DataW.trod enc Tryz.prog W 0 (fun _ => true) true fuel 31 [c] = some x) : ∃ n : Nat, n < 65536 ∧ c = .int .u16 (n : Int) := by
 obtain ⟨z, e, _, w⟩ := DataW.trod_int Tryz.underlying31 h
 have b := bounds_u16 w
 simp only [List.cons.injEq, and_true] at e
 subst e
 obtain ⟨n, rfl⟩ := Int.eq_ofNat_of_zero_le b.1
 exact ⟨n, by omega, rfl⟩
theorem dot_cells {fuel : Nat} {c0 c1 : Value} {x : DataW H × List MemPlace} (h : DataW.trod enc Tryz.prog W 0 (fun _ => true) true fuel 30 [c0, c1] = some x) :
  ∃ r s : Nat, r < 256 ∧ s < 4294967296 ∧ c0 = .int .u8 (r : Int) ∧ c1 = .int .u32 (s : Int) := by
 obtain ⟨ys, n, _, _, hlen, hyl, hf⟩ := DataW.trod_struct Tryz.underlying30 h
 have hyl2 : ys.length = 2 := hyl
 match ys, hyl2 with
 | [y0, y1], _ =>
  have h0 : DataW.trod enc Tryz.prog W 0 (fun _ => true) true n 5 [c0] = some y0 := by
   have := hf 0 _ rfl
   simpa [cells5', Value.cells] using this
  have h1 : DataW.trod enc Tryz.prog W 0 (fun _ => true) true n 22 [c1] = some y1 := by
   have := hf 1 _ rfl
   simpa [cells22', Value.cells] using this
  obtain ⟨r, hr, e0⟩ := u8_cell h0
  obtain ⟨s, hs, e1⟩ := u32_cell h1
  exact ⟨r, s, hr, hs, e0, e1⟩
end
end Go.Proofs.YtnekpgmgnepdoaaGreat
end
section
namespace Go.Proofs.YtnekpgmgnepdoaaGreat
open Go.RowKit
def lv (n : Nat) : V := V.zero.put 0 n
theorem build_lv (n : Nat) (hn : n < 4294967296) (w : World) : (Instr.build 24 #[(0, .int .u32 (n : Int))]).run Tryz.prog w = .ok (.agg (lv n).arr) w := by
 rw [lv, ← V.arr_put V.zero (by omega) hn, zero_arr]
 kernel_rfl
def opA : O := ⟨0, 1, 1, 3, 4, 2, 5, V.zero, by omega, by omega, by omega, by omega, by omega, by omega, by omega⟩
def opB (v : V) : O := ⟨0, 2, 3, 3, 4, 0, 6, v, by omega, by omega, by omega, by omega, by omega, by omega, by omega⟩
theorem build_A (w : World) : (Instr.build 33 #[(0, dotV 0 1), (1, .int .u8 1), (2, .int .u16 3), (3, .int .u16 4), (4, .int .u16 2), (5, .int .u32 5)]).run Tryz.prog w = .ok (.agg opA.arr) w := by
 refine run_build w 33 _ _ ?_
 kernel_rfl
theorem build_B (v : V) (w : World) : (Instr.build 33 #[(0, dotV 0 2), (1, .int .u8 3), (2, .int .u16 3), (3, .int .u16 4), (5, .int .u32 6), (6, .agg v.arr)]).run Tryz.prog w = .ok (.agg (opB v).arr) w := by
 refine run_build w 33 _ _ ?_
 obtain ⟨x0, x1, x2, x3, x4, x5, x6, x7, x8, x9, y0, y1, y2, y3, y4, y5, hv⟩ := sixteen v
 unfold O.arr O.cs O.hd opB V.arr V.cs
 simp only
 rw [hv]
 kernel_rfl
section
variable {ev : Operand → Value} {o : Oper} {w : World}
theorem exec_lv {x : Operand} {n : Nat} {z : V} (hz : lv n = z) (hn : n < 4294967296) (ho : o.op = .build 24 #[(0, x)]) (hx : ev x = .int .u32 (n : Int)) : (execOp ev o).run Tryz.prog w = .ok (.value (.agg z.arr)) w := by
 subst hz
 have hm : (#[((0 : Nat), x)]).map (fun (i, x) => (i, ev x)) = #[(0, .int .u32 (n : Int))] := by simp [hx]
 unfold execOp
 simp only [ho, hm, Sem.run_bind, build_lv n hn w, Result.andThen_ok]
 rfl
theorem exec_A {x0 x1 x2 x3 x4 x5 : Operand} {a : O} (ha : opA = a) (ho : o.op = .build 33 #[(0, x0), (1, x1), (2, x2), (3, x3), (4, x4), (5, x5)]) (h0 : ev x0 = dotV 0 1) (h1 : ev x1 = .int .u8 1) (h2 : ev x2 = .int .u16 3) (h3 : ev x3 = .int .u16 4) (h4 : ev x4 = .int .u16 2) (h5 : ev x5 = .int .u32 5) : (execOp ev o).run Tryz.prog w = .ok (.value (.agg a.arr)) w := by
 subst ha
 have hm : (#[((0 : Nat), x0), (1, x1), (2, x2), (3, x3), (4, x4), (5, x5)]).map (fun (i, x) => (i, ev x)) = #[(0, dotV 0 1), (1, .int .u8 1), (2, .int .u16 3), (3, .int .u16 4), (4, .int .u16 2), (5, .int .u32 5)] := by simp [h0, h1, h2, h3, h4, h5]
 unfold execOp
 simp only [ho, hm, Sem.run_bind, build_A w, Result.andThen_ok]
 rfl
theorem exec_B {x0 x1 x2 x3 x5 x6 : Operand} {v : V} {a : O} (ha : opB v = a) (ho : o.op = .build 33 #[(0, x0), (1, x1), (2, x2), (3, x3), (5, x5), (6, x6)]) (h0 : ev x0 = dotV 0 2) (h1 : ev x1 = .int .u8 3) (h2 : ev x2 = .int .u16 3) (h3 : ev x3 = .int .u16 4) (h5 : ev x5 = .int .u32 6) (h6 : ev x6 = .agg v.arr) : (execOp ev o).run Tryz.prog w = .ok (.value (.agg a.arr)) w := by
 subst ha
 have hm : (#[((0 : Nat), x0), (1, x1), (2, x2), (3, x3), (5, x5), (6, x6)]).map (fun (i, x) => (i, ev x)) = #[(0, dotV 0 2), (1, .int .u8 3), (2, .int .u16 3), (3, .int .u16 4), (5, .int .u32 6), (6, .agg v.arr)] := by simp [h0, h1, h2, h3, h5, h6]
 unfold execOp
 simp only [ho, hm, Sem.run_bind, build_B v w, Result.andThen_ok]
 rfl
theorem exec_fldTk {x : Operand} {c t : Nat} {s : Value} {b : Bool} (ho : o.op = .field 55 x 3) (hx : ev x = .agg (viewV c s b t)) : (execOp ev o).run Tryz.prog w = .ok (.value (.int .u32 (t : Int))) w := by
 have hf : (Instr.field 55 (.agg (viewV c s b t)) 3).run Tryz.prog w = .ok (.int .u32 (t : Int)) w := by unfold viewV; kernel_rfl
 unfold execOp
 simp only [ho, hx, Sem.run_bind, hf, Result.andThen_ok]
 rfl
end
def sA : Sta := applyS Sta.zero opA
def sB : Sta := applyS sA (opB (lv 1))
theorem citems_one {c : Nat} {e : En} {its : List Nat} (h : CItems c [e] its) (hc : e.c = c) (hk : e.k ≠ 4) : its = [e.i] := by
 have hcam : ∀ i, (camTo c [e] [e].length i).isSome = true ↔ e.i = i := fun i => by
  show (camStep c i none e).isSome = true ↔ _
  unfold camStep
  by_cases hi : e.i = i
  ·rw [if_pos ⟨hc, hk, hi⟩]; simp [hi]
  ·rw [if_neg (fun hh => hi hh.2.2)]; simp [hi]
 have hall : ∀ x ∈ its, x = e.i := fun x hx => ((hcam x).1 ((h.mem x).1 hx).2).symm
 have hm : e.i ∈ its := (h.mem e.i).2 ⟨e.hi, (hcam _).2 rfl⟩
 have hup := h.up
 match its, hm, hall, hup with
 | [x], _, hall, _ => rw [hall x (by simp)]
 | x :: y :: t, _, hall, hup =>
  have h1 := hall x (by simp)
  have h2 := hall y (by simp)
  have := (List.pairwise_cons.1 hup).1 y (by simp)
  omega
theorem right_zero : Sta.zero.Right := ⟨by decide, ⟨by simp [Sta.zero], by simp [Sta.zero]⟩, by simp [Sta.zero], by simp [Sta.zero], by simp [Sta.zero]⟩
theorem right_A : sA.Right := ⟨by decide, ⟨by decide, by decide⟩, by decide, by decide, by decide⟩
theorem right_B : sB.Right := ⟨by decide, ⟨by decide, by decide⟩, by decide, by decide, by decide⟩
structure Facts (z a b : Sta) (o1 o2 : O) : Prop where
 e1 : appE z o1 = 0
 s1 : appS z o1 = a
 e2 : appE a o2 = 0
 s2 : appS a o2 = b
 zn : z.es = [] ∧ z.ts = [] ∧ z.v = V.zero
 ra : a.Right
 rb : b.Right
 la : a.es.length = 1 ∧ a.ts.length = 1
 lb : b.es.length = 0 ∧ b.ts.length = 1
 vb : V.eqB b.v (lv 2) = true
 mg : ∀ er m, MgA a b er m → er = 0 ∧ m.es = []
 va : ∀ its, CItems 3 a.es its → its = [4] ∧ cqtyAt 3 a.es 4 = 2
 tb : (tkOf b.ts 3).getD 0 = 6
theorem facts : Facts Sta.zero sA sB opA (opB (lv 1)) := by
 have hA : appE Sta.zero opA = 0 := by unfold appE; rw [if_pos right_zero]; decide
 have hB : appE sA (opB (lv 1)) = 0 := by unfold appE; rw [if_pos right_A]; decide
 refine ⟨hA, by unfold appS; rw [if_pos hA]; rfl, hB, by unfold appS; rw [if_pos hB]; rfl, ⟨rfl, rfl, rfl⟩, right_A, right_B, ⟨by decide, by decide⟩, ⟨by decide, by decide⟩, by decide, ?_, ?_, by decide⟩
 ·intro er m h
  cases h with
  | ok h1 h2 hc hm =>
   refine ⟨rfl, List.eq_nil_iff_forall_not_mem.2 fun e he => ?_⟩
   have h3 : bothE sA sB = [] := by decide
   have := (hm.mem e).1 he
   rw [h3] at this
   simp at this
  | clash h1 h2 hc =>
   obtain ⟨x, hx, y, hy, _⟩ := hc
   have h3 : sB.es = [] := by decide
   rw [h3] at hy
   simp at hy
  | not h => exact absurd ⟨right_A, right_B⟩ h
 ·intro its h
  have h3 : sA.es = [En.made opA] := by decide
  rw [h3] at h ⊢
  exact ⟨citems_one h rfl (by decide), by decide⟩
end Go.Proofs.YtnekpgmgnepdoaaGreat
end
section
namespace Go.Proofs.YtnekpgmgnepdoaaGreat
open Go.RowKit
structure Av (w W : World) (a b : Sta) (p1 p2 : Nat) (a1 : Option Addr) (c1 : Nat) (b1 : Option Addr) (d1 : Nat) (a2 : Option Addr) (c2 : Nat) (b2 : Option Addr) (d2 : Nat) : Prop where
 k1 : Blk W p1 39 (sv a.v a1 1 c1 b1 1 d1)
 k2 : Blk W p2 39 (sv b.v a2 0 c2 b2 1 d2)
 la : SL W a a1 1 b1 1
 lb : SL W b a2 0 b2 1
 old : Below w.heap.size w W
theorem Av.below {w W W' : World} {a b : Sta} {p1 p2 : Nat} {a1 : Option Addr} {c1 : Nat} {b1 : Option Addr} {d1 : Nat} {a2 : Option Addr} {c2 : Nat} {b2 : Option Addr} {d2 : Nat} (h : Av w W a b p1 p2 a1 c1 b1 d1 a2 c2 b2 d2) (hb : Below W.heap.size W W') : Av w W' a b p1 p2 a1 c1 b1 d1 a2 c2 b2 d2 := ⟨h.k1.below hb, h.k2.below hb, h.la.below hb, h.lb.below hb, h.old.trans (hb.mono h.old.size)⟩
theorem wpList_stop55s {ops : Array Oper} {rest : List Oper} {o : Oper} {act : Act} {Q : Exit → Act → World → Prop} {W : World} {x y : Operand} (_ho : o.op = .store 55 x y) (k : Halt_ (wpList Tryz.prog ops Q (o :: rest) act W)) : wpList Tryz.prog ops Q (o :: rest) act W := k.out
set_option maxRecDepth 100000 in
set_option maxHeartbeats 8000000 in
theorem alive_any (w : World) : Calls Tryz.prog 12 #[] w (Says (.bool true) w) := by
 obtain ⟨z, hz⟩ : ∃ z, V.zero = z := ⟨_, rfl⟩
 have HF0 := Lib.hid facts
 obtain ⟨z1, h1⟩ : ∃ z, lv 1 = z := ⟨_, rfl⟩
 obtain ⟨z2, h2⟩ : ∃ z, lv 2 = z := ⟨_, rfl⟩
 rw [h1] at HF0
 obtain ⟨o1, ho1⟩ : ∃ o, opA = o := ⟨_, rfl⟩
 obtain ⟨o2, ho2⟩ : ∃ o, opB z1 = o := ⟨_, rfl⟩
 obtain ⟨s0, hs0⟩ : ∃ s, Sta.zero = s := ⟨_, rfl⟩
 obtain ⟨a, ha⟩ : ∃ s, sA = s := ⟨_, rfl⟩
 obtain ⟨b, hb⟩ : ∃ s, sB = s := ⟨_, rfl⟩
 rw [ho1, ho2, hs0, ha, hb] at HF0
 have HF : Hid (Facts s0 a b o1 o2) := HF0
 have hev : V.eqB b.v z2 = true := by rw [← h2]; exact HF.out.vb
 have HEV := Lib.hid hev
 have HZ := Lib.hid hz
 have H1 := Lib.hid h1
 have H2 := Lib.hid h2
 have HO1 := Lib.hid ho1
 have HO2 := Lib.hid ho2
 have HZV : Hid (s0.v = z) := Lib.hid (HF.out.zn.2.2.trans hz)
 clear hz h1 h2 ho1 ho2 hs0 ha hb HF0 hev
 go_enter Tryz.func12, Tryz.ntmps12
 go_wp2_with (first | (refine wpList_run rfl (exec_build39z HZ.out rfl) ?_) | (refine wpList_run rfl (exec_A HO1.out rfl rfl rfl rfl rfl rfl rfl) ?_))
 have hs0 : SL w s0 none 0 none 0 := ⟨by rw [HF.out.zn.1]; exact GL.nil _ _ _, by rw [HF.out.zn.2.1]; exact GL.nil _ _ _⟩
 rw [← stA_zero, HZ.out, ← HZV.out]
 refine (apply_any hs0 (by omega) (by omega) o1).mono ?_
 rw [HF.out.e1, HF.out.s1]
 rintro e w1 ⟨a1, n1, c1, b1, m1, d1, rfl, hE, hT, hb⟩
 obtain rfl : n1 = 1 := by rw [← HF.out.la.1]; exact (EL.len' hE.gl).symm
 obtain rfl : m1 = 1 := by rw [← HF.out.la.2]; exact (LL.len' hT.gl).symm
 have HA1 : Hid (SL w1 a a1 1 b1 1) := Lib.hid ⟨hE.gl, hT.gl⟩
 have HB1 := Lib.hid hb
 clear hs0 hE hT hb
 go_wp2_with (first | (refine wpList_run rfl (exec_alloc39z HZ.out rfl) ?_) | (refine wpList_stop39 rfl ?_))
 refine ⟨?_⟩
 refine wpList_void rfl rfl (exec_store39 rfl rfl rfl (Blk.new w1 39 _)) ?_
 have hbo := bo_laid w1 39 (sv z none 0 0 none 0 0) (sv a.v a1 1 c1 b1 1 d1)
 have HA2 := Lib.hid (HA1.out.below hbo.old)
 have HB2 := Lib.hid (HB1.out.trans (hbo.old.mono HB1.out.size))
 have HK2 := Lib.hid hbo.one
 clear hbo HA1 HB1
 generalize (w1.alloc (.cells (sv z none 0 0 none 0 0) 39)).setRow w1.heap.size (sv a.v a1 1 c1 b1 1 d1) = w2 at HA2 HB2 HK2 ⊢
 generalize w1.heap.size = p1 at HK2 ⊢
 go_wp2_with (first | (refine wpList_run rfl (exec_load39 rfl rfl HK2.out) ?_) | (refine wpList_run rfl (exec_lv H1.out (by omega) rfl rfl) ?_) | (refine wpList_run rfl (exec_B HO2.out rfl rfl rfl rfl rfl rfl rfl) ?_))
 refine (apply_any HA2.out (by omega) (by omega) o2).mono ?_
 rw [HF.out.e2, HF.out.s2]
 rintro e w3 ⟨a2, n2, c2, b2, m2, d2, rfl, hE, hT, hb⟩
 obtain rfl : n2 = 0 := by rw [← HF.out.lb.1]; exact (EL.len' hE.gl).symm
 obtain rfl : m2 = 1 := by rw [← HF.out.lb.2]; exact (LL.len' hT.gl).symm
 have HA3 := Lib.hid (HA2.out.below hb)
 have HB3 : Hid (SL w3 b a2 0 b2 1) := Lib.hid ⟨hE.gl, hT.gl⟩
 have HC3 := Lib.hid (HB2.out.trans (hb.mono HB2.out.size))
 have HK3 := Lib.hid (HK2.out.below hb)
 clear hE hT hb HA2 HB2 HK2
 go_wp2_with (first | (refine wpList_run rfl (exec_alloc39z HZ.out rfl) ?_) | (refine wpList_stop39 rfl ?_))
 refine ⟨?_⟩
 refine wpList_void rfl rfl (exec_store39 rfl rfl rfl (Blk.new w3 39 _)) ?_
 have hbo := bo_laid w3 39 (sv z none 0 0 none 0 0) (sv b.v a2 0 c2 b2 1 d2)
 have H4 : Hid (Av w ((w3.alloc (.cells (sv z none 0 0 none 0 0) 39)).setRow w3.heap.size (sv b.v a2 0 c2 b2 1 d2)) a b p1 w3.heap.size a1 c1 b1 d1 a2 c2 b2 d2) := Lib.hid ⟨HK3.out.below hbo.old, hbo.one, HA3.out.below hbo.old, HB3.out.below hbo.old, HC3.out.trans (hbo.old.mono HC3.out.size)⟩
 clear hbo HA3 HB3 HC3 HK3
 generalize (w3.alloc (.cells (sv z none 0 0 none 0 0) 39)).setRow w3.heap.size (sv b.v a2 0 c2 b2 1 d2) = w4 at H4 ⊢
 generalize w3.heap.size = p2 at H4 ⊢
 go_wp2_with (first | (refine wpList_run rfl (exec_load39 rfl rfl H4.out.k1) ?_) | (refine wpList_run rfl (exec_load39 rfl rfl H4.out.k2) ?_))
 refine (merge_any H4.out.la H4.out.lb (by omega) (by omega) (by omega) (by omega)).mono ?_
 rintro e w5 ⟨er, mm, hM, a3, n3, c3, b3, m3, d3, rfl, hE, hT, hb⟩
 obtain ⟨rfl, hmm⟩ := HF.out.mg _ _ hM
 obtain rfl : n3 = 0 := by have := EL.len' hE.gl; rw [hmm] at this; exact this.symm
 have H5 := Lib.hid (H4.out.below hb)
 clear hM hmm hE hT hb H4
 go_wp2_with (first | (refine wpList_run rfl (exec_alloc39z HZ.out rfl) ?_) | (refine wpList_stop39 rfl ?_))
 refine ⟨?_⟩
 refine wpList_void rfl rfl (exec_store39 rfl rfl rfl (Blk.new w5 39 _)) ?_
 have hbo := bo_laid w5 39 (sv z none 0 0 none 0 0) (sv mm.v a3 0 c3 b3 m3 d3)
 have H6 := Lib.hid (H5.out.below hbo.old)
 have HK6 := Lib.hid hbo.one
 clear hbo H5
 generalize (w5.alloc (.cells (sv z none 0 0 none 0 0) 39)).setRow w5.heap.size (sv mm.v a3 0 c3 b3 m3 d3) = w6 at H6 HK6 ⊢
 generalize w5.heap.size = p3 at HK6 ⊢
 have hM6 := Lib.hid (stc16 HK6.out)
 clear HK6
 go_wp2_with (refine wpList_run rfl (exec_load39 rfl rfl H6.out.k1) ?_)
 refine (view_any H6.out.la (by omega) (by omega) 3 (by omega)).mono ?_
 rintro e w7 hv
 rcases hv with ⟨_, its, av, cap, hit, rfl, hL, hb⟩ | ⟨hno, _⟩
 case inr => exact absurd HF.out.ra hno
 obtain ⟨rfl, hq⟩ := HF.out.va its hit
 obtain ⟨g, off, rfl, hc⟩ : ∃ g off, av = some ⟨g, off, none⟩ ∧ w7.cell? ⟨g, off + 1, none⟩ = some (.int .u32 2) := by
  rcases hL.gl.cells with h0 | ⟨g, o, rfl, hc⟩
  ·cases h0
  ·have h1 := hc 0 (clineCs 3 a.es 4) rfl
   rw [Nat.zero_mul, Nat.add_zero] at h1
   have e1 := h1 1 (.int .u32 (cqtyAt 3 a.es 4 : Int)) rfl
   rw [hq] at e1
   exact ⟨g, o, rfl, e1⟩
 have H7 := Lib.hid (H6.out.below hb)
 have hM7 := Lib.hid (below_at hb hM6.out)
 have HC7 := Lib.hid hc
 clear hit hq hL hb hc H6 hM6
 generalize coutTo 3 a.es a.es.length = ou
 generalize (tkOf a.ts 3).getD 0 = tk
 go_wp2_with (refine wpList_stop55s rfl ?_)
 refine ⟨?_⟩
 refine wpList_void rfl rfl (exec_store55 (c := 0) (v := .slice none 0 0) (o := false) (t := 0) (c2 := 3) (t2 := tk) rfl rfl rfl (Blk.new w7 55 _)) ?_
 have hbo := bo_laid w7 55 #[.int .u16 0, .slice none 0 0, .bool false, .int .u32 0] (viewV 3 (.slice (some ⟨g, off, none⟩) 1 cap) ou tk)
 have H8 := Lib.hid (H7.out.below hbo.old)
 have e3 := below_at hbo.old hM7.out
 have e5 := below_at hbo.old HC7.out
 have HV8 := Lib.hid hbo.one
 clear hbo H7 hM7 HC7
 generalize (w7.alloc (.cells #[.int .u16 0, .slice none 0 0, .bool false, .int .u32 0] 55)).setRow w7.heap.size (viewV 3 (.slice (some ⟨g, off, none⟩) 1 cap) ou tk) = w8 at H8 HV8 e3 e5 ⊢
 generalize w7.heap.size = pv at HV8 ⊢
 have e1 := stc16 H8.out.k1
 have e2 := stc16 H8.out.k2
 have e4 : w8.cell? ⟨pv, 1, none⟩ = some (.slice (some ⟨g, off, none⟩) 1 cap) := by rw [HV8.out.cell]; rfl
 clear HV8
 go_upto_region 5 with fail
 repeat (first | (refine wpList_runW (exec_stV (v := b.v) rfl rfl H8.out.k2) (by kernel_rfl) ?_) | (refine wpList_runW (exec_lv H2.out (by omega) rfl rfl) (by kernel_rfl) ?_) | (refine wpList_runW (exec_eql24 (a := b.v) (b := z2) rfl rfl rfl HEV.out) (by kernel_rfl) ?_) | (refine wpList_runW (exec_load39 rfl rfl H8.out.k2) (by kernel_rfl) ?_) | go_values | go_skip | go_guarded | go_step | go_upon | go_back)
 clear e1 e2 e3 e4 e5
 refine (view_any H8.out.lb (by omega) (by omega) 3 (by omega)).mono ?_
 rintro e w9 hv
 rcases hv with ⟨_, its2, av2, cap2, _, rfl, _, hb⟩ | ⟨hno, _⟩
 case inr => exact absurd HF.out.rb hno
 have H9 := Lib.hid (H8.out.below hb)
 clear hb H8
 rw [HF.out.tb]
 generalize coutTo 3 b.es b.es.length = ou2
 generalize its2.length = n9
 dsimp only
 repeat (first | (refine wpList_runW (exec_fldTk (c := 3) (s := .slice av2 n9 cap2) (b := ou2) (t := 6) rfl rfl) (by kernel_rfl) ?_) | (refine wpList_runW (exec_load39 rfl rfl H9.out.k1) (by kernel_rfl) ?_) | go_values | go_skip | go_guarded | go_step | go_upon | go_back)
 refine (right_any' H9.out.la (by omega) (by omega)).mono ?_
 rintro e w10 ⟨r, rfl, hr, hb⟩
 obtain rfl : r = true := hr.2 HF.out.ra
 have H10 := Lib.hid (H9.out.below hb)
 clear hr hb H9
 dsimp only
 repeat (first | (refine wpList_runW (exec_load39 rfl rfl H10.out.k2) (by kernel_rfl) ?_) | go_values | go_skip | go_guarded | go_step | go_upon | go_back)
 refine (carts_any H10.out.lb (by omega) (by omega)).mono ?_
 rintro e w11 ⟨l, al, cl, rfl, _, hl, hb⟩
 have hl1 : l.length = 1 := by
  rcases hl with ⟨_, rfl⟩ | ⟨hno, _⟩
  ·rw [List.length_map]; exact HF.out.lb.2
  ·exact absurd HF.out.rb hno
 have H11 := Lib.hid (H10.out.below hb)
 clear hl hb H10
 rw [hl1]
 clear hl1
 go_wp2_with fail
 go_ret
 exact ⟨rfl, H11.out.old⟩
end Go.Proofs.YtnekpgmgnepdoaaGreat
end
