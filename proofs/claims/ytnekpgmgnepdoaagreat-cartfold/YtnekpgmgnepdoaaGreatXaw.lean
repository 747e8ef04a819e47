import Derived.Laws.MakeOwn
import Derived.ProofKit
import Derived.OpenShut
import Derived.ChangeOld
import Derived.ChangeSame
import Derived.Lib.SmallJoins
import Derived.Deep.Slices
import Derived.Deep.Fields
import Derived.Test.YtnekpgmgnepdoaaGreatXaj
import Derived.Test.YtnekpgmgnepdoaaGreatXal
import Derived.Test.YtnekpgmgnepdoaaGreatXau
section
namespace Go.Proofs.YtnekpgmgnepdoaaGreat
open Go.RowKit
theorem info31u : (Tryz.prog.info? 31).map (fun i => (i.zero, i.size, i.bytes)) = some (some (.int .u16 0), 1, 2) := by kernel_rfl
theorem und59u : Tryz.prog.underlying 59 = some (.slice 31) := Tryz.underlying59
def CCartsP (s : Sta) (w : World) (e : Ending) (w' : World) : Prop :=
 ∃ (l : List Nat) (a : Option Addr) (cap : Nat), e = .returned (.slice a l.length cap) ∧ GL w' 1 a l.length (ones l) ∧ ((s.Right ∧ l = s.ts.map (·.c)) ∨ (¬ s.Right ∧ l = [])) ∧ Below w.heap.size w w'
theorem ones_app (l m : List Nat) : ones (l ++ m) = ones l ++ ones m := by unfold ones; exact List.map_append
theorem run_mkC (w : World) (n : Nat) (hn : n ≤ 1000000) : (Instr.makeSlice 59 (.int .i64 0) (.int .i64 (n : Int))).run Tryz.prog w = .ok (.slice (some ⟨w.heap.size, 0, none⟩) 0 n) (w.alloc (.cells (madeCells #[.int .u16 0] n) 31)) := by
 obtain ⟨i0, hii, hz0, hz1, hz2⟩ := info_parts info31u
 have := run_make (P := Tryz.prog) w 59 31 i0 (.int .u16 0) und59u hii hz0 .i64 .i64 0 (n : Int) (by omega) (by omega) (by rw [hz2]; omega) (by omega)
 rw [hz1] at this
 simpa [Value.cells] using this
theorem ownG_mk (w : World) (n : Nat) (hn : n ≤ 1000000) : OwnG (w.alloc (.cells (madeCells #[.int .u16 0] n) 31)) 31 1 w.heap.size (some ⟨w.heap.size, 0, none⟩) 0 n [] :=
 ⟨World.ownsRow_made w _ n (Nat.le_refl _) (by unfold maxLen; omega) (by rw [size_madeCells]; omega), by simp, rfl⟩
theorem exec_bsU {ev : Operand → Value} {q : Oper} {w : World} {x : Operand} {k : Nat} (ho : q.op = .buildSlice 59 1 #[(0, x)]) (hx : ev x = .int .u16 (k : Int)) : (execOp ev q).run Tryz.prog w = .ok (.value (.slice (some ⟨w.heap.size, 0, none⟩) 1 1)) (w.alloc (.cells #[.int .u16 (k : Int)] 31)) := by
 have hm : (#[((0 : Nat), x)]).map (fun (i, x) => (i, ev x)) = #[(0, Value.int .u16 (k : Int))] := by simp [hx]
 have hb : (Instr.buildSlice 59 1 #[(0, .int .u16 (k : Int))]).run Tryz.prog w = .ok (.slice (some ⟨w.heap.size, 0, none⟩) 1 1) (w.alloc (.cells #[.int .u16 (k : Int)] 31)) := by
  obtain ⟨i0, hi, hz0, hz1, hz2⟩ := info_parts info31u
  refine run_buildSlice w 59 31 1 _ _ i0 _ und59u hi hz0 (by rw [hz1]; omega) (by rw [hz1]; omega) ?_
  rw [hz1]
  kernel_rfl
 unfold execOp
 simp only [ho, hm, Sem.run_bind, hb, Result.andThen_ok]
 rfl
set_option maxRecDepth 100000 in
set_option maxHeartbeats 8000000 in
theorem carts_any {s : Sta} {a b : Option Addr} {n c m d : Nat} {w : World} (hl : SL w s a n b m) (hn : n < 100) (hm : m < 200000) : Calls Tryz.prog 27 #[.agg (sv s.v a n c b m d)] w (CCartsP s w) := by
 have HL := Lib.hid hl
 have HTN := Lib.hid hl.ts.len'
 obtain ⟨zo, hz⟩ : ∃ z, La.zero = z := ⟨_, rfl⟩
 have HZO := Lib.hid hz
 have hb1 := fun (v : V) x y w => box39 v x y w
 have HP0 := Lib.hid (bo_new w 39 (sv s.v a n c b m d))
 clear hl hz
 go_enter Tryz.func27, Tryz.ntmps27
 go_upto_region 1 with fail
 clear hb1
 generalize w.alloc (.cells (sv s.v a n c b m d) 39) = w0 at HP0
 obtain ⟨p, hp⟩ : ∃ p, w.heap.size = p := ⟨_, rfl⟩
 have HPP := Lib.hid hp
 have HST := Lib.hid HP0.out.one
 rw [hp] at HST
 rw [hp]
 clear hp
 go_wp2_with (refine wpList_run rfl (exec_load39 rfl rfl HST.out) ?_)
 refine (right_any' (HL.out.below HP0.out.old) hn (by omega)).mono ?_
 rintro e w1 ⟨q, rfl, hq, hb⟩
 have HS1 := Lib.hid (HST.out.below hb)
 have HB1 := Lib.hid (HP0.out.old.trans (hb.mono HP0.out.old.size))
 clear hb HST HP0
 cases q
 ·have HNR : Hid (¬ s.Right) := Lib.hid (fun h => by have := hq.2 h; cases this)
  clear hq
  go_wp2_with fail
  go_ret
  exact ⟨[], none, 0, rfl, GL.nil _ _ _, .inr ⟨HNR.out, rfl⟩, HB1.out⟩
 ·have HRT := Lib.hid (hq.1 rfl)
  clear hq
  have c17 := stc17 HS1.out
  have hmk := run_mkC w1 m (by omega)
  have HO0 := Lib.hid (ownG_mk w1 m (by omega))
  have HB0 : Hid (Below w.heap.size w (w1.alloc (.cells (madeCells #[.int .u16 0] m) 31))) := Lib.hid (HB1.out.trans ((below_one w1 _).mono HB1.out.size))
  have c17b : (w1.alloc (.cells (madeCells #[.int .u16 0] m) 31)).cell? ⟨p, 17, none⟩ = some (.slice b m d) := stc17 (HS1.out.below (below_one w1 _))
  have HWB : Hid (w.heap.size ≤ w1.heap.size) := Lib.hid HB1.out.size
  go_upto_region 5 with fail
  clear hmk c17 c17b HS1 HB1
  obtain ⟨B, hB⟩ : ∃ B, w1.heap.size = B := ⟨_, rfl⟩
  rw [hB] at HO0 HWB
  rw [hB]
  have HZ0 : Hid (B ≤ (w1.alloc (.cells (madeCells #[.int .u16 0] m) 31)).heap.size) := Lib.hid (by simp; omega)
  clear hB
  generalize w1.alloc (.cells (madeCells #[.int .u16 0] m) 31) = w2 at HO0 HB0 HZ0
  go_loopw [3, 16] (fun l i wr => ∃ (k c1 : Nat) (a1 : Option Addr), k ≤ m ∧ l = .slice a1 k c1 ∧ i = .int .i64 (k : Int) ∧ Hid (OwnG wr 31 1 B a1 k c1 (ones ((s.ts.take k).map (·.c)))) ∧ Hid (Below w.heap.size w wr) ∧ Hid (B ≤ wr.heap.size)) (fun _ i _ => m - (intOf i).toNat)
  case atStart => exact ⟨0, m, _, Nat.zero_le _, rfl, rfl, Lib.hid (by simpa [ones] using HO0.out), HB0, HZ0⟩
  case round =>
   obtain ⟨k, c1, a1, hk, rfl, rfl, HO, HB, HZ⟩ := hrel
   clear HO0 HB0 HZ0
   by_cases hlt : k < m
   ·obtain ⟨g, off, x, rfl, hx, hrw⟩ := LL.at (HL.out.ts.below HB.out) hlt
    have HX : Hid (ones ((s.ts.take (k + 1)).map (·.c)) = ones ((s.ts.take k).map (·.c)) ++ [[.int .u16 (x.c : Int)]]) := Lib.hid (by
     rw [List.take_add_one, hx, List.map_append, ones_app]; rfl)
    have HR := Lib.hid hrw
    clear hx hrw
    go_wp2_with (first | (refine wpList_run rfl (exec_idx96 (i := k) rfl rfl rfl rfl hlt) ?_) | (refine wpList_run rfl (exec_ld96 (p := x) rfl rfl HR.out) ?_) | (refine wpList_run rfl (exec_alloc96z HZO.out rfl) ?_) | (refine wpList_stop96 rfl ?_))
    refine ⟨?_⟩
    refine wpList_void rfl rfl (exec_store96 (p := zo) (u := x) rfl rfl rfl (Blk.new wr 96 zo.arr)) ?_
    have hbo := bo_laid wr 96 zo.arr x.arr
    have HO1 := Lib.hid (HO.out.below hbo.old)
    have HB1 := Lib.hid (HB.out.trans (hbo.old.mono HB.out.size))
    have HZ1 := Lib.hid (Nat.le_trans HZ.out hbo.old.size)
    have c0 := lat0 hbo.one
    clear hbo HO HB HZ HR
    generalize (wr.alloc (.cells zo.arr 96)).setRow wr.heap.size x.arr = w1 at HO1 HB1 HZ1 c0
    go_wp2_with (first | (refine wpList_run rfl (exec_bsU (k := x.c) rfl rfl) ?_) | (at_builtin; refine wpList_appendG 59 31 1 2 info31u und59u rfl (by decide) (by decide) rfl rfl rfl rfl (HO1.out.below (below_one w1 _)) (Blk.new w1 31 #[.int .u16 (x.c : Int)]) rfl (by simp [Value.oneCell']) (by omega) (by have := HZ1.out; simp; omega) ?_; intro a3 c3 w3 ho hk3 hl3; have HO3 := Lib.hid ho; have HK3 := Lib.hid hk3; clear ho hk3 hl3))
    clear c0
    go_roundw
    case rel =>
     have hat : ∀ k, At a1 k → B ≤ k := fun k ⟨ad0, had, e⟩ => by rw [e]; exact (HO1.out.lt ad0 had).1
     have h1 := HB1.out.trans ((below_one w1 (.cells #[.int .u16 (x.c : Int)] 31)).mono HB1.out.size)
     refine ⟨k + 1, c3, a3, hlt, rfl, by go_num, Lib.hid (by rw [HX.out]; exact HO3.out), Lib.hid (h1.trans (HK3.out.below h1.size (fun j e => Nat.le_trans HWB.out (hat j e)))), Lib.hid (by have h5 := HK3.out.size; rw [World.size_alloc] at h5; have := HZ1.out; omega)⟩
    case measure => simp [intOf]; omega
   ·have hkm : m = k := by omega
    subst hkm
    have hall : s.ts.take m = s.ts := List.take_of_length_le (by rw [HTN.out]; exact Nat.le_refl _)
    rw [hall] at HO
    have hlen : (s.ts.map (·.c)).length = m := by rw [List.length_map]; exact HTN.out
    have HLEN := Lib.hid hlen
    clear hall hlen
    go_wp2_with fail
    go_ret
    exact ⟨s.ts.map (·.c), a1, c1, (by rw [HLEN.out]; first | done | rfl), by rw [HLEN.out]; exact HO.out.gl, .inl ⟨HRT.out, rfl⟩, HB.out⟩
end Go.Proofs.YtnekpgmgnepdoaaGreat
end
section
namespace Go.Proofs.YtnekpgmgnepdoaaGreat
open Go.ChangeShapes Go.WideShapes Go.ChangeAt Go.RowKit Go.Joins
theorem own : ownKnob Tryz.prog.godebug = none := by kernel_rfl
theorem laidOut : laidOutB Tryz.prog = true := by kernel_rfl
theorem cells24' : Tryz.prog.cellsOf 24 = 16 := by kernel_rfl
theorem cells33' : Tryz.prog.cellsOf 33 = 23 := by kernel_rfl
theorem cells30' : Tryz.prog.cellsOf 30 = 2 := by kernel_rfl
theorem cells22' : Tryz.prog.cellsOf 22 = 1 := by kernel_rfl
theorem cells31' : Tryz.prog.cellsOf 31 = 1 := by kernel_rfl
theorem cells5' : Tryz.prog.cellsOf 5 = 1 := by kernel_rfl
def numOf : Value → Nat
 | .int _ z => z.toNat
 | _ => 0
section
variable {H : Type} {enc : TypeId × Value → H} {W : World}
theorem vec_cells {fuel : Nat} {cs : List Value} {x : DataW H × List MemPlace} (hs : cs.length = 16) (hf : DataW.trod enc Tryz.prog W 0 (fun _ => true) true fuel 24 cs = some x) : ∃ a : V, cs = a.cs := by
 cases fuel with
 | zero => simp [DataW.trod] at hf
 | succ n =>
  unfold DataW.trod at hf
  rw [und24] at hf
  simp only [cells22', cells24', Nat.mul_one] at hf
  rw [if_pos hs] at hf
  ·simp only [Option.map_eq_some_iff] at hf
   obtain ⟨xs, hx, _⟩ := hf
   have hcell : ∀ i, i < 16 → ∃ z : Nat, z < 4294967296 ∧ cs[i]? = some (.int .u32 (z : Int)) := by
    intro i hi
    have hg := mapM_some_get hx i i (by simp [hi])
    have hxl : i < xs.length := by
     have := mapM_some_length hx
     simp at this
     omega
    rw [List.getElem?_eq_getElem hxl] at hg
    obtain ⟨z, hz, _, hw⟩ := DataW.trod_int Tryz.underlying22 hg
    have hb := bounds_u32 hw
    have hl : i < cs.length := by rw [hs]; exact hi
    rw [List.drop_eq_getElem_cons hl] at hz
    simp only [List.take_succ_cons, List.take_zero, List.cons.injEq, and_true] at hz
    refine ⟨z.toNat, by omega, ?_⟩
    rw [show ((z.toNat : Nat) : Int) = z by omega, ← hz]
    simp [hl]
   refine ⟨V.of fun i => numOf (cs[i]?.getD undef), ?_⟩
   apply List.ext_getElem?
   intro i
   by_cases hi : i < 16
   ·obtain ⟨z, hz, hc⟩ := hcell i hi
    rw [V.cs_at _ hi, V.of_at _ hi (by rw [hc]; simpa [numOf] using hz), hc]
    simp [numOf]
   ·rw [List.getElem?_eq_none (by omega), List.getElem?_eq_none (by rw [V.cs_len]; omega)]
theorem u8_cell {fuel : Nat} {c : Value} {x : DataW H × List MemPlace} (h : DataW.trod enc Tryz.prog W 0 (fun _ => true) true fuel 5 [c] = some x) : ∃ n : Nat, n < 256 ∧ c = .int .u8 (n : Int) := by
 obtain ⟨z, e, _, w⟩ := DataW.trod_int Tryz.underlying5 h
 have b := bounds_u8 w
 simp only [List.cons.injEq, and_true] at e
 subst e
 obtain ⟨n, rfl⟩ := Int.eq_ofNat_of_zero_le b.1
 exact ⟨n, by omega, rfl⟩
theorem u32_cell {fuel : Nat} {c : Value} {x : DataW H × List MemPlace} (h : DataW.trod enc Tryz.prog W 0 (fun _ => true) true fuel 22 [c] = some x) : ∃ n : Nat, n < 4294967296 ∧ c = .int .u32 (n : Int) := by
 obtain ⟨z, e, _, w⟩ := DataW.trod_int Tryz.underlying22 h
 have b := bounds_u32 w
 simp only [List.cons.injEq, and_true] at e
 subst e
 obtain ⟨n, rfl⟩ := Int.eq_ofNat_of_zero_le b.1
 exact ⟨n, by omega, rfl⟩
theorem u16_cell {fuel : Nat} {c : Value} {x : DataW H × List MemPlace} (h : DataW.trod enc Tryz.prog W 0 (fun _ => true) true fuel 31 [c] = some x) : ∃ n : Nat, n < 65536 ∧ c = .int .u16 (n : Int) := by
 obtain ⟨z, e, _, w⟩ := DataW.trod_int Tryz.underlying31 h
 have b := bounds_u16 w
 simp only [List.cons.injEq, and_true] at e
 subst e
 obtain ⟨n, rfl⟩ := Int.eq_ofNat_of_zero_le b.1
 exact ⟨n, by omega, rfl⟩
theorem dot_cells {fuel : Nat} {c0 c1 : Value} {x : DataW H × List MemPlace} (h : DataW.trod enc Tryz.prog W 0 (fun _ => true) true fuel 30 [c0, c1] = some x) :
  ∃ r s : Nat, r < 256 ∧ s < 4294967296 ∧ c0 = .int .u8 (r : Int) ∧ c1 = .int .u32 (s : Int) := by
 obtain ⟨ys, n, _, _, hlen, hyl, hf⟩ := DataW.trod_struct Tryz.underlying30 h
 have hyl2 : ys.length = 2 := hyl
 match ys, hyl2 with
 | [y0, y1], _ =>
  have h0 : DataW.trod enc Tryz.prog W 0 (fun _ => true) true n 5 [c0] = some y0 := by
   have := hf 0 _ rfl
   simpa [cells5', Value.cells] using this
  have h1 : DataW.trod enc Tryz.prog W 0 (fun _ => true) true n 22 [c1] = some y1 := by
   have := hf 1 _ rfl
   simpa [cells22', Value.cells] using this
  obtain ⟨r, hr, e0⟩ := u8_cell h0
  obtain ⟨s, hs, e1⟩ := u32_cell h1
  exact ⟨r, s, hr, hs, e0, e1⟩
end
set_option maxRecDepth 100000 in
theorem op_cells {H : Type} {enc : TypeId × Value → H} {W : World} {fuel : Nat} {l : List Value} {x : DataW H × List MemPlace} (hl : l.length = 23) (hf0 : DataW.trod enc Tryz.prog W 0 (fun _ => true) true fuel 33 l = some x) : ∃ a : O, l = a.cs := by
 obtain ⟨ys, n, _, _, hlen, hyl, hf⟩ := DataW.trod_struct Tryz.underlying33 hf0
 have hyl2 : ys.length = 7 := hyl
 clear hf0 hlen hyl
 match l, hl, ys, hyl2 with
 | [c0, c1, c2, c3, c4, c5, c6, c7, c8, c9, c10, c11, c12, c13, c14, c15, c16, c17, c18, c19, c20, c21, c22], _, [y0, y1, y2, y3, y4, y5, y6], _ =>
  have h0 : DataW.trod enc Tryz.prog W 0 (fun _ => true) true n 30 [c0, c1] = some y0 := by
   have := hf 0 _ rfl
   simpa [cells30', Value.cells] using this
  have h1 : DataW.trod enc Tryz.prog W 0 (fun _ => true) true n 5 [c2] = some y1 := by
   have := hf 1 _ rfl
   simpa [cells5', Value.cells] using this
  have h2 : DataW.trod enc Tryz.prog W 0 (fun _ => true) true n 31 [c3] = some y2 := by
   have := hf 2 _ rfl
   simpa [cells31', Value.cells] using this
  have h3 : DataW.trod enc Tryz.prog W 0 (fun _ => true) true n 31 [c4] = some y3 := by
   have := hf 3 _ rfl
   simpa [cells31', Value.cells] using this
  have h4 : DataW.trod enc Tryz.prog W 0 (fun _ => true) true n 31 [c5] = some y4 := by
   have := hf 4 _ rfl
   simpa [cells31', Value.cells] using this
  have h5 : DataW.trod enc Tryz.prog W 0 (fun _ => true) true n 22 [c6] = some y5 := by
   have := hf 5 _ rfl
   simpa [cells22', Value.cells] using this
  have h6 : DataW.trod enc Tryz.prog W 0 (fun _ => true) true n 24 [c7, c8, c9, c10, c11, c12, c13, c14, c15, c16, c17, c18, c19, c20, c21, c22] = some y6 := by
   have := hf 6 _ rfl
   simpa [cells24', Value.cells] using this
  obtain ⟨x0, x1, l0, l1, rfl, rfl⟩ := dot_cells h0
  obtain ⟨x2, l2, rfl⟩ := u8_cell h1
  obtain ⟨x3, l3, rfl⟩ := u16_cell h2
  obtain ⟨x4, l4, rfl⟩ := u16_cell h3
  obtain ⟨x5, l5, rfl⟩ := u16_cell h4
  obtain ⟨x6, l6, rfl⟩ := u32_cell h5
  obtain ⟨v, hv⟩ := vec_cells rfl h6
  refine ⟨⟨x0, x1, x2, x3, x4, x5, x6, v, l0, l1, l2, l3, l4, l5, l6⟩, ?_⟩
  unfold O.cs O.hd
  rw [← hv]
  rfl
end Go.Proofs.YtnekpgmgnepdoaaGreat
end
section
namespace Go.Proofs.YtnekpgmgnepdoaaGreat
open Go.RowKit
theorem one_cs (p : O) : ∀ u ∈ p.arr.toList, u.oneCell' = true := by
 have h := p.arr_one
 intro u hu
 exact Array.all_eq_true_iff_forall_mem.1 h u (by simpa using hu)
def OpsP (l : List O) (w : World) (e : Ending) (w' : World) : Prop := ∃ a cap, e = .returned (.slice a l.length cap) ∧ OwnO w' w.heap.size a l.length cap l ∧ Below w.heap.size w w'
def OutR (w : World) (p : O → Bool) (l : List O) (n : Nat) (v u : Value) (W : World) : Prop :=
 ∃ (k : Nat) (a : Option Addr) (m cap : Nat), v = .slice a m cap ∧ u = .int .i64 (k : Int) ∧ k ≤ n ∧ Hid (m = ((l.take k).filter p).length) ∧ Hid (OwnO W w.heap.size a m cap ((l.take k).filter p)) ∧ Hid (Below w.heap.size w W)
def UndR (w : World) (x : V) (p : O → Bool) (l : List O) (n : Nat) (v u : Value) (W : World) : Prop := OutR w p l n v u W ∧ Blk W w.heap.size 24 x.arr
theorem filter_yes {p : O → Bool} {l : List O} {k : Nat} {x : O} (hx : l[k]? = some x) (h : p x = true) : (l.take (k + 1)).filter p = (l.take k).filter p ++ [x] := by
 rw [List.take_add_one, hx, List.filter_append]
 simp [h]
theorem filter_no {p : O → Bool} {l : List O} {k : Nat} {x : O} (hx : l[k]? = some x) (h : p x = false) : (l.take (k + 1)).filter p = (l.take k).filter p := by
 rw [List.take_add_one, hx, List.filter_append]
 simp [h]
theorem out_app {w W W2 W3 : World} {a a' : Option Addr} {m cap cap' k n : Nat} {l : List O} {p : O → Bool} {x : O} (hm : m = ((l.take k).filter p).length) (hx : l[k]? = some x) (hk : k < n) (hp : p x = true) (ho : OwnO W w.heap.size a m cap ((l.take k).filter p)) (hb : Below w.heap.size w W) (h2 : Below W.heap.size W W2)
  (h3 : OwnO W3 w.heap.size a' (m + 1) cap' ((l.take k).filter p ++ [x])) (hk3 : Kept (At a) W2 W3) : OutR w p l n (.slice a' (m + 1) cap') (.int .i64 ((k : Int) + 1)) W3 := by
 refine ⟨k + 1, a', m + 1, cap', rfl, by go_num, hk, Lib.hid ?_, Lib.hid ?_, Lib.hid ?_⟩
 ·rw [filter_yes hx hp, List.length_append, ← hm]; rfl
 ·rw [filter_yes hx hp]; exact h3
 ·exact (hb.trans (h2.mono hb.size)).trans (hk3.below (Nat.le_trans hb.size h2.size) (fun j ⟨ad, had, e⟩ => by rw [e]; exact (ho.lt ad had).1))
theorem out_skip {w W W2 : World} {a : Option Addr} {m cap k n : Nat} {l : List O} {p : O → Bool} {x : O} (hm : m = ((l.take k).filter p).length) (hx : l[k]? = some x) (hk : k < n) (hp : p x = false) (ho : OwnO W w.heap.size a m cap ((l.take k).filter p)) (hb : Below w.heap.size w W) (h2 : Below W.heap.size W W2) : OutR w p l n (.slice a m cap) (.int .i64 ((k : Int) + 1)) W2 := by
 refine ⟨k + 1, a, m, cap, rfl, by go_num, hk, Lib.hid ?_, Lib.hid ?_, Lib.hid (hb.trans (h2.mono hb.size))⟩
 ·rw [filter_no hx hp]; exact hm
 ·rw [filter_no hx hp]; exact ho.below h2
theorem OwnO.snoc {w : World} {B n cap : Nat} {a : Option Addr} {l : List O} {x : O} (h : OwnG w 33 23 B a n cap (cellsO l ++ [x.arr.toList])) : OwnO w B a n cap (l ++ [x]) := by
 have e : cellsO (l ++ [x]) = cellsO l ++ [x.arr.toList] := by simp [cellsO]
 unfold OwnO
 rw [e]
 exact h
end Go.Proofs.YtnekpgmgnepdoaaGreat
end
section
namespace Go.Proofs.YtnekpgmgnepdoaaGreat.F
open Go.Proofs.YtnekpgmgnepdoaaGreat Go.Proofs.YtnekpgmgnepdoaaGreat.Fold
open Go.RowKit
theorem one_cs (p : O) : ∀ u ∈ p.arr.toList, u.oneCell' = true := by
 have h := p.arr_one
 intro u hu
 exact Array.all_eq_true_iff_forall_mem.1 h u (by simpa using hu)
def OpsP (l : List O) (w : World) (e : Ending) (w' : World) : Prop := ∃ a cap, e = .returned (.slice a l.length cap) ∧ OwnO w' w.heap.size a l.length cap l ∧ Below w.heap.size w w'
def OutR (w : World) (p : O → Bool) (l : List O) (n : Nat) (v u : Value) (W : World) : Prop :=
 ∃ (k : Nat) (a : Option Addr) (m cap : Nat), v = .slice a m cap ∧ u = .int .i64 (k : Int) ∧ k ≤ n ∧ Hid (m = ((l.take k).filter p).length) ∧ Hid (OwnO W w.heap.size a m cap ((l.take k).filter p)) ∧ Hid (Below w.heap.size w W)
theorem filter_yes {p : O → Bool} {l : List O} {k : Nat} {x : O} (hx : l[k]? = some x) (h : p x = true) : (l.take (k + 1)).filter p = (l.take k).filter p ++ [x] := by
 rw [List.take_add_one, hx, List.filter_append]
 simp [h]
theorem filter_no {p : O → Bool} {l : List O} {k : Nat} {x : O} (hx : l[k]? = some x) (h : p x = false) : (l.take (k + 1)).filter p = (l.take k).filter p := by
 rw [List.take_add_one, hx, List.filter_append]
 simp [h]
theorem out_app {w W W2 W3 : World} {a a' : Option Addr} {m cap cap' k n : Nat} {l : List O} {p : O → Bool} {x : O} (hm : m = ((l.take k).filter p).length) (hx : l[k]? = some x) (hk : k < n) (hp : p x = true) (ho : OwnO W w.heap.size a m cap ((l.take k).filter p)) (hb : Below w.heap.size w W) (h2 : Below W.heap.size W W2)
  (h3 : OwnO W3 w.heap.size a' (m + 1) cap' ((l.take k).filter p ++ [x])) (hk3 : Kept (At a) W2 W3) : OutR w p l n (.slice a' (m + 1) cap') (.int .i64 ((k : Int) + 1)) W3 := by
 refine ⟨k + 1, a', m + 1, cap', rfl, by go_num, hk, Lib.hid ?_, Lib.hid ?_, Lib.hid ?_⟩
 ·rw [filter_yes hx hp, List.length_append, ← hm]; rfl
 ·rw [filter_yes hx hp]; exact h3
 ·exact (hb.trans (h2.mono hb.size)).trans (hk3.below (Nat.le_trans hb.size h2.size) (fun j ⟨ad, had, e⟩ => by rw [e]; exact (ho.lt ad had).1))
theorem out_skip {w W W2 : World} {a : Option Addr} {m cap k n : Nat} {l : List O} {p : O → Bool} {x : O} (hm : m = ((l.take k).filter p).length) (hx : l[k]? = some x) (hk : k < n) (hp : p x = false) (ho : OwnO W w.heap.size a m cap ((l.take k).filter p)) (hb : Below w.heap.size w W) (h2 : Below W.heap.size W W2) : OutR w p l n (.slice a m cap) (.int .i64 ((k : Int) + 1)) W2 := by
 refine ⟨k + 1, a, m, cap, rfl, by go_num, hk, Lib.hid ?_, Lib.hid ?_, Lib.hid (hb.trans (h2.mono hb.size))⟩
 ·rw [filter_no hx hp]; exact hm
 ·rw [filter_no hx hp]; exact ho.below h2
set_option maxRecDepth 100000 in
set_option maxHeartbeats 1000000 in
theorem ofcart_any {a : Option Addr} {n cap : Nat} {l : List O} {w : World} (hl : OL w a n l) (hn : n < 1000000) (c : Nat) : Calls Tryz.prog 70 #[.slice a n cap, .int .u16 (c : Int)] w (OpsP (l.filter fun o => decide (o.c = c)) w) := by
 obtain ⟨zo, ho⟩ : ∃ z, O.zero = z := ⟨_, rfl⟩
 have HO := Lib.hid ho
 have HL := Lib.hid hl
 have hlen := hl.len'
 have HLEN := Lib.hid hlen
 clear ho hl hlen
 go_enter Tryz.func70, Tryz.ntmps70
 go_wp2_with fail
 go_loopw [5, 10] (OutR w (fun o => decide (o.c = c)) l n) (fun _ u _ => n - (numI u).toNat)
 case atStart => exact ⟨0, none, 0, 0, rfl, rfl, Nat.zero_le _, Lib.hid rfl, Lib.hid (ownG_nil _ _ _ _), Lib.hid (Below.refl _ _)⟩
 case round =>
  obtain ⟨k, a', m, cap', rfl, rfl, hk, HM, HW, HB⟩ := hrel
  by_cases hlt : k < n
  ·obtain ⟨b, off, x, rfl, hx, hr⟩ := OL.at (HL.out.below HB.out) hlt
   have HX := Lib.hid hx
   have HR := Lib.hid hr
   clear hx hr
   go_wp2_with (first | (refine wpList_run rfl (exec_idxO (i := k) rfl rfl rfl rfl hlt) ?_) | (refine wpList_run rfl (exec_ldO rfl rfl HR.out) ?_) | (refine wpList_run rfl (exec_alloc33z HO.out rfl) ?_) | (refine wpList_stop33 rfl ?_))
   refine ⟨?_⟩
   refine wpList_void rfl rfl (exec_store33 (p := zo) (u := x) rfl rfl rfl (Blk.new wr 33 zo.arr)) ?_
   have H1 : Hid (Ow wr ((wr.alloc (.cells zo.arr 33)).setRow wr.heap.size x.arr) x) := Lib.hid ⟨olaid_blk wr zo x, olaid_old wr zo x⟩
   generalize (wr.alloc (.cells zo.arr 33)).setRow wr.heap.size x.arr = w1 at H1
   have c3 := oc3 H1.out.one
   by_cases hc : x.c = c
   ·have hq : ((x.c : Int) == (c : Int)) = true := by simp; omega
    go_wp2_with (first | (refine wpList_run rfl (exec_load33 (p := x) rfl rfl H1.out.one) ?_) | (refine wpList_run rfl (exec_bsO (p := x) rfl rfl) ?_) | (at_builtin; refine wpList_appendG 63 33 23 84 info33b und63 rfl (by decide) (by decide) rfl rfl rfl rfl (HW.out.below (H1.out.old.trans ((below_one w1 _).mono H1.out.old.size))) (Blk.new w1 33 x.arr) x.arr_size (one_cs x) (by have := HM.out; have := List.length_filter_le (fun o => decide (o.c = c)) (l.take k); have := List.length_take_le k l; omega) (by have := HB.out.size; have := H1.out.old.size; simp; omega) ?_; intro a3 cap3 w3 ho3 hk3 hl3))
    have HE := Lib.hid (out_app HM.out HX.out hlt (decide_eq_true hc) HW.out HB.out (H1.out.old.trans ((below_one w1 _).mono H1.out.old.size)) (OwnO.snoc ho3) hk3)
    clear ho3 hk3 hl3
    go_roundw
    case rel => exact HE.out
    case measure => simp [numI]; omega
   ·have hq : ((x.c : Int) == (c : Int)) = false := by simp; omega
    have HE := Lib.hid (out_skip (cap := cap') HM.out HX.out hlt (decide_eq_false hc) HW.out HB.out H1.out.old)
    go_wp2_with fail
    go_roundw
    case rel => exact HE.out
    case measure => simp [numI]; omega
  ·obtain rfl : k = n := by omega
   have HE : Hid (OpsP (l.filter fun o => decide (o.c = c)) w (.returned (.slice a' m cap')) wr) := by
    have hm := HM.out
    have ho := HW.out
    rw [List.take_of_length_le (by rw [HLEN.out]; omega)] at hm ho
    subst hm
    exact Lib.hid ⟨a', cap', rfl, ho, HB.out⟩
   go_wp2_with fail
   go_ret
   exact HE.out
set_option maxRecDepth 100000 in
set_option maxHeartbeats 1000000 in
set_option maxHeartbeats 1000000 in
theorem fmakes_any (o : O) (w : World) : Calls Tryz.prog 117 #[.agg o.arr] w (Says (.bool o.laysB) w) := by
 have hb1 := fun (o : O) (w : World) => box33 o w
 have hbx := Blk.new w 33 o.arr
 have c2 := oc2 hbx
 clear hbx
 have HD : Hid (o.laysB = (decide (o.k = 1) || decide (o.k = 2) || decide (o.k = 4))) := Lib.hid (by unfold O.laysB; rw [Bool.eq_iff_iff]; simp [or_assoc])
 by_cases h1 : o.k = 1
 ·have e1 : ((o.k : Int) == 1) = true := by simp; omega
  go_enter Tryz.func117, Tryz.ntmps117
  go_wp2_with fail
  go_ret
  exact ⟨ret_bool (by rw [HD.out]; simp [h1]), below_one _ _⟩
 ·have e1 : ((o.k : Int) == 1) = false := by simp; omega
  by_cases h2 : o.k = 2
  ·have e2 : ((o.k : Int) == 2) = true := by simp; omega
   go_enter Tryz.func117, Tryz.ntmps117
   go_wp2_with fail
   go_ret
   exact ⟨ret_bool (by rw [HD.out]; simp [h2]), below_one _ _⟩
  ·have e2 : ((o.k : Int) == 2) = false := by simp; omega
   by_cases h4 : o.k = 4
   ·have e4 : ((o.k : Int) == 4) = true := by simp; omega
    go_enter Tryz.func117, Tryz.ntmps117
    go_wp2_with fail
    go_ret
    exact ⟨ret_bool (by rw [HD.out]; simp [h4]), below_one _ _⟩
   ·have e4 : ((o.k : Int) == 4) = false := by simp; omega
    go_enter Tryz.func117, Tryz.ntmps117
    go_wp2_with fail
    go_ret
    exact ⟨ret_bool (by rw [HD.out]; simp [h1, h2, h4]), below_one _ _⟩
end Go.Proofs.YtnekpgmgnepdoaaGreat.F
end
