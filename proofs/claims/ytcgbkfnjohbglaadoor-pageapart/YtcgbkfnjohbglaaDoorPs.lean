/- Walks of few and of alive, the laws' own questions. -/
import Derived.Test.YtcgbkfnjohbglaaDoorPl
namespace Go.Proofs.YtcgbkfnjohbglaaDoor
open Go.RowKit

set_option maxHeartbeats 1000000 in
theorem few_any (lf : Bool) (a1 : Option Addr) (n1 c1 : Nat) (a2 : Option Addr) (n2 c2 : Nat) (a3 : Option Addr) (n3 c3 : Nat) (w : World) :
    Calls Tryd.prog 10 #[.agg #[.bool lf, .slice a1 n1 c1, .slice a2 n2 c2, .slice a3 n3 c3]] w (Says (.bool (decide (n1 ≤ 300) && decide (n2 ≤ 300) && decide (n3 ≤ 300))) w) := by
  by_cases h1 : n1 ≤ 300
  case neg =>
    have q1 : ¬ ((n1 : Int) ≤ 300) := by omega
    go_enter Tryd.func10, Tryd.ntmps10
    go_wp2_with fail
    go_ret
    exact ⟨ret_bool (by simp), below_one _ _⟩
  have q1 : (n1 : Int) ≤ 300 := by omega
  by_cases h2 : n2 ≤ 300
  case neg =>
    have q2 : ¬ ((n2 : Int) ≤ 300) := by omega
    go_enter Tryd.func10, Tryd.ntmps10
    go_wp2_with fail
    go_ret
    exact ⟨ret_bool (by simp), below_one _ _⟩
  have q2 : (n2 : Int) ≤ 300 := by omega
  by_cases h3 : n3 ≤ 300
  case neg =>
    have q3 : ¬ ((n3 : Int) ≤ 300) := by omega
    go_enter Tryd.func10, Tryd.ntmps10
    go_wp2_with fail
    go_ret
    exact ⟨ret_bool (by simp), below_one _ _⟩
  have q3 : (n3 : Int) ≤ 300 := by omega
  go_enter Tryd.func10, Tryd.ntmps10
  go_wp2_with fail
  go_ret
  exact ⟨ret_bool (by simp [h1, h2, h3]), below_one _ _⟩

def kyA (n : Nat) (h : n < 4294967296) : Ky := ⟨3, 0, n, by omega, by omega, h⟩
set_option maxHeartbeats 1000000 in
theorem key_any (n : Nat) (h : n < 4294967296) (w : World) : Calls Tryd.prog 24 #[.int .u32 (n : Int)] w (Says (.agg (kyA n h).arr) w) := by
  have HB : Hid (Blk (w.alloc (.cells #[.int .u16 0, .int .u8 0, .int .u32 0] 42)) w.heap.size 42 Ky.zero.arr) := Lib.hid (Blk.new w 42 _)
  have HW := Lib.hid (below_one w (.cells #[.int .u16 0, .int .u8 0, .int .u32 0] 42))
  obtain ⟨key, hkey⟩ : ∃ key, kyA n h = key := ⟨_, rfl⟩
  have HK : Hid (#[Value.int .u16 3, .int .u8 0, .int .u32 (n : Int)] = key.arr) := Lib.hid (by rw [← hkey]; rfl)
  rw [hkey]
  clear hkey
  go_enter Tryd.func24, Tryd.ntmps24
  go_upto_region 1 with fail
  try simp only [World.size_alloc, Act.put, List.setIfInBounds_toArray, List.set_cons_zero, List.set_cons_succ]
  generalize w.alloc (.cells #[.int .u16 0, .int .u8 0, .int .u32 0] 42) = w0 at HB HW ⊢
  obtain ⟨g, hg⟩ : ∃ g, w.heap.size = g := ⟨_, rfl⟩
  have HG : Hid (w.heap.size ≤ g) := Lib.hid (by omega)
  rw [hg] at HB
  rw [hg]
  clear hg
  go_wp2_with (refine wpList_stop42 rfl ?_)
  refine ⟨?_⟩
  refine wpList_void rfl rfl (exec_store42 (p := Ky.zero) (u := key) rfl rfl (congrArg Value.agg HK.out) HB.out) ?_
  have HR := Lib.hid (HB.out.row (ds := key.arr))
  have HE := Lib.hid (HW.out.trans ((Kept.setRow w0 g key.arr).below HW.out.size (fun k e => by have := HG.out; omega)))
  generalize w0.setRow g key.arr = w9 at HR HE ⊢
  go_wp2_with fail
  exact bodyPost_ret (v := .agg key.arr) (retC Tryd.results24 rfl (loadVar42 HR.out)) rfl ⟨rfl, HE.out⟩

theorem bytes_inj {P Q : Pg} (hp : P.right = true) (hq : Q.right = true) (h : P.bytes = Q.bytes) : P = Q := by
  have h1 := first_bytes hp
  rw [h, first_bytes hq] at h1
  have h2 := congrArg Prod.fst h1
  have h3 := rdPg_fields hp
  rw [show P.fields = Q.fields from h2.symm, rdPg_fields hq] at h3
  exact h3.symm
def k1A : Ky := kyA 1 (by omega)
def k2A : Ky := kyA 2 (by omega)
def k4A : Ky := kyA 4 (by omega)
def l1A : Lo := ⟨1, 0, by omega, by omega⟩
def l2A : Lo := ⟨0, 2, by omega, by omega⟩
def pA : Pg := ⟨true, [k1A, k4A], [l1A, l2A], []⟩
theorem pA_right : pA.right = true := by decide
theorem pA_n : pA.findN k2A = 1 := by decide
theorem pA_b : pA.findB k2A = false := by decide
theorem k14 : lessK k1A k4A = true := by decide
theorem gl_two {w : World} {g t sz : Nat} {x y : List Value} (hx : x.length = sz) (hb : Blk w g t (x ++ y).toArray) : GL w sz (some ⟨g, 0, none⟩) 2 [x, y] := by
  refine ⟨rfl, .inr ⟨g, 0, rfl, fun i v hv j u hu => ?_⟩⟩
  rw [hb.cell]
  have hi : i = 0 ∨ i = 1 := by
    have := (List.getElem?_eq_some_iff.1 hv).1
    simp at this
    omega
  rcases hi with rfl | rfl
  · obtain rfl : x = v := by simpa using hv
    have hj := (List.getElem?_eq_some_iff.1 hu).1
    simp only [List.getElem?_toArray]
    rw [List.getElem?_append_left (by omega)]
    simpa using hu
  · obtain rfl : y = v := by simpa using hv
    simp only [List.getElem?_toArray]
    rw [List.getElem?_append_right (by omega), show 0 + 1 * sz + j - x.length = j by omega]
    exact hu
theorem bsK2 (a b : Ky) (w : World) : (Instr.buildSlice 37 2 #[(0, .agg a.arr), (1, .agg b.arr)]).run Tryd.prog w = .ok (.slice (some ⟨w.heap.size, 0, none⟩) 2 2) (w.alloc (.cells (a.cs ++ b.cs).toArray 42)) := by
  obtain ⟨i0, hi, hz0, hz1, hz2⟩ := info_parts info42
  refine run_buildSlice w 37 42 2 _ _ i0 _ und37 hi hz0 (by rw [hz1]; omega) (by rw [hz1]; omega) ?_
  rw [hz1]
  kernel_rfl
theorem exec_bsK2 {ev : Operand → Value} {q : Oper} {w : World} {x y : Operand} {a b : Ky} (ho : q.op = .buildSlice 37 2 #[(0, x), (1, y)]) (hx : ev x = .agg a.arr) (hy : ev y = .agg b.arr) : (execOp ev q).run Tryd.prog w = .ok (.value (.slice (some ⟨w.heap.size, 0, none⟩) 2 2)) (w.alloc (.cells (a.cs ++ b.cs).toArray 42)) := by
  have hm : (#[((0 : Nat), x), (1, y)]).map (fun (i, x) => (i, ev x)) = #[(0, Value.agg a.arr), (1, Value.agg b.arr)] := by simp [hx, hy]
  unfold execOp
  simp only [ho, hm, Sem.run_bind, bsK2 a b w, Result.andThen_ok]
  rfl
theorem bsL2 (a b : Lo) (w : World) : (Instr.buildSlice 38 2 #[(0, .agg a.arr), (1, .agg b.arr)]).run Tryd.prog w = .ok (.slice (some ⟨w.heap.size, 0, none⟩) 2 2) (w.alloc (.cells (a.cs ++ b.cs).toArray 66)) := by
  obtain ⟨i0, hi, hz0, hz1, hz2⟩ := info_parts info66
  refine run_buildSlice w 38 66 2 _ _ i0 _ und38 hi hz0 (by rw [hz1]; omega) (by rw [hz1]; omega) ?_
  rw [hz1]
  kernel_rfl
theorem exec_bsL2 {ev : Operand → Value} {q : Oper} {w : World} {x y : Operand} {a b : Lo} (ho : q.op = .buildSlice 38 2 #[(0, x), (1, y)]) (hx : ev x = .agg a.arr) (hy : ev y = .agg b.arr) : (execOp ev q).run Tryd.prog w = .ok (.value (.slice (some ⟨w.heap.size, 0, none⟩) 2 2)) (w.alloc (.cells (a.cs ++ b.cs).toArray 66)) := by
  have hm : (#[((0 : Nat), x), (1, y)]).map (fun (i, x) => (i, ev x)) = #[(0, Value.agg a.arr), (1, Value.agg b.arr)] := by simp [hx, hy]
  unfold execOp
  simp only [ho, hm, Sem.run_bind, bsL2 a b w, Result.andThen_ok]
  rfl
/-- What alive has in memory. -/
structure As (w W : World) (g : Nat) (b1 b2 : Option Addr) : Prop where
  pg : Blk W g 40 (pgA true b1 2 2 b2 2 2 none 0 0)
  pv : PV W pA b1 2 b2 2 none 0
  tab : Tab W
  old : Below w.heap.size w W
theorem As.below {w W W' : World} {g : Nat} {b1 b2 : Option Addr} (h : As w W g b1 b2) (hb : Below W.heap.size W W') : As w W' g b1 b2 := ⟨h.pg.below hb, h.pv.below hb, h.tab.below hb, h.old.trans (hb.mono h.old.size)⟩

set_option maxHeartbeats 4000000 in
set_option maxRecDepth 100000 in
theorem alive_any (w : World) (hT : Tab w) : Calls Tryd.prog 9 #[] w (Says (.bool true) w) := by
  have HT := Lib.hid hT
  have HK1 : Hid (∀ w : World, Calls Tryd.prog 24 #[.int .u32 1] w (Says (.agg k1A.arr) w)) := Lib.hid (fun w => key_any 1 (by omega) w)
  have HK2 : Hid (∀ w : World, Calls Tryd.prog 24 #[.int .u32 2] w (Says (.agg k2A.arr) w)) := Lib.hid (fun w => key_any 2 (by omega) w)
  have HK4 : Hid (∀ w : World, Calls Tryd.prog 24 #[.int .u32 4] w (Says (.agg k4A.arr) w)) := Lib.hid (fun w => key_any 4 (by omega) w)
  have HLS := Lib.hid (fun w : World => less_any k1A k4A w)
  have HRI := Lib.hid k14
  obtain ⟨k1, hk1⟩ : ∃ k, k1A = k := ⟨_, rfl⟩
  obtain ⟨k2, hk2⟩ : ∃ k, k2A = k := ⟨_, rfl⟩
  obtain ⟨k4, hk4⟩ : ∃ k, k4A = k := ⟨_, rfl⟩
  have HE1 := Lib.hid hk1
  have HE2 := Lib.hid hk2
  have HE4 := Lib.hid hk4
  rw [HRI.out] at HLS
  rw [hk1] at HK1 HLS
  rw [hk2] at HK2
  rw [hk4] at HK4 HLS
  clear hT HRI hk1 hk2 hk4
  go_enter Tryd.func9, Tryd.ntmps9
  go_wp2_with fail
  refine (HK1.out _).mono ?_
  rintro e w1 ⟨rfl, hb1⟩
  have HB1 := Lib.hid hb1
  clear hb1
  go_wp2_with fail
  refine (HK4.out _).mono ?_
  rintro e w2 ⟨rfl, hb2⟩
  have HB2 := Lib.hid (HB1.out.trans (hb2.mono HB1.out.size))
  clear hb2 HB1
  go_upto_region 3 with (first | (refine wpList_run rfl (exec_bsK2 (a := k1) (b := k4) rfl rfl rfl) ?_) | (refine wpList_run rfl (exec_bsL2 (a := l1A) (b := l2A) rfl rfl rfl) ?_))
  have HA : Hid (As w (((w2.alloc (Obj.cells (k1.cs ++ k4.cs).toArray 42)).alloc (Obj.cells (l1A.cs ++ l2A.cs).toArray 66)).alloc (Obj.cells #[.bool true, .slice (some ⟨w2.heap.size, 0, none⟩) 2 2, .slice (some ⟨w2.heap.size + 1, 0, none⟩) 2 2, .slice none 0 0] 40)) (w2.heap.size + 1 + 1) (some ⟨w2.heap.size, 0, none⟩) (some ⟨w2.heap.size + 1, 0, none⟩)) := Lib.hid (by
    have h1 := Blk.new w2 42 (k1.cs ++ k4.cs).toArray
    have h2 := Blk.new (w2.alloc (Obj.cells (k1.cs ++ k4.cs).toArray 42)) 66 (l1A.cs ++ l2A.cs).toArray
    have h3 := Blk.new ((w2.alloc (Obj.cells (k1.cs ++ k4.cs).toArray 42)).alloc (Obj.cells (l1A.cs ++ l2A.cs).toArray 66)) 40 #[.bool true, .slice (some ⟨w2.heap.size, 0, none⟩) 2 2, .slice (some ⟨w2.heap.size + 1, 0, none⟩) 2 2, .slice none 0 0]
    simp only [World.size_alloc] at h2 h3
    have hb := (below_one w2 (Obj.cells (k1.cs ++ k4.cs).toArray 42))
    have hb2 := (below_one (w2.alloc (Obj.cells (k1.cs ++ k4.cs).toArray 42)) (Obj.cells (l1A.cs ++ l2A.cs).toArray 66))
    have hb3 := (below_one ((w2.alloc (Obj.cells (k1.cs ++ k4.cs).toArray 42)).alloc (Obj.cells (l1A.cs ++ l2A.cs).toArray 66)) (Obj.cells #[.bool true, .slice (some ⟨w2.heap.size, 0, none⟩) 2 2, .slice (some ⟨w2.heap.size + 1, 0, none⟩) 2 2, .slice none 0 0] 40))
    have hball := HB2.out.trans (((hb.trans (hb2.mono hb.size)).trans (hb3.mono (Nat.le_trans hb.size hb2.size))).mono HB2.out.size)
    refine ⟨h3, ⟨?_, gl_two rfl (h2.below hb3), GL.nil _ _ _⟩, HT.out.below hball, hball⟩
    have := gl_two (x := k1.cs) (y := k4.cs) (sz := 3) rfl ((h1.below hb2).below hb3)
    rw [← HE1.out, ← HE4.out] at this ⊢
    exact this)
  generalize ((w2.alloc (Obj.cells (k1.cs ++ k4.cs).toArray 42)).alloc (Obj.cells (l1A.cs ++ l2A.cs).toArray 66)).alloc (Obj.cells #[.bool true, .slice (some ⟨w2.heap.size, 0, none⟩) 2 2, .slice (some ⟨w2.heap.size + 1, 0, none⟩) 2 2, .slice none 0 0] 40) = w3 at HA ⊢
  generalize w2.heap.size + 1 + 1 = g at HA ⊢
  generalize (some ⟨w2.heap.size, 0, none⟩ : Option Addr) = b1 at HA ⊢
  generalize (some ⟨w2.heap.size + 1, 0, none⟩ : Option Addr) = b2 at HA ⊢
  clear HB2
  have HFI : Hid (∀ W, As w W g b1 b2 → Calls Tryd.prog 11 #[.agg (pgA true b1 2 2 b2 2 2 none 0 0), .agg k2.arr] W (Says (.tuple #[.int .i64 1, .bool false]) W)) := Lib.hid (fun W h => by
    have := find_any 2 2 0 k2 h.pv (by omega)
    rw [← HE2.out, pA_n, pA_b] at this
    rw [← HE2.out]
    exact this)
  refine wp_region_held_drew (S := fun w' => As w w' g b1 b2) (by kernel_rfl) (HA.out.below (drew_below _)) (fun hS => ?_)
  refine held_take 0 21 (.agg (pgA true b1 2 2 b2 2 2 none 0 0)) rfl rfl (by kernel_rfl) (by kernel_rfl) (by kernel_rfl) (fun _ _ _ h => h) (by kernel_rfl) (fun _ h => exec_load40 rfl rfl h.pg) hS ?_
  simp only [Act.put, List.setIfInBounds_toArray, List.set_cons_zero, List.set_cons_succ]
  refine held_take 1 22 (.func (Fn.func 24) #[] #[]) rfl rfl (by kernel_rfl) (by kernel_rfl) (by kernel_rfl) (fun _ _ _ h => h) (by kernel_rfl) (fun _ _ => rfl) hS ?_
  simp only [Act.put, List.setIfInBounds_toArray, List.set_cons_zero, List.set_cons_succ]
  refine held_call 2 23 24 #[.int .u32 2] (.agg k2.arr) rfl (by kernel_rfl) rfl (by kernel_rfl) (by kernel_rfl) (HK2.out _) (fun _ h hb => h.below hb) hS (fun w4 hS => ?_)
  simp only [Act.put, List.setIfInBounds_toArray, List.set_cons_zero, List.set_cons_succ]
  refine held_call 3 24 11 #[.agg (pgA true b1 2 2 b2 2 2 none 0 0), .agg k2.arr] (.tuple #[.int .i64 1, .bool false]) rfl (by kernel_rfl) rfl (by kernel_rfl) (by kernel_rfl) (HFI.out _ hS) (fun _ h hb => h.below hb) hS (fun w5 hS => ?_)
  simp only [Act.put, List.setIfInBounds_toArray, List.set_cons_zero, List.set_cons_succ]
  refine held_take 4 20 (.tuple #[.int .i64 1, .bool false]) rfl rfl (by kernel_rfl) (by kernel_rfl) (by kernel_rfl) (fun _ _ _ h => h) (by kernel_rfl) (fun _ _ => rfl) hS ?_
  simp only [Act.put, List.setIfInBounds_toArray, List.set_cons_zero, List.set_cons_succ]
  refine held_take 5 25 (.int .i64 1) rfl rfl (by kernel_rfl) (by kernel_rfl) (by kernel_rfl) (fun _ _ _ h => h) (by kernel_rfl) (fun _ _ => rfl) hS ?_
  simp only [Act.put, List.setIfInBounds_toArray, List.set_cons_zero, List.set_cons_succ]
  refine held_take 6 26 (.bool false) rfl rfl (by kernel_rfl) (by kernel_rfl) (by kernel_rfl) (fun _ _ _ h => h) (by kernel_rfl) (fun _ _ => rfl) hS ?_
  simp only [Act.put, List.setIfInBounds_toArray, List.set_cons_zero, List.set_cons_succ]
  refine held_take 7 3 (.int .i64 1) rfl rfl (by kernel_rfl) (by kernel_rfl) (by kernel_rfl) (fun _ _ _ h => h) (by kernel_rfl) (fun _ _ => rfl) hS ?_
  simp only [Act.put, List.setIfInBounds_toArray, List.set_cons_zero, List.set_cons_succ]
  refine held_take 8 4 (.bool false) rfl rfl (by kernel_rfl) (by kernel_rfl) (by kernel_rfl) (fun _ _ _ h => h) (by kernel_rfl) (fun _ _ => rfl) hS ?_
  simp only [Act.put, List.setIfInBounds_toArray, List.set_cons_zero, List.set_cons_succ]
  refine wpAnyH_done (by kernel_rfl) ?_ _
  have HA5 := Lib.hid hS
  clear hS HA HFI
  go_wp2_with (refine wpList_run rfl (exec_load40 rfl rfl HA5.out.pg) ?_)
  refine (encode_any 2 2 0 HA5.out.tab HA5.out.pv (by omega)).mono ?_
  rintro e w6 ⟨h6, hb6⟩
  rcases h6 with ⟨hr, _⟩ | ⟨_, a6, cap6, rfl, ho6⟩
  · exact absurd (hr.symm.trans pA_right) (by simp)
  have HA6 := Lib.hid (HA5.out.below hb6)
  have HO6 := Lib.hid (ho6.row pA.bytes_small)
  have HC6 := Lib.hid ho6.cap
  clear hb6 ho6 HA5
  have hbl := pA.bytes_len (Pg.right_iff.1 pA_right).1
  have HDC := Lib.hid (decode_any a6 pA.bytes.length cap6 pA.bytes w6 HA6.out.tab HO6.out HC6.out.2.2 HC6.out.1 (by omega))
  clear hbl
  generalize pA.bytes.length = bl at HDC ⊢
  go_wp2_with fail
  refine HDC.out.mono ?_
  rintro e w7 ⟨h7, hb7⟩
  have HA7 := Lib.hid (HA6.out.below hb7)
  clear hb7 HA6 HDC
  rcases h7 with ⟨Q, q1, e1, q2, e2, q3, e3, hqr, hqb, rfl, hok, hol, hod⟩ | ⟨hno, _⟩
  case inr => exact absurd rfl (hno pA pA_right)
  obtain rfl : Q = pA := bytes_inj hqr pA_right hqb
  have hll := (show GL w7 2 q2 2 (cellsL [l1A, l2A]) from hol.gl)
  clear hqr hqb hok hod hol
  have HLL := Lib.hid hll
  clear hll
  go_upto_region 6 with (refine wpList_stop40 rfl ?_)
  refine ⟨?_⟩
  refine wpList_void rfl rfl (exec_store40 rfl rfl rfl (Blk.new w7 40 (pgA false none 0 0 none 0 0 none 0 0))) ?_
  have HX : Hid (Blk ((w7.alloc (.cells (pgA false none 0 0 none 0 0 none 0 0) 40)).setRow w7.heap.size (pgA pA.leaf q1 pA.ks.length e1 q2 pA.ls.length e2 q3 pA.ds.length e3)) w7.heap.size 40 (pgA true q1 2 e1 q2 2 e2 q3 0 e3)) := Lib.hid ((Blk.new w7 40 (pgA false none 0 0 none 0 0 none 0 0)).row)
  have HT8 := Lib.hid ((below_one w7 (.cells (pgA false none 0 0 none 0 0 none 0 0) 40)).trans ((Kept.setRow (w7.alloc (.cells (pgA false none 0 0 none 0 0 none 0 0) 40)) w7.heap.size (pgA pA.leaf q1 pA.ks.length e1 q2 pA.ls.length e2 q3 pA.ds.length e3)).below (B := w7.heap.size) (by simp) (fun k hk => by omega)))
  generalize (w7.alloc (.cells (pgA false none 0 0 none 0 0 none 0 0) 40)).setRow w7.heap.size (pgA pA.leaf q1 pA.ks.length e1 q2 pA.ls.length e2 q3 pA.ds.length e3) = w8 at HX HT8 ⊢
  generalize w7.heap.size = g7 at HX ⊢
  have HA8 := Lib.hid (HA7.out.below HT8.out)
  have HL8 := Lib.hid (HLL.out.below HT8.out)
  clear HA7 HLL HT8
  have HEZ : Hid (Calls Tryd.prog 18 #[.agg #[.bool false, .slice none 0 0, .slice none 0 0, .slice none 0 0]] w8 (EncP Pg.zero w8)) := Lib.hid (encode_any (P := Pg.zero) (a1 := none) (a2 := none) (a3 := none) (n1 := 0) (n2 := 0) (n3 := 0) 0 0 0 HA8.out.tab ⟨GL.nil _ _ _, GL.nil _ _ _, GL.nil _ _ _⟩ (by omega))
  go_wp2_with fail
  refine HEZ.out.mono ?_
  rintro e w9 ⟨h9, hb9⟩
  rcases h9 with ⟨_, rfl⟩ | ⟨hr, _⟩
  case inr => exact absurd (hr.symm.trans Pg.zero_right) (by simp)
  have HA9 := Lib.hid (HA8.out.below hb9)
  have HX9 := Lib.hid (HX.out.below hb9)
  have HL9 := Lib.hid (HL8.out.below hb9)
  clear hb9 HEZ HA8 HX HL8
  have HRI : Hid (Calls Tryd.prog 14 #[.agg (pgA true b1 2 2 b2 2 2 none 0 0)] w9 (Says (.bool true) w9)) := Lib.hid (by have := right_any 2 2 0 HA9.out.pv (by omega); rw [pA_right] at this; exact this)
  go_upto_region 7 with fail
  go_wp2_with (refine wpList_run rfl (exec_load40 rfl rfl HA9.out.pg) ?_)
  refine HRI.out.mono ?_
  rintro e v1 ⟨rfl, hb⟩
  have HXa := Lib.hid (HX9.out.below hb)
  have HLa := Lib.hid (HL9.out.below hb)
  have HAa := Lib.hid (HA9.out.below hb)
  clear hb HRI HX9 HL9 HA9
  obtain ⟨bx, ox, y, rfl, hy, hr⟩ := LL.at (i := 1) (l := [l1A, l2A]) HLa.out (by omega)
  obtain rfl : l2A = y := by simpa using hy
  have hcy := (lo_cells hr).2
  have x1 : v1.cell? ⟨g7, 1, none⟩ = some (.slice q1 2 e1) := HXa.out.cell 1
  have x2 : v1.cell? ⟨g7, 2, none⟩ = some (.slice (some ⟨bx, ox, none⟩) 2 e2) := HXa.out.cell 2
  have hy2 : ((l2A.t : Nat) : Int) = 2 := rfl
  rw [hy2] at hcy
  clear hy hr hy2
  go_wp2_with (refine wpList_runW (exec_idx66 (i := 1) rfl rfl rfl rfl (by omega)) (by kernel_rfl) ?_)
  refine (HK1.out _).mono ?_
  rintro e v2 ⟨rfl, hb⟩
  have HAb := Lib.hid (HAa.out.below hb)
  clear hb x1 x2 hcy
  go_wp2_with fail
  refine (HK4.out _).mono ?_
  rintro e v3 ⟨rfl, hb⟩
  have HAc := Lib.hid (HAb.out.below hb)
  clear hb
  go_wp2_with fail
  refine (HLS.out _).mono ?_
  rintro e v4 ⟨rfl, hb⟩
  have HAd := Lib.hid (HAc.out.below hb)
  clear hb
  go_wp2_with fail
  go_ret
  exact ⟨rfl, HAd.out.old⟩

end Go.Proofs.YtcgbkfnjohbglaaDoor
