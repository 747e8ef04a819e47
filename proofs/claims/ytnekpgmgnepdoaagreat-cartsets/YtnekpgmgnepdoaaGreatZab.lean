import Derived.Laws.Tables
import Derived.Test.YtnekpgmgnepdoaaGreatZaa
section
namespace Go.Proofs.YtnekpgmgnepdoaaGreat
open Go.RowKit
abbrev dotV (r s : Nat) : Value := .agg #[.int .u8 (r : Int), .int .u32 (s : Int)]
structure VDot (w W : World) (v : V) (r s : Nat) : Prop where
 one : Blk W w.heap.size 24 v.arr
 dot : Blk W (w.heap.size + 1) 30 #[.int .u8 (r : Int), .int .u32 (s : Int)]
 old : Below w.heap.size w W
theorem vdot_new (w : World) (v : V) (r s : Nat) : VDot w ((w.alloc (.cells v.arr 24)).alloc (.cells #[.int .u8 (r : Int), .int .u32 (s : Int)] 30)) v r s := by
 have h1 := Blk.new w 24 v.arr
 have h2 := Blk.new (w.alloc (.cells v.arr 24)) 30 #[.int .u8 (r : Int), .int .u32 (s : Int)]
 have k2 := Kept.alloc (fun _ => False) (w.alloc (.cells v.arr 24)) (.cells #[.int .u8 (r : Int), .int .u32 (s : Int)] 30)
 simp only [World.size_alloc] at h2
 exact ⟨h1.kept k2 (fun h => h), h2, below_two' _ _ _⟩
theorem VDot.below {w W W' : World} {v : V} {r s : Nat} (h : VDot w W v r s) (hb : Below W.heap.size W W') : VDot w W' v r s :=
 ⟨h.one.below hb, h.dot.below hb, h.old.trans (hb.mono h.old.size)⟩
theorem VDot.drew {w W : World} {v : V} {r s : Nat} (h : VDot w W v r s) : VDot w W.drew v r s := ⟨h.one, h.dot, h.old.drew⟩
theorem VDot.rep {w W : World} {v : V} {r s : Nat} (h : VDot w W v r s) : W.cell? ⟨w.heap.size + 1, 0, none⟩ = some (.int .u8 (r : Int)) := h.dot.cell 0
theorem VDot.seq {w W : World} {v : V} {r s : Nat} (h : VDot w W v r s) : W.cell? ⟨w.heap.size + 1, 1, none⟩ = some (.int .u32 (s : Int)) := h.dot.cell 1
theorem VDot.num {w W : World} {v : V} {r s : Nat} (h : VDot w W v r s) (hr : r < 16) : W.cell? ⟨w.heap.size, r, none⟩ = some (.int .u32 (v.at_ r : Int)) := by rw [h.one.cell, V.arr_at _ hr]
theorem dotB_lt {r s : Nat} (h : V.dotB r s = true) : r < 16 ∧ 1 ≤ s ∧ s ≤ 1048576 := by simpa [V.dotB] using h
set_option maxHeartbeats 1000000 in
theorem has_any (v : V) (r s : Nat) (w : World) (hr : r < 256) (hs : s < 4294967296) : Calls Tryz.prog 81 #[.agg v.arr, dotV r s] w (Says (.bool (V.hasB v r s)) w) := by
 have hb1 := fun (v : V) (w : World) => box24 v w
 have HT := Lib.hid (vdot_new w v r s)
 have HC := Lib.hid (fun w => valid_any r s w hr hs)
 cases hd : V.dotB r s
 ·rw [hd] at HC
  have HE : Hid (V.hasB v r s = false) := Lib.hid (by simp [V.hasB, hd])
  clear hd
  go_enter Tryz.func81, Tryz.ntmps81
  go_wp2_with fail
  clear hb1
  generalize (w.alloc (.cells v.arr 24)).alloc (.cells #[.int .u8 (r : Int), .int .u32 (s : Int)] 30) = W at HT
  refine wp_region_held_drew (S := fun w' => VDot w w' v r s) (by kernel_rfl) HT.out.drew (fun hS => ?_)
  refine held_tk 0 5 (dotV r s) rfl rfl (by kernel_rfl) (fun _ _ _ h => h) (fun _ h => exec_load30 rfl rfl h.dot) hS ?_
  simp only [Act.put, ap1, ap2, ap3]
  refine held_call 1 6 83 #[(dotV r s)] (.bool false) rfl (by kernel_rfl) rfl (by kernel_rfl) (by kernel_rfl) (HC.out _) (fun _ h hb => h.below hb) hS (fun w101 hS => ?_)
  simp only [Act.put, ap1, ap2, ap3]
  refine held_tk 2 7 (.bool false) rfl rfl (by kernel_rfl) (fun _ _ _ h => h) (fun _ _ => rfl) hS ?_
  simp only [Act.put, ap1, ap2, ap3]
  refine held_sk 3 8 rfl rfl (by kernel_rfl) (fun _ _ _ h => h) hS ?_
  simp only [Act.put, ap1, ap2, ap3]
  refine held_sk 4 9 rfl rfl (by kernel_rfl) (fun _ _ _ h => h) hS ?_
  simp only [Act.put, ap1, ap2, ap3]
  refine held_sk 5 10 rfl rfl (by kernel_rfl) (fun _ _ _ h => h) hS ?_
  simp only [Act.put, ap1, ap2, ap3]
  refine held_sk 6 11 rfl rfl (by kernel_rfl) (fun _ _ _ h => h) hS ?_
  simp only [Act.put, ap1, ap2, ap3]
  refine held_sk 7 12 rfl rfl (by kernel_rfl) (fun _ _ _ h => h) hS ?_
  simp only [Act.put, ap1, ap2, ap3]
  refine held_sk 8 13 rfl rfl (by kernel_rfl) (fun _ _ _ h => h) hS ?_
  simp only [Act.put, ap1, ap2, ap3]
  refine held_sk 9 14 rfl rfl (by kernel_rfl) (fun _ _ _ h => h) hS ?_
  simp only [Act.put, ap1, ap2, ap3]
  refine held_tk 10 15 (.bool false) rfl rfl (by kernel_rfl) (fun _ _ _ h => h) (fun _ _ => rfl) hS ?_
  simp only [Act.put, ap1, ap2, ap3]
  refine held_tk 11 4 (.bool false) rfl rfl (by kernel_rfl) (fun _ _ _ h => h) (fun _ _ => rfl) hS ?_
  simp only [Act.put, ap1, ap2, ap3]
  refine wpAnyH_done (by kernel_rfl) ?_ _
  go_wp2_with fail
  go_ret
  exact ⟨ret_bool HE.out.symm, hS.old⟩
 ·rw [hd] at HC
  have HE : Hid (V.hasB v r s = decide (s ≤ v.at_ r)) := Lib.hid (by simp [V.hasB, hd])
  obtain ⟨hr1, hs1, hs2⟩ := dotB_lt hd
  have hr2 : (r : Int) < 16 := by omega
  clear hd
  go_enter Tryz.func81, Tryz.ntmps81
  go_wp2_with fail
  clear hb1
  generalize (w.alloc (.cells v.arr 24)).alloc (.cells #[.int .u8 (r : Int), .int .u32 (s : Int)] 30) = W at HT
  have c1 := HT.out.rep
  have c2 := HT.out.seq
  have c3 := HT.out.num hr1
  have l1 := v.lt r
  generalize hx : v.at_ r = x at c3 l1 HE
  have HX := Lib.hid hx
  clear hx
  go_region_held3 (fun w' => w'.cell? ⟨w.heap.size + 1, 0, none⟩ = some (.int .u8 (r : Int)) ∧ w'.cell? ⟨w.heap.size + 1, 1, none⟩ = some (.int .u32 (s : Int)) ∧ w'.cell? ⟨w.heap.size, r, none⟩ = some (.int .u32 (x : Int))) (first | exact ⟨c1, c2, c3⟩ | exact ⟨k1, k2, k3⟩) (first
   | (go_at_call 83; refine (HC.out _).mono ?_; rintro e w2 ⟨rfl, hb2⟩; have HT2 := Lib.hid (HT.out.drew.below hb2); have k1 := HT2.out.rep; have k2 := HT2.out.seq; have k3 := HT2.out.num hr1; rw [HX.out] at k3; clear hb2))
  go_wp2_with fail
  go_ret
  exact ⟨ret_bool (by rw [HE.out]), HT2.out.old⟩
set_option maxHeartbeats 1000000 in
theorem rhas_any (v : V) (r s : Nat) (w : World) (hr : r < 256) (hs : s < 4294967296) : Calls Tryz.prog 60 #[.agg v.arr, dotV r s] w (Says (.bool (V.hasB v r s)) w) := by
 have hb1 := fun (v : V) (w : World) => box24 v w
 have HT := Lib.hid (vdot_new w v r s)
 have HC := Lib.hid (fun w => rdot_any r s w hr hs)
 cases hd : V.dotB r s
 ·rw [hd] at HC
  have HE : Hid (V.hasB v r s = false) := Lib.hid (by simp [V.hasB, hd])
  clear hd
  go_enter Tryz.func60, Tryz.ntmps60
  go_wp2_with fail
  clear hb1
  generalize (w.alloc (.cells v.arr 24)).alloc (.cells #[.int .u8 (r : Int), .int .u32 (s : Int)] 30) = W at HT
  refine wp_region_held_drew (S := fun w' => VDot w w' v r s) (by kernel_rfl) HT.out.drew (fun hS => ?_)
  refine held_tk 0 5 (dotV r s) rfl rfl (by kernel_rfl) (fun _ _ _ h => h) (fun _ h => exec_load30 rfl rfl h.dot) hS ?_
  simp only [Act.put, ap1, ap2, ap3]
  refine held_call 1 6 77 #[(dotV r s)] (.bool false) rfl (by kernel_rfl) rfl (by kernel_rfl) (by kernel_rfl) (HC.out _) (fun _ h hb => h.below hb) hS (fun w101 hS => ?_)
  simp only [Act.put, ap1, ap2, ap3]
  refine held_tk 2 7 (.bool false) rfl rfl (by kernel_rfl) (fun _ _ _ h => h) (fun _ _ => rfl) hS ?_
  simp only [Act.put, ap1, ap2, ap3]
  refine held_sk 3 8 rfl rfl (by kernel_rfl) (fun _ _ _ h => h) hS ?_
  simp only [Act.put, ap1, ap2, ap3]
  refine held_sk 4 9 rfl rfl (by kernel_rfl) (fun _ _ _ h => h) hS ?_
  simp only [Act.put, ap1, ap2, ap3]
  refine held_sk 5 10 rfl rfl (by kernel_rfl) (fun _ _ _ h => h) hS ?_
  simp only [Act.put, ap1, ap2, ap3]
  refine held_sk 6 11 rfl rfl (by kernel_rfl) (fun _ _ _ h => h) hS ?_
  simp only [Act.put, ap1, ap2, ap3]
  refine held_sk 7 12 rfl rfl (by kernel_rfl) (fun _ _ _ h => h) hS ?_
  simp only [Act.put, ap1, ap2, ap3]
  refine held_sk 8 13 rfl rfl (by kernel_rfl) (fun _ _ _ h => h) hS ?_
  simp only [Act.put, ap1, ap2, ap3]
  refine held_sk 9 14 rfl rfl (by kernel_rfl) (fun _ _ _ h => h) hS ?_
  simp only [Act.put, ap1, ap2, ap3]
  refine held_tk 10 15 (.bool false) rfl rfl (by kernel_rfl) (fun _ _ _ h => h) (fun _ _ => rfl) hS ?_
  simp only [Act.put, ap1, ap2, ap3]
  refine held_tk 11 4 (.bool false) rfl rfl (by kernel_rfl) (fun _ _ _ h => h) (fun _ _ => rfl) hS ?_
  simp only [Act.put, ap1, ap2, ap3]
  refine wpAnyH_done (by kernel_rfl) ?_ _
  go_wp2_with fail
  go_ret
  exact ⟨ret_bool HE.out.symm, hS.old⟩
 ·rw [hd] at HC
  have HE : Hid (V.hasB v r s = decide (s ≤ v.at_ r)) := Lib.hid (by simp [V.hasB, hd])
  obtain ⟨hr1, hs1, hs2⟩ := dotB_lt hd
  have hr2 : (r : Int) < 16 := by omega
  clear hd
  go_enter Tryz.func60, Tryz.ntmps60
  go_wp2_with fail
  clear hb1
  generalize (w.alloc (.cells v.arr 24)).alloc (.cells #[.int .u8 (r : Int), .int .u32 (s : Int)] 30) = W at HT
  have c1 := HT.out.rep
  have c2 := HT.out.seq
  have c3 := HT.out.num hr1
  have l1 := v.lt r
  generalize hx : v.at_ r = x at c3 l1 HE
  have HX := Lib.hid hx
  clear hx
  go_region_held3 (fun w' => w'.cell? ⟨w.heap.size + 1, 0, none⟩ = some (.int .u8 (r : Int)) ∧ w'.cell? ⟨w.heap.size + 1, 1, none⟩ = some (.int .u32 (s : Int)) ∧ w'.cell? ⟨w.heap.size, r, none⟩ = some (.int .u32 (x : Int))) (first | exact ⟨c1, c2, c3⟩ | exact ⟨k1, k2, k3⟩) (first
   | (go_at_call 77; refine (HC.out _).mono ?_; rintro e w2 ⟨rfl, hb2⟩; have HT2 := Lib.hid (HT.out.drew.below hb2); have k1 := HT2.out.rep; have k2 := HT2.out.seq; have k3 := HT2.out.num hr1; rw [HX.out] at k3; clear hb2))
  go_wp2_with fail
  go_ret
  exact ⟨ret_bool (by rw [HE.out]), HT2.out.old⟩
structure Trio (w W : World) (v : V) (r s : Nat) : Prop where
 one : Blk W w.heap.size 24 v.arr
 dot : Blk W (w.heap.size + 1) 30 #[.int .u8 (r : Int), .int .u32 (s : Int)]
 ans : Blk W (w.heap.size + 2) 24 V.zero.arr
 old : Below w.heap.size w W
theorem trio_new (w : World) (v : V) (r s : Nat) : Trio w (((w.alloc (.cells v.arr 24)).alloc (.cells #[.int .u8 (r : Int), .int .u32 (s : Int)] 30)).alloc (.cells V.zero.arr 24)) v r s := by
 have h := vdot_new w v r s
 have h3 := Blk.new ((w.alloc (.cells v.arr 24)).alloc (.cells #[.int .u8 (r : Int), .int .u32 (s : Int)] 30)) 24 V.zero.arr
 have k3 := Kept.alloc (fun _ => False) ((w.alloc (.cells v.arr 24)).alloc (.cells #[.int .u8 (r : Int), .int .u32 (s : Int)] 30)) (.cells V.zero.arr 24)
 simp only [World.size_alloc] at h3
 exact ⟨h.one.kept k3 (fun h => h), h.dot.kept k3 (fun h => h), h3, h.old.alloc (by simp; omega) _⟩
theorem Trio.below {w W W' : World} {v : V} {r s : Nat} (h : Trio w W v r s) (hb : Below W.heap.size W W') : Trio w W' v r s :=
 ⟨h.one.below hb, h.dot.below hb, h.ans.below hb, h.old.trans (hb.mono h.old.size)⟩
theorem Trio.drew {w W : World} {v : V} {r s : Nat} (h : Trio w W v r s) : Trio w W.drew v r s := ⟨h.one, h.dot, h.ans, h.old.drew⟩
theorem Trio.rep {w W : World} {v : V} {r s : Nat} (h : Trio w W v r s) : W.cell? ⟨w.heap.size + 1, 0, none⟩ = some (.int .u8 (r : Int)) := h.dot.cell 0
theorem Trio.seq {w W : World} {v : V} {r s : Nat} (h : Trio w W v r s) : W.cell? ⟨w.heap.size + 1, 1, none⟩ = some (.int .u32 (s : Int)) := h.dot.cell 1
theorem Trio.num {w W : World} {v : V} {r s : Nat} (h : Trio w W v r s) (hr : r < 16) : W.cell? ⟨w.heap.size, r, none⟩ = some (.int .u32 (v.at_ r : Int)) := by rw [h.one.cell, V.arr_at _ hr]
theorem Trio.ret {w W : World} {v : V} {r s : Nat} (h : Trio w W v r s) {ds : Array Value} : Below w.heap.size w (W.setRow (w.heap.size + 1 + 1) ds) :=
 ((Kept.of_below (S := fun k => k = w.heap.size + 1 + 1) h.old).trans (Kept.setRow _ _ _) (fun _ h => .inl h)).below (Nat.le_refl _) (fun k hk => by omega)
theorem Trio.put {w W : World} {v : V} {r s : Nat} (h : Trio w W v r s) {k u : Nat} (hk : k < 16) (hu : u < 4294967296) : Trio w (W.setCell ⟨w.heap.size, k, none⟩ (.int .u32 (u : Int))) (v.put k u) r s := by
 have k1 := Kept.setCell W ⟨w.heap.size, k, none⟩ (.int .u32 (u : Int))
 refine ⟨?_, h.dot.kept k1 (by simp), h.ans.kept k1 (by simp), h.old.setCell (by simp) _⟩
 have := h.one.set k (.int .u32 (u : Int))
 rwa [V.arr_put v hk hu] at this
def Both (v : V) (e : Nat) : World → Ending → World → Prop := Says (.tuple #[.agg v.arr, .int .i64 (e : Int)])
theorem next_arg {v : V} {r s : Nat} (h : V.dotB r s = false) : V.nextE v r s = 2 ∧ V.nextV v r s = V.zero := by simp [V.nextV, V.nextE, h]
theorem next_have {v : V} {r s : Nat} (h : V.dotB r s = true) (h1 : V.hasB v r s = true) : V.nextE v r s = 8 ∧ V.nextV v r s = V.zero := by simp [V.nextV, V.nextE, h, h1]
theorem next_gap {v : V} {r s : Nat} (h : V.dotB r s = true) (h1 : V.hasB v r s = false) (h2 : 1 < s - v.at_ r) : V.nextE v r s = 9 ∧ V.nextV v r s = V.zero := by simp [V.nextV, V.nextE, h, h1, h2]
theorem next_ok {v : V} {r s : Nat} (h : V.dotB r s = true) (h1 : V.hasB v r s = false) (h2 : ¬ 1 < s - v.at_ r) : V.nextE v r s = 0 ∧ V.nextV v r s = V.put v r s := by simp [V.nextV, V.nextE, h, h1, h2]
theorem both_of {v : V} {r s e : Nat} {u : V} {w w' : World} (h : V.nextE v r s = e ∧ V.nextV v r s = u) (hb : Below w.heap.size w w') : Both (V.nextV v r s) (V.nextE v r s) w (.returned (.tuple #[.agg u.arr, .int .i64 (e : Int)])) w' := ⟨by rw [h.1, h.2], hb⟩
theorem wrap_sub (s x : Nat) (hs : s < 4294967296) (hx : x ≤ s) : IntKind.u32.wrap ((s : Int) - (x : Int)) = (s : Int) - (x : Int) := by
 rw [IntKind.wrap_u32]
 omega
set_option maxHeartbeats 1000000 in
theorem next_any (v : V) (r s : Nat) (w : World) (hr : r < 256) (hs : s < 4294967296) : Calls Tryz.prog 41 #[.agg v.arr, dotV r s] w (Both (V.nextV v r s) (V.nextE v r s) w) := by
 have hb1 := fun (v : V) (w : World) => box24 v w
 have HT := Lib.hid (trio_new w v r s)
 have HC := Lib.hid (fun w => valid_any r s w hr hs)
 have HH := Lib.hid (fun w => has_any v r s w hr hs)
 cases hd : V.dotB r s
 ·rw [hd] at HC
  have HE := Lib.hid (next_arg (v := v) hd)
  clear hd
  go_enter Tryz.func41, Tryz.ntmps41
  go_wp2_with fail
  clear hb1
  rw [← zero_arr]
  generalize ((w.alloc (.cells v.arr 24)).alloc (.cells #[.int .u8 (r : Int), .int .u32 (s : Int)] 30)).alloc (.cells V.zero.arr 24) = W at HT
  refine (HC.out _).mono ?_
  rintro e w1 ⟨rfl, hb⟩
  have HT1 := Lib.hid (HT.out.below hb)
  clear hb
  go_wp2_with (first | (refine wpList_load24 rfl rfl rfl HT1.out.one ?_) | (refine wpList_store24 (u := V.zero) rfl rfl rfl (congrArg Value.agg zero_arr.symm) HT1.out.ans ?_) | (refine wpList_store24 (u := V.zero) rfl rfl rfl rfl HT1.out.ans ?_))
  exact bodyPost_ret (ret24_two (t := 4) (s := 5) (y := .int .i64 2) rfl rfl rfl (Blk.row HT1.out.ans)) rfl (both_of HE.out HT1.out.ret)
 ·cases hh : V.hasB v r s
  ·have hx : s > v.at_ r := by simp [V.hasB, hd] at hh; exact hh
   obtain ⟨hr1, hs1, hs2⟩ := dotB_lt hd
   have hr2 : (r : Int) < 16 := by omega
   by_cases hgap : 1 < s - v.at_ r
   ·have HE := Lib.hid (next_gap hd hh hgap)
    rw [hd] at HC
    rw [hh] at HH
    clear hd hh
    go_enter Tryz.func41, Tryz.ntmps41
    go_wp2_with fail
    clear hb1
    rw [← zero_arr]
    generalize ((w.alloc (.cells v.arr 24)).alloc (.cells #[.int .u8 (r : Int), .int .u32 (s : Int)] 30)).alloc (.cells V.zero.arr 24) = W at HT
    refine (HC.out _).mono ?_
    rintro e w1 ⟨rfl, hb⟩
    have HT1 := Lib.hid (HT.out.below hb)
    have c1 := HT1.out.rep
    have c2 := HT1.out.seq
    clear hb
    go_wp2_with (first | (refine wpList_load24 rfl rfl rfl HT1.out.one ?_) | (refine wpList_store24 (u := V.zero) rfl rfl rfl (congrArg Value.agg zero_arr.symm) HT1.out.ans ?_) | (refine wpList_store24 (u := V.zero) rfl rfl rfl rfl HT1.out.ans ?_))
    refine (HH.out _).mono ?_
    rintro e w2 ⟨rfl, hb⟩
    have HT2 := Lib.hid (HT1.out.below hb)
    clear hb c1 c2
    have c1 := HT2.out.rep
    have c2 := HT2.out.seq
    have c3 := HT2.out.num hr1
    have l1 := v.lt r
    generalize v.at_ r = x at c3 l1 hx hgap
    have hg1 : (1 : Int) < (s : Int) - (x : Int) := by omega
    have hwr := wrap_sub s x hs (by omega)
    go_wp2_with fail
    go_region_held3 (fun w' => w'.cell? ⟨w.heap.size + 1, 0, none⟩ = some (.int .u8 (r : Int)) ∧ w'.cell? ⟨w.heap.size + 1, 1, none⟩ = some (.int .u32 (s : Int)) ∧ w'.cell? ⟨w.heap.size, r, none⟩ = some (.int .u32 (x : Int))) (exact ⟨c1, c2, c3⟩) (fail)
    have HT3 := Lib.hid HT2.out.drew
    clear c1 c2 c3
    go_wp2_with (first | (refine wpList_load24 rfl rfl rfl HT3.out.one ?_) | (refine wpList_store24 (u := V.zero) rfl rfl rfl (congrArg Value.agg zero_arr.symm) HT3.out.ans ?_) | (refine wpList_store24 (u := V.zero) rfl rfl rfl rfl HT3.out.ans ?_))
    exact bodyPost_ret (ret24_two (t := 4) (s := 5) (y := .int .i64 9) rfl rfl rfl (Blk.row HT3.out.ans)) rfl (both_of HE.out HT3.out.ret)
   ·have HE := Lib.hid (next_ok hd hh hgap)
    rw [hd] at HC
    rw [hh] at HH
    clear hd hh
    go_enter Tryz.func41, Tryz.ntmps41
    go_wp2_with fail
    clear hb1
    rw [← zero_arr]
    generalize ((w.alloc (.cells v.arr 24)).alloc (.cells #[.int .u8 (r : Int), .int .u32 (s : Int)] 30)).alloc (.cells V.zero.arr 24) = W at HT
    refine (HC.out _).mono ?_
    rintro e w1 ⟨rfl, hb⟩
    have HT1 := Lib.hid (HT.out.below hb)
    have c1 := HT1.out.rep
    have c2 := HT1.out.seq
    clear hb
    go_wp2_with (first | (refine wpList_load24 rfl rfl rfl HT1.out.one ?_) | (refine wpList_store24 (u := V.zero) rfl rfl rfl (congrArg Value.agg zero_arr.symm) HT1.out.ans ?_) | (refine wpList_store24 (u := V.zero) rfl rfl rfl rfl HT1.out.ans ?_))
    refine (HH.out _).mono ?_
    rintro e w2 ⟨rfl, hb⟩
    have HT2 := Lib.hid (HT1.out.below hb)
    clear hb c1 c2
    have c1 := HT2.out.rep
    have c2 := HT2.out.seq
    have c3 := HT2.out.num hr1
    have f1 := HT2.out.one.frozen r
    have l1 := v.lt r
    generalize v.at_ r = x at c3 l1 hx hgap
    have hg1 : (s : Int) - (x : Int) ≤ 1 := by omega
    have hwr := wrap_sub s x hs (by omega)
    go_wp2_with fail
    go_region_held3 (fun w' => w'.cell? ⟨w.heap.size + 1, 0, none⟩ = some (.int .u8 (r : Int)) ∧ w'.cell? ⟨w.heap.size + 1, 1, none⟩ = some (.int .u32 (s : Int)) ∧ w'.cell? ⟨w.heap.size, r, none⟩ = some (.int .u32 (x : Int))) (exact ⟨c1, c2, c3⟩) (fail)
    have HT3 := Lib.hid (HT2.out.drew.put hr1 hs)
    go_wp2_with (first | (refine wpList_load24 rfl rfl rfl HT3.out.one ?_) | (refine wpList_store24 rfl rfl rfl rfl HT3.out.ans ?_))
    exact bodyPost_ret (ret24_two (t := 4) (s := 5) (y := .int .i64 0) rfl rfl rfl (Blk.row HT3.out.ans)) rfl (both_of HE.out HT3.out.ret)
  ·have HE := Lib.hid (next_have hd hh)
   rw [hd] at HC
   rw [hh] at HH
   clear hd hh
   go_enter Tryz.func41, Tryz.ntmps41
   go_wp2_with fail
   clear hb1
   rw [← zero_arr]
   generalize ((w.alloc (.cells v.arr 24)).alloc (.cells #[.int .u8 (r : Int), .int .u32 (s : Int)] 30)).alloc (.cells V.zero.arr 24) = W at HT
   refine (HC.out _).mono ?_
   rintro e w1 ⟨rfl, hb⟩
   have HT1 := Lib.hid (HT.out.below hb)
   have c1 := HT1.out.rep
   have c2 := HT1.out.seq
   clear hb
   go_wp2_with (first | (refine wpList_load24 rfl rfl rfl HT1.out.one ?_) | (refine wpList_store24 (u := V.zero) rfl rfl rfl (congrArg Value.agg zero_arr.symm) HT1.out.ans ?_) | (refine wpList_store24 (u := V.zero) rfl rfl rfl rfl HT1.out.ans ?_))
   refine (HH.out _).mono ?_
   rintro e w2 ⟨rfl, hb⟩
   have HT2 := Lib.hid (HT1.out.below hb)
   clear hb c1 c2
   go_wp2_with (first | (refine wpList_load24 rfl rfl rfl HT2.out.one ?_) | (refine wpList_store24 (u := V.zero) rfl rfl rfl (congrArg Value.agg zero_arr.symm) HT2.out.ans ?_) | (refine wpList_store24 (u := V.zero) rfl rfl rfl rfl HT2.out.ans ?_))
   exact bodyPost_ret (ret24_two (t := 4) (s := 5) (y := .int .i64 8) rfl rfl rfl (Blk.row HT2.out.ans)) rfl (both_of HE.out HT2.out.ret)
end Go.Proofs.YtnekpgmgnepdoaaGreat
end
section
namespace Go.Proofs.YtnekpgmgnepdoaaGreat
open Go.RowKit
section
variable {ops : Array Oper} {Q : Exit → Act → World → Prop} {S : World → Prop} {fuel : Nat} {listed : Array Bool} {a : Act} {w : World}
theorem held_callP (i : Nat) (d : Tmp) {oi : Oper} (f : FuncId) (args : Array Value) {R : Ending → World → Prop} (hd : oi.dst = some d) (hr : Region.ready .any ops listed = [i]) (hi : ops[i]? = some oi) (hw : Region.wanted oi (yielded ops a.tmps) = true)
  (hrun : (execOp a.eval oi).run Tryz.prog w = .ok (.enter f args) w) (hc : Calls Tryz.prog f args w R)
  (h : ∀ e w', R e w' → ∃ v, e = .returned v ∧ S w' ∧ (S w' → wpAnyH Tryz.prog .any ops Q S fuel (listed.setIfInBounds i true) (a.put (some d) v) w')) : wpAnyH Tryz.prog .any ops Q S (fuel + 1) listed a w := by
 refine wpAnyH_ready (rs := [i]) hr (by simp) (AllReadyH.cons hi (fun K hK => ?_) AllReadyH.nil)
 rw [if_pos hw]
 unfold Oper.wp
 rw [hrun, Oper.upon_enter]
 refine hc.mono fun e w' hh => ?_
 obtain ⟨v, rfl, hS, hk⟩ := h e w' hh
 exact hK.out _ _ hS (fun hS' => by rw [hd]; exact hk hS')
theorem held_pure (i : Nat) (d : Tmp) {oi : Oper} (f : FuncId) (args : Array Value) (v : Value) (hd : oi.dst = some d) (hr : Region.ready .any ops listed = [i]) (hi : ops[i]? = some oi) (hw : Region.wanted oi (yielded ops a.tmps) = true)
  (hrun : (execOp a.eval oi).run Tryz.prog w = .ok (.enter f args) w) (hc : Calls Tryz.prog f args w fun e w' => e = .returned v ∧ w = w') (hS : S w)
  (h : wpAnyH Tryz.prog .any ops Q S fuel (listed.setIfInBounds i true) (a.put (some d) v) w) : wpAnyH Tryz.prog .any ops Q S (fuel + 1) listed a w :=
 held_callP i d f args hd hr hi hw hrun hc fun _ _ ⟨he, hw'⟩ => ⟨v, he, hw' ▸ hS, fun _ => hw' ▸ h⟩
theorem held_exec (i : Nat) (d : Tmp) {oi : Oper} (v : Value) {w2 : World} (hd : oi.dst = some d) (hi : ops[i]? = some oi) (hr : Region.ready .any ops listed = [i]) (hw : Region.wanted oi (yielded ops a.tmps) = true)
  (hy : (execOp a.eval oi).run Tryz.prog w = .ok (.value v) w2) (hS : S w2)
  (h : wpAnyH Tryz.prog .any ops Q S fuel (listed.setIfInBounds i true) (a.put (some d) v) w2) : wpAnyH Tryz.prog .any ops Q S (fuel + 1) listed a w := by
 refine wpAnyH_ready (rs := [i]) hr (by simp) (AllReadyH.cons hi (fun K hK => ?_) AllReadyH.nil)
 rw [if_pos hw]
 unfold Oper.wp
 rw [hy]
 exact hK.out _ _ hS (fun _ => by rw [hd]; exact h)
theorem held_void (i : Nat) {oi : Oper} {w2 : World} (hd : oi.dst = none) (hi : ops[i]? = some oi) (hr : Region.ready .any ops listed = [i]) (hw : Region.wanted oi (yielded ops a.tmps) = true)
  (hy : (execOp a.eval oi).run Tryz.prog w = .ok .skip w2) (hS : S w2)
  (h : wpAnyH Tryz.prog .any ops Q S fuel (listed.setIfInBounds i true) a w2) : wpAnyH Tryz.prog .any ops Q S (fuel + 1) listed a w := by
 refine wpAnyH_ready (rs := [i]) hr (by simp) (AllReadyH.cons hi (fun K hK => ?_) AllReadyH.nil)
 rw [if_pos hw]
 unfold Oper.wp
 rw [hy]
 exact hK.out _ _ hS (fun _ => by rw [hd]; exact h)
end
section
variable {ops : Array Oper} {Q : Exit → Act → World → Prop} {S : World → Prop} {fuel : Nat} {listed : Array Bool} {a : Act} {w : World} {rs : List Nat}
theorem br_callP (i : Nat) (d : Tmp) {oi : Oper} (f : FuncId) (args : Array Value) {R : Ending → World → Prop} (hd : oi.dst = some d) (hi : ops[i]? = some oi) (hw : Region.wanted oi (yielded ops a.tmps) = true)
  (hrun : (execOp a.eval oi).run Tryz.prog w = .ok (.enter f args) w) (hc : Calls Tryz.prog f args w R)
  (h : ∀ e w', R e w' → ∃ v, e = .returned v ∧ S w' ∧ (S w' → wpAnyH Tryz.prog .any ops Q S fuel (listed.setIfInBounds i true) (a.put (some d) v) w')) (hs : AllReadyH Tryz.prog .any ops Q S fuel listed a w rs) : AllReadyH Tryz.prog .any ops Q S fuel listed a w (i :: rs) := by
 refine AllReadyH.cons hi (fun K hK => ?_) hs
 rw [if_pos hw]
 unfold Oper.wp
 rw [hrun, Oper.upon_enter]
 refine hc.mono fun e w' hh => ?_
 obtain ⟨v, rfl, hS, hk⟩ := h e w' hh
 exact hK.out _ _ hS (fun hS' => by rw [hd]; exact hk hS')
theorem br_exec (i : Nat) (d : Tmp) {oi : Oper} (v : Value) {w2 : World} (hd : oi.dst = some d) (hi : ops[i]? = some oi) (hw : Region.wanted oi (yielded ops a.tmps) = true)
  (hy : (execOp a.eval oi).run Tryz.prog w = .ok (.value v) w2) (hS : S w2)
  (h : wpAnyH Tryz.prog .any ops Q S fuel (listed.setIfInBounds i true) (a.put (some d) v) w2) (hs : AllReadyH Tryz.prog .any ops Q S fuel listed a w rs) : AllReadyH Tryz.prog .any ops Q S fuel listed a w (i :: rs) := by
 refine AllReadyH.cons hi (fun K hK => ?_) hs
 rw [if_pos hw]
 unfold Oper.wp
 rw [hy]
 exact hK.out _ _ hS (fun _ => by rw [hd]; exact h)
end
section
variable {ops : Array Oper} {rest : List Oper} {o : Oper} {act : Act} {Q : Exit → Act → World → Prop} {W W2 : World}
theorem wpList_run {v : Value} (hgd : o.guard = none) (hrun : (execOp act.eval o).run Tryz.prog W = .ok (.value v) W2)
  (k : wpList Tryz.prog ops Q rest (act.put o.dst v) W2) : wpList Tryz.prog ops Q (o :: rest) act W :=
 wpList_plain hgd fun _ hK => by
  unfold Oper.wp
  rw [hrun]
  exact hK _ _ k
theorem wpList_void (hgd : o.guard = none) (hd : o.dst = none) (hrun : (execOp act.eval o).run Tryz.prog W = .ok .skip W2)
  (k : wpList Tryz.prog ops Q rest act W2) : wpList Tryz.prog ops Q (o :: rest) act W :=
 wpList_plain hgd fun _ hK => by
  unfold Oper.wp
  rw [hrun]
  refine hK _ _ ?_
  rw [hd]
  exact k
end
theorem exec_cell {ev : Operand → Value} {o : Oper} {x : Operand} {t : TypeId} {p : Addr} {v : Value} {w : World} (ho : o.op = .load t x) (hx : ev x = .pointer (some p)) (h : (Instr.loadAt t (.pointer (some p))).run Tryz.prog w = .ok v w) : (execOp ev o).run Tryz.prog w = .ok (.value v) w := by
 unfold execOp
 simp only [ho, hx, Sem.run_bind, h, Result.andThen_ok]
 rfl
theorem load_cell {w : World} {p : Addr} {v : Value} {t : TypeId} (hagg : (isAgg t).run Tryz.prog w = .ok false w) (h : w.cell? p = some v) : (Instr.loadAt t (.pointer (some p))).run Tryz.prog w = .ok v w := by
 simp [Instr.loadAt, Instr.sureAddr, loadVar, hagg, h, Sem.run_bind]
end Go.Proofs.YtnekpgmgnepdoaaGreat
end
section
namespace Go.Proofs.YtnekpgmgnepdoaaGreat
open Go.RowKit
section
variable {ops : Array Oper} {rest : List Oper} {o : Oper} {act : Act} {Q : Exit → Act → World → Prop} {W : World}
theorem wpList_alloc24 {z : V} (hz : V.zero = z) (hgd : o.guard = none) (ho : o.op = .alloc 24)
  (k : wpList Tryz.prog ops Q rest (act.put o.dst (.pointer (some ⟨W.heap.size, 0, none⟩))) (W.alloc (.cells z.arr 24))) : wpList Tryz.prog ops Q (o :: rest) act W :=
 wpList_plain hgd fun K hK => by
  subst hz
  unfold Oper.wp execOp
  simp only [ho, Sem.run_bind, alloc24, Result.andThen_ok]
  exact hK _ _ k
end
structure Halt_ (p : Prop) : Prop where
 out : p
theorem wpList_stop {ops : Array Oper} {rest : List Oper} {o : Oper} {act : Act} {Q : Exit → Act → World → Prop} {W : World} {x y : Operand} (_ho : o.op = .store 24 x y) (k : Halt_ (wpList Tryz.prog ops Q (o :: rest) act W)) : wpList Tryz.prog ops Q (o :: rest) act W := k.out
theorem laid_blk (w : World) (z v : V) : Blk ((w.alloc (.cells z.arr 24)).setRow w.heap.size v.arr) w.heap.size 24 v.arr := (Blk.new w 24 z.arr).row
theorem laid_old (w : World) (z v : V) : Below w.heap.size w ((w.alloc (.cells z.arr 24)).setRow w.heap.size v.arr) :=
 (below_one w _).trans ((Kept.setRow (w.alloc (.cells z.arr 24)) w.heap.size v.arr).below (by simp) (fun k hk => by omega))
end Go.Proofs.YtnekpgmgnepdoaaGreat
end
section
namespace Go.Proofs.YtnekpgmgnepdoaaGreat
open Go.RowKit
def O.hd (o : O) : List Value := [.int .u8 (o.r : Int), .int .u32 (o.s : Int), .int .u8 (o.k : Int), .int .u16 (o.c : Int), .int .u16 (o.i : Int), .int .u16 (o.q : Int), .int .u32 (o.t : Int)]
def O.cs (o : O) : List Value := o.hd ++ o.v.cs
abbrev O.arr (o : O) : Array Value := o.cs.toArray
theorem O.cs_len (o : O) : o.cs.length = 23 := by simp [O.cs, O.hd, o.v.cs_len]
theorem O.arr_size (o : O) : o.arr.size = 23 := by simp [o.cs_len]
theorem O.arr_one (o : O) : o.arr.all (·.oneCell') = true := by
 refine all_oneCell_toArray fun u hu => ?_
 rcases List.mem_append.1 hu with h | h
 ·simp only [O.hd, List.mem_cons, List.not_mem_nil, or_false] at h
  rcases h with rfl | rfl | rfl | rfl | rfl | rfl | rfl <;> rfl
 ·obtain ⟨n, _, rfl⟩ := List.mem_map.1 h
  rfl
theorem O.at7 (o : O) {j : Nat} (hj : j < 16) : o.cs[7 + j]? = some (.int .u32 (o.v.at_ j : Int)) := by
 unfold O.cs
 rw [List.getElem?_append_right (by simp [O.hd])]
 simp only [O.hd, List.length_cons, List.length_nil]
 rw [show 7 + j - (0 + 1 + 1 + 1 + 1 + 1 + 1 + 1) = j by omega]
 exact o.v.cs_at hj
theorem oc0 {W : World} {g : Nat} {o : O} (h : Blk W g 33 o.arr) : W.cell? ⟨g, 0, none⟩ = some (.int .u8 (o.r : Int)) := by rw [h.cell]; rfl
theorem oc1 {W : World} {g : Nat} {o : O} (h : Blk W g 33 o.arr) : W.cell? ⟨g, 1, none⟩ = some (.int .u32 (o.s : Int)) := by rw [h.cell]; rfl
theorem oc2 {W : World} {g : Nat} {o : O} (h : Blk W g 33 o.arr) : W.cell? ⟨g, 2, none⟩ = some (.int .u8 (o.k : Int)) := by rw [h.cell]; rfl
theorem oc3 {W : World} {g : Nat} {o : O} (h : Blk W g 33 o.arr) : W.cell? ⟨g, 3, none⟩ = some (.int .u16 (o.c : Int)) := by rw [h.cell]; rfl
theorem oc4 {W : World} {g : Nat} {o : O} (h : Blk W g 33 o.arr) : W.cell? ⟨g, 4, none⟩ = some (.int .u16 (o.i : Int)) := by rw [h.cell]; rfl
theorem oc5 {W : World} {g : Nat} {o : O} (h : Blk W g 33 o.arr) : W.cell? ⟨g, 5, none⟩ = some (.int .u16 (o.q : Int)) := by rw [h.cell]; rfl
theorem oc6 {W : World} {g : Nat} {o : O} (h : Blk W g 33 o.arr) : W.cell? ⟨g, 6, none⟩ = some (.int .u32 (o.t : Int)) := by rw [h.cell]; rfl
theorem oc7 {W : World} {g : Nat} {o : O} (h : Blk W g 33 o.arr) {j : Nat} (hj : j < 16) : W.cell? ⟨g, 7 + j, none⟩ = some (.int .u32 (o.v.at_ j : Int)) := by
 rw [h.cell, ← o.at7 hj]; simp
theorem size33 : (Tryz.prog.info? 33).map (·.size) = some 23 := by kernel_rfl
theorem sixteen (v : V) : ∃ a b c d e f g h i j k l m n p q : Nat, v.1 = [a, b, c, d, e, f, g, h, i, j, k, l, m, n, p, q] := by
 obtain ⟨l, hl, _⟩ := v
 match l, hl with
 | [a, b, c, d, e, f, g, h, i, j, k, l, m, n, p, q], _ => exact ⟨a, b, c, d, e, f, g, h, i, j, k, l, m, n, p, q, rfl⟩
theorem box33 (o : O) (w : World) : (Instr.box 33 (.agg o.arr)).run Tryz.prog w = .ok (.pointer (some ⟨w.heap.size, 0, none⟩)) (w.alloc (.cells o.arr 33)) := by
 simp [Instr.box, newVar, newRow, Value.cells, go_sem]
theorem zero_oarr : O.zero.arr = #[.int .u8 0, .int .u32 0, .int .u8 0, .int .u16 0, .int .u16 0, .int .u16 0, .int .u32 0, .int .u32 0, .int .u32 0, .int .u32 0, .int .u32 0, .int .u32 0, .int .u32 0, .int .u32 0, .int .u32 0, .int .u32 0, .int .u32 0, .int .u32 0, .int .u32 0, .int .u32 0, .int .u32 0, .int .u32 0, .int .u32 0] := by kernel_rfl
theorem info33 : (Tryz.prog.info? 33).map (fun i => (i.zero, i.size)) = some (some (.agg O.zero.arr), 23) := by rw [zero_oarr]; kernel_rfl
theorem alloc33 (w : World) : (Instr.alloc 33 true (.tuple #[])).run Tryz.prog w = .ok (.pointer (some ⟨w.heap.size, 0, none⟩)) (w.alloc (.cells O.zero.arr 33)) := by
 simp only [Instr.alloc, Sem.run_bind, (zero_of_info info33).1, Result.andThen_ok]
 simp [newVar, newRow, Value.cells, go_sem]
theorem load33 {w : World} {g : Nat} {o : O} (h : Blk w g 33 o.arr) : (Instr.loadAt 33 (.pointer (some ⟨g, 0, none⟩))).run Tryz.prog w = .ok (.agg o.arr) w := by
 have hi : (Tryz.prog.info? 33).map (·.size) = some o.arr.size := by rw [o.arr_size]; exact size33
 simp only [Instr.loadAt, Instr.sureAddr, Sem.run_bind, Sem.run_pure, Result.andThen]
 exact run_loadVar_row _ _ 33 33 o.arr (0, 0) _ h Tryz.underlying33 rfl hi
theorem loadVar33 {w : World} {g : Nat} {o : O} (h : Blk w g 33 o.arr) : (loadVar 33 ⟨g, 0, none⟩).run Tryz.prog w = .ok (.agg o.arr) w := by
 have hi : (Tryz.prog.info? 33).map (·.size) = some o.arr.size := by rw [o.arr_size]; exact size33
 exact run_loadVar_row _ _ 33 33 o.arr (0, 0) _ h Tryz.underlying33 rfl hi
theorem store33 {w : World} {g : Nat} {o u : O} (h : Blk w g 33 o.arr) : (Instr.storeAt 33 (.pointer (some ⟨g, 0, none⟩)) (.agg u.arr)).run Tryz.prog w = .ok () (w.setRow g u.arr) := by
 have hi : (Tryz.prog.info? 33).map (·.size) = some u.arr.size := by rw [u.arr_size]; exact size33
 simp only [Instr.storeAt, Instr.sureAddr, Sem.run_bind, Sem.run_pure, Result.andThen]
 exact run_storeVar_row _ _ 33 33 o.arr u.arr h hi (by rw [o.arr_size, u.arr_size]) u.arr_one
theorem load_ctx {w : World} {g : Nat} {o : O} (h : Blk w g 33 o.arr) : (Instr.loadAt 24 (.pointer (some ⟨g, 7, none⟩))).run Tryz.prog w = .ok (.agg o.v.arr) w := by
 have hl := run_loadVar_mid (P := Tryz.prog) w g 7 24 o.v.cs _ (by
  intro j u hu
  have hj : j < 16 := by rw [← o.v.cs_len]; exact (List.getElem?_eq_some_iff.1 hu).1
  rw [oc7 h hj, ← o.v.cs_at hj, hu]) und24 rfl (by rw [o.v.cs_len]; exact size24)
 simp only [Instr.loadAt, Instr.sureAddr, Sem.run_bind, Sem.run_pure, Result.andThen_ok, hl]
theorem load_dot {w : World} {g : Nat} {o : O} (h : Blk w g 33 o.arr) : (Instr.loadAt 30 (.pointer (some ⟨g, 0, none⟩))).run Tryz.prog w = .ok (dotV o.r o.s) w := by
 have hl := run_loadVar_mid (P := Tryz.prog) w g 0 30 [.int .u8 (o.r : Int), .int .u32 (o.s : Int)] _ (by
  intro j u hu
  match j, hu with
  | 0, hu => simpa using (oc0 h).trans (by simpa using hu)
  | 1, hu => simpa using (oc1 h).trans (by simpa using hu)) Tryz.underlying30 rfl (by kernel_rfl)
 simp only [Instr.loadAt, Instr.sureAddr, Sem.run_bind, Sem.run_pure, Result.andThen_ok, hl]
section
variable {ev : Operand → Value} {o : Oper} {w : World}
theorem exec_load33 {x : Operand} {g : Nat} {p : O} (ho : o.op = .load 33 x) (hx : ev x = .pointer (some ⟨g, 0, none⟩)) (h : Blk w g 33 p.arr) : (execOp ev o).run Tryz.prog w = .ok (.value (.agg p.arr)) w := exec_cell ho hx (load33 h)
theorem exec_ctx {x : Operand} {g : Nat} {p : O} (ho : o.op = .load 24 x) (hx : ev x = .pointer (some ⟨g, 7, none⟩)) (h : Blk w g 33 p.arr) : (execOp ev o).run Tryz.prog w = .ok (.value (.agg p.v.arr)) w := exec_cell ho hx (load_ctx h)
theorem exec_dot {x : Operand} {g : Nat} {p : O} (ho : o.op = .load 30 x) (hx : ev x = .pointer (some ⟨g, 0, none⟩)) (h : Blk w g 33 p.arr) : (execOp ev o).run Tryz.prog w = .ok (.value (dotV p.r p.s)) w := exec_cell ho hx (load_dot h)
theorem exec_store33 {x y : Operand} {g : Nat} {p u : O} (ho : o.op = .store 33 x y) (hx : ev x = .pointer (some ⟨g, 0, none⟩)) (hy : ev y = .agg u.arr) (h : Blk w g 33 p.arr) : (execOp ev o).run Tryz.prog w = .ok .skip (w.setRow g u.arr) := by
 unfold execOp
 simp only [ho, hx, hy, Sem.run_bind, store33 (u := u) h, Result.andThen_ok]
 rfl
theorem exec_alloc33 (ho : o.op = .alloc 33) : (execOp ev o).run Tryz.prog w = .ok (.value (.pointer (some ⟨w.heap.size, 0, none⟩))) (w.alloc (.cells O.zero.arr 33)) := by
 unfold execOp
 simp only [ho, Sem.run_bind, alloc33, Result.andThen_ok]
 rfl
theorem exec_lssI {x y : Operand} {u t : TypeId} {k : IntKind} {a b : Int} {r : Bool} (ho : o.op = .binOp .lss u x y t) (hx : ev x = .int k a) (hy : ev y = .int k b) (hr : decide (a < b) = r) : (execOp ev o).run Tryz.prog w = .ok (.value (.bool r)) w := by
 subst hr
 unfold execOp
 simp [ho, hx, hy, eqGuard, binOp, Op.intCmp]
theorem exec_geqI {x y : Operand} {u t : TypeId} {k : IntKind} {a b : Int} {r : Bool} (ho : o.op = .binOp .geq u x y t) (hx : ev x = .int k a) (hy : ev y = .int k b) (hr : decide (b ≤ a) = r) : (execOp ev o).run Tryz.prog w = .ok (.value (.bool r)) w := by
 subst hr
 unfold execOp
 simp [ho, hx, hy, eqGuard, binOp, Op.intCmp]
end
theorem eqF_nil {d : Nat} {xs ys : Array Value} {w : World} : (Op.eqFields d xs ys []).run Tryz.prog w = .ok true w := by simp [Op.eqFields]
section
variable {ops : Array Oper} {rest : List Oper} {o : Oper} {act : Act} {Q : Exit → Act → World → Prop} {W W2 : World}
theorem wpList_runW {v : Value} (hrun : (execOp act.eval o).run Tryz.prog W = .ok (.value v) W2) (hw : Region.wanted o (yielded ops act.tmps) = true)
  (k : wpList Tryz.prog ops Q rest (act.put o.dst v) W2) : wpList Tryz.prog ops Q (o :: rest) act W :=
 BigFrame.wpList_want hw fun _ hK => by
  unfold Oper.wp
  rw [hrun]
  exact hK _ _ k
theorem wpList_stop33 {x y : Operand} (_ho : o.op = .store 33 x y) (k : Halt_ (wpList Tryz.prog ops Q (o :: rest) act W)) : wpList Tryz.prog ops Q (o :: rest) act W := k.out
end
structure Ow (w W : World) (o : O) : Prop where
 one : Blk W w.heap.size 33 o.arr
 old : Below w.heap.size w W
theorem ow_new (w : World) (o : O) : Ow w (w.alloc (.cells o.arr 33)) o := ⟨Blk.new w 33 o.arr, below_one _ _⟩
theorem Ow.below {w W W' : World} {o : O} (h : Ow w W o) (hb : Below W.heap.size W W') : Ow w W' o := ⟨h.one.below hb, h.old.trans (hb.mono h.old.size)⟩
structure Ow2 (w W : World) (a b : O) : Prop where
 one : Blk W w.heap.size 33 a.arr
 two : Blk W (w.heap.size + 1) 33 b.arr
 old : Below w.heap.size w W
theorem ow2_new (w : World) (a b : O) : Ow2 w ((w.alloc (.cells a.arr 33)).alloc (.cells b.arr 33)) a b := by
 have h1 := Blk.new w 33 a.arr
 have h2 := Blk.new (w.alloc (.cells a.arr 33)) 33 b.arr
 have k2 := Kept.alloc (fun _ => False) (w.alloc (.cells a.arr 33)) (.cells b.arr 33)
 simp only [World.size_alloc] at h2
 exact ⟨h1.kept k2 (fun h => h), h2, below_two' _ _ _⟩
theorem Ow2.below {w W W' : World} {a b : O} (h : Ow2 w W a b) (hb : Below W.heap.size W W') : Ow2 w W' a b := ⟨h.one.below hb, h.two.below hb, h.old.trans (hb.mono h.old.size)⟩
structure Vo (w W : World) (v : V) (o : O) : Prop where
 vec : Blk W w.heap.size 24 v.arr
 two : Blk W (w.heap.size + 1) 33 o.arr
 old : Below w.heap.size w W
theorem vo_new (w : World) (v : V) (o : O) : Vo w ((w.alloc (.cells v.arr 24)).alloc (.cells o.arr 33)) v o := by
 have h1 := Blk.new w 24 v.arr
 have h2 := Blk.new (w.alloc (.cells v.arr 24)) 33 o.arr
 have k2 := Kept.alloc (fun _ => False) (w.alloc (.cells v.arr 24)) (.cells o.arr 33)
 simp only [World.size_alloc] at h2
 exact ⟨h1.kept k2 (fun h => h), h2, below_two' _ _ _⟩
theorem Vo.below {w W W' : World} {v : V} {o : O} (h : Vo w W v o) (hb : Below W.heap.size W W') : Vo w W' v o := ⟨h.vec.below hb, h.two.below hb, h.old.trans (hb.mono h.old.size)⟩
end Go.Proofs.YtnekpgmgnepdoaaGreat
end
section
namespace Go.Proofs.YtnekpgmgnepdoaaGreat
open Go.RowKit
set_option maxHeartbeats 1000000 in
theorem makes_any (o : O) (w : World) : Calls Tryz.prog 124 #[.agg o.arr] w (Says (.bool o.laysB) w) := by
 have hb1 := fun w => box33 o w
 have HT := Lib.hid (ow_new w o)
 have c2 := oc2 (ow_new w o).one
 have hk := o.hk
 by_cases h1 : o.k = 1
 ·have HE : Hid (o.laysB = true) := Lib.hid (by unfold O.laysB; simp <;> omega)
  rw [h1] at c2
  go_enter Tryz.func124, Tryz.ntmps124
  go_wp2_with fail
  go_ret
  exact ⟨ret_bool HE.out.symm, HT.out.old⟩
 by_cases h2 : o.k = 2
 ·have HE : Hid (o.laysB = true) := Lib.hid (by unfold O.laysB; simp <;> omega)
  rw [h2] at c2
  go_enter Tryz.func124, Tryz.ntmps124
  go_wp2_with fail
  go_ret
  exact ⟨ret_bool HE.out.symm, HT.out.old⟩
 by_cases h4 : o.k = 4
 ·have HE : Hid (o.laysB = true) := Lib.hid (by unfold O.laysB; simp <;> omega)
  rw [h4] at c2
  go_enter Tryz.func124, Tryz.ntmps124
  go_wp2_with fail
  go_ret
  exact ⟨ret_bool HE.out.symm, HT.out.old⟩
 have HE : Hid (o.laysB = false) := Lib.hid (by unfold O.laysB; simp <;> omega)
 have gk1 : ((o.k : Int) == 1) = false := by simp <;> omega
 have gk2 : ((o.k : Int) == 2) = false := by simp <;> omega
 have gk4 : ((o.k : Int) == 4) = false := by simp <;> omega
 go_enter Tryz.func124, Tryz.ntmps124
 go_wp2_with fail
 go_ret
 exact ⟨ret_bool HE.out.symm, HT.out.old⟩
set_option maxHeartbeats 1000000 in
theorem count_any (o : O) (w : World) : Calls Tryz.prog 89 #[.agg o.arr] w (Says (.int .u64 (o.count : Int)) w) := by
 have hb1 := fun w => box33 o w
 have HT := Lib.hid (ow_new w o)
 have HS := Lib.hid (fun w => sum_any o.v w)
 have hl := V.sum_lt o.v
 have HC : Hid (o.count = V.sum o.v + 1) := Lib.hid rfl
 generalize V.sum o.v = x at HS hl HC
 go_enter Tryz.func89, Tryz.ntmps89
 go_wp2_with (refine wpList_run rfl (exec_ctx (p := o) rfl rfl HT.out.one) ?_)
 clear hb1
 generalize w.alloc (.cells o.arr 33) = W at HT
 refine (HS.out _).mono ?_
 rintro e w1 ⟨rfl, hb⟩
 have HT1 := Lib.hid (HT.out.below hb)
 clear hb
 go_wp2_with fail
 go_ret
 exact ⟨ret_int (by rw [HC.out]; omega), HT1.out.old⟩
end Go.Proofs.YtnekpgmgnepdoaaGreat
end
section
namespace Go.Proofs.YtnekpgmgnepdoaaGreat
open Go.RowKit
set_option maxHeartbeats 4000000 in
theorem ends_any (o p : O) (w : World) : Calls Tryz.prog 87 #[.agg o.arr, .agg p.arr] w (Says (.bool (O.endsB o p)) w) := by
 have hb1 := fun (o : O) w => box33 o w
 have HT := Lib.hid (ow2_new w o p)
 have HM := Lib.hid (fun w => makes_any p w)
 have HH := Lib.hid (fun w => has_any o.v p.r p.s w p.hr p.hs)
 have HL : Hid (O.endsB o p = decide (p.laysB = true ∧ o.c = p.c ∧ V.hasB o.v p.r p.s = true ∧ (o.k = 5 ∨ ((o.k = 3 ∨ o.k = 2) ∧ p.k ≠ 4 ∧ o.i = p.i)))) := Lib.hid rfl
 have b1 := o.hk
 have b2 := p.hk
 have b3 := o.hc
 have b4 := p.hc
 have b5 := o.hi
 have b6 := p.hi
 go_enter Tryz.func87, Tryz.ntmps87
 go_wp2_with (refine wpList_run rfl (exec_load33 (p := p) rfl rfl HT.out.two) ?_)
 clear hb1
 generalize (w.alloc (.cells o.arr 33)).alloc (.cells p.arr 33) = W at HT
 cases hm : p.laysB
 ·have HE : Hid (O.endsB o p = false) := Lib.hid (by rw [HL.out, hm]; simp)
  rw [hm] at HM
  clear hm
  refine (HM.out _).mono ?_
  rintro e w1 ⟨rfl, hb⟩
  have HT2 := Lib.hid (HT.out.below hb)
  clear hb
  go_wp2_with fail
  go_ret
  exact ⟨ret_bool HE.out.symm, HT2.out.old⟩
 rw [hm] at HM HL
 clear hm
 refine (HM.out _).mono ?_
 rintro e w1 ⟨rfl, hb⟩
 have HT1 := Lib.hid (HT.out.below hb)
 clear hb HT
 have c3 := oc3 HT1.out.one
 have d3 := oc3 HT1.out.two
 by_cases hc : o.c = p.c
 ·have gc : ((o.c : Int) != (p.c : Int)) = false := by simp <;> omega
  go_wp2_with (first | (refine wpList_runW (exec_ctx (p := o) rfl rfl HT1.out.one) (by kernel_rfl) ?_) | (refine wpList_runW (exec_dot (p := p) rfl rfl HT1.out.two) (by kernel_rfl) ?_))
  clear c3 d3
  cases hh : V.hasB o.v p.r p.s
  ·have HE : Hid (O.endsB o p = false) := Lib.hid (by rw [HL.out, hh]; simp)
   rw [hh] at HH
   clear hh
   refine (HH.out _).mono ?_
   rintro e w2 ⟨rfl, hb⟩
   have HT2 := Lib.hid (HT1.out.below hb)
   clear hb
   go_wp2_with fail
   go_ret
   exact ⟨ret_bool HE.out.symm, HT2.out.old⟩
  ·have HL2 : Hid (O.endsB o p = decide (o.k = 5 ∨ ((o.k = 3 ∨ o.k = 2) ∧ p.k ≠ 4 ∧ o.i = p.i))) := Lib.hid (by rw [HL.out, hh]; simp [hc])
   rw [hh] at HH
   clear hh HL
   refine (HH.out _).mono ?_
   rintro e w2 ⟨rfl, hb⟩
   have HT2 := Lib.hid (HT1.out.below hb)
   clear hb HT1
   have c2 := oc2 HT2.out.one
   have d2 := oc2 HT2.out.two
   have c4 := oc4 HT2.out.one
   have d4 := oc4 HT2.out.two
   by_cases k5 : o.k = 5
   ·rw [k5] at c2
    have HE : Hid (O.endsB o p = true) := Lib.hid (by rw [HL2.out]; simp <;> omega)
    go_wp2_with fail
    go_ret
    exact ⟨ret_bool HE.out.symm, HT2.out.old⟩
   by_cases k3 : o.k = 3
   ·rw [k3] at c2
    by_cases e4 : p.k = 4
    ·have HE : Hid (O.endsB o p = false) := Lib.hid (by rw [HL2.out]; simp <;> omega)
     rw [e4] at d2
     go_wp2_with fail
     go_ret
     exact ⟨ret_bool HE.out.symm, HT2.out.old⟩
    ·have HE : Hid (O.endsB o p = decide (o.i = p.i)) := Lib.hid (by rw [HL2.out, Bool.eq_iff_iff]; simp <;> omega)
     have g4 : ((p.k : Int) != 4) = true := by simp <;> omega
     go_wp2_with fail
     go_ret
     exact ⟨ret_bool (by rw [HE.out, Bool.eq_iff_iff]; simp <;> omega), HT2.out.old⟩
   by_cases k2 : o.k = 2
   ·rw [k2] at c2
    by_cases e4 : p.k = 4
    ·have HE : Hid (O.endsB o p = false) := Lib.hid (by rw [HL2.out]; simp <;> omega)
     rw [e4] at d2
     go_wp2_with fail
     go_ret
     exact ⟨ret_bool HE.out.symm, HT2.out.old⟩
    ·have HE : Hid (O.endsB o p = decide (o.i = p.i)) := Lib.hid (by rw [HL2.out, Bool.eq_iff_iff]; simp <;> omega)
     have g4 : ((p.k : Int) != 4) = true := by simp <;> omega
     go_wp2_with fail
     go_ret
     exact ⟨ret_bool (by rw [HE.out, Bool.eq_iff_iff]; simp <;> omega), HT2.out.old⟩
   have HE : Hid (O.endsB o p = false) := Lib.hid (by rw [HL2.out]; simp <;> omega)
   have g5 : ((o.k : Int) == 5) = false := by simp <;> omega
   have g3 : ((o.k : Int) == 3) = false := by simp <;> omega
   have g2 : ((o.k : Int) == 2) = false := by simp <;> omega
   go_wp2_with fail
   go_ret
   exact ⟨ret_bool HE.out.symm, HT2.out.old⟩
 ·have HE : Hid (O.endsB o p = false) := Lib.hid (by rw [HL.out]; simp [hc])
  have gc : ((o.c : Int) != (p.c : Int)) = true := by simp <;> omega
  go_wp2_with fail
  go_ret
  exact ⟨ret_bool HE.out.symm, HT1.out.old⟩
end Go.Proofs.YtnekpgmgnepdoaaGreat
end
section
namespace Go.Proofs.YtnekpgmgnepdoaaGreat
open Go.RowKit
structure GL (w : World) (size : Nat) (a : Option Addr) (n : Nat) (vs : List (List Value)) : Prop where
 len : vs.length = n
 cells : n = 0 ∨ ∃ b off, a = some ⟨b, off, none⟩ ∧ ∀ i v, vs[i]? = some v → w.rangeAt b (off + i * size) v
structure OwnG (w : World) (e size B : Nat) (a : Option Addr) (n cap : Nat) (vs : List (List Value)) : Prop where
 row : w.ownsRow B e size (.slice a n cap) n vs.flatten
 each : ∀ v ∈ vs, v.length = size
 len : vs.length = n
def At (a : Option Addr) (k : Nat) : Prop := ∃ ad, a = some ad ∧ k = ad.block
def Lies (w : World) (a a' : Option Addr) : Prop := ∀ ad, a' = some ad → (∃ ad0, a = some ad0 ∧ ad.block = ad0.block) ∨ w.heap.size ≤ ad.block
theorem flatten_get {size : Nat} : ∀ {vs : List (List Value)}, (∀ v ∈ vs, v.length = size) → ∀ {i : Nat} {v : List Value}, vs[i]? = some v → ∀ {j : Nat} {u : Value}, v[j]? = some u → vs.flatten[i * size + j]? = some u
 | [], _, i, v, h, _, _, _ => by simp at h
 | x :: vs, hs, 0, v, h, j, u, hu => by
  obtain rfl : x = v := by simpa using h
  have hj : j < x.length := (List.getElem?_eq_some_iff.1 hu).1
  rw [List.flatten_cons, Nat.zero_mul, Nat.zero_add, List.getElem?_append_left hj]
  exact hu
 | x :: vs, hs, i + 1, v, h, j, u, hu => by
  have hx := hs x List.mem_cons_self
  rw [List.flatten_cons, List.getElem?_append_right (by rw [hx, Nat.add_mul]; omega), hx, show (i + 1) * size + j - size = i * size + j by rw [Nat.add_mul]; omega]
  exact flatten_get (fun v hv => hs v (List.mem_cons_of_mem _ hv)) (by simpa using h) hu
section
variable {w w' : World} {e size B n cap : Nat} {a : Option Addr} {vs : List (List Value)}
theorem OwnG.gl (h : OwnG w e size B a n cap vs) : GL w size a n vs := by
 refine ⟨h.len, ?_⟩
 rcases h.row.2 with ⟨_, hn⟩ | ⟨g, cap', cur, hv, hB, hg, hnc, hcm, hcs, htk⟩
 ·exact .inl hn
 ·cases hv
  refine .inr ⟨g, 0, rfl, fun i v hv j u hu => ?_⟩
  have e1 := flatten_get h.each hv hu
  have hi : i < n := by rw [← h.len]; exact (List.getElem?_eq_some_iff.1 hv).1
  have hj : j < size := by rw [← h.each v (List.mem_of_getElem? hv)]; exact (List.getElem?_eq_some_iff.1 hu).1
  have hlt : i * size + j < n * size := by
   have : (i + 1) * size ≤ n * size := Nat.mul_le_mul_right _ hi
   rw [Nat.add_mul] at this
   omega
  rw [← htk, List.getElem?_take_of_lt hlt] at e1
  simp only [World.cell?, hg, Nat.zero_add, Option.isSome_none, Bool.false_eq_true, if_false]
  rw [← Array.getElem?_toList]
  exact e1
theorem OwnG.lt (h : OwnG w e size B a n cap vs) : ∀ ad, a = some ad → B ≤ ad.block ∧ ad.block < w.heap.size := by
 rintro ad rfl
 exact World.ownsRow.lt h.row ad.block rfl
theorem OwnG.keep {S : Nat → Prop} (h : OwnG w e size B a n cap vs) (k : Kept S w w') (hn : ∀ ad, a = some ad → ¬ S ad.block) : OwnG w' e size B a n cap vs := by
 refine ⟨⟨h.row.1, ?_⟩, h.each, h.len⟩
 rcases h.row.2 with h0 | ⟨g, cap', cur, hv, hB, hg, rest⟩
 ·exact .inl h0
 ·refine .inr ⟨g, cap', cur, hv, hB, ?_, rest⟩
  rw [k.block g (Array.getElem?_eq_some_iff.1 hg).1 (hn ⟨g, 0, none⟩ (by injection hv))]
  exact hg
theorem OwnG.below (h : OwnG w e size B a n cap vs) (hb : Below w.heap.size w w') : OwnG w' e size B a n cap vs :=
 h.keep (S := fun _ => False) (.of_below hb) (fun _ _ h => h)
theorem OwnG.mono (h : OwnG w e size B a n cap vs) {B' : Nat} (hB : B' ≤ B) : OwnG w e size B' a n cap vs := by
 refine ⟨⟨h.row.1, ?_⟩, h.each, h.len⟩
 rcases h.row.2 with h0 | ⟨g, cap', cur, hv, hg, rest⟩
 ·exact .inl h0
 ·exact .inr ⟨g, cap', cur, hv, Nat.le_trans hB hg, rest⟩
theorem ownG_nil (w : World) (e size B : Nat) : OwnG w e size B none 0 0 [] := ⟨World.ownsRow_nil _ _ _ _, by simp, rfl⟩
theorem GL.keep {S : Nat → Prop} (h : GL w size a n vs) (k : Kept S w w') (hn : ∀ ad, a = some ad → n ≠ 0 → ¬ S ad.block) : GL w' size a n vs := by
 refine ⟨h.len, ?_⟩
 rcases h.cells with h0 | ⟨b, off, ha, hc⟩
 ·exact .inl h0
 ·by_cases h0 : n = 0
  ·exact .inl h0
  ·exact .inr ⟨b, off, ha, fun i v hv j u hu => k.at_ (hc i v hv j u hu) (hn _ ha h0)⟩
theorem GL.below (h : GL w size a n vs) (hb : Below w.heap.size w w') : GL w' size a n vs := by
 refine ⟨h.len, ?_⟩
 rcases h.cells with h0 | ⟨b, off, ha, hc⟩
 ·exact .inl h0
 ·exact .inr ⟨b, off, ha, fun i v hv j u hu => below_at hb (hc i v hv j u hu)⟩
end
section
variable {ops : Array Oper} {rest : List Oper} {o : Oper} {act : Act} {Q : Exit → Act → World → Prop} {W : World}
theorem wpList_appendG (t e size bytes : Nat) {z : Value} (hinfo : (Tryz.prog.info? e).map (fun i => (i.zero, i.size, i.bytes)) = some (some z, size, bytes)) (ht : Tryz.prog.underlying t = some (.slice e)) (hzs : z.cells.size = size) (hsz : 0 < size) (hby : bytes ≤ 1000)
  {x y : Operand} {B n cap g : Nat} {a : Option Addr} {vs : List (List Value)} {cs : Array Value} (hgd : o.guard = none) (ho : o.op = .call { callee := .builtin .append, args := #[x, y], argTypes := #[t, t] })
  (hx : act.eval x = .slice a n cap) (hy : act.eval y = .slice (some ⟨g, 0, none⟩) 1 1) (hown : OwnG W e size B a n cap vs) (hg : Blk W g e cs) (hc : cs.size = size) (h1 : ∀ u ∈ cs.toList, u.oneCell' = true) (hn : n < 1000000000) (hB : B ≤ W.heap.size)
  (k : ∀ a' cap' w', OwnG w' e size B a' (n + 1) cap' (vs ++ [cs.toList]) → Kept (At a) W w' → Lies W a a' → wpList Tryz.prog ops Q rest (act.put o.dst (.slice a' (n + 1) cap')) w') : wpList Tryz.prog ops Q (o :: rest) act W := by
 obtain ⟨i0, hi, hz0, hz1, hz2⟩ := info_parts hinfo
 have hnb : (n + 1) * bytes ≤ 140737488355328 := by
  have : (n + 1) * bytes ≤ 1000000000 * 1000 := Nat.mul_le_mul (by omega) hby
  omega
 refine wpList_append_lies W hgd x y t ho B e i0 _ size bytes ht hi hz0 hz1 hz2 hzs hsz (.slice a n cap) n vs.flatten hx hown.row ⟨g, 0, none⟩ 1 1 cs.toList hy (by simp [hc])
  (World.news_of_block (cs := cs) (t := e) (fr := (0, 0)) hg) h1 (by omega) (by unfold maxLen; omega) hnb hB _ rfl ?_
 intro g' cap' w' h1' h2 h3 h4
 refine k _ _ _ ⟨by simpa using h1', ?_, by simp [hown.len]⟩ ⟨h2.os, h2.tape, h2.output, h2.size, fun k hk hn => h2.block k hk (fun e => hn ?_)⟩ ?_
 ·intro v hv
  rcases List.mem_append.1 hv with hv | hv
  ·exact hown.each v hv
  ·obtain rfl : v = cs.toList := by simpa using hv
   simp [hc]
 ·cases a with
  | none => simp [Value.ownBlock] at e
  | some ad => exact ⟨ad, rfl, by simpa [Value.ownBlock] using e⟩
 ·rintro ad rfl2
  obtain rfl := Option.some.inj rfl2
  rcases h3 with h3 | h3
  ·cases a with
   | none => simp [Value.ownBlock] at h3
   | some ad => exact .inl ⟨ad, rfl, by simpa [Value.ownBlock] using h3.symm⟩
  ·exact .inr (by simp [h3])
end
section
variable {ev : Operand → Value} {q : Oper} {w : World}
theorem exec_alloc33z {z : O} (hz : O.zero = z) (ho : q.op = .alloc 33) : (execOp ev q).run Tryz.prog w = .ok (.value (.pointer (some ⟨w.heap.size, 0, none⟩))) (w.alloc (.cells z.arr 33)) := by
 subst hz; exact exec_alloc33 ho
end
end Go.Proofs.YtnekpgmgnepdoaaGreat
end
