/- The order of dots as the program compares them, and slices.SortFunc at a slice of dots. -/
import Derived.Test.YtkamldmcjegjgaaHx
import Derived.Test.YtkamldmcjegjgaaDs
import Derived.Shelf.SlSortCmp.WholeK
namespace Go.Proofs.Ytkamldmcjegjgaa
open Go.Shelf Go.RowKit Go.Lib Go.Sort
/-- How the numbers of the library's own sort lie here. -/
def Try.sortDot_ren : Go.Shelf.Ren := ⟨fun | 6 => 34 | 15 => 39 | 14 => 38 | 28 => 52 | 29 => 53 | 20 => 44 | 21 => 45 | 22 => 46 | 23 => 47 | 24 => 48 | 25 => 49 | 26 => 50 | 27 => 51 | 46 => 56 | 47 => 57 | 48 => 58 | 49 => 59 | 50 => 60 | 57 => 61 | n => n, fun | 22 => 25 | 24 => 34 | 25 => 60 | 3 => 3 | 39 => 66 | 0 => 0 | 53 => 22 | 55 => 49 | 4 => 4 | 46 => 73 | 45 => 72 | 50 => 77 | 5 => 5 | 9 => 9 | 66 => 84 | 70 => 88 | 76 => 90 | 77 => 91 | n => n, fun | n => n⟩
/-- The library's sort of a slice lies in the program. -/
theorem Try.sortDot : SlLaysF0.n6 Try.prog Try.sortDot_ren := {
  mixed := by kernel_rfl,
  f6 := ⟨Try.f34.name, by decide, Try.func34.trans (congrArg some (by kernel_rfl))⟩,
  f14 := ⟨Try.f38.name, by decide, Try.func38.trans (congrArg some (by kernel_rfl))⟩,
  f15 := Try.func39.trans (congrArg some (by kernel_rfl)),
  f20 := ⟨Try.f44.name, by decide, Try.func44.trans (congrArg some (by kernel_rfl))⟩,
  f21 := ⟨Try.f45.name, by decide, Try.func45.trans (congrArg some (by kernel_rfl))⟩,
  f22 := ⟨Try.f46.name, by decide, Try.func46.trans (congrArg some (by kernel_rfl))⟩,
  f23 := ⟨Try.f47.name, by decide, Try.func47.trans (congrArg some (by kernel_rfl))⟩,
  f24 := ⟨Try.f48.name, by decide, Try.func48.trans (congrArg some (by kernel_rfl))⟩,
  f25 := ⟨Try.f49.name, by decide, Try.func49.trans (congrArg some (by kernel_rfl))⟩,
  f26 := ⟨Try.f50.name, by decide, Try.func50.trans (congrArg some (by kernel_rfl))⟩,
  f27 := ⟨Try.f51.name, by decide, Try.func51.trans (congrArg some (by kernel_rfl))⟩,
  f28 := Try.func52.trans (congrArg some (by kernel_rfl)),
  f29 := Try.func53.trans (congrArg some (by kernel_rfl)),
  f46 := ⟨Try.f56.name, by decide, Try.func56.trans (congrArg some (by kernel_rfl))⟩,
  f47 := Try.func57.trans (congrArg some (by kernel_rfl)),
  f48 := Try.func58.trans (congrArg some (by kernel_rfl)),
  f49 := ⟨Try.f59.name, by decide, Try.func59.trans (congrArg some (by kernel_rfl))⟩,
  f50 := ⟨Try.f60.name, by decide, Try.func60.trans (congrArg some (by kernel_rfl))⟩,
  f57 := ⟨Try.f61.name, by decide, Try.func61.trans (congrArg some (by kernel_rfl))⟩,
  t0 := Try.underlying0,
  a0 := Try.isAgg0,
  z0 := Try.sizeOf0,
  v0 := Try.zeroValue0,
  t3 := Try.underlying3,
  a3 := Try.isAgg3,
  z3 := Try.sizeOf3,
  v3 := Try.zeroValue3,
  t4 := Try.underlying4,
  a4 := Try.isAgg4,
  z4 := Try.sizeOf4,
  v4 := Try.zeroValue4,
  t5 := Try.underlying5,
  a5 := Try.isAgg5,
  z5 := Try.sizeOf5,
  v5 := Try.zeroValue5,
  t9 := Try.underlying9,
  a9 := Try.isAgg9,
  z9 := Try.sizeOf9,
  v9 := Try.zeroValue9,
  t22 := Try.underlying25,
  a22 := Try.isAgg25,
  z22 := Try.sizeOf25,
  v22 := Try.zeroValue25,
  t25 := Try.underlying60,
  a25 := Try.isAgg60,
  z25 := Try.sizeOf60,
  v25 := Try.zeroValue60,
  t39 := Try.underlying66,
  a39 := Try.isAgg66,
  z39 := Try.sizeOf66,
  v39 := Try.zeroValue66,
  t45 := Try.underlying72,
  a45 := Try.isAgg72,
  z45 := Try.sizeOf72,
  v45 := Try.zeroValue72,
  t46 := Try.underlying73,
  a46 := Try.isAgg73,
  z46 := Try.sizeOf73,
  v46 := Try.zeroValue73,
  t50 := Try.underlying77,
  a50 := Try.isAgg77,
  z50 := Try.sizeOf77,
  v50 := Try.zeroValue77,
  t53 := Try.underlying22,
  a53 := Try.isAgg22,
  z53 := Try.sizeOf22,
  v53 := Try.zeroValue22,
  t55 := Try.underlying49,
  a55 := Try.isAgg49,
  z55 := Try.sizeOf49,
  v55 := Try.zeroValue49,
  t66 := Try.underlying84,
  a66 := Try.isAgg84,
  z66 := Try.sizeOf84,
  v66 := Try.zeroValue84,
  t70 := Try.underlying88,
  a70 := Try.isAgg88,
  z70 := Try.sizeOf88,
  v70 := Try.zeroValue88,
  t76 := Try.underlying90,
  a76 := Try.isAgg90,
  z76 := Try.sizeOf90,
  v76 := Try.zeroValue90,
  t77 := Try.underlying91,
  a77 := Try.isAgg91,
  z77 := Try.sizeOf91,
  v77 := Try.zeroValue91 }

/-- A dot's two cells. -/
def encD (x : Dt) : List Value := [.int .u8 (x.1 : Int), .int .u32 (x.2 : Int)]

/-- How two numbers compare. -/
def cmpN (x y : Nat) : Int := if x < y then -1 else if y < x then 1 else 0
/-- How two dots compare. -/
def cmpD (x y : Dt) : Int := if cmpN x.1 y.1 = 0 then cmpN x.2 y.2 else cmpN x.1 y.1

theorem nan8 (x : Nat) (w : World) : Calls Try.prog 54 #[.int .u8 (x : Int)] w fun e w' => e = .returned (.bool false) ∧ w = w' := by
  go_enter Try.func54, Try.ntmps54
  go_wp2_with fail
  go_ret
  exact ⟨by simp, rfl⟩
theorem nan32 (x : Nat) (w : World) : Calls Try.prog 55 #[.int .u32 (x : Int)] w fun e w' => e = .returned (.bool false) ∧ w = w' := by
  go_enter Try.func55, Try.ntmps55
  go_wp2_with fail
  go_ret
  exact ⟨by simp, rfl⟩

theorem cmp8 (x y : Nat) (w : World) : Calls Try.prog 41 #[.int .u8 (x : Int), .int .u8 (y : Int)] w fun e w' => e = .returned (.int .i64 (cmpN x y)) ∧ w = w' := by
  have n1 := fun w => nan8 x w
  have n2 := fun w => nan8 y w
  rcases Nat.lt_trichotomy x y with h | h | h
  · have HE := Lib.hid (show cmpN x y = -1 by simp [cmpN, h])
    go_enter Try.func41, Try.ntmps41
    go_wp2_with (first | (go_at_call 54; refine (n1 _).mono ?_; rintro e w' ⟨rfl, rfl⟩) | (go_at_call 54; refine (n2 _).mono ?_; rintro e w' ⟨rfl, rfl⟩))
    go_ret
    exact ⟨ret_int HE.out.symm, rfl⟩
  · subst h
    have HE := Lib.hid (show cmpN x x = 0 by simp [cmpN])
    clear n2
    go_enter Try.func41, Try.ntmps41
    go_wp2_with (go_at_call 54; refine (n1 _).mono ?_; rintro e w' ⟨rfl, rfl⟩)
    go_ret
    exact ⟨ret_int HE.out.symm, rfl⟩
  · have HE := Lib.hid (show cmpN x y = 1 by simp [cmpN, h]; omega)
    go_enter Try.func41, Try.ntmps41
    go_wp2_with (first | (go_at_call 54; refine (n1 _).mono ?_; rintro e w' ⟨rfl, rfl⟩) | (go_at_call 54; refine (n2 _).mono ?_; rintro e w' ⟨rfl, rfl⟩))
    go_ret
    exact ⟨ret_int HE.out.symm, rfl⟩

theorem cmp32 (x y : Nat) (w : World) : Calls Try.prog 42 #[.int .u32 (x : Int), .int .u32 (y : Int)] w fun e w' => e = .returned (.int .i64 (cmpN x y)) ∧ w = w' := by
  have n1 := fun w => nan32 x w
  have n2 := fun w => nan32 y w
  rcases Nat.lt_trichotomy x y with h | h | h
  · have HE := Lib.hid (show cmpN x y = -1 by simp [cmpN, h])
    go_enter Try.func42, Try.ntmps42
    go_wp2_with (first | (go_at_call 55; refine (n1 _).mono ?_; rintro e w' ⟨rfl, rfl⟩) | (go_at_call 55; refine (n2 _).mono ?_; rintro e w' ⟨rfl, rfl⟩))
    go_ret
    exact ⟨ret_int HE.out.symm, rfl⟩
  · subst h
    have HE := Lib.hid (show cmpN x x = 0 by simp [cmpN])
    clear n2
    go_enter Try.func42, Try.ntmps42
    go_wp2_with (go_at_call 55; refine (n1 _).mono ?_; rintro e w' ⟨rfl, rfl⟩)
    go_ret
    exact ⟨ret_int HE.out.symm, rfl⟩
  · have HE := Lib.hid (show cmpN x y = 1 by simp [cmpN, h]; omega)
    go_enter Try.func42, Try.ntmps42
    go_wp2_with (first | (go_at_call 55; refine (n1 _).mono ?_; rintro e w' ⟨rfl, rfl⟩) | (go_at_call 55; refine (n2 _).mono ?_; rintro e w' ⟨rfl, rfl⟩))
    go_ret
    exact ⟨ret_int HE.out.symm, rfl⟩

/-- The first that is not nought. -/
def orI (a b : Int) : Int := if a = 0 then b else a

set_option maxHeartbeats 1000000 in
theorem or_any (g : Nat) (a b : Int) (w : World) (h0 : w.cell? ⟨g, 0, none⟩ = some (.int .i64 a)) (h1 : w.cell? ⟨g, 1, none⟩ = some (.int .i64 b)) :
    Calls Try.prog 40 #[.slice (some ⟨g, 0, none⟩) 2 2] w fun e w' => e = .returned (.int .i64 (orI a b)) ∧ w = w' := by
  go_enter Try.func40, Try.ntmps40
  go_wp2_with fail
  go_loop [8] (fun i => ∃ k : Nat, k ≤ 2 ∧ i = .int .i64 (k : Int) ∧ Hid (1 ≤ k → a = 0) ∧ Hid (2 ≤ k → b = 0)) (fun i => 2 - (intOf i).toNat)
  case atStart => exact ⟨0, by omega, rfl, Lib.hid (fun h => by omega), Lib.hid (fun h => by omega)⟩
  case round =>
    obtain ⟨k, hk, rfl, HA, HB⟩ := hrel
    by_cases e0 : k = 0
    · subst e0
      by_cases ha : a = 0
      · subst ha
        go_wp2_with fail
        go_round
        case rel => exact ⟨1, by omega, by go_num, Lib.hid (by simp), Lib.hid (fun h => by omega)⟩
        case measure => simp [intOf]
      · have HE := Lib.hid (show orI a b = a by rw [orI, if_neg ha])
        go_wp2_with fail
        go_ret
        exact ⟨ret_int HE.out.symm, rfl⟩
    · by_cases e1 : k = 1
      · subst e1
        have HE := Lib.hid (show orI a b = b by rw [orI, if_pos (HA.out (by omega))])
        by_cases hb : b = 0
        · have HB0 := Lib.hid hb
          subst hb
          go_wp2_with fail
          go_round
          case rel => exact ⟨2, by omega, by go_num, Lib.hid (fun _ => HA.out (by omega)), Lib.hid (by simp)⟩
          case measure => simp [intOf]
        · have hb' : (b != 0) = true := by simp [hb]
          go_wp2_with fail
          go_ret
          exact ⟨ret_int HE.out.symm, rfl⟩
      · obtain rfl : k = 2 := by omega
        have HE := Lib.hid (show orI a b = 0 by rw [orI, if_pos (HA.out (by omega)), HB.out (by omega)])
        go_wp2_with fail
        go_ret
        exact ⟨ret_int HE.out.symm, rfl⟩

theorem orI_cmp (x y : Dt) : orI (cmpN x.1 y.1) (cmpN x.2 y.2) = cmpD x y := rfl

/-- Draws and new blocks. -/
def Grew (w w' : World) : Prop := ∃ q os, w' = grow (w.drewN q) os
theorem Grew.alloc {w w' : World} (h : Grew w w') (o : Obj) : Grew w (w'.alloc o) := by
  obtain ⟨q, os, rfl⟩ := h
  exact ⟨q, os ++ #[o], by rw [alloc_eq_grow, grow_grow]⟩
theorem Grew.drew {w w' : World} (h : Grew w w') : Grew w w'.drew := by
  obtain ⟨q, os, rfl⟩ := h
  exact ⟨q + 1, os, rfl⟩
theorem Grew.refl (w : World) : Grew w w := ⟨0, #[], (grow_empty _).symm⟩

/-- Two dots that a call laid down. -/
structure Cw (w W : World) (x1 x2 y1 y2 : Nat) : Prop where
  one : Blk W w.heap.size 34 #[.int .u8 (x1 : Int), .int .u32 (x2 : Int)]
  two : Blk W (w.heap.size + 1) 34 #[.int .u8 (y1 : Int), .int .u32 (y2 : Int)]
  old : Grew w W
theorem cw_new (w : World) (x1 x2 y1 y2 : Nat) : Cw w ((w.alloc (.cells #[.int .u8 (x1 : Int), .int .u32 (x2 : Int)] 34)).alloc (.cells #[.int .u8 (y1 : Int), .int .u32 (y2 : Int)] 34)) x1 x2 y1 y2 := by
  have h1 := Blk.new w 34 #[.int .u8 (x1 : Int), .int .u32 (x2 : Int)]
  have h2 := Blk.new (w.alloc (.cells #[.int .u8 (x1 : Int), .int .u32 (x2 : Int)] 34)) 34 #[.int .u8 (y1 : Int), .int .u32 (y2 : Int)]
  have k2 := Kept.alloc (fun _ => False) (w.alloc (.cells #[.int .u8 (x1 : Int), .int .u32 (x2 : Int)] 34)) (.cells #[.int .u8 (y1 : Int), .int .u32 (y2 : Int)] 34)
  simp only [World.size_alloc] at h2
  exact ⟨h1.kept k2 (fun h => h), h2, ((Grew.refl w).alloc _).alloc _⟩
theorem Cw.drew {w W : World} {x1 x2 y1 y2 : Nat} (h : Cw w W x1 x2 y1 y2) : Cw w W.drew x1 x2 y1 y2 := ⟨h.one, h.two, h.old.drew⟩
theorem Cw.alloc {w W : World} {x1 x2 y1 y2 : Nat} (h : Cw w W x1 x2 y1 y2) (o : Obj) : Cw w (W.alloc o) x1 x2 y1 y2 :=
  ⟨h.one.kept (Kept.alloc (fun _ => False) _ _) (fun h => h), h.two.kept (Kept.alloc (fun _ => False) _ _) (fun h => h), h.old.alloc o⟩

theorem agg5 {w : World} : (isAgg 5).run Try.prog w = .ok false w := by kernel_rfl
theorem agg22 {w : World} : (isAgg 22).run Try.prog w = .ok false w := by kernel_rfl

theorem exec_two {ev : Operand → Value} {o : Oper} {x y : Operand} {w : World} {a b : Int} (ho : o.op = .buildSlice 81 2 #[(0, x), (1, y)]) (hx : ev x = .int .i64 a) (hy : ev y = .int .i64 b) :
    (execOp ev o).run Try.prog w = .ok (.value (.slice (some ⟨w.heap.size, 0, none⟩) 2 2)) (w.alloc (.cells #[.int .i64 a, .int .i64 b] 3)) := by
  unfold execOp
  simp only [ho]
  simp [Instr.buildSlice, go_sem, hx, hy, Instr.fill, newRow, Value.cells]

set_option maxHeartbeats 1000000 in
theorem compare_any (x y : Dt) (w : World) : Calls Try.prog 35 #[.agg #[.int .u8 (x.1 : Int), .int .u32 (x.2 : Int)], .agg #[.int .u8 (y.1 : Int), .int .u32 (y.2 : Int)]] w fun e w' => e = .returned (.int .i64 (cmpD x y)) ∧ Grew w w' := by
  have n1 := fun w => cmp8 x.1 y.1 w
  have n2 := fun w => cmp32 x.2 y.2 w
  have HE := Lib.hid (orI_cmp x y)
  obtain ⟨x1, x2⟩ := x
  obtain ⟨y1, y2⟩ := y
  simp only at n1 n2 HE
  generalize cmpN x1 y1 = a at n1 HE
  generalize cmpN x2 y2 = b at n2 HE
  generalize cmpD (x1, x2) (y1, y2) = c at HE
  go_enter Try.func35, Try.ntmps35
  go_wp2_with fail
  have HT := Lib.hid (cw_new w x1 x2 y1 y2)
  generalize (w.alloc (.cells #[.int .u8 (x1 : Int), .int .u32 (x2 : Int)] 34)).alloc (.cells #[.int .u8 (y1 : Int), .int .u32 (y2 : Int)] 34) = W at HT
  refine wp_region_held_drew (S := fun w' => Cw w w' x1 x2 y1 y2) (by kernel_rfl) HT.out.drew (fun hS => ?_)
  refine held_take 0 5 (.pointer (some ⟨w.heap.size, 0, none⟩)) rfl rfl (by kernel_rfl) (by kernel_rfl) (by kernel_rfl) (fun _ _ _ h => h) (by kernel_rfl) (fun _ _ => (by kernel_rfl)) hS ?_
  simp only [Act.put, List.setIfInBounds_toArray, List.set_cons_zero, List.set_cons_succ]
  refine held_take 1 6 (.int .u8 (x1 : Int)) rfl rfl (by kernel_rfl) (by kernel_rfl) (by kernel_rfl) (fun _ _ _ h => h) (by kernel_rfl) (fun _ h => exec_cell rfl rfl (load_cell agg5 (h.one.cell 0))) hS ?_
  simp only [Act.put, List.setIfInBounds_toArray, List.set_cons_zero, List.set_cons_succ]
  refine held_take 2 7 (.pointer (some ⟨w.heap.size + 1, 0, none⟩)) rfl rfl (by kernel_rfl) (by kernel_rfl) (by kernel_rfl) (fun _ _ _ h => h) (by kernel_rfl) (fun _ _ => (by kernel_rfl)) hS ?_
  simp only [Act.put, List.setIfInBounds_toArray, List.set_cons_zero, List.set_cons_succ]
  refine held_take 3 8 (.int .u8 (y1 : Int)) rfl rfl (by kernel_rfl) (by kernel_rfl) (by kernel_rfl) (fun _ _ _ h => h) (by kernel_rfl) (fun _ h => exec_cell rfl rfl (load_cell agg5 (h.two.cell 0))) hS ?_
  simp only [Act.put, List.setIfInBounds_toArray, List.set_cons_zero, List.set_cons_succ]
  refine held_take 5 10 (.pointer (some ⟨w.heap.size, 1, none⟩)) rfl rfl (by kernel_rfl) (by kernel_rfl) (by kernel_rfl) (fun _ _ _ h => h) (by kernel_rfl) (fun _ _ => (by kernel_rfl)) hS ?_
  simp only [Act.put, List.setIfInBounds_toArray, List.set_cons_zero, List.set_cons_succ]
  refine held_take 6 11 (.int .u32 (x2 : Int)) rfl rfl (by kernel_rfl) (by kernel_rfl) (by kernel_rfl) (fun _ _ _ h => h) (by kernel_rfl) (fun _ h => exec_cell rfl rfl (load_cell agg22 (h.one.cell 1))) hS ?_
  simp only [Act.put, List.setIfInBounds_toArray, List.set_cons_zero, List.set_cons_succ]
  refine held_take 7 12 (.pointer (some ⟨w.heap.size + 1, 1, none⟩)) rfl rfl (by kernel_rfl) (by kernel_rfl) (by kernel_rfl) (fun _ _ _ h => h) (by kernel_rfl) (fun _ _ => (by kernel_rfl)) hS ?_
  simp only [Act.put, List.setIfInBounds_toArray, List.set_cons_zero, List.set_cons_succ]
  refine held_take 8 13 (.int .u32 (y2 : Int)) rfl rfl (by kernel_rfl) (by kernel_rfl) (by kernel_rfl) (fun _ _ _ h => h) (by kernel_rfl) (fun _ h => exec_cell rfl rfl (load_cell agg22 (h.two.cell 1))) hS ?_
  simp only [Act.put, List.setIfInBounds_toArray, List.set_cons_zero, List.set_cons_succ]
  refine held_pure 4 9 41 #[(.int .u8 (x1 : Int)), (.int .u8 (y1 : Int))] (.int .i64 a) rfl (by kernel_rfl) rfl (by kernel_rfl) (by kernel_rfl) (n1 _) hS ?_
  simp only [Act.put, List.setIfInBounds_toArray, List.set_cons_zero, List.set_cons_succ]
  refine held_pure 9 14 42 #[(.int .u32 (x2 : Int)), (.int .u32 (y2 : Int))] (.int .i64 b) rfl (by kernel_rfl) rfl (by kernel_rfl) (by kernel_rfl) (n2 _) hS ?_
  simp only [Act.put, List.setIfInBounds_toArray, List.set_cons_zero, List.set_cons_succ]
  have hS2 := hS.alloc (.cells #[.int .i64 a, .int .i64 b] 3)
  have c1 := (Blk.new W.drew 3 #[.int .i64 a, .int .i64 b]).cell 0
  have c2 := (Blk.new W.drew 3 #[.int .i64 a, .int .i64 b]).cell 1
  have hor := or_any W.drew.heap.size a b _ c1 c2
  rw [HE.out] at hor
  refine held_exec 10 15 (.slice (some ⟨W.drew.heap.size, 0, none⟩) 2 2) rfl rfl (by kernel_rfl) (by kernel_rfl) (exec_two rfl rfl rfl) hS2 ?_
  simp only [Act.put, List.setIfInBounds_toArray, List.set_cons_zero, List.set_cons_succ]
  refine held_pure 11 16 40 #[.slice (some ⟨W.drew.heap.size, 0, none⟩) 2 2] (.int .i64 c) rfl (by kernel_rfl) rfl (by kernel_rfl) (by kernel_rfl) hor hS2 ?_
  simp only [Act.put, List.setIfInBounds_toArray, List.set_cons_zero, List.set_cons_succ]
  refine held_take 12 4 (.int .i64 c) rfl rfl (by kernel_rfl) (by kernel_rfl) (by kernel_rfl) (fun _ _ _ h => h) (by kernel_rfl) (fun _ _ => rfl) hS2 ?_
  simp only [Act.put, List.setIfInBounds_toArray, List.set_cons_zero, List.set_cons_succ]
  refine wpAnyH_done (by kernel_rfl) ?_ _
  go_wp2_with fail
  go_ret
  exact ⟨rfl, hS2.old⟩

theorem cmpD_lt (x y : Dt) : ltOf cmpD x y = decide (Dlt x y) := by
  unfold ltOf cmpD cmpN
  rw [Bool.eq_iff_iff]
  simp only [decide_eq_true_eq, Dlt]
  by_cases h1 : x.1 < y.1
  · simp [h1]
  · by_cases h2 : y.1 < x.1
    · simp [h1, h2]; omega
    · have e : x.1 = y.1 := by omega
      by_cases h3 : x.2 < y.2
      · simp [e, h3]
      · by_cases h4 : y.2 < x.2
        · simp [e, h3, h4]
        · simp [e, h3, h4]

theorem swoD : SWO (ltOf cmpD) where
  irrefl x := by rw [cmpD_lt]; simp [Dlt.irrefl]
  trans x y z h1 h2 := by rw [cmpD_lt] at *; simp at *; exact h1.trans h2
  ntrans x y z h1 h2 := by
    rw [cmpD_lt, decide_eq_false_iff_not] at *
    unfold Dlt at *
    omega

/-- The cells of dots in a row. -/
def flat (l : List Dt) : List Value := l.flatMap encD
theorem flat_len : ∀ l : List Dt, (flat l).length = l.length * 2
  | [] => rfl
  | x :: l => by
    have := flat_len l
    simp only [flat, List.flatMap_cons, List.length_append, List.length_cons] at this ⊢
    rw [this]
    show 2 + _ = _
    omega
theorem flat_at : ∀ (l : List Dt) (j : Nat), j < l.length * 2 → (flat l)[j]? = some ((encD l.toArray[j / 2]!)[j % 2]!)
  | [], j, h => by simp at h
  | x :: l, 0, _ => by simp [flat, encD]
  | x :: l, 1, _ => by simp [flat, encD]
  | x :: l, j + 2, h => by
    have ih := flat_at l j (by simp at h; omega)
    have e1 : (j + 2) / 2 = j / 2 + 1 := by omega
    have e2 : (j + 2) % 2 = j % 2 := by omega
    have e3 : (flat (x :: l))[j + 2]? = (flat l)[j]? := by simp [flat, encD]
    rw [e3, ih, e1, e2]
    simp
theorem flatK_flat (l : List Dt) : flatK encD 2 l.toArray = (flat l).toArray := by
  apply Array.ext_getElem?
  intro j
  by_cases h : j < l.length * 2
  · have h1 := get_flatK encD 2 l.toArray j (by simpa using h)
    have h2 : j < (flatK encD 2 l.toArray).size := by simpa using h
    rw [getElem!_pos _ j h2] at h1
    rw [Array.getElem?_eq_getElem h2, h1]
    simp only [List.getElem?_toArray]
    exact (flat_at l j h).symm
  · rw [Array.getElem?_eq_none (by simp; omega), Array.getElem?_eq_none (by simp [flat_len]; omega)]

theorem heap_id {w : World} {g n : Nat} {os : Array Obj} {cur : Array Value} {e : TypeId} {fr : Nat × Nat} (d : Array Value) (hb : w.heap[g]? = some (.cells cur e fr)) :
    (grow (putRow id (Sort.ahead w n) g 0 d) os).heap[g]? = some (.cells (putCells id 0 d cur) e fr) := by
  have hg : g < w.heap.size := (Array.getElem?_eq_some_iff.1 hb).1
  rw [heap_grow_old _ _ (by simpa using hg)]
  simp [putRow, mapBlock, Sort.ahead, Array.getElem?_modify, hb, onCells]
theorem kept_id {w : World} {g n : Nat} {os : Array Obj} (d : Array Value) : Kept (fun k => k = g) w (grow (putRow id (Sort.ahead w n) g 0 d) os) := by
  refine ⟨rfl, rfl, rfl, by simp, fun k hk hne => ?_⟩
  rw [heap_grow_old _ _ (by simpa using hk)]
  have : g ≠ k := fun e => hne e.symm
  simp [putRow, mapBlock, Sort.ahead, Array.getElem?_modify, this]
theorem take_id (cur : Array Value) (ts : List Value) (h : ts.length ≤ cur.size) : (putCells id 0 ts.toArray cur).toList.take ts.length = ts := by
  apply List.ext_getElem?
  intro j
  by_cases hj : j < ts.length
  · rw [List.getElem?_take_of_lt hj, Array.getElem?_toList]
    simp [putCells, hj, show j < cur.size by omega]
  · rw [List.getElem?_take_eq_none (by omega), List.getElem?_eq_none (by omega)]

theorem srt_of {l m : List Dt} (hp : m.Perm l) (hn : l.Nodup) (hs : SortedIn (ltOf cmpD) 0 l.length m.toArray) : Srt m := by
  have hm : m.Nodup := hp.nodup_iff.2 hn
  unfold Srt
  rw [List.pairwise_iff_getElem]
  intro i j hi hj hij
  have h := hs i j (Nat.zero_le _) hij (by rw [← hp.length_eq]; exact hj)
  rw [cmpD_lt, decide_eq_false_iff_not, getElem!_pos m.toArray j (by simpa using hj), getElem!_pos m.toArray i (by simpa using hi)] at h
  simp only [List.getElem_toArray] at h
  refine (Dlt.total (fun e => ?_)).resolve_right h
  have := (List.nodup_iff_pairwise_ne.1 hm)
  rw [List.pairwise_iff_getElem] at this
  exact this i j hi hj hij e

theorem sort_any {w : World} {B g cap : Nat} {l : List Dt} (hown : w.ownsRow B 34 2 (.slice (some ⟨g, 0, none⟩) l.length cap) l.length (flat l)) (hl : l.length < 4611686018427387904) (hn : l.Nodup) :
    Calls Try.prog 34 #[.slice (some ⟨g, 0, none⟩) l.length cap, .func (.func 35) #[] #[]] w fun e w' => e = .returned (.tuple #[]) ∧
      ∃ m, m.Perm l ∧ Srt m ∧ w'.ownsRow B 34 2 (.slice (some ⟨g, 0, none⟩) l.length cap) l.length (flat m) ∧ Kept (fun k => k = g) w w' := by
  obtain ⟨h1, h2⟩ := hown
  rcases h2 with ⟨h0, _⟩ | ⟨g', cap', cur, hv, hB, hb, hnc, hcm, hcs, htk⟩
  · cases h0
  cases hv
  have eg : ∀ args w, (callFunc 35 args).run Try.prog w = .ok (.enter 35 args) w := enters_of Try.func35 (by kernel_rfl) rfl
  have hH : HoldsK encD 2 w g 0 l.toArray := by
    intro j hj
    have hj' : j < l.length * 2 := by simpa using hj
    refine ⟨?_, by simp [World.frozen?, hb]⟩
    rw [flatK_flat]
    have e1 : (cur.toList.take (l.length * 2))[j]? = (flat l)[j]? := by rw [htk]
    rw [List.getElem?_take_of_lt hj'] at e1
    simp only [World.cell?, hb, Nat.zero_add, Option.isSome_none, Bool.false_eq_true, if_false]
    rw [← Array.getElem?_toList, e1]
    have hf : j < (flat l).length := by rw [flat_len]; exact hj'
    rw [getElem!_pos _ j (by simpa using hf)]
    simp [hf]
  have hcon := AnyQ.slices_SortFunc Try.sortDot 2 Try.isAgg34 Try.sizeOf34 encD (fun _ => rfl) (fun x v hv => by simp [encD] at hv; rcases hv with rfl | rfl <;> rfl) cmpD swoD 35 #[] g 0 cap l.toArray w eg
    (fun _ _ _ _ x y => compare_any x y _) hH (Array.getElem?_eq_some_iff.1 hb).1 (by simpa using hl)
  change Calls Try.prog 34 _ _ _ at hcon
  simp only [List.size_toArray] at hcon
  refine hcon.mono ?_
  rintro e w' ⟨rfl, d', n, os, ⟨hp1, _, hp3⟩, hs, rfl⟩
  refine ⟨rfl, d'.toList, ?_, ?_, ?_, ?_⟩
  · have hs1 : d'.size = l.length := by simpa using hp1
    have ht : List.take l.length d'.toList = d'.toList := List.take_of_length_le (by simp [hs1])
    simpa [ht] using hp3
  · refine srt_of (l := l) ?_ hn ?_
    · have hs1 : d'.size = l.length := by simpa using hp1
      have ht : List.take l.length d'.toList = d'.toList := List.take_of_length_le (by simp [hs1])
      simpa [ht] using hp3
    · simpa using hs
  · have hs1 : d'.toList.length = l.length := by simpa using hp1
    have hw : sortWorldK encD 2 w g 0 n d' os = grow (putRow id (Sort.ahead w n) g 0 (flat d'.toList).toArray) os := by
      rw [← flatK_flat]; rfl
    rw [hw]
    refine ⟨by rw [flat_len, hs1], .inr ⟨g, cap, _, rfl, hB, heap_id _ hb, hnc, hcm, by simp [putCells, hcs], ?_⟩⟩
    have := take_id cur (flat d'.toList) (by rw [flat_len, hs1, hcs]; omega)
    rwa [flat_len, hs1] at this
  · exact kept_id _

end Go.Proofs.Ytkamldmcjegjgaa
