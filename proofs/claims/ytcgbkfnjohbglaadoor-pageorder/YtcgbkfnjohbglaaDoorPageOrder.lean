/- PageOrder is proved: of unlike keys one comes first, of the same none, and what comes ahead of one that comes ahead does, too; the table of four bits is tied to the program's text. No other condition. -/
import Derived.Test.YtcgbkfnjohbglaaDoorPs
import Derived.Test.YtcgbkfnjohbglaaDoorPt
namespace Go.Proofs.YtcgbkfnjohbglaaDoor
namespace PageOrder
open Go.ChangeShapes Go.WideShapes Go.ChangeAt Go.RowKit

structure Kt3 (w W : World) (t p q r : Nat) (a b c : Ky) : Prop where
  one : Blk W p t a.arr
  two : Blk W q t b.arr
  three : Blk W r t c.arr
  old : Below w.heap.size w W
theorem Kt3.below {w W W' : World} {t p q r : Nat} {a b c : Ky} (h : Kt3 w W t p q r a b c) (hb : Below W.heap.size W W') : Kt3 w W' t p q r a b c := ⟨h.one.below hb, h.two.below hb, h.three.below hb, h.old.trans (hb.mono h.old.size)⟩

def Kt3R (W : World) (a b c : Ky) (x y z : Value) (wx : World) : Prop :=
  ∃ p q r, x = .pointer (some ⟨p, 0, none⟩) ∧ y = .pointer (some ⟨q, 0, none⟩) ∧ z = .pointer (some ⟨r, 0, none⟩) ∧ Kt3 W wx 42 p q r a b c
/-- Three new blocks. -/
structure New3 (w v : World) (p q r : Nat) (a b c : Ky) (zs : Array Value) : Prop where
  a1 : Kt3 w (v.alloc (.cells zs 42)) 32 p q r a b c
  a2 : Kt3 w ((v.alloc (.cells zs 42)).alloc (.cells zs 42)) 32 p q r a b c
  a3 : Kt3 w (((v.alloc (.cells zs 42)).alloc (.cells zs 42)).alloc (.cells zs 42)) 32 p q r a b c
  blks : Blk (((v.alloc (.cells zs 42)).alloc (.cells zs 42)).alloc (.cells zs 42)) v.heap.size 42 zs ∧ Blk (((v.alloc (.cells zs 42)).alloc (.cells zs 42)).alloc (.cells zs 42)) (v.alloc (.cells zs 42)).heap.size 42 zs ∧ Blk (((v.alloc (.cells zs 42)).alloc (.cells zs 42)).alloc (.cells zs 42)) ((v.alloc (.cells zs 42)).alloc (.cells zs 42)).heap.size 42 zs
  d01 : v.heap.size ≠ (v.alloc (.cells zs 42)).heap.size
  d02 : v.heap.size ≠ ((v.alloc (.cells zs 42)).alloc (.cells zs 42)).heap.size
  d12 : (v.alloc (.cells zs 42)).heap.size ≠ ((v.alloc (.cells zs 42)).alloc (.cells zs 42)).heap.size
  g0 : w.heap.size ≤ v.heap.size ∧ p ≠ v.heap.size ∧ q ≠ v.heap.size ∧ r ≠ v.heap.size
  g1 : w.heap.size ≤ (v.alloc (.cells zs 42)).heap.size ∧ p ≠ (v.alloc (.cells zs 42)).heap.size ∧ q ≠ (v.alloc (.cells zs 42)).heap.size ∧ r ≠ (v.alloc (.cells zs 42)).heap.size
  g2 : w.heap.size ≤ ((v.alloc (.cells zs 42)).alloc (.cells zs 42)).heap.size ∧ p ≠ ((v.alloc (.cells zs 42)).alloc (.cells zs 42)).heap.size ∧ q ≠ ((v.alloc (.cells zs 42)).alloc (.cells zs 42)).heap.size ∧ r ≠ ((v.alloc (.cells zs 42)).alloc (.cells zs 42)).heap.size
theorem New3.s {w v : World} {p q r : Nat} {a b c : Ky} {zs : Array Value} (_ : New3 w v p q r a b c zs) {V : World} (g : Nat) (ds : Array Value) (h : Kt3 w V 32 p q r a b c) (hg : w.heap.size ≤ g ∧ p ≠ g ∧ q ≠ g ∧ r ≠ g) : Kt3 w (V.setRow g ds) 32 p q r a b c := by
  have k := Kept.setRow V g ds
  exact ⟨h.one.kept k (by omega), h.two.kept k (by omega), h.three.kept k (by omega), h.old.trans (k.below h.old.size (fun i e => by omega))⟩
theorem Kt3.size3 {w v : World} {p q r : Nat} {a b c : Ky} (h : Kt3 w v 32 p q r a b c) {zo : Ky} : New3 w v p q r a b c zo.arr := by
  have b1 := below_one v (.cells zo.arr 42)
  have b2 := below_one (v.alloc (.cells zo.arr 42)) (.cells zo.arr 42)
  have b3 := below_one ((v.alloc (.cells zo.arr 42)).alloc (.cells zo.arr 42)) (.cells zo.arr 42)
  have h1 := Blk.new v 42 zo.arr
  have h2 := Blk.new (v.alloc (.cells zo.arr 42)) 42 zo.arr
  have h3 := Blk.new ((v.alloc (.cells zo.arr 42)).alloc (.cells zo.arr 42)) 42 zo.arr
  have l1 := h.one.lt
  have l2 := h.two.lt
  have l3 := h.three.lt
  have l0 := h.old.size
  exact ⟨h.below b1, (h.below b1).below b2, ((h.below b1).below b2).below b3, ⟨(h1.below b2).below b3, h2.below b3, h3⟩, by simp, (by simp; omega), by simp, ⟨l0, by omega, by omega, by omega⟩, ⟨by simp; omega, by simp; omega, by simp; omega, by simp; omega⟩, ⟨by simp; omega, by simp; omega, by simp; omega, by simp; omega⟩⟩

set_option maxHeartbeats 4000000 in
set_option maxRecDepth 100000 in
theorem walk (k0 k1 k2 : Ky) (W : World) (hT : Tab W) : Calls Tryd.prog 6 #[.agg k0.arr, .agg k1.arr, .agg k2.arr] W (Says (.bool true) W) := by
  have HT := Lib.hid hT
  have hb := fun (k : Ky) (w : World) => box32 k w
  have H0 : Hid (Kt3 W (((W.alloc (.cells k0.arr 32)).alloc (.cells k1.arr 32)).alloc (.cells k2.arr 32)) 32 W.heap.size (W.heap.size + 1) (W.heap.size + 1 + 1) k0 k1 k2) := Lib.hid (by
    have h1 := Blk.new W 32 k0.arr
    have h2 := Blk.new (W.alloc (.cells k0.arr 32)) 32 k1.arr
    have h3 := Blk.new ((W.alloc (.cells k0.arr 32)).alloc (.cells k1.arr 32)) 32 k2.arr
    simp only [World.size_alloc] at h2 h3
    have b1 := below_one W (.cells k0.arr 32)
    have b2 := below_one (W.alloc (.cells k0.arr 32)) (.cells k1.arr 32)
    have b3 := below_one ((W.alloc (.cells k0.arr 32)).alloc (.cells k1.arr 32)) (.cells k2.arr 32)
    exact ⟨(h1.below b2).below b3, h2.below b3, h3, (b1.trans (b2.mono b1.size)).trans (b3.mono (Nat.le_trans b1.size b2.size))⟩)
  clear hT
  go_enter Tryd.func6, Tryd.ntmps6
  go_upto_region 1 with fail
  clear hb
  try simp only [World.size_alloc, Act.put, List.setIfInBounds_toArray, List.set_cons_zero, List.set_cons_succ]
  generalize ((W.alloc (.cells k0.arr 32)).alloc (.cells k1.arr 32)).alloc (.cells k2.arr 32) = w0 at H0 ⊢
  generalize W.heap.size + 1 + 1 = p3 at H0 ⊢
  generalize W.heap.size + 1 = p2 at H0 ⊢
  obtain ⟨p1, hp1⟩ : ∃ p, W.heap.size = p := ⟨_, rfl⟩
  rw [hp1] at H0
  rw [hp1]
  clear hp1
  go_wp2_with fail
  refine (alive_any _ (HT.out.below H0.out.old)).mono ?_
  rintro e w1 ⟨rfl, hb⟩
  have H1 := Lib.hid (H0.out.below hb)
  clear hb H0
  go_wp2_with fail
  generalize hz : Ky.zero = zo
  have HZO := Lib.hid hz
  clear hz
  go_cut [7, 8, 9] (fun x y z wx => Kt3R W k0 k1 k2 x y z wx)
  case first =>
    refine wp_region_held_drew (S := fun w' => Kt3 W w' 32 p1 p2 p3 k0 k1 k2) (by kernel_rfl) (H1.out.below (drew_below _)) (fun hS => ?_)
    refine held_take 0 14 (.agg k0.arr) rfl rfl (by kernel_rfl) (by kernel_rfl) (by kernel_rfl) (fun _ _ _ h => h) (by kernel_rfl) (fun _ h => exec_load32 rfl rfl h.one) hS ?_
    simp only [Act.put, List.setIfInBounds_toArray, List.set_cons_zero, List.set_cons_succ]
    refine held_take 1 15 (.agg k1.arr) rfl rfl (by kernel_rfl) (by kernel_rfl) (by kernel_rfl) (fun _ _ _ h => h) (by kernel_rfl) (fun _ h => exec_load32 rfl rfl h.two) hS ?_
    simp only [Act.put, List.setIfInBounds_toArray, List.set_cons_zero, List.set_cons_succ]
    refine held_take 2 16 (.agg k2.arr) rfl rfl (by kernel_rfl) (by kernel_rfl) (by kernel_rfl) (fun _ _ _ h => h) (by kernel_rfl) (fun _ h => exec_load32 rfl rfl h.three) hS ?_
    simp only [Act.put, List.setIfInBounds_toArray, List.set_cons_zero, List.set_cons_succ]
    generalize w1.drew = v at hS ⊢
    have hn := hS.size3 (zo := zo)
    refine wpAnyH_ready (rs := [3, 4, 5]) (by kernel_rfl) (by simp) (br_exec 3 7 (.pointer (some ⟨v.heap.size, 0, none⟩)) rfl rfl (by kernel_rfl) (exec_alloc42z HZO.out rfl) (hn.a1) ?_ (br_exec 4 8 (.pointer (some ⟨v.heap.size, 0, none⟩)) rfl rfl (by kernel_rfl) (exec_alloc42z HZO.out rfl) (hn.a1) ?_ (br_exec 5 9 (.pointer (some ⟨v.heap.size, 0, none⟩)) rfl rfl (by kernel_rfl) (exec_alloc42z HZO.out rfl) (hn.a1) ?_ AllReadyH.nil)))
    · simp only [Act.put, List.setIfInBounds_toArray, List.set_cons_zero, List.set_cons_succ]
      refine wpAnyH_ready (rs := [4, 5]) (by kernel_rfl) (by simp) (br_exec 4 8 (.pointer (some ⟨(v.alloc (.cells zo.arr 42)).heap.size, 0, none⟩)) rfl rfl (by kernel_rfl) (exec_alloc42z HZO.out rfl) (hn.a2) ?_ (br_exec 5 9 (.pointer (some ⟨(v.alloc (.cells zo.arr 42)).heap.size, 0, none⟩)) rfl rfl (by kernel_rfl) (exec_alloc42z HZO.out rfl) (hn.a2) ?_ AllReadyH.nil))
      · simp only [Act.put, List.setIfInBounds_toArray, List.set_cons_zero, List.set_cons_succ]
        refine held_exec 5 9 (.pointer (some ⟨((v.alloc (.cells zo.arr 42)).alloc (.cells zo.arr 42)).heap.size, 0, none⟩)) rfl rfl (by kernel_rfl) (by kernel_rfl) (exec_alloc42z HZO.out rfl) (hn.a3) ?_
        simp only [Act.put, List.setIfInBounds_toArray, List.set_cons_zero, List.set_cons_succ]
        obtain ⟨B0, B1, B2⟩ := hn.blks
        have D := And.intro (hn.d01) (And.intro hn.d02 hn.d12)
        refine held_void 6 rfl rfl (by kernel_rfl) (by kernel_rfl) (exec_store42 (p := zo) (u := k0) rfl rfl rfl B0) (hn.s _ _ hn.a3 hn.g0) ?_
        refine held_void 7 rfl rfl (by kernel_rfl) (by kernel_rfl) (exec_store42 (p := zo) (u := k1) rfl rfl rfl (B1.kept (Kept.setRow _ _ _) (by omega))) (hn.s _ _ (hn.s _ _ hn.a3 hn.g0) hn.g1) ?_
        refine held_void 8 rfl rfl (by kernel_rfl) (by kernel_rfl) (exec_store42 (p := zo) (u := k2) rfl rfl rfl ((B2.kept (Kept.setRow _ _ _) (by omega)).kept (Kept.setRow _ _ _) (by omega))) (hn.s _ _ (hn.s _ _ (hn.s _ _ hn.a3 hn.g0) hn.g1) hn.g2) ?_
        refine wpAnyH_done (by kernel_rfl) ?_ _
        try go_wp2_with fail
        go_meet
        exact ⟨_, _, _, rfl, rfl, rfl, ⟨((B0.row).kept (Kept.setRow _ _ _) (by omega)).kept (Kept.setRow _ _ _) (by omega), ((B1.kept (Kept.setRow _ _ _) (by omega)).row).kept (Kept.setRow _ _ _) (by omega), ((B2.kept (Kept.setRow _ _ _) (by omega)).kept (Kept.setRow _ _ _) (by omega)).row, (hn.s _ _ (hn.s _ _ (hn.s _ _ hn.a3 hn.g0) hn.g1) hn.g2).old⟩⟩
      · simp only [Act.put, List.setIfInBounds_toArray, List.set_cons_zero, List.set_cons_succ]
        refine held_exec 4 8 (.pointer (some ⟨((v.alloc (.cells zo.arr 42)).alloc (.cells zo.arr 42)).heap.size, 0, none⟩)) rfl rfl (by kernel_rfl) (by kernel_rfl) (exec_alloc42z HZO.out rfl) (hn.a3) ?_
        simp only [Act.put, List.setIfInBounds_toArray, List.set_cons_zero, List.set_cons_succ]
        obtain ⟨B0, B1, B2⟩ := hn.blks
        have D := And.intro (hn.d01) (And.intro hn.d02 hn.d12)
        refine held_void 6 rfl rfl (by kernel_rfl) (by kernel_rfl) (exec_store42 (p := zo) (u := k0) rfl rfl rfl B0) (hn.s _ _ hn.a3 hn.g0) ?_
        refine held_void 7 rfl rfl (by kernel_rfl) (by kernel_rfl) (exec_store42 (p := zo) (u := k1) rfl rfl rfl (B2.kept (Kept.setRow _ _ _) (by omega))) (hn.s _ _ (hn.s _ _ hn.a3 hn.g0) hn.g2) ?_
        refine held_void 8 rfl rfl (by kernel_rfl) (by kernel_rfl) (exec_store42 (p := zo) (u := k2) rfl rfl rfl ((B1.kept (Kept.setRow _ _ _) (by omega)).kept (Kept.setRow _ _ _) (by omega))) (hn.s _ _ (hn.s _ _ (hn.s _ _ hn.a3 hn.g0) hn.g2) hn.g1) ?_
        refine wpAnyH_done (by kernel_rfl) ?_ _
        try go_wp2_with fail
        go_meet
        exact ⟨_, _, _, rfl, rfl, rfl, ⟨((B0.row).kept (Kept.setRow _ _ _) (by omega)).kept (Kept.setRow _ _ _) (by omega), ((B2.kept (Kept.setRow _ _ _) (by omega)).row).kept (Kept.setRow _ _ _) (by omega), ((B1.kept (Kept.setRow _ _ _) (by omega)).kept (Kept.setRow _ _ _) (by omega)).row, (hn.s _ _ (hn.s _ _ (hn.s _ _ hn.a3 hn.g0) hn.g2) hn.g1).old⟩⟩
    · simp only [Act.put, List.setIfInBounds_toArray, List.set_cons_zero, List.set_cons_succ]
      refine wpAnyH_ready (rs := [3, 5]) (by kernel_rfl) (by simp) (br_exec 3 7 (.pointer (some ⟨(v.alloc (.cells zo.arr 42)).heap.size, 0, none⟩)) rfl rfl (by kernel_rfl) (exec_alloc42z HZO.out rfl) (hn.a2) ?_ (br_exec 5 9 (.pointer (some ⟨(v.alloc (.cells zo.arr 42)).heap.size, 0, none⟩)) rfl rfl (by kernel_rfl) (exec_alloc42z HZO.out rfl) (hn.a2) ?_ AllReadyH.nil))
      · simp only [Act.put, List.setIfInBounds_toArray, List.set_cons_zero, List.set_cons_succ]
        refine held_exec 5 9 (.pointer (some ⟨((v.alloc (.cells zo.arr 42)).alloc (.cells zo.arr 42)).heap.size, 0, none⟩)) rfl rfl (by kernel_rfl) (by kernel_rfl) (exec_alloc42z HZO.out rfl) (hn.a3) ?_
        simp only [Act.put, List.setIfInBounds_toArray, List.set_cons_zero, List.set_cons_succ]
        obtain ⟨B0, B1, B2⟩ := hn.blks
        have D := And.intro (hn.d01) (And.intro hn.d02 hn.d12)
        refine held_void 6 rfl rfl (by kernel_rfl) (by kernel_rfl) (exec_store42 (p := zo) (u := k0) rfl rfl rfl B1) (hn.s _ _ hn.a3 hn.g1) ?_
        refine held_void 7 rfl rfl (by kernel_rfl) (by kernel_rfl) (exec_store42 (p := zo) (u := k1) rfl rfl rfl (B0.kept (Kept.setRow _ _ _) (by omega))) (hn.s _ _ (hn.s _ _ hn.a3 hn.g1) hn.g0) ?_
        refine held_void 8 rfl rfl (by kernel_rfl) (by kernel_rfl) (exec_store42 (p := zo) (u := k2) rfl rfl rfl ((B2.kept (Kept.setRow _ _ _) (by omega)).kept (Kept.setRow _ _ _) (by omega))) (hn.s _ _ (hn.s _ _ (hn.s _ _ hn.a3 hn.g1) hn.g0) hn.g2) ?_
        refine wpAnyH_done (by kernel_rfl) ?_ _
        try go_wp2_with fail
        go_meet
        exact ⟨_, _, _, rfl, rfl, rfl, ⟨((B1.row).kept (Kept.setRow _ _ _) (by omega)).kept (Kept.setRow _ _ _) (by omega), ((B0.kept (Kept.setRow _ _ _) (by omega)).row).kept (Kept.setRow _ _ _) (by omega), ((B2.kept (Kept.setRow _ _ _) (by omega)).kept (Kept.setRow _ _ _) (by omega)).row, (hn.s _ _ (hn.s _ _ (hn.s _ _ hn.a3 hn.g1) hn.g0) hn.g2).old⟩⟩
      · simp only [Act.put, List.setIfInBounds_toArray, List.set_cons_zero, List.set_cons_succ]
        refine held_exec 3 7 (.pointer (some ⟨((v.alloc (.cells zo.arr 42)).alloc (.cells zo.arr 42)).heap.size, 0, none⟩)) rfl rfl (by kernel_rfl) (by kernel_rfl) (exec_alloc42z HZO.out rfl) (hn.a3) ?_
        simp only [Act.put, List.setIfInBounds_toArray, List.set_cons_zero, List.set_cons_succ]
        obtain ⟨B0, B1, B2⟩ := hn.blks
        have D := And.intro (hn.d01) (And.intro hn.d02 hn.d12)
        refine held_void 6 rfl rfl (by kernel_rfl) (by kernel_rfl) (exec_store42 (p := zo) (u := k0) rfl rfl rfl B2) (hn.s _ _ hn.a3 hn.g2) ?_
        refine held_void 7 rfl rfl (by kernel_rfl) (by kernel_rfl) (exec_store42 (p := zo) (u := k1) rfl rfl rfl (B0.kept (Kept.setRow _ _ _) (by omega))) (hn.s _ _ (hn.s _ _ hn.a3 hn.g2) hn.g0) ?_
        refine held_void 8 rfl rfl (by kernel_rfl) (by kernel_rfl) (exec_store42 (p := zo) (u := k2) rfl rfl rfl ((B1.kept (Kept.setRow _ _ _) (by omega)).kept (Kept.setRow _ _ _) (by omega))) (hn.s _ _ (hn.s _ _ (hn.s _ _ hn.a3 hn.g2) hn.g0) hn.g1) ?_
        refine wpAnyH_done (by kernel_rfl) ?_ _
        try go_wp2_with fail
        go_meet
        exact ⟨_, _, _, rfl, rfl, rfl, ⟨((B2.row).kept (Kept.setRow _ _ _) (by omega)).kept (Kept.setRow _ _ _) (by omega), ((B0.kept (Kept.setRow _ _ _) (by omega)).row).kept (Kept.setRow _ _ _) (by omega), ((B1.kept (Kept.setRow _ _ _) (by omega)).kept (Kept.setRow _ _ _) (by omega)).row, (hn.s _ _ (hn.s _ _ (hn.s _ _ hn.a3 hn.g2) hn.g0) hn.g1).old⟩⟩
    · simp only [Act.put, List.setIfInBounds_toArray, List.set_cons_zero, List.set_cons_succ]
      refine wpAnyH_ready (rs := [3, 4]) (by kernel_rfl) (by simp) (br_exec 3 7 (.pointer (some ⟨(v.alloc (.cells zo.arr 42)).heap.size, 0, none⟩)) rfl rfl (by kernel_rfl) (exec_alloc42z HZO.out rfl) (hn.a2) ?_ (br_exec 4 8 (.pointer (some ⟨(v.alloc (.cells zo.arr 42)).heap.size, 0, none⟩)) rfl rfl (by kernel_rfl) (exec_alloc42z HZO.out rfl) (hn.a2) ?_ AllReadyH.nil))
      · simp only [Act.put, List.setIfInBounds_toArray, List.set_cons_zero, List.set_cons_succ]
        refine held_exec 4 8 (.pointer (some ⟨((v.alloc (.cells zo.arr 42)).alloc (.cells zo.arr 42)).heap.size, 0, none⟩)) rfl rfl (by kernel_rfl) (by kernel_rfl) (exec_alloc42z HZO.out rfl) (hn.a3) ?_
        simp only [Act.put, List.setIfInBounds_toArray, List.set_cons_zero, List.set_cons_succ]
        obtain ⟨B0, B1, B2⟩ := hn.blks
        have D := And.intro (hn.d01) (And.intro hn.d02 hn.d12)
        refine held_void 6 rfl rfl (by kernel_rfl) (by kernel_rfl) (exec_store42 (p := zo) (u := k0) rfl rfl rfl B1) (hn.s _ _ hn.a3 hn.g1) ?_
        refine held_void 7 rfl rfl (by kernel_rfl) (by kernel_rfl) (exec_store42 (p := zo) (u := k1) rfl rfl rfl (B2.kept (Kept.setRow _ _ _) (by omega))) (hn.s _ _ (hn.s _ _ hn.a3 hn.g1) hn.g2) ?_
        refine held_void 8 rfl rfl (by kernel_rfl) (by kernel_rfl) (exec_store42 (p := zo) (u := k2) rfl rfl rfl ((B0.kept (Kept.setRow _ _ _) (by omega)).kept (Kept.setRow _ _ _) (by omega))) (hn.s _ _ (hn.s _ _ (hn.s _ _ hn.a3 hn.g1) hn.g2) hn.g0) ?_
        refine wpAnyH_done (by kernel_rfl) ?_ _
        try go_wp2_with fail
        go_meet
        exact ⟨_, _, _, rfl, rfl, rfl, ⟨((B1.row).kept (Kept.setRow _ _ _) (by omega)).kept (Kept.setRow _ _ _) (by omega), ((B2.kept (Kept.setRow _ _ _) (by omega)).row).kept (Kept.setRow _ _ _) (by omega), ((B0.kept (Kept.setRow _ _ _) (by omega)).kept (Kept.setRow _ _ _) (by omega)).row, (hn.s _ _ (hn.s _ _ (hn.s _ _ hn.a3 hn.g1) hn.g2) hn.g0).old⟩⟩
      · simp only [Act.put, List.setIfInBounds_toArray, List.set_cons_zero, List.set_cons_succ]
        refine held_exec 3 7 (.pointer (some ⟨((v.alloc (.cells zo.arr 42)).alloc (.cells zo.arr 42)).heap.size, 0, none⟩)) rfl rfl (by kernel_rfl) (by kernel_rfl) (exec_alloc42z HZO.out rfl) (hn.a3) ?_
        simp only [Act.put, List.setIfInBounds_toArray, List.set_cons_zero, List.set_cons_succ]
        obtain ⟨B0, B1, B2⟩ := hn.blks
        have D := And.intro (hn.d01) (And.intro hn.d02 hn.d12)
        refine held_void 6 rfl rfl (by kernel_rfl) (by kernel_rfl) (exec_store42 (p := zo) (u := k0) rfl rfl rfl B2) (hn.s _ _ hn.a3 hn.g2) ?_
        refine held_void 7 rfl rfl (by kernel_rfl) (by kernel_rfl) (exec_store42 (p := zo) (u := k1) rfl rfl rfl (B1.kept (Kept.setRow _ _ _) (by omega))) (hn.s _ _ (hn.s _ _ hn.a3 hn.g2) hn.g1) ?_
        refine held_void 8 rfl rfl (by kernel_rfl) (by kernel_rfl) (exec_store42 (p := zo) (u := k2) rfl rfl rfl ((B0.kept (Kept.setRow _ _ _) (by omega)).kept (Kept.setRow _ _ _) (by omega))) (hn.s _ _ (hn.s _ _ (hn.s _ _ hn.a3 hn.g2) hn.g1) hn.g0) ?_
        refine wpAnyH_done (by kernel_rfl) ?_ _
        try go_wp2_with fail
        go_meet
        exact ⟨_, _, _, rfl, rfl, rfl, ⟨((B2.row).kept (Kept.setRow _ _ _) (by omega)).kept (Kept.setRow _ _ _) (by omega), ((B1.kept (Kept.setRow _ _ _) (by omega)).row).kept (Kept.setRow _ _ _) (by omega), ((B0.kept (Kept.setRow _ _ _) (by omega)).kept (Kept.setRow _ _ _) (by omega)).row, (hn.s _ _ (hn.s _ _ (hn.s _ _ hn.a3 hn.g2) hn.g1) hn.g0).old⟩⟩
  case rest =>
    obtain ⟨q1, q2, q3, rfl, rfl, rfl, HO⟩ := hcut
    have H2 := Lib.hid HO
    clear HO H1
    have HC := Lib.hid (fun (a b : Ky) (w : World) => less_any a b w)
    by_cases he : k0 = k1
    · have hab : lessK k0 k1 = false := by rw [he]; exact less_irrefl _
      have hba : lessK k1 k0 = false := by rw [he]; exact less_irrefl _
      have hne : (!Ky.eqB k0 k1) = false := by rw [Ky.eqB_iff.2 he]; rfl
      clear he
      have HAB := Lib.hid (fun w => HC.out k0 k1 w)
      have HBA := Lib.hid (fun w => HC.out k1 k0 w)
      rw [hab] at HAB
      rw [hba] at HBA
      have HNE : Hid ((!Ky.eqB k0 k1) = false) := Lib.hid hne
      clear hab hba hne
      go_upto_region 4 with fail
      refine wp_region_held_drew (S := fun w' => Kt3 W w' 42 q1 q2 q3 k0 k1 k2) (by kernel_rfl) (H2.out.below (drew_below _)) (fun hS => ?_)
      refine held_take 0 17 (.agg k0.arr) rfl rfl (by kernel_rfl) (by kernel_rfl) (by kernel_rfl) (fun _ _ _ h => h) (by kernel_rfl) (fun _ h => exec_load42 rfl rfl h.one) hS ?_
      simp only [Act.put, List.setIfInBounds_toArray, List.set_cons_zero, List.set_cons_succ]
      refine held_take 1 18 (.agg k1.arr) rfl rfl (by kernel_rfl) (by kernel_rfl) (by kernel_rfl) (fun _ _ _ h => h) (by kernel_rfl) (fun _ h => exec_load42 rfl rfl h.two) hS ?_
      simp only [Act.put, List.setIfInBounds_toArray, List.set_cons_zero, List.set_cons_succ]
      refine held_take 3 20 (.agg k1.arr) rfl rfl (by kernel_rfl) (by kernel_rfl) (by kernel_rfl) (fun _ _ _ h => h) (by kernel_rfl) (fun _ h => exec_load42 rfl rfl h.two) hS ?_
      simp only [Act.put, List.setIfInBounds_toArray, List.set_cons_zero, List.set_cons_succ]
      refine held_take 4 21 (.agg k0.arr) rfl rfl (by kernel_rfl) (by kernel_rfl) (by kernel_rfl) (fun _ _ _ h => h) (by kernel_rfl) (fun _ h => exec_load42 rfl rfl h.one) hS ?_
      simp only [Act.put, List.setIfInBounds_toArray, List.set_cons_zero, List.set_cons_succ]
      refine held_call 2 19 16 #[(.agg k0.arr), (.agg k1.arr)] (.bool false) rfl (by kernel_rfl) rfl (by kernel_rfl) (by kernel_rfl) (HAB.out _) (fun _ h hb => h.below hb) hS (fun w102 hS => ?_)
      simp only [Act.put, List.setIfInBounds_toArray, List.set_cons_zero, List.set_cons_succ]
      refine held_call 5 22 16 #[(.agg k1.arr), (.agg k0.arr)] (.bool false) rfl (by kernel_rfl) rfl (by kernel_rfl) (by kernel_rfl) (HBA.out _) (fun _ h hb => h.below hb) hS (fun w105 hS => ?_)
      simp only [Act.put, List.setIfInBounds_toArray, List.set_cons_zero, List.set_cons_succ]
      refine held_take 6 10 (.bool false) rfl rfl (by kernel_rfl) (by kernel_rfl) (by kernel_rfl) (fun _ _ _ h => h) (by kernel_rfl) (fun _ _ => rfl) hS ?_
      simp only [Act.put, List.setIfInBounds_toArray, List.set_cons_zero, List.set_cons_succ]
      refine held_take 7 11 (.bool false) rfl rfl (by kernel_rfl) (by kernel_rfl) (by kernel_rfl) (fun _ _ _ h => h) (by kernel_rfl) (fun _ _ => rfl) hS ?_
      simp only [Act.put, List.setIfInBounds_toArray, List.set_cons_zero, List.set_cons_succ]
      refine wpAnyH_done (by kernel_rfl) ?_ _
      have H3 := Lib.hid hS
      clear hS H2
      go_upto_region 5 with fail
      go_wp2_with (first | (refine wpList_run rfl (exec_load42 (p := k0) rfl rfl H3.out.one) ?_) | (refine wpList_run rfl (exec_load42 (p := k1) rfl rfl H3.out.two) ?_) | (refine wpList_run rfl (exec_neq42 (a := k0) (b := k1) rfl rfl rfl HNE.out) ?_))
      go_ret
      exact ⟨rfl, H3.out.old⟩
    have hne : (!Ky.eqB k0 k1) = true := by
      cases h : Ky.eqB k0 k1
      · rfl
      · exact absurd (Ky.eqB_iff.1 h) he
    rcases less_total he with hab | hba
    case inr =>
      have hab := less_asymm hba
      clear he
      have HAB := Lib.hid (fun w => HC.out k0 k1 w)
      have HBA := Lib.hid (fun w => HC.out k1 k0 w)
      rw [hab] at HAB
      rw [hba] at HBA
      have HNE : Hid ((!Ky.eqB k0 k1) = true) := Lib.hid hne
      clear hab hba hne
      go_upto_region 4 with fail
      refine wp_region_held_drew (S := fun w' => Kt3 W w' 42 q1 q2 q3 k0 k1 k2) (by kernel_rfl) (H2.out.below (drew_below _)) (fun hS => ?_)
      refine held_take 0 17 (.agg k0.arr) rfl rfl (by kernel_rfl) (by kernel_rfl) (by kernel_rfl) (fun _ _ _ h => h) (by kernel_rfl) (fun _ h => exec_load42 rfl rfl h.one) hS ?_
      simp only [Act.put, List.setIfInBounds_toArray, List.set_cons_zero, List.set_cons_succ]
      refine held_take 1 18 (.agg k1.arr) rfl rfl (by kernel_rfl) (by kernel_rfl) (by kernel_rfl) (fun _ _ _ h => h) (by kernel_rfl) (fun _ h => exec_load42 rfl rfl h.two) hS ?_
      simp only [Act.put, List.setIfInBounds_toArray, List.set_cons_zero, List.set_cons_succ]
      refine held_take 3 20 (.agg k1.arr) rfl rfl (by kernel_rfl) (by kernel_rfl) (by kernel_rfl) (fun _ _ _ h => h) (by kernel_rfl) (fun _ h => exec_load42 rfl rfl h.two) hS ?_
      simp only [Act.put, List.setIfInBounds_toArray, List.set_cons_zero, List.set_cons_succ]
      refine held_take 4 21 (.agg k0.arr) rfl rfl (by kernel_rfl) (by kernel_rfl) (by kernel_rfl) (fun _ _ _ h => h) (by kernel_rfl) (fun _ h => exec_load42 rfl rfl h.one) hS ?_
      simp only [Act.put, List.setIfInBounds_toArray, List.set_cons_zero, List.set_cons_succ]
      refine held_call 2 19 16 #[(.agg k0.arr), (.agg k1.arr)] (.bool false) rfl (by kernel_rfl) rfl (by kernel_rfl) (by kernel_rfl) (HAB.out _) (fun _ h hb => h.below hb) hS (fun w102 hS => ?_)
      simp only [Act.put, List.setIfInBounds_toArray, List.set_cons_zero, List.set_cons_succ]
      refine held_call 5 22 16 #[(.agg k1.arr), (.agg k0.arr)] (.bool true) rfl (by kernel_rfl) rfl (by kernel_rfl) (by kernel_rfl) (HBA.out _) (fun _ h hb => h.below hb) hS (fun w105 hS => ?_)
      simp only [Act.put, List.setIfInBounds_toArray, List.set_cons_zero, List.set_cons_succ]
      refine held_take 6 10 (.bool false) rfl rfl (by kernel_rfl) (by kernel_rfl) (by kernel_rfl) (fun _ _ _ h => h) (by kernel_rfl) (fun _ _ => rfl) hS ?_
      simp only [Act.put, List.setIfInBounds_toArray, List.set_cons_zero, List.set_cons_succ]
      refine held_take 7 11 (.bool true) rfl rfl (by kernel_rfl) (by kernel_rfl) (by kernel_rfl) (fun _ _ _ h => h) (by kernel_rfl) (fun _ _ => rfl) hS ?_
      simp only [Act.put, List.setIfInBounds_toArray, List.set_cons_zero, List.set_cons_succ]
      refine wpAnyH_done (by kernel_rfl) ?_ _
      have H3 := Lib.hid hS
      clear hS H2
      go_upto_region 5 with fail
      go_wp2_with (first | (refine wpList_run rfl (exec_load42 (p := k0) rfl rfl H3.out.one) ?_) | (refine wpList_run rfl (exec_load42 (p := k1) rfl rfl H3.out.two) ?_) | (refine wpList_run rfl (exec_neq42 (a := k0) (b := k1) rfl rfl rfl HNE.out) ?_))
      go_ret
      exact ⟨rfl, H3.out.old⟩
    have hba := less_asymm hab
    clear he
    cases hbc : lessK k1 k2
    · have HBC := Lib.hid (fun w => HC.out k1 k2 w)
      rw [hbc] at HBC
      clear hbc
      have HAB := Lib.hid (fun w => HC.out k0 k1 w)
      have HBA := Lib.hid (fun w => HC.out k1 k0 w)
      rw [hab] at HAB
      rw [hba] at HBA
      have HNE : Hid ((!Ky.eqB k0 k1) = true) := Lib.hid hne
      clear hab hba hne
      go_upto_region 4 with fail
      refine wp_region_held_drew (S := fun w' => Kt3 W w' 42 q1 q2 q3 k0 k1 k2) (by kernel_rfl) (H2.out.below (drew_below _)) (fun hS => ?_)
      refine held_take 0 17 (.agg k0.arr) rfl rfl (by kernel_rfl) (by kernel_rfl) (by kernel_rfl) (fun _ _ _ h => h) (by kernel_rfl) (fun _ h => exec_load42 rfl rfl h.one) hS ?_
      simp only [Act.put, List.setIfInBounds_toArray, List.set_cons_zero, List.set_cons_succ]
      refine held_take 1 18 (.agg k1.arr) rfl rfl (by kernel_rfl) (by kernel_rfl) (by kernel_rfl) (fun _ _ _ h => h) (by kernel_rfl) (fun _ h => exec_load42 rfl rfl h.two) hS ?_
      simp only [Act.put, List.setIfInBounds_toArray, List.set_cons_zero, List.set_cons_succ]
      refine held_take 3 20 (.agg k1.arr) rfl rfl (by kernel_rfl) (by kernel_rfl) (by kernel_rfl) (fun _ _ _ h => h) (by kernel_rfl) (fun _ h => exec_load42 rfl rfl h.two) hS ?_
      simp only [Act.put, List.setIfInBounds_toArray, List.set_cons_zero, List.set_cons_succ]
      refine held_take 4 21 (.agg k0.arr) rfl rfl (by kernel_rfl) (by kernel_rfl) (by kernel_rfl) (fun _ _ _ h => h) (by kernel_rfl) (fun _ h => exec_load42 rfl rfl h.one) hS ?_
      simp only [Act.put, List.setIfInBounds_toArray, List.set_cons_zero, List.set_cons_succ]
      refine held_call 2 19 16 #[(.agg k0.arr), (.agg k1.arr)] (.bool true) rfl (by kernel_rfl) rfl (by kernel_rfl) (by kernel_rfl) (HAB.out _) (fun _ h hb => h.below hb) hS (fun w102 hS => ?_)
      simp only [Act.put, List.setIfInBounds_toArray, List.set_cons_zero, List.set_cons_succ]
      refine held_call 5 22 16 #[(.agg k1.arr), (.agg k0.arr)] (.bool false) rfl (by kernel_rfl) rfl (by kernel_rfl) (by kernel_rfl) (HBA.out _) (fun _ h hb => h.below hb) hS (fun w105 hS => ?_)
      simp only [Act.put, List.setIfInBounds_toArray, List.set_cons_zero, List.set_cons_succ]
      refine held_take 6 10 (.bool true) rfl rfl (by kernel_rfl) (by kernel_rfl) (by kernel_rfl) (fun _ _ _ h => h) (by kernel_rfl) (fun _ _ => rfl) hS ?_
      simp only [Act.put, List.setIfInBounds_toArray, List.set_cons_zero, List.set_cons_succ]
      refine held_take 7 11 (.bool false) rfl rfl (by kernel_rfl) (by kernel_rfl) (by kernel_rfl) (fun _ _ _ h => h) (by kernel_rfl) (fun _ _ => rfl) hS ?_
      simp only [Act.put, List.setIfInBounds_toArray, List.set_cons_zero, List.set_cons_succ]
      refine wpAnyH_done (by kernel_rfl) ?_ _
      have H3 := Lib.hid hS
      clear hS H2
      go_upto_region 5 with fail
      go_wp2_with (first | (refine wpList_run rfl (exec_load42 (p := k0) rfl rfl H3.out.one) ?_) | (refine wpList_run rfl (exec_load42 (p := k1) rfl rfl H3.out.two) ?_) | (refine wpList_run rfl (exec_neq42 (a := k0) (b := k1) rfl rfl rfl HNE.out) ?_) | (refine wpList_runW (exec_load42 (p := k0) rfl rfl H3.out.one) (by kernel_rfl) ?_) | (refine wpList_runW (exec_load42 (p := k1) rfl rfl H3.out.two) (by kernel_rfl) ?_) | (refine wpList_runW (exec_load42 (p := k2) rfl rfl H3.out.three) (by kernel_rfl) ?_))
      refine (HBC.out _).mono ?_
      rintro e v1 ⟨rfl, hb⟩
      have H4 := Lib.hid (H3.out.below hb)
      clear hb H3
      have H3 := H4
      clear H4
      go_wp2_with fail
      go_ret
      exact ⟨rfl, H3.out.old⟩
    · have HBC := Lib.hid (fun w => HC.out k1 k2 w)
      have HAC := Lib.hid (fun w => HC.out k0 k2 w)
      rw [less_trans hab hbc] at HAC
      rw [hbc] at HBC
      clear hbc
      have HAB := Lib.hid (fun w => HC.out k0 k1 w)
      have HBA := Lib.hid (fun w => HC.out k1 k0 w)
      rw [hab] at HAB
      rw [hba] at HBA
      have HNE : Hid ((!Ky.eqB k0 k1) = true) := Lib.hid hne
      clear hab hba hne
      go_upto_region 4 with fail
      refine wp_region_held_drew (S := fun w' => Kt3 W w' 42 q1 q2 q3 k0 k1 k2) (by kernel_rfl) (H2.out.below (drew_below _)) (fun hS => ?_)
      refine held_take 0 17 (.agg k0.arr) rfl rfl (by kernel_rfl) (by kernel_rfl) (by kernel_rfl) (fun _ _ _ h => h) (by kernel_rfl) (fun _ h => exec_load42 rfl rfl h.one) hS ?_
      simp only [Act.put, List.setIfInBounds_toArray, List.set_cons_zero, List.set_cons_succ]
      refine held_take 1 18 (.agg k1.arr) rfl rfl (by kernel_rfl) (by kernel_rfl) (by kernel_rfl) (fun _ _ _ h => h) (by kernel_rfl) (fun _ h => exec_load42 rfl rfl h.two) hS ?_
      simp only [Act.put, List.setIfInBounds_toArray, List.set_cons_zero, List.set_cons_succ]
      refine held_take 3 20 (.agg k1.arr) rfl rfl (by kernel_rfl) (by kernel_rfl) (by kernel_rfl) (fun _ _ _ h => h) (by kernel_rfl) (fun _ h => exec_load42 rfl rfl h.two) hS ?_
      simp only [Act.put, List.setIfInBounds_toArray, List.set_cons_zero, List.set_cons_succ]
      refine held_take 4 21 (.agg k0.arr) rfl rfl (by kernel_rfl) (by kernel_rfl) (by kernel_rfl) (fun _ _ _ h => h) (by kernel_rfl) (fun _ h => exec_load42 rfl rfl h.one) hS ?_
      simp only [Act.put, List.setIfInBounds_toArray, List.set_cons_zero, List.set_cons_succ]
      refine held_call 2 19 16 #[(.agg k0.arr), (.agg k1.arr)] (.bool true) rfl (by kernel_rfl) rfl (by kernel_rfl) (by kernel_rfl) (HAB.out _) (fun _ h hb => h.below hb) hS (fun w102 hS => ?_)
      simp only [Act.put, List.setIfInBounds_toArray, List.set_cons_zero, List.set_cons_succ]
      refine held_call 5 22 16 #[(.agg k1.arr), (.agg k0.arr)] (.bool false) rfl (by kernel_rfl) rfl (by kernel_rfl) (by kernel_rfl) (HBA.out _) (fun _ h hb => h.below hb) hS (fun w105 hS => ?_)
      simp only [Act.put, List.setIfInBounds_toArray, List.set_cons_zero, List.set_cons_succ]
      refine held_take 6 10 (.bool true) rfl rfl (by kernel_rfl) (by kernel_rfl) (by kernel_rfl) (fun _ _ _ h => h) (by kernel_rfl) (fun _ _ => rfl) hS ?_
      simp only [Act.put, List.setIfInBounds_toArray, List.set_cons_zero, List.set_cons_succ]
      refine held_take 7 11 (.bool false) rfl rfl (by kernel_rfl) (by kernel_rfl) (by kernel_rfl) (fun _ _ _ h => h) (by kernel_rfl) (fun _ _ => rfl) hS ?_
      simp only [Act.put, List.setIfInBounds_toArray, List.set_cons_zero, List.set_cons_succ]
      refine wpAnyH_done (by kernel_rfl) ?_ _
      have H3 := Lib.hid hS
      clear hS H2
      go_upto_region 5 with fail
      go_wp2_with (first | (refine wpList_run rfl (exec_load42 (p := k0) rfl rfl H3.out.one) ?_) | (refine wpList_run rfl (exec_load42 (p := k1) rfl rfl H3.out.two) ?_) | (refine wpList_run rfl (exec_neq42 (a := k0) (b := k1) rfl rfl rfl HNE.out) ?_) | (refine wpList_runW (exec_load42 (p := k0) rfl rfl H3.out.one) (by kernel_rfl) ?_) | (refine wpList_runW (exec_load42 (p := k1) rfl rfl H3.out.two) (by kernel_rfl) ?_) | (refine wpList_runW (exec_load42 (p := k2) rfl rfl H3.out.three) (by kernel_rfl) ?_))
      refine (HBC.out _).mono ?_
      rintro e v1 ⟨rfl, hb⟩
      have H4 := Lib.hid (H3.out.below hb)
      clear hb H3
      have H3 := H4
      clear H4
      go_wp2_with (first | (refine wpList_run rfl (exec_load42 (p := k0) rfl rfl H3.out.one) ?_) | (refine wpList_run rfl (exec_load42 (p := k1) rfl rfl H3.out.two) ?_) | (refine wpList_run rfl (exec_neq42 (a := k0) (b := k1) rfl rfl rfl HNE.out) ?_) | (refine wpList_runW (exec_load42 (p := k0) rfl rfl H3.out.one) (by kernel_rfl) ?_) | (refine wpList_runW (exec_load42 (p := k1) rfl rfl H3.out.two) (by kernel_rfl) ?_) | (refine wpList_runW (exec_load42 (p := k2) rfl rfl H3.out.three) (by kernel_rfl) ?_))
      refine (HAC.out _).mono ?_
      rintro e v2 ⟨rfl, hb⟩
      have H4 := Lib.hid (H3.out.below hb)
      clear hb H3
      have H3 := H4
      clear H4
      go_wp2_with fail
      go_ret
      exact ⟨rfl, H3.out.old⟩

set_option maxRecDepth 100000 in
theorem lifted (os : Os) (started : os.Started) (H : Type) (enc : TypeId × Value → H) :
    ReturnsInHanded {} Tryd.checked os 6 .any (fun w args => (Rows.pageOrderSpec.pre enc Tryd.prog Tryd.f6 [] false w args ∧ laidMetH Tryd.prog laid1 w) ∧ sizedMet enc Tryd.prog Tryd.f6 (OpenSpec.ofChange Rows.pageOrderSpec) false w args)
      (Rows.pageOrderSpec.post enc Tryd.prog Tryd.f6 false true false false) := by
  refine returnsInHanded_of_change_and (C := Tryd.checked) (X := fun w _ => laidMetH Tryd.prog laid1 w) (fun _ _ _ hh h => h.of_heap hh) own started (by kernel_rfl) Tryd.func6
    (ChangeSpec.witness_shaped (enc := enc) (C := Tryd.checked) (os := os) (X := fun w _ => laidMetH Tryd.prog laid1 w) false (World.doorLaid Tryd.prog 14 os) #[.agg #[.int .u16 0, .int .u8 0, .int .u32 0], .agg #[.int .u16 0, .int .u8 0, .int .u32 0], .agg #[.int .u16 0, .int .u8 0, .int .u32 0]] 8 rfl (World.shaped_of_RefB (by kernel_rfl) (by kernel_rfl)) (by kernel_rfl) (by kernel_rfl) (by kernel_rfl) (door_met os _)) ?_
  intro W base args ds gs before hval0 hW _ _ hL _
  have hval : ∀ (j : Nat) t v, Tryd.f6.params[j]? = some t → args[j]? = some v → Value.okWide Tryd.prog W .any base t v := hval0
  have hW' := hW
  obtain ⟨p, q, hA0, hV, rfl, hfz, hnd⟩ := hW
  have hA : DataW.TrodAll enc Tryd.prog W 0 (fun _ => true) true Tryd.f6.params.toList args.toList ds p := hA0
  rw [Tryd.params6] at hA hval
  obtain ⟨v0, v1, v2, d0, d1, d2, p0, p1, p2, rfl, rfl, rfl, h0, h1, h2⟩ := trodAll_three hA
  obtain ⟨rfl, rfl⟩ := trodVars_none hV
  have lt0 : ∀ x ∈ p0, x.block < W.heap.size := by obtain ⟨m, hm⟩ := h0; exact DataW.trod_lt m _ _ _ hm
  obtain ⟨k0, rfl⟩ := key_of (hval 0 32 v0 rfl rfl) h0
  have lt1 : ∀ x ∈ p1, x.block < W.heap.size := by obtain ⟨m, hm⟩ := h1; exact DataW.trod_lt m _ _ _ hm
  obtain ⟨k1, rfl⟩ := key_of (hval 1 32 v1 rfl rfl) h1
  have lt2 : ∀ x ∈ p2, x.block < W.heap.size := by obtain ⟨m, hm⟩ := h2; exact DataW.trod_lt m _ _ _ hm
  obtain ⟨k2, rfl⟩ := key_of (hval 2 32 v2 rfl rfl) h2
  clear hA0 hval0
  refine (walk k0 k1 k2 W (of_laid hL) ).mono fun e W' ⟨he, bel⟩ => ?_
  subst he
  exact ⟨_, rfl, _, _, _, [], _, [], hW', trodAll_mk1 (shut_bool Tryd.underlying4 _), trodAll_mk3 (Below.trod laidOut (by kernel_rfl) (of_decide_eq_true (by kernel_rfl)) h0 bel lt0) (Below.trod laidOut (by kernel_rfl) (of_decide_eq_true (by kernel_rfl)) h1 bel lt1) (Below.trod laidOut (by kernel_rfl) (of_decide_eq_true (by kernel_rfl)) h2 bel lt2), rfl, bel.frame _, fun h => by cases h⟩

theorem row_holds : Rows.PageOrderSaid :=
  OpenClaim.holds_of_wide 6 Tryd.f6 rfl rfl rfl rfl rfl rfl rfl ⟨rfl, rfl, rfl, rfl, rfl⟩ rfl rfl rfl rfl rfl (by kernel_rfl) Tryd.func6 (by kernel_rfl)
    (of_decide_eq_true (by kernel_rfl)) (by unfold Func.isWrapper; first | (rw [if_pos (by decide +kernel)]; kernel_rfl) | (rw [if_neg (by decide +kernel)]; exact ⟨rfl, rfl⟩))
    (fun os started H enc _ => lifted os started H enc)
end PageOrder

theorem pageOrder_card : Rows.PageOrderCardSaid :=
  Claim7.holds_tied_plain_at .later [] [.data] true (true, "b90d5132cacc69b8af3e47d8b89c9f2e9ff94c7b619f5af158f7875afb797316") false
    PageOrder.row_holds (fun _ h => by cases h) (by kernel_rfl) (fun _ h => by cases h) pageOrder_row_tie rfl ⟨rfl, rfl⟩ (by kernel_rfl) rfl
    (fun f fn hf hfn => by
      obtain rfl : f = 6 := Option.some.inj ((show Tryd.prog.funcNamed "trug/truglaw13.PageOrder" = some 6 by kernel_rfl).symm.trans hf) |>.symm
      obtain rfl : fn = Tryd.f6 := (Option.some.inj (Tryd.func6.symm.trans hfn)).symm
      exact ⟨by kernel_rfl, fun j t ht => by
        rw [Tryd.params6] at ht
        have hm : t ∈ [32, 32, 32] := by simpa using Array.mem_of_getElem? ht
        have hall : ([32, 32, 32].all fun u => !Tryd.prog.wantsStandIn u) = true := by kernel_rfl
        exact (show Tryd.prog.wantsStandIn t = false by simpa using List.all_eq_true.1 hall t hm)⟩)
    (by kernel_rfl)
#print axioms pageOrder_card
end Go.Proofs.YtcgbkfnjohbglaaDoor
