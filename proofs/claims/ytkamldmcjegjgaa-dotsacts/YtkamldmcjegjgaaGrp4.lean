/- Walk of takeLoose and of Add. -/
import Derived.Test.YtkamldmcjegjgaaGrp3
namespace Go.Proofs.Ytkamldmcjegjgaa
open Go.RowKit Go.Maps

/-- While loose dots are taken in. -/
structure Tk (w wr : World) (p m r : Nat) (c : V) (L : List Dt) (c' : V) (L' : List Dt) : Prop where
  grp : Grp wr p m c' L'
  semi : Semi r c' L'
  mem : ∀ y, In c' L' y ↔ In c L y
  sum : V.sum c' + L'.length = V.sum c + L.length
  len : L'.length ≤ L.length
  old : Kept (fun k => k = p ∨ k = m) w wr
  lt : p < w.heap.size ∧ m < w.heap.size

theorem obj_put (c : V) (x : Value) {i s : Nat} (hi : i < 16) (hs : s < 4294967296) : (c.obj x).setIfInBounds i (.int .u32 (s : Int)) = (c.put i s).obj x := by
  unfold V.obj
  rw [← V.arr_put c hi hs]
  apply Array.ext_getElem?
  intro j
  have h16 := c.arr_size
  simp only [Array.getElem?_setIfInBounds, Array.getElem?_push, Array.size_push, Array.size_setIfInBounds]
  by_cases e : i = j
  · subst e
    rw [if_pos rfl, if_pos (by omega), if_neg (by omega), if_pos rfl, if_pos (by omega)]
  · rw [if_neg e]
    split <;> rfl

theorem Tk.drew {w wr : World} {p m r : Nat} {c : V} {L : List Dt} {c' : V} {L' : List Dt} (h : Tk w wr p m r c L c' L') : Tk w wr.drew p m r c L c' L' :=
  ⟨h.grp.drew, h.semi, h.mem, h.sum, h.len, h.old.trans (Kept.drew _ _) (fun _ h => .inl h), h.lt⟩
theorem Tk.move {w wr w1 : World} {p m r : Nat} {c : V} {L : List Dt} {c' : V} {L' : List Dt} {x : Dt} (h : Tk w wr p m r c L c' L') (g : Gd wr w1 p m c' L' x) : Tk w w1 p m r c L c' L' :=
  ⟨g.grp, h.semi, h.mem, h.sum, h.len, h.old.trans (Kept.of_below (S := fun _ => False) g.old) (fun _ h => h.elim), h.lt⟩
theorem Tk.step {w wr w1 w2 : World} {p m r z : Nat} {c : V} {L : List Dt} {c' : V} {L' : List Dt} (h : Tk w wr p m r c L c' L') (hr : r < 16) (g : Gd wr w1 p m c' L' (r, z)) (hz : c'.at_ r + 1 = z) (hm : (r, z) ∈ L')
    (hk : Kept (fun k => k = m) w1 w2) (hp : Mp w2 m (del (r, z) L')) : Tk w (w2.setCell ⟨p, r, none⟩ (.int .u32 (z : Int))) p m r c L (c'.put r z) (del (r, z) L') := by
  have hne := g.grp.ne
  have hzl : z < 4294967296 := by have := h.semi.top r hr; omega
  have k2 := Kept.setCell w2 ⟨p, r, none⟩ (.int .u32 (z : Int))
  obtain ⟨s1, s2, s3, s4⟩ := semi_step h.semi (by rw [hz]; exact hm)
  rw [hz] at s1 s2 s3 s4
  have hb := (g.grp.blk.kept hk (fun e => hne e.symm)).set r (.int .u32 (z : Int))
  rw [obj_put c' _ hr hzl] at hb
  refine ⟨⟨hb, hp.kept k2 hne, srt_del _ h.grp.srt, fun y hy => h.grp.raw y ((mem_del _ _ _).1 hy).1⟩, s1, fun y => (s2 y).trans (h.mem y), by have := h.sum; omega, by have := h.len; omega, ?_, h.lt⟩
  have hlt := h.lt
  refine ((h.old.trans (Kept.of_below (S := fun _ => False) g.old) (fun _ h => h.elim)).trans hk (fun _ h => .inl (.inr h))).trans k2 (fun _ h => .inl (.inl h))
theorem Tk.less {w wr w2 : World} {p m r z : Nat} {c : V} {L : List Dt} {c' : V} {L' : List Dt} (h : Tk w wr p m r c L c' L') {c2 : V} (h2 : Tk w w2 p m r c L c2 (del (r, z) L')) (hz : c'.at_ r + 1 = z) (hm : (r, z) ∈ L') : mapLen w2 m < mapLen wr m := by
  obtain ⟨_, _, _, _, e1⟩ := h.grp.mp.tight h.grp.srt h.grp.raw
  obtain ⟨_, _, _, _, e2⟩ := h2.grp.mp.tight h2.grp.srt h2.grp.raw
  have := (semi_step h.semi (by rw [hz]; exact hm)).2.2.2
  rw [hz] at this
  omega

/-- What takeLoose leaves. -/
def Took (p m r : Nat) (c : V) (L : List Dt) (w : World) (e : Ending) (w' : World) : Prop :=
  e = .returned (.tuple #[]) ∧ ∃ c' L', Tk w w' p m r c L c' L' ∧ (r, c'.at_ r + 1) ∉ L'

theorem wrap_succ {y : Nat} (h : y < 4294967295) : IntKind.u32.wrap ((y : Int) + 1) = ((y + 1 : Nat) : Int) := by
  simp [IntKind.wrap, IntKind.bits, IntKind.signed]; omega

set_option maxHeartbeats 1000000 in
theorem take_any {w : World} {p m : Nat} {c : V} {L : List Dt} {r : Nat} (h : Grp w p m c L) (hs : Semi r c L) (hr : r < 16) : Calls Try.prog 32 #[.pointer (some ⟨p, 0, none⟩), .int .u8 (r : Int)] w (Took p m r c L w) := by
  have HT := Lib.hid (show Tk w w p m r c L c L from ⟨h, hs, fun _ => .rfl, rfl, Nat.le_refl _, Kept.refl _ _, h.blk.lt, h.mp.lt⟩)
  have hi0 : (0 : Int) ≤ (r : Int) := by omega
  have hi1 : (r : Int) < 16 := by omega
  clear h hs
  go_enter Try.func32, Try.ntmps32
  go_wp2_with fail
  go_loopw [4] (fun _ wr => ∃ c' L', Hid (Tk w wr p m r c L c' L')) (fun _ wr => mapLen wr m)
  case atStart => exact ⟨c, L, HT⟩
  case round =>
    obtain ⟨c', L', HR⟩ := hrel
    have HY : Hid (c'.at_ r < 4294967295) := Lib.hid (by have := HR.out.semi.top r hr; omega)
    have c1 := HR.out.grp.num hr
    have hw1 := wrap_succ HY.out
    obtain ⟨z, hz⟩ : ∃ z, c'.at_ r + 1 = z := ⟨_, rfl⟩
    rw [hz] at hw1
    have hzl : z < 4294967296 := by have := HY.out; omega
    have HX := Lib.hid (show Raw (r, z) from ⟨by simp only; omega, hzl⟩)
    have HZ := Lib.hid hz
    obtain ⟨y, hy⟩ : ∃ y, c'.at_ r = y := ⟨_, rfl⟩
    rw [hy] at c1 hw1
    clear hy hz HY
    go_wp2_with fail
    clear hw1 c1
    have HG := Lib.hid (gd_new HR.out.grp (r, z))
    simp only at HG
    generalize wr.alloc (.cells #[.int .u8 (r : Int), .int .u32 (z : Int)] 34) = W at HG
    refine (loose_any HG.out.grp (r, z) HX.out).mono ?_
    rintro e w1 ⟨rfl, hb⟩
    have HG1 := Lib.hid (HG.out.below hb)
    clear hb
    by_cases hm : (r, z) ∈ L'
    · rw [decide_eq_true hm]
      have HM := Lib.hid hm
      clear hm
      go_wp2_with fail
      have HG2 := Lib.hid HG1.out.drew
      have hne := HG2.out.grp.ne
      have hlt := HG2.out.lt
      have hd3 := HG2.out.grp.mp.drop HG2.out.grp.raw HX.out
      obtain ⟨w2, hrun, hmp, hk⟩ := hd3 0
      have HP := Lib.hid hmp
      have HK := Lib.hid hk
      have hS2 : Lk wr w2 p m (r, z) := ⟨(hk.at_ HG2.out.grp.map (fun e => hne e.symm)), HG2.out.dot.kept hk (by omega)⟩
      have HB := Lib.hid (HG2.out.grp.blk.kept hk (fun e => hne e.symm))
      refine wp_region_held_drew (S := fun w' => Lk wr w' p m (r, z)) (by kernel_rfl) HG2.out.lk (fun hS => ?_)
      refine held_take 0 18 (.pointer (some ⟨p, 0, none⟩)) rfl rfl (by kernel_rfl) (by kernel_rfl) (by kernel_rfl) (fun _ _ _ h => h) (by kernel_rfl) (fun _ _ => rfl) hS ?_
      simp only [Act.put, List.setIfInBounds_toArray, List.set_cons_zero, List.set_cons_succ]
      refine held_take 1 19 (.pointer (some ⟨p, 0, none⟩)) rfl rfl (by kernel_rfl) (by kernel_rfl) (by kernel_rfl) (fun _ _ _ h => h) (by kernel_rfl) (fun _ _ => (by kernel_rfl)) hS ?_
      simp only [Act.put, List.setIfInBounds_toArray, List.set_cons_zero, List.set_cons_succ]
      refine held_take 2 20 (.pointer (some ⟨p, 16, none⟩)) rfl rfl (by kernel_rfl) (by kernel_rfl) (by kernel_rfl) (fun _ _ _ h => h) (by kernel_rfl) (fun _ _ => (by kernel_rfl)) hS ?_
      simp only [Act.put, List.setIfInBounds_toArray, List.set_cons_zero, List.set_cons_succ]
      refine held_take 3 21 (.map (some m)) rfl rfl (by kernel_rfl) (by kernel_rfl) (by kernel_rfl) (fun _ _ _ h => h) (by kernel_rfl) (fun _ h => exec_cell rfl rfl (load_cell agg51 h.map)) hS ?_
      simp only [Act.put, List.setIfInBounds_toArray, List.set_cons_zero, List.set_cons_succ]
      refine held_take 4 22 (dotV r z) rfl rfl (by kernel_rfl) (by kernel_rfl) (by kernel_rfl) (fun _ _ _ h => h) (by kernel_rfl) (fun _ h => exec_load34 rfl rfl h.dot) hS ?_
      simp only [Act.put, List.setIfInBounds_toArray, List.set_cons_zero, List.set_cons_succ]
      refine held_do 5 (.tuple #[]) rfl rfl (by kernel_rfl) (by kernel_rfl) (exec_drop (x := (r, z)) rfl rfl rfl hrun) hS2 ?_
      refine wpAnyH_done (by kernel_rfl) ?_ _
      clear hrun hmp hk hS
      have c1 : w2.cell? ⟨p, r, none⟩ = some (.int .u32 (c'.at_ r : Int)) := by rw [HB.out.cell, push_at c' _ hr]
      have f1 : w2.frozen? ⟨p, r, none⟩ = false := HB.out.frozen r
      have c2 : w2.cell? ⟨wr.heap.size, 1, none⟩ = some (.int .u32 (z : Int)) := by rw [hS2.dot.cell]; rfl
      have HL := Lib.hid hS2
      clear hS2
      generalize c'.at_ r = y at c1
      go_wp2_with fail
      go_still_tail 7, (by kernel_rfl)
      go_wp2_with fail
      go_roundw
      case rel => exact ⟨_, _, Lib.hid (HR.out.step hr HG2.out HZ.out HM.out HK.out HP.out).drew⟩
      case measure => exact HR.out.less ((HR.out.step hr HG2.out HZ.out HM.out HK.out HP.out).drew) HZ.out HM.out
    · rw [decide_eq_false hm]
      have HM := Lib.hid hm
      clear hm
      go_wp2_with fail
      go_end0
      exact ⟨rfl, c', L', HR.out.move HG1.out, by rw [HZ.out]; exact HM.out⟩

end Go.Proofs.Ytkamldmcjegjgaa
