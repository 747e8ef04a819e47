/- Walk of count of the document. -/
import Derived.Test.YtmibfbbkjejkmaaRu
namespace Go.Proofs.Ytmibfbbkjejkmaa
open Go.RowKit Fold

theorem op0 {w : World} {b off : Nat} {p : O} (h : w.rangeAt b off p.cs) : w.cell? ⟨b, off, none⟩ = some (.int .u8 (p.r : Int)) := by
  have := h 0 _ rfl
  simpa using this
def isIn (v : V) (rep : Nat) (o : O) : Bool := decide (o.r = rep) && V.hasB v o.r o.s
def cntTo (l : List O) (v : V) (rep k : Nat) : Nat := (l.take k).countP (isIn v rep)
theorem cnt_le (l : List O) (v : V) (rep k : Nat) : cntTo l v rep k ≤ k := Nat.le_trans (List.countP_le_length) (List.length_take_le _ _)
theorem cnt_yes {l : List O} {v : V} {rep k : Nat} {x : O} (hx : l[k]? = some x) (h : isIn v rep x = true) : cntTo l v rep (k + 1) = cntTo l v rep k + 1 := by
  unfold cntTo; rw [List.take_add_one, hx, List.countP_append]; simp [h]
theorem cnt_no {l : List O} {v : V} {rep k : Nat} {x : O} (hx : l[k]? = some x) (h : isIn v rep x = false) : cntTo l v rep (k + 1) = cntTo l v rep k := by
  unfold cntTo; rw [List.take_add_one, hx, List.countP_append]; simp [h]
def RcR (w : World) (a : Option Addr) (n : Nat) (l : List O) (v : V) (rep : Nat) (c u : Value) (W : World) : Prop := ∃ k m : Nat, u = .int .i64 (k : Int) ∧ c = .int .u32 (m : Int) ∧ k ≤ n ∧ Hid (m = cntTo l v rep k) ∧ Hid (Blk W w.heap.size 25 v.arr) ∧ Hid (OL W a n l) ∧ Hid (Below w.heap.size w W)
set_option maxRecDepth 100000 in
set_option maxHeartbeats 2000000 in
theorem refcount_any {a : Option Addr} {n cap : Nat} {l : List O} {w : World} (hl : OL w a n l) (hn : n < 1000000) (v : V) (rep : Nat) : Calls Try.prog 31 #[.slice a n cap, .agg v.arr, .int .i64 (rep : Int)] w (Says (.int .u32 (cntTo l v rep n : Int)) w) := by
  have HL := Lib.hid (hl.below (below_one w (.cells v.arr 25)))
  have HV0 : Hid (Blk (w.alloc (.cells v.arr 25)) w.heap.size 25 v.arr) := Lib.hid (Blk.new _ _ _)
  have HB0 := Lib.hid (below_one w (.cells v.arr 25))
  have hb1 := fun (v : V) (w : World) => box25 v w
  clear hl
  go_enter Try.func31, Try.ntmps31
  go_wp2_with fail
  clear hb1
  generalize w.alloc (.cells v.arr 25) = w0 at HL HV0 HB0
  go_loopw [7, 8] (RcR w a n l v rep) (fun _ u _ => n - (numI u).toNat)
  case atStart => exact ⟨0, 0, rfl, rfl, Nat.zero_le _, Lib.hid rfl, HV0, HL, HB0⟩
  case round =>
    obtain ⟨k, m, rfl, rfl, hk, HCN, HVk, HLk, HB⟩ := hrel
    clear HL HV0 HB0
    have hm : m ≤ k := by rw [HCN.out]; exact cnt_le _ _ _ _
    by_cases hlt : k < n
    · obtain ⟨b, off, x, rfl, hx, hr⟩ := OL.at HLk.out hlt
      have HX := Lib.hid hx
      have HR : Hid (Ru w wr v b (off + k * 23) x) := Lib.hid ⟨HVk.out, hr⟩
      have HH := Lib.hid (fun W => rhas_any v x.r x.s W x.hr x.hs)
      clear hx hr
      go_upto_region 5 with fail
      by_cases he : x.r = rep
      · have HQ : Hid (((x.r : Int) == (rep : Int)) = true) := Lib.hid (by simp; omega)
        have HER := Lib.hid he
        clear he
        cases hh : V.hasB v x.r x.s
        · rw [hh] at HH
          have HIN : Hid (isIn v rep x = false) := Lib.hid (by unfold isIn; rw [hh]; simp)
          clear hh
          refine wp_region_held_drew (S := fun w' => Ru w w' v b (off + k * 23) x ∧ Below wr.heap.size wr w') (by kernel_rfl) ⟨HR.out.below (drew_below wr), drew_below wr⟩ (fun hS => ?_)
          refine held_take 0 15 (.slice (some ⟨b, off, none⟩) n cap) rfl rfl (by kernel_rfl) (by kernel_rfl) (by kernel_rfl) (fun _ _ _ h => h) (by kernel_rfl) (fun _ _ => rfl) hS ?_
          simp only [Act.put, List.setIfInBounds_toArray, List.set_cons_zero, List.set_cons_succ]
          refine held_take 1 16 (.int .i64 (k : Int)) rfl rfl (by kernel_rfl) (by kernel_rfl) (by kernel_rfl) (fun _ _ _ h => h) (by kernel_rfl) (fun _ _ => rfl) hS ?_
          simp only [Act.put, List.setIfInBounds_toArray, List.set_cons_zero, List.set_cons_succ]
          refine held_take 2 17 (.pointer (some ⟨b, off + k * 23, none⟩)) rfl rfl (by kernel_rfl) (by kernel_rfl) (by kernel_rfl) (fun _ _ _ h => h) (by kernel_rfl) (fun _ _ => exec_idxO (i := k) rfl rfl rfl rfl hlt) hS ?_
          simp only [Act.put, List.setIfInBounds_toArray, List.set_cons_zero, List.set_cons_succ]
          refine held_take 3 18 (.pointer (some ⟨b, off + k * 23, none⟩)) rfl rfl (by kernel_rfl) (by kernel_rfl) (by kernel_rfl) (fun _ _ _ h => h) (by kernel_rfl) (fun _ _ => (by kernel_rfl)) hS ?_
          simp only [Act.put, List.setIfInBounds_toArray, List.set_cons_zero, List.set_cons_succ]
          refine held_take 4 19 (.pointer (some ⟨b, off + k * 23, none⟩)) rfl rfl (by kernel_rfl) (by kernel_rfl) (by kernel_rfl) (fun _ _ _ h => h) (by kernel_rfl) (fun _ _ => (by kernel_rfl)) hS ?_
          simp only [Act.put, List.setIfInBounds_toArray, List.set_cons_zero, List.set_cons_succ]
          refine held_take 5 20 (.int .u8 (x.r : Int)) rfl rfl (by kernel_rfl) (by kernel_rfl) (by kernel_rfl) (fun _ _ _ h => h) (by kernel_rfl) (fun _ h => exec_cell rfl rfl (load_cell (by kernel_rfl) (op0 h.1.op))) hS ?_
          simp only [Act.put, List.setIfInBounds_toArray, List.set_cons_zero, List.set_cons_succ]
          refine held_take 6 21 (.int .i64 (x.r : Int)) rfl rfl (by kernel_rfl) (by kernel_rfl) (by kernel_rfl) (fun _ _ _ h => h) (by kernel_rfl) (fun _ _ => exec_conv8 rfl rfl x.hr) hS ?_
          simp only [Act.put, List.setIfInBounds_toArray, List.set_cons_zero, List.set_cons_succ]
          refine held_take 7 22 (.int .i64 (rep : Int)) rfl rfl (by kernel_rfl) (by kernel_rfl) (by kernel_rfl) (fun _ _ _ h => h) (by kernel_rfl) (fun _ _ => rfl) hS ?_
          simp only [Act.put, List.setIfInBounds_toArray, List.set_cons_zero, List.set_cons_succ]
          refine held_take 8 23 (.bool true) rfl rfl (by kernel_rfl) (by kernel_rfl) (by kernel_rfl) (fun _ _ _ h => h) (by kernel_rfl) (fun _ _ => exec_eqlI trivial rfl rfl rfl HQ.out) hS ?_
          simp only [Act.put, List.setIfInBounds_toArray, List.set_cons_zero, List.set_cons_succ]
          refine held_take 9 24 (.bool true) rfl rfl (by kernel_rfl) (by kernel_rfl) (by kernel_rfl) (fun _ _ _ h => h) (by kernel_rfl) (fun _ _ => rfl) hS ?_
          simp only [Act.put, List.setIfInBounds_toArray, List.set_cons_zero, List.set_cons_succ]
          refine held_take 10 25 (.agg v.arr) rfl rfl (by kernel_rfl) (by kernel_rfl) (by kernel_rfl) (fun _ _ _ h => h) (by kernel_rfl) (fun _ h => exec_load25 (v := v) rfl rfl h.1.box) hS ?_
          simp only [Act.put, List.setIfInBounds_toArray, List.set_cons_zero, List.set_cons_succ]
          refine held_take 11 26 (.slice (some ⟨b, off, none⟩) n cap) rfl rfl (by kernel_rfl) (by kernel_rfl) (by kernel_rfl) (fun _ _ _ h => h) (by kernel_rfl) (fun _ _ => rfl) hS ?_
          simp only [Act.put, List.setIfInBounds_toArray, List.set_cons_zero, List.set_cons_succ]
          refine held_take 12 27 (.int .i64 (k : Int)) rfl rfl (by kernel_rfl) (by kernel_rfl) (by kernel_rfl) (fun _ _ _ h => h) (by kernel_rfl) (fun _ _ => rfl) hS ?_
          simp only [Act.put, List.setIfInBounds_toArray, List.set_cons_zero, List.set_cons_succ]
          refine held_take 13 28 (.pointer (some ⟨b, off + k * 23, none⟩)) rfl rfl (by kernel_rfl) (by kernel_rfl) (by kernel_rfl) (fun _ _ _ h => h) (by kernel_rfl) (fun _ _ => exec_idxO (i := k) rfl rfl rfl rfl hlt) hS ?_
          simp only [Act.put, List.setIfInBounds_toArray, List.set_cons_zero, List.set_cons_succ]
          refine held_take 14 29 (.pointer (some ⟨b, off + k * 23, none⟩)) rfl rfl (by kernel_rfl) (by kernel_rfl) (by kernel_rfl) (fun _ _ _ h => h) (by kernel_rfl) (fun _ _ => (by kernel_rfl)) hS ?_
          simp only [Act.put, List.setIfInBounds_toArray, List.set_cons_zero, List.set_cons_succ]
          refine held_take 15 30 (dotV x.r x.s) rfl rfl (by kernel_rfl) (by kernel_rfl) (by kernel_rfl) (fun _ _ _ h => h) (by kernel_rfl) (fun _ h => exec_dotO (p := x) rfl rfl h.1.op) hS ?_
          simp only [Act.put, List.setIfInBounds_toArray, List.set_cons_zero, List.set_cons_succ]
          refine held_call 16 31 21 #[.agg v.arr, dotV x.r x.s] (.bool false) rfl (by kernel_rfl) rfl (by kernel_rfl) (by kernel_rfl) (HH.out _) (fun _ h hb => ⟨h.1.below hb, h.2.trans (hb.mono h.2.size)⟩) hS (fun w116 hS => ?_)
          simp only [Act.put, List.setIfInBounds_toArray, List.set_cons_zero, List.set_cons_succ]
          refine held_take 17 32 (.bool false) rfl rfl (by kernel_rfl) (by kernel_rfl) (by kernel_rfl) (fun _ _ _ h => h) (by kernel_rfl) (fun _ _ => rfl) hS ?_
          simp only [Act.put, List.setIfInBounds_toArray, List.set_cons_zero, List.set_cons_succ]
          refine wpAnyH_done (by kernel_rfl) ?_ _
          have HVN := Lib.hid hS.1.box
          have HLN := Lib.hid (HLk.out.below hS.2)
          have HBN : Hid (Below w.heap.size w w116) := Lib.hid (HB.out.trans (hS.2.mono HB.out.size))
          have HC := Lib.hid (cnt_no (v := v) (rep := rep) HX.out HIN.out)
          clear hS
          go_wp2_with fail
          go_roundw
          case rel => exact ⟨k + 1, m, by go_num, rfl, hlt, Lib.hid (by have := HCN.out; have := HC.out; omega), HVN, HLN, HBN⟩
          case measure => simp [numI]; omega
        · rw [hh] at HH
          have HIN : Hid (isIn v rep x = true) := Lib.hid (by unfold isIn; rw [hh, HER.out]; simp)
          clear hh
          refine wp_region_held_drew (S := fun w' => Ru w w' v b (off + k * 23) x ∧ Below wr.heap.size wr w') (by kernel_rfl) ⟨HR.out.below (drew_below wr), drew_below wr⟩ (fun hS => ?_)
          refine held_take 0 15 (.slice (some ⟨b, off, none⟩) n cap) rfl rfl (by kernel_rfl) (by kernel_rfl) (by kernel_rfl) (fun _ _ _ h => h) (by kernel_rfl) (fun _ _ => rfl) hS ?_
          simp only [Act.put, List.setIfInBounds_toArray, List.set_cons_zero, List.set_cons_succ]
          refine held_take 1 16 (.int .i64 (k : Int)) rfl rfl (by kernel_rfl) (by kernel_rfl) (by kernel_rfl) (fun _ _ _ h => h) (by kernel_rfl) (fun _ _ => rfl) hS ?_
          simp only [Act.put, List.setIfInBounds_toArray, List.set_cons_zero, List.set_cons_succ]
          refine held_take 2 17 (.pointer (some ⟨b, off + k * 23, none⟩)) rfl rfl (by kernel_rfl) (by kernel_rfl) (by kernel_rfl) (fun _ _ _ h => h) (by kernel_rfl) (fun _ _ => exec_idxO (i := k) rfl rfl rfl rfl hlt) hS ?_
          simp only [Act.put, List.setIfInBounds_toArray, List.set_cons_zero, List.set_cons_succ]
          refine held_take 3 18 (.pointer (some ⟨b, off + k * 23, none⟩)) rfl rfl (by kernel_rfl) (by kernel_rfl) (by kernel_rfl) (fun _ _ _ h => h) (by kernel_rfl) (fun _ _ => (by kernel_rfl)) hS ?_
          simp only [Act.put, List.setIfInBounds_toArray, List.set_cons_zero, List.set_cons_succ]
          refine held_take 4 19 (.pointer (some ⟨b, off + k * 23, none⟩)) rfl rfl (by kernel_rfl) (by kernel_rfl) (by kernel_rfl) (fun _ _ _ h => h) (by kernel_rfl) (fun _ _ => (by kernel_rfl)) hS ?_
          simp only [Act.put, List.setIfInBounds_toArray, List.set_cons_zero, List.set_cons_succ]
          refine held_take 5 20 (.int .u8 (x.r : Int)) rfl rfl (by kernel_rfl) (by kernel_rfl) (by kernel_rfl) (fun _ _ _ h => h) (by kernel_rfl) (fun _ h => exec_cell rfl rfl (load_cell (by kernel_rfl) (op0 h.1.op))) hS ?_
          simp only [Act.put, List.setIfInBounds_toArray, List.set_cons_zero, List.set_cons_succ]
          refine held_take 6 21 (.int .i64 (x.r : Int)) rfl rfl (by kernel_rfl) (by kernel_rfl) (by kernel_rfl) (fun _ _ _ h => h) (by kernel_rfl) (fun _ _ => exec_conv8 rfl rfl x.hr) hS ?_
          simp only [Act.put, List.setIfInBounds_toArray, List.set_cons_zero, List.set_cons_succ]
          refine held_take 7 22 (.int .i64 (rep : Int)) rfl rfl (by kernel_rfl) (by kernel_rfl) (by kernel_rfl) (fun _ _ _ h => h) (by kernel_rfl) (fun _ _ => rfl) hS ?_
          simp only [Act.put, List.setIfInBounds_toArray, List.set_cons_zero, List.set_cons_succ]
          refine held_take 8 23 (.bool true) rfl rfl (by kernel_rfl) (by kernel_rfl) (by kernel_rfl) (fun _ _ _ h => h) (by kernel_rfl) (fun _ _ => exec_eqlI trivial rfl rfl rfl HQ.out) hS ?_
          simp only [Act.put, List.setIfInBounds_toArray, List.set_cons_zero, List.set_cons_succ]
          refine held_take 9 24 (.bool true) rfl rfl (by kernel_rfl) (by kernel_rfl) (by kernel_rfl) (fun _ _ _ h => h) (by kernel_rfl) (fun _ _ => rfl) hS ?_
          simp only [Act.put, List.setIfInBounds_toArray, List.set_cons_zero, List.set_cons_succ]
          refine held_take 10 25 (.agg v.arr) rfl rfl (by kernel_rfl) (by kernel_rfl) (by kernel_rfl) (fun _ _ _ h => h) (by kernel_rfl) (fun _ h => exec_load25 (v := v) rfl rfl h.1.box) hS ?_
          simp only [Act.put, List.setIfInBounds_toArray, List.set_cons_zero, List.set_cons_succ]
          refine held_take 11 26 (.slice (some ⟨b, off, none⟩) n cap) rfl rfl (by kernel_rfl) (by kernel_rfl) (by kernel_rfl) (fun _ _ _ h => h) (by kernel_rfl) (fun _ _ => rfl) hS ?_
          simp only [Act.put, List.setIfInBounds_toArray, List.set_cons_zero, List.set_cons_succ]
          refine held_take 12 27 (.int .i64 (k : Int)) rfl rfl (by kernel_rfl) (by kernel_rfl) (by kernel_rfl) (fun _ _ _ h => h) (by kernel_rfl) (fun _ _ => rfl) hS ?_
          simp only [Act.put, List.setIfInBounds_toArray, List.set_cons_zero, List.set_cons_succ]
          refine held_take 13 28 (.pointer (some ⟨b, off + k * 23, none⟩)) rfl rfl (by kernel_rfl) (by kernel_rfl) (by kernel_rfl) (fun _ _ _ h => h) (by kernel_rfl) (fun _ _ => exec_idxO (i := k) rfl rfl rfl rfl hlt) hS ?_
          simp only [Act.put, List.setIfInBounds_toArray, List.set_cons_zero, List.set_cons_succ]
          refine held_take 14 29 (.pointer (some ⟨b, off + k * 23, none⟩)) rfl rfl (by kernel_rfl) (by kernel_rfl) (by kernel_rfl) (fun _ _ _ h => h) (by kernel_rfl) (fun _ _ => (by kernel_rfl)) hS ?_
          simp only [Act.put, List.setIfInBounds_toArray, List.set_cons_zero, List.set_cons_succ]
          refine held_take 15 30 (dotV x.r x.s) rfl rfl (by kernel_rfl) (by kernel_rfl) (by kernel_rfl) (fun _ _ _ h => h) (by kernel_rfl) (fun _ h => exec_dotO (p := x) rfl rfl h.1.op) hS ?_
          simp only [Act.put, List.setIfInBounds_toArray, List.set_cons_zero, List.set_cons_succ]
          refine held_call 16 31 21 #[.agg v.arr, dotV x.r x.s] (.bool true) rfl (by kernel_rfl) rfl (by kernel_rfl) (by kernel_rfl) (HH.out _) (fun _ h hb => ⟨h.1.below hb, h.2.trans (hb.mono h.2.size)⟩) hS (fun w116 hS => ?_)
          simp only [Act.put, List.setIfInBounds_toArray, List.set_cons_zero, List.set_cons_succ]
          refine held_take 17 32 (.bool true) rfl rfl (by kernel_rfl) (by kernel_rfl) (by kernel_rfl) (fun _ _ _ h => h) (by kernel_rfl) (fun _ _ => rfl) hS ?_
          simp only [Act.put, List.setIfInBounds_toArray, List.set_cons_zero, List.set_cons_succ]
          refine wpAnyH_done (by kernel_rfl) ?_ _
          have HVN := Lib.hid hS.1.box
          have HLN := Lib.hid (HLk.out.below hS.2)
          have HBN : Hid (Below w.heap.size w w116) := Lib.hid (HB.out.trans (hS.2.mono HB.out.size))
          have HC := Lib.hid (cnt_yes (v := v) (rep := rep) HX.out HIN.out)
          clear hS
          go_wp2_with fail
          go_roundw
          case rel => exact ⟨k + 1, m + 1, by go_num, by go_num, hlt, Lib.hid (by have := HCN.out; have := HC.out; omega), HVN, HLN, HBN⟩
          case measure => simp [numI]; omega
      · have HQ : Hid (((x.r : Int) == (rep : Int)) = false) := Lib.hid (by simp; omega)
        have HIN : Hid (isIn v rep x = false) := Lib.hid (by unfold isIn; simp [he])
        clear he
        refine wp_region_held_drew (S := fun w' => Ru w w' v b (off + k * 23) x ∧ Below wr.heap.size wr w') (by kernel_rfl) ⟨HR.out.below (drew_below wr), drew_below wr⟩ (fun hS => ?_)
        refine held_take 0 15 (.slice (some ⟨b, off, none⟩) n cap) rfl rfl (by kernel_rfl) (by kernel_rfl) (by kernel_rfl) (fun _ _ _ h => h) (by kernel_rfl) (fun _ _ => rfl) hS ?_
        simp only [Act.put, List.setIfInBounds_toArray, List.set_cons_zero, List.set_cons_succ]
        refine held_take 1 16 (.int .i64 (k : Int)) rfl rfl (by kernel_rfl) (by kernel_rfl) (by kernel_rfl) (fun _ _ _ h => h) (by kernel_rfl) (fun _ _ => rfl) hS ?_
        simp only [Act.put, List.setIfInBounds_toArray, List.set_cons_zero, List.set_cons_succ]
        refine held_take 2 17 (.pointer (some ⟨b, off + k * 23, none⟩)) rfl rfl (by kernel_rfl) (by kernel_rfl) (by kernel_rfl) (fun _ _ _ h => h) (by kernel_rfl) (fun _ _ => exec_idxO (i := k) rfl rfl rfl rfl hlt) hS ?_
        simp only [Act.put, List.setIfInBounds_toArray, List.set_cons_zero, List.set_cons_succ]
        refine held_take 3 18 (.pointer (some ⟨b, off + k * 23, none⟩)) rfl rfl (by kernel_rfl) (by kernel_rfl) (by kernel_rfl) (fun _ _ _ h => h) (by kernel_rfl) (fun _ _ => (by kernel_rfl)) hS ?_
        simp only [Act.put, List.setIfInBounds_toArray, List.set_cons_zero, List.set_cons_succ]
        refine held_take 4 19 (.pointer (some ⟨b, off + k * 23, none⟩)) rfl rfl (by kernel_rfl) (by kernel_rfl) (by kernel_rfl) (fun _ _ _ h => h) (by kernel_rfl) (fun _ _ => (by kernel_rfl)) hS ?_
        simp only [Act.put, List.setIfInBounds_toArray, List.set_cons_zero, List.set_cons_succ]
        refine held_take 5 20 (.int .u8 (x.r : Int)) rfl rfl (by kernel_rfl) (by kernel_rfl) (by kernel_rfl) (fun _ _ _ h => h) (by kernel_rfl) (fun _ h => exec_cell rfl rfl (load_cell (by kernel_rfl) (op0 h.1.op))) hS ?_
        simp only [Act.put, List.setIfInBounds_toArray, List.set_cons_zero, List.set_cons_succ]
        refine held_take 6 21 (.int .i64 (x.r : Int)) rfl rfl (by kernel_rfl) (by kernel_rfl) (by kernel_rfl) (fun _ _ _ h => h) (by kernel_rfl) (fun _ _ => exec_conv8 rfl rfl x.hr) hS ?_
        simp only [Act.put, List.setIfInBounds_toArray, List.set_cons_zero, List.set_cons_succ]
        refine held_take 7 22 (.int .i64 (rep : Int)) rfl rfl (by kernel_rfl) (by kernel_rfl) (by kernel_rfl) (fun _ _ _ h => h) (by kernel_rfl) (fun _ _ => rfl) hS ?_
        simp only [Act.put, List.setIfInBounds_toArray, List.set_cons_zero, List.set_cons_succ]
        refine held_take 8 23 (.bool false) rfl rfl (by kernel_rfl) (by kernel_rfl) (by kernel_rfl) (fun _ _ _ h => h) (by kernel_rfl) (fun _ _ => exec_eqlI trivial rfl rfl rfl HQ.out) hS ?_
        simp only [Act.put, List.setIfInBounds_toArray, List.set_cons_zero, List.set_cons_succ]
        refine held_take 9 24 (.bool false) rfl rfl (by kernel_rfl) (by kernel_rfl) (by kernel_rfl) (fun _ _ _ h => h) (by kernel_rfl) (fun _ _ => rfl) hS ?_
        simp only [Act.put, List.setIfInBounds_toArray, List.set_cons_zero, List.set_cons_succ]
        refine held_skip 10 25 rfl rfl (by kernel_rfl) (by kernel_rfl) (by kernel_rfl) (fun _ _ _ h => h) (by kernel_rfl) hS ?_
        simp only [Act.put, List.setIfInBounds_toArray, List.set_cons_zero, List.set_cons_succ]
        refine held_skip 11 26 rfl rfl (by kernel_rfl) (by kernel_rfl) (by kernel_rfl) (fun _ _ _ h => h) (by kernel_rfl) hS ?_
        simp only [Act.put, List.setIfInBounds_toArray, List.set_cons_zero, List.set_cons_succ]
        refine held_skip 12 27 rfl rfl (by kernel_rfl) (by kernel_rfl) (by kernel_rfl) (fun _ _ _ h => h) (by kernel_rfl) hS ?_
        simp only [Act.put, List.setIfInBounds_toArray, List.set_cons_zero, List.set_cons_succ]
        refine held_skip 13 28 rfl rfl (by kernel_rfl) (by kernel_rfl) (by kernel_rfl) (fun _ _ _ h => h) (by kernel_rfl) hS ?_
        simp only [Act.put, List.setIfInBounds_toArray, List.set_cons_zero, List.set_cons_succ]
        refine held_skip 14 29 rfl rfl (by kernel_rfl) (by kernel_rfl) (by kernel_rfl) (fun _ _ _ h => h) (by kernel_rfl) hS ?_
        simp only [Act.put, List.setIfInBounds_toArray, List.set_cons_zero, List.set_cons_succ]
        refine held_skip 15 30 rfl rfl (by kernel_rfl) (by kernel_rfl) (by kernel_rfl) (fun _ _ _ h => h) (by kernel_rfl) hS ?_
        simp only [Act.put, List.setIfInBounds_toArray, List.set_cons_zero, List.set_cons_succ]
        refine held_skip 16 31 rfl rfl (by kernel_rfl) (by kernel_rfl) (by kernel_rfl) (fun _ _ _ h => h) (by kernel_rfl) hS ?_
        simp only [Act.put, List.setIfInBounds_toArray, List.set_cons_zero, List.set_cons_succ]
        refine held_take 17 32 (.bool false) rfl rfl (by kernel_rfl) (by kernel_rfl) (by kernel_rfl) (fun _ _ _ h => h) (by kernel_rfl) (fun _ _ => rfl) hS ?_
        simp only [Act.put, List.setIfInBounds_toArray, List.set_cons_zero, List.set_cons_succ]
        refine wpAnyH_done (by kernel_rfl) ?_ _
        have HVN := Lib.hid hS.1.box
        have HLN := Lib.hid (HLk.out.below hS.2)
        have HBN : Hid (Below w.heap.size w wr.drew) := Lib.hid (HB.out.trans (hS.2.mono HB.out.size))
        have HC := Lib.hid (cnt_no (v := v) (rep := rep) HX.out HIN.out)
        clear hS
        go_wp2_with fail
        go_roundw
        case rel => exact ⟨k + 1, m, by go_num, rfl, hlt, Lib.hid (by have := HCN.out; have := HC.out; omega), HVN, HLN, HBN⟩
        case measure => simp [numI]; omega
    · obtain rfl : k = n := by omega
      go_wp2_with fail
      go_ret
      exact ⟨by rw [← HCN.out]; rfl, HB.out⟩

end Go.Proofs.Ytmibfbbkjejkmaa
