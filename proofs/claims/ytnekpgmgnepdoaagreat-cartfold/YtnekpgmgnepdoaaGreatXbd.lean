import Derived.Test.YtnekpgmgnepdoaaGreatXaz
import Derived.Test.YtnekpgmgnepdoaaGreatXbc
section
namespace Go.Proofs.YtnekpgmgnepdoaaGreat
open Go.RowKit Fold
theorem op0 {w : World} {b off : Nat} {p : O} (h : w.rangeAt b off p.cs) : w.cell? ⟨b, off, none⟩ = some (.int .u8 (p.r : Int)) := by
 have := h 0 _ rfl
 simpa using this
def isIn (v : V) (rep : Nat) (o : O) : Bool := decide (o.r = rep) && V.hasB v o.r o.s
def cntTo (l : List O) (v : V) (rep k : Nat) : Nat := (l.take k).countP (isIn v rep)
theorem cnt_le (l : List O) (v : V) (rep k : Nat) : cntTo l v rep k ≤ k := Nat.le_trans (List.countP_le_length) (List.length_take_le _ _)
theorem cnt_yes {l : List O} {v : V} {rep k : Nat} {x : O} (hx : l[k]? = some x) (h : isIn v rep x = true) : cntTo l v rep (k + 1) = cntTo l v rep k + 1 := by
 unfold cntTo; rw [List.take_add_one, hx, List.countP_append]; simp [h]
theorem cnt_no {l : List O} {v : V} {rep k : Nat} {x : O} (hx : l[k]? = some x) (h : isIn v rep x = false) : cntTo l v rep (k + 1) = cntTo l v rep k := by
 unfold cntTo; rw [List.take_add_one, hx, List.countP_append]; simp [h]
def RcR (w : World) (a : Option Addr) (n : Nat) (l : List O) (v : V) (rep : Nat) (c u : Value) (W : World) : Prop := ∃ k m : Nat, u = .int .i64 (k : Int) ∧ c = .int .u32 (m : Int) ∧ k ≤ n ∧ Hid (m = cntTo l v rep k) ∧ Hid (Blk W w.heap.size 24 v.arr) ∧ Hid (OL W a n l) ∧ Hid (Below w.heap.size w W)
set_option maxRecDepth 100000 in
set_option maxHeartbeats 2000000 in
theorem refcount_any {a : Option Addr} {n cap : Nat} {l : List O} {w : World} (hl : OL w a n l) (hn : n < 1000000) (v : V) (rep : Nat) : Calls Tryz.prog 79 #[.slice a n cap, .agg v.arr, .int .i64 (rep : Int)] w (Says (.int .u32 (cntTo l v rep n : Int)) w) := by
 have HL := Lib.hid (hl.below (below_one w (.cells v.arr 24)))
 have HV0 : Hid (Blk (w.alloc (.cells v.arr 24)) w.heap.size 24 v.arr) := Lib.hid (Blk.new _ _ _)
 have HB0 := Lib.hid (below_one w (.cells v.arr 24))
 have hb1 := fun (v : V) (w : World) => box24 v w
 clear hl
 go_enter Tryz.func79, Tryz.ntmps79
 go_wp2_with fail
 clear hb1
 generalize w.alloc (.cells v.arr 24) = w0 at HL HV0 HB0
 go_loopw [7, 8] (RcR w a n l v rep) (fun _ u _ => n - (numI u).toNat)
 case atStart => exact ⟨0, 0, rfl, rfl, Nat.zero_le _, Lib.hid rfl, HV0, HL, HB0⟩
 case round =>
  obtain ⟨k, m, rfl, rfl, hk, HCN, HVk, HLk, HB⟩ := hrel
  clear HL HV0 HB0
  have hm : m ≤ k := by rw [HCN.out]; exact cnt_le _ _ _ _
  by_cases hlt : k < n
  ·obtain ⟨b, off, x, rfl, hx, hr⟩ := OL.at HLk.out hlt
   have HX := Lib.hid hx
   have HR : Hid (Ru w wr v b (off + k * 23) x) := Lib.hid ⟨HVk.out, hr⟩
   have HH := Lib.hid (fun W => rhas_any v x.r x.s W x.hr x.hs)
   clear hx hr
   go_upto_region 5 with fail
   by_cases he : x.r = rep
   ·have HQ : Hid (((x.r : Int) == (rep : Int)) = true) := Lib.hid (by simp; omega)
    have HER := Lib.hid he
    clear he
    cases hh : V.hasB v x.r x.s
    ·rw [hh] at HH
     have HIN : Hid (isIn v rep x = false) := Lib.hid (by unfold isIn; rw [hh]; simp)
     clear hh
     refine wp_region_held_drew (S := fun w' => Ru w w' v b (off + k * 23) x ∧ Below wr.heap.size wr w') (by kernel_rfl) ⟨HR.out.below (drew_below wr), drew_below wr⟩ (fun hS => ?_)
     refine held_tk 0 15 (.slice (some ⟨b,off,none⟩) n cap) rfl rfl (by kernel_rfl) (fun _ _ _ h=>h) (fun _ _=>rfl) hS ?_;simp only [Act.put,ap1,ap2,ap3]
     refine held_tk 1 16 (.int .i64 (k : Int)) rfl rfl (by kernel_rfl) (fun _ _ _ h=>h) (fun _ _=>rfl) hS ?_;simp only [Act.put,ap1,ap2,ap3]
     refine held_tk 2 17 (.pointer (some ⟨b,off + k * 23,none⟩)) rfl rfl (by kernel_rfl) (fun _ _ _ h=>h) (fun _ _=>exec_idxO (i:=k) rfl rfl rfl rfl hlt) hS ?_;simp only [Act.put,ap1,ap2,ap3]
     refine held_tk 3 18 (.pointer (some ⟨b,off + k * 23,none⟩)) rfl rfl (by kernel_rfl) (fun _ _ _ h=>h) (fun _ _=>(by kernel_rfl)) hS ?_;simp only [Act.put,ap1,ap2,ap3]
     refine held_tk 4 19 (.pointer (some ⟨b,off + k * 23,none⟩)) rfl rfl (by kernel_rfl) (fun _ _ _ h=>h) (fun _ _=>(by kernel_rfl)) hS ?_;simp only [Act.put,ap1,ap2,ap3]
     refine held_tk 5 20 (.int .u8 (x.r : Int)) rfl rfl (by kernel_rfl) (fun _ _ _ h=>h) (fun _ h=>exec_cell rfl rfl (load_cell (by kernel_rfl) (op0 h.1.op))) hS ?_;simp only [Act.put,ap1,ap2,ap3]
     refine held_tk 6 21 (.int .i64 (x.r : Int)) rfl rfl (by kernel_rfl) (fun _ _ _ h=>h) (fun _ _=>exec_conv8 rfl rfl x.hr) hS ?_;simp only [Act.put,ap1,ap2,ap3]
     refine held_tk 7 22 (.int .i64 (rep : Int)) rfl rfl (by kernel_rfl) (fun _ _ _ h=>h) (fun _ _=>rfl) hS ?_;simp only [Act.put,ap1,ap2,ap3]
     refine held_tk 8 23 (.bool true) rfl rfl (by kernel_rfl) (fun _ _ _ h=>h) (fun _ _=>exec_eqlI trivial rfl rfl rfl HQ.out) hS ?_;simp only [Act.put,ap1,ap2,ap3]
     refine held_tk 9 24 (.bool true) rfl rfl (by kernel_rfl) (fun _ _ _ h=>h) (fun _ _=>rfl) hS ?_;simp only [Act.put,ap1,ap2,ap3]
     refine held_tk 10 25 (.agg v.arr) rfl rfl (by kernel_rfl) (fun _ _ _ h=>h) (fun _ h=>exec_load24 (v:=v) rfl rfl h.1.box) hS ?_;simp only [Act.put,ap1,ap2,ap3]
     refine held_tk 11 26 (.slice (some ⟨b,off,none⟩) n cap) rfl rfl (by kernel_rfl) (fun _ _ _ h=>h) (fun _ _=>rfl) hS ?_;simp only [Act.put,ap1,ap2,ap3]
     refine held_tk 12 27 (.int .i64 (k : Int)) rfl rfl (by kernel_rfl) (fun _ _ _ h=>h) (fun _ _=>rfl) hS ?_;simp only [Act.put,ap1,ap2,ap3]
     refine held_tk 13 28 (.pointer (some ⟨b,off + k * 23,none⟩)) rfl rfl (by kernel_rfl) (fun _ _ _ h=>h) (fun _ _=>exec_idxO (i:=k) rfl rfl rfl rfl hlt) hS ?_;simp only [Act.put,ap1,ap2,ap3]
     refine held_tk 14 29 (.pointer (some ⟨b,off + k * 23,none⟩)) rfl rfl (by kernel_rfl) (fun _ _ _ h=>h) (fun _ _=>(by kernel_rfl)) hS ?_;simp only [Act.put,ap1,ap2,ap3]
     refine held_tk 15 30 (dotV x.r x.s) rfl rfl (by kernel_rfl) (fun _ _ _ h=>h) (fun _ h=>exec_dotO (p:=x) rfl rfl h.1.op) hS ?_;simp only [Act.put,ap1,ap2,ap3]
     refine held_call 16 31 60 #[.agg v.arr,dotV x.r x.s] (.bool false) rfl (by kernel_rfl) rfl (by kernel_rfl) (by kernel_rfl) (HH.out _) (fun _ h hb=>⟨h.1.below hb,h.2.trans (hb.mono h.2.size)⟩) hS (fun w116 hS=>?_)
     simp only [Act.put, ap1, ap2, ap3]
     refine held_tk 17 32 (.bool false) rfl rfl (by kernel_rfl) (fun _ _ _ h=>h) (fun _ _=>rfl) hS ?_;simp only [Act.put,ap1,ap2,ap3]
     refine wpAnyH_done (by kernel_rfl) ?_ _
     have HVN := Lib.hid hS.1.box
     have HLN := Lib.hid (HLk.out.below hS.2)
     have HBN : Hid (Below w.heap.size w w116) := Lib.hid (HB.out.trans (hS.2.mono HB.out.size))
     have HC := Lib.hid (cnt_no (v := v) (rep := rep) HX.out HIN.out)
     clear hS
     go_wp2_with fail
     go_roundw
     case rel => exact ⟨k + 1, m, by go_num, rfl, hlt, Lib.hid (by have := HCN.out; have := HC.out; omega), HVN, HLN, HBN⟩
     case measure => simp [numI]; omega
    ·rw [hh] at HH
     have HIN : Hid (isIn v rep x = true) := Lib.hid (by unfold isIn; rw [hh, HER.out]; simp)
     clear hh
     refine wp_region_held_drew (S := fun w' => Ru w w' v b (off + k * 23) x ∧ Below wr.heap.size wr w') (by kernel_rfl) ⟨HR.out.below (drew_below wr), drew_below wr⟩ (fun hS => ?_)
     refine held_tk 0 15 (.slice (some ⟨b,off,none⟩) n cap) rfl rfl (by kernel_rfl) (fun _ _ _ h=>h) (fun _ _=>rfl) hS ?_;simp only [Act.put,ap1,ap2,ap3]
     refine held_tk 1 16 (.int .i64 (k : Int)) rfl rfl (by kernel_rfl) (fun _ _ _ h=>h) (fun _ _=>rfl) hS ?_;simp only [Act.put,ap1,ap2,ap3]
     refine held_tk 2 17 (.pointer (some ⟨b,off + k * 23,none⟩)) rfl rfl (by kernel_rfl) (fun _ _ _ h=>h) (fun _ _=>exec_idxO (i:=k) rfl rfl rfl rfl hlt) hS ?_;simp only [Act.put,ap1,ap2,ap3]
     refine held_tk 3 18 (.pointer (some ⟨b,off + k * 23,none⟩)) rfl rfl (by kernel_rfl) (fun _ _ _ h=>h) (fun _ _=>(by kernel_rfl)) hS ?_;simp only [Act.put,ap1,ap2,ap3]
     refine held_tk 4 19 (.pointer (some ⟨b,off + k * 23,none⟩)) rfl rfl (by kernel_rfl) (fun _ _ _ h=>h) (fun _ _=>(by kernel_rfl)) hS ?_;simp only [Act.put,ap1,ap2,ap3]
     refine held_tk 5 20 (.int .u8 (x.r : Int)) rfl rfl (by kernel_rfl) (fun _ _ _ h=>h) (fun _ h=>exec_cell rfl rfl (load_cell (by kernel_rfl) (op0 h.1.op))) hS ?_;simp only [Act.put,ap1,ap2,ap3]
     refine held_tk 6 21 (.int .i64 (x.r : Int)) rfl rfl (by kernel_rfl) (fun _ _ _ h=>h) (fun _ _=>exec_conv8 rfl rfl x.hr) hS ?_;simp only [Act.put,ap1,ap2,ap3]
     refine held_tk 7 22 (.int .i64 (rep : Int)) rfl rfl (by kernel_rfl) (fun _ _ _ h=>h) (fun _ _=>rfl) hS ?_;simp only [Act.put,ap1,ap2,ap3]
     refine held_tk 8 23 (.bool true) rfl rfl (by kernel_rfl) (fun _ _ _ h=>h) (fun _ _=>exec_eqlI trivial rfl rfl rfl HQ.out) hS ?_;simp only [Act.put,ap1,ap2,ap3]
     refine held_tk 9 24 (.bool true) rfl rfl (by kernel_rfl) (fun _ _ _ h=>h) (fun _ _=>rfl) hS ?_;simp only [Act.put,ap1,ap2,ap3]
     refine held_tk 10 25 (.agg v.arr) rfl rfl (by kernel_rfl) (fun _ _ _ h=>h) (fun _ h=>exec_load24 (v:=v) rfl rfl h.1.box) hS ?_;simp only [Act.put,ap1,ap2,ap3]
     refine held_tk 11 26 (.slice (some ⟨b,off,none⟩) n cap) rfl rfl (by kernel_rfl) (fun _ _ _ h=>h) (fun _ _=>rfl) hS ?_;simp only [Act.put,ap1,ap2,ap3]
     refine held_tk 12 27 (.int .i64 (k : Int)) rfl rfl (by kernel_rfl) (fun _ _ _ h=>h) (fun _ _=>rfl) hS ?_;simp only [Act.put,ap1,ap2,ap3]
     refine held_tk 13 28 (.pointer (some ⟨b,off + k * 23,none⟩)) rfl rfl (by kernel_rfl) (fun _ _ _ h=>h) (fun _ _=>exec_idxO (i:=k) rfl rfl rfl rfl hlt) hS ?_;simp only [Act.put,ap1,ap2,ap3]
     refine held_tk 14 29 (.pointer (some ⟨b,off + k * 23,none⟩)) rfl rfl (by kernel_rfl) (fun _ _ _ h=>h) (fun _ _=>(by kernel_rfl)) hS ?_;simp only [Act.put,ap1,ap2,ap3]
     refine held_tk 15 30 (dotV x.r x.s) rfl rfl (by kernel_rfl) (fun _ _ _ h=>h) (fun _ h=>exec_dotO (p:=x) rfl rfl h.1.op) hS ?_;simp only [Act.put,ap1,ap2,ap3]
     refine held_call 16 31 60 #[.agg v.arr,dotV x.r x.s] (.bool true) rfl (by kernel_rfl) rfl (by kernel_rfl) (by kernel_rfl) (HH.out _) (fun _ h hb=>⟨h.1.below hb,h.2.trans (hb.mono h.2.size)⟩) hS (fun w116 hS=>?_)
     simp only [Act.put, ap1, ap2, ap3]
     refine held_tk 17 32 (.bool true) rfl rfl (by kernel_rfl) (fun _ _ _ h=>h) (fun _ _=>rfl) hS ?_;simp only [Act.put,ap1,ap2,ap3]
     refine wpAnyH_done (by kernel_rfl) ?_ _
     have HVN := Lib.hid hS.1.box
     have HLN := Lib.hid (HLk.out.below hS.2)
     have HBN : Hid (Below w.heap.size w w116) := Lib.hid (HB.out.trans (hS.2.mono HB.out.size))
     have HC := Lib.hid (cnt_yes (v := v) (rep := rep) HX.out HIN.out)
     clear hS
     go_wp2_with fail
     go_roundw
     case rel => exact ⟨k + 1, m + 1, by go_num, by go_num, hlt, Lib.hid (by have := HCN.out; have := HC.out; omega), HVN, HLN, HBN⟩
     case measure => simp [numI]; omega
   ·have HQ : Hid (((x.r : Int) == (rep : Int)) = false) := Lib.hid (by simp; omega)
    have HIN : Hid (isIn v rep x = false) := Lib.hid (by unfold isIn; simp [he])
    clear he
    refine wp_region_held_drew (S := fun w' => Ru w w' v b (off + k * 23) x ∧ Below wr.heap.size wr w') (by kernel_rfl) ⟨HR.out.below (drew_below wr), drew_below wr⟩ (fun hS => ?_)
    refine held_tk 0 15 (.slice (some ⟨b,off,none⟩) n cap) rfl rfl (by kernel_rfl) (fun _ _ _ h=>h) (fun _ _=>rfl) hS ?_;simp only [Act.put,ap1,ap2,ap3]
    refine held_tk 1 16 (.int .i64 (k : Int)) rfl rfl (by kernel_rfl) (fun _ _ _ h=>h) (fun _ _=>rfl) hS ?_;simp only [Act.put,ap1,ap2,ap3]
    refine held_tk 2 17 (.pointer (some ⟨b,off + k * 23,none⟩)) rfl rfl (by kernel_rfl) (fun _ _ _ h=>h) (fun _ _=>exec_idxO (i:=k) rfl rfl rfl rfl hlt) hS ?_;simp only [Act.put,ap1,ap2,ap3]
    refine held_tk 3 18 (.pointer (some ⟨b,off + k * 23,none⟩)) rfl rfl (by kernel_rfl) (fun _ _ _ h=>h) (fun _ _=>(by kernel_rfl)) hS ?_;simp only [Act.put,ap1,ap2,ap3]
    refine held_tk 4 19 (.pointer (some ⟨b,off + k * 23,none⟩)) rfl rfl (by kernel_rfl) (fun _ _ _ h=>h) (fun _ _=>(by kernel_rfl)) hS ?_;simp only [Act.put,ap1,ap2,ap3]
    refine held_tk 5 20 (.int .u8 (x.r : Int)) rfl rfl (by kernel_rfl) (fun _ _ _ h=>h) (fun _ h=>exec_cell rfl rfl (load_cell (by kernel_rfl) (op0 h.1.op))) hS ?_;simp only [Act.put,ap1,ap2,ap3]
    refine held_tk 6 21 (.int .i64 (x.r : Int)) rfl rfl (by kernel_rfl) (fun _ _ _ h=>h) (fun _ _=>exec_conv8 rfl rfl x.hr) hS ?_;simp only [Act.put,ap1,ap2,ap3]
    refine held_tk 7 22 (.int .i64 (rep : Int)) rfl rfl (by kernel_rfl) (fun _ _ _ h=>h) (fun _ _=>rfl) hS ?_;simp only [Act.put,ap1,ap2,ap3]
    refine held_tk 8 23 (.bool false) rfl rfl (by kernel_rfl) (fun _ _ _ h=>h) (fun _ _=>exec_eqlI trivial rfl rfl rfl HQ.out) hS ?_;simp only [Act.put,ap1,ap2,ap3]
    refine held_tk 9 24 (.bool false) rfl rfl (by kernel_rfl) (fun _ _ _ h=>h) (fun _ _=>rfl) hS ?_;simp only [Act.put,ap1,ap2,ap3]
    refine held_sk 10 25 rfl rfl (by kernel_rfl) (fun _ _ _ h=>h) hS ?_;simp only [Act.put,ap1,ap2,ap3]
    refine held_sk 11 26 rfl rfl (by kernel_rfl) (fun _ _ _ h=>h) hS ?_;simp only [Act.put,ap1,ap2,ap3]
    refine held_sk 12 27 rfl rfl (by kernel_rfl) (fun _ _ _ h=>h) hS ?_;simp only [Act.put,ap1,ap2,ap3]
    refine held_sk 13 28 rfl rfl (by kernel_rfl) (fun _ _ _ h=>h) hS ?_;simp only [Act.put,ap1,ap2,ap3]
    refine held_sk 14 29 rfl rfl (by kernel_rfl) (fun _ _ _ h=>h) hS ?_;simp only [Act.put,ap1,ap2,ap3]
    refine held_sk 15 30 rfl rfl (by kernel_rfl) (fun _ _ _ h=>h) hS ?_;simp only [Act.put,ap1,ap2,ap3]
    refine held_sk 16 31 rfl rfl (by kernel_rfl) (fun _ _ _ h=>h) hS ?_;simp only [Act.put,ap1,ap2,ap3]
    refine held_tk 17 32 (.bool false) rfl rfl (by kernel_rfl) (fun _ _ _ h=>h) (fun _ _=>rfl) hS ?_;simp only [Act.put,ap1,ap2,ap3]
    refine wpAnyH_done (by kernel_rfl) ?_ _
    have HVN := Lib.hid hS.1.box
    have HLN := Lib.hid (HLk.out.below hS.2)
    have HBN : Hid (Below w.heap.size w wr.drew) := Lib.hid (HB.out.trans (hS.2.mono HB.out.size))
    have HC := Lib.hid (cnt_no (v := v) (rep := rep) HX.out HIN.out)
    clear hS
    go_wp2_with fail
    go_roundw
    case rel => exact ⟨k + 1, m, by go_num, rfl, hlt, Lib.hid (by have := HCN.out; have := HC.out; omega), HVN, HLN, HBN⟩
    case measure => simp [numI]; omega
  ·obtain rfl : k = n := by omega
   go_wp2_with fail
   go_ret
   exact ⟨by rw [← HCN.out]; rfl, HB.out⟩
end Go.Proofs.YtnekpgmgnepdoaaGreat
end
section
namespace Go.Proofs.YtnekpgmgnepdoaaGreat.F
open Go.Proofs.YtnekpgmgnepdoaaGreat Go.Proofs.YtnekpgmgnepdoaaGreat.Fold
open Go.RowKit
theorem ol_rng {w : World} {b off n k : Nat} {l : List O} {x : O} (h : OL w (some ⟨b, off, none⟩) n l) (hx : l[k]? = some x) : w.rangeAt b (off + k * 23) x.cs := by
 have hk : k < n := by
  have h1 := (List.getElem?_eq_some_iff.1 hx).1
  have h2 := OL.len' h
  omega
 obtain ⟨b', off', y, he, hy, hr⟩ := OL.at h hk
 have he2 : b = b' ∧ off = off' := by simpa using he
 obtain ⟨rfl, rfl⟩ := he2
 rw [hx] at hy
 cases hy
 exact hr
def LvR (w : World) (a : Option Addr) (n : Nat) (l : List O) (y : O) (u : Value) (W : World) : Prop :=
 ∃ k : Nat, u = .int .i64 (k : Int) ∧ k ≤ n ∧ Hid (∀ o ∈ l.take k, O.endsB o y = false) ∧ Hid (OL W a n l) ∧ Hid (Below w.heap.size w W)
theorem lv_step {l : List O} {k : Nat} {x y : O} (h : ∀ o ∈ l.take k, O.endsB o y = false) (hx : l[k]? = some x) (he : O.endsB x y = false) : ∀ o ∈ l.take (k + 1), O.endsB o y = false := fun o ho => by
 rw [List.take_add_one, hx] at ho
 rcases List.mem_append.1 ho with ho | ho
 ·exact h o ho
 ·obtain rfl : o = x := by simpa using ho
  exact he
theorem lv_no {l : List O} {k : Nat} {x y : O} (hx : l[k]? = some x) (he : O.endsB x y = true) : liveB l y = false := by
 unfold liveB
 rw [Bool.and_eq_false_iff]
 refine .inr ?_
 rw [Bool.eq_false_iff]
 intro h
 have := List.all_eq_true.1 h x (List.mem_of_getElem? hx)
 rw [he] at this
 cases this
theorem lv_end {l : List O} {n : Nat} {y : O} (hn : l.length = n) (h : ∀ o ∈ l.take n, O.endsB o y = false) : liveB l y = y.laysB := by
 unfold liveB
 rw [← hn, List.take_length] at h
 have : (l.all fun o => !O.endsB o y) = true := List.all_eq_true.2 fun o ho => by rw [h o ho]; rfl
 rw [this, Bool.and_true]
set_option maxRecDepth 100000 in
set_option maxHeartbeats 2000000 in
theorem rlive_any {a : Option Addr} {n cap i : Nat} {l : List O} {y : O} {w : World} (hl : OL w a n l) (hn : n < 1000000) (hy : l[i]? = some y) : Calls Tryz.prog 69 #[.slice a n cap, .int .i64 (i : Int)] w (Says (.bool (liveB l y)) w) := by
 have hin : i < n := by
  have h1 := (List.getElem?_eq_some_iff.1 hy).1
  have h2 := OL.len' hl
  omega
 obtain ⟨b, off, y', rfl, _, _⟩ := OL.at hl hin
 have HL := Lib.hid hl
 have HLEN := Lib.hid (OL.len' hl)
 have HY := Lib.hid hy
 clear hl hy
 go_enter Tryz.func69, Tryz.ntmps69
 go_wp2_with fail
 go_loopw [5] (LvR w (some ⟨b, off, none⟩) n l y) (fun u _ => n - (numI u).toNat)
 case atStart => exact ⟨0, rfl, Nat.zero_le _, Lib.hid (fun o h => by simp at h), HL, Lib.hid (Below.refl _ _)⟩
 case round =>
  obtain ⟨k, rfl, hk, HV, HLk, HB⟩ := hrel
  clear HL
  by_cases hlt : k < n
  ·obtain ⟨x, hx⟩ : ∃ x, l[k]? = some x := ⟨_, List.getElem?_eq_getElem (by have := HLEN.out; omega)⟩
   have HX := Lib.hid hx
   have HH := Lib.hid (fun W => rends_any x y W)
   clear hx
   go_upto_region 4 with fail
   cases hh : O.endsB x y
   ·rw [hh] at HH
    have HS2 := Lib.hid (lv_step HV.out HX.out hh)
    clear hh
    refine wp_region_held_drew (S := fun w' => OL w' (some ⟨b, off, none⟩) n l ∧ Below wr.heap.size wr w') (by kernel_rfl) ⟨HLk.out.below (drew_below wr), drew_below wr⟩ (fun hS => ?_)
    refine held_tk 0 12 (.slice (some ⟨b,off,none⟩) n cap) rfl rfl (by kernel_rfl) (fun _ _ _ h=>h) (fun _ _=>rfl) hS ?_;simp only [Act.put,ap1,ap2,ap3]
    refine held_tk 1 13 (.int .i64 (k : Int)) rfl rfl (by kernel_rfl) (fun _ _ _ h=>h) (fun _ _=>rfl) hS ?_;simp only [Act.put,ap1,ap2,ap3]
    refine held_tk 2 14 (.pointer (some ⟨b,off + k * 23,none⟩)) rfl rfl (by kernel_rfl) (fun _ _ _ h=>h) (fun _ _=>exec_idxO (i:=k) rfl rfl rfl rfl hlt) hS ?_;simp only [Act.put,ap1,ap2,ap3]
    refine held_tk 3 15 (.agg x.arr) rfl rfl (by kernel_rfl) (fun _ _ _ h=>h) (fun _ h=>exec_ldO (p:=x) rfl rfl (ol_rng h.1 HX.out)) hS ?_;simp only [Act.put,ap1,ap2,ap3]
    refine held_tk 4 16 (.slice (some ⟨b,off,none⟩) n cap) rfl rfl (by kernel_rfl) (fun _ _ _ h=>h) (fun _ _=>rfl) hS ?_;simp only [Act.put,ap1,ap2,ap3]
    refine held_tk 5 17 (.int .i64 (i : Int)) rfl rfl (by kernel_rfl) (fun _ _ _ h=>h) (fun _ _=>rfl) hS ?_;simp only [Act.put,ap1,ap2,ap3]
    refine held_tk 6 18 (.pointer (some ⟨b,off + i * 23,none⟩)) rfl rfl (by kernel_rfl) (fun _ _ _ h=>h) (fun _ _=>exec_idxO (i:=i) rfl rfl rfl rfl hin) hS ?_;simp only [Act.put,ap1,ap2,ap3]
    refine held_tk 7 19 (.agg y.arr) rfl rfl (by kernel_rfl) (fun _ _ _ h=>h) (fun _ h=>exec_ldO (p:=y) rfl rfl (ol_rng h.1 HY.out)) hS ?_;simp only [Act.put,ap1,ap2,ap3]
    refine held_call 8 20 45 #[.agg x.arr,.agg y.arr] (.bool false) rfl (by kernel_rfl) rfl (by kernel_rfl) (by kernel_rfl) (HH.out _) (fun _ h hb=>⟨h.1.below hb,h.2.trans (hb.mono h.2.size)⟩) hS (fun w8 hS=>?_)
    simp only [Act.put, ap1, ap2, ap3]
    refine wpAnyH_done (by kernel_rfl) ?_ _
    have HLN := Lib.hid hS.1
    have HBN : Hid (Below w.heap.size w w8) := Lib.hid (HB.out.trans (hS.2.mono HB.out.size))
    clear hS
    go_wp2_with fail
    go_roundw
    case rel => exact ⟨k + 1, by go_num, hlt, HS2, HLN, HBN⟩
    case measure => simp [numI]; omega
   ·rw [hh] at HH
    have HE := Lib.hid (lv_no HX.out hh)
    clear hh
    refine wp_region_held_drew (S := fun w' => OL w' (some ⟨b, off, none⟩) n l ∧ Below wr.heap.size wr w') (by kernel_rfl) ⟨HLk.out.below (drew_below wr), drew_below wr⟩ (fun hS => ?_)
    refine held_tk 0 12 (.slice (some ⟨b,off,none⟩) n cap) rfl rfl (by kernel_rfl) (fun _ _ _ h=>h) (fun _ _=>rfl) hS ?_;simp only [Act.put,ap1,ap2,ap3]
    refine held_tk 1 13 (.int .i64 (k : Int)) rfl rfl (by kernel_rfl) (fun _ _ _ h=>h) (fun _ _=>rfl) hS ?_;simp only [Act.put,ap1,ap2,ap3]
    refine held_tk 2 14 (.pointer (some ⟨b,off + k * 23,none⟩)) rfl rfl (by kernel_rfl) (fun _ _ _ h=>h) (fun _ _=>exec_idxO (i:=k) rfl rfl rfl rfl hlt) hS ?_;simp only [Act.put,ap1,ap2,ap3]
    refine held_tk 3 15 (.agg x.arr) rfl rfl (by kernel_rfl) (fun _ _ _ h=>h) (fun _ h=>exec_ldO (p:=x) rfl rfl (ol_rng h.1 HX.out)) hS ?_;simp only [Act.put,ap1,ap2,ap3]
    refine held_tk 4 16 (.slice (some ⟨b,off,none⟩) n cap) rfl rfl (by kernel_rfl) (fun _ _ _ h=>h) (fun _ _=>rfl) hS ?_;simp only [Act.put,ap1,ap2,ap3]
    refine held_tk 5 17 (.int .i64 (i : Int)) rfl rfl (by kernel_rfl) (fun _ _ _ h=>h) (fun _ _=>rfl) hS ?_;simp only [Act.put,ap1,ap2,ap3]
    refine held_tk 6 18 (.pointer (some ⟨b,off + i * 23,none⟩)) rfl rfl (by kernel_rfl) (fun _ _ _ h=>h) (fun _ _=>exec_idxO (i:=i) rfl rfl rfl rfl hin) hS ?_;simp only [Act.put,ap1,ap2,ap3]
    refine held_tk 7 19 (.agg y.arr) rfl rfl (by kernel_rfl) (fun _ _ _ h=>h) (fun _ h=>exec_ldO (p:=y) rfl rfl (ol_rng h.1 HY.out)) hS ?_;simp only [Act.put,ap1,ap2,ap3]
    refine held_call 8 20 45 #[.agg x.arr,.agg y.arr] (.bool true) rfl (by kernel_rfl) rfl (by kernel_rfl) (by kernel_rfl) (HH.out _) (fun _ h hb=>⟨h.1.below hb,h.2.trans (hb.mono h.2.size)⟩) hS (fun w8 hS=>?_)
    simp only [Act.put, ap1, ap2, ap3]
    refine wpAnyH_done (by kernel_rfl) ?_ _
    have HBN : Hid (Below w.heap.size w w8) := Lib.hid (HB.out.trans (hS.2.mono HB.out.size))
    clear hS
    go_wp2_with fail
    go_ret
    exact ⟨ret_bool HE.out.symm, HBN.out⟩
  ·obtain rfl : k = n := by omega
   have HE := Lib.hid (lv_end HLEN.out HV.out)
   have HR := Lib.hid (ol_rng HLk.out HY.out)
   go_wp2_with (first | (refine wpList_run rfl (exec_idxO (i := i) rfl rfl rfl rfl hin) ?_) | (refine wpList_run rfl (exec_ldO (p := y) rfl rfl HR.out) ?_))
   refine (lays_any y _).mono ?_
   rintro e w2 ⟨rfl, hb⟩
   have HBN : Hid (Below w.heap.size w w2) := Lib.hid (HB.out.trans (hb.mono HB.out.size))
   clear hb
   go_wp2_with fail
   go_ret
   exact ⟨ret_bool HE.out.symm, HBN.out⟩
end Go.Proofs.YtnekpgmgnepdoaaGreat.F
end
section
namespace Go.Proofs.YtnekpgmgnepdoaaGreat.F
open Go.Proofs.YtnekpgmgnepdoaaGreat Go.Proofs.YtnekpgmgnepdoaaGreat.Fold
open Go.RowKit
def bls (l : List Bool) : List (List Value) := l.map fun b => [.bool b]
def BlsP (l : List Bool) (w : World) (e : Ending) (w' : World) : Prop :=
 ∃ a cap, e = .returned (.slice a l.length cap) ∧ OwnG w' 4 1 w.heap.size a l.length cap (bls l) ∧ Below w.heap.size w w'
def LjR (w : World) (a : Option Addr) (n : Nat) (l : List O) (v u : Value) (W : World) : Prop :=
 ∃ (k cap : Nat) (a2 : Option Addr), v = .slice a2 k cap ∧ u = .int .i64 (k : Int) ∧ k ≤ n ∧ Hid (OwnG W 4 1 w.heap.size a2 k cap (bls ((l.take k).map (liveB l)))) ∧ Hid (OL W a n l) ∧ Hid (Below w.heap.size w W)
set_option maxRecDepth 100000 in
set_option maxHeartbeats 2000000 in
theorem rlives_any {a : Option Addr} {n cap : Nat} {l : List O} {w : World} (hl : OL w a n l) (hn : n < 1000000) : Calls Tryz.prog 32 #[.slice a n cap] w (BlsP (l.map (liveB l)) w) := by
 have HL := Lib.hid hl
 have HLEN := Lib.hid (OL.len' hl)
 clear hl
 go_enter Tryz.func32, Tryz.ntmps32
 go_wp2_with fail
 go_loopw [3, 4] (LjR w a n l) (fun _ u _ => n - (numI u).toNat)
 case atStart => exact ⟨0, 0, none, rfl, rfl, Nat.zero_le _, Lib.hid (ownG_nil _ _ _ _), HL, Lib.hid (Below.refl _ _)⟩
 case round =>
  obtain ⟨k, cap2, a2, rfl, rfl, hk, HW, HLk, HB⟩ := hrel
  have HL0 := HL
  by_cases hlt : k < n
  ·obtain ⟨x, hx⟩ : ∃ x, l[k]? = some x := ⟨_, List.getElem?_eq_getElem (by have := HLEN.out; omega)⟩
   have HX := Lib.hid hx
   clear hx
   go_wp2_with fail
   refine (rlive_any HLk.out hn HX.out).mono ?_
   rintro e w2 ⟨rfl, hb⟩
   have HW2 := Lib.hid (HW.out.below hb)
   have HL2 := Lib.hid (HLk.out.below hb)
   have HB2 : Hid (Below w.heap.size w w2) := Lib.hid (HB.out.trans (hb.mono HB.out.size))
   clear hb
   go_wp2_with (at_builtin; refine wpList_appendG 69 4 1 1 info4 und69 rfl (by decide) (by decide) rfl rfl rfl rfl (HW2.out.below (below_one w2 _)) (Blk.new w2 4 #[.bool (liveB l x)]) rfl (by simp [Value.oneCell']) (by omega) (by have := HB2.out.size; simp; omega) ?_; intro a3 cap3 w3 ho3 hk3 hl3)
   have HW3 : Hid (OwnG w3 4 1 w.heap.size a3 (k + 1) cap3 (bls ((l.take (k + 1)).map (liveB l)))) := Lib.hid (by rw [List.take_add_one, HX.out]; simpa [bls] using ho3)
   have HB3 : Hid (Below w.heap.size w w3) := Lib.hid ((HB2.out.trans ((below_one w2 (.cells #[.bool (liveB l x)] 4)).mono HB2.out.size)).trans (hk3.below (by have := HB2.out.size; simp; omega) (fun j ⟨ad, had, e⟩ => by rw [e]; exact (HW2.out.lt ad had).1)))
   have HL3 : Hid (OL w3 a n l) := Lib.hid (HL0.out.below HB3.out)
   clear ho3 hk3 hl3
   go_roundw
   case rel => exact ⟨k + 1, cap3, a3, rfl, by go_num, hlt, HW3, HL3, HB3⟩
   case measure => simp [numI]; omega
  ·obtain rfl : k = n := by omega
   have HE : Hid (BlsP (l.map (liveB l)) w (.returned (.slice a2 k cap2)) wr) := Lib.hid ⟨a2, cap2, by rw [List.length_map, HLEN.out], by rw [List.length_map, HLEN.out]; have h7 := HW.out; rw [List.take_of_length_le (Nat.le_of_eq HLEN.out)] at h7; exact h7, HB.out⟩
   go_wp2_with fail
   go_ret
   exact HE.out
end Go.Proofs.YtnekpgmgnepdoaaGreat.F
end
