/- VecBytes: any vector's bytes, and the vector of any bytes, are the document's, or refused; they belong together one by one. No condition. -/
import Derived.Test.YtdkdcjmkhldmlaaRdec
namespace Go.Proofs.Ytdkdcjmkhldmlaa
open Go.ChangeShapes Go.WideShapes Go.ChangeAt Go.RowKit

/-- The vector, the bytes that came in, and the bytes of the vector. -/
structure Bst (w W : World) (v : V) (ab : Option Addr) (nb : Nat) (bs : List Nat) (ga : Option Addr) : Prop where
  vec : Blk W w.heap.size 24 v.arr
  rb : Row W ab nb bs
  rc : Row W ga (V.bytes v).length (V.bytes v)
  old : Below w.heap.size w W
theorem Bst.below {w W W' : World} {v : V} {ab ga : Option Addr} {nb : Nat} {bs : List Nat} (h : Bst w W v ab nb bs ga) (hb : Below W.heap.size W W') : Bst w W' v ab nb bs ga :=
  ⟨h.vec.below hb, h.rb.below hb, h.rc.below hb, h.old.trans (hb.mono h.old.size)⟩

namespace VecBytes
set_option maxHeartbeats 1000000 in
theorem long (v : V) (ab : Option Addr) (nb cb : Nat) (w : World) (hl : nb ≤ maxLen) (hn : 500 < nb) : Calls Try.prog 6 #[.agg v.arr, .slice ab nb cb] w (Says (.bool true) w) := by
  have hb1 := fun (v : V) (w : World) => box24 v w
  unfold maxLen at hl
  have hn' : 500 < (nb : Int) := by omega
  have HB := Lib.hid (below_one w (.cells v.arr 24))
  go_enter Try.func6, Try.ntmps6
  go_wp2_with fail
  clear hb1
  generalize w.alloc (.cells v.arr 24) = W at HB
  refine (alive_any _).mono ?_
  rintro e w1 ⟨rfl, hb⟩
  have HB1 := Lib.hid (HB.out.trans (hb.mono HB.out.size))
  clear hb
  go_wp2_with fail
  go_ret
  exact ⟨rfl, HB1.out⟩

set_option maxHeartbeats 4000000 in
set_option maxRecDepth 100000 in
theorem core0 (v x z : V) (ab : Option Addr) (nb cb : Nat) (bs : List Nat) (w : World) (hl : nb ≤ 500) (HZ : Hid (V.zero = z)) (HR : Hid (Row w ab nb bs))
    (HD : Hid (∀ W : World, Row W ab nb bs → Calls Try.prog 29 #[.slice ab nb cb] W (Says (.tuple #[.agg x.arr, .int .i64 0]) W)))
    (HM : Hid (∀ W : World, Row W ab nb bs → Calls Try.prog 30 #[.slice ab nb cb] W (Says (.tuple #[.agg x.arr, .int .i64 0]) W)))
    (HC : Hid (∀ (W : World) (g : Option Addr) (c : Nat), Row W g (V.bytes v).length (V.bytes v) → (g = none → (V.bytes v).length = 0 ∧ c = 0) → Calls Try.prog 29 #[.slice g (V.bytes v).length c] W (Says (.tuple #[.agg v.arr, .int .i64 0]) W))) (HQ : Hid (V.bytes x = bs)) :
    Calls Try.prog 6 #[.agg v.arr, .slice ab nb cb] w (Says (.bool true) w) := by
  have hb1 := fun (v : V) (w : World) => box24 v w
  have hl' : (nb : Int) ≤ 500 := by omega
  have HB := Lib.hid (below_one w (.cells v.arr 24))
  have HV := Lib.hid (Blk.new w 24 v.arr)
  go_enter Try.func6, Try.ntmps6
  go_wp2_with fail
  clear hb1
  generalize w.alloc (.cells v.arr 24) = W at HB HV
  refine (alive_any _).mono ?_
  rintro e w1 ⟨rfl, hb⟩
  have HV1 := Lib.hid (HV.out.below hb)
  have HB1 := Lib.hid (HB.out.trans (hb.mono HB.out.size))
  clear hb HV HB
  go_wp2_with (refine wpList_load24w (by kernel_rfl) rfl rfl HV1.out ?_)
  refine (encode_any v _).mono ?_
  rintro e w2 ⟨ga, ca, rfl, ho, hb⟩
  have HG := Lib.hid ho.cap.2.2
  have HS : Hid (Bst w w2 v ab nb bs ga) := Lib.hid ⟨HV1.out.below hb, HR.out.below (HB1.out.trans (hb.mono HB1.out.size)), ho.row (V.bytes_lt v), HB1.out.trans (hb.mono HB1.out.size)⟩
  clear ho hb HV1 HB1
  go_wp2_with fail
  refine (HD.out _ HS.out.rb).mono ?_
  rintro e w3 ⟨rfl, hb⟩
  replace HS := Lib.hid (HS.out.below hb)
  clear hb
  go_wp2_with (first | (refine wpList_load24w (by kernel_rfl) rfl rfl HS.out.vec ?_) | (refine wpList_alloc24 HZ.out rfl rfl ?_) | (refine wpList_stop rfl ?_))
  refine ⟨?_⟩
  refine wpList_store24 rfl rfl rfl rfl (Blk.new w3 24 z.arr) ?_
  have HX := Lib.hid (laid_blk w3 z x)
  have HS4 := Lib.hid (HS.out.below (laid_old w3 z x))
  generalize (w3.alloc (.cells z.arr 24)).setRow w3.heap.size x.arr = w4 at HX HS4
  generalize w3.heap.size = gx at HX
  clear HS
  have HS := HS4
  clear HS4
  go_wp2_with fail
  refine (HM.out _ HS.out.rb).mono ?_
  rintro e w5 ⟨rfl, hb⟩
  replace HS := Lib.hid (HS.out.below hb)
  replace HX := Lib.hid (HX.out.below hb)
  clear hb
  go_wp2_with (first | (refine wpList_load24w (by kernel_rfl) rfl rfl HS.out.vec ?_) | (refine wpList_alloc24 HZ.out rfl rfl ?_) | (refine wpList_stop rfl ?_))
  refine ⟨?_⟩
  refine wpList_store24 rfl rfl rfl rfl (Blk.new w5 24 z.arr) ?_
  have HY := Lib.hid (laid_blk w5 z x)
  have HS6 := Lib.hid (HS.out.below (laid_old w5 z x))
  have HX6 := Lib.hid (HX.out.below (laid_old w5 z x))
  generalize (w5.alloc (.cells z.arr 24)).setRow w5.heap.size x.arr = w6 at HY HS6 HX6
  generalize w5.heap.size = gy at HY
  clear HS HX
  have HS := HS6
  have HX := HX6
  clear HS6 HX6
  go_wp2_with fail
  refine (HC.out _ ga ca HS.out.rc HG.out).mono ?_
  rintro e w7 ⟨rfl, hb⟩
  replace HS := Lib.hid (HS.out.below hb)
  replace HX := Lib.hid (HX.out.below hb)
  replace HY := Lib.hid (HY.out.below hb)
  clear hb
  go_wp2_with (first | (refine wpList_load24w (by kernel_rfl) rfl rfl HS.out.vec ?_) | (refine wpList_alloc24 HZ.out rfl rfl ?_) | (refine wpList_stop rfl ?_))
  refine ⟨?_⟩
  refine wpList_store24 rfl rfl rfl rfl (Blk.new w7 24 z.arr) ?_
  have HW := Lib.hid (laid_blk w7 z v)
  have HS8 := Lib.hid (HS.out.below (laid_old w7 z v))
  have HX8 := Lib.hid (HX.out.below (laid_old w7 z v))
  have HY8 := Lib.hid (HY.out.below (laid_old w7 z v))
  generalize (w7.alloc (.cells z.arr 24)).setRow w7.heap.size v.arr = w8 at HW HS8 HX8 HY8
  generalize w7.heap.size = gw at HW
  clear HS HX HY
  go_wp2_with fail
  refine wp_region_held_drew (S := fun w' => Bst w w' v ab nb bs ga ∧ Blk w' gx 24 x.arr ∧ Blk w' gy 24 x.arr ∧ Blk w' gw 24 v.arr) (by kernel_rfl) ⟨HS8.out.below (Below.refl _ _).drew, HX8.out, HY8.out, HW.out⟩ (fun hS => ?_)
  refine held_take 0 34 (.slice ga (V.bytes v).length ca) rfl rfl (by kernel_rfl) (by kernel_rfl) (by kernel_rfl) (fun _ _ _ h => h) (by kernel_rfl) (fun _ _ => rfl) hS ?_
  simp only [Act.put, List.setIfInBounds_toArray, List.set_cons_zero, List.set_cons_succ]
  refine held_take 1 35 (.string (strOf (V.bytes v))) rfl rfl (by kernel_rfl) (by kernel_rfl) (by kernel_rfl) (fun _ _ _ h => h) (by kernel_rfl) (fun _ h => exec_str rfl rfl (conv_any h.1.rc)) hS ?_
  simp only [Act.put, List.setIfInBounds_toArray, List.set_cons_zero, List.set_cons_succ]
  refine held_take 2 36 (.agg v.arr) rfl rfl (by kernel_rfl) (by kernel_rfl) (by kernel_rfl) (fun _ _ _ h => h) (by kernel_rfl) (fun _ h => exec_load24 rfl rfl h.1.vec) hS ?_
  simp only [Act.put, List.setIfInBounds_toArray, List.set_cons_zero, List.set_cons_succ]
  refine held_callP 3 37 31 #[(.agg v.arr)] rfl (by kernel_rfl) rfl (by kernel_rfl) (by kernel_rfl) (rencode_any v _) (fun e w103 hP => ?_)
  obtain ⟨ga3, ca3, rfl, ho3, hb3⟩ := hP
  refine ⟨_, rfl, ⟨hS.1.below hb3, hS.2.1.below hb3, hS.2.2.1.below hb3, hS.2.2.2.below hb3⟩, fun hS => ?_⟩
  simp only [Act.put, List.setIfInBounds_toArray, List.set_cons_zero, List.set_cons_succ]
  refine held_run 4 38 (.string (strOf (V.bytes v))) rfl rfl (by kernel_rfl) (by kernel_rfl) (exec_str rfl rfl (conv_any (ho3.row (V.bytes_lt v)))) hS ?_
  simp only [Act.put, List.setIfInBounds_toArray, List.set_cons_zero, List.set_cons_succ]
  refine held_take 5 39 (.bool true) rfl rfl (by kernel_rfl) (by kernel_rfl) (by kernel_rfl) (fun _ _ _ h => h) (by kernel_rfl) (fun _ _ => exec_eqlS rfl rfl rfl (by simp)) hS ?_
  simp only [Act.put, List.setIfInBounds_toArray, List.set_cons_zero, List.set_cons_succ]
  refine held_take 6 40 (.bool true) rfl rfl (by kernel_rfl) (by kernel_rfl) (by kernel_rfl) (fun _ _ _ h => h) (by kernel_rfl) (fun _ _ => rfl) hS ?_
  simp only [Act.put, List.setIfInBounds_toArray, List.set_cons_zero, List.set_cons_succ]
  refine held_take 7 41 (.agg x.arr) rfl rfl (by kernel_rfl) (by kernel_rfl) (by kernel_rfl) (fun _ _ _ h => h) (by kernel_rfl) (fun _ h => exec_load24 rfl rfl h.2.1) hS ?_
  simp only [Act.put, List.setIfInBounds_toArray, List.set_cons_zero, List.set_cons_succ]
  refine held_take 8 42 (.agg x.arr) rfl rfl (by kernel_rfl) (by kernel_rfl) (by kernel_rfl) (fun _ _ _ h => h) (by kernel_rfl) (fun _ h => exec_load24 rfl rfl h.2.2.1) hS ?_
  simp only [Act.put, List.setIfInBounds_toArray, List.set_cons_zero, List.set_cons_succ]
  refine held_take 9 43 (.bool true) rfl rfl (by kernel_rfl) (by kernel_rfl) (by kernel_rfl) (fun _ _ _ h => h) (by kernel_rfl) (fun _ _ => exec_eql24 rfl rfl rfl (by simp [V.eqB])) hS ?_
  simp only [Act.put, List.setIfInBounds_toArray, List.set_cons_zero, List.set_cons_succ]
  refine held_take 10 44 (.bool true) rfl rfl (by kernel_rfl) (by kernel_rfl) (by kernel_rfl) (fun _ _ _ h => h) (by kernel_rfl) (fun _ _ => rfl) hS ?_
  simp only [Act.put, List.setIfInBounds_toArray, List.set_cons_zero, List.set_cons_succ]
  refine held_take 11 45 (.bool true) rfl rfl (by kernel_rfl) (by kernel_rfl) (by kernel_rfl) (fun _ _ _ h => h) (by kernel_rfl) (fun _ _ => rfl) hS ?_
  simp only [Act.put, List.setIfInBounds_toArray, List.set_cons_zero, List.set_cons_succ]
  refine held_take 12 46 (.int .i64 0) rfl rfl (by kernel_rfl) (by kernel_rfl) (by kernel_rfl) (fun _ _ _ h => h) (by kernel_rfl) (fun _ _ => rfl) hS ?_
  simp only [Act.put, List.setIfInBounds_toArray, List.set_cons_zero, List.set_cons_succ]
  refine held_take 13 47 (.int .i64 0) rfl rfl (by kernel_rfl) (by kernel_rfl) (by kernel_rfl) (fun _ _ _ h => h) (by kernel_rfl) (fun _ _ => rfl) hS ?_
  simp only [Act.put, List.setIfInBounds_toArray, List.set_cons_zero, List.set_cons_succ]
  refine held_take 14 48 (.bool true) rfl rfl (by kernel_rfl) (by kernel_rfl) (by kernel_rfl) (fun _ _ _ h => h) (by kernel_rfl) (fun _ _ => exec_eqlI trivial rfl rfl rfl (by simp)) hS ?_
  simp only [Act.put, List.setIfInBounds_toArray, List.set_cons_zero, List.set_cons_succ]
  refine held_take 15 49 (.bool true) rfl rfl (by kernel_rfl) (by kernel_rfl) (by kernel_rfl) (fun _ _ _ h => h) (by kernel_rfl) (fun _ _ => rfl) hS ?_
  simp only [Act.put, List.setIfInBounds_toArray, List.set_cons_zero, List.set_cons_succ]
  refine held_take 16 50 (.bool true) rfl rfl (by kernel_rfl) (by kernel_rfl) (by kernel_rfl) (fun _ _ _ h => h) (by kernel_rfl) (fun _ _ => rfl) hS ?_
  simp only [Act.put, List.setIfInBounds_toArray, List.set_cons_zero, List.set_cons_succ]
  refine held_take 17 51 (.agg v.arr) rfl rfl (by kernel_rfl) (by kernel_rfl) (by kernel_rfl) (fun _ _ _ h => h) (by kernel_rfl) (fun _ h => exec_load24 rfl rfl h.2.2.2) hS ?_
  simp only [Act.put, List.setIfInBounds_toArray, List.set_cons_zero, List.set_cons_succ]
  refine held_take 18 52 (.agg v.arr) rfl rfl (by kernel_rfl) (by kernel_rfl) (by kernel_rfl) (fun _ _ _ h => h) (by kernel_rfl) (fun _ h => exec_load24 rfl rfl h.1.vec) hS ?_
  simp only [Act.put, List.setIfInBounds_toArray, List.set_cons_zero, List.set_cons_succ]
  refine held_take 19 53 (.bool true) rfl rfl (by kernel_rfl) (by kernel_rfl) (by kernel_rfl) (fun _ _ _ h => h) (by kernel_rfl) (fun _ _ => exec_eql24 rfl rfl rfl (by simp [V.eqB])) hS ?_
  simp only [Act.put, List.setIfInBounds_toArray, List.set_cons_zero, List.set_cons_succ]
  refine held_take 20 54 (.bool true) rfl rfl (by kernel_rfl) (by kernel_rfl) (by kernel_rfl) (fun _ _ _ h => h) (by kernel_rfl) (fun _ _ => rfl) hS ?_
  simp only [Act.put, List.setIfInBounds_toArray, List.set_cons_zero, List.set_cons_succ]
  refine held_take 21 55 (.bool true) rfl rfl (by kernel_rfl) (by kernel_rfl) (by kernel_rfl) (fun _ _ _ h => h) (by kernel_rfl) (fun _ _ => rfl) hS ?_
  simp only [Act.put, List.setIfInBounds_toArray, List.set_cons_zero, List.set_cons_succ]
  refine held_take 22 56 (.int .i64 0) rfl rfl (by kernel_rfl) (by kernel_rfl) (by kernel_rfl) (fun _ _ _ h => h) (by kernel_rfl) (fun _ _ => rfl) hS ?_
  simp only [Act.put, List.setIfInBounds_toArray, List.set_cons_zero, List.set_cons_succ]
  refine held_take 23 57 (.bool true) rfl rfl (by kernel_rfl) (by kernel_rfl) (by kernel_rfl) (fun _ _ _ h => h) (by kernel_rfl) (fun _ _ => exec_eqlI trivial rfl rfl rfl (by simp)) hS ?_
  simp only [Act.put, List.setIfInBounds_toArray, List.set_cons_zero, List.set_cons_succ]
  refine held_take 24 58 (.bool true) rfl rfl (by kernel_rfl) (by kernel_rfl) (by kernel_rfl) (fun _ _ _ h => h) (by kernel_rfl) (fun _ _ => rfl) hS ?_
  simp only [Act.put, List.setIfInBounds_toArray, List.set_cons_zero, List.set_cons_succ]
  refine held_take 25 59 (.bool true) rfl rfl (by kernel_rfl) (by kernel_rfl) (by kernel_rfl) (fun _ _ _ h => h) (by kernel_rfl) (fun _ _ => rfl) hS ?_
  simp only [Act.put, List.setIfInBounds_toArray, List.set_cons_zero, List.set_cons_succ]
  refine held_take 26 60 (.int .i64 0) rfl rfl (by kernel_rfl) (by kernel_rfl) (by kernel_rfl) (fun _ _ _ h => h) (by kernel_rfl) (fun _ _ => rfl) hS ?_
  simp only [Act.put, List.setIfInBounds_toArray, List.set_cons_zero, List.set_cons_succ]
  refine held_take 27 61 (.bool false) rfl rfl (by kernel_rfl) (by kernel_rfl) (by kernel_rfl) (fun _ _ _ h => h) (by kernel_rfl) (fun _ _ => exec_neqI trivial rfl rfl rfl (by simp)) hS ?_
  simp only [Act.put, List.setIfInBounds_toArray, List.set_cons_zero, List.set_cons_succ]
  refine held_take 28 62 (.bool false) rfl rfl (by kernel_rfl) (by kernel_rfl) (by kernel_rfl) (fun _ _ _ h => h) (by kernel_rfl) (fun _ _ => rfl) hS ?_
  simp only [Act.put, List.setIfInBounds_toArray, List.set_cons_zero, List.set_cons_succ]
  refine held_take 29 63 (.agg x.arr) rfl rfl (by kernel_rfl) (by kernel_rfl) (by kernel_rfl) (fun _ _ _ h => h) (by kernel_rfl) (fun _ h => exec_load24 rfl rfl h.2.1) hS ?_
  simp only [Act.put, List.setIfInBounds_toArray, List.set_cons_zero, List.set_cons_succ]
  refine held_take 32 66 (.slice ab nb cb) rfl rfl (by kernel_rfl) (by kernel_rfl) (by kernel_rfl) (fun _ _ _ h => h) (by kernel_rfl) (fun _ _ => rfl) hS ?_
  simp only [Act.put, List.setIfInBounds_toArray, List.set_cons_zero, List.set_cons_succ]
  refine held_take 33 67 (.string (strOf bs)) rfl rfl (by kernel_rfl) (by kernel_rfl) (by kernel_rfl) (fun _ _ _ h => h) (by kernel_rfl) (fun _ h => exec_str rfl rfl (conv_any h.1.rb)) hS ?_
  simp only [Act.put, List.setIfInBounds_toArray, List.set_cons_zero, List.set_cons_succ]
  refine held_callP 30 64 28 #[(.agg x.arr)] rfl (by kernel_rfl) rfl (by kernel_rfl) (by kernel_rfl) (encode_any x _) (fun e w130 hP => ?_)
  obtain ⟨ga30, ca30, rfl, ho30, hb30⟩ := hP
  refine ⟨_, rfl, ⟨hS.1.below hb30, hS.2.1.below hb30, hS.2.2.1.below hb30, hS.2.2.2.below hb30⟩, fun hS => ?_⟩
  simp only [Act.put, List.setIfInBounds_toArray, List.set_cons_zero, List.set_cons_succ]
  refine held_run 31 65 (.string (strOf (V.bytes x))) rfl rfl (by kernel_rfl) (by kernel_rfl) (exec_str rfl rfl (conv_any (ho30.row (V.bytes_lt x)))) hS ?_
  simp only [Act.put, List.setIfInBounds_toArray, List.set_cons_zero, List.set_cons_succ]
  refine held_take 34 68 (.bool true) rfl rfl (by kernel_rfl) (by kernel_rfl) (by kernel_rfl) (fun _ _ _ h => h) (by kernel_rfl) (fun _ _ => exec_eqlS rfl rfl rfl (by rw [HQ.out, beq_self_eq_true])) hS ?_
  simp only [Act.put, List.setIfInBounds_toArray, List.set_cons_zero, List.set_cons_succ]
  refine held_take 35 69 (.bool true) rfl rfl (by kernel_rfl) (by kernel_rfl) (by kernel_rfl) (fun _ _ _ h => h) (by kernel_rfl) (fun _ _ => rfl) hS ?_
  simp only [Act.put, List.setIfInBounds_toArray, List.set_cons_zero, List.set_cons_succ]
  refine held_take 36 70 (.bool true) rfl rfl (by kernel_rfl) (by kernel_rfl) (by kernel_rfl) (fun _ _ _ h => h) (by kernel_rfl) (fun _ _ => rfl) hS ?_
  simp only [Act.put, List.setIfInBounds_toArray, List.set_cons_zero, List.set_cons_succ]
  refine held_take 37 4 (.bool true) rfl rfl (by kernel_rfl) (by kernel_rfl) (by kernel_rfl) (fun _ _ _ h => h) (by kernel_rfl) (fun _ _ => rfl) hS ?_
  simp only [Act.put, List.setIfInBounds_toArray, List.set_cons_zero, List.set_cons_succ]
  refine wpAnyH_done (by kernel_rfl) ?_ _
  go_wp2_with fail
  go_ret
  exact ⟨rfl, hS.1.old⟩

set_option maxHeartbeats 4000000 in
set_option maxRecDepth 100000 in
theorem core5 (v x z : V) (ab : Option Addr) (nb cb : Nat) (bs : List Nat) (w : World) (hl : nb ≤ 500) (HZ : Hid (V.zero = z)) (HR : Hid (Row w ab nb bs))
    (HD : Hid (∀ W : World, Row W ab nb bs → Calls Try.prog 29 #[.slice ab nb cb] W (Says (.tuple #[.agg x.arr, .int .i64 5]) W)))
    (HM : Hid (∀ W : World, Row W ab nb bs → Calls Try.prog 30 #[.slice ab nb cb] W (Says (.tuple #[.agg x.arr, .int .i64 5]) W)))
    (HC : Hid (∀ (W : World) (g : Option Addr) (c : Nat), Row W g (V.bytes v).length (V.bytes v) → (g = none → (V.bytes v).length = 0 ∧ c = 0) → Calls Try.prog 29 #[.slice g (V.bytes v).length c] W (Says (.tuple #[.agg v.arr, .int .i64 0]) W))) :
    Calls Try.prog 6 #[.agg v.arr, .slice ab nb cb] w (Says (.bool true) w) := by
  have hb1 := fun (v : V) (w : World) => box24 v w
  have hl' : (nb : Int) ≤ 500 := by omega
  have HB := Lib.hid (below_one w (.cells v.arr 24))
  have HV := Lib.hid (Blk.new w 24 v.arr)
  go_enter Try.func6, Try.ntmps6
  go_wp2_with fail
  clear hb1
  generalize w.alloc (.cells v.arr 24) = W at HB HV
  refine (alive_any _).mono ?_
  rintro e w1 ⟨rfl, hb⟩
  have HV1 := Lib.hid (HV.out.below hb)
  have HB1 := Lib.hid (HB.out.trans (hb.mono HB.out.size))
  clear hb HV HB
  go_wp2_with (refine wpList_load24w (by kernel_rfl) rfl rfl HV1.out ?_)
  refine (encode_any v _).mono ?_
  rintro e w2 ⟨ga, ca, rfl, ho, hb⟩
  have HG := Lib.hid ho.cap.2.2
  have HS : Hid (Bst w w2 v ab nb bs ga) := Lib.hid ⟨HV1.out.below hb, HR.out.below (HB1.out.trans (hb.mono HB1.out.size)), ho.row (V.bytes_lt v), HB1.out.trans (hb.mono HB1.out.size)⟩
  clear ho hb HV1 HB1
  go_wp2_with fail
  refine (HD.out _ HS.out.rb).mono ?_
  rintro e w3 ⟨rfl, hb⟩
  replace HS := Lib.hid (HS.out.below hb)
  clear hb
  go_wp2_with (first | (refine wpList_load24w (by kernel_rfl) rfl rfl HS.out.vec ?_) | (refine wpList_alloc24 HZ.out rfl rfl ?_) | (refine wpList_stop rfl ?_))
  refine ⟨?_⟩
  refine wpList_store24 rfl rfl rfl rfl (Blk.new w3 24 z.arr) ?_
  have HX := Lib.hid (laid_blk w3 z x)
  have HS4 := Lib.hid (HS.out.below (laid_old w3 z x))
  generalize (w3.alloc (.cells z.arr 24)).setRow w3.heap.size x.arr = w4 at HX HS4
  generalize w3.heap.size = gx at HX
  clear HS
  have HS := HS4
  clear HS4
  go_wp2_with fail
  refine (HM.out _ HS.out.rb).mono ?_
  rintro e w5 ⟨rfl, hb⟩
  replace HS := Lib.hid (HS.out.below hb)
  replace HX := Lib.hid (HX.out.below hb)
  clear hb
  go_wp2_with (first | (refine wpList_load24w (by kernel_rfl) rfl rfl HS.out.vec ?_) | (refine wpList_alloc24 HZ.out rfl rfl ?_) | (refine wpList_stop rfl ?_))
  refine ⟨?_⟩
  refine wpList_store24 rfl rfl rfl rfl (Blk.new w5 24 z.arr) ?_
  have HY := Lib.hid (laid_blk w5 z x)
  have HS6 := Lib.hid (HS.out.below (laid_old w5 z x))
  have HX6 := Lib.hid (HX.out.below (laid_old w5 z x))
  generalize (w5.alloc (.cells z.arr 24)).setRow w5.heap.size x.arr = w6 at HY HS6 HX6
  generalize w5.heap.size = gy at HY
  clear HS HX
  have HS := HS6
  have HX := HX6
  clear HS6 HX6
  go_wp2_with fail
  refine (HC.out _ ga ca HS.out.rc HG.out).mono ?_
  rintro e w7 ⟨rfl, hb⟩
  replace HS := Lib.hid (HS.out.below hb)
  replace HX := Lib.hid (HX.out.below hb)
  replace HY := Lib.hid (HY.out.below hb)
  clear hb
  go_wp2_with (first | (refine wpList_load24w (by kernel_rfl) rfl rfl HS.out.vec ?_) | (refine wpList_alloc24 HZ.out rfl rfl ?_) | (refine wpList_stop rfl ?_))
  refine ⟨?_⟩
  refine wpList_store24 rfl rfl rfl rfl (Blk.new w7 24 z.arr) ?_
  have HW := Lib.hid (laid_blk w7 z v)
  have HS8 := Lib.hid (HS.out.below (laid_old w7 z v))
  have HX8 := Lib.hid (HX.out.below (laid_old w7 z v))
  have HY8 := Lib.hid (HY.out.below (laid_old w7 z v))
  generalize (w7.alloc (.cells z.arr 24)).setRow w7.heap.size v.arr = w8 at HW HS8 HX8 HY8
  generalize w7.heap.size = gw at HW
  clear HS HX HY
  go_wp2_with fail
  refine wp_region_held_drew (S := fun w' => Bst w w' v ab nb bs ga ∧ Blk w' gx 24 x.arr ∧ Blk w' gy 24 x.arr ∧ Blk w' gw 24 v.arr) (by kernel_rfl) ⟨HS8.out.below (Below.refl _ _).drew, HX8.out, HY8.out, HW.out⟩ (fun hS => ?_)
  refine held_take 0 34 (.slice ga (V.bytes v).length ca) rfl rfl (by kernel_rfl) (by kernel_rfl) (by kernel_rfl) (fun _ _ _ h => h) (by kernel_rfl) (fun _ _ => rfl) hS ?_
  simp only [Act.put, List.setIfInBounds_toArray, List.set_cons_zero, List.set_cons_succ]
  refine held_take 1 35 (.string (strOf (V.bytes v))) rfl rfl (by kernel_rfl) (by kernel_rfl) (by kernel_rfl) (fun _ _ _ h => h) (by kernel_rfl) (fun _ h => exec_str rfl rfl (conv_any h.1.rc)) hS ?_
  simp only [Act.put, List.setIfInBounds_toArray, List.set_cons_zero, List.set_cons_succ]
  refine held_take 2 36 (.agg v.arr) rfl rfl (by kernel_rfl) (by kernel_rfl) (by kernel_rfl) (fun _ _ _ h => h) (by kernel_rfl) (fun _ h => exec_load24 rfl rfl h.1.vec) hS ?_
  simp only [Act.put, List.setIfInBounds_toArray, List.set_cons_zero, List.set_cons_succ]
  refine held_callP 3 37 31 #[(.agg v.arr)] rfl (by kernel_rfl) rfl (by kernel_rfl) (by kernel_rfl) (rencode_any v _) (fun e w103 hP => ?_)
  obtain ⟨ga3, ca3, rfl, ho3, hb3⟩ := hP
  refine ⟨_, rfl, ⟨hS.1.below hb3, hS.2.1.below hb3, hS.2.2.1.below hb3, hS.2.2.2.below hb3⟩, fun hS => ?_⟩
  simp only [Act.put, List.setIfInBounds_toArray, List.set_cons_zero, List.set_cons_succ]
  refine held_run 4 38 (.string (strOf (V.bytes v))) rfl rfl (by kernel_rfl) (by kernel_rfl) (exec_str rfl rfl (conv_any (ho3.row (V.bytes_lt v)))) hS ?_
  simp only [Act.put, List.setIfInBounds_toArray, List.set_cons_zero, List.set_cons_succ]
  refine held_take 5 39 (.bool true) rfl rfl (by kernel_rfl) (by kernel_rfl) (by kernel_rfl) (fun _ _ _ h => h) (by kernel_rfl) (fun _ _ => exec_eqlS rfl rfl rfl (by simp)) hS ?_
  simp only [Act.put, List.setIfInBounds_toArray, List.set_cons_zero, List.set_cons_succ]
  refine held_take 6 40 (.bool true) rfl rfl (by kernel_rfl) (by kernel_rfl) (by kernel_rfl) (fun _ _ _ h => h) (by kernel_rfl) (fun _ _ => rfl) hS ?_
  simp only [Act.put, List.setIfInBounds_toArray, List.set_cons_zero, List.set_cons_succ]
  refine held_take 7 41 (.agg x.arr) rfl rfl (by kernel_rfl) (by kernel_rfl) (by kernel_rfl) (fun _ _ _ h => h) (by kernel_rfl) (fun _ h => exec_load24 rfl rfl h.2.1) hS ?_
  simp only [Act.put, List.setIfInBounds_toArray, List.set_cons_zero, List.set_cons_succ]
  refine held_take 8 42 (.agg x.arr) rfl rfl (by kernel_rfl) (by kernel_rfl) (by kernel_rfl) (fun _ _ _ h => h) (by kernel_rfl) (fun _ h => exec_load24 rfl rfl h.2.2.1) hS ?_
  simp only [Act.put, List.setIfInBounds_toArray, List.set_cons_zero, List.set_cons_succ]
  refine held_take 9 43 (.bool true) rfl rfl (by kernel_rfl) (by kernel_rfl) (by kernel_rfl) (fun _ _ _ h => h) (by kernel_rfl) (fun _ _ => exec_eql24 rfl rfl rfl (by simp [V.eqB])) hS ?_
  simp only [Act.put, List.setIfInBounds_toArray, List.set_cons_zero, List.set_cons_succ]
  refine held_take 10 44 (.bool true) rfl rfl (by kernel_rfl) (by kernel_rfl) (by kernel_rfl) (fun _ _ _ h => h) (by kernel_rfl) (fun _ _ => rfl) hS ?_
  simp only [Act.put, List.setIfInBounds_toArray, List.set_cons_zero, List.set_cons_succ]
  refine held_take 11 45 (.bool true) rfl rfl (by kernel_rfl) (by kernel_rfl) (by kernel_rfl) (fun _ _ _ h => h) (by kernel_rfl) (fun _ _ => rfl) hS ?_
  simp only [Act.put, List.setIfInBounds_toArray, List.set_cons_zero, List.set_cons_succ]
  refine held_take 12 46 (.int .i64 5) rfl rfl (by kernel_rfl) (by kernel_rfl) (by kernel_rfl) (fun _ _ _ h => h) (by kernel_rfl) (fun _ _ => rfl) hS ?_
  simp only [Act.put, List.setIfInBounds_toArray, List.set_cons_zero, List.set_cons_succ]
  refine held_take 13 47 (.int .i64 5) rfl rfl (by kernel_rfl) (by kernel_rfl) (by kernel_rfl) (fun _ _ _ h => h) (by kernel_rfl) (fun _ _ => rfl) hS ?_
  simp only [Act.put, List.setIfInBounds_toArray, List.set_cons_zero, List.set_cons_succ]
  refine held_take 14 48 (.bool true) rfl rfl (by kernel_rfl) (by kernel_rfl) (by kernel_rfl) (fun _ _ _ h => h) (by kernel_rfl) (fun _ _ => exec_eqlI trivial rfl rfl rfl (by simp)) hS ?_
  simp only [Act.put, List.setIfInBounds_toArray, List.set_cons_zero, List.set_cons_succ]
  refine held_take 15 49 (.bool true) rfl rfl (by kernel_rfl) (by kernel_rfl) (by kernel_rfl) (fun _ _ _ h => h) (by kernel_rfl) (fun _ _ => rfl) hS ?_
  simp only [Act.put, List.setIfInBounds_toArray, List.set_cons_zero, List.set_cons_succ]
  refine held_take 16 50 (.bool true) rfl rfl (by kernel_rfl) (by kernel_rfl) (by kernel_rfl) (fun _ _ _ h => h) (by kernel_rfl) (fun _ _ => rfl) hS ?_
  simp only [Act.put, List.setIfInBounds_toArray, List.set_cons_zero, List.set_cons_succ]
  refine held_take 17 51 (.agg v.arr) rfl rfl (by kernel_rfl) (by kernel_rfl) (by kernel_rfl) (fun _ _ _ h => h) (by kernel_rfl) (fun _ h => exec_load24 rfl rfl h.2.2.2) hS ?_
  simp only [Act.put, List.setIfInBounds_toArray, List.set_cons_zero, List.set_cons_succ]
  refine held_take 18 52 (.agg v.arr) rfl rfl (by kernel_rfl) (by kernel_rfl) (by kernel_rfl) (fun _ _ _ h => h) (by kernel_rfl) (fun _ h => exec_load24 rfl rfl h.1.vec) hS ?_
  simp only [Act.put, List.setIfInBounds_toArray, List.set_cons_zero, List.set_cons_succ]
  refine held_take 19 53 (.bool true) rfl rfl (by kernel_rfl) (by kernel_rfl) (by kernel_rfl) (fun _ _ _ h => h) (by kernel_rfl) (fun _ _ => exec_eql24 rfl rfl rfl (by simp [V.eqB])) hS ?_
  simp only [Act.put, List.setIfInBounds_toArray, List.set_cons_zero, List.set_cons_succ]
  refine held_take 20 54 (.bool true) rfl rfl (by kernel_rfl) (by kernel_rfl) (by kernel_rfl) (fun _ _ _ h => h) (by kernel_rfl) (fun _ _ => rfl) hS ?_
  simp only [Act.put, List.setIfInBounds_toArray, List.set_cons_zero, List.set_cons_succ]
  refine held_take 21 55 (.bool true) rfl rfl (by kernel_rfl) (by kernel_rfl) (by kernel_rfl) (fun _ _ _ h => h) (by kernel_rfl) (fun _ _ => rfl) hS ?_
  simp only [Act.put, List.setIfInBounds_toArray, List.set_cons_zero, List.set_cons_succ]
  refine held_take 22 56 (.int .i64 0) rfl rfl (by kernel_rfl) (by kernel_rfl) (by kernel_rfl) (fun _ _ _ h => h) (by kernel_rfl) (fun _ _ => rfl) hS ?_
  simp only [Act.put, List.setIfInBounds_toArray, List.set_cons_zero, List.set_cons_succ]
  refine held_take 23 57 (.bool true) rfl rfl (by kernel_rfl) (by kernel_rfl) (by kernel_rfl) (fun _ _ _ h => h) (by kernel_rfl) (fun _ _ => exec_eqlI trivial rfl rfl rfl (by simp)) hS ?_
  simp only [Act.put, List.setIfInBounds_toArray, List.set_cons_zero, List.set_cons_succ]
  refine held_take 24 58 (.bool true) rfl rfl (by kernel_rfl) (by kernel_rfl) (by kernel_rfl) (fun _ _ _ h => h) (by kernel_rfl) (fun _ _ => rfl) hS ?_
  simp only [Act.put, List.setIfInBounds_toArray, List.set_cons_zero, List.set_cons_succ]
  refine held_take 25 59 (.bool true) rfl rfl (by kernel_rfl) (by kernel_rfl) (by kernel_rfl) (fun _ _ _ h => h) (by kernel_rfl) (fun _ _ => rfl) hS ?_
  simp only [Act.put, List.setIfInBounds_toArray, List.set_cons_zero, List.set_cons_succ]
  refine held_take 26 60 (.int .i64 5) rfl rfl (by kernel_rfl) (by kernel_rfl) (by kernel_rfl) (fun _ _ _ h => h) (by kernel_rfl) (fun _ _ => rfl) hS ?_
  simp only [Act.put, List.setIfInBounds_toArray, List.set_cons_zero, List.set_cons_succ]
  refine held_take 27 61 (.bool true) rfl rfl (by kernel_rfl) (by kernel_rfl) (by kernel_rfl) (fun _ _ _ h => h) (by kernel_rfl) (fun _ _ => exec_neqI trivial rfl rfl rfl (by simp)) hS ?_
  simp only [Act.put, List.setIfInBounds_toArray, List.set_cons_zero, List.set_cons_succ]
  refine held_take 28 62 (.bool true) rfl rfl (by kernel_rfl) (by kernel_rfl) (by kernel_rfl) (fun _ _ _ h => h) (by kernel_rfl) (fun _ _ => rfl) hS ?_
  simp only [Act.put, List.setIfInBounds_toArray, List.set_cons_zero, List.set_cons_succ]
  refine held_skip 29 63 rfl rfl (by kernel_rfl) (by kernel_rfl) (by kernel_rfl) (fun _ _ _ h => h) (by kernel_rfl) hS ?_
  simp only [Act.put, List.setIfInBounds_toArray, List.set_cons_zero, List.set_cons_succ]
  refine held_skip 30 64 rfl rfl (by kernel_rfl) (by kernel_rfl) (by kernel_rfl) (fun _ _ _ h => h) (by kernel_rfl) hS ?_
  simp only [Act.put, List.setIfInBounds_toArray, List.set_cons_zero, List.set_cons_succ]
  refine held_skip 31 65 rfl rfl (by kernel_rfl) (by kernel_rfl) (by kernel_rfl) (fun _ _ _ h => h) (by kernel_rfl) hS ?_
  simp only [Act.put, List.setIfInBounds_toArray, List.set_cons_zero, List.set_cons_succ]
  refine held_skip 32 66 rfl rfl (by kernel_rfl) (by kernel_rfl) (by kernel_rfl) (fun _ _ _ h => h) (by kernel_rfl) hS ?_
  simp only [Act.put, List.setIfInBounds_toArray, List.set_cons_zero, List.set_cons_succ]
  refine held_skip 33 67 rfl rfl (by kernel_rfl) (by kernel_rfl) (by kernel_rfl) (fun _ _ _ h => h) (by kernel_rfl) hS ?_
  simp only [Act.put, List.setIfInBounds_toArray, List.set_cons_zero, List.set_cons_succ]
  refine held_skip 34 68 rfl rfl (by kernel_rfl) (by kernel_rfl) (by kernel_rfl) (fun _ _ _ h => h) (by kernel_rfl) hS ?_
  simp only [Act.put, List.setIfInBounds_toArray, List.set_cons_zero, List.set_cons_succ]
  refine held_take 35 69 (.bool true) rfl rfl (by kernel_rfl) (by kernel_rfl) (by kernel_rfl) (fun _ _ _ h => h) (by kernel_rfl) (fun _ _ => rfl) hS ?_
  simp only [Act.put, List.setIfInBounds_toArray, List.set_cons_zero, List.set_cons_succ]
  refine held_take 36 70 (.bool true) rfl rfl (by kernel_rfl) (by kernel_rfl) (by kernel_rfl) (fun _ _ _ h => h) (by kernel_rfl) (fun _ _ => rfl) hS ?_
  simp only [Act.put, List.setIfInBounds_toArray, List.set_cons_zero, List.set_cons_succ]
  refine held_take 37 4 (.bool true) rfl rfl (by kernel_rfl) (by kernel_rfl) (by kernel_rfl) (fun _ _ _ h => h) (by kernel_rfl) (fun _ _ => rfl) hS ?_
  simp only [Act.put, List.setIfInBounds_toArray, List.set_cons_zero, List.set_cons_succ]
  refine wpAnyH_done (by kernel_rfl) ?_ _
  go_wp2_with fail
  go_ret
  exact ⟨rfl, hS.1.old⟩

theorem walk (v : V) (ab : Option Addr) (nb cb : Nat) (bs : List Nat) (w : World) (hl : nb ≤ maxLen) (hR : Row w ab nb bs) (hz : (ab = none ∧ nb = 0 ∧ cb = 0) ∨ ∃ x, ab = some x ∧ nb ≤ cb ∧ cb ≤ maxLen) : Calls Try.prog 6 #[.agg v.arr, .slice ab nb cb] w (Says (.bool true) w) := by
  by_cases hn : nb ≤ 500
  · have hnil : ab = none → nb = 0 ∧ cb = 0 := fun h => by
      rcases hz with ⟨_, h1, h2⟩ | ⟨x, hx, _⟩
      · exact ⟨h1, h2⟩
      · rw [hx] at h; cases h
    have hle : nb ≤ cb := by
      rcases hz with ⟨_, h1, h2⟩ | ⟨x, _, h1, _⟩
      · omega
      · exact h1
    have hD := fun (W : World) (h : Row W ab nb bs) => decode_any ab nb cb bs W (by omega) h hnil
    have hM := fun (W : World) (h : Row W ab nb bs) => rdecode_any ab nb cb bs W (by omega) h hle hnil
    have hC := fun (W : World) (g : Option Addr) (c : Nat) (h : Row W g (V.bytes v).length (V.bytes v)) (h2 : g = none → (V.bytes v).length = 0 ∧ c = 0) => decode_any g (V.bytes v).length c (V.bytes v) W (by have := V.bytes_le v; omega) h h2
    obtain ⟨e1, e2⟩ := dec_yes (rfl : V.bytes v = V.bytes v)
    rw [e1, e2] at hC
    by_cases hex : ∃ u, V.bytes u = bs
    · obtain ⟨u, hu⟩ := hex
      obtain ⟨f1, f2⟩ := dec_yes hu
      rw [f1, f2] at hD hM
      exact core0 v u V.zero ab nb cb bs w hn (Lib.hid rfl) (Lib.hid hR) (Lib.hid hD) (Lib.hid hM) (Lib.hid hC) (Lib.hid hu)
    · obtain ⟨f1, f2⟩ := dec_no (bs := bs) (fun u hu => hex ⟨u, hu⟩)
      rw [f1, f2] at hD hM
      exact core5 v V.zero V.zero ab nb cb bs w hn (Lib.hid rfl) (Lib.hid hR) (Lib.hid hD) (Lib.hid hM) (Lib.hid hC)
  · exact long v ab nb cb w hl (by omega)

set_option maxRecDepth 100000 in
theorem lifted (os : Os) (started : os.Started) (H : Type) (enc : TypeId × Value → H) :
    ReturnsInHanded {} Try.checked os 6 .any (Rows.vecBytesSpec.pre6 enc Try.prog Try.f6 Rows.vecBytesRow.domain false) (Rows.vecBytesSpec.post enc Try.prog Try.f6 false true false false) := by
  refine returnsInHanded_of_change (C := Try.checked) own started (by kernel_rfl) Try.func6
    (ChangeSpec.witness6 (enc := enc) (C := Try.checked) false ⟨#[], #[.agg #[.int .u32 0, .int .u32 0, .int .u32 0, .int .u32 0, .int .u32 0, .int .u32 0, .int .u32 0, .int .u32 0, .int .u32 0, .int .u32 0, .int .u32 0, .int .u32 0, .int .u32 0, .int .u32 0, .int .u32 0, .int .u32 0], .slice none 0 0], []⟩ 8 (by kernel_rfl) (by kernel_rfl) (by kernel_rfl) (by kernel_rfl)) ?_
  intro W base args ds gs before hval0 hW hcnd _
  have hval : ∀ (j : Nat) t v, Try.f6.params[j]? = some t → args[j]? = some v → Value.okWide Try.prog W .any base t v := hval0
  have hW' := hW
  obtain ⟨p, q, hA0, hV, rfl, hfz, hnd⟩ := hW
  have hA : DataW.TrodAll enc Try.prog W 0 (fun _ => true) true Try.f6.params.toList args.toList ds p := hA0
  rw [Try.params6] at hA hval
  obtain ⟨v0, v1, d0, d1, p0, p1, rfl, rfl, rfl, h0, h1⟩ := trodAll_two hA
  obtain ⟨rfl, rfl⟩ := trodVars_none hV
  have lt0 : ∀ x ∈ p0, x.block < W.heap.size := by obtain ⟨m, hm⟩ := h0; exact DataW.trod_lt m _ _ _ hm
  obtain ⟨a0, rfl⟩ := vec_of (hval 0 24 v0 rfl rfl) h0
  have lt1 : ∀ x ∈ p1, x.block < W.heap.size := by obtain ⟨m, hm⟩ := h1; exact DataW.trod_lt m _ _ _ hm
  obtain ⟨ab, nb, cb, rfl⟩ := okWide_slice Try.underlying41 (hval 1 41 v1 rfl rfl)
  obtain ⟨hl1, hz1, bs, hR1⟩ := row_of h1
  clear hA0 hval0
  refine (walk a0 ab nb cb bs W hl1 hR1 hz1).mono fun e W' ⟨he, bel⟩ => ?_
  subst he
  exact ⟨_, rfl, _, _, _, [], _, [], hW', trodAll_mk1 (shut_bool Try.underlying4 _), trodAll_mk2 (Below.trod laidOut (by kernel_rfl) (of_decide_eq_true (by kernel_rfl)) h0 bel lt0) (Below.trod laidOut (by kernel_rfl) (of_decide_eq_true (by kernel_rfl)) h1 bel lt1), rfl, bel.frame _, fun h => by cases h⟩
end VecBytes

theorem vecBytes_proved : Rows.VecBytesSaid :=
  OpenClaim.holds_of_wide 6 Try.f6 rfl rfl rfl rfl rfl rfl rfl ⟨rfl, rfl, rfl, rfl, rfl⟩ rfl rfl rfl rfl rfl (by kernel_rfl) Try.func6 (by kernel_rfl)
    (of_decide_eq_true (by kernel_rfl)) (by unfold Func.isWrapper; first | (rw [if_pos (by decide +kernel)]; kernel_rfl) | (rw [if_neg (by decide +kernel)]; exact ⟨rfl, rfl⟩))
    (fun os started H enc _ => VecBytes.lifted os started H enc)
#print axioms vecBytes_proved
end Go.Proofs.Ytdkdcjmkhldmlaa
