/- Walks of the document's Head, Record and Foot. -/
import Derived.Test.YtfnaccmgmocolaaDoorAl
import Derived.Test.YtfnaccmgmocolaaDoorRf
namespace Go.Proofs.YtfnaccmgmocolaaDoor
open Go.RowKit

set_option maxHeartbeats 1000000 in
theorem pair_any (k n : Nat) (w : World) (hk : k < 18446744073709551616) (hn : n < 18446744073709551616) : Calls Tryd.prog 30 #[.int .u64 (k : Int), .int .u64 (n : Int)] w (Fresh (Seg.pairB k n) w) := by
  have HP := Lib.hid (rput_any k w hk)
  have HQ := Lib.hid (fun W => rput_any n W hn)
  have hL := Vint.enc_ten hk
  have hM := Vint.enc_ten hn
  have HX := Lib.hid (Vint.enc_lt k)
  have HY := Lib.hid (Vint.enc_lt n)
  unfold Seg.pairB
  generalize Vint.enc k = l at HP hL HX
  generalize Vint.enc n = m at HQ hM HY
  go_enter Tryd.func30, Tryd.ntmps30
  go_wp2_with fail
  refine HP.out.mono ?_
  rintro e w1 ⟨g, c1, rfl, ho, hb⟩
  have HR1 := Lib.hid (Own.row (B := w.heap.size) (cap := c1) ho HX.out)
  have HB1 := Lib.hid hb
  clear ho hb HP
  go_wp2_with fail
  refine (HQ.out w1).mono ?_
  rintro e w2 ⟨g2, c2, rfl, ho, hb⟩
  have HB2 := Lib.hid (HB1.out.trans (hb.mono HB1.out.size))
  have HJ := Lib.hid (jn_any (some ⟨g, 0, none⟩) (some ⟨g2, 0, none⟩) l.length m.length c1 c2 l m w2 (by omega) (HR1.out.below hb) (fun h => by cases h) (Own.row (B := w1.heap.size) (cap := c2) ho HY.out) (fun h => by cases h))
  clear ho hb HQ HB1 HR1
  go_wp2_with fail
  refine HJ.out.mono ?_
  rintro e w3 ⟨a3, c3, rfl, ho3, hb3⟩
  have HO3 := Lib.hid (ho3.mono HB2.out.size)
  have HB3 := Lib.hid (HB2.out.trans (hb3.mono HB2.out.size))
  clear ho3 hb3
  go_wp2_with fail
  go_ret
  exact ⟨a3, c3, by rw [List.length_append]; rfl, HO3.out, HB3.out⟩

set_option maxHeartbeats 1000000 in
theorem rhead_any (id : Nat) (w : World) (hid : id < 4294967296) : Calls Tryd.prog 15 #[.int .u32 (id : Int)] w (Fresh (Seg.headB id) w) := by
  have HP : Hid (Calls Tryd.prog 30 #[.int .u64 1, .int .u64 (id : Int)] w (Fresh (Seg.pairB 1 id) w)) := Lib.hid (pair_any 1 id w (by omega) (by omega))
  have hle := Seg.pair_le (k := 1) (n := id) (by omega) (by omega)
  have HS := Lib.hid (Seg.pair_lt 1 id)
  have hcv : IntKind.u64.wrap (id : Int) = (id : Int) := by rw [IntKind.wrap_u64]; omega
  unfold Seg.headB
  generalize Seg.pairB 1 id = l at HP hle HS
  go_enter Tryd.func15, Tryd.ntmps15
  go_wp2_with fail
  refine HP.out.mono ?_
  rintro e w1 ⟨a1, c1, rfl, ho, hb⟩
  have HW := Lib.hid (rwrap_any a1 l.length c1 l w1 (ho.row HS.out) ho.cap.2.2 (by omega))
  have HB := Lib.hid hb
  clear ho hb HP
  go_wp2_with fail
  refine HW.out.mono ?_
  rintro e w2 ⟨a2, c2, rfl, ho2, hb2⟩
  have HO2 := Lib.hid (ho2.mono HB.out.size)
  have HB2 := Lib.hid (HB.out.trans (hb2.mono HB.out.size))
  clear ho2 hb2 HW
  go_wp2_with fail
  go_ret
  exact ⟨a2, c2, rfl, HO2.out, HB2.out⟩

set_option maxHeartbeats 1000000 in
theorem rfoot_any (n : Int) (w : World) (h0 : -9223372036854775808 ≤ n) (h1 : n ≤ 9223372036854775807) : Calls Tryd.prog 13 #[.int .i64 n] w (FootP n w) := by
  by_cases h : n < 0 ∨ 4096 < n
  · have HH := Lib.hid h
    by_cases hz : n < 0
    · clear h
      go_enter Tryd.func13, Tryd.ntmps13
      go_wp2_with fail
      go_ret2
      exact footP_no HH.out (Below.refl _ _)
    · have hz2 : 4096 < n := h.resolve_left hz
      clear h
      go_enter Tryd.func13, Tryd.ntmps13
      go_wp2_with fail
      go_ret2
      exact footP_no HH.out (Below.refl _ _)
  · obtain ⟨k, rfl⟩ := Int.eq_ofNat_of_zero_le (show 0 ≤ n by omega)
    have HP : Hid (Calls Tryd.prog 30 #[.int .u64 3, .int .u64 (k : Int)] w (Fresh (Seg.pairB 3 k) w)) := Lib.hid (pair_any 3 k w (by omega) (by omega))
    have hle := Seg.pair_le (k := 3) (n := k) (by omega) (by omega)
    have HS := Lib.hid (Seg.pair_lt 3 k)
    have hcv : IntKind.u64.wrap (k : Int) = (k : Int) := by rw [IntKind.wrap_u64]; omega
    have HF : Hid (∀ w' a len cap, Own w' w.heap.size a len cap (Frm.fr (Seg.pairB 3 k)) → Below w.heap.size w w' → FootP (k : Int) w (.returned (.tuple #[.slice a len cap, .int .i64 0])) w') := Lib.hid (fun w' a len cap ho hb => ⟨a, len, cap, by rw [if_neg h], by rw [if_neg h]; exact ho, hb⟩)
    generalize Seg.pairB 3 k = l at HP hle HS HF
    have hk0 : 0 ≤ (k : Int) := by omega
    have hk1 : (k : Int) ≤ 4096 := by omega
    clear h
    go_enter Tryd.func13, Tryd.ntmps13
    go_wp2_with fail
    refine HP.out.mono ?_
    rintro e w1 ⟨a1, c1, rfl, ho, hb⟩
    have HW := Lib.hid (rwrap_any a1 l.length c1 l w1 (ho.row HS.out) ho.cap.2.2 (by omega))
    have HB := Lib.hid hb
    clear ho hb HP
    go_wp2_with fail
    refine HW.out.mono ?_
    rintro e w2 ⟨a2, c2, rfl, ho2, hb2⟩
    have HO2 := Lib.hid (ho2.mono HB.out.size)
    have HB2 := Lib.hid (HB.out.trans (hb2.mono HB.out.size))
    clear ho2 hb2 HW
    go_wp2_with fail
    go_ret2
    exact HF.out _ _ _ _ HO2.out HB2.out

/-- What the document's record answers. -/
def RrecP (o : O) (w : World) (e : Ending) (w' : World) : Prop :=
  ∃ a len cap, e = .returned (.tuple #[.slice a len cap, .bool (o.rightB 16)]) ∧ Own w' w.heap.size a len cap (if o.rightB 16 = true then Seg.recB o else []) ∧ Below w.heap.size w w'

set_option maxHeartbeats 1000000 in
set_option maxRecDepth 100000 in
theorem rrec_any (o : O) (w : World) : Calls Tryd.prog 26 #[.agg o.arr] w (RrecP o w) := by
  have bx := box29 o w
  have HAL : Hid (Below w.heap.size w (w.alloc (.cells o.arr 29))) := Lib.hid ((Below.refl _ _).alloc (Nat.le_refl _) _)
  have HO := Lib.hid (Blk.new w 29 o.arr)
  have HE := Lib.hid (rencode_op o (w.alloc (.cells o.arr 29)))
  go_enter Tryd.func26, Tryd.ntmps26
  go_wp2_with (refine wpList_run rfl (exec_load29 (p := o) rfl rfl HO.out) ?_)
  clear bx
  generalize w.alloc (.cells o.arr 29) = W at HO HAL HE
  refine HE.out.mono ?_
  rintro e w1 ⟨a1, cap1, rfl, ho1, hb1⟩
  cases hr : o.rightB 16
  · have HF : Hid (∀ w', Below w.heap.size w w' → RrecP o w (.returned (.tuple #[.slice none 0 0, .bool false])) w') := Lib.hid (fun w' hb => ⟨none, 0, 0, by rw [hr], by rw [hr]; exact own_nil _ _, hb⟩)
    obtain ⟨e1, e2⟩ := enc_no hr
    rw [e1, e2]
    have HB1 := Lib.hid (HAL.out.trans (hb1.mono HAL.out.size))
    clear ho1 hb1 hr e1 e2 HE HAL
    go_wp2_with fail
    go_ret2
    exact HF.out _ HB1.out
  · have HF : Hid (∀ w' a len cap, Own w' w.heap.size a len cap (Seg.recB o) → Below w.heap.size w w' → RrecP o w (.returned (.tuple #[.slice a len cap, .bool true])) w') := Lib.hid (fun w' a len cap ho hb => ⟨a, len, cap, by rw [hr], by rw [hr]; exact ho, hb⟩)
    obtain ⟨e1, e2⟩ := enc_yes hr
    rw [e1] at ho1
    rw [e1, e2]
    have HB1 := Lib.hid (HAL.out.trans (hb1.mono HAL.out.size))
    have hle := o.bytes_le
    have HOS := Lib.hid o.bytes_lt
    have HRW := Lib.hid (ho1.row o.bytes_lt)
    have HNIL := Lib.hid ho1.cap.2.2
    have HP : Hid (Calls Tryd.prog 48 #[.int .u64 2] w1 (Made (Vint.enc 2) w1)) := Lib.hid (rput_any 2 w1 (by omega))
    have h2 := Vint.enc_ten (n := 2) (by omega)
    have h3 := Vint.enc_ten (n := o.bytes.length) (by omega)
    have HX := Lib.hid (Vint.enc_lt 2)
    have HFL := Lib.hid (fun W (hb : Below w1.heap.size w1 W) => fld_any a1 o.bytes.length cap1 o.bytes W (by omega) (HRW.out.below hb) HNIL.out)
    have HFS : Hid (∀ c ∈ Vint.enc o.bytes.length ++ o.bytes, c < 256) := Lib.hid (rec_room o).2
    have hFL : (Vint.enc o.bytes.length ++ o.bytes).length ≤ 1000 := (rec_room o).1
    unfold Seg.recB at HF
    generalize Vint.enc o.bytes.length ++ o.bytes = m at HFL HFS hFL HF
    generalize Vint.enc 2 = l at HP h2 HX HF
    generalize o.bytes.length = nb at *
    clear ho1 hb1 hr e1 e2 HE HAL
    go_wp2_with fail
    refine HP.out.mono ?_
    rintro e w2 ⟨g, c2, rfl, ho, hb⟩
    have HR2 := Lib.hid (Own.row (B := w1.heap.size) (cap := c2) ho HX.out)
    have HB2 := Lib.hid hb
    clear ho hb HP
    go_wp2_with fail
    refine (HFL.out w2 HB2.out).mono ?_
    rintro e w3 ⟨a3, c3, rfl, ho, hb⟩
    have HJ := Lib.hid (jn_any (some ⟨g, 0, none⟩) a3 l.length m.length c2 c3 l m w3 (by omega) (HR2.out.below hb) (fun h => by cases h) (ho.row HFS.out) ho.cap.2.2)
    have HB3 := Lib.hid (HB1.out.trans ((HB2.out.trans (hb.mono HB2.out.size)).mono HB1.out.size))
    clear ho hb HFL
    go_wp2_with fail
    refine HJ.out.mono ?_
    rintro e w4 ⟨a4, c4, rfl, ho, hb⟩
    rw [List.length_append] at ho ⊢
    have HO4 := Lib.hid (ho.mono HB3.out.size)
    have HB4 := Lib.hid (HB3.out.trans (hb.mono HB3.out.size))
    clear ho hb HJ
    go_wp2_with fail
    go_ret2
    exact HF.out _ _ _ _ HO4.out HB4.out

set_option maxHeartbeats 1000000 in
set_option maxRecDepth 100000 in
theorem rrecord_any (o : O) (w : World) : Calls Tryd.prog 11 #[.agg o.arr] w (RecordP o w) := by
  have bx := box29 o w
  have HAL : Hid (Below w.heap.size w (w.alloc (.cells o.arr 29))) := Lib.hid ((Below.refl _ _).alloc (Nat.le_refl _) _)
  have HO := Lib.hid (Blk.new w 29 o.arr)
  have HE := Lib.hid (rrec_any o (w.alloc (.cells o.arr 29)))
  go_enter Tryd.func11, Tryd.ntmps11
  go_wp2_with (refine wpList_run rfl (exec_load29 (p := o) rfl rfl HO.out) ?_)
  clear bx
  generalize w.alloc (.cells o.arr 29) = W at HO HAL HE
  refine HE.out.mono ?_
  rintro e w1 ⟨a1, len1, cap1, rfl, ho1, hb1⟩
  have HB1 := Lib.hid (HAL.out.trans (hb1.mono HAL.out.size))
  cases hr : o.rightB 16
  · have HR := Lib.hid hr
    clear ho1 hb1 hr HE HAL
    go_wp2_with fail
    go_ret2
    exact recordP_no HR.out HB1.out
  · have HR := Lib.hid hr
    rw [if_pos hr] at ho1
    have hlen := ho1.len
    have hle := Seg.rec_le o
    have HW := Lib.hid (rwrap_any a1 len1 cap1 (Seg.recB o) w1 (ho1.row (Seg.rec_lt o)) ho1.cap.2.2 (by omega))
    clear ho1 hb1 hr HE HAL
    go_wp2_with fail
    refine HW.out.mono ?_
    rintro e w2 ⟨a2, c2, rfl, ho2, hb2⟩
    have HO2 := Lib.hid (ho2.mono HB1.out.size)
    have HB2 := Lib.hid (HB1.out.trans (hb2.mono HB1.out.size))
    clear ho2 hb2 HW
    go_wp2_with fail
    go_ret2
    exact recordP_yes HR.out HO2.out HB2.out

end Go.Proofs.YtfnaccmgmocolaaDoor
