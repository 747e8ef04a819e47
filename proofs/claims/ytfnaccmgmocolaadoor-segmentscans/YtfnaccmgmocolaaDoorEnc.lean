/- Walks of length and Encode, the program's, and of Encode, the document's: the fields of a vector. -/
import Derived.Test.YtfnaccmgmocolaaDoorV
import Derived.Test.YtfnaccmgmocolaaDoorAll
import Derived.Test.YtfnaccmgmocolaaDoorCmp
namespace Go.Proofs.YtfnaccmgmocolaaDoor
open Go.RowKit

set_option maxHeartbeats 1000000 in
theorem length_any (v : V) (w : World) : Calls Tryd.prog 70 #[.agg v.arr] w (Says (.int .i64 (V.len v : Int)) w) := by
  have hb1 := fun (v : V) (w : World) => box27 v w
  go_enter Tryd.func70, Tryd.ntmps70
  go_wp2_with fail
  clear hb1
  have HO := Lib.hid (below_one w (.cells v.arr 27))
  have HV := Lib.hid (Blk.new w 27 v.arr)
  generalize w.alloc (.cells v.arr 27) = W at HO HV
  go_loop [3] (fun i => ∃ k : Nat, k ≤ 16 ∧ i = .int .i64 (k : Int) ∧ Hid (V.lenFrom v k = V.len v)) (fun i => (intOf i).toNat)
  case atStart => exact ⟨16, by omega, rfl, Lib.hid rfl⟩
  case round =>
    obtain ⟨k, hk, rfl, HR⟩ := hrel
    cases k with
    | zero =>
      go_wp2_with fail
      go_ret
      exact ⟨ret_int (by rw [← HR.out]; rfl), HO.out⟩
    | succ m =>
      have c1 : W.cell? ⟨w.heap.size, m, none⟩ = some (.int .u32 (v.at_ m : Int)) := by rw [HV.out.cell, V.arr_at _ (by omega)]
      have hm : ((m + 1 : Nat) : Int) - 1 = (m : Int) := by omega
      by_cases h0 : v.at_ m = 0
      · have HR2 := Lib.hid ((V.lenFrom_go v h0).symm.trans HR.out)
        rw [h0] at c1
        clear h0
        go_wp2_with fail
        go_round
        case rel => exact ⟨m, by omega, rfl, HR2⟩
        case measure => simp [intOf]
      · have HR2 := Lib.hid ((V.lenFrom_stop v h0).symm.trans HR.out)
        have l1 := v.lt m
        generalize v.at_ m = x at c1 h0 l1
        have g4 : ((x : Int) == 0) = false := by simp; omega
        go_wp2_with fail
        go_ret
        exact ⟨ret_int (by rw [← HR2.out]; rfl), HO.out⟩

theorem lay_ok {bs l : List Nat} (h : bs.length + l.length ≤ 65536) : layE 0 bs.length l.length = 0 ∧ layB 0 bs l = bs ++ l := by
  unfold layE layB
  rw [if_pos rfl, if_neg (by omega), if_pos ⟨rfl, h⟩]
  exact ⟨rfl, rfl⟩

/-- A writer and a vector that a call made: nothing that was there has turned. -/
structure Wv (w W : World) (p : Nat) (v : V) (bs : List Nat) : Prop where
  wr : ∃ a len cap, Wr W p 0 a len cap bs
  vec : Blk W w.heap.size 27 v.arr
  lt : w.heap.size < p
  old : Below w.heap.size w W

theorem Wv.num {w W : World} {p : Nat} {v : V} {bs : List Nat} {n : Nat} (h : Wv w W p v bs) (hn : n < 18446744073709551616) (hl : bs.length ≤ 60000) :
    Calls Tryd.prog 29 #[.pointer (some ⟨p, 0, none⟩), .int .u64 (n : Int)] W fun e w' => e = .returned (.int .i64 0) ∧ Wv w w' p v (bs ++ Vint.enc n) := by
  obtain ⟨a, len, cap, hw⟩ := h.wr
  refine (wnum_any p 0 a len cap bs n W hn hw).mono fun e w' => ?_
  rintro ⟨a', len', cap', rfl, hw', hk, _⟩
  obtain ⟨e1, e2⟩ := lay_ok (bs := bs) (l := Vint.enc n) (by have := Vint.enc_ten hn; omega)
  rw [e1, e2] at hw'
  have hp : ∀ k, Wat p a k → p ≤ k := fun k hk => (hw.at_lt k hk).1
  refine ⟨by rw [e1]; rfl, ⟨a', len', cap', hw'⟩, h.vec.kept hk (fun hh => by have := hp _ hh; have := h.lt; omega), h.lt, h.old.trans (hk.below h.old.size (fun k hk => by have := hp _ hk; have := h.lt; omega))⟩

theorem slice27 (g n : Nat) (w : World) (h : n ≤ 16) : (Instr.sliceAt 27 (.pointer (some ⟨g, 0, none⟩)) none (some (.int .i64 (n : Int))) none).run Tryd.prog w = .ok (.slice (some ⟨g, 0, none⟩) n 16) w := by
  have hz : (sizeOf 22).run Tryd.prog w = .ok 1 w := by kernel_rfl
  have hn : Tryd.prog.arrayLen 27 = 16 := by kernel_rfl
  have he : Tryd.prog.elem 27 = 22 := by kernel_rfl
  rw [run_sliceAt_array_h w 27 ⟨g, 0, none⟩ (by rw [hn, he]; exact und27) .i64 (n : Int) (by omega) (by rw [hn]; omega), he, hz]
  simp [hn, slicedAt, Addr.add]

set_option maxHeartbeats 1000000 in
theorem encode_any (v : V) (w : World) : Calls Tryd.prog 41 #[.agg v.arr] w (Fresh (V.bytes v) w) := by
  have hb1 := fun (v : V) (w : World) => box27 v w
  have hn := V.len_le v
  have HL := Lib.hid (fun w => length_any v w)
  have HB : Hid (V.bytes v = V.bytesTo v (V.len v) (V.len v)) := Lib.hid rfl
  have HV := Lib.hid (Blk.new w 27 v.arr)
  have HO := Lib.hid (below_one w (.cells v.arr 27))
  have HZ := Lib.hid (fun k => V.bytesTo_le v hn k)
  have HS := Lib.hid (V.bytes_lt v)
  have HBL := Lib.hid (V.bytes_le v)
  generalize V.bytes v = out at HB HS HBL
  generalize V.len v = n at hn HL HB HZ
  go_enter Tryd.func41, Tryd.ntmps41
  go_wp2_with ((refine wpList_load27 rfl rfl rfl HV.out ?_))
  clear hb1
  generalize w.alloc (.cells v.arr 27) = W at HV HO
  refine (HL.out _).mono ?_
  rintro e w1 ⟨rfl, hb⟩
  have HV1 := Lib.hid (HV.out.below hb)
  have HO1 := Lib.hid (HO.out.trans (hb.mono HO.out.size))
  clear hb
  go_wp2_with fail
  refine (new_any _).mono ?_
  rintro e w2 ⟨rfl, hw2, hb⟩
  have HW : Hid (Wv w w2 w1.heap.size v []) := Lib.hid ⟨⟨_, _, _, hw2⟩, HV1.out.below hb, HV1.out.lt, HO1.out.trans (hb.mono HO1.out.size)⟩
  generalize w1.heap.size = p at HW
  clear hw2 hb HV1 HO1
  go_wp2_with fail
  refine (HW.out.num (by omega) (by simp)).mono ?_
  rintro e w3 ⟨rfl, hw3⟩
  have HW3 : Hid (Wv w w3 p v (V.bytesTo v n 0)) := Lib.hid hw3
  clear hw3 HW
  have hsl := slice27 w.heap.size n w3 hn
  go_wp2_with fail
  clear hsl
  go_loopw [19] (fun i wr => ∃ k : Nat, k ≤ n ∧ i = .int .i64 (k : Int) ∧ Hid (Wv w wr p v (V.bytesTo v n k))) (fun i _ => n - (intOf i).toNat)
  case atStart => exact ⟨0, by omega, rfl, HW3⟩
  case round =>
    obtain ⟨k, hk, rfl, HR⟩ := hrel
    by_cases hlt : k < n
    · have c1 : wr.cell? ⟨w.heap.size, k, none⟩ = some (.int .u32 (v.at_ k : Int)) := by rw [HR.out.vec.cell, V.arr_at _ (by omega)]
      have l1 := v.lt k
      generalize hx : v.at_ k = x at c1 l1
      have HX := Lib.hid hx
      clear hx
      go_wp2_with fail
      refine (HR.out.num (n := x) (by omega) (by have := HZ.out k; omega)).mono ?_
      rintro e w4 ⟨rfl, hw4⟩
      have HW4 : Hid (Wv w w4 p v (V.bytesTo v n (k + 1))) := Lib.hid (by rw [V.bytesTo, HX.out]; exact hw4)
      clear hw4
      go_wp2_with fail
      go_roundw
      case rel => exact ⟨k + 1, by omega, by go_num, HW4⟩
      case measure => simp [intOf]; omega
    · obtain rfl : k = n := by omega
      obtain ⟨a, len, cap, hw⟩ := HR.out.wr
      have HA := Lib.hid (all_any p 0 a len cap _ wr hw)
      clear hw
      go_wp2_with fail
      refine HA.out.mono ?_
      rintro e w5 ⟨a5, len5, cap5, rfl, ho, hb⟩
      rw [if_pos rfl] at ho
      have HO5 := Lib.hid ho
      have HB5 := Lib.hid hb
      clear ho hb
      go_wp2_with fail
      go_ret
      have hl := HO5.out.len
      rw [← HB.out] at hl
      refine ⟨a5, cap5, by rw [hl]; rfl, ?_, HR.out.old.trans (HB5.out.mono HR.out.old.size)⟩
      rw [hl, HB.out]
      exact HO5.out.mono HR.out.old.size

theorem Own.of_made {w : World} {g B : Nat} {l : List Nat} {cap : Nat} (h : w.ownsRow B 5 1 (.slice (some ⟨g, 0, none⟩) l.length cap) l.length (cellsOf l)) : Own w B (some ⟨g, 0, none⟩) l.length cap l := h

/-- Bytes of its own and a vector that a call made: nothing that was there has turned. -/
structure Ov (w W : World) (v : V) (a : Option Addr) (len cap : Nat) (bs : List Nat) : Prop where
  own : Own W (w.heap.size + 1) a len cap bs
  vec : Blk W w.heap.size 27 v.arr
  old : Below w.heap.size w W

set_option maxHeartbeats 1000000 in
theorem rencode_any (v : V) (w : World) : Calls Tryd.prog 87 #[.agg v.arr] w (Fresh (V.bytes v) w) := by
  have hb1 := fun (v : V) (w : World) => box27 v w
  have HB : Hid (V.bytes v = V.bytesTo v (V.len v) (V.len v)) := Lib.hid rfl
  have HV := Lib.hid (Blk.new w 27 v.arr)
  have HO := Lib.hid (below_one w (.cells v.arr 27))
  have HZ := Lib.hid (fun k => V.bytesTo_le v (V.len_le v) k)
  go_enter Tryd.func87, Tryd.ntmps87
  go_wp2_with fail
  clear hb1
  generalize w.alloc (.cells v.arr 27) = W at HV HO
  go_loop [3, 4] (fun m i => ∃ k n : Nat, k ≤ 16 ∧ n ≤ 16 ∧ i = .int .i64 (k : Int) ∧ m = .int .i64 (n : Int) ∧ Hid (V.lenFrom v k = n)) (fun _ i => 16 - (intOf i).toNat)
  case atStart => exact ⟨0, 0, by omega, by omega, rfl, rfl, Lib.hid rfl⟩
  case round =>
    obtain ⟨k, n, hk, hn, rfl, rfl, HR⟩ := hrel
    by_cases hlt : k < 16
    · have c1 : W.cell? ⟨w.heap.size, k, none⟩ = some (.int .u32 (v.at_ k : Int)) := by rw [HV.out.cell, V.arr_at _ hlt]
      have l1 := v.lt k
      by_cases h0 : v.at_ k = 0
      · have HR2 := Lib.hid ((V.lenFrom_go v h0).trans HR.out)
        rw [h0] at c1
        clear h0 l1
        go_wp2_with fail
        go_round
        case rel => exact ⟨k + 1, n, by omega, by omega, by go_num, rfl, HR2⟩
        case measure => simp [intOf]; omega
      · have HR2 := Lib.hid (V.lenFrom_stop v h0)
        generalize v.at_ k = x at c1 l1 h0
        have g4 : ((x : Int) != 0) = true := by simp; omega
        go_wp2_with fail
        go_round
        case rel => exact ⟨k + 1, k + 1, by omega, by omega, by go_num, by go_num, HR2⟩
        case measure => simp [intOf]; omega
    · obtain rfl : k = 16 := by omega
      have HN : Hid (V.len v = n) := HR
      clear HR
      rw [HN.out] at HB HZ
      go_wp2_with fail
      refine (rput_any n _ (by omega)).mono ?_
      rintro e w1 ⟨g, c1, rfl, ho1, hb1⟩
      have HO1 : Hid (Ov w w1 v (some ⟨g, 0, none⟩) (V.bytesTo v n 0).length c1 (V.bytesTo v n 0)) := Lib.hid ⟨(Own.of_made ho1).mono HV.out.lt, HV.out.below hb1, HO.out.trans (hb1.mono HO.out.size)⟩
      clear ho1 hb1
      go_wp2_with fail
      go_loopw [5, 6] (fun b i wr => ∃ (k len cap : Nat) (a : Option Addr), k ≤ n ∧ len ≤ 10 + 10 * k ∧ i = .int .i64 (k : Int) ∧ b = .slice a len cap ∧ Hid (Ov w wr v a len cap (V.bytesTo v n k))) (fun _ i _ => n - (intOf i).toNat)
      case atStart => exact ⟨0, _, c1, _, by omega, HZ.out 0, rfl, rfl, HO1⟩
      case round =>
        obtain ⟨k, len, cap, a, hk, hlen, rfl, rfl, HR⟩ := hrel
        by_cases hlt : k < n
        · have c1 : wr.cell? ⟨w.heap.size, k, none⟩ = some (.int .u32 (v.at_ k : Int)) := by rw [HR.out.vec.cell, V.arr_at _ (by omega)]
          have l1 := v.lt k
          generalize hx : v.at_ k = x at c1 l1
          have HX := Lib.hid hx
          clear hx
          have hten : (Vint.enc x).length ≤ 10 := Vint.enc_ten (by omega)
          have HP := Lib.hid (fun w => rput_any x w (by omega))
          have HX2 : Hid (V.bytesTo v n (k + 1) = V.bytesTo v n k ++ Vint.enc x) := Lib.hid (by rw [V.bytesTo, HX.out])
          have HE := Lib.hid (Vint.enc_lt x)
          generalize hnb : V.bytesTo v n (k + 1) = nb at HX2
          have HNB := Lib.hid hnb
          clear hnb
          generalize Vint.enc x = ex at hten HP HX2 HE
          go_wp2_with fail
          refine (HP.out _).mono ?_
          rintro e w2 ⟨g2, c2, rfl, ho2, hb2⟩
          have HR2 := Lib.hid ((Own.of_made ho2).row HE.out)
          have HO2 := Lib.hid (HR.out.own.below hb2)
          have HV2 := Lib.hid (HR.out.vec.below hb2)
          have HB2 := Lib.hid (HR.out.old.trans (hb2.mono HR.out.old.size))
          clear ho2 hb2 c1
          go_wp2_with (at_builtin; refine wpList_append_own_row _ rfl _ _ rfl (w.heap.size + 1) a len cap (V.bytesTo v n k) rfl HO2.out (some ⟨g2, 0, none⟩) ex.length c2 ex rfl HR2.out (fun h => by cases h) (by omega) HV2.out.lt ?_; intro a3 cp3 w3 ho3 hk3 hl3; have HO3 := Lib.hid ho3; have HK3 := Lib.hid hk3; clear ho3 hk3 hl3)
          go_roundw
          case rel =>
            have hge : ∀ j, (∃ ad, a = some ad ∧ j = ad.block) → w.heap.size + 1 ≤ j := fun j ⟨ad, h1, h2⟩ => by have := (HO2.out.lt ad h1).1; omega
            refine ⟨k + 1, len + ex.length, cp3, a3, by omega, by omega, by go_num, rfl, Lib.hid ⟨?_, HV2.out.kept HK3.out (fun h => by have := hge _ h; omega), HB2.out.trans (HK3.out.below HB2.out.size (fun j hj => by have := hge _ hj; omega))⟩⟩
            rw [HNB.out, HX2.out]
            exact HO3.out
          case measure => simp [intOf]; omega
        · obtain rfl : k = n := by omega
          go_wp2_with fail
          go_ret
          have hl := HR.out.own.len
          rw [← HB.out] at hl
          refine ⟨a, cap, by rw [hl]; rfl, ?_, HR.out.old⟩
          rw [hl, HB.out]
          exact HR.out.own.mono (by omega)

set_option maxHeartbeats 1000000 in
theorem bjoin_any (a b : Option Addr) (n m c d : Nat) (x y : List Nat) (w : World) (hl : n + m ≤ 1000000) (hR : Row w a n x) (hz : a = none → n = 0 ∧ c = 0) (hR2 : Row w b m y) (hz2 : b = none → m = 0 ∧ d = 0) :
    Calls Tryd.prog 47 #[.slice a n c, .slice b m d] w (Fresh (x ++ y) w) := by
  have hal : Below w.heap.size w (w.alloc (.cells #[] 5)) := (Below.refl w.heap.size w).alloc (Nat.le_refl _) (.cells #[] 5)
  have HR := Lib.hid (hR.below hal)
  have HZ := Lib.hid hz
  have HR2 := Lib.hid hR2
  have HZ2 := Lib.hid hz2
  have HS := Lib.hid hR.size
  have HS2 := Lib.hid hR2.size
  clear hR hR2 hal hz hz2
  go_enter Tryd.func47, Tryd.ntmps47
  go_wp2_with (at_builtin; first
    | (refine wpList_append_own_row _ rfl _ _ rfl w.heap.size (some ⟨w.heap.size, 0, none⟩) 0 0 [] rfl (own_empty w) a n c x rfl HR.out HZ.out (by omega) (by simp) ?_
       intro a1 c1 w1 ho hk hl1
       simp only [Nat.zero_add, List.nil_append] at ho ⊢
       have HO := Lib.hid ho
       have HB := Lib.hid (below_new hk (fun i ⟨ad', h1, h2⟩ => by obtain rfl := Option.some.inj h1; exact Nat.le_of_eq h2.symm))
       clear ho hk hl1)
    | (refine wpList_append_own_row w1 rfl _ _ rfl w.heap.size a1 n c1 x rfl HO.out b m d y rfl (HR2.out.below HB.out) HZ2.out (by omega) HB.out.size ?_
       intro a2 c2 w2 ho hk hl1
       have HO2 := Lib.hid ho
       have HB2 := Lib.hid (HB.out.trans (hk.below HB.out.size (fun i ⟨ad', h1, h2⟩ => by have := (HO.out.lt ad' h1).1; omega)))
       clear ho hk hl1))
  go_ret
  have hlen : (x ++ y).length = n + m := by rw [List.length_append, HS.out, HS2.out]
  exact ⟨a2, c2, by rw [hlen]; rfl, by rw [hlen]; exact HO2.out, HB2.out⟩

set_option maxHeartbeats 1000000 in
theorem field_any (b : Option Addr) (m d : Nat) (y : List Nat) (w : World) (hl : m ≤ 100000) (hR2 : Row w b m y) (hz2 : b = none → m = 0 ∧ d = 0) :
    Calls Tryd.prog 49 #[.slice b m d] w (Fresh (Vint.enc m ++ y) w) := by
  have HP := Lib.hid (rput_any m w (by omega))
  have hL := Vint.enc_ten (n := m) (by omega)
  have HX := Lib.hid (Vint.enc_lt m)
  have HR2 := Lib.hid hR2
  have HZ2 := Lib.hid hz2
  clear hR2 hz2
  generalize Vint.enc m = l at HP hL HX
  go_enter Tryd.func49, Tryd.ntmps49
  go_wp2_with fail
  refine HP.out.mono ?_
  rintro e w1 ⟨g, c1, rfl, ho, hb⟩
  have HJ := Lib.hid (bjoin_any (some ⟨g, 0, none⟩) b l.length m c1 d l y w1 (by omega) (Own.row (B := w.heap.size) (cap := c1) ho HX.out) (fun h => by cases h) (HR2.out.below hb) HZ2.out)
  have HB := Lib.hid hb
  clear ho hb
  go_wp2_with fail
  refine HJ.out.mono ?_
  rintro e w2 ⟨a2, c2, rfl, ho2, hb2⟩
  have HO2 := Lib.hid (ho2.mono HB.out.size)
  have HB2 := Lib.hid (HB.out.trans (hb2.mono HB.out.size))
  clear ho2 hb2
  go_wp2_with fail
  go_ret
  exact ⟨a2, c2, by rw [List.length_append]; rfl, HO2.out, HB2.out⟩

end Go.Proofs.YtfnaccmgmocolaaDoor
