/- SegmentBack is proved: of any history that was written to a segment, what is scanned is what was written; of a beginning that has the head just what is whole; the table of four bits is tied to the program's text. No other condition. -/
import Derived.Test.YtfnaccmgmocolaaDoorBk
namespace Go.Proofs.YtfnaccmgmocolaaDoor
namespace SegmentBack
open Go.ChangeShapes Go.WideShapes Go.ChangeAt Go.RowKit

/-- What the law has in memory while it looks at the operations. -/
structure Bl (w W : World) (id : Nat) (g : List O) (n q : Nat) (ba : Option Addr) (nb bc : Nat) (ga : Option Addr) (gc : Nat) (ea : Option Addr) (ec g16 U : Nat) (a1 : Option Addr) (c1 : Nat) (a2 : Option Addr) (c2 : Nat) : Prop where
  wn : Wn w W id g n ba nb bc ga gc ea ec
  x : Blk W g16 44 (infoV id (.slice a1 q c1) (.slice a2 q c2) false U)
  xo : OwnG W 29 23 w.heap.size a1 q c1 (cellsO (g.take q))
  xa : OwnG W 3 1 w.heap.size a2 q c2 (cellsN (Seg.starts (Seg.headB id).length (g.take q)))
theorem Bl.below {w W W' : World} {id n q : Nat} {g : List O} {ba ga ea a1 a2 : Option Addr} {nb bc gc ec g16 U c1 c2 : Nat} (h : Bl w W id g n q ba nb bc ga gc ea ec g16 U a1 c1 a2 c2) (hb : Below W.heap.size W W') : Bl w W' id g n q ba nb bc ga gc ea ec g16 U a1 c1 a2 c2 :=
  ⟨h.wn.below hb, h.x.below hb, h.xo.below hb, h.xa.below hb⟩
/-- At one of them. -/
structure Bi (W : World) (id i q g16 U : Nat) (x : O) (A b1 f1 b2 f2 b3 f3 c1 c2 : Nat) : Prop where
  xb : Blk W g16 44 (infoV id (.slice (some ⟨b1, f1, none⟩) q c1) (.slice (some ⟨b2, f2, none⟩) q c2) false U)
  r1 : W.rangeAt b1 (f1 + i * 23) x.cs
  r3 : W.rangeAt b3 (f3 + i * 23) x.cs
  c2 : W.cell? ⟨b2, f2 + i, none⟩ = some (.int .i64 (A : Int))
theorem Bi.below {W W' : World} {id i q g16 U A b1 f1 b2 f2 b3 f3 c1 c2 : Nat} {x : O} (h : Bi W id i q g16 U x A b1 f1 b2 f2 b3 f3 c1 c2) (hb : Below W.heap.size W W') : Bi W' id i q g16 U x A b1 f1 b2 f2 b3 f3 c1 c2 :=
  ⟨h.xb.below hb, fun j u hu => below_at hb (h.r1 j u hu), fun j u hu => below_at hb (h.r3 j u hu), below_at hb h.c2⟩
theorem count_snoc {l : List Nat} {j x K : Nat} (hx : l[j]? = some x) : (l.take (j + 1)).countP (fun x => decide (x ≤ K)) = (l.take j).countP (fun x => decide (x ≤ K)) + if x ≤ K then 1 else 0 := by
  rw [List.take_add_one, hx, List.countP_append]
  by_cases h : x ≤ K <;> simp [h]

set_option maxHeartbeats 8000000 in
set_option maxRecDepth 100000 in
theorem walk (id : Nat) (a : Option Addr) (len cap : Nat) (l : List O) (c : Nat) (w : World) (hT : Tab w) (hid : id < 4294967296) (hlen : len ≤ 9223372036854775807) (hl : OL w a len l) (hc16 : c < 65536) :
    Calls Tryd.prog 5 #[.int .u32 (id : Int), .slice a len cap, .int .u16 (c : Int)] w fun e w' => e = .returned (.bool true) ∧ Below w.heap.size w w' := by
  have HA := Lib.hid (alive_any w hT)
  have HT := Lib.hid hT
  have HL := Lib.hid hl
  clear hT hl
  go_enter Tryd.func5, Tryd.ntmps5
  go_wp2_with fail
  refine HA.out.mono ?_
  rintro e w1 ⟨rfl, hb1⟩
  have HW := Lib.hid (written_any id a len cap l w1 (HT.out.below hb1) hid hlen (HL.out.below hb1))
  have HT1 := Lib.hid (HT.out.below hb1)
  have HB1 := Lib.hid hb1
  clear hb1 HA HL HT
  go_wp2_with fail
  refine HW.out.mono ?_
  rintro e w2 ⟨n, ba, nb, bc, ga, gc, ea, ec, rfl, hwn⟩
  have HWN := Lib.hid hwn
  obtain ⟨hgl, hbl⟩ := hwn.len
  have hnl := Seg.goods_len l 30
  have hrl := Seg.recs_len (Seg.goods l 30)
  have hhl := Seg.fr_pair_le (k := 1) (n := id) (by omega) (by omega)
  have hhp := Frm.fr_pos (Seg.pairB 1 id)
  change (Seg.headB id).length ≤ 40 at hhl
  change 5 ≤ (Seg.headB id).length at hhp
  rw [List.length_append] at hbl
  have hnb : nb ≤ 20000 := by omega
  have hn30 : n ≤ 30 := by omega
  have HGR := Lib.hid (Seg.goods_right l 30)
  have HSCC := Lib.hid (fun k => Seg.scan_cut (id := id) hid (Seg.goods_right l 30) k)
  have HSCF := Lib.hid (Seg.scan_foot (id := id) hid (Seg.goods_right l 30) (by omega) [])
  have HBS := Lib.hid (Seg.headrecs_lt id (Seg.goods l 30))
  have HHL : Hid ((Seg.headB id).length + (Seg.recs (Seg.goods l 30)).length = nb) := Lib.hid hbl
  have HGL := Lib.hid hgl
  clear hwn hgl hbl hnl hrl HW
  generalize Seg.goods l 30 = g at *
  go_wp2_with fail
  refine (head_any id w2 (HT1.out.below HWN.out.old) hid).mono ?_
  rintro e w3 ⟨ha, hc, rfl, -, hhb⟩
  have HWN3 := Lib.hid (HWN.out.below hhb)
  clear hhb HWN
  obtain ⟨H, hH⟩ : ∃ H, (Seg.headB id).length = H := ⟨_, rfl⟩
  obtain ⟨R, hR⟩ : ∃ R, (Seg.recs g).length = R := ⟨_, rfl⟩
  have hsum : H + R = nb := by rw [← hH, ← hR]; exact HHL.out
  have HHE := Lib.hid hH
  have HRE := Lib.hid hR
  rw [hH] at hhl hhp ⊢
  clear hH hR HHL
  obtain ⟨J, hJ⟩ : ∃ J, c % (R + 1) = J := ⟨_, rfl⟩
  have hJR : J ≤ R := by rw [← hJ]; have := Nat.mod_lt c (show 0 < R + 1 by omega); omega
  have hrem : (c : Int) % ((nb : Int) - (H : Int) + 1) = (J : Int) := by
    rw [show (nb : Int) - (H : Int) + 1 = ((R + 1 : Nat) : Int) by omega, ← hJ]
    rfl
  obtain ⟨K, hK⟩ : ∃ K, H + J = K := ⟨_, rfl⟩
  have hkz : (H : Int) + (J : Int) = (K : Int) := by omega
  have hKn : K ≤ nb := by omega
  clear hJ
  go_wp2_with fail
  clear hrem hkz
  have HKK := Lib.hid hK
  clear hK
  obtain ⟨es, hes⟩ : ∃ es, Seg.stops H g = es := ⟨_, rfl⟩
  have hel : es.length = n := by rw [← hes, Seg.stops_len, HGL.out]
  have HES := Lib.hid hes
  have HEL := Lib.hid hel
  clear hes hel
  go_loopw [50, 13] (fun v u wr => ∃ j : Nat, v = .int .i64 (j : Int) ∧ u = .int .i64 (((es.take j).countP (fun x => decide (x ≤ K)) : Nat) : Int) ∧ j ≤ n ∧ Hid (Wn w1 wr id g n ba nb bc ga gc ea ec)) (fun v _ _ => n - (intOf v).toNat)
  case atStart => exact ⟨0, rfl, by simp, Nat.zero_le _, HWN3⟩
  case round =>
    clear HWN3
    obtain ⟨j, rfl, rfl, hj, HM⟩ := hrel
    by_cases hlt : j < n
    · obtain ⟨x, hx⟩ : ∃ x, es[j]? = some x := ⟨_, List.getElem?_eq_getElem (by rw [HEL.out]; exact hlt)⟩
      obtain ⟨be, fe, rfl, hce, _⟩ := int_idx HM.out.e (by rw [HHE.out, HES.out]; exact hx)
      have HCE := Lib.hid hce
      have HCS := Lib.hid (count_snoc (K := K) hx)
      have hcl : (es.take j).countP (fun x => decide (x ≤ K)) ≤ j := Nat.le_trans List.countP_le_length (by rw [List.length_take]; omega)
      generalize (es.take j).countP (fun x => decide (x ≤ K)) = cn at hcl HCS ⊢
      clear hx hce
      by_cases hxk : x ≤ K
      · have hle : decide ((x : Int) ≤ (K : Int)) = true := by simp; omega
        rw [if_pos hxk] at HCS
        go_wp2_with (first | (refine wpList_run rfl (exec_idxN (i := j) rfl rfl rfl rfl hlt) ?_) | (refine wpList_run rfl (exec_ldC 3 agg3 rfl rfl HCE.out) ?_))
        go_roundw
        case rel => exact ⟨j + 1, by go_num, by rw [HCS.out]; go_num, by omega, HM⟩
        case measure => simp [intOf]; omega
      · have hle : decide ((x : Int) ≤ (K : Int)) = false := by simp; omega
        rw [if_neg hxk] at HCS
        go_wp2_with (first | (refine wpList_run rfl (exec_idxN (i := j) rfl rfl rfl rfl hlt) ?_) | (refine wpList_run rfl (exec_ldC 3 agg3 rfl rfl HCE.out) ?_))
        go_roundw
        case rel => exact ⟨j + 1, by go_num, by rw [HCS.out]; go_num, by omega, HM⟩
        case measure => simp [intOf]; omega
    · obtain rfl : j = n := by omega
      have hcount : (es.take j).countP (fun x => decide (x ≤ K)) = Seg.wholes J g := by
        rw [List.take_of_length_le (by rw [HEL.out]; exact Nat.le_refl _), ← HES.out, ← HKK.out]
        exact Seg.count_stops g H J
      rw [hcount]
      have hsc := HSCC.out J
      have hwl := Seg.wholes_le J g
      have hwn := Seg.wholes_len J g
      have htk : (Seg.headB id ++ Seg.recs g).take K = Seg.headB id ++ (Seg.recs g).take J := by
        rw [List.take_append, HHE.out, List.take_of_length_le (by rw [HHE.out]; have := HKK.out; omega), show K - H = J by have := HKK.out; omega]
      rw [HGL.out] at hwl
      rw [HHE.out] at hsc
      obtain ⟨q, hq0⟩ : ∃ q, Seg.wholes J g = q := ⟨_, rfl⟩
      rw [hq0] at hsc hwl hwn ⊢
      obtain ⟨U, hU⟩ : ∃ U, H + (Seg.recs (g.take q)).length = U := ⟨_, rfl⟩
      rw [hU] at hsc
      have hUK : U ≤ K := by rw [← hU]; have := HKK.out; omega
      have HQ1 : Hid ((g.take q).length = q) := Lib.hid (by rw [List.length_take, HGL.out]; omega)
      have HSC1 := Lib.hid hsc
      have HTK := Lib.hid htk
      have hsl := fun W => slice_hz .i64 ba nb bc K (K : Int) rfl (by have := HM.out.b.cap.1; omega) W
      clear hcount hsc htk hwn hU hq0
      go_wp2_with fail
      refine (sscan_any ba K bc _ wr (HT1.out.below HM.out.old) ((HM.out.b.row HBS.out).upto hKn) (fun h => by have := (HM.out.b.cap.2.2 h).1; omega) (by have := HM.out.b.cap.1; omega) (by omega)).mono ?_
      intro e w5 hq
      rw [HTK.out] at hq
      obtain ⟨a1, c1, a2, c2, rfl, hl1, hl2, hb5⟩ := tells_of (n := q) HSC1.out HQ1.out (by rw [Seg.starts_len]; exact HQ1.out) hq
      have HM5 := Lib.hid (HM.out.below hb5)
      have HX1 := Lib.hid (hl1.mono HM.out.old.size)
      have HX2 := Lib.hid (hl2.mono HM.out.old.size)
      clear hq hl1 hl2 hb5 HM hsl
      simp only
      go_wp2_with (first | (refine wpList_run rfl (exec_ialloc44 rfl) ?_) | (refine wpList_istop44 rfl ?_))
      refine ⟨?_⟩
      refine wpList_void rfl rfl (exec_istore44 (id := 0) (id2 := id) (a1 := a1) (n1 := q) (c1 := c1) (a2 := a2) (n2 := q) (c2 := c2) (s2 := false) (u2 := U) (u := 0) rfl rfl rfl (Blk.new w5 44 infoZ)) ?_
      have hlo := ilaid_old w5 infoZ (infoV id (.slice a1 q c1) (.slice a2 q c2) false U)
      have HBL : Hid (Bl w1 _ id g j q ba nb bc ga gc ea ec w5.heap.size U a1 c1 a2 c2) := Lib.hid ⟨HM5.out.below hlo, ilaid_blk w5 infoZ (infoV id (.slice a1 q c1) (.slice a2 q c2) false U), HX1.out.below hlo, by rw [HHE.out]; exact HX2.out.below hlo⟩
      clear hlo HM5 HX1 HX2
      generalize (w5.alloc (.cells infoZ 44)).setRow w5.heap.size (infoV id (.slice a1 q c1) (.slice a2 q c2) false U) = w6 at HBL
      generalize w5.heap.size = g16 at HBL
      have k0 : w6.cell? ⟨g16, 0, none⟩ = some (.int .u32 (id : Int)) := by rw [HBL.out.x.cell]; rfl
      have k1 : w6.cell? ⟨g16, 1, none⟩ = some (.slice a1 q c1) := by rw [HBL.out.x.cell]; rfl
      have k2 : w6.cell? ⟨g16, 2, none⟩ = some (.slice a2 q c2) := by rw [HBL.out.x.cell]; rfl
      have k3 : w6.cell? ⟨g16, 3, none⟩ = some (.bool false) := by rw [HBL.out.x.cell]; rfl
      have k4 : w6.cell? ⟨g16, 4, none⟩ = some (.int .i64 (U : Int)) := by rw [HBL.out.x.cell]; rfl
      have hgt : decide ((K : Int) < (U : Int)) = false := by simp; omega
      go_wp2_with fail
      clear k0 k1 k2 k3 k4 hgt
      go_loopw [102] (fun v wr => ∃ i : Nat, v = .int .i64 (i : Int) ∧ i ≤ q ∧ Hid (Bl w1 wr id g j q ba nb bc ga gc ea ec g16 U a1 c1 a2 c2)) (fun v _ => q - (intOf v).toNat)
      case atStart => exact ⟨0, rfl, Nat.zero_le _, HBL⟩
      case round =>
        clear HBL
        obtain ⟨i, rfl, hi, HN⟩ := hrel
        by_cases hil : i < q
        · obtain ⟨x, hx⟩ : ∃ x, g[i]? = some x := ⟨_, List.getElem?_eq_getElem (by rw [HGL.out]; omega)⟩
          have hxq : (g.take q)[i]? = some x := by rw [List.getElem?_take_of_lt hil]; exact hx
          obtain ⟨A, hA⟩ : ∃ A, (Seg.starts (Seg.headB id).length (g.take q))[i]? = some A := ⟨_, List.getElem?_eq_getElem (by rw [Seg.starts_len, HQ1.out]; exact hil)⟩
          have hAE : (H :: es)[i]? = some A := by
            rw [Seg.starts_take, List.getElem?_take_of_lt hil, Seg.starts_idx g _ i (by rw [HGL.out]; omega), HHE.out, HES.out] at hA
            exact hA
          obtain ⟨e0, he0⟩ : ∃ e0, es[0]? = some e0 := ⟨_, List.getElem?_eq_getElem (by rw [HEL.out]; omega)⟩
          obtain ⟨b1, f1, rfl, hr1, _⟩ := op_idx HN.out.xo hxq
          obtain ⟨b3, f3, rfl, hr3, _⟩ := op_idx HN.out.wn.o hx
          obtain ⟨b2, f2, rfl, hc2, _⟩ := int_idx HN.out.xa hA
          obtain ⟨be, fe, rfl, _, _⟩ := int_idx HN.out.wn.e (by rw [HHE.out, HES.out]; exact he0)
          have HBI : Hid (Bi wr id i q g16 U x A b1 f1 b2 f2 b3 f3 c1 c2) := Lib.hid ⟨HN.out.x, hr1, hr3, hc2⟩
          have HAE := Lib.hid hAE
          clear hx hxq hA hAE he0 hr1 hr3 hc2
          go_wp2_with fail
          go_upto_region 25 with fail
          refine wp_region_held_drew (S := fun w' => Bi w' id i q g16 U x A b1 f1 b2 f2 b3 f3 c1 c2) (by kernel_rfl) (HBI.out.below (drew_below _)) (fun hS => ?_)
          refine held_take 0 105 (.pointer (some ⟨g16, 1, none⟩)) rfl rfl (by kernel_rfl) (by kernel_rfl) (by kernel_rfl) (fun _ _ _ h => h) (by kernel_rfl) (fun _ _ => (by kernel_rfl)) hS ?_
          simp only [Act.put, List.setIfInBounds_toArray, List.set_cons_zero, List.set_cons_succ]
          refine held_take 1 106 (.slice (some ⟨b1, f1, none⟩) q c1) rfl rfl (by kernel_rfl) (by kernel_rfl) (by kernel_rfl) (fun _ _ _ h => h) (by kernel_rfl) (fun _ h => exec_ldC 41 agg41 rfl rfl (by rw [h.xb.cell]; rfl)) hS ?_
          simp only [Act.put, List.setIfInBounds_toArray, List.set_cons_zero, List.set_cons_succ]
          refine held_take 2 107 (.int .i64 (i : Int)) rfl rfl (by kernel_rfl) (by kernel_rfl) (by kernel_rfl) (fun _ _ _ h => h) (by kernel_rfl) (fun _ _ => rfl) hS ?_
          simp only [Act.put, List.setIfInBounds_toArray, List.set_cons_zero, List.set_cons_succ]
          refine held_take 3 108 (.pointer (some ⟨b1, f1 + i * 23, none⟩)) rfl rfl (by kernel_rfl) (by kernel_rfl) (by kernel_rfl) (fun _ _ _ h => h) (by kernel_rfl) (fun _ _ => exec_idxO (i := i) rfl rfl rfl rfl hil) hS ?_
          simp only [Act.put, List.setIfInBounds_toArray, List.set_cons_zero, List.set_cons_succ]
          refine held_take 4 109 (.agg x.arr) rfl rfl (by kernel_rfl) (by kernel_rfl) (by kernel_rfl) (fun _ _ _ h => h) (by kernel_rfl) (fun _ h => exec_ldO (p := x) rfl rfl h.r1) hS ?_
          simp only [Act.put, List.setIfInBounds_toArray, List.set_cons_zero, List.set_cons_succ]
          refine held_take 5 110 (.slice (some ⟨b3, f3, none⟩) j gc) rfl rfl (by kernel_rfl) (by kernel_rfl) (by kernel_rfl) (fun _ _ _ h => h) (by kernel_rfl) (fun _ _ => rfl) hS ?_
          simp only [Act.put, List.setIfInBounds_toArray, List.set_cons_zero, List.set_cons_succ]
          refine held_take 6 111 (.int .i64 (i : Int)) rfl rfl (by kernel_rfl) (by kernel_rfl) (by kernel_rfl) (fun _ _ _ h => h) (by kernel_rfl) (fun _ _ => rfl) hS ?_
          simp only [Act.put, List.setIfInBounds_toArray, List.set_cons_zero, List.set_cons_succ]
          refine held_take 7 112 (.pointer (some ⟨b3, f3 + i * 23, none⟩)) rfl rfl (by kernel_rfl) (by kernel_rfl) (by kernel_rfl) (fun _ _ _ h => h) (by kernel_rfl) (fun _ _ => exec_idxO (i := i) rfl rfl rfl rfl (by omega)) hS ?_
          simp only [Act.put, List.setIfInBounds_toArray, List.set_cons_zero, List.set_cons_succ]
          refine held_take 8 113 (.agg x.arr) rfl rfl (by kernel_rfl) (by kernel_rfl) (by kernel_rfl) (fun _ _ _ h => h) (by kernel_rfl) (fun _ h => exec_ldO (p := x) rfl rfl h.r3) hS ?_
          simp only [Act.put, List.setIfInBounds_toArray, List.set_cons_zero, List.set_cons_succ]
          refine held_take 9 114 (.bool false) rfl rfl (by kernel_rfl) (by kernel_rfl) (by kernel_rfl) (fun _ _ _ h => h) (by kernel_rfl) (fun _ _ => exec_neq29 (a := x) (b := x) rfl rfl rfl rfl) hS ?_
          simp only [Act.put, List.setIfInBounds_toArray, List.set_cons_zero, List.set_cons_succ]
          refine held_take 10 115 (.bool false) rfl rfl (by kernel_rfl) (by kernel_rfl) (by kernel_rfl) (fun _ _ _ h => h) (by kernel_rfl) (fun _ _ => rfl) hS ?_
          simp only [Act.put, List.setIfInBounds_toArray, List.set_cons_zero, List.set_cons_succ]
          refine held_take 11 116 (.pointer (some ⟨g16, 2, none⟩)) rfl rfl (by kernel_rfl) (by kernel_rfl) (by kernel_rfl) (fun _ _ _ h => h) (by kernel_rfl) (fun _ _ => (by kernel_rfl)) hS ?_
          simp only [Act.put, List.setIfInBounds_toArray, List.set_cons_zero, List.set_cons_succ]
          refine held_take 12 117 (.slice (some ⟨b2, f2, none⟩) q c2) rfl rfl (by kernel_rfl) (by kernel_rfl) (by kernel_rfl) (fun _ _ _ h => h) (by kernel_rfl) (fun _ h => exec_ldC 42 agg42 rfl rfl (by rw [h.xb.cell]; rfl)) hS ?_
          simp only [Act.put, List.setIfInBounds_toArray, List.set_cons_zero, List.set_cons_succ]
          refine held_take 13 118 (.int .i64 (i : Int)) rfl rfl (by kernel_rfl) (by kernel_rfl) (by kernel_rfl) (fun _ _ _ h => h) (by kernel_rfl) (fun _ _ => rfl) hS ?_
          simp only [Act.put, List.setIfInBounds_toArray, List.set_cons_zero, List.set_cons_succ]
          refine held_take 14 119 (.pointer (some ⟨b2, f2 + i, none⟩)) rfl rfl (by kernel_rfl) (by kernel_rfl) (by kernel_rfl) (fun _ _ _ h => h) (by kernel_rfl) (fun _ _ => exec_idxN (i := i) rfl rfl rfl rfl hil) hS ?_
          simp only [Act.put, List.setIfInBounds_toArray, List.set_cons_zero, List.set_cons_succ]
          refine held_take 15 120 (.int .i64 (A : Int)) rfl rfl (by kernel_rfl) (by kernel_rfl) (by kernel_rfl) (fun _ _ _ h => h) (by kernel_rfl) (fun _ h => exec_ldC 3 agg3 rfl rfl h.c2) hS ?_
          simp only [Act.put, List.setIfInBounds_toArray, List.set_cons_zero, List.set_cons_succ]
          refine held_take 16 121 (.int .i64 (H : Int)) rfl rfl (by kernel_rfl) (by kernel_rfl) (by kernel_rfl) (fun _ _ _ h => h) (by kernel_rfl) (fun _ _ => rfl) hS ?_
          simp only [Act.put, List.setIfInBounds_toArray, List.set_cons_zero, List.set_cons_succ]
          refine held_take 18 123 (.slice (some ⟨be, fe, none⟩) j ec) rfl rfl (by kernel_rfl) (by kernel_rfl) (by kernel_rfl) (fun _ _ _ h => h) (by kernel_rfl) (fun _ _ => rfl) hS ?_
          simp only [Act.put, List.setIfInBounds_toArray, List.set_cons_zero, List.set_cons_succ]
          refine held_take 20 125 (.int .i64 (i : Int)) rfl rfl (by kernel_rfl) (by kernel_rfl) (by kernel_rfl) (fun _ _ _ h => h) (by kernel_rfl) (fun _ _ => rfl) hS ?_
          simp only [Act.put, List.setIfInBounds_toArray, List.set_cons_zero, List.set_cons_succ]
          have HBX : Hid (Below wr.heap.size wr (wr.drew.alloc (.cells #[.int .i64 (H : Int)] 3))) := Lib.hid ((drew_below wr).trans ((below_one wr.drew _).mono (Nat.le_refl _)))
          refine held_exec 17 122 (.slice (some ⟨wr.drew.heap.size, 0, none⟩) 1 1) rfl rfl (by kernel_rfl) (by kernel_rfl) (exec_bsN (n := H) rfl rfl) (hS.below (below_one wr.drew _)) ?_
          simp only [Act.put, List.setIfInBounds_toArray, List.set_cons_zero, List.set_cons_succ]
          have HLT := Lib.hid (own_lit wr.drew (H : Int))
          have hg8 : wr.heap.size ≤ wr.drew.heap.size := Nat.le_refl _
          have hg9 : wr.drew.heap.size ≤ (wr.drew.alloc (.cells #[.int .i64 (H : Int)] 3)).heap.size := (below_one wr.drew _).size
          generalize wr.drew.alloc (.cells #[.int .i64 (H : Int)] 3) = wx at HLT HBX hg9 ⊢
          generalize wr.drew.heap.size = g8 at HLT hg8 hg9 ⊢
          refine held_appendN (es := es) 19 124 rfl rfl (by kernel_rfl) (by kernel_rfl) rfl rfl rfl HLT.out HEL.out (ints_at (by have := (HN.out.wn.e.below HBX.out); rw [HHE.out, HES.out] at this; exact this)) (by omega) (by omega) hg9 (fun a9 c9 w9 ho9 hk9 _ => ?_)
          have hb9 : Below wr.heap.size wr w9 := HBX.out.trans (hk9.below HBX.out.size (fun m ⟨ad, e1, e2⟩ => by obtain rfl := Option.some.inj e1; rw [e2]; exact hg8))
          have HN9 := Lib.hid (HN.out.below hb9)
          have hS := HBI.out.below hb9
          obtain ⟨b9, f9, rfl, hc9, hl9⟩ := int_idx (es := H :: es) ho9 HAE.out
          refine ⟨hS, ?_⟩
          simp only [Act.put, List.setIfInBounds_toArray, List.set_cons_zero, List.set_cons_succ]
          refine held_exec 21 126 (.pointer (some ⟨b9, f9 + i, none⟩)) rfl rfl (by kernel_rfl) (by kernel_rfl) (exec_idxN (i := i) rfl rfl rfl rfl hl9) hS ?_
          simp only [Act.put, List.setIfInBounds_toArray, List.set_cons_zero, List.set_cons_succ]
          refine held_exec 22 127 (.int .i64 (A : Int)) rfl rfl (by kernel_rfl) (by kernel_rfl) (exec_ldC 3 agg3 rfl rfl hc9) hS ?_
          simp only [Act.put, List.setIfInBounds_toArray, List.set_cons_zero, List.set_cons_succ]
          refine held_exec 23 128 (.bool false) rfl rfl (by kernel_rfl) (by kernel_rfl) (exec_neqI trivial rfl rfl rfl (by simp)) hS ?_
          simp only [Act.put, List.setIfInBounds_toArray, List.set_cons_zero, List.set_cons_succ]
          refine held_exec 24 129 (.bool false) rfl rfl (by kernel_rfl) (by kernel_rfl) (by kernel_rfl) hS ?_
          simp only [Act.put, List.setIfInBounds_toArray, List.set_cons_zero, List.set_cons_succ]
          refine wpAnyH_done (by kernel_rfl) ?_ _
          clear hS hb9 hc9 hl9 ho9 hk9 hg8 hg9 HLT HBX HBI HN
          go_wp2_with fail
          go_roundw
          case rel => exact ⟨i + 1, by go_num, by omega, HN9⟩
          case measure => simp [intOf]; omega
        · have hscf : Seg.scan ((Seg.headB id ++ Seg.recs g) ++ Frm.fr (Seg.pairB 3 j)) = some (id, ⟨g, Seg.starts (Seg.headB id).length g, nb + (Frm.fr (Seg.pairB 3 j)).length, true⟩) := by
            have := HSCF.out
            rw [HGL.out, List.append_nil, HHE.out, HRE.out, hsum] at this
            rw [List.append_assoc, HHE.out]
            exact this
          have HSF := Lib.hid hscf
          clear hscf
          go_wp2_with fail
          refine (foot_ok j wr (HT1.out.below HN.out.wn.old) (by omega)).mono ?_
          rintro e w7 ⟨fa, fc, rfl, hfo, hfb⟩
          have HW7 := Lib.hid (HN.out.wn.below hfb)
          have HFS := Lib.hid (Frm.fr_lt (Seg.pair_lt 3 j))
          have hfl := Seg.fr_pair_le (k := 3) (n := j) (by omega) (by omega)
          have HFW := Lib.hid (hfo.row HFS.out)
          have HFZ := Lib.hid hfo.cap.2.2
          have HBW := Lib.hid (HW7.out.b.row HBS.out)
          have HBZ := Lib.hid HW7.out.b.cap.2.2
          clear hfo hfb HN
          generalize Frm.fr (Seg.pairB 3 j) = fl at HSF HFS hfl HFW HFZ
          generalize hfF : fl.length = F at HSF hfl HFW HFZ ⊢
          go_wp2_with (at_builtin; first
            | (refine wpList_append_own_row w7 rfl _ _ rfl w7.heap.size none 0 0 [] rfl (own_nil _ _) ba nb bc _ rfl HBW.out HBZ.out (by omega) (Nat.le_refl _) ?_
               intro ca cc w8 ho8 hk8 _
               simp only [Nat.zero_add, List.nil_append] at ho8 ⊢
               have HO8 := Lib.hid ho8
               have HB8 := Lib.hid (hk8.below (B := w7.heap.size) (Nat.le_refl _) (fun i hi => by obtain ⟨ad, h1, h2⟩ := hi; cases h1))
               clear ho8 hk8)
            | (refine wpList_append_own_row w8 rfl _ _ rfl w7.heap.size ca nb cc _ rfl HO8.out fa F fc fl rfl (HFW.out.below HB8.out) HFZ.out (by omega) HB8.out.size ?_
               intro da dc w9 ho9 hk9 _
               have HO9 := Lib.hid ho9
               have HB9 := Lib.hid (HB8.out.trans (hk9.below HB8.out.size (fun i hi => by obtain ⟨ad, h1, h2⟩ := hi; have := (HO8.out.lt ad h1).1; omega)))
               clear ho9 hk9))
          have HFB : Hid (∀ c ∈ (Seg.headB id ++ Seg.recs g) ++ fl, c < 256) := Lib.hid (fun c hc => by
            rcases List.mem_append.1 hc with h | h
            · exact HBS.out c h
            · exact HFS.out c h)
          refine (sscan_any da (nb + F) dc _ w9 ((HT1.out.below HW7.out.old).below HB9.out) (HO9.out.row HFB.out) HO9.out.cap.2.2 HO9.out.cap.1 (by omega)).mono ?_
          intro e w10 hq
          obtain ⟨a3, c3, a4, c4, rfl, hl1, hl2, hb10⟩ := tells_of (n := j) HSF.out HGL.out (by rw [Seg.starts_len]; exact HGL.out) hq
          have HBA : Hid (Below w1.heap.size w1 w10) := Lib.hid (HW7.out.old.trans ((HB9.out.trans (hb10.mono HB9.out.size)).mono HW7.out.old.size))
          clear hq hl1 hl2 hb10 HO9 HO8 HB8 HB9 HW7
          simp only
          go_wp2_with (first | (refine wpList_run rfl (exec_ialloc44 rfl) ?_) | (refine wpList_istop44 rfl ?_))
          refine ⟨?_⟩
          refine wpList_void rfl rfl (exec_istore44 (id := 0) (id2 := id) (a1 := a3) (n1 := j) (c1 := c3) (a2 := a4) (n2 := j) (c2 := c4) (s2 := true) (u2 := nb + F) (u := 0) rfl rfl rfl (Blk.new w10 44 infoZ)) ?_
          have hlo := ilaid_old w10 infoZ (infoV id (.slice a3 j c3) (.slice a4 j c4) true (nb + F))
          have hx := ilaid_blk w10 infoZ (infoV id (.slice a3 j c3) (.slice a4 j c4) true (nb + F))
          have HBE := Lib.hid (HB1.out.trans ((HBA.out.trans (hlo.mono HBA.out.size)).mono HB1.out.size))
          clear hlo HBA
          generalize (w10.alloc (.cells infoZ 44)).setRow w10.heap.size (infoV id (.slice a3 j c3) (.slice a4 j c4) true (nb + F)) = w11 at hx HBE
          generalize w10.heap.size = g21 at hx
          have m1 : w11.cell? ⟨g21, 1, none⟩ = some (.slice a3 j c3) := by rw [hx.cell]; rfl
          have m3 : w11.cell? ⟨g21, 3, none⟩ = some (.bool true) := by rw [hx.cell]; rfl
          have m4 : w11.cell? ⟨g21, 4, none⟩ = some (.int .i64 ((nb : Int) + (F : Int))) := by rw [hx.cell]; rfl
          clear hx
          go_wp2_with fail
          go_ret
          exact ⟨rfl, HBE.out⟩

set_option maxRecDepth 100000 in
theorem lifted (os : Os) (started : os.Started) (H : Type) (enc : TypeId × Value → H) :
    ReturnsInHanded {} Tryd.checked os 5 .any (fun w args => (Rows.segmentBackSpec.pre enc Tryd.prog Tryd.f5 [] false w args ∧ laidMetH Tryd.prog laid1 w) ∧ sizedMet enc Tryd.prog Tryd.f5 (OpenSpec.ofChange Rows.segmentBackSpec) false w args)
      (Rows.segmentBackSpec.post enc Tryd.prog Tryd.f5 false true false false) := by
  refine returnsInHanded_of_change_and (C := Tryd.checked) (X := fun w _ => laidMetH Tryd.prog laid1 w) (fun _ _ _ hh h => h.of_heap hh) own started (by kernel_rfl) Tryd.func5
    (ChangeSpec.witness_shaped (enc := enc) (C := Tryd.checked) (os := os) (X := fun w _ => laidMetH Tryd.prog laid1 w) false (World.doorLaid Tryd.prog 914 os) #[.int .u32 0, .slice none 0 0, .int .u16 0] 8 rfl (World.shaped_of_RefB (by kernel_rfl) (by kernel_rfl)) (by kernel_rfl) (by kernel_rfl) (by kernel_rfl) (door_met os _)) ?_
  intro W base args ds gs before hval0 hW _ _ hL _
  have hval : ∀ (j : Nat) t v, Tryd.f5.params[j]? = some t → args[j]? = some v → Value.okWide Tryd.prog W .any base t v := hval0
  have hW' := hW
  obtain ⟨p, q, hA0, hV, rfl, hfz, hnd⟩ := hW
  have hA : DataW.TrodAll enc Tryd.prog W 0 (fun _ => true) true Tryd.f5.params.toList args.toList ds p := hA0
  rw [Tryd.params5] at hA hval
  obtain ⟨v0, v1, v2, d0, d1, d2, p0, p1, p2, rfl, rfl, rfl, h0, h1, h2⟩ := trodAll_three hA
  obtain ⟨rfl, rfl⟩ := trodVars_none hV
  obtain ⟨m0, rfl, rfl, rfl, w0⟩ := open_int Tryd.underlying22 (hval 0 22 v0 rfl rfl) h0
  obtain ⟨a1, len1, cap1, rfl⟩ := okWide_slice Tryd.underlying41 (hval 1 41 v1 rfl rfl)
  obtain ⟨m2, rfl, rfl, rfl, w2⟩ := open_int Tryd.underlying25 (hval 2 25 v2 rfl rfl) h2
  have c0 := bounds_u32 w0
  obtain ⟨n0, rfl⟩ := Int.eq_ofNat_of_zero_le c0.1
  have lt1 : ∀ x ∈ p1, x.block < W.heap.size := by obtain ⟨m, hm⟩ := h1; exact DataW.trod_lt m _ _ _ hm
  obtain ⟨m1, l1, x1⟩ := ops_of h1
  have c2 := bounds_u16 w2
  obtain ⟨n2, rfl⟩ := Int.eq_ofNat_of_zero_le c2.1
  clear hA0 hval0
  refine (walk n0 a1 len1 cap1 l1 n2 W (of_laid hL) (by omega) (by unfold maxLen at m1; omega) x1 (by omega)).mono fun e W' ⟨he, bel⟩ => ?_
  subst he
  exact ⟨_, rfl, _, _, _, [], _, [], hW', trodAll_mk1 (shut_bool Tryd.underlying4 _), trodAll_mk3 (shut_int Tryd.underlying22 w0) (Below.trod laidOut (by kernel_rfl) (of_decide_eq_true (by kernel_rfl)) h1 bel lt1) (shut_int Tryd.underlying25 w2), rfl, bel.frame _, fun h => by cases h⟩

theorem row_holds : Rows.SegmentBackSaid :=
  OpenClaim.holds_of_wide 5 Tryd.f5 rfl rfl rfl rfl rfl rfl rfl ⟨rfl, rfl, rfl, rfl, rfl⟩ rfl rfl rfl rfl rfl (by kernel_rfl) Tryd.func5 (by kernel_rfl)
    (of_decide_eq_true (by kernel_rfl)) (by unfold Func.isWrapper; first | (rw [if_pos (by decide +kernel)]; kernel_rfl) | (rw [if_neg (by decide +kernel)]; exact ⟨rfl, rfl⟩))
    (fun os started H enc _ => lifted os started H enc)
end SegmentBack

theorem segmentBack_card : Rows.SegmentBackCardSaid :=
  Claim7.holds_tied_plain_at .later [] [.data] true (true, "5cb79ddcbf4508aa173619bff2636ccbe3431f194f34513c361fdadce8ffbb83") false
    SegmentBack.row_holds (fun _ h => by cases h) (by kernel_rfl) (fun _ h => by cases h) segmentBack_row_tie rfl ⟨rfl, rfl⟩ (by kernel_rfl) rfl
    (fun f fn hf hfn => by
      obtain rfl : f = 5 := Option.some.inj ((show Tryd.prog.funcNamed "trug/truglaw12.SegmentBack" = some 5 by kernel_rfl).symm.trans hf) |>.symm
      obtain rfl : fn = Tryd.f5 := (Option.some.inj (Tryd.func5.symm.trans hfn)).symm
      exact ⟨by kernel_rfl, fun j t ht => by
        rw [Tryd.params5] at ht
        have hm : t ∈ [22, 41, 25] := by simpa using Array.mem_of_getElem? ht
        have hall : ([22, 41, 25].all fun u => !Tryd.prog.wantsStandIn u) = true := by kernel_rfl
        exact (show Tryd.prog.wantsStandIn t = false by simpa using List.all_eq_true.1 hall t hm)⟩)
    (by kernel_rfl)
#print axioms segmentBack_card
end Go.Proofs.YtfnaccmgmocolaaDoor
