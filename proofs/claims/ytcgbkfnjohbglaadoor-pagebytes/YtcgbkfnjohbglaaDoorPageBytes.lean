/- PageBytes is proved: the bytes of any page, and the page of any bytes, are those of the document, or refused; the table of four bits is tied to the program's text. No other condition. -/
import Derived.Test.YtcgbkfnjohbglaaDoorPv
namespace Go.Proofs.YtcgbkfnjohbglaaDoor
namespace PageBytes
open Go.ChangeShapes Go.WideShapes Go.ChangeAt Go.RowKit

structure Fz (w W : World) (xa ya : Option Addr) (X : List Nat) (g h : Nat) (D : Pg) (a1 : Option Addr) (n1 c1 : Nat) (a2 : Option Addr) (n2 c2 : Nat) (a3 : Option Addr) (n3 c3 : Nat) (b1 : Option Addr) (m1 d1 : Nat) (b2 : Option Addr) (m2 d2 : Nat) (b3 : Option Addr) (m3 d3 : Nat) : Prop where
  rx : Row W xa X.length X
  ry : Row W ya X.length X
  u : Blk W g 40 (pgA D.leaf a1 n1 c1 a2 n2 c2 a3 n3 c3)
  pu : PV W D a1 n1 a2 n2 a3 n3
  v : Blk W h 26 (pgA D.leaf b1 m1 d1 b2 m2 d2 b3 m3 d3)
  pv : PV W D b1 m1 b2 m2 b3 m3
  old : Below w.heap.size w W
theorem Fz.below {w W W' : World} {xa ya : Option Addr} {X : List Nat} {g h : Nat} {D : Pg} {a1 : Option Addr} {n1 c1 : Nat} {a2 : Option Addr} {n2 c2 : Nat} {a3 : Option Addr} {n3 c3 : Nat} {b1 : Option Addr} {m1 d1 : Nat} {b2 : Option Addr} {m2 d2 : Nat} {b3 : Option Addr} {m3 d3 : Nat} (f : Fz w W xa ya X g h D a1 n1 c1 a2 n2 c2 a3 n3 c3 b1 m1 d1 b2 m2 d2 b3 m3 d3) (hb : Below W.heap.size W W') : Fz w W' xa ya X g h D a1 n1 c1 a2 n2 c2 a3 n3 c3 b1 m1 d1 b2 m2 d2 b3 m3 d3 :=
  ⟨f.rx.below hb, f.ry.below hb, f.u.below hb, f.pu.below hb, f.v.below hb, f.pv.below hb, f.old.trans (hb.mono f.old.size)⟩

/-- What the copy leaves while they stand. -/
def OzP (w : World) (xa ya : Option Addr) (X : List Nat) (g h : Nat) (D : Pg) (a1 : Option Addr) (n1 c1 : Nat) (a2 : Option Addr) (n2 c2 : Nat) (a3 : Option Addr) (n3 c3 : Nat) (b1 : Option Addr) (m1 d1 : Nat) (b2 : Option Addr) (m2 d2 : Nat) (b3 : Option Addr) (m3 d3 : Nat) (e : Ending) (w' : World) : Prop :=
  ∃ y1 z1 y2 z2, e = .returned (.agg (pgA D.leaf y1 n1 z1 y2 n2 z2 a3 n3 c3)) ∧ PV w' D y1 n1 y2 n2 a3 n3 ∧ Fz w w' xa ya X g h D a1 n1 c1 a2 n2 c2 a3 n3 c3 b1 m1 d1 b2 m2 d2 b3 m3 d3

set_option maxHeartbeats 8000000 in
set_option maxRecDepth 100000 in
theorem walk (P : Pg) (a1 : Option Addr) (n1 c1 : Nat) (a2 : Option Addr) (n2 c2 : Nat) (a3 : Option Addr) (n3 c3 : Nat) (a : Option Addr) (len cap : Nat) (bs : List Nat) (W : World) (hT : Tab W) (_m1 : n1 ≤ maxLen) (_m2 : n2 ≤ maxLen) (_m3 : n3 ≤ maxLen) (hP : PV W P a1 n1 a2 n2 a3 n3) (hB : In W a len cap bs) :
    Calls Tryd.prog 4 #[.agg (pgA P.leaf a1 n1 c1 a2 n2 c2 a3 n3 c3), .slice a len cap] W (Says (.bool true) W) := by
  have H0 : Hid (Rz W (W.alloc (.cells (pgA P.leaf a1 n1 c1 a2 n2 c2 a3 n3 c3) 26)) W.heap.size P a1 n1 c1 a2 n2 c2 a3 n3 c3 a len cap bs) := Lib.hid ⟨Blk.new W 26 _, hP.below (below_one _ _), hB.below (below_one _ _), hT.below (below_one _ _), below_one _ _⟩
  have hlm := hB.max
  clear hT hP hB _m1 _m2 _m3
  show Calls Tryd.prog 4 #[.agg #[.bool P.leaf, .slice a1 n1 c1, .slice a2 n2 c2, .slice a3 n3 c3], .slice a len cap] W (Says (.bool true) W)
  go_enter Tryd.func4, Tryd.ntmps4
  go_upto_region 1 with fail
  try simp only [World.size_alloc, Act.put, List.setIfInBounds_toArray, List.set_cons_zero, List.set_cons_succ]
  generalize W.alloc (.cells #[.bool P.leaf, .slice a1 n1 c1, .slice a2 n2 c2, .slice a3 n3 c3] 26) = w0 at H0 ⊢
  obtain ⟨p, hp1⟩ : ∃ p, W.heap.size = p := ⟨_, rfl⟩
  rw [hp1] at H0
  rw [hp1]
  clear hp1
  go_wp2_with fail
  refine (alive_any _ H0.out.tab).mono ?_
  rintro e w1 ⟨rfl, hb⟩
  have H1 := Lib.hid (H0.out.below hb)
  clear hb H0
  go_wp2_with (refine wpList_run rfl (exec_load26 rfl rfl H1.out.box) ?_)
  have HF := Lib.hid (few_any P.leaf a1 n1 c1 a2 n2 c2 a3 n3 c3 w1)
  by_cases hf : n1 ≤ 300 ∧ n2 ≤ 300 ∧ n3 ≤ 300
  case neg =>
    rw [show (decide (n1 ≤ 300) && decide (n2 ≤ 300) && decide (n3 ≤ 300)) = false by simp; omega] at HF
    clear hf
    refine HF.out.mono ?_
    rintro e w2 ⟨rfl, hb⟩
    have H2 := Lib.hid (H1.out.below hb)
    clear hb H1
    go_wp2_with fail
    go_ret
    exact ⟨rfl, H2.out.old⟩
  obtain ⟨f1, f2, f3⟩ := hf
  rw [show (decide (n1 ≤ 300) && decide (n2 ≤ 300) && decide (n3 ≤ 300)) = true by simp; omega] at HF
  by_cases hb300 : 300 < len
  case pos =>
    have q1 : decide ((len : Int) > 300) = true := by simp; omega
    have q1' : decide ((300 : Int) < (len : Int)) = true := by simp; omega
    refine HF.out.mono ?_
    rintro e w2 ⟨rfl, hb⟩
    have H2 := Lib.hid (H1.out.below hb)
    clear hb H1
    go_wp2_with fail
    go_ret
    exact ⟨rfl, H2.out.old⟩
  have q1 : decide ((len : Int) > 300) = false := by simp; omega
  have q1' : decide ((300 : Int) < (len : Int)) = false := by simp; omega
  have hl300 : len ≤ 300 := by omega
  clear hb300
  refine HF.out.mono ?_
  rintro e w2 ⟨rfl, hb⟩
  have H2 := Lib.hid (H1.out.below hb)
  clear hb H1 HF
  go_upto_region 5 with fail
  clear q1 q1'
  go_wp2_with (refine wpList_run rfl (exec_load26 rfl rfl H2.out.box) ?_)
  refine (H2.out.theirs (by omega) (by omega)).mono ?_
  rintro e w3 ⟨b1, d1, b2, d2, rfl, hpv, h3⟩
  have H3 := Lib.hid h3
  have HPV := Lib.hid hpv
  clear hpv h3 H2
  go_wp2_with fail
  refine (encode_any d1 d2 c3 H3.out.tab HPV.out (by omega)).mono ?_
  intro e w4 he
  obtain ⟨xa, xc, rfl, hrx, _, _, hb⟩ := he.form
  have HRX := Lib.hid hrx
  have H4 := Lib.hid (H3.out.below hb)
  clear he hrx hb H3 HPV
  go_upto_region 6 with fail
  go_wp2_with (refine wpList_run rfl (exec_load26 rfl rfl H4.out.box) ?_)
  refine (rencode_any c1 c2 c3 H4.out.pv (by omega)).mono ?_
  intro e w5 he
  obtain ⟨ya, yc, rfl, hry, _, _, hb⟩ := he.form
  have HRY := Lib.hid hry
  have HRX5 := Lib.hid (HRX.out.below hb)
  have H5 := Lib.hid (H4.out.below hb)
  clear he hry hb H4 HRX
  go_upto_region 7 with fail
  have HDC := Lib.hid (decode_any a len cap bs w5 H5.out.tab H5.out.bs.row H5.out.bs.nil H5.out.bs.le (by omega))
  go_wp2_with fail
  refine HDC.out.mono ?_
  intro e w6 he
  obtain ⟨u1, s1, t1, u2, s2, t2, u3, s3, t3, rfl, hpu, hs1, hs2, hs3, hb⟩ := he.form
  have HPU := Lib.hid hpu
  have HRX6 := Lib.hid (HRX5.out.below hb)
  have HRY6 := Lib.hid (HRY.out.below hb)
  have H6 := Lib.hid (H5.out.below hb)
  clear he hpu hb H5 HRX5 HRY HDC
  obtain ⟨D, hD⟩ : ∃ D, decPg bs = D := ⟨_, rfl⟩
  have HDD := Lib.hid hD
  rw [hD] at HPU ⊢
  clear hD
  go_upto_region 8 with (refine wpList_stop40 rfl ?_)
  refine ⟨?_⟩
  refine wpList_void rfl rfl (exec_store40 rfl rfl rfl (Blk.new w6 40 (pgA false none 0 0 none 0 0 none 0 0))) ?_
  obtain ⟨hu, hbw⟩ := laid40 (w := w6) (lf := D.leaf) (a1 := u1) (n1 := s1) (c1 := t1) (a2 := u2) (n2 := s2) (c2 := t2) (a3 := u3) (n3 := s3) (c3 := t3) 40 (pgA false none 0 0 none 0 0 none 0 0)
  have HU := Lib.hid hu
  have HPU7 := Lib.hid (HPU.out.below hbw)
  have HRX7 := Lib.hid (HRX6.out.below hbw)
  have HRY7 := Lib.hid (HRY6.out.below hbw)
  have H7 := Lib.hid (H6.out.below hbw)
  clear hu hbw HPU HRX6 HRY6 H6
  generalize (w6.alloc (.cells (pgA false none 0 0 none 0 0 none 0 0) 40)).setRow w6.heap.size (pgA D.leaf u1 s1 t1 u2 s2 t2 u3 s3 t3) = w7 at HU HPU7 HRX7 HRY7 H7 ⊢
  generalize w6.heap.size = g at HU ⊢
  have HDC := Lib.hid (rdecode_any a len cap bs w7 H7.out.bs.row H7.out.bs.nil H7.out.bs.le (by omega))
  go_wp2_with fail
  refine HDC.out.mono ?_
  intro e w8 he
  obtain ⟨v1, r1, x1, v2, r2, x2, v3, r3, x3, rfl, hpv, hr1, hr2, hr3, hb⟩ := he.form
  rw [HDD.out] at hpv ⊢
  have HPV := Lib.hid hpv
  have HU8 := Lib.hid (HU.out.below hb)
  have HPU8 := Lib.hid (HPU7.out.below hb)
  have HRX8 := Lib.hid (HRX7.out.below hb)
  have HRY8 := Lib.hid (HRY7.out.below hb)
  have H8 := Lib.hid (H7.out.below hb)
  clear he hpv hb H7 HU HPU7 HRX7 HRY7 HDC
  go_upto_region 9 with (refine wpList_stop26 rfl ?_)
  refine ⟨?_⟩
  refine wpList_void rfl rfl (exec_store26 rfl rfl rfl (Blk.new w8 26 (pgA false none 0 0 none 0 0 none 0 0))) ?_
  obtain ⟨hv, hbw⟩ := laid40 (w := w8) (lf := D.leaf) (a1 := v1) (n1 := r1) (c1 := x1) (a2 := v2) (n2 := r2) (c2 := x2) (a3 := v3) (n3 := r3) (c3 := x3) 26 (pgA false none 0 0 none 0 0 none 0 0)
  generalize hX : EncL P = X at *
  have HZ : Hid (Fz W ((w8.alloc (.cells (pgA false none 0 0 none 0 0 none 0 0) 26)).setRow w8.heap.size (pgA D.leaf v1 r1 x1 v2 r2 x2 v3 r3 x3)) xa ya X g w8.heap.size D u1 s1 t1 u2 s2 t2 u3 s3 t3 v1 r1 x1 v2 r2 x2 v3 r3 x3) := Lib.hid ⟨HRX8.out.below hbw, HRY8.out.below hbw, HU8.out.below hbw, HPU8.out.below hbw, hv, HPV.out.below hbw, H8.out.old.trans (hbw.mono H8.out.old.size)⟩
  clear hv hbw HRX8 HRY8 HU8 HPU8 HPV H8 hX
  generalize (w8.alloc (.cells (pgA false none 0 0 none 0 0 none 0 0) 26)).setRow w8.heap.size (pgA D.leaf v1 r1 x1 v2 r2 x2 v3 r3 x3) = w9 at HZ ⊢
  generalize w8.heap.size = h at HZ ⊢
  generalize EncE P = ee at *
  generalize decE bs = de at *
  have HOU : Hid (∀ V, Fz W V xa ya X g h D u1 s1 t1 u2 s2 t2 u3 s3 t3 v1 r1 x1 v2 r2 x2 v3 r3 x3 → Calls Tryd.prog 23 #[.agg (pgA D.leaf u1 s1 t1 u2 s2 t2 u3 s3 t3)] V (OzP W xa ya X g h D u1 s1 t1 u2 s2 t2 u3 s3 t3 v1 r1 x1 v2 r2 x2 v3 r3 x3)) := Lib.hid (fun V f => (ours_any t1 t2 t3 f.pu (by omega) (by omega)).mono fun _ _ hc => by
    obtain ⟨b1, d1, b2, d2, he, hpv, hb⟩ := hc.pv f.pu
    exact ⟨b1, d1, b2, d2, he, hpv, f.below hb⟩)
  have HSA : Hid (∀ (V : World) y1 z1 y2 z2, PV V D y1 s1 y2 s2 u3 s3 → PV V D v1 r1 v2 r2 v3 r3 → Calls Tryd.prog 22 #[.agg (pgA D.leaf y1 s1 z1 y2 s2 z2 u3 s3 t3), .agg (pgA D.leaf v1 r1 x1 v2 r2 x2 v3 r3 x3)] V (Says (.bool true) V)) := Lib.hid (fun V y1 z1 y2 z2 hp hq => (same_any z1 z2 t3 x1 x2 x3 hp hq (by omega) (by omega) (by omega)).mono fun _ _ hs => hs.yes rfl)
  go_upto_region 9 with fail
  refine wp_region_held_drew (S := fun w' => Fz W w' xa ya X g h D u1 s1 t1 u2 s2 t2 u3 s3 t3 v1 r1 x1 v2 r2 x2 v3 r3 x3) (by kernel_rfl) (HZ.out.below (drew_below _)) (fun hS => ?_)
  refine held_take 0 44 (.slice xa X.length xc) rfl rfl (by kernel_rfl) (by kernel_rfl) (by kernel_rfl) (fun _ _ _ h => h) (by kernel_rfl) (fun _ _ => rfl) hS ?_
  simp only [Act.put, List.setIfInBounds_toArray, List.set_cons_zero, List.set_cons_succ]
  refine held_take 1 45 (.string (strOf X)) rfl rfl (by kernel_rfl) (by kernel_rfl) (by kernel_rfl) (fun _ _ _ h => h) (by kernel_rfl) (fun _ h => exec_str rfl rfl (conv_any h.rx)) hS ?_
  simp only [Act.put, List.setIfInBounds_toArray, List.set_cons_zero, List.set_cons_succ]
  refine held_take 2 46 (.slice ya X.length yc) rfl rfl (by kernel_rfl) (by kernel_rfl) (by kernel_rfl) (fun _ _ _ h => h) (by kernel_rfl) (fun _ _ => rfl) hS ?_
  simp only [Act.put, List.setIfInBounds_toArray, List.set_cons_zero, List.set_cons_succ]
  refine held_take 3 47 (.string (strOf X)) rfl rfl (by kernel_rfl) (by kernel_rfl) (by kernel_rfl) (fun _ _ _ h => h) (by kernel_rfl) (fun _ h => exec_str rfl rfl (conv_any h.ry)) hS ?_
  simp only [Act.put, List.setIfInBounds_toArray, List.set_cons_zero, List.set_cons_succ]
  refine held_take 4 48 (.bool true) rfl rfl (by kernel_rfl) (by kernel_rfl) (by kernel_rfl) (fun _ _ _ h => h) (by kernel_rfl) (fun _ _ => exec_eqlS rfl rfl rfl (beq_self_eq_true _)) hS ?_
  simp only [Act.put, List.setIfInBounds_toArray, List.set_cons_zero, List.set_cons_succ]
  refine held_take 5 49 (.bool true) rfl rfl (by kernel_rfl) (by kernel_rfl) (by kernel_rfl) (fun _ _ _ h => h) (by kernel_rfl) (fun _ _ => rfl) hS ?_
  simp only [Act.put, List.setIfInBounds_toArray, List.set_cons_zero, List.set_cons_succ]
  refine held_take 6 50 (.int .i64 (ee : Int)) rfl rfl (by kernel_rfl) (by kernel_rfl) (by kernel_rfl) (fun _ _ _ h => h) (by kernel_rfl) (fun _ _ => rfl) hS ?_
  simp only [Act.put, List.setIfInBounds_toArray, List.set_cons_zero, List.set_cons_succ]
  refine held_take 7 51 (.int .i64 (ee : Int)) rfl rfl (by kernel_rfl) (by kernel_rfl) (by kernel_rfl) (fun _ _ _ h => h) (by kernel_rfl) (fun _ _ => rfl) hS ?_
  simp only [Act.put, List.setIfInBounds_toArray, List.set_cons_zero, List.set_cons_succ]
  refine held_take 8 52 (.bool true) rfl rfl (by kernel_rfl) (by kernel_rfl) (by kernel_rfl) (fun _ _ _ h => h) (by kernel_rfl) (fun _ _ => exec_eqlI trivial rfl rfl rfl (by simp)) hS ?_
  simp only [Act.put, List.setIfInBounds_toArray, List.set_cons_zero, List.set_cons_succ]
  refine held_take 9 53 (.bool true) rfl rfl (by kernel_rfl) (by kernel_rfl) (by kernel_rfl) (fun _ _ _ h => h) (by kernel_rfl) (fun _ _ => rfl) hS ?_
  simp only [Act.put, List.setIfInBounds_toArray, List.set_cons_zero, List.set_cons_succ]
  refine held_take 10 54 (.bool true) rfl rfl (by kernel_rfl) (by kernel_rfl) (by kernel_rfl) (fun _ _ _ h => h) (by kernel_rfl) (fun _ _ => rfl) hS ?_
  simp only [Act.put, List.setIfInBounds_toArray, List.set_cons_zero, List.set_cons_succ]
  refine held_take 11 55 (.agg (pgA D.leaf u1 s1 t1 u2 s2 t2 u3 s3 t3)) rfl rfl (by kernel_rfl) (by kernel_rfl) (by kernel_rfl) (fun _ _ _ h => h) (by kernel_rfl) (fun _ h => exec_load40 rfl rfl h.u) hS ?_
  simp only [Act.put, List.setIfInBounds_toArray, List.set_cons_zero, List.set_cons_succ]
  refine held_take 13 57 (.agg (pgA D.leaf v1 r1 x1 v2 r2 x2 v3 r3 x3)) rfl rfl (by kernel_rfl) (by kernel_rfl) (by kernel_rfl) (fun _ _ _ h => h) (by kernel_rfl) (fun _ h => exec_load26 rfl rfl h.v) hS ?_
  simp only [Act.put, List.setIfInBounds_toArray, List.set_cons_zero, List.set_cons_succ]
  refine held_callP 12 56 23 #[(.agg (pgA D.leaf u1 s1 t1 u2 s2 t2 u3 s3 t3))] rfl (by kernel_rfl) rfl (by kernel_rfl) (by kernel_rfl) (HOU.out _ hS) (fun e w112 hP => ?_)
  obtain ⟨y1, z1, y2, z2, rfl, hpy, hSn⟩ := hP
  refine ⟨_, rfl, hSn, fun hS => ?_⟩
  simp only [Act.put, List.setIfInBounds_toArray, List.set_cons_zero, List.set_cons_succ]
  refine held_call 14 58 22 #[(.agg (pgA D.leaf y1 s1 z1 y2 s2 z2 u3 s3 t3)), (.agg (pgA D.leaf v1 r1 x1 v2 r2 x2 v3 r3 x3))] (.bool true) rfl (by kernel_rfl) rfl (by kernel_rfl) (by kernel_rfl) (HSA.out _ _ _ _ _ hpy hS.pv) (fun _ h hb => h.below hb) hS (fun w114 hS => ?_)
  simp only [Act.put, List.setIfInBounds_toArray, List.set_cons_zero, List.set_cons_succ]
  refine held_take 15 59 (.bool true) rfl rfl (by kernel_rfl) (by kernel_rfl) (by kernel_rfl) (fun _ _ _ h => h) (by kernel_rfl) (fun _ _ => rfl) hS ?_
  simp only [Act.put, List.setIfInBounds_toArray, List.set_cons_zero, List.set_cons_succ]
  refine held_take 16 60 (.bool true) rfl rfl (by kernel_rfl) (by kernel_rfl) (by kernel_rfl) (fun _ _ _ h => h) (by kernel_rfl) (fun _ _ => rfl) hS ?_
  simp only [Act.put, List.setIfInBounds_toArray, List.set_cons_zero, List.set_cons_succ]
  refine held_take 17 61 (.int .i64 (de : Int)) rfl rfl (by kernel_rfl) (by kernel_rfl) (by kernel_rfl) (fun _ _ _ h => h) (by kernel_rfl) (fun _ _ => rfl) hS ?_
  simp only [Act.put, List.setIfInBounds_toArray, List.set_cons_zero, List.set_cons_succ]
  refine held_take 18 62 (.int .i64 (de : Int)) rfl rfl (by kernel_rfl) (by kernel_rfl) (by kernel_rfl) (fun _ _ _ h => h) (by kernel_rfl) (fun _ _ => rfl) hS ?_
  simp only [Act.put, List.setIfInBounds_toArray, List.set_cons_zero, List.set_cons_succ]
  refine held_take 19 63 (.bool true) rfl rfl (by kernel_rfl) (by kernel_rfl) (by kernel_rfl) (fun _ _ _ h => h) (by kernel_rfl) (fun _ _ => exec_eqlI trivial rfl rfl rfl (by simp)) hS ?_
  simp only [Act.put, List.setIfInBounds_toArray, List.set_cons_zero, List.set_cons_succ]
  refine held_take 20 64 (.bool true) rfl rfl (by kernel_rfl) (by kernel_rfl) (by kernel_rfl) (fun _ _ _ h => h) (by kernel_rfl) (fun _ _ => rfl) hS ?_
  simp only [Act.put, List.setIfInBounds_toArray, List.set_cons_zero, List.set_cons_succ]
  refine held_take 21 4 (.bool true) rfl rfl (by kernel_rfl) (by kernel_rfl) (by kernel_rfl) (fun _ _ _ h => h) (by kernel_rfl) (fun _ _ => rfl) hS ?_
  simp only [Act.put, List.setIfInBounds_toArray, List.set_cons_zero, List.set_cons_succ]
  refine wpAnyH_done (by kernel_rfl) ?_ _
  have H5 := Lib.hid hS
  clear hS
  go_wp2_with fail
  go_ret
  exact ⟨rfl, H5.out.old⟩

set_option maxRecDepth 100000 in
theorem lifted (os : Os) (started : os.Started) (H : Type) (enc : TypeId × Value → H) :
    ReturnsInHanded {} Tryd.checked os 4 .any (fun w args => (Rows.pageBytesSpec.pre enc Tryd.prog Tryd.f4 [] false w args ∧ laidMetH Tryd.prog laid1 w) ∧ sizedMet enc Tryd.prog Tryd.f4 (OpenSpec.ofChange Rows.pageBytesSpec) false w args)
      (Rows.pageBytesSpec.post enc Tryd.prog Tryd.f4 false true false false) := by
  refine returnsInHanded_of_change_and (C := Tryd.checked) (X := fun w _ => laidMetH Tryd.prog laid1 w) (fun _ _ _ hh h => h.of_heap hh) own started (by kernel_rfl) Tryd.func4
    (ChangeSpec.witness_shaped (enc := enc) (C := Tryd.checked) (os := os) (X := fun w _ => laidMetH Tryd.prog laid1 w) false (World.doorLaid Tryd.prog 14 os) #[.agg #[.bool false, .slice none 0 0, .slice none 0 0, .slice none 0 0], .slice none 0 0] 8 rfl (World.shaped_of_RefB (by kernel_rfl) (by kernel_rfl)) (by kernel_rfl) (by kernel_rfl) (by kernel_rfl) (door_met os _)) ?_
  intro W base args ds gs before hval0 hW _ _ hL _
  have hval : ∀ (j : Nat) t v, Tryd.f4.params[j]? = some t → args[j]? = some v → Value.okWide Tryd.prog W .any base t v := hval0
  have hW' := hW
  obtain ⟨p, q, hA0, hV, rfl, hfz, hnd⟩ := hW
  have hA : DataW.TrodAll enc Tryd.prog W 0 (fun _ => true) true Tryd.f4.params.toList args.toList ds p := hA0
  rw [Tryd.params4] at hA hval
  obtain ⟨v0, v1, d0, d1, p0, p1, rfl, rfl, rfl, h0, h1⟩ := trodAll_two hA
  obtain ⟨rfl, rfl⟩ := trodVars_none hV
  obtain ⟨a1, len1, cap1, rfl⟩ := okWide_slice Tryd.underlying48 (hval 1 48 v1 rfl rfl)
  have lt0 : ∀ x ∈ p0, x.block < W.heap.size := by obtain ⟨m, hm⟩ := h0; exact DataW.trod_lt m _ _ _ hm
  obtain ⟨P0, a01, n01, c01, a02, n02, c02, a03, n03, c03, rfl, m01, m02, m03, x0⟩ := page_of (hval 0 26 v0 rfl rfl) h0
  have lt1 : ∀ x ∈ p1, x.block < W.heap.size := by obtain ⟨m, hm⟩ := h1; exact DataW.trod_lt m _ _ _ hm
  obtain ⟨l1, x1⟩ := in_of h1
  clear hA0 hval0
  refine (walk P0 a01 n01 c01 a02 n02 c02 a03 n03 c03 a1 len1 cap1 l1 W (of_laid hL) m01 m02 m03 x0 x1).mono fun e W' ⟨he, bel⟩ => ?_
  subst he
  exact ⟨_, rfl, _, _, _, [], _, [], hW', trodAll_mk1 (shut_bool Tryd.underlying4 _), trodAll_mk2 (Below.trod laidOut (by kernel_rfl) (of_decide_eq_true (by kernel_rfl)) h0 bel lt0) (Below.trod laidOut (by kernel_rfl) (of_decide_eq_true (by kernel_rfl)) h1 bel lt1), rfl, bel.frame _, fun h => by cases h⟩

theorem row_holds : Rows.PageBytesSaid :=
  OpenClaim.holds_of_wide 4 Tryd.f4 rfl rfl rfl rfl rfl rfl rfl ⟨rfl, rfl, rfl, rfl, rfl⟩ rfl rfl rfl rfl rfl (by kernel_rfl) Tryd.func4 (by kernel_rfl)
    (of_decide_eq_true (by kernel_rfl)) (by unfold Func.isWrapper; first | (rw [if_pos (by decide +kernel)]; kernel_rfl) | (rw [if_neg (by decide +kernel)]; exact ⟨rfl, rfl⟩))
    (fun os started H enc _ => lifted os started H enc)
end PageBytes

theorem pageBytes_card : Rows.PageBytesCardSaid :=
  Claim7.holds_tied_plain_at .later [] [.data] true (true, "b90d5132cacc69b8af3e47d8b89c9f2e9ff94c7b619f5af158f7875afb797316") false
    PageBytes.row_holds (fun _ h => by cases h) (by kernel_rfl) (fun _ h => by cases h) pageBytes_row_tie rfl ⟨rfl, rfl⟩ (by kernel_rfl) rfl
    (fun f fn hf hfn => by
      obtain rfl : f = 4 := Option.some.inj ((show Tryd.prog.funcNamed "trug/truglaw13.PageBytes" = some 4 by kernel_rfl).symm.trans hf) |>.symm
      obtain rfl : fn = Tryd.f4 := (Option.some.inj (Tryd.func4.symm.trans hfn)).symm
      exact ⟨by kernel_rfl, fun j t ht => by
        rw [Tryd.params4] at ht
        have hm : t ∈ [26, 48] := by simpa using Array.mem_of_getElem? ht
        have hall : ([26, 48].all fun u => !Tryd.prog.wantsStandIn u) = true := by kernel_rfl
        exact (show Tryd.prog.wantsStandIn t = false by simpa using List.all_eq_true.1 hall t hm)⟩)
    (by kernel_rfl)
#print axioms pageBytes_card
end Go.Proofs.YtcgbkfnjohbglaaDoor
