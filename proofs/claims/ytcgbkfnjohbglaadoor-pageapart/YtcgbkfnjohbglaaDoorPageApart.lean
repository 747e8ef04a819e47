/- PageApart is proved: unlike pages have unlike bytes, and no beginning of these is a page; the table of four bits is tied to the program's text. No other condition. -/
import Derived.Test.YtcgbkfnjohbglaaDoorPv
namespace Go.Proofs.YtcgbkfnjohbglaaDoor
namespace PageApart
open Go.ChangeShapes Go.WideShapes Go.ChangeAt Go.RowKit

/-- Two pages in boxes of their own. -/
structure Tz (w W : World) (p q : Nat) (P : Pg) (a1 : Option Addr) (n1 c1 : Nat) (a2 : Option Addr) (n2 c2 : Nat) (a3 : Option Addr) (n3 c3 : Nat) (Q : Pg) (q1 : Option Addr) (k1 r1 : Nat) (q2 : Option Addr) (k2 r2 : Nat) (q3 : Option Addr) (k3 r3 : Nat) : Prop where
  box1 : Blk W p 26 (pgA P.leaf a1 n1 c1 a2 n2 c2 a3 n3 c3)
  box2 : Blk W q 26 (pgA Q.leaf q1 k1 r1 q2 k2 r2 q3 k3 r3)
  pv1 : PV W P a1 n1 a2 n2 a3 n3
  pv2 : PV W Q q1 k1 q2 k2 q3 k3
  tab : Tab W
  old : Below w.heap.size w W
theorem Tz.below {w W W' : World} {p q : Nat} {P : Pg} {a1 : Option Addr} {n1 c1 : Nat} {a2 : Option Addr} {n2 c2 : Nat} {a3 : Option Addr} {n3 c3 : Nat} {Q : Pg} {q1 : Option Addr} {k1 r1 : Nat} {q2 : Option Addr} {k2 r2 : Nat} {q3 : Option Addr} {k3 r3 : Nat} (f : Tz w W p q P a1 n1 c1 a2 n2 c2 a3 n3 c3 Q q1 k1 r1 q2 k2 r2 q3 k3 r3) (hb : Below W.heap.size W W') : Tz w W' p q P a1 n1 c1 a2 n2 c2 a3 n3 c3 Q q1 k1 r1 q2 k2 r2 q3 k3 r3 :=
  ⟨f.box1.below hb, f.box2.below hb, f.pv1.below hb, f.pv2.below hb, f.tab.below hb, f.old.trans (hb.mono f.old.size)⟩
structure Uz (w W : World) (p q : Nat) (P : Pg) (a1 : Option Addr) (n1 c1 : Nat) (a2 : Option Addr) (n2 c2 : Nat) (a3 : Option Addr) (n3 c3 : Nat) (Q : Pg) (q1 : Option Addr) (k1 r1 : Nat) (q2 : Option Addr) (k2 r2 : Nat) (q3 : Option Addr) (k3 r3 : Nat) (xa : Option Addr) (xl : Nat) (X : List Nat) (ya : Option Addr) (yl : Nat) (Y : List Nat) : Prop where
  z : Tz w W p q P a1 n1 c1 a2 n2 c2 a3 n3 c3 Q q1 k1 r1 q2 k2 r2 q3 k3 r3
  rx : Row W xa xl X
  ry : Row W ya yl Y
theorem Uz.below {w W W' : World} {p q : Nat} {P : Pg} {a1 : Option Addr} {n1 c1 : Nat} {a2 : Option Addr} {n2 c2 : Nat} {a3 : Option Addr} {n3 c3 : Nat} {Q : Pg} {q1 : Option Addr} {k1 r1 : Nat} {q2 : Option Addr} {k2 r2 : Nat} {q3 : Option Addr} {k3 r3 : Nat} {xa : Option Addr} {xl : Nat} {X : List Nat} {ya : Option Addr} {yl : Nat} {Y : List Nat} (f : Uz w W p q P a1 n1 c1 a2 n2 c2 a3 n3 c3 Q q1 k1 r1 q2 k2 r2 q3 k3 r3 xa xl X ya yl Y) (hb : Below W.heap.size W W') : Uz w W' p q P a1 n1 c1 a2 n2 c2 a3 n3 c3 Q q1 k1 r1 q2 k2 r2 q3 k3 r3 xa xl X ya yl Y :=
  ⟨f.z.below hb, f.rx.below hb, f.ry.below hb⟩
theorem strOf_iff {P Q : Pg} (hp : P.right = true) (hq : Q.right = true) : ((strOf P.bytes).toList == (strOf Q.bytes).toList) = true ↔ P = Q := by
  constructor
  · intro h
    by_cases e : P.bytes = Q.bytes
    · exact bytes_inj hp hq e
    · rw [str_neF P.bytes_small Q.bytes_small e] at h; cases h
  · rintro rfl
    exact beq_self_eq_true _
/-- No beginning of the bytes is a page. -/
theorem cut_no {P : Pg} (hp : P.right = true) {k : Nat} (hk : k < P.bytes.length) : ∀ R : Pg, R.right = true → R.bytes ≠ P.bytes.take k :=
  dec_no1 (by
    have h8 := (Pg.right_iff.1 hp).1
    have := P.fields_len h8
    rw [show (Frm.first (P.bytes.take k)) = ([], 0, 4) from Frm.first_cut (by omega) hk]
    decide)

set_option maxHeartbeats 8000000 in
set_option maxRecDepth 100000 in
theorem walk (P : Pg) (a1 : Option Addr) (n1 c1 : Nat) (a2 : Option Addr) (n2 c2 : Nat) (a3 : Option Addr) (n3 c3 : Nat) (Q : Pg) (q1 : Option Addr) (k1 r1 : Nat) (q2 : Option Addr) (k2 r2 : Nat) (q3 : Option Addr) (k3 r3 : Nat) (m : Nat) (W : World) (hT : Tab W) (_m1 : n1 ≤ maxLen) (_m2 : n2 ≤ maxLen) (_m3 : n3 ≤ maxLen) (hP : PV W P a1 n1 a2 n2 a3 n3) (_k1 : k1 ≤ maxLen) (_k2 : k2 ≤ maxLen) (_k3 : k3 ≤ maxLen) (hQ : PV W Q q1 k1 q2 k2 q3 k3) (hm : m < 65536) :
    Calls Tryd.prog 8 #[.agg (pgA P.leaf a1 n1 c1 a2 n2 c2 a3 n3 c3), .agg (pgA Q.leaf q1 k1 r1 q2 k2 r2 q3 k3 r3), .int .u16 (m : Int)] W (Says (.bool true) W) := by
  have H0 : Hid (Tz W ((W.alloc (.cells (pgA P.leaf a1 n1 c1 a2 n2 c2 a3 n3 c3) 26)).alloc (.cells (pgA Q.leaf q1 k1 r1 q2 k2 r2 q3 k3 r3) 26)) W.heap.size (W.heap.size + 1) P a1 n1 c1 a2 n2 c2 a3 n3 c3 Q q1 k1 r1 q2 k2 r2 q3 k3 r3) := Lib.hid (by
    have h1 := Blk.new W 26 (pgA P.leaf a1 n1 c1 a2 n2 c2 a3 n3 c3)
    have h2 := Blk.new (W.alloc (.cells (pgA P.leaf a1 n1 c1 a2 n2 c2 a3 n3 c3) 26)) 26 (pgA Q.leaf q1 k1 r1 q2 k2 r2 q3 k3 r3)
    simp only [World.size_alloc] at h2
    have b1 := below_one W (.cells (pgA P.leaf a1 n1 c1 a2 n2 c2 a3 n3 c3) 26)
    have b2 := below_one (W.alloc (.cells (pgA P.leaf a1 n1 c1 a2 n2 c2 a3 n3 c3) 26)) (.cells (pgA Q.leaf q1 k1 r1 q2 k2 r2 q3 k3 r3) 26)
    exact ⟨h1.below b2, h2, (hP.below b1).below b2, (hQ.below b1).below b2, (hT.below b1).below b2, b1.trans (b2.mono b1.size)⟩)
  clear hT hP hQ _m1 _m2 _m3 _k1 _k2 _k3
  show Calls Tryd.prog 8 #[.agg #[.bool P.leaf, .slice a1 n1 c1, .slice a2 n2 c2, .slice a3 n3 c3], .agg #[.bool Q.leaf, .slice q1 k1 r1, .slice q2 k2 r2, .slice q3 k3 r3], .int .u16 (m : Int)] W (Says (.bool true) W)
  go_enter Tryd.func8, Tryd.ntmps8
  go_upto_region 1 with fail
  try simp only [World.size_alloc, Act.put, List.setIfInBounds_toArray, List.set_cons_zero, List.set_cons_succ]
  generalize (W.alloc (.cells #[.bool P.leaf, .slice a1 n1 c1, .slice a2 n2 c2, .slice a3 n3 c3] 26)).alloc (.cells #[.bool Q.leaf, .slice q1 k1 r1, .slice q2 k2 r2, .slice q3 k3 r3] 26) = w0 at H0 ⊢
  obtain ⟨q, hq1⟩ : ∃ q, W.heap.size + 1 = q := ⟨_, rfl⟩
  rw [hq1] at H0
  rw [hq1]
  clear hq1
  obtain ⟨p, hp1⟩ : ∃ p, W.heap.size = p := ⟨_, rfl⟩
  rw [hp1] at H0
  rw [hp1]
  clear hp1
  go_wp2_with fail
  refine (alive_any _ H0.out.tab).mono ?_
  rintro e w1 ⟨rfl, hb⟩
  have H1 := Lib.hid (H0.out.below hb)
  clear hb H0
  go_wp2_with (refine wpList_run rfl (exec_load26 rfl rfl H1.out.box1) ?_)
  have HF := Lib.hid (few_any P.leaf a1 n1 c1 a2 n2 c2 a3 n3 c3 w1)
  by_cases hf : n1 ≤ 300 ∧ n2 ≤ 300 ∧ n3 ≤ 300
  case neg =>
    rw [show (decide (n1 ≤ 300) && decide (n2 ≤ 300) && decide (n3 ≤ 300)) = false by simp; omega] at HF
    clear hf
    refine HF.out.mono ?_
    rintro e w2 ⟨rfl, hb⟩
    have H2 := Lib.hid (H1.out.below hb)
    clear hb H1
    go_wp2_with fail
    go_ret
    exact ⟨rfl, H2.out.old⟩
  obtain ⟨f1, f2, f3⟩ := hf
  rw [show (decide (n1 ≤ 300) && decide (n2 ≤ 300) && decide (n3 ≤ 300)) = true by simp; omega] at HF
  refine HF.out.mono ?_
  rintro e w2 ⟨rfl, hb⟩
  have H2 := Lib.hid (H1.out.below hb)
  clear hb H1 HF
  go_wp2_with (refine wpList_runW (exec_load26 rfl rfl H2.out.box2) (by kernel_rfl) ?_)
  have HF := Lib.hid (few_any Q.leaf q1 k1 r1 q2 k2 r2 q3 k3 r3 w2)
  by_cases hf : k1 ≤ 300 ∧ k2 ≤ 300 ∧ k3 ≤ 300
  case neg =>
    rw [show (decide (k1 ≤ 300) && decide (k2 ≤ 300) && decide (k3 ≤ 300)) = false by simp; omega] at HF
    clear hf
    refine HF.out.mono ?_
    rintro e w3 ⟨rfl, hb⟩
    have H3 := Lib.hid (H2.out.below hb)
    clear hb H2
    go_wp2_with fail
    go_ret
    exact ⟨rfl, H3.out.old⟩
  obtain ⟨g1, g2, g3⟩ := hf
  rw [show (decide (k1 ≤ 300) && decide (k2 ≤ 300) && decide (k3 ≤ 300)) = true by simp; omega] at HF
  refine HF.out.mono ?_
  rintro e w3 ⟨rfl, hb⟩
  have H3 := Lib.hid (H2.out.below hb)
  clear hb H2 HF
  go_upto_region 5 with fail
  go_wp2_with (refine wpList_run rfl (exec_load26 rfl rfl H3.out.box1) ?_)
  refine (theirs_any c1 c2 c3 H3.out.pv1 (by omega) (by omega)).mono ?_
  intro e w4 hc
  obtain ⟨b1, d1, b2, d2, rfl, hpv, hb⟩ := hc.pv H3.out.pv1
  have H4 := Lib.hid (H3.out.below hb)
  have HPV := Lib.hid hpv
  clear hpv hb hc H3
  go_wp2_with fail
  refine (encode_any d1 d2 c3 H4.out.tab HPV.out (by omega)).mono ?_
  intro e w5 he
  obtain ⟨he, hb⟩ := he
  have H5 := Lib.hid (H4.out.below hb)
  clear hb H4 HPV
  rcases he with ⟨hr, rfl⟩ | ⟨hr, xa, xc, rfl, ho⟩
  · go_upto_region 6 with fail
    go_wp2_with (refine wpList_run rfl (exec_load26 rfl rfl H5.out.box2) ?_)
    refine (theirs_any r1 r2 r3 H5.out.pv2 (by omega) (by omega)).mono ?_
    intro e w6 hc
    obtain ⟨b3, d3, b4, d4, rfl, hpv, hb⟩ := hc.pv H5.out.pv2
    have H6 := Lib.hid (H5.out.below hb)
    have HPV := Lib.hid hpv
    clear hpv hb hc H5
    go_wp2_with fail
    refine (encode_any d3 d4 r3 H6.out.tab HPV.out (by omega)).mono ?_
    intro e w7 he
    obtain ⟨he, hb⟩ := he
    have H7 := Lib.hid (H6.out.below hb)
    clear hb H6 HPV
    rcases he with ⟨hs, rfl⟩ | ⟨hs, ya, yc, rfl, ho⟩
    · have HRP := Lib.hid (fun V (hV : Tz W V p q P a1 n1 c1 a2 n2 c2 a3 n3 c3 Q q1 k1 r1 q2 k2 r2 q3 k3 r3) => rright_any c1 c2 c3 hV.pv1 (by omega))
      have HRQ := Lib.hid (fun V (hV : Tz W V p q P a1 n1 c1 a2 n2 c2 a3 n3 c3 Q q1 k1 r1 q2 k2 r2 q3 k3 r3) => rright_any r1 r2 r3 hV.pv2 (by omega))
      rw [hr] at HRP
      rw [hs] at HRQ
      clear hr hs
      go_upto_region 8 with fail
      go_wp2_with (refine wpList_run rfl (exec_load26 rfl rfl H7.out.box1) ?_)
      refine (HRP.out _ H7.out).mono ?_
      rintro e w8 ⟨rfl, hb⟩
      have H8 := Lib.hid (H7.out.below hb)
      clear hb H7
      go_wp2_with (refine wpList_runW (exec_load26 rfl rfl H8.out.box2) (by kernel_rfl) ?_)
      refine (HRQ.out _ H8.out).mono ?_
      rintro e w9 ⟨rfl, hb⟩
      have H9 := Lib.hid (H8.out.below hb)
      clear hb H8
      go_wp2_with fail
      go_ret
      exact ⟨rfl, H9.out.old⟩
    · clear ho
      have HRP := Lib.hid (fun V (hV : Tz W V p q P a1 n1 c1 a2 n2 c2 a3 n3 c3 Q q1 k1 r1 q2 k2 r2 q3 k3 r3) => rright_any c1 c2 c3 hV.pv1 (by omega))
      have HRQ := Lib.hid (fun V (hV : Tz W V p q P a1 n1 c1 a2 n2 c2 a3 n3 c3 Q q1 k1 r1 q2 k2 r2 q3 k3 r3) => rright_any r1 r2 r3 hV.pv2 (by omega))
      rw [hr] at HRP
      rw [hs] at HRQ
      clear hr hs
      go_upto_region 8 with fail
      go_wp2_with (refine wpList_run rfl (exec_load26 rfl rfl H7.out.box1) ?_)
      refine (HRP.out _ H7.out).mono ?_
      rintro e w8 ⟨rfl, hb⟩
      have H8 := Lib.hid (H7.out.below hb)
      clear hb H7
      go_wp2_with (refine wpList_runW (exec_load26 rfl rfl H8.out.box2) (by kernel_rfl) ?_)
      refine (HRQ.out _ H8.out).mono ?_
      rintro e w9 ⟨rfl, hb⟩
      have H9 := Lib.hid (H8.out.below hb)
      clear hb H8
      go_wp2_with fail
      go_ret
      exact ⟨rfl, H9.out.old⟩
  have HX5 := Lib.hid ho
  clear ho
  go_upto_region 6 with fail
  go_wp2_with (refine wpList_run rfl (exec_load26 rfl rfl H5.out.box2) ?_)
  refine (theirs_any r1 r2 r3 H5.out.pv2 (by omega) (by omega)).mono ?_
  intro e w6 hc
  obtain ⟨b3, d3, b4, d4, rfl, hpv, hb⟩ := hc.pv H5.out.pv2
  have H6 := Lib.hid (H5.out.below hb)
  have HX6 := Lib.hid (HX5.out.below hb)
  have HPV := Lib.hid hpv
  clear hpv hb hc H5
  go_wp2_with fail
  refine (encode_any d3 d4 r3 H6.out.tab HPV.out (by omega)).mono ?_
  intro e w7 he
  obtain ⟨he, hb⟩ := he
  have H7 := Lib.hid (H6.out.below hb)
  have HX7 := Lib.hid (HX6.out.below hb)
  clear hb H6 HPV
  rcases he with ⟨hs, rfl⟩ | ⟨hs, ya, yc, rfl, ho⟩
  · clear HX7
    have HRP := Lib.hid (fun V (hV : Tz W V p q P a1 n1 c1 a2 n2 c2 a3 n3 c3 Q q1 k1 r1 q2 k2 r2 q3 k3 r3) => rright_any c1 c2 c3 hV.pv1 (by omega))
    have HRQ := Lib.hid (fun V (hV : Tz W V p q P a1 n1 c1 a2 n2 c2 a3 n3 c3 Q q1 k1 r1 q2 k2 r2 q3 k3 r3) => rright_any r1 r2 r3 hV.pv2 (by omega))
    rw [hr] at HRP
    rw [hs] at HRQ
    clear hr hs
    go_upto_region 8 with fail
    go_wp2_with (refine wpList_run rfl (exec_load26 rfl rfl H7.out.box1) ?_)
    refine (HRP.out _ H7.out).mono ?_
    rintro e w8 ⟨rfl, hb⟩
    have H8 := Lib.hid (H7.out.below hb)
    clear hb H7
    go_wp2_with (refine wpList_runW (exec_load26 rfl rfl H8.out.box2) (by kernel_rfl) ?_)
    refine (HRQ.out _ H8.out).mono ?_
    rintro e w9 ⟨rfl, hb⟩
    have H9 := Lib.hid (H8.out.below hb)
    clear hb H8
    go_wp2_with fail
    go_ret
    exact ⟨rfl, H9.out.old⟩
  have HRX := Lib.hid (HX7.out.row P.bytes_small)
  have HRY := Lib.hid (ho.row Q.bytes_small)
  have HNX := Lib.hid HX7.out.cap
  have HNY := Lib.hid ho.cap
  have HEQ := Lib.hid (strOf_iff hr hs)
  have HLX := Lib.hid (P.bytes_len (Pg.right_iff.1 hr).1)
  have HLY := Lib.hid (Q.bytes_len (Pg.right_iff.1 hs).1)
  have HNO := Lib.hid (cut_no hr (k := m % P.bytes.length) (Nat.mod_lt _ (by have := HLX.out; omega)))
  clear HX7 ho hr hs
  generalize P.bytes.length = xl at HRX HNX HLX HNO ⊢
  generalize P.bytes = X at HRX HEQ HNO ⊢
  generalize Q.bytes.length = yl at HRY HNY HLY ⊢
  generalize Q.bytes = Y at HRY HEQ ⊢
  have HU : Hid (Uz W w7 p q P a1 n1 c1 a2 n2 c2 a3 n3 c3 Q q1 k1 r1 q2 k2 r2 q3 k3 r3 xa xl X ya yl Y) := Lib.hid ⟨H7.out, HRX.out, HRY.out⟩
  clear HRX HRY H7
  obtain ⟨j, hj⟩ : ∃ j, m % xl = j := ⟨_, rfl⟩
  have hjx : j < xl := by rw [← hj]; exact Nat.mod_lt m (by have := HLX.out; omega)
  have HJ := Lib.hid hjx
  rw [hj] at HNO
  have e0 : ((xl : Int) == 0) = false := by have := HLX.out; simp; omega
  have ez : ¬ xl = 0 := by have := HLX.out; omega
  have ez2 : ¬ ((xl : Int) = 0) := by omega
  have ej : (m : Int) % (xl : Int) = (j : Int) := by rw [← hj]; simp
  have HKC := Lib.hid (show j ≤ xc by have := HNX.out.1; omega)
  clear hj hjx
  go_upto_region 9 with fail
  have s1 := slice_h .i64 xa xl xc j w7 HKC.out
  go_wp2_with fail
  have HDC := Lib.hid (decode_any xa j xc (X.take j) _ HU.out.z.tab (HU.out.rx.upto (by have := HJ.out; omega)) (fun ha => by have := HNX.out.2.2 ha; have := HJ.out; omega) HKC.out (by have := HJ.out; have := HLX.out; omega))
  refine HDC.out.mono ?_
  clear HDC
  intro e w8 he
  obtain ⟨he, hb⟩ := he
  have HU8 := Lib.hid (HU.out.below hb)
  clear hb HU
  rcases he with ⟨R, _, _, _, _, _, _, hrr, hrb, _⟩ | ⟨_, rfl⟩
  · exact absurd hrb (HNO.out R hrr)
  clear s1 e0 ej ez ez2 HJ HKC HNO
  go_upto_region 10 with (refine wpList_stop40 rfl ?_)
  refine ⟨?_⟩
  refine wpList_void rfl rfl (exec_store40 rfl rfl rfl (Blk.new w8 40 (pgA false none 0 0 none 0 0 none 0 0))) ?_
  obtain ⟨hu, hbw⟩ := laid40 (w := w8) (lf := false) (a1 := none) (n1 := 0) (c1 := 0) (a2 := none) (n2 := 0) (c2 := 0) (a3 := none) (n3 := 0) (c3 := 0) 40 (pgA false none 0 0 none 0 0 none 0 0)
  have HU9 := Lib.hid (HU8.out.below hbw)
  clear hu hbw HU8
  generalize (w8.alloc (.cells (pgA false none 0 0 none 0 0 none 0 0) 40)).setRow w8.heap.size (pgA false none 0 0 none 0 0 none 0 0) = w9 at HU9 ⊢
  generalize w8.heap.size = gg
  have HSA := Lib.hid (fun V (hV : Uz W V p q P a1 n1 c1 a2 n2 c2 a3 n3 c3 Q q1 k1 r1 q2 k2 r2 q3 k3 r3 xa xl X ya yl Y) => same_any c1 c2 c3 r1 r2 r3 hV.z.pv1 hV.z.pv2 (by omega) (by omega) (by omega))
  obtain ⟨bq, hbq⟩ : ∃ b : Bool, ((strOf X).toList == (strOf Y).toList) = b := ⟨_, rfl⟩
  have HQ1 := Lib.hid hbq
  have HSB : Hid (∀ V, Uz W V p q P a1 n1 c1 a2 n2 c2 a3 n3 c3 Q q1 k1 r1 q2 k2 r2 q3 k3 r3 xa xl X ya yl Y → Calls Tryd.prog 22 #[.agg (pgA P.leaf a1 n1 c1 a2 n2 c2 a3 n3 c3), .agg (pgA Q.leaf q1 k1 r1 q2 k2 r2 q3 k3 r3)] V (Says (.bool bq) V)) := Lib.hid (fun V hV => (HSA.out V hV).mono fun _ _ hs => by
    have hx := HEQ.out
    rw [hbq] at hx
    cases bq
    · exact hs.no (fun h => absurd (hx.2 h) (by simp))
    · exact hs.yes (hx.1 rfl))
  clear HSA HEQ hbq
  go_upto_region 10 with fail
  refine wp_region_held_drew (S := fun w' => Uz W w' p q P a1 n1 c1 a2 n2 c2 a3 n3 c3 Q q1 k1 r1 q2 k2 r2 q3 k3 r3 xa xl X ya yl Y) (by kernel_rfl) (HU9.out.below (drew_below _)) (fun hS => ?_)
  refine held_take 0 69 (.slice xa xl xc) rfl rfl (by kernel_rfl) (by kernel_rfl) (by kernel_rfl) (fun _ _ _ h => h) (by kernel_rfl) (fun _ _ => rfl) hS ?_
  simp only [Act.put, List.setIfInBounds_toArray, List.set_cons_zero, List.set_cons_succ]
  refine held_take 1 70 (.string (strOf X)) rfl rfl (by kernel_rfl) (by kernel_rfl) (by kernel_rfl) (fun _ _ _ h => h) (by kernel_rfl) (fun _ h => exec_str rfl rfl (conv_any h.rx)) hS ?_
  simp only [Act.put, List.setIfInBounds_toArray, List.set_cons_zero, List.set_cons_succ]
  refine held_take 2 71 (.slice ya yl yc) rfl rfl (by kernel_rfl) (by kernel_rfl) (by kernel_rfl) (fun _ _ _ h => h) (by kernel_rfl) (fun _ _ => rfl) hS ?_
  simp only [Act.put, List.setIfInBounds_toArray, List.set_cons_zero, List.set_cons_succ]
  refine held_take 3 72 (.string (strOf Y)) rfl rfl (by kernel_rfl) (by kernel_rfl) (by kernel_rfl) (fun _ _ _ h => h) (by kernel_rfl) (fun _ h => exec_str rfl rfl (conv_any h.ry)) hS ?_
  simp only [Act.put, List.setIfInBounds_toArray, List.set_cons_zero, List.set_cons_succ]
  refine held_take 4 73 (.bool bq) rfl rfl (by kernel_rfl) (by kernel_rfl) (by kernel_rfl) (fun _ _ _ h => h) (by kernel_rfl) (fun _ _ => exec_eqlS rfl rfl rfl HQ1.out) hS ?_
  simp only [Act.put, List.setIfInBounds_toArray, List.set_cons_zero, List.set_cons_succ]
  refine held_take 5 74 (.agg (pgA P.leaf a1 n1 c1 a2 n2 c2 a3 n3 c3)) rfl rfl (by kernel_rfl) (by kernel_rfl) (by kernel_rfl) (fun _ _ _ h => h) (by kernel_rfl) (fun _ h => exec_load26 rfl rfl h.z.box1) hS ?_
  simp only [Act.put, List.setIfInBounds_toArray, List.set_cons_zero, List.set_cons_succ]
  refine held_take 6 75 (.agg (pgA Q.leaf q1 k1 r1 q2 k2 r2 q3 k3 r3)) rfl rfl (by kernel_rfl) (by kernel_rfl) (by kernel_rfl) (fun _ _ _ h => h) (by kernel_rfl) (fun _ h => exec_load26 rfl rfl h.z.box2) hS ?_
  simp only [Act.put, List.setIfInBounds_toArray, List.set_cons_zero, List.set_cons_succ]
  refine held_call 7 76 22 #[(.agg (pgA P.leaf a1 n1 c1 a2 n2 c2 a3 n3 c3)), (.agg (pgA Q.leaf q1 k1 r1 q2 k2 r2 q3 k3 r3))] (.bool bq) rfl (by kernel_rfl) rfl (by kernel_rfl) (by kernel_rfl) (HSB.out _ hS) (fun _ h hb => h.below hb) hS (fun w107 hS => ?_)
  simp only [Act.put, List.setIfInBounds_toArray, List.set_cons_zero, List.set_cons_succ]
  refine held_take 8 77 (.bool true) rfl rfl (by kernel_rfl) (by kernel_rfl) (by kernel_rfl) (fun _ _ _ h => h) (by kernel_rfl) (fun _ _ => exec_eqlB (by kernel_rfl) rfl rfl rfl (beq_self_eq_true _)) hS ?_
  simp only [Act.put, List.setIfInBounds_toArray, List.set_cons_zero, List.set_cons_succ]
  refine held_take 9 78 (.bool true) rfl rfl (by kernel_rfl) (by kernel_rfl) (by kernel_rfl) (fun _ _ _ h => h) (by kernel_rfl) (fun _ _ => rfl) hS ?_
  simp only [Act.put, List.setIfInBounds_toArray, List.set_cons_zero, List.set_cons_succ]
  refine held_take 10 79 (.int .i64 15) rfl rfl (by kernel_rfl) (by kernel_rfl) (by kernel_rfl) (fun _ _ _ h => h) (by kernel_rfl) (fun _ _ => rfl) hS ?_
  simp only [Act.put, List.setIfInBounds_toArray, List.set_cons_zero, List.set_cons_succ]
  refine held_take 11 80 (.bool true) rfl rfl (by kernel_rfl) (by kernel_rfl) (by kernel_rfl) (fun _ _ _ h => h) (by kernel_rfl) (fun _ _ => exec_eqlI trivial rfl rfl rfl (by simp)) hS ?_
  simp only [Act.put, List.setIfInBounds_toArray, List.set_cons_zero, List.set_cons_succ]
  refine held_take 12 81 (.bool true) rfl rfl (by kernel_rfl) (by kernel_rfl) (by kernel_rfl) (fun _ _ _ h => h) (by kernel_rfl) (fun _ _ => rfl) hS ?_
  simp only [Act.put, List.setIfInBounds_toArray, List.set_cons_zero, List.set_cons_succ]
  refine held_take 13 6 (.bool true) rfl rfl (by kernel_rfl) (by kernel_rfl) (by kernel_rfl) (fun _ _ _ h => h) (by kernel_rfl) (fun _ _ => rfl) hS ?_
  simp only [Act.put, List.setIfInBounds_toArray, List.set_cons_zero, List.set_cons_succ]
  refine wpAnyH_done (by kernel_rfl) ?_ _
  have H10 := Lib.hid hS.z
  clear hS
  go_wp2_with fail
  go_ret
  exact ⟨rfl, H10.out.old⟩

set_option maxRecDepth 100000 in
theorem lifted (os : Os) (started : os.Started) (H : Type) (enc : TypeId × Value → H) :
    ReturnsInHanded {} Tryd.checked os 8 .any (fun w args => (Rows.pageApartSpec.pre enc Tryd.prog Tryd.f8 [] false w args ∧ laidMetH Tryd.prog laid1 w) ∧ sizedMet enc Tryd.prog Tryd.f8 (OpenSpec.ofChange Rows.pageApartSpec) false w args)
      (Rows.pageApartSpec.post enc Tryd.prog Tryd.f8 false true false false) := by
  refine returnsInHanded_of_change_and (C := Tryd.checked) (X := fun w _ => laidMetH Tryd.prog laid1 w) (fun _ _ _ hh h => h.of_heap hh) own started (by kernel_rfl) Tryd.func8
    (ChangeSpec.witness_shaped (enc := enc) (C := Tryd.checked) (os := os) (X := fun w _ => laidMetH Tryd.prog laid1 w) false (World.doorLaid Tryd.prog 14 os) #[.agg #[.bool false, .slice none 0 0, .slice none 0 0, .slice none 0 0], .agg #[.bool false, .slice none 0 0, .slice none 0 0, .slice none 0 0], .int .u16 0] 8 rfl (World.shaped_of_RefB (by kernel_rfl) (by kernel_rfl)) (by kernel_rfl) (by kernel_rfl) (by kernel_rfl) (door_met os _)) ?_
  intro W base args ds gs before hval0 hW _ _ hL _
  have hval : ∀ (j : Nat) t v, Tryd.f8.params[j]? = some t → args[j]? = some v → Value.okWide Tryd.prog W .any base t v := hval0
  have hW' := hW
  obtain ⟨p, q, hA0, hV, rfl, hfz, hnd⟩ := hW
  have hA : DataW.TrodAll enc Tryd.prog W 0 (fun _ => true) true Tryd.f8.params.toList args.toList ds p := hA0
  rw [Tryd.params8] at hA hval
  obtain ⟨v0, v1, v2, d0, d1, d2, p0, p1, p2, rfl, rfl, rfl, h0, h1, h2⟩ := trodAll_three hA
  obtain ⟨rfl, rfl⟩ := trodVars_none hV
  obtain ⟨m2, rfl, rfl, rfl, w2⟩ := open_int Tryd.underlying27 (hval 2 27 v2 rfl rfl) h2
  have lt0 : ∀ x ∈ p0, x.block < W.heap.size := by obtain ⟨m, hm⟩ := h0; exact DataW.trod_lt m _ _ _ hm
  obtain ⟨P0, a01, n01, c01, a02, n02, c02, a03, n03, c03, rfl, m01, m02, m03, x0⟩ := page_of (hval 0 26 v0 rfl rfl) h0
  have lt1 : ∀ x ∈ p1, x.block < W.heap.size := by obtain ⟨m, hm⟩ := h1; exact DataW.trod_lt m _ _ _ hm
  obtain ⟨P1, a11, n11, c11, a12, n12, c12, a13, n13, c13, rfl, m11, m12, m13, x1⟩ := page_of (hval 1 26 v1 rfl rfl) h1
  have c2 := bounds_u16 w2
  obtain ⟨n2, rfl⟩ := Int.eq_ofNat_of_zero_le c2.1
  clear hA0 hval0
  refine (walk P0 a01 n01 c01 a02 n02 c02 a03 n03 c03 P1 a11 n11 c11 a12 n12 c12 a13 n13 c13 n2 W (of_laid hL) m01 m02 m03 x0 m11 m12 m13 x1 (by omega)).mono fun e W' ⟨he, bel⟩ => ?_
  subst he
  exact ⟨_, rfl, _, _, _, [], _, [], hW', trodAll_mk1 (shut_bool Tryd.underlying4 _), trodAll_mk3 (Below.trod laidOut (by kernel_rfl) (of_decide_eq_true (by kernel_rfl)) h0 bel lt0) (Below.trod laidOut (by kernel_rfl) (of_decide_eq_true (by kernel_rfl)) h1 bel lt1) (shut_int Tryd.underlying27 w2), rfl, bel.frame _, fun h => by cases h⟩

theorem row_holds : Rows.PageApartSaid :=
  OpenClaim.holds_of_wide 8 Tryd.f8 rfl rfl rfl rfl rfl rfl rfl ⟨rfl, rfl, rfl, rfl, rfl⟩ rfl rfl rfl rfl rfl (by kernel_rfl) Tryd.func8 (by kernel_rfl)
    (of_decide_eq_true (by kernel_rfl)) (by unfold Func.isWrapper; first | (rw [if_pos (by decide +kernel)]; kernel_rfl) | (rw [if_neg (by decide +kernel)]; exact ⟨rfl, rfl⟩))
    (fun os started H enc _ => lifted os started H enc)
end PageApart

theorem pageApart_card : Rows.PageApartCardSaid :=
  Claim7.holds_tied_plain_at .later [] [.data] true (true, "b90d5132cacc69b8af3e47d8b89c9f2e9ff94c7b619f5af158f7875afb797316") false
    PageApart.row_holds (fun _ h => by cases h) (by kernel_rfl) (fun _ h => by cases h) pageApart_row_tie rfl ⟨rfl, rfl⟩ (by kernel_rfl) rfl
    (fun f fn hf hfn => by
      obtain rfl : f = 8 := Option.some.inj ((show Tryd.prog.funcNamed "trug/truglaw13.PageApart" = some 8 by kernel_rfl).symm.trans hf) |>.symm
      obtain rfl : fn = Tryd.f8 := (Option.some.inj (Tryd.func8.symm.trans hfn)).symm
      exact ⟨by kernel_rfl, fun j t ht => by
        rw [Tryd.params8] at ht
        have hm : t ∈ [26, 26, 27] := by simpa using Array.mem_of_getElem? ht
        have hall : ([26, 26, 27].all fun u => !Tryd.prog.wantsStandIn u) = true := by kernel_rfl
        exact (show Tryd.prog.wantsStandIn t = false by simpa using List.all_eq_true.1 hall t hm)⟩)
    (by kernel_rfl)
#print axioms pageApart_card
end Go.Proofs.YtcgbkfnjohbglaaDoor
