/- PageBack is proved: pages come back from their bytes, and bytes from their pages; the table of four bits is tied to the program's text. No other condition. -/
import Derived.Test.YtcgbkfnjohbglaaDoorPv
namespace Go.Proofs.YtcgbkfnjohbglaaDoor
namespace PageBack
open Go.ChangeShapes Go.WideShapes Go.ChangeAt Go.RowKit

structure Bz (w W : World) (p : Nat) (P : Pg) (a1 : Option Addr) (n1 c1 : Nat) (a2 : Option Addr) (n2 c2 : Nat) (a3 : Option Addr) (n3 c3 : Nat) (a : Option Addr) (len cap : Nat) (bs : List Nat) (g : Nat) (b1 : Option Addr) (m1 d1 : Nat) (b2 : Option Addr) (m2 d2 : Nat) (b3 : Option Addr) (m3 d3 : Nat) : Prop where
  z : Rz w W p P a1 n1 c1 a2 n2 c2 a3 n3 c3 a len cap bs
  u : Blk W g 40 (pgA P.leaf b1 m1 d1 b2 m2 d2 b3 m3 d3)
  pu : PV W P b1 m1 b2 m2 b3 m3
theorem Bz.below {w W W' : World} {p : Nat} {P : Pg} {a1 : Option Addr} {n1 c1 : Nat} {a2 : Option Addr} {n2 c2 : Nat} {a3 : Option Addr} {n3 c3 : Nat} {a : Option Addr} {len cap : Nat} {bs : List Nat} {g : Nat} {b1 : Option Addr} {m1 d1 : Nat} {b2 : Option Addr} {m2 d2 : Nat} {b3 : Option Addr} {m3 d3 : Nat} (f : Bz w W p P a1 n1 c1 a2 n2 c2 a3 n3 c3 a len cap bs g b1 m1 d1 b2 m2 d2 b3 m3 d3) (hb : Below W.heap.size W W') : Bz w W' p P a1 n1 c1 a2 n2 c2 a3 n3 c3 a len cap bs g b1 m1 d1 b2 m2 d2 b3 m3 d3 :=
  ⟨f.z.below hb, f.u.below hb, f.pu.below hb⟩
/-- What the copy leaves while they stand. -/
def BzP (w : World) (p : Nat) (P : Pg) (a1 : Option Addr) (n1 c1 : Nat) (a2 : Option Addr) (n2 c2 : Nat) (a3 : Option Addr) (n3 c3 : Nat) (a : Option Addr) (len cap : Nat) (bs : List Nat) (g : Nat) (b1 : Option Addr) (m1 d1 : Nat) (b2 : Option Addr) (m2 d2 : Nat) (b3 : Option Addr) (m3 d3 : Nat) (e : Ending) (w' : World) : Prop :=
  ∃ y1 z1 y2 z2, e = .returned (.agg (pgA P.leaf y1 m1 z1 y2 m2 z2 b3 m3 d3)) ∧ PV w' P y1 m1 y2 m2 b3 m3 ∧ Bz w w' p P a1 n1 c1 a2 n2 c2 a3 n3 c3 a len cap bs g b1 m1 d1 b2 m2 d2 b3 m3 d3

set_option maxHeartbeats 8000000 in
set_option maxRecDepth 100000 in
theorem walk (P : Pg) (a1 : Option Addr) (n1 c1 : Nat) (a2 : Option Addr) (n2 c2 : Nat) (a3 : Option Addr) (n3 c3 : Nat) (a : Option Addr) (len cap : Nat) (bs : List Nat) (W : World) (hT : Tab W) (_m1 : n1 ≤ maxLen) (_m2 : n2 ≤ maxLen) (_m3 : n3 ≤ maxLen) (hP : PV W P a1 n1 a2 n2 a3 n3) (hB : In W a len cap bs) :
    Calls Tryd.prog 5 #[.agg (pgA P.leaf a1 n1 c1 a2 n2 c2 a3 n3 c3), .slice a len cap] W (Says (.bool true) W) := by
  have H0 : Hid (Rz W (W.alloc (.cells (pgA P.leaf a1 n1 c1 a2 n2 c2 a3 n3 c3) 26)) W.heap.size P a1 n1 c1 a2 n2 c2 a3 n3 c3 a len cap bs) := Lib.hid ⟨Blk.new W 26 _, hP.below (below_one _ _), hB.below (below_one _ _), hT.below (below_one _ _), below_one _ _⟩
  have hlm := hB.max
  clear hT hP hB _m1 _m2 _m3
  show Calls Tryd.prog 5 #[.agg #[.bool P.leaf, .slice a1 n1 c1, .slice a2 n2 c2, .slice a3 n3 c3], .slice a len cap] W (Says (.bool true) W)
  go_enter Tryd.func5, Tryd.ntmps5
  go_upto_region 1 with fail
  try simp only [World.size_alloc, Act.put, List.setIfInBounds_toArray, List.set_cons_zero, List.set_cons_succ]
  generalize W.alloc (.cells #[.bool P.leaf, .slice a1 n1 c1, .slice a2 n2 c2, .slice a3 n3 c3] 26) = w0 at H0 ⊢
  obtain ⟨p, hp1⟩ : ∃ p, W.heap.size = p := ⟨_, rfl⟩
  rw [hp1] at H0
  rw [hp1]
  clear hp1
  go_wp2_with fail
  refine (alive_any _ H0.out.tab).mono ?_
  rintro e w1 ⟨rfl, hb⟩
  have H1 := Lib.hid (H0.out.below hb)
  clear hb H0
  go_wp2_with (refine wpList_run rfl (exec_load26 rfl rfl H1.out.box) ?_)
  have HF := Lib.hid (few_any P.leaf a1 n1 c1 a2 n2 c2 a3 n3 c3 w1)
  by_cases hf : n1 ≤ 300 ∧ n2 ≤ 300 ∧ n3 ≤ 300
  case neg =>
    rw [show (decide (n1 ≤ 300) && decide (n2 ≤ 300) && decide (n3 ≤ 300)) = false by simp; omega] at HF
    clear hf
    refine HF.out.mono ?_
    rintro e w2 ⟨rfl, hb⟩
    have H2 := Lib.hid (H1.out.below hb)
    clear hb H1
    go_wp2_with fail
    go_ret
    exact ⟨rfl, H2.out.old⟩
  obtain ⟨f1, f2, f3⟩ := hf
  rw [show (decide (n1 ≤ 300) && decide (n2 ≤ 300) && decide (n3 ≤ 300)) = true by simp; omega] at HF
  by_cases hb300 : 300 < len
  case pos =>
    have q1 : decide ((len : Int) > 300) = true := by simp; omega
    have q1' : decide ((300 : Int) < (len : Int)) = true := by simp; omega
    refine HF.out.mono ?_
    rintro e w2 ⟨rfl, hb⟩
    have H2 := Lib.hid (H1.out.below hb)
    clear hb H1
    go_wp2_with fail
    go_ret
    exact ⟨rfl, H2.out.old⟩
  have q1 : decide ((len : Int) > 300) = false := by simp; omega
  have q1' : decide ((300 : Int) < (len : Int)) = false := by simp; omega
  have hl300 : len ≤ 300 := by omega
  clear hb300
  refine HF.out.mono ?_
  rintro e w2 ⟨rfl, hb⟩
  have H2 := Lib.hid (H1.out.below hb)
  clear hb H1 HF
  go_upto_region 5 with fail
  clear q1 q1'
  go_wp2_with (refine wpList_run rfl (exec_load26 rfl rfl H2.out.box) ?_)
  refine (H2.out.theirs (by omega) (by omega)).mono ?_
  rintro e w3 ⟨b1, d1, b2, d2, rfl, hpv, h3⟩
  have H3 := Lib.hid h3
  have HPV := Lib.hid hpv
  clear hpv h3 H2
  go_wp2_with fail
  refine (encode_any d1 d2 c3 H3.out.tab HPV.out (by omega)).mono ?_
  intro e w4 he
  obtain ⟨he, hb⟩ := he
  have H4 := Lib.hid (H3.out.below hb)
  clear hb H3 HPV
  rcases he with ⟨_, rfl⟩ | ⟨hr, xa, xc, rfl, ho⟩
  · go_upto_region 10 with fail
    have HDC := Lib.hid (decode_any a len cap bs _ H4.out.tab H4.out.bs.row H4.out.bs.nil H4.out.bs.le (by omega))
    go_wp2_with fail
    refine HDC.out.mono ?_
    clear HDC
    intro e wd he
    obtain ⟨he, hb⟩ := he
    have HD := Lib.hid (H4.out.below hb)
    clear hb H4
    rcases he with ⟨Q, u1, t1, u2, t2, u3, t3, hqr, hqb, rfl, o1, o2, o3⟩ | ⟨_, rfl⟩
    · have HPQ := Lib.hid (OwnG.pv o1 o2 o3)
      have HQ8 := Lib.hid (Pg.right_iff.1 hqr)
      have HQR := Lib.hid hqr
      have HQB := Lib.hid hqb
      clear o1 o2 o3 hqr hqb
      go_upto_region 11 with (refine wpList_stop40 rfl ?_)
      refine ⟨?_⟩
      refine wpList_void rfl rfl (exec_store40 rfl rfl rfl (Blk.new wd 40 (pgA false none 0 0 none 0 0 none 0 0))) ?_
      obtain ⟨hv, hbw⟩ := laid40 (w := wd) (lf := Q.leaf) (a1 := u1) (n1 := Q.ks.length) (c1 := t1) (a2 := u2) (n2 := Q.ls.length) (c2 := t2) (a3 := u3) (n3 := Q.ds.length) (c3 := t3) 40 (pgA false none 0 0 none 0 0 none 0 0)
      have HV := Lib.hid hv
      have HPV := Lib.hid (HPQ.out.below hbw)
      have H10 := Lib.hid (HD.out.below hbw)
      clear hv hbw HPQ HD
      generalize (wd.alloc (.cells (pgA false none 0 0 none 0 0 none 0 0) 40)).setRow wd.heap.size (pgA Q.leaf u1 Q.ks.length t1 u2 Q.ls.length t2 u3 Q.ds.length t3) = w10 at HV HPV H10 ⊢
      generalize wd.heap.size = gg at HV ⊢
      go_upto_region 12 with fail
      go_wp2_with (refine wpList_run rfl (exec_load40 rfl rfl HV.out) ?_)
      refine (encode_any t1 t2 t3 H10.out.tab HPV.out (by have := HQ8.out; omega)).mono ?_
      intro e w12 he
      obtain ⟨he, hb⟩ := he
      rcases he with ⟨hn, _⟩ | ⟨_, ya, yc, rfl, ho⟩
      · rw [HQR.out] at hn; cases hn
      have HRY := Lib.hid (ho.row Q.bytes_small)
      have H12 := Lib.hid (H10.out.below hb)
      clear ho hb H10 HV HPV HQ8
      have HY : Hid (Row w12 ya Q.bytes.length bs) := Lib.hid (by have := HRY.out; rwa [HQB.out] at this ⊢)
      clear HRY
      generalize Q.bytes.length = yl at HY ⊢
      have hv1 := conv_any (cap := yc) HY.out
      have hv2 := conv_any (cap := cap) H12.out.bs.row
      clear HQB
      go_wp2_with fail
      go_ret
      exact ⟨rfl, H12.out.old⟩
    · go_upto_region 11 with (refine wpList_stop40 rfl ?_)
      refine ⟨?_⟩
      refine wpList_void rfl rfl (exec_store40 rfl rfl rfl (Blk.new wd 40 (pgA false none 0 0 none 0 0 none 0 0))) ?_
      obtain ⟨hv, hbw⟩ := laid40 (w := wd) (lf := false) (a1 := none) (n1 := 0) (c1 := 0) (a2 := none) (n2 := 0) (c2 := 0) (a3 := none) (n3 := 0) (c3 := 0) 40 (pgA false none 0 0 none 0 0 none 0 0)
      have H12 := Lib.hid (HD.out.below hbw)
      clear hv hbw HD
      generalize (wd.alloc (.cells (pgA false none 0 0 none 0 0 none 0 0) 40)).setRow wd.heap.size (pgA false none 0 0 none 0 0 none 0 0) = w10 at H12 ⊢
      generalize wd.heap.size = gg
      go_wp2_with fail
      go_ret
      exact ⟨rfl, H12.out.old⟩

  have HO := Lib.hid ho
  have HR := Lib.hid hr
  have HR8 := Lib.hid (P.bytes_len (Pg.right_iff.1 hr).1)
  clear ho hr
  have HDC := Lib.hid (decode_any xa P.bytes.length xc P.bytes w4 H4.out.tab (HO.out.row P.bytes_small) HO.out.cap.2.2 HO.out.cap.1 (by have := HR8.out; omega))
  clear HO
  go_upto_region 7 with fail
  go_wp2_with fail
  refine HDC.out.mono ?_
  clear HDC HR8
  intro e w5 he
  obtain ⟨he, hb⟩ := he
  have H5 := Lib.hid (H4.out.below hb)
  clear hb H4
  rcases he with ⟨Q, u1, t1, u2, t2, u3, t3, hqr, hqb, rfl, o1, o2, o3⟩ | ⟨hn, _⟩
  case inr => exact absurd rfl (hn P HR.out)
  have hq : P = Q := bytes_inj HR.out hqr hqb.symm
  subst hq
  have hpu := OwnG.pv o1 o2 o3
  clear o1 o2 o3 hqr hqb
  have HL : Hid (P.ks.length ≤ 1000000 ∧ P.ls.length ≤ 1000000 ∧ P.ds.length ≤ 1000000) := Lib.hid (by obtain ⟨_, _, h⟩ := Pg.right_iff.1 HR.out; omega)
  clear HR
  generalize P.ks.length = m1 at hpu HL ⊢
  generalize P.ls.length = m2 at hpu HL ⊢
  generalize P.ds.length = m3 at hpu HL ⊢
  have HPU := Lib.hid hpu
  clear hpu
  go_upto_region 8 with (refine wpList_stop40 rfl ?_)
  refine ⟨?_⟩
  refine wpList_void rfl rfl (exec_store40 rfl rfl rfl (Blk.new w5 40 (pgA false none 0 0 none 0 0 none 0 0))) ?_
  obtain ⟨hu, hbw⟩ := laid40 (w := w5) (lf := P.leaf) (a1 := u1) (n1 := m1) (c1 := t1) (a2 := u2) (n2 := m2) (c2 := t2) (a3 := u3) (n3 := m3) (c3 := t3) 40 (pgA false none 0 0 none 0 0 none 0 0)
  have HU := Lib.hid hu
  have HPU6 := Lib.hid (HPU.out.below hbw)
  have H6 := Lib.hid (H5.out.below hbw)
  clear hu hbw HPU H5
  generalize (w5.alloc (.cells (pgA false none 0 0 none 0 0 none 0 0) 40)).setRow w5.heap.size (pgA P.leaf u1 m1 t1 u2 m2 t2 u3 m3 t3) = w6 at HU HPU6 H6 ⊢
  generalize w5.heap.size = g at HU ⊢
  have HZ : Hid (Bz W w6 p P a1 n1 c1 a2 n2 c2 a3 n3 c3 a len cap bs g u1 m1 t1 u2 m2 t2 u3 m3 t3) := Lib.hid ⟨H6.out, HU.out, HPU6.out⟩
  clear HU HPU6 H6
  have HOU : Hid (∀ V, Bz W V p P a1 n1 c1 a2 n2 c2 a3 n3 c3 a len cap bs g u1 m1 t1 u2 m2 t2 u3 m3 t3 → Calls Tryd.prog 23 #[.agg (pgA P.leaf u1 m1 t1 u2 m2 t2 u3 m3 t3)] V (BzP W p P a1 n1 c1 a2 n2 c2 a3 n3 c3 a len cap bs g u1 m1 t1 u2 m2 t2 u3 m3 t3)) := Lib.hid (fun V f => (ours_any t1 t2 t3 f.pu (by have := HL.out; omega) (by have := HL.out; omega)).mono fun _ _ hc => by
    obtain ⟨b1, d1, b2, d2, he, hpv, hb⟩ := hc.pv f.pu
    exact ⟨b1, d1, b2, d2, he, hpv, f.below hb⟩)
  have HSA : Hid (∀ (V : World) y1 z1 y2 z2, PV V P y1 m1 y2 m2 u3 m3 → PV V P a1 n1 a2 n2 a3 n3 → Calls Tryd.prog 22 #[.agg (pgA P.leaf y1 m1 z1 y2 m2 z2 u3 m3 t3), .agg (pgA P.leaf a1 n1 c1 a2 n2 c2 a3 n3 c3)] V (Says (.bool true) V)) := Lib.hid (fun V y1 z1 y2 z2 hp hq => (same_any z1 z2 t3 c1 c2 c3 hp hq (by have := HL.out; omega) (by have := HL.out; omega) (by have := HL.out; omega)).mono fun _ _ hs => hs.yes rfl)
  go_upto_region 8 with fail
  refine wp_region_held_drew (S := fun w' => Bz W w' p P a1 n1 c1 a2 n2 c2 a3 n3 c3 a len cap bs g u1 m1 t1 u2 m2 t2 u3 m3 t3) (by kernel_rfl) (HZ.out.below (drew_below _)) (fun hS => ?_)
  refine held_take 0 36 (.int .i64 0) rfl rfl (by kernel_rfl) (by kernel_rfl) (by kernel_rfl) (fun _ _ _ h => h) (by kernel_rfl) (fun _ _ => rfl) hS ?_
  simp only [Act.put, List.setIfInBounds_toArray, List.set_cons_zero, List.set_cons_succ]
  refine held_take 1 37 (.bool false) rfl rfl (by kernel_rfl) (by kernel_rfl) (by kernel_rfl) (fun _ _ _ h => h) (by kernel_rfl) (fun _ _ => exec_neqI trivial rfl rfl rfl (by simp)) hS ?_
  simp only [Act.put, List.setIfInBounds_toArray, List.set_cons_zero, List.set_cons_succ]
  refine held_take 2 38 (.bool false) rfl rfl (by kernel_rfl) (by kernel_rfl) (by kernel_rfl) (fun _ _ _ h => h) (by kernel_rfl) (fun _ _ => rfl) hS ?_
  simp only [Act.put, List.setIfInBounds_toArray, List.set_cons_zero, List.set_cons_succ]
  refine held_take 3 39 (.agg (pgA P.leaf u1 m1 t1 u2 m2 t2 u3 m3 t3)) rfl rfl (by kernel_rfl) (by kernel_rfl) (by kernel_rfl) (fun _ _ _ h => h) (by kernel_rfl) (fun _ h => exec_load40 rfl rfl h.u) hS ?_
  simp only [Act.put, List.setIfInBounds_toArray, List.set_cons_zero, List.set_cons_succ]
  refine held_take 5 41 (.agg (pgA P.leaf a1 n1 c1 a2 n2 c2 a3 n3 c3)) rfl rfl (by kernel_rfl) (by kernel_rfl) (by kernel_rfl) (fun _ _ _ h => h) (by kernel_rfl) (fun _ h => exec_load26 rfl rfl h.z.box) hS ?_
  simp only [Act.put, List.setIfInBounds_toArray, List.set_cons_zero, List.set_cons_succ]
  refine held_callP 4 40 23 #[(.agg (pgA P.leaf u1 m1 t1 u2 m2 t2 u3 m3 t3))] rfl (by kernel_rfl) rfl (by kernel_rfl) (by kernel_rfl) (HOU.out _ hS) (fun e w104 hP => ?_)
  obtain ⟨y1, z1, y2, z2, rfl, hpy, hSn⟩ := hP
  refine ⟨_, rfl, hSn, fun hS => ?_⟩
  simp only [Act.put, List.setIfInBounds_toArray, List.set_cons_zero, List.set_cons_succ]
  refine held_call 6 42 22 #[(.agg (pgA P.leaf y1 m1 z1 y2 m2 z2 u3 m3 t3)), (.agg (pgA P.leaf a1 n1 c1 a2 n2 c2 a3 n3 c3))] (.bool true) rfl (by kernel_rfl) rfl (by kernel_rfl) (by kernel_rfl) (HSA.out _ _ _ _ _ hpy hS.z.pv) (fun _ h hb => h.below hb) hS (fun w106 hS => ?_)
  simp only [Act.put, List.setIfInBounds_toArray, List.set_cons_zero, List.set_cons_succ]
  refine held_take 7 43 (.bool false) rfl rfl (by kernel_rfl) (by kernel_rfl) (by kernel_rfl) (fun _ _ _ h => h) (by kernel_rfl) (fun _ _ => rfl) hS ?_
  simp only [Act.put, List.setIfInBounds_toArray, List.set_cons_zero, List.set_cons_succ]
  refine held_take 8 44 (.bool false) rfl rfl (by kernel_rfl) (by kernel_rfl) (by kernel_rfl) (fun _ _ _ h => h) (by kernel_rfl) (fun _ _ => rfl) hS ?_
  simp only [Act.put, List.setIfInBounds_toArray, List.set_cons_zero, List.set_cons_succ]
  refine wpAnyH_done (by kernel_rfl) ?_ _
  have H8 := Lib.hid hS.z
  clear hS hSn hpy HZ HOU HSA HL
  go_upto_region 10 with fail
  have HDC := Lib.hid (decode_any a len cap bs _ H8.out.tab H8.out.bs.row H8.out.bs.nil H8.out.bs.le (by omega))
  go_wp2_with fail
  refine HDC.out.mono ?_
  clear HDC
  intro e wd he
  obtain ⟨he, hb⟩ := he
  have HD := Lib.hid (H8.out.below hb)
  clear hb H8
  rcases he with ⟨Q, u1, t1, u2, t2, u3, t3, hqr, hqb, rfl, o1, o2, o3⟩ | ⟨_, rfl⟩
  · have HPQ := Lib.hid (OwnG.pv o1 o2 o3)
    have HQ8 := Lib.hid (Pg.right_iff.1 hqr)
    have HQR := Lib.hid hqr
    have HQB := Lib.hid hqb
    clear o1 o2 o3 hqr hqb
    go_upto_region 11 with (refine wpList_stop40 rfl ?_)
    refine ⟨?_⟩
    refine wpList_void rfl rfl (exec_store40 rfl rfl rfl (Blk.new wd 40 (pgA false none 0 0 none 0 0 none 0 0))) ?_
    obtain ⟨hv, hbw⟩ := laid40 (w := wd) (lf := Q.leaf) (a1 := u1) (n1 := Q.ks.length) (c1 := t1) (a2 := u2) (n2 := Q.ls.length) (c2 := t2) (a3 := u3) (n3 := Q.ds.length) (c3 := t3) 40 (pgA false none 0 0 none 0 0 none 0 0)
    have HV := Lib.hid hv
    have HPV := Lib.hid (HPQ.out.below hbw)
    have H10 := Lib.hid (HD.out.below hbw)
    clear hv hbw HPQ HD
    generalize (wd.alloc (.cells (pgA false none 0 0 none 0 0 none 0 0) 40)).setRow wd.heap.size (pgA Q.leaf u1 Q.ks.length t1 u2 Q.ls.length t2 u3 Q.ds.length t3) = w10 at HV HPV H10 ⊢
    generalize wd.heap.size = gg at HV ⊢
    go_upto_region 12 with fail
    go_wp2_with (refine wpList_run rfl (exec_load40 rfl rfl HV.out) ?_)
    refine (encode_any t1 t2 t3 H10.out.tab HPV.out (by have := HQ8.out; omega)).mono ?_
    intro e w12 he
    obtain ⟨he, hb⟩ := he
    rcases he with ⟨hn, _⟩ | ⟨_, ya, yc, rfl, ho⟩
    · rw [HQR.out] at hn; cases hn
    have HRY := Lib.hid (ho.row Q.bytes_small)
    have H12 := Lib.hid (H10.out.below hb)
    clear ho hb H10 HV HPV HQ8
    have HY : Hid (Row w12 ya Q.bytes.length bs) := Lib.hid (by have := HRY.out; rwa [HQB.out] at this ⊢)
    clear HRY
    generalize Q.bytes.length = yl at HY ⊢
    have hv1 := conv_any (cap := yc) HY.out
    have hv2 := conv_any (cap := cap) H12.out.bs.row
    clear HQB
    go_wp2_with fail
    go_ret
    exact ⟨rfl, H12.out.old⟩
  · go_upto_region 11 with (refine wpList_stop40 rfl ?_)
    refine ⟨?_⟩
    refine wpList_void rfl rfl (exec_store40 rfl rfl rfl (Blk.new wd 40 (pgA false none 0 0 none 0 0 none 0 0))) ?_
    obtain ⟨hv, hbw⟩ := laid40 (w := wd) (lf := false) (a1 := none) (n1 := 0) (c1 := 0) (a2 := none) (n2 := 0) (c2 := 0) (a3 := none) (n3 := 0) (c3 := 0) 40 (pgA false none 0 0 none 0 0 none 0 0)
    have H12 := Lib.hid (HD.out.below hbw)
    clear hv hbw HD
    generalize (wd.alloc (.cells (pgA false none 0 0 none 0 0 none 0 0) 40)).setRow wd.heap.size (pgA false none 0 0 none 0 0 none 0 0) = w10 at H12 ⊢
    generalize wd.heap.size = gg
    go_wp2_with fail
    go_ret
    exact ⟨rfl, H12.out.old⟩


set_option maxRecDepth 100000 in
theorem lifted (os : Os) (started : os.Started) (H : Type) (enc : TypeId × Value → H) :
    ReturnsInHanded {} Tryd.checked os 5 .any (fun w args => (Rows.pageBackSpec.pre enc Tryd.prog Tryd.f5 [] false w args ∧ laidMetH Tryd.prog laid1 w) ∧ sizedMet enc Tryd.prog Tryd.f5 (OpenSpec.ofChange Rows.pageBackSpec) false w args)
      (Rows.pageBackSpec.post enc Tryd.prog Tryd.f5 false true false false) := by
  refine returnsInHanded_of_change_and (C := Tryd.checked) (X := fun w _ => laidMetH Tryd.prog laid1 w) (fun _ _ _ hh h => h.of_heap hh) own started (by kernel_rfl) Tryd.func5
    (ChangeSpec.witness_shaped (enc := enc) (C := Tryd.checked) (os := os) (X := fun w _ => laidMetH Tryd.prog laid1 w) false (World.doorLaid Tryd.prog 14 os) #[.agg #[.bool false, .slice none 0 0, .slice none 0 0, .slice none 0 0], .slice none 0 0] 8 rfl (World.shaped_of_RefB (by kernel_rfl) (by kernel_rfl)) (by kernel_rfl) (by kernel_rfl) (by kernel_rfl) (door_met os _)) ?_
  intro W base args ds gs before hval0 hW _ _ hL _
  have hval : ∀ (j : Nat) t v, Tryd.f5.params[j]? = some t → args[j]? = some v → Value.okWide Tryd.prog W .any base t v := hval0
  have hW' := hW
  obtain ⟨p, q, hA0, hV, rfl, hfz, hnd⟩ := hW
  have hA : DataW.TrodAll enc Tryd.prog W 0 (fun _ => true) true Tryd.f5.params.toList args.toList ds p := hA0
  rw [Tryd.params5] at hA hval
  obtain ⟨v0, v1, d0, d1, p0, p1, rfl, rfl, rfl, h0, h1⟩ := trodAll_two hA
  obtain ⟨rfl, rfl⟩ := trodVars_none hV
  obtain ⟨a1, len1, cap1, rfl⟩ := okWide_slice Tryd.underlying48 (hval 1 48 v1 rfl rfl)
  have lt0 : ∀ x ∈ p0, x.block < W.heap.size := by obtain ⟨m, hm⟩ := h0; exact DataW.trod_lt m _ _ _ hm
  obtain ⟨P0, a01, n01, c01, a02, n02, c02, a03, n03, c03, rfl, m01, m02, m03, x0⟩ := page_of (hval 0 26 v0 rfl rfl) h0
  have lt1 : ∀ x ∈ p1, x.block < W.heap.size := by obtain ⟨m, hm⟩ := h1; exact DataW.trod_lt m _ _ _ hm
  obtain ⟨l1, x1⟩ := in_of h1
  clear hA0 hval0
  refine (walk P0 a01 n01 c01 a02 n02 c02 a03 n03 c03 a1 len1 cap1 l1 W (of_laid hL) m01 m02 m03 x0 x1).mono fun e W' ⟨he, bel⟩ => ?_
  subst he
  exact ⟨_, rfl, _, _, _, [], _, [], hW', trodAll_mk1 (shut_bool Tryd.underlying4 _), trodAll_mk2 (Below.trod laidOut (by kernel_rfl) (of_decide_eq_true (by kernel_rfl)) h0 bel lt0) (Below.trod laidOut (by kernel_rfl) (of_decide_eq_true (by kernel_rfl)) h1 bel lt1), rfl, bel.frame _, fun h => by cases h⟩

theorem row_holds : Rows.PageBackSaid :=
  OpenClaim.holds_of_wide 5 Tryd.f5 rfl rfl rfl rfl rfl rfl rfl ⟨rfl, rfl, rfl, rfl, rfl⟩ rfl rfl rfl rfl rfl (by kernel_rfl) Tryd.func5 (by kernel_rfl)
    (of_decide_eq_true (by kernel_rfl)) (by unfold Func.isWrapper; first | (rw [if_pos (by decide +kernel)]; kernel_rfl) | (rw [if_neg (by decide +kernel)]; exact ⟨rfl, rfl⟩))
    (fun os started H enc _ => lifted os started H enc)
end PageBack

theorem pageBack_card : Rows.PageBackCardSaid :=
  Claim7.holds_tied_plain_at .later [] [.data] true (true, "b90d5132cacc69b8af3e47d8b89c9f2e9ff94c7b619f5af158f7875afb797316") false
    PageBack.row_holds (fun _ h => by cases h) (by kernel_rfl) (fun _ h => by cases h) pageBack_row_tie rfl ⟨rfl, rfl⟩ (by kernel_rfl) rfl
    (fun f fn hf hfn => by
      obtain rfl : f = 5 := Option.some.inj ((show Tryd.prog.funcNamed "trug/truglaw13.PageBack" = some 5 by kernel_rfl).symm.trans hf) |>.symm
      obtain rfl : fn = Tryd.f5 := (Option.some.inj (Tryd.func5.symm.trans hfn)).symm
      exact ⟨by kernel_rfl, fun j t ht => by
        rw [Tryd.params5] at ht
        have hm : t ∈ [26, 48] := by simpa using Array.mem_of_getElem? ht
        have hall : ([26, 48].all fun u => !Tryd.prog.wantsStandIn u) = true := by kernel_rfl
        exact (show Tryd.prog.wantsStandIn t = false by simpa using List.all_eq_true.1 hall t hm)⟩)
    (by kernel_rfl)
#print axioms pageBack_card
end Go.Proofs.YtcgbkfnjohbglaaDoor
