/- Walk of Decode of the program. -/
import Derived.Test.YtcgbkfnjohbglaaDoorPj
import Derived.Test.YtcgbkfnjohbglaaDoorPk
namespace Go.Proofs.YtcgbkfnjohbglaaDoor
open Go.RowKit

/-- What Decode leaves, of the program (types 42, 66) or of the document (32, 67). -/
def DecP (e1 e2 : TypeId) (er : Int) (bs : List Nat) (w : World) (e : Ending) (w' : World) : Prop :=
  ((∃ (P : Pg) (a1 : Option Addr) (c1 : Nat) (a2 : Option Addr) (c2 : Nat) (a3 : Option Addr) (c3 : Nat), P.right = true ∧ P.bytes = bs ∧ e = .returned (.tuple #[.agg (pgA P.leaf a1 P.ks.length c1 a2 P.ls.length c2 a3 P.ds.length c3), .int .i64 0]) ∧ OwnG w' e1 3 w.heap.size a1 P.ks.length c1 (cellsK P.ks) ∧ OwnG w' e2 2 w.heap.size a2 P.ls.length c2 (cellsL P.ls) ∧ OwnG w' 28 1 w.heap.size a3 P.ds.length c3 (cellsD P.ds)) ∨
   ((∀ P : Pg, P.right = true → P.bytes ≠ bs) ∧ e = .returned (.tuple #[.agg (pgA false none 0 0 none 0 0 none 0 0), .int .i64 er]))) ∧ Below w.heap.size w w'
theorem OwnG.pv {w : World} {B : Nat} {P : Pg} {a1 : Option Addr} {c1 : Nat} {a2 : Option Addr} {c2 : Nat} {a3 : Option Addr} {c3 : Nat} {e1 e2 : TypeId} (h1 : OwnG w e1 3 B a1 P.ks.length c1 (cellsK P.ks)) (h2 : OwnG w e2 2 B a2 P.ls.length c2 (cellsL P.ls)) (h3 : OwnG w 28 1 B a3 P.ds.length c3 (cellsD P.ds)) : PV w P a1 P.ks.length a2 P.ls.length a3 P.ds.length := ⟨h1.gl, h2.gl, h3.gl⟩

set_option maxHeartbeats 4000000 in
set_option maxRecDepth 100000 in
theorem decode_any (a : Option Addr) (len cap : Nat) (bs : List Nat) (w : World) (hT : Tab w) (hR : Row w a len bs) (hz : a = none → len = 0 ∧ cap = 0) (hc : len ≤ cap) (hl : len ≤ 1000000) : Calls Tryd.prog 20 #[.slice a len cap] w (DecP 42 66 15 bs w) := by
  have HRW := Lib.hid hR
  have HTAB := Lib.hid hT
  have HF := Lib.hid (fun w' hb => first_any a len cap bs w' (hT.below (w' := w') hb) (hR.below hb) hz hc hl)
  have HBS := Lib.hid hR.small
  clear hR hT hz hc
  have HR0 : Hid (Blk (w.alloc (.cells #[.bool false, .slice none 0 0, .slice none 0 0, .slice none 0 0] 40)) w.heap.size 40 (pgA false none 0 0 none 0 0 none 0 0)) := Lib.hid (Blk.new w 40 _)
  have HB0 := Lib.hid (below_one w (.cells #[.bool false, .slice none 0 0, .slice none 0 0, .slice none 0 0] 40))
  go_enter Tryd.func20, Tryd.ntmps20
  go_upto_region 1 with fail
  try simp only [World.size_alloc, Act.put, List.setIfInBounds_toArray, List.set_cons_zero, List.set_cons_succ]
  generalize w.alloc (.cells #[.bool false, .slice none 0 0, .slice none 0 0, .slice none 0 0] 40) = w0 at HR0 HB0 ⊢
  obtain ⟨r, hr⟩ : ∃ r, w.heap.size = r := ⟨_, rfl⟩
  have HWR : Hid (w.heap.size ≤ r) := Lib.hid (by omega)
  rw [hr] at HR0
  rw [hr]
  clear hr
  go_wp2_with fail
  refine (HF.out _ HB0.out).mono ?_
  rintro e w1 ⟨a1, cap1, rfl, ho1, hb1⟩
  have hsm := Frm.first_small HBS.out
  have HO1 := Lib.hid (ho1.row hsm)
  have HOC := Lib.hid ho1.cap
  have HB1 := Lib.hid (HB0.out.trans (hb1.mono HB0.out.size))
  have HR1 := Lib.hid (HR0.out.below hb1)
  clear ho1 hb1 hsm HF HR0 HB0
  by_cases he : (Frm.first bs).2.2 = 0
  case neg =>
    have q1 : (((Frm.first bs).2.2 : Int) != 0) = true := by simp; omega
    have HNO := Lib.hid (dec_no1 he)
    clear he
    generalize Frm.first bs = f at *
    obtain ⟨fc, fm, fe⟩ := f
    simp only at q1 ⊢
    go_wp2_with (refine wpList_stop40 rfl ?_)
    refine ⟨?_⟩
    refine wpList_void rfl rfl (exec_store40 (lf2 := false) (b1 := none) (m1 := 0) (d1 := 0) (b2 := none) (m2 := 0) (d2 := 0) (b3 := none) (m3 := 0) (d3 := 0) rfl rfl rfl HR1.out) ?_
    have HRR := Lib.hid (HR1.out.row (ds := pgA false none 0 0 none 0 0 none 0 0))
    have HBB := Lib.hid (HB1.out.trans ((Kept.setRow w1 r (pgA false none 0 0 none 0 0 none 0 0)).below HB1.out.size (fun k e => by have := HWR.out; omega)))
    generalize w1.setRow r (pgA false none 0 0 none 0 0 none 0 0) = w9 at HRR HBB ⊢
    go_wp2_with fail
    exact bodyPost_ret (v := .tuple #[.agg (pgA false none 0 0 none 0 0 none 0 0), .int .i64 15]) (retC_two Tryd.results20 rfl rfl (loadVar40 HRR.out)) rfl ⟨.inr ⟨HNO.out, rfl⟩, HBB.out⟩
  have q1 : (((Frm.first bs).2.2 : Int) != 0) = false := by simp; omega
  have HFS := Lib.hid (Frm.first_size he)
  have HNO := Lib.hid (dec_no2 (bs := bs))
  have HP8 := Lib.hid (rdPg_len (Frm.first bs).1)
  clear he
  generalize Frm.first bs = f at *
  obtain ⟨fc, fm, fe⟩ := f
  simp only at q1 ⊢
  have hfl : fc.length ≤ 1000000 := by have := HFS.out.2.2; simp at this; omega
  go_wp2_with fail
  refine (read_page a1 fc.length cap1 fc w1 hfl HO1.out HOC.out.2.2).mono ?_
  rintro e w2 ⟨b1, d1, b2, d2, b3, d3, rfl, hk, hl2, hd, hb2⟩
  have HPV := Lib.hid (OwnG.pv hk hl2 hd)
  have HK := Lib.hid (hk.mono (B' := r + 1) (by have := HR1.out.lt; omega))
  have HL := Lib.hid (hl2.mono (B' := r + 1) (by have := HR1.out.lt; omega))
  have HD := Lib.hid (hd.mono (B' := r + 1) (by have := HR1.out.lt; omega))
  have HB2 := Lib.hid (HB1.out.trans (hb2.mono HB1.out.size))
  have HR2 := Lib.hid (HR1.out.below hb2)
  clear hk hl2 hd hb2 HO1 HOC HB1 HR1
  have HP8' : Hid ((rdPg fc).ks.length ≤ 8) := HP8
  generalize hP : rdPg fc = P at *
  clear hP
  obtain ⟨zp, hzp⟩ : ∃ zp : Array Value, pgA false none 0 0 none 0 0 none 0 0 = zp := ⟨_, rfl⟩
  go_upto_region 5 with (refine wpList_stop40 rfl ?_)
  refine ⟨?_⟩
  subst hzp
  refine wpList_void rfl rfl (exec_store40 rfl rfl rfl (Blk.new w2 40 _)) ?_
  have HX := Lib.hid ((Blk.new w2 40 (pgA false none 0 0 none 0 0 none 0 0)).row (ds := pgA P.leaf b1 P.ks.length d1 b2 P.ls.length d2 b3 P.ds.length d3))
  have HT3 := Lib.hid ((below_one w2 (.cells (pgA false none 0 0 none 0 0 none 0 0) 40)).trans ((Kept.setRow (w2.alloc (.cells (pgA false none 0 0 none 0 0 none 0 0) 40)) w2.heap.size (pgA P.leaf b1 P.ks.length d1 b2 P.ls.length d2 b3 P.ds.length d3)).below (B := w2.heap.size) (by simp) (fun k hk => by omega)))
  generalize (w2.alloc (.cells (pgA false none 0 0 none 0 0 none 0 0) 40)).setRow w2.heap.size (pgA P.leaf b1 P.ks.length d1 b2 P.ls.length d2 b3 P.ds.length d3) = w3 at HX HT3 ⊢
  have HPV3 := Lib.hid (HPV.out.below HT3.out)
  have HK3 := Lib.hid (HK.out.below HT3.out)
  have HL3 := Lib.hid (HL.out.below HT3.out)
  have HD3 := Lib.hid (HD.out.below HT3.out)
  have HB3 := Lib.hid (HB2.out.trans (HT3.out.mono HB2.out.size))
  have HR3 := Lib.hid (HR2.out.below HT3.out)
  generalize w2.heap.size = g at HX ⊢
  clear HPV HK HL HD HB2 HR2 HT3 HP8'
  go_wp2_with (refine wpList_run rfl (exec_load40 rfl rfl HX.out) ?_)
  refine (encode_any d1 d2 d3 (HTAB.out.below HB3.out) HPV3.out (by have := HP8.out; omega)).mono ?_
  rintro e W5 ⟨h5, hb5⟩
  have HX5 := Lib.hid (HX.out.below hb5)
  have HK5 := Lib.hid (HK3.out.below hb5)
  have HL5 := Lib.hid (HL3.out.below hb5)
  have HD5 := Lib.hid (HD3.out.below hb5)
  have HB5 := Lib.hid (HB3.out.trans (hb5.mono HB3.out.size))
  have HR5 := Lib.hid (HR3.out.below hb5)
  have HRW5 := Lib.hid (HRW.out.below HB5.out)
  clear hb5 HX HK3 HL3 HD3 HR3
  rcases h5 with ⟨hr, rfl⟩ | ⟨hr, a6, cap6, rfl, ho6⟩
  · have HRT := Lib.hid hr
    clear hr
    go_wp2_with (refine wpList_stop40 rfl ?_)
    refine ⟨?_⟩
    refine wpList_void rfl rfl (exec_store40 (lf2 := false) (b1 := none) (m1 := 0) (d1 := 0) (b2 := none) (m2 := 0) (d2 := 0) (b3 := none) (m3 := 0) (d3 := 0) rfl rfl rfl HR5.out) ?_
    have HRR := Lib.hid (HR5.out.row (ds := pgA false none 0 0 none 0 0 none 0 0))
    have HBB := Lib.hid (HB5.out.trans ((Kept.setRow W5 r (pgA false none 0 0 none 0 0 none 0 0)).below HB5.out.size (fun k e => by have := HWR.out; omega)))
    generalize W5.setRow r (pgA false none 0 0 none 0 0 none 0 0) = w9 at HRR HBB ⊢
    go_wp2_with fail
    exact bodyPost_ret (v := .tuple #[.agg (pgA false none 0 0 none 0 0 none 0 0), .int .i64 15]) (retC_two Tryd.results20 rfl rfl (loadVar40 HRR.out)) rfl ⟨.inr ⟨HNO.out (.inl HRT.out), rfl⟩, HBB.out⟩
  have HRT := Lib.hid hr
  have HO6 := Lib.hid (ho6.row P.bytes_small)
  clear hr ho6
  by_cases hq : P.bytes = bs
  case neg =>
    have HQ := Lib.hid hq
    have HEQ := Lib.hid (equal_other a6 a P.bytes.length len cap6 cap P.bytes bs W5 HO6.out HRW5.out hq)
    clear hq
    go_wp2_with (first | (go_at_call 34; refine HEQ.out.mono ?_; rintro e w' ⟨rfl, rfl⟩) | (refine wpList_stop40 rfl ?_))
    refine ⟨?_⟩
    refine wpList_void rfl rfl (exec_store40 (lf2 := false) (b1 := none) (m1 := 0) (d1 := 0) (b2 := none) (m2 := 0) (d2 := 0) (b3 := none) (m3 := 0) (d3 := 0) rfl rfl rfl HR5.out) ?_
    have HRR := Lib.hid (HR5.out.row (ds := pgA false none 0 0 none 0 0 none 0 0))
    have HBB := Lib.hid (HB5.out.trans ((Kept.setRow W5 r (pgA false none 0 0 none 0 0 none 0 0)).below HB5.out.size (fun k e => by have := HWR.out; omega)))
    generalize W5.setRow r (pgA false none 0 0 none 0 0 none 0 0) = w9 at HRR HBB ⊢
    go_wp2_with fail
    exact bodyPost_ret (v := .tuple #[.agg (pgA false none 0 0 none 0 0 none 0 0), .int .i64 15]) (retC_two Tryd.results20 rfl rfl (loadVar40 HRR.out)) rfl ⟨.inr ⟨HNO.out (.inr HQ.out), rfl⟩, HBB.out⟩
  have HQ := Lib.hid hq
  have HEQ := Lib.hid (equal_same a6 a P.bytes.length len cap6 cap P.bytes W5 HO6.out (by rw [hq]; exact HRW5.out))
  clear hq
  go_wp2_with (first | (go_at_call 34; refine HEQ.out.mono ?_; rintro e w' ⟨rfl, rfl⟩) | (refine wpList_run rfl (exec_load40 rfl rfl HX5.out) ?_) | (refine wpList_stop40 rfl ?_))
  refine ⟨?_⟩
  refine wpList_void rfl rfl (exec_store40 rfl rfl rfl HR5.out) ?_
  have hs := Kept.setRow W5 r (pgA P.leaf b1 P.ks.length d1 b2 P.ls.length d2 b3 P.ds.length d3)
  have HRR := Lib.hid (HR5.out.row (ds := pgA P.leaf b1 P.ks.length d1 b2 P.ls.length d2 b3 P.ds.length d3))
  have HBB := Lib.hid (HB5.out.trans (hs.below HB5.out.size (fun k e => by have := HWR.out; omega)))
  have HK6 := Lib.hid (((HK5.out.two hs (fun i ⟨ad, ha, e⟩ hh => by have := (HK5.out.lt ad ha).1; omega))).mono (B' := w.heap.size) (by have := HWR.out; omega))
  have HL6 := Lib.hid (((HL5.out.two hs (fun i ⟨ad, ha, e⟩ hh => by have := (HL5.out.lt ad ha).1; omega))).mono (B' := w.heap.size) (by have := HWR.out; omega))
  have HD6 := Lib.hid (((HD5.out.two hs (fun i ⟨ad, ha, e⟩ hh => by have := (HD5.out.lt ad ha).1; omega))).mono (B' := w.heap.size) (by have := HWR.out; omega))
  clear hs
  generalize W5.setRow r (pgA P.leaf b1 P.ks.length d1 b2 P.ls.length d2 b3 P.ds.length d3) = w9 at HRR HBB HK6 HL6 HD6 ⊢
  go_wp2_with fail
  exact bodyPost_ret (v := .tuple #[.agg (pgA P.leaf b1 P.ks.length d1 b2 P.ls.length d2 b3 P.ds.length d3), .int .i64 0]) (retC_two Tryd.results20 rfl rfl (loadVar40 HRR.out)) rfl ⟨.inl ⟨P, b1, d1, b2, d2, b3, d3, HRT.out, HQ.out, rfl, HK6.out, HL6.out, HD6.out⟩, HBB.out⟩

end Go.Proofs.YtcgbkfnjohbglaaDoor
