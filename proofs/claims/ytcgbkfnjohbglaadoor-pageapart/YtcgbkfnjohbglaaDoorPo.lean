/- Walk of Decode of the document. -/
import Derived.Test.YtcgbkfnjohbglaaDoorPl
import Derived.Test.YtcgbkfnjohbglaaDoorPm
import Derived.Test.YtcgbkfnjohbglaaDoorPn
namespace Go.Proofs.YtcgbkfnjohbglaaDoor
open Go.RowKit

/-- While the document's page is made: the result's block, the page's, the numbers, the slices. -/
structure Dk (w W : World) (r g : Nat) (lf : Bool) (gl n c : Nat) (l : List Nat) (a1 : Option Addr) (n1 c1 : Nat) (ks : List Ky) (a2 : Option Addr) (n2 c2 : Nat) (ls : List Lo) (a3 : Option Addr) (n3 c3 : Nat) (ds : List Kd) : Prop where
  res : Blk W r 26 (pgA false none 0 0 none 0 0 none 0 0)
  pg : Blk W g 26 (pgA lf none 0 0 none 0 0 none 0 0)
  nl : OwnG W 72 1 (r + 1) (some ⟨gl, 0, none⟩) n c (cellsN l)
  ok : OwnG W 32 3 (g + 1) a1 n1 c1 (cellsK ks)
  ol : OwnG W 67 2 (g + 1) a2 n2 c2 (cellsL ls)
  od : OwnG W 28 1 (g + 1) a3 n3 c3 (cellsD ds)
  lt : w.heap.size ≤ r ∧ r < g
  old : Below w.heap.size w W
section
variable {w W W' : World} {r g : Nat} {lf : Bool} {gl n c : Nat} {l : List Nat} {a1 : Option Addr} {n1 c1 : Nat} {ks : List Ky} {a2 : Option Addr} {n2 c2 : Nat} {ls : List Lo} {a3 : Option Addr} {n3 c3 : Nat} {ds : List Kd}
theorem Dk.below (h : Dk w W r g lf gl n c l a1 n1 c1 ks a2 n2 c2 ls a3 n3 c3 ds) (hb : Below W.heap.size W W') : Dk w W' r g lf gl n c l a1 n1 c1 ks a2 n2 c2 ls a3 n3 c3 ds :=
  ⟨h.res.below hb, h.pg.below hb, h.nl.below hb, h.ok.below hb, h.ol.below hb, h.od.below hb, h.lt, h.old.trans (hb.mono h.old.size)⟩
theorem Dk.e0 (h : Dk w W r g lf gl n c l a1 n1 c1 ks a2 n2 c2 ls a3 n3 c3 ds) : W.cell? ⟨g, 0, none⟩ = some (.bool lf) := h.pg.cell 0
theorem Dk.num (h : Dk w W r g lf gl n c l a1 n1 c1 ks a2 n2 c2 ls a3 n3 c3 ds) {i : Nat} (hi : i < l.length) : W.rangeAt gl (0 + i * 1) [.int .u64 ((l.getD i 0 : Nat) : Int)] := NL.cell h.nl.gl hi

theorem Dk.add1 (h : Dk w W r g lf gl n c l a1 n1 c1 ks a2 n2 c2 ls a3 n3 c3 ds) {x : Ky} {a' : Option Addr} {c' : Nat} (ho : OwnG W' 32 3 (g + 1) a' (n1 + 1) c' (cellsK ks ++ [x.arr.toList])) (hk : Kept (At a1) W W') :
    Dk w W' r g lf gl n c l a' (n1 + 1) c' (ks ++ [x]) a2 n2 c2 ls a3 n3 c3 ds := by
  have hl := h.lt
  have hge : ∀ i, At a1 i → g < i := fun i ⟨ad, ha, e⟩ => by have := (h.ok.lt ad ha).1; omega
  exact ⟨h.res.kept hk (fun hh => by have := hge _ hh; omega), h.pg.kept hk (fun hh => by have := hge _ hh; omega), h.nl.two hk (fun i hi hh => kinds_apart h.nl.row h.ok.row (by decide) i hi hh), (by rw [← cellsK_snoc]; exact ho), (h.ol.two hk (fun i hi hh => kinds_apart h.ol.row h.ok.row (by decide) i hi hh)), (h.od.two hk (fun i hi hh => kinds_apart h.od.row h.ok.row (by decide) i hi hh)), h.lt, h.old.trans (hk.below h.old.size (fun i hi => by have := hge i hi; omega))⟩

theorem Dk.add2 (h : Dk w W r g lf gl n c l a1 n1 c1 ks a2 n2 c2 ls a3 n3 c3 ds) {x : Lo} {a' : Option Addr} {c' : Nat} (ho : OwnG W' 67 2 (g + 1) a' (n2 + 1) c' (cellsL ls ++ [x.arr.toList])) (hk : Kept (At a2) W W') :
    Dk w W' r g lf gl n c l a1 n1 c1 ks a' (n2 + 1) c' (ls ++ [x]) a3 n3 c3 ds := by
  have hl := h.lt
  have hge : ∀ i, At a2 i → g < i := fun i ⟨ad, ha, e⟩ => by have := (h.ol.lt ad ha).1; omega
  exact ⟨h.res.kept hk (fun hh => by have := hge _ hh; omega), h.pg.kept hk (fun hh => by have := hge _ hh; omega), h.nl.two hk (fun i hi hh => kinds_apart h.nl.row h.ol.row (by decide) i hi hh), (h.ok.two hk (fun i hi hh => kinds_apart h.ok.row h.ol.row (by decide) i hi hh)), (by rw [← cellsL_snoc]; exact ho), (h.od.two hk (fun i hi hh => kinds_apart h.od.row h.ol.row (by decide) i hi hh)), h.lt, h.old.trans (hk.below h.old.size (fun i hi => by have := hge i hi; omega))⟩

theorem Dk.add3 (h : Dk w W r g lf gl n c l a1 n1 c1 ks a2 n2 c2 ls a3 n3 c3 ds) {x : Kd} {a' : Option Addr} {c' : Nat} (ho : OwnG W' 28 1 (g + 1) a' (n3 + 1) c' (cellsD ds ++ [x.arr.toList])) (hk : Kept (At a3) W W') :
    Dk w W' r g lf gl n c l a1 n1 c1 ks a2 n2 c2 ls a' (n3 + 1) c' (ds ++ [x]) := by
  have hl := h.lt
  have hge : ∀ i, At a3 i → g < i := fun i ⟨ad, ha, e⟩ => by have := (h.od.lt ad ha).1; omega
  exact ⟨h.res.kept hk (fun hh => by have := hge _ hh; omega), h.pg.kept hk (fun hh => by have := hge _ hh; omega), h.nl.two hk (fun i hi hh => kinds_apart h.nl.row h.od.row (by decide) i hi hh), (h.ok.two hk (fun i hi hh => kinds_apart h.ok.row h.od.row (by decide) i hi hh)), (h.ol.two hk (fun i hi hh => kinds_apart h.ol.row h.od.row (by decide) i hi hh)), (by rw [← cellsD_snoc]; exact ho), h.lt, h.old.trans (hk.below h.old.size (fun i hi => by have := hge i hi; omega))⟩
end
theorem slice83 (gl n cap lo hi : Nat) (A B : Int) (hA : A = (lo : Int)) (hB : B = (hi : Int)) (h1 : lo ≤ hi) (h2 : hi ≤ cap) (h3 : lo < cap) (W : World) :
    (Instr.slice 83 (.slice (some ⟨gl, 0, none⟩) n cap) (some (.int .i64 A)) (some (.int .i64 B)) none).run Tryd.prog W = .ok (.slice (some ⟨gl, lo, none⟩) (hi - lo) (cap - lo)) W := by
  subst hA hB
  have he : Tryd.prog.elem 83 = 72 := by kernel_rfl
  have ht : Tryd.prog.underlying 83 = some (.slice (Tryd.prog.elem 83)) := by rw [he]; exact Tryd.underlying83
  have hz : (Go.sizeOf 72).run Tryd.prog W = .ok 1 W := Tryd.sizeOf72 W
  rw [run_slice_lh (P := Tryd.prog) W 83 (some ⟨gl, 0, none⟩) n cap ht .i64 .i64 (lo : Int) (hi : Int) (by omega) (by omega) (by omega), he, hz]
  have : ¬ cap = lo := by omega
  simp [Result.andThen, sliced, this, Addr.add]
  omega
theorem nl_at {w : World} {gl n lo j : Nat} {l : List Nat} (h : NL w (some ⟨gl, 0, none⟩) n l) (hj : lo + j < l.length) : w.rangeAt gl (lo + j * 1) [.int .u64 ((l.getD (lo + j) 0 : Nat) : Int)] := by
  have := NL.cell h hj
  rwa [show 0 + (lo + j) * 1 = lo + j * 1 by omega] at this
theorem OwnG.cap {w : World} {e size B : Nat} {a : Option Addr} {n cap : Nat} {vs : List (List Value)} (h : OwnG w e size B a n cap vs) : n ≤ cap := by
  rcases h.row.2 with ⟨h0, _⟩ | ⟨g, cap', cur, hv, _, _, hnc, _⟩
  · simp at h0; omega
  · simp at hv; omega
theorem exec_cv16 {ev : Operand → Value} {o : Oper} {w : World} {x : Operand} {n : Nat} (ho : o.op = .convert 72 27 x) (hx : ev x = .int .u64 (n : Int)) : (execOp ev o).run Tryd.prog w = .ok (.value (.int .u16 ((n % 65536 : Nat) : Int))) w := by
  have e : IntKind.u16.wrap (n : Int) = ((n % 65536 : Nat) : Int) := by rw [IntKind.wrap_u16]; omega
  unfold execOp
  simp only [ho, hx]
  simp [convert, e, go_sem]
theorem exec_cv8 {ev : Operand → Value} {o : Oper} {w : World} {x : Operand} {n : Nat} (ho : o.op = .convert 72 5 x) (hx : ev x = .int .u64 (n : Int)) : (execOp ev o).run Tryd.prog w = .ok (.value (.int .u8 ((n % 256 : Nat) : Int))) w := by
  have e : IntKind.u8.wrap (n : Int) = ((n % 256 : Nat) : Int) := by rw [IntKind.wrap_u8]; omega
  unfold execOp
  simp only [ho, hx]
  simp [convert, e, go_sem]
theorem RFirstP.sub {a0 : Option Addr} {bs : List Nat} {w : World} {e : Ending} {w' : World} (h : RFirstP a0 bs w e w') : ∃ a cap, e = .returned (.tuple #[.slice a (Frm.first bs).1.length cap, .int .i64 ((Frm.first bs).2.1 : Int), .int .i64 ((Frm.first bs).2.2 : Int)]) ∧ (bs.length ≤ 1000000 → Sub w' a (Frm.first bs).1.length cap (Frm.first bs).1 w'.heap.size) ∧ Below w.heap.size w w' := by
  obtain ⟨a, cap, he, hr, hz, hc, _, hb⟩ := h
  refine ⟨a, cap, he, fun hl => ⟨hr, hc, hz, ?_, fun ad ha h0 => hr.lt ad ha h0⟩, hb⟩
  by_cases h0 : (Frm.first bs).2.2 = 0
  · have := Frm.first_size h0; omega
  · rw [(Frm.first_zero h0).1]; simp
/-- The document's page when it is whole. -/
structure De (w W : World) (r g : Nat) (lf : Bool) (a1 : Option Addr) (n1 c1 : Nat) (a2 : Option Addr) (n2 c2 : Nat) (a3 : Option Addr) (n3 c3 : Nat) (P : Pg) (a : Option Addr) (len : Nat) (bs : List Nat) : Prop where
  res : Blk W r 26 (pgA false none 0 0 none 0 0 none 0 0)
  pg : Blk W g 26 (pgA lf a1 n1 c1 a2 n2 c2 a3 n3 c3)
  ok : OwnG W 32 3 (r + 1) a1 n1 c1 (cellsK P.ks)
  ol : OwnG W 67 2 (r + 1) a2 n2 c2 (cellsL P.ls)
  od : OwnG W 28 1 (r + 1) a3 n3 c3 (cellsD P.ds)
  row : Row W a len bs
  lt : w.heap.size ≤ r
  old : Below w.heap.size w W
section
variable {w W W' : World} {r g : Nat} {lf : Bool} {a1 : Option Addr} {n1 c1 : Nat} {a2 : Option Addr} {n2 c2 : Nat} {a3 : Option Addr} {n3 c3 : Nat} {P : Pg} {a : Option Addr} {len : Nat} {bs : List Nat}
theorem De.below (h : De w W r g lf a1 n1 c1 a2 n2 c2 a3 n3 c3 P a len bs) (hb : Below W.heap.size W W') : De w W' r g lf a1 n1 c1 a2 n2 c2 a3 n3 c3 P a len bs :=
  ⟨h.res.below hb, h.pg.below hb, h.ok.below hb, h.ol.below hb, h.od.below hb, h.row.below hb, h.lt, h.old.trans (hb.mono h.old.size)⟩
theorem De.pv (h : De w W r g lf a1 n1 c1 a2 n2 c2 a3 n3 c3 P a len bs) : PV W P a1 n1 a2 n2 a3 n3 := ⟨h.ok.gl, h.ol.gl, h.od.gl⟩
theorem De.close {gl n c : Nat} {l : List Nat} {ks : List Ky} {ls : List Lo} {ds : List Kd} (h : Dk w W r g lf gl n c l a1 n1 c1 ks a2 n2 c2 ls a3 n3 c3 ds) (hR : Row w a len bs) :
    De w (((W.setCell ⟨g, 1, none⟩ (.slice a1 n1 c1)).setCell ⟨g, 2, none⟩ (.slice a2 n2 c2)).setCell ⟨g, 3, none⟩ (.slice a3 n3 c3)) r g lf a1 n1 c1 a2 n2 c2 a3 n3 c3 ⟨lf, ks, ls, ds⟩ a len bs := by
  have hl := h.lt
  have k1 := Kept.setCell W ⟨g, 1, none⟩ (.slice a1 n1 c1)
  have k2 := Kept.setCell (W.setCell ⟨g, 1, none⟩ (.slice a1 n1 c1)) ⟨g, 2, none⟩ (.slice a2 n2 c2)
  have k3 := Kept.setCell ((W.setCell ⟨g, 1, none⟩ (.slice a1 n1 c1)).setCell ⟨g, 2, none⟩ (.slice a2 n2 c2)) ⟨g, 3, none⟩ (.slice a3 n3 c3)
  simp only at k1 k2 k3
  have k := (k1.trans (T := fun k => k = g) k2 (fun i e => .inl e)).trans (T := fun k => k = g) k3 (fun i e => .inl e)
  have hb := h.old.trans (k.below h.old.size (fun i e => by omega))
  exact ⟨h.res.kept k (by omega), ((h.pg.set 1 _).set 2 _).set 3 _, (h.ok.two k (fun i ⟨ad, ha, e⟩ hh => by have := (h.ok.lt ad ha).1; omega)).mono (by omega), (h.ol.two k (fun i ⟨ad, ha, e⟩ hh => by have := (h.ol.lt ad ha).1; omega)).mono (by omega), (h.od.two k (fun i ⟨ad, ha, e⟩ hh => by have := (h.od.lt ad ha).1; omega)).mono (by omega), hR.below hb, hl.1, hb⟩
theorem dec_fine (h : De w W r g lf a1 n1 c1 a2 n2 c2 a3 n3 c3 P a len bs) (hl : P.leaf = lf) (hr : P.right = true) (hq : P.bytes = bs) : DecP 32 67 15 bs w (.returned (.tuple #[.agg (pgA lf a1 n1 c1 a2 n2 c2 a3 n3 c3), .int .i64 0])) (W.setRow r (pgA lf a1 n1 c1 a2 n2 c2 a3 n3 c3)) := by
  have hw := h.lt
  have hs := Kept.setRow W r (pgA lf a1 n1 c1 a2 n2 c2 a3 n3 c3)
  obtain ⟨l1, l2, l3⟩ := (⟨h.pv.ks.len', h.pv.ls.len', h.pv.ds.len'⟩ : P.ks.length = n1 ∧ P.ls.length = n2 ∧ P.ds.length = n3)
  subst hl; subst l1; subst l2; subst l3
  exact ⟨.inl ⟨P, a1, c1, a2, c2, a3, c3, hr, hq, rfl, (h.ok.two hs (fun i ⟨ad, ha, e⟩ hh => by have := (h.ok.lt ad ha).1; omega)).mono (by omega), (h.ol.two hs (fun i ⟨ad, ha, e⟩ hh => by have := (h.ol.lt ad ha).1; omega)).mono (by omega), (h.od.two hs (fun i ⟨ad, ha, e⟩ hh => by have := (h.od.lt ad ha).1; omega)).mono (by omega)⟩, h.old.trans (hs.below h.old.size (fun i e => by omega))⟩
end
/-- The end with an error. -/
theorem dec_err {bs : List Nat} {w W : World} {r : Nat} (hW : w.heap.size ≤ r) (hb : Below w.heap.size w W) (hn : ∀ P : Pg, P.right = true → P.bytes ≠ bs) : DecP 32 67 15 bs w (.returned (.tuple #[.agg (pgA false none 0 0 none 0 0 none 0 0), .int .i64 15])) (W.setRow r (pgA false none 0 0 none 0 0 none 0 0)) :=
  ⟨.inr ⟨hn, rfl⟩, hb.trans ((Kept.setRow W r _).below hb.size (fun k e => by omega))⟩

set_option maxHeartbeats 8000000 in
set_option maxRecDepth 100000 in
theorem rdecode_any (a : Option Addr) (len cap : Nat) (bs : List Nat) (w : World) (hR : Row w a len bs) (hz : a = none → len = 0 ∧ cap = 0) (hc : len ≤ cap) (hl : len ≤ 1000000) : Calls Tryd.prog 21 #[.slice a len cap] w (DecP 32 67 15 bs w) := by
  have HRW := Lib.hid hR
  have HF := Lib.hid (fun w' hb => rfirst_any a len cap bs w' (hR.below (w' := w') hb) hz hc hl)
  have HBL : Hid (bs.length ≤ 1000000) := Lib.hid (by have := hR.size; omega)
  clear hR hz hc
  have HR0 : Hid (Blk (w.alloc (.cells #[.bool false, .slice none 0 0, .slice none 0 0, .slice none 0 0] 26)) w.heap.size 26 (pgA false none 0 0 none 0 0 none 0 0)) := Lib.hid (Blk.new w 26 _)
  have HB0 := Lib.hid (below_one w (.cells #[.bool false, .slice none 0 0, .slice none 0 0, .slice none 0 0] 26))
  go_enter Tryd.func21, Tryd.ntmps21
  go_upto_region 1 with fail
  try simp only [World.size_alloc, Act.put, List.setIfInBounds_toArray, List.set_cons_zero, List.set_cons_succ]
  generalize w.alloc (.cells #[.bool false, .slice none 0 0, .slice none 0 0, .slice none 0 0] 26) = w0 at HR0 HB0 ⊢
  obtain ⟨r, hr⟩ : ∃ r, w.heap.size = r := ⟨_, rfl⟩
  have HWR : Hid (w.heap.size ≤ r) := Lib.hid (by omega)
  rw [hr] at HR0
  rw [hr]
  clear hr
  go_wp2_with fail
  refine (HF.out _ HB0.out).mono ?_
  intro e w1 hP
  obtain ⟨a1, cap1, rfl, hs1, hb1⟩ := hP.sub
  have HS1 := Lib.hid (hs1 HBL.out)
  have HB1 := Lib.hid (HB0.out.trans (hb1.mono HB0.out.size))
  have HR1 := Lib.hid (HR0.out.below hb1)
  clear hP hs1 hb1 HF HR0 HB0
  have HN1 := Lib.hid (dec_no1 (bs := bs))
  have HN3 := Lib.hid (dec_no3 (bs := bs))
  have HN4 := Lib.hid (fun l hl => dec_no4 (bs := bs) (l := l) hl)
  have HN5 := Lib.hid (fun l hl => dec_no5 (bs := bs) (l := l) hl)
  generalize Frm.first bs = f at *
  obtain ⟨fc, fm, fe⟩ := f
  simp only at HN1 HN3 HN4 HN5 HS1 ⊢
  go_wp2_with fail
  refine (takeN_any a1 fc.length cap1 fc w1 HS1.out).mono ?_
  rintro e w2 ⟨h2, hb2⟩
  have HB2 := Lib.hid (HB1.out.trans (hb2.mono HB1.out.size))
  have HR2 := Lib.hid (HR1.out.below hb2)
  have HRS : Hid (r < w1.heap.size) := Lib.hid HR1.out.lt
  have HFM : Hid (fc.length ≤ 1000000) := Lib.hid HS1.out.room
  clear hb2 HB1 HR1 HS1
  by_cases he : fe = 0
  case neg =>
    have q1 : ((fe : Int) != 0) = true := by simp; omega
    have HNO := Lib.hid (HN1.out he)
    clear he
    rcases h2 with ⟨l, al, cl, _, _, _, rfl, _⟩ | ⟨_, rfl⟩
    all_goals
      go_wp2_with (refine wpList_stop26 rfl ?_)
      refine ⟨?_⟩
      refine wpList_void rfl rfl (exec_store26 (lf2 := false) (b1 := none) (m1 := 0) (d1 := 0) (b2 := none) (m2 := 0) (d2 := 0) (b3 := none) (m3 := 0) (d3 := 0) rfl rfl rfl HR2.out) ?_
      have HRR := Lib.hid (HR2.out.row (ds := pgA false none 0 0 none 0 0 none 0 0))
      have HE := Lib.hid (dec_err HWR.out HB2.out HNO.out)
      generalize w2.setRow r (pgA false none 0 0 none 0 0 none 0 0) = w9 at HRR HE ⊢
      go_wp2_with fail
      exact bodyPost_ret (v := .tuple #[.agg (pgA false none 0 0 none 0 0 none 0 0), .int .i64 15]) (retC_two Tryd.results21 rfl rfl (loadVar26 HRR.out)) rfl HE.out
  have q1 : ((fe : Int) != 0) = false := by simp; omega
  clear he HN1
  rcases h2 with ⟨l, al, cl, hsm, hen, hln, rfl, ho⟩ | ⟨hno, rfl⟩
  case inr =>
    have HNO := Lib.hid (HN3.out hno)
    clear hno
    go_wp2_with (refine wpList_stop26 rfl ?_)
    refine ⟨?_⟩
    refine wpList_void rfl rfl (exec_store26 (lf2 := false) (b1 := none) (m1 := 0) (d1 := 0) (b2 := none) (m2 := 0) (d2 := 0) (b3 := none) (m3 := 0) (d3 := 0) rfl rfl rfl HR2.out) ?_
    have HRR := Lib.hid (HR2.out.row (ds := pgA false none 0 0 none 0 0 none 0 0))
    have HE := Lib.hid (dec_err HWR.out HB2.out HNO.out)
    generalize w2.setRow r (pgA false none 0 0 none 0 0 none 0 0) = w9 at HRR HE ⊢
    go_wp2_with fail
    exact bodyPost_ret (v := .tuple #[.agg (pgA false none 0 0 none 0 0 none 0 0), .int .i64 15]) (retC_two Tryd.results21 rfl rfl (loadVar26 HRR.out)) rfl HE.out
  have HSM := Lib.hid hsm
  have HEN := Lib.hid hen
  have HNO4 := Lib.hid (HN4.out l hsm hen)
  have HNO5 := Lib.hid (HN5.out l hsm hen)
  have HNL := Lib.hid (ho.mono (B' := r + 1) (by have := HRS.out; omega))
  have hl1m : l.length ≤ 1000000 := by have := HFM.out; omega
  clear hsm hen HN3 HN4 HN5 ho hln
  obtain ⟨L, hL⟩ : ∃ L, l.length = L := ⟨_, rfl⟩
  have HLL := Lib.hid hL
  rw [hL] at HNL hl1m
  rw [hL]
  by_cases h2 : L < 2
  case pos =>
    have hL2 : decide ((L : Int) < 2) = true := by simp; omega
    have HNO := Lib.hid (HNO4.out (.inl (by omega)))
    clear hL h2
    go_wp2_with (refine wpList_stop26 rfl ?_)
    refine ⟨?_⟩
    refine wpList_void rfl rfl (exec_store26 (lf2 := false) (b1 := none) (m1 := 0) (d1 := 0) (b2 := none) (m2 := 0) (d2 := 0) (b3 := none) (m3 := 0) (d3 := 0) rfl rfl rfl HR2.out) ?_
    have HRR := Lib.hid (HR2.out.row (ds := pgA false none 0 0 none 0 0 none 0 0))
    have HE := Lib.hid (dec_err HWR.out HB2.out HNO.out)
    generalize w2.setRow r (pgA false none 0 0 none 0 0 none 0 0) = w9 at HRR HE ⊢
    go_wp2_with fail
    exact bodyPost_ret (v := .tuple #[.agg (pgA false none 0 0 none 0 0 none 0 0), .int .i64 15]) (retC_two Tryd.results21 rfl rfl (loadVar26 HRR.out)) rfl HE.out
  have hL2 : decide ((L : Int) < 2) = false := by simp; omega
  have hgl : ∃ gl, al = some ⟨gl, 0, none⟩ := by
    rcases HNL.out.row.2 with ⟨h0, _⟩ | ⟨g, cap', cur, hv, _⟩
    · simp at h0; omega
    · simp at hv; exact ⟨g, hv.1⟩
  obtain ⟨gl, rfl⟩ := hgl
  have HX0 : Hid (w2.rangeAt gl (0 + 0 * 1) [.int .u64 ((l.getD 0 0 : Nat) : Int)]) := Lib.hid (NL.cell HNL.out.gl (by omega))
  have HX1 : Hid (w2.rangeAt gl (0 + 1 * 1) [.int .u64 ((l.getD 1 0 : Nat) : Int)]) := Lib.hid (NL.cell HNL.out.gl (by omega))
  have hi0 : 0 < L := by omega
  have hi1 : 1 < L := by omega
  clear hL h2
  obtain ⟨x0, hx0⟩ : ∃ x0, l.getD 0 0 = x0 := ⟨_, rfl⟩
  obtain ⟨x1, hx1⟩ : ∃ x1, l.getD 1 0 = x1 := ⟨_, rfl⟩
  have HV0 := Lib.hid hx0
  have HV1 := Lib.hid hx1
  rw [hx0] at HX0
  rw [hx1] at HX1
  clear hx0 hx1
  by_cases h8 : 8 < x1
  case pos =>
    have q8 : decide ((x1 : Int) > 8) = true := by simp; omega
    have q8' : decide ((8 : Int) < (x1 : Int)) = true := by simp; omega
    have HNO := Lib.hid (HNO4.out (.inr (.inl (by rw [HV1.out]; exact h8))))
    clear h8
    go_wp2_with (first | (refine wpList_runW (exec_idx72 (i := 1) rfl rfl rfl rfl hi1) (by kernel_rfl) ?_) | (refine wpList_runW (exec_ld72 (n := x1) rfl rfl HX1.out) (by kernel_rfl) ?_) | (refine wpList_stop26 rfl ?_))
    refine ⟨?_⟩
    refine wpList_void rfl rfl (exec_store26 (lf2 := false) (b1 := none) (m1 := 0) (d1 := 0) (b2 := none) (m2 := 0) (d2 := 0) (b3 := none) (m3 := 0) (d3 := 0) rfl rfl rfl HR2.out) ?_
    have HRR := Lib.hid (HR2.out.row (ds := pgA false none 0 0 none 0 0 none 0 0))
    have HE := Lib.hid (dec_err HWR.out HB2.out HNO.out)
    generalize w2.setRow r (pgA false none 0 0 none 0 0 none 0 0) = w9 at HRR HE ⊢
    go_wp2_with fail
    exact bodyPost_ret (v := .tuple #[.agg (pgA false none 0 0 none 0 0 none 0 0), .int .i64 15]) (retC_two Tryd.results21 rfl rfl (loadVar26 HRR.out)) rfl HE.out
  have q8 : decide ((x1 : Int) > 8) = false := by simp; omega
  have q8' : decide ((8 : Int) < (x1 : Int)) = false := by simp; omega
  have hx8 : x1 ≤ 8 := by omega
  have hcv : IntKind.i64.wrap (x1 : Int) = (x1 : Int) := by rw [IntKind.wrap_i64]; omega
  clear h8
  by_cases h1 : x0 = 1
  · have HLF : Hid ((l.getD 0 0 == 1) = true) := Lib.hid (by rw [HV0.out]; simp [h1])
    have q0 : ((x0 : Int) == 1) = true := by simp; omega
    clear h1
    go_upto_region 3 with fail
    go_upto_region 5 with (first | (refine wpList_runW (exec_idx72 (i := 1) rfl rfl rfl rfl hi1) (by kernel_rfl) ?_) | (refine wpList_runW (exec_ld72 (n := x1) rfl rfl HX1.out) (by kernel_rfl) ?_))
    go_upto_region 6 with (first | (refine wpList_run rfl (exec_idx72 (i := 0) rfl rfl rfl rfl hi0) ?_) | (refine wpList_run rfl (exec_ld72 (n := x0) rfl rfl HX0.out) ?_))
    go_upto_region 9 with fail
    have HX : Hid (Dk w (w2.alloc (.cells #[.bool true, .slice none 0 0, .slice none 0 0, .slice none 0 0] 26)) r w2.heap.size true gl L cl l none 0 0 [] none 0 0 [] none 0 0 []) := Lib.hid ⟨HR2.out.below (below_one _ _), Blk.new w2 26 _, HNL.out.below (below_one _ _), ownG_nil _ _ _ _, ownG_nil _ _ _ _, ownG_nil _ _ _ _, ⟨HWR.out, HR2.out.lt⟩, HB2.out.trans ((below_one w2 _).mono HB2.out.size)⟩
    generalize w2.alloc (.cells #[.bool true, .slice none 0 0, .slice none 0 0, .slice none 0 0] 26) = w3 at HX ⊢
    generalize w2.heap.size = g at HX ⊢
    have HY1 : Hid (w3.rangeAt gl (0 + 1 * 1) [.int .u64 (x1 : Int)]) := Lib.hid (by have := HX.out.num (i := 1) (by rw [HLL.out]; omega); rwa [HV1.out] at this)
    clear HX0 HX1 HNL q0 q8 q8' hL2 q1 HR2 HB2
    by_cases h9 : L = 2 + 5 * x1
    case neg =>
      have q9 : ((L : Int) != 2 + 5 * (x1 : Int)) = true := by simp; omega
      have HNO := Lib.hid (HNO4.out (.inr (.inr (by rw [HLL.out, HLF.out, HV1.out]; exact h9))))
      have HR2 := Lib.hid HX.out.res
      have HB2 := Lib.hid HX.out.old
      clear h9
      go_wp2_with (first | (refine wpList_run rfl (exec_idx72 (i := 1) rfl rfl rfl rfl hi1) ?_) | (refine wpList_run rfl (exec_ld72 (n := x1) rfl rfl HY1.out) ?_) | (refine wpList_stop26 rfl ?_))
      refine ⟨?_⟩
      refine wpList_void rfl rfl (exec_store26 (lf2 := false) (b1 := none) (m1 := 0) (d1 := 0) (b2 := none) (m2 := 0) (d2 := 0) (b3 := none) (m3 := 0) (d3 := 0) rfl rfl rfl HR2.out) ?_
      have HRR := Lib.hid (HR2.out.row (ds := pgA false none 0 0 none 0 0 none 0 0))
      have HE := Lib.hid (dec_err HWR.out HB2.out HNO.out)
      generalize w3.setRow r (pgA false none 0 0 none 0 0 none 0 0) = w9 at HRR HE ⊢
      go_wp2_with fail
      exact bodyPost_ret (v := .tuple #[.agg (pgA false none 0 0 none 0 0 none 0 0), .int .i64 15]) (retC_two Tryd.results21 rfl rfl (loadVar26 HRR.out)) rfl HE.out
    have q9 : ((L : Int) != 2 + 5 * (x1 : Int)) = false := by simp; omega
    have HL9 := Lib.hid h9
    clear h9
    go_upto_region 10 with (first | (refine wpList_run rfl (exec_idx72 (i := 1) rfl rfl rfl rfl hi1) ?_) | (refine wpList_run rfl (exec_ld72 (n := x1) rfl rfl HY1.out) ?_) | (refine wpList_stop26 rfl ?_))
    go_upto_region 15 with fail
    clear q9 HY1
    go_loopw [11, 12, 13, 14] (fun s1 s2 s3 iv wr => ∃ (k : Nat) (ak : Option Addr) (ck : Nat) (a2 : Option Addr) (c2 : Nat), k ≤ x1 ∧ s1 = .slice ak k ck ∧ s2 = .slice a2 k c2 ∧ s3 = .slice none 0 0 ∧ iv = .int .i64 (k : Int) ∧ Hid (Dk w wr r g true gl L cl l ak k ck (candK true l k) a2 k c2 (candL true l k) none 0 0 [])) (fun _ _ _ iv _ => x1 - (intOf iv).toNat)
    case atStart => exact ⟨0, none, 0, none, 0, Nat.zero_le _, rfl, rfl, rfl, rfl, HX⟩
    case round =>
      obtain ⟨k, ak, ck, a2, c2, hk, rfl, rfl, rfl, rfl, HX0⟩ := hrel
      clear HX
      have HY1 : Hid (wr.rangeAt gl (0 + 1 * 1) [.int .u64 (x1 : Int)]) := Lib.hid (by have := HX0.out.num (i := 1) (by rw [HLL.out]; omega); rwa [HV1.out] at this)
      by_cases hlt : k < x1
      · obtain ⟨lo, hlo⟩ : ∃ lo, 2 + 5 * k = lo := ⟨_, rfl⟩
        have hsl := fun W => slice83 gl L cl lo (lo + 5) (2 + 5 * (k : Int)) (2 + 5 * (k : Int) + 5) (by omega) (by omega) (by omega) (by have := HX0.out.nl.cap; have := HL9.out; omega) (by have := HX0.out.nl.cap; have := HL9.out; omega) W
        rw [show lo + 5 - lo = 5 by omega] at hsl
        have HLO0 : Hid (lo < l.length) := Lib.hid (by have := HL9.out; have := HLL.out; omega)
        have HLO1 : Hid (lo + 1 < l.length) := Lib.hid (by have := HL9.out; have := HLL.out; omega)
        have HLO2 : Hid (lo + 2 < l.length) := Lib.hid (by have := HL9.out; have := HLL.out; omega)
        have HLO3 : Hid (lo + 3 < l.length) := Lib.hid (by have := HL9.out; have := HLL.out; omega)
        have HLO4 : Hid (lo + 4 < l.length) := Lib.hid (by have := HL9.out; have := HLL.out; omega)
        have HLOK := Lib.hid hlo
        clear hlo
        go_upto_region 18 with (first | (refine wpList_run rfl (exec_idx72 (i := 1) rfl rfl rfl rfl hi1) ?_) | (refine wpList_run rfl (exec_ld72 (n := x1) rfl rfl HY1.out) ?_) | (refine wpList_stop26 rfl ?_))
        clear hsl HY1
        refine wp_region_held_drew (S := fun w' => NL w' (some ⟨gl, 0, none⟩) L l ∧ Below w.heap.size w w') (by kernel_rfl) ⟨(HX0.out.below (drew_below _)).nl.gl, (HX0.out.below (drew_below _)).old⟩ (fun hS => ?_)
        have HD := Lib.hid (HX0.out.below (drew_below _))
        refine held_take 0 83 (.slice ak k ck) rfl rfl (by kernel_rfl) (by kernel_rfl) (by kernel_rfl) (fun _ _ _ h => h) (by kernel_rfl) (fun _ _ => rfl) hS ?_
        simp only [Act.put, List.setIfInBounds_toArray, List.set_cons_zero, List.set_cons_succ]
        refine held_take 1 84 (.slice (some ⟨gl, lo, none⟩) 5 (cl - lo)) rfl rfl (by kernel_rfl) (by kernel_rfl) (by kernel_rfl) (fun _ _ _ h => h) (by kernel_rfl) (fun _ _ => rfl) hS ?_
        simp only [Act.put, List.setIfInBounds_toArray, List.set_cons_zero, List.set_cons_succ]
        refine held_take 2 85 (.pointer (some ⟨gl, lo + 0 * 1, none⟩)) rfl rfl (by kernel_rfl) (by kernel_rfl) (by kernel_rfl) (fun _ _ _ h => h) (by kernel_rfl) (fun _ _ => exec_idx72 (i := 0) rfl rfl rfl rfl (by omega)) hS ?_
        simp only [Act.put, List.setIfInBounds_toArray, List.set_cons_zero, List.set_cons_succ]
        refine held_take 3 86 (.int .u64 ((l.getD lo 0 : Nat) : Int)) rfl rfl (by kernel_rfl) (by kernel_rfl) (by kernel_rfl) (fun _ _ _ h => h) (by kernel_rfl) (fun _ h => exec_ld72 rfl rfl (nl_at h.1 (j := 0) HLO0.out)) hS ?_
        simp only [Act.put, List.setIfInBounds_toArray, List.set_cons_zero, List.set_cons_succ]
        refine held_take 4 87 (.int .u16 ((l.getD lo 0 % 65536 : Nat) : Int)) rfl rfl (by kernel_rfl) (by kernel_rfl) (by kernel_rfl) (fun _ _ _ h => h) (by kernel_rfl) (fun _ _ => exec_cv16 rfl rfl) hS ?_
        simp only [Act.put, List.setIfInBounds_toArray, List.set_cons_zero, List.set_cons_succ]
        refine held_take 5 88 (.slice (some ⟨gl, lo, none⟩) 5 (cl - lo)) rfl rfl (by kernel_rfl) (by kernel_rfl) (by kernel_rfl) (fun _ _ _ h => h) (by kernel_rfl) (fun _ _ => rfl) hS ?_
        simp only [Act.put, List.setIfInBounds_toArray, List.set_cons_zero, List.set_cons_succ]
        refine held_take 6 89 (.pointer (some ⟨gl, lo + 1 * 1, none⟩)) rfl rfl (by kernel_rfl) (by kernel_rfl) (by kernel_rfl) (fun _ _ _ h => h) (by kernel_rfl) (fun _ _ => exec_idx72 (i := 1) rfl rfl rfl rfl (by omega)) hS ?_
        simp only [Act.put, List.setIfInBounds_toArray, List.set_cons_zero, List.set_cons_succ]
        refine held_take 7 90 (.int .u64 ((l.getD (lo + 1) 0 : Nat) : Int)) rfl rfl (by kernel_rfl) (by kernel_rfl) (by kernel_rfl) (fun _ _ _ h => h) (by kernel_rfl) (fun _ h => exec_ld72 rfl rfl (nl_at h.1 (j := 1) HLO1.out)) hS ?_
        simp only [Act.put, List.setIfInBounds_toArray, List.set_cons_zero, List.set_cons_succ]
        refine held_take 8 91 (.int .u8 ((l.getD (lo + 1) 0 % 256 : Nat) : Int)) rfl rfl (by kernel_rfl) (by kernel_rfl) (by kernel_rfl) (fun _ _ _ h => h) (by kernel_rfl) (fun _ _ => exec_cv8 rfl rfl) hS ?_
        simp only [Act.put, List.setIfInBounds_toArray, List.set_cons_zero, List.set_cons_succ]
        refine held_take 9 92 (.slice (some ⟨gl, lo, none⟩) 5 (cl - lo)) rfl rfl (by kernel_rfl) (by kernel_rfl) (by kernel_rfl) (fun _ _ _ h => h) (by kernel_rfl) (fun _ _ => rfl) hS ?_
        simp only [Act.put, List.setIfInBounds_toArray, List.set_cons_zero, List.set_cons_succ]
        refine held_take 10 93 (.pointer (some ⟨gl, lo + 2 * 1, none⟩)) rfl rfl (by kernel_rfl) (by kernel_rfl) (by kernel_rfl) (fun _ _ _ h => h) (by kernel_rfl) (fun _ _ => exec_idx72 (i := 2) rfl rfl rfl rfl (by omega)) hS ?_
        simp only [Act.put, List.setIfInBounds_toArray, List.set_cons_zero, List.set_cons_succ]
        refine held_take 11 94 (.int .u64 ((l.getD (lo + 2) 0 : Nat) : Int)) rfl rfl (by kernel_rfl) (by kernel_rfl) (by kernel_rfl) (fun _ _ _ h => h) (by kernel_rfl) (fun _ h => exec_ld72 rfl rfl (nl_at h.1 (j := 2) HLO2.out)) hS ?_
        simp only [Act.put, List.setIfInBounds_toArray, List.set_cons_zero, List.set_cons_succ]
        refine held_take 12 95 (.int .u32 ((l.getD (lo + 2) 0 % 4294967296 : Nat) : Int)) rfl rfl (by kernel_rfl) (by kernel_rfl) (by kernel_rfl) (fun _ _ _ h => h) (by kernel_rfl) (fun _ _ => exec_cv32 rfl rfl) hS ?_
        simp only [Act.put, List.setIfInBounds_toArray, List.set_cons_zero, List.set_cons_succ]
        refine held_take 13 96 (.agg #[.int .u8 ((l.getD (lo + 1) 0 % 256 : Nat) : Int), .int .u32 ((l.getD (lo + 2) 0 % 4294967296 : Nat) : Int)]) rfl rfl (by kernel_rfl) (by kernel_rfl) (by kernel_rfl) (fun _ _ _ h => h) (by kernel_rfl) (fun _ _ => (by kernel_rfl)) hS ?_
        simp only [Act.put, List.setIfInBounds_toArray, List.set_cons_zero, List.set_cons_succ]
        refine held_take 14 97 (.agg (kyOf l lo).arr) rfl rfl (by kernel_rfl) (by kernel_rfl) (by kernel_rfl) (fun _ _ _ h => h) (by kernel_rfl) (fun _ _ => (by kernel_rfl)) hS ?_
        simp only [Act.put, List.setIfInBounds_toArray, List.set_cons_zero, List.set_cons_succ]
        refine held_exec 15 98 (.slice (some ⟨_, 0, none⟩) 1 1) rfl rfl (by kernel_rfl) (by kernel_rfl) (exec_bs32 (p := (kyOf l lo)) rfl rfl) ⟨hS.1.below (below_one _ _), hS.2.trans ((below_one _ _).mono hS.2.size)⟩ ?_
        simp only [Act.put, List.setIfInBounds_toArray, List.set_cons_zero, List.set_cons_succ]
        refine held_appendG 16 99 22 32 3 12 info32 und22 rfl (by decide) (by decide) rfl rfl (by kernel_rfl) (by kernel_rfl) rfl rfl rfl (HD.out.ok.below (below_one _ _)) (Blk.new _ 32 (kyOf l lo).arr) rfl (Ky.one_cs _) (by omega) (by have := HD.out.pg.lt; simp at this ⊢; omega) ?_
        intro b1 d1 w8 ho hk _
        have H8 := Lib.hid ((HD.out.below (below_one _ (.cells (kyOf l lo).arr 32))).add1 (x := (kyOf l lo)) ho hk)
        clear ho hk
        refine ⟨⟨H8.out.nl.gl, H8.out.old⟩, ?_⟩
        simp only [Act.put, List.setIfInBounds_toArray, List.set_cons_zero, List.set_cons_succ]
        have hS : NL w8 (some ⟨gl, 0, none⟩) L l ∧ Below w.heap.size w w8 := ⟨H8.out.nl.gl, H8.out.old⟩
        refine held_take 17 11 (.slice b1 (k + 1) d1) rfl rfl (by kernel_rfl) (by kernel_rfl) (by kernel_rfl) (fun _ _ _ h => h) (by kernel_rfl) (fun _ _ => rfl) hS ?_
        simp only [Act.put, List.setIfInBounds_toArray, List.set_cons_zero, List.set_cons_succ]
        refine wpAnyH_done (by kernel_rfl) ?_ _
        have HX1 := H8
        clear H8 HD hS
        have k0 := HX1.out.e0
        go_upto_region 20 with fail
        clear k0 HX0
        refine wp_region_held_drew (S := fun w' => NL w' (some ⟨gl, 0, none⟩) L l ∧ Below w.heap.size w w') (by kernel_rfl) ⟨(HX1.out.below (drew_below _)).nl.gl, (HX1.out.below (drew_below _)).old⟩ (fun hS => ?_)
        have HD := Lib.hid (HX1.out.below (drew_below _))
        refine held_take 0 102 (.slice a2 k c2) rfl rfl (by kernel_rfl) (by kernel_rfl) (by kernel_rfl) (fun _ _ _ h => h) (by kernel_rfl) (fun _ _ => rfl) hS ?_
        simp only [Act.put, List.setIfInBounds_toArray, List.set_cons_zero, List.set_cons_succ]
        refine held_take 1 103 (.slice (some ⟨gl, lo, none⟩) 5 (cl - lo)) rfl rfl (by kernel_rfl) (by kernel_rfl) (by kernel_rfl) (fun _ _ _ h => h) (by kernel_rfl) (fun _ _ => rfl) hS ?_
        simp only [Act.put, List.setIfInBounds_toArray, List.set_cons_zero, List.set_cons_succ]
        refine held_take 2 104 (.pointer (some ⟨gl, lo + 3 * 1, none⟩)) rfl rfl (by kernel_rfl) (by kernel_rfl) (by kernel_rfl) (fun _ _ _ h => h) (by kernel_rfl) (fun _ _ => exec_idx72 (i := 3) rfl rfl rfl rfl (by omega)) hS ?_
        simp only [Act.put, List.setIfInBounds_toArray, List.set_cons_zero, List.set_cons_succ]
        refine held_take 3 105 (.int .u64 ((l.getD (lo + 3) 0 : Nat) : Int)) rfl rfl (by kernel_rfl) (by kernel_rfl) (by kernel_rfl) (fun _ _ _ h => h) (by kernel_rfl) (fun _ h => exec_ld72 rfl rfl (nl_at h.1 (j := 3) HLO3.out)) hS ?_
        simp only [Act.put, List.setIfInBounds_toArray, List.set_cons_zero, List.set_cons_succ]
        refine held_take 4 106 (.int .u32 ((l.getD (lo + 3) 0 % 4294967296 : Nat) : Int)) rfl rfl (by kernel_rfl) (by kernel_rfl) (by kernel_rfl) (fun _ _ _ h => h) (by kernel_rfl) (fun _ _ => exec_cv32 rfl rfl) hS ?_
        simp only [Act.put, List.setIfInBounds_toArray, List.set_cons_zero, List.set_cons_succ]
        refine held_take 5 107 (.slice (some ⟨gl, lo, none⟩) 5 (cl - lo)) rfl rfl (by kernel_rfl) (by kernel_rfl) (by kernel_rfl) (fun _ _ _ h => h) (by kernel_rfl) (fun _ _ => rfl) hS ?_
        simp only [Act.put, List.setIfInBounds_toArray, List.set_cons_zero, List.set_cons_succ]
        refine held_take 6 108 (.pointer (some ⟨gl, lo + 4 * 1, none⟩)) rfl rfl (by kernel_rfl) (by kernel_rfl) (by kernel_rfl) (fun _ _ _ h => h) (by kernel_rfl) (fun _ _ => exec_idx72 (i := 4) rfl rfl rfl rfl (by omega)) hS ?_
        simp only [Act.put, List.setIfInBounds_toArray, List.set_cons_zero, List.set_cons_succ]
        refine held_take 7 109 (.int .u64 ((l.getD (lo + 4) 0 : Nat) : Int)) rfl rfl (by kernel_rfl) (by kernel_rfl) (by kernel_rfl) (fun _ _ _ h => h) (by kernel_rfl) (fun _ h => exec_ld72 rfl rfl (nl_at h.1 (j := 4) HLO4.out)) hS ?_
        simp only [Act.put, List.setIfInBounds_toArray, List.set_cons_zero, List.set_cons_succ]
        refine held_take 8 110 (.int .u32 ((l.getD (lo + 4) 0 % 4294967296 : Nat) : Int)) rfl rfl (by kernel_rfl) (by kernel_rfl) (by kernel_rfl) (fun _ _ _ h => h) (by kernel_rfl) (fun _ _ => exec_cv32 rfl rfl) hS ?_
        simp only [Act.put, List.setIfInBounds_toArray, List.set_cons_zero, List.set_cons_succ]
        refine held_take 9 111 (.agg (loOf l lo).arr) rfl rfl (by kernel_rfl) (by kernel_rfl) (by kernel_rfl) (fun _ _ _ h => h) (by kernel_rfl) (fun _ _ => (by kernel_rfl)) hS ?_
        simp only [Act.put, List.setIfInBounds_toArray, List.set_cons_zero, List.set_cons_succ]
        refine held_exec 10 112 (.slice (some ⟨_, 0, none⟩) 1 1) rfl rfl (by kernel_rfl) (by kernel_rfl) (exec_bs67 (p := (loOf l lo)) rfl rfl) ⟨hS.1.below (below_one _ _), hS.2.trans ((below_one _ _).mono hS.2.size)⟩ ?_
        simp only [Act.put, List.setIfInBounds_toArray, List.set_cons_zero, List.set_cons_succ]
        refine held_appendG 11 113 23 67 2 8 info67 und23 rfl (by decide) (by decide) rfl rfl (by kernel_rfl) (by kernel_rfl) rfl rfl rfl (HD.out.ol.below (below_one _ _)) (Blk.new _ 67 (loOf l lo).arr) rfl (Lo.one_cs _) (by omega) (by have := HD.out.pg.lt; simp at this ⊢; omega) ?_
        intro b2 d2 w9 ho hk _
        have H8 := Lib.hid ((HD.out.below (below_one _ (.cells (loOf l lo).arr 67))).add2 (x := (loOf l lo)) ho hk)
        clear ho hk
        refine ⟨⟨H8.out.nl.gl, H8.out.old⟩, ?_⟩
        simp only [Act.put, List.setIfInBounds_toArray, List.set_cons_zero, List.set_cons_succ]
        have hS : NL w9 (some ⟨gl, 0, none⟩) L l ∧ Below w.heap.size w w9 := ⟨H8.out.nl.gl, H8.out.old⟩
        refine held_take 12 12 (.slice b2 (k + 1) d2) rfl rfl (by kernel_rfl) (by kernel_rfl) (by kernel_rfl) (fun _ _ _ h => h) (by kernel_rfl) (fun _ _ => rfl) hS ?_
        simp only [Act.put, List.setIfInBounds_toArray, List.set_cons_zero, List.set_cons_succ]
        refine wpAnyH_done (by kernel_rfl) ?_ _
        have HX2 := H8
        clear H8 HD hS
        have HX3 : Hid (Dk w w9 r g true gl L cl l b1 (k + 1) d1 (candK true l (k + 1)) b2 (k + 1) d2 (candL true l (k + 1)) none 0 0 []) := Lib.hid (by rw [candK_next, candL_next, show 2 + wid true * k = lo from HLOK.out, HLOK.out]; exact HX2.out)
        go_wp2_with fail
        go_roundw
        case rel => exact ⟨k + 1, b1, d1, b2, d2, by omega, rfl, rfl, rfl, by go_num, HX3⟩
        case measure => simp [intOf]; omega
      · obtain rfl : k = x1 := by omega
        obtain ⟨P, hP⟩ : ∃ P, cand l = P := ⟨_, rfl⟩
        have HPE : Hid (P = ⟨true, candK true l k, candL true l k, []⟩) := Lib.hid (by rw [← hP]; unfold cand; rw [HLF.out, HV1.out]; rfl)
        have HPL : Hid (P.leaf = true) := Lib.hid (by rw [HPE.out])
        rw [hP] at HNO5
        clear hP
        have e1 : wr.cell? ⟨g, 1, none⟩ = some (.slice none 0 0) := HX0.out.pg.cell 1
        have f1 := HX0.out.pg.frozen 1
        go_upto_region 22 with (first | (refine wpList_run rfl (exec_idx72 (i := 1) rfl rfl rfl rfl hi1) ?_) | (refine wpList_run rfl (exec_ld72 (n := k) rfl rfl HY1.out) ?_) | (refine wpList_stop26 rfl ?_))
        go_upto_region 23 with fail
        clear e1 f1 HY1
        have HB1 := Lib.hid (HX0.out.pg.set 1 (.slice ak k ck))
        have HD := Lib.hid (De.close (a := a) (len := len) (bs := bs) HX0.out)
        generalize wr.setCell ⟨g, 1, none⟩ (.slice ak k ck) = v1 at HB1 HD ⊢
        have e1 : v1.cell? ⟨g, 2, none⟩ = some (.slice none 0 0) := HB1.out.cell 2
        have f1 := HB1.out.frozen 2
        go_upto_region 24 with fail
        clear e1 f1
        have HB2 := Lib.hid (HB1.out.set 2 (.slice a2 k c2))
        generalize v1.setCell ⟨g, 2, none⟩ (.slice a2 k c2) = v2 at HB2 HD ⊢
        have e1 : v2.cell? ⟨g, 3, none⟩ = some (.slice none 0 0) := HB2.out.cell 3
        have f1 := HB2.out.frozen 3
        go_upto_region 25 with fail
        clear e1 f1
        have HE0 : Hid (De w (v2.setCell ⟨g, 3, none⟩ (.slice none 0 0)) r g true ak k ck a2 k c2 none 0 0 P a len bs) := Lib.hid (by have := HD.out HRW.out; rw [HPE.out]; exact this)
        generalize v2.setCell ⟨g, 3, none⟩ (.slice none 0 0) = v3 at HE0 ⊢
        clear HB1 HB2 HD HX0
        have HRC0 := Lib.hid (fun W (hS : De w W r g true ak k ck a2 k c2 none 0 0 P a len bs) => (show Calls Tryd.prog 15 #[.agg (pgA true ak k ck a2 k c2 none 0 0)] W (Says (.bool P.right) W) from by rw [← HPL.out]; exact rright_any ck c2 0 hS.pv (by omega)))
        cases hr : P.right
        · have HNO := Lib.hid (HNO5.out (.inl hr))
          have HRC := HRC0
          rw [hr] at HRC
          clear hr HRC0
          refine wp_region_held_drew (S := fun w' => De w w' r g true ak k ck a2 k c2 none 0 0 P a len bs) (by kernel_rfl) (HE0.out.below (drew_below _)) (fun hS => ?_)
          refine held_take 0 127 (.agg (pgA true ak k ck a2 k c2 none 0 0)) rfl rfl (by kernel_rfl) (by kernel_rfl) (by kernel_rfl) (fun _ _ _ h => h) (by kernel_rfl) (fun _ h => exec_load26 rfl rfl h.pg) hS ?_
          simp only [Act.put, List.setIfInBounds_toArray, List.set_cons_zero, List.set_cons_succ]
          refine held_call 1 128 15 #[(.agg (pgA true ak k ck a2 k c2 none 0 0))] (.bool false) rfl (by kernel_rfl) rfl (by kernel_rfl) (by kernel_rfl) (HRC.out _ hS) (fun _ h hb => h.below hb) hS (fun w101 hS => ?_)
          simp only [Act.put, List.setIfInBounds_toArray, List.set_cons_zero, List.set_cons_succ]
          refine held_take 2 129 (.bool true) rfl rfl (by kernel_rfl) (by kernel_rfl) (by kernel_rfl) (fun _ _ _ h => h) (by kernel_rfl) (fun _ _ => rfl) hS ?_
          simp only [Act.put, List.setIfInBounds_toArray, List.set_cons_zero, List.set_cons_succ]
          refine held_take 3 130 (.bool true) rfl rfl (by kernel_rfl) (by kernel_rfl) (by kernel_rfl) (fun _ _ _ h => h) (by kernel_rfl) (fun _ _ => rfl) hS ?_
          simp only [Act.put, List.setIfInBounds_toArray, List.set_cons_zero, List.set_cons_succ]
          refine held_skip 4 131 rfl rfl (by kernel_rfl) (by kernel_rfl) (by kernel_rfl) (fun _ _ _ h => h) (by kernel_rfl) hS ?_
          simp only [Act.put, List.setIfInBounds_toArray, List.set_cons_zero, List.set_cons_succ]
          refine held_skip 5 132 rfl rfl (by kernel_rfl) (by kernel_rfl) (by kernel_rfl) (fun _ _ _ h => h) (by kernel_rfl) hS ?_
          simp only [Act.put, List.setIfInBounds_toArray, List.set_cons_zero, List.set_cons_succ]
          refine held_skip 6 133 rfl rfl (by kernel_rfl) (by kernel_rfl) (by kernel_rfl) (fun _ _ _ h => h) (by kernel_rfl) hS ?_
          simp only [Act.put, List.setIfInBounds_toArray, List.set_cons_zero, List.set_cons_succ]
          refine held_skip 7 134 rfl rfl (by kernel_rfl) (by kernel_rfl) (by kernel_rfl) (fun _ _ _ h => h) (by kernel_rfl) hS ?_
          simp only [Act.put, List.setIfInBounds_toArray, List.set_cons_zero, List.set_cons_succ]
          refine held_skip 8 135 rfl rfl (by kernel_rfl) (by kernel_rfl) (by kernel_rfl) (fun _ _ _ h => h) (by kernel_rfl) hS ?_
          simp only [Act.put, List.setIfInBounds_toArray, List.set_cons_zero, List.set_cons_succ]
          refine held_skip 9 136 rfl rfl (by kernel_rfl) (by kernel_rfl) (by kernel_rfl) (fun _ _ _ h => h) (by kernel_rfl) hS ?_
          simp only [Act.put, List.setIfInBounds_toArray, List.set_cons_zero, List.set_cons_succ]
          refine held_take 10 137 (.bool true) rfl rfl (by kernel_rfl) (by kernel_rfl) (by kernel_rfl) (fun _ _ _ h => h) (by kernel_rfl) (fun _ _ => rfl) hS ?_
          simp only [Act.put, List.setIfInBounds_toArray, List.set_cons_zero, List.set_cons_succ]
          refine wpAnyH_done (by kernel_rfl) ?_ _
          have HSE := Lib.hid hS
          clear hS
          go_wp2_with (refine wpList_stop26 rfl ?_)
          refine ⟨?_⟩
          refine wpList_void rfl rfl (exec_store26 (lf2 := false) (b1 := none) (m1 := 0) (d1 := 0) (b2 := none) (m2 := 0) (d2 := 0) (b3 := none) (m3 := 0) (d3 := 0) rfl rfl rfl HSE.out.res) ?_
          have HRR := Lib.hid (HSE.out.res.row (ds := pgA false none 0 0 none 0 0 none 0 0))
          have HE := Lib.hid (dec_err HSE.out.lt HSE.out.old HNO.out)
          generalize w101.setRow r (pgA false none 0 0 none 0 0 none 0 0) = w9 at HRR HE ⊢
          go_wp2_with fail
          exact bodyPost_ret (v := .tuple #[.agg (pgA false none 0 0 none 0 0 none 0 0), .int .i64 15]) (retC_two Tryd.results21 rfl rfl (loadVar26 HRR.out)) rfl HE.out
        · have HRT := Lib.hid hr
          have HRC := HRC0
          rw [hr] at HRC
          have HBC := Lib.hid (fun W (hS : De w W r g true ak k ck a2 k c2 none 0 0 P a len bs) => (show Calls Tryd.prog 31 #[.agg (pgA true ak k ck a2 k c2 none 0 0)] W (BytesP P W) from by rw [← HPL.out]; exact rbytes_yes ck c2 0 hS.pv hr))
          clear hr HRC0
          have HBSM := Lib.hid HRW.out.small
          by_cases hq : P.bytes = bs
          · have HQ := Lib.hid hq
            have HNE : Hid ((!((strOf P.bytes).toList == (strOf bs).toList)) = false) := Lib.hid (by rw [hq]; simp)
            clear hq
            refine wp_region_held_drew (S := fun w' => De w w' r g true ak k ck a2 k c2 none 0 0 P a len bs) (by kernel_rfl) (HE0.out.below (drew_below _)) (fun hS => ?_)
            refine held_take 0 127 (.agg (pgA true ak k ck a2 k c2 none 0 0)) rfl rfl (by kernel_rfl) (by kernel_rfl) (by kernel_rfl) (fun _ _ _ h => h) (by kernel_rfl) (fun _ h => exec_load26 rfl rfl h.pg) hS ?_
            simp only [Act.put, List.setIfInBounds_toArray, List.set_cons_zero, List.set_cons_succ]
            refine held_call 1 128 15 #[(.agg (pgA true ak k ck a2 k c2 none 0 0))] (.bool true) rfl (by kernel_rfl) rfl (by kernel_rfl) (by kernel_rfl) (HRC.out _ hS) (fun _ h hb => h.below hb) hS (fun w101 hS => ?_)
            simp only [Act.put, List.setIfInBounds_toArray, List.set_cons_zero, List.set_cons_succ]
            refine held_take 2 129 (.bool false) rfl rfl (by kernel_rfl) (by kernel_rfl) (by kernel_rfl) (fun _ _ _ h => h) (by kernel_rfl) (fun _ _ => rfl) hS ?_
            simp only [Act.put, List.setIfInBounds_toArray, List.set_cons_zero, List.set_cons_succ]
            refine held_take 3 130 (.bool false) rfl rfl (by kernel_rfl) (by kernel_rfl) (by kernel_rfl) (fun _ _ _ h => h) (by kernel_rfl) (fun _ _ => rfl) hS ?_
            simp only [Act.put, List.setIfInBounds_toArray, List.set_cons_zero, List.set_cons_succ]
            refine held_take 4 131 (.agg (pgA true ak k ck a2 k c2 none 0 0)) rfl rfl (by kernel_rfl) (by kernel_rfl) (by kernel_rfl) (fun _ _ _ h => h) (by kernel_rfl) (fun _ h => exec_load26 rfl rfl h.pg) hS ?_
            simp only [Act.put, List.setIfInBounds_toArray, List.set_cons_zero, List.set_cons_succ]
            refine held_take 7 134 (.slice a len cap) rfl rfl (by kernel_rfl) (by kernel_rfl) (by kernel_rfl) (fun _ _ _ h => h) (by kernel_rfl) (fun _ _ => rfl) hS ?_
            simp only [Act.put, List.setIfInBounds_toArray, List.set_cons_zero, List.set_cons_succ]
            refine held_take 8 135 (.string (strOf bs)) rfl rfl (by kernel_rfl) (by kernel_rfl) (by kernel_rfl) (fun _ _ _ h => h) (by kernel_rfl) (fun _ h => exec_str rfl rfl (conv_any h.row)) hS ?_
            simp only [Act.put, List.setIfInBounds_toArray, List.set_cons_zero, List.set_cons_succ]
            refine held_callP 5 132 31 #[(.agg (pgA true ak k ck a2 k c2 none 0 0))] rfl (by kernel_rfl) rfl (by kernel_rfl) (by kernel_rfl) (HBC.out _ hS) (fun e w105 hP => ?_)
            obtain ⟨ga5, ca5, rfl, ho5, hb5⟩ := hP
            refine ⟨_, rfl, hS.below hb5, fun hS => ?_⟩
            simp only [Act.put, List.setIfInBounds_toArray, List.set_cons_zero, List.set_cons_succ]
            refine held_run 6 133 (.string (strOf P.bytes)) rfl rfl (by kernel_rfl) (by kernel_rfl) (exec_str rfl rfl (conv_any (ho5.row P.bytes_small))) hS ?_
            simp only [Act.put, List.setIfInBounds_toArray, List.set_cons_zero, List.set_cons_succ]
            refine held_take 9 136 (.bool false) rfl rfl (by kernel_rfl) (by kernel_rfl) (by kernel_rfl) (fun _ _ _ h => h) (by kernel_rfl) (fun _ _ => exec_neqS rfl rfl rfl HNE.out) hS ?_
            simp only [Act.put, List.setIfInBounds_toArray, List.set_cons_zero, List.set_cons_succ]
            refine held_take 10 137 (.bool false) rfl rfl (by kernel_rfl) (by kernel_rfl) (by kernel_rfl) (fun _ _ _ h => h) (by kernel_rfl) (fun _ _ => rfl) hS ?_
            simp only [Act.put, List.setIfInBounds_toArray, List.set_cons_zero, List.set_cons_succ]
            refine wpAnyH_done (by kernel_rfl) ?_ _
            have HSE := Lib.hid hS
            clear hS
            go_wp2_with (first | (refine wpList_run rfl (exec_load26 rfl rfl HSE.out.pg) ?_) | (refine wpList_stop26 rfl ?_))
            refine ⟨?_⟩
            refine wpList_void rfl rfl (exec_store26 rfl rfl rfl HSE.out.res) ?_
            have HRR := Lib.hid (HSE.out.res.row (ds := pgA true ak k ck a2 k c2 none 0 0))
            have HE := Lib.hid (dec_fine HSE.out HPL.out HRT.out HQ.out)
            generalize w105.setRow r (pgA true ak k ck a2 k c2 none 0 0) = w9 at HRR HE ⊢
            go_wp2_with fail
            exact bodyPost_ret (v := .tuple #[.agg (pgA true ak k ck a2 k c2 none 0 0), .int .i64 0]) (retC_two Tryd.results21 rfl rfl (loadVar26 HRR.out)) rfl HE.out
          · have HNO := Lib.hid (HNO5.out (.inr hq))
            have HNE : Hid ((!((strOf P.bytes).toList == (strOf bs).toList)) = true) := Lib.hid (by rw [str_neF P.bytes_small HBSM.out hq]; rfl)
            clear hq
            refine wp_region_held_drew (S := fun w' => De w w' r g true ak k ck a2 k c2 none 0 0 P a len bs) (by kernel_rfl) (HE0.out.below (drew_below _)) (fun hS => ?_)
            refine held_take 0 127 (.agg (pgA true ak k ck a2 k c2 none 0 0)) rfl rfl (by kernel_rfl) (by kernel_rfl) (by kernel_rfl) (fun _ _ _ h => h) (by kernel_rfl) (fun _ h => exec_load26 rfl rfl h.pg) hS ?_
            simp only [Act.put, List.setIfInBounds_toArray, List.set_cons_zero, List.set_cons_succ]
            refine held_call 1 128 15 #[(.agg (pgA true ak k ck a2 k c2 none 0 0))] (.bool true) rfl (by kernel_rfl) rfl (by kernel_rfl) (by kernel_rfl) (HRC.out _ hS) (fun _ h hb => h.below hb) hS (fun w101 hS => ?_)
            simp only [Act.put, List.setIfInBounds_toArray, List.set_cons_zero, List.set_cons_succ]
            refine held_take 2 129 (.bool false) rfl rfl (by kernel_rfl) (by kernel_rfl) (by kernel_rfl) (fun _ _ _ h => h) (by kernel_rfl) (fun _ _ => rfl) hS ?_
            simp only [Act.put, List.setIfInBounds_toArray, List.set_cons_zero, List.set_cons_succ]
            refine held_take 3 130 (.bool false) rfl rfl (by kernel_rfl) (by kernel_rfl) (by kernel_rfl) (fun _ _ _ h => h) (by kernel_rfl) (fun _ _ => rfl) hS ?_
            simp only [Act.put, List.setIfInBounds_toArray, List.set_cons_zero, List.set_cons_succ]
            refine held_take 4 131 (.agg (pgA true ak k ck a2 k c2 none 0 0)) rfl rfl (by kernel_rfl) (by kernel_rfl) (by kernel_rfl) (fun _ _ _ h => h) (by kernel_rfl) (fun _ h => exec_load26 rfl rfl h.pg) hS ?_
            simp only [Act.put, List.setIfInBounds_toArray, List.set_cons_zero, List.set_cons_succ]
            refine held_take 7 134 (.slice a len cap) rfl rfl (by kernel_rfl) (by kernel_rfl) (by kernel_rfl) (fun _ _ _ h => h) (by kernel_rfl) (fun _ _ => rfl) hS ?_
            simp only [Act.put, List.setIfInBounds_toArray, List.set_cons_zero, List.set_cons_succ]
            refine held_take 8 135 (.string (strOf bs)) rfl rfl (by kernel_rfl) (by kernel_rfl) (by kernel_rfl) (fun _ _ _ h => h) (by kernel_rfl) (fun _ h => exec_str rfl rfl (conv_any h.row)) hS ?_
            simp only [Act.put, List.setIfInBounds_toArray, List.set_cons_zero, List.set_cons_succ]
            refine held_callP 5 132 31 #[(.agg (pgA true ak k ck a2 k c2 none 0 0))] rfl (by kernel_rfl) rfl (by kernel_rfl) (by kernel_rfl) (HBC.out _ hS) (fun e w105 hP => ?_)
            obtain ⟨ga5, ca5, rfl, ho5, hb5⟩ := hP
            refine ⟨_, rfl, hS.below hb5, fun hS => ?_⟩
            simp only [Act.put, List.setIfInBounds_toArray, List.set_cons_zero, List.set_cons_succ]
            refine held_run 6 133 (.string (strOf P.bytes)) rfl rfl (by kernel_rfl) (by kernel_rfl) (exec_str rfl rfl (conv_any (ho5.row P.bytes_small))) hS ?_
            simp only [Act.put, List.setIfInBounds_toArray, List.set_cons_zero, List.set_cons_succ]
            refine held_take 9 136 (.bool true) rfl rfl (by kernel_rfl) (by kernel_rfl) (by kernel_rfl) (fun _ _ _ h => h) (by kernel_rfl) (fun _ _ => exec_neqS rfl rfl rfl HNE.out) hS ?_
            simp only [Act.put, List.setIfInBounds_toArray, List.set_cons_zero, List.set_cons_succ]
            refine held_take 10 137 (.bool true) rfl rfl (by kernel_rfl) (by kernel_rfl) (by kernel_rfl) (fun _ _ _ h => h) (by kernel_rfl) (fun _ _ => rfl) hS ?_
            simp only [Act.put, List.setIfInBounds_toArray, List.set_cons_zero, List.set_cons_succ]
            refine wpAnyH_done (by kernel_rfl) ?_ _
            have HSE := Lib.hid hS
            clear hS
            go_wp2_with (refine wpList_stop26 rfl ?_)
            refine ⟨?_⟩
            refine wpList_void rfl rfl (exec_store26 (lf2 := false) (b1 := none) (m1 := 0) (d1 := 0) (b2 := none) (m2 := 0) (d2 := 0) (b3 := none) (m3 := 0) (d3 := 0) rfl rfl rfl HSE.out.res) ?_
            have HRR := Lib.hid (HSE.out.res.row (ds := pgA false none 0 0 none 0 0 none 0 0))
            have HE := Lib.hid (dec_err HSE.out.lt HSE.out.old HNO.out)
            generalize w105.setRow r (pgA false none 0 0 none 0 0 none 0 0) = w9 at HRR HE ⊢
            go_wp2_with fail
            exact bodyPost_ret (v := .tuple #[.agg (pgA false none 0 0 none 0 0 none 0 0), .int .i64 15]) (retC_two Tryd.results21 rfl rfl (loadVar26 HRR.out)) rfl HE.out
  · have HLF : Hid ((l.getD 0 0 == 1) = false) := Lib.hid (by rw [HV0.out]; simp [h1])
    have q0 : ((x0 : Int) == 1) = false := by simp; omega
    clear h1
    go_upto_region 3 with fail
    go_upto_region 5 with (first | (refine wpList_runW (exec_idx72 (i := 1) rfl rfl rfl rfl hi1) (by kernel_rfl) ?_) | (refine wpList_runW (exec_ld72 (n := x1) rfl rfl HX1.out) (by kernel_rfl) ?_))
    go_upto_region 6 with (first | (refine wpList_run rfl (exec_idx72 (i := 0) rfl rfl rfl rfl hi0) ?_) | (refine wpList_run rfl (exec_ld72 (n := x0) rfl rfl HX0.out) ?_))
    go_upto_region 9 with fail
    have HX : Hid (Dk w (w2.alloc (.cells #[.bool false, .slice none 0 0, .slice none 0 0, .slice none 0 0] 26)) r w2.heap.size false gl L cl l none 0 0 [] none 0 0 [] none 0 0 []) := Lib.hid ⟨HR2.out.below (below_one _ _), Blk.new w2 26 _, HNL.out.below (below_one _ _), ownG_nil _ _ _ _, ownG_nil _ _ _ _, ownG_nil _ _ _ _, ⟨HWR.out, HR2.out.lt⟩, HB2.out.trans ((below_one w2 _).mono HB2.out.size)⟩
    generalize w2.alloc (.cells #[.bool false, .slice none 0 0, .slice none 0 0, .slice none 0 0] 26) = w3 at HX ⊢
    generalize w2.heap.size = g at HX ⊢
    have HY1 : Hid (w3.rangeAt gl (0 + 1 * 1) [.int .u64 (x1 : Int)]) := Lib.hid (by have := HX.out.num (i := 1) (by rw [HLL.out]; omega); rwa [HV1.out] at this)
    clear HX0 HX1 HNL q0 q8 q8' hL2 q1 HR2 HB2
    by_cases h9 : L = 2 + 4 * x1
    case neg =>
      have q9 : ((L : Int) != 2 + 4 * (x1 : Int)) = true := by simp; omega
      have HNO := Lib.hid (HNO4.out (.inr (.inr (by rw [HLL.out, HLF.out, HV1.out]; exact h9))))
      have HR2 := Lib.hid HX.out.res
      have HB2 := Lib.hid HX.out.old
      clear h9
      go_wp2_with (first | (refine wpList_run rfl (exec_idx72 (i := 1) rfl rfl rfl rfl hi1) ?_) | (refine wpList_run rfl (exec_ld72 (n := x1) rfl rfl HY1.out) ?_) | (refine wpList_stop26 rfl ?_))
      refine ⟨?_⟩
      refine wpList_void rfl rfl (exec_store26 (lf2 := false) (b1 := none) (m1 := 0) (d1 := 0) (b2 := none) (m2 := 0) (d2 := 0) (b3 := none) (m3 := 0) (d3 := 0) rfl rfl rfl HR2.out) ?_
      have HRR := Lib.hid (HR2.out.row (ds := pgA false none 0 0 none 0 0 none 0 0))
      have HE := Lib.hid (dec_err HWR.out HB2.out HNO.out)
      generalize w3.setRow r (pgA false none 0 0 none 0 0 none 0 0) = w9 at HRR HE ⊢
      go_wp2_with fail
      exact bodyPost_ret (v := .tuple #[.agg (pgA false none 0 0 none 0 0 none 0 0), .int .i64 15]) (retC_two Tryd.results21 rfl rfl (loadVar26 HRR.out)) rfl HE.out
    have q9 : ((L : Int) != 2 + 4 * (x1 : Int)) = false := by simp; omega
    have HL9 := Lib.hid h9
    clear h9
    go_upto_region 10 with (first | (refine wpList_run rfl (exec_idx72 (i := 1) rfl rfl rfl rfl hi1) ?_) | (refine wpList_run rfl (exec_ld72 (n := x1) rfl rfl HY1.out) ?_) | (refine wpList_stop26 rfl ?_))
    go_upto_region 15 with fail
    clear q9 HY1
    go_loopw [11, 12, 13, 14] (fun s1 s2 s3 iv wr => ∃ (k : Nat) (ak : Option Addr) (ck : Nat) (a2 : Option Addr) (c2 : Nat), k ≤ x1 ∧ s1 = .slice ak k ck ∧ s2 = .slice none 0 0 ∧ s3 = .slice a2 k c2 ∧ iv = .int .i64 (k : Int) ∧ Hid (Dk w wr r g false gl L cl l ak k ck (candK false l k) none 0 0 [] a2 k c2 (candD false l k))) (fun _ _ _ iv _ => x1 - (intOf iv).toNat)
    case atStart => exact ⟨0, none, 0, none, 0, Nat.zero_le _, rfl, rfl, rfl, rfl, HX⟩
    case round =>
      obtain ⟨k, ak, ck, a2, c2, hk, rfl, rfl, rfl, rfl, HX0⟩ := hrel
      clear HX
      have HY1 : Hid (wr.rangeAt gl (0 + 1 * 1) [.int .u64 (x1 : Int)]) := Lib.hid (by have := HX0.out.num (i := 1) (by rw [HLL.out]; omega); rwa [HV1.out] at this)
      by_cases hlt : k < x1
      · obtain ⟨lo, hlo⟩ : ∃ lo, 2 + 4 * k = lo := ⟨_, rfl⟩
        have hsl := fun W => slice83 gl L cl lo (lo + 4) (2 + 4 * (k : Int)) (2 + 4 * (k : Int) + 4) (by omega) (by omega) (by omega) (by have := HX0.out.nl.cap; have := HL9.out; omega) (by have := HX0.out.nl.cap; have := HL9.out; omega) W
        rw [show lo + 4 - lo = 4 by omega] at hsl
        have HLO0 : Hid (lo < l.length) := Lib.hid (by have := HL9.out; have := HLL.out; omega)
        have HLO1 : Hid (lo + 1 < l.length) := Lib.hid (by have := HL9.out; have := HLL.out; omega)
        have HLO2 : Hid (lo + 2 < l.length) := Lib.hid (by have := HL9.out; have := HLL.out; omega)
        have HLO3 : Hid (lo + 3 < l.length) := Lib.hid (by have := HL9.out; have := HLL.out; omega)
        have HLOK := Lib.hid hlo
        clear hlo
        go_upto_region 18 with (first | (refine wpList_run rfl (exec_idx72 (i := 1) rfl rfl rfl rfl hi1) ?_) | (refine wpList_run rfl (exec_ld72 (n := x1) rfl rfl HY1.out) ?_) | (refine wpList_stop26 rfl ?_))
        clear hsl HY1
        refine wp_region_held_drew (S := fun w' => NL w' (some ⟨gl, 0, none⟩) L l ∧ Below w.heap.size w w') (by kernel_rfl) ⟨(HX0.out.below (drew_below _)).nl.gl, (HX0.out.below (drew_below _)).old⟩ (fun hS => ?_)
        have HD := Lib.hid (HX0.out.below (drew_below _))
        refine held_take 0 83 (.slice ak k ck) rfl rfl (by kernel_rfl) (by kernel_rfl) (by kernel_rfl) (fun _ _ _ h => h) (by kernel_rfl) (fun _ _ => rfl) hS ?_
        simp only [Act.put, List.setIfInBounds_toArray, List.set_cons_zero, List.set_cons_succ]
        refine held_take 1 84 (.slice (some ⟨gl, lo, none⟩) 4 (cl - lo)) rfl rfl (by kernel_rfl) (by kernel_rfl) (by kernel_rfl) (fun _ _ _ h => h) (by kernel_rfl) (fun _ _ => rfl) hS ?_
        simp only [Act.put, List.setIfInBounds_toArray, List.set_cons_zero, List.set_cons_succ]
        refine held_take 2 85 (.pointer (some ⟨gl, lo + 0 * 1, none⟩)) rfl rfl (by kernel_rfl) (by kernel_rfl) (by kernel_rfl) (fun _ _ _ h => h) (by kernel_rfl) (fun _ _ => exec_idx72 (i := 0) rfl rfl rfl rfl (by omega)) hS ?_
        simp only [Act.put, List.setIfInBounds_toArray, List.set_cons_zero, List.set_cons_succ]
        refine held_take 3 86 (.int .u64 ((l.getD lo 0 : Nat) : Int)) rfl rfl (by kernel_rfl) (by kernel_rfl) (by kernel_rfl) (fun _ _ _ h => h) (by kernel_rfl) (fun _ h => exec_ld72 rfl rfl (nl_at h.1 (j := 0) HLO0.out)) hS ?_
        simp only [Act.put, List.setIfInBounds_toArray, List.set_cons_zero, List.set_cons_succ]
        refine held_take 4 87 (.int .u16 ((l.getD lo 0 % 65536 : Nat) : Int)) rfl rfl (by kernel_rfl) (by kernel_rfl) (by kernel_rfl) (fun _ _ _ h => h) (by kernel_rfl) (fun _ _ => exec_cv16 rfl rfl) hS ?_
        simp only [Act.put, List.setIfInBounds_toArray, List.set_cons_zero, List.set_cons_succ]
        refine held_take 5 88 (.slice (some ⟨gl, lo, none⟩) 4 (cl - lo)) rfl rfl (by kernel_rfl) (by kernel_rfl) (by kernel_rfl) (fun _ _ _ h => h) (by kernel_rfl) (fun _ _ => rfl) hS ?_
        simp only [Act.put, List.setIfInBounds_toArray, List.set_cons_zero, List.set_cons_succ]
        refine held_take 6 89 (.pointer (some ⟨gl, lo + 1 * 1, none⟩)) rfl rfl (by kernel_rfl) (by kernel_rfl) (by kernel_rfl) (fun _ _ _ h => h) (by kernel_rfl) (fun _ _ => exec_idx72 (i := 1) rfl rfl rfl rfl (by omega)) hS ?_
        simp only [Act.put, List.setIfInBounds_toArray, List.set_cons_zero, List.set_cons_succ]
        refine held_take 7 90 (.int .u64 ((l.getD (lo + 1) 0 : Nat) : Int)) rfl rfl (by kernel_rfl) (by kernel_rfl) (by kernel_rfl) (fun _ _ _ h => h) (by kernel_rfl) (fun _ h => exec_ld72 rfl rfl (nl_at h.1 (j := 1) HLO1.out)) hS ?_
        simp only [Act.put, List.setIfInBounds_toArray, List.set_cons_zero, List.set_cons_succ]
        refine held_take 8 91 (.int .u8 ((l.getD (lo + 1) 0 % 256 : Nat) : Int)) rfl rfl (by kernel_rfl) (by kernel_rfl) (by kernel_rfl) (fun _ _ _ h => h) (by kernel_rfl) (fun _ _ => exec_cv8 rfl rfl) hS ?_
        simp only [Act.put, List.setIfInBounds_toArray, List.set_cons_zero, List.set_cons_succ]
        refine held_take 9 92 (.slice (some ⟨gl, lo, none⟩) 4 (cl - lo)) rfl rfl (by kernel_rfl) (by kernel_rfl) (by kernel_rfl) (fun _ _ _ h => h) (by kernel_rfl) (fun _ _ => rfl) hS ?_
        simp only [Act.put, List.setIfInBounds_toArray, List.set_cons_zero, List.set_cons_succ]
        refine held_take 10 93 (.pointer (some ⟨gl, lo + 2 * 1, none⟩)) rfl rfl (by kernel_rfl) (by kernel_rfl) (by kernel_rfl) (fun _ _ _ h => h) (by kernel_rfl) (fun _ _ => exec_idx72 (i := 2) rfl rfl rfl rfl (by omega)) hS ?_
        simp only [Act.put, List.setIfInBounds_toArray, List.set_cons_zero, List.set_cons_succ]
        refine held_take 11 94 (.int .u64 ((l.getD (lo + 2) 0 : Nat) : Int)) rfl rfl (by kernel_rfl) (by kernel_rfl) (by kernel_rfl) (fun _ _ _ h => h) (by kernel_rfl) (fun _ h => exec_ld72 rfl rfl (nl_at h.1 (j := 2) HLO2.out)) hS ?_
        simp only [Act.put, List.setIfInBounds_toArray, List.set_cons_zero, List.set_cons_succ]
        refine held_take 12 95 (.int .u32 ((l.getD (lo + 2) 0 % 4294967296 : Nat) : Int)) rfl rfl (by kernel_rfl) (by kernel_rfl) (by kernel_rfl) (fun _ _ _ h => h) (by kernel_rfl) (fun _ _ => exec_cv32 rfl rfl) hS ?_
        simp only [Act.put, List.setIfInBounds_toArray, List.set_cons_zero, List.set_cons_succ]
        refine held_take 13 96 (.agg #[.int .u8 ((l.getD (lo + 1) 0 % 256 : Nat) : Int), .int .u32 ((l.getD (lo + 2) 0 % 4294967296 : Nat) : Int)]) rfl rfl (by kernel_rfl) (by kernel_rfl) (by kernel_rfl) (fun _ _ _ h => h) (by kernel_rfl) (fun _ _ => (by kernel_rfl)) hS ?_
        simp only [Act.put, List.setIfInBounds_toArray, List.set_cons_zero, List.set_cons_succ]
        refine held_take 14 97 (.agg (kyOf l lo).arr) rfl rfl (by kernel_rfl) (by kernel_rfl) (by kernel_rfl) (fun _ _ _ h => h) (by kernel_rfl) (fun _ _ => (by kernel_rfl)) hS ?_
        simp only [Act.put, List.setIfInBounds_toArray, List.set_cons_zero, List.set_cons_succ]
        refine held_exec 15 98 (.slice (some ⟨_, 0, none⟩) 1 1) rfl rfl (by kernel_rfl) (by kernel_rfl) (exec_bs32 (p := (kyOf l lo)) rfl rfl) ⟨hS.1.below (below_one _ _), hS.2.trans ((below_one _ _).mono hS.2.size)⟩ ?_
        simp only [Act.put, List.setIfInBounds_toArray, List.set_cons_zero, List.set_cons_succ]
        refine held_appendG 16 99 22 32 3 12 info32 und22 rfl (by decide) (by decide) rfl rfl (by kernel_rfl) (by kernel_rfl) rfl rfl rfl (HD.out.ok.below (below_one _ _)) (Blk.new _ 32 (kyOf l lo).arr) rfl (Ky.one_cs _) (by omega) (by have := HD.out.pg.lt; simp at this ⊢; omega) ?_
        intro b1 d1 w8 ho hk _
        have H8 := Lib.hid ((HD.out.below (below_one _ (.cells (kyOf l lo).arr 32))).add1 (x := (kyOf l lo)) ho hk)
        clear ho hk
        refine ⟨⟨H8.out.nl.gl, H8.out.old⟩, ?_⟩
        simp only [Act.put, List.setIfInBounds_toArray, List.set_cons_zero, List.set_cons_succ]
        have hS : NL w8 (some ⟨gl, 0, none⟩) L l ∧ Below w.heap.size w w8 := ⟨H8.out.nl.gl, H8.out.old⟩
        refine held_take 17 11 (.slice b1 (k + 1) d1) rfl rfl (by kernel_rfl) (by kernel_rfl) (by kernel_rfl) (fun _ _ _ h => h) (by kernel_rfl) (fun _ _ => rfl) hS ?_
        simp only [Act.put, List.setIfInBounds_toArray, List.set_cons_zero, List.set_cons_succ]
        refine wpAnyH_done (by kernel_rfl) ?_ _
        have HX1 := H8
        clear H8 HD hS
        have k0 := HX1.out.e0
        have HN3 : Hid (w8.rangeAt gl (lo + 3 * 1) [.int .u64 ((l.getD (lo + 3) 0 : Nat) : Int)]) := Lib.hid (nl_at HX1.out.nl.gl HLO3.out)
        go_upto_region 21 with fail
        clear k0 HX0
        go_wp2_with (first | (refine wpList_run rfl (exec_idx72 (i := 3) rfl rfl rfl rfl (by omega)) ?_) | (refine wpList_run rfl (exec_ld72 (n := l.getD (lo + 3) 0) rfl rfl HN3.out) ?_) | (refine wpList_run rfl (exec_cv32 (n := l.getD (lo + 3) 0) rfl rfl) ?_) | (refine wpList_run rfl (exec_bs28 (n := (((kdOf l lo).n : Nat) : Int)) rfl rfl) ?_) | (at_builtin; (refine wpList_appendG 24 28 1 4 info28 und24 rfl (by decide) (by decide) rfl rfl rfl rfl (HX1.out.od.below (below_one w8 (.cells #[.int .u32 (((kdOf l lo).n : Nat) : Int)] 28))) (Blk.new w8 28 #[.int .u32 (((kdOf l lo).n : Nat) : Int)]) rfl ((kdOf l lo).one_cs) (by omega) (by have := HX1.out.pg.lt; simp; omega) ?_; intro b2 d2 w9 ho hk _; have HX2 := Lib.hid ((HX1.out.below (below_one w8 (.cells #[.int .u32 (((kdOf l lo).n : Nat) : Int)] 28))).add3 (x := kdOf l lo) ho hk); clear ho hk)))
        have HX3 : Hid (Dk w w9 r g false gl L cl l b1 (k + 1) d1 (candK false l (k + 1)) none 0 0 [] b2 (k + 1) d2 (candD false l (k + 1))) := Lib.hid (by rw [candK_next, candD_next, show 2 + wid false * k = lo from HLOK.out, HLOK.out]; exact HX2.out)
        go_roundw
        case rel => exact ⟨k + 1, b1, d1, b2, d2, by omega, rfl, rfl, rfl, by go_num, HX3⟩
        case measure => simp [intOf]; omega
      · obtain rfl : k = x1 := by omega
        obtain ⟨P, hP⟩ : ∃ P, cand l = P := ⟨_, rfl⟩
        have HPE : Hid (P = ⟨false, candK false l k, [], candD false l k⟩) := Lib.hid (by rw [← hP]; unfold cand; rw [HLF.out, HV1.out]; rfl)
        have HPL : Hid (P.leaf = false) := Lib.hid (by rw [HPE.out])
        rw [hP] at HNO5
        clear hP
        have e1 : wr.cell? ⟨g, 1, none⟩ = some (.slice none 0 0) := HX0.out.pg.cell 1
        have f1 := HX0.out.pg.frozen 1
        go_upto_region 22 with (first | (refine wpList_run rfl (exec_idx72 (i := 1) rfl rfl rfl rfl hi1) ?_) | (refine wpList_run rfl (exec_ld72 (n := k) rfl rfl HY1.out) ?_) | (refine wpList_stop26 rfl ?_))
        go_upto_region 23 with fail
        clear e1 f1 HY1
        have HB1 := Lib.hid (HX0.out.pg.set 1 (.slice ak k ck))
        have HD := Lib.hid (De.close (a := a) (len := len) (bs := bs) HX0.out)
        generalize wr.setCell ⟨g, 1, none⟩ (.slice ak k ck) = v1 at HB1 HD ⊢
        have e1 : v1.cell? ⟨g, 2, none⟩ = some (.slice none 0 0) := HB1.out.cell 2
        have f1 := HB1.out.frozen 2
        go_upto_region 24 with fail
        clear e1 f1
        have HB2 := Lib.hid (HB1.out.set 2 (.slice none 0 0))
        generalize v1.setCell ⟨g, 2, none⟩ (.slice none 0 0) = v2 at HB2 HD ⊢
        have e1 : v2.cell? ⟨g, 3, none⟩ = some (.slice none 0 0) := HB2.out.cell 3
        have f1 := HB2.out.frozen 3
        go_upto_region 25 with fail
        clear e1 f1
        have HE0 : Hid (De w (v2.setCell ⟨g, 3, none⟩ (.slice a2 k c2)) r g false ak k ck none 0 0 a2 k c2 P a len bs) := Lib.hid (by have := HD.out HRW.out; rw [HPE.out]; exact this)
        generalize v2.setCell ⟨g, 3, none⟩ (.slice a2 k c2) = v3 at HE0 ⊢
        clear HB1 HB2 HD HX0
        have HRC0 := Lib.hid (fun W (hS : De w W r g false ak k ck none 0 0 a2 k c2 P a len bs) => (show Calls Tryd.prog 15 #[.agg (pgA false ak k ck none 0 0 a2 k c2)] W (Says (.bool P.right) W) from by rw [← HPL.out]; exact rright_any ck 0 c2 hS.pv (by omega)))
        cases hr : P.right
        · have HNO := Lib.hid (HNO5.out (.inl hr))
          have HRC := HRC0
          rw [hr] at HRC
          clear hr HRC0
          refine wp_region_held_drew (S := fun w' => De w w' r g false ak k ck none 0 0 a2 k c2 P a len bs) (by kernel_rfl) (HE0.out.below (drew_below _)) (fun hS => ?_)
          refine held_take 0 127 (.agg (pgA false ak k ck none 0 0 a2 k c2)) rfl rfl (by kernel_rfl) (by kernel_rfl) (by kernel_rfl) (fun _ _ _ h => h) (by kernel_rfl) (fun _ h => exec_load26 rfl rfl h.pg) hS ?_
          simp only [Act.put, List.setIfInBounds_toArray, List.set_cons_zero, List.set_cons_succ]
          refine held_call 1 128 15 #[(.agg (pgA false ak k ck none 0 0 a2 k c2))] (.bool false) rfl (by kernel_rfl) rfl (by kernel_rfl) (by kernel_rfl) (HRC.out _ hS) (fun _ h hb => h.below hb) hS (fun w101 hS => ?_)
          simp only [Act.put, List.setIfInBounds_toArray, List.set_cons_zero, List.set_cons_succ]
          refine held_take 2 129 (.bool true) rfl rfl (by kernel_rfl) (by kernel_rfl) (by kernel_rfl) (fun _ _ _ h => h) (by kernel_rfl) (fun _ _ => rfl) hS ?_
          simp only [Act.put, List.setIfInBounds_toArray, List.set_cons_zero, List.set_cons_succ]
          refine held_take 3 130 (.bool true) rfl rfl (by kernel_rfl) (by kernel_rfl) (by kernel_rfl) (fun _ _ _ h => h) (by kernel_rfl) (fun _ _ => rfl) hS ?_
          simp only [Act.put, List.setIfInBounds_toArray, List.set_cons_zero, List.set_cons_succ]
          refine held_skip 4 131 rfl rfl (by kernel_rfl) (by kernel_rfl) (by kernel_rfl) (fun _ _ _ h => h) (by kernel_rfl) hS ?_
          simp only [Act.put, List.setIfInBounds_toArray, List.set_cons_zero, List.set_cons_succ]
          refine held_skip 5 132 rfl rfl (by kernel_rfl) (by kernel_rfl) (by kernel_rfl) (fun _ _ _ h => h) (by kernel_rfl) hS ?_
          simp only [Act.put, List.setIfInBounds_toArray, List.set_cons_zero, List.set_cons_succ]
          refine held_skip 6 133 rfl rfl (by kernel_rfl) (by kernel_rfl) (by kernel_rfl) (fun _ _ _ h => h) (by kernel_rfl) hS ?_
          simp only [Act.put, List.setIfInBounds_toArray, List.set_cons_zero, List.set_cons_succ]
          refine held_skip 7 134 rfl rfl (by kernel_rfl) (by kernel_rfl) (by kernel_rfl) (fun _ _ _ h => h) (by kernel_rfl) hS ?_
          simp only [Act.put, List.setIfInBounds_toArray, List.set_cons_zero, List.set_cons_succ]
          refine held_skip 8 135 rfl rfl (by kernel_rfl) (by kernel_rfl) (by kernel_rfl) (fun _ _ _ h => h) (by kernel_rfl) hS ?_
          simp only [Act.put, List.setIfInBounds_toArray, List.set_cons_zero, List.set_cons_succ]
          refine held_skip 9 136 rfl rfl (by kernel_rfl) (by kernel_rfl) (by kernel_rfl) (fun _ _ _ h => h) (by kernel_rfl) hS ?_
          simp only [Act.put, List.setIfInBounds_toArray, List.set_cons_zero, List.set_cons_succ]
          refine held_take 10 137 (.bool true) rfl rfl (by kernel_rfl) (by kernel_rfl) (by kernel_rfl) (fun _ _ _ h => h) (by kernel_rfl) (fun _ _ => rfl) hS ?_
          simp only [Act.put, List.setIfInBounds_toArray, List.set_cons_zero, List.set_cons_succ]
          refine wpAnyH_done (by kernel_rfl) ?_ _
          have HSE := Lib.hid hS
          clear hS
          go_wp2_with (refine wpList_stop26 rfl ?_)
          refine ⟨?_⟩
          refine wpList_void rfl rfl (exec_store26 (lf2 := false) (b1 := none) (m1 := 0) (d1 := 0) (b2 := none) (m2 := 0) (d2 := 0) (b3 := none) (m3 := 0) (d3 := 0) rfl rfl rfl HSE.out.res) ?_
          have HRR := Lib.hid (HSE.out.res.row (ds := pgA false none 0 0 none 0 0 none 0 0))
          have HE := Lib.hid (dec_err HSE.out.lt HSE.out.old HNO.out)
          generalize w101.setRow r (pgA false none 0 0 none 0 0 none 0 0) = w9 at HRR HE ⊢
          go_wp2_with fail
          exact bodyPost_ret (v := .tuple #[.agg (pgA false none 0 0 none 0 0 none 0 0), .int .i64 15]) (retC_two Tryd.results21 rfl rfl (loadVar26 HRR.out)) rfl HE.out
        · have HRT := Lib.hid hr
          have HRC := HRC0
          rw [hr] at HRC
          have HBC := Lib.hid (fun W (hS : De w W r g false ak k ck none 0 0 a2 k c2 P a len bs) => (show Calls Tryd.prog 31 #[.agg (pgA false ak k ck none 0 0 a2 k c2)] W (BytesP P W) from by rw [← HPL.out]; exact rbytes_yes ck 0 c2 hS.pv hr))
          clear hr HRC0
          have HBSM := Lib.hid HRW.out.small
          by_cases hq : P.bytes = bs
          · have HQ := Lib.hid hq
            have HNE : Hid ((!((strOf P.bytes).toList == (strOf bs).toList)) = false) := Lib.hid (by rw [hq]; simp)
            clear hq
            refine wp_region_held_drew (S := fun w' => De w w' r g false ak k ck none 0 0 a2 k c2 P a len bs) (by kernel_rfl) (HE0.out.below (drew_below _)) (fun hS => ?_)
            refine held_take 0 127 (.agg (pgA false ak k ck none 0 0 a2 k c2)) rfl rfl (by kernel_rfl) (by kernel_rfl) (by kernel_rfl) (fun _ _ _ h => h) (by kernel_rfl) (fun _ h => exec_load26 rfl rfl h.pg) hS ?_
            simp only [Act.put, List.setIfInBounds_toArray, List.set_cons_zero, List.set_cons_succ]
            refine held_call 1 128 15 #[(.agg (pgA false ak k ck none 0 0 a2 k c2))] (.bool true) rfl (by kernel_rfl) rfl (by kernel_rfl) (by kernel_rfl) (HRC.out _ hS) (fun _ h hb => h.below hb) hS (fun w101 hS => ?_)
            simp only [Act.put, List.setIfInBounds_toArray, List.set_cons_zero, List.set_cons_succ]
            refine held_take 2 129 (.bool false) rfl rfl (by kernel_rfl) (by kernel_rfl) (by kernel_rfl) (fun _ _ _ h => h) (by kernel_rfl) (fun _ _ => rfl) hS ?_
            simp only [Act.put, List.setIfInBounds_toArray, List.set_cons_zero, List.set_cons_succ]
            refine held_take 3 130 (.bool false) rfl rfl (by kernel_rfl) (by kernel_rfl) (by kernel_rfl) (fun _ _ _ h => h) (by kernel_rfl) (fun _ _ => rfl) hS ?_
            simp only [Act.put, List.setIfInBounds_toArray, List.set_cons_zero, List.set_cons_succ]
            refine held_take 4 131 (.agg (pgA false ak k ck none 0 0 a2 k c2)) rfl rfl (by kernel_rfl) (by kernel_rfl) (by kernel_rfl) (fun _ _ _ h => h) (by kernel_rfl) (fun _ h => exec_load26 rfl rfl h.pg) hS ?_
            simp only [Act.put, List.setIfInBounds_toArray, List.set_cons_zero, List.set_cons_succ]
            refine held_take 7 134 (.slice a len cap) rfl rfl (by kernel_rfl) (by kernel_rfl) (by kernel_rfl) (fun _ _ _ h => h) (by kernel_rfl) (fun _ _ => rfl) hS ?_
            simp only [Act.put, List.setIfInBounds_toArray, List.set_cons_zero, List.set_cons_succ]
            refine held_take 8 135 (.string (strOf bs)) rfl rfl (by kernel_rfl) (by kernel_rfl) (by kernel_rfl) (fun _ _ _ h => h) (by kernel_rfl) (fun _ h => exec_str rfl rfl (conv_any h.row)) hS ?_
            simp only [Act.put, List.setIfInBounds_toArray, List.set_cons_zero, List.set_cons_succ]
            refine held_callP 5 132 31 #[(.agg (pgA false ak k ck none 0 0 a2 k c2))] rfl (by kernel_rfl) rfl (by kernel_rfl) (by kernel_rfl) (HBC.out _ hS) (fun e w105 hP => ?_)
            obtain ⟨ga5, ca5, rfl, ho5, hb5⟩ := hP
            refine ⟨_, rfl, hS.below hb5, fun hS => ?_⟩
            simp only [Act.put, List.setIfInBounds_toArray, List.set_cons_zero, List.set_cons_succ]
            refine held_run 6 133 (.string (strOf P.bytes)) rfl rfl (by kernel_rfl) (by kernel_rfl) (exec_str rfl rfl (conv_any (ho5.row P.bytes_small))) hS ?_
            simp only [Act.put, List.setIfInBounds_toArray, List.set_cons_zero, List.set_cons_succ]
            refine held_take 9 136 (.bool false) rfl rfl (by kernel_rfl) (by kernel_rfl) (by kernel_rfl) (fun _ _ _ h => h) (by kernel_rfl) (fun _ _ => exec_neqS rfl rfl rfl HNE.out) hS ?_
            simp only [Act.put, List.setIfInBounds_toArray, List.set_cons_zero, List.set_cons_succ]
            refine held_take 10 137 (.bool false) rfl rfl (by kernel_rfl) (by kernel_rfl) (by kernel_rfl) (fun _ _ _ h => h) (by kernel_rfl) (fun _ _ => rfl) hS ?_
            simp only [Act.put, List.setIfInBounds_toArray, List.set_cons_zero, List.set_cons_succ]
            refine wpAnyH_done (by kernel_rfl) ?_ _
            have HSE := Lib.hid hS
            clear hS
            go_wp2_with (first | (refine wpList_run rfl (exec_load26 rfl rfl HSE.out.pg) ?_) | (refine wpList_stop26 rfl ?_))
            refine ⟨?_⟩
            refine wpList_void rfl rfl (exec_store26 rfl rfl rfl HSE.out.res) ?_
            have HRR := Lib.hid (HSE.out.res.row (ds := pgA false ak k ck none 0 0 a2 k c2))
            have HE := Lib.hid (dec_fine HSE.out HPL.out HRT.out HQ.out)
            generalize w105.setRow r (pgA false ak k ck none 0 0 a2 k c2) = w9 at HRR HE ⊢
            go_wp2_with fail
            exact bodyPost_ret (v := .tuple #[.agg (pgA false ak k ck none 0 0 a2 k c2), .int .i64 0]) (retC_two Tryd.results21 rfl rfl (loadVar26 HRR.out)) rfl HE.out
          · have HNO := Lib.hid (HNO5.out (.inr hq))
            have HNE : Hid ((!((strOf P.bytes).toList == (strOf bs).toList)) = true) := Lib.hid (by rw [str_neF P.bytes_small HBSM.out hq]; rfl)
            clear hq
            refine wp_region_held_drew (S := fun w' => De w w' r g false ak k ck none 0 0 a2 k c2 P a len bs) (by kernel_rfl) (HE0.out.below (drew_below _)) (fun hS => ?_)
            refine held_take 0 127 (.agg (pgA false ak k ck none 0 0 a2 k c2)) rfl rfl (by kernel_rfl) (by kernel_rfl) (by kernel_rfl) (fun _ _ _ h => h) (by kernel_rfl) (fun _ h => exec_load26 rfl rfl h.pg) hS ?_
            simp only [Act.put, List.setIfInBounds_toArray, List.set_cons_zero, List.set_cons_succ]
            refine held_call 1 128 15 #[(.agg (pgA false ak k ck none 0 0 a2 k c2))] (.bool true) rfl (by kernel_rfl) rfl (by kernel_rfl) (by kernel_rfl) (HRC.out _ hS) (fun _ h hb => h.below hb) hS (fun w101 hS => ?_)
            simp only [Act.put, List.setIfInBounds_toArray, List.set_cons_zero, List.set_cons_succ]
            refine held_take 2 129 (.bool false) rfl rfl (by kernel_rfl) (by kernel_rfl) (by kernel_rfl) (fun _ _ _ h => h) (by kernel_rfl) (fun _ _ => rfl) hS ?_
            simp only [Act.put, List.setIfInBounds_toArray, List.set_cons_zero, List.set_cons_succ]
            refine held_take 3 130 (.bool false) rfl rfl (by kernel_rfl) (by kernel_rfl) (by kernel_rfl) (fun _ _ _ h => h) (by kernel_rfl) (fun _ _ => rfl) hS ?_
            simp only [Act.put, List.setIfInBounds_toArray, List.set_cons_zero, List.set_cons_succ]
            refine held_take 4 131 (.agg (pgA false ak k ck none 0 0 a2 k c2)) rfl rfl (by kernel_rfl) (by kernel_rfl) (by kernel_rfl) (fun _ _ _ h => h) (by kernel_rfl) (fun _ h => exec_load26 rfl rfl h.pg) hS ?_
            simp only [Act.put, List.setIfInBounds_toArray, List.set_cons_zero, List.set_cons_succ]
            refine held_take 7 134 (.slice a len cap) rfl rfl (by kernel_rfl) (by kernel_rfl) (by kernel_rfl) (fun _ _ _ h => h) (by kernel_rfl) (fun _ _ => rfl) hS ?_
            simp only [Act.put, List.setIfInBounds_toArray, List.set_cons_zero, List.set_cons_succ]
            refine held_take 8 135 (.string (strOf bs)) rfl rfl (by kernel_rfl) (by kernel_rfl) (by kernel_rfl) (fun _ _ _ h => h) (by kernel_rfl) (fun _ h => exec_str rfl rfl (conv_any h.row)) hS ?_
            simp only [Act.put, List.setIfInBounds_toArray, List.set_cons_zero, List.set_cons_succ]
            refine held_callP 5 132 31 #[(.agg (pgA false ak k ck none 0 0 a2 k c2))] rfl (by kernel_rfl) rfl (by kernel_rfl) (by kernel_rfl) (HBC.out _ hS) (fun e w105 hP => ?_)
            obtain ⟨ga5, ca5, rfl, ho5, hb5⟩ := hP
            refine ⟨_, rfl, hS.below hb5, fun hS => ?_⟩
            simp only [Act.put, List.setIfInBounds_toArray, List.set_cons_zero, List.set_cons_succ]
            refine held_run 6 133 (.string (strOf P.bytes)) rfl rfl (by kernel_rfl) (by kernel_rfl) (exec_str rfl rfl (conv_any (ho5.row P.bytes_small))) hS ?_
            simp only [Act.put, List.setIfInBounds_toArray, List.set_cons_zero, List.set_cons_succ]
            refine held_take 9 136 (.bool true) rfl rfl (by kernel_rfl) (by kernel_rfl) (by kernel_rfl) (fun _ _ _ h => h) (by kernel_rfl) (fun _ _ => exec_neqS rfl rfl rfl HNE.out) hS ?_
            simp only [Act.put, List.setIfInBounds_toArray, List.set_cons_zero, List.set_cons_succ]
            refine held_take 10 137 (.bool true) rfl rfl (by kernel_rfl) (by kernel_rfl) (by kernel_rfl) (fun _ _ _ h => h) (by kernel_rfl) (fun _ _ => rfl) hS ?_
            simp only [Act.put, List.setIfInBounds_toArray, List.set_cons_zero, List.set_cons_succ]
            refine wpAnyH_done (by kernel_rfl) ?_ _
            have HSE := Lib.hid hS
            clear hS
            go_wp2_with (refine wpList_stop26 rfl ?_)
            refine ⟨?_⟩
            refine wpList_void rfl rfl (exec_store26 (lf2 := false) (b1 := none) (m1 := 0) (d1 := 0) (b2 := none) (m2 := 0) (d2 := 0) (b3 := none) (m3 := 0) (d3 := 0) rfl rfl rfl HSE.out.res) ?_
            have HRR := Lib.hid (HSE.out.res.row (ds := pgA false none 0 0 none 0 0 none 0 0))
            have HE := Lib.hid (dec_err HSE.out.lt HSE.out.old HNO.out)
            generalize w105.setRow r (pgA false none 0 0 none 0 0 none 0 0) = w9 at HRR HE ⊢
            go_wp2_with fail
            exact bodyPost_ret (v := .tuple #[.agg (pgA false none 0 0 none 0 0 none 0 0), .int .i64 15]) (retC_two Tryd.results21 rfl rfl (loadVar26 HRR.out)) rfl HE.out

end Go.Proofs.YtcgbkfnjohbglaaDoor
