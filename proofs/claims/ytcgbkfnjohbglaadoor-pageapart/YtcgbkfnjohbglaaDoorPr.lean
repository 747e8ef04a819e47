/- Walks of Ours and theirs: a page of the program as one of the document, and back. -/
import Derived.Test.YtcgbkfnjohbglaaDoorPj
namespace Go.Proofs.YtcgbkfnjohbglaaDoor
open Go.RowKit

/-- While a page is copied: its box, the result's block, the copy's, its slices. -/
structure Cp (w W : World) (tb tr e1 e2 : TypeId) (q r g : Nat) (lf : Bool) (a1 : Option Addr) (n1 c1 : Nat) (a2 : Option Addr) (n2 c2 : Nat) (a3 : Option Addr) (n3 c3 : Nat) (b1 : Option Addr) (k d1 : Nat) (ks : List Ky) (b2 : Option Addr) (j d2 : Nat) (ls : List Lo) : Prop where
  box : Blk W q tb (pgA lf a1 n1 c1 a2 n2 c2 a3 n3 c3)
  res : Blk W r tr (pgA false none 0 0 none 0 0 none 0 0)
  out : Blk W g tr (pgA lf b1 k d1 b2 j d2 a3 n3 c3)
  ok : OwnG W e1 3 (g + 1) b1 k d1 (cellsK ks)
  ol : OwnG W e2 2 (g + 1) b2 j d2 (cellsL ls)
  lt : w.heap.size ≤ q ∧ q < r ∧ r < g
  old : Below w.heap.size w W
section
variable {w W W' : World} {tb tr e1 e2 : TypeId} {q r g : Nat} {lf : Bool} {a1 : Option Addr} {n1 c1 : Nat} {a2 : Option Addr} {n2 c2 : Nat} {a3 : Option Addr} {n3 c3 : Nat} {b1 : Option Addr} {k d1 : Nat} {ks : List Ky} {b2 : Option Addr} {j d2 : Nat} {ls : List Lo}
theorem Cp.below (h : Cp w W tb tr e1 e2 q r g lf a1 n1 c1 a2 n2 c2 a3 n3 c3 b1 k d1 ks b2 j d2 ls) (hb : Below W.heap.size W W') : Cp w W' tb tr e1 e2 q r g lf a1 n1 c1 a2 n2 c2 a3 n3 c3 b1 k d1 ks b2 j d2 ls :=
  ⟨h.box.below hb, h.res.below hb, h.out.below hb, h.ok.below hb, h.ol.below hb, h.lt, h.old.trans (hb.mono h.old.size)⟩
theorem Cp.addk (h : Cp w W tb tr e1 e2 q r g lf a1 n1 c1 a2 n2 c2 a3 n3 c3 b1 k d1 ks b2 j d2 ls) (hne : e2 ≠ e1) {x : Ky} {b' : Option Addr} {d' : Nat} (ho : OwnG W' e1 3 (g + 1) b' (k + 1) d' (cellsK ks ++ [x.arr.toList])) (hk : Kept (At b1) W W') :
    Cp w (W'.setCell ⟨g, 1, none⟩ (.slice b' (k + 1) d')) tb tr e1 e2 q r g lf a1 n1 c1 a2 n2 c2 a3 n3 c3 b' (k + 1) d' (ks ++ [x]) b2 j d2 ls := by
  have hl := h.lt
  have hge : ∀ i, At b1 i → g < i := fun i ⟨ad, ha, e⟩ => by have := (h.ok.lt ad ha).1; omega
  have hs := Kept.setCell W' ⟨g, 1, none⟩ (.slice b' (k + 1) d')
  simp only at hs
  refine ⟨(h.box.kept hk (fun hh => by have := hge _ hh; omega)).kept hs (by omega), (h.res.kept hk (fun hh => by have := hge _ hh; omega)).kept hs (by omega), (h.out.kept hk (fun hh => by have := hge _ hh; omega)).set 1 _, ?_, (h.ol.two hk (fun i hi hh => kinds_apart h.ol.row h.ok.row hne i hi hh)).two hs (fun i ⟨ad, ha, e⟩ hh => by have := (h.ol.lt ad ha).1; omega), h.lt, (h.old.trans (hk.below h.old.size (fun i hi => by have := hge i hi; omega))).trans (hs.below (Nat.le_trans h.old.size hk.size) (fun i e => by omega))⟩
  rw [cellsK_snoc] at ho
  exact ho.two hs (fun i ⟨ad, ha, e⟩ hh => by have := (ho.lt ad ha).1; omega)
theorem Cp.addl (h : Cp w W tb tr e1 e2 q r g lf a1 n1 c1 a2 n2 c2 a3 n3 c3 b1 k d1 ks b2 j d2 ls) (hne : e1 ≠ e2) {x : Lo} {b' : Option Addr} {d' : Nat} (ho : OwnG W' e2 2 (g + 1) b' (j + 1) d' (cellsL ls ++ [x.arr.toList])) (hk : Kept (At b2) W W') :
    Cp w (W'.setCell ⟨g, 2, none⟩ (.slice b' (j + 1) d')) tb tr e1 e2 q r g lf a1 n1 c1 a2 n2 c2 a3 n3 c3 b1 k d1 ks b' (j + 1) d' (ls ++ [x]) := by
  have hl := h.lt
  have hge : ∀ i, At b2 i → g < i := fun i ⟨ad, ha, e⟩ => by have := (h.ol.lt ad ha).1; omega
  have hs := Kept.setCell W' ⟨g, 2, none⟩ (.slice b' (j + 1) d')
  simp only at hs
  refine ⟨(h.box.kept hk (fun hh => by have := hge _ hh; omega)).kept hs (by omega), (h.res.kept hk (fun hh => by have := hge _ hh; omega)).kept hs (by omega), (h.out.kept hk (fun hh => by have := hge _ hh; omega)).set 2 _, (h.ok.two hk (fun i hi hh => kinds_apart h.ok.row h.ol.row hne i hi hh)).two hs (fun i ⟨ad, ha, e⟩ hh => by have := (h.ok.lt ad ha).1; omega), ?_, h.lt, (h.old.trans (hk.below h.old.size (fun i hi => by have := hge i hi; omega))).trans (hs.below (Nat.le_trans h.old.size hk.size) (fun i e => by omega))⟩
  rw [cellsL_snoc] at ho
  exact ho.two hs (fun i ⟨ad, ha, e⟩ hh => by have := (ho.lt ad ha).1; omega)
end
/-- What a copy leaves. -/
def CopyP (e1 e2 : TypeId) (P : Pg) (n1 n2 : Nat) (a3 : Option Addr) (n3 c3 : Nat) (w : World) (e : Ending) (w' : World) : Prop :=
  ∃ b1 d1 b2 d2, e = .returned (.agg (pgA P.leaf b1 n1 d1 b2 n2 d2 a3 n3 c3)) ∧ OwnG w' e1 3 w.heap.size b1 n1 d1 (cellsK P.ks) ∧ OwnG w' e2 2 w.heap.size b2 n2 d2 (cellsL P.ls) ∧ Below w.heap.size w w'
theorem CopyP.pv {e1 e2 : TypeId} {P : Pg} {n1 n2 : Nat} {a1 a2 a3 : Option Addr} {n3 c3 : Nat} {w : World} {e : Ending} {w' : World} (h : CopyP e1 e2 P n1 n2 a3 n3 c3 w e w') (hP : PV w P a1 n1 a2 n2 a3 n3) : ∃ b1 d1 b2 d2, e = .returned (.agg (pgA P.leaf b1 n1 d1 b2 n2 d2 a3 n3 c3)) ∧ PV w' P b1 n1 b2 n2 a3 n3 ∧ Below w.heap.size w w' := by
  obtain ⟨b1, d1, b2, d2, he, h1, h2, hb⟩ := h
  exact ⟨b1, d1, b2, d2, he, ⟨h1.gl, h2.gl, hP.ds.below hb⟩, hb⟩
theorem copy_of {w W : World} {tb tr e1 e2 : TypeId} {q r g : Nat} {a1 : Option Addr} {n1 c1 : Nat} {a2 : Option Addr} {n2 c2 : Nat} {a3 : Option Addr} {n3 c3 : Nat} {b1 : Option Addr} {d1 : Nat} {b2 : Option Addr} {d2 : Nat} {P : Pg} (h : Cp w W tb tr e1 e2 q r g P.leaf a1 n1 c1 a2 n2 c2 a3 n3 c3 b1 n1 d1 P.ks b2 n2 d2 P.ls) :
    CopyP e1 e2 P n1 n2 a3 n3 c3 w (.returned (.agg (pgA P.leaf b1 n1 d1 b2 n2 d2 a3 n3 c3))) (W.setRow r (pgA P.leaf b1 n1 d1 b2 n2 d2 a3 n3 c3)) := by
  have hl := h.lt
  have hs := Kept.setRow W r (pgA P.leaf b1 n1 d1 b2 n2 d2 a3 n3 c3)
  exact ⟨b1, d1, b2, d2, rfl, (h.ok.two hs (fun i ⟨ad, ha, e⟩ hh => by have := (h.ok.lt ad ha).1; omega)).mono (by omega), (h.ol.two hs (fun i ⟨ad, ha, e⟩ hh => by have := (h.ol.lt ad ha).1; omega)).mono (by omega), h.old.trans (hs.below h.old.size (fun i e => by omega))⟩
theorem take_snocK (l : List Ky) (k : Nat) (x : Ky) (h : l[k]? = some x) : l.take (k + 1) = l.take k ++ [x] := by rw [List.take_add_one, h]; rfl
theorem take_snocL (l : List Lo) (k : Nat) (x : Lo) (h : l[k]? = some x) : l.take (k + 1) = l.take k ++ [x] := by rw [List.take_add_one, h]; rfl

set_option maxHeartbeats 4000000 in
set_option maxRecDepth 100000 in
theorem ours_any {P : Pg} {a1 a2 a3 : Option Addr} {n1 n2 n3 : Nat} (c1 c2 c3 : Nat) {w : World} (h : PV w P a1 n1 a2 n2 a3 n3) (h1 : n1 ≤ 1000000) (h2 : n2 ≤ 1000000) :
    Calls Tryd.prog 23 #[.agg #[.bool P.leaf, .slice a1 n1 c1, .slice a2 n2 c2, .slice a3 n3 c3]] w (CopyP 32 67 P n1 n2 a3 n3 c3 w) := by
  have HPV := Lib.hid h
  clear h
  have B0 : Hid (Blk ((w.alloc (.cells #[.bool P.leaf, .slice a1 n1 c1, .slice a2 n2 c2, .slice a3 n3 c3] 40)).alloc (.cells #[.bool false, .slice none 0 0, .slice none 0 0, .slice none 0 0] 26)) w.heap.size 40 (pgA P.leaf a1 n1 c1 a2 n2 c2 a3 n3 c3)) := Lib.hid ((Blk.new w 40 _).below (below_one _ _))
  have B1 : Hid (Blk ((w.alloc (.cells #[.bool P.leaf, .slice a1 n1 c1, .slice a2 n2 c2, .slice a3 n3 c3] 40)).alloc (.cells #[.bool false, .slice none 0 0, .slice none 0 0, .slice none 0 0] 26)) (w.heap.size + 1) 26 (pgA false none 0 0 none 0 0 none 0 0)) := Lib.hid (by have := Blk.new (w.alloc (.cells #[.bool P.leaf, .slice a1 n1 c1, .slice a2 n2 c2, .slice a3 n3 c3] 40)) 26 #[.bool false, .slice none 0 0, .slice none 0 0, .slice none 0 0]; simpa using this)
  have HB := Lib.hid (below_two' w (.cells #[.bool P.leaf, .slice a1 n1 c1, .slice a2 n2 c2, .slice a3 n3 c3] 40) (.cells #[.bool false, .slice none 0 0, .slice none 0 0, .slice none 0 0] 26))
  go_enter Tryd.func23, Tryd.ntmps23
  go_upto_region 1 with fail
  try simp only [World.size_alloc, Act.put, List.setIfInBounds_toArray, List.set_cons_zero, List.set_cons_succ]
  generalize (w.alloc (.cells #[.bool P.leaf, .slice a1 n1 c1, .slice a2 n2 c2, .slice a3 n3 c3] 40)).alloc (.cells #[.bool false, .slice none 0 0, .slice none 0 0, .slice none 0 0] 26) = w0 at B0 B1 HB ⊢
  obtain ⟨q, hq⟩ : ∃ q, w.heap.size = q := ⟨_, rfl⟩
  obtain ⟨r, hr⟩ : ∃ r, q + 1 = r := ⟨_, rfl⟩
  have HLT : Hid (w.heap.size ≤ q ∧ q < r) := Lib.hid ⟨by omega, by omega⟩
  rw [hq] at B0 B1
  rw [hr] at B1
  rw [hq, hr]
  clear hq hr
  have u0 : w0.cell? ⟨q, 0, none⟩ = some (.bool P.leaf) := B0.out.cell 0
  have u3 : w0.cell? ⟨q, 3, none⟩ = some (.slice a3 n3 c3) := B0.out.cell 3
  go_upto_region 2 with fail
  clear u0 u3
  have HX : Hid (Cp w (w0.alloc (.cells #[.bool P.leaf, .slice none 0 0, .slice none 0 0, .slice a3 n3 c3] 26)) 40 26 32 67 q r w0.heap.size P.leaf a1 n1 c1 a2 n2 c2 a3 n3 c3 none 0 0 [] none 0 0 []) := Lib.hid ⟨B0.out.below (below_one _ _), B1.out.below (below_one _ _), Blk.new w0 26 _, ownG_nil _ _ _ _, ownG_nil _ _ _ _, ⟨HLT.out.1, HLT.out.2, B1.out.lt⟩, HB.out.trans ((below_one w0 _).mono HB.out.size)⟩
  generalize w0.alloc (.cells #[.bool P.leaf, .slice none 0 0, .slice none 0 0, .slice a3 n3 c3] 26) = w1 at HX ⊢
  generalize w0.heap.size = g at HX ⊢
  clear B0 B1 HB
  have u1 : w1.cell? ⟨q, 1, none⟩ = some (.slice a1 n1 c1) := HX.out.box.cell 1
  go_wp2_with fail
  clear u1
  go_loopw [16] (fun iv wr => ∃ (k : Nat) (b1 : Option Addr) (d1 : Nat), k ≤ n1 ∧ iv = .int .i64 (k : Int) ∧ Hid (Cp w wr 40 26 32 67 q r g P.leaf a1 n1 c1 a2 n2 c2 a3 n3 c3 b1 k d1 (P.ks.take k) none 0 0 [])) (fun iv _ => n1 - (intOf iv).toNat)
  case atStart => exact ⟨0, none, 0, Nat.zero_le _, rfl, HX⟩
  case round =>
    obtain ⟨k, b1, d1, hk, rfl, HX0⟩ := hrel
    clear HX
    by_cases hlt : k < n1
    · obtain ⟨b, off, x, hab, hx, hr⟩ := KL.at (HPV.out.ks.below HX0.out.old) hlt
      have HX := Lib.hid hx
      have HR := Lib.hid hr
      have hsl : (Value.slice a1 n1 c1) = .slice (some ⟨b, off, none⟩) n1 c1 := by rw [hab]
      have HSL := Lib.hid hsl
      clear hx hr hab hsl
      obtain ⟨zo, hzo⟩ : ∃ zo, Ky.zero = zo := ⟨_, rfl⟩
      have HZO := Lib.hid hzo
      clear hzo
      go_wp2_with (first | (refine wpList_run rfl (exec_idx42 (i := k) rfl HSL.out rfl rfl hlt) ?_) | (refine wpList_run rfl (exec_ld42 rfl rfl HR.out) ?_) | (refine wpList_run rfl (exec_alloc42z HZO.out rfl) ?_) | (refine wpList_stop42 rfl ?_))
      refine ⟨?_⟩
      refine wpList_void rfl rfl (exec_store42 (p := zo) (u := x) rfl rfl rfl (Blk.new wr 42 zo.arr)) ?_
      have HKB := Lib.hid ((Blk.new wr 42 zo.arr).row (ds := x.arr))
      have H1 := Lib.hid (HX0.out.below ((below_one wr (.cells zo.arr 42)).trans ((Kept.setRow (wr.alloc (.cells zo.arr 42)) wr.heap.size x.arr).below (B := wr.heap.size) (by simp) (fun k hk => by omega))))
      generalize (wr.alloc (.cells zo.arr 42)).setRow wr.heap.size x.arr = v0 at H1 HKB ⊢
      generalize wr.heap.size = g1 at HKB ⊢
      clear HX0 HR HZO HSL
      have o1 : v0.cell? ⟨g, 1, none⟩ = some (.slice b1 k d1) := H1.out.out.cell 1
      go_wp2_with (first | (refine wpList_run rfl (exec_load42 (p := x) rfl rfl HKB.out) ?_) | (refine wpList_run rfl (exec_bs32 (p := x) rfl rfl) ?_) | (at_builtin; (refine wpList_appendG 22 32 3 12 info32 und22 rfl (by decide) (by decide) rfl rfl rfl rfl (H1.out.ok.below (below_one v0 (.cells x.arr 32))) (Blk.new v0 32 x.arr) rfl (x.one_cs) (by omega) (by have := H1.out.out.lt; simp; omega) ?_; intro b' d' w8 ho hk _; have HE := Lib.hid ((H1.out.below (below_one v0 (.cells x.arr 32))).addk (by decide) (x := x) ho hk); have HB8 := Lib.hid ((H1.out.below (below_one v0 (.cells x.arr 32))).out.kept hk (fun ⟨ad, ha, e⟩ => by have := (H1.out.ok.lt ad ha).1; omega)); have x1 : w8.cell? ⟨g, 1, none⟩ = some (.slice b1 k d1) := HB8.out.cell 1; have x2 := HB8.out.frozen 1; clear ho hk o1)))
      clear x1 x2
      have HE2 : Hid (Cp w (w8.setCell ⟨g, 1, none⟩ (.slice b' (k + 1) d')) 40 26 32 67 q r g P.leaf a1 n1 c1 a2 n2 c2 a3 n3 c3 b' (k + 1) d' (P.ks.take (k + 1)) none 0 0 []) := Lib.hid (by rw [take_snocK _ k x HX.out]; exact HE.out)
      generalize w8.setCell ⟨g, 1, none⟩ (.slice b' (k + 1) d') = w9 at HE2 ⊢
      clear HE HB8 H1
      go_roundw
      case rel => exact ⟨k + 1, b', d', hlt, by go_num, HE2⟩
      case measure => simp [intOf]; omega
    · have hkn : n1 = k := by omega
      subst hkn
      have HY : Hid (Cp w wr 40 26 32 67 q r g P.leaf a1 n1 c1 a2 n2 c2 a3 n3 c3 b1 n1 d1 P.ks none 0 0 []) := Lib.hid (by have := HX0.out; rwa [List.take_of_length_le (by have := HPV.out.ks.len'; omega)] at this)
      clear HX0
      have u2 : wr.cell? ⟨q, 2, none⟩ = some (.slice a2 n2 c2) := HY.out.box.cell 2
      go_wp2_with fail
      clear u2
      go_loopw [30] (fun iv wr => ∃ (k : Nat) (b2 : Option Addr) (d2 : Nat), k ≤ n2 ∧ iv = .int .i64 (k : Int) ∧ Hid (Cp w wr 40 26 32 67 q r g P.leaf a1 n1 c1 a2 n2 c2 a3 n3 c3 b1 n1 d1 P.ks b2 k d2 (P.ls.take k))) (fun iv _ => n2 - (intOf iv).toNat)
      case atStart => exact ⟨0, none, 0, Nat.zero_le _, rfl, HY⟩
      case round =>
        obtain ⟨k, b2, d2, hk, rfl, HX0⟩ := hrel
        clear HY
        by_cases hlt : k < n2
        · obtain ⟨b, off, x, hab, hx, hr⟩ := LL.at (HPV.out.ls.below HX0.out.old) hlt
          have HX := Lib.hid hx
          have HR := Lib.hid hr
          have hsl : (Value.slice a2 n2 c2) = .slice (some ⟨b, off, none⟩) n2 c2 := by rw [hab]
          have HSL := Lib.hid hsl
          clear hx hr hab hsl
          obtain ⟨zo, hzo⟩ : ∃ zo, Lo.zero = zo := ⟨_, rfl⟩
          have HZO := Lib.hid hzo
          clear hzo
          go_wp2_with (first | (refine wpList_run rfl (exec_idx66 (i := k) rfl HSL.out rfl rfl hlt) ?_) | (refine wpList_run rfl (exec_ld66 rfl rfl HR.out) ?_) | (refine wpList_run rfl (exec_alloc66z HZO.out rfl) ?_) | (refine wpList_stop66 rfl ?_))
          refine ⟨?_⟩
          refine wpList_void rfl rfl (exec_store66 (p := zo) (u := x) rfl rfl rfl (Blk.new wr 66 zo.arr)) ?_
          have HKB := Lib.hid ((Blk.new wr 66 zo.arr).row (ds := x.arr))
          have H1 := Lib.hid (HX0.out.below ((below_one wr (.cells zo.arr 66)).trans ((Kept.setRow (wr.alloc (.cells zo.arr 66)) wr.heap.size x.arr).below (B := wr.heap.size) (by simp) (fun k hk => by omega))))
          generalize (wr.alloc (.cells zo.arr 66)).setRow wr.heap.size x.arr = v0 at H1 HKB ⊢
          generalize wr.heap.size = g1 at HKB ⊢
          clear HX0 HR HZO HSL
          have o1 : v0.cell? ⟨g, 2, none⟩ = some (.slice b2 k d2) := H1.out.out.cell 2
          go_wp2_with (first | (refine wpList_run rfl (exec_load66 (p := x) rfl rfl HKB.out) ?_) | (refine wpList_run rfl (exec_bs67 (p := x) rfl rfl) ?_) | (at_builtin; (refine wpList_appendG 23 67 2 8 info67 und23 rfl (by decide) (by decide) rfl rfl rfl rfl (H1.out.ol.below (below_one v0 (.cells x.arr 67))) (Blk.new v0 67 x.arr) rfl (x.one_cs) (by omega) (by have := H1.out.out.lt; simp; omega) ?_; intro b' d' w8 ho hk _; have HE := Lib.hid ((H1.out.below (below_one v0 (.cells x.arr 67))).addl (by decide) (x := x) ho hk); have HB8 := Lib.hid ((H1.out.below (below_one v0 (.cells x.arr 67))).out.kept hk (fun ⟨ad, ha, e⟩ => by have := (H1.out.ol.lt ad ha).1; omega)); have x1 : w8.cell? ⟨g, 2, none⟩ = some (.slice b2 k d2) := HB8.out.cell 2; have x2 := HB8.out.frozen 2; clear ho hk o1)))
          clear x1 x2
          have HE2 : Hid (Cp w (w8.setCell ⟨g, 2, none⟩ (.slice b' (k + 1) d')) 40 26 32 67 q r g P.leaf a1 n1 c1 a2 n2 c2 a3 n3 c3 b1 n1 d1 P.ks b' (k + 1) d' (P.ls.take (k + 1))) := Lib.hid (by rw [take_snocL _ k x HX.out]; exact HE.out)
          generalize w8.setCell ⟨g, 2, none⟩ (.slice b' (k + 1) d') = w9 at HE2 ⊢
          clear HE HB8 H1
          go_roundw
          case rel => exact ⟨k + 1, b', d', hlt, by go_num, HE2⟩
          case measure => simp [intOf]; omega
        · have hkn : n2 = k := by omega
          subst hkn
          have HV : Hid (Cp w wr 40 26 32 67 q r g P.leaf a1 n1 c1 a2 n2 c2 a3 n3 c3 b1 n1 d1 P.ks b2 n2 d2 P.ls) := Lib.hid (by have := HX0.out; rwa [List.take_of_length_le (by have := HPV.out.ls.len'; omega)] at this)
          clear HX0
          have HE := Lib.hid (copy_of HV.out)
          have HRR := Lib.hid (HV.out.res.row (ds := (pgA P.leaf b1 n1 d1 b2 n2 d2 a3 n3 c3)))
          have HO := Lib.hid HV.out.out
          have HS := Lib.hid HV.out.res
          go_wp2_with (first | (refine wpList_run rfl (exec_load26 rfl rfl HO.out) ?_) | (refine wpList_stop26 rfl ?_))
          refine ⟨?_⟩
          refine wpList_void rfl rfl (exec_store26 rfl rfl rfl HS.out) ?_
          generalize wr.setRow r (pgA P.leaf b1 n1 d1 b2 n2 d2 a3 n3 c3) = w9 at HE HRR ⊢
          go_wp2_with fail
          exact bodyPost_ret (v := .agg (pgA P.leaf b1 n1 d1 b2 n2 d2 a3 n3 c3)) (retC Tryd.results23 rfl (loadVar26 HRR.out)) rfl HE.out

set_option maxHeartbeats 4000000 in
set_option maxRecDepth 100000 in
theorem theirs_any {P : Pg} {a1 a2 a3 : Option Addr} {n1 n2 n3 : Nat} (c1 c2 c3 : Nat) {w : World} (h : PV w P a1 n1 a2 n2 a3 n3) (h1 : n1 ≤ 1000000) (h2 : n2 ≤ 1000000) :
    Calls Tryd.prog 12 #[.agg #[.bool P.leaf, .slice a1 n1 c1, .slice a2 n2 c2, .slice a3 n3 c3]] w (CopyP 42 66 P n1 n2 a3 n3 c3 w) := by
  have HPV := Lib.hid h
  clear h
  have B0 : Hid (Blk ((w.alloc (.cells #[.bool P.leaf, .slice a1 n1 c1, .slice a2 n2 c2, .slice a3 n3 c3] 26)).alloc (.cells #[.bool false, .slice none 0 0, .slice none 0 0, .slice none 0 0] 40)) w.heap.size 26 (pgA P.leaf a1 n1 c1 a2 n2 c2 a3 n3 c3)) := Lib.hid ((Blk.new w 26 _).below (below_one _ _))
  have B1 : Hid (Blk ((w.alloc (.cells #[.bool P.leaf, .slice a1 n1 c1, .slice a2 n2 c2, .slice a3 n3 c3] 26)).alloc (.cells #[.bool false, .slice none 0 0, .slice none 0 0, .slice none 0 0] 40)) (w.heap.size + 1) 40 (pgA false none 0 0 none 0 0 none 0 0)) := Lib.hid (by have := Blk.new (w.alloc (.cells #[.bool P.leaf, .slice a1 n1 c1, .slice a2 n2 c2, .slice a3 n3 c3] 26)) 40 #[.bool false, .slice none 0 0, .slice none 0 0, .slice none 0 0]; simpa using this)
  have HB := Lib.hid (below_two' w (.cells #[.bool P.leaf, .slice a1 n1 c1, .slice a2 n2 c2, .slice a3 n3 c3] 26) (.cells #[.bool false, .slice none 0 0, .slice none 0 0, .slice none 0 0] 40))
  go_enter Tryd.func12, Tryd.ntmps12
  go_upto_region 1 with fail
  try simp only [World.size_alloc, Act.put, List.setIfInBounds_toArray, List.set_cons_zero, List.set_cons_succ]
  generalize (w.alloc (.cells #[.bool P.leaf, .slice a1 n1 c1, .slice a2 n2 c2, .slice a3 n3 c3] 26)).alloc (.cells #[.bool false, .slice none 0 0, .slice none 0 0, .slice none 0 0] 40) = w0 at B0 B1 HB ⊢
  obtain ⟨q, hq⟩ : ∃ q, w.heap.size = q := ⟨_, rfl⟩
  obtain ⟨r, hr⟩ : ∃ r, q + 1 = r := ⟨_, rfl⟩
  have HLT : Hid (w.heap.size ≤ q ∧ q < r) := Lib.hid ⟨by omega, by omega⟩
  rw [hq] at B0 B1
  rw [hr] at B1
  rw [hq, hr]
  clear hq hr
  have u0 : w0.cell? ⟨q, 0, none⟩ = some (.bool P.leaf) := B0.out.cell 0
  have u3 : w0.cell? ⟨q, 3, none⟩ = some (.slice a3 n3 c3) := B0.out.cell 3
  go_upto_region 2 with fail
  clear u0 u3
  have HX : Hid (Cp w (w0.alloc (.cells #[.bool P.leaf, .slice none 0 0, .slice none 0 0, .slice a3 n3 c3] 40)) 26 40 42 66 q r w0.heap.size P.leaf a1 n1 c1 a2 n2 c2 a3 n3 c3 none 0 0 [] none 0 0 []) := Lib.hid ⟨B0.out.below (below_one _ _), B1.out.below (below_one _ _), Blk.new w0 40 _, ownG_nil _ _ _ _, ownG_nil _ _ _ _, ⟨HLT.out.1, HLT.out.2, B1.out.lt⟩, HB.out.trans ((below_one w0 _).mono HB.out.size)⟩
  generalize w0.alloc (.cells #[.bool P.leaf, .slice none 0 0, .slice none 0 0, .slice a3 n3 c3] 40) = w1 at HX ⊢
  generalize w0.heap.size = g at HX ⊢
  clear B0 B1 HB
  have u1 : w1.cell? ⟨q, 1, none⟩ = some (.slice a1 n1 c1) := HX.out.box.cell 1
  go_wp2_with fail
  clear u1
  go_loopw [16] (fun iv wr => ∃ (k : Nat) (b1 : Option Addr) (d1 : Nat), k ≤ n1 ∧ iv = .int .i64 (k : Int) ∧ Hid (Cp w wr 26 40 42 66 q r g P.leaf a1 n1 c1 a2 n2 c2 a3 n3 c3 b1 k d1 (P.ks.take k) none 0 0 [])) (fun iv _ => n1 - (intOf iv).toNat)
  case atStart => exact ⟨0, none, 0, Nat.zero_le _, rfl, HX⟩
  case round =>
    obtain ⟨k, b1, d1, hk, rfl, HX0⟩ := hrel
    clear HX
    by_cases hlt : k < n1
    · obtain ⟨b, off, x, hab, hx, hr⟩ := KL.at (HPV.out.ks.below HX0.out.old) hlt
      have HX := Lib.hid hx
      have HR := Lib.hid hr
      have hsl : (Value.slice a1 n1 c1) = .slice (some ⟨b, off, none⟩) n1 c1 := by rw [hab]
      have HSL := Lib.hid hsl
      clear hx hr hab hsl
      obtain ⟨zo, hzo⟩ : ∃ zo, Ky.zero = zo := ⟨_, rfl⟩
      have HZO := Lib.hid hzo
      clear hzo
      go_wp2_with (first | (refine wpList_run rfl (exec_idx32 (i := k) rfl HSL.out rfl rfl hlt) ?_) | (refine wpList_run rfl (exec_ld32 rfl rfl HR.out) ?_) | (refine wpList_run rfl (exec_alloc32z HZO.out rfl) ?_) | (refine wpList_stop32 rfl ?_))
      refine ⟨?_⟩
      refine wpList_void rfl rfl (exec_store32 (p := zo) (u := x) rfl rfl rfl (Blk.new wr 32 zo.arr)) ?_
      have HKB := Lib.hid ((Blk.new wr 32 zo.arr).row (ds := x.arr))
      have H1 := Lib.hid (HX0.out.below ((below_one wr (.cells zo.arr 32)).trans ((Kept.setRow (wr.alloc (.cells zo.arr 32)) wr.heap.size x.arr).below (B := wr.heap.size) (by simp) (fun k hk => by omega))))
      generalize (wr.alloc (.cells zo.arr 32)).setRow wr.heap.size x.arr = v0 at H1 HKB ⊢
      generalize wr.heap.size = g1 at HKB ⊢
      clear HX0 HR HZO HSL
      have o1 : v0.cell? ⟨g, 1, none⟩ = some (.slice b1 k d1) := H1.out.out.cell 1
      go_wp2_with (first | (refine wpList_run rfl (exec_load32 (p := x) rfl rfl HKB.out) ?_) | (refine wpList_run rfl (exec_bs42 (p := x) rfl rfl) ?_) | (at_builtin; (refine wpList_appendG 37 42 3 12 info42 und37 rfl (by decide) (by decide) rfl rfl rfl rfl (H1.out.ok.below (below_one v0 (.cells x.arr 42))) (Blk.new v0 42 x.arr) rfl (x.one_cs) (by omega) (by have := H1.out.out.lt; simp; omega) ?_; intro b' d' w8 ho hk _; have HE := Lib.hid ((H1.out.below (below_one v0 (.cells x.arr 42))).addk (by decide) (x := x) ho hk); have HB8 := Lib.hid ((H1.out.below (below_one v0 (.cells x.arr 42))).out.kept hk (fun ⟨ad, ha, e⟩ => by have := (H1.out.ok.lt ad ha).1; omega)); have x1 : w8.cell? ⟨g, 1, none⟩ = some (.slice b1 k d1) := HB8.out.cell 1; have x2 := HB8.out.frozen 1; clear ho hk o1)))
      clear x1 x2
      have HE2 : Hid (Cp w (w8.setCell ⟨g, 1, none⟩ (.slice b' (k + 1) d')) 26 40 42 66 q r g P.leaf a1 n1 c1 a2 n2 c2 a3 n3 c3 b' (k + 1) d' (P.ks.take (k + 1)) none 0 0 []) := Lib.hid (by rw [take_snocK _ k x HX.out]; exact HE.out)
      generalize w8.setCell ⟨g, 1, none⟩ (.slice b' (k + 1) d') = w9 at HE2 ⊢
      clear HE HB8 H1
      go_roundw
      case rel => exact ⟨k + 1, b', d', hlt, by go_num, HE2⟩
      case measure => simp [intOf]; omega
    · have hkn : n1 = k := by omega
      subst hkn
      have HY : Hid (Cp w wr 26 40 42 66 q r g P.leaf a1 n1 c1 a2 n2 c2 a3 n3 c3 b1 n1 d1 P.ks none 0 0 []) := Lib.hid (by have := HX0.out; rwa [List.take_of_length_le (by have := HPV.out.ks.len'; omega)] at this)
      clear HX0
      have u2 : wr.cell? ⟨q, 2, none⟩ = some (.slice a2 n2 c2) := HY.out.box.cell 2
      go_wp2_with fail
      clear u2
      go_loopw [30] (fun iv wr => ∃ (k : Nat) (b2 : Option Addr) (d2 : Nat), k ≤ n2 ∧ iv = .int .i64 (k : Int) ∧ Hid (Cp w wr 26 40 42 66 q r g P.leaf a1 n1 c1 a2 n2 c2 a3 n3 c3 b1 n1 d1 P.ks b2 k d2 (P.ls.take k))) (fun iv _ => n2 - (intOf iv).toNat)
      case atStart => exact ⟨0, none, 0, Nat.zero_le _, rfl, HY⟩
      case round =>
        obtain ⟨k, b2, d2, hk, rfl, HX0⟩ := hrel
        clear HY
        by_cases hlt : k < n2
        · obtain ⟨b, off, x, hab, hx, hr⟩ := LL.at (HPV.out.ls.below HX0.out.old) hlt
          have HX := Lib.hid hx
          have HR := Lib.hid hr
          have hsl : (Value.slice a2 n2 c2) = .slice (some ⟨b, off, none⟩) n2 c2 := by rw [hab]
          have HSL := Lib.hid hsl
          clear hx hr hab hsl
          obtain ⟨zo, hzo⟩ : ∃ zo, Lo.zero = zo := ⟨_, rfl⟩
          have HZO := Lib.hid hzo
          clear hzo
          go_wp2_with (first | (refine wpList_run rfl (exec_idx67 (i := k) rfl HSL.out rfl rfl hlt) ?_) | (refine wpList_run rfl (exec_ld67 rfl rfl HR.out) ?_) | (refine wpList_run rfl (exec_alloc67z HZO.out rfl) ?_) | (refine wpList_stop67 rfl ?_))
          refine ⟨?_⟩
          refine wpList_void rfl rfl (exec_store67 (p := zo) (u := x) rfl rfl rfl (Blk.new wr 67 zo.arr)) ?_
          have HKB := Lib.hid ((Blk.new wr 67 zo.arr).row (ds := x.arr))
          have H1 := Lib.hid (HX0.out.below ((below_one wr (.cells zo.arr 67)).trans ((Kept.setRow (wr.alloc (.cells zo.arr 67)) wr.heap.size x.arr).below (B := wr.heap.size) (by simp) (fun k hk => by omega))))
          generalize (wr.alloc (.cells zo.arr 67)).setRow wr.heap.size x.arr = v0 at H1 HKB ⊢
          generalize wr.heap.size = g1 at HKB ⊢
          clear HX0 HR HZO HSL
          have o1 : v0.cell? ⟨g, 2, none⟩ = some (.slice b2 k d2) := H1.out.out.cell 2
          go_wp2_with (first | (refine wpList_run rfl (exec_load67 (p := x) rfl rfl HKB.out) ?_) | (refine wpList_run rfl (exec_bs66 (p := x) rfl rfl) ?_) | (at_builtin; (refine wpList_appendG 38 66 2 8 info66 und38 rfl (by decide) (by decide) rfl rfl rfl rfl (H1.out.ol.below (below_one v0 (.cells x.arr 66))) (Blk.new v0 66 x.arr) rfl (x.one_cs) (by omega) (by have := H1.out.out.lt; simp; omega) ?_; intro b' d' w8 ho hk _; have HE := Lib.hid ((H1.out.below (below_one v0 (.cells x.arr 66))).addl (by decide) (x := x) ho hk); have HB8 := Lib.hid ((H1.out.below (below_one v0 (.cells x.arr 66))).out.kept hk (fun ⟨ad, ha, e⟩ => by have := (H1.out.ol.lt ad ha).1; omega)); have x1 : w8.cell? ⟨g, 2, none⟩ = some (.slice b2 k d2) := HB8.out.cell 2; have x2 := HB8.out.frozen 2; clear ho hk o1)))
          clear x1 x2
          have HE2 : Hid (Cp w (w8.setCell ⟨g, 2, none⟩ (.slice b' (k + 1) d')) 26 40 42 66 q r g P.leaf a1 n1 c1 a2 n2 c2 a3 n3 c3 b1 n1 d1 P.ks b' (k + 1) d' (P.ls.take (k + 1))) := Lib.hid (by rw [take_snocL _ k x HX.out]; exact HE.out)
          generalize w8.setCell ⟨g, 2, none⟩ (.slice b' (k + 1) d') = w9 at HE2 ⊢
          clear HE HB8 H1
          go_roundw
          case rel => exact ⟨k + 1, b', d', hlt, by go_num, HE2⟩
          case measure => simp [intOf]; omega
        · have hkn : n2 = k := by omega
          subst hkn
          have HV : Hid (Cp w wr 26 40 42 66 q r g P.leaf a1 n1 c1 a2 n2 c2 a3 n3 c3 b1 n1 d1 P.ks b2 n2 d2 P.ls) := Lib.hid (by have := HX0.out; rwa [List.take_of_length_le (by have := HPV.out.ls.len'; omega)] at this)
          clear HX0
          have HE := Lib.hid (copy_of HV.out)
          have HRR := Lib.hid (HV.out.res.row (ds := (pgA P.leaf b1 n1 d1 b2 n2 d2 a3 n3 c3)))
          have HO := Lib.hid HV.out.out
          have HS := Lib.hid HV.out.res
          go_wp2_with (first | (refine wpList_run rfl (exec_load40 rfl rfl HO.out) ?_) | (refine wpList_stop40 rfl ?_))
          refine ⟨?_⟩
          refine wpList_void rfl rfl (exec_store40 rfl rfl rfl HS.out) ?_
          generalize wr.setRow r (pgA P.leaf b1 n1 d1 b2 n2 d2 a3 n3 c3) = w9 at HE HRR ⊢
          go_wp2_with fail
          exact bodyPost_ret (v := .agg (pgA P.leaf b1 n1 d1 b2 n2 d2 a3 n3 c3)) (retC Tryd.results12 rfl (loadVar40 HRR.out)) rfl HE.out

end Go.Proofs.YtcgbkfnjohbglaaDoor
