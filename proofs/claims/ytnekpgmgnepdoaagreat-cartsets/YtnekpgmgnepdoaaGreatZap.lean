import Derived.Lib.AppendZeros
import Derived.Test.YtnekpgmgnepdoaaGreatZaf
import Derived.Test.YtnekpgmgnepdoaaGreatZan
section
namespace Go.Proofs.YtnekpgmgnepdoaaGreat
open Go.RowKit Go.Maps
def MeP (a b : Sta) (w : World) (e : Ending) (w' : World) : Prop :=
 (Clash a b ∧ e = .returned (.tuple #[.slice none 0 0, .int .i64 5]) ∧ Below w.heap.size w w') ∨
 (¬ Clash a b ∧ ∃ ad n c es, e = .returned (.tuple #[.slice ad n c, .int .i64 0]) ∧ OwnG w' 72 7 w.heap.size ad n c (cellsE es) ∧ es.Pairwise En.Ahead ∧ (∀ x, x ∈ es ↔ x ∈ bothE a b) ∧ Below w.heap.size w w')
def noClash (b : Sta) (l : List En) : Prop := ∀ x ∈ l, ∀ y ∈ b.es, x.r = y.r → x.s = y.s → x = y
theorem one_sym : ∀ x y : En, ¬ (x.r = y.r ∧ x.s = y.s) → ¬ (y.r = x.r ∧ y.s = x.s) := fun _ _ h k => h ⟨k.1.symm, k.2.symm⟩
theorem one_eq {x y : En} : ∀ {l : List En}, (l.Pairwise fun a b => ¬ (a.r = b.r ∧ a.s = b.s)) → x ∈ l → y ∈ l → x.r = y.r → x.s = y.s → x = y
 | [], _, h, _, _, _ => by simp at h
 | z :: l, hp, hx, hy, e1, e2 => by
  obtain ⟨h1, h2⟩ := List.pairwise_cons.1 hp
  rcases List.mem_cons.1 hx with hx1 | hx1 <;> rcases List.mem_cons.1 hy with hy1 | hy1
  ·rw [hx1, hy1]
  ·subst hx1; exact absurd ⟨e1, e2⟩ (h1 y hy1)
  ·subst hy1; exact absurd ⟨e1.symm, e2.symm⟩ (h1 x hx1)
  ·exact one_eq h2 hx1 hy1 e1 e2
theorem both_one {a b : Sta} (ha : a.Right) (hb : b.Right) : (bothE a b).Pairwise fun x y => ¬ (x.r = y.r ∧ x.s = y.s) := by
 unfold bothE
 rw [List.pairwise_append]
 refine ⟨ha.one.filter _, hb.one.filter _, fun x hx y hy ⟨e1, e2⟩ => ?_⟩
 have h1 := (ha.has x (List.mem_filter.1 hx).1).2.1
 have h2 := (List.mem_filter.1 hy).2
 unfold keepB at h2
 rw [← e1, ← e2, h1] at h2
 cases h2
theorem sorted_ahead {l m : List En} (hp : m.Perm l) (h1 : l.Pairwise fun x y => ¬ (x.r = y.r ∧ x.s = y.s)) (hs : m.Pairwise fun x y => ¬ En.ord y x < 0) : m.Pairwise En.Ahead := by
 have h2 : m.Pairwise fun x y => ¬ (x.r = y.r ∧ x.s = y.s) := (hp.pairwise_iff (fun {x y} h => one_sym x y h)).2 h1
 refine (hs.and h2).imp fun {x y} h => ?_
 rw [En.ord_neg] at h
 rcases En.tri x y with k | k | k
 ·exact k
 ·exact absurd ⟨k.2.1, k.2.2⟩ h.2
 ·exact absurd k h.1
theorem take_filter {p : En → Bool} {l : List En} {k : Nat} {x : En} (hx : l[k]? = some x) : (l.take (k + 1)).filter p = (l.take k).filter p ++ (if p x = true then [x] else []) := by
 rw [List.take_add_one, hx, List.filter_append]
 simp only [Option.toList_some, List.filter_cons, List.filter_nil]
theorem has_last {l : List En} {x : En} : hasE l x = (lastE l x.r x.s).isSome := by
 cases h : lastE l x.r x.s with
 | none =>
  have := last_none h
  unfold hasE
  rw [Bool.eq_iff_iff]
  simp only [List.any_eq_true, decide_eq_true_eq, Option.isSome_none, Bool.false_eq_true, iff_false]
  rintro ⟨y, hy, e⟩
  exact this y hy e
 | some y =>
  obtain ⟨h1, h2, h3⟩ := last_some h
  unfold hasE
  rw [Option.isSome_some, List.any_eq_true]
  exact ⟨y, h1, by simp [h2, h3]⟩
theorem cellsE_app (l m : List En) : cellsE (l ++ m) = cellsE l ++ cellsE m := by unfold cellsE; exact List.map_append
structure Mt (W : World) (a b : Sta) (p0 p1 : Nat) (xa xb ya yb : Value) (m c : Nat) (f : Lit → Option Value) : Prop where
 sa : Blk W p0 39 (stA a.v xa ya)
 sb : Blk W p1 39 (stA b.v xb yb)
 mp : DotM W m b.es c f
theorem Mt.below {W W' : World} {a b : Sta} {p0 p1 m c : Nat} {xa xb ya yb : Value} {f : Lit → Option Value} (h : Mt W a b p0 p1 xa xb ya yb m c f) (hb : Below W.heap.size W W') : Mt W' a b p0 p1 xa xb ya yb m c f := ⟨h.sa.below hb, h.sb.below hb, h.mp.below hb⟩
theorem Mt.kept {S : Nat → Prop} {W W' : World} {a b : Sta} {p0 p1 m c : Nat} {xa xb ya yb : Value} {f : Lit → Option Value} (h : Mt W a b p0 p1 xa xb ya yb m c f) (k : Kept S W W') (h0 : ¬ S p0) (h1 : ¬ S p1) (h2 : ¬ S m) : Mt W' a b p0 p1 xa xb ya yb m c f := ⟨h.sa.kept k h0, h.sb.kept k h1, h.mp.kept k h2⟩
def MaR (w : World) (a b : Sta) (n B p0 p1 : Nat) (xa xb ya yb : Value) (m c : Nat) (f : Lit → Option Value) (u v : Value) (W : World) : Prop :=
 ∃ (k : Nat) (ad : Option Addr) (n1 c1 : Nat), u = .int .i64 (k : Int) ∧ v = .slice ad n1 c1 ∧ k ≤ n ∧ n1 ≤ k ∧ Hid (noClash b (a.es.take k)) ∧ Hid (OwnG W 72 7 B ad n1 c1 (cellsE ((a.es.take k).filter (keepA b)))) ∧ Hid (Mt W a b p0 p1 xa xb ya yb m c f) ∧ Hid (B ≤ W.heap.size) ∧ Hid (Below w.heap.size w W)
def MbR (w : World) (a b : Sta) (n n2 B p0 p1 : Nat) (xa xb ya yb : Value) (m c : Nat) (f : Lit → Option Value) (u v : Value) (W : World) : Prop :=
 ∃ (k : Nat) (ad : Option Addr) (n1 c1 : Nat), u = .int .i64 (k : Int) ∧ v = .slice ad n1 c1 ∧ k ≤ n2 ∧ n1 ≤ n + k ∧ Hid (OwnG W 72 7 B ad n1 c1 (cellsE (a.es.filter (keepA b) ++ (b.es.take k).filter (keepB a)))) ∧ Hid (Mt W a b p0 p1 xa xb ya yb m c f) ∧ Hid (B ≤ W.heap.size) ∧ Hid (Below w.heap.size w W)
theorem lies_at {w W W' : World} {B : Nat} {e size n cap : Nat} {vs : List (List Value)} {a : Option Addr} (hb : Below w.heap.size w W) (h : OwnG W e size B a n cap vs) (hB : w.heap.size ≤ B) (k : Kept (At a) W W') : Below w.heap.size w W' :=
 hb.trans (k.below hb.size (fun j ⟨ad, had, e⟩ => by rw [e]; exact Nat.le_trans hB (h.lt ad had).1))
theorem mt_app {w w3 w4 : World} {B p0 p1 m c n1 c1 : Nat} {ad : Option Addr} {vs : List (List Value)} {o : Obj} {a b : Sta} {xa xb ya yb : Value} {f : Lit → Option Value} (HO : OwnG w3 72 7 B ad n1 c1 vs) (hk : Kept (At ad) (w3.alloc o) w4) (HM : Mt w3 a b p0 p1 xa xb ya yb m c f) (h : p0 < B ∧ p1 < B ∧ m < B) (hb : Below w.heap.size w w3) (hB : w.heap.size ≤ B) (hW : B ≤ w3.heap.size) : Mt w4 a b p0 p1 xa xb ya yb m c f ∧ B ≤ w4.heap.size ∧ Below w.heap.size w w4 := by
 have hat : ∀ k, At ad k → B ≤ k := fun k ⟨ad0, had, e⟩ => by rw [e]; exact (HO.lt ad0 had).1
 refine ⟨(HM.below (below_one w3 o)).kept hk (fun e => by have := hat _ e; omega) (fun e => by have := hat _ e; omega) (fun e => by have := hat _ e; omega), ?_, ?_⟩
 ·have := hk.size
  rw [World.size_alloc] at this
  omega
 ·have h1 := hb.trans ((below_one w3 o).mono hb.size)
  exact h1.trans (hk.below h1.size (fun j e => Nat.le_trans hB (hat j e)))
set_option maxRecDepth 100000 in
set_option maxHeartbeats 16000000 in
theorem mergeEntries_any {s t : Sta} {a b a2 b2 : Option Addr} {n c m d n2 c2 m2 d2 : Nat} {w : World} (hs : SL w s a n b m) (ht : SL w t a2 n2 b2 m2) (hn : n < 100000) (hn2 : n2 < 100000) (hsR : s.Right) (htR : t.Right) : Calls Tryz.prog 56 #[.agg (sv s.v a n c b m d), .agg (sv t.v a2 n2 c2 b2 m2 d2)] w (MeP s t w) := by
 have HS := Lib.hid hs
 have HT := Lib.hid ht
 have HSL := Lib.hid hs.es.len'
 have HTL := Lib.hid ht.es.len'
 have HSR := Lib.hid hsR
 have HTR := Lib.hid htR
 obtain ⟨zo, ho⟩ : ∃ z, En.zero = z := ⟨_, rfl⟩
 have HO := Lib.hid ho
 have hb1 := fun (v : V) x y w => box39 v x y w
 have H1 := Lib.hid (Blk.new w 39 (sv s.v a n c b m d))
 have H2 := Lib.hid (Blk.new (w.alloc (.cells (sv s.v a n c b m d) 39)) 39 (sv t.v a2 n2 c2 b2 m2 d2))
 have HB2 := Lib.hid (below_one (w.alloc (.cells (sv s.v a n c b m d) 39)) (.cells (sv t.v a2 n2 c2 b2 m2 d2) 39))
 have H1b := Lib.hid (H1.out.below HB2.out)
 have HB0 : Hid (Below w.heap.size w ((w.alloc (.cells (sv s.v a n c b m d) 39)).alloc (.cells (sv t.v a2 n2 c2 b2 m2 d2) 39))) := Lib.hid ((below_one w _).trans (HB2.out.mono (by simp)))
 have HLT : Hid (w.heap.size < (w.alloc (.cells (sv s.v a n c b m d) 39)).heap.size) := Lib.hid (by simp)
 clear hs ht ho hsR htR H1 HB2
 go_enter Tryz.func56, Tryz.ntmps56
 go_upto_region 1 with fail
 clear hb1
 simp only [World.size_alloc] at H2 HLT
 generalize (w.alloc (.cells (sv s.v a n c b m d) 39)).alloc (.cells (sv t.v a2 n2 c2 b2 m2 d2) 39) = w0 at H2 H1b HB0
 obtain ⟨p0, hp0⟩ : ∃ p, w.heap.size = p := ⟨_, rfl⟩
 have HP0 := Lib.hid hp0
 rw [hp0] at H1b H2 ⊢
 obtain ⟨p1, hp1⟩ : ∃ p, p0 + 1 = p := ⟨_, rfl⟩
 have HP1 := Lib.hid hp1
 rw [hp1] at H2 ⊢
 clear hp0 hp1 HLT
 have cE := stc16 H2.out
 go_wp2_with fail
 clear cE
 refine (byDot_any (cap := c2) (HT.out.es.below HB0.out) (by omega)).mono ?_
 rintro e w1 ⟨mm, cc, f, rfl, hdm, hmm, hb⟩
 have HM : Hid (Mt w1 s t p0 p1 (.slice a n c) (.slice a2 n2 c2) (.slice b m d) (.slice b2 m2 d2) mm cc f) := Lib.hid ⟨H1b.out.below hb, H2.out.below hb, hdm⟩
 have HB1 : Hid (Below w.heap.size w w1) := Lib.hid (HB0.out.trans (hb.mono HB0.out.size))
 have HMM : Hid (p0 < w1.heap.size ∧ p1 < w1.heap.size ∧ mm < w1.heap.size) := Lib.hid ⟨HM.out.sa.lt, HM.out.sb.lt, hdm.mp.lt⟩
 clear hdm hmm hb H1b H2 HB0
 have cA := stc16 HM.out.sa
 go_wp2_with fail
 clear cA
 obtain ⟨B, hB⟩ : ∃ B, w1.heap.size = B := ⟨_, rfl⟩
 have HBB := Lib.hid hB
 rw [hB] at HMM
 have HWB : Hid (w.heap.size ≤ B) := Lib.hid (by rw [← hB]; exact HB1.out.size)
 clear hB
 go_loopw [20, 7] (MaR w s t n B p0 p1 (.slice a n c) (.slice a2 n2 c2) (.slice b m d) (.slice b2 m2 d2) mm cc f) (fun u _ _ => n - (numI u).toNat)
 case atStart => exact ⟨0, none, 0, 0, rfl, rfl, Nat.zero_le _, Nat.zero_le _, Lib.hid (by intro x hx; simp at hx), Lib.hid (ownG_nil _ _ _ _), HM, Lib.hid (Nat.le_of_eq HBB.out.symm), HB1⟩
 case round =>
  obtain ⟨k, ad, n1, c1, rfl, rfl, hk, hn1, HNC, HOW, HMT, HBW, HB⟩ := hrel
  clear HM HB1 HBB
  by_cases hlt : k < n
  ·obtain ⟨bb, off, x, rfl, hx, hr⟩ := EL.at (HS.out.es.below HB.out) hlt
   have HX := Lib.hid hx
   have HR := Lib.hid hr
   clear hx hr
   go_wp2_with (first | (refine wpList_run rfl (exec_idx72 (i := k) rfl rfl rfl rfl hlt) ?_) | (refine wpList_run rfl (exec_ld72 (p := x) rfl rfl HR.out) ?_) | (refine wpList_run rfl (exec_alloc72z HO.out rfl) ?_) | (refine wpList_stop72 rfl ?_))
   refine ⟨?_⟩
   refine wpList_void rfl rfl (exec_store72 (p := zo) (u := x) rfl rfl rfl (Blk.new wr 72 zo.arr)) ?_
   have Hx1 := Lib.hid (bo_laid wr 72 zo.arr x.arr)
   generalize (wr.alloc (.cells zo.arr 72)).setRow wr.heap.size x.arr = w2 at Hx1
   have HM2 := Lib.hid (HMT.out.below Hx1.out.old)
   have HO2 := Lib.hid (HOW.out.below Hx1.out.old)
   have HB2 : Hid (Below w.heap.size w w2) := Lib.hid (HB.out.trans (Hx1.out.old.mono HB.out.size))
   have HW2 : Hid (B ≤ w2.heap.size) := Lib.hid (Nat.le_trans HBW.out Hx1.out.old.size)
   obtain ⟨q9, hq9⟩ : ∃ q, wr.heap.size = q := ⟨_, rfl⟩
   have HQ9 : Hid (Blk w2 q9 72 x.arr) := Lib.hid (by rw [← hq9]; exact Hx1.out.one)
   have HQB : Hid (B ≤ q9) := Lib.hid (by rw [← hq9]; exact HBW.out)
   have HAQ : Hid (∀ ad0, ad = some ad0 → ad0.block < q9) := Lib.hid (fun ad0 e => by rw [← hq9]; exact (HOW.out.lt ad0 e).2)
   rw [hq9]
   clear hq9 Hx1 HMT HOW HB HBW
   obtain ⟨ot, hot⟩ : ∃ ot, (lastE t.es x.r x.s).getD zo = ot := ⟨_, rfl⟩
   obtain ⟨fd, hfd⟩ : ∃ fd, (lastE t.es x.r x.s).isSome = fd := ⟨_, rfl⟩
   have HOT := Lib.hid hot
   have HFD := Lib.hid hfd
   clear hot hfd
   go_wp2_with (first | (refine wpList_run rfl (exec_edot (e := x) rfl rfl HQ9.out) ?_) | (refine wpList_run rfl (exec_lookD (e := ot) (b := fd) HO.out rfl rfl rfl HM2.out.mp x.hr x.hs HOT.out HFD.out) ?_) | (refine wpList_run rfl (exec_alloc72z HO.out rfl) ?_) | (refine wpList_stop72 rfl ?_))
   refine ⟨?_⟩
   refine wpList_void rfl rfl (exec_store72 (p := zo) (u := ot) rfl rfl rfl (Blk.new w2 72 zo.arr)) ?_
   have Hx1 := Lib.hid (bo_laid w2 72 zo.arr ot.arr)
   generalize (w2.alloc (.cells zo.arr 72)).setRow w2.heap.size ot.arr = w3 at Hx1
   have HM3 := Lib.hid (HM2.out.below Hx1.out.old)
   have HO3 := Lib.hid (HO2.out.below Hx1.out.old)
   have HB3 : Hid (Below w.heap.size w w3) := Lib.hid (HB2.out.trans (Hx1.out.old.mono HB2.out.size))
   have HW3 : Hid (B ≤ w3.heap.size) := Lib.hid (Nat.le_trans HW2.out Hx1.out.old.size)
   have HQ3 := Lib.hid (HQ9.out.below Hx1.out.old)
   have HQ10 := Lib.hid Hx1.out.one
   generalize w2.heap.size = q10 at HQ10
   clear Hx1 HM2 HO2 HB2 HW2 HQ9
   have HKL : Hid (keepA t x = (fd || !V.hasB t.v x.r x.s)) := Lib.hid (by unfold keepA; rw [has_last, HFD.out])
   have HTF := Lib.hid (take_filter (p := keepA t) HX.out)
   cases fd
   case true =>
    obtain ⟨y, hy⟩ := Option.isSome_iff_exists.1 HFD.out
    have hoy : ot = y := by rw [← HOT.out, hy]; rfl
    subst hoy
    have HY := Lib.hid (last_some hy)
    clear hy
    by_cases hxy : ot = x
    ·have hq : (!decide (ot = x)) = false := by simp [hxy]
     have HNC2 : Hid (noClash t (s.es.take (k + 1))) := Lib.hid (by
      intro x' hx' y' hy' e1 e2
      rw [List.take_add_one, HX.out] at hx'
      rcases List.mem_append.1 hx' with h | h
      ·exact HNC.out x' h y' hy' e1 e2
      ·obtain rfl : x' = x := by simpa using h
       subst hxy
       exact one_eq HTR.out.one HY.out.1 hy' e1 e2)
     clear hxy
     simp only [Bool.true_or] at HKL
     go_wp2_with (first | (refine wpList_runW (exec_load72 (p := ot) rfl rfl HQ10.out) (by kernel_rfl) ?_) | (refine wpList_runW (exec_load72 (p := x) rfl rfl HQ3.out) (by kernel_rfl) ?_) | (refine wpList_runW (exec_neq72 rfl rfl rfl hq) (by kernel_rfl) ?_) | (refine wpList_run rfl (exec_bs72 (p := x) rfl rfl) ?_) | (at_builtin; refine wpList_appendG 36 72 7 24 info72 und36 rfl (by decide) (by decide) rfl rfl rfl rfl (HO3.out.below (below_one w3 _)) (Blk.new w3 72 x.arr) x.arr_size (by simpa using x.one_cs) (by omega) (by have := HW3.out; simp; omega) ?_; intro a3 cap3 w4 ho3 hk3 hl3))
     obtain ⟨hm4, hw4, hb4⟩ := mt_app HO3.out hk3 HM3.out HMM.out HB3.out HWB.out HW3.out
     have HM4 := Lib.hid hm4
     have HW4 := Lib.hid hw4
     have HB4 := Lib.hid hb4
     have HO4 : Hid (OwnG w4 72 7 B a3 (n1 + 1) cap3 (cellsE ((s.es.take (k + 1)).filter (keepA t)))) := Lib.hid (by rw [HTF.out, HKL.out]; rw [cellsE_app]; exact ho3)
     clear ho3 hk3 hl3 hm4 hw4 hb4
     go_roundw
     case rel => exact ⟨k + 1, a3, n1 + 1, cap3, by go_num, rfl, hlt, by omega, HNC2, HO4, HM4, HW4, HB4⟩
     case measure => simp [numI]; omega
    ·have hq : (!decide (ot = x)) = true := by simp [hxy]
     have HCL : Hid (Clash s t) := Lib.hid ⟨x, List.mem_of_getElem? HX.out, ot, HY.out.1, HY.out.2.1.symm, HY.out.2.2.symm, fun e => hxy e.symm⟩
     clear hxy
     have HEND : Hid (MeP s t w (.returned (.tuple #[.slice none 0 0, .int .i64 5])) w3) := Lib.hid (.inl ⟨HCL.out, rfl, HB3.out⟩)
     go_wp2_with (first | (refine wpList_runW (exec_load72 (p := ot) rfl rfl HQ10.out) (by kernel_rfl) ?_) | (refine wpList_runW (exec_load72 (p := x) rfl rfl HQ3.out) (by kernel_rfl) ?_) | (refine wpList_runW (exec_neq72 rfl rfl rfl hq) (by kernel_rfl) ?_))
     go_ret2
     exact HEND.out
   case false =>
    have HNC2 : Hid (noClash t (s.es.take (k + 1))) := Lib.hid (by
     intro x' hx' y' hy' e1 e2
     rw [List.take_add_one, HX.out] at hx'
     rcases List.mem_append.1 hx' with h | h
     ·exact HNC.out x' h y' hy' e1 e2
     ·obtain rfl : x' = x := by simpa using h
      exact absurd ⟨e1.symm, e2.symm⟩ (last_none (Option.isSome_eq_false_iff.1 HFD.out |> Option.isNone_iff_eq_none.1) y' hy'))
    have HHAS := Lib.hid (fun w => has_any t.v x.r x.s w x.hr x.hs)
    generalize V.hasB t.v x.r x.s = hh at HHAS HKL
    simp only [Bool.false_or] at HKL
    go_wp2_with (first | (refine wpList_runW (exec_stV (v := t.v) rfl rfl HM3.out.sb) (by kernel_rfl) ?_) | (refine wpList_runW (exec_edot (e := x) rfl rfl HQ3.out) (by kernel_rfl) ?_))
    refine (HHAS.out _).mono ?_
    rintro e w5 ⟨rfl, hb5⟩
    have HM5 := Lib.hid (HM3.out.below hb5)
    have HO5 := Lib.hid (HO3.out.below hb5)
    have HB5 : Hid (Below w.heap.size w w5) := Lib.hid (HB3.out.trans (hb5.mono HB3.out.size))
    have HW5 : Hid (B ≤ w5.heap.size) := Lib.hid (Nat.le_trans HW3.out hb5.size)
    have HQ5 := Lib.hid (HQ3.out.below hb5)
    clear hb5 HM3 HO3 HB3 HW3 HQ3 HQ10 HHAS
    cases hh
    ·simp only [Bool.not_false] at HKL
     go_wp2_with (first | (refine wpList_run rfl (exec_load72 (p := x) rfl rfl HQ5.out) ?_) | (refine wpList_run rfl (exec_bs72 (p := x) rfl rfl) ?_) | (at_builtin; refine wpList_appendG 36 72 7 24 info72 und36 rfl (by decide) (by decide) rfl rfl rfl rfl (HO5.out.below (below_one w5 _)) (Blk.new w5 72 x.arr) x.arr_size (by simpa using x.one_cs) (by omega) (by have := HW5.out; simp; omega) ?_; intro a3 cap3 w4 ho3 hk3 hl3))
     obtain ⟨hm4, hw4, hb4⟩ := mt_app HO5.out hk3 HM5.out HMM.out HB5.out HWB.out HW5.out
     have HM4 := Lib.hid hm4
     have HW4 := Lib.hid hw4
     have HB4 := Lib.hid hb4
     have HO4 : Hid (OwnG w4 72 7 B a3 (n1 + 1) cap3 (cellsE ((s.es.take (k + 1)).filter (keepA t)))) := Lib.hid (by rw [HTF.out, HKL.out]; rw [cellsE_app]; exact ho3)
     clear ho3 hk3 hl3 hm4 hw4 hb4
     go_roundw
     case rel => exact ⟨k + 1, a3, n1 + 1, cap3, by go_num, rfl, hlt, by omega, HNC2, HO4, HM4, HW4, HB4⟩
     case measure => simp [numI]; omega
    ·simp only [Bool.not_true] at HKL
     have HO6 : Hid (OwnG w5 72 7 B ad n1 c1 (cellsE ((s.es.take (k + 1)).filter (keepA t)))) := Lib.hid (by rw [HTF.out, HKL.out]; simpa using HO5.out)
     go_wp2_with fail
     go_roundw
     case rel => exact ⟨k + 1, ad, n1, c1, by go_num, rfl, hlt, by omega, HNC2, HO6, HM5, HW5, HB5⟩
     case measure => simp [numI]; omega
  ·obtain rfl : k = n := by omega
   have hall : s.es.take k = s.es := List.take_of_length_le (by rw [HSL.out]; exact Nat.le_refl _)
   rw [hall] at HNC HOW
   have HCL : Hid (¬ Clash s t) := Lib.hid (by
    rintro ⟨x, hx, y, hy, e1, e2, e3⟩
    exact e3 (HNC.out x hx y hy e1 e2))
   clear hall HNC
   have cB := stc16 HMT.out.sb
   go_wp2_with fail
   clear cB
   go_loopw [54, 7] (MbR w s t k n2 B p0 p1 (.slice a k c) (.slice a2 n2 c2) (.slice b m d) (.slice b2 m2 d2) mm cc f) (fun u _ _ => n2 - (numI u).toNat)
   case atStart => exact ⟨0, ad, n1, c1, rfl, rfl, Nat.zero_le _, by omega, Lib.hid (by simpa using HOW.out), HMT, HBW, HB⟩
   case round =>
    rename_i wq
    obtain ⟨j, ad, n1, c1, rfl, rfl, hj, hn1, HOW, HMT, HBW, HB⟩ := hrel
    by_cases hlt : j < n2
    ·obtain ⟨bb, off, x, rfl, hx, hr⟩ := EL.at (HT.out.es.below HB.out) hlt
     have HX := Lib.hid hx
     have HR := Lib.hid hr
     clear hx hr
     go_wp2_with (first | (refine wpList_run rfl (exec_idx72 (i := j) rfl rfl rfl rfl hlt) ?_) | (refine wpList_run rfl (exec_ld72 (p := x) rfl rfl HR.out) ?_) | (refine wpList_run rfl (exec_alloc72z HO.out rfl) ?_) | (refine wpList_stop72 rfl ?_))
     refine ⟨?_⟩
     refine wpList_void rfl rfl (exec_store72 (p := zo) (u := x) rfl rfl rfl (Blk.new wr 72 zo.arr)) ?_
     have Hx1 := Lib.hid (bo_laid wr 72 zo.arr x.arr)
     generalize (wr.alloc (.cells zo.arr 72)).setRow wr.heap.size x.arr = w2 at Hx1
     have HM2 := Lib.hid (HMT.out.below Hx1.out.old)
     have HO2 := Lib.hid (HOW.out.below Hx1.out.old)
     have HB2 : Hid (Below w.heap.size w w2) := Lib.hid (HB.out.trans (Hx1.out.old.mono HB.out.size))
     have HW2 : Hid (B ≤ w2.heap.size) := Lib.hid (Nat.le_trans HBW.out Hx1.out.old.size)
     have HQ2 := Lib.hid Hx1.out.one
     generalize wr.heap.size = q13 at HQ2
     clear Hx1 HMT HOW HB HBW
     have HTF := Lib.hid (take_filter (p := keepB s) HX.out)
     have HKL : Hid (keepB s x = !V.hasB s.v x.r x.s) := Lib.hid rfl
     have HHAS := Lib.hid (fun w => has_any s.v x.r x.s w x.hr x.hs)
     generalize V.hasB s.v x.r x.s = hh at HHAS HKL
     go_wp2_with (first | (refine wpList_run rfl (exec_stV (v := s.v) rfl rfl HM2.out.sa) ?_) | (refine wpList_run rfl (exec_edot (e := x) rfl rfl HQ2.out) ?_))
     refine (HHAS.out _).mono ?_
     rintro e w5 ⟨rfl, hb5⟩
     have HM5 := Lib.hid (HM2.out.below hb5)
     have HO5 := Lib.hid (HO2.out.below hb5)
     have HB5 : Hid (Below w.heap.size w w5) := Lib.hid (HB2.out.trans (hb5.mono HB2.out.size))
     have HW5 : Hid (B ≤ w5.heap.size) := Lib.hid (Nat.le_trans HW2.out hb5.size)
     have HQ5 := Lib.hid (HQ2.out.below hb5)
     clear hb5 HM2 HO2 HB2 HW2 HQ2 HHAS
     cases hh
     ·simp only [Bool.not_false] at HKL
      go_wp2_with (first | (refine wpList_run rfl (exec_load72 (p := x) rfl rfl HQ5.out) ?_) | (refine wpList_run rfl (exec_bs72 (p := x) rfl rfl) ?_) | (at_builtin; refine wpList_appendG 36 72 7 24 info72 und36 rfl (by decide) (by decide) rfl rfl rfl rfl (HO5.out.below (below_one w5 _)) (Blk.new w5 72 x.arr) x.arr_size (by simpa using x.one_cs) (by omega) (by have := HW5.out; simp; omega) ?_; intro a3 cap3 w4 ho3 hk3 hl3))
      obtain ⟨hm4, hw4, hb4⟩ := mt_app HO5.out hk3 HM5.out HMM.out HB5.out HWB.out HW5.out
      have HM4 := Lib.hid hm4
      have HW4 := Lib.hid hw4
      have HB4 := Lib.hid hb4
      have HO4 : Hid (OwnG w4 72 7 B a3 (n1 + 1) cap3 (cellsE (s.es.filter (keepA t) ++ (t.es.take (j + 1)).filter (keepB s)))) := Lib.hid (by rw [HTF.out, HKL.out, ← List.append_assoc, cellsE_app]; exact ho3)
      clear ho3 hk3 hl3 hm4 hw4 hb4
      go_roundw
      case rel => exact ⟨j + 1, a3, n1 + 1, cap3, by go_num, rfl, hlt, by omega, HO4, HM4, HW4, HB4⟩
      case measure => simp [numI]; omega
     ·simp only [Bool.not_true] at HKL
      have HO6 : Hid (OwnG w5 72 7 B ad n1 c1 (cellsE (s.es.filter (keepA t) ++ (t.es.take (j + 1)).filter (keepB s)))) := Lib.hid (by rw [HTF.out, HKL.out]; simpa using HO5.out)
      go_wp2_with fail
      go_roundw
      case rel => exact ⟨j + 1, ad, n1, c1, by go_num, rfl, hlt, by omega, HO6, HM5, HW5, HB5⟩
      case measure => simp [numI]; omega
    ·obtain rfl : j = n2 := by omega
     have hall : t.es.take j = t.es := List.take_of_length_le (by rw [HTL.out]; exact Nat.le_refl _)
     rw [hall] at HOW
     clear hall
     have HSO := Lib.hid (sortE_any (l := bothE s t) HOW.out (by omega))
     go_wp2_with fail
     refine HSO.out.mono ?_
     rintro e w6 ⟨rfl, es, hp, hso, ho6, hk6⟩
     have HEND : Hid (MeP s t w (.returned (.tuple #[.slice ad n1 c1, .int .i64 0])) w6) := Lib.hid (.inr ⟨HCL.out, ad, n1, c1, es, rfl, ho6.mono HWB.out, sorted_ahead hp (both_one HSR.out HTR.out) hso, fun x => hp.mem_iff, lies_at HB.out HOW.out HWB.out hk6⟩)
     clear hp hso ho6 hk6 HSO
     go_wp2_with fail
     go_ret2
     exact HEND.out
end Go.Proofs.YtnekpgmgnepdoaaGreat
end
section
namespace Go.Proofs.YtnekpgmgnepdoaaGreat
open Go.RowKit
def keepAt (l : List La) : Nat → Bool
 | 0 => true
 | i + 1 => !decide ((l[i + 1]?.map La.c) = (l[i]?.map La.c))
def compN (l : List La) : Nat → List La
 | 0 => []
 | j + 1 => compN l j ++ (if keepAt l j = true then l[j]?.toList else [])
theorem comp_keep {l : List La} {j : Nat} {x : La} (hx : l[j]? = some x) (hk : keepAt l j = true) : compN l (j + 1) = compN l j ++ [x] := by
 simp only [compN, if_pos hk, hx, Option.toList_some]
theorem comp_skip {l : List La} {j : Nat} (hk : keepAt l j = false) : compN l (j + 1) = compN l j := by
 simp [compN, hk]
theorem keep_at {l : List La} {i : Nat} {x y : La} (hx : l[i + 1]? = some x) (hy : l[i]? = some y) : keepAt l (i + 1) = !decide (x.c = y.c) := by
 simp [keepAt, hx, hy]
theorem comp_small {l : List La} (h : l.length < 2) : compN l l.length = l := by
 match l, h with
 | [], _ => rfl
 | [x], _ => rfl
 | x :: y :: t, h => simp at h; omega
theorem cellsL_len (l : List La) : (cellsL l).length = l.length := by simp [cellsL]
theorem drop_at {l : List La} {j : Nat} {x : La} (hx : l[j]? = some x) : l.drop j = x :: l.drop (j + 1) := by
 have hj := (List.getElem?_eq_some_iff.1 hx).1
 rw [List.drop_eq_getElem_cons hj]
 congr 1
 exact (List.getElem?_eq_some_iff.1 hx).2
structure Cf (W : World) (g : Nat) (l : List La) (us : List (List Value)) (k j : Nat) : Prop where
 rw : Rw W 96 2 g (cellsL (compN l j) ++ cellsL (l.drop k) ++ us)
 len : (compN l j).length = k
theorem Cf.at {W : World} {g k j i : Nat} {l : List La} {us : List (List Value)} {x : La} (h : Cf W g l us k j) (hk : k ≤ i) (hx : l[i]? = some x) : W.rangeAt g (0 + i * 2) x.cs := by
 refine h.rw.at ?_
 have hil := (List.getElem?_eq_some_iff.1 hx).1
 have hl := h.len
 rw [List.getElem?_append_left (by simp [cellsL]; omega), List.getElem?_append_right (by simp [cellsL]; omega), cellsL_len, hl]
 unfold cellsL
 rw [List.getElem?_map, List.getElem?_drop, show k + (i - k) = i by omega, hx]
 rfl
theorem Cf.skip {W : World} {g k j : Nat} {l : List La} {us : List (List Value)} (h : Cf W g l us k j) (hk : keepAt l j = false) : Cf W g l us k (j + 1) := by
 refine ⟨?_, ?_⟩
 ·rw [comp_skip hk]; exact h.rw
 ·rw [comp_skip hk]; exact h.len
theorem Cf.next {W : World} {g k : Nat} {l : List La} {us : List (List Value)} {x : La} (h : Cf W g l us k k) (hx : l[k]? = some x) (hk : keepAt l k = true) : Cf W g l us (k + 1) (k + 1) := by
 refine ⟨?_, by rw [comp_keep hx hk, List.length_append, h.len]; rfl⟩
 have hr := h.rw
 rw [drop_at hx] at hr
 rw [comp_keep hx hk]
 simpa [cellsL] using hr
theorem Cf.write {W : World} {g k j : Nat} {l : List La} {us : List (List Value)} {x : La} (h : Cf W g l us k j) (hkl : k < l.length) (hx : l[j]? = some x) (hk : keepAt l j = true) : Cf (W.setCells g (0 + k * 2) x.cs) g l us (k + 1) (j + 1) := by
 have hl := h.len
 refine ⟨?_, by rw [comp_keep hx hk, List.length_append, h.len]; rfl⟩
 have hr := h.rw.set (i := k) (v := x.cs) rfl (by simp [cellsL]; omega)
 obtain ⟨y, hy⟩ : ∃ y, l[k]? = some y := ⟨l[k], List.getElem?_eq_getElem hkl⟩
 have e1 : (cellsL (compN l j) ++ cellsL (l.drop k) ++ us).set k x.cs = cellsL (compN l (j + 1)) ++ cellsL (l.drop (k + 1)) ++ us := by
  rw [comp_keep hx hk, drop_at hy, List.append_assoc, List.set_append_right _ _ (by simp [cellsL]; omega), cellsL_len, hl, Nat.sub_self]
  simp [cellsL]
 rw [e1] at hr
 exact hr
theorem Cf.below {W W' : World} {g k j : Nat} {l : List La} {us : List (List Value)} (h : Cf W g l us k j) (hb : Below W.heap.size W W') : Cf W' g l us k j := ⟨h.rw.below hb, h.len⟩
theorem take_drop (l : List La) (k : Nat) : cellsL (l.take k) ++ cellsL (l.drop k) = cellsL l := by unfold cellsL; rw [← List.map_append, List.take_append_drop]
theorem Cf.whole {W : World} {g k : Nat} {l : List La} {us : List (List Value)} (h : Cf W g l us k k) (e : compN l k = l.take k) : Rw W 96 2 g (cellsL l ++ us) := by
 have hr := h.rw
 rw [e, take_drop] at hr
 exact hr
theorem comp_next {l : List La} {k : Nat} {x : La} (e : compN l k = l.take k) (hx : l[k]? = some x) (hk : keepAt l k = true) : compN l (k + 1) = l.take (k + 1) := by
 rw [comp_keep hx hk, e, List.take_add_one, hx]; rfl
structure CfI (w W : World) (g k j : Nat) (l : List La) (us : List (List Value)) (o1 o2 : Nat) (x y : La) : Prop where
 cf : Cf W g l us k j
 a : W.rangeAt g o1 x.cs
 b : W.rangeAt g o2 y.cs
 old : Kept (fun k => k = g) w W
theorem CfI.below {w W W' : World} {g k j o1 o2 : Nat} {l : List La} {us : List (List Value)} {x y : La} (h : CfI w W g k j l us o1 o2 x y) (hb : Below W.heap.size W W') : CfI w W' g k j l us o1 o2 x y :=
 ⟨h.cf.below hb, fun i u hu => below_at hb (h.a i u hu), fun i u hu => below_at hb (h.b i u hu), h.old.trans (Kept.of_below (S := fun _ => False) hb) (fun _ h => h.elim)⟩
section
variable {ev : Operand → Value} {q : Oper} {w : World}
theorem exec_subI {x y : Operand} {a b r : Int} (ho : q.op = .binOp .sub 3 x y 3) (hx : ev x = .int .i64 a) (hy : ev y = .int .i64 b) (hr : a - b = r) (h1 : 0 ≤ r) (h2 : r < 1000000000) : (execOp ev q).run Tryz.prog w = .ok (.value (.int .i64 r)) w := by
 subst hr
 have hw : IntKind.i64.wrap (a - b) = a - b := by rw [IntKind.wrap_i64]; omega
 unfold execOp
 simp only [ho, hx, hy]
 go_simp
theorem exec_notB {x : Operand} {b r : Bool} (ho : q.op = .unOp .not 4 x) (hx : ev x = .bool b) (hr : (!b) = r) : (execOp ev q).run Tryz.prog w = .ok (.value (.bool r)) w := by
 subst hr
 unfold execOp
 simp only [ho, hx]
 go_simp
theorem exec_st96 {x y : Operand} {g j off : Nat} {vs : List (List Value)} {p : La} (ho : q.op = .store 96 x y) (hx : ev x = .pointer (some ⟨g, off, none⟩)) (hoff : off = 0 + j * 2) (hy : ev y = .agg p.arr) (h : Rw w 96 2 g vs) (hj : j < vs.length) : (execOp ev q).run Tryz.prog w = .ok .skip (w.setCells g (0 + j * 2) p.cs) := by
 subst hoff
 have hs := run_storeAt_mid (P := Tryz.prog) w g (0 + j * 2) 96 p.arr (by have := h.there (i := j) (k := 1) (by omega); rw [Nat.one_mul] at this; exact this) size96 p.arr_one
 unfold execOp
 simp only [ho, hx, hy, Sem.run_bind, hs, Result.andThen_ok]
 rfl
end
def CompP (w : World) (B : Nat) (a : Option Addr) (cap : Nat) (l : List La) (e : Ending) (w' : World) : Prop :=
 e = .returned (.slice a l.length cap) ∧ OwnG w' 96 2 B a l.length cap (cellsL l) ∧ Kept (At a) w w'
def CoR (w : World) (g : Nat) (l : List La) (us : List (List Value)) (n : Nat) (v : Value) (W : World) : Prop :=
 ∃ k : Nat, v = .int .i64 (k : Int) ∧ 1 ≤ k ∧ k ≤ n ∧ Hid (Cf W g l us k k) ∧ Hid (compN l k = l.take k) ∧ Hid (Kept (fun k => k = g) w W)
def CiR (w : World) (g : Nat) (l : List La) (us : List (List Value)) (n k0 : Nat) (v u : Value) (W : World) : Prop :=
 ∃ k k2 : Nat, v = .int .i64 (k : Int) ∧ u = .int .i64 (k2 : Int) ∧ 1 ≤ k2 ∧ k0 + k2 ≤ n ∧ k < k0 + k2 ∧ Hid (Cf W g l us k (k0 + k2)) ∧ Hid (Kept (fun k => k = g) w W)
set_option maxRecDepth 100000 in
set_option maxHeartbeats 8000000 in
theorem compact_any {a : Option Addr} {n cap B : Nat} {l : List La} {w : World} (h : OwnG w 96 2 B a n cap (cellsL l)) (hn : n < 900000) : Calls Tryz.prog 107 #[.slice a n cap, .func (.func 108) #[] #[]] w (CompP w B a cap (compN l n)) := by
 have hlen : l.length = n := by have := h.len; rwa [cellsL_len] at this
 by_cases h2 : n < 2
 ·have HE : Hid (CompP w B a cap (compN l n) (.returned (.slice a n cap)) w) := Lib.hid (by
   have e := comp_small (l := l) (by omega)
   rw [hlen] at e
   rw [e]
   exact ⟨by rw [hlen], by rw [hlen]; exact h, Kept.refl _ _⟩)
  clear h
  go_enter Tryz.func107, Tryz.ntmps107
  go_wp2_with fail
  go_ret
  exact HE.out
 ·obtain ⟨g, us, rfl, hrw, hcap, hBg, hcm⟩ : ∃ g us, a = some ⟨g, 0, none⟩ ∧ Rw w 96 2 g (cellsL l ++ us) ∧ n + us.length = cap ∧ B ≤ g ∧ cap ≤ maxLen := by
   rcases h.rw' (by decide) with ⟨_, h0, _⟩ | h
   ·omega
   ·exact h
  have HLEN := Lib.hid hlen
  have HC0 : Hid (Cf w g l us 1 1) := Lib.hid (by
   obtain ⟨x, hx⟩ : ∃ x, l[0]? = some x := ⟨l[0]'(by omega), List.getElem?_eq_getElem _⟩
   have : Cf w g l us 0 0 := ⟨by simpa [compN, cellsL] using hrw, rfl⟩
   exact this.next hx rfl)
  have HCE : Hid (compN l 1 = l.take 1) := Lib.hid (by
   obtain ⟨x, hx⟩ : ∃ x, l[0]? = some x := ⟨l[0]'(by omega), List.getElem?_eq_getElem _⟩
   exact comp_next rfl hx rfl)
  have HCP : Hid (n + us.length = cap ∧ B ≤ g ∧ cap ≤ maxLen) := Lib.hid ⟨hcap, hBg, hcm⟩
  have hcn : n ≤ cap := by omega
  have hn2 : 2 ≤ n := by omega
  clear h hlen hrw hcap hBg hcm h2
  go_enter Tryz.func107, Tryz.ntmps107
  go_wp2_with fail
  go_loopw [5] (CoR w g l us n) (fun v _ => n - (numI v).toNat)
  case atStart => exact ⟨1, by go_num, by omega, by omega, HC0, HCE, Lib.hid (Kept.refl _ _)⟩
  case round =>
   obtain ⟨k, rfl, hk1, hkn, HC, HE0, HK⟩ := hrel
   clear HC0 HCE
   by_cases hlt : k < n
   ·obtain ⟨k1, hk⟩ : ∃ k1, k1 + 1 = k := ⟨k - 1, by omega⟩
    obtain ⟨x, hx⟩ : ∃ x, l[k]? = some x := ⟨l[k]'(by have := HLEN.out; omega), List.getElem?_eq_getElem _⟩
    obtain ⟨y, hy⟩ : ∃ y, l[k1]? = some y := ⟨l[k1]'(by have := HLEN.out; omega), List.getElem?_eq_getElem _⟩
    have HX := Lib.hid hx
    have HKE : Hid (keepAt l k = !decide (x.c = y.c)) := Lib.hid (by rw [← hk] at hx ⊢; exact keep_at hx hy)
    have HI : Hid (CfI w wr g k k l us (0 + k * 2) (0 + k1 * 2) x y) := Lib.hid ⟨HC.out, HC.out.at (Nat.le_refl _) hx, (HC.out.whole HE0.out).at (i := k1) (v := y.cs) (by
     have := HLEN.out
     rw [List.getElem?_append_left (by simp [cellsL]; omega)]
     unfold cellsL
     rw [List.getElem?_map, hy]
     rfl), HK.out⟩
    clear hx hy HC HK
    have hc := fun w => sameL_any x y w
    by_cases hq : x.c = y.c
    ·rw [decide_eq_true hq] at hc HKE
     clear hq
     go_wp2_with fail
     refine wp_region_held_drew (S := fun w' => CfI w w' g k k l us (0 + k * 2) (0 + k1 * 2) x y) (by kernel_rfl) (HI.out.below (drew_below _)) (fun hS => ?_)
     refine held_tk 0 18 (.func (.func 108) #[] #[]) rfl rfl (by kernel_rfl) (fun _ _ _ h => h) (fun _ _ => rfl) hS ?_
     simp only [Act.put, ap1, ap2, ap3]
     refine held_tk 1 19 (.slice (some ⟨g, 0, none⟩) n cap) rfl rfl (by kernel_rfl) (fun _ _ _ h => h) (fun _ _ => rfl) hS ?_
     simp only [Act.put, ap1, ap2, ap3]
     refine held_tk 2 20 (.int .i64 (k : Int)) rfl rfl (by kernel_rfl) (fun _ _ _ h => h) (fun _ _ => rfl) hS ?_
     simp only [Act.put, ap1, ap2, ap3]
     refine held_tk 3 21 (.pointer (some ⟨g, 0 + k * 2, none⟩)) rfl rfl (by kernel_rfl) (fun _ _ _ h => h) (fun _ _ => exec_idx96 (off := 0) (i := k) rfl rfl rfl (by omega) (by omega)) hS ?_
     simp only [Act.put, ap1, ap2, ap3]
     refine held_tk 4 22 (.agg x.arr) rfl rfl (by kernel_rfl) (fun _ _ _ h => h) (fun _ h => exec_ld96 (p := x) rfl rfl h.a) hS ?_
     simp only [Act.put, ap1, ap2, ap3]
     refine held_tk 5 23 (.slice (some ⟨g, 0, none⟩) n cap) rfl rfl (by kernel_rfl) (fun _ _ _ h => h) (fun _ _ => rfl) hS ?_
     simp only [Act.put, ap1, ap2, ap3]
     refine held_tk 6 24 (.int .i64 (k : Int)) rfl rfl (by kernel_rfl) (fun _ _ _ h => h) (fun _ _ => rfl) hS ?_
     simp only [Act.put, ap1, ap2, ap3]
     refine held_tk 7 25 (.int .i64 (k1 : Int)) rfl rfl (by kernel_rfl) (fun _ _ _ h => h) (fun _ _ => exec_subI rfl rfl rfl (by omega) (by omega) (by omega)) hS ?_
     simp only [Act.put, ap1, ap2, ap3]
     refine held_tk 8 26 (.pointer (some ⟨g, 0 + k1 * 2, none⟩)) rfl rfl (by kernel_rfl) (fun _ _ _ h => h) (fun _ _ => exec_idx96 (off := 0) (i := k1) rfl rfl rfl (by omega) (by omega)) hS ?_
     simp only [Act.put, ap1, ap2, ap3]
     refine held_tk 9 27 (.agg y.arr) rfl rfl (by kernel_rfl) (fun _ _ _ h => h) (fun _ h => exec_ld96 (p := y) rfl rfl h.b) hS ?_
     simp only [Act.put, ap1, ap2, ap3]
     refine held_callP 10 28 108 #[.agg x.arr, .agg y.arr] rfl (by kernel_rfl) rfl (by kernel_rfl) (by kernel_rfl) (hc _) (fun e w5 hP => ?_)
     obtain ⟨rfl, hg⟩ := hP
     refine ⟨_, rfl, hS.below hg.below, fun hS => ?_⟩
     clear hg
     simp only [Act.put, ap1, ap2, ap3]
     refine wpAnyH_done (by kernel_rfl) ?_ _
     have HC2 : Hid (Cf w5 g l us k (k + 1)) := Lib.hid (hS.cf.skip HKE.out)
     have HK2 := Lib.hid hS.old
     clear hS hc HI HKE HX HE0
     go_wp2_with (refine wpList_run rfl (exec_sliceLo und37 Tryz.sizeOf96 (i := k) rfl rfl rfl rfl (by omega) (by omega) (by omega)) ?_)
     obtain ⟨k0, hk0⟩ : ∃ k0, k = k0 := ⟨_, rfl⟩
     rw [show Cf w5 g l us k (k + 1) = Cf w5 g l us k (k0 + 1) by rw [hk0]] at HC2
     have hk00 : k ≤ k0 := by omega
     have hk01 : k0 < n := by omega
     have hk02 : k0 ≤ k := by omega
     have hlen2 : 2 ≤ n := hn2
     rw [show (Value.slice (some ⟨g, k * 2, none⟩) (n - k) (cap - k)) = Value.slice (some ⟨g, k0 * 2, none⟩) (n - k0) (cap - k0) by rw [hk0]]
     clear hk0 hk hk1 hkn hlt
     go_loopw [5, 7] (CiR w g l us n k0) (fun _ u _ => n - k0 - (numI u).toNat)
     case atStart => exact ⟨k, 1, rfl, by go_num, by omega, by omega, by omega, HC2, HK2⟩
     case round =>
      obtain ⟨i, k2, rfl, rfl, h21, h2n, hik, HC, HK⟩ := hrel
      clear HC2 HK2
      by_cases hlt : k2 < n - k0
      ·obtain ⟨k3, hk3⟩ : ∃ k3, k3 + 1 = k2 := ⟨k2 - 1, by omega⟩
       obtain ⟨x, hx⟩ : ∃ x, l[k0 + k2]? = some x := ⟨l[k0 + k2]'(by have := HLEN.out; omega), List.getElem?_eq_getElem _⟩
       obtain ⟨y, hy⟩ : ∃ y, l[k0 + k3]? = some y := ⟨l[k0 + k3]'(by have := HLEN.out; omega), List.getElem?_eq_getElem _⟩
       have HX := Lib.hid hx
       have HKE : Hid (keepAt l (k0 + k2) = !decide (x.c = y.c)) := Lib.hid (by rw [← hk3, ← Nat.add_assoc] at hx ⊢; exact keep_at hx hy)
       have HI : Hid (CfI w wr g i (k0 + k2) l us (k0 * 2 + k2 * 2) (k0 * 2 + k3 * 2) x y) := Lib.hid ⟨HC.out, by
        have h := HC.out.at (i := k0 + k2) (by omega) hx
        rwa [show 0 + (k0 + k2) * 2 = k0 * 2 + k2 * 2 by omega] at h, by
        have h := HC.out.at (i := k0 + k3) (by omega) hy
        rwa [show 0 + (k0 + k3) * 2 = k0 * 2 + k3 * 2 by omega] at h, HK.out⟩
       clear hx hy HC HK
       have hc := fun w => sameL_any x y w
       by_cases hq : x.c = y.c
       ·rw [decide_eq_true hq] at hc HKE
        clear hq
        go_wp2_with fail
        refine wp_region_held_drew (S := fun w' => CfI w w' g i (k0 + k2) l us (k0 * 2 + k2 * 2) (k0 * 2 + k3 * 2) x y) (by kernel_rfl) (HI.out.below (drew_below _)) (fun hS => ?_)
        refine held_tk 0 38 (.func (.func 108) #[] #[]) rfl rfl (by kernel_rfl) (fun _ _ _ h => h) (fun _ _ => rfl) hS ?_
        simp only [Act.put, ap1, ap2, ap3]
        refine held_tk 1 39 (.slice (some ⟨g, k0 * 2, none⟩) (n - k0) (cap - k0)) rfl rfl (by kernel_rfl) (fun _ _ _ h => h) (fun _ _ => rfl) hS ?_
        simp only [Act.put, ap1, ap2, ap3]
        refine held_tk 2 40 (.int .i64 (k2 : Int)) rfl rfl (by kernel_rfl) (fun _ _ _ h => h) (fun _ _ => rfl) hS ?_
        simp only [Act.put, ap1, ap2, ap3]
        refine held_tk 3 41 (.pointer (some ⟨g, k0 * 2 + k2 * 2, none⟩)) rfl rfl (by kernel_rfl) (fun _ _ _ h => h) (fun _ _ => exec_idx96 (off := k0 * 2) (i := k2) rfl rfl rfl (by omega) (by omega)) hS ?_
        simp only [Act.put, ap1, ap2, ap3]
        refine held_tk 4 42 (.agg x.arr) rfl rfl (by kernel_rfl) (fun _ _ _ h => h) (fun _ h => exec_ld96 (p := x) rfl rfl h.a) hS ?_
        simp only [Act.put, ap1, ap2, ap3]
        refine held_tk 5 43 (.slice (some ⟨g, k0 * 2, none⟩) (n - k0) (cap - k0)) rfl rfl (by kernel_rfl) (fun _ _ _ h => h) (fun _ _ => rfl) hS ?_
        simp only [Act.put, ap1, ap2, ap3]
        refine held_tk 6 44 (.int .i64 (k2 : Int)) rfl rfl (by kernel_rfl) (fun _ _ _ h => h) (fun _ _ => rfl) hS ?_
        simp only [Act.put, ap1, ap2, ap3]
        refine held_tk 7 45 (.int .i64 (k3 : Int)) rfl rfl (by kernel_rfl) (fun _ _ _ h => h) (fun _ _ => exec_subI rfl rfl rfl (by omega) (by omega) (by omega)) hS ?_
        simp only [Act.put, ap1, ap2, ap3]
        refine held_tk 8 46 (.pointer (some ⟨g, k0 * 2 + k3 * 2, none⟩)) rfl rfl (by kernel_rfl) (fun _ _ _ h => h) (fun _ _ => exec_idx96 (off := k0 * 2) (i := k3) rfl rfl rfl (by omega) (by omega)) hS ?_
        simp only [Act.put, ap1, ap2, ap3]
        refine held_tk 9 47 (.agg y.arr) rfl rfl (by kernel_rfl) (fun _ _ _ h => h) (fun _ h => exec_ld96 (p := y) rfl rfl h.b) hS ?_
        simp only [Act.put, ap1, ap2, ap3]
        refine held_callP 10 48 108 #[.agg x.arr, .agg y.arr] rfl (by kernel_rfl) rfl (by kernel_rfl) (by kernel_rfl) (hc _) (fun e w5 hP => ?_)
        obtain ⟨rfl, hg⟩ := hP
        refine ⟨_, rfl, hS.below hg.below, fun hS => ?_⟩
        clear hg
        simp only [Act.put, ap1, ap2, ap3]
        refine held_tk 11 49 (.bool false) rfl rfl (by kernel_rfl) (fun _ _ _ h => h) (fun _ _ => exec_notB rfl rfl rfl) hS ?_
        simp only [Act.put, ap1, ap2, ap3]
        refine wpAnyH_done (by kernel_rfl) ?_ _
        have HC2 : Hid (Cf w5 g l us i (k0 + (k2 + 1))) := Lib.hid (hS.cf.skip HKE.out)
        have HK2 := Lib.hid hS.old
        clear hS hc HI HKE HX
        go_wp2_with fail
        go_roundw
        case rel => exact ⟨i, k2 + 1, rfl, by go_num, by omega, by omega, by omega, HC2, HK2⟩
        case measure => simp [numI]; omega
       ·rw [decide_eq_false hq] at hc HKE
        clear hq
        go_wp2_with fail
        refine wp_region_held_drew (S := fun w' => CfI w w' g i (k0 + k2) l us (k0 * 2 + k2 * 2) (k0 * 2 + k3 * 2) x y) (by kernel_rfl) (HI.out.below (drew_below _)) (fun hS => ?_)
        refine held_tk 0 38 (.func (.func 108) #[] #[]) rfl rfl (by kernel_rfl) (fun _ _ _ h => h) (fun _ _ => rfl) hS ?_
        simp only [Act.put, ap1, ap2, ap3]
        refine held_tk 1 39 (.slice (some ⟨g, k0 * 2, none⟩) (n - k0) (cap - k0)) rfl rfl (by kernel_rfl) (fun _ _ _ h => h) (fun _ _ => rfl) hS ?_
        simp only [Act.put, ap1, ap2, ap3]
        refine held_tk 2 40 (.int .i64 (k2 : Int)) rfl rfl (by kernel_rfl) (fun _ _ _ h => h) (fun _ _ => rfl) hS ?_
        simp only [Act.put, ap1, ap2, ap3]
        refine held_tk 3 41 (.pointer (some ⟨g, k0 * 2 + k2 * 2, none⟩)) rfl rfl (by kernel_rfl) (fun _ _ _ h => h) (fun _ _ => exec_idx96 (off := k0 * 2) (i := k2) rfl rfl rfl (by omega) (by omega)) hS ?_
        simp only [Act.put, ap1, ap2, ap3]
        refine held_tk 4 42 (.agg x.arr) rfl rfl (by kernel_rfl) (fun _ _ _ h => h) (fun _ h => exec_ld96 (p := x) rfl rfl h.a) hS ?_
        simp only [Act.put, ap1, ap2, ap3]
        refine held_tk 5 43 (.slice (some ⟨g, k0 * 2, none⟩) (n - k0) (cap - k0)) rfl rfl (by kernel_rfl) (fun _ _ _ h => h) (fun _ _ => rfl) hS ?_
        simp only [Act.put, ap1, ap2, ap3]
        refine held_tk 6 44 (.int .i64 (k2 : Int)) rfl rfl (by kernel_rfl) (fun _ _ _ h => h) (fun _ _ => rfl) hS ?_
        simp only [Act.put, ap1, ap2, ap3]
        refine held_tk 7 45 (.int .i64 (k3 : Int)) rfl rfl (by kernel_rfl) (fun _ _ _ h => h) (fun _ _ => exec_subI rfl rfl rfl (by omega) (by omega) (by omega)) hS ?_
        simp only [Act.put, ap1, ap2, ap3]
        refine held_tk 8 46 (.pointer (some ⟨g, k0 * 2 + k3 * 2, none⟩)) rfl rfl (by kernel_rfl) (fun _ _ _ h => h) (fun _ _ => exec_idx96 (off := k0 * 2) (i := k3) rfl rfl rfl (by omega) (by omega)) hS ?_
        simp only [Act.put, ap1, ap2, ap3]
        refine held_tk 9 47 (.agg y.arr) rfl rfl (by kernel_rfl) (fun _ _ _ h => h) (fun _ h => exec_ld96 (p := y) rfl rfl h.b) hS ?_
        simp only [Act.put, ap1, ap2, ap3]
        refine held_callP 10 48 108 #[.agg x.arr, .agg y.arr] rfl (by kernel_rfl) rfl (by kernel_rfl) (by kernel_rfl) (hc _) (fun e w5 hP => ?_)
        obtain ⟨rfl, hg⟩ := hP
        refine ⟨_, rfl, hS.below hg.below, fun hS => ?_⟩
        clear hg
        simp only [Act.put, ap1, ap2, ap3]
        refine held_tk 11 49 (.bool true) rfl rfl (by kernel_rfl) (fun _ _ _ h => h) (fun _ _ => exec_notB rfl rfl rfl) hS ?_
        simp only [Act.put, ap1, ap2, ap3]
        refine wpAnyH_done (by kernel_rfl) ?_ _
        have HS := Lib.hid hS
        have HRA := Lib.hid hS.a
        have HIL : Hid (i < (cellsL (compN l (k0 + k2)) ++ cellsL (l.drop i) ++ us).length) := Lib.hid (by
         have h1 := hS.cf.len
         have h2 := HLEN.out
         simp only [List.length_append, cellsL_len, List.length_drop]
         omega)
        clear hS hc HI
        go_wp2_with (first | (refine wpList_run rfl (exec_idx96 (off := k0 * 2) (i := k2) rfl rfl rfl rfl (by omega)) ?_) | (refine wpList_run rfl (exec_ld96 (p := x) rfl rfl HRA.out) ?_) | (refine wpList_run rfl (exec_idx96 (off := 0) (i := i) rfl rfl rfl rfl (by omega)) ?_) | (refine wpList_stop96 rfl ?_))
        refine ⟨?_⟩
        refine wpList_void rfl rfl (exec_st96 (j := i) (p := x) rfl rfl (by omega) rfl HS.out.cf.rw HIL.out) ?_
        have HC2 : Hid (Cf (w5.setCells g (0 + i * 2) x.cs) g l us (i + 1) (k0 + (k2 + 1))) := Lib.hid (HS.out.cf.write (by have := HLEN.out; omega) HX.out HKE.out)
        have HK2 : Hid (Kept (fun k => k = g) w (w5.setCells g (0 + i * 2) x.cs)) := Lib.hid (HS.out.old.trans (Kept.setCells g _ _ _) (fun _ h => .inl h))
        generalize w5.setCells g (0 + i * 2) x.cs = w6 at HC2 HK2
        clear HS HRA HIL HKE HX
        go_wp2_with fail
        go_roundw
        case rel => exact ⟨i + 1, k2 + 1, by go_num, by go_num, by omega, by omega, by omega, HC2, HK2⟩
        case measure => simp [numI]; omega
      ·obtain rfl : n = k0 + k2 := by omega
       obtain ⟨N, hN⟩ : ∃ N, k0 + k2 = N := ⟨_, rfl⟩
       have hcl : ∀ ty, (Builtin.clear_ #[37] ty #[.slice (some ⟨g, 0 + i * 2, none⟩) (k0 + k2 - i) (cap - i)]).run Tryz.prog wr = .ok (.tuple #[]) (wr.setCells g (0 + i * 2) (List.replicate (k0 + k2 - i) La.zero.cs).flatten) := fun ty =>
        run_clearR wr 37 ty 96 2 La.zero.cs und37 ((zero_of_info info96z).1 wr) rfl (by decide) La.zero.one_cs g (0 + i * 2) (k0 + k2 - i) (cap - i) (HC.out.rw.there (by
         have h1 := HC.out.len
         have h2 := HLEN.out
         simp only [List.length_append, cellsL_len, List.length_drop]
         omega))
       have HCL := Lib.hid hcl
       clear hcl
       have HE : Hid (CompP w B (some ⟨g, 0, none⟩) cap (compN l (k0 + k2)) (.returned (.slice (some ⟨g, 0, none⟩) i cap)) (wr.setCells g (0 + i * 2) (List.replicate (k0 + k2 - i) La.zero.cs).flatten)) := by
        have h1 := HC.out.len
        have hrw := HC.out.rw
        have hlen := HLEN.out
        have hcp := HCP.out
        have hL : (cellsL (compN l (k0 + k2)) ++ cellsL (l.drop i) ++ us).length = cap := by
         simp only [List.length_append, cellsL_len, List.length_drop]
         omega
        have ho := hrw.over (us := List.replicate (k0 + k2 - i) La.zero.cs) (i := i) (fun v hv => by rw [List.eq_of_mem_replicate hv]; rfl) (by rw [hL, List.length_replicate]; omega)
        have hl2 : (overL (cellsL (compN l (k0 + k2)) ++ cellsL (l.drop i) ++ us) i (List.replicate (k0 + k2 - i) La.zero.cs)).length = cap := by
         rw [overL_length _ _ _ (by rw [hL, List.length_replicate]; omega), hL]
        have hown := ho.own (B := B) (n := i) HCP.out.2.1 (by omega) hl2 HCP.out.2.2
        have ht : (overL (cellsL (compN l (k0 + k2)) ++ cellsL (l.drop i) ++ us) i (List.replicate (k0 + k2 - i) La.zero.cs)).take i = cellsL (compN l (k0 + k2)) := by
         unfold overL
         rw [List.append_assoc, List.take_append_of_le_length (by rw [List.length_take]; omega), List.take_take, Nat.min_self, List.append_assoc, List.take_append_of_le_length (by rw [cellsL_len]; omega), List.take_of_length_le (by rw [cellsL_len]; omega)]
        rw [ht] at hown
        refine Lib.hid ⟨by rw [h1], by rw [h1]; exact hown, kept_at ?_⟩
        exact HK.out.trans (Kept.setCells g _ _ _) (fun _ h => .inl h)
       rw [hN] at HE HCL ⊢
       go_wp2_with (first | (refine wpList_run rfl (exec_sliceLo und37 Tryz.sizeOf96 (i := i) rfl rfl rfl rfl (by omega) (by omega) (by omega)) ?_) | (refine wpList_run rfl (exec_clear rfl rfl (HCL.out _)) ?_) | (refine wpList_run rfl (exec_sliceHi und37 Tryz.sizeOf96 (i := i) rfl rfl rfl rfl (by omega) rfl) ?_))
       go_ret
       have h := HE.out
       rw [Nat.zero_add] at h
       rw [hN]
       exact h
    ·rw [decide_eq_false hq] at hc HKE
     clear hq
     go_wp2_with fail
     refine wp_region_held_drew (S := fun w' => CfI w w' g k k l us (0 + k * 2) (0 + k1 * 2) x y) (by kernel_rfl) (HI.out.below (drew_below _)) (fun hS => ?_)
     refine held_tk 0 18 (.func (.func 108) #[] #[]) rfl rfl (by kernel_rfl) (fun _ _ _ h => h) (fun _ _ => rfl) hS ?_
     simp only [Act.put, ap1, ap2, ap3]
     refine held_tk 1 19 (.slice (some ⟨g, 0, none⟩) n cap) rfl rfl (by kernel_rfl) (fun _ _ _ h => h) (fun _ _ => rfl) hS ?_
     simp only [Act.put, ap1, ap2, ap3]
     refine held_tk 2 20 (.int .i64 (k : Int)) rfl rfl (by kernel_rfl) (fun _ _ _ h => h) (fun _ _ => rfl) hS ?_
     simp only [Act.put, ap1, ap2, ap3]
     refine held_tk 3 21 (.pointer (some ⟨g, 0 + k * 2, none⟩)) rfl rfl (by kernel_rfl) (fun _ _ _ h => h) (fun _ _ => exec_idx96 (off := 0) (i := k) rfl rfl rfl (by omega) (by omega)) hS ?_
     simp only [Act.put, ap1, ap2, ap3]
     refine held_tk 4 22 (.agg x.arr) rfl rfl (by kernel_rfl) (fun _ _ _ h => h) (fun _ h => exec_ld96 (p := x) rfl rfl h.a) hS ?_
     simp only [Act.put, ap1, ap2, ap3]
     refine held_tk 5 23 (.slice (some ⟨g, 0, none⟩) n cap) rfl rfl (by kernel_rfl) (fun _ _ _ h => h) (fun _ _ => rfl) hS ?_
     simp only [Act.put, ap1, ap2, ap3]
     refine held_tk 6 24 (.int .i64 (k : Int)) rfl rfl (by kernel_rfl) (fun _ _ _ h => h) (fun _ _ => rfl) hS ?_
     simp only [Act.put, ap1, ap2, ap3]
     refine held_tk 7 25 (.int .i64 (k1 : Int)) rfl rfl (by kernel_rfl) (fun _ _ _ h => h) (fun _ _ => exec_subI rfl rfl rfl (by omega) (by omega) (by omega)) hS ?_
     simp only [Act.put, ap1, ap2, ap3]
     refine held_tk 8 26 (.pointer (some ⟨g, 0 + k1 * 2, none⟩)) rfl rfl (by kernel_rfl) (fun _ _ _ h => h) (fun _ _ => exec_idx96 (off := 0) (i := k1) rfl rfl rfl (by omega) (by omega)) hS ?_
     simp only [Act.put, ap1, ap2, ap3]
     refine held_tk 9 27 (.agg y.arr) rfl rfl (by kernel_rfl) (fun _ _ _ h => h) (fun _ h => exec_ld96 (p := y) rfl rfl h.b) hS ?_
     simp only [Act.put, ap1, ap2, ap3]
     refine held_callP 10 28 108 #[.agg x.arr, .agg y.arr] rfl (by kernel_rfl) rfl (by kernel_rfl) (by kernel_rfl) (hc _) (fun e w5 hP => ?_)
     obtain ⟨rfl, hg⟩ := hP
     refine ⟨_, rfl, hS.below hg.below, fun hS => ?_⟩
     clear hg
     simp only [Act.put, ap1, ap2, ap3]
     refine wpAnyH_done (by kernel_rfl) ?_ _
     have HC2 : Hid (Cf w5 g l us (k + 1) (k + 1)) := Lib.hid (hS.cf.next HX.out HKE.out)
     have HE2 : Hid (compN l (k + 1) = l.take (k + 1)) := Lib.hid (comp_next HE0.out HX.out HKE.out)
     have HK2 := Lib.hid hS.old
     clear hS hc HI HKE HX HE0
     go_wp2_with fail
     go_roundw
     case rel => exact ⟨k + 1, by go_num, by omega, by omega, HC2, HE2, HK2⟩
     case measure => simp [numI]; omega
   ·obtain rfl : k = n := by omega
    have HE : Hid (CompP w B (some ⟨g, 0, none⟩) cap (compN l k) (.returned (.slice (some ⟨g, 0, none⟩) k cap)) wr) := Lib.hid (by
     have hlen := HLEN.out
     have h1 := HC.out.len
     have hr := HC.out.whole HE0.out
     have hcp := HCP.out
     have ho := hr.own (B := B) (n := k) (cap := cap) HCP.out.2.1 (by omega) (by simp only [List.length_append, cellsL_len]; omega) HCP.out.2.2
     rw [List.take_append_of_le_length (by rw [cellsL_len]; omega), List.take_of_length_le (by rw [cellsL_len]; omega)] at ho
     have e : compN l k = l := by rw [HE0.out, List.take_of_length_le (by omega)]
     rw [e]
     exact ⟨by rw [hlen], by rw [hlen]; exact ho, kept_at HK.out⟩)
    go_wp2_with fail
    go_ret
    exact HE.out
end Go.Proofs.YtnekpgmgnepdoaaGreat
end
section
namespace Go.Proofs.YtnekpgmgnepdoaaGreat
open Go.RowKit
section
variable {ops : Array Oper} {rest : List Oper} {o : Oper} {act : Act} {Q : Exit → Act → World → Prop} {W : World}
theorem wpList_nilZ (t e size bytes : Nat) {zs : List Value} (hinfo : (Tryz.prog.info? e).map (fun i => (i.zero, i.size, i.bytes)) = some (some (.agg zs.toArray), size, bytes)) (ht : Tryz.prog.underlying t = some (.slice e)) (hzs : zs.length = size) (hsz : 0 < size) (hby : bytes ≤ 1000)
  {x y : Operand} {k : Nat} {z : Int} (hgd : o.guard = none) (ho : o.op = .call { callee := .builtin .append, args := #[x, y], argTypes := #[t, 3] })
  (hx : act.eval x = .slice none 0 0) (hy : act.eval y = .int .i64 z) (hz : z = (k : Int)) (hk : 0 < k) (hn : k < 1000000)
  (kk : ∀ h G w', Rw w' e size h (List.replicate G zs) → k ≤ G → G ≤ maxLen → W.heap.size ≤ h → Below W.heap.size W w' → wpList Tryz.prog ops Q rest (act.put o.dst (.slice (some ⟨h, 0, none⟩) k G)) w') : wpList Tryz.prog ops Q (o :: rest) act W := by
 subst hz
 obtain ⟨i0, hi0, hz0, hz1, hz2⟩ := info_parts hinfo
 have h := Lib.run_append_nil_zeros W t 3 o.type e i0 _ .i64 .i64 ht Tryz.underlying3 hi0 hz0 k hk (by rw [hz1]; exact hsz) (by omega) (by rw [hz2]; have : k * bytes ≤ 1000000 * 1000 := Nat.mul_le_mul (by omega) hby; omega)
 have hG1 := grownCap_ge W k 0 e
 have hG2 := grownCap_le_maxLen W k 0 e (by unfold maxLen; omega)
 generalize grownCap W k 0 e = G at h hG1 hG2
 refine Lib.wpList_append_run W hgd x y t 3 ho _ _ hx hy _ _ h ?_
 have hrow : Builtin.zeroCells (Value.agg zs.toArray).cells k ++ Builtin.zeroCells (Value.agg zs.toArray).cells (G - k) = (List.replicate G zs).flatten.toArray := by
  have e1 : (List.replicate (k + (G - k)) zs).flatten = (List.replicate k zs).flatten ++ (List.replicate (G - k) zs).flatten := by
   rw [← List.replicate_append_replicate, List.flatten_append]
  rw [zeroCells_flat zs size hzs hsz, zeroCells_flat zs size hzs hsz, show List.replicate G zs = List.replicate (k + (G - k)) zs by rw [show k + (G - k) = G by omega], e1]
  simp
 rw [hrow]
 exact kk W.heap.size G _ ⟨Blk.new W.drew e _, fun v hv => by rw [List.eq_of_mem_replicate hv]; exact hzs⟩ hG1 hG2 (Nat.le_refl _) ((drew_below W).trans ((below_one W.drew _).mono (Nat.le_refl _)))
end
theorem exec_sliceNil {ev : Operand → Value} {q : Oper} {w : World} {x y : Operand} {z : Int} (ho : q.op = .slice 37 x none (some y) none) (hx : ev x = .slice none 0 0) (hy : ev y = .int .i64 z) (hzi : z = 0) : (execOp ev q).run Tryz.prog w = .ok (.value (.slice none 0 0)) w := by
 subst hzi
 have u := und37
 unfold execOp
 simp only [ho, hx]
 go_simp
def GrowP (w : World) (e : Ending) (w' : World) : Prop := ∃ a cap, e = .returned (.slice a 0 cap) ∧ OwnG w' 96 2 w.heap.size a 0 cap [] ∧ Below w.heap.size w w'
set_option maxRecDepth 100000 in
set_option maxHeartbeats 4000000 in
theorem grow_any (k : Nat) (w : World) (hk : k < 1000000) : Calls Tryz.prog 136 #[.slice none 0 0, .int .i64 (k : Int)] w (GrowP w) := by
 by_cases h0 : k = 0
 ·subst h0
  have HE : Hid (GrowP w (.returned (.slice none 0 0)) w) := Lib.hid ⟨none, 0, rfl, ownG_nil _ _ _ _, Below.refl _ _⟩
  go_enter Tryz.func136, Tryz.ntmps136
  go_wp2_with fail
  go_ret
  exact HE.out
 ·have hp : 0 < k := by omega
  go_enter Tryz.func136, Tryz.ntmps136
  go_wp2_with (first | (refine wpList_run rfl (exec_sliceNil rfl rfl rfl rfl) ?_) | (at_builtin; refine wpList_nilZ 37 96 2 8 (zs := La.zero.cs) info96 und37 rfl (by decide) (by decide) (k := k) rfl rfl rfl rfl (by omega) hp hk ?_; intro g G w1 hr1 hG1 hG2 hg1 hb1) | (refine wpList_run rfl (exec_sliceHi und37 Tryz.sizeOf96 (i := 0) rfl rfl rfl rfl (by omega) rfl) ?_))
  have HE : Hid (GrowP w (.returned (.slice (some ⟨g, 0, none⟩) 0 G)) w1) := Lib.hid ⟨_, _, rfl, by have h := hr1.own hg1 (Nat.zero_le G) (by simp) hG2; simpa using h, hb1⟩
  go_ret
  exact HE.out
theorem und183 : Tryz.prog.underlying 183 = some (.slice 37) := Tryz.underlying183
theorem exec_idx37 {ev : Operand → Value} {q : Oper} {w : World} {x y : Operand} {g i k cap : Nat} {z : Int} (ho : q.op = .indexAddr 183 x y) (hx : ev x = .slice (some ⟨g, 0, none⟩) k cap) (hy : ev y = .int .i64 z) (hz : z = (i : Int)) (hi : i < k) : (execOp ev q).run Tryz.prog w = .ok (.value (.pointer (some ⟨g, i, none⟩))) w := by
 subst hz
 have u := und183
 have z37 : ∀ w, (Go.sizeOf 37).run Tryz.prog w = .ok 1 w := Tryz.sizeOf37
 unfold execOp
 simp only [ho, hx, hy]
 go_simp
set_option maxRecDepth 100000 in
set_option maxHeartbeats 8000000 in
theorem concat_any {g n c m d : Nat} {a b : Option Addr} {l l2 : List La} {w : World} (hg : Blk w g 37 #[.slice a n c, .slice b m d]) (hl : LL w a n l) (hm : LL w b m l2) (hn : n + m < 900000) : Calls Tryz.prog 101 #[.slice (some ⟨g, 0, none⟩) 2 2] w (OwnsP 96 2 (cellsL (l ++ l2)) w) := by
 have HG := Lib.hid hg
 have HL := Lib.hid hl
 have HM := Lib.hid hm
 have c0 : w.cell? ⟨g, 0, none⟩ = some (.slice a n c) := by rw [hg.cell]; rfl
 have c1 : w.cell? ⟨g, 1, none⟩ = some (.slice b m d) := by rw [hg.cell]; rfl
 clear hg hl hm
 go_enter Tryz.func101, Tryz.ntmps101
 go_wp2_with fail
 refine wp_loop_rounds 3 ?_
 rw [rounds_succ]
 go_wp2_with (refine wpList_run rfl (exec_idx37 (i := 0) rfl rfl rfl rfl (by omega)) ?_)
 rw [rounds_succ]
 go_wp2_with (refine wpList_run rfl (exec_idx37 (i := 1) rfl rfl rfl rfl (by omega)) ?_)
 rw [rounds_succ]
 go_wp2_with fail
 have hcg := grow_any (n + m) w (by omega)
 simp only [Int.natCast_add] at hcg
 refine hcg.mono ?_
 rintro e w1 ⟨a1, cap1, rfl, ho1, hb1⟩
 have HO1 := Lib.hid ho1
 have HB1 := Lib.hid hb1
 have d0 : w1.cell? ⟨g, 0, none⟩ = some (.slice a n c) := by rw [(HG.out.below hb1).cell]; rfl
 have HG1 := Lib.hid (HG.out.below hb1)
 have HNG : Hid (∀ ad, a1 = some ad → g ≠ ad.block) := Lib.hid (fun ad e h => by have h1 := (ho1.lt ad e).1; have h2 := HG.out.lt; omega)
 have HNA : Hid (g < w.heap.size) := Lib.hid HG.out.lt
 have HM1 := Lib.hid (HM.out.below hb1)
 clear hcg ho1 hb1 c0 c1
 go_wp2_with fail
 refine wp_loop_rounds 3 ?_
 rw [rounds_succ]
 go_wp2_with (first | (refine wpList_run rfl (exec_idx37 (i := 0) rfl rfl rfl rfl (by omega)) ?_) | (at_builtin; refine wpList_appendR (B := w.heap.size) 37 96 2 8 info96 und37 rfl (by decide) (by decide) rfl rfl rfl rfl HO1.out (HL.out.below HB1.out) (cellsL_each l) (cellsL_one l) (by omega) HB1.out.size ?_; intro a2 cap2 w2 ho2 hk2 hl2))
 rw [Nat.zero_add, List.nil_append] at ho2
 have HO2 := Lib.hid ho2
 have hat1 : ∀ k, At a1 k → w.heap.size ≤ k := fun k ⟨ad, had, e⟩ => by rw [e]; exact (HO1.out.lt ad had).1
 have hb2 : Below w.heap.size w w2 := HB1.out.trans (hk2.below HB1.out.size hat1)
 have HB2 := Lib.hid hb2
 have e1 : w2.cell? ⟨g, 1, none⟩ = some (.slice b m d) := by rw [(HG.out.below hb2).cell]; rfl
 clear ho2 hk2 hl2 hat1 hb2 d0
 rw [rounds_succ]
 go_wp2_with (first | (refine wpList_run rfl (exec_idx37 (i := 1) rfl rfl rfl rfl (by omega)) ?_) | (at_builtin; refine wpList_appendR (B := w.heap.size) 37 96 2 8 info96 und37 rfl (by decide) (by decide) rfl rfl rfl rfl HO2.out (HM.out.below HB2.out) (cellsL_each l2) (cellsL_one l2) (by omega) HB2.out.size ?_; intro a3 cap3 w3 ho3 hk3 hl3))
 have hat2 : ∀ k, At a2 k → w.heap.size ≤ k := fun k ⟨ad, had, e⟩ => by rw [e]; exact (HO2.out.lt ad had).1
 have hb3 : Below w.heap.size w w3 := HB2.out.trans (hk3.below HB2.out.size hat2)
 have HE : Hid (OwnsP 96 2 (cellsL (l ++ l2)) w (.returned (.slice a3 (n + m) cap3)) w3) := Lib.hid (by
  have e2 : cellsL l ++ cellsL l2 = cellsL (l ++ l2) := by unfold cellsL; rw [List.map_append]
  rw [e2] at ho3
  have e3 := ho3.len
  exact ⟨a3, cap3, by rw [e3], by rw [e3]; exact ho3, hb3⟩)
 clear ho3 hk3 hl3 hat2 hb3 e1
 rw [rounds_succ]
 go_wp2_with fail
 go_ret
 exact HE.out
end Go.Proofs.YtnekpgmgnepdoaaGreat
end
