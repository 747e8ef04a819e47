import Derived.Test.YtnekpgmgnepdoaaGreatXab
import Derived.Test.YtnekpgmgnepdoaaGreatXah
import Derived.Test.YtnekpgmgnepdoaaGreatXak
namespace Go.Proofs.YtnekpgmgnepdoaaGreat
open Go.RowKit Go.Maps
def MeP (a b : Sta) (w : World) (e : Ending) (w' : World) : Prop :=
 (Clash a b ∧ e = .returned (.tuple #[.slice none 0 0, .int .i64 5]) ∧ Below w.heap.size w w') ∨
 (¬ Clash a b ∧ ∃ ad n c es, e = .returned (.tuple #[.slice ad n c, .int .i64 0]) ∧ OwnG w' 72 7 w.heap.size ad n c (cellsE es) ∧ es.Pairwise En.Ahead ∧ (∀ x, x ∈ es ↔ x ∈ bothE a b) ∧ Below w.heap.size w w')
def noClash (b : Sta) (l : List En) : Prop := ∀ x ∈ l, ∀ y ∈ b.es, x.r = y.r → x.s = y.s → x = y
theorem one_sym : ∀ x y : En, ¬ (x.r = y.r ∧ x.s = y.s) → ¬ (y.r = x.r ∧ y.s = x.s) := fun _ _ h k => h ⟨k.1.symm, k.2.symm⟩
theorem one_eq {x y : En} : ∀ {l : List En}, (l.Pairwise fun a b => ¬ (a.r = b.r ∧ a.s = b.s)) → x ∈ l → y ∈ l → x.r = y.r → x.s = y.s → x = y
 | [], _, h, _, _, _ => by simp at h
 | z :: l, hp, hx, hy, e1, e2 => by
  obtain ⟨h1, h2⟩ := List.pairwise_cons.1 hp
  rcases List.mem_cons.1 hx with hx1 | hx1 <;> rcases List.mem_cons.1 hy with hy1 | hy1
  ·rw [hx1, hy1]
  ·subst hx1; exact absurd ⟨e1, e2⟩ (h1 y hy1)
  ·subst hy1; exact absurd ⟨e1.symm, e2.symm⟩ (h1 x hx1)
  ·exact one_eq h2 hx1 hy1 e1 e2
theorem both_one {a b : Sta} (ha : a.Right) (hb : b.Right) : (bothE a b).Pairwise fun x y => ¬ (x.r = y.r ∧ x.s = y.s) := by
 unfold bothE
 rw [List.pairwise_append]
 refine ⟨ha.one.filter _, hb.one.filter _, fun x hx y hy ⟨e1, e2⟩ => ?_⟩
 have h1 := (ha.has x (List.mem_filter.1 hx).1).2.1
 have h2 := (List.mem_filter.1 hy).2
 unfold keepB at h2
 rw [← e1, ← e2, h1] at h2
 cases h2
theorem sorted_ahead {l m : List En} (hp : m.Perm l) (h1 : l.Pairwise fun x y => ¬ (x.r = y.r ∧ x.s = y.s)) (hs : m.Pairwise fun x y => ¬ En.ord y x < 0) : m.Pairwise En.Ahead := by
 have h2 : m.Pairwise fun x y => ¬ (x.r = y.r ∧ x.s = y.s) := (hp.pairwise_iff (fun {x y} h => one_sym x y h)).2 h1
 refine (hs.and h2).imp fun {x y} h => ?_
 rw [En.ord_neg] at h
 rcases En.tri x y with k | k | k
 ·exact k
 ·exact absurd ⟨k.2.1, k.2.2⟩ h.2
 ·exact absurd k h.1
theorem take_filter {p : En → Bool} {l : List En} {k : Nat} {x : En} (hx : l[k]? = some x) : (l.take (k + 1)).filter p = (l.take k).filter p ++ (if p x = true then [x] else []) := by
 rw [List.take_add_one, hx, List.filter_append]
 simp only [Option.toList_some, List.filter_cons, List.filter_nil]
theorem has_last {l : List En} {x : En} : hasE l x = (lastE l x.r x.s).isSome := by
 cases h : lastE l x.r x.s with
 | none =>
  have := last_none h
  unfold hasE
  rw [Bool.eq_iff_iff]
  simp only [List.any_eq_true, decide_eq_true_eq, Option.isSome_none, Bool.false_eq_true, iff_false]
  rintro ⟨y, hy, e⟩
  exact this y hy e
 | some y =>
  obtain ⟨h1, h2, h3⟩ := last_some h
  unfold hasE
  rw [Option.isSome_some, List.any_eq_true]
  exact ⟨y, h1, by simp [h2, h3]⟩
theorem cellsE_app (l m : List En) : cellsE (l ++ m) = cellsE l ++ cellsE m := by unfold cellsE; exact List.map_append
structure Mt (W : World) (a b : Sta) (p0 p1 : Nat) (xa xb ya yb : Value) (m c : Nat) (f : Lit → Option Value) : Prop where
 sa : Blk W p0 39 (stA a.v xa ya)
 sb : Blk W p1 39 (stA b.v xb yb)
 mp : DotM W m b.es c f
theorem Mt.below {W W' : World} {a b : Sta} {p0 p1 m c : Nat} {xa xb ya yb : Value} {f : Lit → Option Value} (h : Mt W a b p0 p1 xa xb ya yb m c f) (hb : Below W.heap.size W W') : Mt W' a b p0 p1 xa xb ya yb m c f := ⟨h.sa.below hb, h.sb.below hb, h.mp.below hb⟩
theorem Mt.kept {S : Nat → Prop} {W W' : World} {a b : Sta} {p0 p1 m c : Nat} {xa xb ya yb : Value} {f : Lit → Option Value} (h : Mt W a b p0 p1 xa xb ya yb m c f) (k : Kept S W W') (h0 : ¬ S p0) (h1 : ¬ S p1) (h2 : ¬ S m) : Mt W' a b p0 p1 xa xb ya yb m c f := ⟨h.sa.kept k h0, h.sb.kept k h1, h.mp.kept k h2⟩
def MaR (w : World) (a b : Sta) (n B p0 p1 : Nat) (xa xb ya yb : Value) (m c : Nat) (f : Lit → Option Value) (u v : Value) (W : World) : Prop :=
 ∃ (k : Nat) (ad : Option Addr) (n1 c1 : Nat), u = .int .i64 (k : Int) ∧ v = .slice ad n1 c1 ∧ k ≤ n ∧ n1 ≤ k ∧ Hid (noClash b (a.es.take k)) ∧ Hid (OwnG W 72 7 B ad n1 c1 (cellsE ((a.es.take k).filter (keepA b)))) ∧ Hid (Mt W a b p0 p1 xa xb ya yb m c f) ∧ Hid (B ≤ W.heap.size) ∧ Hid (Below w.heap.size w W)
def MbR (w : World) (a b : Sta) (n n2 B p0 p1 : Nat) (xa xb ya yb : Value) (m c : Nat) (f : Lit → Option Value) (u v : Value) (W : World) : Prop :=
 ∃ (k : Nat) (ad : Option Addr) (n1 c1 : Nat), u = .int .i64 (k : Int) ∧ v = .slice ad n1 c1 ∧ k ≤ n2 ∧ n1 ≤ n + k ∧ Hid (OwnG W 72 7 B ad n1 c1 (cellsE (a.es.filter (keepA b) ++ (b.es.take k).filter (keepB a)))) ∧ Hid (Mt W a b p0 p1 xa xb ya yb m c f) ∧ Hid (B ≤ W.heap.size) ∧ Hid (Below w.heap.size w W)
theorem lies_at {w W W' : World} {B : Nat} {e size n cap : Nat} {vs : List (List Value)} {a : Option Addr} (hb : Below w.heap.size w W) (h : OwnG W e size B a n cap vs) (hB : w.heap.size ≤ B) (k : Kept (At a) W W') : Below w.heap.size w W' :=
 hb.trans (k.below hb.size (fun j ⟨ad, had, e⟩ => by rw [e]; exact Nat.le_trans hB (h.lt ad had).1))
theorem mt_app {w w3 w4 : World} {B p0 p1 m c n1 c1 : Nat} {ad : Option Addr} {vs : List (List Value)} {o : Obj} {a b : Sta} {xa xb ya yb : Value} {f : Lit → Option Value} (HO : OwnG w3 72 7 B ad n1 c1 vs) (hk : Kept (At ad) (w3.alloc o) w4) (HM : Mt w3 a b p0 p1 xa xb ya yb m c f) (h : p0 < B ∧ p1 < B ∧ m < B) (hb : Below w.heap.size w w3) (hB : w.heap.size ≤ B) (hW : B ≤ w3.heap.size) : Mt w4 a b p0 p1 xa xb ya yb m c f ∧ B ≤ w4.heap.size ∧ Below w.heap.size w w4 := by
 have hat : ∀ k, At ad k → B ≤ k := fun k ⟨ad0, had, e⟩ => by rw [e]; exact (HO.lt ad0 had).1
 refine ⟨(HM.below (below_one w3 o)).kept hk (fun e => by have := hat _ e; omega) (fun e => by have := hat _ e; omega) (fun e => by have := hat _ e; omega), ?_, ?_⟩
 ·have := hk.size
  rw [World.size_alloc] at this
  omega
 ·have h1 := hb.trans ((below_one w3 o).mono hb.size)
  exact h1.trans (hk.below h1.size (fun j e => Nat.le_trans hB (hat j e)))
set_option maxRecDepth 100000 in
set_option maxHeartbeats 16000000 in
theorem mergeEntries_any {s t : Sta} {a b a2 b2 : Option Addr} {n c m d n2 c2 m2 d2 : Nat} {w : World} (hs : SL w s a n b m) (ht : SL w t a2 n2 b2 m2) (hn : n < 100000) (hn2 : n2 < 100000) (hsR : s.Right) (htR : t.Right) : Calls Tryz.prog 56 #[.agg (sv s.v a n c b m d), .agg (sv t.v a2 n2 c2 b2 m2 d2)] w (MeP s t w) := by
 have HS := Lib.hid hs
 have HT := Lib.hid ht
 have HSL := Lib.hid hs.es.len'
 have HTL := Lib.hid ht.es.len'
 have HSR := Lib.hid hsR
 have HTR := Lib.hid htR
 obtain ⟨zo, ho⟩ : ∃ z, En.zero = z := ⟨_, rfl⟩
 have HO := Lib.hid ho
 have hb1 := fun (v : V) x y w => box39 v x y w
 have H1 := Lib.hid (Blk.new w 39 (sv s.v a n c b m d))
 have H2 := Lib.hid (Blk.new (w.alloc (.cells (sv s.v a n c b m d) 39)) 39 (sv t.v a2 n2 c2 b2 m2 d2))
 have HB2 := Lib.hid (below_one (w.alloc (.cells (sv s.v a n c b m d) 39)) (.cells (sv t.v a2 n2 c2 b2 m2 d2) 39))
 have H1b := Lib.hid (H1.out.below HB2.out)
 have HB0 : Hid (Below w.heap.size w ((w.alloc (.cells (sv s.v a n c b m d) 39)).alloc (.cells (sv t.v a2 n2 c2 b2 m2 d2) 39))) := Lib.hid ((below_one w _).trans (HB2.out.mono (by simp)))
 have HLT : Hid (w.heap.size < (w.alloc (.cells (sv s.v a n c b m d) 39)).heap.size) := Lib.hid (by simp)
 clear hs ht ho hsR htR H1 HB2
 go_enter Tryz.func56, Tryz.ntmps56
 go_upto_region 1 with fail
 clear hb1
 simp only [World.size_alloc] at H2 HLT
 generalize (w.alloc (.cells (sv s.v a n c b m d) 39)).alloc (.cells (sv t.v a2 n2 c2 b2 m2 d2) 39) = w0 at H2 H1b HB0
 obtain ⟨p0, hp0⟩ : ∃ p, w.heap.size = p := ⟨_, rfl⟩
 have HP0 := Lib.hid hp0
 rw [hp0] at H1b H2 ⊢
 obtain ⟨p1, hp1⟩ : ∃ p, p0 + 1 = p := ⟨_, rfl⟩
 have HP1 := Lib.hid hp1
 rw [hp1] at H2 ⊢
 clear hp0 hp1 HLT
 have cE := stc16 H2.out
 go_wp2_with fail
 clear cE
 refine (byDot_any (cap := c2) (HT.out.es.below HB0.out) (by omega)).mono ?_
 rintro e w1 ⟨mm, cc, f, rfl, hdm, hmm, hb⟩
 have HM : Hid (Mt w1 s t p0 p1 (.slice a n c) (.slice a2 n2 c2) (.slice b m d) (.slice b2 m2 d2) mm cc f) := Lib.hid ⟨H1b.out.below hb, H2.out.below hb, hdm⟩
 have HB1 : Hid (Below w.heap.size w w1) := Lib.hid (HB0.out.trans (hb.mono HB0.out.size))
 have HMM : Hid (p0 < w1.heap.size ∧ p1 < w1.heap.size ∧ mm < w1.heap.size) := Lib.hid ⟨HM.out.sa.lt, HM.out.sb.lt, hdm.mp.lt⟩
 clear hdm hmm hb H1b H2 HB0
 have cA := stc16 HM.out.sa
 go_wp2_with fail
 clear cA
 obtain ⟨B, hB⟩ : ∃ B, w1.heap.size = B := ⟨_, rfl⟩
 have HBB := Lib.hid hB
 rw [hB] at HMM
 have HWB : Hid (w.heap.size ≤ B) := Lib.hid (by rw [← hB]; exact HB1.out.size)
 clear hB
 go_loopw [20, 7] (MaR w s t n B p0 p1 (.slice a n c) (.slice a2 n2 c2) (.slice b m d) (.slice b2 m2 d2) mm cc f) (fun u _ _ => n - (numI u).toNat)
 case atStart => exact ⟨0, none, 0, 0, rfl, rfl, Nat.zero_le _, Nat.zero_le _, Lib.hid (by intro x hx; simp at hx), Lib.hid (ownG_nil _ _ _ _), HM, Lib.hid (Nat.le_of_eq HBB.out.symm), HB1⟩
 case round =>
  obtain ⟨k, ad, n1, c1, rfl, rfl, hk, hn1, HNC, HOW, HMT, HBW, HB⟩ := hrel
  clear HM HB1 HBB
  by_cases hlt : k < n
  ·obtain ⟨bb, off, x, rfl, hx, hr⟩ := EL.at (HS.out.es.below HB.out) hlt
   have HX := Lib.hid hx
   have HR := Lib.hid hr
   clear hx hr
   go_wp2_with (first | (refine wpList_run rfl (exec_idx72 (i := k) rfl rfl rfl rfl hlt) ?_) | (refine wpList_run rfl (exec_ld72 (p := x) rfl rfl HR.out) ?_) | (refine wpList_run rfl (exec_alloc72z HO.out rfl) ?_) | (refine wpList_stop72 rfl ?_))
   refine ⟨?_⟩
   refine wpList_void rfl rfl (exec_store72 (p := zo) (u := x) rfl rfl rfl (Blk.new wr 72 zo.arr)) ?_
   have Hx1 := Lib.hid (bo_laid wr 72 zo.arr x.arr)
   generalize (wr.alloc (.cells zo.arr 72)).setRow wr.heap.size x.arr = w2 at Hx1
   have HM2 := Lib.hid (HMT.out.below Hx1.out.old)
   have HO2 := Lib.hid (HOW.out.below Hx1.out.old)
   have HB2 : Hid (Below w.heap.size w w2) := Lib.hid (HB.out.trans (Hx1.out.old.mono HB.out.size))
   have HW2 : Hid (B ≤ w2.heap.size) := Lib.hid (Nat.le_trans HBW.out Hx1.out.old.size)
   obtain ⟨q9, hq9⟩ : ∃ q, wr.heap.size = q := ⟨_, rfl⟩
   have HQ9 : Hid (Blk w2 q9 72 x.arr) := Lib.hid (by rw [← hq9]; exact Hx1.out.one)
   have HQB : Hid (B ≤ q9) := Lib.hid (by rw [← hq9]; exact HBW.out)
   have HAQ : Hid (∀ ad0, ad = some ad0 → ad0.block < q9) := Lib.hid (fun ad0 e => by rw [← hq9]; exact (HOW.out.lt ad0 e).2)
   rw [hq9]
   clear hq9 Hx1 HMT HOW HB HBW
   obtain ⟨ot, hot⟩ : ∃ ot, (lastE t.es x.r x.s).getD zo = ot := ⟨_, rfl⟩
   obtain ⟨fd, hfd⟩ : ∃ fd, (lastE t.es x.r x.s).isSome = fd := ⟨_, rfl⟩
   have HOT := Lib.hid hot
   have HFD := Lib.hid hfd
   clear hot hfd
   go_wp2_with (first | (refine wpList_run rfl (exec_edot (e := x) rfl rfl HQ9.out) ?_) | (refine wpList_run rfl (exec_lookD (e := ot) (b := fd) HO.out rfl rfl rfl HM2.out.mp x.hr x.hs HOT.out HFD.out) ?_) | (refine wpList_run rfl (exec_alloc72z HO.out rfl) ?_) | (refine wpList_stop72 rfl ?_))
   refine ⟨?_⟩
   refine wpList_void rfl rfl (exec_store72 (p := zo) (u := ot) rfl rfl rfl (Blk.new w2 72 zo.arr)) ?_
   have Hx1 := Lib.hid (bo_laid w2 72 zo.arr ot.arr)
   generalize (w2.alloc (.cells zo.arr 72)).setRow w2.heap.size ot.arr = w3 at Hx1
   have HM3 := Lib.hid (HM2.out.below Hx1.out.old)
   have HO3 := Lib.hid (HO2.out.below Hx1.out.old)
   have HB3 : Hid (Below w.heap.size w w3) := Lib.hid (HB2.out.trans (Hx1.out.old.mono HB2.out.size))
   have HW3 : Hid (B ≤ w3.heap.size) := Lib.hid (Nat.le_trans HW2.out Hx1.out.old.size)
   have HQ3 := Lib.hid (HQ9.out.below Hx1.out.old)
   have HQ10 := Lib.hid Hx1.out.one
   generalize w2.heap.size = q10 at HQ10
   clear Hx1 HM2 HO2 HB2 HW2 HQ9
   have HKL : Hid (keepA t x = (fd || !V.hasB t.v x.r x.s)) := Lib.hid (by unfold keepA; rw [has_last, HFD.out])
   have HTF := Lib.hid (take_filter (p := keepA t) HX.out)
   cases fd
   case true =>
    obtain ⟨y, hy⟩ := Option.isSome_iff_exists.1 HFD.out
    have hoy : ot = y := by rw [← HOT.out, hy]; rfl
    subst hoy
    have HY := Lib.hid (last_some hy)
    clear hy
    by_cases hxy : ot = x
    ·have hq : (!decide (ot = x)) = false := by simp [hxy]
     have HNC2 : Hid (noClash t (s.es.take (k + 1))) := Lib.hid (by
      intro x' hx' y' hy' e1 e2
      rw [List.take_add_one, HX.out] at hx'
      rcases List.mem_append.1 hx' with h | h
      ·exact HNC.out x' h y' hy' e1 e2
      ·obtain rfl : x' = x := by simpa using h
       subst hxy
       exact one_eq HTR.out.one HY.out.1 hy' e1 e2)
     clear hxy
     simp only [Bool.true_or] at HKL
     go_wp2_with (first | (refine wpList_runW (exec_load72 (p := ot) rfl rfl HQ10.out) (by kernel_rfl) ?_) | (refine wpList_runW (exec_load72 (p := x) rfl rfl HQ3.out) (by kernel_rfl) ?_) | (refine wpList_runW (exec_neq72 rfl rfl rfl hq) (by kernel_rfl) ?_) | (refine wpList_run rfl (exec_bs72 (p := x) rfl rfl) ?_) | (at_builtin; refine wpList_appendG 36 72 7 24 info72 und36 rfl (by decide) (by decide) rfl rfl rfl rfl (HO3.out.below (below_one w3 _)) (Blk.new w3 72 x.arr) x.arr_size (by simpa using x.one_cs) (by omega) (by have := HW3.out; simp; omega) ?_; intro a3 cap3 w4 ho3 hk3 hl3))
     obtain ⟨hm4, hw4, hb4⟩ := mt_app HO3.out hk3 HM3.out HMM.out HB3.out HWB.out HW3.out
     have HM4 := Lib.hid hm4
     have HW4 := Lib.hid hw4
     have HB4 := Lib.hid hb4
     have HO4 : Hid (OwnG w4 72 7 B a3 (n1 + 1) cap3 (cellsE ((s.es.take (k + 1)).filter (keepA t)))) := Lib.hid (by rw [HTF.out, HKL.out]; rw [cellsE_app]; exact ho3)
     clear ho3 hk3 hl3 hm4 hw4 hb4
     go_roundw
     case rel => exact ⟨k + 1, a3, n1 + 1, cap3, by go_num, rfl, hlt, by omega, HNC2, HO4, HM4, HW4, HB4⟩
     case measure => simp [numI]; omega
    ·have hq : (!decide (ot = x)) = true := by simp [hxy]
     have HCL : Hid (Clash s t) := Lib.hid ⟨x, List.mem_of_getElem? HX.out, ot, HY.out.1, HY.out.2.1.symm, HY.out.2.2.symm, fun e => hxy e.symm⟩
     clear hxy
     have HEND : Hid (MeP s t w (.returned (.tuple #[.slice none 0 0, .int .i64 5])) w3) := Lib.hid (.inl ⟨HCL.out, rfl, HB3.out⟩)
     go_wp2_with (first | (refine wpList_runW (exec_load72 (p := ot) rfl rfl HQ10.out) (by kernel_rfl) ?_) | (refine wpList_runW (exec_load72 (p := x) rfl rfl HQ3.out) (by kernel_rfl) ?_) | (refine wpList_runW (exec_neq72 rfl rfl rfl hq) (by kernel_rfl) ?_))
     go_ret2
     exact HEND.out
   case false =>
    have HNC2 : Hid (noClash t (s.es.take (k + 1))) := Lib.hid (by
     intro x' hx' y' hy' e1 e2
     rw [List.take_add_one, HX.out] at hx'
     rcases List.mem_append.1 hx' with h | h
     ·exact HNC.out x' h y' hy' e1 e2
     ·obtain rfl : x' = x := by simpa using h
      exact absurd ⟨e1.symm, e2.symm⟩ (last_none (Option.isSome_eq_false_iff.1 HFD.out |> Option.isNone_iff_eq_none.1) y' hy'))
    have HHAS := Lib.hid (fun w => has_any t.v x.r x.s w x.hr x.hs)
    generalize V.hasB t.v x.r x.s = hh at HHAS HKL
    simp only [Bool.false_or] at HKL
    go_wp2_with (first | (refine wpList_runW (exec_stV (v := t.v) rfl rfl HM3.out.sb) (by kernel_rfl) ?_) | (refine wpList_runW (exec_edot (e := x) rfl rfl HQ3.out) (by kernel_rfl) ?_))
    refine (HHAS.out _).mono ?_
    rintro e w5 ⟨rfl, hb5⟩
    have HM5 := Lib.hid (HM3.out.below hb5)
    have HO5 := Lib.hid (HO3.out.below hb5)
    have HB5 : Hid (Below w.heap.size w w5) := Lib.hid (HB3.out.trans (hb5.mono HB3.out.size))
    have HW5 : Hid (B ≤ w5.heap.size) := Lib.hid (Nat.le_trans HW3.out hb5.size)
    have HQ5 := Lib.hid (HQ3.out.below hb5)
    clear hb5 HM3 HO3 HB3 HW3 HQ3 HQ10 HHAS
    cases hh
    ·simp only [Bool.not_false] at HKL
     go_wp2_with (first | (refine wpList_run rfl (exec_load72 (p := x) rfl rfl HQ5.out) ?_) | (refine wpList_run rfl (exec_bs72 (p := x) rfl rfl) ?_) | (at_builtin; refine wpList_appendG 36 72 7 24 info72 und36 rfl (by decide) (by decide) rfl rfl rfl rfl (HO5.out.below (below_one w5 _)) (Blk.new w5 72 x.arr) x.arr_size (by simpa using x.one_cs) (by omega) (by have := HW5.out; simp; omega) ?_; intro a3 cap3 w4 ho3 hk3 hl3))
     obtain ⟨hm4, hw4, hb4⟩ := mt_app HO5.out hk3 HM5.out HMM.out HB5.out HWB.out HW5.out
     have HM4 := Lib.hid hm4
     have HW4 := Lib.hid hw4
     have HB4 := Lib.hid hb4
     have HO4 : Hid (OwnG w4 72 7 B a3 (n1 + 1) cap3 (cellsE ((s.es.take (k + 1)).filter (keepA t)))) := Lib.hid (by rw [HTF.out, HKL.out]; rw [cellsE_app]; exact ho3)
     clear ho3 hk3 hl3 hm4 hw4 hb4
     go_roundw
     case rel => exact ⟨k + 1, a3, n1 + 1, cap3, by go_num, rfl, hlt, by omega, HNC2, HO4, HM4, HW4, HB4⟩
     case measure => simp [numI]; omega
    ·simp only [Bool.not_true] at HKL
     have HO6 : Hid (OwnG w5 72 7 B ad n1 c1 (cellsE ((s.es.take (k + 1)).filter (keepA t)))) := Lib.hid (by rw [HTF.out, HKL.out]; simpa using HO5.out)
     go_wp2_with fail
     go_roundw
     case rel => exact ⟨k + 1, ad, n1, c1, by go_num, rfl, hlt, by omega, HNC2, HO6, HM5, HW5, HB5⟩
     case measure => simp [numI]; omega
  ·obtain rfl : k = n := by omega
   have hall : s.es.take k = s.es := List.take_of_length_le (by rw [HSL.out]; exact Nat.le_refl _)
   rw [hall] at HNC HOW
   have HCL : Hid (¬ Clash s t) := Lib.hid (by
    rintro ⟨x, hx, y, hy, e1, e2, e3⟩
    exact e3 (HNC.out x hx y hy e1 e2))
   clear hall HNC
   have cB := stc16 HMT.out.sb
   go_wp2_with fail
   clear cB
   go_loopw [54, 7] (MbR w s t k n2 B p0 p1 (.slice a k c) (.slice a2 n2 c2) (.slice b m d) (.slice b2 m2 d2) mm cc f) (fun u _ _ => n2 - (numI u).toNat)
   case atStart => exact ⟨0, ad, n1, c1, rfl, rfl, Nat.zero_le _, by omega, Lib.hid (by simpa using HOW.out), HMT, HBW, HB⟩
   case round =>
    rename_i wq
    obtain ⟨j, ad, n1, c1, rfl, rfl, hj, hn1, HOW, HMT, HBW, HB⟩ := hrel
    by_cases hlt : j < n2
    ·obtain ⟨bb, off, x, rfl, hx, hr⟩ := EL.at (HT.out.es.below HB.out) hlt
     have HX := Lib.hid hx
     have HR := Lib.hid hr
     clear hx hr
     go_wp2_with (first | (refine wpList_run rfl (exec_idx72 (i := j) rfl rfl rfl rfl hlt) ?_) | (refine wpList_run rfl (exec_ld72 (p := x) rfl rfl HR.out) ?_) | (refine wpList_run rfl (exec_alloc72z HO.out rfl) ?_) | (refine wpList_stop72 rfl ?_))
     refine ⟨?_⟩
     refine wpList_void rfl rfl (exec_store72 (p := zo) (u := x) rfl rfl rfl (Blk.new wr 72 zo.arr)) ?_
     have Hx1 := Lib.hid (bo_laid wr 72 zo.arr x.arr)
     generalize (wr.alloc (.cells zo.arr 72)).setRow wr.heap.size x.arr = w2 at Hx1
     have HM2 := Lib.hid (HMT.out.below Hx1.out.old)
     have HO2 := Lib.hid (HOW.out.below Hx1.out.old)
     have HB2 : Hid (Below w.heap.size w w2) := Lib.hid (HB.out.trans (Hx1.out.old.mono HB.out.size))
     have HW2 : Hid (B ≤ w2.heap.size) := Lib.hid (Nat.le_trans HBW.out Hx1.out.old.size)
     have HQ2 := Lib.hid Hx1.out.one
     generalize wr.heap.size = q13 at HQ2
     clear Hx1 HMT HOW HB HBW
     have HTF := Lib.hid (take_filter (p := keepB s) HX.out)
     have HKL : Hid (keepB s x = !V.hasB s.v x.r x.s) := Lib.hid rfl
     have HHAS := Lib.hid (fun w => has_any s.v x.r x.s w x.hr x.hs)
     generalize V.hasB s.v x.r x.s = hh at HHAS HKL
     go_wp2_with (first | (refine wpList_run rfl (exec_stV (v := s.v) rfl rfl HM2.out.sa) ?_) | (refine wpList_run rfl (exec_edot (e := x) rfl rfl HQ2.out) ?_))
     refine (HHAS.out _).mono ?_
     rintro e w5 ⟨rfl, hb5⟩
     have HM5 := Lib.hid (HM2.out.below hb5)
     have HO5 := Lib.hid (HO2.out.below hb5)
     have HB5 : Hid (Below w.heap.size w w5) := Lib.hid (HB2.out.trans (hb5.mono HB2.out.size))
     have HW5 : Hid (B ≤ w5.heap.size) := Lib.hid (Nat.le_trans HW2.out hb5.size)
     have HQ5 := Lib.hid (HQ2.out.below hb5)
     clear hb5 HM2 HO2 HB2 HW2 HQ2 HHAS
     cases hh
     ·simp only [Bool.not_false] at HKL
      go_wp2_with (first | (refine wpList_run rfl (exec_load72 (p := x) rfl rfl HQ5.out) ?_) | (refine wpList_run rfl (exec_bs72 (p := x) rfl rfl) ?_) | (at_builtin; refine wpList_appendG 36 72 7 24 info72 und36 rfl (by decide) (by decide) rfl rfl rfl rfl (HO5.out.below (below_one w5 _)) (Blk.new w5 72 x.arr) x.arr_size (by simpa using x.one_cs) (by omega) (by have := HW5.out; simp; omega) ?_; intro a3 cap3 w4 ho3 hk3 hl3))
      obtain ⟨hm4, hw4, hb4⟩ := mt_app HO5.out hk3 HM5.out HMM.out HB5.out HWB.out HW5.out
      have HM4 := Lib.hid hm4
      have HW4 := Lib.hid hw4
      have HB4 := Lib.hid hb4
      have HO4 : Hid (OwnG w4 72 7 B a3 (n1 + 1) cap3 (cellsE (s.es.filter (keepA t) ++ (t.es.take (j + 1)).filter (keepB s)))) := Lib.hid (by rw [HTF.out, HKL.out, ← List.append_assoc, cellsE_app]; exact ho3)
      clear ho3 hk3 hl3 hm4 hw4 hb4
      go_roundw
      case rel => exact ⟨j + 1, a3, n1 + 1, cap3, by go_num, rfl, hlt, by omega, HO4, HM4, HW4, HB4⟩
      case measure => simp [numI]; omega
     ·simp only [Bool.not_true] at HKL
      have HO6 : Hid (OwnG w5 72 7 B ad n1 c1 (cellsE (s.es.filter (keepA t) ++ (t.es.take (j + 1)).filter (keepB s)))) := Lib.hid (by rw [HTF.out, HKL.out]; simpa using HO5.out)
      go_wp2_with fail
      go_roundw
      case rel => exact ⟨j + 1, ad, n1, c1, by go_num, rfl, hlt, by omega, HO6, HM5, HW5, HB5⟩
      case measure => simp [numI]; omega
    ·obtain rfl : j = n2 := by omega
     have hall : t.es.take j = t.es := List.take_of_length_le (by rw [HTL.out]; exact Nat.le_refl _)
     rw [hall] at HOW
     clear hall
     have HSO := Lib.hid (sortE_any (l := bothE s t) HOW.out (by omega))
     go_wp2_with fail
     refine HSO.out.mono ?_
     rintro e w6 ⟨rfl, es, hp, hso, ho6, hk6⟩
     have HEND : Hid (MeP s t w (.returned (.tuple #[.slice ad n1 c1, .int .i64 0])) w6) := Lib.hid (.inr ⟨HCL.out, ad, n1, c1, es, rfl, ho6.mono HWB.out, sorted_ahead hp (both_one HSR.out HTR.out) hso, fun x => hp.mem_iff, lies_at HB.out HOW.out HWB.out hk6⟩)
     clear hp hso ho6 hk6 HSO
     go_wp2_with fail
     go_ret2
     exact HEND.out
end Go.Proofs.YtnekpgmgnepdoaaGreat
