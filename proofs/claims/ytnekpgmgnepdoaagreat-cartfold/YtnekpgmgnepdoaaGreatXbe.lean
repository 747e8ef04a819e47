import Derived.Test.YtnekpgmgnepdoaaGreatXbd
section
namespace Go.Proofs.YtnekpgmgnepdoaaGreat.F
open Go.Proofs.YtnekpgmgnepdoaaGreat Go.Proofs.YtnekpgmgnepdoaaGreat.Fold
open Go.RowKit
theorem op2 {w : World} {b off : Nat} {p : O} (h : w.rangeAt b off p.cs) : w.cell? ⟨b, off + 2, none⟩ = some (.int .u8 (p.k : Int)) := h 2 _ rfl
theorem op4 {w : World} {b off : Nat} {p : O} (h : w.rangeAt b off p.cs) : w.cell? ⟨b, off + 4, none⟩ = some (.int .u16 (p.i : Int)) := h 4 _ rfl
def OfL (l : List O) (c : Nat) (o : O) : Prop := o.c = c ∧ o.k ≠ 4 ∧ liveB l o = true
def NxI (l : List O) (c : Nat) (last : Int) (k : Nat) (z : Int) : Prop := (z = -1 ∧ ∀ o ∈ l.take k, OfL l c o → (o.i : Int) ≤ last) ∨ (last < z ∧ (∃ o ∈ l, OfL l c o ∧ (o.i : Int) = z) ∧ ∀ o ∈ l.take k, OfL l c o → last < (o.i : Int) → z ≤ (o.i : Int))
theorem nxi_skip {l : List O} {c : Nat} {last z : Int} {k : Nat} {x : O} (h : NxI l c last k z) (hx : l[k]? = some x) (hs : OfL l c x → (x.i : Int) ≤ last ∨ (0 ≤ z ∧ z ≤ (x.i : Int))) : NxI l c last (k + 1) z := by
 have hm : ∀ o, o ∈ l.take (k + 1) → o ∈ l.take k ∨ o = x := fun o ho => by
  rw [List.take_add_one, hx] at ho
  simpa using ho
 rcases h with ⟨h1, h2⟩ | ⟨h1, h2, h3⟩
 ·refine .inl ⟨h1, fun o ho hol => ?_⟩
  rcases hm o ho with ho | rfl
  ·exact h2 o ho hol
  ·have := hs hol; omega
 ·refine .inr ⟨h1, h2, fun o ho hol hl => ?_⟩
  rcases hm o ho with ho | rfl
  ·exact h3 o ho hol hl
  ·have := hs hol; omega
theorem nxi_take {l : List O} {c : Nat} {last z : Int} {k : Nat} {x : O} (h : NxI l c last k z) (hx : l[k]? = some x) (hol : OfL l c x) (h1 : last < (x.i : Int)) (h2 : z < 0 ∨ (x.i : Int) < z) : NxI l c last (k + 1) (x.i : Int) := by
 refine .inr ⟨h1, ⟨x, List.mem_of_getElem? hx, hol, rfl⟩, fun o ho ho2 hlo => ?_⟩
 rw [List.take_add_one, hx] at ho
 rcases List.mem_append.1 ho with ho | ho
 ·rcases h with ⟨h3, h4⟩ | ⟨h3, h4, h5⟩
  ·have := h4 o ho ho2; omega
  ·have := h5 o ho ho2 hlo; omega
 ·obtain rfl : o = x := by simpa using ho
  omega
def ItP (l : List O) (c : Nat) (last : Int) (n : Nat) (w : World) (e : Ending) (w' : World) : Prop :=
 ∃ z : Int, e = .returned (.int .i64 z) ∧ NxI l c last n z ∧ -1 ≤ z ∧ z < 65536 ∧ Below w.heap.size w w'
def ItR (w : World) (a : Option Addr) (n : Nat) (l : List O) (c : Nat) (last : Int) (v u : Value) (W : World) : Prop :=
 ∃ (k : Nat) (z : Int), v = .int .i64 z ∧ u = .int .i64 (k : Int) ∧ -1 ≤ z ∧ z < 65536 ∧ k ≤ n ∧ Hid (NxI l c last k z) ∧ Hid (OL W a n l) ∧ Hid (Below w.heap.size w W)
set_option maxRecDepth 100000 in
set_option maxHeartbeats 8000000 in
theorem ritem_any {a : Option Addr} {n cap : Nat} {l : List O} {w : World} (hl : OL w a n l) (hn : n < 1000000) (c : Nat) (last : Int) : Calls Tryz.prog 75 #[.slice a n cap, .int .u16 (c : Int), .int .i64 last] w (ItP l c last n w) := by
 have HL := Lib.hid hl
 have HLEN := Lib.hid (OL.len' hl)
 clear hl
 go_enter Tryz.func75, Tryz.ntmps75
 go_wp2_with fail
 go_loopw [7, 8] (ItR w a n l c last) (fun _ u _ => n - (numI u).toNat)
 case atStart => exact ⟨0, -1, rfl, rfl, by omega, by omega, Nat.zero_le _, Lib.hid (.inl ⟨rfl, fun o h => by simp at h⟩), HL, Lib.hid (Below.refl _ _)⟩
 case round =>
  obtain ⟨k, z, rfl, rfl, hz1, hz2, hk, HN, HLk, HB⟩ := hrel
  have HL0 := HL
  by_cases hlt : k < n
  ·obtain ⟨b, off, x, rfl, hx, hr⟩ := OL.at HLk.out hlt
   have HX := Lib.hid hx
   have c2 := op2 hr
   have c3 := op3 hr
   have c4 := op4 hr
   have hxi := x.hi
   clear hx hr
   by_cases q1 : x.c = c
   ·have g1 : ((x.c : Int) == (c : Int)) = true := by simp; omega
    by_cases q2 : x.k = 4
    ·have g2 : ((x.k : Int) != 4) = false := by simp; omega
     have HN2 := Lib.hid (nxi_skip HN.out HX.out (fun h => absurd q2 h.2.1))
     clear q1 q2
     go_wp2_with (first | (refine wpList_run rfl (exec_idxO (i := k) rfl rfl rfl rfl hlt) ?_) | (refine wpList_runW (exec_idxO (i := k) rfl rfl rfl rfl hlt) (by kernel_rfl) ?_))
     go_roundw
     case rel => exact ⟨k + 1, z, rfl, by go_num, hz1, hz2, hlt, HN2, HLk, HB⟩
     case measure => simp [numI]; omega
    ·have g2 : ((x.k : Int) != 4) = true := by simp; omega
     by_cases q3 : last < (x.i : Int)
     ·by_cases q4 : z < 0
      ·have HC := Lib.hid (And.intro q1 q2)
       clear q1 q2
       go_wp2_with (first | (refine wpList_run rfl (exec_idxO (i := k) rfl rfl rfl rfl hlt) ?_) | (refine wpList_runW (exec_idxO (i := k) rfl rfl rfl rfl hlt) (by kernel_rfl) ?_))
       refine (rlive_any HLk.out hn HX.out).mono ?_
       rintro e w2 ⟨rfl, hb⟩
       have HL2 := Lib.hid (HLk.out.below hb)
       have HB2 : Hid (Below w.heap.size w w2) := Lib.hid (HB.out.trans (hb.mono HB.out.size))
       clear hb
       cases hv : liveB l x
       ·have HN2 := Lib.hid (nxi_skip HN.out HX.out (fun h => by have := h.2.2; rw [hv] at this; cases this))
        clear hv
        go_wp2_with fail
        go_roundw
        case rel => exact ⟨k + 1, z, rfl, by go_num, hz1, hz2, hlt, HN2, HL2, HB2⟩
        case measure => simp [numI]; omega
       ·have HN2 := Lib.hid (nxi_take HN.out HX.out ⟨HC.out.1, HC.out.2, hv⟩ q3 (.inl q4))
        clear hv
        go_wp2_with fail
        go_roundw
        case rel => exact ⟨k + 1, _, rfl, by go_num, by omega, by omega, hlt, HN2, HL2, HB2⟩
        case measure => simp [numI]; omega
      ·by_cases q5 : (x.i : Int) < z
       ·have HC := Lib.hid (And.intro q1 q2)
        clear q1 q2
        go_wp2_with (first | (refine wpList_run rfl (exec_idxO (i := k) rfl rfl rfl rfl hlt) ?_) | (refine wpList_runW (exec_idxO (i := k) rfl rfl rfl rfl hlt) (by kernel_rfl) ?_))
        refine (rlive_any HLk.out hn HX.out).mono ?_
        rintro e w2 ⟨rfl, hb⟩
        have HL2 := Lib.hid (HLk.out.below hb)
        have HB2 : Hid (Below w.heap.size w w2) := Lib.hid (HB.out.trans (hb.mono HB.out.size))
        clear hb
        cases hv : liveB l x
        ·have HN2 := Lib.hid (nxi_skip HN.out HX.out (fun h => by have := h.2.2; rw [hv] at this; cases this))
         clear hv
         go_wp2_with fail
         go_roundw
         case rel => exact ⟨k + 1, z, rfl, by go_num, hz1, hz2, hlt, HN2, HL2, HB2⟩
         case measure => simp [numI]; omega
        ·have HN2 := Lib.hid (nxi_take HN.out HX.out ⟨HC.out.1, HC.out.2, hv⟩ q3 (.inr q5))
         clear hv
         go_wp2_with fail
         go_roundw
         case rel => exact ⟨k + 1, _, rfl, by go_num, by omega, by omega, hlt, HN2, HL2, HB2⟩
         case measure => simp [numI]; omega
       ·have HN2 := Lib.hid (nxi_skip HN.out HX.out (fun _ => .inr ⟨by omega, by omega⟩))
        clear q1 q2
        go_wp2_with (first | (refine wpList_run rfl (exec_idxO (i := k) rfl rfl rfl rfl hlt) ?_) | (refine wpList_runW (exec_idxO (i := k) rfl rfl rfl rfl hlt) (by kernel_rfl) ?_))
        go_roundw
        case rel => exact ⟨k + 1, z, rfl, by go_num, hz1, hz2, hlt, HN2, HLk, HB⟩
        case measure => simp [numI]; omega
     ·have HN2 := Lib.hid (nxi_skip HN.out HX.out (fun _ => .inl (by omega)))
      clear q1 q2
      go_wp2_with (first | (refine wpList_run rfl (exec_idxO (i := k) rfl rfl rfl rfl hlt) ?_) | (refine wpList_runW (exec_idxO (i := k) rfl rfl rfl rfl hlt) (by kernel_rfl) ?_))
      go_roundw
      case rel => exact ⟨k + 1, z, rfl, by go_num, hz1, hz2, hlt, HN2, HLk, HB⟩
      case measure => simp [numI]; omega
   ·have g1 : ((x.c : Int) == (c : Int)) = false := by simp; omega
    have HN2 := Lib.hid (nxi_skip HN.out HX.out (fun h => absurd h.1 q1))
    clear q1
    go_wp2_with (refine wpList_run rfl (exec_idxO (i := k) rfl rfl rfl rfl hlt) ?_)
    go_roundw
    case rel => exact ⟨k + 1, z, rfl, by go_num, hz1, hz2, hlt, HN2, HLk, HB⟩
    case measure => simp [numI]; omega
  ·obtain rfl : k = n := by omega
   have HE : Hid (ItP l c last k w (.returned (.int .i64 z)) wr) := Lib.hid ⟨z, rfl, HN.out, hz1, hz2, HB.out⟩
   go_wp2_with fail
   go_ret
   exact HE.out
end Go.Proofs.YtnekpgmgnepdoaaGreat.F
end
section
namespace Go.Proofs.YtnekpgmgnepdoaaGreat.F
open Go.Proofs.YtnekpgmgnepdoaaGreat
open Go.RowKit
set_option maxRecDepth 100000 in
set_option maxHeartbeats 4000000 in
theorem rlessO_any (a b : O) (w : World) : Calls Tryz.prog 121 #[.agg a.arr, .agg b.arr] w (Says (.bool (O.lessB a b)) w) := by
 have hb1 := fun (o : O) w => box33 o w
 have HT := Lib.hid (ow2_new w a b)
 have HA := Lib.hid (fun w => rcount_any a w)
 have HB := Lib.hid (fun w => rcount_any b w)
 have HL : Hid (O.lessB a b = decide (a.count < b.count ∨ (a.count = b.count ∧ (a.r < b.r ∨ (a.r = b.r ∧ a.s < b.s))))) := Lib.hid rfl
 have la := a.count_lt
 have lb := b.count_lt
 have ra := a.hr
 have rb := b.hr
 have sa := a.hs
 have sb := b.hs
 generalize a.count = x at HA HL la
 generalize b.count = y at HB HL lb
 go_enter Tryz.func121, Tryz.ntmps121
 go_wp2_with fail
 clear hb1
 generalize (w.alloc (.cells a.arr 33)).alloc (.cells b.arr 33) = W at HT
 refine wp_region_held_drew (S := fun w' => Ow2 w w' a b) (by kernel_rfl) HT.out.drew (fun hS => ?_)
 refine held_tk 0 7 (.agg a.arr) rfl rfl (by kernel_rfl) (fun _ _ _ h=>h) (fun _ h=>exec_load33 (p:=a) rfl rfl h.one) hS ?_;simp only [Act.put,ap1,ap2,ap3]
 refine held_tk 2 9 (.agg b.arr) rfl rfl (by kernel_rfl) (fun _ _ _ h=>h) (fun _ h=>exec_load33 (p:=b) rfl rfl h.two) hS ?_;simp only [Act.put,ap1,ap2,ap3]
 refine held_call 1 8 33 #[(.agg a.arr)] (.int .u64 (x : Int)) rfl (by kernel_rfl) rfl (by kernel_rfl) (by kernel_rfl) (HA.out _) (fun _ h hb=>h.below hb) hS (fun w101 hS=>?_)
 simp only [Act.put, ap1, ap2, ap3]
 refine held_call 3 10 33 #[(.agg b.arr)] (.int .u64 (y : Int)) rfl (by kernel_rfl) rfl (by kernel_rfl) (by kernel_rfl) (HB.out _) (fun _ h hb=>h.below hb) hS (fun w103 hS=>?_)
 simp only [Act.put, ap1, ap2, ap3]
 refine held_tk 4 5 (.int .u64 (x : Int)) rfl rfl (by kernel_rfl) (fun _ _ _ h=>h) (fun _ _=>rfl) hS ?_;simp only [Act.put,ap1,ap2,ap3]
 refine held_tk 5 6 (.int .u64 (y : Int)) rfl rfl (by kernel_rfl) (fun _ _ _ h=>h) (fun _ _=>rfl) hS ?_;simp only [Act.put,ap1,ap2,ap3]
 refine wpAnyH_done (by kernel_rfl) ?_ _
 have HT2 := Lib.hid hS
 clear hS
 by_cases hc : x = y
 ·subst hc
  have c0 := oc0 HT2.out.one
  have d0 := oc0 HT2.out.two
  by_cases hr : a.r = b.r
  ·have c1 := oc1 HT2.out.one
   have d1 := oc1 HT2.out.two
   have g1 : ((a.r : Int) != (b.r : Int)) = false := by simp; omega
   go_wp2_with fail
   go_ret
   exact ⟨ret_bool (by rw [HL.out, Bool.eq_iff_iff]; simp; omega), HT2.out.old⟩
  ·have g1 : ((a.r : Int) != (b.r : Int)) = true := by simp; omega
   go_wp2_with fail
   go_ret
   exact ⟨ret_bool (by rw [HL.out, Bool.eq_iff_iff]; simp; omega), HT2.out.old⟩
 ·have g0 : ((x : Int) != (y : Int)) = true := by simp; omega
  go_wp2_with fail
  go_ret
  exact ⟨ret_bool (by rw [HL.out, Bool.eq_iff_iff]; simp; omega), HT2.out.old⟩
end Go.Proofs.YtnekpgmgnepdoaaGreat.F
end
section
namespace Go.Proofs.YtnekpgmgnepdoaaGreat
open Go.RowKit
theorem with_add {A : Ac} {x : En} (h : x.k = 1) : (A.with x).n = (A.n + x.q) % 4294967296 ∧ (A.with x).o = A.o := by
 unfold Ac.with; rw [if_pos h]; exact ⟨rfl, rfl⟩
theorem with_set {A : Ac} {x : En} (h : ¬ x.k = 1) (hl : En.lessB A.o x = true) : (A.with x).n = A.n ∧ (A.with x).o = x := by
 unfold Ac.with; rw [if_neg h, if_pos hl]; exact ⟨rfl, rfl⟩
theorem with_not {A : Ac} {x : En} (h : ¬ x.k = 1) (hl : En.lessB A.o x = false) : A.with x = A := by
 unfold Ac.with; rw [if_neg h, hl]; rfl
theorem less_zero {x : En} (h : 1 ≤ x.n) : En.lessB En.zero x = true := by
 unfold En.lessB; exact decide_eq_true (.inl (by show 0 < x.n; omega))
theorem wrap64_u16 {i : Nat} (h : i < 65536) : wrap64 (i : Int) = (i : Int) := by unfold wrap64; omega
end Go.Proofs.YtnekpgmgnepdoaaGreat
end
section
namespace Go.Proofs.YtnekpgmgnepdoaaGreat.F
open Go.Proofs.YtnekpgmgnepdoaaGreat Go.Proofs.YtnekpgmgnepdoaaGreat.Fold
open Go.RowKit
theorem op5 {w : World} {b off : Nat} {p : O} (h : w.rangeAt b off p.cs) : w.cell? ⟨b, off + 5, none⟩ = some (.int .u16 (p.q : Int)) := h 5 _ rfl
theorem adds_snoc (b : O → Bool) (x : O) : ∀ m : List O, addsOf b (m ++ [x]) = addsOf b m + (if x.k = 1 ∧ b x = true then x.q else 0)
 | [] => by simp [addsOf]
 | o :: m => by simp only [List.cons_append, addsOf, adds_snoc b x m]; omega
theorem best_snoc (b : O → Bool) (x : O) : ∀ (m : List O) (y : Option O), bestOf b y (m ++ [x]) = pick b (bestOf b y m) x
 | [], y => rfl
 | o :: m, y => by simp only [List.cons_append, bestOf]; exact best_snoc b x m _
structure Qi (l : List O) (b : O → Bool) (k m : Nat) (z : Int) : Prop where
 sum : m = addsOf b (l.take k) % 4294967296
 best : (z = -1 ∧ bestOf b none (l.take k) = none) ∨ ∃ (j : Nat) (y : O), z = (j : Int) ∧ l[j]? = some y ∧ bestOf b none (l.take k) = some y
section
variable {l : List O} {b : O → Bool} {k m : Nat} {z : Int} {x : O}
theorem Qi.skip (h : Qi l b k m z) (hx : l[k]? = some x) (hn : ¬ ((x.k = 1 ∨ x.k = 2) ∧ b x = true)) : Qi l b (k + 1) m z := by
 have e : l.take (k + 1) = l.take k ++ [x] := by rw [List.take_add_one, hx]; rfl
 refine ⟨?_, ?_⟩
 ·rw [e, adds_snoc, if_neg (fun hh => hn ⟨.inl hh.1, hh.2⟩)]; exact h.sum
 ·rw [e, best_snoc]; unfold pick; rw [if_neg (fun hh => hn ⟨.inr hh.1, hh.2⟩)]; exact h.best
theorem Qi.add (h : Qi l b k m z) (hx : l[k]? = some x) (h1 : x.k = 1) (hb : b x = true) : Qi l b (k + 1) ((m + x.q) % 4294967296) z := by
 have e : l.take (k + 1) = l.take k ++ [x] := by rw [List.take_add_one, hx]; rfl
 refine ⟨?_, ?_⟩
 ·rw [e, adds_snoc, if_pos ⟨h1, hb⟩]; have := h.sum; omega
 ·rw [e, best_snoc]; unfold pick; rw [if_neg (fun hh => by omega)]; exact h.best
theorem Qi.first (h : Qi l b k m (-1)) (hx : l[k]? = some x) (h1 : x.k = 2) (hb : b x = true) : Qi l b (k + 1) m (k : Int) := by
 have e : l.take (k + 1) = l.take k ++ [x] := by rw [List.take_add_one, hx]; rfl
 refine ⟨?_, .inr ⟨k, x, rfl, hx, ?_⟩⟩
 ·rw [e, adds_snoc, if_neg (fun hh => by omega)]; exact h.sum
 ·rw [e, best_snoc]; unfold pick; rw [if_pos ⟨h1, hb⟩]
  rcases h.best with ⟨_, h2⟩ | ⟨j, y, h2, _⟩
  ·rw [h2]; rfl
  ·omega
theorem Qi.more {j : Nat} {y : O} (h : Qi l b k m (j : Int)) (hy : l[j]? = some y) (hx : l[k]? = some x) (h1 : x.k = 2) (hb : b x = true) : Qi l b (k + 1) m (if O.lessB y x = true then (k : Int) else (j : Int)) := by
 have e : l.take (k + 1) = l.take k ++ [x] := by rw [List.take_add_one, hx]; rfl
 refine ⟨?_, .inr ?_⟩
 ·rw [e, adds_snoc, if_neg (fun hh => by omega)]; exact h.sum
 ·rcases h.best with ⟨h2, _⟩ | ⟨j', y', h2, h3, h4⟩
  ·omega
  ·obtain rfl : j = j' := by omega
   rw [hy] at h3
   obtain rfl := Option.some.inj h3
   have hp : bestOf b none (l.take (k + 1)) = over (some y) x := by rw [e, best_snoc, h4]; exact if_pos ⟨h1, hb⟩
   rw [hp]
   cases hl : O.lessB y x
   ·exact ⟨j, y, by simp, hy, by unfold over; simp [hl]⟩
   ·exact ⟨k, x, by simp, hx, by unfold over; simp [hl]⟩
end
def QnR (w : World) (a : Option Addr) (n : Nat) (l : List O) (b : O → Bool) (sv bv iv : Value) (W : World) : Prop :=
 ∃ (k m : Nat) (z : Int), sv = .int .u32 (m : Int) ∧ bv = .int .i64 z ∧ iv = .int .i64 (k : Int) ∧ k ≤ n ∧ m < 4294967296 ∧ Hid (Qi l b k m z) ∧ Hid (OL W a n l) ∧ Hid (Below w.heap.size w W)
set_option maxRecDepth 100000 in
set_option maxHeartbeats 8000000 in
theorem rqty_any {a : Option Addr} {n cap : Nat} {l : List O} {w : World} (hl : OL w a n l) (hn : n < 1000000) (c i : Nat) : Calls Tryz.prog 76 #[.slice a n cap, .int .u16 (c : Int), .int .i64 (i : Int)] w (Says (.int .u32 (qty l c i : Int)) w) := by
 have HL := Lib.hid hl
 have HLEN := Lib.hid (OL.len' hl)
 clear hl
 go_enter Tryz.func76, Tryz.ntmps76
 go_wp2_with fail
 go_loopw [7, 8, 9] (QnR w a n l (ofB l c i)) (fun _ _ u _ => n - (numI u).toNat)
 case atStart => exact ⟨0, 0, -1, rfl, rfl, rfl, Nat.zero_le _, by omega, Lib.hid ⟨rfl, .inl ⟨rfl, rfl⟩⟩, HL, Lib.hid (Below.refl _ _)⟩
 case round =>
  obtain ⟨k, m, z, rfl, rfl, rfl, hk, hm, HQ, HLk, HB⟩ := hrel
  have HL0 := HL
  by_cases hlt : k < n
  ·obtain ⟨b, off, x, rfl, hx, hr⟩ := OL.at HLk.out hlt
   have HX := Lib.hid hx
   have c3 := op3 hr
   have c4 := op4 hr
   have hwi : wrap64 (x.i : Int) = (x.i : Int) := wrap64_u16 x.hi
   clear hx hr
   by_cases q1 : x.c = c
   case neg =>
    have g1 : ((x.c : Int) != (c : Int)) = true := by simp; omega
    have HQ2 := Lib.hid (HQ.out.skip HX.out (fun h => by have := h.2; simp [ofB, q1] at this))
    clear q1
    go_wp2_with (first | (refine wpList_run rfl (exec_idxO (i := k) rfl rfl rfl rfl hlt) ?_) | (refine wpList_runW (exec_idxO (i := k) rfl rfl rfl rfl hlt) (by kernel_rfl) ?_))
    go_roundw
    case rel => exact ⟨k + 1, m, z, rfl, rfl, by go_num, hlt, hm, HQ2, HLk, HB⟩
    case measure => simp [numI]; omega
   have g1 : ((x.c : Int) != (c : Int)) = false := by simp; omega
   by_cases q2 : x.i = i
   case neg =>
    have g2 : ((x.i : Int) != (i : Int)) = true := by simp; omega
    have HQ2 := Lib.hid (HQ.out.skip HX.out (fun h => by have := h.2; simp [ofB, q2] at this))
    clear q1 q2
    go_wp2_with (first | (refine wpList_run rfl (exec_idxO (i := k) rfl rfl rfl rfl hlt) ?_) | (refine wpList_runW (exec_idxO (i := k) rfl rfl rfl rfl hlt) (by kernel_rfl) ?_))
    go_roundw
    case rel => exact ⟨k + 1, m, z, rfl, rfl, by go_num, hlt, hm, HQ2, HLk, HB⟩
    case measure => simp [numI]; omega
   have g2 : ((x.i : Int) != (i : Int)) = false := by simp; omega
   have HCI := Lib.hid (And.intro q1 q2)
   clear q1 q2
   go_wp2_with (first | (refine wpList_run rfl (exec_idxO (i := k) rfl rfl rfl rfl hlt) ?_) | (refine wpList_runW (exec_idxO (i := k) rfl rfl rfl rfl hlt) (by kernel_rfl) ?_))
   refine (rlive_any HLk.out hn HX.out).mono ?_
   rintro e w2 ⟨rfl, hb⟩
   have HL2 := Lib.hid (HLk.out.below hb)
   have HB2 : Hid (Below w.heap.size w w2) := Lib.hid (HB.out.trans (hb.mono HB.out.size))
   clear hb c3 c4
   cases hv : liveB l x
   case false =>
    have HQ2 := Lib.hid (HQ.out.skip HX.out (fun h => by have := h.2; simp [ofB, hv] at this))
    clear hv
    go_wp2_with fail
    go_roundw
    case rel => exact ⟨k + 1, m, z, rfl, rfl, by go_num, hlt, hm, HQ2, HL2, HB2⟩
    case measure => simp [numI]; omega
   have HV := Lib.hid hv
   have hr := ol_rng HL2.out HX.out
   have d1 := op2 hr
   have d5 := op5 hr
   clear hr hv
   by_cases q3 : x.k = 1
   case pos =>
    have g3 : ((x.k : Int) == 1) = true := by simp; omega
    have HOF : Hid (ofB l c i x = true) := Lib.hid (by simp [ofB, HCI.out.1, HCI.out.2, HV.out, q3])
    have HQ2 := Lib.hid (HQ.out.add HX.out q3 HOF.out)
    have hEN : ((m : Int) + (x.q : Int) % 4294967296) % 4294967296 = (((m + x.q) % 4294967296 : Nat) : Int) := by have := x.hq; omega
    have HEN := Lib.hid hEN
    have hm2 : (m + x.q) % 4294967296 < 4294967296 := Nat.mod_lt _ (by omega)
    obtain ⟨m2, hmm⟩ : ∃ u, (m + x.q) % 4294967296 = u := ⟨_, rfl⟩
    rw [hmm] at HQ2 HEN hm2
    clear q3 hEN hmm
    go_wp2_with (first | (refine wpList_run rfl (exec_idxO (i := k) rfl rfl rfl rfl hlt) ?_) | (refine wpList_runW (exec_idxO (i := k) rfl rfl rfl rfl hlt) (by kernel_rfl) ?_))
    rw [HEN.out]
    go_roundw
    case rel => exact ⟨k + 1, m2, z, rfl, rfl, by go_num, hlt, hm2, HQ2, HL2, HB2⟩
    case measure => simp [numI]; omega
   have g3 : ((x.k : Int) == 1) = false := by simp; omega
   by_cases q4 : x.k = 2
   case neg =>
    have g4 : ((x.k : Int) == 2) = false := by simp; omega
    have HQ2 := Lib.hid (HQ.out.skip HX.out (fun h => by omega))
    clear q3 q4
    go_wp2_with (first | (refine wpList_run rfl (exec_idxO (i := k) rfl rfl rfl rfl hlt) ?_) | (refine wpList_runW (exec_idxO (i := k) rfl rfl rfl rfl hlt) (by kernel_rfl) ?_))
    go_roundw
    case rel => exact ⟨k + 1, m, z, rfl, rfl, by go_num, hlt, hm, HQ2, HL2, HB2⟩
    case measure => simp [numI]; omega
   have g4 : ((x.k : Int) == 2) = true := by simp; omega
   have HOF : Hid (ofB l c i x = true) := Lib.hid (by simp [ofB, HCI.out.1, HCI.out.2, HV.out, q4])
   have HK2 := Lib.hid q4
   clear q3 q4
   rcases HQ.out.best with ⟨hz, _⟩ | ⟨j, y, hz, hy, _⟩
   ·subst hz
    have HQ2 := Lib.hid (HQ.out.first HX.out HK2.out HOF.out)
    go_upto_region 10 with (first | (refine wpList_run rfl (exec_idxO (i := k) rfl rfl rfl rfl hlt) ?_) | (refine wpList_runW (exec_idxO (i := k) rfl rfl rfl rfl hlt) (by kernel_rfl) ?_))
    refine wp_region_held_drew (S := fun w' => OL w' (some ⟨b, off, none⟩) n l ∧ Below w2.heap.size w2 w') (by kernel_rfl) ⟨HL2.out.below (drew_below w2), drew_below w2⟩ (fun hS => ?_)
    refine held_tk 0 56 (.int .i64 (-1)) rfl rfl (by kernel_rfl) (fun _ _ _ h=>h) (fun _ _=>rfl) hS ?_;simp only [Act.put,ap1,ap2,ap3]
    refine held_tk 1 57 (.bool true) rfl rfl (by kernel_rfl) (fun _ _ _ h=>h) (fun _ _=>rfl) hS ?_;simp only [Act.put,ap1,ap2,ap3]
    refine held_tk 2 58 (.bool true) rfl rfl (by kernel_rfl) (fun _ _ _ h=>h) (fun _ _=>rfl) hS ?_;simp only [Act.put,ap1,ap2,ap3]
    refine held_sk 3 59 rfl rfl (by kernel_rfl) (fun _ _ _ h=>h) hS ?_;simp only [Act.put,ap1,ap2,ap3]
    refine held_sk 4 60 rfl rfl (by kernel_rfl) (fun _ _ _ h=>h) hS ?_;simp only [Act.put,ap1,ap2,ap3]
    refine held_sk 5 61 rfl rfl (by kernel_rfl) (fun _ _ _ h=>h) hS ?_;simp only [Act.put,ap1,ap2,ap3]
    refine held_sk 6 62 rfl rfl (by kernel_rfl) (fun _ _ _ h=>h) hS ?_;simp only [Act.put,ap1,ap2,ap3]
    refine held_sk 7 63 rfl rfl (by kernel_rfl) (fun _ _ _ h=>h) hS ?_;simp only [Act.put,ap1,ap2,ap3]
    refine held_sk 8 64 rfl rfl (by kernel_rfl) (fun _ _ _ h=>h) hS ?_;simp only [Act.put,ap1,ap2,ap3]
    refine held_sk 9 65 rfl rfl (by kernel_rfl) (fun _ _ _ h=>h) hS ?_;simp only [Act.put,ap1,ap2,ap3]
    refine held_sk 10 66 rfl rfl (by kernel_rfl) (fun _ _ _ h=>h) hS ?_;simp only [Act.put,ap1,ap2,ap3]
    refine held_sk 11 67 rfl rfl (by kernel_rfl) (fun _ _ _ h=>h) hS ?_;simp only [Act.put,ap1,ap2,ap3]
    refine held_tk 12 68 (.bool true) rfl rfl (by kernel_rfl) (fun _ _ _ h=>h) (fun _ _=>rfl) hS ?_;simp only [Act.put,ap1,ap2,ap3]
    refine wpAnyH_done (by kernel_rfl) ?_ _
    have HL3 := Lib.hid hS.1
    have HB3 : Hid (Below w.heap.size w w2.drew) := Lib.hid (HB2.out.trans (hS.2.mono HB2.out.size))
    clear hS
    go_wp2_with fail
    go_roundw
    case rel => exact ⟨k + 1, m, k, rfl, rfl, by go_num, hlt, hm, HQ2, HL3, HB3⟩
    case measure => simp [numI]; omega
   ·subst hz
    have HYJ := Lib.hid hy
    have hjn : j < n := by
     have h1 := (List.getElem?_eq_some_iff.1 hy).1
     have h2 := HLEN.out
     omega
    have hj0 : decide ((j : Int) < 0) = false := by simp
    have HQ2 := Lib.hid (HQ.out.more hy HX.out HK2.out HOF.out)
    have HH := Lib.hid (fun W => rlessO_any y x W)
    clear hy
    cases hh : O.lessB y x
    ·rw [hh] at HH HQ2
     have HQ3 : Hid (Qi l (ofB l c i) (k + 1) m (j : Int)) := Lib.hid (by simpa using HQ2.out)
     clear hh HQ2
     go_upto_region 10 with (first | (refine wpList_run rfl (exec_idxO (i := k) rfl rfl rfl rfl hlt) ?_) | (refine wpList_runW (exec_idxO (i := k) rfl rfl rfl rfl hlt) (by kernel_rfl) ?_))
     refine wp_region_held_drew (S := fun w' => OL w' (some ⟨b, off, none⟩) n l ∧ Below w2.heap.size w2 w') (by kernel_rfl) ⟨HL2.out.below (drew_below w2), drew_below w2⟩ (fun hS => ?_)
     refine held_tk 0 56 (.int .i64 (j : Int)) rfl rfl (by kernel_rfl) (fun _ _ _ h=>h) (fun _ _=>rfl) hS ?_;simp only [Act.put,ap1,ap2,ap3]
     refine held_tk 1 57 (.bool false) rfl rfl (by kernel_rfl) (fun _ _ _ h=>h) (fun _ _=>exec_lssI rfl rfl rfl hj0) hS ?_;simp only [Act.put,ap1,ap2,ap3]
     refine held_tk 2 58 (.bool false) rfl rfl (by kernel_rfl) (fun _ _ _ h=>h) (fun _ _=>rfl) hS ?_;simp only [Act.put,ap1,ap2,ap3]
     refine held_tk 3 59 (.slice (some ⟨b,off,none⟩) n cap) rfl rfl (by kernel_rfl) (fun _ _ _ h=>h) (fun _ _=>rfl) hS ?_;simp only [Act.put,ap1,ap2,ap3]
     refine held_tk 4 60 (.int .i64 (j : Int)) rfl rfl (by kernel_rfl) (fun _ _ _ h=>h) (fun _ _=>rfl) hS ?_;simp only [Act.put,ap1,ap2,ap3]
     refine held_tk 5 61 (.pointer (some ⟨b,off + j * 23,none⟩)) rfl rfl (by kernel_rfl) (fun _ _ _ h=>h) (fun _ _=>exec_idxO (i:=j) rfl rfl rfl rfl hjn) hS ?_;simp only [Act.put,ap1,ap2,ap3]
     refine held_tk 6 62 (.agg y.arr) rfl rfl (by kernel_rfl) (fun _ _ _ h=>h) (fun _ h=>exec_ldO (p:=y) rfl rfl (ol_rng h.1 HYJ.out)) hS ?_;simp only [Act.put,ap1,ap2,ap3]
     refine held_tk 7 63 (.slice (some ⟨b,off,none⟩) n cap) rfl rfl (by kernel_rfl) (fun _ _ _ h=>h) (fun _ _=>rfl) hS ?_;simp only [Act.put,ap1,ap2,ap3]
     refine held_tk 8 64 (.int .i64 (k : Int)) rfl rfl (by kernel_rfl) (fun _ _ _ h=>h) (fun _ _=>rfl) hS ?_;simp only [Act.put,ap1,ap2,ap3]
     refine held_tk 9 65 (.pointer (some ⟨b,off + k * 23,none⟩)) rfl rfl (by kernel_rfl) (fun _ _ _ h=>h) (fun _ _=>exec_idxO (i:=k) rfl rfl rfl rfl hlt) hS ?_;simp only [Act.put,ap1,ap2,ap3]
     refine held_tk 10 66 (.agg x.arr) rfl rfl (by kernel_rfl) (fun _ _ _ h=>h) (fun _ h=>exec_ldO (p:=x) rfl rfl (ol_rng h.1 HX.out)) hS ?_;simp only [Act.put,ap1,ap2,ap3]
     refine held_call 11 67 121 #[.agg y.arr,.agg x.arr] (.bool false) rfl (by kernel_rfl) rfl (by kernel_rfl) (by kernel_rfl) (HH.out _) (fun _ h hb=>⟨h.1.below hb,h.2.trans (hb.mono h.2.size)⟩) hS (fun w8 hS=>?_)
     simp only [Act.put, ap1, ap2, ap3]
     refine held_tk 12 68 (.bool false) rfl rfl (by kernel_rfl) (fun _ _ _ h=>h) (fun _ _=>rfl) hS ?_;simp only [Act.put,ap1,ap2,ap3]
     refine wpAnyH_done (by kernel_rfl) ?_ _
     have HL3 := Lib.hid hS.1
     have HB3 : Hid (Below w.heap.size w w8) := Lib.hid (HB2.out.trans (hS.2.mono HB2.out.size))
     clear hS
     go_wp2_with fail
     go_roundw
     case rel => exact ⟨k + 1, m, j, rfl, rfl, by go_num, hlt, hm, HQ3, HL3, HB3⟩
     case measure => simp [numI]; omega
    ·rw [hh] at HH HQ2
     have HQ3 : Hid (Qi l (ofB l c i) (k + 1) m (k : Int)) := Lib.hid (by simpa using HQ2.out)
     clear hh HQ2
     go_upto_region 10 with (first | (refine wpList_run rfl (exec_idxO (i := k) rfl rfl rfl rfl hlt) ?_) | (refine wpList_runW (exec_idxO (i := k) rfl rfl rfl rfl hlt) (by kernel_rfl) ?_))
     refine wp_region_held_drew (S := fun w' => OL w' (some ⟨b, off, none⟩) n l ∧ Below w2.heap.size w2 w') (by kernel_rfl) ⟨HL2.out.below (drew_below w2), drew_below w2⟩ (fun hS => ?_)
     refine held_tk 0 56 (.int .i64 (j : Int)) rfl rfl (by kernel_rfl) (fun _ _ _ h=>h) (fun _ _=>rfl) hS ?_;simp only [Act.put,ap1,ap2,ap3]
     refine held_tk 1 57 (.bool false) rfl rfl (by kernel_rfl) (fun _ _ _ h=>h) (fun _ _=>exec_lssI rfl rfl rfl hj0) hS ?_;simp only [Act.put,ap1,ap2,ap3]
     refine held_tk 2 58 (.bool false) rfl rfl (by kernel_rfl) (fun _ _ _ h=>h) (fun _ _=>rfl) hS ?_;simp only [Act.put,ap1,ap2,ap3]
     refine held_tk 3 59 (.slice (some ⟨b,off,none⟩) n cap) rfl rfl (by kernel_rfl) (fun _ _ _ h=>h) (fun _ _=>rfl) hS ?_;simp only [Act.put,ap1,ap2,ap3]
     refine held_tk 4 60 (.int .i64 (j : Int)) rfl rfl (by kernel_rfl) (fun _ _ _ h=>h) (fun _ _=>rfl) hS ?_;simp only [Act.put,ap1,ap2,ap3]
     refine held_tk 5 61 (.pointer (some ⟨b,off + j * 23,none⟩)) rfl rfl (by kernel_rfl) (fun _ _ _ h=>h) (fun _ _=>exec_idxO (i:=j) rfl rfl rfl rfl hjn) hS ?_;simp only [Act.put,ap1,ap2,ap3]
     refine held_tk 6 62 (.agg y.arr) rfl rfl (by kernel_rfl) (fun _ _ _ h=>h) (fun _ h=>exec_ldO (p:=y) rfl rfl (ol_rng h.1 HYJ.out)) hS ?_;simp only [Act.put,ap1,ap2,ap3]
     refine held_tk 7 63 (.slice (some ⟨b,off,none⟩) n cap) rfl rfl (by kernel_rfl) (fun _ _ _ h=>h) (fun _ _=>rfl) hS ?_;simp only [Act.put,ap1,ap2,ap3]
     refine held_tk 8 64 (.int .i64 (k : Int)) rfl rfl (by kernel_rfl) (fun _ _ _ h=>h) (fun _ _=>rfl) hS ?_;simp only [Act.put,ap1,ap2,ap3]
     refine held_tk 9 65 (.pointer (some ⟨b,off + k * 23,none⟩)) rfl rfl (by kernel_rfl) (fun _ _ _ h=>h) (fun _ _=>exec_idxO (i:=k) rfl rfl rfl rfl hlt) hS ?_;simp only [Act.put,ap1,ap2,ap3]
     refine held_tk 10 66 (.agg x.arr) rfl rfl (by kernel_rfl) (fun _ _ _ h=>h) (fun _ h=>exec_ldO (p:=x) rfl rfl (ol_rng h.1 HX.out)) hS ?_;simp only [Act.put,ap1,ap2,ap3]
     refine held_call 11 67 121 #[.agg y.arr,.agg x.arr] (.bool true) rfl (by kernel_rfl) rfl (by kernel_rfl) (by kernel_rfl) (HH.out _) (fun _ h hb=>⟨h.1.below hb,h.2.trans (hb.mono h.2.size)⟩) hS (fun w8 hS=>?_)
     simp only [Act.put, ap1, ap2, ap3]
     refine held_tk 12 68 (.bool true) rfl rfl (by kernel_rfl) (fun _ _ _ h=>h) (fun _ _=>rfl) hS ?_;simp only [Act.put,ap1,ap2,ap3]
     refine wpAnyH_done (by kernel_rfl) ?_ _
     have HL3 := Lib.hid hS.1
     have HB3 : Hid (Below w.heap.size w w8) := Lib.hid (HB2.out.trans (hS.2.mono HB2.out.size))
     clear hS
     go_wp2_with fail
     go_roundw
     case rel => exact ⟨k + 1, m, k, rfl, rfl, by go_num, hlt, hm, HQ3, HL3, HB3⟩
     case measure => simp [numI]; omega
  ·obtain rfl : k = n := by omega
   have HT : Hid (l.take k = l) := Lib.hid (List.take_of_length_le (Nat.le_of_eq HLEN.out))
   rcases HQ.out.best with ⟨hz, hbe⟩ | ⟨j, y, hz, hy, hbe⟩
   ·subst hz
    have HE : Hid ((m : Int) = (qty l c i : Int)) := Lib.hid (by
     have h1 := HQ.out.sum
     rw [HT.out] at h1 hbe
     unfold qty
     rw [hbe]
     simp only [qtyOf]
     omega)
    clear hbe
    go_wp2_with fail
    go_ret
    exact ⟨by rw [HE.out]; rfl, HB.out⟩
   ·subst hz
    have hjn : j < k := by
     have h1 := (List.getElem?_eq_some_iff.1 hy).1
     have h2 := HLEN.out
     omega
    obtain ⟨b, off, y', rfl, hy', hr⟩ := OL.at HLk.out hjn
    rw [hy] at hy'
    cases hy'
    have d5 := op5 hr
    have HE : Hid (((m : Int) + (y.q : Int) % 4294967296) % 4294967296 = (qty l c i : Int)) := Lib.hid (by
     have h1 := HQ.out.sum
     rw [HT.out] at h1 hbe
     unfold qty
     rw [hbe]
     simp only [qtyOf]
     have := y.hq
     omega)
    clear hbe hr hy
    go_wp2_with (refine wpList_run rfl (exec_idxO (i := j) rfl rfl rfl rfl hjn) ?_)
    go_ret
    exact ⟨by rw [HE.out]; rfl, HB.out⟩
end Go.Proofs.YtnekpgmgnepdoaaGreat.F
end
