import Derived.Test.YtnekpgmgnepdoaaGreatWab
section
namespace Go.Proofs.YtnekpgmgnepdoaaGreat
open Go.RowKit
theorem Kept.of_grown {w w' : World} {row : Option Nat} (h : w.grownBy w' row) : Kept (fun k => row = some k) w w' :=
 ⟨h.os, h.tape, h.output, h.size, fun k hk hn => h.block k hk (fun e => hn e.symm)⟩
end Go.Proofs.YtnekpgmgnepdoaaGreat
end
section
namespace Go.Proofs.YtnekpgmgnepdoaaGreat
open Go.RowKit Go.Maps
theorem anyE_inv {v : Value} {z : DataW Value × List MemPlace} (h : anyE v = some z) : z = (.held v, []) := (Option.some.inj h).symm
theorem MpF.below {w w' : World} {k m n : Nat} {f : Lit → Option Value} (h : MpF w k m n f) (hb : Below w.heap.size w w') : MpF w' k m n f :=
 h.kept (S := fun _ => False) (.of_below hb) (fun h => h)
section
variable {w : World} {k m n t e : Nat} {f : Lit → Option Value}
theorem MpF.look (h : MpF w k m n f) (K : Keyed Tryz.prog k) (ht : Tryz.prog.underlying t = some (.map k e)) {z : Value} (hz : (zeroValue e).run Tryz.prog w = .ok z w) {key : Value} {kl : Lit} (hkey : keyOf Tryz.prog k key = some kl) :
  (Instr.lookup t (.map (some m)) key false).run Tryz.prog w = .ok ((f kl).getD z) w := by
 obtain ⟨D, h⟩ := h
 obtain ⟨v, ps, hrun, hv⟩ := h.own.lookup K ht hz (zd := .held z) (zp := []) rfl hkey
 rw [hrun]
 have e1 := anyE_inv hv
 simp only [Prod.mk.injEq] at e1
 cases hf : f kl with
 | none =>
  have hn := h.has kl
  rw [hf] at hn
  have e2 := atKey_of_not_has (D := D) (k := kl) hn (.held z)
  rw [e2] at e1
  have := e1.1
  rw [← DataW.held.inj this]
  rfl
 | some u =>
  rw [h.val kl u hf] at e1
  have := e1.1
  rw [← DataW.held.inj this]
  rfl
theorem MpF.look_ok (h : MpF w k m n f) (K : Keyed Tryz.prog k) (ht : Tryz.prog.underlying t = some (.map k e)) {z : Value} (hz : (zeroValue e).run Tryz.prog w = .ok z w) {key : Value} {kl : Lit} (hkey : keyOf Tryz.prog k key = some kl) :
  (Instr.lookup t (.map (some m)) key true).run Tryz.prog w = .ok (.tuple #[(f kl).getD z, .bool (f kl).isSome]) w := by
 obtain ⟨D, h⟩ := h
 obtain ⟨v, ps, hrun, hv⟩ := h.own.look_ok K ht hz (zd := .held z) (zp := []) rfl hkey
 rw [hrun, h.has kl]
 have e1 := anyE_inv hv
 simp only [Prod.mk.injEq] at e1
 cases hf : f kl with
 | none =>
  have hn := h.has kl
  rw [hf] at hn
  have e2 := atKey_of_not_has (D := D) (k := kl) hn (.held z)
  rw [e2] at e1
  have := e1.1
  rw [← DataW.held.inj this]
  rfl
 | some u =>
  rw [h.val kl u hf] at e1
  have := e1.1
  rw [← DataW.held.inj this]
  rfl
theorem MpF.put (h : MpF w k m n f) (K : Keyed Tryz.prog k) (ht : Tryz.prog.underlying t = some (.map k e)) (hn : n < 1000000) {key v : Value} {kl : Lit} (hkey : keyOf Tryz.prog k key = some kl) :
  ∃ w2, (Instr.mapUpdate t (.map (some m)) key v).run Tryz.prog w = .ok () w2 ∧ MpF w2 k m (if (f kl).isSome then n else n + 1) (upd f kl v) ∧ Kept (fun i => i = m) w w2 := by
 obtain ⟨D, h⟩ := h
 obtain ⟨w2, hrun, ho, hg⟩ := h.own.update K ht (by unfold maxLen; omega) hkey (val := v) (d := .held v) (ps := []) rfl
 have hm := h.own.isMap
 have hk := K.key hkey
 have hs : Maps.size (D.put kl (.held v)) = if (f kl).isSome then n else n + 1 := by
  rw [size_put (h.own.tidy K), h.has kl, h.size]
 refine ⟨w2, hrun, ⟨_, ?_, hs, fun x => ?_, fun x u hx z => ?_⟩, (Kept.of_grown hg).mono fun i hi => by simpa using hi.symm⟩
 ·obtain ⟨es, clock, hb, F, hle, hD⟩ := ho
  refine ⟨es, clock, hb, F, ?_, hD⟩
  have := congrArg Maps.size hD
  rw [hs] at this
  simp only [Maps.size, length_sorted, List.length_map, Array.length_toList] at this
  omega
 ·by_cases e : x = kl
  ·subst e
   rw [has_put_same hm hk, upd_same]; rfl
  ·rw [has_put_other e, h.has x, upd_other f v e]
 ·by_cases e : x = kl
  ·subst e
   rw [upd_same] at hx
   obtain rfl := Option.some.inj hx
   exact atKey_put_same hm hk _ z
  ·rw [upd_other f v e] at hx
   rw [atKey_put_other e, h.val x u hx]
end
end Go.Proofs.YtnekpgmgnepdoaaGreat
end
section
namespace Go.Proofs.YtnekpgmgnepdoaaGreat
namespace Fold
def liveB (l : List O) (p : O) : Bool := p.laysB && l.all fun o => !O.endsB o p
def under (l : List O) (v : V) : List O := l.filter fun o => V.hasB v o.r o.s
structure Closed (l : List O) : Prop where
 valid : ∀ o ∈ l, V.dotB o.r o.s = true
 unlike : l.Pairwise fun a b => ¬ (a.r = b.r ∧ a.s = b.s)
 known : ∀ o ∈ l, ∀ r s, V.hasB o.v r s = true → ∃ p ∈ l, p.r = r ∧ p.s = s
def tickTo (c : Nat) : List O → Nat
 | [] => 0
 | o :: l => if o.c = c then max o.t (tickTo c l) else tickTo c l
def outB (l : List O) (c : Nat) : Bool := l.any fun o => decide (o.c = c ∧ o.k = 4) && liveB l o
def ofB (l : List O) (c i : Nat) (o : O) : Bool := decide (o.c = c ∧ o.i = i ∧ o.k ≠ 4) && liveB l o
def items (l : List O) (c : Nat) : List Nat := (List.range 65536).filter fun i => l.any (ofB l c i)
def addsOf (b : O → Bool) : List O → Nat
 | [] => 0
 | o :: m => (if o.k = 1 ∧ b o = true then o.q else 0) + addsOf b m
def over (x : Option O) (o : O) : Option O :=
 match x with
 | none => some o
 | some y => if O.lessB y o = true then some o else some y
def pick (b : O → Bool) (x : Option O) (o : O) : Option O := if o.k = 2 ∧ b o = true then over x o else x
def bestOf (b : O → Bool) : Option O → List O → Option O
 | x, [] => x
 | x, o :: m => bestOf b (pick b x o) m
def qtyOf : Option O → Nat
 | none => 0
 | some o => o.q
def qty (l : List O) (c i : Nat) : Nat := (addsOf (ofB l c i) l + qtyOf (bestOf (ofB l c i) none l)) % 4294967296
def lines (l : List O) (c : Nat) : List (Nat × Nat) := (items l c).map fun i => (i, qty l c i)
theorem live_congr {l m : List O} {p : O} (h : ∀ o, O.endsB o p = true → (o ∈ l ↔ o ∈ m)) : liveB l p = liveB m p := by
 unfold liveB
 congr 1
 rw [Bool.eq_iff_iff]
 simp only [List.all_eq_true, Bool.not_eq_true']
 constructor
 ·intro h1 o ho
  cases he : O.endsB o p
  ·rfl
  ·rw [← he]; exact h1 o ((h o he).2 ho)
 ·intro h1 o ho
  cases he : O.endsB o p
  ·rfl
  ·rw [← he]; exact h1 o ((h o he).1 ho)
theorem ends_cart {o p : O} (h : O.endsB o p = true) : o.c = p.c := by
 simp only [O.endsB, decide_eq_true_eq] at h
 exact h.2.1
theorem adds_perm {l m : List O} (h : l.Perm m) (b : O → Bool) : addsOf b l = addsOf b m := by
 induction h with
 | nil => rfl
 | cons x _ ih => simp only [addsOf, ih]
 | swap x y l => simp only [addsOf]; omega
 | trans _ _ ih1 ih2 => exact ih1.trans ih2
theorem less_iff (a b : O) : O.lessB a b = true ↔ (a.count < b.count ∨ (a.count = b.count ∧ (a.r < b.r ∨ (a.r = b.r ∧ a.s < b.s)))) := by
 unfold O.lessB; rw [decide_eq_true_eq]
theorem less_or {a b : O} (h : ¬ (a.r = b.r ∧ a.s = b.s)) : O.lessB a b = true ∨ O.lessB b a = true := by
 rw [less_iff, less_iff]
 omega
theorem best_what (b : O → Bool) : ∀ (l : List O) (x : Option O), (∀ y, bestOf b x l = some y → x = some y ∨ (y ∈ l ∧ y.k = 2 ∧ b y = true)) ∧
  (∀ y, bestOf b x l = some y → (∀ z, x = some z → O.lessB y z = false) ∧ ∀ z ∈ l, z.k = 2 → b z = true → O.lessB y z = false) ∧
  (bestOf b x l = none → x = none ∧ ∀ z ∈ l, ¬ (z.k = 2 ∧ b z = true))
 | [], x => by
  refine ⟨fun y h => .inl h, fun y h => ⟨fun z hz => ?_, by simp⟩, fun h => ⟨h, by simp⟩⟩
  have h1 : x = some y := h
  rw [h1] at hz
  obtain rfl := Option.some.inj hz
  rw [← Bool.not_eq_true, less_iff]
  omega
 | o :: m, x => by
  have ih := best_what b m (pick b x o)
  by_cases hc : o.k = 2 ∧ b o = true
  ·have e0 : pick b x o = over x o := if_pos hc
   rw [e0] at ih
   have e : bestOf b x (o :: m) = bestOf b (over x o) m := by rw [← e0]; rfl
   rw [e]
   cases x with
   | none =>
    have e1 : over none o = some o := rfl
    rw [e1] at ih ⊢
    obtain ⟨i1, i2, i3⟩ := ih
    refine ⟨fun y h => ?_, fun y h => ⟨by simp, fun z hz h1 h2 => ?_⟩, fun h => ?_⟩
    ·rcases i1 y h with h1 | ⟨h1, h2, h3⟩
     ·obtain rfl := Option.some.inj h1
      exact .inr ⟨List.mem_cons_self, hc⟩
     ·exact .inr ⟨List.mem_cons_of_mem _ h1, h2, h3⟩
    ·obtain ⟨j1, j2⟩ := i2 y h
     rcases List.mem_cons.1 hz with rfl | hz
     ·exact j1 _ rfl
     ·exact j2 z hz h1 h2
    ·exact absurd (i3 h).1 (by simp)
   | some w =>
    cases hw : O.lessB w o
    ·have e1 : over (some w) o = some w := by simp [over, hw]
     rw [e1] at ih ⊢
     obtain ⟨i1, i2, i3⟩ := ih
     refine ⟨fun y h => ?_, fun y h => ?_, fun h => absurd (i3 h).1 (by simp)⟩
     ·rcases i1 y h with h1 | ⟨h1, h2, h3⟩
      ·exact .inl h1
      ·exact .inr ⟨List.mem_cons_of_mem _ h1, h2, h3⟩
     ·obtain ⟨j1, j2⟩ := i2 y h
      refine ⟨j1, fun z hz h1 h2 => ?_⟩
      rcases List.mem_cons.1 hz with rfl | hz
      ·have h3 := j1 w rfl
       rw [← Bool.not_eq_true, less_iff] at h3 hw ⊢
       omega
      ·exact j2 z hz h1 h2
    ·have e1 : over (some w) o = some o := by simp [over, hw]
     rw [e1] at ih ⊢
     obtain ⟨i1, i2, i3⟩ := ih
     refine ⟨fun y h => ?_, fun y h => ?_, fun h => absurd (i3 h).1 (by simp)⟩
     ·rcases i1 y h with h1 | ⟨h1, h2, h3⟩
      ·obtain rfl := Option.some.inj h1
       exact .inr ⟨List.mem_cons_self, hc⟩
      ·exact .inr ⟨List.mem_cons_of_mem _ h1, h2, h3⟩
     ·obtain ⟨j1, j2⟩ := i2 y h
      refine ⟨fun z hz => ?_, fun z hz h1 h2 => ?_⟩
      ·obtain rfl := Option.some.inj hz
       have h3 := j1 o rfl
       rw [← Bool.not_eq_true, less_iff] at h3 ⊢
       rw [less_iff] at hw
       omega
      ·rcases List.mem_cons.1 hz with rfl | hz
       ·exact j1 _ rfl
       ·exact j2 z hz h1 h2
  ·have e0 : pick b x o = x := if_neg hc
   rw [e0] at ih
   have e : bestOf b x (o :: m) = bestOf b x m := by rw [show bestOf b x (o :: m) = bestOf b (pick b x o) m from rfl, e0]
   rw [e]
   obtain ⟨i1, i2, i3⟩ := ih
   refine ⟨fun y h => ?_, fun y h => ?_, fun h => ?_⟩
   ·rcases i1 y h with h1 | ⟨h1, h2, h3⟩
    ·exact .inl h1
    ·exact .inr ⟨List.mem_cons_of_mem _ h1, h2, h3⟩
   ·obtain ⟨j1, j2⟩ := i2 y h
    refine ⟨j1, fun z hz h1 h2 => ?_⟩
    rcases List.mem_cons.1 hz with rfl | hz
    ·exact absurd ⟨h1, h2⟩ hc
    ·exact j2 z hz h1 h2
   ·obtain ⟨j1, j2⟩ := i3 h
    refine ⟨j1, fun z hz => ?_⟩
    rcases List.mem_cons.1 hz with rfl | hz
    ·exact hc
    ·exact j2 z hz
def Unlike (l : List O) : Prop := ∀ a ∈ l, ∀ b ∈ l, a.r = b.r ∧ a.s = b.s → a = b
theorem best_unlike {l m : List O} (hu : Unlike l) (hm : ∀ o, o ∈ l ↔ o ∈ m) (b : O → Bool) : bestOf b none l = bestOf b none m := by
 obtain ⟨a1, a2, a3⟩ := best_what b l none
 obtain ⟨b1, b2, b3⟩ := best_what b m none
 cases hx : bestOf b none l with
 | none =>
  cases hy : bestOf b none m with
  | none => rfl
  | some y =>
   rcases b1 y hy with h | ⟨h1, h2, h3⟩
   ·cases h
   ·exact absurd ⟨h2, h3⟩ ((a3 hx).2 y ((hm y).2 h1))
 | some x =>
  rcases a1 x hx with h | ⟨h1, h2, h3⟩
  ·cases h
  ·cases hy : bestOf b none m with
   | none => exact absurd ⟨h2, h3⟩ ((b3 hy).2 x ((hm x).1 h1))
   | some y =>
    rcases b1 y hy with h | ⟨k1, k2, k3⟩
    ·cases h
    ·have e1 := (a2 x hx).2 y ((hm y).2 k1) k2 k3
     have e2 := (b2 y hy).2 x ((hm x).1 h1) h2 h3
     congr 1
     by_cases hd : x.r = y.r ∧ x.s = y.s
     ·exact hu x h1 y ((hm y).2 k1) hd
     ·rcases less_or hd with h | h
      ·rw [h] at e1; cases e1
      ·rw [h] at e2; cases e2
end Fold
end Go.Proofs.YtnekpgmgnepdoaaGreat
end
section
namespace Go.Proofs.YtnekpgmgnepdoaaGreat.F
open Go.Proofs.YtnekpgmgnepdoaaGreat Go.Proofs.YtnekpgmgnepdoaaGreat.Fold
namespace Fold
open Go.Proofs.YtnekpgmgnepdoaaGreat.Fold
abbrev Aim := Nat × Nat × Nat
def aimOf (o : O) : Option Aim := if o.k = 5 then some (5, o.c, 0) else if o.k = 3 ∨ o.k = 2 then some (o.k, o.c, o.i) else none
def withV (o : O) (v : V) : O := { o with v := v }
def vOf (x : Option O) : V := (x.getD O.zero).v
def endStep (m : Aim → Option O) (o : O) : Aim → Option O :=
 match aimOf o with
 | none => m
 | some a => fun b => if b = a then some (withV o (V.join o.v (vOf (m a)))) else m b
def endO (l : List O) : Aim → Option O := l.foldl endStep (fun _ => none)
theorem has_iff (v : V) (r s : Nat) : V.hasB v r s = true ↔ V.dotB r s = true ∧ s ≤ v.at_ r := by
 unfold V.hasB; simp
theorem has_join (a b : V) (r s : Nat) : V.hasB (V.join a b) r s = true ↔ V.hasB a r s = true ∨ V.hasB b r s = true := by
 simp only [has_iff]
 constructor
 ·rintro ⟨h1, h2⟩
  have hr : r < 16 := (by simpa [V.dotB] using h1 : r < 16 ∧ 1 ≤ s ∧ s ≤ 1048576).1
  rw [V.join_at a b hr] at h2
  by_cases h : s ≤ a.at_ r
  ·exact .inl ⟨h1, h⟩
  ·exact .inr ⟨h1, by omega⟩
 ·rintro (⟨h1, h2⟩ | ⟨h1, h2⟩)
  all_goals
   have hr : r < 16 := (by simpa [V.dotB] using h1 : r < 16 ∧ 1 ≤ s ∧ s ≤ 1048576).1
   rw [V.join_at a b hr]
   exact ⟨h1, by omega⟩
theorem has_zero (r s : Nat) : V.hasB V.zero r s = false := by
 rw [← Bool.not_eq_true, has_iff]
 rintro ⟨h1, h2⟩
 have : r < 16 ∧ 1 ≤ s ∧ s ≤ 1048576 := by simpa [V.dotB] using h1
 rw [V.zero_at] at h2
 omega
theorem aim_iff (o : O) (a : Aim) : aimOf o = some a ↔ (o.k = 5 ∧ a = (5, o.c, 0)) ∨ ((o.k = 3 ∨ o.k = 2) ∧ a = (o.k, o.c, o.i)) := by
 unfold aimOf
 split
 ·rename_i h
  simp only [Option.some.injEq]
  constructor
  ·rintro rfl; exact .inl ⟨h, rfl⟩
  ·rintro (⟨_, rfl⟩ | ⟨h2, _⟩)
   ·rfl
   ·omega
 ·rename_i h
  split
  ·rename_i h2
   simp only [Option.some.injEq]
   constructor
   ·rintro rfl; exact .inr ⟨h2, rfl⟩
   ·rintro (⟨h3, _⟩ | ⟨_, rfl⟩)
    ·omega
    ·rfl
  ·rename_i h2
   constructor
   ·intro h3; cases h3
   ·rintro (⟨h3, _⟩ | ⟨h3, _⟩)
    ·omega
    ·exact absurd h3 h2
structure Merged (l : List O) (a : Aim) (e : O) : Prop where
 k : e.k = a.1
 c : e.c = a.2.1
 i : a.1 = 5 ∨ e.i = a.2.2
 has : ∀ r s, V.hasB e.v r s = true ↔ ∃ o ∈ l, aimOf o = some a ∧ V.hasB o.v r s = true
theorem end_snoc (l : List O) (o : O) : endO (l ++ [o]) = endStep (endO l) o := by simp [endO]
theorem end_what : ∀ (n : Nat) (l : List O), l.length = n → ∀ a, (∀ e, endO l a = some e → Merged l a e) ∧ (endO l a = none → ∀ o ∈ l, aimOf o ≠ some a)
 | 0, l, h, a => by
  obtain rfl := List.eq_nil_of_length_eq_zero h
  exact ⟨fun e he => by simp [endO] at he, fun _ => by simp⟩
 | n + 1, l, h, a => by
  obtain ⟨m, o, rfl⟩ : ∃ m o, l = m ++ [o] := by
   rcases List.eq_nil_or_concat l with rfl | ⟨m, o, rfl⟩
   ·simp at h
   ·exact ⟨m, o, by simp⟩
  have ih := end_what n m (by simpa using h)
  rw [end_snoc]
  cases ho : aimOf o with
  | none =>
   have e1 : endStep (endO m) o = endO m := by unfold endStep; rw [ho]
   rw [e1]
   refine ⟨fun e he => ?_, fun hn p hp => ?_⟩
   ·have := (ih a).1 e he
    refine ⟨this.k, this.c, this.i, fun r s => ?_⟩
    rw [this.has]
    constructor
    ·rintro ⟨p, hp, h1⟩; exact ⟨p, List.mem_append_left _ hp, h1⟩
    ·rintro ⟨p, hp, h1, h2⟩
     rcases List.mem_append.1 hp with hp | hp
     ·exact ⟨p, hp, h1, h2⟩
     ·obtain rfl : p = o := by simpa using hp
      rw [ho] at h1; cases h1
   ·rcases List.mem_append.1 hp with hp | hp
    ·exact (ih a).2 hn p hp
    ·obtain rfl : p = o := by simpa using hp
     rw [ho]; simp
  | some b =>
   have e1 : ∀ x, endStep (endO m) o x = if x = b then some (withV o (V.join o.v (vOf (endO m b)))) else endO m x := fun x => by
    unfold endStep; rw [ho]
   by_cases hab : a = b
   ·subst hab
    rw [e1, if_pos rfl]
    refine ⟨fun e he => ?_, fun hn => by cases hn⟩
    obtain rfl := Option.some.inj he
    have hk : o.k = a.1 ∧ o.c = a.2.1 ∧ (a.1 = 5 ∨ o.i = a.2.2) := by
     rcases (aim_iff o a).1 ho with ⟨h1, rfl⟩ | ⟨h1, rfl⟩
     ·exact ⟨h1, rfl, .inl rfl⟩
     ·exact ⟨rfl, rfl, .inr rfl⟩
    refine ⟨hk.1, hk.2.1, hk.2.2, fun r s => ?_⟩
    show V.hasB (V.join o.v (vOf (endO m a))) r s = true ↔ _
    rw [has_join]
    constructor
    ·rintro (h1 | h1)
     ·exact ⟨o, by simp, ho, h1⟩
     ·cases hm : endO m a with
      | none => rw [hm] at h1; have h2 := has_zero r s; rw [show vOf none = V.zero from rfl, h2] at h1; cases h1
      | some x =>
       rw [hm] at h1
       obtain ⟨p, hp, h2⟩ := (((ih a).1 x hm).has r s).1 h1
       exact ⟨p, List.mem_append_left _ hp, h2⟩
    ·rintro ⟨p, hp, h1, h2⟩
     rcases List.mem_append.1 hp with hp | hp
     ·right
      cases hm : endO m a with
      | none => exact absurd h1 ((ih a).2 hm p hp)
      | some x => exact (((ih a).1 x hm).has r s).2 ⟨p, hp, h1, h2⟩
     ·obtain rfl : p = o := by simpa using hp
      exact .inl h2
   ·rw [e1, if_neg hab]
    refine ⟨fun e he => ?_, fun hn p hp => ?_⟩
    ·have := (ih a).1 e he
     refine ⟨this.k, this.c, this.i, fun r s => ?_⟩
     rw [this.has]
     constructor
     ·rintro ⟨p, hp, h1⟩; exact ⟨p, List.mem_append_left _ hp, h1⟩
     ·rintro ⟨p, hp, h1, h2⟩
      rcases List.mem_append.1 hp with hp | hp
      ·exact ⟨p, hp, h1, h2⟩
      ·obtain rfl : p = o := by simpa using hp
       rw [ho] at h1
       exact absurd (Option.some.inj h1).symm hab
    ·rcases List.mem_append.1 hp with hp | hp
     ·exact (ih a).2 hn p hp
     ·obtain rfl : p = o := by simpa using hp
      rw [ho]
      intro h1
      exact hab (Option.some.inj h1).symm
def endAt (l : List O) (a : Aim) : O := (endO l a).getD O.zero
theorem ends_at (l : List O) (a : Aim) (e : O) (h5 : a.1 = 5 ∨ a.1 = 3 ∨ a.1 = 2) : O.endsB (endAt l a) e = true ↔ (a.1 = 5 ∨ a.2.2 = e.i) ∧ ∃ o ∈ l, aimOf o = some a ∧ O.endsB o e = true := by
 have hw := end_what l.length l rfl a
 unfold endAt
 cases hm : endO l a with
 | none =>
  have hn := hw.2 hm
  constructor
  ·intro h
   simp only [Option.getD_none, O.endsB, decide_eq_true_eq] at h
   have : O.zero.k = 0 := rfl
   omega
  ·rintro ⟨_, o, ho, h1, _⟩
   exact absurd h1 (hn o ho)
 | some x =>
  have hx := hw.1 x hm
  simp only [Option.getD_some]
  unfold O.endsB
  simp only [decide_eq_true_eq]
  rw [hx.has, hx.k, hx.c]
  constructor
  ·rintro ⟨h1, h2, ⟨o, ho, h3, h4⟩, h6⟩
   refine ⟨?_, o, ho, h3, ?_⟩
   ·rcases h6 with h6 | ⟨h6, h7, h8⟩
    ·exact .inl h6
    ·rcases hx.i with h9 | h9
     ·exact .inl h9
     ·exact .inr (by rw [← h9]; exact h8)
   ·rcases (aim_iff o a).1 h3 with ⟨k1, rfl⟩ | ⟨k1, rfl⟩
    ·exact ⟨h1, h2, h4, .inl k1⟩
    ·refine ⟨h1, h2, h4, .inr ⟨k1, ?_⟩⟩
     simp only at h6
     rcases h6 with h6 | ⟨_, h7, h8⟩
     ·omega
     ·rcases hx.i with h9 | h9
      ·simp only at h9; omega
      ·simp only at h9; exact ⟨h7, by rw [← h9]; exact h8⟩
  ·rintro ⟨h0, o, ho, h3, h4, h2, h6, h7⟩
   rcases (aim_iff o a).1 h3 with ⟨k1, rfl⟩ | ⟨k1, rfl⟩
   ·exact ⟨h4, h2, ⟨o, ho, h3, h6⟩, .inl rfl⟩
   ·refine ⟨h4, h2, ⟨o, ho, h3, h6⟩, .inr ⟨k1, ?_⟩⟩
    rcases h7 with h7 | ⟨_, h8, h9⟩
    ·omega
    ·rcases hx.i with h10 | h10
     ·simp only at h10; omega
     ·simp only at h10; exact ⟨h8, by rw [h10]; exact h9⟩
theorem ended_eq (l : List O) (e : O) : (O.endsB (endAt l (5, e.c, 0)) e || O.endsB (endAt l (3, e.c, e.i)) e || O.endsB (endAt l (2, e.c, e.i)) e) = l.any fun o => O.endsB o e := by
 rw [Bool.eq_iff_iff]
 have E1 := ends_at l (5, e.c, 0) e (.inl rfl)
 have E2 := ends_at l (3, e.c, e.i) e (.inr (.inl rfl))
 have E3 := ends_at l (2, e.c, e.i) e (.inr (.inr rfl))
 rw [Bool.or_eq_true, Bool.or_eq_true, E1, E2, E3, List.any_eq_true]
 constructor
 ·rintro ((⟨_, o, ho, _, h⟩ | ⟨_, o, ho, _, h⟩) | ⟨_, o, ho, _, h⟩)
  all_goals exact ⟨o, ho, h⟩
 ·rintro ⟨o, ho, h⟩
  have h' := h
  simp only [O.endsB, decide_eq_true_eq] at h'
  obtain ⟨h1, h2, h3, h4⟩ := h'
  rcases h4 with h4 | ⟨h4 | h4, h5, h6⟩
  ·exact .inl (.inl ⟨.inl rfl, o, ho, (aim_iff _ _).2 (.inl ⟨h4, by rw [h2]⟩), h⟩)
  ·exact .inl (.inr ⟨.inr rfl, o, ho, (aim_iff _ _).2 (.inr ⟨.inl h4, by rw [h2, h6, h4]⟩), h⟩)
  ·exact .inr ⟨.inr rfl, o, ho, (aim_iff _ _).2 (.inr ⟨.inr h4, by rw [h2, h6, h4]⟩), h⟩
theorem live_eq (l : List O) (e : O) : liveB l e = (e.laysB && !(l.any fun o => O.endsB o e)) := by
 unfold liveB
 congr 1
 rw [Bool.eq_iff_iff]
 simp
end Fold
end Go.Proofs.YtnekpgmgnepdoaaGreat.F
end
section
namespace Go.Proofs.YtnekpgmgnepdoaaGreat
open Go.RowKit
section
variable {w w' : World} {e size B n cap : Nat} {a : Option Addr} {vs : List (List Value)}
theorem GL.keep {S : Nat → Prop} (h : GL w size a n vs) (k : Kept S w w') (hn : ∀ ad, a = some ad → n ≠ 0 → ¬ S ad.block) : GL w' size a n vs := by
 refine ⟨h.len, ?_⟩
 rcases h.cells with h0 | ⟨b, off, ha, hc⟩
 ·exact .inl h0
 ·by_cases h0 : n = 0
  ·exact .inl h0
  ·exact .inr ⟨b, off, ha, fun i v hv j u hu => k.at_ (hc i v hv j u hu) (hn _ ha h0)⟩
end
end Go.Proofs.YtnekpgmgnepdoaaGreat
end
