import Derived.Laws.MakeOwn
import Derived.RangeFuncNested
import Derived.RangeFuncBound
import Derived.RangeFuncCalls
import Derived.RangeFuncLeaves
import Derived.RangeFuncFrom
import Derived.RangeFuncBox
import Derived.Shelf.Abstract
import Derived.Shelf.RegionOpen
import Derived.OwnWalkIn
import Derived.TacticsInMore
import Derived.LoopNIn
import Derived.LoopIn
import Derived.Maps.OwnIn
import Derived.Maps.AppendAt
import Derived.ProofKit
import Derived.OpenShut
import Derived.ChangeOld
import Derived.ChangeSame
import Derived.Lib.SmallJoins
import Derived.Deep.Slices
import Derived.Deep.Fields
import Derived.Test.YtnekpgmgnepdoaaGreatZar
section
namespace Go.Proofs.YtnekpgmgnepdoaaGreat
theorem ord_unique : ∀ {l m : List En}, l.Pairwise En.Ahead → m.Pairwise En.Ahead → (∀ e, e ∈ l ↔ e ∈ m) → l = m
 | [], [], _, _, _ => rfl
 | [], y :: m, _, _, h => absurd ((h y).2 List.mem_cons_self) (by simp)
 | x :: l, [], _, _, h => absurd ((h x).1 List.mem_cons_self) (by simp)
 | x :: l, y :: m, hl, hm, h => by
  obtain ⟨l1, l2⟩ := List.pairwise_cons.1 hl
  obtain ⟨m1, m2⟩ := List.pairwise_cons.1 hm
  have hxy : x = y := by
   rcases List.mem_cons.1 ((h x).1 List.mem_cons_self) with e | e
   ·exact e
   ·rcases List.mem_cons.1 ((h y).2 List.mem_cons_self) with e2 | e2
    ·exact e2.symm
    ·exact absurd (l1 y e2) (m1 x e).asymm
  subst hxy
  congr 1
  refine ord_unique l2 m2 fun e => ?_
  constructor
  ·intro he
   rcases List.mem_cons.1 ((h e).1 (List.mem_cons_of_mem _ he)) with rfl | h'
   ·exact absurd (l1 _ he) (En.Ahead.irrefl _)
   ·exact h'
  ·intro he
   rcases List.mem_cons.1 ((h e).2 (List.mem_cons_of_mem _ he)) with rfl | h'
   ·exact absurd (m1 _ he) (En.Ahead.irrefl _)
   ·exact h'
theorem ts_unique : ∀ {l m : List La}, l.Pairwise (fun a b => a.c < b.c) → m.Pairwise (fun a b => a.c < b.c) → (∀ c, tkOf l c = tkOf m c) → l = m
 | [], [], _, _, _ => rfl
 | [], y :: m, _, _, h => by have := h y.c; rw [tkOf_nil, tkOf_cons, if_pos rfl] at this; cases this
 | x :: l, [], _, _, h => by have := h x.c; rw [tkOf_nil, tkOf_cons, if_pos rfl] at this; cases this
 | x :: l, y :: m, hl, hm, h => by
  obtain ⟨l1, l2⟩ := List.pairwise_cons.1 hl
  obtain ⟨m1, m2⟩ := List.pairwise_cons.1 hm
  have hc : x.c = y.c := by
   rcases Nat.lt_trichotomy x.c y.c with hlt | he | hlt
   ·have := h x.c
    rw [tkOf_cons, if_pos rfl, tkOf_none (l := y :: m) (fun z hz => by rcases List.mem_cons.1 hz with rfl | hz; omega; have := m1 z hz; omega)] at this
    cases this
   ·exact he
   ·have := h y.c
    rw [tkOf_cons y m, if_pos rfl, tkOf_none (l := x :: l) (fun z hz => by rcases List.mem_cons.1 hz with rfl | hz; omega; have := l1 z hz; omega)] at this
    cases this
  have hxy : x = y := La.ext' hc (by
   have := h x.c
   rw [tkOf_cons, if_pos rfl, tkOf_cons, if_pos hc.symm] at this
   exact Option.some.inj this)
  subst hxy
  congr 1
  refine ts_unique l2 m2 fun c => ?_
  have := h c
  rw [tkOf_cons, tkOf_cons] at this
  by_cases e : x.c = c
  ·subst e
   rw [tkOf_none fun z hz => by have := l1 z hz; omega, tkOf_none fun z hz => by have := m1 z hz; omega]
  ·rwa [if_neg e, if_neg e] at this
theorem Merg.unique {a b m n : Sta} (h : Merg a b m) (k : Merg a b n) : m = n := by
 obtain ⟨mv, me, mt⟩ := m
 obtain ⟨nv, ne, nt⟩ := n
 have h1 : mv = nv := h.v.trans k.v.symm
 have h2 : me = ne := ord_unique h.ord k.ord fun e => (h.mem e).trans (k.mem e).symm
 have h3 : mt = nt := ts_unique h.up k.up fun c => (h.tk c).trans (k.tk c).symm
 subst h1 h2 h3
 rfl
end Go.Proofs.YtnekpgmgnepdoaaGreat
end
section
namespace Go.Proofs.YtnekpgmgnepdoaaGreat
open Go.RowKit
theorem MgA.unique {s t m m' : Sta} {er er' : Nat} (h : MgA s t er m) (k : MgA s t er' m') : er = er' ∧ m = m' := by
 cases h with
 | ok h1 h2 hc hm => cases k with
  | ok _ _ _ km => exact ⟨rfl, hm.unique km⟩
  | clash _ _ kc => exact absurd kc hc
  | not k => exact absurd ⟨h1, h2⟩ k
 | clash h1 h2 hc => cases k with
  | ok _ _ kc _ => exact absurd hc kc
  | clash _ _ _ => exact ⟨rfl, rfl⟩
  | not k => exact absurd ⟨h1, h2⟩ k
 | not hn => cases k with
  | ok h1 h2 _ _ => exact absurd ⟨h1, h2⟩ hn
  | clash h1 h2 _ => exact absurd ⟨h1, h2⟩ hn
  | not _ => exact ⟨rfl, rfl⟩
end Go.Proofs.YtnekpgmgnepdoaaGreat
end
