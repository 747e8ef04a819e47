import Derived.Test.YtnekpgmgnepdoaaGreatXbe
section
namespace Go.Proofs.YtnekpgmgnepdoaaGreat
def Runs (v : V) : List O → Prop
 | [] => True
 | o :: l => O.readyE v o = 0 ∧ Runs (V.put v o.r o.s) l
def stOf (s : Sta) (l : List O) : Sta := l.foldl applyS s
def Unlike (l : List O) : Prop := l.Pairwise fun a b => ¬ (a.r = b.r ∧ a.s = b.s)
theorem hasB_iff (v : V) (r s : Nat) : V.hasB v r s = true ↔ r < 16 ∧ 1 ≤ s ∧ s ≤ 1048576 ∧ s ≤ v.at_ r := by
 unfold V.hasB V.dotB
 simp only [Bool.and_eq_true, decide_eq_true_eq]
 constructor
 ·rintro ⟨⟨h1, h2, h3⟩, h4⟩; exact ⟨h1, h2, h3, h4⟩
 ·rintro ⟨h1, h2, h3, h4⟩; exact ⟨⟨h1, h2, h3⟩, h4⟩
theorem ready_iff (v : V) (o : O) : O.readyE v o = 0 ↔ o.rightB 16 = true ∧ V.hasB v o.r o.s = false ∧ V.belowB o.v v = true := by
 unfold O.readyE
 cases o.rightB 16 <;> cases V.hasB v o.r o.s <;> cases V.belowB o.v v <;> simp
structure Rdy (v : V) (o : O) : Prop where
 r : o.r < 16
 s1 : 1 ≤ o.s
 s2 : o.s ≤ 1048576
 now : v.at_ o.r + 1 = o.s
 own : o.v.at_ o.r + 1 = o.s
 le : ∀ i, i < 16 → o.v.at_ i ≤ v.at_ i
 lim : ∀ i, i < 16 → o.v.at_ i ≤ 1048576
 t : o.t ≤ 1073741824
 k : o.kindB = true
theorem rdy {v : V} {o : O} (h : O.readyE v o = 0) : Rdy v o := by
 obtain ⟨h1, h2, h3⟩ := (ready_iff v o).1 h
 obtain ⟨d, hs, hr, hv, ht, hk⟩ := (O.right_iff o 16).1 h1
 have hd : o.r < 16 ∧ 1 ≤ o.s ∧ o.s ≤ 1048576 := by simpa [V.dotB] using d
 have hb := (V.belowB_iff _ _).1 h3
 have hl : ∀ i, i < 16 → o.v.at_ i ≤ 1048576 := fun i hi => by
  unfold V.rightB at hv
  rw [Bool.and_eq_true, V.rightTo_iff] at hv
  exact (hv.2 i hi).1
 have h5 : ¬ V.hasB v o.r o.s = true := by rw [h2]; simp
 rw [hasB_iff] at h5
 have := hb o.r hd.1
 exact ⟨hd.1, hd.2.1, hd.2.2, by omega, hs, hb, hl, ht, hk⟩
theorem rdy_put (v : V) (o : O) {i : Nat} (hi : i < 16) : (V.put v o.r o.s).at_ i = if i = o.r then o.s else v.at_ i := V.put_at v o.r o.s hi o.hs
structure Kn (v : V) (l : List O) : Prop where
 has : ∀ r s, V.hasB v r s = true ↔ ∃ q ∈ l, q.r = r ∧ q.s = s
 lim : ∀ i, i < 16 → v.at_ i ≤ 1048576
theorem Kn.zero : Kn V.zero [] := ⟨fun r s => by rw [hasB_iff, V.zero_at]; constructor <;> intro h <;> simp at h; omega, fun i _ => by rw [V.zero_at]; omega⟩
theorem Kn.put {v : V} {l : List O} {o : O} (h : Kn v l) (hr : O.readyE v o = 0) : Kn (V.put v o.r o.s) (l ++ [o]) := by
 have R := rdy hr
 refine ⟨fun r s => ?_, fun i hi => ?_⟩
 ·have hv := h.has r s
  rw [hasB_iff] at hv ⊢
  constructor
  ·rintro ⟨h1, h2, h3, h4⟩
   rw [rdy_put v o h1] at h4
   by_cases e : r = o.r
   ·rw [if_pos e] at h4
    by_cases e2 : s = o.s
    ·exact ⟨o, by simp, e.symm, e2.symm⟩
    ·have hn := R.now
     rw [← e] at hn
     obtain ⟨q, hq, hh⟩ := hv.1 ⟨h1, h2, h3, by omega⟩
     exact ⟨q, by simp [hq], hh⟩
   ·rw [if_neg e] at h4
    obtain ⟨q, hq, hh⟩ := hv.1 ⟨h1, h2, h3, h4⟩
    exact ⟨q, by simp [hq], hh⟩
  ·rintro ⟨q, hq, rfl, rfl⟩
   rcases List.mem_append.1 hq with hq | hq
   ·obtain ⟨h1, h2, h3, h4⟩ := hv.2 ⟨q, hq, rfl, rfl⟩
    refine ⟨h1, h2, h3, ?_⟩
    rw [rdy_put v o h1]
    split
    ·rename_i e
     have hn := R.now
     rw [← e] at hn
     omega
    ·exact h4
   ·obtain rfl : q = o := by simpa using hq
    exact ⟨R.r, R.s1, R.s2, by rw [rdy_put v q R.r, if_pos rfl]; exact Nat.le_refl _⟩
 ·rw [rdy_put v o hi]
  split
  ·exact R.s2
  ·exact h.lim i hi
theorem unlike_eq : ∀ {l : List O}, Unlike l → ∀ {a b : O}, a ∈ l → b ∈ l → a.r = b.r → a.s = b.s → a = b
 | [], _, _, _, h, _, _, _ => by simp at h
 | x :: l, hu, a, b, ha, hb, hr, hs => by
  obtain ⟨h1, h2⟩ := List.pairwise_cons.1 hu
  rcases List.mem_cons.1 ha with ea | ha2
  ·rcases List.mem_cons.1 hb with eb | hb2
   ·rw [ea, eb]
   ·subst ea
    exact absurd ⟨hr, hs⟩ (h1 b hb2)
  ·rcases List.mem_cons.1 hb with eb | hb2
   ·subst eb
    exact absurd ⟨hr.symm, hs.symm⟩ (h1 a ha2)
   ·exact unlike_eq h2 ha2 hb2 hr hs
def TkIs (x : Option Nat) (l : List O) (c : Nat) : Prop := match x with
 | none => ∀ o ∈ l, o.c ≠ c
 | some m => (∃ o ∈ l, o.c = c ∧ o.t = m) ∧ ∀ o ∈ l, o.c = c → o.t ≤ m
theorem TkIs.step {x : Option Nat} {l : List O} {c : Nat} (h : TkIs x l c) (o : O) : TkIs (if c = o.c then some (maxO x o.t) else x) (l ++ [o]) c := by
 by_cases e : c = o.c
 ·rw [if_pos e]
  refine ⟨?_, fun p hp hc => ?_⟩
  ·cases x with
   | none => exact ⟨o, by simp, e.symm, by simp [maxO]⟩
   | some m =>
    obtain ⟨⟨p, hp, hc, ht⟩, h2⟩ := h
    by_cases hle : m ≤ o.t
    ·exact ⟨o, by simp, e.symm, by simp [maxO]; omega⟩
    ·exact ⟨p, by simp [hp], hc, by simp [maxO]; omega⟩
  ·rcases List.mem_append.1 hp with hp | hp
   ·cases x with
    | none => exact absurd hc (h p hp)
    | some m =>
     have := h.2 p hp hc
     simp [maxO]; omega
   ·obtain rfl : p = o := by simpa using hp
    simp [maxO]; omega
 ·rw [if_neg e]
  cases x with
  | none =>
   intro p hp hc
   rcases List.mem_append.1 hp with hp | hp
   ·exact h p hp hc
   ·obtain rfl : p = o := by simpa using hp
    exact e hc.symm
  | some m =>
   refine ⟨?_, fun p hp hc => ?_⟩
   ·obtain ⟨p, hp, hh⟩ := h.1
    exact ⟨p, by simp [hp], hh⟩
   ·rcases List.mem_append.1 hp with hp | hp
    ·exact h.2 p hp hc
    ·obtain rfl : p = o := by simpa using hp
     exact absurd hc.symm e
theorem sumTo_lim {v : V} (h : ∀ i, i < 16 → v.at_ i ≤ 1048576) : ∀ k, k ≤ 16 → V.sumTo v k ≤ k * 1048576
 | 0, _ => by simp [V.sumTo]
 | k + 1, hk => by have := sumTo_lim h k (by omega); have := h k (by omega); simp only [V.sumTo]; omega
structure Spec (s : Sta) (l : List O) : Prop where
 v : Kn s.v l
 kn : ∀ p ∈ l, ∀ r q, V.hasB p.v r q = true → V.hasB s.v r q = true
 es : ∀ e, e ∈ s.es ↔ ∃ o ∈ l, o.laysB = true ∧ e = En.made o ∧ ∀ p ∈ l, O.endsB p e.maker = false
 ts : ∀ c, TkIs (tkOf s.ts c) l c
 right : s.Right
theorem Spec.zero : Spec Sta.zero [] := by
 refine ⟨Kn.zero, by simp, fun e => by simp [Sta.zero], fun c => by simp [TkIs, Sta.zero, tkOf], ⟨by decide, ⟨by simp [Sta.zero], by simp [Sta.zero]⟩, by simp [Sta.zero], by simp [Sta.zero], by simp [Sta.zero]⟩⟩
theorem hasB_mono {a b : V} (h : ∀ i, i < 16 → a.at_ i ≤ b.at_ i) {r s : Nat} (hh : V.hasB a r s = true) : V.hasB b r s = true := by
 rw [hasB_iff] at hh ⊢
 have := h r hh.1
 omega
theorem ends_has {p : O} {e : En} (h : O.endsB p e.maker = true) : V.hasB p.v e.r e.s = true := by
 unfold O.endsB at h
 rw [decide_eq_true_eq] at h
 exact h.2.2.1
theorem mem_applyE {l : List En} {o : O} {e : En} : e ∈ applyE l o ↔ (o.laysB = true ∧ e = En.made o) ∨ (e ∈ l ∧ O.endsB o e.maker = false) := by
 have hl : e ∈ leftE l o ↔ e ∈ l ∧ O.endsB o e.maker = false := by
  unfold leftE
  rw [List.mem_filter]
  simp
 unfold applyE
 split
 ·rename_i h
  rw [mem_putE, hl]
  simp [h]
 ·rename_i h
  rw [hl]
  simp [h]
theorem Spec.step {s : Sta} {l : List O} {o : O} (h : Spec s l) (hr : O.readyE s.v o = 0) : Spec (applyS s o) (l ++ [o]) := by
 have R := rdy hr
 have hkn := h.v.put hr
 have hnew : V.hasB s.v o.r o.s = false := ((ready_iff _ _).1 hr).2.1
 have hown : V.hasB o.v o.r o.s = false := by
  rw [← Bool.not_eq_true, hasB_iff]
  have := R.own
  omega
 have hup : ∀ r q, V.hasB s.v r q = true → V.hasB (V.put s.v o.r o.s) r q = true := fun r q hh => by
  obtain ⟨p, hp, hd⟩ := (h.v.has r q).1 hh
  exact (hkn.has r q).2 ⟨p, by simp [hp], hd⟩
 have hes : ∀ e, e ∈ (applyS s o).es ↔ ∃ q ∈ l ++ [o], q.laysB = true ∧ e = En.made q ∧ ∀ p ∈ l ++ [o], O.endsB p e.maker = false := fun e => by
  show e ∈ applyE s.es o ↔ _
  rw [mem_applyE]
  constructor
  ·rintro (⟨h1, rfl⟩ | ⟨h1, h2⟩)
   ·refine ⟨o, by simp, h1, rfl, fun p hp => ?_⟩
    rw [← Bool.not_eq_true]
    intro he
    have hh := ends_has he
    rcases List.mem_append.1 hp with hp | hp
    ·have := h.kn p hp _ _ hh
     have h9 : V.hasB s.v o.r o.s = true := this
     rw [hnew] at h9
     cases h9
    ·obtain rfl : p = o := by simpa using hp
     have h9 : V.hasB p.v p.r p.s = true := hh
     rw [hown] at h9
     cases h9
   ·obtain ⟨q, hq, h3, h4, h5⟩ := (h.es e).1 h1
    refine ⟨q, by simp [hq], h3, h4, fun p hp => ?_⟩
    rcases List.mem_append.1 hp with hp | hp
    ·exact h5 p hp
    ·obtain rfl : p = o := by simpa using hp
     exact h2
  ·rintro ⟨q, hq, h3, h4, h5⟩
   rcases List.mem_append.1 hq with hq | hq
   ·exact .inr ⟨(h.es e).2 ⟨q, hq, h3, h4, fun p hp => h5 p (by simp [hp])⟩, h5 o (by simp)⟩
   ·obtain rfl : q = o := by simpa using hq
    exact .inl ⟨h3, h4⟩
 have hts : ∀ c, TkIs (tkOf (applyS s o).ts c) (l ++ [o]) c := fun c => by
  show TkIs (tkOf (ticked (tickO o) s.ts) c) _ c
  rw [tkOf_ticked h.right.ts.up c]
  exact (h.ts c).step o
 refine ⟨hkn, fun p hp r q hh => ?_, hes, hts, ?_⟩
 ·rcases List.mem_append.1 hp with hp | hp
  ·exact hup r q (h.kn p hp r q hh)
  ·obtain rfl : p = o := by simpa using hp
   exact hup r q (hasB_mono R.le hh)
 ·have hunl : ∀ y ∈ s.es, ¬ (y.r = o.r ∧ y.s = o.s) := fun y hy ⟨e1, e2⟩ => by
   have := (h.right.has y hy).2.1
   rw [e1, e2, hnew] at this
   cases this
  have hleft : ∀ y ∈ leftE s.es o, y ∈ s.es := fun y hy => (List.mem_filter.1 hy).1
  refine ⟨?_, ⟨ticked_le R.t h.right.ts.le, ticked_up h.right.ts.up⟩, fun e he => ?_, ?_, ?_⟩
  ·show V.rightB (V.put s.v o.r o.s) 16 = true
   unfold V.rightB
   rw [Bool.and_eq_true, V.rightTo_iff]
   exact ⟨by decide, fun i hi => ⟨hkn.lim i hi, fun h => by omega⟩⟩
  ·have hc : (∃ t ∈ (applyS s o).ts, t.c = e.c) ↔ e.c = o.c ∨ ∃ t ∈ s.ts, t.c = e.c := by
    rw [← tkOf_some, ← tkOf_some]
    show (tkOf (ticked (tickO o) s.ts) e.c).isSome = true ↔ _
    rw [tkOf_ticked h.right.ts.up e.c]
    by_cases ec : e.c = (tickO o).c
    ·rw [if_pos ec]
     have ec2 : e.c = o.c := ec
     simp [ec2]
    ·rw [if_neg ec]
     have ec2 : ¬ e.c = o.c := ec
     simp [ec2]
   rcases mem_applyE.1 he with ⟨h1, rfl⟩ | ⟨h1, h2⟩
   ·refine ⟨hc.2 (.inl rfl), (hkn.has _ _).2 ⟨o, by simp, rfl, rfl⟩, ?_, ?_⟩
    ·have hk := R.k
     unfold O.kindB at hk
     unfold O.laysB at h1
     rw [decide_eq_true_eq] at hk h1
     unfold En.shapedB
     rw [decide_eq_true_eq]
     show (o.k = 1 ∧ 1 ≤ o.q) ∨ o.k = 2 ∨ (o.k = 4 ∧ o.i = 0 ∧ o.q = 0)
     clear hc hts hes
     omega
    ·have := sumTo_lim R.lim 16 (Nat.le_refl _)
     show 1 ≤ o.count ∧ o.count ≤ 16777217
     unfold O.count V.sum
     omega
   ·obtain ⟨k1, k2, k3⟩ := h.right.has e h1
    exact ⟨hc.2 (.inr k1), hup _ _ k2, k3⟩
  ·show (applyE s.es o).Pairwise En.Ahead
   have hf : (leftE s.es o).Pairwise En.Ahead := h.right.ord.sublist List.filter_sublist
   unfold applyE
   split
   ·exact putE_ord hf fun y hy hlike => hunl y (hleft y hy) ⟨hlike.2.1.symm, hlike.2.2.symm⟩
   ·exact hf
  ·show (applyE s.es o).Pairwise fun a b => ¬ (a.r = b.r ∧ a.s = b.s)
   have hf : (leftE s.es o).Pairwise fun a b => ¬ (a.r = b.r ∧ a.s = b.s) := h.right.one.sublist List.filter_sublist
   unfold applyE
   split
   ·refine (List.Perm.pairwise_iff (fun {a b} hab => fun hh => hab ⟨hh.1.symm, hh.2.symm⟩) (putE_perm (En.made o) (leftE s.es o))).2 ?_
    exact List.pairwise_cons.2 ⟨fun y hy hh => hunl y (hleft y hy) ⟨hh.1.symm, hh.2.symm⟩, hf⟩
   ·exact hf
theorem spec_run : ∀ {l P : List O} {s : Sta}, Runs s.v l → Spec s P → Spec (stOf s l) (P ++ l)
 | [], P, s, _, h => by simpa [stOf] using h
 | o :: l, P, s, hr, h => by
  have h1 := h.step hr.1
  have h2 := spec_run (s := applyS s o) hr.2 h1
  simpa [stOf] using h2
theorem spec_of {l : List O} (h : Runs V.zero l) : Spec (stOf Sta.zero l) l := by simpa using spec_run (s := Sta.zero) h Spec.zero
theorem sub_len {α : Type} [DecidableEq α] : ∀ {l l2 : List α}, l.Nodup → (∀ x ∈ l, x ∈ l2) → l.length ≤ l2.length
 | [], _, _, _ => Nat.zero_le _
 | x :: l, l2, hn, hs => by
  have hx := hs x (by simp)
  have hc := List.nodup_cons.1 hn
  have := sub_len (l := l) (l2 := l2.erase x) hc.2 (fun y hy => (List.mem_erase_of_ne (by rintro rfl; exact hc.1 hy)).2 (hs y (List.mem_cons_of_mem _ hy)))
  rw [List.length_erase_of_mem hx] at this
  have h0 := List.length_pos_of_mem hx
  simp only [List.length_cons]
  omega
theorem Spec.len {s : Sta} {l : List O} (h : Spec s l) : s.es.length ≤ l.length ∧ s.ts.length ≤ l.length := by
 constructor
 ·have h1 := sub_len (l := s.es) (l2 := l.map En.made) (h.right.ord.imp (fun {a b} hab e => by subst e; exact En.Ahead.irrefl _ hab)) (fun e he => by
   obtain ⟨o, ho, _, rfl, _⟩ := (h.es e).1 he
   exact List.mem_map_of_mem ho)
  simpa using h1
 ·have h1 := sub_len (l := s.ts.map (·.c)) (l2 := l.map O.c) (List.pairwise_map.2 (h.right.ts.up.imp fun hab => by omega)) (fun c hc => by
   obtain ⟨t, ht, rfl⟩ := List.mem_map.1 hc
   have h2 := h.ts t.c
   have h3 : (tkOf s.ts t.c).isSome = true := tkOf_some.2 ⟨t, ht, rfl⟩
   cases hk : tkOf s.ts t.c with
   | none => rw [hk] at h3; cases h3
   | some m =>
    rw [hk] at h2
    obtain ⟨⟨o, ho, hoc, _⟩, _⟩ := h2
    exact List.mem_map.2 ⟨o, ho, hoc⟩)
  simpa using h1
end Go.Proofs.YtnekpgmgnepdoaaGreat
end
section
namespace Go.Proofs.YtnekpgmgnepdoaaGreat
open Fold
theorem ends_made (p o : O) : O.endsB p (En.made o).maker = O.endsB p o := rfl
theorem spec_mem {s : Sta} {l : List O} (h : Spec s l) (e : En) : e ∈ s.es ↔ ∃ o ∈ l, liveB l o = true ∧ e = En.made o := by
 rw [h.es]
 constructor
 ·rintro ⟨o, ho, h1, rfl, h2⟩
  refine ⟨o, ho, ?_, rfl⟩
  unfold liveB
  rw [h1, Bool.true_and, List.all_eq_true]
  intro p hp
  have := h2 p hp
  rw [ends_made] at this
  rw [this]
  rfl
 ·rintro ⟨o, ho, h1, rfl⟩
  unfold liveB at h1
  rw [Bool.and_eq_true, List.all_eq_true] at h1
  refine ⟨o, ho, h1.1, rfl, fun p hp => ?_⟩
  have := h1.2 p hp
  rw [ends_made]
  simpa using this
theorem spec_out {s : Sta} {l : List O} (h : Spec s l) (c : Nat) : coutTo c s.es s.es.length = outB l c := by
 unfold coutTo outB
 rw [List.take_length, Bool.eq_iff_iff, List.any_eq_true, List.any_eq_true]
 constructor
 ·rintro ⟨e, he, h1⟩
  obtain ⟨o, ho, h2, rfl⟩ := (spec_mem h e).1 he
  refine ⟨o, ho, ?_⟩
  rw [Bool.and_eq_true]
  exact ⟨h1, h2⟩
 ·rintro ⟨o, ho, h1⟩
  rw [Bool.and_eq_true] at h1
  exact ⟨En.made o, (spec_mem h _).2 ⟨o, ho, h1.2, rfl⟩, h1.1⟩
theorem tickTo_ge {c : Nat} {o : O} : ∀ {l : List O}, o ∈ l → o.c = c → o.t ≤ tickTo c l
 | [], h, _ => by simp at h
 | x :: l, h, hc => by
  unfold tickTo
  rcases List.mem_cons.1 h with rfl | h
  ·rw [if_pos hc]; omega
  ·have := tickTo_ge h hc
   split <;> omega
theorem tickTo_in {c : Nat} : ∀ {l : List O}, tickTo c l = 0 ∨ ∃ o ∈ l, o.c = c ∧ o.t = tickTo c l
 | [] => .inl rfl
 | x :: l => by
  unfold tickTo
  have ih := tickTo_in (c := c) (l := l)
  by_cases hx : x.c = c
  ·rw [if_pos hx]
   by_cases hm : tickTo c l ≤ x.t
   ·exact .inr ⟨x, List.mem_cons_self, hx, by omega⟩
   ·rcases ih with ih | ⟨o, ho, h1, h2⟩
    ·omega
    ·exact .inr ⟨o, List.mem_cons_of_mem _ ho, h1, by omega⟩
  ·rw [if_neg hx]
   rcases ih with ih | ⟨o, ho, h1, h2⟩
   ·exact .inl ih
   ·exact .inr ⟨o, List.mem_cons_of_mem _ ho, h1, h2⟩
theorem spec_tick {s : Sta} {l : List O} (h : Spec s l) (c : Nat) : (tkOf s.ts c).getD 0 = tickTo c l := by
 have ht := h.ts c
 unfold TkIs at ht
 cases hk : tkOf s.ts c with
 | none =>
  rw [hk] at ht
  rcases tickTo_in (c := c) (l := l) with h1 | ⟨o, ho, h1, _⟩
  ·rw [h1]; rfl
  ·exact absurd h1 (ht o ho)
 | some m =>
  rw [hk] at ht
  obtain ⟨⟨o, ho, h1, h2⟩, h3⟩ := ht
  have h4 := tickTo_ge ho h1
  show m = _
  rcases tickTo_in (c := c) (l := l) with h5 | ⟨p, hp, h5, h6⟩
  ·omega
  ·have := h3 p hp h5; omega
end Go.Proofs.YtnekpgmgnepdoaaGreat
end
section
namespace Go.Proofs.YtnekpgmgnepdoaaGreat
open Fold
def ofI (c i : Nat) (o : O) : Bool := decide (o.c = c ∧ o.i = i ∧ o.k ≠ 4)
theorem adds_filter (b p : O → Bool) : ∀ l : List O, addsOf (fun o => b o && p o) l = addsOf b (l.filter p)
 | [] => rfl
 | o :: l => by
  have ih := adds_filter b p l
  cases hp : p o
  ·rw [List.filter_cons_of_neg (by simp [hp])]
   simp only [addsOf, hp, Bool.and_false]
   rw [ih]
   simp
  ·rw [List.filter_cons_of_pos hp]
   simp only [addsOf, hp, Bool.and_true]
   rw [ih]
theorem best_filter (b p : O → Bool) : ∀ (l : List O) (x : Option O), bestOf (fun o => b o && p o) x l = bestOf b x (l.filter p)
 | [], _ => rfl
 | o :: l, x => by
  cases hp : p o
  ·rw [List.filter_cons_of_neg (by simp [hp])]
   have e : pick (fun o => b o && p o) x o = x := by unfold pick; exact if_neg (by simp [hp])
   show bestOf _ (pick _ x o) l = _
   rw [e]
   exact best_filter b p l x
  ·rw [List.filter_cons_of_pos hp]
   have e : pick (fun o => b o && p o) x o = pick b x o := by unfold pick; simp [hp]
   show bestOf _ (pick _ x o) l = bestOf b (pick b x o) _
   rw [e]
   exact best_filter b p l _
def bE : Option O → En
 | none => En.zero
 | some o => En.made o
def AmIs (x : Option Ac) (a : Nat) (b : Option O) : Prop :=
 match x with
 | none => a = 0 ∧ b = none
 | some A => A.n = a % 4294967296 ∧ A.o = bE b
theorem am_fold {c i : Nat} : ∀ (m : List O) (x : Option Ac) (a : Nat) (b : Option O), (∀ o ∈ m, o.k = 1 ∨ o.k = 2 ∨ o.k = 4) → (∀ o ∈ m, 1 ≤ (En.made o).n) → AmIs x a b → AmIs ((m.map En.made).foldl (camStep c i) x) (a + addsOf (ofI c i) m) (bestOf (ofI c i) b m)
 | [], x, a, b, _, _, h => by simpa [addsOf, bestOf] using h
 | o :: m, x, a, b, hk, hn, h => by
  have ih := fun x' a' b' h' => am_fold (c := c) (i := i) m x' a' b' (fun o ho => hk o (List.mem_cons_of_mem _ ho)) (fun o ho => hn o (List.mem_cons_of_mem _ ho)) h'
  have hko := hk o List.mem_cons_self
  have hno := hn o List.mem_cons_self
  simp only [List.map_cons, List.foldl_cons, addsOf, bestOf]
  rw [← Nat.add_assoc]
  refine ih _ _ _ ?_
  unfold camStep
  by_cases hc : o.c = c ∧ o.k ≠ 4 ∧ o.i = i
  ·have hb : ofI c i o = true := by unfold ofI; exact decide_eq_true ⟨hc.1, hc.2.2, hc.2.1⟩
   rw [if_pos (show (En.made o).c = c ∧ (En.made o).k ≠ 4 ∧ (En.made o).i = i from hc)]
   have hA : (x.getD Ac.zero).n = a % 4294967296 ∧ (x.getD Ac.zero).o = bE b := by
    cases x with
    | none => obtain ⟨rfl, rfl⟩ := h; exact ⟨rfl, rfl⟩
    | some A => exact h
   by_cases h1 : o.k = 1
   ·have hw := with_add (A := x.getD Ac.zero) (x := En.made o) h1
    have hp : pick (ofI c i) b o = b := by unfold pick; exact if_neg (fun h => by omega)
    rw [if_pos ⟨h1, hb⟩, hp]
    refine ⟨?_, by rw [hw.2]; exact hA.2⟩
    rw [hw.1, hA.1]
    show (a % 4294967296 + o.q) % 4294967296 = _
    omega
   ·have h2 : o.k = 2 := by omega
    have hp : pick (ofI c i) b o = over b o := by unfold pick; exact if_pos ⟨h2, hb⟩
    rw [if_neg (fun h => h1 h.1), hp, Nat.add_zero]
    cases b with
    | none =>
     have hw := with_set (A := x.getD Ac.zero) (x := En.made o) h1 (by rw [hA.2]; exact less_zero hno)
     exact ⟨by rw [hw.1]; exact hA.1, hw.2⟩
    | some y =>
     cases hl : O.lessB y o
     ·have hw := with_not (A := x.getD Ac.zero) (x := En.made o) h1 (by rw [hA.2]; exact hl)
      have ho : over (some y) o = some y := by unfold over; simp [hl]
      rw [hw, ho]
      exact hA
     ·have hw := with_set (A := x.getD Ac.zero) (x := En.made o) h1 (by rw [hA.2]; exact hl)
      have ho : over (some y) o = some o := by unfold over; simp [hl]
      rw [ho]
      exact ⟨by rw [hw.1]; exact hA.1, hw.2⟩
  ·have hb : ¬ (ofI c i o = true) := fun h => hc (by unfold ofI at h; have := of_decide_eq_true h; exact ⟨this.1, this.2.2, this.2.1⟩)
   have hp : pick (ofI c i) b o = b := by unfold pick; exact if_neg (fun h => hb h.2)
   rw [if_neg (show ¬ ((En.made o).c = c ∧ (En.made o).k ≠ 4 ∧ (En.made o).i = i) from hc), if_neg (fun h => hb h.2), hp, Nat.add_zero]
   exact h
end Go.Proofs.YtnekpgmgnepdoaaGreat
end
section
namespace Go.Proofs.YtnekpgmgnepdoaaGreat
open Fold
theorem es_ops {l : List O} : ∀ es : List En, (∀ e ∈ es, ∃ o ∈ l, liveB l o = true ∧ e = En.made o) → ∃ m : List O, m.map En.made = es ∧ ∀ o ∈ m, o ∈ l ∧ liveB l o = true
 | [], _ => ⟨[], rfl, by simp⟩
 | e :: es, h => by
  obtain ⟨o, ho, h1, rfl⟩ := h e List.mem_cons_self
  obtain ⟨m, hm, h2⟩ := es_ops es (fun e he => h e (List.mem_cons_of_mem _ he))
  refine ⟨o :: m, by rw [List.map_cons, hm], fun p hp => ?_⟩
  rcases List.mem_cons.1 hp with rfl | hp
  ·exact ⟨ho, h1⟩
  ·exact h2 p hp
theorem perm_nodup {α : Type} [DecidableEq α] : ∀ {l m : List α}, l.Nodup → m.Nodup → (∀ x, x ∈ l ↔ x ∈ m) → l.Perm m
 | [], m, _, _, h => by
  cases m with
  | nil => exact List.Perm.refl _
  | cons y m => exact absurd ((h y).2 List.mem_cons_self) (by simp)
 | x :: l, m, hl, hm, h => by
  obtain ⟨h1, h2⟩ := List.nodup_cons.1 hl
  have hx : x ∈ m := (h x).1 List.mem_cons_self
  have h3 := List.perm_cons_erase hx
  refine (List.Perm.cons x (perm_nodup h2 (hm.erase x) (fun y => ?_))).trans h3.symm
  rw [hm.mem_erase_iff]
  constructor
  ·intro hy
   exact ⟨fun e => h1 (e ▸ hy), (h y).1 (List.mem_cons_of_mem _ hy)⟩
  ·rintro ⟨h4, h5⟩
   rcases List.mem_cons.1 ((h y).2 h5) with rfl | h6
   ·exact absurd rfl h4
   ·exact h6
theorem ap_perm {b : O → Bool} {l m : List O} (hl : l.Nodup) (hm : m.Nodup) (h : ∀ x, x ∈ l ↔ x ∈ m) : addsOf b l = addsOf b m := by
 classical
 exact adds_perm (perm_nodup hl hm h) b
theorem nodup_unlike {l : List O} (h : Unlike l) : l.Nodup := by
 rw [List.nodup_iff_pairwise_ne]
 exact h.imp fun h e => h ⟨by rw [e], by rw [e]⟩
theorem nodup_made {m : List O} (h : (m.map En.made).Pairwise fun a b => ¬ (a.r = b.r ∧ a.s = b.s)) : m.Nodup := by
 rw [List.pairwise_map] at h
 rw [List.nodup_iff_pairwise_ne]
 exact h.imp fun h e => h ⟨by rw [e], by rw [e]⟩
theorem spec_am {s : Sta} {l : List O} (h : Spec s l) (hu : Unlike l) (c i : Nat) : AmIs (camTo c s.es s.es.length i) (addsOf (ofB l c i) l) (bestOf (ofB l c i) none l) := by
 obtain ⟨m, hm, hml⟩ := es_ops s.es (fun e he => (spec_mem h e).1 he)
 have hone := h.right.one
 rw [← hm] at hone
 have hmm : ∀ o, o ∈ l.filter (liveB l) ↔ o ∈ m := fun o => by
  rw [List.mem_filter]
  constructor
  ·rintro ⟨h1, h2⟩
   have h3 := (spec_mem h (En.made o)).2 ⟨o, h1, h2, rfl⟩
   rw [← hm] at h3
   obtain ⟨p, hp, h4⟩ := List.mem_map.1 h3
   have h5 : p = o := unlike_eq hu (hml p hp).1 h1 (congrArg En.r h4) (congrArg En.s h4)
   exact h5 ▸ hp
  ·exact fun ho => hml o ho
 have hk : ∀ o ∈ m, o.k = 1 ∨ o.k = 2 ∨ o.k = 4 := fun o ho => by
  have h1 := h.right.has (En.made o) (by rw [← hm]; exact List.mem_map_of_mem ho)
  have h2 := of_decide_eq_true h1.2.2.1
  have h3 : (En.made o).k = o.k := rfl
  omega
 have hn : ∀ o ∈ m, 1 ≤ (En.made o).n := fun o ho => (h.right.has (En.made o) (by rw [← hm]; exact List.mem_map_of_mem ho)).2.2.2.1
 have hf := am_fold (c := c) (i := i) m none 0 none hk hn ⟨rfl, rfl⟩
 rw [Nat.zero_add] at hf
 have e1 : addsOf (ofB l c i) l = addsOf (ofI c i) m := by
  rw [show ofB l c i = fun o => ofI c i o && liveB l o from rfl, adds_filter]
  exact ap_perm ((nodup_unlike hu).filter _) (nodup_made hone) hmm
 have e2 : bestOf (ofB l c i) none l = bestOf (ofI c i) none m := by
  rw [show ofB l c i = fun o => ofI c i o && liveB l o from rfl, best_filter]
  exact best_unlike (fun a ha b hb hab => unlike_eq hu (List.mem_filter.1 ha).1 (List.mem_filter.1 hb).1 hab.1 hab.2) hmm _
 rw [e1, e2]
 unfold camTo
 rw [List.take_length, ← hm]
 exact hf
theorem spec_qty {s : Sta} {l : List O} (h : Spec s l) (hu : Unlike l) (c i : Nat) : cqtyAt c s.es i = qty l c i := by
 have ha := spec_am h hu c i
 unfold cqtyAt qty Ac.qty
 cases hx : camTo c s.es s.es.length i with
 | none =>
  rw [hx] at ha
  obtain ⟨h1, h2⟩ := ha
  rw [h1, h2]
  rfl
 | some A =>
  rw [hx] at ha
  obtain ⟨h1, h2⟩ := ha
  show (A.n + A.o.q) % 4294967296 = _
  rw [h1, h2]
  cases bestOf (ofB l c i) none l with
  | none => show (_ + 0) % _ = (_ + 0) % _; omega
  | some y => show (_ + y.q) % _ = (_ + y.q) % _; omega
end Go.Proofs.YtnekpgmgnepdoaaGreat
end
section
namespace Go.Proofs.YtnekpgmgnepdoaaGreat
open Go.RowKit
theorem wrap_u16_id {i : Nat} (hi : i < 65536) : IntKind.u16.wrap (i : Int) = (i : Int) := by
 unfold IntKind.wrap; simp [IntKind.bits, IntKind.signed]; omega
end Go.Proofs.YtnekpgmgnepdoaaGreat
end
