/- What ends what, by one merged operation for each aim. No program. -/
import Derived.Test.YtmibfbbkjejkmaaFm
namespace Go.Proofs.Ytmibfbbkjejkmaa
namespace Fold

abbrev Aim := Nat × Nat × Nat
def aimOf (o : O) : Option Aim := if o.k = 5 then some (5, o.c, 0) else if o.k = 3 ∨ o.k = 2 then some (o.k, o.c, o.i) else none
def withV (o : O) (v : V) : O := { o with v := v }
def vOf (x : Option O) : V := (x.getD O.zero).v
def endStep (m : Aim → Option O) (o : O) : Aim → Option O :=
  match aimOf o with
  | none => m
  | some a => fun b => if b = a then some (withV o (V.join o.v (vOf (m a)))) else m b
def endO (l : List O) : Aim → Option O := l.foldl endStep (fun _ => none)

theorem has_iff (v : V) (r s : Nat) : V.hasB v r s = true ↔ V.dotB r s = true ∧ s ≤ v.at_ r := by
  unfold V.hasB; simp
theorem has_join (a b : V) (r s : Nat) : V.hasB (V.join a b) r s = true ↔ V.hasB a r s = true ∨ V.hasB b r s = true := by
  simp only [has_iff]
  constructor
  · rintro ⟨h1, h2⟩
    have hr : r < 16 := by have : r < 16 ∧ 1 ≤ s ∧ s ≤ 1048576 := by simpa [V.dotB] using h1
                           exact this.1
    rw [V.join_at a b hr] at h2
    by_cases h : s ≤ a.at_ r
    · exact .inl ⟨h1, h⟩
    · exact .inr ⟨h1, by omega⟩
  · rintro (⟨h1, h2⟩ | ⟨h1, h2⟩)
    all_goals
      have hr : r < 16 := by have : r < 16 ∧ 1 ≤ s ∧ s ≤ 1048576 := by simpa [V.dotB] using h1
                             exact this.1
      rw [V.join_at a b hr]
      exact ⟨h1, by omega⟩
theorem has_zero (r s : Nat) : V.hasB V.zero r s = false := by
  rw [← Bool.not_eq_true, has_iff]
  rintro ⟨h1, h2⟩
  have : r < 16 ∧ 1 ≤ s ∧ s ≤ 1048576 := by simpa [V.dotB] using h1
  rw [V.zero_at] at h2
  omega

/-- What has an aim. -/
theorem aim_iff (o : O) (a : Aim) : aimOf o = some a ↔ (o.k = 5 ∧ a = (5, o.c, 0)) ∨ ((o.k = 3 ∨ o.k = 2) ∧ a = (o.k, o.c, o.i)) := by
  unfold aimOf
  split
  · rename_i h
    simp only [Option.some.injEq]
    constructor
    · rintro rfl; exact .inl ⟨h, rfl⟩
    · rintro (⟨_, rfl⟩ | ⟨h2, _⟩)
      · rfl
      · omega
  · rename_i h
    split
    · rename_i h2
      simp only [Option.some.injEq]
      constructor
      · rintro rfl; exact .inr ⟨h2, rfl⟩
      · rintro (⟨h3, _⟩ | ⟨_, rfl⟩)
        · omega
        · rfl
    · rename_i h2
      constructor
      · intro h3; cases h3
      · rintro (⟨h3, _⟩ | ⟨h3, _⟩)
        · omega
        · exact absurd h3 h2

/-- The merged operation of an aim. -/
structure Merged (l : List O) (a : Aim) (e : O) : Prop where
  k : e.k = a.1
  c : e.c = a.2.1
  i : a.1 = 5 ∨ e.i = a.2.2
  has : ∀ r s, V.hasB e.v r s = true ↔ ∃ o ∈ l, aimOf o = some a ∧ V.hasB o.v r s = true

theorem end_snoc (l : List O) (o : O) : endO (l ++ [o]) = endStep (endO l) o := by simp [endO]
theorem end_what : ∀ (n : Nat) (l : List O), l.length = n → ∀ a, (∀ e, endO l a = some e → Merged l a e) ∧ (endO l a = none → ∀ o ∈ l, aimOf o ≠ some a)
  | 0, l, h, a => by
    obtain rfl := List.eq_nil_of_length_eq_zero h
    exact ⟨fun e he => by simp [endO] at he, fun _ => by simp⟩
  | n + 1, l, h, a => by
    obtain ⟨m, o, rfl⟩ : ∃ m o, l = m ++ [o] := by
      rcases List.eq_nil_or_concat l with rfl | ⟨m, o, rfl⟩
      · simp at h
      · exact ⟨m, o, by simp⟩
    have ih := end_what n m (by simpa using h)
    rw [end_snoc]
    cases ho : aimOf o with
    | none =>
      have e1 : endStep (endO m) o = endO m := by unfold endStep; rw [ho]
      rw [e1]
      refine ⟨fun e he => ?_, fun hn p hp => ?_⟩
      · have := (ih a).1 e he
        refine ⟨this.k, this.c, this.i, fun r s => ?_⟩
        rw [this.has]
        constructor
        · rintro ⟨p, hp, h1⟩; exact ⟨p, List.mem_append_left _ hp, h1⟩
        · rintro ⟨p, hp, h1, h2⟩
          rcases List.mem_append.1 hp with hp | hp
          · exact ⟨p, hp, h1, h2⟩
          · obtain rfl : p = o := by simpa using hp
            rw [ho] at h1; cases h1
      · rcases List.mem_append.1 hp with hp | hp
        · exact (ih a).2 hn p hp
        · obtain rfl : p = o := by simpa using hp
          rw [ho]; simp
    | some b =>
      have e1 : ∀ x, endStep (endO m) o x = if x = b then some (withV o (V.join o.v (vOf (endO m b)))) else endO m x := fun x => by
        unfold endStep; rw [ho]
      by_cases hab : a = b
      · subst hab
        rw [e1, if_pos rfl]
        refine ⟨fun e he => ?_, fun hn => by cases hn⟩
        obtain rfl := Option.some.inj he
        have hk : o.k = a.1 ∧ o.c = a.2.1 ∧ (a.1 = 5 ∨ o.i = a.2.2) := by
          rcases (aim_iff o a).1 ho with ⟨h1, rfl⟩ | ⟨h1, rfl⟩
          · exact ⟨h1, rfl, .inl rfl⟩
          · exact ⟨rfl, rfl, .inr rfl⟩
        refine ⟨hk.1, hk.2.1, hk.2.2, fun r s => ?_⟩
        show V.hasB (V.join o.v (vOf (endO m a))) r s = true ↔ _
        rw [has_join]
        constructor
        · rintro (h1 | h1)
          · exact ⟨o, by simp, ho, h1⟩
          · cases hm : endO m a with
            | none => rw [hm] at h1; have h2 := has_zero r s; rw [show vOf none = V.zero from rfl, h2] at h1; cases h1
            | some x =>
              rw [hm] at h1
              obtain ⟨p, hp, h2⟩ := (((ih a).1 x hm).has r s).1 h1
              exact ⟨p, List.mem_append_left _ hp, h2⟩
        · rintro ⟨p, hp, h1, h2⟩
          rcases List.mem_append.1 hp with hp | hp
          · right
            cases hm : endO m a with
            | none => exact absurd h1 ((ih a).2 hm p hp)
            | some x => exact (((ih a).1 x hm).has r s).2 ⟨p, hp, h1, h2⟩
          · obtain rfl : p = o := by simpa using hp
            exact .inl h2
      · rw [e1, if_neg hab]
        refine ⟨fun e he => ?_, fun hn p hp => ?_⟩
        · have := (ih a).1 e he
          refine ⟨this.k, this.c, this.i, fun r s => ?_⟩
          rw [this.has]
          constructor
          · rintro ⟨p, hp, h1⟩; exact ⟨p, List.mem_append_left _ hp, h1⟩
          · rintro ⟨p, hp, h1, h2⟩
            rcases List.mem_append.1 hp with hp | hp
            · exact ⟨p, hp, h1, h2⟩
            · obtain rfl : p = o := by simpa using hp
              rw [ho] at h1
              exact absurd (Option.some.inj h1).symm hab
        · rcases List.mem_append.1 hp with hp | hp
          · exact (ih a).2 hn p hp
          · obtain rfl : p = o := by simpa using hp
            rw [ho]
            intro h1
            exact hab (Option.some.inj h1).symm

def endAt (l : List O) (a : Aim) : O := (endO l a).getD O.zero
/-- An aim's merged operation ends an entry just if one with that aim does. -/
theorem ends_at (l : List O) (a : Aim) (e : O) (h5 : a.1 = 5 ∨ a.1 = 3 ∨ a.1 = 2) : O.endsB (endAt l a) e = true ↔ (a.1 = 5 ∨ a.2.2 = e.i) ∧ ∃ o ∈ l, aimOf o = some a ∧ O.endsB o e = true := by
  have hw := end_what l.length l rfl a
  unfold endAt
  cases hm : endO l a with
  | none =>
    have hn := hw.2 hm
    constructor
    · intro h
      simp only [Option.getD_none, O.endsB, decide_eq_true_eq] at h
      have : O.zero.k = 0 := rfl
      omega
    · rintro ⟨_, o, ho, h1, _⟩
      exact absurd h1 (hn o ho)
  | some x =>
    have hx := hw.1 x hm
    simp only [Option.getD_some]
    unfold O.endsB
    simp only [decide_eq_true_eq]
    rw [hx.has, hx.k, hx.c]
    constructor
    · rintro ⟨h1, h2, ⟨o, ho, h3, h4⟩, h6⟩
      refine ⟨?_, o, ho, h3, ?_⟩
      · rcases h6 with h6 | ⟨h6, h7, h8⟩
        · exact .inl h6
        · rcases hx.i with h9 | h9
          · exact .inl h9
          · exact .inr (by rw [← h9]; exact h8)
      · rcases (aim_iff o a).1 h3 with ⟨k1, rfl⟩ | ⟨k1, rfl⟩
        · exact ⟨h1, h2, h4, .inl k1⟩
        · refine ⟨h1, h2, h4, .inr ⟨k1, ?_⟩⟩
          simp only at h6
          rcases h6 with h6 | ⟨_, h7, h8⟩
          · omega
          · rcases hx.i with h9 | h9
            · simp only at h9; omega
            · simp only at h9; exact ⟨h7, by rw [← h9]; exact h8⟩
    · rintro ⟨h0, o, ho, h3, h4, h2, h6, h7⟩
      rcases (aim_iff o a).1 h3 with ⟨k1, rfl⟩ | ⟨k1, rfl⟩
      · exact ⟨h4, h2, ⟨o, ho, h3, h6⟩, .inl rfl⟩
      · refine ⟨h4, h2, ⟨o, ho, h3, h6⟩, .inr ⟨k1, ?_⟩⟩
        rcases h7 with h7 | ⟨_, h8, h9⟩
        · omega
        · rcases hx.i with h10 | h10
          · simp only at h10; omega
          · simp only at h10; exact ⟨h8, by rw [h10]; exact h9⟩
theorem ended_eq (l : List O) (e : O) : (O.endsB (endAt l (5, e.c, 0)) e || O.endsB (endAt l (3, e.c, e.i)) e || O.endsB (endAt l (2, e.c, e.i)) e) = l.any fun o => O.endsB o e := by
  rw [Bool.eq_iff_iff]
  have E1 := ends_at l (5, e.c, 0) e (.inl rfl)
  have E2 := ends_at l (3, e.c, e.i) e (.inr (.inl rfl))
  have E3 := ends_at l (2, e.c, e.i) e (.inr (.inr rfl))
  rw [Bool.or_eq_true, Bool.or_eq_true, E1, E2, E3, List.any_eq_true]
  constructor
  · rintro ((⟨_, o, ho, _, h⟩ | ⟨_, o, ho, _, h⟩) | ⟨_, o, ho, _, h⟩)
    all_goals exact ⟨o, ho, h⟩
  · rintro ⟨o, ho, h⟩
    have h' := h
    simp only [O.endsB, decide_eq_true_eq] at h'
    obtain ⟨h1, h2, h3, h4⟩ := h'
    rcases h4 with h4 | ⟨h4 | h4, h5, h6⟩
    · exact .inl (.inl ⟨.inl rfl, o, ho, (aim_iff _ _).2 (.inl ⟨h4, by rw [h2]⟩), h⟩)
    · exact .inl (.inr ⟨.inr rfl, o, ho, (aim_iff _ _).2 (.inr ⟨.inl h4, by rw [h2, h6, h4]⟩), h⟩)
    · exact .inr ⟨.inr rfl, o, ho, (aim_iff _ _).2 (.inr ⟨.inr h4, by rw [h2, h6, h4]⟩), h⟩
theorem live_eq (l : List O) (e : O) : liveB l e = (e.laysB && !(l.any fun o => O.endsB o e)) := by
  unfold liveB
  congr 1
  rw [Bool.eq_iff_iff]
  simp

end Fold
end Go.Proofs.Ytmibfbbkjejkmaa
