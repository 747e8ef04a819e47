/- The meaning of a list of operations, as plain lists: which are live, the carts, what a vector means, closed lists, and what is seen of a cart. No program. -/
import Derived.Test.YtmibfbbkjejkmaaOm
namespace Go.Proofs.Ytmibfbbkjejkmaa
namespace Fold

/-- Live in a list. -/
def liveB (l : List O) (p : O) : Bool := p.laysB && l.all fun o => !O.endsB o p
def carts (l : List O) : List Nat := (List.range 65536).filter fun c => l.any fun o => decide (o.c = c)
def under (l : List O) (v : V) : List O := l.filter fun o => V.hasB v o.r o.s
/-- Closed: the dots valid and unlike, and each dot that one knew is there. -/
structure Closed (l : List O) : Prop where
  valid : ∀ o ∈ l, V.dotB o.r o.s = true
  unlike : l.Pairwise fun a b => ¬ (a.r = b.r ∧ a.s = b.s)
  known : ∀ o ∈ l, ∀ r s, V.hasB o.v r s = true → ∃ p ∈ l, p.r = r ∧ p.s = s

def tickTo (c : Nat) : List O → Nat
  | [] => 0
  | o :: l => if o.c = c then max o.t (tickTo c l) else tickTo c l
def outB (l : List O) (c : Nat) : Bool := l.any fun o => decide (o.c = c ∧ o.k = 4) && liveB l o
/-- Of a cart's item, and live. -/
def ofB (l : List O) (c i : Nat) (o : O) : Bool := decide (o.c = c ∧ o.i = i ∧ o.k ≠ 4) && liveB l o
def items (l : List O) (c : Nat) : List Nat := (List.range 65536).filter fun i => l.any (ofB l c i)
/-- The sum of the live Adds of some operations. -/
def addsOf (b : O → Bool) : List O → Nat
  | [] => 0
  | o :: m => (if o.k = 1 ∧ b o = true then o.q else 0) + addsOf b m
/-- The greater one of two, the former one if neither is. -/
def over (x : Option O) (o : O) : Option O :=
  match x with
  | none => some o
  | some y => if O.lessB y o = true then some o else some y
def pick (b : O → Bool) (x : Option O) (o : O) : Option O := if o.k = 2 ∧ b o = true then over x o else x
/-- The first of the greatest ones. -/
def bestOf (b : O → Bool) : Option O → List O → Option O
  | x, [] => x
  | x, o :: m => bestOf b (pick b x o) m
def qtyOf : Option O → Nat
  | none => 0
  | some o => o.q
def qty (l : List O) (c i : Nat) : Nat := (addsOf (ofB l c i) l + qtyOf (bestOf (ofB l c i) none l)) % 4294967296
def lines (l : List O) (c : Nat) : List (Nat × Nat) := (items l c).map fun i => (i, qty l c i)

/-! What hangs on which operations. -/
theorem live_congr {l m : List O} {p : O} (h : ∀ o, O.endsB o p = true → (o ∈ l ↔ o ∈ m)) : liveB l p = liveB m p := by
  unfold liveB
  congr 1
  rw [Bool.eq_iff_iff]
  simp only [List.all_eq_true, Bool.not_eq_true']
  constructor
  · intro h1 o ho
    cases he : O.endsB o p
    · rfl
    · rw [← he]; exact h1 o ((h o he).2 ho)
  · intro h1 o ho
    cases he : O.endsB o p
    · rfl
    · rw [← he]; exact h1 o ((h o he).1 ho)
theorem ends_cart {o p : O} (h : O.endsB o p = true) : o.c = p.c := by
  simp only [O.endsB, decide_eq_true_eq] at h
  exact h.2.1
theorem live_perm {l m : List O} (h : l.Perm m) (p : O) : liveB l p = liveB m p := live_congr fun _ _ => h.mem_iff
theorem any_perm {α : Type} {l m : List α} (h : l.Perm m) (b : α → Bool) : l.any b = m.any b := by
  rw [Bool.eq_iff_iff]
  simp only [List.any_eq_true]
  constructor
  · rintro ⟨x, hx, hb⟩; exact ⟨x, h.mem_iff.1 hx, hb⟩
  · rintro ⟨x, hx, hb⟩; exact ⟨x, h.mem_iff.2 hx, hb⟩
theorem of_perm {l m : List O} (h : l.Perm m) (c i : Nat) : ofB l c i = ofB m c i := by
  funext o
  unfold ofB
  rw [live_perm h]
theorem carts_perm {l m : List O} (h : l.Perm m) : carts l = carts m := by
  unfold carts
  congr 1
  funext c
  exact any_perm h _
theorem items_perm {l m : List O} (h : l.Perm m) (c : Nat) : items l c = items m c := by
  unfold items
  congr 1
  funext i
  rw [of_perm h, any_perm h]
theorem out_perm {l m : List O} (h : l.Perm m) (c : Nat) : outB l c = outB m c := by
  unfold outB
  rw [any_perm h]
  congr 1
  funext o
  rw [live_perm h]
theorem tick_perm {l m : List O} (h : l.Perm m) (c : Nat) : tickTo c l = tickTo c m := by
  induction h with
  | nil => rfl
  | cons x _ ih => simp only [tickTo, ih]
  | swap x y l => simp only [tickTo]; split <;> split <;> omega
  | trans _ _ ih1 ih2 => exact ih1.trans ih2
theorem adds_perm {l m : List O} (h : l.Perm m) (b : O → Bool) : addsOf b l = addsOf b m := by
  induction h with
  | nil => rfl
  | cons x _ ih => simp only [addsOf, ih]
  | swap x y l => simp only [addsOf]; omega
  | trans _ _ ih1 ih2 => exact ih1.trans ih2

/-- Where dots are unlike, one of two comes first. -/
theorem less_iff (a b : O) : O.lessB a b = true ↔ (a.count < b.count ∨ (a.count = b.count ∧ (a.r < b.r ∨ (a.r = b.r ∧ a.s < b.s)))) := by
  unfold O.lessB; rw [decide_eq_true_eq]
theorem less_or {a b : O} (h : ¬ (a.r = b.r ∧ a.s = b.s)) : O.lessB a b = true ∨ O.lessB b a = true := by
  rw [less_iff, less_iff]
  omega

/-- What the first of the greatest ones is: of the start and the list, and none is above it. -/
theorem best_what (b : O → Bool) : ∀ (l : List O) (x : Option O), (∀ y, bestOf b x l = some y → x = some y ∨ (y ∈ l ∧ y.k = 2 ∧ b y = true)) ∧
    (∀ y, bestOf b x l = some y → (∀ z, x = some z → O.lessB y z = false) ∧ ∀ z ∈ l, z.k = 2 → b z = true → O.lessB y z = false) ∧
    (bestOf b x l = none → x = none ∧ ∀ z ∈ l, ¬ (z.k = 2 ∧ b z = true))
  | [], x => by
    refine ⟨fun y h => .inl h, fun y h => ⟨fun z hz => ?_, by simp⟩, fun h => ⟨h, by simp⟩⟩
    have h1 : x = some y := h
    rw [h1] at hz
    obtain rfl := Option.some.inj hz
    rw [← Bool.not_eq_true, less_iff]
    omega
  | o :: m, x => by
    have ih := best_what b m (pick b x o)
    by_cases hc : o.k = 2 ∧ b o = true
    · have e0 : pick b x o = over x o := if_pos hc
      rw [e0] at ih
      have e : bestOf b x (o :: m) = bestOf b (over x o) m := by rw [← e0]; rfl
      rw [e]
      cases x with
      | none =>
        have e1 : over none o = some o := rfl
        rw [e1] at ih ⊢
        obtain ⟨i1, i2, i3⟩ := ih
        refine ⟨fun y h => ?_, fun y h => ⟨by simp, fun z hz h1 h2 => ?_⟩, fun h => ?_⟩
        · rcases i1 y h with h1 | ⟨h1, h2, h3⟩
          · obtain rfl := Option.some.inj h1
            exact .inr ⟨List.mem_cons_self, hc⟩
          · exact .inr ⟨List.mem_cons_of_mem _ h1, h2, h3⟩
        · obtain ⟨j1, j2⟩ := i2 y h
          rcases List.mem_cons.1 hz with rfl | hz
          · exact j1 _ rfl
          · exact j2 z hz h1 h2
        · exact absurd (i3 h).1 (by simp)
      | some w =>
        cases hw : O.lessB w o
        · have e1 : over (some w) o = some w := by simp [over, hw]
          rw [e1] at ih ⊢
          obtain ⟨i1, i2, i3⟩ := ih
          refine ⟨fun y h => ?_, fun y h => ?_, fun h => absurd (i3 h).1 (by simp)⟩
          · rcases i1 y h with h1 | ⟨h1, h2, h3⟩
            · exact .inl h1
            · exact .inr ⟨List.mem_cons_of_mem _ h1, h2, h3⟩
          · obtain ⟨j1, j2⟩ := i2 y h
            refine ⟨j1, fun z hz h1 h2 => ?_⟩
            rcases List.mem_cons.1 hz with rfl | hz
            · have h3 := j1 w rfl
              rw [← Bool.not_eq_true, less_iff] at h3 hw ⊢
              omega
            · exact j2 z hz h1 h2
        · have e1 : over (some w) o = some o := by simp [over, hw]
          rw [e1] at ih ⊢
          obtain ⟨i1, i2, i3⟩ := ih
          refine ⟨fun y h => ?_, fun y h => ?_, fun h => absurd (i3 h).1 (by simp)⟩
          · rcases i1 y h with h1 | ⟨h1, h2, h3⟩
            · obtain rfl := Option.some.inj h1
              exact .inr ⟨List.mem_cons_self, hc⟩
            · exact .inr ⟨List.mem_cons_of_mem _ h1, h2, h3⟩
          · obtain ⟨j1, j2⟩ := i2 y h
            refine ⟨fun z hz => ?_, fun z hz h1 h2 => ?_⟩
            · obtain rfl := Option.some.inj hz
              have h3 := j1 o rfl
              rw [← Bool.not_eq_true, less_iff] at h3 ⊢
              rw [less_iff] at hw
              omega
            · rcases List.mem_cons.1 hz with rfl | hz
              · exact j1 _ rfl
              · exact j2 z hz h1 h2
    · have e0 : pick b x o = x := if_neg hc
      rw [e0] at ih
      have e : bestOf b x (o :: m) = bestOf b x m := by rw [show bestOf b x (o :: m) = bestOf b (pick b x o) m from rfl, e0]
      rw [e]
      obtain ⟨i1, i2, i3⟩ := ih
      refine ⟨fun y h => ?_, fun y h => ?_, fun h => ?_⟩
      · rcases i1 y h with h1 | ⟨h1, h2, h3⟩
        · exact .inl h1
        · exact .inr ⟨List.mem_cons_of_mem _ h1, h2, h3⟩
      · obtain ⟨j1, j2⟩ := i2 y h
        refine ⟨j1, fun z hz h1 h2 => ?_⟩
        rcases List.mem_cons.1 hz with rfl | hz
        · exact absurd ⟨h1, h2⟩ hc
        · exact j2 z hz h1 h2
      · obtain ⟨j1, j2⟩ := i3 h
        refine ⟨j1, fun z hz => ?_⟩
        rcases List.mem_cons.1 hz with rfl | hz
        · exact hc
        · exact j2 z hz

/-- Dots that are unlike. -/
def Unlike (l : List O) : Prop := ∀ a ∈ l, ∀ b ∈ l, a.r = b.r ∧ a.s = b.s → a = b
theorem best_unlike {l m : List O} (hu : Unlike l) (hm : ∀ o, o ∈ l ↔ o ∈ m) (b : O → Bool) : bestOf b none l = bestOf b none m := by
  obtain ⟨a1, a2, a3⟩ := best_what b l none
  obtain ⟨b1, b2, b3⟩ := best_what b m none
  cases hx : bestOf b none l with
  | none =>
    cases hy : bestOf b none m with
    | none => rfl
    | some y =>
      rcases b1 y hy with h | ⟨h1, h2, h3⟩
      · cases h
      · exact absurd ⟨h2, h3⟩ ((a3 hx).2 y ((hm y).2 h1))
  | some x =>
    rcases a1 x hx with h | ⟨h1, h2, h3⟩
    · cases h
    · cases hy : bestOf b none m with
      | none => exact absurd ⟨h2, h3⟩ ((b3 hy).2 x ((hm x).1 h1))
      | some y =>
        rcases b1 y hy with h | ⟨k1, k2, k3⟩
        · cases h
        · have e1 := (a2 x hx).2 y ((hm y).2 k1) k2 k3
          have e2 := (b2 y hy).2 x ((hm x).1 h1) h2 h3
          congr 1
          by_cases hd : x.r = y.r ∧ x.s = y.s
          · exact hu x h1 y ((hm y).2 k1) hd
          · rcases less_or hd with h | h
            · rw [h] at e1; cases e1
            · rw [h] at e2; cases e2
theorem lines_perm {l m : List O} (h : l.Perm m) (hu : Unlike l) (c : Nat) : lines l c = lines m c := by
  unfold lines
  rw [items_perm h]
  congr 1
  funext i
  unfold qty
  rw [of_perm h, adds_perm h, best_unlike hu (fun o => h.mem_iff)]

end Fold
end Go.Proofs.Ytmibfbbkjejkmaa
