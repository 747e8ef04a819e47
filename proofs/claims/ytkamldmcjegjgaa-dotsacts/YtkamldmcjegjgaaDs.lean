/- Sets of dots: a vector and a strictly rising list of loose dots. What adding a dot makes of them, what is missing, and that a set has one such form. Plain numbers, no program. -/
import Derived.Test.YtkamldmcjegjgaaV
namespace Go.Proofs.Ytkamldmcjegjgaa

/-- A dot: its replica and its number. -/
abbrev Dt := Nat × Nat

/-- By replica, then by number. -/
def Dlt (a b : Dt) : Prop := a.1 < b.1 ∨ (a.1 = b.1 ∧ a.2 < b.2)
instance (a b : Dt) : Decidable (Dlt a b) := inferInstanceAs (Decidable (_ ∨ _))

theorem Dlt.irrefl (a : Dt) : ¬ Dlt a a := by unfold Dlt; omega
theorem Dlt.trans {a b c : Dt} (h : Dlt a b) (k : Dlt b c) : Dlt a c := by unfold Dlt at *; omega
theorem Dlt.total {a b : Dt} (h : a ≠ b) : Dlt a b ∨ Dlt b a := by
  unfold Dlt
  by_cases e : a.1 = b.1
  · have : a.2 ≠ b.2 := fun e2 => h (Prod.ext e e2)
    omega
  · omega

/-- Strictly rising. -/
def Srt (l : List Dt) : Prop := l.Pairwise Dlt

theorem srt_ext : ∀ {l m : List Dt}, Srt l → Srt m → (∀ x, x ∈ l ↔ x ∈ m) → l = m
  | [], [], _, _, _ => rfl
  | [], b :: s, _, _, h => by have := (h b).2 (by simp); simp at this
  | a :: r, [], _, _, h => by have := (h a).1 (by simp); simp at this
  | a :: r, b :: s, h1, h2, h => by
    obtain ⟨a1, a2⟩ := List.pairwise_cons.1 h1
    obtain ⟨b1, b2⟩ := List.pairwise_cons.1 h2
    have hab : a = b := by
      rcases List.mem_cons.1 ((h a).1 (by simp)) with e | ha
      · exact e
      · rcases List.mem_cons.1 ((h b).2 (by simp)) with e | hb
        · exact e.symm
        · exact absurd ((a1 b hb).trans (b1 a ha)) (Dlt.irrefl _)
    subst hab
    rw [srt_ext a2 b2 (fun p => ⟨fun hp => by
      rcases List.mem_cons.1 ((h p).1 (by simp [hp])) with e | hp'
      · exact absurd (e ▸ a1 p hp) (Dlt.irrefl _)
      · exact hp', fun hp => by
      rcases List.mem_cons.1 ((h p).2 (by simp [hp])) with e | hp'
      · exact absurd (e ▸ b1 p hp) (Dlt.irrefl _)
      · exact hp'⟩)]

theorem srt_nodup {l : List Dt} (h : Srt l) : l.Nodup := List.Pairwise.imp (fun {a b} (hab : Dlt a b) (e : a = b) => Dlt.irrefl b (e ▸ hab)) h

/-- One more, at its place. -/
def ins (x : Dt) : List Dt → List Dt
  | [] => [x]
  | y :: r => if Dlt x y then x :: y :: r else y :: ins x r

theorem mem_ins (x y : Dt) : ∀ l, y ∈ ins x l ↔ y = x ∨ y ∈ l
  | [] => by simp [ins]
  | z :: r => by
    unfold ins
    split
    · simp
    · simp only [List.mem_cons, mem_ins x y r]
      constructor
      · rintro (h | h | h)
        · exact .inr (.inl h)
        · exact .inl h
        · exact .inr (.inr h)
      · rintro (h | h | h)
        · exact .inr (.inl h)
        · exact .inl h
        · exact .inr (.inr h)
theorem len_ins (x : Dt) : ∀ l, (ins x l).length = l.length + 1
  | [] => rfl
  | z :: r => by
    unfold ins
    split
    · simp
    · simp [len_ins x r]
theorem srt_ins (x : Dt) : ∀ l, Srt l → x ∉ l → Srt (ins x l)
  | [], _, _ => by simp [ins, Srt]
  | z :: r, h, hn => by
    obtain ⟨h1, h2⟩ := List.pairwise_cons.1 h
    unfold ins
    split
    · rename_i hx
      refine List.pairwise_cons.2 ⟨fun q hq => ?_, h⟩
      rcases List.mem_cons.1 hq with rfl | hq
      · exact hx
      · exact hx.trans (h1 q hq)
    · rename_i hx
      have hz : Dlt z x := (Dlt.total (fun e => hn (by rw [e]; simp))).resolve_right hx
      refine List.pairwise_cons.2 ⟨fun q hq => ?_, srt_ins x r h2 (fun h => hn (by simp [h]))⟩
      rcases (mem_ins x q r).1 hq with rfl | hq
      · exact hz
      · exact h1 q hq

/-- One less. -/
def del (x : Dt) (l : List Dt) : List Dt := l.filter fun y => decide (y ≠ x)
theorem mem_del (x y : Dt) (l : List Dt) : y ∈ del x l ↔ y ∈ l ∧ y ≠ x := by simp [del]
theorem srt_del (x : Dt) {l : List Dt} (h : Srt l) : Srt (del x l) := List.Pairwise.filter _ h
theorem len_del (x : Dt) : ∀ {l : List Dt}, Srt l → x ∈ l → (del x l).length + 1 = l.length
  | [], _, h => by simp at h
  | z :: r, h, hm => by
    obtain ⟨h1, h2⟩ := List.pairwise_cons.1 h
    by_cases e : z = x
    · subst e
      have hr : r.filter (fun y => decide (y ≠ z)) = r := List.filter_eq_self.2 fun y hy => by
        have : y ≠ z := fun e => Dlt.irrefl z (e ▸ h1 y hy)
        simpa using this
      simp only [del, List.filter_cons]
      rw [if_neg (by simp), hr]
      rfl
    · have hx : x ∈ r := (List.mem_cons.1 hm).resolve_left (fun h => e h.symm)
      have ih := len_del x h2 hx
      simp only [del, List.filter_cons] at ih ⊢
      rw [if_pos (by simpa using e)]
      simp only [List.length_cons]
      omega

theorem dotB_iff (r s : Nat) : V.dotB r s = true ↔ r < 16 ∧ 1 ≤ s ∧ s ≤ 1048576 := by simp [V.dotB]
theorem hasB_iff (v : V) (r s : Nat) : V.hasB v r s = true ↔ (r < 16 ∧ 1 ≤ s ∧ s ≤ 1048576) ∧ s ≤ v.at_ r := by simp [V.hasB, V.dotB]

/-- In the set. -/
def In (c : V) (L : List Dt) (x : Dt) : Prop := V.hasB c x.1 x.2 = true ∨ x ∈ L
def inB (c : V) (L : List Dt) (x : Dt) : Bool := V.hasB c x.1 x.2 || decide (x ∈ L)
theorem inB_iff (c : V) (L : List Dt) (x : Dt) : inB c L x = true ↔ In c L x := by simp [inB, In]

/-- The form of a set: nothing that is loose is just behind what is closed. -/
structure Norm (c : V) (L : List Dt) : Prop where
  srt : Srt L
  top : ∀ r, r < 16 → c.at_ r ≤ 1048576
  mem : ∀ x ∈ L, x.1 < 16 ∧ x.2 ≤ 1048576 ∧ c.at_ x.1 + 1 < x.2

theorem Norm.not_next {c : V} {L : List Dt} (h : Norm c L) (r : Nat) : ¬ In c L (r, c.at_ r + 1) := by
  rintro (h1 | h1)
  · have := ((hasB_iff _ _ _).1 h1).2
    simp only at this
    omega
  · have := (h.mem _ h1).2.2
    simp only at this
    omega

theorem below_of {c d : V} {L M : List Dt} (h : Norm c L) (k : ∀ r, r < 16 → d.at_ r ≤ 1048576) (e : ∀ x, In d M x → In c L x) {r : Nat} (hr : r < 16) : d.at_ r ≤ c.at_ r := by
  rcases Nat.lt_or_ge (c.at_ r) (d.at_ r) with hlt | hge
  · refine absurd (e (r, c.at_ r + 1) (.inl ((hasB_iff _ _ _).2 ⟨⟨hr, by omega, ?_⟩, by simp only; omega⟩))) (h.not_next r)
    have := k r hr
    simp only; omega
  · exact hge

theorem norm_ext {c d : V} {L M : List Dt} (h : Norm c L) (k : Norm d M) (e : ∀ x, In c L x ↔ In d M x) : c = d ∧ L = M := by
  have hc : c = d := V.ext fun r hr => Nat.le_antisymm (below_of k h.top (fun x hx => (e x).1 hx) hr) (below_of h k.top (fun x hx => (e x).2 hx) hr)
  subst hc
  refine ⟨rfl, srt_ext h.srt k.srt fun x => ?_⟩
  have loose : ∀ {L M : List Dt}, Norm c L → (∀ x, In c L x → In c M x) → x ∈ L → x ∈ M := by
    intro L M h e hx
    rcases e x (.inr hx) with h1 | h1
    · have := ((hasB_iff _ _ _).1 h1).2
      have := (h.mem x hx).2.2
      omega
    · exact h1
  exact ⟨loose h fun x => (e x).1, loose k fun x => (e x).2⟩

/-- What Add answers. -/
def addE (c : V) (L : List Dt) (x : Dt) : Nat := if V.dotB x.1 x.2 = false then 2 else if inB c L x = true then 8 else if c.at_ x.1 + 256 < x.2 then 10 else 0

/-- What it makes. -/
structure Added (c : V) (L : List Dt) (x : Dt) (c' : V) (L' : List Dt) : Prop where
  norm : Norm c' L'
  sum : V.sum c' + L'.length = V.sum c + L.length + 1
  mem : ∀ y, In c' L' y ↔ In c L y ∨ y = x
  len : L'.length ≤ L.length + 1
def AddR (c : V) (L : List Dt) (x : Dt) (c' : V) (L' : List Dt) : Prop := if addE c L x = 0 then Added c L x c' L' else c' = c ∧ L' = L

theorem addE_cases (c : V) (L : List Dt) (x : Dt) : addE c L x = 0 ∨ addE c L x = 2 ∨ addE c L x = 8 ∨ addE c L x = 10 := by
  unfold addE
  split
  · simp
  · split
    · simp
    · split <;> simp

theorem AddR.norm {c : V} {L : List Dt} {x : Dt} {c' : V} {L' : List Dt} (h : AddR c L x c' L') (hn : Norm c L) : Norm c' L' := by
  unfold AddR at h
  split at h
  · exact h.norm
  · obtain ⟨rfl, rfl⟩ := h; exact hn
theorem AddR.len {c : V} {L : List Dt} {x : Dt} {c' : V} {L' : List Dt} (h : AddR c L x c' L') : L'.length ≤ L.length + 1 := by
  unfold AddR at h
  split at h
  · exact h.len
  · obtain ⟨rfl, rfl⟩ := h; omega
theorem AddR.old {c : V} {L : List Dt} {x : Dt} {c' : V} {L' : List Dt} (h : AddR c L x c' L') {y : Dt} (hy : In c L y) : In c' L' y := by
  unfold AddR at h
  split at h
  · exact (h.mem y).2 (.inl hy)
  · obtain ⟨rfl, rfl⟩ := h; exact hy
theorem AddR.took {c : V} {L : List Dt} {x : Dt} {c' : V} {L' : List Dt} (h : AddR c L x c' L') (he : addE c L x = 0) : Added c L x c' L' := by
  unfold AddR at h
  rwa [if_pos he] at h
theorem AddR.left {c : V} {L : List Dt} {x : Dt} {c' : V} {L' : List Dt} (h : AddR c L x c' L') (he : addE c L x ≠ 0) : c' = c ∧ L' = L := by
  unfold AddR at h
  rwa [if_neg he] at h

/-- While loose dots of one replica are taken in. -/
structure Semi (r : Nat) (c : V) (L : List Dt) : Prop where
  srt : Srt L
  top : ∀ i, i < 16 → c.at_ i ≤ 1048576
  mem : ∀ x ∈ L, x.1 < 16 ∧ x.2 ≤ 1048576 ∧ c.at_ x.1 < x.2
  far : ∀ x ∈ L, x.1 ≠ r → c.at_ x.1 + 1 < x.2

theorem Semi.norm {r : Nat} {c : V} {L : List Dt} (h : Semi r c L) (hn : (r, c.at_ r + 1) ∉ L) : Norm c L := by
  refine ⟨h.srt, h.top, fun x hx => ?_⟩
  obtain ⟨h1, h2, h3⟩ := h.mem x hx
  refine ⟨h1, h2, ?_⟩
  by_cases e : x.1 = r
  · rcases Nat.lt_or_ge (c.at_ x.1 + 1) x.2 with hlt | hge
    · exact hlt
    · refine absurd hx ?_
      have : x = (r, c.at_ r + 1) := Prod.ext e (by subst e; show x.2 = _; omega)
      rw [this]; exact hn
  · exact h.far x hx e

theorem sumTo_put (c : V) (r s : Nat) (hs : s < 4294967296) : ∀ k, k ≤ 16 → V.sumTo (c.put r s) k + (if r < k then c.at_ r else 0) = V.sumTo c k + (if r < k then s else 0)
  | 0, _ => by simp [V.sumTo]
  | k + 1, h => by
    have ih := sumTo_put c r s hs k (by omega)
    simp only [V.sumTo]
    rw [V.put_at c r s (by omega : k < 16) hs]
    by_cases e : k = r
    · subst e
      simp only [Nat.lt_irrefl, if_false, Nat.lt_succ_self, if_true] at ih ⊢
      omega
    · by_cases e2 : r < k
      · rw [if_pos e2, if_pos e2] at ih
        rw [if_neg e, if_pos (by omega), if_pos (by omega)]
        omega
      · rw [if_neg e2, if_neg e2] at ih
        rw [if_neg e, if_neg (by omega), if_neg (by omega)]
        omega
theorem sum_put (c : V) {r s : Nat} (hr : r < 16) (hs : s < 4294967296) : V.sum (c.put r s) + c.at_ r = V.sum c + s := by
  have := sumTo_put c r s hs 16 (Nat.le_refl _)
  rwa [if_pos hr, if_pos hr] at this

theorem hasB_put (c : V) {r s : Nat} (hs : s < 4294967296) (y : Dt) : V.hasB (c.put r s) y.1 y.2 = true ↔ (y.1 < 16 ∧ 1 ≤ y.2 ∧ y.2 ≤ 1048576) ∧ y.2 ≤ (if y.1 = r then s else c.at_ y.1) := by
  rw [hasB_iff]
  constructor
  · rintro ⟨h1, h2⟩
    rw [V.put_at c r s h1.1 hs] at h2
    exact ⟨h1, h2⟩
  · rintro ⟨h1, h2⟩
    refine ⟨h1, ?_⟩
    rw [V.put_at c r s h1.1 hs]
    exact h2

/-- One dot more, just behind what is closed. -/
theorem in_put (c : V) (L : List Dt) {r : Nat} (hr : r < 16) (ht : c.at_ r + 1 ≤ 1048576) (y : Dt) : In (c.put r (c.at_ r + 1)) L y ↔ In c L y ∨ y = (r, c.at_ r + 1) := by
  unfold In
  rw [hasB_put c (by omega), hasB_iff]
  constructor
  · rintro (⟨h1, h2⟩ | h)
    · split at h2
      · rename_i e
        by_cases e2 : y.2 = c.at_ r + 1
        · exact .inr (Prod.ext e e2)
        · exact .inl (.inl ⟨h1, by rw [e]; omega⟩)
      · exact .inl (.inl ⟨h1, h2⟩)
    · exact .inl (.inr h)
  · rintro ((⟨h1, h2⟩ | h) | rfl)
    · refine .inl ⟨h1, ?_⟩
      split
      · rename_i e; rw [e] at h2; omega
      · exact h2
    · exact .inr h
    · exact .inl ⟨⟨hr, by simp only; omega, ht⟩, by simp⟩

theorem semi_start {c : V} {L : List Dt} (h : Norm c L) {r : Nat} (ht : c.at_ r + 1 ≤ 1048576) : Semi r (c.put r (c.at_ r + 1)) L := by
  refine ⟨h.srt, fun i hi => ?_, fun x hx => ?_, fun x hx hne => ?_⟩
  · rw [V.put_at c r _ hi (by omega)]
    have := h.top i hi
    split <;> omega
  · obtain ⟨h1, h2, h3⟩ := h.mem x hx
    refine ⟨h1, h2, ?_⟩
    rw [V.put_at c r _ h1 (by omega)]
    split
    · rename_i e; rw [e] at h3; omega
    · omega
  · obtain ⟨h1, h2, h3⟩ := h.mem x hx
    rw [V.put_at c r _ h1 (by omega), if_neg hne]
    exact h3

theorem semi_step {c : V} {L : List Dt} {r : Nat} (h : Semi r c L) (hm : (r, c.at_ r + 1) ∈ L) : Semi r (c.put r (c.at_ r + 1)) (del (r, c.at_ r + 1) L) ∧ (∀ y, In (c.put r (c.at_ r + 1)) (del (r, c.at_ r + 1) L) y ↔ In c L y) ∧
    V.sum (c.put r (c.at_ r + 1)) + (del (r, c.at_ r + 1) L).length = V.sum c + L.length ∧ (del (r, c.at_ r + 1) L).length < L.length := by
  obtain ⟨g1, g2, _⟩ := h.mem _ hm
  simp only at g1 g2
  have hl := len_del _ h.srt hm
  have hs := sum_put c g1 (s := c.at_ r + 1) (by omega)
  refine ⟨⟨srt_del _ h.srt, fun i hi => ?_, fun x hx => ?_, fun x hx hne => ?_⟩, fun y => ?_, by omega, by omega⟩
  · rw [V.put_at c r _ hi (by omega)]
    have := h.top i hi
    split <;> omega
  · obtain ⟨hx, hxn⟩ := (mem_del _ _ _).1 hx
    obtain ⟨h1, h2, h3⟩ := h.mem x hx
    refine ⟨h1, h2, ?_⟩
    rw [V.put_at c r _ h1 (by omega)]
    split
    · rename_i e
      have : x.2 ≠ c.at_ r + 1 := fun e2 => hxn (Prod.ext e e2)
      rw [e] at h3
      omega
    · omega
  · obtain ⟨hx, hxn⟩ := (mem_del _ _ _).1 hx
    rw [V.put_at c r _ (h.mem x hx).1 (by omega), if_neg hne]
    exact h.far x hx hne
  · rw [in_put c _ g1 g2]
    unfold In
    rw [mem_del]
    constructor
    · rintro ((h | h) | rfl)
      · exact .inl h
      · exact .inr h.1
      · exact .inr hm
    · rintro (h | h)
      · exact .inl (.inl h)
      · by_cases e : y = (r, c.at_ r + 1)
        · exact .inr e
        · exact .inl (.inr ⟨h, e⟩)

/-- A loose dot more. -/
theorem added_ins {c : V} {L : List Dt} (h : Norm c L) {x : Dt} (hx : x ∉ L) (h1 : x.1 < 16) (h2 : x.2 ≤ 1048576) (h3 : c.at_ x.1 + 1 < x.2) : Added c L x c (ins x L) := by
  refine ⟨⟨srt_ins x L h.srt hx, h.top, fun y hy => ?_⟩, by rw [len_ins]; omega, fun y => ?_, by rw [len_ins]; omega⟩
  · rcases (mem_ins _ _ _).1 hy with rfl | hy
    · exact ⟨h1, h2, h3⟩
    · exact h.mem y hy
  · unfold In
    rw [mem_ins]
    constructor
    · rintro (h | h | h)
      · exact .inl (.inl h)
      · exact .inr h
      · exact .inl (.inr h)
    · rintro ((h | h) | h)
      · exact .inl h
      · exact .inr (.inr h)
      · exact .inr (.inl h)

/-- Numbers of one replica in a row. -/
def run (r a n : Nat) : List Dt := (List.range n).map fun j => (r, a + j)
theorem mem_run (r a n : Nat) (y : Dt) : y ∈ run r a n ↔ y.1 = r ∧ a ≤ y.2 ∧ y.2 < a + n := by
  simp only [run, List.mem_map, List.mem_range]
  constructor
  · rintro ⟨j, hj, rfl⟩; exact ⟨rfl, by simp only; omega, by simp only; omega⟩
  · rintro ⟨rfl, h1, h2⟩; exact ⟨y.2 - a, by omega, Prod.ext rfl (by simp only; omega)⟩
theorem srt_run (r a n : Nat) : Srt (run r a n) := by
  unfold Srt run
  rw [List.pairwise_map]
  exact List.pairwise_lt_range.imp fun {i j} h => .inr ⟨rfl, by simp only; omega⟩
theorem len_run (r a n : Nat) : (run r a n).length = n := by simp [run]
theorem run_succ (r a n : Nat) : run r a (n + 1) = run r a n ++ [(r, a + n)] := by simp [run, List.range_succ]

/-- What is missing below loose dots. -/
def miss : V → List Dt → List Dt
  | _, [] => []
  | c, x :: L => run x.1 (c.at_ x.1 + 1) (x.2 - (c.at_ x.1 + 1)) ++ miss (c.put x.1 x.2) L

/-- Above what is closed. -/
def Abv (c : V) (L : List Dt) : Prop := ∀ x ∈ L, x.1 < 16 ∧ x.2 ≤ 1048576 ∧ c.at_ x.1 < x.2

theorem abv_step {c : V} {x : Dt} {L : List Dt} (hs : Srt (x :: L)) (h : Abv c (x :: L)) : Abv (c.put x.1 x.2) L := by
  obtain ⟨h1, h2⟩ := List.pairwise_cons.1 hs
  intro y hy
  obtain ⟨g1, g2, g3⟩ := h y (by simp [hy])
  have gx := h x (by simp)
  refine ⟨g1, g2, ?_⟩
  rw [V.put_at c _ _ g1 (by omega)]
  have := h1 y hy
  unfold Dlt at this
  split <;> omega

theorem mem_miss : ∀ (L : List Dt) (c : V), Srt L → Abv c L → ∀ y, y ∈ miss c L ↔ c.at_ y.1 < y.2 ∧ y ∉ L ∧ ∃ x ∈ L, x.1 = y.1 ∧ y.2 < x.2
  | [], c, _, _, y => by simp [miss]
  | x :: L, c, hs, ha, y => by
    obtain ⟨h1, h2⟩ := List.pairwise_cons.1 hs
    have gx := ha x (by simp)
    have ih := mem_miss L (c.put x.1 x.2) h2 (abv_step hs ha) y
    simp only [miss, List.mem_append, mem_run, ih]
    constructor
    · rintro (⟨e, g1, g2⟩ | ⟨g1, g2, z, hz, e, g3⟩)
      · refine ⟨by rw [e]; omega, ?_, x, by simp, e.symm, by omega⟩
        intro hy
        rcases List.mem_cons.1 hy with rfl | hy
        · omega
        · have := h1 y hy
          unfold Dlt at this
          omega
      · have hz1 := (ha z (by simp [hz])).1
        rw [V.put_at c _ _ (by omega) (by omega)] at g1
        refine ⟨?_, ?_, z, by simp [hz], e, g3⟩
        · split at g1
          · rename_i e2; rw [e2]; omega
          · exact g1
        · intro hy
          rcases List.mem_cons.1 hy with rfl | hy
          · simp at g1
          · exact g2 hy
    · rintro ⟨g1, g2, z, hz, e, g3⟩
      have hz1 := (ha z hz).1
      rw [V.put_at c _ _ (by omega) (by omega)]
      by_cases e2 : y.1 = x.1
      · by_cases g4 : y.2 < x.2
        · exact .inl ⟨e2, by rw [e2] at g1; omega, by rw [e2] at g1; omega⟩
        · have hne : y ≠ x := fun h => g2 (by rw [h]; simp)
          have : y.2 ≠ x.2 := fun h => hne (Prod.ext e2 h)
          refine .inr ⟨by rw [if_pos e2]; omega, fun h => g2 (by simp [h]), z, ?_, e, g3⟩
          rcases List.mem_cons.1 hz with rfl | hz
          · omega
          · exact hz
      · refine .inr ⟨by rw [if_neg e2]; exact g1, fun h => g2 (by simp [h]), z, ?_, e, g3⟩
        rcases List.mem_cons.1 hz with rfl | hz
        · exact absurd e.symm e2
        · exact hz

theorem srt_miss : ∀ (L : List Dt) (c : V), Srt L → Abv c L → Srt (miss c L)
  | [], c, _, _ => by simp [miss, Srt]
  | x :: L, c, hs, ha => by
    obtain ⟨h1, h2⟩ := List.pairwise_cons.1 hs
    have gx := ha x (by simp)
    refine List.pairwise_append.2 ⟨srt_run _ _ _, srt_miss L _ h2 (abv_step hs ha), fun p hp q hq => ?_⟩
    obtain ⟨e, g1, g2⟩ := (mem_run _ _ _ _).1 hp
    obtain ⟨k1, k2, z, hz, k3, k4⟩ := (mem_miss L _ h2 (abv_step hs ha) q).1 hq
    have hz1 := (ha z (by simp [hz])).1
    rw [V.put_at c _ _ (by omega) (by omega)] at k1
    have := h1 z hz
    unfold Dlt at this ⊢
    split at k1 <;> omega

theorem len_miss : ∀ (L : List Dt) (c : V), (∀ x ∈ L, x.2 ≤ 1048576) → (miss c L).length ≤ L.length * 1048576
  | [], c, _ => by simp [miss]
  | x :: L, c, h => by
    have ih := len_miss L (c.put x.1 x.2) (fun y hy => h y (by simp [hy]))
    have := h x (by simp)
    simp only [miss, List.length_append, len_run, List.length_cons]
    omega

theorem Norm.abv {c : V} {L : List Dt} (h : Norm c L) : Abv c L := fun x hx => by
  obtain ⟨h1, h2, h3⟩ := h.mem x hx
  exact ⟨h1, h2, by omega⟩

/-- The dots above c, up to t, of which p tells b: those of the first k replicas. -/
def abvTo (c : V) (t : Nat → Nat) (p : Dt → Bool) : Nat → List Dt
  | 0 => []
  | k + 1 => abvTo c t p k ++ (run k (c.at_ k + 1) (t k - c.at_ k)).filter p

theorem mem_abvTo (c : V) (t : Nat → Nat) (p : Dt → Bool) : ∀ k y, y ∈ abvTo c t p k ↔ y.1 < k ∧ c.at_ y.1 < y.2 ∧ y.2 ≤ t y.1 ∧ p y = true
  | 0, y => by simp [abvTo]
  | k + 1, y => by
    simp only [abvTo, List.mem_append, mem_abvTo c t p k y, List.mem_filter, mem_run]
    constructor
    · rintro (⟨h1, h2⟩ | ⟨⟨rfl, h2, h3⟩, h4⟩)
      · exact ⟨by omega, h2⟩
      · exact ⟨by omega, by omega, by omega, h4⟩
    · rintro ⟨h1, h2, h3, h4⟩
      by_cases e : y.1 = k
      · subst e; exact .inr ⟨⟨rfl, by omega, by omega⟩, h4⟩
      · exact .inl ⟨by omega, h2, h3, h4⟩

theorem srt_abvTo (c : V) (t : Nat → Nat) (p : Dt → Bool) : ∀ k, Srt (abvTo c t p k)
  | 0 => by simp [abvTo, Srt]
  | k + 1 => by
    refine List.pairwise_append.2 ⟨srt_abvTo c t p k, (srt_run _ _ _).filter _, fun a ha b hb => ?_⟩
    have h1 := (mem_abvTo c t p k a).1 ha
    have h2 := (mem_run _ _ _ _).1 (List.mem_filter.1 hb).1
    unfold Dlt; omega

theorem len_abvTo (c : V) (t : Nat → Nat) (p : Dt → Bool) (ht : ∀ i, t i ≤ 1048576) : ∀ k, (abvTo c t p k).length ≤ k * 1048576
  | 0 => by simp [abvTo]
  | k + 1 => by
    have h1 := len_abvTo c t p ht k
    have h2 := List.length_filter_le p (run k (c.at_ k + 1) (t k - c.at_ k))
    rw [len_run] at h2
    have := ht k
    simp only [abvTo, List.length_append]
    omega

/-- The greatest number of a replica among v and the first dots. -/
def topN (v : V) (r : Nat) : List Dt → Nat
  | [] => v.at_ r
  | x :: l => if x.1 = r then max (topN v r l) x.2 else topN v r l

/-- The document's set: what v has, and a list. -/
def rin (v : V) (l : List Dt) (x : Dt) : Bool := decide (x ∈ l) || V.hasB v x.1 x.2

theorem topN_spec (v : V) (r : Nat) : ∀ l, v.at_ r ≤ topN v r l ∧ (∀ x ∈ l, x.1 = r → x.2 ≤ topN v r l) ∧ (topN v r l = v.at_ r ∨ ∃ x ∈ l, x.1 = r ∧ x.2 = topN v r l)
  | [] => by simp [topN]
  | x :: l => by
    obtain ⟨h1, h2, h3⟩ := topN_spec v r l
    unfold topN
    split
    · rename_i e
      refine ⟨by omega, fun y hy ey => ?_, ?_⟩
      · rcases List.mem_cons.1 hy with rfl | hy
        · omega
        · have := h2 y hy ey; omega
      · rcases Nat.lt_or_ge (topN v r l) x.2 with hl | hl
        · exact .inr ⟨x, by simp, e, by omega⟩
        · rw [Nat.max_eq_left hl]
          rcases h3 with h3 | ⟨y, hy, e1, e2⟩
          · exact .inl h3
          · exact .inr ⟨y, by simp [hy], e1, e2⟩
    · rename_i e
      refine ⟨h1, fun y hy ey => ?_, ?_⟩
      · rcases List.mem_cons.1 hy with rfl | hy
        · exact absurd ey e
        · exact h2 y hy ey
      · rcases h3 with h3 | ⟨y, hy, e1, e2⟩
        · exact .inl h3
        · exact .inr ⟨y, by simp [hy], e1, e2⟩

/-- The program's set and the document's are the same. -/
structure Link (v : V) (l : List Dt) (c : V) (L : List Dt) : Prop where
  norm : Norm c L
  top : ∀ r, r < 16 → v.at_ r ≤ 1048576
  ok : ∀ x ∈ l, x.1 < 16 ∧ 1 ≤ x.2 ∧ x.2 ≤ 1048576
  same : ∀ x, In c L x ↔ rin v l x = true

theorem Link.inB {v : V} {l : List Dt} {c : V} {L : List Dt} (h : Link v l c L) (x : Dt) : inB c L x = rin v l x := by
  rw [Bool.eq_iff_iff, inB_iff]; exact h.same x
theorem Link.below {v : V} {l : List Dt} {c : V} {L : List Dt} (h : Link v l c L) {r : Nat} (hr : r < 16) : v.at_ r ≤ c.at_ r :=
  below_of (M := []) h.norm h.top (fun x hx => (h.same x).2 (by rcases hx with hx | hx; simp [rin, hx]; simp at hx)) hr
theorem Link.topN_le {v : V} {l : List Dt} {c : V} {L : List Dt} (h : Link v l c L) {r : Nat} (hr : r < 16) : topN v r l ≤ 1048576 := by
  rcases (topN_spec v r l).2.2 with e | ⟨x, hx, _, e⟩
  · rw [e]; exact h.top r hr
  · rw [← e]; exact (h.ok x hx).2.2

/-- A loose dot is one of the list. -/
theorem Link.loose {v : V} {l : List Dt} {c : V} {L : List Dt} (h : Link v l c L) {x : Dt} (hx : x ∈ L) : x ∈ l := by
  have h1 := (h.same x).1 (.inr hx)
  simp only [rin, Bool.or_eq_true, decide_eq_true_eq] at h1
  rcases h1 with h1 | h1
  · exact h1
  · have h2 := (hasB_iff _ _ _).1 h1
    have h3 := h.below h2.1.1
    have := (h.norm.mem x hx).2.2
    omega

theorem Link.is_loose {v : V} {l : List Dt} {c : V} {L : List Dt} (h : Link v l c L) : abvTo c (fun r => topN v r l) (fun x => rin v l x) 16 = L := by
  refine srt_ext (srt_abvTo _ _ _ _) h.norm.srt fun x => ?_
  rw [mem_abvTo]
  constructor
  · rintro ⟨h1, h2, h3, h4⟩
    rcases (h.same x).2 h4 with h5 | h5
    · have := ((hasB_iff _ _ _).1 h5).2; omega
    · exact h5
  · intro hx
    obtain ⟨h1, h2, h3⟩ := h.norm.mem x hx
    exact ⟨h1, by omega, (topN_spec v x.1 l).2.1 x (h.loose hx) rfl, (h.same x).1 (.inr hx)⟩

theorem Link.is_missing {v : V} {l : List Dt} {c : V} {L : List Dt} (h : Link v l c L) : abvTo c (fun r => topN v r l) (fun x => !rin v l x) 16 = miss c L := by
  refine srt_ext (srt_abvTo _ _ _ _) (srt_miss L c h.norm.srt h.norm.abv) fun x => ?_
  rw [mem_abvTo, mem_miss L c h.norm.srt h.norm.abv]
  constructor
  · rintro ⟨h1, h2, h3, h4⟩
    have h5 : ¬ In c L x := fun hh => by rw [(h.same x).1 hh] at h4; cases h4
    refine ⟨h2, fun hx => h5 (.inr hx), ?_⟩
    have hb := h.below h1
    rcases (topN_spec v x.1 l).2.2 with e | ⟨z, hz, e1, e2⟩
    · omega
    · have hin : In c L z := (h.same z).2 (by simp [rin, hz])
      have hne : z.2 ≠ x.2 := fun e => h5 (by
        have : z = x := Prod.ext e1 e
        rwa [this] at hin)
      refine ⟨z, ?_, e1, by omega⟩
      rcases hin with h6 | h6
      · have := ((hasB_iff _ _ _).1 h6).2
        rw [e1] at this
        omega
      · exact h6
  · rintro ⟨h2, h3, z, hz, e, h4⟩
    have hz1 := (h.norm.mem z hz).1
    have h5 : ¬ In c L x := by
      rintro (h6 | h6)
      · have := ((hasB_iff _ _ _).1 h6).2; omega
      · exact h3 h6
    refine ⟨by omega, h2, ?_, ?_⟩
    · have := (topN_spec v x.1 l).2.1 z (h.loose hz) e
      omega
    · cases hh : rin v l x
      · rfl
      · exact absurd ((h.same x).2 hh) h5

theorem link_start {v : V} (h : ∀ r, r < 16 → v.at_ r ≤ 1048576) : Link v [] v [] :=
  ⟨⟨by simp [Srt], h, by simp⟩, h, by simp, fun x => by simp [In, rin]⟩

theorem Link.add {v : V} {l : List Dt} {c : V} {L : List Dt} (h : Link v l c L) {x : Dt} {c' : V} {L' : List Dt} (ha : AddR c L x c' L') : Link v (if addE c L x = 0 then l ++ [x] else l) c' L' := by
  refine ⟨ha.norm h.norm, h.top, ?_, ?_⟩
  · split
    · rename_i he
      intro y hy
      rcases List.mem_append.1 hy with hy | hy
      · exact h.ok y hy
      · obtain rfl : y = x := by simpa using hy
        unfold addE at he
        split at he
        · cases he
        · rename_i hd
          exact (dotB_iff _ _).1 (by simpa using hd)
    · exact h.ok
  · intro y
    by_cases he : addE c L x = 0
    · rw [if_pos he, (ha.took he).mem y, h.same y]
      simp only [rin, Bool.or_eq_true, decide_eq_true_eq, List.mem_append, List.mem_singleton]
      constructor
      · rintro ((h | h) | h)
        · exact .inl (.inl h)
        · exact .inr h
        · exact .inl (.inr h)
      · rintro ((h | h) | h)
        · exact .inl (.inl h)
        · exact .inr h
        · exact .inl (.inr h)
    · rw [if_neg he, (ha.left he).1, (ha.left he).2]
      exact h.same y

/-- What the document's Add answers. -/
def raddE (v : V) (l : List Dt) (c : V) (x : Dt) : Nat := if V.dotB x.1 x.2 = false then 2 else if rin v l x = true then 8 else if c.at_ x.1 + 256 < x.2 then 10 else 0
theorem Link.radd {v : V} {l : List Dt} {c : V} {L : List Dt} (h : Link v l c L) (x : Dt) : raddE v l c x = addE c L x := by
  unfold raddE addE; rw [h.inB]

end Go.Proofs.Ytkamldmcjegjgaa
