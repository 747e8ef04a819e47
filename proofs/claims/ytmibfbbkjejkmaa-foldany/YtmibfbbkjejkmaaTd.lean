/- What a round of the sort leaves to be sorted, as plain arrays. No program. -/
import Derived.Test.YtmibfbbkjejkmaaTc
import Derived.Sort.LotD2
namespace Go.Proofs.Ytmibfbbkjejkmaa
open Go.Sort (swp ltInt size_swp PermIn SortedIn permIn_trans permIn_refl permIn_mono permIn_all swo_ltInt sorted_glue sorted_glue_eq)

/-- To sort a .. b - 1 of x is to sort a0 .. b0 - 1 of d. -/
structure Left (d x : Array Int) (a0 b0 a b : Nat) : Prop where
  lo : a0 ≤ a
  ab : a ≤ b
  hi : b ≤ b0
  fits : b0 ≤ d.size
  size : x.size = d.size
  below : Go.Sort.Below ltInt a b x
  rest : ∀ y, PermIn a b x y → SortedIn ltInt a b y → PermIn a0 b0 d y ∧ SortedIn ltInt a0 b0 y

theorem Left.start {d : Array Int} {a b : Nat} (h1 : a ≤ b) (h2 : b ≤ d.size) (h : Go.Sort.Below ltInt a b d) : Left d d a b a b :=
  ⟨Nat.le_refl _, h1, Nat.le_refl _, h2, rfl, h, fun _ h1 h2 => ⟨h1, h2⟩⟩
theorem Left.perm {d x y : Array Int} {a0 b0 a b : Nat} (h : Left d x a0 b0 a b) (hs : y.size = d.size) (hp : PermIn a b x y) : Left d y a0 b0 a b :=
  ⟨h.lo, h.ab, h.hi, h.fits, hs, h.below.perm (by rw [h.size]; exact Nat.le_trans h.hi h.fits) hp, fun z h1 h2 => h.rest z (permIn_trans _ _ _ _ _ hp h1) h2⟩

theorem sorted_of_next {d : Array Int} {a b : Nat} (h : ∀ k, a < k → k < b → ltInt d[k]! d[k - 1]! = false) : SortedIn ltInt a b d := by
  have key : ∀ n i, a ≤ i → i + n + 1 < b → ltInt d[i + n + 1]! d[i]! = false := by
    intro n
    induction n with
    | zero => intro i h1 h2; exact h (i + 1) (by omega) h2
    | succ n ih =>
      intro i h1 h2
      exact swo_ltInt.ntrans _ d[i + n + 1]! _ (h (i + (n + 1) + 1) (by omega) h2) (ih i h1 (by omega))
  intro i j h1 h2 h3
  have := key (j - i - 1) i h1 (by omega)
  rw [show i + (j - i - 1) + 1 = j by omega] at this
  exact this

theorem Left.equal {d x y : Array Int} {a0 b0 a b m pv : Nat} (h : Left d x a0 b0 a b) (h0 : 0 < a) (hn : ltInt x[a - 1]! x[pv]! = false) (hp : PartEq x y a b m x[pv]!) : Left d y a0 b0 m b := by
  have hb : b ≤ x.size := by rw [h.size]; exact Nat.le_trans h.hi h.fits
  have hxs := h.size
  have hys := hp.size
  have hge : ∀ i, a ≤ i → i < b → ltInt x[i]! x[pv]! = false := fun i i1 i2 => by
    rcases h.below with hz | hB
    · omega
    · exact swo_ltInt.ntrans _ _ _ (hB i i1 i2) hn
  have hy : ∀ i, a ≤ i → i < b → ltInt y[i]! x[pv]! = false := permIn_all x y a b (fun z => ltInt z x[pv]! = false) hb hp.perm hge
  have hm1 := hp.am
  have hm2 := hp.mb
  have h3 := h.lo
  refine ⟨by omega, hm2, h.hi, h.fits, by rw [hys, hxs], .inr fun i i1 i2 => ?_, fun z z1 z2 => ?_⟩
  · have e1 := hp.lo (m - 1) (by omega) (by omega)
    have e2 := hp.hi i i1 i2
    unfold ltInt at *
    simp only [decide_eq_true_eq, decide_eq_false_iff_not] at *
    omega
  · have hpm : PermIn a b x z := permIn_trans _ _ _ _ _ hp.perm (permIn_mono y z m b a b (by omega) (Nat.le_refl _) (by omega) z1)
    have hz : ∀ i, i < m → z[i]! = y[i]! := fun i hi => z1.2.1 i (.inl hi)
    refine h.rest z hpm (sorted_glue_eq swo_ltInt x[pv]! z2 (fun i i1 i2 => ?_) (fun i i1 i2 => ?_) ?_)
    · rw [hz i i2]; exact hp.lo i i1 i2
    · rw [hz i i2]; exact hy i i1 (by omega)
    · exact permIn_all y z m b (fun u => ltInt x[pv]! u = true) (by omega) z1 hp.hi

/-- The two parts behind a partition. -/
theorem Left.part_below {d x y : Array Int} {a0 b0 a b m : Nat} (h : Left d x a0 b0 a b) (hp : Parted x y a b m) : Go.Sort.Below ltInt a m y ∧ Go.Sort.Below ltInt (m + 1) b y := by
  have hb : b ≤ x.size := by rw [h.size]; exact Nat.le_trans h.hi h.fits
  have hB := h.below.perm hb hp.perm
  exact ⟨hB.mono (by have := hp.mb; omega), .inr fun i i1 i2 => hp.hi i (by omega) i2⟩
theorem part_glue {y z : Array Int} {a b m : Nat} {x : Array Int} (hp : Parted x y a b m) (hb : b ≤ x.size) {u : Array Int} (h1 : PermIn a m y z) (s1 : SortedIn ltInt a m z) (h2 : PermIn (m + 1) b z u) (s2 : SortedIn ltInt (m + 1) b u) : PermIn a b x u ∧ SortedIn ltInt a b u := by
  have hm1 := hp.am
  have hm2 := hp.mb
  have hys := hp.size
  have hzs := h1.1
  have hus := h2.1
  have huz : ∀ i, i ≤ m → u[i]! = z[i]! := fun i hi => h2.2.1 i (.inl (by omega))
  have hzy : ∀ i, m ≤ i → z[i]! = y[i]! := fun i hi => h1.2.1 i (.inr hi)
  refine ⟨permIn_trans _ _ _ _ _ hp.perm (permIn_trans _ _ _ _ _ (permIn_mono y z a m a b (Nat.le_refl _) (by omega) (by omega) h1) (permIn_mono z u (m + 1) b a b (by omega) (Nat.le_refl _) (by omega) h2)), sorted_glue swo_ltInt (mid := m) ?_ s2 ?_ ?_⟩
  · exact s1.congr fun i _ i2 => huz i (by omega)
  · intro i i1 i2
    have hz := permIn_all y z a m (fun v => ltInt v y[m]! = true) (by omega) h1 hp.lo i i1 i2
    rw [huz i (by omega), huz m (Nat.le_refl _), hzy m (Nat.le_refl _)]
    exact hz
  · have hh := permIn_all z u (m + 1) b (fun v => ltInt v y[m]! = false) (by omega) h2 (fun i i1 i2 => by rw [hzy i (by omega)]; exact hp.hi i (by omega) i2)
    intro i i1 i2
    rw [huz m (Nat.le_refl _), hzy m (Nat.le_refl _)]
    exact hh i (by omega) i2
theorem part_glue' {y z : Array Int} {a b m : Nat} {x : Array Int} (hp : Parted x y a b m) (hb : b ≤ x.size) {u : Array Int} (h1 : PermIn (m + 1) b y z) (s1 : SortedIn ltInt (m + 1) b z) (h2 : PermIn a m z u) (s2 : SortedIn ltInt a m u) : PermIn a b x u ∧ SortedIn ltInt a b u := by
  have hm1 := hp.am
  have hm2 := hp.mb
  have hys := hp.size
  have hzs := h1.1
  have hus := h2.1
  have huz : ∀ i, m ≤ i → u[i]! = z[i]! := fun i hi => h2.2.1 i (.inr hi)
  have hzy : ∀ i, i ≤ m → z[i]! = y[i]! := fun i hi => h1.2.1 i (.inl (by omega))
  refine ⟨permIn_trans _ _ _ _ _ hp.perm (permIn_trans _ _ _ _ _ (permIn_mono y z (m + 1) b a b (by omega) (Nat.le_refl _) (by omega) h1) (permIn_mono z u a m a b (Nat.le_refl _) (by omega) (by omega) h2)), sorted_glue swo_ltInt (mid := m) s2 ?_ ?_ ?_⟩
  · exact s1.congr fun i i1 _ => huz i (by omega)
  · have hh := permIn_all z u a m (fun v => ltInt v y[m]! = true) (by omega) h2 (fun i i1 i2 => by rw [hzy i (by omega)]; exact hp.lo i i1 i2)
    intro i i1 i2
    rw [huz m (Nat.le_refl _), hzy m (Nat.le_refl _)]
    exact hh i i1 i2
  · intro i i1 i2
    have hz := permIn_all y z (m + 1) b (fun v => ltInt v y[m]! = false) (by omega) h1 (fun k k1 k2 => hp.hi k (by omega) k2) i (by omega) i2
    rw [huz i (by omega), huz m (Nat.le_refl _), hzy m (Nat.le_refl _)]
    exact hz
theorem Left.right {d x y z : Array Int} {a0 b0 a b m : Nat} (h : Left d x a0 b0 a b) (hp : Parted x y a b m) (h1 : PermIn a m y z) (s1 : SortedIn ltInt a m z) : Left d z a0 b0 (m + 1) b := by
  have hb : b ≤ x.size := by rw [h.size]; exact Nat.le_trans h.hi h.fits
  have hm1 := hp.am
  have hm2 := hp.mb
  have h3 := h.lo
  have hzy : ∀ i, m ≤ i → z[i]! = y[i]! := fun i hi => h1.2.1 i (.inr hi)
  refine ⟨by omega, by omega, h.hi, h.fits, by rw [h1.1, hp.size, h.size], .inr fun i i1 i2 => ?_, fun u u1 u2 => ?_⟩
  · rw [hzy i (by omega), show m + 1 - 1 = m by omega, hzy m (Nat.le_refl _)]
    exact hp.hi i (by omega) i2
  · have := part_glue hp hb h1 s1 u1 u2
    exact h.rest u this.1 this.2
theorem Left.left {d x y z : Array Int} {a0 b0 a b m : Nat} (h : Left d x a0 b0 a b) (hp : Parted x y a b m) (h1 : PermIn (m + 1) b y z) (s1 : SortedIn ltInt (m + 1) b z) : Left d z a0 b0 a m := by
  have hb : b ≤ x.size := by rw [h.size]; exact Nat.le_trans h.hi h.fits
  have hm1 := hp.am
  have hm2 := hp.mb
  have h3 := h.hi
  have hzy : ∀ i, i ≤ m → z[i]! = y[i]! := fun i hi => h1.2.1 i (.inl (by omega))
  refine ⟨h.lo, hm1, by omega, h.fits, by rw [h1.1, hp.size, h.size], ?_, fun u u1 u2 => ?_⟩
  · rcases (h.part_below hp).1 with h0 | hB
    · exact .inl h0
    · refine .inr fun i i1 i2 => ?_
      rw [hzy i (by omega), hzy (a - 1) (by omega)]
      exact hB i i1 i2
  · have := part_glue' hp hb h1 s1 u1 u2
    exact h.rest u this.1 this.2

end Go.Proofs.Ytmibfbbkjejkmaa
