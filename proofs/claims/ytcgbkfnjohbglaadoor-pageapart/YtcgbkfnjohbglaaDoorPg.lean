/- Plain facts about pages, on lists of numbers: keys in order, which pages may be, where a key stands, a page's fields and its frame, and what is read of any fields. -/
import Derived.Test.YtcgbkfnjohbglaaDoorFf
namespace Go.Proofs.YtcgbkfnjohbglaaDoor
open Vint

/-- A key. -/
structure Ky where
  c : Nat
  r : Nat
  s : Nat
  hc : c < 65536
  hr : r < 256
  hs : s < 4294967296
/-- A place. -/
structure Lo where
  g : Nat
  t : Nat
  hg : g < 4294967296
  ht : t < 4294967296
/-- A number of 32 bits. -/
structure Kd where
  n : Nat
  hn : n < 4294967296
theorem Ky.ext' {a b : Ky} (h1 : a.c = b.c) (h2 : a.r = b.r) (h3 : a.s = b.s) : a = b := by
  cases a; cases b; simp only at h1 h2 h3; subst h1; subst h2; subst h3; rfl
theorem Lo.ext' {a b : Lo} (h1 : a.g = b.g) (h2 : a.t = b.t) : a = b := by
  cases a; cases b; simp only at h1 h2; subst h1; subst h2; rfl
theorem Kd.ext' {a b : Kd} (h1 : a.n = b.n) : a = b := by
  cases a; cases b; simp only at h1; subst h1; rfl
def Ky.zero : Ky := ⟨0, 0, 0, by omega, by omega, by omega⟩
def Lo.zero : Lo := ⟨0, 0, by omega, by omega⟩
def Kd.zero : Kd := ⟨0, by omega⟩
def Ky.eqB (a b : Ky) : Bool := a.c == b.c && a.r == b.r && a.s == b.s
def Lo.eqB (a b : Lo) : Bool := a.g == b.g && a.t == b.t
def Kd.eqB (a b : Kd) : Bool := a.n == b.n
theorem Ky.eqB_iff {a b : Ky} : Ky.eqB a b = true ↔ a = b := by
  unfold Ky.eqB
  constructor
  · intro h; simp only [Bool.and_eq_true, beq_iff_eq] at h; exact Ky.ext' h.1.1 h.1.2 h.2
  · rintro rfl; simp
theorem Lo.eqB_iff {a b : Lo} : Lo.eqB a b = true ↔ a = b := by
  unfold Lo.eqB
  constructor
  · intro h; simp only [Bool.and_eq_true, beq_iff_eq] at h; exact Lo.ext' h.1 h.2
  · rintro rfl; simp
theorem Kd.eqB_iff {a b : Kd} : Kd.eqB a b = true ↔ a = b := by
  unfold Kd.eqB
  constructor
  · intro h; simp only [beq_iff_eq] at h; exact Kd.ext' h
  · rintro rfl; simp

/-- Does a come ahead of b? -/
def lessK (a b : Ky) : Bool := if a.c ≠ b.c then decide (a.c < b.c) else if a.r ≠ b.r then decide (a.r < b.r) else decide (a.s < b.s)
theorem less_irrefl (a : Ky) : lessK a a = false := by simp [lessK]
theorem less_iff {a b : Ky} : lessK a b = true ↔ a.c < b.c ∨ (a.c = b.c ∧ (a.r < b.r ∨ (a.r = b.r ∧ a.s < b.s))) := by
  unfold lessK
  by_cases h1 : a.c = b.c <;> by_cases h2 : a.r = b.r <;> simp [h1, h2] <;> omega
theorem less_trans {a b c : Ky} (h1 : lessK a b = true) (h2 : lessK b c = true) : lessK a c = true := by
  rw [less_iff] at *; omega
theorem less_asymm {a b : Ky} (h1 : lessK a b = true) : lessK b a = false := by
  cases h : lessK b a
  · rfl
  · rw [less_iff] at *; omega
theorem less_total {a b : Ky} (h : a ≠ b) : lessK a b = true ∨ lessK b a = true := by
  rw [less_iff, less_iff]
  by_cases h1 : a.c = b.c
  · by_cases h2 : a.r = b.r
    · by_cases h3 : a.s = b.s
      · exact absurd (Ky.ext' h1 h2 h3) h
      · omega
    · omega
  · omega

/-- The element at a place. -/
def kyAt (l : List Ky) (i : Nat) : Ky := l.getD i Ky.zero
def loAt (l : List Lo) (i : Nat) : Lo := l.getD i Lo.zero
def kdAt (l : List Kd) (i : Nat) : Kd := l.getD i Kd.zero
theorem kyAt_of {l : List Ky} {i : Nat} {x : Ky} (h : l[i]? = some x) : kyAt l i = x := by simp [kyAt, List.getD, h]
theorem loAt_of {l : List Lo} {i : Nat} {x : Lo} (h : l[i]? = some x) : loAt l i = x := by simp [loAt, List.getD, h]
theorem kdAt_of {l : List Kd} {i : Nat} {x : Kd} (h : l[i]? = some x) : kdAt l i = x := by simp [kdAt, List.getD, h]

/-- Are the keys in order? -/
def risingB (l : List Ky) : Bool := decide (∀ i, i < l.length - 1 → lessK (kyAt l i) (kyAt l (i + 1)) = true)
theorem rising_iff {l : List Ky} : risingB l = true ↔ ∀ i, i < l.length - 1 → lessK (kyAt l i) (kyAt l (i + 1)) = true := by simp [risingB]
theorem rising_not {l : List Ky} {i : Nat} (hi : i < l.length - 1) (h : lessK (kyAt l i) (kyAt l (i + 1)) = false) : risingB l = false := by
  cases hr : risingB l
  · rfl
  · rw [rising_iff] at hr
    rw [hr i hi] at h
    cases h
theorem rising_far {l : List Ky} (h : risingB l = true) : ∀ (j i : Nat), i < j → j < l.length → lessK (kyAt l i) (kyAt l j) = true
  | 0, i, h1, _ => by omega
  | j + 1, i, h1, h2 => by
    have hs := rising_iff.1 h j (by omega)
    by_cases e : i = j
    · subst e; exact hs
    · exact less_trans (rising_far h j i (by omega) (by omega)) hs

/-- A page. -/
structure Pg where
  leaf : Bool
  ks : List Ky
  ls : List Lo
  ds : List Kd
theorem Pg.ext' {a b : Pg} (h1 : a.leaf = b.leaf) (h2 : a.ks = b.ks) (h3 : a.ls = b.ls) (h4 : a.ds = b.ds) : a = b := by
  cases a; cases b; simp only at h1 h2 h3 h4; subst h1; subst h2; subst h3; subst h4; rfl
def Pg.zero : Pg := ⟨false, [], [], []⟩

/-- May a page be? -/
def Pg.right (P : Pg) : Bool := decide (P.ks.length ≤ 8) && risingB P.ks && (if P.leaf then decide (P.ls.length = P.ks.length) && decide (P.ds.length = 0) else decide (1 ≤ P.ks.length) && decide (P.ds.length = P.ks.length) && decide (P.ls.length = 0))
theorem Pg.right_iff {P : Pg} : P.right = true ↔ P.ks.length ≤ 8 ∧ risingB P.ks = true ∧ ((P.leaf = true ∧ P.ls.length = P.ks.length ∧ P.ds.length = 0) ∨ (P.leaf = false ∧ 1 ≤ P.ks.length ∧ P.ds.length = P.ks.length ∧ P.ls.length = 0)) := by
  unfold Pg.right
  cases P.leaf <;> simp [and_assoc]
theorem Pg.zero_right : Pg.zero.right = false := by decide

/-- How many of the keys come ahead, and is the next one the key? -/
def cntK (l : List Ky) (k : Ky) : Nat := (l.takeWhile fun x => lessK x k).length
theorem cnt_le (l : List Ky) (k : Ky) : cntK l k ≤ l.length := (List.takeWhile_sublist _).length_le
theorem cnt_less {l : List Ky} {k : Ky} : ∀ {i : Nat}, i < cntK l k → lessK (kyAt l i) k = true := by
  induction l with
  | nil => intro i h; simp [cntK] at h
  | cons x l ih =>
    intro i h
    unfold cntK at h
    rw [List.takeWhile_cons] at h
    by_cases hx : lessK x k = true
    · rw [if_pos hx] at h
      cases i with
      | zero => simpa [kyAt] using hx
      | succ i => simpa [kyAt] using ih (i := i) (by simpa [cntK] using h)
    · rw [if_neg hx] at h; simp at h
theorem cnt_stop {l : List Ky} {k : Ky} : cntK l k < l.length → lessK (kyAt l (cntK l k)) k = false := by
  induction l with
  | nil => intro h; simp [cntK] at h
  | cons x l ih =>
    intro h
    unfold cntK at h ⊢
    rw [List.takeWhile_cons] at h ⊢
    by_cases hx : lessK x k = true
    · rw [if_pos hx] at h ⊢
      simpa [kyAt, cntK] using ih (by simpa [cntK] using h)
    · rw [if_neg hx]; simpa [kyAt] using hx
theorem cnt_eq {l : List Ky} {k : Ky} {n : Nat} (h1 : ∀ i, i < n → lessK (kyAt l i) k = true) (h2 : n < l.length → lessK (kyAt l n) k = false) (hn : n ≤ l.length) : cntK l k = n := by
  rcases Nat.lt_trichotomy (cntK l k) n with h | h | h
  · have := cnt_stop (l := l) (k := k) (by omega)
    rw [h1 _ h] at this
    cases this
  · exact h
  · have := cnt_less (l := l) (k := k) h
    rw [h2 (by have := cnt_le l k; omega)] at this
    cases this
/-- Behind the place none comes ahead. -/
theorem cnt_behind {l : List Ky} {k : Ky} (hr : risingB l = true) {i : Nat} (h : cntK l k ≤ i) (hi : i < l.length) : lessK (kyAt l i) k = false := by
  have hs := cnt_stop (l := l) (k := k) (by omega)
  by_cases e : cntK l k = i
  · rw [← e]; exact hs
  · cases h' : lessK (kyAt l i) k
    · rfl
    · rw [less_trans (rising_far hr i _ (by omega) hi) h'] at hs; cases hs
def isK (l : List Ky) (k : Ky) : Bool := decide (cntK l k < l.length) && Ky.eqB (kyAt l (cntK l k)) k
theorem isK_iff {l : List Ky} {k : Ky} : isK l k = true ↔ cntK l k < l.length ∧ kyAt l (cntK l k) = k := by
  unfold isK; rw [Bool.and_eq_true, decide_eq_true_iff, Ky.eqB_iff]
def Pg.findN (P : Pg) (k : Ky) : Nat := if P.right then cntK P.ks k else 0
def Pg.findB (P : Pg) (k : Ky) : Bool := P.right && isK P.ks k

/-- How many of the first ones come ahead, and is one the key? -/
def cntF (l : List Ky) (k : Ky) (i : Nat) : Nat := ((l.take i).filter fun x => lessK x k).length
def isF (l : List Ky) (k : Ky) (i : Nat) : Bool := (l.take i).any fun x => Ky.eqB x k
theorem take_next {l : List Ky} {i : Nat} (hi : i < l.length) : l.take (i + 1) = l.take i ++ [kyAt l i] := by
  rw [List.take_succ_eq_append_getElem hi]
  simp [kyAt, hi]
theorem cntF_next {l : List Ky} {k : Ky} {i : Nat} (hi : i < l.length) : cntF l k (i + 1) = cntF l k i + if lessK (kyAt l i) k = true then 1 else 0 := by
  unfold cntF
  rw [take_next hi, List.filter_append, List.length_append]
  by_cases h : lessK (kyAt l i) k = true
  · simp [h]
  · simp [h]
theorem isF_next {l : List Ky} {k : Ky} {i : Nat} (hi : i < l.length) : isF l k (i + 1) = (isF l k i || Ky.eqB (kyAt l i) k) := by
  unfold isF
  rw [take_next hi, List.any_append]
  simp
theorem cntF_le (l : List Ky) (k : Ky) (i : Nat) : cntF l k i ≤ i := by
  unfold cntF
  exact Nat.le_trans (List.length_filter_le _ _) (List.length_take_le _ _)
theorem cntF_rising {l : List Ky} {k : Ky} (hr : risingB l = true) : ∀ i, i ≤ l.length → cntF l k i = min i (cntK l k)
  | 0, _ => by simp [cntF]
  | i + 1, h => by
    rw [cntF_next (by omega), cntF_rising hr i (by omega)]
    by_cases hi : i < cntK l k
    · rw [if_pos (cnt_less hi)]; omega
    · rw [if_neg (by rw [cnt_behind hr (by omega) (by omega)]; simp)]; omega
theorem cntF_all {l : List Ky} {k : Ky} (hr : risingB l = true) : cntF l k l.length = cntK l k := by
  rw [cntF_rising hr _ (Nat.le_refl _)]
  have := cnt_le l k
  omega
theorem isF_all {l : List Ky} {k : Ky} (hr : risingB l = true) : isF l k l.length = isK l k := by
  unfold isF
  rw [List.take_length]
  rw [Bool.eq_iff_iff, List.any_eq_true, isK_iff]
  constructor
  · rintro ⟨x, hx, he⟩
    rw [Ky.eqB_iff] at he
    subst he
    obtain ⟨i, hi⟩ := List.mem_iff_getElem?.1 hx
    have hlt := (List.getElem?_eq_some_iff.1 hi).1
    have hk := kyAt_of hi
    have h1 : cntK l x ≤ i := by
      apply Nat.le_of_not_lt
      intro h
      have := cnt_less h
      rw [hk, less_irrefl] at this
      cases this
    have h2 : ¬ cntK l x < i := by
      intro h
      have := rising_far hr i _ h hlt
      rw [hk] at this
      rw [cnt_stop (by omega)] at this
      cases this
    obtain rfl : i = cntK l x := by omega
    exact ⟨hlt, hk⟩
  · rintro ⟨h1, h2⟩
    refine ⟨k, ?_, by rw [Ky.eqB_iff]⟩
    rw [← h2]
    simp [kyAt, List.getD, h1]

/-- The numbers of an item of a page. -/
def Pg.tail (P : Pg) (i : Nat) : List Nat := if P.leaf then [(loAt P.ls i).g, (loAt P.ls i).t] else [(kdAt P.ds i).n]
def Pg.item (P : Pg) (i : Nat) : List Nat := [(kyAt P.ks i).c, (kyAt P.ks i).r, (kyAt P.ks i).s] ++ P.tail i
def Pg.items (P : Pg) : Nat → List Nat
  | 0 => []
  | i + 1 => P.items i ++ P.item i
def kindN (b : Bool) : Nat := if b then 1 else 0
def encs (l : List Nat) : List Nat := l.flatMap enc
theorem encs_nil : encs [] = [] := rfl
theorem encs_cons (n : Nat) (l : List Nat) : encs (n :: l) = enc n ++ encs l := by simp [encs]
theorem encs_append (l m : List Nat) : encs (l ++ m) = encs l ++ encs m := by simp [encs]
theorem encs_small (l : List Nat) : ∀ c ∈ encs l, c < 256 := by
  intro c hc
  obtain ⟨n, _, h⟩ := List.mem_flatMap.1 hc
  exact enc_lt n c h
theorem encs_len {l : List Nat} (h : ∀ n ∈ l, n < 18446744073709551616) : (encs l).length ≤ 10 * l.length := by
  induction l with
  | nil => simp [encs]
  | cons n l ih =>
    rw [encs_cons, List.length_append, List.length_cons]
    have h1 := enc_ten (h n List.mem_cons_self)
    have h2 := ih fun m hm => h m (List.mem_cons_of_mem _ hm)
    omega
/-- The numbers of a page, as far as its i-th item. -/
def Pg.upto (P : Pg) (i : Nat) : List Nat := [kindN P.leaf, P.ks.length] ++ P.items i
def Pg.nums (P : Pg) : List Nat := P.upto P.ks.length
theorem Pg.upto_next (P : Pg) (i : Nat) : P.upto (i + 1) = P.upto i ++ P.item i := by simp [Pg.upto, Pg.items]
theorem Pg.tail_small (P : Pg) (i : Nat) : ∀ n ∈ P.tail i, n < 4294967296 := by
  intro n hn
  unfold Pg.tail at hn
  cases h : P.leaf <;> simp [h] at hn
  · subst hn; exact (kdAt P.ds i).hn
  · rcases hn with rfl | rfl
    · exact (loAt P.ls i).hg
    · exact (loAt P.ls i).ht
theorem Pg.item_small (P : Pg) (i : Nat) : ∀ n ∈ P.item i, n < 4294967296 := by
  intro n hn
  rcases List.mem_append.1 hn with hn | hn
  · have h1 := (kyAt P.ks i).hc
    have h2 := (kyAt P.ks i).hr
    have h3 := (kyAt P.ks i).hs
    simp at hn
    omega
  · exact P.tail_small i n hn
theorem Pg.item_len (P : Pg) (i : Nat) : (P.item i).length = if P.leaf then 5 else 4 := by
  unfold Pg.item Pg.tail
  cases P.leaf <;> simp
theorem Pg.items_small (P : Pg) : ∀ i, ∀ n ∈ P.items i, n < 4294967296
  | 0, n, hn => by simp [Pg.items] at hn
  | i + 1, n, hn => by
    rcases List.mem_append.1 hn with hn | hn
    · exact P.items_small i n hn
    · exact P.item_small i n hn
theorem Pg.items_len (P : Pg) : ∀ i, (P.items i).length = (if P.leaf then 5 else 4) * i
  | 0 => by simp [Pg.items]
  | i + 1 => by
    rw [Pg.items, List.length_append, P.items_len i, P.item_len i, Nat.mul_add, Nat.mul_one]
theorem Pg.upto_small (P : Pg) (i : Nat) (h : P.ks.length ≤ 1000000) : ∀ n ∈ P.upto i, n < 18446744073709551616 := by
  intro n hn
  rcases List.mem_append.1 hn with hn | hn
  · unfold kindN at hn
    cases hl : P.leaf <;> simp [hl] at hn <;> omega
  · have := P.items_small i n hn
    omega
theorem Pg.upto_bytes (P : Pg) {i : Nat} (h : P.ks.length ≤ 8) (hi : i ≤ 8) : (encs (P.upto i)).length ≤ 420 := by
  have h1 := encs_len (P.upto_small i (by omega))
  have h2 : (P.upto i).length ≤ 42 := by
    unfold Pg.upto
    rw [List.length_append, P.items_len]
    cases P.leaf <;> simp <;> omega
  omega
/-- The bytes of a page. -/
def Pg.fields (P : Pg) : List Nat := encs P.nums
def Pg.bytes (P : Pg) : List Nat := Frm.fr P.fields
theorem Pg.fields_small (P : Pg) : ∀ c ∈ P.fields, c < 256 := encs_small _
theorem Pg.fields_len {P : Pg} (h : P.ks.length ≤ 8) : P.fields.length ≤ 420 := P.upto_bytes h h
theorem Pg.bytes_small (P : Pg) : ∀ c ∈ P.bytes, c < 256 := Frm.fr_lt P.fields_small
theorem Pg.bytes_len {P : Pg} (h : P.ks.length ≤ 8) : 5 ≤ P.bytes.length ∧ P.bytes.length ≤ 500 := by
  have h1 := P.fields_len h
  refine ⟨Frm.fr_pos _, ?_⟩
  unfold Pg.bytes
  rw [Frm.fr_len]
  have := enc_ten (n := P.fields.length) (by omega)
  omega

end Go.Proofs.YtcgbkfnjohbglaaDoor
