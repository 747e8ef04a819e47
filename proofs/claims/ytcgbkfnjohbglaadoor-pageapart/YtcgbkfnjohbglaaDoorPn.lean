/- Plain: the page that the document makes of numbers, and that it is the page whose numbers they are. -/
import Derived.Test.YtcgbkfnjohbglaaDoorPk
namespace Go.Proofs.YtcgbkfnjohbglaaDoor

def kyOf (l : List Nat) (j : Nat) : Ky := ⟨l.getD j 0 % 65536, l.getD (j + 1) 0 % 256, l.getD (j + 2) 0 % 4294967296, Nat.mod_lt _ (by omega), Nat.mod_lt _ (by omega), Nat.mod_lt _ (by omega)⟩
def loOf (l : List Nat) (j : Nat) : Lo := ⟨l.getD (j + 3) 0 % 4294967296, l.getD (j + 4) 0 % 4294967296, Nat.mod_lt _ (by omega), Nat.mod_lt _ (by omega)⟩
def kdOf (l : List Nat) (j : Nat) : Kd := ⟨l.getD (j + 3) 0 % 4294967296, Nat.mod_lt _ (by omega)⟩
def wid (lf : Bool) : Nat := if lf then 5 else 4
def candK (lf : Bool) (l : List Nat) (k : Nat) : List Ky := (List.range k).map fun i => kyOf l (2 + wid lf * i)
def candL (lf : Bool) (l : List Nat) (k : Nat) : List Lo := if lf then (List.range k).map fun i => loOf l (2 + wid lf * i) else []
def candD (lf : Bool) (l : List Nat) (k : Nat) : List Kd := if lf then [] else (List.range k).map fun i => kdOf l (2 + wid lf * i)
theorem candK_next (lf : Bool) (l : List Nat) (k : Nat) : candK lf l (k + 1) = candK lf l k ++ [kyOf l (2 + wid lf * k)] := by simp [candK, List.range_succ]
theorem candL_next (l : List Nat) (k : Nat) : candL true l (k + 1) = candL true l k ++ [loOf l (2 + 5 * k)] := by simp [candL, List.range_succ, wid]
theorem candD_next (l : List Nat) (k : Nat) : candD false l (k + 1) = candD false l k ++ [kdOf l (2 + 4 * k)] := by simp [candD, List.range_succ, wid]
def cand (l : List Nat) : Pg := ⟨l.getD 0 0 == 1, candK (l.getD 0 0 == 1) l (l.getD 1 0), candL (l.getD 0 0 == 1) l (l.getD 1 0), candD (l.getD 0 0 == 1) l (l.getD 1 0)⟩
theorem Pg.item_wid (P : Pg) (i : Nat) : (P.item i).length = wid P.leaf := P.item_len i
theorem Pg.items_wid (P : Pg) (i : Nat) : (P.items i).length = wid P.leaf * i := P.items_len i
theorem Pg.items_get (P : Pg) : ∀ (n i j : Nat), i < n → j < wid P.leaf → (P.items n).getD (wid P.leaf * i + j) 0 = (P.item i).getD j 0
  | 0, i, j, h, _ => by omega
  | n + 1, i, j, h, hj => by
    have h1 := P.items_wid n
    by_cases e : i = n
    · subst e
      simp only [Pg.items, List.getD]
      rw [List.getElem?_append_right (by omega), h1, show wid P.leaf * i + j - wid P.leaf * i = j by omega]
    · have h2 := P.items_get n i j (by omega) hj
      have h3 : wid P.leaf * i + j < wid P.leaf * n := by
        have : wid P.leaf * (i + 1) ≤ wid P.leaf * n := Nat.mul_le_mul_left _ (by omega)
        rw [Nat.mul_add] at this
        omega
      simp only [Pg.items, List.getD] at *
      rw [List.getElem?_append_left (by omega)]
      exact h2
theorem Pg.nums_get (P : Pg) {i j : Nat} (h : i < P.ks.length) (hj : j < wid P.leaf) : P.nums.getD (2 + wid P.leaf * i + j) 0 = (P.item i).getD j 0 := by
  rw [← P.items_get P.ks.length i j h hj]
  unfold Pg.nums Pg.upto
  simp only [List.getD]
  rw [List.getElem?_append_right (by simp; omega)]
  congr 2
  simp
  omega
theorem Pg.nums_len (P : Pg) : P.nums.length = 2 + wid P.leaf * P.ks.length := by
  unfold Pg.nums Pg.upto
  rw [List.length_append, P.items_wid]
  rfl
theorem Pg.nums_zero (P : Pg) : P.nums.getD 0 0 = kindN P.leaf := rfl
theorem Pg.nums_one (P : Pg) : P.nums.getD 1 0 = P.ks.length := rfl
theorem map_range {α : Type} (l : List α) (d : α) (f : Nat → α) (h : ∀ i, i < l.length → f i = l.getD i d) : (List.range l.length).map f = l := by
  apply List.ext_getElem?
  intro i
  by_cases hi : i < l.length
  · have := h i hi
    simp [hi, this, List.getD]
  · rw [List.getElem?_eq_none (by simp; omega), List.getElem?_eq_none (by omega)]
theorem cand_nums {P : Pg} (hr : P.right = true) : cand P.nums = P := by
  obtain ⟨_, _, h3⟩ := Pg.right_iff.1 hr
  have hk : candK P.leaf P.nums P.ks.length = P.ks := by
    refine map_range P.ks Ky.zero _ (fun i hi => ?_)
    have hw : 3 < wid P.leaf := by cases P.leaf <;> decide
    have g0 := P.nums_get (i := i) (j := 0) hi (by omega)
    have g1 := P.nums_get (i := i) (j := 1) hi (by omega)
    have g2 := P.nums_get (i := i) (j := 2) hi (by omega)
    refine Ky.ext' ?_ ?_ ?_
    · show P.nums.getD (2 + wid P.leaf * i) 0 % 65536 = _
      rw [Nat.add_zero] at g0
      rw [g0]; exact Nat.mod_eq_of_lt (kyAt P.ks i).hc
    · show P.nums.getD (2 + wid P.leaf * i + 1) 0 % 256 = _
      rw [g1]; exact Nat.mod_eq_of_lt (kyAt P.ks i).hr
    · show P.nums.getD (2 + wid P.leaf * i + 2) 0 % 4294967296 = _
      rw [g2]; exact Nat.mod_eq_of_lt (kyAt P.ks i).hs
  have e0 : (P.nums.getD 0 0 == 1) = P.leaf := by rw [P.nums_zero]; exact kind_eq _
  unfold cand
  rw [e0, P.nums_one]
  rcases h3 with ⟨hl, h4, h5⟩ | ⟨hl, h4, h5, h6⟩
  · refine Pg.ext' rfl hk ?_ ?_
    · show candL P.leaf P.nums P.ks.length = P.ls
      unfold candL
      rw [hl, if_pos rfl, ← h4]
      refine map_range P.ls Lo.zero _ (fun i hi => ?_)
      have g3 := P.nums_get (i := i) (j := 3) (by omega) (by rw [hl]; decide)
      have g4 := P.nums_get (i := i) (j := 4) (by omega) (by rw [hl]; decide)
      rw [hl] at g3 g4
      have ei : P.item i = [(kyAt P.ks i).c, (kyAt P.ks i).r, (kyAt P.ks i).s, (loAt P.ls i).g, (loAt P.ls i).t] := by simp [Pg.item, Pg.tail, hl]
      rw [ei] at g3 g4
      refine Lo.ext' ?_ ?_
      · show P.nums.getD (2 + wid true * i + 3) 0 % 4294967296 = _
        rw [g3]; exact Nat.mod_eq_of_lt (loAt P.ls i).hg
      · show P.nums.getD (2 + wid true * i + 4) 0 % 4294967296 = _
        rw [g4]; exact Nat.mod_eq_of_lt (loAt P.ls i).ht
    · show candD P.leaf P.nums P.ks.length = P.ds
      unfold candD
      rw [hl, if_pos rfl]
      exact (List.eq_nil_of_length_eq_zero h5).symm
  · refine Pg.ext' rfl hk ?_ ?_
    · show candL P.leaf P.nums P.ks.length = P.ls
      unfold candL
      rw [hl, if_neg (by simp)]
      exact (List.eq_nil_of_length_eq_zero h6).symm
    · show candD P.leaf P.nums P.ks.length = P.ds
      unfold candD
      rw [hl, if_neg (by simp), ← h5]
      refine map_range P.ds Kd.zero _ (fun i hi => ?_)
      have g3 := P.nums_get (i := i) (j := 3) (by omega) (by rw [hl]; decide)
      rw [hl] at g3
      have ei : P.item i = [(kyAt P.ks i).c, (kyAt P.ks i).r, (kyAt P.ks i).s, (kdAt P.ds i).n] := by simp [Pg.item, Pg.tail, hl]
      rw [ei] at g3
      refine Kd.ext' ?_
      show P.nums.getD (2 + wid false * i + 3) 0 % 4294967296 = _
      rw [g3]; exact Nat.mod_eq_of_lt (kdAt P.ds i).hn
theorem Pg.nums_small (P : Pg) (h : P.ks.length ≤ 8) : ∀ x ∈ P.nums, x < 18446744073709551616 := P.upto_small _ (by omega)
/-- The page whose bytes they are has just the numbers that stand there. -/
theorem nums_of {bs : List Nat} {l : List Nat} (hl : ∀ x ∈ l, x < 18446744073709551616) (he : encs l = (Frm.first bs).1) : ∀ P : Pg, P.right = true → P.bytes = bs → P.nums = l := by
  rintro P hr rfl
  rw [first_bytes hr] at he
  exact encs_inj (P.nums_small (Pg.right_iff.1 hr).1) hl he.symm
theorem dec_no3 {bs : List Nat} (h : ∀ l : List Nat, (∀ x ∈ l, x < 18446744073709551616) → encs l ≠ (Frm.first bs).1) : ∀ P : Pg, P.right = true → P.bytes ≠ bs := by
  rintro P hr rfl
  refine h P.nums (P.nums_small (Pg.right_iff.1 hr).1) ?_
  rw [first_bytes hr]
  rfl
theorem dec_no4 {bs l : List Nat} (hl : ∀ x ∈ l, x < 18446744073709551616) (he : encs l = (Frm.first bs).1) (h : l.length < 2 ∨ 8 < l.getD 1 0 ∨ l.length ≠ 2 + wid (l.getD 0 0 == 1) * l.getD 1 0) : ∀ P : Pg, P.right = true → P.bytes ≠ bs := by
  intro P hr hb
  have e := nums_of hl he P hr hb
  subst e
  rw [P.nums_one, P.nums_len, P.nums_zero, kind_eq] at h
  have := (Pg.right_iff.1 hr).1
  omega
theorem dec_no5 {bs l : List Nat} (hl : ∀ x ∈ l, x < 18446744073709551616) (he : encs l = (Frm.first bs).1) (h : (cand l).right = false ∨ (cand l).bytes ≠ bs) : ∀ P : Pg, P.right = true → P.bytes ≠ bs := by
  intro P hr hb
  have e := nums_of hl he P hr hb
  subst e
  rw [cand_nums hr] at h
  rcases h with h | h
  · rw [hr] at h; cases h
  · exact h hb

end Go.Proofs.YtcgbkfnjohbglaaDoor
