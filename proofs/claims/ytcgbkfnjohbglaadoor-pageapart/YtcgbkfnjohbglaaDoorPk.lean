/- Plain: what is read of a page's fields is the page; numbers that stand one behind the other belong to their bytes. -/
import Derived.Test.YtcgbkfnjohbglaaDoorPi
namespace Go.Proofs.YtcgbkfnjohbglaaDoor
open Vint
open Go.RowKit

theorem nv_enc {x : Nat} {r : List Nat} (h : x < 18446744073709551616) : nv (0, enc x ++ r) = x ∧ nx (0, enc x ++ r) = (0, r) := by
  have hG := G_put h r
  unfold nv nx numX numE numB
  simp [hG]
theorem nv_encs {x : Nat} {l : List Nat} (h : x < 18446744073709551616) : nv (0, encs (x :: l)) = x ∧ nx (0, encs (x :: l)) = (0, encs l) := by
  rw [encs_cons]; exact nv_enc h

theorem Pg.items_split (P : Pg) (n : Nat) : ∀ k, k ≤ n → ∃ r, P.items n = P.items k ++ r := by
  induction n with
  | zero => intro k hk; obtain rfl : k = 0 := by omega
            exact ⟨[], by simp⟩
  | succ n ih =>
    intro k hk
    by_cases e : k = n + 1
    · subst e; exact ⟨[], by simp⟩
    · obtain ⟨r, hr⟩ := ih k (by omega)
      exact ⟨r ++ P.item n, by rw [Pg.items, hr, List.append_assoc]⟩
/-- A right page as far as its k-th item. -/
def Pg.cut (P : Pg) (k : Nat) : Pg := ⟨P.leaf, P.ks.take k, P.ls.take k, P.ds.take k⟩
theorem take_snocG {α : Type} (l : List α) (k : Nat) (h : k < l.length) (d : α) : l.take (k + 1) = l.take k ++ [l.getD k d] := by
  rw [List.take_succ_eq_append_getElem h]
  simp [List.getD, h]
theorem rdKy_of {x : Ky} {l : List Nat} : rdKy (0, encs (x.c :: x.r :: x.s :: l)) = x ∧ nx (nx (nx (0, encs (x.c :: x.r :: x.s :: l)))) = (0, encs l) := by
  have h1 := nv_encs (x := x.c) (l := x.r :: x.s :: l) (by have := x.hc; omega)
  have h2 := nv_encs (x := x.r) (l := x.s :: l) (by have := x.hr; omega)
  have h3 := nv_encs (x := x.s) (l := l) (by have := x.hs; omega)
  constructor
  · refine Ky.ext' ?_ ?_ ?_
    · show nv _ % 65536 = _
      rw [h1.1]; exact Nat.mod_eq_of_lt x.hc
    · show nv (nx _) % 256 = _
      rw [h1.2, h2.1]; exact Nat.mod_eq_of_lt x.hr
    · show nv (nx (nx _)) % 4294967296 = _
      rw [h1.2, h2.2, h3.1]; exact Nat.mod_eq_of_lt x.hs
  · rw [h1.2, h2.2, h3.2]
theorem rdLo_of {y : Lo} {l : List Nat} : rdLo (0, encs (y.g :: y.t :: l)) = y ∧ nx (nx (0, encs (y.g :: y.t :: l))) = (0, encs l) := by
  have h1 := nv_encs (x := y.g) (l := y.t :: l) (by have := y.hg; omega)
  have h2 := nv_encs (x := y.t) (l := l) (by have := y.ht; omega)
  constructor
  · refine Lo.ext' ?_ ?_
    · show nv _ % 4294967296 = _
      rw [h1.1]; exact Nat.mod_eq_of_lt y.hg
    · show nv (nx _) % 4294967296 = _
      rw [h1.2, h2.1]; exact Nat.mod_eq_of_lt y.ht
  · rw [h1.2, h2.2]
theorem rdKd_of {y : Kd} {l : List Nat} : rdKd (0, encs (y.n :: l)) = y ∧ nx (0, encs (y.n :: l)) = (0, encs l) := by
  have h1 := nv_encs (x := y.n) (l := l) (by have := y.hn; omega)
  refine ⟨Kd.ext' ?_, h1.2⟩
  show nv _ % 4294967296 = _
  rw [h1.1]; exact Nat.mod_eq_of_lt y.hn
theorem rdUpto_of {P : Pg} (hr : P.right = true) : ∀ k, k ≤ P.ks.length → ∀ r, P.items P.ks.length = P.items k ++ r → rdUpto P.leaf (0, encs (P.items P.ks.length)) k = (P.cut k, (0, encs r))
  | 0, _, r, h => by
    have h' : P.items P.ks.length = r := by simpa [Pg.items] using h
    rw [h']
    simp [rdUpto, Pg.cut]
  | k + 1, hk, r, h => by
    have h1 : P.items P.ks.length = P.items k ++ (P.item k ++ r) := by rw [h, Pg.items, List.append_assoc]
    have ih := rdUpto_of hr k (by omega) _ h1
    unfold rdUpto
    rw [ih]
    obtain ⟨_, _, h3⟩ := Pg.right_iff.1 hr
    have eK : P.ks.take (k + 1) = P.ks.take k ++ [kyAt P.ks k] := take_snocG _ _ (by omega) _
    rcases h3 with ⟨hl, h4, h5⟩ | ⟨hl, h4, h5, h6⟩
    · have eL : P.ls.take (k + 1) = P.ls.take k ++ [loAt P.ls k] := take_snocG _ _ (by omega) _
      have eD : P.ds = [] := List.eq_nil_of_length_eq_zero h5
      have hi : P.item k ++ r = (kyAt P.ks k).c :: (kyAt P.ks k).r :: (kyAt P.ks k).s :: (loAt P.ls k).g :: (loAt P.ls k).t :: r := by simp [Pg.item, Pg.tail, hl]
      rw [hi]
      have a := rdKy_of (x := kyAt P.ks k) (l := (loAt P.ls k).g :: (loAt P.ls k).t :: r)
      have b := rdLo_of (y := loAt P.ls k) (l := r)
      simp only [rdItem, hl, if_true, Pg.cut, a.1, a.2, b.1, b.2, eK, eL, eD, List.take_nil]
    · have eL : P.ds.take (k + 1) = P.ds.take k ++ [kdAt P.ds k] := take_snocG _ _ (by omega) _
      have eD : P.ls = [] := List.eq_nil_of_length_eq_zero h6
      have hi : P.item k ++ r = (kyAt P.ks k).c :: (kyAt P.ks k).r :: (kyAt P.ks k).s :: (kdAt P.ds k).n :: r := by simp [Pg.item, Pg.tail, hl]
      rw [hi]
      have a := rdKy_of (x := kyAt P.ks k) (l := (kdAt P.ds k).n :: r)
      have b := rdKd_of (y := kdAt P.ds k) (l := r)
      simp only [rdItem, hl, Bool.false_eq_true, if_false, Pg.cut, a.1, a.2, b.1, b.2, eK, eL, eD, List.take_nil]
theorem Pg.cut_all {P : Pg} (hr : P.right = true) : P.cut P.ks.length = P := by
  obtain ⟨_, _, h3⟩ := Pg.right_iff.1 hr
  unfold Pg.cut
  refine Pg.ext' rfl (List.take_length) ?_ ?_
  · exact List.take_of_length_le (by omega)
  · exact List.take_of_length_le (by omega)
theorem kind_eq (b : Bool) : (kindN b == 1) = b := by cases b <;> rfl
theorem rdPg_fields {P : Pg} (hr : P.right = true) : rdPg P.fields = P := by
  have h8 := (Pg.right_iff.1 hr).1
  have e : P.fields = encs (kindN P.leaf :: P.ks.length :: P.items P.ks.length) := by simp [Pg.fields, Pg.nums, Pg.upto]
  have h1 := nv_encs (x := kindN P.leaf) (l := P.ks.length :: P.items P.ks.length) (by cases P.leaf <;> decide)
  have h2 := nv_encs (x := P.ks.length) (l := P.items P.ks.length) (by omega)
  unfold rdPg
  rw [e, h1.1, h1.2, h2.1, h2.2, kind_eq, show min P.ks.length 8 = P.ks.length by omega, rdUpto_of hr P.ks.length (Nat.le_refl _) [] (by simp)]
  exact Pg.cut_all hr
theorem first_bytes {P : Pg} (hr : P.right = true) : Frm.first P.bytes = (P.fields, P.bytes.length, 0) := by
  have := Frm.first_fr (l := P.fields) (rest := []) (by have := P.fields_len (Pg.right_iff.1 hr).1; omega)
  rw [List.append_nil] at this
  exact this
/-- Bytes that the reading takes, and others. -/
theorem dec_no1 {bs : List Nat} (h : (Frm.first bs).2.2 ≠ 0) : ∀ P : Pg, P.right = true → P.bytes ≠ bs := by
  rintro P hr rfl
  rw [first_bytes hr] at h
  exact h rfl
theorem dec_no2 {bs : List Nat} (h : (rdPg (Frm.first bs).1).right = false ∨ (rdPg (Frm.first bs).1).bytes ≠ bs) : ∀ P : Pg, P.right = true → P.bytes ≠ bs := by
  rintro P hr rfl
  rw [first_bytes hr] at h
  simp only [rdPg_fields hr] at h
  rcases h with h | h
  · rw [hr] at h; cases h
  · exact h rfl

theorem encs_inj : ∀ {l m : List Nat}, (∀ x ∈ l, x < 18446744073709551616) → (∀ x ∈ m, x < 18446744073709551616) → encs l = encs m → l = m
  | [], [], _, _, _ => rfl
  | [], y :: m, _, hm, h => by
    rw [encs_cons, encs_nil] at h
    have h1 := congrArg List.length h
    have h2 := enc_pos y
    rw [List.length_append, List.length_nil] at h1
    omega
  | x :: l, [], hl, _, h => by
    rw [encs_cons, encs_nil] at h
    have h1 := congrArg List.length h
    have h2 := enc_pos x
    rw [List.length_append, List.length_nil] at h1
    omega
  | x :: l, y :: m, hl, hm, h => by
    have hx := hl x List.mem_cons_self
    have hy := hm y List.mem_cons_self
    have a := nv_encs (x := x) (l := l) hx
    have b := nv_encs (x := y) (l := m) hy
    rw [h] at a
    have e1 : x = y := a.1.symm.trans b.1
    have e2 : encs l = encs m := by have := a.2.symm.trans b.2; simpa using this
    rw [e1, encs_inj (fun z hz => hl z (List.mem_cons_of_mem _ hz)) (fun z hz => hm z (List.mem_cons_of_mem _ hz)) e2]
/-- What a number at the beginning leaves. -/
theorem num_step {bs : List Nat} (hs : ∀ c ∈ bs, c < 256) (h : numE 0 bs = 0) : bs = enc (numX 0 bs) ++ numB 0 bs ∧ numX 0 bs < 18446744073709551616 ∧ (numB 0 bs).length < bs.length := by
  unfold numE at h
  rw [if_pos rfl] at h
  unfold numX numB
  rw [if_pos rfl, if_pos rfl]
  rcases hG : G 0 0 bs with ⟨x, k, e⟩
  rw [hG] at h
  obtain rfl : e = 0 := h
  have h1 := Frm.G_begin hs hG
  have h2 := G_facts bs 0 0 hs (by omega) (by decide)
  rw [hG] at h2
  have h3 := h2.2.1 rfl
  refine ⟨?_, h2.2.2, ?_⟩
  · simp only
    rw [← h1.1, List.take_append_drop]
  · simp only [List.length_drop] at *
    simp at h3
    omega
theorem num_fails {bs : List Nat} (hne : bs ≠ []) (h : numE 0 bs ≠ 0) : ∀ l : List Nat, (∀ x ∈ l, x < 18446744073709551616) → encs l ≠ bs := by
  rintro l hl rfl
  cases l with
  | nil => exact hne rfl
  | cons x l =>
    have := nv_encs (l := l) (hl x List.mem_cons_self)
    have h2 := congrArg Prod.fst this.2
    exact h h2

end Go.Proofs.YtcgbkfnjohbglaaDoor
