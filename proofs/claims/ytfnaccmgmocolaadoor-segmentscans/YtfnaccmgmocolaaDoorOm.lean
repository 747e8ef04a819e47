/- Operations as plain numbers: which may be, how far one stands, which comes first, which ends which, its bytes, and what the fields of any bytes come to. No program. -/
import Derived.Test.YtfnaccmgmocolaaDoorDec
namespace Go.Proofs.YtfnaccmgmocolaaDoor

/-- An operation: replica and number, kind, cart, item, quantity, tick, and the vector of what was known. -/
structure O where
  r : Nat
  s : Nat
  k : Nat
  c : Nat
  i : Nat
  q : Nat
  t : Nat
  v : V
  hr : r < 256
  hs : s < 4294967296
  hk : k < 256
  hc : c < 65536
  hi : i < 65536
  hq : q < 65536
  ht : t < 4294967296

namespace O

theorem ext' {a b : O} (h0 : a.r = b.r) (h1 : a.s = b.s) (h2 : a.k = b.k) (h3 : a.c = b.c) (h4 : a.i = b.i) (h5 : a.q = b.q) (h6 : a.t = b.t) (h7 : a.v = b.v) : a = b := by
  cases a; cases b
  simp only at h0 h1 h2 h3 h4 h5 h6 h7
  subst h0 h1 h2 h3 h4 h5 h6 h7
  rfl

/-- The operation whose fields are all 0. -/
def zero : O := ⟨0, 0, 0, 0, 0, 0, 0, V.zero, by omega, by omega, by omega, by omega, by omega, by omega, by omega⟩

/-- Kind, item and quantity such as may be. -/
def kindB (o : O) : Bool := decide ((o.k = 1 ∧ 1 ≤ o.q) ∨ o.k = 2 ∨ (o.k = 3 ∧ o.q = 0) ∨ ((o.k = 4 ∨ o.k = 5) ∧ o.i = 0 ∧ o.q = 0))
/-- Valid for n replicas. -/
def rightB (o : O) (n : Int) : Bool := decide (V.dotB o.r o.s = true ∧ o.v.at_ o.r + 1 = o.s ∧ (o.r : Int) < n ∧ V.rightB o.v n = true ∧ o.t ≤ 1073741824 ∧ o.kindB = true)
def count (o : O) : Nat := V.sum o.v + 1
def lessB (a b : O) : Bool := decide (a.count < b.count ∨ (a.count = b.count ∧ (a.r < b.r ∨ (a.r = b.r ∧ a.s < b.s))))
/-- It makes an entry. -/
def laysB (o : O) : Bool := decide (o.k = 1 ∨ o.k = 2 ∨ o.k = 4)
def endsB (o e : O) : Bool := decide (e.laysB = true ∧ o.c = e.c ∧ V.hasB o.v e.r e.s = true ∧ (o.k = 5 ∨ ((o.k = 3 ∨ o.k = 2) ∧ e.k ≠ 4 ∧ o.i = e.i)))
def readyE (v : V) (o : O) : Nat := if o.rightB 16 = true then (if V.hasB v o.r o.s = true then 8 else if V.belowB o.v v = true then 0 else 9) else 2

theorem count_lt (o : O) : o.count ≤ 68719476721 := by have := V.sum_lt o.v; unfold count; omega

theorem right_iff (o : O) (n : Int) : o.rightB n = true ↔ V.dotB o.r o.s = true ∧ o.v.at_ o.r + 1 = o.s ∧ (o.r : Int) < n ∧ V.rightB o.v n = true ∧ o.t ≤ 1073741824 ∧ o.kindB = true := by
  unfold rightB; rw [decide_eq_true_eq]
theorem right_no {o : O} {n : Int} (h : ¬ (V.dotB o.r o.s = true ∧ o.v.at_ o.r + 1 = o.s ∧ (o.r : Int) < n ∧ V.rightB o.v n = true ∧ o.t ≤ 1073741824 ∧ o.kindB = true)) : o.rightB n = false := by
  rw [← Bool.not_eq_true, right_iff]; exact h

theorem next_zero (v : V) (r s : Nat) : V.nextE v r s = 0 ↔ V.dotB r s = true ∧ v.at_ r + 1 = s := by
  unfold V.nextE V.hasB
  cases h : V.dotB r s
  · simp
  · have hd : 1 ≤ s := by
      have : r < 16 ∧ 1 ≤ s ∧ s ≤ 1048576 := by simpa [V.dotB] using h
      omega
    simp only [if_true, Bool.true_and, decide_eq_true_eq, true_and]
    split
    · omega
    · split <;> omega

/-- The numbers ahead of the vector. -/
def nums (o : O) : List Nat := [o.r, o.s, o.k, o.c, o.i, o.q, o.t]
def encs (l : List Nat) : List Nat := l.flatMap Vint.enc
def tailB (v : V) : List Nat := Vint.enc (V.bytes v).length ++ V.bytes v
def bytes (o : O) : List Nat := encs o.nums ++ tailB o.v

theorem encs_cons (n : Nat) (l : List Nat) : encs (n :: l) = Vint.enc n ++ encs l := by simp [encs]
theorem encs_append (l m : List Nat) : encs (l ++ m) = encs l ++ encs m := by simp [encs]
theorem encs_snoc {l : List Nat} {k : Nat} (h : k < l.length) : encs (l.take (k + 1)) = encs (l.take k) ++ Vint.enc (l.getD k 0) := by
  rw [List.take_succ_eq_append_getElem h, encs_append]
  simp [encs, List.getD, h]
theorem encs_lt (l : List Nat) : ∀ c ∈ encs l, c < 256 := by
  intro c hc
  obtain ⟨n, _, h⟩ := List.mem_flatMap.1 hc
  exact Vint.enc_lt n c h
theorem encs_le : ∀ {l : List Nat}, (∀ n ∈ l, n < 18446744073709551616) → (encs l).length ≤ 10 * l.length
  | [], _ => by simp [encs]
  | n :: l, h => by
    rw [encs_cons, List.length_append, List.length_cons]
    have := Vint.enc_ten (h n List.mem_cons_self)
    have := encs_le (l := l) (fun m hm => h m (List.mem_cons_of_mem _ hm))
    omega
theorem nums_lt (o : O) : ∀ n ∈ o.nums, n < 18446744073709551616 := by
  intro n hn
  have := o.hr; have := o.hs; have := o.hk; have := o.hc; have := o.hi; have := o.hq; have := o.ht
  simp only [nums, List.mem_cons, List.not_mem_nil, or_false] at hn
  rcases hn with rfl | rfl | rfl | rfl | rfl | rfl | rfl <;> omega
theorem tail_lt (v : V) : ∀ c ∈ tailB v, c < 256 := by
  intro c hc
  rcases List.mem_append.1 hc with h | h
  · exact Vint.enc_lt _ c h
  · exact V.bytes_lt v c h
theorem bytes_lt (o : O) : ∀ c ∈ o.bytes, c < 256 := by
  intro c hc
  rcases List.mem_append.1 hc with h | h
  · exact encs_lt _ c h
  · exact tail_lt _ c h
theorem tail_le (v : V) : (tailB v).length ≤ 300 := by
  have h1 := V.bytes_le v
  have h2 := Vint.enc_ten (n := (V.bytes v).length) (by omega)
  unfold tailB
  rw [List.length_append]
  omega
theorem bytes_le (o : O) : o.bytes.length ≤ 400 := by
  have h1 := encs_le o.nums_lt
  have h2 := tail_le o.v
  have h3 : o.nums.length = 7 := rfl
  unfold bytes
  rw [List.length_append]
  omega

/-! Reading. -/
/-- The reader's error and rest behind k numbers. -/
def st (bs : List Nat) : Nat → Nat × List Nat
  | 0 => (0, bs)
  | k + 1 => (numE (st bs k).1 (st bs k).2, numB (st bs k).1 (st bs k).2)
def x (bs : List Nat) (k : Nat) : Nat := numX (st bs k).1 (st bs k).2
/-- The first k numbers. -/
def xs (bs : List Nat) (k : Nat) : List Nat := (List.range k).map (x bs)

theorem st_lt {bs : List Nat} (hs : ∀ c ∈ bs, c < 256) : ∀ k, ∀ c ∈ (st bs k).2, c < 256
  | 0 => hs
  | k + 1 => numB_lt (er := (st bs k).1) (st_lt hs k)
theorem xs_len (bs : List Nat) (k : Nat) : (xs bs k).length = k := by simp [xs]
theorem xs_succ (bs : List Nat) (k : Nat) : xs bs (k + 1) = xs bs k ++ [x bs k] := by simp [xs, List.range_succ]
theorem xs_at (bs : List Nat) {k j : Nat} (h : j < k) : (xs bs k).getD j 0 = x bs j := by simp [xs, List.getD, h]

theorem st_back {bs : List Nat} (hs : ∀ c ∈ bs, c < 256) : ∀ k, (st bs k).1 = 0 → bs = encs (xs bs k) ++ (st bs k).2
  | 0, _ => by simp [xs, encs, st]
  | k + 1, h => by
    obtain ⟨h0, h1⟩ := num_split (er := (st bs k).1) (st_lt hs k) h
    have ih := st_back hs k h0
    rw [xs_succ, encs_append, List.append_assoc]
    rw [show encs [x bs k] ++ (st bs (k + 1)).2 = (st bs k).2 by rw [encs_cons]; simp only [encs, List.flatMap_nil, List.append_nil]; exact h1.symm]
    exact ih

theorem st_fwd {l : List Nat} (hl : ∀ n ∈ l, n < 18446744073709551616) (tl : List Nat) : ∀ k, k ≤ l.length → st (encs l ++ tl) k = (0, encs (l.drop k) ++ tl)
  | 0, _ => by simp [st]
  | k + 1, hk => by
    have ih := st_fwd hl tl k (by omega)
    have hk' : k < l.length := by omega
    have e : l.drop k = l[k] :: l.drop (k + 1) := List.drop_eq_getElem_cons hk'
    have h := num_enc (hl _ (List.getElem_mem hk')) (encs (l.drop (k + 1)) ++ tl)
    rw [e, encs_cons, List.append_assoc] at ih
    rw [st, ih]
    exact Prod.ext h.2.1 h.2.2
theorem x_fwd {l : List Nat} (hl : ∀ n ∈ l, n < 18446744073709551616) (tl : List Nat) {k : Nat} (hk : k < l.length) : x (encs l ++ tl) k = l.getD k 0 ∧ numE (st (encs l ++ tl) k).1 (st (encs l ++ tl) k).2 = 0 := by
  have ih := st_fwd hl tl k (by omega)
  have e : l.drop k = l[k] :: l.drop (k + 1) := List.drop_eq_getElem_cons hk
  have h := num_enc (hl _ (List.getElem_mem hk)) (encs (l.drop (k + 1)) ++ tl)
  rw [e, encs_cons, List.append_assoc] at ih
  unfold x
  rw [ih]
  exact ⟨by rw [show l.getD k 0 = l[k] by simp [List.getD, hk]]; exact h.1, h.2.1⟩

/-- The bytes field that is read without an error stands at the beginning. -/
theorem byt_split {er : Nat} {bs : List Nat} (hs : ∀ c ∈ bs, c < 256) (h : bytE er bs = 0) : er = 0 ∧ bs = Vint.enc (bytX er bs).length ++ bytX er bs ++ bytB er bs := by
  unfold bytE at h
  by_cases h0 : numE er bs = 0
  · rw [if_pos h0] at h
    by_cases h1 : numX er bs ≤ (numB er bs).length
    · obtain ⟨e1, e2⟩ := num_split hs h0
      refine ⟨e1, ?_⟩
      unfold bytX bytB
      rw [if_pos ⟨h0, h1⟩, if_pos ⟨h0, h1⟩, List.length_take, Nat.min_eq_left h1, List.append_assoc, List.take_append_drop]
      exact e2
    · rw [if_neg h1] at h; cases h
  · rw [if_neg h0] at h; exact absurd h h0
theorem byt_enc (l rest : List Nat) (hl : l.length < 18446744073709551616) : bytX 0 (Vint.enc l.length ++ l ++ rest) = l ∧ bytE 0 (Vint.enc l.length ++ l ++ rest) = 0 ∧ bytB 0 (Vint.enc l.length ++ l ++ rest) = rest := by
  have h := num_enc hl (l ++ rest)
  rw [← List.append_assoc] at h
  obtain ⟨h1, h2, h3⟩ := h
  unfold bytX bytE bytB
  rw [h1, h2, h3]
  simp
theorem bytX_lt {er : Nat} {bs : List Nat} (hs : ∀ c ∈ bs, c < 256) : ∀ c ∈ bytX er bs, c < 256 := by
  unfold bytX
  split
  · intro c hc; exact numB_lt (er := er) hs c (List.mem_of_mem_take hc)
  · simp

/-- What a row of seven numbers and a vector come to, cut to their fields. -/
def of (bs : List Nat) (v : V) : O := ⟨x bs 0 % 256, x bs 1 % 4294967296, x bs 2 % 256, x bs 3 % 65536, x bs 4 % 65536, x bs 5 % 65536, x bs 6 % 4294967296, v, Nat.mod_lt _ (by omega), Nat.mod_lt _ (by omega), Nat.mod_lt _ (by omega), Nat.mod_lt _ (by omega), Nat.mod_lt _ (by omega), Nat.mod_lt _ (by omega), Nat.mod_lt _ (by omega)⟩

/-- What the fields may be at most. -/
def most (k : Nat) : Nat := [255, 4294967295, 255, 65535, 65535, 65535, 4294967295].getD k 0

theorem of_nums {bs : List Nat} {v : V} (h : ∀ k, k < 7 → x bs k ≤ most k) : (of bs v).nums = xs bs 7 := by
  have h0 := h 0 (by omega); have h1 := h 1 (by omega); have h2 := h 2 (by omega); have h3 := h 3 (by omega); have h4 := h 4 (by omega); have h5 := h 5 (by omega); have h6 := h 6 (by omega)
  simp [most] at h0 h1 h2 h3 h4 h5 h6
  simp only [of, nums, xs, List.range, List.range.loop, List.map_cons, List.map_nil]
  rw [Nat.mod_eq_of_lt (by omega), Nat.mod_eq_of_lt (by omega), Nat.mod_eq_of_lt (by omega), Nat.mod_eq_of_lt (by omega), Nat.mod_eq_of_lt (by omega), Nat.mod_eq_of_lt (by omega), Nat.mod_eq_of_lt (by omega)]

/-- What is accepted has just these bytes. -/
theorem dec_ok {bs : List Nat} {v : V} (hs : ∀ c ∈ bs, c < 256) (hx : ∀ k, k < 7 → x bs k ≤ most k) (hE : bytE (st bs 7).1 (st bs 7).2 = 0) (hB : bytB (st bs 7).1 (st bs 7).2 = []) (hv : V.bytes v = bytX (st bs 7).1 (st bs 7).2) : (of bs v).bytes = bs := by
  obtain ⟨h0, h1⟩ := byt_split (st_lt hs 7) hE
  have h2 := st_back hs 7 h0
  rw [hB, List.append_nil, ← hv] at h1
  unfold bytes
  rw [of_nums hx]
  show encs (xs bs 7) ++ tailB v = bs
  rw [tailB, ← h1]
  exact h2.symm

/-- The fields of an operation's bytes. -/
theorem dec_bytes {u : O} {bs : List Nat} (h : u.bytes = bs) : (∀ k, k < 7 → x bs k = u.nums.getD k 0 ∧ numE (st bs k).1 (st bs k).2 = 0) ∧ st bs 7 = (0, tailB u.v) ∧ bytX 0 (tailB u.v) = V.bytes u.v ∧ bytE 0 (tailB u.v) = 0 ∧ bytB 0 (tailB u.v) = [] := by
  subst h
  refine ⟨fun k hk => x_fwd u.nums_lt _ hk, st_fwd u.nums_lt _ 7 (Nat.le_refl _), ?_⟩
  have hb := V.bytes_le u.v
  have := byt_enc (V.bytes u.v) [] (by omega)
  rw [List.append_nil] at this
  exact this
theorem of_bytes {u : O} {bs : List Nat} (h : u.bytes = bs) : of bs u.v = u := by
  obtain ⟨h1, _⟩ := dec_bytes h
  have h0 := (h1 0 (by omega)).1; have ha := (h1 1 (by omega)).1; have h2 := (h1 2 (by omega)).1; have h3 := (h1 3 (by omega)).1; have h4 := (h1 4 (by omega)).1; have h5 := (h1 5 (by omega)).1; have h6 := (h1 6 (by omega)).1
  simp [nums] at h0 ha h2 h3 h4 h5 h6
  refine ext' ?_ ?_ ?_ ?_ ?_ ?_ ?_ rfl
  · show x bs 0 % 256 = u.r; rw [h0]; exact Nat.mod_eq_of_lt u.hr
  · show x bs 1 % 4294967296 = u.s; rw [ha]; exact Nat.mod_eq_of_lt u.hs
  · show x bs 2 % 256 = u.k; rw [h2]; exact Nat.mod_eq_of_lt u.hk
  · show x bs 3 % 65536 = u.c; rw [h3]; exact Nat.mod_eq_of_lt u.hc
  · show x bs 4 % 65536 = u.i; rw [h4]; exact Nat.mod_eq_of_lt u.hi
  · show x bs 5 % 65536 = u.q; rw [h5]; exact Nat.mod_eq_of_lt u.hq
  · show x bs 6 % 4294967296 = u.t; rw [h6]; exact Nat.mod_eq_of_lt u.ht
theorem most_of {u : O} {k : Nat} (hk : k < 7) : u.nums.getD k 0 ≤ most k := by
  have := u.hr; have := u.hs; have := u.hk; have := u.hc; have := u.hi; have := u.hq; have := u.ht
  have : k = 0 ∨ k = 1 ∨ k = 2 ∨ k = 3 ∨ k = 4 ∨ k = 5 ∨ k = 6 := by omega
  rcases this with rfl | rfl | rfl | rfl | rfl | rfl | rfl <;> simp [nums, most] <;> omega
theorem bytes_inj {u v : O} (h : u.bytes = v.bytes) : u = v := by
  obtain ⟨_, a2, a3, _, _⟩ := dec_bytes (rfl : u.bytes = u.bytes)
  obtain ⟨_, b2, b3, _, _⟩ := dec_bytes (rfl : v.bytes = v.bytes)
  rw [h] at a2
  have e : tailB u.v = tailB v.v := by
    have := a2.symm.trans b2
    injection this
  rw [e] at a3
  have hv := Go.Proofs.YtfnaccmgmocolaaDoor.bytes_inj (a3.symm.trans b3)
  have h1 := of_bytes (rfl : u.bytes = u.bytes)
  have h2 := of_bytes (rfl : v.bytes = v.bytes)
  rw [← h1, ← h2, h, hv]

section
open Classical
/-- The valid operation whose bytes they are, and whether there is one. -/
noncomputable def decO (bs : List Nat) : O := if h : ∃ u : O, u.rightB 16 = true ∧ u.bytes = bs then h.choose else zero
noncomputable def decE (bs : List Nat) : Nat := if ∃ u : O, u.rightB 16 = true ∧ u.bytes = bs then 0 else 5
theorem dec_yes {u : O} {bs : List Nat} (hr : u.rightB 16 = true) (h : u.bytes = bs) : decE bs = 0 ∧ decO bs = u := by
  have hex : ∃ u : O, u.rightB 16 = true ∧ u.bytes = bs := ⟨u, hr, h⟩
  unfold decE decO
  rw [if_pos hex, dif_pos hex]
  exact ⟨rfl, bytes_inj (hex.choose_spec.2.trans h.symm)⟩
theorem dec_no {bs : List Nat} (h : ∀ u : O, u.rightB 16 = true → u.bytes ≠ bs) : decE bs = 5 ∧ decO bs = zero := by
  have hex : ¬ ∃ u : O, u.rightB 16 = true ∧ u.bytes = bs := fun ⟨u, hu, h1⟩ => h u hu h1
  unfold decE decO
  rw [if_neg hex, dif_neg hex]
  exact ⟨rfl, rfl⟩
theorem dec_two (bs : List Nat) : (decE bs = 0 ∧ (decO bs).rightB 16 = true ∧ (decO bs).bytes = bs) ∨ (decE bs = 5 ∧ decO bs = zero) := by
  by_cases h : ∃ u : O, u.rightB 16 = true ∧ u.bytes = bs
  · obtain ⟨u, h1, h2⟩ := h
    obtain ⟨e1, e2⟩ := dec_yes h1 h2
    rw [e2]
    exact .inl ⟨e1, h1, h2⟩
  · exact .inr (dec_no fun u h1 h2 => h ⟨u, h1, h2⟩)
end
/-- The bytes, and the error, of an operation. -/
def encB (o : O) : List Nat := if o.rightB 16 = true then o.bytes else []
def encE (o : O) : Nat := if o.rightB 16 = true then 0 else 2

end O
end Go.Proofs.YtfnaccmgmocolaaDoor
