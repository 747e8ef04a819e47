/- Decoding, as plain numbers: which bytes are those of a vector, and what the fields of any bytes come to. -/
import Derived.Test.YtfnaccmgmocolaaDoorRd
import Derived.Test.YtfnaccmgmocolaaDoorV
namespace Go.Proofs.YtfnaccmgmocolaaDoor

theorem G_canon : ∀ (l : List Nat) (i acc x k : Nat), (∀ c ∈ l, c < 256) → i ≤ 9 → Vint.G i acc l = (x, k, 0) →
    ∃ m, x = acc + m * 128 ^ i ∧ k = i + (Vint.enc m).length ∧ Vint.enc m ++ l.drop (Vint.enc m).length = l ∧ (m ≠ 0 ∨ i = 0)
  | [], i, acc, x, k, _, _, h => by
    rw [Vint.G_nil] at h
    simp at h
  | c :: t, i, acc, x, k, hs, hi, h => by
    have hc := hs c List.mem_cons_self
    by_cases h9 : i = 9
    · subst h9
      rw [Vint.G_nine] at h
      split at h
      · rename_i h1
        subst h1
        simp only [Prod.mk.injEq] at h
        refine ⟨1, ?_, ?_, ?_, .inl (by omega)⟩
        · have := Vint.pow_nine; omega
        · rw [Vint.enc_small (by omega)]; simp; omega
        · rw [Vint.enc_small (by omega)]; simp
      · simp at h
    · by_cases hb : c < 128
      · by_cases h0 : c ≠ 0 ∨ i = 0
        · rw [Vint.G_last (by omega) h0 hb] at h
          simp only [Prod.mk.injEq] at h
          refine ⟨c, by omega, ?_, ?_, h0⟩
          · rw [Vint.enc_small hb]; simp; omega
          · rw [Vint.enc_small hb]; simp
        · rw [Vint.G_form (by omega) (by omega) (by omega)] at h
          simp at h
      · rw [Vint.G_more (by omega) (by omega)] at h
        obtain ⟨m, h1, h2, h3, h4⟩ := G_canon t (i + 1) _ x k (fun d hd => hs d (List.mem_cons_of_mem _ hd)) (by omega) h
        have hm : 0 < m := by omega
        have he : Vint.enc (c - 128 + 128 * m) = c :: Vint.enc m := by
          rw [Vint.enc_big (by omega)]
          congr 1
          · omega
          · congr 1; omega
        refine ⟨c - 128 + 128 * m, ?_, ?_, ?_, .inl (by omega)⟩
        · rw [h1, Nat.pow_succ, Nat.add_mul, Nat.add_assoc]
          congr 2
          rw [Nat.mul_comm 128 m, Nat.mul_assoc, Nat.mul_comm (128 ^ i) 128]
        · rw [he, List.length_cons]; omega
        · rw [he]
          simp only [List.length_cons, List.drop_succ_cons, List.cons_append, h3]

/-- A number that is read without an error stands at the beginning. -/
theorem num_split {er : Nat} {bs : List Nat} (hs : ∀ c ∈ bs, c < 256) (h : numE er bs = 0) : er = 0 ∧ bs = Vint.enc (numX er bs) ++ numB er bs := by
  unfold numE at h
  split at h
  · rename_i h0
    subst h0
    refine ⟨rfl, ?_⟩
    unfold numX numB
    rw [if_pos rfl, if_pos rfl]
    obtain ⟨x, k, e⟩ : ∃ x k, Vint.G 0 0 bs = (x, k, 0) := ⟨(Vint.G 0 0 bs).1, (Vint.G 0 0 bs).2.1, Prod.ext rfl (Prod.ext rfl h)⟩
    obtain ⟨m, h1, h2, h3, _⟩ := G_canon bs 0 0 x k hs (by omega) e
    rw [e]
    have e1 : x = m := by simpa using h1
    have e2 : k = (Vint.enc m).length := by omega
    rw [e1, e2, h3]
  · rename_i h0
    exact absurd h h0

theorem numB_lt {er : Nat} {bs : List Nat} (hs : ∀ c ∈ bs, c < 256) : ∀ c ∈ numB er bs, c < 256 := by
  unfold numB
  split
  · intro c hc; exact hs c (List.mem_of_mem_drop hc)
  · exact hs

/-- The reader's error and rest behind a count and k numbers. -/
def st (bs : List Nat) : Nat → Nat × List Nat
  | 0 => (numE 0 bs, numB 0 bs)
  | k + 1 => (numE (st bs k).1 (st bs k).2, numB (st bs k).1 (st bs k).2)
/-- The number behind k numbers. -/
def xAt (bs : List Nat) (k : Nat) : Nat := numX (st bs k).1 (st bs k).2
/-- The vector of the first k numbers. -/
def vecTo (bs : List Nat) (k : Nat) : V := V.of fun i => if i < k then xAt bs i else 0

theorem of_mod (f : Nat → Nat) {i : Nat} (h : i < 16) : (V.of f).at_ i = f i % 4294967296 := by
  show ((List.range 16).map fun i => f i % 4294967296).getD i 0 = f i % 4294967296
  simp [List.getD, h]
theorem vecTo_zero (bs : List Nat) : vecTo bs 0 = V.zero := V.ext fun i h => by
  rw [vecTo, of_mod _ h, V.zero_at]; simp
theorem vecTo_succ (bs : List Nat) {k : Nat} (_hk : k < 16) : vecTo bs (k + 1) = V.put (vecTo bs k) k (xAt bs k % 4294967296) := V.ext fun i h => by
  rw [V.put_at _ _ _ h (Nat.mod_lt _ (by omega)), vecTo, vecTo, of_mod _ h, of_mod _ h]
  by_cases e : i = k
  · subst e; simp
  · rw [if_neg e]
    by_cases e2 : i < k
    · rw [if_pos (by omega), if_pos e2]
    · rw [if_neg (by omega), if_neg e2]

theorem st_lt {bs : List Nat} (hs : ∀ c ∈ bs, c < 256) : ∀ k, ∀ c ∈ (st bs k).2, c < 256
  | 0 => numB_lt (er := 0) hs
  | k + 1 => numB_lt (er := (st bs k).1) (st_lt hs k)

theorem st_back {bs : List Nat} (hs : ∀ c ∈ bs, c < 256) : ∀ k, (st bs k).1 = 0 → k ≤ 16 → (∀ i, i < k → xAt bs i < 4294967296) → ∀ (v : V), (∀ i, i < k → v.at_ i = xAt bs i) → bs = V.bytesTo v (numX 0 bs) k ++ (st bs k).2
  | 0, h, _, _, v, _ => (num_split (er := 0) hs h).2
  | k + 1, h, hk, hx, v, hv => by
    obtain ⟨h0, h1⟩ := num_split (er := (st bs k).1) (st_lt hs k) h
    have ih := st_back hs k h0 (by omega) (fun i hi => hx i (by omega)) v (fun i hi => hv i (by omega))
    rw [V.bytesTo, hv k (by omega), List.append_assoc]
    rw [show Vint.enc (xAt bs k) ++ (st bs (k + 1)).2 = (st bs k).2 from h1.symm]
    exact ih

theorem vecTo_at {bs : List Nat} {n : Nat} (hx : ∀ i, i < n → xAt bs i < 4294967296) {i : Nat} (hi : i < n) (h16 : i < 16) : (vecTo bs n).at_ i = xAt bs i := by
  rw [vecTo, of_mod _ h16, if_pos hi, Nat.mod_eq_of_lt (hx i hi)]

/-- What is accepted has just these bytes. -/
theorem dec_ok {bs : List Nat} {n : Nat} (hs : ∀ c ∈ bs, c < 256) (hn : numX 0 bs = n) (h16 : n ≤ 16) (hx : ∀ i, i < n → xAt bs i < 4294967296) (hE : (st bs n).1 = 0) (hB : (st bs n).2 = []) (hl : V.len (vecTo bs n) = n) : V.bytes (vecTo bs n) = bs := by
  have h := st_back hs n hE h16 hx (vecTo bs n) (fun i hi => vecTo_at hx hi (by omega))
  rw [hB, List.append_nil, hn] at h
  unfold V.bytes
  rw [hl]
  exact h.symm

/-- The bytes of j numbers from k on. -/
def bytesFrom (u : V) (k : Nat) : Nat → List Nat
  | 0 => []
  | j + 1 => Vint.enc (u.at_ k) ++ bytesFrom u (k + 1) j
theorem bytesTo_from (u : V) (n : Nat) : ∀ (j k : Nat), V.bytesTo u n k ++ bytesFrom u k j = V.bytesTo u n (k + j)
  | 0, k => by simp [bytesFrom]
  | j + 1, k => by
    rw [bytesFrom, ← List.append_assoc, show V.bytesTo u n k ++ Vint.enc (u.at_ k) = V.bytesTo u n (k + 1) from rfl, bytesTo_from u n j (k + 1)]
    congr 1
    omega

theorem num_enc {n : Nat} (h : n < 18446744073709551616) (rest : List Nat) : numX 0 (Vint.enc n ++ rest) = n ∧ numE 0 (Vint.enc n ++ rest) = 0 ∧ numB 0 (Vint.enc n ++ rest) = rest := by
  unfold numX numE numB
  rw [Vint.G_put h rest]
  simp

theorem st_bytes (u : V) : ∀ k, k ≤ V.len u → st (V.bytes u) k = (0, bytesFrom u k (V.len u - k))
  | 0, _ => by
    have e : V.bytes u = Vint.enc (V.len u) ++ bytesFrom u 0 (V.len u) := by
      have := bytesTo_from u (V.len u) (V.len u) 0
      rw [Nat.zero_add] at this
      exact this.symm
    have h := num_enc (n := V.len u) (by have := V.len_le u; omega) (bytesFrom u 0 (V.len u))
    rw [← e] at h
    rw [st, h.2.1, h.2.2, Nat.sub_zero]
  | k + 1, hk => by
    have ih := st_bytes u k (by omega)
    have e : V.len u - k = (V.len u - (k + 1)) + 1 := by omega
    have h := num_enc (n := u.at_ k) (by have := u.lt k; omega) (bytesFrom u (k + 1) (V.len u - (k + 1)))
    rw [e, bytesFrom] at ih
    rw [st, ih]
    exact Prod.ext h.2.1 h.2.2

/-- The fields of a vector's bytes. -/
theorem dec_bytes {u : V} {bs : List Nat} (h : V.bytes u = bs) : numX 0 bs = V.len u ∧ numE 0 bs = 0 ∧ (∀ k, k < V.len u → xAt bs k = u.at_ k ∧ numE (st bs k).1 (st bs k).2 = 0) ∧ st bs (V.len u) = (0, []) ∧ vecTo bs (V.len u) = u := by
  subst h
  have hx : ∀ k, k < V.len u → xAt (V.bytes u) k = u.at_ k ∧ numE (st (V.bytes u) k).1 (st (V.bytes u) k).2 = 0 := by
    intro k hk
    have e : V.len u - k = (V.len u - (k + 1)) + 1 := by omega
    have h := num_enc (n := u.at_ k) (by have := u.lt k; omega) (bytesFrom u (k + 1) (V.len u - (k + 1)))
    have ih := st_bytes u k (by omega)
    rw [e, bytesFrom] at ih
    unfold xAt
    rw [ih]
    exact ⟨h.1, h.2.1⟩
  have e : V.bytes u = Vint.enc (V.len u) ++ bytesFrom u 0 (V.len u) := by
    have := bytesTo_from u (V.len u) (V.len u) 0
    rw [Nat.zero_add] at this
    exact this.symm
  have h0 := num_enc (n := V.len u) (by have := V.len_le u; omega) (bytesFrom u 0 (V.len u))
  rw [← e] at h0
  refine ⟨h0.1, h0.2.1, hx, ?_, V.ext fun i hi => ?_⟩
  · rw [st_bytes u (V.len u) (Nat.le_refl _), Nat.sub_self]; rfl
  · by_cases hl : i < V.len u
    · rw [vecTo_at (fun k hk => by rw [(hx k hk).1]; exact u.lt k) hl hi, (hx i hl).1]
    · rw [vecTo, of_mod _ hi, if_neg hl]
      exact (V.lenFrom_zero u 16 i (by unfold V.len at hl; omega) hi).symm

theorem bytes_inj {u v : V} (h : V.bytes u = V.bytes v) : u = v := by
  obtain ⟨a1, _, _, _, a2⟩ := dec_bytes (rfl : V.bytes u = V.bytes u)
  obtain ⟨b1, _, _, _, b2⟩ := dec_bytes (rfl : V.bytes v = V.bytes v)
  rw [← a2, ← b2, ← a1, ← b1, h]

end Go.Proofs.YtfnaccmgmocolaaDoor
