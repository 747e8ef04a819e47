/- Plain facts about frames, on lists of bytes: the frame of bytes, what stands in the first frame, what stands in all of them, and how these belong together. No condition but the sizes that each fact names. -/
import Derived.Test.YtcgbkfnjohbglaaDoorMath
import Derived.Test.YtcgbkfnjohbglaaDoorCm
namespace Go.Proofs.YtcgbkfnjohbglaaDoor
namespace Frm
open Vint

/-- A sum's four bytes. -/
def le4 (s : Nat) : List Nat := [s % 256, s / 256 % 256, s / 65536 % 256, s / 16777216 % 256]
def sumB (l : List Nat) : List Nat := le4 (Crc.next 0 l)
def bodyB (l : List Nat) : List Nat := enc l.length ++ l
/-- The frame of bytes. -/
def fr (l : List Nat) : List Nat := bodyB l ++ sumB (bodyB l)

theorem le4_len (s : Nat) : (le4 s).length = 4 := rfl
theorem sumB_len (l : List Nat) : (sumB l).length = 4 := rfl
theorem le4_lt (s : Nat) : ∀ c ∈ le4 s, c < 256 := by
  intro c hc
  simp [le4] at hc
  omega
theorem le4_inj {s t : Nat} (hs : s < 4294967296) (ht : t < 4294967296) (h : le4 s = le4 t) : s = t := by
  simp [le4] at h
  omega
theorem body_lt {l : List Nat} (h : ∀ c ∈ l, c < 256) : ∀ c ∈ bodyB l, c < 256 := by
  intro c hc
  rcases List.mem_append.1 hc with hc | hc
  · exact enc_lt _ c hc
  · exact h c hc
theorem fr_lt {l : List Nat} (h : ∀ c ∈ l, c < 256) : ∀ c ∈ fr l, c < 256 := by
  intro c hc
  rcases List.mem_append.1 hc with hc | hc
  · exact body_lt h c hc
  · exact le4_lt _ c hc
theorem body_len (l : List Nat) : (bodyB l).length = (enc l.length).length + l.length := by simp [bodyB]
theorem fr_len (l : List Nat) : (fr l).length = (enc l.length).length + l.length + 4 := by
  unfold fr
  rw [List.length_append, body_len, sumB_len]

/-- What stands in the frame at the beginning of bytes: the content, the frame's length, the error. -/
def first (bs : List Nat) : List Nat × Nat × Nat :=
  if (G 0 0 bs).2.2 ≠ 0 then ([], 0, (G 0 0 bs).2.2)
  else if 4096 < (G 0 0 bs).1 then ([], 0, 5)
  else if bs.length < (G 0 0 bs).2.1 + (G 0 0 bs).1 + 4 then ([], 0, 4)
  else if (bs.drop ((G 0 0 bs).2.1 + (G 0 0 bs).1)).take 4 ≠ sumB (bs.take ((G 0 0 bs).2.1 + (G 0 0 bs).1)) then ([], 0, 6)
  else ((bs.take ((G 0 0 bs).2.1 + (G 0 0 bs).1)).drop (G 0 0 bs).2.1, (G 0 0 bs).2.1 + (G 0 0 bs).1 + 4, 0)

theorem first_err {bs : List Nat} {x k e : Nat} (hG : G 0 0 bs = (x, k, e)) (he : e ≠ 0) : first bs = ([], 0, e) := by
  unfold first; rw [hG, if_pos he]
theorem first_form {bs : List Nat} {x k : Nat} (hG : G 0 0 bs = (x, k, 0)) (hx : 4096 < x) : first bs = ([], 0, 5) := by
  unfold first; rw [hG, if_neg (by simp), if_pos hx]
theorem first_short {bs : List Nat} {x k : Nat} (hG : G 0 0 bs = (x, k, 0)) (hx : x ≤ 4096) (hl : bs.length < k + x + 4) : first bs = ([], 0, 4) := by
  unfold first; rw [hG, if_neg (by simp), if_neg (by simp; omega), if_pos hl]
theorem first_sum {bs : List Nat} {x k : Nat} (hG : G 0 0 bs = (x, k, 0)) (hx : x ≤ 4096) (hl : k + x + 4 ≤ bs.length) (hs : (bs.drop (k + x)).take 4 ≠ sumB (bs.take (k + x))) : first bs = ([], 0, 6) := by
  unfold first; rw [hG, if_neg (by simp), if_neg (by simp; omega), if_neg (by simp; omega), if_pos hs]
theorem first_ok {bs : List Nat} {x k : Nat} (hG : G 0 0 bs = (x, k, 0)) (hx : x ≤ 4096) (hl : k + x + 4 ≤ bs.length) (hs : (bs.drop (k + x)).take 4 = sumB (bs.take (k + x))) : first bs = ((bs.take (k + x)).drop k, k + x + 4, 0) := by
  unfold first; rw [hG, if_neg (by simp), if_neg (by simp; omega), if_neg (by simp; omega), if_neg (by simpa using hs)]

/-- The five ways. -/
theorem first_ways (bs : List Nat) : (∃ x k e, G 0 0 bs = (x, k, e) ∧ e ≠ 0 ∧ first bs = ([], 0, e)) ∨
    (∃ x k, G 0 0 bs = (x, k, 0) ∧ 4096 < x ∧ first bs = ([], 0, 5)) ∨
    (∃ x k, G 0 0 bs = (x, k, 0) ∧ x ≤ 4096 ∧ bs.length < k + x + 4 ∧ first bs = ([], 0, 4)) ∨
    (∃ x k, G 0 0 bs = (x, k, 0) ∧ x ≤ 4096 ∧ k + x + 4 ≤ bs.length ∧ (bs.drop (k + x)).take 4 ≠ sumB (bs.take (k + x)) ∧ first bs = ([], 0, 6)) ∨
    (∃ x k, G 0 0 bs = (x, k, 0) ∧ x ≤ 4096 ∧ k + x + 4 ≤ bs.length ∧ (bs.drop (k + x)).take 4 = sumB (bs.take (k + x)) ∧ first bs = ((bs.take (k + x)).drop k, k + x + 4, 0)) := by
  rcases hG : G 0 0 bs with ⟨x, k, e⟩
  by_cases he : e = 0
  · subst he
    right
    by_cases hx : 4096 < x
    · exact .inl ⟨x, k, rfl, hx, first_form hG hx⟩
    · right
      by_cases hl : bs.length < k + x + 4
      · exact .inl ⟨x, k, rfl, by omega, hl, first_short hG (by omega) hl⟩
      · right
        by_cases hs : (bs.drop (k + x)).take 4 = sumB (bs.take (k + x))
        · exact .inr ⟨x, k, rfl, by omega, by omega, hs, first_ok hG (by omega) (by omega) hs⟩
        · exact .inl ⟨x, k, rfl, by omega, by omega, hs, first_sum hG (by omega) (by omega) hs⟩
  · exact .inl ⟨x, k, e, rfl, he, first_err hG he⟩

theorem first_zero {bs : List Nat} (h : (first bs).2.2 ≠ 0) : (first bs).1 = [] ∧ (first bs).2.1 = 0 := by
  rcases first_ways bs with ⟨x, k, e, _, _, hf⟩ | ⟨x, k, _, _, hf⟩ | ⟨x, k, _, _, _, hf⟩ | ⟨x, k, _, _, _, _, hf⟩ | ⟨x, k, _, _, _, _, hf⟩ <;> rw [hf] at h ⊢ <;> simp at h ⊢

theorem first_size {bs : List Nat} (h : (first bs).2.2 = 0) : 4 ≤ (first bs).2.1 ∧ (first bs).2.1 ≤ bs.length ∧ (first bs).1.length ≤ 4096 := by
  rcases first_ways bs with ⟨x, k, e, _, he, hf⟩ | ⟨x, k, _, _, hf⟩ | ⟨x, k, _, _, _, hf⟩ | ⟨x, k, _, _, _, _, hf⟩ | ⟨x, k, _, hx, hl, _, hf⟩ <;> rw [hf] at h ⊢ <;> simp at h ⊢
  · exact absurd h he
  · omega

theorem first_small {bs : List Nat} (hs : ∀ c ∈ bs, c < 256) : ∀ c ∈ (first bs).1, c < 256 := by
  rcases first_ways bs with ⟨x, k, e, _, he, hf⟩ | ⟨x, k, _, _, hf⟩ | ⟨x, k, _, _, _, hf⟩ | ⟨x, k, _, _, _, _, hf⟩ | ⟨x, k, _, hx, hl, _, hf⟩ <;> rw [hf] <;> intro c hc
  · simp at hc
  · simp at hc
  · simp at hc
  · simp at hc
  · exact hs c (List.mem_of_mem_take (List.mem_of_mem_drop hc))

/-- What stands in all frames at the beginning of bytes, and where they end. -/
def scan (bs : List Nat) : List (List Nat) × Nat :=
  if _h : (first bs).2.2 = 0 then ((first bs).1 :: (scan (bs.drop (first bs).2.1)).1, (first bs).2.1 + (scan (bs.drop (first bs).2.1)).2) else ([], 0)
termination_by bs.length
decreasing_by all_goals (have := first_size _h; rw [List.length_drop]; omega)

theorem scan_stop {bs : List Nat} (h : (first bs).2.2 ≠ 0) : scan bs = ([], 0) := by rw [scan, dif_neg h]
theorem scan_step {bs : List Nat} (h : (first bs).2.2 = 0) : scan bs = ((first bs).1 :: (scan (bs.drop (first bs).2.1)).1, (first bs).2.1 + (scan (bs.drop (first bs).2.1)).2) := by
  conv => lhs; rw [scan, dif_pos h]

theorem first_nil : first [] = ([], 0, 4) := first_err (x := 0) (k := 0) rfl (by decide)
theorem scan_nil : scan [] = ([], 0) := scan_stop (by rw [first_nil]; decide)

theorem scan_le (bs : List Nat) : (scan bs).2 ≤ bs.length ∧ 4 * (scan bs).1.length ≤ (scan bs).2 := by
  induction hn : bs.length using Nat.strongRecOn generalizing bs with
  | ind n ih =>
    by_cases h : (first bs).2.2 = 0
    · have hs := first_size h
      rw [scan_step h]
      have := ih (bs.drop (first bs).2.1).length (by rw [List.length_drop]; omega) _ rfl
      rw [List.length_drop] at this
      simp only [List.length_cons]
      omega
    · rw [scan_stop h]; simp

theorem scan_small {bs : List Nat} (hs : ∀ c ∈ bs, c < 256) : ∀ l ∈ (scan bs).1, l.length ≤ 4096 ∧ ∀ c ∈ l, c < 256 := by
  induction hn : bs.length using Nat.strongRecOn generalizing bs with
  | ind n ih =>
    by_cases h : (first bs).2.2 = 0
    · have hz := first_size h
      rw [scan_step h]
      intro l hl
      rcases List.mem_cons.1 hl with rfl | hl
      · exact ⟨hz.2.2, first_small hs⟩
      · exact ih (bs.drop (first bs).2.1).length (by rw [List.length_drop]; omega) (fun c hc => hs c (List.mem_of_mem_drop hc)) rfl l hl
    · rw [scan_stop h]; simp

/-- A number's bytes are the shortest that mean it. -/
theorem G_take : ∀ (l p : List Nat) (x k : Nat), (∀ d ∈ p, 128 ≤ d ∧ d < 256) → p.length ≤ 9 → (∀ c ∈ l, c < 256) → G p.length (val p) l = (x, k, 0) → (p ++ l).take k = enc x ∧ k ≤ p.length + l.length
  | [], p, x, k, _, _, _, h => by rw [G_nil] at h; simp at h
  | c :: t, p, x, k, hp, hl, hs, h => by
    have hc := hs c List.mem_cons_self
    have hcat : p ++ c :: t = (p ++ [c]) ++ t := by simp
    have htk : (p ++ c :: t).take (p.length + 1) = p ++ [c] := by
      rw [hcat]
      exact List.take_left' (by simp)
    by_cases h9 : p.length = 9
    · rw [h9, G_nine] at h
      by_cases h1 : c = 1
      · rw [if_pos h1] at h
        simp only [Prod.mk.injEq] at h
        obtain ⟨rfl, rfl, _⟩ := h
        subst h1
        have hv := val_append p 1
        rw [h9, pow_nine] at hv
        rw [h9] at htk
        rw [htk, show val p + 9223372036854775808 = val (p ++ [1]) by rw [hv]]
        exact ⟨(canon p 1 hp (by omega) (.inl (by omega))).1.symm, by simp; omega⟩
      · rw [if_neg h1] at h; simp at h
    · by_cases h0 : c = 0 ∧ p.length ≠ 0
      · rw [G_form (by omega) h0.1 h0.2] at h; simp at h
      · by_cases hlow : c < 128
        · rw [G_last (by omega) (by omega) hlow] at h
          simp only [Prod.mk.injEq] at h
          obtain ⟨rfl, rfl, _⟩ := h
          have hv := val_append p c
          rw [Nat.mod_eq_of_lt hlow] at hv
          rw [htk, ← hv]
          refine ⟨(canon p c hp hlow ?_).1.symm, by simp⟩
          by_cases hc0 : c = 0
          · right
            have : p.length = 0 := by
              by_cases hp0 : p.length = 0
              · exact hp0
              · exact absurd ⟨hc0, hp0⟩ h0
            exact List.eq_nil_of_length_eq_zero this
          · exact .inl hc0
        · rw [G_more (by omega) (by omega)] at h
          have hv := val_append p c
          rw [show c % 128 = c - 128 by omega] at hv
          rw [← hv] at h
          have h' : G (p ++ [c]).length (val (p ++ [c])) t = (x, k, 0) := by simpa using h
          have := G_take t (p ++ [c]) x k (by
            intro d hd
            rcases List.mem_append.1 hd with hd | hd
            · exact hp d hd
            · simp at hd; omega) (by simp; omega) (fun d hd => hs d (List.mem_cons_of_mem _ hd)) h'
          rw [hcat]
          refine ⟨this.1, ?_⟩
          have h2 := this.2
          simp at h2 ⊢
          omega

theorem G_begin {bs : List Nat} {x k : Nat} (hs : ∀ c ∈ bs, c < 256) (h : G 0 0 bs = (x, k, 0)) : bs.take k = enc x ∧ k ≤ bs.length := by
  have := G_take bs [] x k (by simp) (by simp) hs (by simpa [val] using h)
  simpa using this

theorem G_begin_len {bs : List Nat} {x k : Nat} (hs : ∀ c ∈ bs, c < 256) (h : G 0 0 bs = (x, k, 0)) : (enc x).length = k := by
  obtain ⟨h1, h2⟩ := G_begin hs h
  rw [← h1, List.length_take]; omega

/-- The document's question and the program's are one: the frame of the content is there. -/
theorem fr_there {bs : List Nat} {x k : Nat} (hs : ∀ c ∈ bs, c < 256) (hG : G 0 0 bs = (x, k, 0)) (hl : k + x + 4 ≤ bs.length) :
    fr ((bs.take (k + x)).drop k) = bs.take (k + x + 4) ↔ (bs.drop (k + x)).take 4 = sumB (bs.take (k + x)) := by
  have h1 := (G_begin hs hG).1
  have hlen : ((bs.take (k + x)).drop k).length = x := by rw [List.length_drop, List.length_take]; omega
  have hb : bodyB ((bs.take (k + x)).drop k) = bs.take (k + x) := by
    unfold bodyB
    rw [hlen, ← h1]
    have : bs.take k = (bs.take (k + x)).take k := by rw [List.take_take, Nat.min_eq_left (by omega)]
    rw [this, List.take_append_drop]
  unfold fr
  rw [hb, show bs.take (k + x + 4) = bs.take (k + x) ++ (bs.drop (k + x)).take 4 from List.take_add]
  constructor
  · intro h
    exact (List.append_cancel_left h).symm
  · intro h
    rw [h]

theorem next_lt {l : List Nat} (h : ∀ c ∈ l, c < 256) : Crc.next 0 l < 4294967296 := Crc.next_lt 0 l (by omega) h

/-- A frame is found, whatever stands behind it. -/
theorem first_fr {l rest : List Nat} (hl : l.length ≤ 4096) : first (fr l ++ rest) = (l, (fr l).length, 0) := by
  have hG : G 0 0 (fr l ++ rest) = (l.length, (enc l.length).length, 0) := by
    rw [show fr l ++ rest = enc l.length ++ (l ++ sumB (bodyB l) ++ rest) by simp [fr, bodyB]]
    exact G_put (by omega) _
  have e1 : (fr l ++ rest).take ((enc l.length).length + l.length) = bodyB l := by
    rw [show fr l ++ rest = bodyB l ++ (sumB (bodyB l) ++ rest) by simp [fr]]
    exact List.take_left' (body_len l)
  have e2 : (fr l ++ rest).drop ((enc l.length).length + l.length) = sumB (bodyB l) ++ rest := by
    rw [show fr l ++ rest = bodyB l ++ (sumB (bodyB l) ++ rest) by simp [fr]]
    exact List.drop_left' (body_len l)
  rw [first_ok hG hl (by rw [List.length_append, fr_len]; omega) (by rw [e1, e2]; exact List.take_left' (sumB_len _)), e1, fr_len]
  congr 1
  unfold bodyB
  exact List.drop_left' rfl

/-- A beginning of a frame is too short. -/
theorem first_cut {l : List Nat} {j : Nat} (hl : l.length ≤ 4096) (hj : j < (fr l).length) : first ((fr l).take j) = ([], 0, 4) := by
  have e0 : fr l = enc l.length ++ (l ++ sumB (bodyB l)) := by simp [fr, bodyB]
  by_cases h : j < (enc l.length).length
  · have : (fr l).take j = (enc l.length).take j := by rw [e0, List.take_append_of_le_length (by omega)]
    rw [this]
    exact first_err (G_cut (by omega) h) (by decide)
  · have hG : G 0 0 ((fr l).take j) = (l.length, (enc l.length).length, 0) := by
      rw [e0, show j = (enc l.length).length + (j - (enc l.length).length) by omega, List.take_length_add_append]
      exact G_put (by omega) _
    refine first_short hG hl ?_
    rw [List.length_take]
    rw [fr_len] at hj ⊢
    omega

/-- Frames, one behind the other. -/
def frs (ls : List (List Nat)) : List Nat := ls.flatMap fr

theorem frs_cons (l : List Nat) (ls : List (List Nat)) : frs (l :: ls) = fr l ++ frs ls := rfl
theorem frs_snoc (ls : List (List Nat)) (l : List Nat) : frs (ls ++ [l]) = frs ls ++ fr l := by simp [frs]
theorem frs_small {ls : List (List Nat)} (h : ∀ l ∈ ls, ∀ c ∈ l, c < 256) : ∀ c ∈ frs ls, c < 256 := by
  intro c hc
  obtain ⟨x, hx, hx2⟩ := List.mem_flatMap.1 hc
  exact fr_lt (h x hx) c hx2

theorem scan_frs (ls : List (List Nat)) (rest : List Nat) (h : ∀ l ∈ ls, l.length ≤ 4096) : scan (frs ls ++ rest) = (ls ++ (scan rest).1, (frs ls).length + (scan rest).2) := by
  induction ls with
  | nil => simp [frs]
  | cons l ls ih =>
    have hf := first_fr (l := l) (rest := frs ls ++ rest) (h l (by simp))
    rw [frs_cons, List.append_assoc, scan_step (by rw [hf]), hf]
    simp only
    rw [List.drop_left, ih (fun x hx => h x (by simp [hx]))]
    simp only [List.cons_append, List.length_append, Prod.mk.injEq, true_and]
    omega

theorem fr_pos (l : List Nat) : 5 ≤ (fr l).length := by
  have := enc_pos l.length
  rw [fr_len]; omega

/-- How many frames end at k or ahead of it, and where the last of these ends. -/
def whole : Nat → List (List Nat) → Nat × Nat
  | _, [] => (0, 0)
  | k, l :: ls => if (fr l).length ≤ k then ((whole (k - (fr l).length) ls).1 + 1, (fr l).length + (whole (k - (fr l).length) ls).2) else (0, 0)

theorem scan_cut : ∀ (ls : List (List Nat)) (k : Nat), (∀ l ∈ ls, l.length ≤ 4096) → scan ((frs ls).take k) = (ls.take (whole k ls).1, (whole k ls).2)
  | [], k, _ => by simp [frs, whole, scan_nil]
  | l :: ls, k, h => by
    unfold whole
    by_cases hk : (fr l).length ≤ k
    · rw [if_pos hk]
      have e : (frs (l :: ls)).take k = fr l ++ (frs ls).take (k - (fr l).length) := by
        rw [frs_cons, List.take_append, List.take_of_length_le hk]
      have hf := first_fr (l := l) (rest := (frs ls).take (k - (fr l).length)) (h l (by simp))
      rw [e, scan_step (by rw [hf]), hf]
      simp only
      rw [List.drop_left, scan_cut ls _ (fun x hx => h x (by simp [hx]))]
      rfl
    · rw [if_neg hk]
      have e : (frs (l :: ls)).take k = (fr l).take k := by
        rw [frs_cons, List.take_append_of_le_length (by omega)]
      rw [e, scan_stop (by rw [first_cut (h l (by simp)) (by omega)]; decide)]
      simp

end Frm
end Go.Proofs.YtcgbkfnjohbglaaDoor
