/- Of lists those that are not long, one behind the other, as frames: plain facts, and what came in of them. -/
import Derived.Test.YtphljhbeahkkaaaDoorRf
namespace Go.Proofs.YtphljhbeahkkaaaDoor
open Go.RowKit

/-- Of the first k lists those of at most 300 bytes. -/
def took (ls : List (List Nat)) (k : Nat) : List (List Nat) := (ls.take k).filter fun l => decide (l.length ≤ 300)

theorem took_zero (ls : List (List Nat)) : took ls 0 = [] := by simp [took]

theorem took_step {ls : List (List Nat)} {k : Nat} (h : k < ls.length) : took ls (k + 1) = took ls k ++ if (ls.getD k []).length ≤ 300 then [ls.getD k []] else [] := by
  unfold took
  rw [List.take_succ_eq_append_getElem h, List.filter_append]
  have e : ls.getD k [] = ls[k] := by simp [List.getD, h]
  rw [e]
  by_cases h3 : ls[k].length ≤ 300
  · simp [h3]
  · simp [h3]

theorem took_yes {ls : List (List Nat)} {k : Nat} (h : k < ls.length) (h3 : (ls.getD k []).length ≤ 300) : took ls (k + 1) = took ls k ++ [ls.getD k []] := by rw [took_step h, if_pos h3]
theorem took_no {ls : List (List Nat)} {k : Nat} (h : k < ls.length) (h3 : 300 < (ls.getD k []).length) : took ls (k + 1) = took ls k := by rw [took_step h, if_neg (by omega), List.append_nil]

theorem took_len (ls : List (List Nat)) (k : Nat) : (took ls k).length ≤ k :=
  Nat.le_trans (List.length_filter_le _ _) (by rw [List.length_take]; omega)

theorem took_mem {ls : List (List Nat)} {k : Nat} {l : List Nat} (h : l ∈ took ls k) : l ∈ ls ∧ l.length ≤ 300 := by
  obtain ⟨h1, h2⟩ := List.mem_filter.1 h
  exact ⟨List.mem_of_mem_take h1, by simpa using h2⟩

theorem frs_le : ∀ (T : List (List Nat)), (∀ l ∈ T, l.length ≤ 300) → (Frm.frs T).length ≤ 314 * T.length
  | [], _ => by simp [Frm.frs]
  | l :: T, h => by
    have h1 := frs_le T (fun x hx => h x (List.mem_cons_of_mem _ hx))
    have h2 := h l List.mem_cons_self
    have h3 := Frm.fr_len l
    have h4 := Vint.enc_ten (n := l.length) (by omega)
    rw [Frm.frs_cons, List.length_append, List.length_cons]
    omega

theorem Ins.small {w : World} {a : Option Addr} {n : Nat} {ls : List (List Nat)} (h : Ins w a n ls) : ∀ l ∈ ls, ∀ c ∈ l, c < 256 := by
  intro l hl
  obtain ⟨i, hi, rfl⟩ := List.mem_iff_getElem.1 hl
  rcases h.cells with h0 | ⟨b, off, _, hc⟩
  · have := h.size; omega
  · obtain ⟨_, _, _, _, hx⟩ := hc i (by rw [← h.size]; exact hi)
    have := hx.row.small
    have e : ls.getD i [] = ls[i] := by simp [List.getD, hi]
    rw [e] at this
    exact this

theorem getD_behind (T L : List (List Nat)) (n i : Nat) (h : n = T.length) : (T ++ L).getD (n + i) [] = L.getD i [] := by
  subst h
  rw [List.getD_eq_getElem?_getD, List.getElem?_append_right (by omega), Nat.add_sub_cancel_left, ← List.getD_eq_getElem?_getD]

end Go.Proofs.YtphljhbeahkkaaaDoor
