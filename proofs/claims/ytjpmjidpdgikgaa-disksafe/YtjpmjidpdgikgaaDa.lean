/- A disk as a block of seven cells; walks of valid, made and begin. -/
import Derived.Test.YtjpmjidpdgikgaaCn
namespace Go.Proofs.Ytjpmjidpdgikgaa
open Go.RowKit

/-- The seven cells of a disk that is not off. -/
def dkA (room n : Nat) (m1 m2 : Option Nat) (pa : Option Addr) (pn pc : Nat) : Array Value := #[.int .i64 (room : Int), .int .i64 (n : Int), .map m1, .map m2, .slice pa pn pc, .bool false, .int .i64 0]
abbrev Dk (w : World) (p room n : Nat) (m1 m2 : Option Nat) (pa : Option Addr) (pn pc : Nat) : Prop := Blk w p 43 (dkA room n m1 m2 pa pn pc)

theorem valid_any (s : ByteArray) (w : World) : Calls Try.prog 22 #[.string s] w (Says (.bool (decide (1 ≤ s.size ∧ s.size ≤ 32))) w) := by
  by_cases h1 : (s.size : Int) ≥ 1
  · by_cases h2 : (s.size : Int) ≤ 32
    · rw [show decide (1 ≤ s.size ∧ s.size ≤ 32) = true by simp; omega]
      have q1 : decide ((s.size : Int) ≥ 1) = true := by simp; omega
      have q2 : decide ((s.size : Int) ≤ 32) = true := by simp; omega
      go_enter Try.func22, Try.ntmps22
      go_wp2_with fail
      go_ret
      exact ⟨by simp, Below.refl _ _⟩
    · rw [show decide (1 ≤ s.size ∧ s.size ≤ 32) = false by simp; omega]
      have q1 : decide ((s.size : Int) ≥ 1) = true := by simp; omega
      have q2 : decide ((s.size : Int) ≤ 32) = false := by simp; omega
      go_enter Try.func22, Try.ntmps22
      go_wp2_with fail
      go_ret
      exact ⟨by simp, Below.refl _ _⟩
  · rw [show decide (1 ≤ s.size ∧ s.size ≤ 32) = false by simp; omega]
    have q1 : decide ((s.size : Int) ≥ 1) = false := by simp; omega
    go_enter Try.func22, Try.ntmps22
    go_wp2_with fail
    go_ret
    exact ⟨by simp, Below.refl _ _⟩

theorem made_nil (w : World) : Calls Try.prog 24 #[.pointer none] w (Says (.bool false) w) := by
  go_enter Try.func24, Try.ntmps24
  go_wp2_with fail
  go_ret
  exact ⟨rfl, Below.refl _ _⟩
theorem made_any {w : World} {p room n : Nat} {m1 m2 : Option Nat} {pa : Option Addr} {pn pc : Nat} (h : Dk w p room n m1 m2 pa pn pc) : Calls Try.prog 24 #[.pointer (some ⟨p, 0, none⟩)] w (Says (.bool (decide (0 < room))) w) := by
  have u0 : w.cell? ⟨p, 0, none⟩ = some (.int .i64 (room : Int)) := h.cell 0
  clear h
  by_cases h0 : 0 < room
  · rw [show decide (0 < room) = true by simp [h0]]
    have q1 : decide ((room : Int) > 0) = true := by simp; omega
    go_enter Try.func24, Try.ntmps24
    go_wp2_with fail
    go_ret
    exact ⟨by simp, Below.refl _ _⟩
  · rw [show decide (0 < room) = false by simp [h0]]
    have q1 : decide ((room : Int) > 0) = false := by simp; omega
    go_enter Try.func24, Try.ntmps24
    go_wp2_with fail
    go_ret
    exact ⟨by simp, Below.refl _ _⟩

theorem begin_nil (w : World) : Calls Try.prog 20 #[.pointer none] w (Says (.int .i64 1) w) := by
  go_enter Try.func20, Try.ntmps20
  go_wp2_with fail
  refine (made_nil w).mono ?_
  rintro e w1 ⟨rfl, hb⟩
  go_wp2_with fail
  go_ret
  exact ⟨rfl, hb⟩
theorem begin_no {w : World} {p n : Nat} {m1 m2 : Option Nat} {pa : Option Addr} {pn pc : Nat} (h : Dk w p 0 n m1 m2 pa pn pc) : Calls Try.prog 20 #[.pointer (some ⟨p, 0, none⟩)] w (Says (.int .i64 1) w) := by
  go_enter Try.func20, Try.ntmps20
  go_wp2_with fail
  refine (made_any h).mono ?_
  rintro e w1 ⟨rfl, hb⟩
  go_wp2_with fail
  go_ret
  exact ⟨rfl, hb⟩
theorem begin_any {w : World} {p room n : Nat} {m1 m2 : Option Nat} {pa : Option Addr} {pn pc : Nat} (h : Dk w p room n m1 m2 pa pn pc) (h0 : 0 < room) : Calls Try.prog 20 #[.pointer (some ⟨p, 0, none⟩)] w (Says (.int .i64 0) w) := by
  have HM := made_any h
  rw [show decide (0 < room) = true by simp [h0]] at HM
  go_enter Try.func20, Try.ntmps20
  go_wp2_with fail
  refine HM.mono ?_
  rintro e w1 ⟨rfl, hb⟩
  have u5 : w1.cell? ⟨p, 5, none⟩ = some (.bool false) := (h.below hb).cell 5
  clear h HM
  go_wp2_with fail
  go_ret
  exact ⟨rfl, hb⟩
end Go.Proofs.Ytjpmjidpdgikgaa
