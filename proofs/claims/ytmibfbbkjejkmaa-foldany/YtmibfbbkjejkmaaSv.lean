/- Walk of the insertion sort over uint16 numbers. -/
import Derived.Test.YtmibfbbkjejkmaaSu
namespace Go.Proofs.Ytmibfbbkjejkmaa
open Go.RowKit
open Go.Sort (swp ltInt insInner insOuter insertionSort size_swp)

theorem inner_step {a j : Nat} {d : Array Int} (hj : a < j) (hl : ltInt d[j]! d[j - 1]! = true) : insInner ltInt a j d = insInner ltInt a (j - 1) (swp d j (j - 1)) := by
  cases j with
  | zero => omega
  | succ k =>
    have hl' : ltInt d[k + 1]! d[k]! = true := hl
    rw [insInner, if_pos (by simp [hl', hj])]
    rfl
theorem inner_end {a j : Nat} {d : Array Int} (h : ¬ a < j ∨ ltInt d[j]! d[j - 1]! = false) : insInner ltInt a j d = d := by
  cases j with
  | zero => rw [insInner]
  | succ k =>
    rw [insInner, if_neg]
    rcases h with h | h
    · simp; omega
    · have h' : ltInt d[k + 1]! d[k]! = false := h
      simp [h']
theorem outer_step {a b i : Nat} {d : Array Int} (h : i < b) : insOuter ltInt a b i d = insOuter ltInt a b (i + 1) (insInner ltInt a i d) := by
  conv => lhs; unfold insOuter
  rw [if_pos h]
theorem outer_end {a b i : Nat} {d : Array Int} (h : ¬ i < b) : insOuter ltInt a b i d = d := by
  unfold insOuter
  rw [if_neg h]

/-- What the outer loop has come to: the rest of it makes what the whole makes. -/
def InsO (w : World) (g o : Nat) (r : Array Value) (d : Array Int) (a b : Nat) (v : Value) (W : World) : Prop :=
  ∃ (i : Nat) (x : Array Int), v = .int .i64 (i : Int) ∧ a < i ∧ i ≤ b + 1 ∧ x.size = d.size ∧ Sr w W g o r x ∧ insOuter ltInt a b i x = insertionSort ltInt d a b
def InsI (w : World) (g o : Nat) (r : Array Value) (d x : Array Int) (a i : Nat) (v : Value) (W : World) : Prop :=
  ∃ (j : Nat) (y : Array Int), v = .int .i64 (j : Int) ∧ a ≤ j ∧ j ≤ i ∧ y.size = d.size ∧ Sr w W g o r y ∧ insInner ltInt a j y = insInner ltInt a i x

set_option maxHeartbeats 1000000 in
theorem insert16 {w W : World} {g o cap : Nat} {r : Array Value} {d : Array Int} (hs : Sr w W g o r d) (a b : Nat) (hab : a ≤ b) (hb : b ≤ d.size) (hsz : d.size < 1000000) :
    Calls Try.prog 48 #[.slice (some ⟨g, o, none⟩) d.size cap, .int .i64 (a : Int), .int .i64 (b : Int)] W fun e W' => e = .returned (.tuple #[]) ∧ Sr w W' g o r (insertionSort ltInt d a b) := by
  have HS := Lib.hid hs
  clear hs
  go_enter Try.func48, Try.ntmps48
  go_wp2
  go_loopw [6] (InsO w g o r d a b) (fun v _ => b + 1 - (numI v).toNat)
  case atStart => exact ⟨a + 1, d, by go_num, by omega, by omega, rfl, HS.out, rfl⟩
  case round =>
    obtain ⟨i, x, rfl, hai, hib, hx, hsx, ho⟩ := hrel
    have HO := Lib.hid ho
    have HX := Lib.hid hsx
    clear ho hsx
    by_cases hlt : i < b
    · go_wp2
      go_loopw [7] (InsI w g o r d x a i) (fun v _ => (numI v).toNat)
      case atStart => exact ⟨i, x, rfl, by omega, Nat.le_refl _, hx, HX.out, rfl⟩
      case round =>
        obtain ⟨j, y, rfl, haj, hji, hy, hsy, hi⟩ := hrel
        obtain ⟨G, hG⟩ : ∃ G : Nat → Int, ∀ t, G t = y[t]! := ⟨fun t => y[t]!, fun _ => rfl⟩
        have hcw : ∀ t, t < d.size → wr.cell? ⟨g, o + t, none⟩ = some (.int .u16 (G t)) := fun t ht => by rw [hG]; exact hsy.cell (by omega)
        have hfw : ∀ t, t < d.size → wr.frozen? ⟨g, o + t, none⟩ = false := fun t _ => hsy.frozen t
        have HY := Lib.hid hsy
        have HI := Lib.hid hi
        have HG := Lib.hid hG
        clear hsy hi hG
        have OUT : Hid ((¬ a < j ∨ ltInt y[j]! y[j - 1]! = false) → ∀ q, InsO w g o r d a b (.int .i64 ((i : Int) + 1)) (wr.drewN q)) := Lib.hid fun h q =>
          ⟨i + 1, y, by go_num, by omega, by omega, hy, HY.out.drawn q, by rw [← HO.out, outer_step hlt, ← HI.out, inner_end h]⟩
        by_cases hja : a < j
        · have hn1 : j < d.size := by omega
          have hn2 : j - 1 < d.size := by omega
          have hn3 : (0 : Int) ≤ (j : Int) - 1 := by omega
          go_wp2
          go_quiet (first | (go_at_call 54; refine Calls.quiet_of_same (less16' _ _ _)))
          go_wp2
          · have hl : ltInt (G j) (G (j - 1)) = true := by assumption
            go_region
            all_goals go_wp2
            go_roundw
            case rel => exact ⟨j - 1, swp y j (j - 1), by congr 1; omega, by omega, by omega, by rw [size_swp]; exact hy, HY.out.swap (by omega) (by omega) (nq + 1) (HG.out _) (HG.out _), by rw [← HI.out, inner_step hja (by rw [← HG.out, ← HG.out]; exact hl)]⟩
            case measure => simp [numI]; omega
          · have hl : ltInt (G j) (G (j - 1)) = false := by assumption
            go_roundw
            case rel => exact OUT.out (.inr (by rw [← HG.out, ← HG.out]; exact hl)) nq
            case measure => simp [numI]; omega
        · go_wp2
          go_quiet (first | (go_at_call 54; refine Calls.quiet_of_same (less16' _ _ _)))
          go_wp2
          go_roundw
          case rel => exact OUT.out (.inl hja) nq
          case measure => simp [numI]; omega
    · go_wp2
      go_end0
      exact ⟨rfl, by rw [← HO.out, outer_end hlt]; exact HX.out⟩

end Go.Proofs.Ytmibfbbkjejkmaa
