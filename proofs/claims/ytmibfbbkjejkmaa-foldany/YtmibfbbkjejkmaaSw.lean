/- Walks of the sift, the heap sort and the reversal over uint16 numbers. -/
import Derived.Test.YtmibfbbkjejkmaaSv
import Derived.IntWalk
namespace Go.Proofs.Ytmibfbbkjejkmaa
open Go.RowKit
open Go.Sort (swp ltInt siftDown heapBuild heapPop heapSort reverseLoop reverseRange size_swp)

theorem wrap_ok {z : Int} (h0 : 0 ≤ z) (h1 : z < 1000000000) : IntKind.i64.wrap z = z := IntWalk.i64_in _ (by omega)

theorem sift_end {hi f root : Nat} {d : Array Int} (h : ¬ 2 * root + 1 < hi) : siftDown ltInt hi f root d = d := by
  unfold siftDown
  rw [dif_pos (by omega)]
/-- Which child is looked at. -/
def ChildAt (d : Array Int) (hi f root c : Nat) : Prop :=
  2 * root + 1 < hi ∧ ((c = 2 * root + 1 ∧ (¬ 2 * root + 2 < hi ∨ ltInt d[f + (2 * root + 1)]! d[f + (2 * root + 2)]! = false)) ∨ (c = 2 * root + 2 ∧ 2 * root + 2 < hi ∧ ltInt d[f + (2 * root + 1)]! d[f + (2 * root + 2)]! = true))
theorem sift_step {hi f root c : Nat} {d : Array Int} (h : ChildAt d hi f root c) : siftDown ltInt hi f root d = if ltInt d[f + root]! d[f + c]! = true then siftDown ltInt hi f c (swp d (f + root) (f + c)) else d := by
  obtain ⟨h0, h⟩ := h
  conv => lhs; unfold siftDown
  rw [dif_neg (by omega)]
  rcases h with ⟨rfl, h⟩ | ⟨rfl, h1, h2⟩
  · rw [if_neg]
    · cases ltInt d[f + root]! d[f + (2 * root + 1)]! <;> simp
    · rcases h with h | h
      · simp; omega
      · rw [show f + (2 * root + 1) + 1 = f + (2 * root + 2) by omega]; simp [h]
  · rw [if_pos, dif_pos h1]
    · cases ltInt d[f + root]! d[f + (2 * root + 2)]! <;> simp
    · rw [show f + (2 * root + 1) + 1 = f + (2 * root + 2) by omega]; simp [h2]; omega

def SiftR (w : World) (g o : Nat) (r : Array Value) (d : Array Int) (hi f lo : Nat) (v : Value) (W : World) : Prop :=
  ∃ (k : Nat) (x : Array Int), v = .int .i64 (k : Int) ∧ k ≤ hi ∧ x.size = d.size ∧ Sr w W g o r x ∧ siftDown ltInt hi f k x = siftDown ltInt hi f lo d

set_option maxRecDepth 100000 in
set_option maxHeartbeats 2000000 in
theorem sift16 {w W : World} {g o cap : Nat} {r : Array Value} {d : Array Int} (hs : Sr w W g o r d) (lo hi f : Nat) (hlo : lo ≤ hi) (hf : f + hi ≤ d.size) (hsz : d.size < 1000000) :
    Calls Try.prog 62 #[.slice (some ⟨g, o, none⟩) d.size cap, .int .i64 (lo : Int), .int .i64 (hi : Int), .int .i64 (f : Int)] W fun e W' => e = .returned (.tuple #[]) ∧ Sr w W' g o r (siftDown ltInt hi f lo d) := by
  have HS := Lib.hid hs
  clear hs
  go_enter Try.func62, Try.ntmps62
  go_wp2
  go_loopw [8] (SiftR w g o r d hi f lo) (fun v _ => hi - (numI v).toNat)
  case atStart => exact ⟨lo, d, rfl, hlo, rfl, HS.out, rfl⟩
  case round =>
    obtain ⟨k, x, rfl, hk, hx, hsx, ho⟩ := hrel
    have HO := Lib.hid ho
    have HX := Lib.hid hsx
    obtain ⟨G, hG⟩ : ∃ G : Nat → Int, ∀ t, G t = x[t]! := ⟨fun t => x[t]!, fun _ => rfl⟩
    have hcw : ∀ t, t < d.size → wr.cell? ⟨g, o + t, none⟩ = some (.int .u16 (G t)) := fun t ht => by rw [hG]; exact hsx.cell (by omega)
    have hfw : ∀ t, t < d.size → wr.frozen? ⟨g, o + t, none⟩ = false := fun t _ => hsx.frozen t
    have HG := Lib.hid hG
    clear ho hsx hG
    by_cases h1 : 2 * k + 1 < hi
    · have hn1 : f + (2 * k + 1) < d.size := by omega
      have hn0 : f + k < d.size := by omega
      have e0 : IntKind.i64.wrap ((f : Int) + (k : Int)) = (f : Int) + (k : Int) := wrap_ok (by omega) (by omega)
      have e1 : IntKind.i64.wrap (2 * (k : Int) + 1 + 1) = 2 * (k : Int) + 1 + 1 := wrap_ok (by omega) (by omega)
      have e2 : IntKind.i64.wrap ((f : Int) + (2 * (k : Int) + 1)) = (f : Int) + (2 * (k : Int) + 1) := wrap_ok (by omega) (by omega)
      have e3 : IntKind.i64.wrap ((f : Int) + (2 * (k : Int) + 1) + 1) = (f : Int) + (2 * (k : Int) + 1) + 1 := wrap_ok (by omega) (by omega)
      have e4 : IntKind.i64.wrap ((f : Int) + (2 * (k : Int) + 1 + 1)) = (f : Int) + (2 * (k : Int) + 1 + 1) := wrap_ok (by omega) (by omega)
      have p0 : (0 : Int) ≤ (f : Int) + (k : Int) := by omega
      have p2 : (0 : Int) ≤ (f : Int) + (2 * (k : Int) + 1) := by omega
      have p3 : (0 : Int) ≤ (f : Int) + (2 * (k : Int) + 1) + 1 := by omega
      have p4 : (0 : Int) ≤ (f : Int) + (2 * (k : Int) + 1 + 1) := by omega
      have q0 : ((f : Int) + (k : Int)).toNat = f + k := by omega
      have q2 : ((f : Int) + (2 * (k : Int) + 1)).toNat = f + (2 * k + 1) := by omega
      have q3 : ((f : Int) + (2 * (k : Int) + 1) + 1).toNat = f + (2 * k + 2) := by omega
      have q4 : ((f : Int) + (2 * (k : Int) + 1 + 1)).toNat = f + (2 * k + 2) := by omega
      by_cases h2 : 2 * k + 2 < hi
      · have hn2 : f + (2 * k + 1) + 1 < d.size := by omega
        have hn3 : f + (2 * k + 2) < d.size := by omega
        have e5 : decide (2 * (k : Int) + 1 + 1 < (hi : Int)) = true := by simp; omega
        cases hl : ltInt (G (f + (2 * k + 1))) (G (f + (2 * k + 2)))
        · have HC : Hid (ChildAt x hi f k (2 * k + 1)) := Lib.hid ⟨h1, .inl ⟨rfl, .inr (by rw [← HG.out, ← HG.out]; exact hl)⟩⟩
          go_wp2
          go_quiet (first | (go_at_call 54; refine Calls.quiet_of_same (less16' _ _ _)))
          have HX2 := Lib.hid (HX.out.drawn nq)
          have hcw2 : ∀ t, t < d.size → (wr.drewN nq).cell? ⟨g, o + t, none⟩ = some (.int .u16 (G t)) := hcw
          have hfw2 : ∀ t, t < d.size → (wr.drewN nq).frozen? ⟨g, o + t, none⟩ = false := hfw
          clear hcw hfw HX
          generalize wr.drewN nq = wr2 at HX2 hcw2 hfw2
          clear nq
          cases hl2 : ltInt (G (f + k)) (G (f + (2 * k + 1)))
          · go_wp2
            go_quiet (first | (go_at_call 54; refine Calls.quiet_of_same (less16' _ _ _)))
            go_wp2
            exact bodyPost_ret (results_none rfl _ _ _) rfl ⟨rfl, by rw [← HO.out, sift_step HC.out, if_neg (by rw [← HG.out, ← HG.out, hl2]; simp)]; exact HX2.out.drawn nq⟩
          · go_wp2
            go_quiet (first | (go_at_call 54; refine Calls.quiet_of_same (less16' _ _ _)))
            go_wp2
            go_region
            all_goals go_wp2
            go_roundw
            case rel => exact ⟨(2 * k + 1), swp x (f + k) (f + (2 * k + 1)), by congr 1, by omega, by rw [size_swp]; exact hx, HX2.out.swap (by omega) (by omega) (nq + 1) (HG.out _) (HG.out _), by rw [← HO.out, sift_step HC.out, if_pos (by rw [← HG.out, ← HG.out]; exact hl2)]⟩
            case measure => simp [numI]; omega
        · have HC : Hid (ChildAt x hi f k (2 * k + 2)) := Lib.hid ⟨h1, .inr ⟨rfl, h2, by rw [← HG.out, ← HG.out]; exact hl⟩⟩
          go_wp2
          go_quiet (first | (go_at_call 54; refine Calls.quiet_of_same (less16' _ _ _)))
          have HX2 := Lib.hid (HX.out.drawn nq)
          have hcw2 : ∀ t, t < d.size → (wr.drewN nq).cell? ⟨g, o + t, none⟩ = some (.int .u16 (G t)) := hcw
          have hfw2 : ∀ t, t < d.size → (wr.drewN nq).frozen? ⟨g, o + t, none⟩ = false := hfw
          clear hcw hfw HX
          generalize wr.drewN nq = wr2 at HX2 hcw2 hfw2
          clear nq
          cases hl2 : ltInt (G (f + k)) (G (f + (2 * k + 2)))
          · go_wp2
            go_quiet (first | (go_at_call 54; refine Calls.quiet_of_same (less16' _ _ _)))
            go_wp2
            exact bodyPost_ret (results_none rfl _ _ _) rfl ⟨rfl, by rw [← HO.out, sift_step HC.out, if_neg (by rw [← HG.out, ← HG.out, hl2]; simp)]; exact HX2.out.drawn nq⟩
          · go_wp2
            go_quiet (first | (go_at_call 54; refine Calls.quiet_of_same (less16' _ _ _)))
            go_wp2
            go_region
            all_goals go_wp2
            go_roundw
            case rel => exact ⟨(2 * k + 2), swp x (f + k) (f + (2 * k + 2)), by congr 1, by omega, by rw [size_swp]; exact hx, HX2.out.swap (by omega) (by omega) (nq + 1) (HG.out _) (HG.out _), by rw [← HO.out, sift_step HC.out, if_pos (by rw [← HG.out, ← HG.out]; exact hl2)]⟩
            case measure => simp [numI]; omega
      · have e5 : decide (2 * (k : Int) + 1 + 1 < (hi : Int)) = false := by simp; omega
        have HC : Hid (ChildAt x hi f k (2 * k + 1)) := Lib.hid ⟨h1, .inl ⟨rfl, .inl h2⟩⟩
        go_wp2
        go_quiet (first | (go_at_call 54; refine Calls.quiet_of_same (less16' _ _ _)))
        have HX2 := Lib.hid (HX.out.drawn nq)
        have hcw2 : ∀ t, t < d.size → (wr.drewN nq).cell? ⟨g, o + t, none⟩ = some (.int .u16 (G t)) := hcw
        have hfw2 : ∀ t, t < d.size → (wr.drewN nq).frozen? ⟨g, o + t, none⟩ = false := hfw
        clear hcw hfw HX
        generalize wr.drewN nq = wr2 at HX2 hcw2 hfw2
        clear nq
        cases hl2 : ltInt (G (f + k)) (G (f + (2 * k + 1)))
        · go_wp2
          go_quiet (first | (go_at_call 54; refine Calls.quiet_of_same (less16' _ _ _)))
          go_wp2
          exact bodyPost_ret (results_none rfl _ _ _) rfl ⟨rfl, by rw [← HO.out, sift_step HC.out, if_neg (by rw [← HG.out, ← HG.out, hl2]; simp)]; exact HX2.out.drawn nq⟩
        · go_wp2
          go_quiet (first | (go_at_call 54; refine Calls.quiet_of_same (less16' _ _ _)))
          go_wp2
          go_region
          all_goals go_wp2
          go_roundw
          case rel => exact ⟨(2 * k + 1), swp x (f + k) (f + (2 * k + 1)), by congr 1, by omega, by rw [size_swp]; exact hx, HX2.out.swap (by omega) (by omega) (nq + 1) (HG.out _) (HG.out _), by rw [← HO.out, sift_step HC.out, if_pos (by rw [← HG.out, ← HG.out]; exact hl2)]⟩
          case measure => simp [numI]; omega
    · go_wp2
      go_end0
      exact ⟨rfl, by rw [← HO.out, sift_end h1]; exact HX.out⟩

end Go.Proofs.Ytmibfbbkjejkmaa
