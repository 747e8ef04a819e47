/- Walks of the heap sort and the reversal over uint16 numbers. -/
import Derived.Test.YtmibfbbkjejkmaaSy
namespace Go.Proofs.Ytmibfbbkjejkmaa
open Go.RowKit
open Go.Sort (swp ltInt siftDown heapBuild heapPop heapSort reverseLoop reverseRange size_swp)

def HeapB (w : World) (g o : Nat) (r : Array Value) (d : Array Int) (hi f : Nat) (v : Value) (W : World) : Prop :=
  ∃ (k : Nat) (z : Int) (x : Array Int), v = .int .i64 z ∧ Hid (z = (k : Int) - 1) ∧ k ≤ (hi - 1) / 2 + 1 ∧ x.size = d.size ∧ Sr w W g o r x ∧ heapBuild ltInt hi f k x = heapBuild ltInt hi f ((hi - 1) / 2 + 1) d
def HeapP (w : World) (g o : Nat) (r : Array Value) (d : Array Int) (hi f : Nat) (v : Value) (W : World) : Prop :=
  ∃ (k : Nat) (z : Int) (x : Array Int), v = .int .i64 z ∧ Hid (z = (k : Int) - 1) ∧ k ≤ hi ∧ x.size = d.size ∧ Sr w W g o r x ∧ heapPop ltInt f k x = heapSort ltInt d f (f + hi)

theorem sift_size {hi f : Nat} : ∀ (n root : Nat) (d : Array Int), hi - root ≤ n → (siftDown ltInt hi f root d).size = d.size
  | 0, root, d, h => by rw [sift_end (by omega)]
  | n + 1, root, d, h => by
    by_cases h1 : 2 * root + 1 < hi
    · have hc : ∃ c, ChildAt d hi f root c ∧ root < c := by
        by_cases h2 : 2 * root + 2 < hi
        · cases hl : ltInt d[f + (2 * root + 1)]! d[f + (2 * root + 2)]!
          · exact ⟨_, ⟨h1, .inl ⟨rfl, .inr hl⟩⟩, by omega⟩
          · exact ⟨_, ⟨h1, .inr ⟨rfl, h2, hl⟩⟩, by omega⟩
        · exact ⟨_, ⟨h1, .inl ⟨rfl, .inl h2⟩⟩, by omega⟩
      obtain ⟨c, hc, hlt⟩ := hc
      rw [sift_step hc]
      split
      · rw [sift_size n c _ (by omega), size_swp]
      · rfl
    · rw [sift_end h1]

set_option maxRecDepth 100000 in
set_option maxHeartbeats 2000000 in
theorem heap16 {w W : World} {g o cap : Nat} {r : Array Value} {d : Array Int} (hs : Sr w W g o r d) (f hi : Nat) (h1 : 1 ≤ hi) (hf : f + hi ≤ d.size) (hsz : d.size < 1000000) :
    Calls Try.prog 49 #[.slice (some ⟨g, o, none⟩) d.size cap, .int .i64 (f : Int), .int .i64 ((f : Int) + (hi : Int))] W fun e W' => e = .returned (.tuple #[]) ∧ Sr w W' g o r (heapSort ltInt d f (f + hi)) := by
  have HS := Lib.hid hs
  clear hs
  have e1 : (f : Int) + (hi : Int) - (f : Int) = (hi : Int) := by omega
  have HE1 := Lib.hid e1
  clear e1
  obtain ⟨m, hm⟩ : ∃ m : Nat, ((hi : Int) - 1) / 2 = (m : Int) ∧ m = (hi - 1) / 2 := ⟨(hi - 1) / 2, by omega, rfl⟩
  have HM := Lib.hid hm
  clear hm
  go_enter Try.func49, Try.ntmps49
  go_wp2
  rw [HE1.out, HM.out.1]
  go_loopw [9] (HeapB w g o r d hi f) (fun v _ => (numI v + 1).toNat)
  case atStart => exact ⟨m + 1, (m : Int), d, rfl, Lib.hid (by omega), by rw [HM.out.2]; exact Nat.le_refl _, rfl, HS.out, by rw [HM.out.2]⟩
  case round =>
    obtain ⟨k, z, x, rfl, HZ, hk, hx, hsx, ho⟩ := hrel
    have HO := Lib.hid ho
    have HX := Lib.hid hsx
    clear ho hsx
    cases k with
    | succ j =>
      obtain rfl : z = (j : Int) := by have := HZ.out; omega
      clear HZ
      go_wp2_with fail
      rw [← hx]
      refine (sift16 HX.out j hi f (by omega) (by omega) (by omega)).mono ?_
      rintro e W2 ⟨rfl, h2⟩
      have H2 := Lib.hid h2
      clear h2
      rw [hx]
      go_wp2_with fail
      go_roundw
      case rel => exact ⟨j, _, _, rfl, Lib.hid rfl, by omega, by rw [sift_size _ _ _ (Nat.le_refl _)]; exact hx, H2.out, by rw [← HO.out, heapBuild]⟩
      case measure => simp [numI]
    | zero =>
      obtain rfl : z = -1 := by have := HZ.out; omega
      clear HZ
      have HO2 : Hid (x = heapBuild ltInt hi f ((hi - 1) / 2 + 1) d) := Lib.hid (by rw [← HO.out, heapBuild])
      clear HO
      go_wp2
      go_loopw [10] (HeapP w g o r d hi f) (fun v _ => (numI v + 1).toNat)
      case atStart => exact ⟨hi, (hi : Int) - 1, x, rfl, Lib.hid rfl, Nat.le_refl _, hx, HX.out, by unfold heapSort; rw [Nat.add_sub_cancel_left, ← HO2.out]⟩
      case round =>
        obtain ⟨k, z, y, rfl, HZ, hk, hy, hsy, ho⟩ := hrel
        have HO := Lib.hid ho
        have HY := Lib.hid hsy
        cases k with
        | succ j =>
          obtain rfl : z = (j : Int) := by have := HZ.out; omega
          clear HZ
          clear ho hsy
          go_wp2_with fail
          refine wp_region_held_drew (S := fun _ => True) (by kernel_rfl) trivial (fun hS => ?_)
          refine held_take 0 33 (.slice (some ⟨g, o, none⟩) d.size cap) rfl rfl (by kernel_rfl) (by kernel_rfl) (by kernel_rfl) (fun _ _ _ h => h) (by kernel_rfl) (fun _ _ => rfl) trivial ?_
          simp only [Act.put, List.setIfInBounds_toArray, List.set_cons_zero, List.set_cons_succ]
          refine held_take 1 34 (.int .i64 (f : Int)) rfl rfl (by kernel_rfl) (by kernel_rfl) (by kernel_rfl) (fun _ _ _ h => h) (by kernel_rfl) (fun _ _ => rfl) trivial ?_
          simp only [Act.put, List.setIfInBounds_toArray, List.set_cons_zero, List.set_cons_succ]
          refine held_take 2 35 (.slice (some ⟨g, o, none⟩) d.size cap) rfl rfl (by kernel_rfl) (by kernel_rfl) (by kernel_rfl) (fun _ _ _ h => h) (by kernel_rfl) (fun _ _ => rfl) trivial ?_
          simp only [Act.put, List.setIfInBounds_toArray, List.set_cons_zero, List.set_cons_succ]
          refine held_take 3 36 (.int .i64 (f : Int)) rfl rfl (by kernel_rfl) (by kernel_rfl) (by kernel_rfl) (fun _ _ _ h => h) (by kernel_rfl) (fun _ _ => rfl) trivial ?_
          simp only [Act.put, List.setIfInBounds_toArray, List.set_cons_zero, List.set_cons_succ]
          refine held_take 4 37 (.int .i64 (j : Int)) rfl rfl (by kernel_rfl) (by kernel_rfl) (by kernel_rfl) (fun _ _ _ h => h) (by kernel_rfl) (fun _ _ => rfl) trivial ?_
          simp only [Act.put, List.setIfInBounds_toArray, List.set_cons_zero, List.set_cons_succ]
          refine held_take 5 38 (.int .i64 ((f : Int) + (j : Int))) rfl rfl (by kernel_rfl) (by kernel_rfl) (by kernel_rfl) (fun _ _ _ h => h) (by kernel_rfl) (fun _ _ => exec_addN rfl rfl rfl (by omega) (by omega) (by omega)) trivial ?_
          simp only [Act.put, List.setIfInBounds_toArray, List.set_cons_zero, List.set_cons_succ]
          refine held_take 6 39 (.slice (some ⟨g, o, none⟩) d.size cap) rfl rfl (by kernel_rfl) (by kernel_rfl) (by kernel_rfl) (fun _ _ _ h => h) (by kernel_rfl) (fun _ _ => rfl) trivial ?_
          simp only [Act.put, List.setIfInBounds_toArray, List.set_cons_zero, List.set_cons_succ]
          refine held_take 7 40 (.int .i64 (f : Int)) rfl rfl (by kernel_rfl) (by kernel_rfl) (by kernel_rfl) (fun _ _ _ h => h) (by kernel_rfl) (fun _ _ => rfl) trivial ?_
          simp only [Act.put, List.setIfInBounds_toArray, List.set_cons_zero, List.set_cons_succ]
          refine held_take 8 41 (.int .i64 (j : Int)) rfl rfl (by kernel_rfl) (by kernel_rfl) (by kernel_rfl) (fun _ _ _ h => h) (by kernel_rfl) (fun _ _ => rfl) trivial ?_
          simp only [Act.put, List.setIfInBounds_toArray, List.set_cons_zero, List.set_cons_succ]
          refine held_take 9 42 (.int .i64 ((f : Int) + (j : Int))) rfl rfl (by kernel_rfl) (by kernel_rfl) (by kernel_rfl) (fun _ _ _ h => h) (by kernel_rfl) (fun _ _ => exec_addN rfl rfl rfl (by omega) (by omega) (by omega)) trivial ?_
          simp only [Act.put, List.setIfInBounds_toArray, List.set_cons_zero, List.set_cons_succ]
          refine held_take 10 43 (.pointer (some ⟨g, o + (f + j), none⟩)) rfl rfl (by kernel_rfl) (by kernel_rfl) (by kernel_rfl) (fun _ _ _ h => h) (by kernel_rfl) (fun _ _ => exec_idx16 (i := (f + j)) rfl rfl rfl (by omega) (by omega)) trivial ?_
          simp only [Act.put, List.setIfInBounds_toArray, List.set_cons_zero, List.set_cons_succ]
          refine held_take 12 45 (.slice (some ⟨g, o, none⟩) d.size cap) rfl rfl (by kernel_rfl) (by kernel_rfl) (by kernel_rfl) (fun _ _ _ h => h) (by kernel_rfl) (fun _ _ => rfl) trivial ?_
          simp only [Act.put, List.setIfInBounds_toArray, List.set_cons_zero, List.set_cons_succ]
          refine held_take 13 46 (.int .i64 (f : Int)) rfl rfl (by kernel_rfl) (by kernel_rfl) (by kernel_rfl) (fun _ _ _ h => h) (by kernel_rfl) (fun _ _ => rfl) trivial ?_
          simp only [Act.put, List.setIfInBounds_toArray, List.set_cons_zero, List.set_cons_succ]
          refine held_take 14 47 (.pointer (some ⟨g, o + f, none⟩)) rfl rfl (by kernel_rfl) (by kernel_rfl) (by kernel_rfl) (fun _ _ _ h => h) (by kernel_rfl) (fun _ _ => exec_idx16 (i := f) rfl rfl rfl (by omega) (by omega)) trivial ?_
          simp only [Act.put, List.setIfInBounds_toArray, List.set_cons_zero, List.set_cons_succ]
          refine held_two 11 15 44 48 (.int .u16 y[(f + j)]!) (.int .u16 y[f]!) (by decide) (by decide) rfl rfl rfl rfl (by kernel_rfl) (by kernel_rfl) (by kernel_rfl) (by kernel_rfl) (by kernel_rfl) (by kernel_rfl) (by kernel_rfl) (exec_ld16 rfl rfl (HY.out.drawn 1) (by omega) rfl) (exec_ld16 rfl rfl (HY.out.drawn 1) (by omega) rfl) (exec_ld16 rfl rfl (HY.out.drawn 1) (by omega) rfl) (exec_ld16 rfl rfl (HY.out.drawn 1) (by omega) rfl) trivial ?_
          simp only [Act.put, List.setIfInBounds_toArray, List.set_cons_zero, List.set_cons_succ]
          refine held_exec 16 49 (.pointer (some ⟨g, o + f, none⟩)) rfl rfl (by kernel_rfl) (by kernel_rfl) (exec_idx16 (i := f) rfl rfl rfl (by omega) (by omega)) trivial ?_
          simp only [Act.put, List.setIfInBounds_toArray, List.set_cons_zero, List.set_cons_succ]
          refine held_void 17 rfl rfl (by kernel_rfl) (by kernel_rfl) (exec_st16 rfl rfl rfl (HY.out.drawn 1) (by omega)) trivial ?_
          refine held_exec 18 50 (.pointer (some ⟨g, o + (f + j), none⟩)) rfl rfl (by kernel_rfl) (by kernel_rfl) (exec_idx16 (i := (f + j)) rfl rfl rfl (by omega) (by omega)) trivial ?_
          simp only [Act.put, List.setIfInBounds_toArray, List.set_cons_zero, List.set_cons_succ]
          refine held_void 19 rfl rfl (by kernel_rfl) (by kernel_rfl) (exec_st16 rfl rfl rfl ((HY.out.drawn 1).set (by omega) _) (by simp; omega)) trivial ?_
          refine wpAnyH_done (by kernel_rfl) ?_ _
          have HN := Lib.hid (HY.out.swapd (i := f) (j := (f + j)) (by omega) (by omega))
          generalize (wr.drew.setCell ⟨g, o + f, none⟩ (.int .u16 y[(f + j)]!)).setCell ⟨g, o + (f + j), none⟩ (.int .u16 y[f]!) = wn at HN
          have hz : (swp y f (f + j)).size = d.size := by rw [size_swp]; exact hy
          go_wp2_with fail
          rw [← hz]
          refine (sift16 HN.out 0 j f (by omega) (by omega) (by omega)).mono ?_
          rintro e W2 ⟨rfl, h2⟩
          have H2 := Lib.hid h2
          clear h2
          rw [hz]
          go_wp2_with fail
          go_roundw
          case rel => exact ⟨j, _, _, rfl, Lib.hid rfl, by omega, by rw [sift_size _ _ _ (Nat.le_refl _)]; exact hz, H2.out, by rw [← HO.out, heapPop]⟩
          case measure => simp [numI]
        | zero =>
          obtain rfl : z = -1 := by have := HZ.out; omega
          clear HZ
          go_wp2
          go_end0
          exact ⟨rfl, by rw [← HO.out, heapPop]; exact HY.out⟩

end Go.Proofs.Ytmibfbbkjejkmaa
