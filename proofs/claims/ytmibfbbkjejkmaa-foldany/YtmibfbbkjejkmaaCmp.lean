/- Walks of Below (the document's), Right, Order and Sum, the program's and the document's. -/
import Derived.Test.YtmibfbbkjejkmaaHeld
namespace Go.Proofs.Ytmibfbbkjejkmaa
open Go.RowKit

theorem belowB_of (a b : V) (h : ∀ i, i < 16 → a.at_ i ≤ b.at_ i) : V.belowB a b = true := (V.belowB_iff a b).2 h
theorem belowB_not (a b : V) {k : Nat} (hk : k < 16) (h : b.at_ k < a.at_ k) : V.belowB a b = false := by
  rw [← Bool.not_eq_true, V.belowB_iff]
  intro hh
  have := hh k hk
  omega

set_option maxHeartbeats 1000000 in
theorem rbelow_any (a b : V) (w : World) : Calls Try.prog 20 #[.agg a.arr, .agg b.arr] w (Says (.bool (V.belowB a b)) w) := by
  have hb1 := fun (v : V) (w : World) => box25 v w
  go_enter Try.func20, Try.ntmps20
  go_wp2_with fail
  clear hb1
  have HT := Lib.hid (two_new w a b)
  generalize (w.alloc (.cells a.arr 25)).alloc (.cells b.arr 25) = W at HT
  go_loopw [5] (fun i wr => ∃ k : Nat, k ≤ 16 ∧ i = .int .i64 (k : Int) ∧ Hid (Two w wr a b) ∧ Hid (∀ i, i < k → a.at_ i ≤ b.at_ i)) (fun i _ => 16 - (intOf i).toNat)
  case atStart => exact ⟨0, by omega, rfl, HT, Lib.hid (fun i h => by omega)⟩
  case round =>
    obtain ⟨k, hk, rfl, HR, HB⟩ := hrel
    by_cases hlt : k < 16
    · have c1 : wr.cell? ⟨w.heap.size, k, none⟩ = some (.int .u32 (a.at_ k : Int)) := by rw [HR.out.one.cell, V.arr_at _ hlt]
      have c2 : wr.cell? ⟨w.heap.size + 1, k, none⟩ = some (.int .u32 (b.at_ k : Int)) := by rw [HR.out.two.cell, V.arr_at _ hlt]
      have l1 := a.lt k
      have l2 := b.lt k
      by_cases hle : a.at_ k ≤ b.at_ k
      · have HB2 : Hid (∀ i, i < k + 1 → a.at_ i ≤ b.at_ i) := Lib.hid (fun i h => by
          by_cases e : i = k
          · subst e; exact hle
          · exact HB.out i (by omega))
        generalize a.at_ k = x at c1 l1 hle
        generalize b.at_ k = y at c2 l2 hle
        go_wp2_with fail
        go_region_held3 (fun w' => w'.cell? ⟨w.heap.size, k, none⟩ = some (.int .u32 (x : Int)) ∧ w'.cell? ⟨w.heap.size + 1, k, none⟩ = some (.int .u32 (y : Int))) (exact ⟨c1, c2⟩) (fail)
        go_wp2_with fail
        go_roundw
        case rel => exact ⟨k + 1, by omega, by go_num, Lib.hid HR.out.drew, HB2⟩
        case measure => simp [intOf]; omega
      · have HN := Lib.hid (belowB_not a b hlt (by omega))
        generalize a.at_ k = x at c1 l1 hle
        generalize b.at_ k = y at c2 l2 hle
        go_wp2_with fail
        go_region_held3 (fun w' => w'.cell? ⟨w.heap.size, k, none⟩ = some (.int .u32 (x : Int)) ∧ w'.cell? ⟨w.heap.size + 1, k, none⟩ = some (.int .u32 (y : Int))) (exact ⟨c1, c2⟩) (fail)
        go_wp2_with fail
        go_ret
        exact ⟨ret_bool HN.out.symm, HR.out.old.drew⟩
    · obtain rfl : k = 16 := by omega
      go_wp2_with fail
      go_ret
      exact ⟨ret_bool (belowB_of a b HB.out).symm, HR.out.old⟩

theorem below_one (w : World) (o : Obj) : Below w.heap.size w (w.alloc o) := (Below.refl _ _).alloc (Nat.le_refl _) _

set_option maxHeartbeats 1000000 in
theorem sum_any (v : V) (w : World) : Calls Try.prog 68 #[.agg v.arr] w (Says (.int .u64 (V.sum v : Int)) w) := by
  have hb1 := fun (v : V) (w : World) => box25 v w
  have hix := fun (i : Nat) (w : World) (h : i < 16) => index25 v .i64 i w h
  go_enter Try.func68, Try.ntmps68
  go_wp2_with ((refine wpList_load25 rfl rfl rfl (Blk.new w 25 v.arr) ?_))
  clear hb1
  have HO := Lib.hid (below_one w (.cells v.arr 25))
  generalize w.alloc (.cells v.arr 25) = W at HO
  go_loop [3, 7] (fun s i => ∃ k m : Nat, k ≤ 16 ∧ i = .int .i64 (k : Int) ∧ s = .int .u64 (m : Int) ∧ m ≤ k * 4294967295 ∧ Hid (V.sumTo v k = m)) (fun _ i => 16 - (intOf i).toNat)
  case atStart => exact ⟨0, 0, by omega, rfl, rfl, by omega, Lib.hid rfl⟩
  case round =>
    obtain ⟨k, m, hk, rfl, rfl, hm, HR⟩ := hrel
    by_cases hlt : k < 16
    · have hix' := fun w => hix k w hlt
      have l1 := v.lt k
      have HR2 : Hid (V.sumTo v (k + 1) = m + v.at_ k) := Lib.hid (by rw [V.sumTo, HR.out])
      clear hix
      generalize v.at_ k = x at hix' l1 HR2
      go_wp2_with fail
      go_round
      case rel => exact ⟨k + 1, m + x, by omega, by go_num, by go_num, by omega, HR2⟩
      case measure => simp [intOf]; omega
    · obtain rfl : k = 16 := by omega
      clear hix
      go_wp2_with fail
      go_ret
      exact ⟨ret_int (by rw [V.sum, HR.out]), HO.out⟩

set_option maxHeartbeats 1000000 in
theorem valid_any (r s : Nat) (w : World) (hr : r < 256) (hs : s < 4294967296) : Calls Try.prog 42 #[.agg #[.int .u8 (r : Int), .int .u32 (s : Int)]] w (Says (.bool (V.dotB r s)) w) := by
  by_cases g1 : r < 16
  · by_cases g2 : 1 ≤ s
    · by_cases g3 : s ≤ 1048576
      all_goals
        go_enter Try.func42, Try.ntmps42
        go_wp2_with fail
        go_ret
        exact ⟨ret_bool (by rw [Bool.eq_iff_iff]; simp [V.dotB]; omega), below_one _ _⟩
    · go_enter Try.func42, Try.ntmps42
      go_wp2_with fail
      go_ret
      exact ⟨ret_bool (by simp [V.dotB]; omega), below_one _ _⟩
  · go_enter Try.func42, Try.ntmps42
    go_wp2_with fail
    go_ret
    exact ⟨ret_bool (by simp [V.dotB]; omega), below_one _ _⟩

set_option maxHeartbeats 1000000 in
theorem rdot_any (r s : Nat) (w : World) (hr : r < 256) (hs : s < 4294967296) : Calls Try.prog 29 #[.agg #[.int .u8 (r : Int), .int .u32 (s : Int)]] w (Says (.bool (V.dotB r s)) w) := by
  by_cases g1 : r < 16
  · by_cases g2 : 1 ≤ s
    · by_cases g3 : s ≤ 1048576
      all_goals
        go_enter Try.func29, Try.ntmps29
        go_wp2_with fail
        go_ret
        exact ⟨ret_bool (by rw [Bool.eq_iff_iff]; simp [V.dotB]; omega), below_one _ _⟩
    · go_enter Try.func29, Try.ntmps29
      go_wp2_with fail
      go_ret
      exact ⟨ret_bool (by simp [V.dotB]; omega), below_one _ _⟩
  · go_enter Try.func29, Try.ntmps29
    go_wp2_with fail
    go_ret
    exact ⟨ret_bool (by simp [V.dotB]; omega), below_one _ _⟩

end Go.Proofs.Ytmibfbbkjejkmaa
