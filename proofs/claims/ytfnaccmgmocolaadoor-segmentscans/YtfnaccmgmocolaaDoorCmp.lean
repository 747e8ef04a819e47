/- Walks of Below (the document's), Right, Order and Sum, the program's and the document's. -/
import Derived.Test.YtfnaccmgmocolaaDoorJoin
namespace Go.Proofs.YtfnaccmgmocolaaDoor
open Go.RowKit

theorem belowB_of (a b : V) (h : ∀ i, i < 16 → a.at_ i ≤ b.at_ i) : V.belowB a b = true := (V.belowB_iff a b).2 h
theorem belowB_not (a b : V) {k : Nat} (hk : k < 16) (h : b.at_ k < a.at_ k) : V.belowB a b = false := by
  rw [← Bool.not_eq_true, V.belowB_iff]
  intro hh
  have := hh k hk
  omega


theorem below_one (w : World) (o : Obj) : Below w.heap.size w (w.alloc o) := (Below.refl _ _).alloc (Nat.le_refl _) _

set_option maxHeartbeats 1000000 in
theorem right_any (v : V) (n : Int) (w : World) (h0 : -9223372036854775808 ≤ n) (h1 : n ≤ 9223372036854775807) : Calls Tryd.prog 68 #[.agg v.arr, .int .i64 n] w (Says (.bool (V.rightB v n)) w) := by
  have hb1 := fun (v : V) (w : World) => box27 v w
  have hix := fun (i : Nat) (w : World) (h : i < 16) => index27 v .i64 i w h
  by_cases hn : 1 ≤ n ∧ n ≤ 16
  · have HE : Hid (V.rightB v n = V.rightTo v n 16) := Lib.hid (by simp [V.rightB, hn])
    obtain ⟨n1, n2⟩ := hn
    go_enter Tryd.func68, Tryd.ntmps68
    go_wp2_with ((refine wpList_load27 rfl rfl rfl (Blk.new w 27 v.arr) ?_))
    clear hb1
    have HO := Lib.hid (below_one w (.cells v.arr 27))
    generalize w.alloc (.cells v.arr 27) = W at HO
    go_loop [14] (fun i => ∃ k : Nat, k ≤ 16 ∧ i = .int .i64 (k : Int) ∧ Hid (V.rightTo v n k = true)) (fun i => 16 - (intOf i).toNat)
    case atStart => exact ⟨0, by omega, rfl, Lib.hid (V.rightTo_zero v n)⟩
    case round =>
      obtain ⟨k, hk, rfl, HR⟩ := hrel
      by_cases hlt : k < 16
      · have hix' := fun w => hix k w hlt
        have l1 := v.lt k
        clear hix
        by_cases g1 : v.at_ k ≤ 1048576
        · by_cases g2 : n ≤ (k : Int)
          · by_cases g3 : v.at_ k = 0
            · have HR2 := Lib.hid (V.rightTo_succ v n k HR.out g1 (fun _ => g3))
              rw [g3] at hix'
              clear g3 g1 l1
              go_wp2_with fail
              go_round
              case rel => exact ⟨k + 1, by omega, by go_num, HR2⟩
              case measure => simp [intOf]; omega
            · have HN := Lib.hid (V.rightTo_not v n hlt (.inr ⟨g2, g3⟩))
              generalize v.at_ k = x at hix' l1 g1 g3
              have g4 : ((x : Int) != 0) = true := by simp; omega
              go_wp2_with fail
              go_ret
              exact ⟨ret_bool (HE.out.trans HN.out).symm, HO.out⟩
          · have HR2 := Lib.hid (V.rightTo_succ v n k HR.out g1 (fun h => absurd h g2))
            generalize v.at_ k = x at hix' l1 g1
            go_wp2_with fail
            go_round
            case rel => exact ⟨k + 1, by omega, by go_num, HR2⟩
            case measure => simp [intOf]; omega
        · have HN := Lib.hid (V.rightTo_not v n hlt (.inl (by omega)))
          generalize v.at_ k = x at hix' l1 g1
          go_wp2_with fail
          go_ret
          exact ⟨ret_bool (HE.out.trans HN.out).symm, HO.out⟩
      · obtain rfl : k = 16 := by omega
        clear hix
        go_wp2_with fail
        go_ret
        exact ⟨ret_bool (HE.out.trans HR.out).symm, HO.out⟩
  · have HE : Hid (V.rightB v n = false) := Lib.hid (by simp [V.rightB]; intro h h2; exact absurd ⟨h, h2⟩ hn)
    have hn' : n < 1 ∨ 16 < n := by omega
    clear hix hn
    rcases hn' with hn' | hn'
    all_goals
      go_enter Tryd.func68, Tryd.ntmps68
      go_wp2_with fail
      go_ret
      exact ⟨ret_bool HE.out.symm, below_one _ _⟩

set_option maxHeartbeats 1000000 in
theorem rright_any (v : V) (n : Int) (w : World) (h0 : -9223372036854775808 ≤ n) (h1 : n ≤ 9223372036854775807) : Calls Tryd.prog 64 #[.agg v.arr, .int .i64 n] w (Says (.bool (V.rightB v n)) w) := by
  have hb1 := fun (v : V) (w : World) => box27 v w
  go_enter Tryd.func64, Tryd.ntmps64
  go_wp2_with fail
  clear hb1
  have HO := Lib.hid (below_one w (.cells v.arr 27))
  have HV := Lib.hid (Blk.new w 27 v.arr)
  generalize w.alloc (.cells v.arr 27) = W at HO HV
  go_loop [5] (fun i => ∃ k : Nat, k ≤ 16 ∧ i = .int .i64 (k : Int) ∧ Hid (V.rightTo v n k = true)) (fun i => 16 - (intOf i).toNat)
  case atStart => exact ⟨0, by omega, rfl, Lib.hid (V.rightTo_zero v n)⟩
  case round =>
    obtain ⟨k, hk, rfl, HR⟩ := hrel
    by_cases hlt : k < 16
    · have c1 : W.cell? ⟨w.heap.size, k, none⟩ = some (.int .u32 (v.at_ k : Int)) := by rw [HV.out.cell, V.arr_at _ hlt]
      have l1 := v.lt k
      by_cases g1 : v.at_ k ≤ 1048576
      · by_cases g2 : n ≤ (k : Int)
        · by_cases g3 : v.at_ k = 0
          · have HR2 := Lib.hid (V.rightTo_succ v n k HR.out g1 (fun _ => g3))
            rw [g3] at c1
            clear g3 g1 l1
            go_wp2_with fail
            go_round
            case rel => exact ⟨k + 1, by omega, by go_num, HR2⟩
            case measure => simp [intOf]; omega
          · have HN := Lib.hid (V.rightTo_not v n hlt (.inr ⟨g2, g3⟩))
            generalize v.at_ k = x at c1 l1 g1 g3
            have g4 : ((x : Int) != 0) = true := by simp; omega
            go_wp2_with fail
            go_ret
            exact ⟨ret_bool (by rw [V.rightB, HN.out]; simp), HO.out⟩
        · have HR2 := Lib.hid (V.rightTo_succ v n k HR.out g1 (fun h => absurd h g2))
          generalize v.at_ k = x at c1 l1 g1
          go_wp2_with fail
          go_round
          case rel => exact ⟨k + 1, by omega, by go_num, HR2⟩
          case measure => simp [intOf]; omega
      · have HN := Lib.hid (V.rightTo_not v n hlt (.inl (by omega)))
        generalize v.at_ k = x at c1 l1 g1
        go_wp2_with fail
        go_ret
        exact ⟨ret_bool (by rw [V.rightB, HN.out]; simp), HO.out⟩
    · obtain rfl : k = 16 := by omega
      by_cases n1 : 1 ≤ n
      · by_cases n2 : n ≤ 16
        · go_wp2_with fail
          go_ret
          exact ⟨ret_bool (by rw [V.rightB, HR.out]; simp [n1, n2]), HO.out⟩
        · go_wp2_with fail
          go_ret
          exact ⟨ret_bool (by rw [V.rightB, HR.out]; simp; omega), HO.out⟩
      · go_wp2_with fail
        go_ret
        exact ⟨ret_bool (by rw [V.rightB, HR.out]; simp; omega), HO.out⟩


set_option maxHeartbeats 1000000 in
theorem valid_any (r s : Nat) (w : World) (hr : r < 256) (hs : s < 4294967296) : Calls Tryd.prog 84 #[.agg #[.int .u8 (r : Int), .int .u32 (s : Int)]] w (Says (.bool (V.dotB r s)) w) := by
  by_cases g1 : r < 16
  · by_cases g2 : 1 ≤ s
    · by_cases g3 : s ≤ 1048576
      all_goals
        go_enter Tryd.func84, Tryd.ntmps84
        go_wp2_with fail
        go_ret
        exact ⟨ret_bool (by rw [Bool.eq_iff_iff]; simp [V.dotB]; omega), below_one _ _⟩
    · go_enter Tryd.func84, Tryd.ntmps84
      go_wp2_with fail
      go_ret
      exact ⟨ret_bool (by simp [V.dotB]; omega), below_one _ _⟩
  · go_enter Tryd.func84, Tryd.ntmps84
    go_wp2_with fail
    go_ret
    exact ⟨ret_bool (by simp [V.dotB]; omega), below_one _ _⟩

set_option maxHeartbeats 1000000 in
theorem rdot_any (r s : Nat) (w : World) (hr : r < 256) (hs : s < 4294967296) : Calls Tryd.prog 63 #[.agg #[.int .u8 (r : Int), .int .u32 (s : Int)]] w (Says (.bool (V.dotB r s)) w) := by
  by_cases g1 : r < 16
  · by_cases g2 : 1 ≤ s
    · by_cases g3 : s ≤ 1048576
      all_goals
        go_enter Tryd.func63, Tryd.ntmps63
        go_wp2_with fail
        go_ret
        exact ⟨ret_bool (by rw [Bool.eq_iff_iff]; simp [V.dotB]; omega), below_one _ _⟩
    · go_enter Tryd.func63, Tryd.ntmps63
      go_wp2_with fail
      go_ret
      exact ⟨ret_bool (by simp [V.dotB]; omega), below_one _ _⟩
  · go_enter Tryd.func63, Tryd.ntmps63
    go_wp2_with fail
    go_ret
    exact ⟨ret_bool (by simp [V.dotB]; omega), below_one _ _⟩

end Go.Proofs.YtfnaccmgmocolaaDoor
