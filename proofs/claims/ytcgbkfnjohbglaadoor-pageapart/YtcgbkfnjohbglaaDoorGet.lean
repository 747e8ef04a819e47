/- Walk of Get, the program's: it answers what the bytes begin with. -/
import Derived.Test.YtcgbkfnjohbglaaDoorPut
namespace Go.Proofs.YtcgbkfnjohbglaaDoor
open Go.RowKit

theorem andNot_top (c : Nat) (hc : c < 256) : bits .andNot .u8 (c : Int) 128 = ((c % 128 : Nat) : Int) := by
  have h := u8_andNot_nat c 128 hc (by omega)
  rw [show 255 - 128 = 127 by omega, nat_mask7] at h
  exact h

theorem pow_seven (j : Nat) : 2 ^ (7 * j) = 128 ^ j := by rw [Nat.pow_mul]

theorem wrap_place (m j : Nat) (hp : m * 128 ^ j < 18446744073709551616) : IntKind.u64.wrap ((m : Int) * 2 ^ (7 * j)) = ((m * 128 ^ j : Nat) : Int) := by
  have e : (m : Int) * 2 ^ (7 * j) = ((m * 128 ^ j : Nat) : Int) := by
    rw [← pow_seven]
    simp
  rw [e, IntKind.wrap_u64]
  omega

theorem or_place (y m j : Nat) (hy : y < 128 ^ j) (hj : j ≤ 9) (hp : m * 128 ^ j < 18446744073709551616) : bits .or .u64 (y : Int) (IntKind.u64.wrap ((m : Int) * 2 ^ (7 * j))) = ((y + m * 128 ^ j : Nat) : Int) := by
  have hb := Vint.pow_bound' j (by omega)
  rw [wrap_place m j hp, u64_or_nat y (m * 128 ^ j) (by omega) hp, Nat.or_comm, nat_join (7 * j) (m * 128 ^ j) y (by rw [pow_seven]; exact Nat.mul_mod_left _ _) (by rw [pow_seven]; exact hy), Nat.add_comm]

theorem ret_three {a b c a' b' c' : Int} {k l m : IntKind} (h1 : a = a') (h2 : b = b') (h3 : c = c') : Ending.returned (.tuple #[.int k a, .int l b, .int m c]) = .returned (.tuple #[.int k a', .int l b', .int m c']) := by rw [h1, h2, h3]

theorem place_room {m j : Nat} (hj : j ≤ 9) (hm : m < 128) (h9 : j = 9 → m ≤ 1) : m * 128 ^ j < 18446744073709551616 := by
  by_cases h : j = 9
  · have := h9 h
    subst h
    rw [Vint.pow_nine]
    omega
  · have hb := Vint.pow_bound j (by omega)
    have h1 : m * 128 ^ j ≤ 127 * 128 ^ j := Nat.mul_le_mul_right _ (by omega)
    omega

set_option maxHeartbeats 1000000 in
set_option maxRecDepth 100000 in
theorem get_core (a : Option Addr) (len cap : Nat) (bs : List Nat) (x k er : Nat) (w : World) (hR : Hid (Row w a len bs)) (hl : len ≤ maxLen) (hG : Hid (Vint.G 0 0 bs = (x, k, er))) :
    Calls Tryd.prog 44 #[.slice a len cap] w fun e w' => e = .returned (.tuple #[.int .u64 (x : Int), .int .i64 (k : Int), .int .i64 (er : Int)]) ∧ w = w' := by
  unfold maxLen at hl
  go_enter Tryd.func44, Tryd.ntmps44
  go_wp2_with fail
  go_loop [5, 10] (fun v i => ∃ j y : Nat, j ≤ 9 ∧ j ≤ len ∧ v = .int .u64 (y : Int) ∧ i = .int .i64 (j : Int) ∧ Hid (y < 128 ^ j) ∧ Hid (Vint.G j y (bs.drop j) = (x, k, er))) (fun _ i => 10 - (intOf i).toNat)
  case atStart => exact ⟨0, 0, by omega, by omega, rfl, rfl, Lib.hid (by decide), hG⟩
  case round =>
    obtain ⟨j, y, hj, hjl, rfl, rfl, hy, HG⟩ := hrel
    by_cases hlt : j < len
    · obtain ⟨b, off, ha, hcs⟩ := hR.out.cells.resolve_left (by omega)
      have hc := hcs j hlt
      have hsm : bs.getD j 0 < 256 := small_at hR.out hlt
      have hd : bs.drop j = bs.getD j 0 :: bs.drop (j + 1) := by
        have hj' : j < bs.length := by rw [hR.out.size]; exact hlt
        rw [getD_at hj', List.drop_eq_getElem_cons hj']
      have HD := HG.out
      rw [hd] at HD
      have HG2 := Lib.hid HD
      subst ha
      clear hcs HD hd HG
      generalize bs.getD j 0 = c at hc hsm HG2
      by_cases hf : fitsB j c = true
      · have hm := andNot_top c hsm
        have hfit : (j = 9 → c = 1) ∧ (j ≠ 9 → (c ≠ 0 ∨ j = 0)) := by
          unfold fitsB at hf
          by_cases h9 : j = 9
          · rw [if_pos h9] at hf; simp at hf; exact ⟨fun _ => hf, fun h => absurd h9 h⟩
          · rw [if_neg h9] at hf; simp at hf; exact ⟨fun h => absurd h h9, fun _ => by omega⟩
        have hroom : (c % 128) * 128 ^ j < 18446744073709551616 := place_room hj (by omega) (fun h => by have := hfit.1 h; omega)
        have HO := Lib.hid (or_place y (c % 128) j hy.out hj hroom)
        have hyl := hy.out
        have hF := Lib.hid hf
        by_cases hlow : c < 128
        · have HE : Hid (x = y + c % 128 * 128 ^ j ∧ k = j + 1 ∧ er = 0) := Lib.hid (by
            have h := HG2.out
            by_cases h9 : j = 9
            · have h1 := hfit.1 h9
              subst h9 h1
              rw [Vint.G_nine, if_pos rfl] at h
              simp only [Prod.mk.injEq] at h
              rw [Vint.pow_nine]
              omega
            · rw [Vint.G_last (by omega) (hfit.2 h9) hlow] at h
              simp only [Prod.mk.injEq] at h
              rw [Nat.mod_eq_of_lt hlow]
              exact ⟨h.1.symm, h.2.1.symm, h.2.2.symm⟩)
          clear hfit hroom hyl hf
          have hml : c % 128 < 128 := by omega
          generalize c % 128 = m at hm HO HE hml
          go_wp2_with fail
          refine (fits_any j c _ (by omega) hsm).mono ?_
          rintro e w' ⟨rfl, rfl⟩
          have hf := hF.out
          go_wp2_with fail
          go_ret3
          obtain ⟨h1, h2, h3⟩ := HE.out
          exact ⟨ret_three (by rw [h1]; exact HO.out) (by omega) (by omega), rfl⟩
        · have hj8 : j + 1 ≤ 9 := by
            by_cases h9 : j = 9
            · have := hfit.1 h9; omega
            · omega
          have HN : Hid (Vint.G (j + 1) (y + c % 128 * 128 ^ j) (List.drop (j + 1) bs) = (x, k, er)) := Lib.hid (by
            have h := HG2.out
            rw [Vint.G_more (by omega) (by omega)] at h
            rw [show c % 128 = c - 128 by omega]
            exact h)
          have HY : Hid (y + c % 128 * 128 ^ j < 128 ^ (j + 1)) := Lib.hid (by
            rw [Nat.pow_succ]
            have h1 : c % 128 * 128 ^ j ≤ 127 * 128 ^ j := Nat.mul_le_mul_right _ (by omega)
            omega)
          clear hfit hroom hyl hf HG2
          have hml : c % 128 < 128 := by omega
          generalize c % 128 = m at hm HO HN HY hml
          go_wp2_with fail
          refine (fits_any j c _ (by omega) hsm).mono ?_
          rintro e w' ⟨rfl, rfl⟩
          have hf := hF.out
          go_wp2_with fail
          go_round
          case rel => exact ⟨j + 1, _, hj8, by omega, congrArg _ HO.out, by go_num, HY, HN⟩
          case measure => simp [intOf]; omega
      · have hg : fitsB j c = false := by simpa using hf
        clear hf
        have HE : Hid (x = 0 ∧ k = 0 ∧ er = 5) := Lib.hid (by
          have h := HG2.out
          unfold fitsB at hg
          by_cases h9 : j = 9
          · rw [if_pos h9] at hg; simp at hg
            subst h9
            rw [Vint.G_nine, if_neg hg] at h
            simp only [Prod.mk.injEq] at h
            omega
          · rw [if_neg h9] at hg; simp at hg
            rw [Vint.G_form (by omega) hg.1 hg.2] at h
            simp only [Prod.mk.injEq] at h
            omega)
        have hF := Lib.hid hg
        clear hg HG2
        go_wp2_with fail
        refine (fits_any j c _ (by omega) hsm).mono ?_
        rintro e w' ⟨rfl, rfl⟩
        have hg := hF.out
        go_wp2_with fail
        go_ret3
        obtain ⟨h1, h2, h3⟩ := HE.out
        exact ⟨ret_three (by omega) (by omega) (by omega), rfl⟩
    · have HE : Hid (x = 0 ∧ k = 0 ∧ er = 4) := Lib.hid (by
        have h := HG.out
        rw [List.drop_eq_nil_of_le (by rw [hR.out.size]; omega), Vint.G_nil] at h
        simp only [Prod.mk.injEq] at h
        omega)
      clear HG
      go_wp2_with fail
      go_ret3
      obtain ⟨h1, h2, h3⟩ := HE.out
      exact ⟨ret_three (by omega) (by omega) (by omega), rfl⟩

theorem get_any (a : Option Addr) (len cap : Nat) (bs : List Nat) (x k er : Nat) (w : World) (hR : Row w a len bs) (hl : len ≤ maxLen) (hG : Vint.G 0 0 bs = (x, k, er)) :
    Calls Tryd.prog 44 #[.slice a len cap] w fun e w' => e = .returned (.tuple #[.int .u64 (x : Int), .int .i64 (k : Int), .int .i64 (er : Int)]) ∧ w = w' :=
  get_core a len cap bs x k er w (Lib.hid hR) hl (Lib.hid hG)
end Go.Proofs.YtcgbkfnjohbglaaDoor
