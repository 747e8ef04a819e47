/- VintShape is proved: for every number all of its bytes but the last one have the highest bit, the others are its bits, seven by seven, and Size is how many there are. No condition. -/
import Derived.Test.YtpgeolngilepkaaLift
namespace Go.Proofs.Ytpgeolngilepkaa
namespace VintShape
open Go.ChangeShapes Go.WideShapes Go.ChangeAt Go.RowKit

theorem test_eq {c n k : Nat} (h : c % 128 = n / 128 ^ k % 128) : ((c : Int) % 128 != ((n : Int) / 2 ^ (7 * k)).tmod 128) = false := by
  have e : (n : Int) / 2 ^ (7 * k) = ((n / 128 ^ k : Nat) : Int) := by
    rw [← pow_seven]
    simp
  rw [e]
  clear e
  generalize n / 128 ^ k = q at h
  rw [Int.tmod_eq_emod_of_nonneg (by omega)]
  simp
  omega

set_option maxHeartbeats 1000000 in
set_option maxRecDepth 100000 in
theorem core (n L : Nat) (l : List Nat) (w : World) (h1 : 1 ≤ L) (h10 : L ≤ 10) (HL : Hid (l.length = L)) (hl0 : ((L : Int) == 0) = false)
    (HP : Hid (∀ w, Calls Try.prog 12 #[.int .u64 (n : Int)] w (Made l w)))
    (HS : Hid (∀ w, Calls Try.prog 13 #[.int .u64 (n : Int)] w fun e w' => e = .returned (.int .i64 (L : Int)) ∧ w = w'))
    (HX : Hid (∀ c ∈ l, c < 256))
    (HC : Hid (∀ k, k < L → l.getD k 0 % 128 = n / 128 ^ k % 128 ∧ (128 ≤ l.getD k 0 ↔ k + 1 < L)))
    (HZ : Hid (1 < L → 0 < l.getD (L - 1) 0)) :
    Calls Try.prog 8 #[.int .u64 (n : Int)] w fun e w' => e = .returned (.bool true) ∧ Below w.heap.size w w' := by
  go_enter Try.func8, Try.ntmps8
  go_wp2_with fail
  refine (alive_any w).mono ?_
  rintro e w0 ⟨rfl, hb0⟩
  have HB0 := Lib.hid hb0
  clear hb0
  go_wp2_with fail
  refine (HP.out _).mono ?_
  rintro e w1 ⟨g, cap, he, hown, hb⟩
  rw [HL.out] at he hown
  subst he
  obtain ⟨a, cap', hv, hR, _⟩ := row_of_owns hown HX.out
  simp only [Value.slice.injEq, true_and] at hv
  obtain ⟨rfl, rfl⟩ := hv
  have HB := Lib.hid (HB0.out.trans (hb.mono HB0.out.size))
  have HR := Lib.hid hR
  clear hown hb hR HB0
  go_wp2_with fail
  refine (HS.out _).mono ?_
  rintro e w' ⟨rfl, rfl⟩
  go_wp2_with fail
  go_loop [22] (fun i => ∃ k : Nat, k ≤ L ∧ i = .int .i64 (k : Int)) (fun i => L - (intOf i).toNat)
  case atStart => exact ⟨0, by omega, rfl⟩
  case round =>
    obtain ⟨k, hk, rfl⟩ := hrel
    by_cases hlt : k < L
    · obtain ⟨b, off, ha, hcs⟩ := HR.out.cells.resolve_left (by omega)
      simp only [Option.some.injEq, Addr.mk.injEq, and_true] at ha
      obtain ⟨rfl, rfl⟩ := ha
      have hc := hcs k hlt
      rw [Nat.zero_add] at hc
      have hsm : l.getD k 0 < 256 := small_at HR.out hlt
      obtain ⟨q1, q2⟩ := HC.out k hlt
      clear hcs
      generalize l.getD k 0 = c at hc hsm q1 q2
      have Q1 := test_eq q1
      clear q1
      by_cases hmore : k + 1 < L
      · have c1 : 128 ≤ c := q2.2 hmore
        have c2 : (k : Int) < (L : Int) - 1 := by omega
        clear q2
        go_wp2_with fail
        go_round
        case rel => exact ⟨k + 1, by omega, by go_num⟩
        case measure => simp [intOf]; omega
      · have c1 : c < 128 := by
          rcases Nat.lt_or_ge c 128 with h | h
          · exact h
          · exact absurd (q2.1 h) hmore
        have c2 : (L : Int) - 1 ≤ (k : Int) := by omega
        clear q2
        go_wp2_with fail
        go_round
        case rel => exact ⟨k + 1, by omega, by go_num⟩
        case measure => simp [intOf]; omega
    · by_cases hone : L = 1
      · have ho : ((L : Int) == 1) = true := by simp; omega
        clear hone
        go_wp2_with fail
        go_ret
        exact ⟨rfl, HB.out⟩
      · have ho : ((L : Int) == 1) = false := by simp; omega
        obtain ⟨b, off, ha, hcs⟩ := HR.out.cells.resolve_left (by omega)
        simp only [Option.some.injEq, Addr.mk.injEq, and_true] at ha
        obtain ⟨rfl, rfl⟩ := ha
        have hc := hcs (L - 1) (by omega)
        rw [Nat.zero_add] at hc
        have hp := HZ.out (by omega)
        have hsm : l.getD (L - 1) 0 < 256 := small_at HR.out (by omega)
        generalize l.getD (L - 1) 0 = c at hc hsm hp
        have i0 : 0 ≤ (L : Int) - 1 := by omega
        have i1 : (L : Int) - 1 < (L : Int) := by omega
        have i2 : ((L : Int) - 1).toNat = L - 1 := by omega
        clear hcs hone
        go_wp2_with fail
        go_ret
        exact ⟨rfl, HB.out⟩

theorem walk (n : Nat) (w : World) (h : n < 18446744073709551616) :
    Calls Try.prog 8 #[.int .u64 (n : Int)] w fun e w' => e = .returned (.bool true) ∧ Below w.heap.size w w' := by
  have hp := Vint.enc_pos n
  exact core n (Vint.enc n).length (Vint.enc n) w hp (Vint.enc_ten h) (Lib.hid rfl) (by rw [beq_eq_false_iff_ne]; omega) (Lib.hid fun w => put_any n w h) (Lib.hid fun w => size_any n w h) (Lib.hid (Vint.enc_lt n)) (Lib.hid fun k hk => Vint.enc_at n k hk) (Lib.hid (Vint.enc_last n))

set_option maxRecDepth 100000 in
theorem lifted (os : Os) (started : os.Started) (H : Type) (enc : TypeId × Value → H) :
    ReturnsInHanded {} Try.checked os 8 .any (Rows.vintShapeSpec.pre6 enc Try.prog Try.f8 Rows.vintShapeRow.domain false) (Rows.vintShapeSpec.post enc Try.prog Try.f8 false true false false) := by
  refine returnsInHanded_of_change (C := Try.checked) own started (by kernel_rfl) Try.func8
    (ChangeSpec.witness6 (enc := enc) (C := Try.checked) false ⟨#[], #[.int .u64 0], []⟩ 8 (by kernel_rfl) (by kernel_rfl) (by kernel_rfl) (by kernel_rfl)) ?_
  intro W base args ds gs before hval0 hW hcnd _
  have hval : ∀ (j : Nat) t v, Try.f8.params[j]? = some t → args[j]? = some v → Value.okWide Try.prog W .any base t v := hval0
  have hW' := hW
  obtain ⟨p, q, hA0, hV, rfl, hfz, hnd⟩ := hW
  have hA : DataW.TrodAll enc Try.prog W 0 (fun _ => true) true Try.f8.params.toList args.toList ds p := hA0
  rw [Try.params8] at hA hval
  obtain ⟨v0, d0, rfl, rfl, h0⟩ := trodAll_one hA
  obtain ⟨rfl, rfl⟩ := trodVars_none hV
  obtain ⟨a0, rfl, rfl, rfl, w0⟩ := open_int Try.underlying22 (hval 0 22 v0 rfl rfl) h0
  have c0 := bounds_u64 w0
  obtain ⟨n0, rfl⟩ := Int.eq_ofNat_of_zero_le c0.1
  clear hA0 hval0
  refine (walk n0 W (by omega)).mono fun e W' ⟨he, bel⟩ => ?_
  subst he
  exact ⟨_, rfl, _, _, _, [], _, [], hW', trodAll_mk1 (shut_bool Try.underlying4 _), trodAll_mk1 (shut_int Try.underlying22 w0), rfl, bel.frame _, fun h => by cases h⟩
end VintShape

theorem vintShape_proved : Rows.VintShapeSaid :=
  OpenClaim.holds_of_wide 8 Try.f8 rfl rfl rfl rfl rfl rfl rfl ⟨rfl, rfl, rfl, rfl, rfl⟩ rfl rfl rfl rfl rfl (by kernel_rfl) Try.func8 (by kernel_rfl)
    (of_decide_eq_true (by kernel_rfl)) (by unfold Func.isWrapper; first | (rw [if_pos (by decide +kernel)]; kernel_rfl) | (rw [if_neg (by decide +kernel)]; exact ⟨rfl, rfl⟩))
    (fun os started H enc _ => VintShape.lifted os started H enc)
#print axioms vintShape_proved
end Go.Proofs.Ytpgeolngilepkaa
