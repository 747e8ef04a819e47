/- VintBack is proved: for every number and every slice of bytes behind its own, Get of Put's bytes and of these answers the number, how many bytes it has and OK, and each proper beginning of its bytes is too short. No condition. -/
import Derived.Test.YtpgeolngilepkaaApp
namespace Go.Proofs.Ytpgeolngilepkaa
namespace VintBack
open Go.ChangeShapes Go.WideShapes Go.ChangeAt Go.RowKit

set_option maxHeartbeats 1000000 in
set_option maxRecDepth 100000 in
theorem core (n L : Nat) (l : List Nat) (a : Option Addr) (r c : Nat) (bs : List Nat) (w : World) (h1 : 1 ≤ L) (h10 : L ≤ 10) (hr : r ≤ 2000) (HL : Hid (l.length = L))
    (HR : Hid (Row w a r bs)) (HN : Hid (a = none → r = 0 ∧ c = 0))
    (HP : Hid (∀ w, Calls Try.prog 12 #[.int .u64 (n : Int)] w (Made l w)))
    (HX : Hid (∀ c ∈ l, c < 256))
    (HG : Hid (Vint.G 0 0 (l ++ bs) = (n, L, 0)))
    (HC : Hid (∀ k, k < L → Vint.G 0 0 (l.take k) = (0, 0, 4))) :
    Calls Try.prog 6 #[.int .u64 (n : Int), .slice a r c] w fun e w' => e = .returned (.bool true) ∧ Below w.heap.size w w' := by
  go_enter Try.func6, Try.ntmps6
  go_wp2_with fail
  refine (alive_any w).mono ?_
  rintro e w0 ⟨rfl, hb0⟩
  have HB0 := Lib.hid hb0
  clear hb0
  go_wp2_with fail
  refine (HP.out _).mono ?_
  rintro e w1 ⟨g, cap, he, hown, hb⟩
  rw [HL.out] at he hown
  subst he
  have hcap := (own_cap hown).1
  have hcap2 := (own_cap hown).2
  unfold maxLen at hcap2
  have HB := Lib.hid (HB0.out.trans (hb.mono HB0.out.size))
  have HRb := Lib.hid (row_own hown HX.out)
  have HRr := Lib.hid (HR.out.below HB.out)
  clear hown hb HB0
  go_wp2_with (at_builtin; first
    | (refine wpList_append_row w1 rfl _ _ rfl w1.heap.size (.slice none 0 0) 0 [] rfl (World.ownsRow_nil _ _ _ _) (some ⟨g, 0, none⟩) L cap l rfl HRb.out (fun h => by cases h) (by omega) (by omega) (Nat.le_refl _) ?_
       intro g2 cp2 w2 hown2 hgrow2
       simp only [Nat.zero_add, List.nil_append] at hown2 ⊢
       have HO2 := Lib.hid hown2
       have HG2 := Lib.hid ((Below.refl _ _).grown hgrow2 (Nat.le_refl _) (fun j hj => by simp [Value.ownBlock] at hj))
       clear hown2 hgrow2)
    | (refine wpList_append_row w2 rfl _ _ rfl w1.heap.size (.slice (some ⟨g2, 0, none⟩) L cp2) L l rfl HO2.out a r c bs rfl (HRr.out.below HG2.out) HN.out (by omega) (by omega) HG2.out.size ?_
       intro g3 cp3 w3 hown3 hgrow3
       have HO3 := Lib.hid hown3
       have HG3 := Lib.hid (HG2.out.grown hgrow3 HG2.out.size (fun j hj => (HO2.out.lt j hj).1))
       clear hown3 hgrow3))
  have hBB := HG3.out
  have hall : ∀ c ∈ l ++ bs, c < 256 := fun c hc => by
    rcases List.mem_append.1 hc with h | h
    · exact HX.out c h
    · exact HR.out.small c h
  have k1 := Lib.hid (get_any (some ⟨g3, 0, none⟩) (L + r) cp3 (l ++ bs) n L 0 w3 (row_own HO3.out hall) (by unfold maxLen; omega) HG.out)
  have HR3 := Lib.hid (HRb.out.below hBB)
  have HB3 := Lib.hid (HB.out.trans (hBB.mono HB.out.size))
  clear hBB hall HG3 HO3 HG2 HO2 HRb HRr HB
  refine k1.out.mono ?_
  rintro e w' ⟨rfl, rfl⟩
  clear k1
  go_wp2_with fail
  go_loop [54] (fun i => ∃ k : Nat, k ≤ L ∧ i = .int .i64 (k : Int)) (fun i => L - (intOf i).toNat)
  case atStart => exact ⟨0, by omega, rfl⟩
  case round =>
    obtain ⟨k, hk, rfl⟩ := hrel
    by_cases hlt : k < L
    · have k2 := Lib.hid (get_z (some ⟨g, 0, none⟩) k cap (l.take k) 0 0 4 w3 (HR3.out.upto hk) (by unfold maxLen; omega) ⟨0, 0, 4, HC.out k hlt, rfl, rfl, rfl⟩)
      have hkc : (k : Int) ≤ (cap : Int) := by omega
      go_wp2_with fail
      refine k2.out.mono ?_
      rintro e w' ⟨rfl, rfl⟩
      go_wp2_with fail
      go_round
      case rel => exact ⟨k + 1, by omega, by go_num⟩
      case measure => simp [intOf]; omega
    · go_wp2_with fail
      go_ret
      exact ⟨rfl, HB3.out⟩

set_option maxHeartbeats 400000 in
theorem core_big (n : Nat) (a : Option Addr) (r c : Nat) (w : World) (hr : 2000 < r) :
    Calls Try.prog 6 #[.int .u64 (n : Int), .slice a r c] w fun e w' => e = .returned (.bool true) ∧ Below w.heap.size w w' := by
  go_enter Try.func6, Try.ntmps6
  go_wp2_with fail
  refine (alive_any w).mono ?_
  rintro e w0 ⟨rfl, hb0⟩
  have HB0 := Lib.hid hb0
  clear hb0
  go_wp2_with fail
  go_ret
  exact ⟨rfl, HB0.out⟩

theorem walk (n : Nat) (a : Option Addr) (r c : Nat) (bs : List Nat) (w : World) (h : n < 18446744073709551616) (hR : Row w a r bs) (hz : a = none → r = 0 ∧ c = 0) :
    Calls Try.prog 6 #[.int .u64 (n : Int), .slice a r c] w fun e w' => e = .returned (.bool true) ∧ Below w.heap.size w w' := by
  by_cases hr : 2000 < r
  · exact core_big n a r c w hr
  · exact core n (Vint.enc n).length (Vint.enc n) a r c bs w (Vint.enc_pos n) (Vint.enc_ten h) (by omega) (Lib.hid rfl) (Lib.hid hR) (Lib.hid hz) (Lib.hid fun w => put_any n w h) (Lib.hid (Vint.enc_lt n)) (Lib.hid (Vint.G_put h bs)) (Lib.hid fun k hk => Vint.G_cut h hk)

set_option maxRecDepth 100000 in
theorem lifted (os : Os) (started : os.Started) (H : Type) (enc : TypeId × Value → H) :
    ReturnsInHanded {} Try.checked os 6 .any (Rows.vintBackSpec.pre6 enc Try.prog Try.f6 Rows.vintBackRow.domain false) (Rows.vintBackSpec.post enc Try.prog Try.f6 false true false false) := by
  refine returnsInHanded_of_change (C := Try.checked) own started (by kernel_rfl) Try.func6
    (ChangeSpec.witness6 (enc := enc) (C := Try.checked) false ⟨#[], #[.int .u64 0, .slice none 0 0], []⟩ 8 (by kernel_rfl) (by kernel_rfl) (by kernel_rfl) (by kernel_rfl)) ?_
  intro W base args ds gs before hval0 hW hcnd _
  have hval : ∀ (j : Nat) t v, Try.f6.params[j]? = some t → args[j]? = some v → Value.okWide Try.prog W .any base t v := hval0
  have hW' := hW
  obtain ⟨p, q, hA0, hV, rfl, hfz, hnd⟩ := hW
  have hA : DataW.TrodAll enc Try.prog W 0 (fun _ => true) true Try.f6.params.toList args.toList ds p := hA0
  rw [Try.params6] at hA hval
  obtain ⟨v0, v1, d0, d1, p0, p1, rfl, rfl, rfl, h0, h1⟩ := trodAll_two hA
  obtain ⟨rfl, rfl⟩ := trodVars_none hV
  obtain ⟨a0, rfl, rfl, rfl, w0⟩ := open_int Try.underlying22 (hval 0 22 v0 rfl rfl) h0
  obtain ⟨a, len, cap, rfl⟩ := okWide_slice Try.underlying24 (hval 1 24 v1 rfl rfl)
  have lt1 : ∀ x ∈ p1, x.block < W.heap.size := by obtain ⟨m, hm⟩ := h1; exact DataW.trod_lt m _ _ _ hm
  obtain ⟨hl, hz, bs, hR⟩ := row_of h1
  have c0 := bounds_u64 w0
  obtain ⟨n0, rfl⟩ := Int.eq_ofNat_of_zero_le c0.1
  clear hA0 hval0
  refine (walk n0 a len cap bs W (by omega) hR (fun h => by rcases hz with ⟨_, h1, h2⟩ | ⟨x, hx, _⟩; exact ⟨h1, h2⟩; rw [hx] at h; cases h)).mono fun e W' ⟨he, bel⟩ => ?_
  subst he
  exact ⟨_, rfl, _, _, _, [], _, [], hW', trodAll_mk1 (shut_bool Try.underlying4 _), trodAll_mk2 (shut_int Try.underlying22 w0) (Below.trod laidOut (by kernel_rfl) (of_decide_eq_true (by kernel_rfl)) h1 bel lt1), rfl, bel.frame _, fun h => by cases h⟩
end VintBack

theorem vintBack_proved : Rows.VintBackSaid :=
  OpenClaim.holds_of_wide 6 Try.f6 rfl rfl rfl rfl rfl rfl rfl ⟨rfl, rfl, rfl, rfl, rfl⟩ rfl rfl rfl rfl rfl (by kernel_rfl) Try.func6 (by kernel_rfl)
    (of_decide_eq_true (by kernel_rfl)) (by unfold Func.isWrapper; first | (rw [if_pos (by decide +kernel)]; kernel_rfl) | (rw [if_neg (by decide +kernel)]; exact ⟨rfl, rfl⟩))
    (fun os started H enc _ => VintBack.lifted os started H enc)
#print axioms vintBack_proved
end Go.Proofs.Ytpgeolngilepkaa
