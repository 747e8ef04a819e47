/- CartFold: of a history, applied one by one, the state is that of its operations: what is there is what is live, and what is seen is what the definition says. Without a condition. -/
import Derived.Test.YtnekpgmgnepdoaaGreatXbm
import Derived.Test.YtnekpgmgnepdoaaGreatXbn
namespace Go.Proofs.YtnekpgmgnepdoaaGreat
open Go.ChangeShapes Go.WideShapes Go.ChangeAt Go.RowKit
namespace CartFold
set_option maxRecDepth 100000 in
theorem lifted (os : Os) (started : os.Started) (H : Type) (enc : TypeId × Value → H) :
  ReturnsInHanded {} Tryz.checked os 6 .any (Rows.cartFoldSpec.pre6 enc Tryz.prog Tryz.f6 Rows.cartFoldRow.domain false) (Rows.cartFoldSpec.post enc Tryz.prog Tryz.f6 false true false false) := by
 refine returnsInHanded_of_change (C := Tryz.checked) own started (by kernel_rfl) Tryz.func6
  (ChangeSpec.witness6 (enc := enc) (C := Tryz.checked) false ⟨#[], #[.slice none 0 0, .int .u16 0], []⟩ 8 (by kernel_rfl) (by kernel_rfl) (by kernel_rfl) (by kernel_rfl)) ?_
 intro W base args ds gs before hval0 hW hcnd _
 have hval : ∀ (j : Nat) t v, Tryz.f6.params[j]? = some t → args[j]? = some v → Value.okWide Tryz.prog W .any base t v := hval0
 have hW' := hW
 obtain ⟨p, q, hA0, hV, rfl, hfz, hnd⟩ := hW
 have hA : DataW.TrodAll enc Tryz.prog W 0 (fun _ => true) true Tryz.f6.params.toList args.toList ds p := hA0
 rw [Tryz.params6] at hA hval
 obtain ⟨v0, v1, d0, d1, p0, p1, rfl, rfl, rfl, h0, h1⟩ := trodAll_two hA
 obtain ⟨rfl, rfl⟩ := trodVars_none hV
 have lt0 : ∀ x ∈ p0, x.block < W.heap.size := by obtain ⟨m, hm⟩ := h0; exact DataW.trod_lt m _ _ _ hm
 obtain ⟨ab, nb, cb, rfl⟩ := okWide_slice Tryz.underlying63 (hval 0 63 v0 rfl rfl)
 obtain ⟨hl0, l0, hR0⟩ := ops_of h0
 have hl0' : nb < 9223372036854775808 := by unfold maxLen at hl0; omega
 obtain ⟨a1, rfl, rfl, rfl, w1⟩ := open_int Tryz.underlying31 (hval 1 31 v1 rfl rfl) h1
 have c1 := bounds_u16 w1
 obtain ⟨a1, rfl⟩ := Int.eq_ofNat_of_zero_le c1.1
 clear hA0 hval0
 refine (F.fold_walk alive_any hR0 hl0' (ops_cap h0) a1 (by omega)).mono fun e W' ⟨he, bel⟩ => ?_
 subst he
 exact ⟨_, rfl, _, _, _, [], _, [], hW', trodAll_mk1 (shut_bool Tryz.underlying4 _), trodAll_mk2 (Below.trod laidOut (by kernel_rfl) (of_decide_eq_true (by kernel_rfl)) h0 bel lt0) (shut_int Tryz.underlying31 w1), rfl, bel.frame _, fun h => by cases h⟩
end CartFold
theorem cartFold_proved : Rows.CartFoldSaid :=
 OpenClaim.holds_of_wide 6 Tryz.f6 rfl rfl rfl rfl rfl rfl rfl ⟨rfl, rfl, rfl, rfl, rfl⟩ rfl rfl rfl rfl rfl (by kernel_rfl) Tryz.func6 (by kernel_rfl)
  (of_decide_eq_true (by kernel_rfl)) (by unfold Func.isWrapper; first | (rw [if_pos (by decide +kernel)]; kernel_rfl) | (rw [if_neg (by decide +kernel)]; exact ⟨rfl, rfl⟩))
  (fun os started H enc _ => CartFold.lifted os started H enc)
#print axioms cartFold_proved
end Go.Proofs.YtnekpgmgnepdoaaGreat
