/- VintGets is proved: for every slice of bytes the program's Get answers what the document's answers: the number at its beginning, how many bytes it has, and the error. No condition. -/
import Derived.Test.YtpgeolngilepkaaRget
namespace Go.Proofs.Ytpgeolngilepkaa
namespace VintGets
open Go.ChangeShapes Go.WideShapes Go.ChangeAt Go.RowKit

set_option maxHeartbeats 400000 in
theorem core (a : Option Addr) (len cap x k er : Nat) (w : World) (hl : len ≤ 2000)
    (H1 : Hid (∀ W, Below w.heap.size w W → Calls Try.prog 14 #[.slice a len cap] W fun e w' => e = .returned (.tuple #[.int .u64 (x : Int), .int .i64 (k : Int), .int .i64 (er : Int)]) ∧ W = w'))
    (H2 : Hid (∀ W, Below w.heap.size w W → Calls Try.prog 15 #[.slice a len cap] W fun e w' => e = .returned (.tuple #[.int .u64 (x : Int), .int .i64 (k : Int), .int .i64 (er : Int)]) ∧ Below W.heap.size W w')) :
    Calls Try.prog 4 #[.slice a len cap] w fun e w' => e = .returned (.bool true) ∧ Below w.heap.size w w' := by
  go_enter Try.func4, Try.ntmps4
  go_wp2_with fail
  refine (alive_any w).mono ?_
  rintro e w1 ⟨rfl, hb⟩
  have k1 := Lib.hid (H1.out w1 hb)
  have k2 := Lib.hid (H2.out w1 hb)
  have HB := Lib.hid hb
  clear hb H1 H2
  go_wp2_with fail
  refine k1.out.mono ?_
  rintro e w' ⟨rfl, rfl⟩
  go_wp2_with fail
  refine k2.out.mono ?_
  rintro e w2 ⟨rfl, hb2⟩
  have HB2 := Lib.hid (HB.out.trans (hb2.mono HB.out.size))
  clear hb2 HB k1 k2
  go_wp2_with fail
  go_ret
  exact ⟨rfl, HB2.out⟩

set_option maxHeartbeats 400000 in
theorem core_big (a : Option Addr) (len cap : Nat) (w : World) (hr : 2000 < len) :
    Calls Try.prog 4 #[.slice a len cap] w fun e w' => e = .returned (.bool true) ∧ Below w.heap.size w w' := by
  go_enter Try.func4, Try.ntmps4
  go_wp2_with fail
  refine (alive_any w).mono ?_
  rintro e w0 ⟨rfl, hb0⟩
  have HB0 := Lib.hid hb0
  clear hb0
  go_wp2_with fail
  go_ret
  exact ⟨rfl, HB0.out⟩

theorem walk (a : Option Addr) (len cap : Nat) (bs : List Nat) (w : World) (hR : Row w a len bs) (hl : len ≤ maxLen) (hcap : len ≤ cap) :
    Calls Try.prog 4 #[.slice a len cap] w fun e w' => e = .returned (.bool true) ∧ Below w.heap.size w w' := by
  by_cases hr : 2000 < len
  · exact core_big a len cap w hr
  · exact core a len cap (Vint.G 0 0 bs).1 (Vint.G 0 0 bs).2.1 (Vint.G 0 0 bs).2.2 w (by omega)
      (Lib.hid fun W hb => get_any a len cap bs _ _ _ W (hR.below hb) hl rfl)
      (Lib.hid fun W hb => rget_any a len cap bs _ _ _ W (hR.below hb) hl hcap rfl)

set_option maxRecDepth 100000 in
theorem lifted (os : Os) (started : os.Started) (H : Type) (enc : TypeId × Value → H) :
    ReturnsInHanded {} Try.checked os 4 .any (Rows.vintGetsSpec.pre6 enc Try.prog Try.f4 Rows.vintGetsRow.domain false) (Rows.vintGetsSpec.post enc Try.prog Try.f4 false true false false) := by
  refine returnsInHanded_of_change (C := Try.checked) own started (by kernel_rfl) Try.func4
    (ChangeSpec.witness6 (enc := enc) (C := Try.checked) false ⟨#[], #[.slice none 0 0], []⟩ 8 (by kernel_rfl) (by kernel_rfl) (by kernel_rfl) (by kernel_rfl)) ?_
  intro W base args ds gs before hval0 hW hcnd _
  have hval : ∀ (j : Nat) t v, Try.f4.params[j]? = some t → args[j]? = some v → Value.okWide Try.prog W .any base t v := hval0
  have hW' := hW
  obtain ⟨p, q, hA0, hV, rfl, hfz, hnd⟩ := hW
  have hA : DataW.TrodAll enc Try.prog W 0 (fun _ => true) true Try.f4.params.toList args.toList ds p := hA0
  rw [Try.params4] at hA hval
  obtain ⟨v0, d0, rfl, rfl, h0⟩ := trodAll_one hA
  obtain ⟨rfl, rfl⟩ := trodVars_none hV
  obtain ⟨a, len, cap, rfl⟩ := okWide_slice Try.underlying24 (hval 0 24 v0 rfl rfl)
  have lt0 : ∀ x ∈ p, x.block < W.heap.size := by obtain ⟨m, hm⟩ := h0; exact DataW.trod_lt m _ _ _ hm
  obtain ⟨hl, hz, bs, hR⟩ := row_of h0
  have hcap : len ≤ cap := by
    rcases hz with ⟨_, h1, h2⟩ | ⟨x, _, h1, _⟩
    · omega
    · exact h1
  clear hA0 hval0
  refine (walk a len cap bs W hR hl hcap).mono fun e W' ⟨he, bel⟩ => ?_
  subst he
  exact ⟨_, rfl, _, _, _, [], _, [], hW', trodAll_mk1 (shut_bool Try.underlying4 _), trodAll_mk1 (Below.trod laidOut (by kernel_rfl) (of_decide_eq_true (by kernel_rfl)) h0 bel lt0), rfl, bel.frame _, fun h => by cases h⟩
end VintGets

theorem vintGets_proved : Rows.VintGetsSaid :=
  OpenClaim.holds_of_wide 4 Try.f4 rfl rfl rfl rfl rfl rfl rfl ⟨rfl, rfl, rfl, rfl, rfl⟩ rfl rfl rfl rfl rfl (by kernel_rfl) Try.func4 (by kernel_rfl)
    (of_decide_eq_true (by kernel_rfl)) (by unfold Func.isWrapper; first | (rw [if_pos (by decide +kernel)]; kernel_rfl) | (rw [if_neg (by decide +kernel)]; exact ⟨rfl, rfl⟩))
    (fun os started H enc _ => VintGets.lifted os started H enc)
#print axioms vintGets_proved
end Go.Proofs.Ytpgeolngilepkaa
