/- PackSizes is proved: for every list of fields what the first twenty lay down has as many bytes as its fields have, and stands behind what was there. No condition. -/
import Derived.Test.YtoogcejfncechaaActs
namespace Go.Proofs.Ytoogcejfncechaa
namespace PackSizes
open Go.ChangeShapes Go.WideShapes Go.ChangeAt Go.RowKit

theorem str_append (x y : List Nat) : strOf (x ++ y) = strOf x ++ strOf y := by
  apply ByteArray.ext
  rw [ByteArray.data_append]
  apply Array.toList_inj.1
  simp [strOf, strOfNums_data]

theorem str_size (x : List Nat) : (strOf x).size = x.length := by
  have : (strOf x).data.toList.length = x.length := by simp [strOf, strOfNums_data]
  simpa using this

set_option maxHeartbeats 1000000 in
set_option maxRecDepth 100000 in
theorem core (a : Option Addr) (len cap K : Nat) (xs : Nat → ActV) (w : World) (hK1 : K ≤ len) (hK2 : K ≤ 20) (hK3 : K = len ∨ K = 20) (hl : len ≤ 2 ^ 63 - 1) (HA : Hid (Acts w a len xs)) :
    Calls Try.prog 7 #[.slice a len cap] w fun e w' => e = .returned (.bool true) ∧ Below w.heap.size w w' := by
  go_enter Try.func7, Try.ntmps7
  go_wp2_with fail
  refine (alive_any w).mono ?_
  rintro e w0 ⟨rfl, hb0⟩
  have HB0 := Lib.hid hb0
  clear hb0
  go_wp2_with fail
  refine (new_any w0).mono ?_
  rintro e w1 ⟨rfl, hw1, hb1⟩
  have HW1 := Lib.hid hw1
  have hp : w.heap.size ≤ w0.heap.size := HB0.out.size
  have HB1 := Lib.hid (HB0.out.trans (hb1.mono HB0.out.size))
  clear hw1 hb1 HB0
  generalize w0.heap.size = p at HW1 hp
  go_wp2_with fail
  go_loopw [4, 5] (fun s i wr => ∃ (k n1 c1 : Nat) (a1 : Option Addr) (bs : List Nat), k ≤ K ∧ i = .int .i64 (k : Int) ∧ s = .string (strOf bs) ∧ bs.length ≤ 3010 * k ∧ Hid (Wr wr p 0 a1 n1 c1 bs) ∧ Hid (Below w.heap.size w wr)) (fun _ i _ => K - (intOf i).toNat)
  case atStart => exact ⟨0, 0, 0, none, [], by omega, rfl, by rw [str_nil]; rfl, by simp, HW1, HB1⟩
  case round =>
    obtain ⟨k, n1, c1, a1, bs, hk, rfl, rfl, hbs, HW, HB⟩ := hrel
    by_cases hlt : k < K
    · obtain ⟨b, off, ha, hcs⟩ := (HA.out.below HB.out).cells.resolve_left (by omega)
      obtain ⟨h1, h2, h3⟩ := hcs k (by omega)
      have HX := Lib.hid ((HA.out.below HB.out).ok k (by omega))
      have HX0 := Lib.hid (HA.out.ok k (by omega))
      clear hcs
      subst ha
      generalize xs k = x at h1 h2 h3 HX HX0
      by_cases hbig : 3000 < x.m
      · go_wp2_with fail
        go_roundw
        case rel => exact ⟨k + 1, n1, c1, a1, bs, by omega, by go_num, rfl, by omega, HW, HB⟩
        case measure => simp [intOf]; omega
      · have hx3 : (x.m : Int) ≤ 3000 := by omega
        have HN : Hid (∀ ad, x.b = some ad → x.m ≠ 0 → ¬ Wat p a1 ad.block) := Lib.hid (fun ad ha h0 hk => by
          have g1 := HX0.out.row.lt ad ha h0
          have g2 := (HW.out.at_lt _ hk).1
          omega)
        have HD := Lib.hid (do_any p 0 a1 n1 c1 bs x wr HW.out HX.out (by omega) HN.out)
        have hL := bytes_len HX.out (by omega)
        have HS := Lib.hid (bytes_small HX.out)
        generalize x.bytes = l at HD hL HS
        have e1 : layE 0 bs.length l.length = 0 := by unfold layE; rw [if_pos rfl, if_neg (by omega)]
        have e2 : layB 0 bs l = bs ++ l := by unfold layB; rw [if_pos ⟨rfl, by omega⟩]
        unfold Did at HD
        rw [e1, e2] at HD
        clear e1 e2
        go_wp2_with fail
        refine HD.out.mono ?_
        rintro e w2 ⟨a2, n2, c2, g, c3, rfl, hw2, hk2, hl2, ho2, _⟩
        have HB2 := Lib.hid (HB.out.trans (hk2.below HB.out.size (fun i hi => Nat.le_trans hp (HW.out.at_lt i hi).1)))
        have HW2 := Lib.hid hw2
        have HO2 := Lib.hid ho2
        clear hw2 hk2 hl2 ho2 HD
        go_wp2_with fail
        refine (al_all p (bs ++ l) w2 ⟨a2, n2, c2, HW2.out⟩).mono ?_
        rintro e w3 ⟨a3, c4, rfl, ho3, hb3⟩
        have HB3 := Lib.hid (HB2.out.trans (hb3.mono HB2.out.size))
        have HW3 := Lib.hid (HW2.out.below hb3)
        have q1 : (convert 26 9 (.slice a3 (bs.length + l.length) c4)).run Try.prog w3 = .ok (.string (strOf (bs ++ l))) w3 := by rw [← List.length_append]; exact conv_any (ho3.row HW2.out.small)
        have q2 : (convert 26 9 (.slice g l.length c3)).run Try.prog w3 = .ok (.string (strOf l)) w3 := conv_any ((HO2.out.row HS.out).below hb3)
        have q3 : ((strOf (bs ++ l)).toList == (strOf bs ++ strOf l).toList) = true := by rw [str_append, beq_self_eq_true]
        have q4 : (strOf bs).size + (strOf l).size ≤ 9223372036854775807 := by rw [str_size, str_size]; omega
        clear ho3 hb3 HO2 HB2 HW2
        go_wp2_with fail
        go_roundw
        case rel => exact ⟨k + 1, n2, c2, a2, bs ++ l, by omega, by go_num, rfl, by rw [List.length_append]; omega, HW3, HB3⟩
        case measure => simp [intOf]; omega
    · by_cases hkl : k < len
      · have hk20 : decide ((k : Int) < 20) = false := by simp; omega
        go_wp2_with fail
        go_ret
        exact ⟨rfl, HB.out⟩
      · go_wp2_with fail
        go_ret
        exact ⟨rfl, HB.out⟩

theorem walk (a : Option Addr) (len cap : Nat) (xs : Nat → ActV) (w : World) (hl : len ≤ maxLen) (hA : Acts w a len xs) :
    Calls Try.prog 7 #[.slice a len cap] w fun e w' => e = .returned (.bool true) ∧ Below w.heap.size w w' := by
  unfold maxLen at hl
  by_cases h : len ≤ 20
  · exact core a len cap len xs w (Nat.le_refl _) h (.inl rfl) (by omega) (Lib.hid hA)
  · exact core a len cap 20 xs w (by omega) (Nat.le_refl _) (.inr rfl) (by omega) (Lib.hid hA)

set_option maxRecDepth 100000 in
theorem lifted (os : Os) (started : os.Started) (H : Type) (enc : TypeId × Value → H) :
    ReturnsInHanded {} Try.checked os 7 .any (Rows.packSizesSpec.pre6 enc Try.prog Try.f7 Rows.packSizesRow.domain false) (Rows.packSizesSpec.post enc Try.prog Try.f7 false true false false) := by
  refine returnsInHanded_of_change (C := Try.checked) own started (by kernel_rfl) Try.func7
    (ChangeSpec.witness6 (enc := enc) (C := Try.checked) false ⟨#[], #[.slice none 0 0], []⟩ 8 (by kernel_rfl) (by kernel_rfl) (by kernel_rfl) (by kernel_rfl)) ?_
  intro W base args ds gs before hval0 hW hcnd _
  have hval : ∀ (j : Nat) t v, Try.f7.params[j]? = some t → args[j]? = some v → Value.okWide Try.prog W .any base t v := hval0
  have hW' := hW
  obtain ⟨p, q, hA0, hV, rfl, hfz, hnd⟩ := hW
  have hA : DataW.TrodAll enc Try.prog W 0 (fun _ => true) true Try.f7.params.toList args.toList ds p := hA0
  rw [Try.params7] at hA hval
  obtain ⟨v0, d0, rfl, rfl, h0⟩ := trodAll_one hA
  obtain ⟨rfl, rfl⟩ := trodVars_none hV
  obtain ⟨a, len, cap, rfl⟩ := okWide_slice Try.underlying22 (hval 0 22 v0 rfl rfl)
  have lt0 : ∀ x ∈ p, x.block < W.heap.size := by obtain ⟨m, hm⟩ := h0; exact DataW.trod_lt m _ _ _ hm
  obtain ⟨hl, xs, hX⟩ := acts_of h0
  clear hA0 hval0
  refine (walk a len cap xs W hl hX).mono fun e W' ⟨he, bel⟩ => ?_
  subst he
  exact ⟨_, rfl, _, _, _, [], _, [], hW', trodAll_mk1 (shut_bool Try.underlying4 _), trodAll_mk1 (Below.trod laidOut (by kernel_rfl) (of_decide_eq_true (by kernel_rfl)) h0 bel lt0), rfl, bel.frame _, fun h => by cases h⟩
end PackSizes

theorem packSizes_proved : Rows.PackSizesSaid :=
  OpenClaim.holds_of_wide 7 Try.f7 rfl rfl rfl rfl rfl rfl rfl ⟨rfl, rfl, rfl, rfl, rfl⟩ rfl rfl rfl rfl rfl (by kernel_rfl) Try.func7 (by kernel_rfl)
    (of_decide_eq_true (by kernel_rfl)) (by unfold Func.isWrapper; first | (rw [if_pos (by decide +kernel)]; kernel_rfl) | (rw [if_neg (by decide +kernel)]; exact ⟨rfl, rfl⟩))
    (fun os started H enc _ => PackSizes.lifted os started H enc)
#print axioms packSizes_proved
end Go.Proofs.Ytoogcejfncechaa
