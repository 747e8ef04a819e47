/- Walk of Get, the document's: it answers what the bytes begin with, as the program's does. -/
import Derived.Test.YtcgbkfnjohbglaaDoorApp
import Derived.Deep.RegionWith
namespace Go.Proofs.YtcgbkfnjohbglaaDoor
open Go.RowKit

theorem num_place (y c sc : Nat) (h : y + c % 128 * sc < 18446744073709551616) : IntKind.u64.wrap ((y : Int) + IntKind.u64.wrap ((c : Int) % 128 * (sc : Int))) = ((y + c % 128 * sc : Nat) : Int) := by
  have e : (c : Int) % 128 * (sc : Int) = ((c % 128 * sc : Nat) : Int) := by
    rw [Int.natCast_mul]
    rfl
  rw [e]
  generalize c % 128 * sc = p at h
  rw [IntKind.wrap_u64, IntKind.wrap_u64]
  omega

theorem map_byte : ∀ (l m : List Nat), (∀ c ∈ l, c < 256) → (∀ c ∈ m, c < 256) → l.map UInt8.ofNat = m.map UInt8.ofNat → l = m
  | [], [], _, _, _ => rfl
  | [], _ :: _, _, _, h => by simp at h
  | _ :: _, [], _, _, h => by simp at h
  | a :: l, b :: m, h1, h2, h => by
    simp only [List.map_cons, List.cons.injEq] at h
    have e := congrArg UInt8.toNat h.1
    have ha := h1 a List.mem_cons_self
    have hb := h2 b List.mem_cons_self
    rw [UInt8.toNat_ofNat', UInt8.toNat_ofNat'] at e
    have : a = b := by omega
    rw [this, map_byte l m (fun c hc => h1 c (List.mem_cons_of_mem _ hc)) (fun c hc => h2 c (List.mem_cons_of_mem _ hc)) h.2]

theorem strOf_inj {l m : List Nat} (h1 : ∀ c ∈ l, c < 256) (h2 : ∀ c ∈ m, c < 256) (h : strOf l = strOf m) : l = m := by
  apply map_byte l m h1 h2
  have e := congrArg (fun s : ByteArray => s.data.toList) h
  simp only [strOf, strOfNums_data, List.map_map] at e
  exact e

/-- What the document's Put leaves, and what strings its bytes, and those of a slice that was there, make. -/
def Pair (L : Nat) (a0 : Addr) (l0 c0 : Nat) (s t : ByteArray) (w : World) (e : Ending) (w' : World) : Prop :=
  ∃ g cap, e = .returned (.slice (some ⟨g, 0, none⟩) L cap) ∧ (convert 48 9 (.slice (some ⟨g, 0, none⟩) L cap)).run Tryd.prog w' = .ok (.string s) w' ∧ (convert 48 9 (.slice (some a0) l0 c0)).run Tryd.prog w' = .ok (.string t) w' ∧ Hid (Below w.heap.size w w')

theorem rput_pair (n b off l0 c0 : Nat) (l : List Nat) (w : World) (h : n < 18446744073709551616) (hR : Row w (some ⟨b, off, none⟩) l0 l) :
    Calls Tryd.prog 54 #[.int .u64 (n : Int)] w (Pair (Vint.enc n).length ⟨b, off, none⟩ l0 c0 (strOf (Vint.enc n)) (strOf l) w) := by
  refine (rput_any n w h).mono ?_
  rintro e w' ⟨g, cap, he, hown, hb⟩
  exact ⟨g, cap, he, conv_row (row_own hown (Vint.enc_lt n)), conv_row (hR.below hb), Lib.hid hb⟩

set_option maxHeartbeats 1000000 in
set_option maxRecDepth 100000 in
theorem rget_core (a : Option Addr) (len cap : Nat) (bs : List Nat) (x k er : Nat) (w : World) (hR : Hid (Row w a len bs)) (hl : len ≤ maxLen) (hcap : len ≤ cap) (hG : Hid (Vint.G 0 0 bs = (x, k, er))) :
    Calls Tryd.prog 49 #[.slice a len cap] w fun e w' => e = .returned (.tuple #[.int .u64 (x : Int), .int .i64 (k : Int), .int .i64 (er : Int)]) ∧ Below w.heap.size w w' := by
  unfold maxLen at hl
  go_enter Tryd.func49, Tryd.ntmps49
  go_wp2_with fail
  go_loop [5, 6, 7] (fun v s i => ∃ j y sc : Nat, j ≤ 9 ∧ j ≤ len ∧ v = .int .u64 (y : Int) ∧ s = .int .u64 (sc : Int) ∧ i = .int .i64 (j : Int) ∧ Hid (sc = 128 ^ j) ∧ Hid (y = Vint.val (bs.take j)) ∧ Hid (∀ c ∈ bs.take j, 128 ≤ c) ∧ Hid (Vint.G j y (bs.drop j) = (x, k, er))) (fun _ _ i => 10 - (intOf i).toNat)
  case atStart => exact ⟨0, 0, 1, by omega, by omega, rfl, rfl, rfl, Lib.hid rfl, Lib.hid (by simp [Vint.val]), Lib.hid (by simp), hG⟩
  case round =>
    obtain ⟨j, y, sc, hj, hjl, rfl, rfl, rfl, hsc, hy, hbig, HG⟩ := hrel
    have ht10 : (j : Int) < 10 := by omega
    by_cases hlt : j < len
    · obtain ⟨b, off, ha, hcs⟩ := hR.out.cells.resolve_left (by omega)
      have hc := hcs j hlt
      have hsm : bs.getD j 0 < 256 := small_at hR.out hlt
      have hd : bs.drop j = bs.getD j 0 :: bs.drop (j + 1) := by
        have hj' : j < bs.length := by rw [hR.out.size]; exact hlt
        rw [getD_at hj', List.drop_eq_getElem_cons hj']
      have HD := HG.out
      rw [hd] at HD
      have HG2 := Lib.hid HD
      subst ha
      clear hcs HD hd HG
      have hne : ((j : Int) == (len : Int)) = false := by rw [beq_eq_false_iff_ne]; omega
      have HCD : Hid (bs.getD j 0 = bs.getD j 0) := Lib.hid rfl
      generalize hcd : bs.getD j 0 = c at hc hsm HG2
      clear HCD
      have HCD := Lib.hid hcd
      clear hcd
      have HTK : Hid (bs.take (j + 1) = bs.take j ++ [c]) := Lib.hid (by
        have hj' : j < bs.length := by rw [hR.out.size]; exact hlt
        rw [List.take_succ_eq_append_getElem hj', ← getD_at hj', HCD.out])
      have HLJ : Hid ((bs.take j).length = j) := Lib.hid (by rw [List.length_take, hR.out.size]; omega)
      have HYL : Hid (y < sc) := Lib.hid (by
        have := Vint.val_lt (bs.take j)
        rw [HLJ.out, ← hy.out, ← hsc.out] at this
        exact this)
      by_cases hlow : c < 128
      · by_cases h115 : j = 9 ∧ 1 < c
        · obtain ⟨h9, h1c⟩ := h115
          have hn9 : ((j : Int) == 9) = true := by rw [beq_iff_eq]; omega
          have HE : Hid (x = 0 ∧ k = 0 ∧ er = 5) := Lib.hid (by
            have h := HG2.out
            subst h9
            rw [Vint.G_nine, if_neg (by omega)] at h
            simp only [Prod.mk.injEq] at h
            omega)
          clear h9 HG2
          go_wp2_with fail
          go_ret3
          obtain ⟨r1, r2, r3⟩ := HE.out
          exact ⟨ret_three (by omega) (by omega) (by omega), Below.refl _ _⟩
        · have hroom : y + c % 128 * sc < 18446744073709551616 := by
            have h1 := HYL.out
            have h2 := hsc.out
            by_cases h9 : j = 9
            · subst h9
              rw [Vint.pow_nine] at h2
              have : c = 0 ∨ c = 1 := by omega
              rcases this with rfl | rfl <;> omega
            · have hb := Vint.pow_bound j (by omega)
              rw [← h2] at hb
              have h3 : c % 128 * sc ≤ 127 * sc := Nat.mul_le_mul_right _ (by omega)
              omega
          have hnum := num_place y c sc hroom
          have HV : Hid (y + c % 128 * sc = Vint.val (bs.take j ++ [c])) := Lib.hid (by
            rw [Vint.val_append, HLJ.out, ← hy.out, ← hsc.out])
          have hRk : Row w.drew (some ⟨b, off, none⟩) (j + 1) (bs.take (j + 1)) := (hR.out.below (Below.refl _ _).drew).upto (by omega)
          have hcv := conv_row (cap := cap) hRk
          have hPC := rput_pair (y + c % 128 * sc) b off (j + 1) cap _ w.drew hroom hRk
          have i1 : IntKind.i64.wrap ((j : Int) + 1) = (j : Int) + 1 := by rw [IntKind.wrap_i64]; omega
          have i2 : 0 ≤ (j : Int) + 1 := by omega
          have i3 : ((j : Int) + 1).toNat = j + 1 := by omega
          have i4 : (j : Int) + 1 ≤ (cap : Int) := by omega
          have hpre : (((j : Int) == 9) = true ∧ c ≤ 1) ∨ ((j : Int) == 9) = false := by
            by_cases h9 : j = 9
            · exact .inl ⟨by rw [beq_iff_eq]; omega, by omega⟩
            · exact .inr (by rw [beq_eq_false_iff_ne]; omega)
          clear h115 hroom hRk
          by_cases hcan : c ≠ 0 ∨ j = 0
          · have HE : Hid (x = y + c % 128 * sc ∧ k = j + 1 ∧ er = 0) := Lib.hid (by
              have h := HG2.out
              have h2 := hsc.out
              by_cases h9 : j = 9
              · have h1 : c = 1 := by
                  rcases hpre with ⟨_, h⟩ | h
                  · omega
                  · rw [beq_eq_false_iff_ne] at h; omega
                subst h9 h1
                rw [Vint.G_nine, if_pos rfl] at h
                simp only [Prod.mk.injEq] at h
                rw [h2, Vint.pow_nine]
                omega
              · rw [Vint.G_last (by omega) hcan hlow] at h
                simp only [Prod.mk.injEq] at h
                rw [Nat.mod_eq_of_lt hlow, h2]
                exact ⟨h.1.symm, h.2.1.symm, h.2.2.symm⟩)
            have hen : Vint.enc (y + c % 128 * sc) = bs.take (j + 1) := by
              rw [HV.out, HTK.out]
              refine (Vint.canon (bs.take j) c (fun d hd => ⟨hbig.out d hd, hR.out.small d (List.mem_of_mem_take hd)⟩) hlow ?_).1
              rcases hcan with h | h
              · exact .inl h
              · right; subst h; simp
            rw [hen] at hPC
            have HPC := Lib.hid hPC
            generalize strOf (bs.take (j + 1)) = s at hcv HPC
            generalize (bs.take (j + 1)).length = L at HPC
            generalize y + c % 128 * sc = n1 at hnum HPC HE
            clear hPC hen HV HG2 hcan HTK HLJ HYL
            rcases hpre with ⟨p1, p2⟩ | p1
            · go_wp2_with fail
              go_region_with (first
                | (go_at_call 54; refine HPC.out.mono ?_; rintro e w2 ⟨g, cp, rfl, q1, q2, HB2⟩))
              all_goals go_wp2_with fail
              all_goals go_ret3
              all_goals obtain ⟨r1, r2, r3⟩ := HE.out
              all_goals exact ⟨ret_three (by rw [r1]) (by rw [r2]; rfl) (by rw [r3]; rfl), ((Below.refl _ _).drew.trans HB2.out)⟩
            · go_wp2_with fail
              go_region_with (first
                | (go_at_call 54; refine HPC.out.mono ?_; rintro e w2 ⟨g, cp, rfl, q1, q2, HB2⟩))
              all_goals go_wp2_with fail
              all_goals go_ret3
              all_goals obtain ⟨r1, r2, r3⟩ := HE.out
              all_goals exact ⟨ret_three (by rw [r1]) (by rw [r2]; rfl) (by rw [r3]; rfl), ((Below.refl _ _).drew.trans HB2.out)⟩
          · obtain ⟨h0, hj0⟩ : c = 0 ∧ j ≠ 0 := by omega
            have HE : Hid (x = 0 ∧ k = 0 ∧ er = 5) := Lib.hid (by
              have h := HG2.out
              by_cases h9 : j = 9
              · subst h9
                rw [Vint.G_nine, if_neg (by omega)] at h
                simp only [Prod.mk.injEq] at h
                omega
              · rw [Vint.G_form (by omega) h0 hj0] at h
                simp only [Prod.mk.injEq] at h
                omega)
            have hen : strOf (Vint.enc (y + c % 128 * sc)) ≠ strOf (bs.take (j + 1)) := by
              intro he
              have he2 := strOf_inj (Vint.enc_lt _) (fun d hd => hR.out.small d (List.mem_of_mem_take hd)) he
              rw [HV.out, HTK.out, h0] at he2
              refine Vint.uncanon (bs.take j) (fun hnil => ?_) he2
              have := HLJ.out
              rw [hnil] at this
              simp at this
              omega
            have HPC := Lib.hid hPC
            generalize strOf (bs.take (j + 1)) = t at hcv HPC hen
            generalize strOf (Vint.enc (y + c % 128 * sc)) = s at HPC hen
            generalize (Vint.enc (y + c % 128 * sc)).length = L at HPC
            generalize y + c % 128 * sc = n1 at hnum HPC
            have hts : (s.toList == t.toList) = false := by
              rw [beq_eq_false_iff_ne]
              intro he
              rw [ByteArray.toList_eq, ByteArray.toList_eq] at he
              exact hen (ByteArray.ext (Array.toList_inj.mp he))
            clear hPC hen HV HG2 hcan HTK HLJ HYL h0 hj0
            rcases hpre with ⟨p1, p2⟩ | p1
            · go_wp2_with fail
              go_region_with (first
                | (go_at_call 54; refine HPC.out.mono ?_; rintro e w2 ⟨g, cp, rfl, q1, q2, HB2⟩))
              all_goals go_wp2_with fail
              all_goals go_ret3
              all_goals obtain ⟨r1, r2, r3⟩ := HE.out
              all_goals exact ⟨ret_three (by rw [r1]; rfl) (by rw [r2]; rfl) (by rw [r3]; rfl), ((Below.refl _ _).drew.trans HB2.out)⟩
            · go_wp2_with fail
              go_region_with (first
                | (go_at_call 54; refine HPC.out.mono ?_; rintro e w2 ⟨g, cp, rfl, q1, q2, HB2⟩))
              all_goals go_wp2_with fail
              all_goals go_ret3
              all_goals obtain ⟨r1, r2, r3⟩ := HE.out
              all_goals exact ⟨ret_three (by rw [r1]; rfl) (by rw [r2]; rfl) (by rw [r3]; rfl), ((Below.refl _ _).drew.trans HB2.out)⟩
      · by_cases h9 : j = 9
        · have hn9 : ((j : Int) == 9) = true := by rw [beq_iff_eq]; omega
          have HE : Hid (x = 0 ∧ k = 0 ∧ er = 5) := Lib.hid (by
            have h := HG2.out
            subst h9
            rw [Vint.G_nine, if_neg (by omega)] at h
            simp only [Prod.mk.injEq] at h
            omega)
          clear h9 HG2
          go_wp2_with fail
          go_ret3
          obtain ⟨r1, r2, r3⟩ := HE.out
          exact ⟨ret_three (by omega) (by omega) (by omega), Below.refl _ _⟩
        · have hn9 : ((j : Int) == 9) = false := by rw [beq_eq_false_iff_ne]; omega
          have hb := Vint.pow_bound j (by omega)
          rw [← hsc.out] at hb
          have h3 : c % 128 * sc ≤ 127 * sc := Nat.mul_le_mul_right _ (by omega)
          have hyl := HYL.out
          have hroom : y + c % 128 * sc < 18446744073709551616 := by omega
          have hnum := num_place y c sc hroom
          have HSC : Hid (IntKind.u64.wrap ((sc : Int) * 128) = ((sc * 128 : Nat) : Int)) := Lib.hid (by rw [IntKind.wrap_u64]; omega)
          have HV : Hid (y + c % 128 * sc = Vint.val (bs.take (j + 1))) := Lib.hid (by
            rw [HTK.out, Vint.val_append, HLJ.out, ← hy.out, ← hsc.out])
          have HN : Hid (Vint.G (j + 1) (y + c % 128 * sc) (List.drop (j + 1) bs) = (x, k, er)) := Lib.hid (by
            have h := HG2.out
            rw [Vint.G_more (by omega) (by omega)] at h
            rw [show c % 128 = c - 128 by omega, hsc.out]
            exact h)
          have HBG : Hid (∀ d ∈ bs.take (j + 1), 128 ≤ d) := Lib.hid (by
            intro d hd
            rw [HTK.out] at hd
            rcases List.mem_append.1 hd with h | h
            · exact hbig.out d h
            · simp at h; omega)
          clear hb h3 hyl hroom HG2 HTK HLJ HYL
          generalize y + c % 128 * sc = n1 at hnum HV HN
          go_wp2_with fail
          go_round
          case rel => exact ⟨j + 1, n1, sc * 128, by omega, by omega, rfl, congrArg _ HSC.out, by go_num, Lib.hid (by rw [hsc.out, Nat.pow_succ]), HV, HBG, HN⟩
          case measure => simp [intOf]; omega
    · have hne : ((j : Int) == (len : Int)) = true := by rw [beq_iff_eq]; omega
      have HE : Hid (x = 0 ∧ k = 0 ∧ er = 4) := Lib.hid (by
        have h := HG.out
        rw [List.drop_eq_nil_of_le (by rw [hR.out.size]; omega), Vint.G_nil] at h
        simp only [Prod.mk.injEq] at h
        omega)
      clear HG
      go_wp2_with fail
      go_ret3
      obtain ⟨r1, r2, r3⟩ := HE.out
      exact ⟨ret_three (by omega) (by omega) (by omega), Below.refl _ _⟩

theorem rget_any (a : Option Addr) (len cap : Nat) (bs : List Nat) (x k er : Nat) (w : World) (hR : Row w a len bs) (hl : len ≤ maxLen) (hcap : len ≤ cap) (hG : Vint.G 0 0 bs = (x, k, er)) :
    Calls Tryd.prog 49 #[.slice a len cap] w fun e w' => e = .returned (.tuple #[.int .u64 (x : Int), .int .i64 (k : Int), .int .i64 (er : Int)]) ∧ Below w.heap.size w w' :=
  rget_core a len cap bs x k er w (Lib.hid hR) hl hcap (Lib.hid hG)
end Go.Proofs.YtcgbkfnjohbglaaDoor
