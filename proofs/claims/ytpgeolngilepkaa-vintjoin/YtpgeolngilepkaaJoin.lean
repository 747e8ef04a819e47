/- VintJoin is proved: for every list of numbers the bytes of its first hundred, one behind the other, are found one by one, and nothing is left. No condition. -/
import Derived.Test.YtpgeolngilepkaaApp
namespace Go.Proofs.Ytpgeolngilepkaa
namespace VintJoin
open Go.ChangeShapes Go.WideShapes Go.ChangeAt Go.RowKit

/-- The first 'len' cells behind 'a' hold the numbers 'ls'. -/
structure Nums (w : World) (a : Option Addr) (len : Nat) (ls : List Nat) : Prop where
  size : ls.length = len
  small : ∀ c ∈ ls, c < 18446744073709551616
  cells : len = 0 ∨ ∃ b off, a = some ⟨b, off, none⟩ ∧ ∀ i, i < len → w.cell? ⟨b, off + i, none⟩ = some (.int .u64 ((ls.getD i 0 : Nat) : Int))

theorem Nums.below {w w' : World} {a : Option Addr} {len : Nat} {ls : List Nat} (h : Nums w a len ls) (hb : Below w.heap.size w w') : Nums w' a len ls := by
  refine ⟨h.size, h.small, ?_⟩
  rcases h.cells with h0 | ⟨b, off, ha, hc⟩
  · exact .inl h0
  · exact .inr ⟨b, off, ha, fun i hi => by rw [hb.cell (p := ⟨b, off + i, none⟩) (block_lt_of_cell (hc i hi))]; exact hc i hi⟩

theorem nums_at {w : World} {a : Option Addr} {len k : Nat} {ls : List Nat} (h : Nums w a len ls) (hk : k < len) : ls.getD k 0 < 18446744073709551616 := by
  have hk' : k < ls.length := by have := h.size; omega
  rw [getD_at hk']
  exact h.small _ (List.getElem_mem hk')

/-- A slice of numbers that can be read. -/
theorem nums_of {H : Type} {enc : TypeId × Value → H} {W : World} {a : Option Addr} {len cap : Nat} {d : DataW H} {p : List MemPlace}
    (h : DataW.Trod enc Try.prog W 0 (fun _ => true) true 39 (.slice a len cap) d p) : len ≤ maxLen ∧ ∃ ls, Nums W a len ls := by
  obtain ⟨fuel, hf⟩ := h
  rcases open_ints Try.underlying39 Try.underlying22 cells22 hf with ⟨hcs, _⟩ | ⟨x, l, c, zs, hcs, _, hl, hm, hz, _, hcell, hwz⟩
  · simp [Value.cells] at hcs
    obtain ⟨rfl, rfl, rfl⟩ := hcs
    exact ⟨Nat.zero_le _, [], rfl, by simp, .inl rfl⟩
  · simp [Value.cells] at hcs
    obtain ⟨rfl, rfl, rfl⟩ := hcs
    refine ⟨Nat.le_trans hl hm, (zs.take len).map Int.toNat, ?_, ?_, ?_⟩
    · simp at hz; simp; omega
    · intro c hc
      obtain ⟨z, hz1, rfl⟩ := List.mem_map.1 hc
      have := bounds_u64 (hwz z (List.mem_of_mem_take hz1))
      omega
    · by_cases h0 : len = 0
      · exact .inl h0
      · right
        obtain ⟨b, off, spot⟩ := x
        simp at hz
        have hc0 := hcell 0 (by omega)
        have hspot : spot = none := by simpa [Addr.add] using World.cell?_spot hc0
        subst hspot
        refine ⟨b, off, rfl, fun i hi => ?_⟩
        have hi' : i < zs.length := by omega
        have hc := hcell i hi'
        have hb := bounds_u64 (hwz zs[i] (List.getElem_mem hi'))
        have e1 : zs.getD i 0 = zs[i] := by simp [List.getD, hi']
        have e2 : ((zs.take len).map Int.toNat).getD i 0 = zs[i].toNat := by simp [List.getD, hi, hi']
        rw [e1] at hc
        rw [e2, show ((zs[i].toNat : Nat) : Int) = zs[i] by omega]
        by_cases hz0 : i = 0
        · subst hz0; simpa [Addr.add] using hc
        · simpa [Addr.add, hz0] using hc

theorem own_below {w w' : World} {B n : Nat} {v : Value} {xs : List Value} (h : w.ownsRow B 5 1 v n xs) (hb : Below w.heap.size w w') : w'.ownsRow B 5 1 v n xs := by
  refine ⟨h.1, ?_⟩
  rcases h.2 with h0 | ⟨g, cap, cur, hv, hB, hg, rest⟩
  · exact .inl h0
  · exact .inr ⟨g, cap, cur, hv, hB, by rw [hb.block g (Array.getElem?_eq_some_iff.1 hg).1]; exact hg, rest⟩

/-- The bytes of numbers, one behind the other. -/
def flat (l : List Nat) : List Nat := l.flatMap Vint.enc

theorem flat_nil : flat [] = [] := rfl
theorem flat_cons (x : Nat) (l : List Nat) : flat (x :: l) = Vint.enc x ++ flat l := rfl
theorem flat_snoc (l : List Nat) (x : Nat) : flat (l ++ [x]) = flat l ++ Vint.enc x := by simp [flat]
theorem flat_small (l : List Nat) : ∀ c ∈ flat l, c < 256 := by
  intro c hc
  obtain ⟨x, _, hx⟩ := List.mem_flatMap.1 hc
  exact Vint.enc_lt x c hx
theorem take_snoc {l : List Nat} {k : Nat} (h : k < l.length) : l.take (k + 1) = l.take k ++ [l.getD k 0] := by
  rw [List.take_succ_eq_append_getElem h, getD_at h]

/-- What is behind the first bytes of a row. -/
theorem Row.behind {w : World} {b off len k : Nat} {l : List Nat} {a' : Option Addr} (h : Row w (some ⟨b, off, none⟩) len l) (hk : k ≤ len) (ha : k = len ∨ a' = some ⟨b, off + k, none⟩) : Row w a' (len - k) (l.drop k) := by
  refine ⟨by rw [List.length_drop, h.size], fun c hc => h.small c (List.mem_of_mem_drop hc), ?_⟩
  by_cases hkl : k = len
  · exact .inl (by omega)
  · obtain ⟨b', off', ha', hc⟩ := h.cells.resolve_left (by omega)
    simp only [Option.some.injEq, Addr.mk.injEq, and_true] at ha'
    obtain ⟨rfl, rfl⟩ := ha'
    refine .inr ⟨b, off + k, ha.resolve_left hkl, fun i hi => ?_⟩
    have hi1 : k + i < l.length := by rw [h.size]; omega
    have hi2 : i < (l.drop k).length := by rw [List.length_drop]; omega
    rw [Nat.add_assoc, hc (k + i) (by omega), getD_at hi1, getD_at hi2, List.getElem_drop]

theorem drop_at {l : List Nat} {k j : Nat} (hk : k ≤ l.length) (hj : j < k) : (l.take k).drop j = l.getD j 0 :: (l.take k).drop (j + 1) := by
  have h1 : j < (l.take k).length := by rw [List.length_take]; omega
  rw [List.drop_eq_getElem_cons h1, getD_at (show j < l.length by omega), List.getElem_take]

theorem slice_from (W : World) (b o len cap k : Nat) (l : List Nat) (hR : Row W (some ⟨b, o, none⟩) len l) (h1 : 0 < k) (hk : k ≤ len) (hc : len ≤ cap) :
    ∃ a', (Instr.slice 24 (.slice (some ⟨b, o, none⟩) len cap) (some (.int .i64 (k : Int))) none none).run Try.prog W = .ok (.slice a' (len - k) (cap - k)) W ∧ Row W a' (len - k) (l.drop k) := by
  have he : Try.prog.elem 24 = 5 := by kernel_rfl
  have ht : Try.prog.underlying 24 = some (.slice (Try.prog.elem 24)) := by rw [he]; exact Try.underlying24
  have hz : (Go.sizeOf 5).run Try.prog W = .ok 1 W := by
    obtain ⟨i0, hii, _, hz1, _⟩ := info_parts info5
    simp [Go.sizeOf, typeInfo, hii, hz1]
  have hr := run_slice_l (P := Try.prog) W 24 (some ⟨b, o, none⟩) len cap ht .i64 (k : Int) (by omega) (by omega)
  rw [he, hz] at hr
  by_cases hkc : cap = k
  · refine ⟨some ⟨b, o, none⟩, ?_, Row.behind hR hk (.inl (by omega))⟩
    rw [hr]
    simp [Result.andThen, sliced, hkc]
  · refine ⟨some ⟨b, o + k, none⟩, ?_, Row.behind hR hk (.inr rfl)⟩
    rw [hr]
    have hk0 : ¬ k = 0 := by omega
    simp [Result.andThen, sliced, Addr.add, hkc, hk0]

set_option maxHeartbeats 1000000 in
set_option maxRecDepth 100000 in
theorem core (a : Option Addr) (len cap K : Nat) (ls : List Nat) (w : World) (hK1 : K ≤ len) (hK2 : K ≤ 100) (hK3 : K = len ∨ K = 100) (hl : len ≤ 2 ^ 63 - 1) (HN : Hid (Nums w a len ls)) :
    Calls Try.prog 9 #[.slice a len cap] w fun e w' => e = .returned (.bool true) ∧ Below w.heap.size w w' := by
  go_enter Try.func9, Try.ntmps9
  go_wp2_with fail
  refine (alive_any w).mono ?_
  rintro e w0 ⟨rfl, hb0⟩
  have HB0 := Lib.hid hb0
  clear hb0
  go_wp2_with fail
  go_loopw [3, 4] (fun v i wr => ∃ k m : Nat, k ≤ K ∧ m ≤ 10 * k ∧ i = .int .i64 (k : Int) ∧ Hid ((flat (ls.take k)).length = m) ∧ Hid (wr.ownsRow w.heap.size 5 1 v m (cellsOf (flat (ls.take k)))) ∧ Hid (Below w.heap.size w wr)) (fun _ i _ => K - (intOf i).toNat)
  case atStart => exact ⟨0, 0, by omega, by omega, rfl, Lib.hid (by simp [flat_nil]), Lib.hid (World.ownsRow_nil _ _ _ _), HB0⟩
  case round =>
    obtain ⟨k, m, hk, hm, rfl, HM, hown, hbel⟩ := hrel
    by_cases hlt : k < K
    · obtain ⟨b, off, ha, hcs⟩ := (HN.out.below hbel.out).cells.resolve_left (by omega)
      have hc := hcs k (by omega)
      have HXL := Lib.hid (nums_at HN.out (show k < len by omega))
      have HT := Lib.hid (take_snoc (l := ls) (k := k) (by rw [HN.out.size]; omega))
      clear hcs
      subst ha
      generalize ls.getD k 0 = x at hc HXL HT
      have hL10 := Vint.enc_ten HXL.out
      have hL1 := Vint.enc_pos x
      have HP := Lib.hid (put_any x wr HXL.out)
      have HLT := Lib.hid (Vint.enc_lt x)
      have HF : Hid (flat (ls.take (k + 1)) = flat (ls.take k) ++ Vint.enc x) := Lib.hid (by rw [HT.out, flat_snoc])
      generalize Vint.enc x = ex at hL10 hL1 HP HLT HF
      have t1 : (k : Int) < (len : Int) := by omega
      have t2 : (k : Int) < 100 := by omega
      go_wp2_with fail
      refine HP.out.mono ?_
      rintro e w1 ⟨g, cp, rfl, hown1, hb1⟩
      have HRe := Lib.hid (row_own hown1 HLT.out)
      have HO1 := Lib.hid (own_below hown.out hb1)
      have HB1 := Lib.hid (hbel.out.trans (hb1.mono hbel.out.size))
      clear hown1 hb1
      generalize ex.length = L at hL10 hL1 HRe
      have HLL := Lib.hid HRe.out.size
      go_wp2_with (at_builtin
                   refine wpList_append_row w1 rfl _ _ rfl w.heap.size u3 m (flat (ls.take k)) rfl HO1.out (some ⟨g, 0, none⟩) L cp ex rfl HRe.out (fun h => by cases h) (by omega) (by omega) HB1.out.size ?_
                   intro g2 cp2 w2 hown2 hgrow2
                   have HO2 := Lib.hid hown2
                   have HB2 := Lib.hid (HB1.out.grown hgrow2 HB1.out.size (fun j hj => (HO1.out.lt j hj).1))
                   clear hown2 hgrow2)
      go_roundw
      case rel => exact ⟨k + 1, m + L, by omega, by omega, by go_num, Lib.hid (by rw [HF.out, List.length_append, HM.out, HLL.out]), Lib.hid (by rw [HF.out]; exact HO2.out), HB2⟩
      case measure => simp [intOf]; omega
    · obtain rfl : k = K := by omega
      obtain ⟨a1, c1, hv, hR1, _⟩ := row_of_owns hown.out (flat_small _)
      have hmc : m ≤ c1 := by
        rcases hown.out.2 with ⟨h', _⟩ | ⟨g', cap', cur, h', _, _, hnc, _⟩
        · rw [hv] at h'; simp at h'; omega
        · rw [hv] at h'; simp at h'; omega
      have HR1 := Lib.hid hR1
      have HN1 := Lib.hid (HN.out.below hbel.out)
      have HS := Lib.hid HN.out.size
      subst hv
      clear hR1 hown HM hlt HN HB0
      have hd1 : ((0 : Int) != 0) = false := by decide
      rcases Nat.lt_or_ge k len with h3 | h3
      · have t1 : (k : Int) < (len : Int) := by omega
        have t2 : ¬ (k : Int) < 100 := by omega
        clear h3 hK3
        go_wp2_with fail
        go_loop [3, 5] (fun v i => ∃ (j : Nat) (a2 : Option Addr) (m2 c2 : Nat), j ≤ k ∧ i = .int .i64 (j : Int) ∧ v = .slice a2 m2 c2 ∧ m2 ≤ c2 ∧ m2 ≤ 1000 ∧ Hid (Row wr a2 m2 (flat ((ls.take k).drop j)))) (fun _ i => k - (intOf i).toNat)
        case atStart => exact ⟨0, a1, m, c1, by omega, rfl, rfl, hmc, by omega, HR1⟩
        case round =>
          obtain ⟨j, a2, m2, c2, hj, rfl, rfl, hmc2, hm2, HR2⟩ := hrel
          by_cases hlt : j < k
          · obtain ⟨b, off, ha, hcs⟩ := HN1.out.cells.resolve_left (by omega)
            have hc := hcs j (by omega)
            have HXL := Lib.hid (nums_at HN1.out (show j < len by omega))
            have hT : (ls.take k).drop j = ls.getD j 0 :: (ls.take k).drop (j + 1) := drop_at (by rw [HS.out]; omega) hlt
            clear hcs
            subst ha
            have hR2 := HR2.out
            rw [hT, flat_cons] at hR2
            generalize ls.getD j 0 = x at hc HXL hR2
            have hL1 := Vint.enc_pos x
            have hG := Vint.G_put HXL.out (flat ((ls.take k).drop (j + 1)))
            have hsz := hR2.size
            rw [List.length_append] at hsz
            have hLm : (Vint.enc x).length ≤ m2 := by omega
            have k1 := Lib.hid (get_z a2 m2 c2 _ (x : Int) ((Vint.enc x).length : Int) 0 wr hR2 (by unfold maxLen; omega) ⟨x, _, 0, hG, rfl, rfl, rfl⟩)
            obtain ⟨b2, o2, ha2, _⟩ := hR2.cells.resolve_left (by omega)
            subst ha2
            obtain ⟨a3, hsl, hR3⟩ := slice_from wr b2 o2 m2 c2 _ _ hR2 hL1 hLm hmc2
            rw [List.drop_left] at hR3
            have HR3 := Lib.hid hR3
            clear hR3 hR2 hsz hG hT HR2
            generalize (Vint.enc x).length = L at hL1 hLm k1 hsl HR3
            have s1 : (j : Int) < (len : Int) := by omega
            have s2 : (j : Int) < 100 := by omega
            go_wp2_with fail
            refine k1.out.mono ?_
            rintro e w' ⟨rfl, rfl⟩
            go_wp2_with fail
            go_round
            case rel => exact ⟨j + 1, a3, m2 - L, c2 - L, by omega, by go_num, rfl, by omega, by omega, HR3⟩
            case measure => simp [intOf]; omega
          · obtain rfl : j = k := by omega
            have hm0 : m2 = 0 := by
              have := HR2.out.size
              rw [List.drop_eq_nil_of_le (by rw [List.length_take]; omega), flat_nil] at this
              simpa using this.symm
            subst hm0
            have s1 : (j : Int) < (len : Int) := by omega
            have s2 : ¬ (j : Int) < 100 := by omega
            go_wp2_with fail
            go_ret
            exact ⟨rfl, hbel.out⟩
      · have t1 : ¬ (k : Int) < (len : Int) := by omega
        clear h3 hK3
        go_wp2_with fail
        go_loop [3, 5] (fun v i => ∃ (j : Nat) (a2 : Option Addr) (m2 c2 : Nat), j ≤ k ∧ i = .int .i64 (j : Int) ∧ v = .slice a2 m2 c2 ∧ m2 ≤ c2 ∧ m2 ≤ 1000 ∧ Hid (Row wr a2 m2 (flat ((ls.take k).drop j)))) (fun _ i => k - (intOf i).toNat)
        case atStart => exact ⟨0, a1, m, c1, by omega, rfl, rfl, hmc, by omega, HR1⟩
        case round =>
          obtain ⟨j, a2, m2, c2, hj, rfl, rfl, hmc2, hm2, HR2⟩ := hrel
          by_cases hlt : j < k
          · obtain ⟨b, off, ha, hcs⟩ := HN1.out.cells.resolve_left (by omega)
            have hc := hcs j (by omega)
            have HXL := Lib.hid (nums_at HN1.out (show j < len by omega))
            have hT : (ls.take k).drop j = ls.getD j 0 :: (ls.take k).drop (j + 1) := drop_at (by rw [HS.out]; omega) hlt
            clear hcs
            subst ha
            have hR2 := HR2.out
            rw [hT, flat_cons] at hR2
            generalize ls.getD j 0 = x at hc HXL hR2
            have hL1 := Vint.enc_pos x
            have hG := Vint.G_put HXL.out (flat ((ls.take k).drop (j + 1)))
            have hsz := hR2.size
            rw [List.length_append] at hsz
            have hLm : (Vint.enc x).length ≤ m2 := by omega
            have k1 := Lib.hid (get_z a2 m2 c2 _ (x : Int) ((Vint.enc x).length : Int) 0 wr hR2 (by unfold maxLen; omega) ⟨x, _, 0, hG, rfl, rfl, rfl⟩)
            obtain ⟨b2, o2, ha2, _⟩ := hR2.cells.resolve_left (by omega)
            subst ha2
            obtain ⟨a3, hsl, hR3⟩ := slice_from wr b2 o2 m2 c2 _ _ hR2 hL1 hLm hmc2
            rw [List.drop_left] at hR3
            have HR3 := Lib.hid hR3
            clear hR3 hR2 hsz hG hT HR2
            generalize (Vint.enc x).length = L at hL1 hLm k1 hsl HR3
            have s1 : (j : Int) < (len : Int) := by omega
            have s2 : (j : Int) < 100 := by omega
            go_wp2_with fail
            refine k1.out.mono ?_
            rintro e w' ⟨rfl, rfl⟩
            go_wp2_with fail
            go_round
            case rel => exact ⟨j + 1, a3, m2 - L, c2 - L, by omega, by go_num, rfl, by omega, by omega, HR3⟩
            case measure => simp [intOf]; omega
          · obtain rfl : j = k := by omega
            have hm0 : m2 = 0 := by
              have := HR2.out.size
              rw [List.drop_eq_nil_of_le (by rw [List.length_take]; omega), flat_nil] at this
              simpa using this.symm
            subst hm0
            have s1 : ¬ (j : Int) < (len : Int) := by omega
            go_wp2_with fail
            go_ret
            exact ⟨rfl, hbel.out⟩

theorem walk (a : Option Addr) (len cap : Nat) (ls : List Nat) (w : World) (hN : Nums w a len ls) (hl : len ≤ maxLen) :
    Calls Try.prog 9 #[.slice a len cap] w fun e w' => e = .returned (.bool true) ∧ Below w.heap.size w w' := by
  unfold maxLen at hl
  rcases Nat.lt_or_ge 100 len with h | h
  · exact core a len cap 100 ls w (by omega) (by omega) (.inr rfl) hl (Lib.hid hN)
  · exact core a len cap len ls w (by omega) (by omega) (.inl rfl) hl (Lib.hid hN)

set_option maxRecDepth 100000 in
theorem lifted (os : Os) (started : os.Started) (H : Type) (enc : TypeId × Value → H) :
    ReturnsInHanded {} Try.checked os 9 .any (Rows.vintJoinSpec.pre6 enc Try.prog Try.f9 Rows.vintJoinRow.domain false) (Rows.vintJoinSpec.post enc Try.prog Try.f9 false true false false) := by
  refine returnsInHanded_of_change (C := Try.checked) own started (by kernel_rfl) Try.func9
    (ChangeSpec.witness6 (enc := enc) (C := Try.checked) false ⟨#[], #[.slice none 0 0], []⟩ 8 (by kernel_rfl) (by kernel_rfl) (by kernel_rfl) (by kernel_rfl)) ?_
  intro W base args ds gs before hval0 hW hcnd _
  have hval : ∀ (j : Nat) t v, Try.f9.params[j]? = some t → args[j]? = some v → Value.okWide Try.prog W .any base t v := hval0
  have hW' := hW
  obtain ⟨p, q, hA0, hV, rfl, hfz, hnd⟩ := hW
  have hA : DataW.TrodAll enc Try.prog W 0 (fun _ => true) true Try.f9.params.toList args.toList ds p := hA0
  rw [Try.params9] at hA hval
  obtain ⟨v0, d0, rfl, rfl, h0⟩ := trodAll_one hA
  obtain ⟨rfl, rfl⟩ := trodVars_none hV
  obtain ⟨a, len, cap, rfl⟩ := okWide_slice Try.underlying39 (hval 0 39 v0 rfl rfl)
  have lt0 : ∀ x ∈ p, x.block < W.heap.size := by obtain ⟨m, hm⟩ := h0; exact DataW.trod_lt m _ _ _ hm
  obtain ⟨hl, ls, hN⟩ := nums_of h0
  clear hA0 hval0
  refine (walk a len cap ls W hN hl).mono fun e W' ⟨he, bel⟩ => ?_
  subst he
  exact ⟨_, rfl, _, _, _, [], _, [], hW', trodAll_mk1 (shut_bool Try.underlying4 _), trodAll_mk1 (Below.trod laidOut (by kernel_rfl) (of_decide_eq_true (by kernel_rfl)) h0 bel lt0), rfl, bel.frame _, fun h => by cases h⟩
end VintJoin

theorem vintJoin_proved : Rows.VintJoinSaid :=
  OpenClaim.holds_of_wide 9 Try.f9 rfl rfl rfl rfl rfl rfl rfl ⟨rfl, rfl, rfl, rfl, rfl⟩ rfl rfl rfl rfl rfl (by kernel_rfl) Try.func9 (by kernel_rfl)
    (of_decide_eq_true (by kernel_rfl)) (by unfold Func.isWrapper; first | (rw [if_pos (by decide +kernel)]; kernel_rfl) | (rw [if_neg (by decide +kernel)]; exact ⟨rfl, rfl⟩))
    (fun os started H enc _ => VintJoin.lifted os started H enc)
#print axioms vintJoin_proved
end Go.Proofs.Ytpgeolngilepkaa
