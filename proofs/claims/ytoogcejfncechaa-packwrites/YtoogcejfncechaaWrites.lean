/- PackWrites is proved: for every list of fields what each of the first sixty lays down, and its error, is the document's. No condition. -/
import Derived.Test.YtoogcejfncechaaActs
namespace Go.Proofs.Ytoogcejfncechaa
namespace PackWrites
open Go.ChangeShapes Go.WideShapes Go.ChangeAt Go.RowKit

/-- The document's writer, at block q, beside the program's, at p: both have one error and the same bytes. -/
structure Pair (w : World) (p q er : Nat) (a1 : Option Addr) (n1 c1 : Nat) (a2 : Option Addr) (n2 c2 : Nat) (bs : List Nat) : Prop where
  wr : Wr w p er a1 n1 c1 bs
  blk : Blk w q 28 #[.slice a2 n2 c2, .int .i64 (er : Int)]
  row : Row w a2 n2 bs
  nil : a2 = none → n2 = 0 ∧ c2 = 0
  apart : ∀ ad, a2 = some ad → n2 ≠ 0 → ¬ Wat p a1 ad.block ∧ ad.block ≠ q
  far : ¬ Wat p a1 q

theorem Pair.below {w w' : World} {p q er : Nat} {a1 : Option Addr} {n1 c1 : Nat} {a2 : Option Addr} {n2 c2 : Nat} {bs : List Nat} (h : Pair w p q er a1 n1 c1 a2 n2 c2 bs) (hb : Below w.heap.size w w') : Pair w' p q er a1 n1 c1 a2 n2 c2 bs :=
  ⟨h.wr.below hb, h.blk.below hb, h.row.below hb, h.nil, h.apart, h.far⟩

theorem kept_two (w : World) (q : Nat) (u v : Value) : Kept (fun k => k = q) w ((w.setCell ⟨q, 0, none⟩ u).setCell ⟨q, 1, none⟩ v) :=
  (kept_cell _ _ _ _).trans (kept_cell _ _ _ _) (fun _ hi => .inl hi)

theorem pair_step {wr w2 w3 : World} {p q er er' : Nat} {a1 a2 a3 a5 : Option Addr} {n1 c1 n2 c2 n3 c3 n5 c5 : Nat} {bs bs' : List Nat} {x y : Value} {o : Obj} (HP : Pair wr p q er a1 n1 c1 a2 n2 c2 bs) (HK2 : Kept (Wat p a1) wr w2) (HL2 : Lies wr a1 a3) (HW2 : Wr w2 p er' a3 n3 c3 bs') (HB3 : Below w2.heap.size w2 w3) (HQ3 : Blk w3 q 28 #[x, y]) (HR3 : Row w3 a5 n5 bs') (HZ3 : a5 = none → n5 = 0 ∧ c5 = 0)
    (HA3 : ∀ ad, a5 = some ad → n5 ≠ 0 → (∃ ad0, a2 = some ad0 ∧ ad.block = ad0.block ∧ n2 ≠ 0) ∨ w2.heap.size ≤ ad.block) :
    Pair (((w3.setCell ⟨q, 0, none⟩ (.slice a5 n5 c5)).setCell ⟨q, 1, none⟩ (.int .i64 (er' : Int))).alloc o) p q er' a3 n3 c3 a5 n5 c5 bs' := by
  have hfar : ¬ Wat p a3 q := fun h => by
    rcases HL2.wat q h with h1 | h1
    · exact HP.far h1
    · have := HP.blk.lt; omega
  have hap : ∀ ad, a5 = some ad → n5 ≠ 0 → ¬ Wat p a3 ad.block ∧ ad.block ≠ q := by
    intro ad ha h0
    rcases HA3 ad ha h0 with ⟨ad0, h1, h2, h3⟩ | h1
    · have g1 := HP.apart ad0 h1 h3
      have g2 := HP.row.lt ad0 h1 h3
      refine ⟨fun h => ?_, by rw [h2]; exact g1.2⟩
      rcases HL2.wat _ h with g3 | g3
      · rw [h2] at g3; exact g1.1 g3
      · omega
    · refine ⟨fun h => ?_, ?_⟩
      · have := (HW2.at_lt _ h).2; omega
      · have := HP.blk.lt
        have := HK2.size
        omega
  have hk := kept_two w3 q (.slice a5 n5 c5) (.int .i64 (er' : Int))
  have hal : Below ((w3.setCell ⟨q, 0, none⟩ (.slice a5 n5 c5)).setCell ⟨q, 1, none⟩ (.int .i64 (er' : Int))).heap.size ((w3.setCell ⟨q, 0, none⟩ (.slice a5 n5 c5)).setCell ⟨q, 1, none⟩ (.int .i64 (er' : Int))) (((w3.setCell ⟨q, 0, none⟩ (.slice a5 n5 c5)).setCell ⟨q, 1, none⟩ (.int .i64 (er' : Int))).alloc o) := (Below.refl _ _).alloc (Nat.le_refl _) _
  have hb : Blk ((w3.setCell ⟨q, 0, none⟩ (.slice a5 n5 c5)).setCell ⟨q, 1, none⟩ (.int .i64 (er' : Int))) q 28 #[.slice a5 n5 c5, .int .i64 (er' : Int)] := (HQ3.set 0 (.slice a5 n5 c5)).set 1 (.int .i64 (er' : Int))
  refine Pair.below ⟨(HW2.below HB3).keep hk (fun i hi (e : i = q) => hfar (e ▸ hi)), hb, HR3.keep hk (fun ad ha h0 (e : ad.block = q) => (hap ad ha h0).2 e), HZ3, hap, hfar⟩ hal

set_option maxHeartbeats 1000000 in
set_option maxRecDepth 100000 in
theorem core (a : Option Addr) (len cap K : Nat) (xs : Nat → ActV) (w : World) (hK1 : K ≤ len) (hK2 : K ≤ 60) (hK3 : K = len ∨ K = 60) (_hl : len ≤ 2 ^ 63 - 1) (HA : Hid (Acts w a len xs)) :
    Calls Try.prog 3 #[.slice a len cap] w fun e w' => e = .returned (.bool true) ∧ Below w.heap.size w w' := by
  go_enter Try.func3, Try.ntmps3
  go_wp2_with fail
  refine (alive_any w).mono ?_
  rintro e w0 ⟨rfl, hb0⟩
  have HB0 := Lib.hid hb0
  clear hb0
  go_wp2_with fail
  refine (new_any w0).mono ?_
  rintro e w1 ⟨rfl, hw1, hb1⟩
  have HW1 := Lib.hid hw1
  have hp : w.heap.size ≤ w0.heap.size := HB0.out.size
  have HB1 := Lib.hid (HB0.out.trans (hb1.mono HB0.out.size))
  have hq : w.heap.size ≤ w1.heap.size := HB1.out.size
  clear hw1 hb1 HB0
  generalize w0.heap.size = p at HW1 hp
  go_wp2_with fail
  have hal : Below w1.heap.size w1 (w1.alloc (.cells #[.slice none 0 0, .int .i64 0] 28)) := (Below.refl _ _).alloc (Nat.le_refl _) _
  have HP : Hid (Pair (w1.alloc (.cells #[.slice none 0 0, .int .i64 0] 28)) p w1.heap.size 0 none 0 0 none 0 0 []) := Lib.hid
    ⟨HW1.out.below hal, Blk.new _ _ _, row_nil _ _, fun _ => ⟨rfl, rfl⟩, (fun ad h => by cases h), fun h => Nat.lt_irrefl _ (HW1.out.at_lt _ h).2⟩
  have HB2 := Lib.hid (HB1.out.trans (hal.mono hq))
  clear hal HB1 HW1
  generalize w1.alloc (.cells #[.slice none 0 0, .int .i64 0] 28) = w2 at HP HB2
  generalize w1.heap.size = q at HP hq
  go_loopw [5] (fun i wr => ∃ (k er n1 c1 n2 c2 : Nat) (a1 a2 : Option Addr) (bs : List Nat), k ≤ K ∧ i = .int .i64 (k : Int) ∧ Hid (Pair wr p q er a1 n1 c1 a2 n2 c2 bs) ∧ Hid (Below w.heap.size w wr)) (fun i _ => K - (intOf i).toNat)
  case atStart => exact ⟨0, 0, 0, 0, 0, 0, none, none, [], by omega, rfl, HP, HB2⟩
  case round =>
    obtain ⟨k, er, n1, c1, n2, c2, a1, a2, bs, hk, rfl, HP, HB⟩ := hrel
    by_cases hlt : k < K
    · obtain ⟨b, off, ha, hcs⟩ := (HA.out.below HB.out).cells.resolve_left (by omega)
      obtain ⟨h1, h2, h3⟩ := hcs k (by omega)
      have HX := Lib.hid ((HA.out.below HB.out).ok k (by omega))
      have HX0 := Lib.hid (HA.out.ok k (by omega))
      clear hcs
      subst ha
      generalize xs k = x at h1 h2 h3 HX HX0
      by_cases hbig : 3000 < x.m
      · go_wp2_with fail
        go_roundw
        case rel => exact ⟨k + 1, er, n1, c1, n2, c2, a1, a2, bs, by omega, by go_num, HP, HB⟩
        case measure => simp [intOf]; omega
      · have hx3 : (x.m : Int) ≤ 3000 := by omega
        have HN : Hid (∀ ad, x.b = some ad → x.m ≠ 0 → ¬ Wat p a1 ad.block) := Lib.hid (fun ad ha h0 hk => by
          have g1 := HX0.out.row.lt ad ha h0
          have g2 := (HP.out.wr.at_lt _ hk).1
          omega)
        have HD := Lib.hid (do_any p er a1 n1 c1 bs x wr HP.out.wr HX.out (by omega) HN.out)
        have hL := bytes_len HX.out (by omega)
        have HS := Lib.hid (bytes_small HX.out)
        generalize x.bytes = l at HD hL HS
        unfold Did at HD
        go_wp2_with fail
        refine HD.out.mono ?_
        rintro e w2 ⟨a3, n3, c3, g, c4, rfl, hw2, hk2, hl2, ho2, hg2⟩
        have HB2 := Lib.hid (HB.out.trans (hk2.below HB.out.size (fun i hi => Nat.le_trans hp (HP.out.wr.at_lt i hi).1)))
        have HW2 := Lib.hid hw2
        have HK2 := Lib.hid hk2
        have HL2 := Lib.hid hl2
        have HY := Lib.hid (lay_any er a2 g n2 l.length c2 c4 bs l w2 (by have := HP.out.wr.room; have := HP.out.row.size; have := HP.out.wr.own.len; omega) (by omega) (HP.out.row.keep hk2 (fun ad h1 h2 => (HP.out.apart ad h1 h2).1)) HP.out.nil (ho2.row HS.out) ho2.cap.2.2)
        have HQ2 := Lib.hid (HP.out.blk.kept hk2 HP.out.far)
        have q0 := HQ2.out.cell 0
        have q1 := HQ2.out.cell 1
        simp at q0 q1
        clear hw2 hk2 hl2 ho2 hg2 HD
        go_wp2_with fail
        refine HY.out.mono ?_
        rintro e w3 ⟨a5, n5, c5, rfl, hr3, hz3, ha3, hb3⟩
        have HQ3 := Lib.hid (HQ2.out.below hb3)
        clear q0 q1 HY
        have HW3 := Lib.hid (HW2.out.below hb3)
        have r0 := HQ3.out.cell 0
        have r1 := HQ3.out.cell 1
        have s0 := HQ3.out.frozen 0
        have s1 := HQ3.out.frozen 1
        have hqlt := HQ3.out.lt
        simp at r0 r1
        have HR3 := Lib.hid hr3
        have HZ3 := Lib.hid hz3
        have HA3 := Lib.hid ha3
        have HB3 := Lib.hid hb3
        clear hr3 hz3 ha3 hb3
        generalize layE er bs.length l.length = er' at HW2 HW3 HR3 HZ3 HA3 HB3
        generalize layB er bs l = bs' at HW2 HW3 HR3 HZ3 HA3 HB3
        go_wp2_with fail
        have HP4 := Lib.hid (pair_step (o := .cells #[.slice a5 n5 c5, .int .i64 (er' : Int)] 28) HP.out HK2.out HL2.out HW2.out HB3.out HQ3.out HR3.out HZ3.out HA3.out)
        have HB4 : Hid (Below w.heap.size w (((w3.setCell ⟨q, 0, none⟩ (.slice a5 n5 c5)).setCell ⟨q, 1, none⟩ (.int .i64 (er' : Int))).alloc (.cells #[.slice a5 n5 c5, .int .i64 (er' : Int)] 28))) := Lib.hid
          ((((HB2.out.trans (HB3.out.mono HB2.out.size)).setCell (p := ⟨q, 0, none⟩) hq _).setCell (p := ⟨q, 1, none⟩) hq _).alloc (by simp; omega) _)
        clear HB2 HB3 HW2 HW3 HR3 HZ3 HA3 HQ3 HQ2 HK2 HL2 r0 r1 s0 s1 h1 h2 h3 HN
        generalize ((w3.setCell ⟨q, 0, none⟩ (.slice a5 n5 c5)).setCell ⟨q, 1, none⟩ (.int .i64 (er' : Int))).alloc (.cells #[.slice a5 n5 c5, .int .i64 (er' : Int)] 28) = w4 at HP4 HB4
        refine (all_any p er' a3 n3 c3 bs' w4 HP4.out.wr).mono ?_
        rintro e w5 ⟨a6, n6, c6, rfl, ho6, hb6⟩
        have HP5 := Lib.hid (HP4.out.below hb6)
        have HB5 := Lib.hid (HB4.out.trans (hb6.mono HB4.out.size))
        have HO6 := Lib.hid ho6
        have r0 := HP5.out.blk.cell 0
        have r1 := HP5.out.blk.cell 1
        simp at r0 r1
        clear ho6 hb6 HP4 HB4 hqlt
        by_cases he : er' = 0
        · subst he
          have t1 : (convert 26 9 (.slice a6 n6 c6)).run Try.prog w5 = .ok (.string (strOf bs')) w5 := by
            have h := HO6.out
            rw [if_pos rfl] at h
            exact conv_any (h.row HP5.out.wr.small)
          have t2 : (convert 26 9 (.slice a5 n5 c5)).run Try.prog w5 = .ok (.string (strOf bs')) w5 := conv_any HP5.out.row
          clear HO6
          go_wp2_with fail
          go_roundw
          case rel => exact ⟨k + 1, 0, n3, c3, n5, c5, a3, a5, bs', by omega, by go_num, HP5, HB5⟩
          case measure => simp [intOf]; omega
        · have hne : ((er' : Int) != 0) = true := by simp; omega
          have t1 : (convert 26 9 (.slice a6 n6 c6)).run Try.prog w5 = .ok (.string (strOf [])) w5 := by
            have h := HO6.out
            rw [if_neg he] at h
            exact conv_any (h.row (by simp))
          have t2 : (convert 26 9 (.slice none 0 0)).run Try.prog w5 = .ok (.string (strOf [])) w5 := conv_any (row_nil _ _)
          generalize strOf [] = s at t1 t2
          clear HO6 he
          go_wp2_with fail
          go_roundw
          case rel => exact ⟨k + 1, er', n3, c3, n5, c5, a3, a5, bs', by omega, by go_num, HP5, HB5⟩
          case measure => simp [intOf]; omega
    · by_cases hkl : k < len
      · have hk20 : decide ((k : Int) < 60) = false := by simp; omega
        go_wp2_with fail
        go_ret
        exact ⟨rfl, HB.out⟩
      · go_wp2_with fail
        go_ret
        exact ⟨rfl, HB.out⟩

theorem walk (a : Option Addr) (len cap : Nat) (xs : Nat → ActV) (w : World) (hl : len ≤ maxLen) (hA : Acts w a len xs) :
    Calls Try.prog 3 #[.slice a len cap] w fun e w' => e = .returned (.bool true) ∧ Below w.heap.size w w' := by
  unfold maxLen at hl
  by_cases h : len ≤ 60
  · exact core a len cap len xs w (Nat.le_refl _) h (.inl rfl) (by omega) (Lib.hid hA)
  · exact core a len cap 60 xs w (by omega) (Nat.le_refl _) (.inr rfl) (by omega) (Lib.hid hA)

set_option maxRecDepth 100000 in
theorem lifted (os : Os) (started : os.Started) (H : Type) (enc : TypeId × Value → H) :
    ReturnsInHanded {} Try.checked os 3 .any (Rows.packWritesSpec.pre6 enc Try.prog Try.f3 Rows.packWritesRow.domain false) (Rows.packWritesSpec.post enc Try.prog Try.f3 false true false false) := by
  refine returnsInHanded_of_change (C := Try.checked) own started (by kernel_rfl) Try.func3
    (ChangeSpec.witness6 (enc := enc) (C := Try.checked) false ⟨#[], #[.slice none 0 0], []⟩ 8 (by kernel_rfl) (by kernel_rfl) (by kernel_rfl) (by kernel_rfl)) ?_
  intro W base args ds gs before hval0 hW hcnd _
  have hval : ∀ (j : Nat) t v, Try.f3.params[j]? = some t → args[j]? = some v → Value.okWide Try.prog W .any base t v := hval0
  have hW' := hW
  obtain ⟨p, q, hA0, hV, rfl, hfz, hnd⟩ := hW
  have hA : DataW.TrodAll enc Try.prog W 0 (fun _ => true) true Try.f3.params.toList args.toList ds p := hA0
  rw [Try.params3] at hA hval
  obtain ⟨v0, d0, rfl, rfl, h0⟩ := trodAll_one hA
  obtain ⟨rfl, rfl⟩ := trodVars_none hV
  obtain ⟨a, len, cap, rfl⟩ := okWide_slice Try.underlying22 (hval 0 22 v0 rfl rfl)
  have lt0 : ∀ x ∈ p, x.block < W.heap.size := by obtain ⟨m, hm⟩ := h0; exact DataW.trod_lt m _ _ _ hm
  obtain ⟨hl, xs, hX⟩ := acts_of h0
  clear hA0 hval0
  refine (walk a len cap xs W hl hX).mono fun e W' ⟨he, bel⟩ => ?_
  subst he
  exact ⟨_, rfl, _, _, _, [], _, [], hW', trodAll_mk1 (shut_bool Try.underlying4 _), trodAll_mk1 (Below.trod laidOut (by kernel_rfl) (of_decide_eq_true (by kernel_rfl)) h0 bel lt0), rfl, bel.frame _, fun h => by cases h⟩
end PackWrites

theorem packWrites_proved : Rows.PackWritesSaid :=
  OpenClaim.holds_of_wide 3 Try.f3 rfl rfl rfl rfl rfl rfl rfl ⟨rfl, rfl, rfl, rfl, rfl⟩ rfl rfl rfl rfl rfl (by kernel_rfl) Try.func3 (by kernel_rfl)
    (of_decide_eq_true (by kernel_rfl)) (by unfold Func.isWrapper; first | (rw [if_pos (by decide +kernel)]; kernel_rfl) | (rw [if_neg (by decide +kernel)]; exact ⟨rfl, rfl⟩))
    (fun os started H enc _ => PackWrites.lifted os started H enc)
#print axioms packWrites_proved
end Go.Proofs.Ytoogcejfncechaa
