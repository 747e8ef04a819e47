/- Walk of the law's own question whether the program is there (alive): it answers true, and turns nothing that was there. -/
import Derived.Test.YtphljhbeahkkaaaDoorSc
import Derived.Deep.Upon
import Derived.Lib.SlBytesConst
namespace Go.Proofs.YtphljhbeahkkaaaDoor
open Go.RowKit

theorem Own.form {w : World} {B : Nat} {a : Option Addr} {len cap : Nat} {bs : List Nat} (h : Own w B a len cap bs) (h0 : 0 < len) : ∃ g, a = some ⟨g, 0, none⟩ := by
  rcases h.2 with ⟨_, hn⟩ | ⟨g, cap', cur, hv, _⟩
  · omega
  · simp only [Value.slice.injEq] at hv
    exact ⟨g, hv.1⟩

/-- An append leaves the slice that it was called with as it was. -/
theorem append_old {W w' : World} {B g n c m c2 : Nat} {ty : TypeId} {l bs : List Nat} {ad : Addr} {v' : Value} (hown : Own W B (some ⟨g, 0, none⟩) n c l) (hs : ∀ x ∈ l, x < 256) (hR : Row W (some ad) m bs) (hm : n + m ≤ 1000000)
    (hr : (Builtin.append_ #[22, 22] ty #[.slice (some ⟨g, 0, none⟩) n c, .slice (some ad) m c2]).run Tryd.prog W = .ok v' w') : Row w' (some ⟨g, 0, none⟩) n l := by
  obtain ⟨i0, hii, hz0, hz1, hz2⟩ := info_parts info5
  have hrow := hown.row hs
  rcases hown.2 with ⟨hv, _⟩ | ⟨g', cap', cur, hv, _, hg, hnc, hcm, hcs, ht⟩
  · simp at hv
  · simp only [Value.slice.injEq, Option.some.injEq, Addr.mk.injEq, and_true, true_and] at hv
    obtain ⟨rfl, rfl⟩ := hv
    have hlt : g < W.heap.size := (Array.getElem?_eq_some_iff.1 hg).1
    have hc : Came W 1 (some ⟨g, 0, none⟩) g 0 n c (cellsOf l) := by
      refine ⟨hnc, fun _ => rfl, fun _ => hlt, by rw [cellsOf_len, hown.len]; omega, fun j u hu => ?_, fun j hj => ?_⟩
      · have := hrow.news j u hu
        by_cases hj0 : j = 0
        · subst hj0; simpa [Addr.add] using this
        · simpa [Addr.add, hj0] using this
      · refine ⟨?_, frozen_of_row W g _ cur 5 hg⟩
        rw [cell_of_row W g _ cur 5 (0, 0) hg, Array.getElem?_eq_getElem (by omega)]
        rfl
    obtain ⟨v2, w2, hr2, hU⟩ := run_append_upon (P := Tryd.prog) hc 22 22 ty i0 (.int .u8 0) 1 Tryd.underlying22 hii hz0 hz1 hz2 rfl (Upon.start hc) (.slice (some ad) m c2) m (cellsOf bs)
      (Src.ofSlice (w := W) Tryd.underlying22 ad m c2 (cellsOf bs) (by rw [cellsOf_len, hR.size]; omega) (by
        rcases hR.cells with h0 | ⟨b, off, ha, _⟩
        · have : bs = [] := List.eq_nil_of_length_eq_zero (by rw [hR.size]; exact h0)
          subst this
          intro j u hu
          simp [cellsOf] at hu
        · obtain rfl := Option.some.inj ha
          exact hR.news) (cellsOf_one bs)) (by unfold maxLen; omega) (by omega)
    have e : w2 = w' := (Result.ok.inj (hr2.symm.trans hr)).2
    subst e
    refine ⟨hrow.size, hs, ?_⟩
    rcases hrow.cells with h0 | ⟨b, off, ha, hcl⟩
    · exact .inl h0
    · simp only [Option.some.injEq, Addr.mk.injEq, and_true] at ha
      obtain ⟨rfl, rfl⟩ := ha
      exact .inr ⟨g, 0, rfl, fun i hi => by rw [hU.old (b' := g) (o' := 0 + i) hlt (fun j _ ⟨_, e⟩ => by omega)]; exact hcl i hi⟩

theorem wpList_append_keep {ops : Array Oper} {rest : List Oper} {o : Oper} {act : Act} {Q : Exit → Act → World → Prop} (W : World) (hgd : o.guard = none) (s x : Operand)
    (ho : o.op = .call { callee := .builtin .append, args := #[s, x], argTypes := #[22, 22] })
    (B g n c : Nat) (l : List Nat) (hs : act.eval s = .slice (some ⟨g, 0, none⟩) n c) (hown : Own W B (some ⟨g, 0, none⟩) n c l) (hsm : ∀ x ∈ l, x < 256) (ad : Addr) (m c2 : Nat) (bs : List Nat) (hx : act.eval x = .slice (some ad) m c2) (hR : Row W (some ad) m bs) (hm : n + m ≤ 1000000) (hb : B ≤ W.heap.size)
    (h : ∀ a' cap w', Own w' B a' (n + m) cap (l ++ bs) → Kept (At (some ⟨g, 0, none⟩)) W w' → Row w' (some ⟨g, 0, none⟩) n l → wpList Tryd.prog ops Q rest (act.put o.dst (.slice a' (n + m) cap)) w') : wpList Tryd.prog ops Q (o :: rest) act W :=
  wpList_plain hgd fun _ hK => by
    obtain ⟨a', cap, w', hr, h2, h3, h4⟩ := run_append_own_row W B o.type (some ⟨g, 0, none⟩) n c l hown (some ad) m c2 bs hR (fun h => by cases h) hm hb
    unfold Oper.wp execOp
    simp only [ho, resolve, invoke, builtin, Sem.run_bind, Sem.run_pure, Result.andThen_ok, List.map_toArray, List.map_cons, List.map_nil, hs, hx, hr]
    exact hK _ _ (h a' cap w' h2 h3 (append_old hown hsm hR hm hr))

theorem enc0 : Vint.enc 0 = [0] := Vint.enc_small (by omega)
theorem enc3 : Vint.enc 3 = [3] := Vint.enc_small (by omega)
theorem fr0_len : (Frm.fr []).length = 5 := by rw [Frm.fr_len]; simp [enc0]
theorem fr3_len : (Frm.fr [97, 98, 99]).length = 8 := by rw [Frm.fr_len]; simp [enc3]
theorem fr0_at : (Frm.fr []).getD 0 0 = 0 := by
  have : Frm.fr [] = 0 :: Frm.sumB (Frm.bodyB []) := by simp [Frm.fr, Frm.bodyB, enc0]
  rw [this]; rfl
theorem first3 : Frm.first (Frm.fr [97, 98, 99]) = ([97, 98, 99], 8, 0) := by
  have := Frm.first_fr (l := [97, 98, 99]) (rest := []) (by simp)
  rwa [List.append_nil, fr3_len] at this
theorem first7 : Frm.first ((Frm.fr [97, 98, 99]).take 7) = ([], 0, 4) := Frm.first_cut (by simp) (by rw [fr3_len]; omega)
theorem scan2 : Frm.scan (Frm.fr [] ++ Frm.fr [97, 98, 99]) = ([[], [97, 98, 99]], 13) := by
  have := Frm.scan_frs [[], [97, 98, 99]] [] (by simp)
  rw [List.append_nil, Frm.scan_nil] at this
  have e : Frm.frs [[], [97, 98, 99]] = Frm.fr [] ++ Frm.fr [97, 98, 99] := by simp [Frm.frs]
  rw [e, List.length_append, fr0_len, fr3_len] at this
  simpa using this
theorem str3 : strOf [97, 98, 99] = ⟨#[97, 98, 99]⟩ := by decide

theorem small3 : ∀ c ∈ [97, 98, 99], c < 256 := by decide

def abc : Array Value := #[.int .u8 97, .int .u8 98, .int .u8 99]

theorem row_abc (w : World) (fr : Nat × Nat) : Row (w.alloc (.cells abc 5 fr)) (some ⟨w.heap.size, 0, none⟩) 3 [97, 98, 99] := by
  refine ⟨rfl, by decide, .inr ⟨w.heap.size, 0, rfl, fun i hi => ?_⟩⟩
  rw [World.cell?_alloc_mark]
  match i, hi with
  | 0, _ | 1, _ | 2, _ => rfl

/-- The frame of nothing, and of three letters. -/
theorem wrap0 (w : World) (hT : Tab w) : Calls Tryd.prog 10 #[.slice none 0 0] w fun e w' => ∃ g cap, e = .returned (.tuple #[.slice (some ⟨g, 0, none⟩) 5 cap, .int .i64 0]) ∧ Own w' w.heap.size (some ⟨g, 0, none⟩) 5 cap (Frm.fr []) ∧ Below w.heap.size w w' := by
  refine (wrap_any none 0 0 [] w hT (row_nil _ _) (fun _ => ⟨rfl, rfl⟩) (by omega)).mono ?_
  rintro e w' ⟨a, cap, rfl, ho, hb⟩
  rw [fr0_len] at ho ⊢
  obtain ⟨g, rfl⟩ := ho.form (by omega)
  exact ⟨g, cap, rfl, ho, hb⟩

theorem wrap3 (w : World) (a : Option Addr) (c : Nat) (hT : Tab w) (hR : Row w a 3 [97, 98, 99]) : Calls Tryd.prog 10 #[.slice a 3 c] w fun e w' => ∃ g cap, e = .returned (.tuple #[.slice (some ⟨g, 0, none⟩) 8 cap, .int .i64 0]) ∧ Own w' w.heap.size (some ⟨g, 0, none⟩) 8 cap (Frm.fr [97, 98, 99]) ∧ Below w.heap.size w w' := by
  refine (wrap_any a 3 c [97, 98, 99] w hT hR (fun h => by subst h; obtain ⟨_, _, h, _⟩ := hR.cells.resolve_left (by omega); cases h) (by omega)).mono ?_
  rintro e w' ⟨a, cap, rfl, ho, hb⟩
  rw [fr3_len] at ho ⊢
  obtain ⟨g, rfl⟩ := ho.form (by omega)
  exact ⟨g, cap, rfl, ho, hb⟩

theorem firstA (w : World) (g cap : Nat) (hT : Tab w) (hR : Row w (some ⟨g, 0, none⟩) 8 (Frm.fr [97, 98, 99])) (hc : 8 ≤ cap) : Calls Tryd.prog 12 #[.slice (some ⟨g, 0, none⟩) 8 cap] w fun e w' => ∃ a c, e = .returned (.tuple #[.slice a 3 c, .int .i64 8, .int .i64 0]) ∧ Own w' w.heap.size a 3 c [97, 98, 99] ∧ Below w.heap.size w w' := by
  refine (first_any _ 8 cap _ w hT hR (fun h => by cases h) hc (by omega)).mono ?_
  rintro e w' ⟨a, c, rfl, ho, hb⟩
  rw [first3] at ho ⊢
  exact ⟨a, c, rfl, ho, hb⟩

theorem firstB (w : World) (g cap : Nat) (hT : Tab w) (hR : Row w (some ⟨g, 0, none⟩) 7 ((Frm.fr [97, 98, 99]).take 7)) (hc : 8 ≤ cap) : Calls Tryd.prog 12 #[.slice (some ⟨g, 0, none⟩) 7 cap] w fun e w' => ∃ a c, e = .returned (.tuple #[.slice a 0 c, .int .i64 0, .int .i64 4]) ∧ Below w.heap.size w w' := by
  refine (first_any _ 7 cap _ w hT hR (fun h => by cases h) (by omega) (by omega)).mono ?_
  rintro e w' ⟨a, c, rfl, ho, hb⟩
  rw [first7]
  exact ⟨a, c, rfl, hb⟩

theorem scanA (w : World) (a : Option Addr) (cap : Nat) (hT : Tab w) (hR : Row w a 13 (Frm.fr [] ++ Frm.fr [97, 98, 99])) (hz : a = none → 13 = 0 ∧ cap = 0) (hc : 13 ≤ cap) : Calls Tryd.prog 14 #[.slice a 13 cap] w fun e w' => ∃ a c, e = .returned (.tuple #[.slice a 2 c, .int .i64 13]) ∧ Below w.heap.size w w' := by
  refine (scan_any a 13 cap _ w hT hR hz hc (by omega)).mono ?_
  rintro e w' ⟨a, c, rfl, ho, hb⟩
  rw [scan2]
  exact ⟨a, c, rfl, hb⟩

set_option maxHeartbeats 1000000 in
set_option maxRecDepth 100000 in
theorem alive_any (w : World) (hT : Tab w) : Calls Tryd.prog 9 #[] w fun e w' => e = .returned (.bool true) ∧ Below w.heap.size w w' := by
  have HT := Lib.hid hT
  have HW := Lib.hid (wrap0 w hT)
  clear hT
  have kc := fun (w : World) (C : Array Value) (n c : Nat) => Lib.run_convert_bytes_const (P := Tryd.prog) w 22 5 C n c Tryd.underlying22 Tryd.underlying5
  go_enter Tryd.func9, Tryd.ntmps9
  go_wp2_with fail
  refine HW.out.mono ?_
  rintro e w1 ⟨g1, c1, rfl, ho1, hb1⟩
  have HO1 := Lib.hid ho1
  have HB1 := Lib.hid hb1
  clear ho1 hb1 HW
  go_wp2_with fail
  clear kc
  have hal : Below w1.heap.size w1 (w1.alloc (.cells abc 5 (3, 4))) := (Below.refl _ _).alloc (Nat.le_refl _) _
  refine (wrap3 (w1.alloc (.cells abc 5 (3, 4))) (some ⟨w1.heap.size, 0, none⟩) 3 ((HT.out.below HB1.out).below hal) (row_abc w1 (3, 4))).mono ?_
  rintro e w2 ⟨g2, c2, rfl, ho2, hb2⟩
  have hb2' := hal.trans (hb2.mono hal.size)
  have HO1' := Lib.hid (HO1.out.below hb2')
  have HB2 := Lib.hid (HB1.out.trans (hb2'.mono HB1.out.size))
  have HO2 := Lib.hid (ho2.mono (B' := w.heap.size) (Nat.le_trans HB1.out.size hal.size))
  have HNE : Hid (g1 ≠ g2) := Lib.hid (by have h1 := (HO1.out.lt _ rfl).2; have h2 := (ho2.lt _ rfl).1; have := hal.size; simp at h1 h2; omega)
  have hc2 := HO2.out.cap.1
  clear ho2 hb2 hb2' hal HO1 HB1
  go_wp2_with fail
  refine (firstA w2 g2 c2 (HT.out.below HB2.out) (HO2.out.row (Frm.fr_lt small3)) hc2).mono ?_
  rintro e w3 ⟨a3, c3, rfl, hR3, hb3⟩
  have HR3 := Lib.hid (hR3.row small3)
  have HA3 : Hid (∀ ad, a3 = some ad → ad.block ≠ g1) := Lib.hid (fun ad ha => by have h1 := (HO1'.out.lt _ rfl).2; have h2 := (hR3.lt ad ha).1; simp at h1; omega)
  have HO1 := Lib.hid (HO1'.out.below hb3)
  have HO2' := Lib.hid (HO2.out.below hb3)
  have HB3 := Lib.hid (HB2.out.trans (hb3.mono HB2.out.size))
  clear hR3 hb3 HO1' HO2 HB2
  go_wp2_with (at_builtin; (refine wpList_append_keep w3 rfl _ _ rfl w.heap.size g1 5 c1 (Frm.fr []) rfl HO1.out (Frm.fr_lt (by simp)) ⟨g2, 0, none⟩ 8 c2 (Frm.fr [97, 98, 99]) rfl (HO2'.out.row (Frm.fr_lt small3)) (by omega) HB3.out.size ?_
                            intro a4 c4 w4 ho4 hk4 hr4
                            have HO4 := Lib.hid ho4
                            have HK4 := Lib.hid hk4
                            have HR4 := Lib.hid hr4
                            clear ho4 hk4 hr4))
  have HB4 := Lib.hid (HB3.out.trans (HK4.out.below HB3.out.size (fun i ⟨ad, h1, h2⟩ => by obtain rfl := Option.some.inj h1; have := (HO1.out.lt _ rfl).1; subst h2; exact this)))
  have HR3' := Lib.hid (HR3.out.keep HK4.out (fun ad ha _ ⟨ad', h1, h2⟩ => HA3.out ad ha (by obtain rfl := Option.some.inj h1; exact h2)))
  have HR2 := Lib.hid ((HO2'.out.row (Frm.fr_lt small3)).keep HK4.out (fun ad ha _ ⟨ad', h1, h2⟩ => by obtain rfl := Option.some.inj h1; obtain rfl := Option.some.inj ha; exact HNE.out h2.symm))
  have hr13 := HO4.out.row (fun c hc => by
    rcases List.mem_append.1 hc with h | h
    · exact Frm.fr_lt (by simp) c h
    · exact Frm.fr_lt small3 c h)
  have HS := Lib.hid (scanA w4 a4 c4 (HT.out.below HB4.out) hr13 HO4.out.cap.2.2 HO4.out.cap.1)
  clear HO4 HK4 HO2' HO1 HR3 HA3 HNE hr13
  refine HS.out.mono ?_
  rintro e w5 ⟨a5, c5, rfl, hb5⟩
  have HR35 := Lib.hid (HR3'.out.below hb5)
  have HR25 := Lib.hid (HR2.out.below hb5)
  have HR45 := Lib.hid (HR4.out.below hb5)
  have HB5 := Lib.hid (HB4.out.trans (hb5.mono HB4.out.size))
  have s7 := fun W => slice_hz .i64 (some ⟨g2, 0, none⟩) 8 c2 7 7 (by omega) (by omega) W
  clear hb5 HS HB4 HR4 HR2 HR3'
  go_wp2_with fail
  refine (firstB w5 g2 c2 (HT.out.below HB5.out) (HR25.out.upto (by omega)) hc2).mono ?_
  rintro e w6 ⟨a6, c6, rfl, hb6⟩
  have hcv := conv_any (cap := c3) (HR35.out.below hb6)
  rw [str3] at hcv
  have hb0 : w6.cell? ⟨g1, 0, none⟩ = some (.int .u8 0) := by
    obtain ⟨b, off, ha, hc⟩ := (HR45.out.below hb6).cells.resolve_left (by omega)
    simp only [Option.some.injEq, Addr.mk.injEq, and_true] at ha
    obtain ⟨rfl, rfl⟩ := ha
    have := hc 0 (by omega)
    rw [fr0_at] at this
    exact this
  have HB6 := Lib.hid (HB5.out.trans (hb6.mono HB5.out.size))
  clear hb6 HR35 HR25 HR45 s7
  go_wp2_with fail
  go_ret
  exact ⟨rfl, HB6.out⟩

end Go.Proofs.YtphljhbeahkkaaaDoor
