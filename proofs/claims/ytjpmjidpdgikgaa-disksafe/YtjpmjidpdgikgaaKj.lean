/- Walk of alive. -/
import Derived.Test.YtjpmjidpdgikgaaKi
import Derived.Lib.SlBytesConst
namespace Go.Proofs.Ytjpmjidpdgikgaa
open Go.RowKit Go.Maps

abbrev nA : ByteArray := ⟨#[97]⟩
abbrev nB : ByteArray := ⟨#[98]⟩
theorem row_mark (w : World) (bs : List Nat) (fr : Nat × Nat) (hs : ∀ c ∈ bs, c < 256) : Row (w.alloc (.cells (cellsOf bs).toArray 5 fr)) (some ⟨w.heap.size, 0, none⟩) bs.length bs := by
  refine ⟨rfl, hs, .inr ⟨w.heap.size, 0, rfl, fun i hi => ?_⟩⟩
  rw [Nat.zero_add, World.cell?_alloc_mark, List.getElem?_toArray]
  simp [cellsOf, List.getElem?_eq_getElem hi, List.getD]
theorem Mv.belowB {w w' : World} {B p room : Nat} {s s' : Sta} (m : Mv w B p room s w' s') (h : Dz w B p room s) : Below B w w' := m.kept.below h.hB (fun _ hi => (h.at_lt hi).1)
theorem chF_one {g : Nat} (t : ByteArray) : chF (fun _ => none) ⟨#[]⟩ nA (.pointer (some ⟨g, 0, none⟩)) (litS t) = if t = nA then some (.pointer (some ⟨g, 0, none⟩)) else none := by
  by_cases e : t = nA
  · subst e
    rw [if_pos rfl]; exact chF_hit (by decide)
  · rw [if_neg e]
    by_cases e0 : t = ⟨#[]⟩
    · subst e0; exact chF_gone (by decide)
    · exact chF_miss e e0
theorem chF_two {f : Lit → Option Value} {g g6 : Nat} (h : ∀ t, f (litS t) = if t = nA then some (.pointer (some ⟨g, 0, none⟩)) else none) (t : ByteArray) : chF f ⟨#[]⟩ nB (.pointer (some ⟨g6, 0, none⟩)) (litS t) = if t = nB then some (.pointer (some ⟨g6, 0, none⟩)) else if t = nA then some (.pointer (some ⟨g, 0, none⟩)) else none := by
  by_cases e : t = nB
  · subst e
    rw [if_pos rfl]; exact chF_hit (by decide)
  · rw [if_neg e]
    by_cases e0 : t = ⟨#[]⟩
    · subst e0; rw [chF_gone (by decide), if_neg (by decide)]
    · rw [chF_miss e e0, h]
theorem isnilP {p : Nat} (w : World) : (binOp .eql 28 (.pointer (some ⟨p, 0, none⟩)) (.pointer none)).run Try.prog w = .ok (.bool false) w := by go_simp
set_option maxRecDepth 100000 in
set_option maxHeartbeats 4000000 in
theorem alive_any (w : World) : Calls Try.prog 6 #[] w (Says (.bool true) w) := by
  have HN := Lib.hid (fun W => new_any 100 W (by omega) (by omega))
  go_enter Try.func6, Try.ntmps6
  go_wp2_with fail
  refine (HN.out w).mono ?_
  intro e w1 hn
  obtain ⟨p, m1, m2, rfl, hd, hb⟩ := newly_dz hn (by omega)
  have HD := Lib.hid hd
  have HB1 := Lib.hid hb
  clear hn hd hb HN
  have kc1 : (convert 23 23 (.slice (some ⟨w1.heap.size, 0, none⟩) 2 2)).run Try.prog (w1.alloc (.cells #[.int .u8 120, .int .u8 121] 5)) = .ok (.slice (some ⟨w1.heap.size, 0, none⟩) 2 2) (w1.alloc (.cells #[.int .u8 120, .int .u8 121] 5 (2, 2 + 1))) := Lib.run_convert_bytes_const w1 23 5 _ 2 2 Try.underlying23 Try.underlying5
  have bel1 : Below w1.heap.size w1 (w1.alloc (.cells #[.int .u8 120, .int .u8 121] 5 (2, 2 + 1))) := below_one w1 _
  have HC1 := Lib.hid (app_new (HD.out.below bel1) (s0_ok m1 m2) (by omega) (t := nA) (by decide) rfl (row_mark w1 [120, 121] (2, 2 + 1) (by simp)) (fun h => by cases h) (by decide) (bc := 2) (fun ad ha _ hat => by obtain rfl := Option.some.inj ha; have := (HD.out.at_lt hat).2; simp at this) (by show 0 + 2 ≤ 100; omega) (by omega))
  have HBE1 := Lib.hid bel1
  clear bel1
  go_wp2_with fail
  refine HC1.out.mono ?_
  rintro e w2 ⟨rfl, g, a2, c2, k2, qa2, qn2, qc2, s2, hm, hok, hs2⟩
  have HM2 := Lib.hid (And.intro (HB1.out.trans ((HBE1.out.mono HB1.out.size).trans (hm.belowB (HD.out.below HBE1.out)))) (And.intro hm.now hok))
  have HS2 : Hid (s2.F = [⟨g, 0, a2, c2, 0, [120, 121]⟩] ∧ (∀ t, s2.f1 (litS t) = if t = nA then some (.pointer (some ⟨g, 0, none⟩)) else none)) := Lib.hid ⟨by rw [hs2]; rfl, fun t => by rw [hs2]; exact chF_one t⟩
  clear hm hok hs2 HC1 HBE1 kc1 HD HB1
  have HC2 := Lib.hid (syn_old HM2.out.2.1 HM2.out.2.2 (t := nA) (by decide) (x := ⟨g, 0, a2, c2, 0, [120, 121]⟩) (by rw [HS2.out.1]; exact List.mem_singleton.2 rfl) (by rw [HS2.out.2, if_pos rfl]; rfl))
  go_wp2_with fail
  refine HC2.out.mono ?_
  rintro e w3 ⟨rfl, s3, hm, hok, hs3⟩
  have HM3 := Lib.hid (And.intro (HM2.out.1.trans (hm.belowB HM2.out.2.1)) (And.intro hm.now hok))
  have HS3 : Hid (s3.F = [⟨g, 0, a2, c2, 2, [120, 121]⟩] ∧ s3.f1 = s2.f1) := Lib.hid ⟨by rw [hs3]; show upF s2.F _ = _; rw [HS2.out.1]; simp [upF], by rw [hs3]⟩
  clear hm hok hs3 HC2
  have HC3 := Lib.hid (syn_dir HM3.out.2.1 HM3.out.2.2)
  go_wp2_with fail
  refine HC3.out.mono ?_
  rintro e w4 ⟨rfl, m3, s4, hm, hok, hs4⟩
  have HM4 := Lib.hid (And.intro (HM3.out.1.trans (hm.belowB HM3.out.2.1)) (And.intro hm.now hok))
  have HS4 : Hid (s4.F = [⟨g, 0, a2, c2, 2, [120, 121]⟩] ∧ s4.f1 = s2.f1 ∧ s4.f2 = s2.f1) := Lib.hid ⟨by rw [hs4]; exact HS3.out.1, by rw [hs4]; exact HS3.out.2, by rw [hs4]; exact HS3.out.2⟩
  clear hm hok hs4 HC3 HM3 HS3 HM2
  have kc4 : (convert 23 23 (.slice (some ⟨w4.heap.size, 0, none⟩) 1 1)).run Try.prog (w4.alloc (.cells #[.int .u8 122] 5)) = .ok (.slice (some ⟨w4.heap.size, 0, none⟩) 1 1) (w4.alloc (.cells #[.int .u8 122] 5 (1, 1 + 1))) := Lib.run_convert_bytes_const w4 23 5 _ 1 1 Try.underlying23 Try.underlying5
  have bel4 : Below w4.heap.size w4 (w4.alloc (.cells #[.int .u8 122] 5 (1, 1 + 1))) := below_one w4 _
  have HC4 := Lib.hid (app_old (HM4.out.2.1.below bel4) HM4.out.2.2 (by omega) (t := nA) (by decide) (x := ⟨g, 0, a2, c2, 2, [120, 121]⟩) (by rw [HS4.out.1]; exact List.mem_singleton.2 rfl) (by rw [HS4.out.2.1, HS2.out.2, if_pos rfl]; rfl) (row_mark w4 [122] (1, 1 + 1) (by simp)) (fun h => by cases h) (by decide) (bc := 1) (fun ad ha _ hat => by obtain rfl := Option.some.inj ha; have := (HM4.out.2.1.at_lt hat).2; simp at this) (by rw [HS4.out.1]; simp [tot]) (by omega))
  have HBE4 := Lib.hid bel4
  clear bel4
  go_wp2_with fail
  refine HC4.out.mono ?_
  rintro e w5 ⟨rfl, a5, c5, s5, hm, hok, hs5⟩
  have HM5 := Lib.hid (And.intro (HM4.out.1.trans ((HBE4.out.mono HM4.out.1.size).trans (hm.belowB (HM4.out.2.1.below HBE4.out)))) (And.intro hm.now hok))
  have HS5 : Hid (s5.F = [⟨g, 0, a5, c5, 2, [120, 121, 122]⟩] ∧ s5.f1 = s2.f1 ∧ s5.f2 = s2.f1 ∧ s5.n = 1) := Lib.hid ⟨by rw [hs5]; show upF s4.F _ = _; rw [HS4.out.1]; simp [upF], by rw [hs5]; exact HS4.out.2.1, by rw [hs5]; exact HS4.out.2.2, by have := hok.n; rw [this]; rw [hs5]; show (upF s4.F _).length = 1; rw [upF_len, HS4.out.1]; rfl⟩
  clear hm hok hs5 HC4 HBE4 kc4
  have kc5 : (convert 23 23 (.slice (some ⟨w5.heap.size, 0, none⟩) 1 1)).run Try.prog (w5.alloc (.cells #[.int .u8 113] 5)) = .ok (.slice (some ⟨w5.heap.size, 0, none⟩) 1 1) (w5.alloc (.cells #[.int .u8 113] 5 (1, 1 + 1))) := Lib.run_convert_bytes_const w5 23 5 _ 1 1 Try.underlying23 Try.underlying5
  have bel5 : Below w5.heap.size w5 (w5.alloc (.cells #[.int .u8 113] 5 (1, 1 + 1))) := below_one w5 _
  have HC5 := Lib.hid (app_new (HM5.out.2.1.below bel5) HM5.out.2.2 (by omega) (t := nB) (by decide) (by rw [HS5.out.2.1, HS2.out.2, if_neg (by decide)]) (row_mark w5 [113] (1, 1 + 1) (by simp)) (fun h => by cases h) (by decide) (bc := 1) (fun ad ha _ hat => by obtain rfl := Option.some.inj ha; have := (HM5.out.2.1.at_lt hat).2; simp at this) (by rw [HS5.out.1]; simp [tot]) (by omega))
  have HBE5 := Lib.hid bel5
  clear bel5
  go_wp2_with fail
  refine HC5.out.mono ?_
  rintro e w6 ⟨rfl, g6, a6, c6, k6, qa6, qn6, qc6, s6, hm, hok, hs6⟩
  have HM6 := Lib.hid (And.intro (HM5.out.1.trans ((HBE5.out.mono HM5.out.1.size).trans (hm.belowB (HM5.out.2.1.below HBE5.out)))) (And.intro hm.now hok))
  have HS6 : Hid (s6.F = [⟨g, 0, a5, c5, 2, [120, 121, 122]⟩, ⟨g6, 1, a6, c6, 0, [113]⟩] ∧ (∀ t, s6.f1 (litS t) = if t = nB then some (.pointer (some ⟨g6, 0, none⟩)) else if t = nA then some (.pointer (some ⟨g, 0, none⟩)) else none) ∧ s6.f2 = s2.f1) := Lib.hid ⟨by rw [hs6]; show s5.F ++ [_] = _; rw [HS5.out.1, HS5.out.2.2.2]; rfl, fun t => by simp only [hs6, HS5.out.2.1]; exact chF_two (HS2.out.2) t, by rw [hs6]; exact HS5.out.2.2.1⟩
  clear hm hok hs6 HC5 HBE5 kc5
  have HC6 := Lib.hid (used_any HM6.out.2.1 HM6.out.2.2.good.once (by rw [HS6.out.1]; simp [tot]))
  go_wp2_with fail
  refine HC6.out.mono ?_
  rintro e w7 ⟨L, hL, _, rfl, hb⟩
  have hu : usd s6.f1 s6.F L = 4 := by
    have hAB : NameL s6.f1 [nA, nB] := ⟨by decide, fun t => by
      rw [HS6.out.2.1]
      by_cases e1 : t = nB
      · simp [e1]
      · by_cases e2 : t = nA
        · simp [e2]
        · simp [e1, e2]⟩
    have hnd := HM6.out.2.1.fls.nodup
    rw [usd_perm (hL.perm hAB)]
    show (fil s6.F (s6.f1 (litS nA))).bs.length + ((fil s6.F (s6.f1 (litS nB))).bs.length + 0) = 4
    rw [HS6.out.2.1, HS6.out.2.1, if_neg (by decide), if_pos rfl, if_pos rfl]
    have e1 := fil_of hnd (x := ⟨g, 0, a5, c5, 2, [120, 121, 122]⟩) (by rw [HS6.out.1]; simp)
    have e2 := fil_of hnd (x := ⟨g6, 1, a6, c6, 0, [113]⟩) (by rw [HS6.out.1]; simp)
    simp only [Fi.ptr] at e1 e2
    rw [e1, e2]
    rfl
  have HM7 := Lib.hid (And.intro (HM6.out.1.trans (hb.mono HM6.out.1.size)) (And.intro (HM6.out.2.1.below hb) HM6.out.2.2))
  clear hL hb HC6 HM6
  rw [hu]
  clear hu
  have HC7 := Lib.hid (crash_any HM7.out.2.1 HM7.out.2.2 (by omega) 0 (by omega) (row_nil w7 none) (fun ad h => by cases h) (cc := 0))
  go_wp2_with fail
  refine HC7.out.mono ?_
  rintro e w8 ⟨rfl, m8, n8, k8, hm⟩
  obtain ⟨s8, hs8⟩ : ∃ s, s = ({ n := s6.n, m1 := m8, m2 := n8, k1 := k8, k2 := k8, pa := none, pn := 0, pc := 0, f1 := s6.f2, f2 := s6.f2, vs := [], F := crF s6.f2 [] s6.F } : Sta) := ⟨_, rfl⟩
  have hm' : Mv w7 w.heap.size p 100 s6 w8 s8 := by rw [hs8]; exact hm
  have HM8 := Lib.hid (And.intro (HM7.out.1.trans (hm'.belowB HM7.out.2.1)) hm'.now)
  have HS8 : Hid ((∃ x ∈ s8.F, x.ptr = .pointer (some ⟨g, 0, none⟩) ∧ x.bs = [120, 121]) ∧ s8.f1 = s2.f1) := Lib.hid ⟨⟨(⟨g, 0, a5, c5, 2, [120, 121, 122]⟩ : Fi).cr [], by
      rw [hs8]
      refine List.mem_map.2 ⟨⟨g, 0, a5, c5, 2, [120, 121, 122]⟩, by rw [HS6.out.1]; simp, ?_⟩
      rw [if_pos ⟨nA, by rw [HS6.out.2.2, HS2.out.2, if_pos rfl]; rfl⟩], rfl, rfl⟩, by rw [hs8]; exact HS6.out.2.2⟩
  clear hm hm' hs8 HC7 HM7
  obtain ⟨x, hx, hxp, hxb⟩ := HS8.out.1
  have HX : Hid (x ∈ s8.F ∧ x.ptr = .pointer (some ⟨g, 0, none⟩) ∧ x.bs = [120, 121]) := Lib.hid ⟨hx, hxp, hxb⟩
  have hfa : s8.f1 (litS nA) = some (.pointer (some ⟨x.g, 0, none⟩)) := by rw [HS8.out.2, HS2.out.2, if_pos rfl, ← hxp]; rfl
  have hfls := HM8.out.2.fls
  have HC8 := Lib.hid (read_some HM8.out.2.blk HM8.out.2.room HM8.out.2.mp1 (s := nA) (by decide) hfa (hfls.blk x hx) ((hfls.own x hx).row (hfls.byte x hx)) (fun ha => ⟨((hfls.own x hx).cap.2.2 ha).1, ((hfls.own x hx).cap.2.2 ha).2⟩) (by rw [hxb]; decide))
  rw [hxb] at HC8
  clear hx hxp hxb hfa hfls
  go_wp2_with fail
  refine HC8.out.mono ?_
  rintro e w9 ⟨a9, c9, rfl, ho9, hb9⟩
  have HM9 := Lib.hid (And.intro (HM8.out.1.trans (hb9.mono HM8.out.1.size)) (HM8.out.2.below hb9))
  have HO9 := Lib.hid ho9
  clear ho9 hb9 HC8 HM8
  have HC9 := Lib.hid (read_none HM9.out.2.blk HM9.out.2.room HM9.out.2.mp1 (s := nB) (by decide) (by rw [HS8.out.2, HS2.out.2, if_neg (by decide)]))
  go_wp2_with fail
  refine HC9.out.mono ?_
  rintro e w10 ⟨rfl, hb10⟩
  have HM10 := Lib.hid (And.intro (HM9.out.1.trans (hb10.mono HM9.out.1.size)) (HM9.out.2.below hb10))
  have HO10 := Lib.hid (HO9.out.below hb10)
  have kx : (convert 23 9 (.slice a9 2 c9)).run Try.prog w10 = .ok (.string (strOf [120, 121])) w10 := conv_any (HO10.out.row (by simp))
  have ky : strOf [120, 121] = ⟨#[120, 121]⟩ := by decide
  rw [ky] at kx
  clear hb10 HC9 ky
  have HC10 := Lib.hid (list_any HM10.out.2 (by
    have h1 : NameL s8.f1 [nA] := ⟨by decide, fun t => by rw [HS8.out.2, HS2.out.2]; by_cases e : t = nA <;> simp [e]⟩
    obtain ⟨L, hL, hl⟩ := mpF_names HM10.out.2.mp1
    have := (hL.perm h1).length_eq
    simp at this
    omega))
  go_wp2_with fail
  refine HC10.out.mono ?_
  rintro e w11 ⟨a11, c11, L, hL, _, rfl, _, hb11⟩
  have hlen : L.length = 1 := by
    have h1 : NameL s8.f1 [nA] := ⟨by decide, fun t => by rw [HS8.out.2, HS2.out.2]; by_cases e : t = nA <;> simp [e]⟩
    have := (hL.perm h1).length_eq
    simpa using this
  have HB := Lib.hid (HM10.out.1.trans (hb11.mono HM10.out.1.size))
  rw [hlen]
  clear hL hlen hb11 HC10
  go_wp2_with fail
  go_ret
  exact ⟨rfl, HB.out⟩
end Go.Proofs.Ytjpmjidpdgikgaa
