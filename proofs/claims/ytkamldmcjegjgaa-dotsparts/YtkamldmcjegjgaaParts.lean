/- DotsParts: what is in a set is what its closed part has, and what is loose; what is missing is neither, and something of its replica stands behind it. No condition. -/
import Derived.Test.YtkamldmcjegjgaaSb
namespace Go.Proofs.Ytkamldmcjegjgaa
open Go.ChangeShapes Go.WideShapes Go.ChangeAt Go.RowKit

namespace DotsParts
/-- The set, the dot that came in, and the closed part. -/
structure Pt (w W : World) (p m : Nat) (v c : V) (L : List Dt) (a : Option Addr) (n : Nat) (l : List Dt) (k x y g : Nat) : Prop where
  sb : Sb w W p m v c L a n l k
  dot : Blk W (w.heap.size + 1) 34 #[.int .u8 (x : Int), .int .u32 (y : Int)]
  vec : Blk W g 24 c.arr
section
variable {w W W' : World} {p m : Nat} {v c : V} {L : List Dt} {a : Option Addr} {n : Nat} {l : List Dt} {k x y g : Nat}
theorem Pt.below (h : Pt w W p m v c L a n l k x y g) (hb : Below W.heap.size W W') : Pt w W' p m v c L a n l k x y g := ⟨h.sb.below hb, h.dot.below hb, h.vec.below hb⟩
theorem Pt.drew (h : Pt w W p m v c L a n l k x y g) : Pt w W.drew p m v c L a n l k x y g := ⟨h.sb.drew, h.dot, h.vec⟩
theorem Pt.num (h : Pt w W p m v c L a n l k x y g) {i : Nat} (hi : i < 16) : W.cell? ⟨g, i, none⟩ = some (.int .u32 (c.at_ i : Int)) := by rw [h.vec.cell, V.arr_at _ hi]
end

theorem miss_raw {c : V} {L : List Dt} (h : Norm c L) : ∀ x ∈ miss c L, Raw x := fun x hx => by
  obtain ⟨_, _, z, hz, e, h2⟩ := (mem_miss L c h.srt h.abv x).1 hx
  obtain ⟨h3, h4, _⟩ := h.mem z hz
  exact ⟨by omega, by omega⟩

/-- A loose dot. -/
theorem loose_facts {c : V} {L : List Dt} (h : Norm c L) {x : Dt} (hx : x ∈ L) : V.hasB c x.1 x.2 = false ∧ inB c L x = true ∧ inB c L (x.1, c.at_ x.1 + 1) = false := by
  refine ⟨?_, (inB_iff _ _ _).2 (.inr hx), ?_⟩
  · rw [← Bool.not_eq_true, hasB_iff]
    rintro ⟨_, h2⟩
    have := (h.mem x hx).2.2
    omega
  · rw [← Bool.not_eq_true, inB_iff]
    exact h.not_next x.1
/-- A dot that is missing. -/
theorem miss_facts {c : V} {L : List Dt} (h : Norm c L) {x : Dt} (hx : x ∈ miss c L) : inB c L x = false ∧ V.hasB c x.1 x.2 = false ∧ ∃ z ∈ L, z.1 = x.1 ∧ x.2 < z.2 := by
  obtain ⟨h1, h2, h3⟩ := (mem_miss L c h.srt h.abv x).1 hx
  have h4 : V.hasB c x.1 x.2 = false := by
    rw [← Bool.not_eq_true, hasB_iff]
    rintro ⟨_, h5⟩
    omega
  refine ⟨?_, h4, h3⟩
  rw [← Bool.not_eq_true, inB_iff]
  rintro (h5 | h5)
  · rw [h4] at h5; cases h5
  · exact h2 h5

/-- Whether one of the first j is the dot, or the closed part has it. -/
def seen (c : V) (L : List Dt) (d : Dt) (j : Nat) : Bool := V.hasB c d.1 d.2 || decide (d ∈ L.take j)
theorem seen_zero (c : V) (L : List Dt) (d : Dt) : seen c L d 0 = V.hasB c d.1 d.2 := by simp [seen]
theorem seen_all (c : V) (L : List Dt) (d : Dt) : seen c L d L.length = inB c L d := by simp [seen, inB]
theorem seen_succ (c : V) (L : List Dt) (r s x y : Nat) {j : Nat} (h : L[j]? = some (r, s)) : seen c L (x, y) (j + 1) = (seen c L (x, y) j || deq r s x y) := by
  have ht : L.take (j + 1) = L.take j ++ [(r, s)] := by rw [List.take_add_one, h]; rfl
  rw [Bool.eq_iff_iff]
  simp only [seen, ht, Bool.or_eq_true, decide_eq_true_eq, List.mem_append, List.mem_singleton, deq]
  constructor
  · rintro (h1 | h1 | h1)
    · exact .inl (.inl h1)
    · exact .inl (.inr h1)
    · exact .inr h1.symm
  · rintro ((h1 | h1) | h1)
    · exact .inl h1
    · exact .inr (.inl h1)
    · exact .inr (.inr h1.symm)

/-- Whether one of the first j stands behind. -/
def behind (L : List Dt) (x : Dt) (j : Nat) : Bool := (L.take j).any fun z => decide (z.1 = x.1) && decide (x.2 < z.2)
theorem behind_zero (L : List Dt) (x : Dt) : behind L x 0 = false := by simp [behind]
theorem behind_succ (L : List Dt) (x : Dt) (r s : Nat) {j : Nat} (h : L[j]? = some (r, s)) : behind L x (j + 1) = (behind L x j || (decide (r = x.1) && decide (x.2 < s))) := by
  have ht : L.take (j + 1) = L.take j ++ [(r, s)] := by rw [List.take_add_one, h]; rfl
  simp [behind, ht]
theorem behind_all {L : List Dt} {x : Dt} (h : ∃ z ∈ L, z.1 = x.1 ∧ x.2 < z.2) : behind L x L.length = true := by
  obtain ⟨z, hz, h1, h2⟩ := h
  simp only [behind, List.take_length, List.any_eq_true, Bool.and_eq_true, decide_eq_true_eq]
  exact ⟨z, hz, h1, h2⟩

set_option maxHeartbeats 8000000 in
set_option maxRecDepth 100000 in
theorem walk (v : V) (ab : Option Addr) (nb cb : Nat) (l : List Dt) (x y : Nat) (w : World) (_hl : nb ≤ maxLen) (hR : DL w ab nb l) (hx : x < 256) (hy : y < 4294967296) : Calls Try.prog 8 #[.agg v.arr, .slice ab nb cb, dotV x y] w (Says (.bool true) w) := by
  have HRR := Lib.hid (fun w => rright_any v 16 w (by omega) (by omega))
  have hb1 := fun (v : V) (w : World) => box24 v w
  have HT := Lib.hid (vdot_new w v x y)
  have HDL := Lib.hid hR
  have HXY := Lib.hid (raw_of hx hy)
  clear hR
  go_enter Try.func8, Try.ntmps8
  go_wp2_with fail
  clear hb1
  generalize (w.alloc (.cells v.arr 24)).alloc (.cells #[.int .u8 (x : Int), .int .u32 (y : Int)] 34) = W at HT
  refine (alive_any _).mono ?_
  rintro e w1 ⟨rfl, hb⟩
  have HT1 := Lib.hid (HT.out.below hb)
  clear hb HT
  go_wp2_with (refine wpList_runW (exec_load24 rfl rfl HT1.out.one) (by kernel_rfl) ?_)
  refine (new_any v _).mono ?_
  rintro e w2 hP
  rcases hP with ⟨hrt, rfl, hb⟩ | ⟨hrt, p, m, rfl, hg, hp, hm, hb⟩
  · rw [hrt] at HRR
    have HT2 := Lib.hid (HT1.out.below hb)
    clear hb hrt
    go_wp2_with (refine wpList_runW (exec_load24 rfl rfl HT2.out.one) (by kernel_rfl) ?_)
    refine (HRR.out _).mono ?_
    rintro e w3 ⟨rfl, hb⟩
    have HT3 := Lib.hid (HT2.out.below hb)
    clear hb
    go_wp2_with fail
    go_ret
    exact ⟨rfl, HT3.out.old⟩
  · have H0 := Lib.hid (sb_new HT1.out.one HDL.out HT1.out.old hrt hg hp hm hb)
    have HD0 : Hid (Blk w2 (w.heap.size + 1) 34 #[.int .u8 (x : Int), .int .u32 (y : Int)]) := Lib.hid (HT1.out.dot.below hb)
    have HPM : Hid (w.heap.size + 1 < p ∧ w.heap.size + 1 < m) := Lib.hid (by have := HT1.out.dot.lt; omega)
    clear hrt hg hp hm hb HRR
    go_wp2_with fail
    go_loopw [8] (fun i wr => ∃ (k : Nat) (c : V) (L : List Dt), k ≤ 60 ∧ k ≤ nb ∧ i = .int .i64 (k : Int) ∧ Hid (Sb w wr p m v c L ab nb l k) ∧ Hid (Blk wr (w.heap.size + 1) 34 #[.int .u8 (x : Int), .int .u32 (y : Int)])) (fun i _ => 60 - (intOf i).toNat)
    case atStart => exact ⟨0, v, [], by omega, by omega, rfl, H0, HD0⟩
    case round =>
      obtain ⟨k, c, L, hk6, hkn, rfl, HS, HD⟩ := hrel
      by_cases hlt : k < nb ∧ k < 60
      · obtain ⟨hl1, hl2⟩ := hlt
        obtain ⟨⟨r, s⟩, hxx⟩ : ∃ x, l[k]? = some x := ⟨l[k]'(by rw [HDL.out.len]; exact hl1), by simp⟩
        obtain ⟨b1, o1, hab, hc1⟩ := HS.out.arg.cells.resolve_left (by omega)
        obtain ⟨c1, c2⟩ := hc1 k _ hxx
        have HRW : Hid (Raw (r, s)) := Lib.hid (HDL.out.raw _ (List.mem_of_getElem? hxx))
        subst hab
        simp only at c1 c2
        clear hxx hc1
        go_wp2_with fail
        clear c1 c2
        refine (gadd_any HS.out.grp HS.out.nm (r, s) HRW.out (by have := HS.out.len; omega)).mono ?_
        rintro e w5 ⟨c', L', rfl, ha, hg, hkp⟩
        have HS5 := Lib.hid (HS.out.add ha hg hkp)
        have HD5 : Hid (Blk w5 (w.heap.size + 1) 34 #[.int .u8 (x : Int), .int .u32 (y : Int)]) := Lib.hid (HD.out.kept hkp (by have := HPM.out; omega))
        clear ha hg hkp
        go_wp2_with fail
        go_roundw
        case rel => exact ⟨k + 1, c', L', by omega, by omega, by go_num, HS5, HD5⟩
        case measure => simp [intOf]; omega
      · have hcase : (nb : Int) ≤ (k : Int) ∨ ((k : Int) < (nb : Int) ∧ (60 : Int) ≤ (k : Int)) := by omega
        have hkn' : (k : Int) ≤ (nb : Int) := by omega
        have HK6 : Hid (k ≤ 60) := Lib.hid hk6
        rcases hcase with hcc | ⟨hcc, hcd⟩
        all_goals
          go_wp2_with fail
          refine (closed_any HS.out.grp).mono ?_
          rintro e y1 ⟨rfl, hb⟩
          have HS1 := Lib.hid (HS.out.below hb)
          have HD1 := Lib.hid (HD.out.below hb)
          clear hb
          have HV := Lib.hid (laid24 y1 c)
          have HP0 : Hid (Pt w ((y1.alloc (.cells V.zero.arr 24)).setRow y1.heap.size c.arr) p m v c L ab nb l k x y y1.heap.size) := Lib.hid ⟨HS1.out.below HV.out.2, HD1.out.below HV.out.2, HV.out.1⟩
          have c1 : ((y1.alloc (.cells V.zero.arr 24)).setRow y1.heap.size c.arr).cell? ⟨w.heap.size + 1, 0, none⟩ = some (.int .u8 (x : Int)) := by rw [HP0.out.dot.cell]; rfl
          have c2 : ((y1.alloc (.cells V.zero.arr 24)).setRow y1.heap.size c.arr).cell? ⟨w.heap.size + 1, 1, none⟩ = some (.int .u32 (y : Int)) := by rw [HP0.out.dot.cell]; rfl
          go_wp2_with (first | (refine wpList_run rfl (exec_alloc24 rfl) ?_) | (refine wpList_void rfl rfl (exec_store24 (u := c) rfl rfl rfl (Blk.new y1 24 V.zero.arr)) ?_) | (refine wpList_run rfl (exec_load24 rfl rfl HP0.out.vec) ?_))
          clear c1 c2
          generalize (y1.alloc (.cells V.zero.arr 24)).setRow y1.heap.size c.arr = W0 at HP0
          obtain ⟨g, hg⟩ : ∃ g, y1.heap.size = g := ⟨_, rfl⟩
          rw [hg] at HP0
          rw [hg]
          clear hg HV HS1 HD1
          have HL9 : Hid (L.length ≤ 900) := Lib.hid (by have := HS.out.len; have := HK6.out; omega)
          have HNM := Lib.hid HS.out.nm
          have HRL := Lib.hid HS.out.grp.raw
          have hL9 : L.length ≤ 900 := HL9.out
          clear HS HD hlt hkn' hcc
          obtain ⟨b0, hb0⟩ : ∃ b, V.hasB c x y = b := ⟨_, rfl⟩
          have HB0 : Hid (b0 = seen c L (x, y) 0) := Lib.hid (by rw [seen_zero, hb0])
          have hch := rhas_any c x y W0 hx hy
          rw [hb0] at hch
          clear hb0
          refine hch.mono ?_
          rintro e y2 ⟨rfl, hb⟩
          have HP2 := Lib.hid (HP0.out.below hb)
          clear hb hch
          go_wp2_with fail
          refine (gloose_any HP2.out.sb.grp (by omega)).mono ?_
          rintro e y3 ⟨a4, cap4, rfl, ho, hb⟩
          have HP3 := Lib.hid (HP2.out.below hb)
          have HL3 := Lib.hid (ho.dl HRL.out)
          clear hb ho
          go_wp2_with fail
          go_loopw [51, 10] (fun i o wr => ∃ (j : Nat) (b : Bool), j ≤ L.length ∧ i = .int .i64 (j : Int) ∧ o = .bool b ∧ Hid (b = seen c L (x, y) j) ∧ Hid (Pt w wr p m v c L ab nb l k x y g) ∧ Hid (DL wr a4 L.length L)) (fun i _ _ => L.length - (intOf i).toNat)
          case atStart => exact ⟨0, b0, by omega, rfl, rfl, HB0, HP3, HL3⟩
          case round =>
            obtain ⟨j, b, hj, rfl, rfl, HB, HP, HD⟩ := hrel
            by_cases hjl : j < L.length
            · obtain ⟨⟨r, s⟩, hxx⟩ : ∃ z, L[j]? = some z := ⟨L[j], by simp⟩
              obtain ⟨b1, o1, hab, hc1⟩ := HD.out.cells.resolve_left (by omega)
              obtain ⟨c1, c2⟩ := hc1 j _ hxx
              subst hab
              simp only at c1 c2
              have hmL := List.mem_of_getElem? hxx
              have hlf := loose_facts HNM.out hmL
              have hrw := HRL.out _ hmL
              have hnm := HNM.out.mem _ hmL
              simp only at hlf hnm
              have hr16 : r < 16 := hnm.1
              have hr256 : r < 256 := hrw.1
              have hs32 : s < 4294967296 := hrw.2
              obtain ⟨z, hz⟩ : ∃ z, c.at_ r + 1 = z := ⟨_, rfl⟩
              rw [hz] at hlf
              have HW1 : Hid (IntKind.u32.wrap ((c.at_ r : Int) + 1) = (z : Int)) := Lib.hid (by have := HNM.out.top r hr16; rw [wrap_succ (by omega), hz])
              have hz32 : z < 4294967296 := by have := HNM.out.top r hr16; omega
              have HF := Lib.hid hlf
              have HRS := Lib.hid hrw
              have HSQ := Lib.hid (seen_succ c L r s x y hxx)
              obtain ⟨dq, hdq⟩ : ∃ dq, deq r s x y = dq := ⟨_, rfl⟩
              rw [hdq, ← HB.out] at HSQ
              have HDQ := Lib.hid hdq
              clear hxx hc1 hmL hlf hrw hnm hz hdq
              have HP4 := Lib.hid (HP.out.below (below_one wr (.cells #[.int .u8 (r : Int), .int .u32 (s : Int)] 34)))
              have HD4 := Lib.hid (HD.out.below (below_one wr (.cells #[.int .u8 (r : Int), .int .u32 (s : Int)] 34)))
              have HN4 := Lib.hid (Blk.new wr 34 #[.int .u8 (r : Int), .int .u32 (s : Int)])
              have d1 : (wr.alloc (.cells #[.int .u8 (r : Int), .int .u32 (s : Int)] 34)).cell? ⟨w.heap.size + 1, 0, none⟩ = some (.int .u8 (x : Int)) := by rw [HP4.out.dot.cell]; rfl
              have d2 : (wr.alloc (.cells #[.int .u8 (r : Int), .int .u32 (s : Int)] 34)).cell? ⟨w.heap.size + 1, 1, none⟩ = some (.int .u32 (y : Int)) := by rw [HP4.out.dot.cell]; rfl
              cases b
              all_goals
                go_wp2_with (refine wpList_runW (exec_eql34 rfl rfl rfl HDQ.out) (by kernel_rfl) ?_)
                clear c1 c2 d1 d2
                generalize wr.alloc (.cells #[.int .u8 (r : Int), .int .u32 (s : Int)] 34) = W4 at HP4 HD4 HN4
                obtain ⟨d, hd⟩ : ∃ d, wr.heap.size = d := ⟨_, rfl⟩
                rw [hd] at HN4
                rw [hd]
                clear hd
                refine wp_region_held_drew (S := fun w' => Pt w w' p m v c L ab nb l k x y g ∧ DL w' (some ⟨b1, o1, none⟩) L.length L ∧ Blk w' d 34 #[.int .u8 (r : Int), .int .u32 (s : Int)]) (by kernel_rfl) ⟨HP4.out.drew, HD4.out.drew, HN4.out⟩ (fun hS => ?_)
                refine held_take 0 61 (.agg c.arr) rfl rfl (by kernel_rfl) (by kernel_rfl) (by kernel_rfl) (fun _ _ _ h => h) (by kernel_rfl) (fun _ h => exec_load24 rfl rfl h.1.vec) hS ?_
                simp only [Act.put, List.setIfInBounds_toArray, List.set_cons_zero, List.set_cons_succ]
                refine held_take 1 62 (dotV r s) rfl rfl (by kernel_rfl) (by kernel_rfl) (by kernel_rfl) (fun _ _ _ h => h) (by kernel_rfl) (fun _ h => exec_load34 rfl rfl h.2.2) hS ?_
                simp only [Act.put, List.setIfInBounds_toArray, List.set_cons_zero, List.set_cons_succ]
                refine held_call 2 63 23 #[(.agg c.arr), (dotV r s)] (.bool false) rfl (by kernel_rfl) rfl (by kernel_rfl) (by kernel_rfl) (HF.out.1 ▸ rhas_any c r s _ hr256 hs32) (fun _ h hb => ⟨h.1.below hb, h.2.1.below hb, h.2.2.below hb⟩) hS (fun w102 hS => ?_)
                simp only [Act.put, List.setIfInBounds_toArray, List.set_cons_zero, List.set_cons_succ]
                refine held_take 3 64 (.bool false) rfl rfl (by kernel_rfl) (by kernel_rfl) (by kernel_rfl) (fun _ _ _ h => h) (by kernel_rfl) (fun _ _ => rfl) hS ?_
                simp only [Act.put, List.setIfInBounds_toArray, List.set_cons_zero, List.set_cons_succ]
                refine held_take 4 65 (.pointer (some ⟨p, 0, none⟩)) rfl rfl (by kernel_rfl) (by kernel_rfl) (by kernel_rfl) (fun _ _ _ h => h) (by kernel_rfl) (fun _ _ => rfl) hS ?_
                simp only [Act.put, List.setIfInBounds_toArray, List.set_cons_zero, List.set_cons_succ]
                refine held_take 5 66 (dotV r s) rfl rfl (by kernel_rfl) (by kernel_rfl) (by kernel_rfl) (fun _ _ _ h => h) (by kernel_rfl) (fun _ h => exec_load34 rfl rfl h.2.2) hS ?_
                simp only [Act.put, List.setIfInBounds_toArray, List.set_cons_zero, List.set_cons_succ]
                refine held_call 6 67 12 #[(.pointer (some ⟨p, 0, none⟩)), (dotV r s)] (.bool true) rfl (by kernel_rfl) rfl (by kernel_rfl) (by kernel_rfl) (HF.out.2.1 ▸ ghas_any hS.1.sb.grp (r, s) HRS.out) (fun _ h hb => ⟨h.1.below hb, h.2.1.below hb, h.2.2.below hb⟩) hS (fun w106 hS => ?_)
                simp only [Act.put, List.setIfInBounds_toArray, List.set_cons_zero, List.set_cons_succ]
                refine held_take 7 68 (.bool false) rfl rfl (by kernel_rfl) (by kernel_rfl) (by kernel_rfl) (fun _ _ _ h => h) (by kernel_rfl) (fun _ _ => rfl) hS ?_
                simp only [Act.put, List.setIfInBounds_toArray, List.set_cons_zero, List.set_cons_succ]
                refine held_take 8 69 (.bool false) rfl rfl (by kernel_rfl) (by kernel_rfl) (by kernel_rfl) (fun _ _ _ h => h) (by kernel_rfl) (fun _ _ => rfl) hS ?_
                simp only [Act.put, List.setIfInBounds_toArray, List.set_cons_zero, List.set_cons_succ]
                refine held_take 9 70 (.bool false) rfl rfl (by kernel_rfl) (by kernel_rfl) (by kernel_rfl) (fun _ _ _ h => h) (by kernel_rfl) (fun _ _ => rfl) hS ?_
                simp only [Act.put, List.setIfInBounds_toArray, List.set_cons_zero, List.set_cons_succ]
                refine held_take 10 71 (.pointer (some ⟨p, 0, none⟩)) rfl rfl (by kernel_rfl) (by kernel_rfl) (by kernel_rfl) (fun _ _ _ h => h) (by kernel_rfl) (fun _ _ => rfl) hS ?_
                simp only [Act.put, List.setIfInBounds_toArray, List.set_cons_zero, List.set_cons_succ]
                refine held_take 11 72 (.pointer (some ⟨d, 0, none⟩)) rfl rfl (by kernel_rfl) (by kernel_rfl) (by kernel_rfl) (fun _ _ _ h => h) (by kernel_rfl) (fun _ _ => (by kernel_rfl)) hS ?_
                simp only [Act.put, List.setIfInBounds_toArray, List.set_cons_zero, List.set_cons_succ]
                refine held_take 12 73 (.int .u8 (r : Int)) rfl rfl (by kernel_rfl) (by kernel_rfl) (by kernel_rfl) (fun _ _ _ h => h) (by kernel_rfl) (fun _ h => exec_cell rfl rfl (load_cell agg5 (h.2.2.cell 0))) hS ?_
                simp only [Act.put, List.setIfInBounds_toArray, List.set_cons_zero, List.set_cons_succ]
                refine held_take 13 74 (.pointer (some ⟨d, 0, none⟩)) rfl rfl (by kernel_rfl) (by kernel_rfl) (by kernel_rfl) (fun _ _ _ h => h) (by kernel_rfl) (fun _ _ => (by kernel_rfl)) hS ?_
                simp only [Act.put, List.setIfInBounds_toArray, List.set_cons_zero, List.set_cons_succ]
                refine held_take 14 75 (.int .u8 (r : Int)) rfl rfl (by kernel_rfl) (by kernel_rfl) (by kernel_rfl) (fun _ _ _ h => h) (by kernel_rfl) (fun _ h => exec_cell rfl rfl (load_cell agg5 (h.2.2.cell 0))) hS ?_
                simp only [Act.put, List.setIfInBounds_toArray, List.set_cons_zero, List.set_cons_succ]
                refine held_take 15 76 (.pointer (some ⟨g, r, none⟩)) rfl rfl (by kernel_rfl) (by kernel_rfl) (by kernel_rfl) (fun _ _ _ h => h) (by kernel_rfl) (fun _ _ => exec_index24 rfl rfl rfl hr16) hS ?_
                simp only [Act.put, List.setIfInBounds_toArray, List.set_cons_zero, List.set_cons_succ]
                refine held_take 16 77 (.int .u32 (c.at_ r : Int)) rfl rfl (by kernel_rfl) (by kernel_rfl) (by kernel_rfl) (fun _ _ _ h => h) (by kernel_rfl) (fun _ h => exec_cell rfl rfl (load_cell agg22 (h.1.num hr16))) hS ?_
                simp only [Act.put, List.setIfInBounds_toArray, List.set_cons_zero, List.set_cons_succ]
                refine held_take 17 78 (.int .u32 (z : Int)) rfl rfl (by kernel_rfl) (by kernel_rfl) (by kernel_rfl) (fun _ _ _ h => h) (by kernel_rfl) (fun _ _ => exec_succ rfl rfl rfl HW1.out) hS ?_
                simp only [Act.put, List.setIfInBounds_toArray, List.set_cons_zero, List.set_cons_succ]
                refine held_take 18 79 (dotV r z) rfl rfl (by kernel_rfl) (by kernel_rfl) (by kernel_rfl) (fun _ _ _ h => h) (by kernel_rfl) (fun _ _ => exec_dot rfl rfl rfl) hS ?_
                simp only [Act.put, List.setIfInBounds_toArray, List.set_cons_zero, List.set_cons_succ]
                refine held_call 19 80 12 #[(.pointer (some ⟨p, 0, none⟩)), (dotV r z)] (.bool false) rfl (by kernel_rfl) rfl (by kernel_rfl) (by kernel_rfl) (HF.out.2.2 ▸ ghas_any hS.1.sb.grp (r, z) (raw_of hr256 hz32)) (fun _ h hb => ⟨h.1.below hb, h.2.1.below hb, h.2.2.below hb⟩) hS (fun w119 hS => ?_)
                simp only [Act.put, List.setIfInBounds_toArray, List.set_cons_zero, List.set_cons_succ]
                refine held_take 20 81 (.bool false) rfl rfl (by kernel_rfl) (by kernel_rfl) (by kernel_rfl) (fun _ _ _ h => h) (by kernel_rfl) (fun _ _ => rfl) hS ?_
                simp only [Act.put, List.setIfInBounds_toArray, List.set_cons_zero, List.set_cons_succ]
                refine wpAnyH_done (by kernel_rfl) ?_ _
                have HP5 := Lib.hid hS.1
                have HD5 := Lib.hid hS.2.1
                clear hS
                go_wp2_with fail
                go_roundw
                case rel => exact ⟨j + 1, _, by omega, by go_num, rfl, Lib.hid HSQ.out.symm, HP5, HD5⟩
                case measure => simp [intOf]; omega
            · obtain rfl : j = L.length := by omega
              have HBE : Hid (b = inB c L (x, y)) := Lib.hid (by rw [HB.out, seen_all])
              have HMI : Hid (∀ (w' : World), Grp w' p m c L → Calls Try.prog 21 #[.pointer (some ⟨p, 0, none⟩)] w' (Lists (miss c L) w')) := Lib.hid (fun w' h => gmissing_any h HNM.out HL9.out)
              have HRM := Lib.hid (miss_raw HNM.out)
              have HMF := Lib.hid (fun x (hx : x ∈ miss c L) => miss_facts HNM.out hx)
              have HML : Hid ((miss c L).length < 1000000000) := Lib.hid (by have := len_miss L c (fun x hx => (HNM.out.mem x hx).2.1); omega)
              generalize miss c L = mm at HMI HRM HMF HML
              have hml : mm.length < 1000000000 := HML.out
              go_wp2_with fail
              refine (HMI.out _ HP.out.sb.grp).mono ?_
              rintro e y5 ⟨a5, cap5, rfl, ho, hb⟩
              have HP6 := Lib.hid (HP.out.below hb)
              have HD6 := Lib.hid (ho.dl HRM.out)
              clear hb ho HB
              go_wp2_with fail
              go_loopw [86] (fun i wr => ∃ (j : Nat), j ≤ mm.length ∧ i = .int .i64 (j : Int) ∧ Hid (Pt w wr p m v c L ab nb l k x y g) ∧ Hid (DL wr a5 mm.length mm)) (fun i _ => mm.length - (intOf i).toNat)
              case atStart => exact ⟨0, by omega, rfl, HP6, HD6⟩
              case round =>
                obtain ⟨j, hj, rfl, HP7, HD7⟩ := hrel
                by_cases hjm : j < mm.length
                · obtain ⟨⟨r, s⟩, hxx⟩ : ∃ z, mm[j]? = some z := ⟨mm[j], by simp⟩
                  obtain ⟨b1, o1, hab, hc1⟩ := HD7.out.cells.resolve_left (by omega)
                  obtain ⟨c1, c2⟩ := hc1 j _ hxx
                  subst hab
                  simp only at c1 c2
                  have hmL := List.mem_of_getElem? hxx
                  have hmf := HMF.out _ hmL
                  have hrw := HRM.out _ hmL
                  simp only at hmf
                  have HF := Lib.hid hmf
                  have HRS := Lib.hid hrw
                  have hr256 : r < 256 := hrw.1
                  have hs32 : s < 4294967296 := hrw.2
                  clear hxx hc1 hmL hmf hrw
                  have HP8 := Lib.hid (HP7.out.below (below_one wr (.cells #[.int .u8 (r : Int), .int .u32 (s : Int)] 34)))
                  have HD8 := Lib.hid (HD7.out.below (below_one wr (.cells #[.int .u8 (r : Int), .int .u32 (s : Int)] 34)))
                  have HN8 := Lib.hid (Blk.new wr 34 #[.int .u8 (r : Int), .int .u32 (s : Int)])
                  go_wp2_with fail
                  clear c1 c2
                  generalize wr.alloc (.cells #[.int .u8 (r : Int), .int .u32 (s : Int)] 34) = W8 at HP8 HD8 HN8
                  obtain ⟨d, hd⟩ : ∃ d, wr.heap.size = d := ⟨_, rfl⟩
                  rw [hd] at HN8
                  rw [hd]
                  clear hd
                  refine (gloose_any HP8.out.sb.grp (by omega)).mono ?_
                  rintro e y9 ⟨a9, cap9, rfl, ho, hb⟩
                  have HP9 := Lib.hid (HP8.out.below hb)
                  have HD9 := Lib.hid (HD8.out.below hb)
                  have HN9 := Lib.hid (HN8.out.below hb)
                  have HL9' := Lib.hid (ho.dl HRL.out)
                  clear hb ho
                  go_wp2_with fail
                  go_loopw [93, 15] (fun i o wr => ∃ (f : Nat) (bh : Bool), f ≤ L.length ∧ i = .int .i64 (f : Int) ∧ o = .bool bh ∧ Hid (bh = behind L (r, s) f) ∧ Hid (Pt w wr p m v c L ab nb l k x y g) ∧ Hid (DL wr (some ⟨b1, o1, none⟩) mm.length mm) ∧ Hid (Blk wr d 34 #[.int .u8 (r : Int), .int .u32 (s : Int)]) ∧ Hid (DL wr a9 L.length L)) (fun i _ _ => L.length - (intOf i).toNat)
                  case atStart => exact ⟨0, false, by omega, rfl, rfl, Lib.hid (behind_zero _ _).symm, HP9, HD9, HN9, HL9'⟩
                  case round =>
                    obtain ⟨f, bh, hf, rfl, rfl, HBH, HPf, HDf, HNf, HLf⟩ := hrel
                    by_cases hfl : f < L.length
                    · obtain ⟨⟨r3, s3⟩, hx3⟩ : ∃ z, L[f]? = some z := ⟨L[f], by simp⟩
                      obtain ⟨b3, o3, hab3, hc3⟩ := HLf.out.cells.resolve_left (by omega)
                      obtain ⟨e1, e2⟩ := hc3 f _ hx3
                      subst hab3
                      simp only at e1 e2
                      have HBS := Lib.hid (behind_succ L (r, s) r3 s3 hx3)
                      simp only at HBS
                      clear hx3 hc3
                      have HPg := Lib.hid (HPf.out.below (below_one wr (.cells #[.int .u8 (r3 : Int), .int .u32 (s3 : Int)] 34)))
                      have HDg := Lib.hid (HDf.out.below (below_one wr (.cells #[.int .u8 (r3 : Int), .int .u32 (s3 : Int)] 34)))
                      have HNg := Lib.hid (HNf.out.below (below_one wr (.cells #[.int .u8 (r3 : Int), .int .u32 (s3 : Int)] 34)))
                      have HLg := Lib.hid (HLf.out.below (below_one wr (.cells #[.int .u8 (r3 : Int), .int .u32 (s3 : Int)] 34)))
                      have f1 : (wr.alloc (.cells #[.int .u8 (r3 : Int), .int .u32 (s3 : Int)] 34)).cell? ⟨d, 0, none⟩ = some (.int .u8 (r : Int)) := by rw [HNg.out.cell]; rfl
                      have f2 : (wr.alloc (.cells #[.int .u8 (r3 : Int), .int .u32 (s3 : Int)] 34)).cell? ⟨d, 1, none⟩ = some (.int .u32 (s : Int)) := by rw [HNg.out.cell]; rfl
                      cases bh
                      · by_cases hrr : r3 = r
                        · by_cases hss : s < s3
                          · have HEB : Hid (true = behind L (r, s) (f + 1)) := Lib.hid (by rw [HBS.out, ← HBH.out]; simp [hrr, hss])
                            subst hrr
                            go_wp2_with fail
                            go_roundw
                            case rel => exact ⟨f + 1, true, by omega, by go_num, rfl, HEB, HPg, HDg, HNg, HLg⟩
                            case measure => simp [intOf]; omega
                          · have HEB : Hid (false = behind L (r, s) (f + 1)) := Lib.hid (by rw [HBS.out, ← HBH.out]; simp [hss])
                            subst hrr
                            go_wp2_with fail
                            go_roundw
                            case rel => exact ⟨f + 1, false, by omega, by go_num, rfl, HEB, HPg, HDg, HNg, HLg⟩
                            case measure => simp [intOf]; omega
                        · have HEB : Hid (false = behind L (r, s) (f + 1)) := Lib.hid (by rw [HBS.out, ← HBH.out]; simp [hrr])
                          have hnr : ((r3 : Int) == (r : Int)) = false := by simp; omega
                          go_wp2_with fail
                          go_roundw
                          case rel => exact ⟨f + 1, false, by omega, by go_num, rfl, HEB, HPg, HDg, HNg, HLg⟩
                          case measure => simp [intOf]; omega
                      · have HEB : Hid (true = behind L (r, s) (f + 1)) := Lib.hid (by rw [HBS.out, ← HBH.out]; simp)
                        go_wp2_with fail
                        go_roundw
                        case rel => exact ⟨f + 1, true, by omega, by go_num, rfl, HEB, HPg, HDg, HNg, HLg⟩
                        case measure => simp [intOf]; omega
                    · obtain rfl : f = L.length := by omega
                      have hbt : bh = true := HBH.out.trans (behind_all HF.out.2.2)
                      subst hbt
                      have e1 : wr.cell? ⟨d, 0, none⟩ = some (.int .u8 (r : Int)) := by rw [HNf.out.cell]; rfl
                      have e2 : wr.cell? ⟨d, 1, none⟩ = some (.int .u32 (s : Int)) := by rw [HNf.out.cell]; rfl
                      go_wp2_with fail
                      refine (ghas_any HPf.out.sb.grp (r, s) HRS.out).mono ?_
                      rintro e z1 ⟨rfl, hb⟩
                      rw [HF.out.1]
                      have HPh := Lib.hid (HPf.out.below hb)
                      have HDh := Lib.hid (HDf.out.below hb)
                      have HNh := Lib.hid (HNf.out.below hb)
                      clear hb e1 e2
                      have e1 : z1.cell? ⟨d, 0, none⟩ = some (.int .u8 (r : Int)) := by rw [HNh.out.cell]; rfl
                      have e2 : z1.cell? ⟨d, 1, none⟩ = some (.int .u32 (s : Int)) := by rw [HNh.out.cell]; rfl
                      go_wp2_with (refine wpList_runW (exec_load24 rfl rfl HPh.out.vec) (by kernel_rfl) ?_)
                      refine (rhas_any c r s z1 hr256 hs32).mono ?_
                      rintro e z2 ⟨rfl, hb⟩
                      rw [HF.out.2.1]
                      have HPi := Lib.hid (HPh.out.below hb)
                      have HDi := Lib.hid (HDh.out.below hb)
                      clear hb e1 e2
                      go_wp2_with fail
                      go_roundw
                      case rel => exact ⟨j + 1, by omega, by go_num, HPi, HDi⟩
                      case measure => simp [intOf]; omega
                · obtain rfl : j = mm.length := by omega
                  have e1 : wr.cell? ⟨w.heap.size + 1, 0, none⟩ = some (.int .u8 (x : Int)) := by rw [HP7.out.dot.cell]; rfl
                  have e2 : wr.cell? ⟨w.heap.size + 1, 1, none⟩ = some (.int .u32 (y : Int)) := by rw [HP7.out.dot.cell]; rfl
                  have hgh := ghas_any HP7.out.sb.grp (x, y) HXY.out
                  rw [← HBE.out] at hgh
                  have HGH := Lib.hid hgh
                  clear hgh
                  have HBV := Lib.hid HP7.out.sb.belowV
                  have HRB := Lib.hid (fun w => rbelow_any v c w)
                  rw [HBV.out] at HRB
                  cases b
                  all_goals
                    go_wp2_with fail
                    refine HGH.out.mono ?_
                    rintro e z3 ⟨rfl, hb⟩
                    have HPz := Lib.hid (HP7.out.below hb)
                    clear hb e1 e2
                    go_wp2_with (first | (refine wpList_runW (exec_load24 rfl rfl HPz.out.sb.one) (by kernel_rfl) ?_) | (refine wpList_runW (exec_load24 rfl rfl HPz.out.vec) (by kernel_rfl) ?_))
                    refine (HRB.out _).mono ?_
                    rintro e z4 ⟨rfl, hb⟩
                    have HPy := Lib.hid (HPz.out.below hb)
                    clear hb
                    go_wp2_with fail
                    go_ret
                    exact ⟨rfl, HPy.out.sb.old⟩


set_option maxRecDepth 100000 in
theorem lifted (os : Os) (started : os.Started) (H : Type) (enc : TypeId × Value → H) :
    ReturnsInHanded {} Try.checked os 8 .any (Rows.dotsPartsSpec.pre6 enc Try.prog Try.f8 Rows.dotsPartsRow.domain false) (Rows.dotsPartsSpec.post enc Try.prog Try.f8 false true false false) := by
  refine returnsInHanded_of_change (C := Try.checked) own started (by kernel_rfl) Try.func8
    (ChangeSpec.witness6 (enc := enc) (C := Try.checked) false ⟨#[], #[.agg #[.int .u32 0, .int .u32 0, .int .u32 0, .int .u32 0, .int .u32 0, .int .u32 0, .int .u32 0, .int .u32 0, .int .u32 0, .int .u32 0, .int .u32 0, .int .u32 0, .int .u32 0, .int .u32 0, .int .u32 0, .int .u32 0], .slice none 0 0, .agg #[.int .u8 0, .int .u32 0]], []⟩ 8 (by kernel_rfl) (by kernel_rfl) (by kernel_rfl) (by kernel_rfl)) ?_
  intro W base args ds gs before hval0 hW hcnd _
  have hval : ∀ (j : Nat) t v, Try.f8.params[j]? = some t → args[j]? = some v → Value.okWide Try.prog W .any base t v := hval0
  have hW' := hW
  obtain ⟨p, q, hA0, hV, rfl, hfz, hnd⟩ := hW
  have hA : DataW.TrodAll enc Try.prog W 0 (fun _ => true) true Try.f8.params.toList args.toList ds p := hA0
  rw [Try.params8] at hA hval
  obtain ⟨v0, v1, v2, d0, d1, d2, p0, p1, p2, rfl, rfl, rfl, h0, h1, h2⟩ := trodAll_three hA
  obtain ⟨rfl, rfl⟩ := trodVars_none hV
  have lt0 : ∀ x ∈ p0, x.block < W.heap.size := by obtain ⟨m, hm⟩ := h0; exact DataW.trod_lt m _ _ _ hm
  obtain ⟨a0, rfl⟩ := vec_of (hval 0 24 v0 rfl rfl) h0
  have lt1 : ∀ x ∈ p1, x.block < W.heap.size := by obtain ⟨m, hm⟩ := h1; exact DataW.trod_lt m _ _ _ hm
  obtain ⟨ab, nb, cb, rfl⟩ := okWide_slice Try.underlying25 (hval 1 25 v1 rfl rfl)
  obtain ⟨hl1, l1, hR1⟩ := dots_of h1
  have lt2 : ∀ x ∈ p2, x.block < W.heap.size := by obtain ⟨m, hm⟩ := h2; exact DataW.trod_lt m _ _ _ hm
  obtain ⟨r2, s2, hr2, hs2, rfl⟩ := dot_of (hval 2 34 v2 rfl rfl) h2
  clear hA0 hval0
  refine (walk a0 ab nb cb l1 r2 s2 W hl1 hR1 hr2 hs2).mono fun e W' ⟨he, bel⟩ => ?_
  subst he
  exact ⟨_, rfl, _, _, _, [], _, [], hW', trodAll_mk1 (shut_bool Try.underlying4 _), trodAll_mk3 (Below.trod laidOut (by kernel_rfl) (of_decide_eq_true (by kernel_rfl)) h0 bel lt0) (Below.trod laidOut (by kernel_rfl) (of_decide_eq_true (by kernel_rfl)) h1 bel lt1) (Below.trod laidOut (by kernel_rfl) (of_decide_eq_true (by kernel_rfl)) h2 bel lt2), rfl, bel.frame _, fun h => by cases h⟩
end DotsParts

theorem dotsParts_proved : Rows.DotsPartsSaid :=
  OpenClaim.holds_of_wide 8 Try.f8 rfl rfl rfl rfl rfl rfl rfl ⟨rfl, rfl, rfl, rfl, rfl⟩ rfl rfl rfl rfl rfl (by kernel_rfl) Try.func8 (by kernel_rfl)
    (of_decide_eq_true (by kernel_rfl)) (by unfold Func.isWrapper; first | (rw [if_pos (by decide +kernel)]; kernel_rfl) | (rw [if_neg (by decide +kernel)]; exact ⟨rfl, rfl⟩))
    (fun os started H enc _ => DotsParts.lifted os started H enc)
#print axioms dotsParts_proved
end Go.Proofs.Ytkamldmcjegjgaa
