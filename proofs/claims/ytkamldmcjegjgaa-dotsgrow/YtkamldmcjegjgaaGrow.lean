/- DotsGrow: a set only grows: what is closed never falls, and what was taken is in it. No condition. -/
import Derived.Test.YtkamldmcjegjgaaSb
namespace Go.Proofs.Ytkamldmcjegjgaa
open Go.ChangeShapes Go.WideShapes Go.ChangeAt Go.RowKit

namespace DotsGrow
/-- What was taken. -/
structure In1 (w W : World) (v c : V) (L : List Dt) (ao : Option Addr) (co : Nat) (ins : List Dt) (k : Nat) : Prop where
  own : OwnD W (w.heap.size + 1) ao ins.length co ins
  mem : ∀ x ∈ ins, In c L x ∧ Raw x
  sum : V.sum c + L.length = V.sum v + ins.length
  len : ins.length ≤ k
section
variable {w W W' : World} {v c : V} {L : List Dt} {ao : Option Addr} {co : Nat} {ins : List Dt} {k : Nat}
theorem In1.below (h : In1 w W v c L ao co ins k) (hb : Below W.heap.size W W') : In1 w W' v c L ao co ins k := ⟨h.own.below hb, h.mem, h.sum, h.len⟩
theorem In1.left (h : In1 w W v c L ao co ins k) {p m : Nat} (hg : Grp W p m c L) (hk : Kept (fun k => k = p ∨ k = m) W W') : In1 w W' v c L ao co ins (k + 1) :=
  ⟨h.own.keep hk (by rintro ad had (e | e); exact h.own.ne_blk hg.blk (by decide) ad had e; exact h.own.ne_mp hg.mp ad had e), h.mem, h.sum, by have := h.len; omega⟩
end

set_option maxHeartbeats 8000000 in
set_option maxRecDepth 100000 in
theorem walk (v : V) (ab : Option Addr) (nb cb : Nat) (l : List Dt) (w : World) (_hl : nb ≤ maxLen) (hR : DL w ab nb l) : Calls Try.prog 6 #[.agg v.arr, .slice ab nb cb] w (Says (.bool true) w) := by
  have HRR := Lib.hid (fun w => rright_any v 16 w (by omega) (by omega))
  have hb1 := fun (v : V) (w : World) => box24 v w
  have HO := Lib.hid (Blk.new w 24 v.arr)
  have HB0 := Lib.hid (below_one w (.cells v.arr 24))
  have HDL := Lib.hid hR
  clear hR
  go_enter Try.func6, Try.ntmps6
  go_wp2_with fail
  clear hb1
  generalize w.alloc (.cells v.arr 24) = W at HO HB0
  refine (alive_any _).mono ?_
  rintro e w1 ⟨rfl, hb⟩
  have HO1 := Lib.hid (HO.out.below hb)
  have HB1 := Lib.hid (HB0.out.trans (hb.mono HB0.out.size))
  clear hb HO HB0
  go_wp2_with (refine wpList_runW (exec_load24 rfl rfl HO1.out) (by kernel_rfl) ?_)
  refine (new_any v _).mono ?_
  rintro e w2 hP
  rcases hP with ⟨hrt, rfl, hb⟩ | ⟨hrt, p, m, rfl, hg, hp, hm, hb⟩
  · rw [hrt] at HRR
    have HO2 := Lib.hid (HO1.out.below hb)
    have HB2 := Lib.hid (HB1.out.trans (hb.mono HB1.out.size))
    clear hb hrt
    go_wp2_with (refine wpList_runW (exec_load24 rfl rfl HO2.out) (by kernel_rfl) ?_)
    refine (HRR.out _).mono ?_
    rintro e w3 ⟨rfl, hb⟩
    have HB3 := Lib.hid (HB2.out.trans (hb.mono HB2.out.size))
    clear hb
    go_wp2_with fail
    go_ret
    exact ⟨rfl, HB3.out⟩
  · have H0 := Lib.hid (sb_new HO1.out HDL.out HB1.out hrt hg hp hm hb)
    clear hrt hg hp hm hb HRR
    go_wp2_with fail
    go_loopw [7, 6] (fun i o wr => ∃ (k : Nat) (c : V) (L : List Dt) (ao : Option Addr) (co : Nat) (ins : List Dt), k ≤ 60 ∧ k ≤ nb ∧ i = .int .i64 (k : Int) ∧ o = .slice ao ins.length co ∧ Hid (Sb w wr p m v c L ab nb l k) ∧ Hid (In1 w wr v c L ao co ins k)) (fun i _ _ => 60 - (intOf i).toNat)
    case atStart => exact ⟨0, v, [], none, 0, [], by omega, by omega, rfl, rfl, H0, Lib.hid ⟨own_nil _ _, by simp, by simp, Nat.le_refl _⟩⟩
    case round =>
      obtain ⟨k, c, L, ao, co, ins, hk6, hkn, rfl, rfl, HS, HI⟩ := hrel
      by_cases hlt : k < nb ∧ k < 60
      · obtain ⟨hl1, hl2⟩ := hlt
        obtain ⟨⟨r, s⟩, hx⟩ : ∃ x, l[k]? = some x := ⟨l[k]'(by rw [HDL.out.len]; exact hl1), by simp⟩
        obtain ⟨b1, o1, hab, _⟩ := HS.out.arg.cells.resolve_left (by omega)
        subst hab
        have HX : Hid (∀ w', DL w' (some ⟨b1, o1, none⟩) nb l → w'.cell? ⟨b1, o1 + k * 2, none⟩ = some (.int .u8 (r : Int)) ∧ w'.cell? ⟨b1, o1 + k * 2 + 1, none⟩ = some (.int .u32 (s : Int))) := Lib.hid (fun w' h => by
          obtain ⟨b2, o2, e, hc⟩ := h.cells.resolve_left (by omega)
          cases e
          exact hc k _ hx)
        have HRW : Hid (Raw (r, s)) := Lib.hid (HDL.out.raw _ (List.mem_of_getElem? hx))
        clear hx
        go_wp2_with fail
        refine (closed_any HS.out.grp).mono ?_
        rintro e w3 ⟨rfl, hb⟩
        have HS3 := Lib.hid (HS.out.below hb)
        have HI3 := Lib.hid (HI.out.below hb)
        clear hb
        have HV := Lib.hid (laid24 w3 c)
        have HS4 := Lib.hid (HS3.out.below HV.out.2)
        have HI4 := Lib.hid (HI3.out.below HV.out.2)
        obtain ⟨c1, c2⟩ := HX.out _ HS4.out.arg
        go_wp2_with (first | (refine wpList_run rfl (exec_alloc24 rfl) ?_) | (refine wpList_void rfl rfl (exec_store24 (u := c) rfl rfl rfl (Blk.new w3 24 V.zero.arr)) ?_))
        clear c1 c2
        generalize (w3.alloc (.cells V.zero.arr 24)).setRow w3.heap.size c.arr = W4 at HV HS4 HI4
        have HGG : Hid (Blk W4 w3.heap.size 24 c.arr) := Lib.hid HV.out.1
        obtain ⟨g, hg⟩ : ∃ g, w3.heap.size = g := ⟨_, rfl⟩
        rw [hg] at HGG
        rw [hg]
        clear hg HV
        refine (gadd_any HS4.out.grp HS4.out.nm (r, s) HRW.out (by have := HS4.out.len; omega)).mono ?_
        rintro e w5 ⟨c', L', rfl, ha, hg, hkp⟩
        have HS5 := Lib.hid (HS4.out.add ha hg hkp)
        have HG5 : Hid (Blk w5 g 24 c.arr) := Lib.hid (HGG.out.kept hkp (by rintro (e | e); exact HGG.out.ne HS4.out.grp.blk (by decide) e; exact HS4.out.grp.mp.ne HGG.out e.symm))
        have HBC : Hid (V.belowB c c' = true) := Lib.hid (belowB_of c c' fun i hi => below_of HS5.out.nm HS4.out.nm.top (fun x hx => ha.old hx) hi)
        by_cases he : addE c L (r, s) = 0
        · have hA := ha.took he
          rw [he]
          have HI5 : Hid (OwnD w5 (w.heap.size + 1) ao ins.length co ins) := Lib.hid (HI4.out.left HS4.out.grp hkp).own
          have HMM : Hid (∀ x ∈ ins ++ [(r, s)], In c' L' x ∧ Raw x) := Lib.hid (by
            intro x hx
            rcases List.mem_append.1 hx with hx | hx
            · exact ⟨ha.old (HI4.out.mem x hx).1, (HI4.out.mem x hx).2⟩
            · obtain rfl : x = (r, s) := by simpa using hx
              exact ⟨(hA.mem _).2 (.inr rfl), HRW.out⟩)
          have HSM : Hid (V.sum c' + L'.length = V.sum v + (ins ++ [(r, s)]).length) := Lib.hid (by have := hA.sum; have := HI4.out.sum; simp; omega)
          have HLN : Hid ((ins ++ [(r, s)]).length ≤ k + 1) := Lib.hid (by have := HI4.out.len; simp; omega)
          obtain ⟨c1, c2⟩ := HX.out _ HS5.out.arg
          clear ha hg hkp hA he
          have HO6 := Lib.hid (HI5.out.below (below_one w5 (.cells #[.int .u8 (r : Int), .int .u32 (s : Int)] 34)))
          have HS6 := Lib.hid (HS5.out.below (below_one w5 (.cells #[.int .u8 (r : Int), .int .u32 (s : Int)] 34)))
          have HG6 := Lib.hid (HG5.out.below (below_one w5 (.cells #[.int .u8 (r : Int), .int .u32 (s : Int)] 34)))
          have HD6 := Lib.hid (Blk.new w5 34 #[.int .u8 (r : Int), .int .u32 (s : Int)])
          have HN6 : Hid (ins.length < 1000000000) := Lib.hid (by have := HLN.out; simp at this; omega)
          have HZ6 : Hid (w.heap.size + 1 ≤ (w5.alloc (.cells #[.int .u8 (r : Int), .int .u32 (s : Int)] 34)).heap.size) := Lib.hid (by have := HS6.out.one.lt; omega)
          go_wp2_with (at_builtin; refine wpList_appendD rfl rfl rfl rfl HO6.out HD6.out HN6.out HZ6.out ?_; intro a7 cap7 w7 ho7 hk7 hl7)
          have hS7 : Sb w w7 p m v c' L' (some ⟨b1, o1, none⟩) nb l (k + 1) := HS6.out.kept hk7 (by rintro i ⟨ad, had, rfl⟩; have := (HO6.out.lt ad had).1; omega) (by rintro ⟨ad, had, e⟩; exact HO6.out.ne_blk HS6.out.grp.blk (by decide) ad had e.symm) (by rintro ⟨ad, had, e⟩; exact HO6.out.ne_mp HS6.out.grp.mp ad had e.symm)
          have hI7 : In1 w w7 v c' L' a7 cap7 (ins ++ [(r, s)]) (k + 1) := ⟨by simpa using ho7, HMM.out, HSM.out, HLN.out⟩
          have hG7 : Blk w7 g 24 c.arr := HG6.out.kept hk7 (by rintro ⟨ad, had, e⟩; exact HO6.out.ne_blk HG6.out (by decide) ad had e.symm)
          have HS7 := Lib.hid hS7
          have HI7 := Lib.hid hI7
          have HG7 := Lib.hid hG7
          clear ho7 hk7 hl7 hS7 hI7 hG7 c1 c2
          obtain ⟨i7, hi7⟩ : ∃ i7, ins ++ [(r, s)] = i7 := ⟨_, rfl⟩
          have HL7 : Hid (ins.length + 1 = i7.length) := Lib.hid (by rw [← hi7]; simp)
          rw [hi7] at HI7
          rw [HL7.out]
          clear hi7
          go_wp2_with fail
          refine wp_region_held_drew (S := fun w' => Sb w w' p m v c' L' (some ⟨b1, o1, none⟩) nb l (k + 1) ∧ In1 w w' v c' L' a7 cap7 i7 (k + 1) ∧ Blk w' g 24 c.arr) (by kernel_rfl) ⟨HS7.out.drew, ⟨HI7.out.own, HI7.out.mem, HI7.out.sum, HI7.out.len⟩, HG7.out⟩ (fun hS => ?_)
          refine held_take 0 48 (.agg c.arr) rfl rfl (by kernel_rfl) (by kernel_rfl) (by kernel_rfl) (fun _ _ _ h => h) (by kernel_rfl) (fun _ h => exec_load24 rfl rfl h.2.2) hS ?_
          simp only [Act.put, List.setIfInBounds_toArray, List.set_cons_zero, List.set_cons_succ]
          refine held_take 1 49 (.pointer (some ⟨p, 0, none⟩)) rfl rfl (by kernel_rfl) (by kernel_rfl) (by kernel_rfl) (fun _ _ _ h => h) (by kernel_rfl) (fun _ _ => rfl) hS ?_
          simp only [Act.put, List.setIfInBounds_toArray, List.set_cons_zero, List.set_cons_succ]
          refine held_call 2 50 16 #[(.pointer (some ⟨p, 0, none⟩))] (.agg c'.arr) rfl (by kernel_rfl) rfl (by kernel_rfl) (by kernel_rfl) (closed_any hS.1.grp) (fun _ h hb => ⟨h.1.below hb, h.2.1.below hb, h.2.2.below hb⟩) hS (fun w102 hS => ?_)
          simp only [Act.put, List.setIfInBounds_toArray, List.set_cons_zero, List.set_cons_succ]
          refine held_call 3 51 24 #[(.agg c.arr), (.agg c'.arr)] (.bool true) rfl (by kernel_rfl) rfl (by kernel_rfl) (by kernel_rfl) (HBC.out ▸ rbelow_any c c' _) (fun _ h hb => ⟨h.1.below hb, h.2.1.below hb, h.2.2.below hb⟩) hS (fun w103 hS => ?_)
          simp only [Act.put, List.setIfInBounds_toArray, List.set_cons_zero, List.set_cons_succ]
          refine held_take 4 52 (.bool false) rfl rfl (by kernel_rfl) (by kernel_rfl) (by kernel_rfl) (fun _ _ _ h => h) (by kernel_rfl) (fun _ _ => rfl) hS ?_
          simp only [Act.put, List.setIfInBounds_toArray, List.set_cons_zero, List.set_cons_succ]
          refine held_take 5 53 (.bool false) rfl rfl (by kernel_rfl) (by kernel_rfl) (by kernel_rfl) (fun _ _ _ h => h) (by kernel_rfl) (fun _ _ => rfl) hS ?_
          simp only [Act.put, List.setIfInBounds_toArray, List.set_cons_zero, List.set_cons_succ]
          refine held_take 6 54 (.int .i64 0) rfl rfl (by kernel_rfl) (by kernel_rfl) (by kernel_rfl) (fun _ _ _ h => h) (by kernel_rfl) (fun _ _ => rfl) hS ?_
          simp only [Act.put, List.setIfInBounds_toArray, List.set_cons_zero, List.set_cons_succ]
          refine held_take 7 55 (.bool false) rfl rfl (by kernel_rfl) (by kernel_rfl) (by kernel_rfl) (fun _ _ _ h => h) (by kernel_rfl) (fun _ _ => exec_neqI trivial rfl rfl rfl (by simp)) hS ?_
          simp only [Act.put, List.setIfInBounds_toArray, List.set_cons_zero, List.set_cons_succ]
          refine held_take 8 56 (.bool false) rfl rfl (by kernel_rfl) (by kernel_rfl) (by kernel_rfl) (fun _ _ _ h => h) (by kernel_rfl) (fun _ _ => rfl) hS ?_
          simp only [Act.put, List.setIfInBounds_toArray, List.set_cons_zero, List.set_cons_succ]
          refine held_skip 9 57 rfl rfl (by kernel_rfl) (by kernel_rfl) (by kernel_rfl) (fun _ _ _ h => h) (by kernel_rfl) hS ?_
          simp only [Act.put, List.setIfInBounds_toArray, List.set_cons_zero, List.set_cons_succ]
          refine held_skip 10 58 rfl rfl (by kernel_rfl) (by kernel_rfl) (by kernel_rfl) (fun _ _ _ h => h) (by kernel_rfl) hS ?_
          simp only [Act.put, List.setIfInBounds_toArray, List.set_cons_zero, List.set_cons_succ]
          refine held_skip 11 59 rfl rfl (by kernel_rfl) (by kernel_rfl) (by kernel_rfl) (fun _ _ _ h => h) (by kernel_rfl) hS ?_
          simp only [Act.put, List.setIfInBounds_toArray, List.set_cons_zero, List.set_cons_succ]
          refine held_skip 12 60 rfl rfl (by kernel_rfl) (by kernel_rfl) (by kernel_rfl) (fun _ _ _ h => h) (by kernel_rfl) hS ?_
          simp only [Act.put, List.setIfInBounds_toArray, List.set_cons_zero, List.set_cons_succ]
          refine held_take 13 61 (.bool false) rfl rfl (by kernel_rfl) (by kernel_rfl) (by kernel_rfl) (fun _ _ _ h => h) (by kernel_rfl) (fun _ _ => rfl) hS ?_
          simp only [Act.put, List.setIfInBounds_toArray, List.set_cons_zero, List.set_cons_succ]
          refine held_take 14 62 (.bool false) rfl rfl (by kernel_rfl) (by kernel_rfl) (by kernel_rfl) (fun _ _ _ h => h) (by kernel_rfl) (fun _ _ => rfl) hS ?_
          simp only [Act.put, List.setIfInBounds_toArray, List.set_cons_zero, List.set_cons_succ]
          refine wpAnyH_done (by kernel_rfl) ?_ _
          have HS8 := Lib.hid hS.1
          have HI8 := Lib.hid hS.2.1
          clear hS
          go_wp2_with fail
          go_loopw [65] (fun i wr => ∃ j : Nat, j ≤ i7.length ∧ i = .int .i64 (j : Int) ∧ Hid (Sb w wr p m v c' L' (some ⟨b1, o1, none⟩) nb l (k + 1)) ∧ Hid (In1 w wr v c' L' a7 cap7 i7 (k + 1))) (fun i _ => i7.length - (intOf i).toNat)
          case atStart => exact ⟨0, by omega, rfl, HS8, HI8⟩
          case round =>
            obtain ⟨j, hj, rfl, HSj, HIj⟩ := hrel
            have hi60 : i7.length < 100 := by have := HIj.out.len; omega
            by_cases hjl : j < i7.length
            · obtain ⟨⟨r2, s2⟩, hx2⟩ : ∃ x, i7[j]? = some x := ⟨i7[j], by simp⟩
              have hm2 := HIj.out.mem _ (List.mem_of_getElem? hx2)
              obtain ⟨b2, o2, hab2, hc2⟩ := (HIj.out.own.dl (fun x hx => (HIj.out.mem x hx).2)).cells.resolve_left (by omega)
              subst hab2
              obtain ⟨d1, d2⟩ := hc2 j _ hx2
              have HIN : Hid (inB c' L' (r2, s2) = true) := Lib.hid ((inB_iff _ _ _).2 hm2.1)
              have HR2 := Lib.hid hm2.2
              simp only at d1 d2
              clear hc2 hm2 hx2
              have HSk := Lib.hid (HSj.out.below (below_one wr (.cells #[.int .u8 (r2 : Int), .int .u32 (s2 : Int)] 34)))
              have HIk := Lib.hid (HIj.out.below (below_one wr (.cells #[.int .u8 (r2 : Int), .int .u32 (s2 : Int)] 34)))
              go_wp2_with fail
              generalize wr.alloc (.cells #[.int .u8 (r2 : Int), .int .u32 (s2 : Int)] 34) = Wk at HSk HIk
              refine (ghas_any HSk.out.grp (r2, s2) HR2.out).mono ?_
              rintro e w9 ⟨rfl, hb⟩
              rw [HIN.out]
              have HS9 := Lib.hid (HSk.out.below hb)
              have HI9 := Lib.hid (HIk.out.below hb)
              clear hb d1 d2
              go_wp2_with fail
              go_roundw
              case rel => exact ⟨j + 1, by omega, by go_num, HS9, HI9⟩
              case measure => simp [intOf]; omega
            · obtain rfl : j = i7.length := by omega
              go_wp2_with fail
              go_roundw
              case rel => exact ⟨k + 1, c', L', a7, cap7, i7, by omega, by omega, by go_num, rfl, HSj, HIj⟩
              case measure => simp [intOf]; omega
        · obtain ⟨rfl, rfl⟩ := ha.left he
          have HS7 := HS5
          have HI7 := Lib.hid (HI4.out.left HS4.out.grp hkp)
          have HG7 := HG5
          obtain ⟨a7, ha7⟩ : ∃ a7, ao = a7 := ⟨_, rfl⟩
          obtain ⟨cap7, hc7⟩ : ∃ cap7, co = cap7 := ⟨_, rfl⟩
          obtain ⟨i7, hi7⟩ : ∃ i7, ins = i7 := ⟨_, rfl⟩
          rw [ha7, hc7, hi7] at HI7
          rw [ha7, hc7, hi7]
          obtain ⟨en, hen⟩ : ∃ en : Nat, addE c' L' (r, s) = en := ⟨_, rfl⟩
          rw [hen]
          have hne : ((en : Int) == 0) = false := by simp; omega
          have HNE : Hid (((en : Int) != 0) = true) := Lib.hid (by simp; omega)
          clear ha hg hkp ha7 hc7 hi7 he hen
          go_wp2_with fail
          refine wp_region_held_drew (S := fun w' => Sb w w' p m v c' L' (some ⟨b1, o1, none⟩) nb l (k + 1) ∧ In1 w w' v c' L' a7 cap7 i7 (k + 1) ∧ Blk w' g 24 c'.arr) (by kernel_rfl) ⟨HS7.out.drew, ⟨HI7.out.own, HI7.out.mem, HI7.out.sum, HI7.out.len⟩, HG7.out⟩ (fun hS => ?_)
          refine held_take 0 48 (.agg c'.arr) rfl rfl (by kernel_rfl) (by kernel_rfl) (by kernel_rfl) (fun _ _ _ h => h) (by kernel_rfl) (fun _ h => exec_load24 rfl rfl h.2.2) hS ?_
          simp only [Act.put, List.setIfInBounds_toArray, List.set_cons_zero, List.set_cons_succ]
          refine held_take 1 49 (.pointer (some ⟨p, 0, none⟩)) rfl rfl (by kernel_rfl) (by kernel_rfl) (by kernel_rfl) (fun _ _ _ h => h) (by kernel_rfl) (fun _ _ => rfl) hS ?_
          simp only [Act.put, List.setIfInBounds_toArray, List.set_cons_zero, List.set_cons_succ]
          refine held_call 2 50 16 #[(.pointer (some ⟨p, 0, none⟩))] (.agg c'.arr) rfl (by kernel_rfl) rfl (by kernel_rfl) (by kernel_rfl) (closed_any hS.1.grp) (fun _ h hb => ⟨h.1.below hb, h.2.1.below hb, h.2.2.below hb⟩) hS (fun w102 hS => ?_)
          simp only [Act.put, List.setIfInBounds_toArray, List.set_cons_zero, List.set_cons_succ]
          refine held_call 3 51 24 #[(.agg c'.arr), (.agg c'.arr)] (.bool true) rfl (by kernel_rfl) rfl (by kernel_rfl) (by kernel_rfl) (HBC.out ▸ rbelow_any c' c' _) (fun _ h hb => ⟨h.1.below hb, h.2.1.below hb, h.2.2.below hb⟩) hS (fun w103 hS => ?_)
          simp only [Act.put, List.setIfInBounds_toArray, List.set_cons_zero, List.set_cons_succ]
          refine held_take 4 52 (.bool false) rfl rfl (by kernel_rfl) (by kernel_rfl) (by kernel_rfl) (fun _ _ _ h => h) (by kernel_rfl) (fun _ _ => rfl) hS ?_
          simp only [Act.put, List.setIfInBounds_toArray, List.set_cons_zero, List.set_cons_succ]
          refine held_take 5 53 (.bool false) rfl rfl (by kernel_rfl) (by kernel_rfl) (by kernel_rfl) (fun _ _ _ h => h) (by kernel_rfl) (fun _ _ => rfl) hS ?_
          simp only [Act.put, List.setIfInBounds_toArray, List.set_cons_zero, List.set_cons_succ]
          refine held_take 6 54 (.int .i64 (en : Int)) rfl rfl (by kernel_rfl) (by kernel_rfl) (by kernel_rfl) (fun _ _ _ h => h) (by kernel_rfl) (fun _ _ => rfl) hS ?_
          simp only [Act.put, List.setIfInBounds_toArray, List.set_cons_zero, List.set_cons_succ]
          refine held_take 7 55 (.bool true) rfl rfl (by kernel_rfl) (by kernel_rfl) (by kernel_rfl) (fun _ _ _ h => h) (by kernel_rfl) (fun _ _ => exec_neqI trivial rfl rfl rfl HNE.out) hS ?_
          simp only [Act.put, List.setIfInBounds_toArray, List.set_cons_zero, List.set_cons_succ]
          refine held_take 8 56 (.bool true) rfl rfl (by kernel_rfl) (by kernel_rfl) (by kernel_rfl) (fun _ _ _ h => h) (by kernel_rfl) (fun _ _ => rfl) hS ?_
          simp only [Act.put, List.setIfInBounds_toArray, List.set_cons_zero, List.set_cons_succ]
          refine held_take 9 57 (.pointer (some ⟨p, 0, none⟩)) rfl rfl (by kernel_rfl) (by kernel_rfl) (by kernel_rfl) (fun _ _ _ h => h) (by kernel_rfl) (fun _ _ => rfl) hS ?_
          simp only [Act.put, List.setIfInBounds_toArray, List.set_cons_zero, List.set_cons_succ]
          refine held_take 11 59 (.agg c'.arr) rfl rfl (by kernel_rfl) (by kernel_rfl) (by kernel_rfl) (fun _ _ _ h => h) (by kernel_rfl) (fun _ h => exec_load24 rfl rfl h.2.2) hS ?_
          simp only [Act.put, List.setIfInBounds_toArray, List.set_cons_zero, List.set_cons_succ]
          refine held_call 10 58 16 #[(.pointer (some ⟨p, 0, none⟩))] (.agg c'.arr) rfl (by kernel_rfl) rfl (by kernel_rfl) (by kernel_rfl) (closed_any hS.1.grp) (fun _ h hb => ⟨h.1.below hb, h.2.1.below hb, h.2.2.below hb⟩) hS (fun w110 hS => ?_)
          simp only [Act.put, List.setIfInBounds_toArray, List.set_cons_zero, List.set_cons_succ]
          refine held_take 12 60 (.bool false) rfl rfl (by kernel_rfl) (by kernel_rfl) (by kernel_rfl) (fun _ _ _ h => h) (by kernel_rfl) (fun _ _ => exec_neq24 rfl rfl rfl (by simp [V.eqB])) hS ?_
          simp only [Act.put, List.setIfInBounds_toArray, List.set_cons_zero, List.set_cons_succ]
          refine held_take 13 61 (.bool false) rfl rfl (by kernel_rfl) (by kernel_rfl) (by kernel_rfl) (fun _ _ _ h => h) (by kernel_rfl) (fun _ _ => rfl) hS ?_
          simp only [Act.put, List.setIfInBounds_toArray, List.set_cons_zero, List.set_cons_succ]
          refine held_take 14 62 (.bool false) rfl rfl (by kernel_rfl) (by kernel_rfl) (by kernel_rfl) (fun _ _ _ h => h) (by kernel_rfl) (fun _ _ => rfl) hS ?_
          simp only [Act.put, List.setIfInBounds_toArray, List.set_cons_zero, List.set_cons_succ]
          refine wpAnyH_done (by kernel_rfl) ?_ _
          have HS8 := Lib.hid hS.1
          have HI8 := Lib.hid hS.2.1
          clear hS
          go_wp2_with fail
          go_loopw [65] (fun i wr => ∃ j : Nat, j ≤ i7.length ∧ i = .int .i64 (j : Int) ∧ Hid (Sb w wr p m v c' L' (some ⟨b1, o1, none⟩) nb l (k + 1)) ∧ Hid (In1 w wr v c' L' a7 cap7 i7 (k + 1))) (fun i _ => i7.length - (intOf i).toNat)
          case atStart => exact ⟨0, by omega, rfl, HS8, HI8⟩
          case round =>
            obtain ⟨j, hj, rfl, HSj, HIj⟩ := hrel
            have hi60 : i7.length < 100 := by have := HIj.out.len; omega
            by_cases hjl : j < i7.length
            · obtain ⟨⟨r2, s2⟩, hx2⟩ : ∃ x, i7[j]? = some x := ⟨i7[j], by simp⟩
              have hm2 := HIj.out.mem _ (List.mem_of_getElem? hx2)
              obtain ⟨b2, o2, hab2, hc2⟩ := (HIj.out.own.dl (fun x hx => (HIj.out.mem x hx).2)).cells.resolve_left (by omega)
              subst hab2
              obtain ⟨d1, d2⟩ := hc2 j _ hx2
              have HIN : Hid (inB c' L' (r2, s2) = true) := Lib.hid ((inB_iff _ _ _).2 hm2.1)
              have HR2 := Lib.hid hm2.2
              simp only at d1 d2
              clear hc2 hm2 hx2
              have HSk := Lib.hid (HSj.out.below (below_one wr (.cells #[.int .u8 (r2 : Int), .int .u32 (s2 : Int)] 34)))
              have HIk := Lib.hid (HIj.out.below (below_one wr (.cells #[.int .u8 (r2 : Int), .int .u32 (s2 : Int)] 34)))
              go_wp2_with fail
              generalize wr.alloc (.cells #[.int .u8 (r2 : Int), .int .u32 (s2 : Int)] 34) = Wk at HSk HIk
              refine (ghas_any HSk.out.grp (r2, s2) HR2.out).mono ?_
              rintro e w9 ⟨rfl, hb⟩
              rw [HIN.out]
              have HS9 := Lib.hid (HSk.out.below hb)
              have HI9 := Lib.hid (HIk.out.below hb)
              clear hb d1 d2
              go_wp2_with fail
              go_roundw
              case rel => exact ⟨j + 1, by omega, by go_num, HS9, HI9⟩
              case measure => simp [intOf]; omega
            · obtain rfl : j = i7.length := by omega
              go_wp2_with fail
              go_roundw
              case rel => exact ⟨k + 1, c', L', a7, cap7, i7, by omega, by omega, by go_num, rfl, HSj, HIj⟩
              case measure => simp [intOf]; omega
      · have hcase : ¬ k < nb ∨ ¬ k < 60 := by omega
        have HF : Hid (V.sum c + L.length < 18446744073709551616 ∧ V.sum v + ins.length < 18446744073709551616 ∧ L.length < 18446744073709551616 ∧ ins.length < 18446744073709551616) := Lib.hid (by have := V.sum_lt c; have := V.sum_lt v; have := HS.out.len; have := HI.out.len; omega)
        have HSL : Hid (L.length < 1000000) := Lib.hid (by have := HS.out.len; omega)
        have HSM := Lib.hid HI.out.sum
        have HC1 := Lib.hid (fun w => rsum_any c w)
        have HC2 := Lib.hid (fun w => rsum_any v w)
        generalize V.sum c = sc at HF HSM HC1
        generalize V.sum v = sv at HF HSM HC2
        have hkn' : (k : Int) ≤ (nb : Int) := by omega
        rcases hcase with hcc | hcc
        · obtain rfl : k = nb := by omega
          go_wp2_with fail
          refine wp_region_held_drew (S := fun w' => Sb w w' p m v c L ab k l k) (by kernel_rfl) HS.out.drew (fun hS => ?_)
          refine held_take 0 74 (.pointer (some ⟨p, 0, none⟩)) rfl rfl (by kernel_rfl) (by kernel_rfl) (by kernel_rfl) (fun _ _ _ h => h) (by kernel_rfl) (fun _ _ => rfl) hS ?_
          simp only [Act.put, List.setIfInBounds_toArray, List.set_cons_zero, List.set_cons_succ]
          refine held_take 3 77 (.pointer (some ⟨p, 0, none⟩)) rfl rfl (by kernel_rfl) (by kernel_rfl) (by kernel_rfl) (fun _ _ _ h => h) (by kernel_rfl) (fun _ _ => rfl) hS ?_
          simp only [Act.put, List.setIfInBounds_toArray, List.set_cons_zero, List.set_cons_succ]
          refine held_take 8 82 (.agg v.arr) rfl rfl (by kernel_rfl) (by kernel_rfl) (by kernel_rfl) (fun _ _ _ h => h) (by kernel_rfl) (fun _ h => exec_load24 rfl rfl h.one) hS ?_
          simp only [Act.put, List.setIfInBounds_toArray, List.set_cons_zero, List.set_cons_succ]
          refine held_take 10 84 (.slice ao ins.length co) rfl rfl (by kernel_rfl) (by kernel_rfl) (by kernel_rfl) (fun _ _ _ h => h) (by kernel_rfl) (fun _ _ => rfl) hS ?_
          simp only [Act.put, List.setIfInBounds_toArray, List.set_cons_zero, List.set_cons_succ]
          refine held_take 11 85 (.int .i64 ((ins.length : Nat) : Int)) rfl rfl (by kernel_rfl) (by kernel_rfl) (by kernel_rfl) (fun _ _ _ h => h) (by kernel_rfl) (fun _ _ => exec_len25 rfl rfl) hS ?_
          simp only [Act.put, List.setIfInBounds_toArray, List.set_cons_zero, List.set_cons_succ]
          refine held_take 12 86 (.int .u64 ((ins.length : Nat) : Int)) rfl rfl (by kernel_rfl) (by kernel_rfl) (by kernel_rfl) (fun _ _ _ h => h) (by kernel_rfl) (fun _ _ => exec_u64 rfl rfl HF.out.2.2.2) hS ?_
          simp only [Act.put, List.setIfInBounds_toArray, List.set_cons_zero, List.set_cons_succ]
          refine held_call 1 75 16 #[(.pointer (some ⟨p, 0, none⟩))] (.agg c.arr) rfl (by kernel_rfl) rfl (by kernel_rfl) (by kernel_rfl) (closed_any hS.grp) (fun _ h hb => h.below hb) hS (fun w101 hS => ?_)
          simp only [Act.put, List.setIfInBounds_toArray, List.set_cons_zero, List.set_cons_succ]
          refine held_call 2 76 25 #[(.agg c.arr)] (.int .u64 (sc : Int)) rfl (by kernel_rfl) rfl (by kernel_rfl) (by kernel_rfl) (HC1.out _) (fun _ h hb => h.below hb) hS (fun w102 hS => ?_)
          simp only [Act.put, List.setIfInBounds_toArray, List.set_cons_zero, List.set_cons_succ]
          refine held_callP 4 78 19 #[(.pointer (some ⟨p, 0, none⟩))] rfl (by kernel_rfl) rfl (by kernel_rfl) (by kernel_rfl) (gloose_any hS.grp HSL.out) (fun e w104 hP => ?_)
          obtain ⟨ga4, ca4, rfl, ho4, hb4⟩ := hP
          refine ⟨_, rfl, hS.below hb4, fun hS => ?_⟩
          simp only [Act.put, List.setIfInBounds_toArray, List.set_cons_zero, List.set_cons_succ]
          refine held_take 5 79 (.int .i64 ((L.length : Nat) : Int)) rfl rfl (by kernel_rfl) (by kernel_rfl) (by kernel_rfl) (fun _ _ _ h => h) (by kernel_rfl) (fun _ _ => exec_len25 rfl rfl) hS ?_
          simp only [Act.put, List.setIfInBounds_toArray, List.set_cons_zero, List.set_cons_succ]
          refine held_take 6 80 (.int .u64 ((L.length : Nat) : Int)) rfl rfl (by kernel_rfl) (by kernel_rfl) (by kernel_rfl) (fun _ _ _ h => h) (by kernel_rfl) (fun _ _ => exec_u64 rfl rfl HF.out.2.2.1) hS ?_
          simp only [Act.put, List.setIfInBounds_toArray, List.set_cons_zero, List.set_cons_succ]
          refine held_take 7 81 (.int .u64 ((sc + L.length : Nat) : Int)) rfl rfl (by kernel_rfl) (by kernel_rfl) (by kernel_rfl) (fun _ _ _ h => h) (by kernel_rfl) (fun _ _ => exec_add49 rfl rfl rfl HF.out.1) hS ?_
          simp only [Act.put, List.setIfInBounds_toArray, List.set_cons_zero, List.set_cons_succ]
          refine held_call 9 83 25 #[(.agg v.arr)] (.int .u64 (sv : Int)) rfl (by kernel_rfl) rfl (by kernel_rfl) (by kernel_rfl) (HC2.out _) (fun _ h hb => h.below hb) hS (fun w109 hS => ?_)
          simp only [Act.put, List.setIfInBounds_toArray, List.set_cons_zero, List.set_cons_succ]
          refine held_take 13 87 (.int .u64 ((sv + ins.length : Nat) : Int)) rfl rfl (by kernel_rfl) (by kernel_rfl) (by kernel_rfl) (fun _ _ _ h => h) (by kernel_rfl) (fun _ _ => exec_add49 rfl rfl rfl HF.out.2.1) hS ?_
          simp only [Act.put, List.setIfInBounds_toArray, List.set_cons_zero, List.set_cons_succ]
          refine held_take 14 88 (.bool true) rfl rfl (by kernel_rfl) (by kernel_rfl) (by kernel_rfl) (fun _ _ _ h => h) (by kernel_rfl) (fun _ _ => exec_eqlI trivial rfl rfl rfl (by simp; have := HSM.out; omega)) hS ?_
          simp only [Act.put, List.setIfInBounds_toArray, List.set_cons_zero, List.set_cons_succ]
          refine held_take 15 4 (.bool true) rfl rfl (by kernel_rfl) (by kernel_rfl) (by kernel_rfl) (fun _ _ _ h => h) (by kernel_rfl) (fun _ _ => rfl) hS ?_
          simp only [Act.put, List.setIfInBounds_toArray, List.set_cons_zero, List.set_cons_succ]
          refine wpAnyH_done (by kernel_rfl) ?_ _
          go_wp2_with fail
          go_ret
          exact ⟨rfl, hS.old⟩
        · obtain rfl : k = 60 := by omega
          by_cases h60 : 60 < nb
          · go_wp2_with fail
            refine wp_region_held_drew (S := fun w' => Sb w w' p m v c L ab nb l 60) (by kernel_rfl) HS.out.drew (fun hS => ?_)
            refine held_take 0 74 (.pointer (some ⟨p, 0, none⟩)) rfl rfl (by kernel_rfl) (by kernel_rfl) (by kernel_rfl) (fun _ _ _ h => h) (by kernel_rfl) (fun _ _ => rfl) hS ?_
            simp only [Act.put, List.setIfInBounds_toArray, List.set_cons_zero, List.set_cons_succ]
            refine held_take 3 77 (.pointer (some ⟨p, 0, none⟩)) rfl rfl (by kernel_rfl) (by kernel_rfl) (by kernel_rfl) (fun _ _ _ h => h) (by kernel_rfl) (fun _ _ => rfl) hS ?_
            simp only [Act.put, List.setIfInBounds_toArray, List.set_cons_zero, List.set_cons_succ]
            refine held_take 8 82 (.agg v.arr) rfl rfl (by kernel_rfl) (by kernel_rfl) (by kernel_rfl) (fun _ _ _ h => h) (by kernel_rfl) (fun _ h => exec_load24 rfl rfl h.one) hS ?_
            simp only [Act.put, List.setIfInBounds_toArray, List.set_cons_zero, List.set_cons_succ]
            refine held_take 10 84 (.slice ao ins.length co) rfl rfl (by kernel_rfl) (by kernel_rfl) (by kernel_rfl) (fun _ _ _ h => h) (by kernel_rfl) (fun _ _ => rfl) hS ?_
            simp only [Act.put, List.setIfInBounds_toArray, List.set_cons_zero, List.set_cons_succ]
            refine held_take 11 85 (.int .i64 ((ins.length : Nat) : Int)) rfl rfl (by kernel_rfl) (by kernel_rfl) (by kernel_rfl) (fun _ _ _ h => h) (by kernel_rfl) (fun _ _ => exec_len25 rfl rfl) hS ?_
            simp only [Act.put, List.setIfInBounds_toArray, List.set_cons_zero, List.set_cons_succ]
            refine held_take 12 86 (.int .u64 ((ins.length : Nat) : Int)) rfl rfl (by kernel_rfl) (by kernel_rfl) (by kernel_rfl) (fun _ _ _ h => h) (by kernel_rfl) (fun _ _ => exec_u64 rfl rfl HF.out.2.2.2) hS ?_
            simp only [Act.put, List.setIfInBounds_toArray, List.set_cons_zero, List.set_cons_succ]
            refine held_call 1 75 16 #[(.pointer (some ⟨p, 0, none⟩))] (.agg c.arr) rfl (by kernel_rfl) rfl (by kernel_rfl) (by kernel_rfl) (closed_any hS.grp) (fun _ h hb => h.below hb) hS (fun w101 hS => ?_)
            simp only [Act.put, List.setIfInBounds_toArray, List.set_cons_zero, List.set_cons_succ]
            refine held_call 2 76 25 #[(.agg c.arr)] (.int .u64 (sc : Int)) rfl (by kernel_rfl) rfl (by kernel_rfl) (by kernel_rfl) (HC1.out _) (fun _ h hb => h.below hb) hS (fun w102 hS => ?_)
            simp only [Act.put, List.setIfInBounds_toArray, List.set_cons_zero, List.set_cons_succ]
            refine held_callP 4 78 19 #[(.pointer (some ⟨p, 0, none⟩))] rfl (by kernel_rfl) rfl (by kernel_rfl) (by kernel_rfl) (gloose_any hS.grp HSL.out) (fun e w104 hP => ?_)
            obtain ⟨ga4, ca4, rfl, ho4, hb4⟩ := hP
            refine ⟨_, rfl, hS.below hb4, fun hS => ?_⟩
            simp only [Act.put, List.setIfInBounds_toArray, List.set_cons_zero, List.set_cons_succ]
            refine held_take 5 79 (.int .i64 ((L.length : Nat) : Int)) rfl rfl (by kernel_rfl) (by kernel_rfl) (by kernel_rfl) (fun _ _ _ h => h) (by kernel_rfl) (fun _ _ => exec_len25 rfl rfl) hS ?_
            simp only [Act.put, List.setIfInBounds_toArray, List.set_cons_zero, List.set_cons_succ]
            refine held_take 6 80 (.int .u64 ((L.length : Nat) : Int)) rfl rfl (by kernel_rfl) (by kernel_rfl) (by kernel_rfl) (fun _ _ _ h => h) (by kernel_rfl) (fun _ _ => exec_u64 rfl rfl HF.out.2.2.1) hS ?_
            simp only [Act.put, List.setIfInBounds_toArray, List.set_cons_zero, List.set_cons_succ]
            refine held_take 7 81 (.int .u64 ((sc + L.length : Nat) : Int)) rfl rfl (by kernel_rfl) (by kernel_rfl) (by kernel_rfl) (fun _ _ _ h => h) (by kernel_rfl) (fun _ _ => exec_add49 rfl rfl rfl HF.out.1) hS ?_
            simp only [Act.put, List.setIfInBounds_toArray, List.set_cons_zero, List.set_cons_succ]
            refine held_call 9 83 25 #[(.agg v.arr)] (.int .u64 (sv : Int)) rfl (by kernel_rfl) rfl (by kernel_rfl) (by kernel_rfl) (HC2.out _) (fun _ h hb => h.below hb) hS (fun w109 hS => ?_)
            simp only [Act.put, List.setIfInBounds_toArray, List.set_cons_zero, List.set_cons_succ]
            refine held_take 13 87 (.int .u64 ((sv + ins.length : Nat) : Int)) rfl rfl (by kernel_rfl) (by kernel_rfl) (by kernel_rfl) (fun _ _ _ h => h) (by kernel_rfl) (fun _ _ => exec_add49 rfl rfl rfl HF.out.2.1) hS ?_
            simp only [Act.put, List.setIfInBounds_toArray, List.set_cons_zero, List.set_cons_succ]
            refine held_take 14 88 (.bool true) rfl rfl (by kernel_rfl) (by kernel_rfl) (by kernel_rfl) (fun _ _ _ h => h) (by kernel_rfl) (fun _ _ => exec_eqlI trivial rfl rfl rfl (by simp; have := HSM.out; omega)) hS ?_
            simp only [Act.put, List.setIfInBounds_toArray, List.set_cons_zero, List.set_cons_succ]
            refine held_take 15 4 (.bool true) rfl rfl (by kernel_rfl) (by kernel_rfl) (by kernel_rfl) (fun _ _ _ h => h) (by kernel_rfl) (fun _ _ => rfl) hS ?_
            simp only [Act.put, List.setIfInBounds_toArray, List.set_cons_zero, List.set_cons_succ]
            refine wpAnyH_done (by kernel_rfl) ?_ _
            go_wp2_with fail
            go_ret
            exact ⟨rfl, hS.old⟩
          · obtain rfl : nb = 60 := by omega
            go_wp2_with fail
            refine wp_region_held_drew (S := fun w' => Sb w w' p m v c L ab 60 l 60) (by kernel_rfl) HS.out.drew (fun hS => ?_)
            refine held_take 0 74 (.pointer (some ⟨p, 0, none⟩)) rfl rfl (by kernel_rfl) (by kernel_rfl) (by kernel_rfl) (fun _ _ _ h => h) (by kernel_rfl) (fun _ _ => rfl) hS ?_
            simp only [Act.put, List.setIfInBounds_toArray, List.set_cons_zero, List.set_cons_succ]
            refine held_take 3 77 (.pointer (some ⟨p, 0, none⟩)) rfl rfl (by kernel_rfl) (by kernel_rfl) (by kernel_rfl) (fun _ _ _ h => h) (by kernel_rfl) (fun _ _ => rfl) hS ?_
            simp only [Act.put, List.setIfInBounds_toArray, List.set_cons_zero, List.set_cons_succ]
            refine held_take 8 82 (.agg v.arr) rfl rfl (by kernel_rfl) (by kernel_rfl) (by kernel_rfl) (fun _ _ _ h => h) (by kernel_rfl) (fun _ h => exec_load24 rfl rfl h.one) hS ?_
            simp only [Act.put, List.setIfInBounds_toArray, List.set_cons_zero, List.set_cons_succ]
            refine held_take 10 84 (.slice ao ins.length co) rfl rfl (by kernel_rfl) (by kernel_rfl) (by kernel_rfl) (fun _ _ _ h => h) (by kernel_rfl) (fun _ _ => rfl) hS ?_
            simp only [Act.put, List.setIfInBounds_toArray, List.set_cons_zero, List.set_cons_succ]
            refine held_take 11 85 (.int .i64 ((ins.length : Nat) : Int)) rfl rfl (by kernel_rfl) (by kernel_rfl) (by kernel_rfl) (fun _ _ _ h => h) (by kernel_rfl) (fun _ _ => exec_len25 rfl rfl) hS ?_
            simp only [Act.put, List.setIfInBounds_toArray, List.set_cons_zero, List.set_cons_succ]
            refine held_take 12 86 (.int .u64 ((ins.length : Nat) : Int)) rfl rfl (by kernel_rfl) (by kernel_rfl) (by kernel_rfl) (fun _ _ _ h => h) (by kernel_rfl) (fun _ _ => exec_u64 rfl rfl HF.out.2.2.2) hS ?_
            simp only [Act.put, List.setIfInBounds_toArray, List.set_cons_zero, List.set_cons_succ]
            refine held_call 1 75 16 #[(.pointer (some ⟨p, 0, none⟩))] (.agg c.arr) rfl (by kernel_rfl) rfl (by kernel_rfl) (by kernel_rfl) (closed_any hS.grp) (fun _ h hb => h.below hb) hS (fun w101 hS => ?_)
            simp only [Act.put, List.setIfInBounds_toArray, List.set_cons_zero, List.set_cons_succ]
            refine held_call 2 76 25 #[(.agg c.arr)] (.int .u64 (sc : Int)) rfl (by kernel_rfl) rfl (by kernel_rfl) (by kernel_rfl) (HC1.out _) (fun _ h hb => h.below hb) hS (fun w102 hS => ?_)
            simp only [Act.put, List.setIfInBounds_toArray, List.set_cons_zero, List.set_cons_succ]
            refine held_callP 4 78 19 #[(.pointer (some ⟨p, 0, none⟩))] rfl (by kernel_rfl) rfl (by kernel_rfl) (by kernel_rfl) (gloose_any hS.grp HSL.out) (fun e w104 hP => ?_)
            obtain ⟨ga4, ca4, rfl, ho4, hb4⟩ := hP
            refine ⟨_, rfl, hS.below hb4, fun hS => ?_⟩
            simp only [Act.put, List.setIfInBounds_toArray, List.set_cons_zero, List.set_cons_succ]
            refine held_take 5 79 (.int .i64 ((L.length : Nat) : Int)) rfl rfl (by kernel_rfl) (by kernel_rfl) (by kernel_rfl) (fun _ _ _ h => h) (by kernel_rfl) (fun _ _ => exec_len25 rfl rfl) hS ?_
            simp only [Act.put, List.setIfInBounds_toArray, List.set_cons_zero, List.set_cons_succ]
            refine held_take 6 80 (.int .u64 ((L.length : Nat) : Int)) rfl rfl (by kernel_rfl) (by kernel_rfl) (by kernel_rfl) (fun _ _ _ h => h) (by kernel_rfl) (fun _ _ => exec_u64 rfl rfl HF.out.2.2.1) hS ?_
            simp only [Act.put, List.setIfInBounds_toArray, List.set_cons_zero, List.set_cons_succ]
            refine held_take 7 81 (.int .u64 ((sc + L.length : Nat) : Int)) rfl rfl (by kernel_rfl) (by kernel_rfl) (by kernel_rfl) (fun _ _ _ h => h) (by kernel_rfl) (fun _ _ => exec_add49 rfl rfl rfl HF.out.1) hS ?_
            simp only [Act.put, List.setIfInBounds_toArray, List.set_cons_zero, List.set_cons_succ]
            refine held_call 9 83 25 #[(.agg v.arr)] (.int .u64 (sv : Int)) rfl (by kernel_rfl) rfl (by kernel_rfl) (by kernel_rfl) (HC2.out _) (fun _ h hb => h.below hb) hS (fun w109 hS => ?_)
            simp only [Act.put, List.setIfInBounds_toArray, List.set_cons_zero, List.set_cons_succ]
            refine held_take 13 87 (.int .u64 ((sv + ins.length : Nat) : Int)) rfl rfl (by kernel_rfl) (by kernel_rfl) (by kernel_rfl) (fun _ _ _ h => h) (by kernel_rfl) (fun _ _ => exec_add49 rfl rfl rfl HF.out.2.1) hS ?_
            simp only [Act.put, List.setIfInBounds_toArray, List.set_cons_zero, List.set_cons_succ]
            refine held_take 14 88 (.bool true) rfl rfl (by kernel_rfl) (by kernel_rfl) (by kernel_rfl) (fun _ _ _ h => h) (by kernel_rfl) (fun _ _ => exec_eqlI trivial rfl rfl rfl (by simp; have := HSM.out; omega)) hS ?_
            simp only [Act.put, List.setIfInBounds_toArray, List.set_cons_zero, List.set_cons_succ]
            refine held_take 15 4 (.bool true) rfl rfl (by kernel_rfl) (by kernel_rfl) (by kernel_rfl) (fun _ _ _ h => h) (by kernel_rfl) (fun _ _ => rfl) hS ?_
            simp only [Act.put, List.setIfInBounds_toArray, List.set_cons_zero, List.set_cons_succ]
            refine wpAnyH_done (by kernel_rfl) ?_ _
            go_wp2_with fail
            go_ret
            exact ⟨rfl, hS.old⟩

set_option maxRecDepth 100000 in
theorem lifted (os : Os) (started : os.Started) (H : Type) (enc : TypeId × Value → H) :
    ReturnsInHanded {} Try.checked os 6 .any (Rows.dotsGrowSpec.pre6 enc Try.prog Try.f6 Rows.dotsGrowRow.domain false) (Rows.dotsGrowSpec.post enc Try.prog Try.f6 false true false false) := by
  refine returnsInHanded_of_change (C := Try.checked) own started (by kernel_rfl) Try.func6
    (ChangeSpec.witness6 (enc := enc) (C := Try.checked) false ⟨#[], #[.agg #[.int .u32 0, .int .u32 0, .int .u32 0, .int .u32 0, .int .u32 0, .int .u32 0, .int .u32 0, .int .u32 0, .int .u32 0, .int .u32 0, .int .u32 0, .int .u32 0, .int .u32 0, .int .u32 0, .int .u32 0, .int .u32 0], .slice none 0 0], []⟩ 8 (by kernel_rfl) (by kernel_rfl) (by kernel_rfl) (by kernel_rfl)) ?_
  intro W base args ds gs before hval0 hW hcnd _
  have hval : ∀ (j : Nat) t v, Try.f6.params[j]? = some t → args[j]? = some v → Value.okWide Try.prog W .any base t v := hval0
  have hW' := hW
  obtain ⟨p, q, hA0, hV, rfl, hfz, hnd⟩ := hW
  have hA : DataW.TrodAll enc Try.prog W 0 (fun _ => true) true Try.f6.params.toList args.toList ds p := hA0
  rw [Try.params6] at hA hval
  obtain ⟨v0, v1, d0, d1, p0, p1, rfl, rfl, rfl, h0, h1⟩ := trodAll_two hA
  obtain ⟨rfl, rfl⟩ := trodVars_none hV
  have lt0 : ∀ x ∈ p0, x.block < W.heap.size := by obtain ⟨m, hm⟩ := h0; exact DataW.trod_lt m _ _ _ hm
  obtain ⟨a0, rfl⟩ := vec_of (hval 0 24 v0 rfl rfl) h0
  have lt1 : ∀ x ∈ p1, x.block < W.heap.size := by obtain ⟨m, hm⟩ := h1; exact DataW.trod_lt m _ _ _ hm
  obtain ⟨ab, nb, cb, rfl⟩ := okWide_slice Try.underlying25 (hval 1 25 v1 rfl rfl)
  obtain ⟨hl1, l1, hR1⟩ := dots_of h1
  clear hA0 hval0
  refine (walk a0 ab nb cb l1 W hl1 hR1).mono fun e W' ⟨he, bel⟩ => ?_
  subst he
  exact ⟨_, rfl, _, _, _, [], _, [], hW', trodAll_mk1 (shut_bool Try.underlying4 _), trodAll_mk2 (Below.trod laidOut (by kernel_rfl) (of_decide_eq_true (by kernel_rfl)) h0 bel lt0) (Below.trod laidOut (by kernel_rfl) (of_decide_eq_true (by kernel_rfl)) h1 bel lt1), rfl, bel.frame _, fun h => by cases h⟩
end DotsGrow

theorem dotsGrow_proved : Rows.DotsGrowSaid :=
  OpenClaim.holds_of_wide 6 Try.f6 rfl rfl rfl rfl rfl rfl rfl ⟨rfl, rfl, rfl, rfl, rfl⟩ rfl rfl rfl rfl rfl (by kernel_rfl) Try.func6 (by kernel_rfl)
    (of_decide_eq_true (by kernel_rfl)) (by unfold Func.isWrapper; first | (rw [if_pos (by decide +kernel)]; kernel_rfl) | (rw [if_neg (by decide +kernel)]; exact ⟨rfl, rfl⟩))
    (fun os started H enc _ => DotsGrow.lifted os started H enc)
#print axioms dotsGrow_proved
end Go.Proofs.Ytkamldmcjegjgaa
