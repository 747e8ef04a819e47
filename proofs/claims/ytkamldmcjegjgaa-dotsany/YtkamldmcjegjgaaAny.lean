/- DotsAny: in whatever order dots are added, as long as all are taken, the set is the same. No condition. -/
import Derived.Test.YtkamldmcjegjgaaSb
namespace Go.Proofs.Ytkamldmcjegjgaa
open Go.ChangeShapes Go.WideShapes Go.ChangeAt Go.RowKit

namespace DotsAny
/-- Two sets of one beginning. -/
structure Ab (w W : World) (p m q u : Nat) (v c : V) (L : List Dt) (d : V) (M : List Dt) (a : Option Addr) (n : Nat) (l : List Dt) (k j : Nat) : Prop where
  one : Sb w W p m v c L a n l k
  two : Sb w W q u v d M a n l j
  ne : p ≠ q ∧ m ≠ u
section
variable {w W W' : World} {p m q u : Nat} {v c d : V} {L M : List Dt} {a : Option Addr} {n : Nat} {l : List Dt} {k j : Nat}
theorem Ab.below (h : Ab w W p m q u v c L d M a n l k j) (hb : Below W.heap.size W W') : Ab w W' p m q u v c L d M a n l k j := ⟨h.one.below hb, h.two.below hb, h.ne⟩
theorem Ab.pq (h : Ab w W p m q u v c L d M a n l k j) : p ≠ u ∧ q ≠ m := ⟨fun e => h.two.grp.mp.ne h.one.grp.blk e.symm, fun e => h.one.grp.mp.ne h.two.grp.blk e.symm⟩
theorem Ab.addA (h : Ab w W p m q u v c L d M a n l k j) {x : Dt} {c' : V} {L' : List Dt} (ha : AddR c L x c' L') (hg : Grp W' p m c' L') (hk : Kept (fun k => k = p ∨ k = m) W W') : Ab w W' p m q u v c' L' d M a n l (k + 1) j := by
  have h1 := h.ne
  have h2 := h.pq
  have h3 := h.one.pm
  exact ⟨h.one.add ha hg hk, h.two.kept hk (fun i hi => by omega) (by omega) (by omega), h.ne⟩
theorem Ab.addB (h : Ab w W p m q u v c L d M a n l k j) {x : Dt} {d' : V} {M' : List Dt} (ha : AddR d M x d' M') (hg : Grp W' q u d' M') (hk : Kept (fun k => k = q ∨ k = u) W W') : Ab w W' p m q u v c L d' M' a n l k (j + 1) := by
  have h1 := h.ne
  have h2 := h.pq
  have h3 := h.two.pm
  exact ⟨h.one.kept hk (fun i hi => by omega) (by omega) (by omega), h.two.add ha hg hk, h.ne⟩
theorem Ab.kept (h : Ab w W p m q u v c L d M a n l k j) {S : Nat → Prop} (hk : Kept S W W') (hS : ∀ i, S i → w.heap.size < i) (hp : ¬ S p) (hm : ¬ S m) (hq : ¬ S q) (hu : ¬ S u) : Ab w W' p m q u v c L d M a n l k j :=
  ⟨h.one.kept hk hS hp hm, h.two.kept hk hS hq hu, h.ne⟩
end

/-- What was taken, and that the set is the beginning and what was taken. -/
structure Tn (w W : World) (v c : V) (L : List Dt) (ao : Option Addr) (co : Nat) (ts : List Dt) (k : Nat) : Prop where
  own : OwnD W (w.heap.size + 1) ao ts.length co ts
  raw : ∀ x ∈ ts, Raw x
  mem : ∀ y, In c L y ↔ V.hasB v y.1 y.2 = true ∨ y ∈ ts
  len : ts.length ≤ k
section
variable {w W W' : World} {v c : V} {L : List Dt} {ao : Option Addr} {co : Nat} {ts : List Dt} {k : Nat}
theorem Tn.below (h : Tn w W v c L ao co ts k) (hb : Below W.heap.size W W') : Tn w W' v c L ao co ts k := ⟨h.own.below hb, h.raw, h.mem, h.len⟩
theorem Tn.keep (h : Tn w W v c L ao co ts k) {p m : Nat} {d : V} {M : List Dt} (hg : Grp W p m d M) (hk : Kept (fun k => k = p ∨ k = m) W W') : OwnD W' (w.heap.size + 1) ao ts.length co ts :=
  h.own.keep hk (by rintro ad had (e | e); exact h.own.ne_blk hg.blk (by decide) ad had e; exact h.own.ne_mp hg.mp ad had e)
end

/-- Every index is met. -/
theorem rot_all {n at_ : Nat} (hn : 0 < n) {j : Nat} (hj : j < n) : ∃ i, i < n ∧ (i + at_) % n = j := by
  refine ⟨(j + (n - at_ % n)) % n, Nat.mod_lt _ hn, ?_⟩
  have h1 : at_ % n < n := Nat.mod_lt _ hn
  rw [Nat.add_mod, Nat.mod_mod, Nat.mod_add_mod, show j + (n - at_ % n) + at_ % n = j + n by omega, Nat.add_mod_right, Nat.mod_eq_of_lt hj]

theorem miss_raw {c : V} {L : List Dt} (h : Norm c L) : ∀ x ∈ miss c L, Raw x := fun x hx => by
  obtain ⟨_, _, z, hz, e, h2⟩ := (mem_miss L c h.srt h.abv x).1 hx
  obtain ⟨h3, h4, _⟩ := h.mem z hz
  exact ⟨by omega, by omega⟩

/-- The dots of the second list that were met. -/
def Met (ts : List Dt) (at_ j : Nat) (y : Dt) : Prop := ∃ i, i < j ∧ ts[(i + at_) % ts.length]? = some y

set_option maxHeartbeats 8000000 in
set_option maxRecDepth 100000 in
theorem walk (v : V) (ab : Option Addr) (nb cb : Nat) (l : List Dt) (at_ : Nat) (w : World) (_hl : nb ≤ maxLen) (hR : DL w ab nb l) (hat : at_ < 256) : Calls Try.prog 4 #[.agg v.arr, .slice ab nb cb, .int .u8 (at_ : Int)] w (Says (.bool true) w) := by
  have HRR := Lib.hid (fun w => rright_any v 16 w (by omega) (by omega))
  have hb1 := fun (v : V) (w : World) => box24 v w
  have HO := Lib.hid (Blk.new w 24 v.arr)
  have HB0 := Lib.hid (below_one w (.cells v.arr 24))
  have HDL := Lib.hid hR
  clear hR
  go_enter Try.func4, Try.ntmps4
  go_wp2_with fail
  clear hb1
  generalize w.alloc (.cells v.arr 24) = W at HO HB0
  refine (alive_any _).mono ?_
  rintro e w1 ⟨rfl, hb⟩
  have HO1 := Lib.hid (HO.out.below hb)
  have HB1 := Lib.hid (HB0.out.trans (hb.mono HB0.out.size))
  clear hb HO HB0
  go_wp2_with fail
  have HNW := Lib.hid (fun w => new_any v w)
  cases hrt : V.rightB v 16
  · rw [hrt] at HRR
    have HRT := Lib.hid hrt
    clear hrt
    have HNF : Hid (∀ w, Calls Try.prog 10 #[.agg v.arr] w (Says (.pointer none) w)) := Lib.hid (fun w => (new_any v w).mono fun e w' hP => by
      rcases hP with ⟨_, rfl, hb⟩ | ⟨hrt, _⟩
      · exact ⟨rfl, hb⟩
      · rw [HRT.out] at hrt; cases hrt)
    refine wp_region_held_drew (S := fun w' => Blk w' w.heap.size 24 v.arr ∧ Below w.heap.size w w') (by kernel_rfl) ⟨HO1.out, HB1.out.drew⟩ (fun hS => ?_)
    refine held_take 0 14 (.agg v.arr) rfl rfl (by kernel_rfl) (by kernel_rfl) (by kernel_rfl) (fun _ _ _ h => h) (by kernel_rfl) (fun _ h => exec_load24 rfl rfl h.1) hS ?_
    simp only [Act.put, List.setIfInBounds_toArray, List.set_cons_zero, List.set_cons_succ]
    refine held_take 2 16 (.agg v.arr) rfl rfl (by kernel_rfl) (by kernel_rfl) (by kernel_rfl) (fun _ _ _ h => h) (by kernel_rfl) (fun _ h => exec_load24 rfl rfl h.1) hS ?_
    simp only [Act.put, List.setIfInBounds_toArray, List.set_cons_zero, List.set_cons_succ]
    refine held_call 1 15 10 #[(.agg v.arr)] (.pointer none) rfl (by kernel_rfl) rfl (by kernel_rfl) (by kernel_rfl) (HNF.out _) (fun _ h hb => ⟨h.1.below hb, h.2.trans (hb.mono h.2.size)⟩) hS (fun w101 hS => ?_)
    simp only [Act.put, List.setIfInBounds_toArray, List.set_cons_zero, List.set_cons_succ]
    refine held_call 3 17 10 #[(.agg v.arr)] (.pointer none) rfl (by kernel_rfl) rfl (by kernel_rfl) (by kernel_rfl) (HNF.out _) (fun _ h hb => ⟨h.1.below hb, h.2.trans (hb.mono h.2.size)⟩) hS (fun w103 hS => ?_)
    simp only [Act.put, List.setIfInBounds_toArray, List.set_cons_zero, List.set_cons_succ]
    refine held_take 4 7 (.pointer none) rfl rfl (by kernel_rfl) (by kernel_rfl) (by kernel_rfl) (fun _ _ _ h => h) (by kernel_rfl) (fun _ _ => rfl) hS ?_
    simp only [Act.put, List.setIfInBounds_toArray, List.set_cons_zero, List.set_cons_succ]
    refine held_take 5 8 (.pointer none) rfl rfl (by kernel_rfl) (by kernel_rfl) (by kernel_rfl) (fun _ _ _ h => h) (by kernel_rfl) (fun _ _ => rfl) hS ?_
    simp only [Act.put, List.setIfInBounds_toArray, List.set_cons_zero, List.set_cons_succ]
    refine wpAnyH_done (by kernel_rfl) ?_ _
    have HO2 := Lib.hid hS.1
    have HB2 := Lib.hid hS.2
    clear hS
    go_wp2_with (refine wpList_runW (exec_load24 rfl rfl HO2.out) (by kernel_rfl) ?_)
    refine (HRR.out _).mono ?_
    rintro e w3 ⟨rfl, hb⟩
    have HB3 := Lib.hid (HB2.out.trans (hb.mono HB2.out.size))
    clear hb
    go_wp2_with fail
    go_ret
    exact ⟨rfl, HB3.out⟩
  · have HRT := Lib.hid hrt
    clear hrt HRR
    have HNT : Hid (∀ w, Calls Try.prog 10 #[.agg v.arr] w (fun e w' => ∃ p m, e = .returned (.pointer (some ⟨p, 0, none⟩)) ∧ Grp w' p m v [] ∧ w.heap.size ≤ p ∧ w.heap.size ≤ m ∧ Below w.heap.size w w')) := Lib.hid (fun w => (new_any v w).mono fun e w' hP => by
      rcases hP with ⟨hrt, _⟩ | ⟨_, h⟩
      · rw [HRT.out] at hrt; cases hrt
      · exact h)
    refine wp_region_held_drew (S := fun w' => Blk w' w.heap.size 24 v.arr ∧ Below w.heap.size w w') (by kernel_rfl) ⟨HO1.out, HB1.out.drew⟩ (fun hS => ?_)
    refine held_take 0 14 (.agg v.arr) rfl rfl (by kernel_rfl) (by kernel_rfl) (by kernel_rfl) (fun _ _ _ h => h) (by kernel_rfl) (fun _ h => exec_load24 rfl rfl h.1) hS ?_
    simp only [Act.put, List.setIfInBounds_toArray, List.set_cons_zero, List.set_cons_succ]
    refine held_take 2 16 (.agg v.arr) rfl rfl (by kernel_rfl) (by kernel_rfl) (by kernel_rfl) (fun _ _ _ h => h) (by kernel_rfl) (fun _ h => exec_load24 rfl rfl h.1) hS ?_
    simp only [Act.put, List.setIfInBounds_toArray, List.set_cons_zero, List.set_cons_succ]
    refine held_callP 1 15 10 #[.agg v.arr] rfl (by kernel_rfl) rfl (by kernel_rfl) (by kernel_rfl) (HNT.out _) (fun e x1 hP => ?_)
    obtain ⟨p, m, rfl, hg1, hp1, hm1, hb1⟩ := hP
    refine ⟨_, rfl, ⟨hS.1.below hb1, hS.2.trans (hb1.mono hS.2.size)⟩, fun hS1 => ?_⟩
    have HA1 := Lib.hid (sb_new hS.1 HDL.out hS.2 HRT.out hg1 hp1 hm1 hb1)
    clear hg1 hp1 hm1 hb1 hS
    simp only [Act.put, List.setIfInBounds_toArray, List.set_cons_zero, List.set_cons_succ]
    refine held_callP 3 17 10 #[.agg v.arr] rfl (by kernel_rfl) rfl (by kernel_rfl) (by kernel_rfl) (HNT.out _) (fun e x2 hP => ?_)
    obtain ⟨q, u, rfl, hg2, hp2, hm2, hb2⟩ := hP
    refine ⟨_, rfl, ⟨hS1.1.below hb2, hS1.2.trans (hb2.mono hS1.2.size)⟩, fun hS2 => ?_⟩
    have HAB : Hid (Ab w x2 p m q u v v [] v [] ab nb l 0 0) := Lib.hid ⟨HA1.out.below hb2, sb_new hS1.1 HDL.out hS1.2 HRT.out hg2 hp2 hm2 hb2, by have := HA1.out.grp.blk.lt; omega, by have := HA1.out.grp.mp.lt; omega⟩
    clear hg2 hp2 hm2 hb2 hS1
    simp only [Act.put, List.setIfInBounds_toArray, List.set_cons_zero, List.set_cons_succ]
    refine held_take 4 7 (.pointer (some ⟨p, 0, none⟩)) rfl rfl (by kernel_rfl) (by kernel_rfl) (by kernel_rfl) (fun _ _ _ h => h) (by kernel_rfl) (fun _ _ => rfl) hS2 ?_
    simp only [Act.put, List.setIfInBounds_toArray, List.set_cons_zero, List.set_cons_succ]
    refine held_take 5 8 (.pointer (some ⟨q, 0, none⟩)) rfl rfl (by kernel_rfl) (by kernel_rfl) (by kernel_rfl) (fun _ _ _ h => h) (by kernel_rfl) (fun _ _ => rfl) hS2 ?_
    simp only [Act.put, List.setIfInBounds_toArray, List.set_cons_zero, List.set_cons_succ]
    refine wpAnyH_done (by kernel_rfl) ?_ _
    clear hS2
    go_wp2_with fail
    go_loopw [10, 9] (fun i o wr => ∃ (k : Nat) (c : V) (L : List Dt) (ao : Option Addr) (co : Nat) (ts : List Dt), k ≤ 60 ∧ k ≤ nb ∧ i = .int .i64 (k : Int) ∧ o = .slice ao ts.length co ∧ Hid (Ab w wr p m q u v c L v [] ab nb l k 0) ∧ Hid (Tn w wr v c L ao co ts k)) (fun i _ _ => 60 - (intOf i).toNat)
    case atStart => exact ⟨0, v, [], none, 0, [], by omega, by omega, rfl, rfl, HAB, Lib.hid ⟨own_nil _ _, by simp, fun y => by simp [In], Nat.le_refl _⟩⟩
    case round =>
      obtain ⟨k, c, L, ao, co, ts, hk6, hkn, rfl, rfl, HS, HI⟩ := hrel
      by_cases hlt : k < nb ∧ k < 60
      · obtain ⟨hl1, hl2⟩ := hlt
        obtain ⟨⟨r, s⟩, hx⟩ : ∃ x, l[k]? = some x := ⟨l[k]'(by rw [HDL.out.len]; exact hl1), by simp⟩
        obtain ⟨b1, o1, hab, _⟩ := HS.out.one.arg.cells.resolve_left (by omega)
        subst hab
        have HX : Hid (∀ w', DL w' (some ⟨b1, o1, none⟩) nb l → w'.cell? ⟨b1, o1 + k * 2, none⟩ = some (.int .u8 (r : Int)) ∧ w'.cell? ⟨b1, o1 + k * 2 + 1, none⟩ = some (.int .u32 (s : Int))) := Lib.hid (fun w' h => by
          obtain ⟨b2, o2, e, hc⟩ := h.cells.resolve_left (by omega)
          cases e
          exact hc k _ hx)
        have HRW : Hid (Raw (r, s)) := Lib.hid (HDL.out.raw _ (List.mem_of_getElem? hx))
        clear hx
        obtain ⟨c1, c2⟩ := HX.out _ HS.out.one.arg
        go_wp2_with fail
        clear c1 c2
        refine (gadd_any HS.out.one.grp HS.out.one.nm (r, s) HRW.out (by have := HS.out.one.len; omega)).mono ?_
        rintro e w5 ⟨c', L', rfl, ha, hg, hkp⟩
        have HS5 := Lib.hid (HS.out.addA ha hg hkp)
        have HO5 := Lib.hid (HI.out.keep HS.out.one.grp hkp)
        by_cases he : addE c L (r, s) = 0
        · have hA := ha.took he
          rw [he]
          have HMM : Hid (∀ y, In c' L' y ↔ V.hasB v y.1 y.2 = true ∨ y ∈ ts ++ [(r, s)]) := Lib.hid (by
            intro y
            rw [hA.mem y, HI.out.mem y, List.mem_append, List.mem_singleton, or_assoc])
          have HRA : Hid (∀ x ∈ ts ++ [(r, s)], Raw x) := Lib.hid (by
            intro x hx
            rcases List.mem_append.1 hx with hx | hx
            · exact HI.out.raw x hx
            · obtain rfl : x = (r, s) := by simpa using hx
              exact HRW.out)
          have HLN : Hid ((ts ++ [(r, s)]).length ≤ k + 1) := Lib.hid (by have := HI.out.len; simp; omega)
          obtain ⟨c1, c2⟩ := HX.out _ HS5.out.one.arg
          clear ha hg hkp hA he
          have HO6 := Lib.hid (HO5.out.below (below_one w5 (.cells #[.int .u8 (r : Int), .int .u32 (s : Int)] 34)))
          have HS6 := Lib.hid (HS5.out.below (below_one w5 (.cells #[.int .u8 (r : Int), .int .u32 (s : Int)] 34)))
          have HD6 := Lib.hid (Blk.new w5 34 #[.int .u8 (r : Int), .int .u32 (s : Int)])
          have HN6 : Hid (ts.length < 1000000000) := Lib.hid (by have := HLN.out; simp at this; omega)
          have HZ6 : Hid (w.heap.size + 1 ≤ (w5.alloc (.cells #[.int .u8 (r : Int), .int .u32 (s : Int)] 34)).heap.size) := Lib.hid (by have := HS6.out.one.one.lt; omega)
          go_wp2_with (at_builtin; refine wpList_appendD rfl rfl rfl rfl HO6.out HD6.out HN6.out HZ6.out ?_; intro a7 cap7 w7 ho7 hk7 hl7)
          have HS7 : Hid (Ab w w7 p m q u v c' L' v [] (some ⟨b1, o1, none⟩) nb l (k + 1) 0) := Lib.hid (HS6.out.kept hk7 (by rintro i ⟨ad, had, rfl⟩; have := (HO6.out.lt ad had).1; omega) (by rintro ⟨ad, had, e⟩; exact HO6.out.ne_blk HS6.out.one.grp.blk (by decide) ad had e.symm) (by rintro ⟨ad, had, e⟩; exact HO6.out.ne_mp HS6.out.one.grp.mp ad had e.symm) (by rintro ⟨ad, had, e⟩; exact HO6.out.ne_blk HS6.out.two.grp.blk (by decide) ad had e.symm) (by rintro ⟨ad, had, e⟩; exact HO6.out.ne_mp HS6.out.two.grp.mp ad had e.symm))
          have HI7 : Hid (Tn w w7 v c' L' a7 cap7 (ts ++ [(r, s)]) (k + 1)) := Lib.hid ⟨by simpa using ho7, HRA.out, HMM.out, HLN.out⟩
          clear ho7 hk7 hl7 c1 c2
          go_wp2_with fail
          go_roundw
          case rel => exact ⟨k + 1, c', L', a7, cap7, ts ++ [(r, s)], by omega, by omega, by go_num, by simp, HS7, HI7⟩
          case measure => simp [intOf]; omega
        · obtain ⟨rfl, rfl⟩ := ha.left he
          have HI7 : Hid (Tn w w5 v c' L' ao co ts (k + 1)) := Lib.hid ⟨HO5.out, HI.out.raw, HI.out.mem, by have := HI.out.len; omega⟩
          obtain ⟨en, hen⟩ : ∃ en : Nat, addE c' L' (r, s) = en := ⟨_, rfl⟩
          rw [hen]
          have hne : ((en : Int) == 0) = false := by simp; omega
          clear ha hg hkp he hen
          go_wp2_with fail
          go_roundw
          case rel => exact ⟨k + 1, c', L', ao, co, ts, by omega, by omega, by go_num, rfl, HS5, HI7⟩
          case measure => simp [intOf]; omega
      · have hts : ts.length < 100 := by have := HI.out.len; omega
        have hcase : (nb : Int) ≤ (k : Int) ∨ ((k : Int) < (nb : Int) ∧ (60 : Int) ≤ (k : Int)) := by omega
        have hkn' : (k : Int) ≤ (nb : Int) := by omega
        rcases hcase with hcc | ⟨hcc, hcd⟩
        all_goals
          go_wp2_with fail
          go_loopw [53] (fun i wr => ∃ (j : Nat) (d : V) (M : List Dt), j ≤ ts.length ∧ i = .int .i64 (j : Int) ∧ Hid (Ab w wr p m q u v c L d M ab nb l k j) ∧ Hid (Tn w wr v c L ao co ts k) ∧ Hid (∀ y, In d M y ↔ V.hasB v y.1 y.2 = true ∨ Met ts at_ j y)) (fun i _ => ts.length - (intOf i).toNat)
          case atStart => exact ⟨0, v, [], by omega, rfl, HS, HI, Lib.hid (fun y => by simp [In, Met])⟩
          case round =>
            obtain ⟨j, d, M, hj, rfl, HJ, HT, HM⟩ := hrel
            by_cases hjl : j < ts.length
            · obtain ⟨f, hf⟩ : ∃ f, (j + at_) % ts.length = f := ⟨_, rfl⟩
              have hfl : f < ts.length := by rw [← hf]; exact Nat.mod_lt _ (by omega)
              obtain ⟨⟨r, s⟩, hx⟩ : ∃ x, ts[f]? = some x := ⟨ts[f], by simp [hfl]⟩
              obtain ⟨b2, o2, hab2, hc2⟩ := (HT.out.own.dl HT.out.raw).cells.resolve_left (by omega)
              have HRW : Hid (Raw (r, s)) := Lib.hid (HT.out.raw _ (List.mem_of_getElem? hx))
              obtain ⟨d1, d2⟩ := hc2 f _ hx
              have HX := Lib.hid hx
              have HF := Lib.hid hf
              subst hab2
              simp only at d1 d2
              have hrem : (((j : Int) + (at_ : Int))).tmod (ts.length : Int) = (f : Int) := by
                rw [← hf, Int.tmod_eq_emod_of_nonneg (by omega)]; simp
              clear hc2 hx hf
              go_wp2_with fail
              clear d1 d2 hrem
              refine (gadd_any HJ.out.two.grp HJ.out.two.nm (r, s) HRW.out (by have := HJ.out.two.len; omega)).mono ?_
              rintro e w5 ⟨d', M', rfl, ha, hg, hkp⟩
              have HJ5 := Lib.hid (HJ.out.addB ha hg hkp)
              have HT5 : Hid (Tn w w5 v c L (some ⟨b2, o2, none⟩) co ts k) := Lib.hid ⟨HT.out.keep HJ.out.two.grp hkp, HT.out.raw, HT.out.mem, HT.out.len⟩
              by_cases he : addE d M (r, s) = 0
              · have hA := ha.took he
                rw [he]
                have HM5 : Hid (∀ y, In d' M' y ↔ V.hasB v y.1 y.2 = true ∨ Met ts at_ (j + 1) y) := Lib.hid (by
                  intro y
                  rw [hA.mem y, HM.out y, or_assoc]
                  refine or_congr_right ?_
                  constructor
                  · rintro (⟨i, hi, hy⟩ | rfl)
                    · exact ⟨i, by omega, hy⟩
                    · exact ⟨j, by omega, by rw [HF.out]; exact HX.out⟩
                  · rintro ⟨i, hi, hy⟩
                    by_cases e : i = j
                    · subst e
                      rw [HF.out, HX.out] at hy
                      exact .inr (Option.some.inj hy).symm
                    · exact .inl ⟨i, by omega, hy⟩)
                clear ha hg hkp hA he
                go_wp2_with fail
                go_roundw
                case rel => exact ⟨j + 1, d', M', by omega, by go_num, HJ5, HT5, HM5⟩
                case measure => simp [intOf]; omega
              · obtain ⟨en, hen⟩ : ∃ en : Nat, addE d M (r, s) = en := ⟨_, rfl⟩
                rw [hen]
                have hne : ((en : Int) != 0) = true := by simp; omega
                clear ha hg hkp he hen
                go_wp2_with fail
                go_ret
                exact ⟨rfl, HJ5.out.one.old⟩
            · obtain rfl : j = ts.length := by omega
              have heq : c = d ∧ L = M := norm_ext HJ.out.one.nm HJ.out.two.nm (fun y => by
                rw [HT.out.mem y, HM.out y]
                refine or_congr_right ?_
                constructor
                · intro hy
                  obtain ⟨f, hf⟩ := List.getElem?_of_mem hy
                  obtain ⟨i, hi, e⟩ := rot_all (at_ := at_) (by have := (List.getElem?_eq_some_iff.1 hf).1; omega) (List.getElem?_eq_some_iff.1 hf).1
                  exact ⟨i, hi, by rw [e]; exact hf⟩
                · rintro ⟨i, _, hy⟩
                  exact List.mem_of_getElem? hy)
              obtain ⟨rfl, rfl⟩ := heq
              have HL9 : Hid (L.length ≤ 900) := Lib.hid (by have := HJ.out.one.len; omega)
              have HML : Hid ((miss c L).length < 4611686018427387904) := Lib.hid (by have := len_miss L c (fun x hx => (HJ.out.one.nm.mem x hx).2.1); have := HL9.out; omega)
              have HSC : Hid (∀ (w' : World) (x y : Option Addr) (cx cy : Nat) (z : List Dt), DL w' x z.length z → DL w' y z.length z → z.length < 4611686018427387904 → Calls Try.prog 18 #[.slice x z.length cx, .slice y z.length cy] w' (Says (.bool true) w')) := Lib.hid (fun w' x y cx cy z h1 h2 hz => by
                have := same_any (ca := cx) (cb := cy) h1 h2 hz hz
                rwa [decide_eq_true rfl] at this)
              have HRL := Lib.hid HJ.out.one.grp.raw
              have HRM := Lib.hid (miss_raw HJ.out.one.nm)
              have HNM := Lib.hid HJ.out.one.nm
              have HMI : Hid (∀ (w' : World) (p' m' : Nat), Grp w' p' m' c L → Calls Try.prog 21 #[.pointer (some ⟨p', 0, none⟩)] w' (Lists (miss c L) w')) := Lib.hid (fun w' p' m' h => gmissing_any h HNM.out HL9.out)
              generalize miss c L = mm at HMI HRM HML
              have HJ1 := HJ
              clear HT HM HI HS hts hkn' hcc hlt
              go_wp2_with fail
              refine (closed_any HJ1.out.one.grp).mono ?_
              rintro e y1 ⟨rfl, hb⟩
              have HJ2 := Lib.hid (HJ1.out.below hb)
              clear hb HJ1
              go_wp2_with fail
              refine (closed_any HJ2.out.two.grp).mono ?_
              rintro e y2 ⟨rfl, hb⟩
              have HJ3 := Lib.hid (HJ2.out.below hb)
              clear hb HJ2
              go_wp2_with (refine wpList_runW (exec_eql24 (r := true) rfl rfl rfl (by simp [V.eqB])) (by kernel_rfl) ?_)
              refine (gloose_any HJ3.out.one.grp (by have := HL9.out; omega)).mono ?_
              rintro e y3 ⟨g3, k3, rfl, ho, hb⟩
              have HJ4 := Lib.hid (HJ3.out.below hb)
              have HD4 := Lib.hid (ho.dl HRL.out)
              clear hb HJ3 ho
              go_wp2_with fail
              refine (gloose_any HJ4.out.two.grp (by have := HL9.out; omega)).mono ?_
              rintro e y4 ⟨g4, k4, rfl, ho, hb⟩
              have HJ5 := Lib.hid (HJ4.out.below hb)
              have HD5 := Lib.hid (HD4.out.below hb)
              have HE5 := Lib.hid (ho.dl HRL.out)
              clear hb HJ4 ho HD4
              go_wp2_with fail
              refine (HSC.out _ _ _ _ _ _ HD5.out HE5.out (by have := HL9.out; omega)).mono ?_
              rintro e y5 ⟨rfl, hb⟩
              have HJ6 := Lib.hid (HJ5.out.below hb)
              clear hb HJ5 HD5 HE5
              go_wp2_with fail
              refine (HMI.out _ _ _ HJ6.out.one.grp).mono ?_
              rintro e y6 ⟨g6, k6, rfl, ho, hb⟩
              have HJ7 := Lib.hid (HJ6.out.below hb)
              have HD7 := Lib.hid (ho.dl HRM.out)
              clear hb HJ6 ho
              go_wp2_with fail
              refine (HMI.out _ _ _ HJ7.out.two.grp).mono ?_
              rintro e y7 ⟨g7, k7, rfl, ho, hb⟩
              have HJ8 := Lib.hid (HJ7.out.below hb)
              have HD8 := Lib.hid (HD7.out.below hb)
              have HE8 := Lib.hid (ho.dl HRM.out)
              clear hb HJ7 ho HD7
              go_wp2_with fail
              refine (HSC.out _ _ _ _ _ _ HD8.out HE8.out HML.out).mono ?_
              rintro e y8 ⟨rfl, hb⟩
              have HJ9 := Lib.hid (HJ8.out.below hb)
              clear hb HJ8 HD8 HE8
              go_wp2_with fail
              go_ret
              exact ⟨rfl, HJ9.out.one.old⟩


set_option maxRecDepth 100000 in
theorem lifted (os : Os) (started : os.Started) (H : Type) (enc : TypeId × Value → H) :
    ReturnsInHanded {} Try.checked os 4 .any (Rows.dotsAnySpec.pre6 enc Try.prog Try.f4 Rows.dotsAnyRow.domain false) (Rows.dotsAnySpec.post enc Try.prog Try.f4 false true false false) := by
  refine returnsInHanded_of_change (C := Try.checked) own started (by kernel_rfl) Try.func4
    (ChangeSpec.witness6 (enc := enc) (C := Try.checked) false ⟨#[], #[.agg #[.int .u32 0, .int .u32 0, .int .u32 0, .int .u32 0, .int .u32 0, .int .u32 0, .int .u32 0, .int .u32 0, .int .u32 0, .int .u32 0, .int .u32 0, .int .u32 0, .int .u32 0, .int .u32 0, .int .u32 0, .int .u32 0], .slice none 0 0, .int .u8 0], []⟩ 8 (by kernel_rfl) (by kernel_rfl) (by kernel_rfl) (by kernel_rfl)) ?_
  intro W base args ds gs before hval0 hW hcnd _
  have hval : ∀ (j : Nat) t v, Try.f4.params[j]? = some t → args[j]? = some v → Value.okWide Try.prog W .any base t v := hval0
  have hW' := hW
  obtain ⟨p, q, hA0, hV, rfl, hfz, hnd⟩ := hW
  have hA : DataW.TrodAll enc Try.prog W 0 (fun _ => true) true Try.f4.params.toList args.toList ds p := hA0
  rw [Try.params4] at hA hval
  obtain ⟨v0, v1, v2, d0, d1, d2, p0, p1, p2, rfl, rfl, rfl, h0, h1, h2⟩ := trodAll_three hA
  obtain ⟨rfl, rfl⟩ := trodVars_none hV
  have lt0 : ∀ x ∈ p0, x.block < W.heap.size := by obtain ⟨m, hm⟩ := h0; exact DataW.trod_lt m _ _ _ hm
  obtain ⟨a0, rfl⟩ := vec_of (hval 0 24 v0 rfl rfl) h0
  have lt1 : ∀ x ∈ p1, x.block < W.heap.size := by obtain ⟨m, hm⟩ := h1; exact DataW.trod_lt m _ _ _ hm
  obtain ⟨ab, nb, cb, rfl⟩ := okWide_slice Try.underlying25 (hval 1 25 v1 rfl rfl)
  obtain ⟨hl1, l1, hR1⟩ := dots_of h1
  obtain ⟨z2, rfl, rfl, rfl, w2⟩ := open_int Try.underlying5 (hval 2 5 v2 rfl rfl) h2
  have c2 := bounds_u8 w2
  obtain ⟨a2, rfl⟩ := Int.eq_ofNat_of_zero_le c2.1
  clear hA0 hval0
  refine (walk a0 ab nb cb l1 a2 W hl1 hR1 (by omega)).mono fun e W' ⟨he, bel⟩ => ?_
  subst he
  exact ⟨_, rfl, _, _, _, [], _, [], hW', trodAll_mk1 (shut_bool Try.underlying4 _), trodAll_mk3 (Below.trod laidOut (by kernel_rfl) (of_decide_eq_true (by kernel_rfl)) h0 bel lt0) (Below.trod laidOut (by kernel_rfl) (of_decide_eq_true (by kernel_rfl)) h1 bel lt1) (shut_int Try.underlying5 w2), rfl, bel.frame _, fun h => by cases h⟩
end DotsAny

theorem dotsAny_proved : Rows.DotsAnySaid :=
  OpenClaim.holds_of_wide 4 Try.f4 rfl rfl rfl rfl rfl rfl rfl ⟨rfl, rfl, rfl, rfl, rfl⟩ rfl rfl rfl rfl rfl (by kernel_rfl) Try.func4 (by kernel_rfl)
    (of_decide_eq_true (by kernel_rfl)) (by unfold Func.isWrapper; first | (rw [if_pos (by decide +kernel)]; kernel_rfl) | (rw [if_neg (by decide +kernel)]; exact ⟨rfl, rfl⟩))
    (fun os started H enc _ => DotsAny.lifted os started H enc)
#print axioms dotsAny_proved
end Go.Proofs.Ytkamldmcjegjgaa
