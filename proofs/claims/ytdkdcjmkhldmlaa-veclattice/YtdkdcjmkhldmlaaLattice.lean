/- VecLattice: joining and meeting hang on no order, undo each other as in a lattice, and tell what is below what. No condition. -/
import Derived.Test.YtdkdcjmkhldmlaaLaw
namespace Go.Proofs.Ytdkdcjmkhldmlaa
open Go.ChangeShapes Go.WideShapes Go.ChangeAt Go.RowKit

section
variable {ops : Array Oper} {Q : Exit → Act → World → Prop} {S : World → Prop} {fuel : Nat} {listed : Array Bool} {a : Act} {w : World} {rs : List Nat}

theorem br_call (i : Nat) (d : Tmp) {oi : Oper} (f : FuncId) (args : Array Value) (v : Value) (hd : oi.dst = some d) (hi : ops[i]? = some oi) (hw : Region.wanted oi (yielded ops a.tmps) = true)
    (hrun : (execOp a.eval oi).run Try.prog w = .ok (.enter f args) w) (hc : Calls Try.prog f args w (Says v w)) (hm : ∀ w', S w → Below w.heap.size w w' → S w') (hS : S w)
    (h : ∀ w', S w' → Below w.heap.size w w' → wpAnyH Try.prog .any ops Q S fuel (listed.setIfInBounds i true) (a.put (some d) v) w') (hs : AllReadyH Try.prog .any ops Q S fuel listed a w rs) : AllReadyH Try.prog .any ops Q S fuel listed a w (i :: rs) := by
  refine AllReadyH.cons hi (fun K hK => ?_) hs
  rw [if_pos hw]
  unfold Oper.wp
  rw [hrun, Oper.upon_enter]
  refine hc.mono fun e w' hh => ?_
  obtain ⟨rfl, hb⟩ := hh
  exact hK.out _ _ (hm w' hS hb) (fun hS' => by rw [hd]; exact h w' hS' hb)

theorem br_alloc (i : Nat) (d : Tmp) {oi : Oper} {z : V} (hz : V.zero = z) (hd : oi.dst = some d) (hi : ops[i]? = some oi) (hw : Region.wanted oi (yielded ops a.tmps) = true) (ho : oi.op = .alloc 24)
    (hm : ∀ w', S w → Below w.heap.size w w' → S w') (hS : S w)
    (h : ∀ g w', w.heap.size ≤ g → Blk w' g 24 z.arr → S w' → Below w.heap.size w w' → wpAnyH Try.prog .any ops Q S fuel (listed.setIfInBounds i true) (a.put (some d) (.pointer (some ⟨g, 0, none⟩))) w') (hs : AllReadyH Try.prog .any ops Q S fuel listed a w rs) : AllReadyH Try.prog .any ops Q S fuel listed a w (i :: rs) := by
  subst hz
  refine AllReadyH.cons hi (fun K hK => ?_) hs
  rw [if_pos hw]
  unfold Oper.wp execOp
  simp only [ho, Sem.run_bind, alloc24, Result.andThen_ok]
  have hb := below_one w (.cells V.zero.arr 24)
  exact hK.out _ _ (hm _ hS hb) (fun hS' => by rw [hd]; exact h w.heap.size _ (Nat.le_refl _) (Blk.new w 24 V.zero.arr) hS' hb)

theorem br_store (i : Nat) {oi : Oper} {x y : Operand} {g : Nat} {v u : V} (hd : oi.dst = none) (hi : ops[i]? = some oi) (hw : Region.wanted oi (yielded ops a.tmps) = true) (ho : oi.op = .store 24 x y) (hx : a.eval x = .pointer (some ⟨g, 0, none⟩)) (hy : a.eval y = .agg u.arr) (hb : Blk w g 24 v.arr)
    (hm : S (w.setRow g u.arr)) (h : S (w.setRow g u.arr) → wpAnyH Try.prog .any ops Q S fuel (listed.setIfInBounds i true) a (w.setRow g u.arr)) : AllReadyH Try.prog .any ops Q S fuel listed a w [i] := by
  refine AllReadyH.cons hi (fun K hK => ?_) AllReadyH.nil
  rw [if_pos hw]
  unfold Oper.wp execOp
  simp only [ho, hx, hy, Sem.run_bind, store24 (u := u) hb, Result.andThen_ok]
  exact hK.out _ _ hm (fun hS' => by rw [hd]; exact h hS')
end

/-- Three vectors that a call laid down. -/
structure Box3 (w W : World) (a b c : V) : Prop where
  one : Blk W w.heap.size 24 a.arr
  two : Blk W (w.heap.size + 1) 24 b.arr
  tri : Blk W (w.heap.size + 1 + 1) 24 c.arr
  old : Below w.heap.size w W

theorem box3_new (w : World) (a b c : V) : Box3 w (((w.alloc (.cells a.arr 24)).alloc (.cells b.arr 24)).alloc (.cells c.arr 24)) a b c := by
  have h := two_new w a b
  have h3 := Blk.new ((w.alloc (.cells a.arr 24)).alloc (.cells b.arr 24)) 24 c.arr
  have k3 := Kept.alloc (fun _ => False) ((w.alloc (.cells a.arr 24)).alloc (.cells b.arr 24)) (.cells c.arr 24)
  simp only [World.size_alloc] at h3
  exact ⟨h.one.kept k3 (fun h => h), h.two.kept k3 (fun h => h), h3, h.old.alloc (by simp; omega) _⟩
theorem Box3.below {w W W' : World} {a b c : V} (h : Box3 w W a b c) (hb : Below W.heap.size W W') : Box3 w W' a b c :=
  ⟨h.one.below hb, h.two.below hb, h.tri.below hb, h.old.trans (hb.mono h.old.size)⟩
theorem Box3.drew {w W : World} {a b c : V} (h : Box3 w W a b c) : Box3 w W.drew a b c := ⟨h.one, h.two, h.tri, h.old.drew⟩
theorem Box3.row {w W : World} {a b c : V} (h : Box3 w W a b c) {q : Nat} (hq : w.heap.size + 1 + 1 < q) (ds : Array Value) : Box3 w (W.setRow q ds) a b c := by
  have k := Kept.setRow W q ds
  exact ⟨h.one.kept k (by omega), h.two.kept k (by omega), h.tri.kept k (by omega), h.old.trans (k.below h.old.size (fun j hj => by omega))⟩

/-- And two more. -/
structure Lat (w W : World) (a b c : V) (gj gm : Nat) (j m : V) : Prop where
  box : Box3 w W a b c
  jo : Blk W gj 24 j.arr
  me : Blk W gm 24 m.arr
theorem Lat.below {w W W' : World} {a b c j m : V} {gj gm : Nat} (h : Lat w W a b c gj gm j m) (hb : Below W.heap.size W W') : Lat w W' a b c gj gm j m :=
  ⟨h.box.below hb, h.jo.below hb, h.me.below hb⟩
theorem Lat.drew {w W : World} {a b c j m : V} {gj gm : Nat} (h : Lat w W a b c gj gm j m) : Lat w W.drew a b c gj gm j m := ⟨h.box.drew, h.jo, h.me⟩

theorem lat_laid {w W : World} {a b c z j m : V} {gj gm : Nat} (hS : Box3 w W a b c) (hj : Blk W gj 24 z.arr) (hm : Blk W gm 24 z.arr) (h1 : w.heap.size + 1 + 1 < gj) (h2 : w.heap.size + 1 + 1 < gm) (hne : gj ≠ gm) :
    Blk (W.setRow gj j.arr) gm 24 z.arr ∧ Box3 w (W.setRow gj j.arr) a b c ∧ Lat w ((W.setRow gj j.arr).setRow gm m.arr) a b c gj gm j m := by
  have k1 := Kept.setRow W gj j.arr
  have k2 := Kept.setRow (W.setRow gj j.arr) gm m.arr
  have hm1 := hm.kept k1 (fun e => hne e.symm)
  exact ⟨hm1, hS.row h1 _, ⟨(hS.row h1 _).row h2 _, (hj.row).kept k2 hne, hm1.row⟩⟩

theorem join_comm (a b : V) : V.join a b = V.join b a := V.ext fun i h => by rw [V.join_at a b h, V.join_at b a h]; omega
theorem meet_comm (a b : V) : V.meet a b = V.meet b a := V.ext fun i h => by rw [V.meet_at a b h, V.meet_at b a h]; omega
theorem join_self (a : V) : V.join a a = a := V.ext fun i h => by rw [V.join_at a a h]; omega
theorem meet_self (a : V) : V.meet a a = a := V.ext fun i h => by rw [V.meet_at a a h]; omega
theorem join_meet (a b : V) : V.join a (V.meet a b) = a := V.ext fun i h => by rw [V.join_at _ _ h, V.meet_at _ _ h]; omega
theorem meet_join (a b : V) : V.meet a (V.join a b) = a := V.ext fun i h => by rw [V.meet_at _ _ h, V.join_at _ _ h]; omega
theorem join_assoc (a b c : V) : V.join (V.join a b) c = V.join a (V.join b c) := V.ext fun i h => by rw [V.join_at _ _ h, V.join_at _ _ h, V.join_at _ _ h, V.join_at _ _ h]; omega
theorem meet_assoc (a b c : V) : V.meet (V.meet a b) c = V.meet a (V.meet b c) := V.ext fun i h => by rw [V.meet_at _ _ h, V.meet_at _ _ h, V.meet_at _ _ h, V.meet_at _ _ h]; omega
theorem below_meet (a b : V) : V.eqB (V.meet a b) a = V.belowB a b := by
  rw [Bool.eq_iff_iff, V.eqB_iff, V.belowB_iff]
  constructor
  · intro h i hi
    have := congrArg (fun v => v.at_ i) h
    simp only [V.meet_at a b hi] at this
    omega
  · intro h
    exact V.ext fun i hi => by rw [V.meet_at a b hi]; have := h i hi; omega
theorem below_up (a b : V) : V.belowB a (V.join a b) = true := belowB_of _ _ fun i hi => by rw [V.join_at a b hi]; omega
theorem below_down (a b : V) : V.belowB (V.meet a b) a = true := belowB_of _ _ fun i hi => by rw [V.meet_at a b hi]; omega
theorem not_eqB {a b : V} (h : a = b) : (!V.eqB a b) = false := by simp [V.eqB, h]
theorem order_two (a b : V) : (V.order a b == 2) = (!V.belowB a b && !V.belowB b a) := by
  cases he : V.eqB a b
  · cases h1 : V.belowB a b
    · cases h2 : V.belowB b a
      · rw [order_unlike he h1 h2]; rfl
      · rw [order_greater he h1 h2]; rfl
    · rw [order_less he h1]; rfl
  · have e := (V.eqB_iff a b).1 he
    subst e
    have h1 : V.belowB a a = true := belowB_of _ _ fun i _ => Nat.le_refl _
    rw [order_same he, h1]; rfl

namespace VecLattice
set_option maxHeartbeats 8000000 in
set_option maxRecDepth 100000 in
theorem walk (a b c : V) (w : World) : Calls Try.prog 7 #[.agg a.arr, .agg b.arr, .agg c.arr] w (Says (.bool true) w) := by
  obtain ⟨z, hz⟩ : ∃ z, V.zero = z := ⟨_, rfl⟩
  have HZ := Lib.hid hz
  clear hz
  have hb1 := fun (v : V) (w : World) => box24 v w
  have HT := Lib.hid (box3_new w a b c)
  go_enter Try.func7, Try.ntmps7
  go_wp2_with fail
  clear hb1
  generalize ((w.alloc (.cells a.arr 24)).alloc (.cells b.arr 24)).alloc (.cells c.arr 24) = W at HT
  refine (alive_any _).mono ?_
  rintro e w1 ⟨rfl, hb⟩
  have HT1 := Lib.hid (HT.out.below hb)
  clear hb
  go_wp2_with fail
  refine Code.wp_mono (Q := fun e a' w' => e = .normal ∧ ∃ gj gm, a' = { tmps := #[.agg a.arr, .agg b.arr, .agg c.arr, .pointer (some ⟨w.heap.size, 0, none⟩), .pointer (some ⟨w.heap.size + 1, 0, none⟩), .pointer (some ⟨w.heap.size + 1 + 1, 0, none⟩), .bool false, .pointer (some ⟨gj, 0, none⟩), .pointer (some ⟨gm, 0, none⟩), .bool true, .bool false, .agg a.arr, .agg b.arr, .agg (V.join a b).arr, .agg a.arr, .agg b.arr, .agg (V.meet a b).arr, undef, undef, undef, undef, undef, undef, undef, undef, undef, undef, undef, undef, undef, undef, undef, undef, undef, undef, undef, undef, undef, undef, undef, undef, undef, undef, undef, undef, undef, undef, undef, undef, undef, undef, undef, undef, undef, undef, undef, undef, undef, undef, undef, undef, undef, undef, undef, undef, undef, undef, undef, undef, undef, undef, undef, undef, undef, undef, undef, undef, undef, undef, undef, undef, undef, undef, undef, undef, undef, undef, undef, undef, undef, undef, undef, undef, undef, undef, undef, undef, undef, undef, undef, undef, undef, undef, undef, undef, undef, undef, undef, undef, undef, undef, undef, undef, undef, undef, undef, undef, undef, undef, undef], defers := [] } ∧ Lat w w' a b c gj gm (V.join a b) (V.meet a b)) ?cont ?reg
  case reg =>
    refine wp_region_held_drew (S := fun w' => Box3 w w' a b c) (by kernel_rfl) HT1.out.drew (fun hS => ?_)
    refine held_take 0 11 (.agg a.arr) rfl rfl (by kernel_rfl) (by kernel_rfl) (by kernel_rfl) (fun _ _ _ h => by cases h.1) (by kernel_rfl) (fun _ h => exec_load24 rfl rfl h.one) hS ?_
    simp only [Act.put, List.setIfInBounds_toArray, List.set_cons_zero, List.set_cons_succ]
    refine held_take 1 12 (.agg b.arr) rfl rfl (by kernel_rfl) (by kernel_rfl) (by kernel_rfl) (fun _ _ _ h => by cases h.1) (by kernel_rfl) (fun _ h => exec_load24 rfl rfl h.two) hS ?_
    simp only [Act.put, List.setIfInBounds_toArray, List.set_cons_zero, List.set_cons_succ]
    refine held_take 3 14 (.agg a.arr) rfl rfl (by kernel_rfl) (by kernel_rfl) (by kernel_rfl) (fun _ _ _ h => by cases h.1) (by kernel_rfl) (fun _ h => exec_load24 rfl rfl h.one) hS ?_
    simp only [Act.put, List.setIfInBounds_toArray, List.set_cons_zero, List.set_cons_succ]
    refine held_take 4 15 (.agg b.arr) rfl rfl (by kernel_rfl) (by kernel_rfl) (by kernel_rfl) (fun _ _ _ h => by cases h.1) (by kernel_rfl) (fun _ h => exec_load24 rfl rfl h.two) hS ?_
    simp only [Act.put, List.setIfInBounds_toArray, List.set_cons_zero, List.set_cons_succ]
    refine wpAnyH_ready (rs := [2, 6, 7]) (by kernel_rfl) (by simp) ?_
    refine br_call 2 13 18 #[.agg a.arr, .agg b.arr] (.agg (V.join a b).arr) rfl rfl (by kernel_rfl) (by kernel_rfl) (join_any a b _) (fun _ h hb => h.below hb) hS (fun x1 hS hb => ?_) ?_
    · simp only [Act.put, List.setIfInBounds_toArray, List.set_cons_zero, List.set_cons_succ]
      clear hb
      refine wpAnyH_ready (rs := [5, 6, 7]) (by kernel_rfl) (by simp) ?_
      refine br_call 5 16 20 #[.agg a.arr, .agg b.arr] (.agg (V.meet a b).arr) rfl rfl (by kernel_rfl) (by kernel_rfl) (meet_any a b _) (fun _ h hb => h.below hb) hS (fun x2 hS hb => ?_) ?_
      · simp only [Act.put, List.setIfInBounds_toArray, List.set_cons_zero, List.set_cons_succ]
        clear hb
        refine wpAnyH_ready (rs := [6, 7]) (by kernel_rfl) (by simp) ?_
        refine br_alloc 6 7 HZ.out rfl rfl (by kernel_rfl) rfl (fun _ h hb => h.below hb) hS (fun gj x3 hg hn hS2 hb => ?_) ?_
        · simp only [Act.put, List.setIfInBounds_toArray, List.set_cons_zero, List.set_cons_succ]
          have hj := hn
          have bj : w.heap.size + 1 + 1 < gj := Nat.lt_of_lt_of_le hS.tri.lt hg
          replace hS := hS2
          clear hb hg hn hS2
          refine wpAnyH_ready (rs := [7]) (by kernel_rfl) (by simp) ?_
          refine br_alloc 7 8 HZ.out rfl rfl (by kernel_rfl) rfl (fun _ h hb => h.below hb) hS (fun gm x4 hg hn hS2 hb => ?_) ?_
          · simp only [Act.put, List.setIfInBounds_toArray, List.set_cons_zero, List.set_cons_succ]
            have hm := hn
            have bm : w.heap.size + 1 + 1 < gm := Nat.lt_of_lt_of_le hS.tri.lt hg
            have hne : gj ≠ gm := fun e => by have := hj.lt; omega
            replace hj := hj.below hb
            replace hS := hS2
            clear hb hg hn hS2
            obtain ⟨m1, m2, m3⟩ := lat_laid (j := V.join a b) (m := V.meet a b) hS hj hm bj bm hne
            refine wpAnyH_ready (rs := [8]) (by kernel_rfl) (by simp) ?_
            refine br_store 8 rfl rfl (by kernel_rfl) rfl rfl rfl hj m2 (fun hS => ?_)
            refine wpAnyH_ready (rs := [9]) (by kernel_rfl) (by simp) ?_
            refine br_store 9 rfl rfl (by kernel_rfl) rfl rfl rfl m1 m3.box (fun hS => ?_)
            refine wpAnyH_done (by kernel_rfl) ?_ _
            exact ⟨rfl, gj, gm, rfl, m3⟩
          exact AllReadyH.nil
        refine br_alloc 7 8 HZ.out rfl rfl (by kernel_rfl) rfl (fun _ h hb => h.below hb) hS (fun gm x5 hg hn hS2 hb => ?_) ?_
        · simp only [Act.put, List.setIfInBounds_toArray, List.set_cons_zero, List.set_cons_succ]
          have hm := hn
          have bm : w.heap.size + 1 + 1 < gm := Nat.lt_of_lt_of_le hS.tri.lt hg
          replace hS := hS2
          clear hb hg hn hS2
          refine wpAnyH_ready (rs := [6]) (by kernel_rfl) (by simp) ?_
          refine br_alloc 6 7 HZ.out rfl rfl (by kernel_rfl) rfl (fun _ h hb => h.below hb) hS (fun gj x6 hg hn hS2 hb => ?_) ?_
          · simp only [Act.put, List.setIfInBounds_toArray, List.set_cons_zero, List.set_cons_succ]
            have hj := hn
            have bj : w.heap.size + 1 + 1 < gj := Nat.lt_of_lt_of_le hS.tri.lt hg
            have hne : gj ≠ gm := fun e => by have := hm.lt; omega
            replace hm := hm.below hb
            replace hS := hS2
            clear hb hg hn hS2
            obtain ⟨m1, m2, m3⟩ := lat_laid (j := V.join a b) (m := V.meet a b) hS hj hm bj bm hne
            refine wpAnyH_ready (rs := [8]) (by kernel_rfl) (by simp) ?_
            refine br_store 8 rfl rfl (by kernel_rfl) rfl rfl rfl hj m2 (fun hS => ?_)
            refine wpAnyH_ready (rs := [9]) (by kernel_rfl) (by simp) ?_
            refine br_store 9 rfl rfl (by kernel_rfl) rfl rfl rfl m1 m3.box (fun hS => ?_)
            refine wpAnyH_done (by kernel_rfl) ?_ _
            exact ⟨rfl, gj, gm, rfl, m3⟩
          exact AllReadyH.nil
        exact AllReadyH.nil
      refine br_alloc 6 7 HZ.out rfl rfl (by kernel_rfl) rfl (fun _ h hb => h.below hb) hS (fun gj x7 hg hn hS2 hb => ?_) ?_
      · simp only [Act.put, List.setIfInBounds_toArray, List.set_cons_zero, List.set_cons_succ]
        have hj := hn
        have bj : w.heap.size + 1 + 1 < gj := Nat.lt_of_lt_of_le hS.tri.lt hg
        replace hS := hS2
        clear hb hg hn hS2
        refine wpAnyH_ready (rs := [5, 7]) (by kernel_rfl) (by simp) ?_
        refine br_call 5 16 20 #[.agg a.arr, .agg b.arr] (.agg (V.meet a b).arr) rfl rfl (by kernel_rfl) (by kernel_rfl) (meet_any a b _) (fun _ h hb => h.below hb) hS (fun x8 hS hb => ?_) ?_
        · simp only [Act.put, List.setIfInBounds_toArray, List.set_cons_zero, List.set_cons_succ]
          replace hj := hj.below hb
          clear hb
          refine wpAnyH_ready (rs := [7]) (by kernel_rfl) (by simp) ?_
          refine br_alloc 7 8 HZ.out rfl rfl (by kernel_rfl) rfl (fun _ h hb => h.below hb) hS (fun gm x9 hg hn hS2 hb => ?_) ?_
          · simp only [Act.put, List.setIfInBounds_toArray, List.set_cons_zero, List.set_cons_succ]
            have hm := hn
            have bm : w.heap.size + 1 + 1 < gm := Nat.lt_of_lt_of_le hS.tri.lt hg
            have hne : gj ≠ gm := fun e => by have := hj.lt; omega
            replace hj := hj.below hb
            replace hS := hS2
            clear hb hg hn hS2
            obtain ⟨m1, m2, m3⟩ := lat_laid (j := V.join a b) (m := V.meet a b) hS hj hm bj bm hne
            refine wpAnyH_ready (rs := [8]) (by kernel_rfl) (by simp) ?_
            refine br_store 8 rfl rfl (by kernel_rfl) rfl rfl rfl hj m2 (fun hS => ?_)
            refine wpAnyH_ready (rs := [9]) (by kernel_rfl) (by simp) ?_
            refine br_store 9 rfl rfl (by kernel_rfl) rfl rfl rfl m1 m3.box (fun hS => ?_)
            refine wpAnyH_done (by kernel_rfl) ?_ _
            exact ⟨rfl, gj, gm, rfl, m3⟩
          exact AllReadyH.nil
        refine br_alloc 7 8 HZ.out rfl rfl (by kernel_rfl) rfl (fun _ h hb => h.below hb) hS (fun gm x10 hg hn hS2 hb => ?_) ?_
        · simp only [Act.put, List.setIfInBounds_toArray, List.set_cons_zero, List.set_cons_succ]
          have hm := hn
          have bm : w.heap.size + 1 + 1 < gm := Nat.lt_of_lt_of_le hS.tri.lt hg
          have hne : gj ≠ gm := fun e => by have := hj.lt; omega
          replace hj := hj.below hb
          replace hS := hS2
          clear hb hg hn hS2
          refine wpAnyH_ready (rs := [5]) (by kernel_rfl) (by simp) ?_
          refine br_call 5 16 20 #[.agg a.arr, .agg b.arr] (.agg (V.meet a b).arr) rfl rfl (by kernel_rfl) (by kernel_rfl) (meet_any a b _) (fun _ h hb => h.below hb) hS (fun x11 hS hb => ?_) ?_
          · simp only [Act.put, List.setIfInBounds_toArray, List.set_cons_zero, List.set_cons_succ]
            replace hj := hj.below hb
            replace hm := hm.below hb
            clear hb
            obtain ⟨m1, m2, m3⟩ := lat_laid (j := V.join a b) (m := V.meet a b) hS hj hm bj bm hne
            refine wpAnyH_ready (rs := [8]) (by kernel_rfl) (by simp) ?_
            refine br_store 8 rfl rfl (by kernel_rfl) rfl rfl rfl hj m2 (fun hS => ?_)
            refine wpAnyH_ready (rs := [9]) (by kernel_rfl) (by simp) ?_
            refine br_store 9 rfl rfl (by kernel_rfl) rfl rfl rfl m1 m3.box (fun hS => ?_)
            refine wpAnyH_done (by kernel_rfl) ?_ _
            exact ⟨rfl, gj, gm, rfl, m3⟩
          exact AllReadyH.nil
        exact AllReadyH.nil
      refine br_alloc 7 8 HZ.out rfl rfl (by kernel_rfl) rfl (fun _ h hb => h.below hb) hS (fun gm x12 hg hn hS2 hb => ?_) ?_
      · simp only [Act.put, List.setIfInBounds_toArray, List.set_cons_zero, List.set_cons_succ]
        have hm := hn
        have bm : w.heap.size + 1 + 1 < gm := Nat.lt_of_lt_of_le hS.tri.lt hg
        replace hS := hS2
        clear hb hg hn hS2
        refine wpAnyH_ready (rs := [5, 6]) (by kernel_rfl) (by simp) ?_
        refine br_call 5 16 20 #[.agg a.arr, .agg b.arr] (.agg (V.meet a b).arr) rfl rfl (by kernel_rfl) (by kernel_rfl) (meet_any a b _) (fun _ h hb => h.below hb) hS (fun x13 hS hb => ?_) ?_
        · simp only [Act.put, List.setIfInBounds_toArray, List.set_cons_zero, List.set_cons_succ]
          replace hm := hm.below hb
          clear hb
          refine wpAnyH_ready (rs := [6]) (by kernel_rfl) (by simp) ?_
          refine br_alloc 6 7 HZ.out rfl rfl (by kernel_rfl) rfl (fun _ h hb => h.below hb) hS (fun gj x14 hg hn hS2 hb => ?_) ?_
          · simp only [Act.put, List.setIfInBounds_toArray, List.set_cons_zero, List.set_cons_succ]
            have hj := hn
            have bj : w.heap.size + 1 + 1 < gj := Nat.lt_of_lt_of_le hS.tri.lt hg
            have hne : gj ≠ gm := fun e => by have := hm.lt; omega
            replace hm := hm.below hb
            replace hS := hS2
            clear hb hg hn hS2
            obtain ⟨m1, m2, m3⟩ := lat_laid (j := V.join a b) (m := V.meet a b) hS hj hm bj bm hne
            refine wpAnyH_ready (rs := [8]) (by kernel_rfl) (by simp) ?_
            refine br_store 8 rfl rfl (by kernel_rfl) rfl rfl rfl hj m2 (fun hS => ?_)
            refine wpAnyH_ready (rs := [9]) (by kernel_rfl) (by simp) ?_
            refine br_store 9 rfl rfl (by kernel_rfl) rfl rfl rfl m1 m3.box (fun hS => ?_)
            refine wpAnyH_done (by kernel_rfl) ?_ _
            exact ⟨rfl, gj, gm, rfl, m3⟩
          exact AllReadyH.nil
        refine br_alloc 6 7 HZ.out rfl rfl (by kernel_rfl) rfl (fun _ h hb => h.below hb) hS (fun gj x15 hg hn hS2 hb => ?_) ?_
        · simp only [Act.put, List.setIfInBounds_toArray, List.set_cons_zero, List.set_cons_succ]
          have hj := hn
          have bj : w.heap.size + 1 + 1 < gj := Nat.lt_of_lt_of_le hS.tri.lt hg
          have hne : gj ≠ gm := fun e => by have := hm.lt; omega
          replace hm := hm.below hb
          replace hS := hS2
          clear hb hg hn hS2
          refine wpAnyH_ready (rs := [5]) (by kernel_rfl) (by simp) ?_
          refine br_call 5 16 20 #[.agg a.arr, .agg b.arr] (.agg (V.meet a b).arr) rfl rfl (by kernel_rfl) (by kernel_rfl) (meet_any a b _) (fun _ h hb => h.below hb) hS (fun x16 hS hb => ?_) ?_
          · simp only [Act.put, List.setIfInBounds_toArray, List.set_cons_zero, List.set_cons_succ]
            replace hj := hj.below hb
            replace hm := hm.below hb
            clear hb
            obtain ⟨m1, m2, m3⟩ := lat_laid (j := V.join a b) (m := V.meet a b) hS hj hm bj bm hne
            refine wpAnyH_ready (rs := [8]) (by kernel_rfl) (by simp) ?_
            refine br_store 8 rfl rfl (by kernel_rfl) rfl rfl rfl hj m2 (fun hS => ?_)
            refine wpAnyH_ready (rs := [9]) (by kernel_rfl) (by simp) ?_
            refine br_store 9 rfl rfl (by kernel_rfl) rfl rfl rfl m1 m3.box (fun hS => ?_)
            refine wpAnyH_done (by kernel_rfl) ?_ _
            exact ⟨rfl, gj, gm, rfl, m3⟩
          exact AllReadyH.nil
        exact AllReadyH.nil
      exact AllReadyH.nil
    refine br_alloc 6 7 HZ.out rfl rfl (by kernel_rfl) rfl (fun _ h hb => h.below hb) hS (fun gj x17 hg hn hS2 hb => ?_) ?_
    · simp only [Act.put, List.setIfInBounds_toArray, List.set_cons_zero, List.set_cons_succ]
      have hj := hn
      have bj : w.heap.size + 1 + 1 < gj := Nat.lt_of_lt_of_le hS.tri.lt hg
      replace hS := hS2
      clear hb hg hn hS2
      refine wpAnyH_ready (rs := [2, 7]) (by kernel_rfl) (by simp) ?_
      refine br_call 2 13 18 #[.agg a.arr, .agg b.arr] (.agg (V.join a b).arr) rfl rfl (by kernel_rfl) (by kernel_rfl) (join_any a b _) (fun _ h hb => h.below hb) hS (fun x18 hS hb => ?_) ?_
      · simp only [Act.put, List.setIfInBounds_toArray, List.set_cons_zero, List.set_cons_succ]
        replace hj := hj.below hb
        clear hb
        refine wpAnyH_ready (rs := [5, 7]) (by kernel_rfl) (by simp) ?_
        refine br_call 5 16 20 #[.agg a.arr, .agg b.arr] (.agg (V.meet a b).arr) rfl rfl (by kernel_rfl) (by kernel_rfl) (meet_any a b _) (fun _ h hb => h.below hb) hS (fun x19 hS hb => ?_) ?_
        · simp only [Act.put, List.setIfInBounds_toArray, List.set_cons_zero, List.set_cons_succ]
          replace hj := hj.below hb
          clear hb
          refine wpAnyH_ready (rs := [7]) (by kernel_rfl) (by simp) ?_
          refine br_alloc 7 8 HZ.out rfl rfl (by kernel_rfl) rfl (fun _ h hb => h.below hb) hS (fun gm x20 hg hn hS2 hb => ?_) ?_
          · simp only [Act.put, List.setIfInBounds_toArray, List.set_cons_zero, List.set_cons_succ]
            have hm := hn
            have bm : w.heap.size + 1 + 1 < gm := Nat.lt_of_lt_of_le hS.tri.lt hg
            have hne : gj ≠ gm := fun e => by have := hj.lt; omega
            replace hj := hj.below hb
            replace hS := hS2
            clear hb hg hn hS2
            obtain ⟨m1, m2, m3⟩ := lat_laid (j := V.join a b) (m := V.meet a b) hS hj hm bj bm hne
            refine wpAnyH_ready (rs := [8]) (by kernel_rfl) (by simp) ?_
            refine br_store 8 rfl rfl (by kernel_rfl) rfl rfl rfl hj m2 (fun hS => ?_)
            refine wpAnyH_ready (rs := [9]) (by kernel_rfl) (by simp) ?_
            refine br_store 9 rfl rfl (by kernel_rfl) rfl rfl rfl m1 m3.box (fun hS => ?_)
            refine wpAnyH_done (by kernel_rfl) ?_ _
            exact ⟨rfl, gj, gm, rfl, m3⟩
          exact AllReadyH.nil
        refine br_alloc 7 8 HZ.out rfl rfl (by kernel_rfl) rfl (fun _ h hb => h.below hb) hS (fun gm x21 hg hn hS2 hb => ?_) ?_
        · simp only [Act.put, List.setIfInBounds_toArray, List.set_cons_zero, List.set_cons_succ]
          have hm := hn
          have bm : w.heap.size + 1 + 1 < gm := Nat.lt_of_lt_of_le hS.tri.lt hg
          have hne : gj ≠ gm := fun e => by have := hj.lt; omega
          replace hj := hj.below hb
          replace hS := hS2
          clear hb hg hn hS2
          refine wpAnyH_ready (rs := [5]) (by kernel_rfl) (by simp) ?_
          refine br_call 5 16 20 #[.agg a.arr, .agg b.arr] (.agg (V.meet a b).arr) rfl rfl (by kernel_rfl) (by kernel_rfl) (meet_any a b _) (fun _ h hb => h.below hb) hS (fun x22 hS hb => ?_) ?_
          · simp only [Act.put, List.setIfInBounds_toArray, List.set_cons_zero, List.set_cons_succ]
            replace hj := hj.below hb
            replace hm := hm.below hb
            clear hb
            obtain ⟨m1, m2, m3⟩ := lat_laid (j := V.join a b) (m := V.meet a b) hS hj hm bj bm hne
            refine wpAnyH_ready (rs := [8]) (by kernel_rfl) (by simp) ?_
            refine br_store 8 rfl rfl (by kernel_rfl) rfl rfl rfl hj m2 (fun hS => ?_)
            refine wpAnyH_ready (rs := [9]) (by kernel_rfl) (by simp) ?_
            refine br_store 9 rfl rfl (by kernel_rfl) rfl rfl rfl m1 m3.box (fun hS => ?_)
            refine wpAnyH_done (by kernel_rfl) ?_ _
            exact ⟨rfl, gj, gm, rfl, m3⟩
          exact AllReadyH.nil
        exact AllReadyH.nil
      refine br_alloc 7 8 HZ.out rfl rfl (by kernel_rfl) rfl (fun _ h hb => h.below hb) hS (fun gm x23 hg hn hS2 hb => ?_) ?_
      · simp only [Act.put, List.setIfInBounds_toArray, List.set_cons_zero, List.set_cons_succ]
        have hm := hn
        have bm : w.heap.size + 1 + 1 < gm := Nat.lt_of_lt_of_le hS.tri.lt hg
        have hne : gj ≠ gm := fun e => by have := hj.lt; omega
        replace hj := hj.below hb
        replace hS := hS2
        clear hb hg hn hS2
        refine wpAnyH_ready (rs := [2]) (by kernel_rfl) (by simp) ?_
        refine br_call 2 13 18 #[.agg a.arr, .agg b.arr] (.agg (V.join a b).arr) rfl rfl (by kernel_rfl) (by kernel_rfl) (join_any a b _) (fun _ h hb => h.below hb) hS (fun x24 hS hb => ?_) ?_
        · simp only [Act.put, List.setIfInBounds_toArray, List.set_cons_zero, List.set_cons_succ]
          replace hj := hj.below hb
          replace hm := hm.below hb
          clear hb
          refine wpAnyH_ready (rs := [5]) (by kernel_rfl) (by simp) ?_
          refine br_call 5 16 20 #[.agg a.arr, .agg b.arr] (.agg (V.meet a b).arr) rfl rfl (by kernel_rfl) (by kernel_rfl) (meet_any a b _) (fun _ h hb => h.below hb) hS (fun x25 hS hb => ?_) ?_
          · simp only [Act.put, List.setIfInBounds_toArray, List.set_cons_zero, List.set_cons_succ]
            replace hj := hj.below hb
            replace hm := hm.below hb
            clear hb
            obtain ⟨m1, m2, m3⟩ := lat_laid (j := V.join a b) (m := V.meet a b) hS hj hm bj bm hne
            refine wpAnyH_ready (rs := [8]) (by kernel_rfl) (by simp) ?_
            refine br_store 8 rfl rfl (by kernel_rfl) rfl rfl rfl hj m2 (fun hS => ?_)
            refine wpAnyH_ready (rs := [9]) (by kernel_rfl) (by simp) ?_
            refine br_store 9 rfl rfl (by kernel_rfl) rfl rfl rfl m1 m3.box (fun hS => ?_)
            refine wpAnyH_done (by kernel_rfl) ?_ _
            exact ⟨rfl, gj, gm, rfl, m3⟩
          exact AllReadyH.nil
        exact AllReadyH.nil
      exact AllReadyH.nil
    refine br_alloc 7 8 HZ.out rfl rfl (by kernel_rfl) rfl (fun _ h hb => h.below hb) hS (fun gm x26 hg hn hS2 hb => ?_) ?_
    · simp only [Act.put, List.setIfInBounds_toArray, List.set_cons_zero, List.set_cons_succ]
      have hm := hn
      have bm : w.heap.size + 1 + 1 < gm := Nat.lt_of_lt_of_le hS.tri.lt hg
      replace hS := hS2
      clear hb hg hn hS2
      refine wpAnyH_ready (rs := [2, 6]) (by kernel_rfl) (by simp) ?_
      refine br_call 2 13 18 #[.agg a.arr, .agg b.arr] (.agg (V.join a b).arr) rfl rfl (by kernel_rfl) (by kernel_rfl) (join_any a b _) (fun _ h hb => h.below hb) hS (fun x27 hS hb => ?_) ?_
      · simp only [Act.put, List.setIfInBounds_toArray, List.set_cons_zero, List.set_cons_succ]
        replace hm := hm.below hb
        clear hb
        refine wpAnyH_ready (rs := [5, 6]) (by kernel_rfl) (by simp) ?_
        refine br_call 5 16 20 #[.agg a.arr, .agg b.arr] (.agg (V.meet a b).arr) rfl rfl (by kernel_rfl) (by kernel_rfl) (meet_any a b _) (fun _ h hb => h.below hb) hS (fun x28 hS hb => ?_) ?_
        · simp only [Act.put, List.setIfInBounds_toArray, List.set_cons_zero, List.set_cons_succ]
          replace hm := hm.below hb
          clear hb
          refine wpAnyH_ready (rs := [6]) (by kernel_rfl) (by simp) ?_
          refine br_alloc 6 7 HZ.out rfl rfl (by kernel_rfl) rfl (fun _ h hb => h.below hb) hS (fun gj x29 hg hn hS2 hb => ?_) ?_
          · simp only [Act.put, List.setIfInBounds_toArray, List.set_cons_zero, List.set_cons_succ]
            have hj := hn
            have bj : w.heap.size + 1 + 1 < gj := Nat.lt_of_lt_of_le hS.tri.lt hg
            have hne : gj ≠ gm := fun e => by have := hm.lt; omega
            replace hm := hm.below hb
            replace hS := hS2
            clear hb hg hn hS2
            obtain ⟨m1, m2, m3⟩ := lat_laid (j := V.join a b) (m := V.meet a b) hS hj hm bj bm hne
            refine wpAnyH_ready (rs := [8]) (by kernel_rfl) (by simp) ?_
            refine br_store 8 rfl rfl (by kernel_rfl) rfl rfl rfl hj m2 (fun hS => ?_)
            refine wpAnyH_ready (rs := [9]) (by kernel_rfl) (by simp) ?_
            refine br_store 9 rfl rfl (by kernel_rfl) rfl rfl rfl m1 m3.box (fun hS => ?_)
            refine wpAnyH_done (by kernel_rfl) ?_ _
            exact ⟨rfl, gj, gm, rfl, m3⟩
          exact AllReadyH.nil
        refine br_alloc 6 7 HZ.out rfl rfl (by kernel_rfl) rfl (fun _ h hb => h.below hb) hS (fun gj x30 hg hn hS2 hb => ?_) ?_
        · simp only [Act.put, List.setIfInBounds_toArray, List.set_cons_zero, List.set_cons_succ]
          have hj := hn
          have bj : w.heap.size + 1 + 1 < gj := Nat.lt_of_lt_of_le hS.tri.lt hg
          have hne : gj ≠ gm := fun e => by have := hm.lt; omega
          replace hm := hm.below hb
          replace hS := hS2
          clear hb hg hn hS2
          refine wpAnyH_ready (rs := [5]) (by kernel_rfl) (by simp) ?_
          refine br_call 5 16 20 #[.agg a.arr, .agg b.arr] (.agg (V.meet a b).arr) rfl rfl (by kernel_rfl) (by kernel_rfl) (meet_any a b _) (fun _ h hb => h.below hb) hS (fun x31 hS hb => ?_) ?_
          · simp only [Act.put, List.setIfInBounds_toArray, List.set_cons_zero, List.set_cons_succ]
            replace hj := hj.below hb
            replace hm := hm.below hb
            clear hb
            obtain ⟨m1, m2, m3⟩ := lat_laid (j := V.join a b) (m := V.meet a b) hS hj hm bj bm hne
            refine wpAnyH_ready (rs := [8]) (by kernel_rfl) (by simp) ?_
            refine br_store 8 rfl rfl (by kernel_rfl) rfl rfl rfl hj m2 (fun hS => ?_)
            refine wpAnyH_ready (rs := [9]) (by kernel_rfl) (by simp) ?_
            refine br_store 9 rfl rfl (by kernel_rfl) rfl rfl rfl m1 m3.box (fun hS => ?_)
            refine wpAnyH_done (by kernel_rfl) ?_ _
            exact ⟨rfl, gj, gm, rfl, m3⟩
          exact AllReadyH.nil
        exact AllReadyH.nil
      refine br_alloc 6 7 HZ.out rfl rfl (by kernel_rfl) rfl (fun _ h hb => h.below hb) hS (fun gj x32 hg hn hS2 hb => ?_) ?_
      · simp only [Act.put, List.setIfInBounds_toArray, List.set_cons_zero, List.set_cons_succ]
        have hj := hn
        have bj : w.heap.size + 1 + 1 < gj := Nat.lt_of_lt_of_le hS.tri.lt hg
        have hne : gj ≠ gm := fun e => by have := hm.lt; omega
        replace hm := hm.below hb
        replace hS := hS2
        clear hb hg hn hS2
        refine wpAnyH_ready (rs := [2]) (by kernel_rfl) (by simp) ?_
        refine br_call 2 13 18 #[.agg a.arr, .agg b.arr] (.agg (V.join a b).arr) rfl rfl (by kernel_rfl) (by kernel_rfl) (join_any a b _) (fun _ h hb => h.below hb) hS (fun x33 hS hb => ?_) ?_
        · simp only [Act.put, List.setIfInBounds_toArray, List.set_cons_zero, List.set_cons_succ]
          replace hj := hj.below hb
          replace hm := hm.below hb
          clear hb
          refine wpAnyH_ready (rs := [5]) (by kernel_rfl) (by simp) ?_
          refine br_call 5 16 20 #[.agg a.arr, .agg b.arr] (.agg (V.meet a b).arr) rfl rfl (by kernel_rfl) (by kernel_rfl) (meet_any a b _) (fun _ h hb => h.below hb) hS (fun x34 hS hb => ?_) ?_
          · simp only [Act.put, List.setIfInBounds_toArray, List.set_cons_zero, List.set_cons_succ]
            replace hj := hj.below hb
            replace hm := hm.below hb
            clear hb
            obtain ⟨m1, m2, m3⟩ := lat_laid (j := V.join a b) (m := V.meet a b) hS hj hm bj bm hne
            refine wpAnyH_ready (rs := [8]) (by kernel_rfl) (by simp) ?_
            refine br_store 8 rfl rfl (by kernel_rfl) rfl rfl rfl hj m2 (fun hS => ?_)
            refine wpAnyH_ready (rs := [9]) (by kernel_rfl) (by simp) ?_
            refine br_store 9 rfl rfl (by kernel_rfl) rfl rfl rfl m1 m3.box (fun hS => ?_)
            refine wpAnyH_done (by kernel_rfl) ?_ _
            exact ⟨rfl, gj, gm, rfl, m3⟩
          exact AllReadyH.nil
        exact AllReadyH.nil
      exact AllReadyH.nil
    exact AllReadyH.nil
  case cont =>
    rintro e a' w2 ⟨rfl, gj, gm, rfl, hL⟩
    have HL := Lib.hid hL
    clear hL HT HT1
    go_wp2_with fail
    refine wp_region_held_drew (S := fun w' => Lat w w' a b c gj gm (V.join a b) (V.meet a b)) (by kernel_rfl) HL.out.drew (fun hS => ?_)
    refine held_take 0 17 (.agg (V.join a b).arr) rfl rfl (by kernel_rfl) (by kernel_rfl) (by kernel_rfl) (fun _ _ _ h => h) (by kernel_rfl) (fun _ h => exec_load24 rfl rfl h.jo) hS ?_
    simp only [Act.put, List.setIfInBounds_toArray, List.set_cons_zero, List.set_cons_succ]
    refine held_take 1 18 (.agg b.arr) rfl rfl (by kernel_rfl) (by kernel_rfl) (by kernel_rfl) (fun _ _ _ h => h) (by kernel_rfl) (fun _ h => exec_load24 rfl rfl h.box.two) hS ?_
    simp only [Act.put, List.setIfInBounds_toArray, List.set_cons_zero, List.set_cons_succ]
    refine held_take 2 19 (.agg a.arr) rfl rfl (by kernel_rfl) (by kernel_rfl) (by kernel_rfl) (fun _ _ _ h => h) (by kernel_rfl) (fun _ h => exec_load24 rfl rfl h.box.one) hS ?_
    simp only [Act.put, List.setIfInBounds_toArray, List.set_cons_zero, List.set_cons_succ]
    refine held_call 3 20 18 #[(.agg b.arr), (.agg a.arr)] (.agg (V.join b a).arr) rfl (by kernel_rfl) rfl (by kernel_rfl) (by kernel_rfl) (join_any b a _) (fun _ h hb => h.below hb) hS (fun w103 hS => ?_)
    simp only [Act.put, List.setIfInBounds_toArray, List.set_cons_zero, List.set_cons_succ]
    refine held_take 4 21 (.bool false) rfl rfl (by kernel_rfl) (by kernel_rfl) (by kernel_rfl) (fun _ _ _ h => h) (by kernel_rfl) (fun _ _ => exec_neq24 rfl rfl rfl (not_eqB (join_comm a b))) hS ?_
    simp only [Act.put, List.setIfInBounds_toArray, List.set_cons_zero, List.set_cons_succ]
    refine held_take 5 22 (.bool false) rfl rfl (by kernel_rfl) (by kernel_rfl) (by kernel_rfl) (fun _ _ _ h => h) (by kernel_rfl) (fun _ _ => rfl) hS ?_
    simp only [Act.put, List.setIfInBounds_toArray, List.set_cons_zero, List.set_cons_succ]
    refine held_take 6 23 (.agg (V.meet a b).arr) rfl rfl (by kernel_rfl) (by kernel_rfl) (by kernel_rfl) (fun _ _ _ h => h) (by kernel_rfl) (fun _ h => exec_load24 rfl rfl h.me) hS ?_
    simp only [Act.put, List.setIfInBounds_toArray, List.set_cons_zero, List.set_cons_succ]
    refine held_take 7 24 (.agg b.arr) rfl rfl (by kernel_rfl) (by kernel_rfl) (by kernel_rfl) (fun _ _ _ h => h) (by kernel_rfl) (fun _ h => exec_load24 rfl rfl h.box.two) hS ?_
    simp only [Act.put, List.setIfInBounds_toArray, List.set_cons_zero, List.set_cons_succ]
    refine held_take 8 25 (.agg a.arr) rfl rfl (by kernel_rfl) (by kernel_rfl) (by kernel_rfl) (fun _ _ _ h => h) (by kernel_rfl) (fun _ h => exec_load24 rfl rfl h.box.one) hS ?_
    simp only [Act.put, List.setIfInBounds_toArray, List.set_cons_zero, List.set_cons_succ]
    refine held_call 9 26 20 #[(.agg b.arr), (.agg a.arr)] (.agg (V.meet b a).arr) rfl (by kernel_rfl) rfl (by kernel_rfl) (by kernel_rfl) (meet_any b a _) (fun _ h hb => h.below hb) hS (fun w109 hS => ?_)
    simp only [Act.put, List.setIfInBounds_toArray, List.set_cons_zero, List.set_cons_succ]
    refine held_take 10 27 (.bool false) rfl rfl (by kernel_rfl) (by kernel_rfl) (by kernel_rfl) (fun _ _ _ h => h) (by kernel_rfl) (fun _ _ => exec_neq24 rfl rfl rfl (not_eqB (meet_comm a b))) hS ?_
    simp only [Act.put, List.setIfInBounds_toArray, List.set_cons_zero, List.set_cons_succ]
    refine held_take 11 28 (.bool false) rfl rfl (by kernel_rfl) (by kernel_rfl) (by kernel_rfl) (fun _ _ _ h => h) (by kernel_rfl) (fun _ _ => rfl) hS ?_
    simp only [Act.put, List.setIfInBounds_toArray, List.set_cons_zero, List.set_cons_succ]
    refine held_take 12 29 (.bool false) rfl rfl (by kernel_rfl) (by kernel_rfl) (by kernel_rfl) (fun _ _ _ h => h) (by kernel_rfl) (fun _ _ => rfl) hS ?_
    simp only [Act.put, List.setIfInBounds_toArray, List.set_cons_zero, List.set_cons_succ]
    refine held_take 13 30 (.agg a.arr) rfl rfl (by kernel_rfl) (by kernel_rfl) (by kernel_rfl) (fun _ _ _ h => h) (by kernel_rfl) (fun _ h => exec_load24 rfl rfl h.box.one) hS ?_
    simp only [Act.put, List.setIfInBounds_toArray, List.set_cons_zero, List.set_cons_succ]
    refine held_take 14 31 (.agg a.arr) rfl rfl (by kernel_rfl) (by kernel_rfl) (by kernel_rfl) (fun _ _ _ h => h) (by kernel_rfl) (fun _ h => exec_load24 rfl rfl h.box.one) hS ?_
    simp only [Act.put, List.setIfInBounds_toArray, List.set_cons_zero, List.set_cons_succ]
    refine held_take 16 33 (.agg a.arr) rfl rfl (by kernel_rfl) (by kernel_rfl) (by kernel_rfl) (fun _ _ _ h => h) (by kernel_rfl) (fun _ h => exec_load24 rfl rfl h.box.one) hS ?_
    simp only [Act.put, List.setIfInBounds_toArray, List.set_cons_zero, List.set_cons_succ]
    refine held_call 15 32 18 #[(.agg a.arr), (.agg a.arr)] (.agg (V.join a a).arr) rfl (by kernel_rfl) rfl (by kernel_rfl) (by kernel_rfl) (join_any a a _) (fun _ h hb => h.below hb) hS (fun w115 hS => ?_)
    simp only [Act.put, List.setIfInBounds_toArray, List.set_cons_zero, List.set_cons_succ]
    refine held_take 17 34 (.bool false) rfl rfl (by kernel_rfl) (by kernel_rfl) (by kernel_rfl) (fun _ _ _ h => h) (by kernel_rfl) (fun _ _ => exec_neq24 rfl rfl rfl (not_eqB (join_self a))) hS ?_
    simp only [Act.put, List.setIfInBounds_toArray, List.set_cons_zero, List.set_cons_succ]
    refine held_take 18 35 (.bool false) rfl rfl (by kernel_rfl) (by kernel_rfl) (by kernel_rfl) (fun _ _ _ h => h) (by kernel_rfl) (fun _ _ => rfl) hS ?_
    simp only [Act.put, List.setIfInBounds_toArray, List.set_cons_zero, List.set_cons_succ]
    refine held_take 19 36 (.bool false) rfl rfl (by kernel_rfl) (by kernel_rfl) (by kernel_rfl) (fun _ _ _ h => h) (by kernel_rfl) (fun _ _ => rfl) hS ?_
    simp only [Act.put, List.setIfInBounds_toArray, List.set_cons_zero, List.set_cons_succ]
    refine held_take 20 37 (.agg a.arr) rfl rfl (by kernel_rfl) (by kernel_rfl) (by kernel_rfl) (fun _ _ _ h => h) (by kernel_rfl) (fun _ h => exec_load24 rfl rfl h.box.one) hS ?_
    simp only [Act.put, List.setIfInBounds_toArray, List.set_cons_zero, List.set_cons_succ]
    refine held_take 21 38 (.agg a.arr) rfl rfl (by kernel_rfl) (by kernel_rfl) (by kernel_rfl) (fun _ _ _ h => h) (by kernel_rfl) (fun _ h => exec_load24 rfl rfl h.box.one) hS ?_
    simp only [Act.put, List.setIfInBounds_toArray, List.set_cons_zero, List.set_cons_succ]
    refine held_take 23 40 (.agg a.arr) rfl rfl (by kernel_rfl) (by kernel_rfl) (by kernel_rfl) (fun _ _ _ h => h) (by kernel_rfl) (fun _ h => exec_load24 rfl rfl h.box.one) hS ?_
    simp only [Act.put, List.setIfInBounds_toArray, List.set_cons_zero, List.set_cons_succ]
    refine held_call 22 39 20 #[(.agg a.arr), (.agg a.arr)] (.agg (V.meet a a).arr) rfl (by kernel_rfl) rfl (by kernel_rfl) (by kernel_rfl) (meet_any a a _) (fun _ h hb => h.below hb) hS (fun w122 hS => ?_)
    simp only [Act.put, List.setIfInBounds_toArray, List.set_cons_zero, List.set_cons_succ]
    refine held_take 24 41 (.bool false) rfl rfl (by kernel_rfl) (by kernel_rfl) (by kernel_rfl) (fun _ _ _ h => h) (by kernel_rfl) (fun _ _ => exec_neq24 rfl rfl rfl (not_eqB (meet_self a))) hS ?_
    simp only [Act.put, List.setIfInBounds_toArray, List.set_cons_zero, List.set_cons_succ]
    refine held_take 25 42 (.bool false) rfl rfl (by kernel_rfl) (by kernel_rfl) (by kernel_rfl) (fun _ _ _ h => h) (by kernel_rfl) (fun _ _ => rfl) hS ?_
    simp only [Act.put, List.setIfInBounds_toArray, List.set_cons_zero, List.set_cons_succ]
    refine held_take 26 43 (.bool false) rfl rfl (by kernel_rfl) (by kernel_rfl) (by kernel_rfl) (fun _ _ _ h => h) (by kernel_rfl) (fun _ _ => rfl) hS ?_
    simp only [Act.put, List.setIfInBounds_toArray, List.set_cons_zero, List.set_cons_succ]
    refine held_take 27 44 (.agg a.arr) rfl rfl (by kernel_rfl) (by kernel_rfl) (by kernel_rfl) (fun _ _ _ h => h) (by kernel_rfl) (fun _ h => exec_load24 rfl rfl h.box.one) hS ?_
    simp only [Act.put, List.setIfInBounds_toArray, List.set_cons_zero, List.set_cons_succ]
    refine held_take 28 45 (.agg (V.meet a b).arr) rfl rfl (by kernel_rfl) (by kernel_rfl) (by kernel_rfl) (fun _ _ _ h => h) (by kernel_rfl) (fun _ h => exec_load24 rfl rfl h.me) hS ?_
    simp only [Act.put, List.setIfInBounds_toArray, List.set_cons_zero, List.set_cons_succ]
    refine held_take 30 47 (.agg a.arr) rfl rfl (by kernel_rfl) (by kernel_rfl) (by kernel_rfl) (fun _ _ _ h => h) (by kernel_rfl) (fun _ h => exec_load24 rfl rfl h.box.one) hS ?_
    simp only [Act.put, List.setIfInBounds_toArray, List.set_cons_zero, List.set_cons_succ]
    refine held_call 29 46 18 #[(.agg a.arr), (.agg (V.meet a b).arr)] (.agg (V.join a (V.meet a b)).arr) rfl (by kernel_rfl) rfl (by kernel_rfl) (by kernel_rfl) (join_any a (V.meet a b) _) (fun _ h hb => h.below hb) hS (fun w129 hS => ?_)
    simp only [Act.put, List.setIfInBounds_toArray, List.set_cons_zero, List.set_cons_succ]
    refine held_take 31 48 (.bool false) rfl rfl (by kernel_rfl) (by kernel_rfl) (by kernel_rfl) (fun _ _ _ h => h) (by kernel_rfl) (fun _ _ => exec_neq24 rfl rfl rfl (not_eqB (join_meet a b))) hS ?_
    simp only [Act.put, List.setIfInBounds_toArray, List.set_cons_zero, List.set_cons_succ]
    refine held_take 32 49 (.bool false) rfl rfl (by kernel_rfl) (by kernel_rfl) (by kernel_rfl) (fun _ _ _ h => h) (by kernel_rfl) (fun _ _ => rfl) hS ?_
    simp only [Act.put, List.setIfInBounds_toArray, List.set_cons_zero, List.set_cons_succ]
    refine held_take 33 50 (.bool false) rfl rfl (by kernel_rfl) (by kernel_rfl) (by kernel_rfl) (fun _ _ _ h => h) (by kernel_rfl) (fun _ _ => rfl) hS ?_
    simp only [Act.put, List.setIfInBounds_toArray, List.set_cons_zero, List.set_cons_succ]
    refine held_take 34 51 (.agg a.arr) rfl rfl (by kernel_rfl) (by kernel_rfl) (by kernel_rfl) (fun _ _ _ h => h) (by kernel_rfl) (fun _ h => exec_load24 rfl rfl h.box.one) hS ?_
    simp only [Act.put, List.setIfInBounds_toArray, List.set_cons_zero, List.set_cons_succ]
    refine held_take 35 52 (.agg (V.join a b).arr) rfl rfl (by kernel_rfl) (by kernel_rfl) (by kernel_rfl) (fun _ _ _ h => h) (by kernel_rfl) (fun _ h => exec_load24 rfl rfl h.jo) hS ?_
    simp only [Act.put, List.setIfInBounds_toArray, List.set_cons_zero, List.set_cons_succ]
    refine held_take 37 54 (.agg a.arr) rfl rfl (by kernel_rfl) (by kernel_rfl) (by kernel_rfl) (fun _ _ _ h => h) (by kernel_rfl) (fun _ h => exec_load24 rfl rfl h.box.one) hS ?_
    simp only [Act.put, List.setIfInBounds_toArray, List.set_cons_zero, List.set_cons_succ]
    refine held_call 36 53 20 #[(.agg a.arr), (.agg (V.join a b).arr)] (.agg (V.meet a (V.join a b)).arr) rfl (by kernel_rfl) rfl (by kernel_rfl) (by kernel_rfl) (meet_any a (V.join a b) _) (fun _ h hb => h.below hb) hS (fun w136 hS => ?_)
    simp only [Act.put, List.setIfInBounds_toArray, List.set_cons_zero, List.set_cons_succ]
    refine held_take 38 55 (.bool false) rfl rfl (by kernel_rfl) (by kernel_rfl) (by kernel_rfl) (fun _ _ _ h => h) (by kernel_rfl) (fun _ _ => exec_neq24 rfl rfl rfl (not_eqB (meet_join a b))) hS ?_
    simp only [Act.put, List.setIfInBounds_toArray, List.set_cons_zero, List.set_cons_succ]
    refine held_take 39 56 (.bool false) rfl rfl (by kernel_rfl) (by kernel_rfl) (by kernel_rfl) (fun _ _ _ h => h) (by kernel_rfl) (fun _ _ => rfl) hS ?_
    simp only [Act.put, List.setIfInBounds_toArray, List.set_cons_zero, List.set_cons_succ]
    refine wpAnyH_done (by kernel_rfl) ?_ _
    have HL2 := Lib.hid hS
    clear hS HL
    go_wp2_with fail
    refine wp_region_held_drew (S := fun w' => Lat w w' a b c gj gm (V.join a b) (V.meet a b)) (by kernel_rfl) HL2.out.drew (fun hS => ?_)
    refine held_take 0 57 (.agg (V.join a b).arr) rfl rfl (by kernel_rfl) (by kernel_rfl) (by kernel_rfl) (fun _ _ _ h => h) (by kernel_rfl) (fun _ h => exec_load24 rfl rfl h.jo) hS ?_
    simp only [Act.put, List.setIfInBounds_toArray, List.set_cons_zero, List.set_cons_succ]
    refine held_take 1 58 (.agg c.arr) rfl rfl (by kernel_rfl) (by kernel_rfl) (by kernel_rfl) (fun _ _ _ h => h) (by kernel_rfl) (fun _ h => exec_load24 rfl rfl h.box.tri) hS ?_
    simp only [Act.put, List.setIfInBounds_toArray, List.set_cons_zero, List.set_cons_succ]
    refine held_take 3 60 (.agg a.arr) rfl rfl (by kernel_rfl) (by kernel_rfl) (by kernel_rfl) (fun _ _ _ h => h) (by kernel_rfl) (fun _ h => exec_load24 rfl rfl h.box.one) hS ?_
    simp only [Act.put, List.setIfInBounds_toArray, List.set_cons_zero, List.set_cons_succ]
    refine held_take 4 61 (.agg b.arr) rfl rfl (by kernel_rfl) (by kernel_rfl) (by kernel_rfl) (fun _ _ _ h => h) (by kernel_rfl) (fun _ h => exec_load24 rfl rfl h.box.two) hS ?_
    simp only [Act.put, List.setIfInBounds_toArray, List.set_cons_zero, List.set_cons_succ]
    refine held_take 5 62 (.agg c.arr) rfl rfl (by kernel_rfl) (by kernel_rfl) (by kernel_rfl) (fun _ _ _ h => h) (by kernel_rfl) (fun _ h => exec_load24 rfl rfl h.box.tri) hS ?_
    simp only [Act.put, List.setIfInBounds_toArray, List.set_cons_zero, List.set_cons_succ]
    refine held_call 2 59 18 #[(.agg (V.join a b).arr), (.agg c.arr)] (.agg (V.join (V.join a b) c).arr) rfl (by kernel_rfl) rfl (by kernel_rfl) (by kernel_rfl) (join_any (V.join a b) c _) (fun _ h hb => h.below hb) hS (fun w102 hS => ?_)
    simp only [Act.put, List.setIfInBounds_toArray, List.set_cons_zero, List.set_cons_succ]
    refine held_call 6 63 18 #[(.agg b.arr), (.agg c.arr)] (.agg (V.join b c).arr) rfl (by kernel_rfl) rfl (by kernel_rfl) (by kernel_rfl) (join_any b c _) (fun _ h hb => h.below hb) hS (fun w106 hS => ?_)
    simp only [Act.put, List.setIfInBounds_toArray, List.set_cons_zero, List.set_cons_succ]
    refine held_call 7 64 18 #[(.agg a.arr), (.agg (V.join b c).arr)] (.agg (V.join a (V.join b c)).arr) rfl (by kernel_rfl) rfl (by kernel_rfl) (by kernel_rfl) (join_any a (V.join b c) _) (fun _ h hb => h.below hb) hS (fun w107 hS => ?_)
    simp only [Act.put, List.setIfInBounds_toArray, List.set_cons_zero, List.set_cons_succ]
    refine held_take 8 65 (.bool false) rfl rfl (by kernel_rfl) (by kernel_rfl) (by kernel_rfl) (fun _ _ _ h => h) (by kernel_rfl) (fun _ _ => exec_neq24 rfl rfl rfl (not_eqB (join_assoc a b c))) hS ?_
    simp only [Act.put, List.setIfInBounds_toArray, List.set_cons_zero, List.set_cons_succ]
    refine held_take 9 66 (.bool false) rfl rfl (by kernel_rfl) (by kernel_rfl) (by kernel_rfl) (fun _ _ _ h => h) (by kernel_rfl) (fun _ _ => rfl) hS ?_
    simp only [Act.put, List.setIfInBounds_toArray, List.set_cons_zero, List.set_cons_succ]
    refine held_take 10 67 (.agg (V.meet a b).arr) rfl rfl (by kernel_rfl) (by kernel_rfl) (by kernel_rfl) (fun _ _ _ h => h) (by kernel_rfl) (fun _ h => exec_load24 rfl rfl h.me) hS ?_
    simp only [Act.put, List.setIfInBounds_toArray, List.set_cons_zero, List.set_cons_succ]
    refine held_take 11 68 (.agg c.arr) rfl rfl (by kernel_rfl) (by kernel_rfl) (by kernel_rfl) (fun _ _ _ h => h) (by kernel_rfl) (fun _ h => exec_load24 rfl rfl h.box.tri) hS ?_
    simp only [Act.put, List.setIfInBounds_toArray, List.set_cons_zero, List.set_cons_succ]
    refine held_take 13 70 (.agg a.arr) rfl rfl (by kernel_rfl) (by kernel_rfl) (by kernel_rfl) (fun _ _ _ h => h) (by kernel_rfl) (fun _ h => exec_load24 rfl rfl h.box.one) hS ?_
    simp only [Act.put, List.setIfInBounds_toArray, List.set_cons_zero, List.set_cons_succ]
    refine held_take 14 71 (.agg b.arr) rfl rfl (by kernel_rfl) (by kernel_rfl) (by kernel_rfl) (fun _ _ _ h => h) (by kernel_rfl) (fun _ h => exec_load24 rfl rfl h.box.two) hS ?_
    simp only [Act.put, List.setIfInBounds_toArray, List.set_cons_zero, List.set_cons_succ]
    refine held_take 15 72 (.agg c.arr) rfl rfl (by kernel_rfl) (by kernel_rfl) (by kernel_rfl) (fun _ _ _ h => h) (by kernel_rfl) (fun _ h => exec_load24 rfl rfl h.box.tri) hS ?_
    simp only [Act.put, List.setIfInBounds_toArray, List.set_cons_zero, List.set_cons_succ]
    refine held_call 12 69 20 #[(.agg (V.meet a b).arr), (.agg c.arr)] (.agg (V.meet (V.meet a b) c).arr) rfl (by kernel_rfl) rfl (by kernel_rfl) (by kernel_rfl) (meet_any (V.meet a b) c _) (fun _ h hb => h.below hb) hS (fun w112 hS => ?_)
    simp only [Act.put, List.setIfInBounds_toArray, List.set_cons_zero, List.set_cons_succ]
    refine held_call 16 73 20 #[(.agg b.arr), (.agg c.arr)] (.agg (V.meet b c).arr) rfl (by kernel_rfl) rfl (by kernel_rfl) (by kernel_rfl) (meet_any b c _) (fun _ h hb => h.below hb) hS (fun w116 hS => ?_)
    simp only [Act.put, List.setIfInBounds_toArray, List.set_cons_zero, List.set_cons_succ]
    refine held_call 17 74 20 #[(.agg a.arr), (.agg (V.meet b c).arr)] (.agg (V.meet a (V.meet b c)).arr) rfl (by kernel_rfl) rfl (by kernel_rfl) (by kernel_rfl) (meet_any a (V.meet b c) _) (fun _ h hb => h.below hb) hS (fun w117 hS => ?_)
    simp only [Act.put, List.setIfInBounds_toArray, List.set_cons_zero, List.set_cons_succ]
    refine held_take 18 75 (.bool false) rfl rfl (by kernel_rfl) (by kernel_rfl) (by kernel_rfl) (fun _ _ _ h => h) (by kernel_rfl) (fun _ _ => exec_neq24 rfl rfl rfl (not_eqB (meet_assoc a b c))) hS ?_
    simp only [Act.put, List.setIfInBounds_toArray, List.set_cons_zero, List.set_cons_succ]
    refine held_take 19 76 (.bool false) rfl rfl (by kernel_rfl) (by kernel_rfl) (by kernel_rfl) (fun _ _ _ h => h) (by kernel_rfl) (fun _ _ => rfl) hS ?_
    simp only [Act.put, List.setIfInBounds_toArray, List.set_cons_zero, List.set_cons_succ]
    refine wpAnyH_done (by kernel_rfl) ?_ _
    have HL3 := Lib.hid hS
    clear hS HL2
    go_wp2_with fail
    have HB1 := Lib.hid (fun w => below_any a b w)
    have HB2 := Lib.hid (fun w => below_any b a w)
    have HB3 := Lib.hid (fun w => below_any a (V.join a b) w)
    have HB4 := Lib.hid (fun w => below_any (V.meet a b) a w)
    have HO := Lib.hid (order_two a b)
    have HE1 := Lib.hid (V.below_join a b)
    have HE2 := Lib.hid (below_meet a b)
    rw [below_up] at HB3
    rw [below_down] at HB4
    cases hp : V.belowB a b <;> cases hq : V.belowB b a
    · rw [hp] at HB1 HE1 HE2 HO
      rw [hq] at HB2 HO
      clear hp hq
      refine wp_region_held_drew (S := fun w' => Lat w w' a b c gj gm (V.join a b) (V.meet a b)) (by kernel_rfl) HL3.out.drew (fun hS => ?_)
      refine held_take 0 77 (.agg a.arr) rfl rfl (by kernel_rfl) (by kernel_rfl) (by kernel_rfl) (fun _ _ _ h => h) (by kernel_rfl) (fun _ h => exec_load24 rfl rfl h.box.one) hS ?_
      simp only [Act.put, List.setIfInBounds_toArray, List.set_cons_zero, List.set_cons_succ]
      refine held_take 1 78 (.agg b.arr) rfl rfl (by kernel_rfl) (by kernel_rfl) (by kernel_rfl) (fun _ _ _ h => h) (by kernel_rfl) (fun _ h => exec_load24 rfl rfl h.box.two) hS ?_
      simp only [Act.put, List.setIfInBounds_toArray, List.set_cons_zero, List.set_cons_succ]
      refine held_take 3 80 (.agg (V.join a b).arr) rfl rfl (by kernel_rfl) (by kernel_rfl) (by kernel_rfl) (fun _ _ _ h => h) (by kernel_rfl) (fun _ h => exec_load24 rfl rfl h.jo) hS ?_
      simp only [Act.put, List.setIfInBounds_toArray, List.set_cons_zero, List.set_cons_succ]
      refine held_take 4 81 (.agg b.arr) rfl rfl (by kernel_rfl) (by kernel_rfl) (by kernel_rfl) (fun _ _ _ h => h) (by kernel_rfl) (fun _ h => exec_load24 rfl rfl h.box.two) hS ?_
      simp only [Act.put, List.setIfInBounds_toArray, List.set_cons_zero, List.set_cons_succ]
      refine held_take 5 82 (.bool false) rfl rfl (by kernel_rfl) (by kernel_rfl) (by kernel_rfl) (fun _ _ _ h => h) (by kernel_rfl) (fun _ _ => exec_eql24 rfl rfl rfl HE1.out) hS ?_
      simp only [Act.put, List.setIfInBounds_toArray, List.set_cons_zero, List.set_cons_succ]
      refine held_call 2 79 14 #[(.agg a.arr), (.agg b.arr)] (.bool false) rfl (by kernel_rfl) rfl (by kernel_rfl) (by kernel_rfl) (HB1.out _) (fun _ h hb => h.below hb) hS (fun w102 hS => ?_)
      simp only [Act.put, List.setIfInBounds_toArray, List.set_cons_zero, List.set_cons_succ]
      refine held_take 6 83 (.bool true) rfl rfl (by kernel_rfl) (by kernel_rfl) (by kernel_rfl) (fun _ _ _ h => h) (by kernel_rfl) (fun _ _ => exec_eqlB (by kernel_rfl) rfl rfl rfl rfl) hS ?_
      simp only [Act.put, List.setIfInBounds_toArray, List.set_cons_zero, List.set_cons_succ]
      refine held_take 7 84 (.bool true) rfl rfl (by kernel_rfl) (by kernel_rfl) (by kernel_rfl) (fun _ _ _ h => h) (by kernel_rfl) (fun _ _ => rfl) hS ?_
      simp only [Act.put, List.setIfInBounds_toArray, List.set_cons_zero, List.set_cons_succ]
      refine held_take 8 85 (.agg a.arr) rfl rfl (by kernel_rfl) (by kernel_rfl) (by kernel_rfl) (fun _ _ _ h => h) (by kernel_rfl) (fun _ h => exec_load24 rfl rfl h.box.one) hS ?_
      simp only [Act.put, List.setIfInBounds_toArray, List.set_cons_zero, List.set_cons_succ]
      refine held_take 9 86 (.agg b.arr) rfl rfl (by kernel_rfl) (by kernel_rfl) (by kernel_rfl) (fun _ _ _ h => h) (by kernel_rfl) (fun _ h => exec_load24 rfl rfl h.box.two) hS ?_
      simp only [Act.put, List.setIfInBounds_toArray, List.set_cons_zero, List.set_cons_succ]
      refine held_take 11 88 (.agg (V.meet a b).arr) rfl rfl (by kernel_rfl) (by kernel_rfl) (by kernel_rfl) (fun _ _ _ h => h) (by kernel_rfl) (fun _ h => exec_load24 rfl rfl h.me) hS ?_
      simp only [Act.put, List.setIfInBounds_toArray, List.set_cons_zero, List.set_cons_succ]
      refine held_take 12 89 (.agg a.arr) rfl rfl (by kernel_rfl) (by kernel_rfl) (by kernel_rfl) (fun _ _ _ h => h) (by kernel_rfl) (fun _ h => exec_load24 rfl rfl h.box.one) hS ?_
      simp only [Act.put, List.setIfInBounds_toArray, List.set_cons_zero, List.set_cons_succ]
      refine held_take 13 90 (.bool false) rfl rfl (by kernel_rfl) (by kernel_rfl) (by kernel_rfl) (fun _ _ _ h => h) (by kernel_rfl) (fun _ _ => exec_eql24 rfl rfl rfl HE2.out) hS ?_
      simp only [Act.put, List.setIfInBounds_toArray, List.set_cons_zero, List.set_cons_succ]
      refine held_call 10 87 14 #[(.agg a.arr), (.agg b.arr)] (.bool false) rfl (by kernel_rfl) rfl (by kernel_rfl) (by kernel_rfl) (HB1.out _) (fun _ h hb => h.below hb) hS (fun w110 hS => ?_)
      simp only [Act.put, List.setIfInBounds_toArray, List.set_cons_zero, List.set_cons_succ]
      refine held_take 14 91 (.bool true) rfl rfl (by kernel_rfl) (by kernel_rfl) (by kernel_rfl) (fun _ _ _ h => h) (by kernel_rfl) (fun _ _ => exec_eqlB (by kernel_rfl) rfl rfl rfl rfl) hS ?_
      simp only [Act.put, List.setIfInBounds_toArray, List.set_cons_zero, List.set_cons_succ]
      refine held_take 15 92 (.bool true) rfl rfl (by kernel_rfl) (by kernel_rfl) (by kernel_rfl) (fun _ _ _ h => h) (by kernel_rfl) (fun _ _ => rfl) hS ?_
      simp only [Act.put, List.setIfInBounds_toArray, List.set_cons_zero, List.set_cons_succ]
      refine held_take 16 93 (.bool true) rfl rfl (by kernel_rfl) (by kernel_rfl) (by kernel_rfl) (fun _ _ _ h => h) (by kernel_rfl) (fun _ _ => rfl) hS ?_
      simp only [Act.put, List.setIfInBounds_toArray, List.set_cons_zero, List.set_cons_succ]
      refine held_take 17 94 (.agg a.arr) rfl rfl (by kernel_rfl) (by kernel_rfl) (by kernel_rfl) (fun _ _ _ h => h) (by kernel_rfl) (fun _ h => exec_load24 rfl rfl h.box.one) hS ?_
      simp only [Act.put, List.setIfInBounds_toArray, List.set_cons_zero, List.set_cons_succ]
      refine held_take 18 95 (.agg (V.join a b).arr) rfl rfl (by kernel_rfl) (by kernel_rfl) (by kernel_rfl) (fun _ _ _ h => h) (by kernel_rfl) (fun _ h => exec_load24 rfl rfl h.jo) hS ?_
      simp only [Act.put, List.setIfInBounds_toArray, List.set_cons_zero, List.set_cons_succ]
      refine held_call 19 96 14 #[(.agg a.arr), (.agg (V.join a b).arr)] (.bool true) rfl (by kernel_rfl) rfl (by kernel_rfl) (by kernel_rfl) (HB3.out _) (fun _ h hb => h.below hb) hS (fun w119 hS => ?_)
      simp only [Act.put, List.setIfInBounds_toArray, List.set_cons_zero, List.set_cons_succ]
      refine held_take 20 97 (.bool true) rfl rfl (by kernel_rfl) (by kernel_rfl) (by kernel_rfl) (fun _ _ _ h => h) (by kernel_rfl) (fun _ _ => rfl) hS ?_
      simp only [Act.put, List.setIfInBounds_toArray, List.set_cons_zero, List.set_cons_succ]
      refine held_take 21 98 (.bool true) rfl rfl (by kernel_rfl) (by kernel_rfl) (by kernel_rfl) (fun _ _ _ h => h) (by kernel_rfl) (fun _ _ => rfl) hS ?_
      simp only [Act.put, List.setIfInBounds_toArray, List.set_cons_zero, List.set_cons_succ]
      refine held_take 22 99 (.agg (V.meet a b).arr) rfl rfl (by kernel_rfl) (by kernel_rfl) (by kernel_rfl) (fun _ _ _ h => h) (by kernel_rfl) (fun _ h => exec_load24 rfl rfl h.me) hS ?_
      simp only [Act.put, List.setIfInBounds_toArray, List.set_cons_zero, List.set_cons_succ]
      refine held_take 23 100 (.agg a.arr) rfl rfl (by kernel_rfl) (by kernel_rfl) (by kernel_rfl) (fun _ _ _ h => h) (by kernel_rfl) (fun _ h => exec_load24 rfl rfl h.box.one) hS ?_
      simp only [Act.put, List.setIfInBounds_toArray, List.set_cons_zero, List.set_cons_succ]
      refine held_call 24 101 14 #[(.agg (V.meet a b).arr), (.agg a.arr)] (.bool true) rfl (by kernel_rfl) rfl (by kernel_rfl) (by kernel_rfl) (HB4.out _) (fun _ h hb => h.below hb) hS (fun w124 hS => ?_)
      simp only [Act.put, List.setIfInBounds_toArray, List.set_cons_zero, List.set_cons_succ]
      refine held_take 25 102 (.bool true) rfl rfl (by kernel_rfl) (by kernel_rfl) (by kernel_rfl) (fun _ _ _ h => h) (by kernel_rfl) (fun _ _ => rfl) hS ?_
      simp only [Act.put, List.setIfInBounds_toArray, List.set_cons_zero, List.set_cons_succ]
      refine held_take 26 103 (.bool true) rfl rfl (by kernel_rfl) (by kernel_rfl) (by kernel_rfl) (fun _ _ _ h => h) (by kernel_rfl) (fun _ _ => rfl) hS ?_
      simp only [Act.put, List.setIfInBounds_toArray, List.set_cons_zero, List.set_cons_succ]
      refine held_take 27 104 (.agg a.arr) rfl rfl (by kernel_rfl) (by kernel_rfl) (by kernel_rfl) (fun _ _ _ h => h) (by kernel_rfl) (fun _ h => exec_load24 rfl rfl h.box.one) hS ?_
      simp only [Act.put, List.setIfInBounds_toArray, List.set_cons_zero, List.set_cons_succ]
      refine held_take 28 105 (.agg b.arr) rfl rfl (by kernel_rfl) (by kernel_rfl) (by kernel_rfl) (fun _ _ _ h => h) (by kernel_rfl) (fun _ h => exec_load24 rfl rfl h.box.two) hS ?_
      simp only [Act.put, List.setIfInBounds_toArray, List.set_cons_zero, List.set_cons_succ]
      refine held_take 31 108 (.agg a.arr) rfl rfl (by kernel_rfl) (by kernel_rfl) (by kernel_rfl) (fun _ _ _ h => h) (by kernel_rfl) (fun _ h => exec_load24 rfl rfl h.box.one) hS ?_
      simp only [Act.put, List.setIfInBounds_toArray, List.set_cons_zero, List.set_cons_succ]
      refine held_take 32 109 (.agg b.arr) rfl rfl (by kernel_rfl) (by kernel_rfl) (by kernel_rfl) (fun _ _ _ h => h) (by kernel_rfl) (fun _ h => exec_load24 rfl rfl h.box.two) hS ?_
      simp only [Act.put, List.setIfInBounds_toArray, List.set_cons_zero, List.set_cons_succ]
      refine held_call 29 106 16 #[(.agg a.arr), (.agg b.arr)] (.int .i64 (V.order a b)) rfl (by kernel_rfl) rfl (by kernel_rfl) (by kernel_rfl) (order_any a b _) (fun _ h hb => h.below hb) hS (fun w129 hS => ?_)
      simp only [Act.put, List.setIfInBounds_toArray, List.set_cons_zero, List.set_cons_succ]
      refine held_take 30 107 (.bool true) rfl rfl (by kernel_rfl) (by kernel_rfl) (by kernel_rfl) (fun _ _ _ h => h) (by kernel_rfl) (fun _ _ => exec_eqlI trivial rfl rfl rfl HO.out) hS ?_
      simp only [Act.put, List.setIfInBounds_toArray, List.set_cons_zero, List.set_cons_succ]
      refine held_call 33 110 14 #[(.agg a.arr), (.agg b.arr)] (.bool false) rfl (by kernel_rfl) rfl (by kernel_rfl) (by kernel_rfl) (HB1.out _) (fun _ h hb => h.below hb) hS (fun w133 hS => ?_)
      simp only [Act.put, List.setIfInBounds_toArray, List.set_cons_zero, List.set_cons_succ]
      refine held_take 34 111 (.bool true) rfl rfl (by kernel_rfl) (by kernel_rfl) (by kernel_rfl) (fun _ _ _ h => h) (by kernel_rfl) (fun _ _ => rfl) hS ?_
      simp only [Act.put, List.setIfInBounds_toArray, List.set_cons_zero, List.set_cons_succ]
      refine held_take 35 112 (.bool true) rfl rfl (by kernel_rfl) (by kernel_rfl) (by kernel_rfl) (fun _ _ _ h => h) (by kernel_rfl) (fun _ _ => rfl) hS ?_
      simp only [Act.put, List.setIfInBounds_toArray, List.set_cons_zero, List.set_cons_succ]
      refine held_take 36 113 (.agg b.arr) rfl rfl (by kernel_rfl) (by kernel_rfl) (by kernel_rfl) (fun _ _ _ h => h) (by kernel_rfl) (fun _ h => exec_load24 rfl rfl h.box.two) hS ?_
      simp only [Act.put, List.setIfInBounds_toArray, List.set_cons_zero, List.set_cons_succ]
      refine held_take 37 114 (.agg a.arr) rfl rfl (by kernel_rfl) (by kernel_rfl) (by kernel_rfl) (fun _ _ _ h => h) (by kernel_rfl) (fun _ h => exec_load24 rfl rfl h.box.one) hS ?_
      simp only [Act.put, List.setIfInBounds_toArray, List.set_cons_zero, List.set_cons_succ]
      refine held_call 38 115 14 #[(.agg b.arr), (.agg a.arr)] (.bool false) rfl (by kernel_rfl) rfl (by kernel_rfl) (by kernel_rfl) (HB2.out _) (fun _ h hb => h.below hb) hS (fun w138 hS => ?_)
      simp only [Act.put, List.setIfInBounds_toArray, List.set_cons_zero, List.set_cons_succ]
      refine held_take 39 116 (.bool true) rfl rfl (by kernel_rfl) (by kernel_rfl) (by kernel_rfl) (fun _ _ _ h => h) (by kernel_rfl) (fun _ _ => rfl) hS ?_
      simp only [Act.put, List.setIfInBounds_toArray, List.set_cons_zero, List.set_cons_succ]
      refine held_take 40 117 (.bool true) rfl rfl (by kernel_rfl) (by kernel_rfl) (by kernel_rfl) (fun _ _ _ h => h) (by kernel_rfl) (fun _ _ => rfl) hS ?_
      simp only [Act.put, List.setIfInBounds_toArray, List.set_cons_zero, List.set_cons_succ]
      refine held_take 41 118 (.bool true) rfl rfl (by kernel_rfl) (by kernel_rfl) (by kernel_rfl) (fun _ _ _ h => h) (by kernel_rfl) (fun _ _ => exec_eqlB (by kernel_rfl) rfl rfl rfl rfl) hS ?_
      simp only [Act.put, List.setIfInBounds_toArray, List.set_cons_zero, List.set_cons_succ]
      refine held_take 42 119 (.bool true) rfl rfl (by kernel_rfl) (by kernel_rfl) (by kernel_rfl) (fun _ _ _ h => h) (by kernel_rfl) (fun _ _ => rfl) hS ?_
      simp only [Act.put, List.setIfInBounds_toArray, List.set_cons_zero, List.set_cons_succ]
      refine held_take 43 6 (.bool true) rfl rfl (by kernel_rfl) (by kernel_rfl) (by kernel_rfl) (fun _ _ _ h => h) (by kernel_rfl) (fun _ _ => rfl) hS ?_
      simp only [Act.put, List.setIfInBounds_toArray, List.set_cons_zero, List.set_cons_succ]
      refine wpAnyH_done (by kernel_rfl) ?_ _
      go_wp2_with fail
      go_ret
      exact ⟨rfl, hS.box.old⟩
    · rw [hp] at HB1 HE1 HE2 HO
      rw [hq] at HB2 HO
      clear hp hq
      refine wp_region_held_drew (S := fun w' => Lat w w' a b c gj gm (V.join a b) (V.meet a b)) (by kernel_rfl) HL3.out.drew (fun hS => ?_)
      refine held_take 0 77 (.agg a.arr) rfl rfl (by kernel_rfl) (by kernel_rfl) (by kernel_rfl) (fun _ _ _ h => h) (by kernel_rfl) (fun _ h => exec_load24 rfl rfl h.box.one) hS ?_
      simp only [Act.put, List.setIfInBounds_toArray, List.set_cons_zero, List.set_cons_succ]
      refine held_take 1 78 (.agg b.arr) rfl rfl (by kernel_rfl) (by kernel_rfl) (by kernel_rfl) (fun _ _ _ h => h) (by kernel_rfl) (fun _ h => exec_load24 rfl rfl h.box.two) hS ?_
      simp only [Act.put, List.setIfInBounds_toArray, List.set_cons_zero, List.set_cons_succ]
      refine held_take 3 80 (.agg (V.join a b).arr) rfl rfl (by kernel_rfl) (by kernel_rfl) (by kernel_rfl) (fun _ _ _ h => h) (by kernel_rfl) (fun _ h => exec_load24 rfl rfl h.jo) hS ?_
      simp only [Act.put, List.setIfInBounds_toArray, List.set_cons_zero, List.set_cons_succ]
      refine held_take 4 81 (.agg b.arr) rfl rfl (by kernel_rfl) (by kernel_rfl) (by kernel_rfl) (fun _ _ _ h => h) (by kernel_rfl) (fun _ h => exec_load24 rfl rfl h.box.two) hS ?_
      simp only [Act.put, List.setIfInBounds_toArray, List.set_cons_zero, List.set_cons_succ]
      refine held_take 5 82 (.bool false) rfl rfl (by kernel_rfl) (by kernel_rfl) (by kernel_rfl) (fun _ _ _ h => h) (by kernel_rfl) (fun _ _ => exec_eql24 rfl rfl rfl HE1.out) hS ?_
      simp only [Act.put, List.setIfInBounds_toArray, List.set_cons_zero, List.set_cons_succ]
      refine held_call 2 79 14 #[(.agg a.arr), (.agg b.arr)] (.bool false) rfl (by kernel_rfl) rfl (by kernel_rfl) (by kernel_rfl) (HB1.out _) (fun _ h hb => h.below hb) hS (fun w102 hS => ?_)
      simp only [Act.put, List.setIfInBounds_toArray, List.set_cons_zero, List.set_cons_succ]
      refine held_take 6 83 (.bool true) rfl rfl (by kernel_rfl) (by kernel_rfl) (by kernel_rfl) (fun _ _ _ h => h) (by kernel_rfl) (fun _ _ => exec_eqlB (by kernel_rfl) rfl rfl rfl rfl) hS ?_
      simp only [Act.put, List.setIfInBounds_toArray, List.set_cons_zero, List.set_cons_succ]
      refine held_take 7 84 (.bool true) rfl rfl (by kernel_rfl) (by kernel_rfl) (by kernel_rfl) (fun _ _ _ h => h) (by kernel_rfl) (fun _ _ => rfl) hS ?_
      simp only [Act.put, List.setIfInBounds_toArray, List.set_cons_zero, List.set_cons_succ]
      refine held_take 8 85 (.agg a.arr) rfl rfl (by kernel_rfl) (by kernel_rfl) (by kernel_rfl) (fun _ _ _ h => h) (by kernel_rfl) (fun _ h => exec_load24 rfl rfl h.box.one) hS ?_
      simp only [Act.put, List.setIfInBounds_toArray, List.set_cons_zero, List.set_cons_succ]
      refine held_take 9 86 (.agg b.arr) rfl rfl (by kernel_rfl) (by kernel_rfl) (by kernel_rfl) (fun _ _ _ h => h) (by kernel_rfl) (fun _ h => exec_load24 rfl rfl h.box.two) hS ?_
      simp only [Act.put, List.setIfInBounds_toArray, List.set_cons_zero, List.set_cons_succ]
      refine held_take 11 88 (.agg (V.meet a b).arr) rfl rfl (by kernel_rfl) (by kernel_rfl) (by kernel_rfl) (fun _ _ _ h => h) (by kernel_rfl) (fun _ h => exec_load24 rfl rfl h.me) hS ?_
      simp only [Act.put, List.setIfInBounds_toArray, List.set_cons_zero, List.set_cons_succ]
      refine held_take 12 89 (.agg a.arr) rfl rfl (by kernel_rfl) (by kernel_rfl) (by kernel_rfl) (fun _ _ _ h => h) (by kernel_rfl) (fun _ h => exec_load24 rfl rfl h.box.one) hS ?_
      simp only [Act.put, List.setIfInBounds_toArray, List.set_cons_zero, List.set_cons_succ]
      refine held_take 13 90 (.bool false) rfl rfl (by kernel_rfl) (by kernel_rfl) (by kernel_rfl) (fun _ _ _ h => h) (by kernel_rfl) (fun _ _ => exec_eql24 rfl rfl rfl HE2.out) hS ?_
      simp only [Act.put, List.setIfInBounds_toArray, List.set_cons_zero, List.set_cons_succ]
      refine held_call 10 87 14 #[(.agg a.arr), (.agg b.arr)] (.bool false) rfl (by kernel_rfl) rfl (by kernel_rfl) (by kernel_rfl) (HB1.out _) (fun _ h hb => h.below hb) hS (fun w110 hS => ?_)
      simp only [Act.put, List.setIfInBounds_toArray, List.set_cons_zero, List.set_cons_succ]
      refine held_take 14 91 (.bool true) rfl rfl (by kernel_rfl) (by kernel_rfl) (by kernel_rfl) (fun _ _ _ h => h) (by kernel_rfl) (fun _ _ => exec_eqlB (by kernel_rfl) rfl rfl rfl rfl) hS ?_
      simp only [Act.put, List.setIfInBounds_toArray, List.set_cons_zero, List.set_cons_succ]
      refine held_take 15 92 (.bool true) rfl rfl (by kernel_rfl) (by kernel_rfl) (by kernel_rfl) (fun _ _ _ h => h) (by kernel_rfl) (fun _ _ => rfl) hS ?_
      simp only [Act.put, List.setIfInBounds_toArray, List.set_cons_zero, List.set_cons_succ]
      refine held_take 16 93 (.bool true) rfl rfl (by kernel_rfl) (by kernel_rfl) (by kernel_rfl) (fun _ _ _ h => h) (by kernel_rfl) (fun _ _ => rfl) hS ?_
      simp only [Act.put, List.setIfInBounds_toArray, List.set_cons_zero, List.set_cons_succ]
      refine held_take 17 94 (.agg a.arr) rfl rfl (by kernel_rfl) (by kernel_rfl) (by kernel_rfl) (fun _ _ _ h => h) (by kernel_rfl) (fun _ h => exec_load24 rfl rfl h.box.one) hS ?_
      simp only [Act.put, List.setIfInBounds_toArray, List.set_cons_zero, List.set_cons_succ]
      refine held_take 18 95 (.agg (V.join a b).arr) rfl rfl (by kernel_rfl) (by kernel_rfl) (by kernel_rfl) (fun _ _ _ h => h) (by kernel_rfl) (fun _ h => exec_load24 rfl rfl h.jo) hS ?_
      simp only [Act.put, List.setIfInBounds_toArray, List.set_cons_zero, List.set_cons_succ]
      refine held_call 19 96 14 #[(.agg a.arr), (.agg (V.join a b).arr)] (.bool true) rfl (by kernel_rfl) rfl (by kernel_rfl) (by kernel_rfl) (HB3.out _) (fun _ h hb => h.below hb) hS (fun w119 hS => ?_)
      simp only [Act.put, List.setIfInBounds_toArray, List.set_cons_zero, List.set_cons_succ]
      refine held_take 20 97 (.bool true) rfl rfl (by kernel_rfl) (by kernel_rfl) (by kernel_rfl) (fun _ _ _ h => h) (by kernel_rfl) (fun _ _ => rfl) hS ?_
      simp only [Act.put, List.setIfInBounds_toArray, List.set_cons_zero, List.set_cons_succ]
      refine held_take 21 98 (.bool true) rfl rfl (by kernel_rfl) (by kernel_rfl) (by kernel_rfl) (fun _ _ _ h => h) (by kernel_rfl) (fun _ _ => rfl) hS ?_
      simp only [Act.put, List.setIfInBounds_toArray, List.set_cons_zero, List.set_cons_succ]
      refine held_take 22 99 (.agg (V.meet a b).arr) rfl rfl (by kernel_rfl) (by kernel_rfl) (by kernel_rfl) (fun _ _ _ h => h) (by kernel_rfl) (fun _ h => exec_load24 rfl rfl h.me) hS ?_
      simp only [Act.put, List.setIfInBounds_toArray, List.set_cons_zero, List.set_cons_succ]
      refine held_take 23 100 (.agg a.arr) rfl rfl (by kernel_rfl) (by kernel_rfl) (by kernel_rfl) (fun _ _ _ h => h) (by kernel_rfl) (fun _ h => exec_load24 rfl rfl h.box.one) hS ?_
      simp only [Act.put, List.setIfInBounds_toArray, List.set_cons_zero, List.set_cons_succ]
      refine held_call 24 101 14 #[(.agg (V.meet a b).arr), (.agg a.arr)] (.bool true) rfl (by kernel_rfl) rfl (by kernel_rfl) (by kernel_rfl) (HB4.out _) (fun _ h hb => h.below hb) hS (fun w124 hS => ?_)
      simp only [Act.put, List.setIfInBounds_toArray, List.set_cons_zero, List.set_cons_succ]
      refine held_take 25 102 (.bool true) rfl rfl (by kernel_rfl) (by kernel_rfl) (by kernel_rfl) (fun _ _ _ h => h) (by kernel_rfl) (fun _ _ => rfl) hS ?_
      simp only [Act.put, List.setIfInBounds_toArray, List.set_cons_zero, List.set_cons_succ]
      refine held_take 26 103 (.bool true) rfl rfl (by kernel_rfl) (by kernel_rfl) (by kernel_rfl) (fun _ _ _ h => h) (by kernel_rfl) (fun _ _ => rfl) hS ?_
      simp only [Act.put, List.setIfInBounds_toArray, List.set_cons_zero, List.set_cons_succ]
      refine held_take 27 104 (.agg a.arr) rfl rfl (by kernel_rfl) (by kernel_rfl) (by kernel_rfl) (fun _ _ _ h => h) (by kernel_rfl) (fun _ h => exec_load24 rfl rfl h.box.one) hS ?_
      simp only [Act.put, List.setIfInBounds_toArray, List.set_cons_zero, List.set_cons_succ]
      refine held_take 28 105 (.agg b.arr) rfl rfl (by kernel_rfl) (by kernel_rfl) (by kernel_rfl) (fun _ _ _ h => h) (by kernel_rfl) (fun _ h => exec_load24 rfl rfl h.box.two) hS ?_
      simp only [Act.put, List.setIfInBounds_toArray, List.set_cons_zero, List.set_cons_succ]
      refine held_take 31 108 (.agg a.arr) rfl rfl (by kernel_rfl) (by kernel_rfl) (by kernel_rfl) (fun _ _ _ h => h) (by kernel_rfl) (fun _ h => exec_load24 rfl rfl h.box.one) hS ?_
      simp only [Act.put, List.setIfInBounds_toArray, List.set_cons_zero, List.set_cons_succ]
      refine held_take 32 109 (.agg b.arr) rfl rfl (by kernel_rfl) (by kernel_rfl) (by kernel_rfl) (fun _ _ _ h => h) (by kernel_rfl) (fun _ h => exec_load24 rfl rfl h.box.two) hS ?_
      simp only [Act.put, List.setIfInBounds_toArray, List.set_cons_zero, List.set_cons_succ]
      refine held_call 29 106 16 #[(.agg a.arr), (.agg b.arr)] (.int .i64 (V.order a b)) rfl (by kernel_rfl) rfl (by kernel_rfl) (by kernel_rfl) (order_any a b _) (fun _ h hb => h.below hb) hS (fun w129 hS => ?_)
      simp only [Act.put, List.setIfInBounds_toArray, List.set_cons_zero, List.set_cons_succ]
      refine held_take 30 107 (.bool false) rfl rfl (by kernel_rfl) (by kernel_rfl) (by kernel_rfl) (fun _ _ _ h => h) (by kernel_rfl) (fun _ _ => exec_eqlI trivial rfl rfl rfl HO.out) hS ?_
      simp only [Act.put, List.setIfInBounds_toArray, List.set_cons_zero, List.set_cons_succ]
      refine held_call 33 110 14 #[(.agg a.arr), (.agg b.arr)] (.bool false) rfl (by kernel_rfl) rfl (by kernel_rfl) (by kernel_rfl) (HB1.out _) (fun _ h hb => h.below hb) hS (fun w133 hS => ?_)
      simp only [Act.put, List.setIfInBounds_toArray, List.set_cons_zero, List.set_cons_succ]
      refine held_take 34 111 (.bool true) rfl rfl (by kernel_rfl) (by kernel_rfl) (by kernel_rfl) (fun _ _ _ h => h) (by kernel_rfl) (fun _ _ => rfl) hS ?_
      simp only [Act.put, List.setIfInBounds_toArray, List.set_cons_zero, List.set_cons_succ]
      refine held_take 35 112 (.bool true) rfl rfl (by kernel_rfl) (by kernel_rfl) (by kernel_rfl) (fun _ _ _ h => h) (by kernel_rfl) (fun _ _ => rfl) hS ?_
      simp only [Act.put, List.setIfInBounds_toArray, List.set_cons_zero, List.set_cons_succ]
      refine held_take 36 113 (.agg b.arr) rfl rfl (by kernel_rfl) (by kernel_rfl) (by kernel_rfl) (fun _ _ _ h => h) (by kernel_rfl) (fun _ h => exec_load24 rfl rfl h.box.two) hS ?_
      simp only [Act.put, List.setIfInBounds_toArray, List.set_cons_zero, List.set_cons_succ]
      refine held_take 37 114 (.agg a.arr) rfl rfl (by kernel_rfl) (by kernel_rfl) (by kernel_rfl) (fun _ _ _ h => h) (by kernel_rfl) (fun _ h => exec_load24 rfl rfl h.box.one) hS ?_
      simp only [Act.put, List.setIfInBounds_toArray, List.set_cons_zero, List.set_cons_succ]
      refine held_call 38 115 14 #[(.agg b.arr), (.agg a.arr)] (.bool true) rfl (by kernel_rfl) rfl (by kernel_rfl) (by kernel_rfl) (HB2.out _) (fun _ h hb => h.below hb) hS (fun w138 hS => ?_)
      simp only [Act.put, List.setIfInBounds_toArray, List.set_cons_zero, List.set_cons_succ]
      refine held_take 39 116 (.bool false) rfl rfl (by kernel_rfl) (by kernel_rfl) (by kernel_rfl) (fun _ _ _ h => h) (by kernel_rfl) (fun _ _ => rfl) hS ?_
      simp only [Act.put, List.setIfInBounds_toArray, List.set_cons_zero, List.set_cons_succ]
      refine held_take 40 117 (.bool false) rfl rfl (by kernel_rfl) (by kernel_rfl) (by kernel_rfl) (fun _ _ _ h => h) (by kernel_rfl) (fun _ _ => rfl) hS ?_
      simp only [Act.put, List.setIfInBounds_toArray, List.set_cons_zero, List.set_cons_succ]
      refine held_take 41 118 (.bool true) rfl rfl (by kernel_rfl) (by kernel_rfl) (by kernel_rfl) (fun _ _ _ h => h) (by kernel_rfl) (fun _ _ => exec_eqlB (by kernel_rfl) rfl rfl rfl rfl) hS ?_
      simp only [Act.put, List.setIfInBounds_toArray, List.set_cons_zero, List.set_cons_succ]
      refine held_take 42 119 (.bool true) rfl rfl (by kernel_rfl) (by kernel_rfl) (by kernel_rfl) (fun _ _ _ h => h) (by kernel_rfl) (fun _ _ => rfl) hS ?_
      simp only [Act.put, List.setIfInBounds_toArray, List.set_cons_zero, List.set_cons_succ]
      refine held_take 43 6 (.bool true) rfl rfl (by kernel_rfl) (by kernel_rfl) (by kernel_rfl) (fun _ _ _ h => h) (by kernel_rfl) (fun _ _ => rfl) hS ?_
      simp only [Act.put, List.setIfInBounds_toArray, List.set_cons_zero, List.set_cons_succ]
      refine wpAnyH_done (by kernel_rfl) ?_ _
      go_wp2_with fail
      go_ret
      exact ⟨rfl, hS.box.old⟩
    · rw [hp] at HB1 HE1 HE2 HO
      rw [hq] at HB2 HO
      clear hp hq
      refine wp_region_held_drew (S := fun w' => Lat w w' a b c gj gm (V.join a b) (V.meet a b)) (by kernel_rfl) HL3.out.drew (fun hS => ?_)
      refine held_take 0 77 (.agg a.arr) rfl rfl (by kernel_rfl) (by kernel_rfl) (by kernel_rfl) (fun _ _ _ h => h) (by kernel_rfl) (fun _ h => exec_load24 rfl rfl h.box.one) hS ?_
      simp only [Act.put, List.setIfInBounds_toArray, List.set_cons_zero, List.set_cons_succ]
      refine held_take 1 78 (.agg b.arr) rfl rfl (by kernel_rfl) (by kernel_rfl) (by kernel_rfl) (fun _ _ _ h => h) (by kernel_rfl) (fun _ h => exec_load24 rfl rfl h.box.two) hS ?_
      simp only [Act.put, List.setIfInBounds_toArray, List.set_cons_zero, List.set_cons_succ]
      refine held_take 3 80 (.agg (V.join a b).arr) rfl rfl (by kernel_rfl) (by kernel_rfl) (by kernel_rfl) (fun _ _ _ h => h) (by kernel_rfl) (fun _ h => exec_load24 rfl rfl h.jo) hS ?_
      simp only [Act.put, List.setIfInBounds_toArray, List.set_cons_zero, List.set_cons_succ]
      refine held_take 4 81 (.agg b.arr) rfl rfl (by kernel_rfl) (by kernel_rfl) (by kernel_rfl) (fun _ _ _ h => h) (by kernel_rfl) (fun _ h => exec_load24 rfl rfl h.box.two) hS ?_
      simp only [Act.put, List.setIfInBounds_toArray, List.set_cons_zero, List.set_cons_succ]
      refine held_take 5 82 (.bool true) rfl rfl (by kernel_rfl) (by kernel_rfl) (by kernel_rfl) (fun _ _ _ h => h) (by kernel_rfl) (fun _ _ => exec_eql24 rfl rfl rfl HE1.out) hS ?_
      simp only [Act.put, List.setIfInBounds_toArray, List.set_cons_zero, List.set_cons_succ]
      refine held_call 2 79 14 #[(.agg a.arr), (.agg b.arr)] (.bool true) rfl (by kernel_rfl) rfl (by kernel_rfl) (by kernel_rfl) (HB1.out _) (fun _ h hb => h.below hb) hS (fun w102 hS => ?_)
      simp only [Act.put, List.setIfInBounds_toArray, List.set_cons_zero, List.set_cons_succ]
      refine held_take 6 83 (.bool true) rfl rfl (by kernel_rfl) (by kernel_rfl) (by kernel_rfl) (fun _ _ _ h => h) (by kernel_rfl) (fun _ _ => exec_eqlB (by kernel_rfl) rfl rfl rfl rfl) hS ?_
      simp only [Act.put, List.setIfInBounds_toArray, List.set_cons_zero, List.set_cons_succ]
      refine held_take 7 84 (.bool true) rfl rfl (by kernel_rfl) (by kernel_rfl) (by kernel_rfl) (fun _ _ _ h => h) (by kernel_rfl) (fun _ _ => rfl) hS ?_
      simp only [Act.put, List.setIfInBounds_toArray, List.set_cons_zero, List.set_cons_succ]
      refine held_take 8 85 (.agg a.arr) rfl rfl (by kernel_rfl) (by kernel_rfl) (by kernel_rfl) (fun _ _ _ h => h) (by kernel_rfl) (fun _ h => exec_load24 rfl rfl h.box.one) hS ?_
      simp only [Act.put, List.setIfInBounds_toArray, List.set_cons_zero, List.set_cons_succ]
      refine held_take 9 86 (.agg b.arr) rfl rfl (by kernel_rfl) (by kernel_rfl) (by kernel_rfl) (fun _ _ _ h => h) (by kernel_rfl) (fun _ h => exec_load24 rfl rfl h.box.two) hS ?_
      simp only [Act.put, List.setIfInBounds_toArray, List.set_cons_zero, List.set_cons_succ]
      refine held_take 11 88 (.agg (V.meet a b).arr) rfl rfl (by kernel_rfl) (by kernel_rfl) (by kernel_rfl) (fun _ _ _ h => h) (by kernel_rfl) (fun _ h => exec_load24 rfl rfl h.me) hS ?_
      simp only [Act.put, List.setIfInBounds_toArray, List.set_cons_zero, List.set_cons_succ]
      refine held_take 12 89 (.agg a.arr) rfl rfl (by kernel_rfl) (by kernel_rfl) (by kernel_rfl) (fun _ _ _ h => h) (by kernel_rfl) (fun _ h => exec_load24 rfl rfl h.box.one) hS ?_
      simp only [Act.put, List.setIfInBounds_toArray, List.set_cons_zero, List.set_cons_succ]
      refine held_take 13 90 (.bool true) rfl rfl (by kernel_rfl) (by kernel_rfl) (by kernel_rfl) (fun _ _ _ h => h) (by kernel_rfl) (fun _ _ => exec_eql24 rfl rfl rfl HE2.out) hS ?_
      simp only [Act.put, List.setIfInBounds_toArray, List.set_cons_zero, List.set_cons_succ]
      refine held_call 10 87 14 #[(.agg a.arr), (.agg b.arr)] (.bool true) rfl (by kernel_rfl) rfl (by kernel_rfl) (by kernel_rfl) (HB1.out _) (fun _ h hb => h.below hb) hS (fun w110 hS => ?_)
      simp only [Act.put, List.setIfInBounds_toArray, List.set_cons_zero, List.set_cons_succ]
      refine held_take 14 91 (.bool true) rfl rfl (by kernel_rfl) (by kernel_rfl) (by kernel_rfl) (fun _ _ _ h => h) (by kernel_rfl) (fun _ _ => exec_eqlB (by kernel_rfl) rfl rfl rfl rfl) hS ?_
      simp only [Act.put, List.setIfInBounds_toArray, List.set_cons_zero, List.set_cons_succ]
      refine held_take 15 92 (.bool true) rfl rfl (by kernel_rfl) (by kernel_rfl) (by kernel_rfl) (fun _ _ _ h => h) (by kernel_rfl) (fun _ _ => rfl) hS ?_
      simp only [Act.put, List.setIfInBounds_toArray, List.set_cons_zero, List.set_cons_succ]
      refine held_take 16 93 (.bool true) rfl rfl (by kernel_rfl) (by kernel_rfl) (by kernel_rfl) (fun _ _ _ h => h) (by kernel_rfl) (fun _ _ => rfl) hS ?_
      simp only [Act.put, List.setIfInBounds_toArray, List.set_cons_zero, List.set_cons_succ]
      refine held_take 17 94 (.agg a.arr) rfl rfl (by kernel_rfl) (by kernel_rfl) (by kernel_rfl) (fun _ _ _ h => h) (by kernel_rfl) (fun _ h => exec_load24 rfl rfl h.box.one) hS ?_
      simp only [Act.put, List.setIfInBounds_toArray, List.set_cons_zero, List.set_cons_succ]
      refine held_take 18 95 (.agg (V.join a b).arr) rfl rfl (by kernel_rfl) (by kernel_rfl) (by kernel_rfl) (fun _ _ _ h => h) (by kernel_rfl) (fun _ h => exec_load24 rfl rfl h.jo) hS ?_
      simp only [Act.put, List.setIfInBounds_toArray, List.set_cons_zero, List.set_cons_succ]
      refine held_call 19 96 14 #[(.agg a.arr), (.agg (V.join a b).arr)] (.bool true) rfl (by kernel_rfl) rfl (by kernel_rfl) (by kernel_rfl) (HB3.out _) (fun _ h hb => h.below hb) hS (fun w119 hS => ?_)
      simp only [Act.put, List.setIfInBounds_toArray, List.set_cons_zero, List.set_cons_succ]
      refine held_take 20 97 (.bool true) rfl rfl (by kernel_rfl) (by kernel_rfl) (by kernel_rfl) (fun _ _ _ h => h) (by kernel_rfl) (fun _ _ => rfl) hS ?_
      simp only [Act.put, List.setIfInBounds_toArray, List.set_cons_zero, List.set_cons_succ]
      refine held_take 21 98 (.bool true) rfl rfl (by kernel_rfl) (by kernel_rfl) (by kernel_rfl) (fun _ _ _ h => h) (by kernel_rfl) (fun _ _ => rfl) hS ?_
      simp only [Act.put, List.setIfInBounds_toArray, List.set_cons_zero, List.set_cons_succ]
      refine held_take 22 99 (.agg (V.meet a b).arr) rfl rfl (by kernel_rfl) (by kernel_rfl) (by kernel_rfl) (fun _ _ _ h => h) (by kernel_rfl) (fun _ h => exec_load24 rfl rfl h.me) hS ?_
      simp only [Act.put, List.setIfInBounds_toArray, List.set_cons_zero, List.set_cons_succ]
      refine held_take 23 100 (.agg a.arr) rfl rfl (by kernel_rfl) (by kernel_rfl) (by kernel_rfl) (fun _ _ _ h => h) (by kernel_rfl) (fun _ h => exec_load24 rfl rfl h.box.one) hS ?_
      simp only [Act.put, List.setIfInBounds_toArray, List.set_cons_zero, List.set_cons_succ]
      refine held_call 24 101 14 #[(.agg (V.meet a b).arr), (.agg a.arr)] (.bool true) rfl (by kernel_rfl) rfl (by kernel_rfl) (by kernel_rfl) (HB4.out _) (fun _ h hb => h.below hb) hS (fun w124 hS => ?_)
      simp only [Act.put, List.setIfInBounds_toArray, List.set_cons_zero, List.set_cons_succ]
      refine held_take 25 102 (.bool true) rfl rfl (by kernel_rfl) (by kernel_rfl) (by kernel_rfl) (fun _ _ _ h => h) (by kernel_rfl) (fun _ _ => rfl) hS ?_
      simp only [Act.put, List.setIfInBounds_toArray, List.set_cons_zero, List.set_cons_succ]
      refine held_take 26 103 (.bool true) rfl rfl (by kernel_rfl) (by kernel_rfl) (by kernel_rfl) (fun _ _ _ h => h) (by kernel_rfl) (fun _ _ => rfl) hS ?_
      simp only [Act.put, List.setIfInBounds_toArray, List.set_cons_zero, List.set_cons_succ]
      refine held_take 27 104 (.agg a.arr) rfl rfl (by kernel_rfl) (by kernel_rfl) (by kernel_rfl) (fun _ _ _ h => h) (by kernel_rfl) (fun _ h => exec_load24 rfl rfl h.box.one) hS ?_
      simp only [Act.put, List.setIfInBounds_toArray, List.set_cons_zero, List.set_cons_succ]
      refine held_take 28 105 (.agg b.arr) rfl rfl (by kernel_rfl) (by kernel_rfl) (by kernel_rfl) (fun _ _ _ h => h) (by kernel_rfl) (fun _ h => exec_load24 rfl rfl h.box.two) hS ?_
      simp only [Act.put, List.setIfInBounds_toArray, List.set_cons_zero, List.set_cons_succ]
      refine held_take 31 108 (.agg a.arr) rfl rfl (by kernel_rfl) (by kernel_rfl) (by kernel_rfl) (fun _ _ _ h => h) (by kernel_rfl) (fun _ h => exec_load24 rfl rfl h.box.one) hS ?_
      simp only [Act.put, List.setIfInBounds_toArray, List.set_cons_zero, List.set_cons_succ]
      refine held_take 32 109 (.agg b.arr) rfl rfl (by kernel_rfl) (by kernel_rfl) (by kernel_rfl) (fun _ _ _ h => h) (by kernel_rfl) (fun _ h => exec_load24 rfl rfl h.box.two) hS ?_
      simp only [Act.put, List.setIfInBounds_toArray, List.set_cons_zero, List.set_cons_succ]
      refine held_call 29 106 16 #[(.agg a.arr), (.agg b.arr)] (.int .i64 (V.order a b)) rfl (by kernel_rfl) rfl (by kernel_rfl) (by kernel_rfl) (order_any a b _) (fun _ h hb => h.below hb) hS (fun w129 hS => ?_)
      simp only [Act.put, List.setIfInBounds_toArray, List.set_cons_zero, List.set_cons_succ]
      refine held_take 30 107 (.bool false) rfl rfl (by kernel_rfl) (by kernel_rfl) (by kernel_rfl) (fun _ _ _ h => h) (by kernel_rfl) (fun _ _ => exec_eqlI trivial rfl rfl rfl HO.out) hS ?_
      simp only [Act.put, List.setIfInBounds_toArray, List.set_cons_zero, List.set_cons_succ]
      refine held_call 33 110 14 #[(.agg a.arr), (.agg b.arr)] (.bool true) rfl (by kernel_rfl) rfl (by kernel_rfl) (by kernel_rfl) (HB1.out _) (fun _ h hb => h.below hb) hS (fun w133 hS => ?_)
      simp only [Act.put, List.setIfInBounds_toArray, List.set_cons_zero, List.set_cons_succ]
      refine held_take 34 111 (.bool false) rfl rfl (by kernel_rfl) (by kernel_rfl) (by kernel_rfl) (fun _ _ _ h => h) (by kernel_rfl) (fun _ _ => rfl) hS ?_
      simp only [Act.put, List.setIfInBounds_toArray, List.set_cons_zero, List.set_cons_succ]
      refine held_take 35 112 (.bool false) rfl rfl (by kernel_rfl) (by kernel_rfl) (by kernel_rfl) (fun _ _ _ h => h) (by kernel_rfl) (fun _ _ => rfl) hS ?_
      simp only [Act.put, List.setIfInBounds_toArray, List.set_cons_zero, List.set_cons_succ]
      refine held_skip 36 113 rfl rfl (by kernel_rfl) (by kernel_rfl) (by kernel_rfl) (fun _ _ _ h => h) (by kernel_rfl) hS ?_
      simp only [Act.put, List.setIfInBounds_toArray, List.set_cons_zero, List.set_cons_succ]
      refine held_skip 37 114 rfl rfl (by kernel_rfl) (by kernel_rfl) (by kernel_rfl) (fun _ _ _ h => h) (by kernel_rfl) hS ?_
      simp only [Act.put, List.setIfInBounds_toArray, List.set_cons_zero, List.set_cons_succ]
      refine held_skip 38 115 rfl rfl (by kernel_rfl) (by kernel_rfl) (by kernel_rfl) (fun _ _ _ h => h) (by kernel_rfl) hS ?_
      simp only [Act.put, List.setIfInBounds_toArray, List.set_cons_zero, List.set_cons_succ]
      refine held_skip 39 116 rfl rfl (by kernel_rfl) (by kernel_rfl) (by kernel_rfl) (fun _ _ _ h => h) (by kernel_rfl) hS ?_
      simp only [Act.put, List.setIfInBounds_toArray, List.set_cons_zero, List.set_cons_succ]
      refine held_take 40 117 (.bool false) rfl rfl (by kernel_rfl) (by kernel_rfl) (by kernel_rfl) (fun _ _ _ h => h) (by kernel_rfl) (fun _ _ => rfl) hS ?_
      simp only [Act.put, List.setIfInBounds_toArray, List.set_cons_zero, List.set_cons_succ]
      refine held_take 41 118 (.bool true) rfl rfl (by kernel_rfl) (by kernel_rfl) (by kernel_rfl) (fun _ _ _ h => h) (by kernel_rfl) (fun _ _ => exec_eqlB (by kernel_rfl) rfl rfl rfl rfl) hS ?_
      simp only [Act.put, List.setIfInBounds_toArray, List.set_cons_zero, List.set_cons_succ]
      refine held_take 42 119 (.bool true) rfl rfl (by kernel_rfl) (by kernel_rfl) (by kernel_rfl) (fun _ _ _ h => h) (by kernel_rfl) (fun _ _ => rfl) hS ?_
      simp only [Act.put, List.setIfInBounds_toArray, List.set_cons_zero, List.set_cons_succ]
      refine held_take 43 6 (.bool true) rfl rfl (by kernel_rfl) (by kernel_rfl) (by kernel_rfl) (fun _ _ _ h => h) (by kernel_rfl) (fun _ _ => rfl) hS ?_
      simp only [Act.put, List.setIfInBounds_toArray, List.set_cons_zero, List.set_cons_succ]
      refine wpAnyH_done (by kernel_rfl) ?_ _
      go_wp2_with fail
      go_ret
      exact ⟨rfl, hS.box.old⟩
    · rw [hp] at HB1 HE1 HE2 HO
      rw [hq] at HB2 HO
      clear hp hq
      refine wp_region_held_drew (S := fun w' => Lat w w' a b c gj gm (V.join a b) (V.meet a b)) (by kernel_rfl) HL3.out.drew (fun hS => ?_)
      refine held_take 0 77 (.agg a.arr) rfl rfl (by kernel_rfl) (by kernel_rfl) (by kernel_rfl) (fun _ _ _ h => h) (by kernel_rfl) (fun _ h => exec_load24 rfl rfl h.box.one) hS ?_
      simp only [Act.put, List.setIfInBounds_toArray, List.set_cons_zero, List.set_cons_succ]
      refine held_take 1 78 (.agg b.arr) rfl rfl (by kernel_rfl) (by kernel_rfl) (by kernel_rfl) (fun _ _ _ h => h) (by kernel_rfl) (fun _ h => exec_load24 rfl rfl h.box.two) hS ?_
      simp only [Act.put, List.setIfInBounds_toArray, List.set_cons_zero, List.set_cons_succ]
      refine held_take 3 80 (.agg (V.join a b).arr) rfl rfl (by kernel_rfl) (by kernel_rfl) (by kernel_rfl) (fun _ _ _ h => h) (by kernel_rfl) (fun _ h => exec_load24 rfl rfl h.jo) hS ?_
      simp only [Act.put, List.setIfInBounds_toArray, List.set_cons_zero, List.set_cons_succ]
      refine held_take 4 81 (.agg b.arr) rfl rfl (by kernel_rfl) (by kernel_rfl) (by kernel_rfl) (fun _ _ _ h => h) (by kernel_rfl) (fun _ h => exec_load24 rfl rfl h.box.two) hS ?_
      simp only [Act.put, List.setIfInBounds_toArray, List.set_cons_zero, List.set_cons_succ]
      refine held_take 5 82 (.bool true) rfl rfl (by kernel_rfl) (by kernel_rfl) (by kernel_rfl) (fun _ _ _ h => h) (by kernel_rfl) (fun _ _ => exec_eql24 rfl rfl rfl HE1.out) hS ?_
      simp only [Act.put, List.setIfInBounds_toArray, List.set_cons_zero, List.set_cons_succ]
      refine held_call 2 79 14 #[(.agg a.arr), (.agg b.arr)] (.bool true) rfl (by kernel_rfl) rfl (by kernel_rfl) (by kernel_rfl) (HB1.out _) (fun _ h hb => h.below hb) hS (fun w102 hS => ?_)
      simp only [Act.put, List.setIfInBounds_toArray, List.set_cons_zero, List.set_cons_succ]
      refine held_take 6 83 (.bool true) rfl rfl (by kernel_rfl) (by kernel_rfl) (by kernel_rfl) (fun _ _ _ h => h) (by kernel_rfl) (fun _ _ => exec_eqlB (by kernel_rfl) rfl rfl rfl rfl) hS ?_
      simp only [Act.put, List.setIfInBounds_toArray, List.set_cons_zero, List.set_cons_succ]
      refine held_take 7 84 (.bool true) rfl rfl (by kernel_rfl) (by kernel_rfl) (by kernel_rfl) (fun _ _ _ h => h) (by kernel_rfl) (fun _ _ => rfl) hS ?_
      simp only [Act.put, List.setIfInBounds_toArray, List.set_cons_zero, List.set_cons_succ]
      refine held_take 8 85 (.agg a.arr) rfl rfl (by kernel_rfl) (by kernel_rfl) (by kernel_rfl) (fun _ _ _ h => h) (by kernel_rfl) (fun _ h => exec_load24 rfl rfl h.box.one) hS ?_
      simp only [Act.put, List.setIfInBounds_toArray, List.set_cons_zero, List.set_cons_succ]
      refine held_take 9 86 (.agg b.arr) rfl rfl (by kernel_rfl) (by kernel_rfl) (by kernel_rfl) (fun _ _ _ h => h) (by kernel_rfl) (fun _ h => exec_load24 rfl rfl h.box.two) hS ?_
      simp only [Act.put, List.setIfInBounds_toArray, List.set_cons_zero, List.set_cons_succ]
      refine held_take 11 88 (.agg (V.meet a b).arr) rfl rfl (by kernel_rfl) (by kernel_rfl) (by kernel_rfl) (fun _ _ _ h => h) (by kernel_rfl) (fun _ h => exec_load24 rfl rfl h.me) hS ?_
      simp only [Act.put, List.setIfInBounds_toArray, List.set_cons_zero, List.set_cons_succ]
      refine held_take 12 89 (.agg a.arr) rfl rfl (by kernel_rfl) (by kernel_rfl) (by kernel_rfl) (fun _ _ _ h => h) (by kernel_rfl) (fun _ h => exec_load24 rfl rfl h.box.one) hS ?_
      simp only [Act.put, List.setIfInBounds_toArray, List.set_cons_zero, List.set_cons_succ]
      refine held_take 13 90 (.bool true) rfl rfl (by kernel_rfl) (by kernel_rfl) (by kernel_rfl) (fun _ _ _ h => h) (by kernel_rfl) (fun _ _ => exec_eql24 rfl rfl rfl HE2.out) hS ?_
      simp only [Act.put, List.setIfInBounds_toArray, List.set_cons_zero, List.set_cons_succ]
      refine held_call 10 87 14 #[(.agg a.arr), (.agg b.arr)] (.bool true) rfl (by kernel_rfl) rfl (by kernel_rfl) (by kernel_rfl) (HB1.out _) (fun _ h hb => h.below hb) hS (fun w110 hS => ?_)
      simp only [Act.put, List.setIfInBounds_toArray, List.set_cons_zero, List.set_cons_succ]
      refine held_take 14 91 (.bool true) rfl rfl (by kernel_rfl) (by kernel_rfl) (by kernel_rfl) (fun _ _ _ h => h) (by kernel_rfl) (fun _ _ => exec_eqlB (by kernel_rfl) rfl rfl rfl rfl) hS ?_
      simp only [Act.put, List.setIfInBounds_toArray, List.set_cons_zero, List.set_cons_succ]
      refine held_take 15 92 (.bool true) rfl rfl (by kernel_rfl) (by kernel_rfl) (by kernel_rfl) (fun _ _ _ h => h) (by kernel_rfl) (fun _ _ => rfl) hS ?_
      simp only [Act.put, List.setIfInBounds_toArray, List.set_cons_zero, List.set_cons_succ]
      refine held_take 16 93 (.bool true) rfl rfl (by kernel_rfl) (by kernel_rfl) (by kernel_rfl) (fun _ _ _ h => h) (by kernel_rfl) (fun _ _ => rfl) hS ?_
      simp only [Act.put, List.setIfInBounds_toArray, List.set_cons_zero, List.set_cons_succ]
      refine held_take 17 94 (.agg a.arr) rfl rfl (by kernel_rfl) (by kernel_rfl) (by kernel_rfl) (fun _ _ _ h => h) (by kernel_rfl) (fun _ h => exec_load24 rfl rfl h.box.one) hS ?_
      simp only [Act.put, List.setIfInBounds_toArray, List.set_cons_zero, List.set_cons_succ]
      refine held_take 18 95 (.agg (V.join a b).arr) rfl rfl (by kernel_rfl) (by kernel_rfl) (by kernel_rfl) (fun _ _ _ h => h) (by kernel_rfl) (fun _ h => exec_load24 rfl rfl h.jo) hS ?_
      simp only [Act.put, List.setIfInBounds_toArray, List.set_cons_zero, List.set_cons_succ]
      refine held_call 19 96 14 #[(.agg a.arr), (.agg (V.join a b).arr)] (.bool true) rfl (by kernel_rfl) rfl (by kernel_rfl) (by kernel_rfl) (HB3.out _) (fun _ h hb => h.below hb) hS (fun w119 hS => ?_)
      simp only [Act.put, List.setIfInBounds_toArray, List.set_cons_zero, List.set_cons_succ]
      refine held_take 20 97 (.bool true) rfl rfl (by kernel_rfl) (by kernel_rfl) (by kernel_rfl) (fun _ _ _ h => h) (by kernel_rfl) (fun _ _ => rfl) hS ?_
      simp only [Act.put, List.setIfInBounds_toArray, List.set_cons_zero, List.set_cons_succ]
      refine held_take 21 98 (.bool true) rfl rfl (by kernel_rfl) (by kernel_rfl) (by kernel_rfl) (fun _ _ _ h => h) (by kernel_rfl) (fun _ _ => rfl) hS ?_
      simp only [Act.put, List.setIfInBounds_toArray, List.set_cons_zero, List.set_cons_succ]
      refine held_take 22 99 (.agg (V.meet a b).arr) rfl rfl (by kernel_rfl) (by kernel_rfl) (by kernel_rfl) (fun _ _ _ h => h) (by kernel_rfl) (fun _ h => exec_load24 rfl rfl h.me) hS ?_
      simp only [Act.put, List.setIfInBounds_toArray, List.set_cons_zero, List.set_cons_succ]
      refine held_take 23 100 (.agg a.arr) rfl rfl (by kernel_rfl) (by kernel_rfl) (by kernel_rfl) (fun _ _ _ h => h) (by kernel_rfl) (fun _ h => exec_load24 rfl rfl h.box.one) hS ?_
      simp only [Act.put, List.setIfInBounds_toArray, List.set_cons_zero, List.set_cons_succ]
      refine held_call 24 101 14 #[(.agg (V.meet a b).arr), (.agg a.arr)] (.bool true) rfl (by kernel_rfl) rfl (by kernel_rfl) (by kernel_rfl) (HB4.out _) (fun _ h hb => h.below hb) hS (fun w124 hS => ?_)
      simp only [Act.put, List.setIfInBounds_toArray, List.set_cons_zero, List.set_cons_succ]
      refine held_take 25 102 (.bool true) rfl rfl (by kernel_rfl) (by kernel_rfl) (by kernel_rfl) (fun _ _ _ h => h) (by kernel_rfl) (fun _ _ => rfl) hS ?_
      simp only [Act.put, List.setIfInBounds_toArray, List.set_cons_zero, List.set_cons_succ]
      refine held_take 26 103 (.bool true) rfl rfl (by kernel_rfl) (by kernel_rfl) (by kernel_rfl) (fun _ _ _ h => h) (by kernel_rfl) (fun _ _ => rfl) hS ?_
      simp only [Act.put, List.setIfInBounds_toArray, List.set_cons_zero, List.set_cons_succ]
      refine held_take 27 104 (.agg a.arr) rfl rfl (by kernel_rfl) (by kernel_rfl) (by kernel_rfl) (fun _ _ _ h => h) (by kernel_rfl) (fun _ h => exec_load24 rfl rfl h.box.one) hS ?_
      simp only [Act.put, List.setIfInBounds_toArray, List.set_cons_zero, List.set_cons_succ]
      refine held_take 28 105 (.agg b.arr) rfl rfl (by kernel_rfl) (by kernel_rfl) (by kernel_rfl) (fun _ _ _ h => h) (by kernel_rfl) (fun _ h => exec_load24 rfl rfl h.box.two) hS ?_
      simp only [Act.put, List.setIfInBounds_toArray, List.set_cons_zero, List.set_cons_succ]
      refine held_take 31 108 (.agg a.arr) rfl rfl (by kernel_rfl) (by kernel_rfl) (by kernel_rfl) (fun _ _ _ h => h) (by kernel_rfl) (fun _ h => exec_load24 rfl rfl h.box.one) hS ?_
      simp only [Act.put, List.setIfInBounds_toArray, List.set_cons_zero, List.set_cons_succ]
      refine held_take 32 109 (.agg b.arr) rfl rfl (by kernel_rfl) (by kernel_rfl) (by kernel_rfl) (fun _ _ _ h => h) (by kernel_rfl) (fun _ h => exec_load24 rfl rfl h.box.two) hS ?_
      simp only [Act.put, List.setIfInBounds_toArray, List.set_cons_zero, List.set_cons_succ]
      refine held_call 29 106 16 #[(.agg a.arr), (.agg b.arr)] (.int .i64 (V.order a b)) rfl (by kernel_rfl) rfl (by kernel_rfl) (by kernel_rfl) (order_any a b _) (fun _ h hb => h.below hb) hS (fun w129 hS => ?_)
      simp only [Act.put, List.setIfInBounds_toArray, List.set_cons_zero, List.set_cons_succ]
      refine held_take 30 107 (.bool false) rfl rfl (by kernel_rfl) (by kernel_rfl) (by kernel_rfl) (fun _ _ _ h => h) (by kernel_rfl) (fun _ _ => exec_eqlI trivial rfl rfl rfl HO.out) hS ?_
      simp only [Act.put, List.setIfInBounds_toArray, List.set_cons_zero, List.set_cons_succ]
      refine held_call 33 110 14 #[(.agg a.arr), (.agg b.arr)] (.bool true) rfl (by kernel_rfl) rfl (by kernel_rfl) (by kernel_rfl) (HB1.out _) (fun _ h hb => h.below hb) hS (fun w133 hS => ?_)
      simp only [Act.put, List.setIfInBounds_toArray, List.set_cons_zero, List.set_cons_succ]
      refine held_take 34 111 (.bool false) rfl rfl (by kernel_rfl) (by kernel_rfl) (by kernel_rfl) (fun _ _ _ h => h) (by kernel_rfl) (fun _ _ => rfl) hS ?_
      simp only [Act.put, List.setIfInBounds_toArray, List.set_cons_zero, List.set_cons_succ]
      refine held_take 35 112 (.bool false) rfl rfl (by kernel_rfl) (by kernel_rfl) (by kernel_rfl) (fun _ _ _ h => h) (by kernel_rfl) (fun _ _ => rfl) hS ?_
      simp only [Act.put, List.setIfInBounds_toArray, List.set_cons_zero, List.set_cons_succ]
      refine held_skip 36 113 rfl rfl (by kernel_rfl) (by kernel_rfl) (by kernel_rfl) (fun _ _ _ h => h) (by kernel_rfl) hS ?_
      simp only [Act.put, List.setIfInBounds_toArray, List.set_cons_zero, List.set_cons_succ]
      refine held_skip 37 114 rfl rfl (by kernel_rfl) (by kernel_rfl) (by kernel_rfl) (fun _ _ _ h => h) (by kernel_rfl) hS ?_
      simp only [Act.put, List.setIfInBounds_toArray, List.set_cons_zero, List.set_cons_succ]
      refine held_skip 38 115 rfl rfl (by kernel_rfl) (by kernel_rfl) (by kernel_rfl) (fun _ _ _ h => h) (by kernel_rfl) hS ?_
      simp only [Act.put, List.setIfInBounds_toArray, List.set_cons_zero, List.set_cons_succ]
      refine held_skip 39 116 rfl rfl (by kernel_rfl) (by kernel_rfl) (by kernel_rfl) (fun _ _ _ h => h) (by kernel_rfl) hS ?_
      simp only [Act.put, List.setIfInBounds_toArray, List.set_cons_zero, List.set_cons_succ]
      refine held_take 40 117 (.bool false) rfl rfl (by kernel_rfl) (by kernel_rfl) (by kernel_rfl) (fun _ _ _ h => h) (by kernel_rfl) (fun _ _ => rfl) hS ?_
      simp only [Act.put, List.setIfInBounds_toArray, List.set_cons_zero, List.set_cons_succ]
      refine held_take 41 118 (.bool true) rfl rfl (by kernel_rfl) (by kernel_rfl) (by kernel_rfl) (fun _ _ _ h => h) (by kernel_rfl) (fun _ _ => exec_eqlB (by kernel_rfl) rfl rfl rfl rfl) hS ?_
      simp only [Act.put, List.setIfInBounds_toArray, List.set_cons_zero, List.set_cons_succ]
      refine held_take 42 119 (.bool true) rfl rfl (by kernel_rfl) (by kernel_rfl) (by kernel_rfl) (fun _ _ _ h => h) (by kernel_rfl) (fun _ _ => rfl) hS ?_
      simp only [Act.put, List.setIfInBounds_toArray, List.set_cons_zero, List.set_cons_succ]
      refine held_take 43 6 (.bool true) rfl rfl (by kernel_rfl) (by kernel_rfl) (by kernel_rfl) (fun _ _ _ h => h) (by kernel_rfl) (fun _ _ => rfl) hS ?_
      simp only [Act.put, List.setIfInBounds_toArray, List.set_cons_zero, List.set_cons_succ]
      refine wpAnyH_done (by kernel_rfl) ?_ _
      go_wp2_with fail
      go_ret
      exact ⟨rfl, hS.box.old⟩

set_option maxRecDepth 100000 in
theorem lifted (os : Os) (started : os.Started) (H : Type) (enc : TypeId × Value → H) :
    ReturnsInHanded {} Try.checked os 7 .any (Rows.vecLatticeSpec.pre6 enc Try.prog Try.f7 Rows.vecLatticeRow.domain false) (Rows.vecLatticeSpec.post enc Try.prog Try.f7 false true false false) := by
  refine returnsInHanded_of_change (C := Try.checked) own started (by kernel_rfl) Try.func7
    (ChangeSpec.witness6 (enc := enc) (C := Try.checked) false ⟨#[], #[.agg #[.int .u32 0, .int .u32 0, .int .u32 0, .int .u32 0, .int .u32 0, .int .u32 0, .int .u32 0, .int .u32 0, .int .u32 0, .int .u32 0, .int .u32 0, .int .u32 0, .int .u32 0, .int .u32 0, .int .u32 0, .int .u32 0], .agg #[.int .u32 0, .int .u32 0, .int .u32 0, .int .u32 0, .int .u32 0, .int .u32 0, .int .u32 0, .int .u32 0, .int .u32 0, .int .u32 0, .int .u32 0, .int .u32 0, .int .u32 0, .int .u32 0, .int .u32 0, .int .u32 0], .agg #[.int .u32 0, .int .u32 0, .int .u32 0, .int .u32 0, .int .u32 0, .int .u32 0, .int .u32 0, .int .u32 0, .int .u32 0, .int .u32 0, .int .u32 0, .int .u32 0, .int .u32 0, .int .u32 0, .int .u32 0, .int .u32 0]], []⟩ 8 (by kernel_rfl) (by kernel_rfl) (by kernel_rfl) (by kernel_rfl)) ?_
  intro W base args ds gs before hval0 hW hcnd _
  have hval : ∀ (j : Nat) t v, Try.f7.params[j]? = some t → args[j]? = some v → Value.okWide Try.prog W .any base t v := hval0
  have hW' := hW
  obtain ⟨p, q, hA0, hV, rfl, hfz, hnd⟩ := hW
  have hA : DataW.TrodAll enc Try.prog W 0 (fun _ => true) true Try.f7.params.toList args.toList ds p := hA0
  rw [Try.params7] at hA hval
  obtain ⟨v0, v1, v2, d0, d1, d2, p0, p1, p2, rfl, rfl, rfl, h0, h1, h2⟩ := trodAll_three hA
  obtain ⟨rfl, rfl⟩ := trodVars_none hV
  have lt0 : ∀ x ∈ p0, x.block < W.heap.size := by obtain ⟨m, hm⟩ := h0; exact DataW.trod_lt m _ _ _ hm
  obtain ⟨a0, rfl⟩ := vec_of (hval 0 24 v0 rfl rfl) h0
  have lt1 : ∀ x ∈ p1, x.block < W.heap.size := by obtain ⟨m, hm⟩ := h1; exact DataW.trod_lt m _ _ _ hm
  obtain ⟨a1, rfl⟩ := vec_of (hval 1 24 v1 rfl rfl) h1
  have lt2 : ∀ x ∈ p2, x.block < W.heap.size := by obtain ⟨m, hm⟩ := h2; exact DataW.trod_lt m _ _ _ hm
  obtain ⟨a2, rfl⟩ := vec_of (hval 2 24 v2 rfl rfl) h2
  clear hA0 hval0
  refine (walk a0 a1 a2 W).mono fun e W' ⟨he, bel⟩ => ?_
  subst he
  exact ⟨_, rfl, _, _, _, [], _, [], hW', trodAll_mk1 (shut_bool Try.underlying4 _), trodAll_mk3 (Below.trod laidOut (by kernel_rfl) (of_decide_eq_true (by kernel_rfl)) h0 bel lt0) (Below.trod laidOut (by kernel_rfl) (of_decide_eq_true (by kernel_rfl)) h1 bel lt1) (Below.trod laidOut (by kernel_rfl) (of_decide_eq_true (by kernel_rfl)) h2 bel lt2), rfl, bel.frame _, fun h => by cases h⟩
end VecLattice

theorem vecLattice_proved : Rows.VecLatticeSaid :=
  OpenClaim.holds_of_wide 7 Try.f7 rfl rfl rfl rfl rfl rfl rfl ⟨rfl, rfl, rfl, rfl, rfl⟩ rfl rfl rfl rfl rfl (by kernel_rfl) Try.func7 (by kernel_rfl)
    (of_decide_eq_true (by kernel_rfl)) (by unfold Func.isWrapper; first | (rw [if_pos (by decide +kernel)]; kernel_rfl) | (rw [if_neg (by decide +kernel)]; exact ⟨rfl, rfl⟩))
    (fun os started H enc _ => VecLattice.lifted os started H enc)
#print axioms vecLattice_proved
end Go.Proofs.Ytdkdcjmkhldmlaa
