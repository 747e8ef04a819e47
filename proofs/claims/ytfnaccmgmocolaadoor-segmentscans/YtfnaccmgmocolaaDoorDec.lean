/- Walks of numbers and Decode, the program's: what the fields of any bytes come to. Walk of Decode, the document's: the vector whose bytes they are. -/
import Derived.Test.YtfnaccmgmocolaaDoorDm
import Derived.Test.YtfnaccmgmocolaaDoorRref
import Derived.Test.YtfnaccmgmocolaaDoorAr
namespace Go.Proofs.YtfnaccmgmocolaaDoor
open Go.RowKit

theorem br_store {ops : Array Oper} {Q : Exit → Act → World → Prop} {S : World → Prop} {fuel : Nat} {listed : Array Bool} {a : Act} {w : World} (i : Nat) {oi : Oper} {x y : Operand} {g : Nat} {v u : V} (hd : oi.dst = none) (hi : ops[i]? = some oi) (hw : Region.wanted oi (yielded ops a.tmps) = true) (ho : oi.op = .store 27 x y) (hx : a.eval x = .pointer (some ⟨g, 0, none⟩)) (hy : a.eval y = .agg u.arr) (hb : Blk w g 27 v.arr)
    (hm : S (w.setRow g u.arr)) (h : S (w.setRow g u.arr) → wpAnyH Tryd.prog .any ops Q S fuel (listed.setIfInBounds i true) a (w.setRow g u.arr)) : AllReadyH Tryd.prog .any ops Q S fuel listed a w [i] := by
  refine AllReadyH.cons hi (fun K hK => ?_) AllReadyH.nil
  rw [if_pos hw]
  unfold Oper.wp execOp
  simp only [ho, hx, hy, Sem.run_bind, store27 (u := u) hb, Result.andThen_ok]
  exact hK.out _ _ hm (fun hS' => by rw [hd]; exact h hS')

theorem exec_conv {ev : Operand → Value} {o : Oper} {x : Operand} {n : Nat} {w : World} (ho : o.op = .convert 63 3 x) (hx : ev x = .int .u64 (n : Int)) (hn : n < 9223372036854775808) : (execOp ev o).run Tryd.prog w = .ok (.value (.int .i64 (n : Int))) w := by
  have e : IntKind.i64.wrap (n : Int) = (n : Int) := IntWalk.i64_in _ (by omega)
  have h : (convert 63 3 (.int .u64 (n : Int))).run Tryd.prog w = .ok (.int .i64 (IntKind.i64.wrap (n : Int))) w := by kernel_rfl
  rw [e] at h
  unfold execOp
  simp only [ho, hx, Sem.run_bind, h, Result.andThen_ok]
  rfl

theorem dec_eq (x y : Nat) : ((x : Int) == (y : Int)) = decide (x = y) := by
  rw [Bool.eq_iff_iff]; simp; omega

/-- A reader and a vector that a call made: of what was there only the reader has turned. -/
structure Nst (w W : World) (p : Nat) (v : V) (er : Nat) (bs : List Nat) : Prop where
  rd : ∃ a len cap, Rd W p er a len cap bs
  vec : Blk W w.heap.size 27 v.arr
  kept : Kept (fun k => k = p) w W
  lt : p < w.heap.size

theorem Nst.num {w W : World} {p : Nat} {v : V} {er : Nat} {bs : List Nat} (h : Nst w W p v er bs) :
    Calls Tryd.prog 57 #[.pointer (some ⟨p, 0, none⟩)] W fun e w' => e = .returned (.tuple #[.int .u64 (numX er bs : Int), .int .i64 (numE er bs : Int)]) ∧ Nst w w' p v (numE er bs) (numB er bs) := by
  obtain ⟨a, len, cap, hr⟩ := h.rd
  refine (rnum_any p er a len cap bs W hr).mono fun e w' => ?_
  rintro ⟨a', len', cap', rfl, hr', hk⟩
  exact ⟨rfl, ⟨a', len', cap', hr'⟩, h.vec.kept hk (by have := h.lt; omega), h.kept.trans hk (fun _ h => .inl h), h.lt⟩

theorem Nst.keep {w W W' : World} {p : Nat} {v u : V} {er : Nat} {bs : List Nat} (h : Nst w W p v er bs) (k : Kept (fun k => k = w.heap.size) W W') (hv : Blk W' w.heap.size 27 u.arr) : Nst w W' p u er bs := by
  obtain ⟨a, len, cap, hr⟩ := h.rd
  have hp := h.lt
  exact ⟨⟨a, len, cap, hr.keep k (by omega) (fun ad ha h0 => by have := hr.apart ad ha h0; omega)⟩, hv, h.kept.trans k (fun i hi => .inr (by omega)), hp⟩

theorem Nst.put {w W : World} {p : Nat} {v : V} {er : Nat} {bs : List Nat} (h : Nst w W p v er bs) {k s : Nat} (hk : k < 16) (hs : s < 4294967296) : Nst w (W.setCell ⟨w.heap.size, k, none⟩ (.int .u32 (s : Int))) p (v.put k s) er bs := by
  refine h.keep (kept_cell W w.heap.size k (.int .u32 (s : Int))) ?_
  have := h.vec.set k (.int .u32 (s : Int))
  rwa [V.arr_put v hk hs] at this

theorem Nst.row {w W : World} {p : Nat} {v : V} {er : Nat} {bs : List Nat} (h : Nst w W p v er bs) (u : V) : Nst w (W.setRow w.heap.size u.arr) p u er bs := h.keep (Kept.setRow _ _ _) h.vec.row

theorem Nst.below {w W W' : World} {p : Nat} {v : V} {er : Nat} {bs : List Nat} (h : Nst w W p v er bs) (hb : Below W.heap.size W W') : Nst w W' p v er bs := by
  obtain ⟨a, len, cap, hr⟩ := h.rd
  exact ⟨⟨a, len, cap, hr.below hb⟩, h.vec.below hb, h.kept.trans (Kept.of_below (S := fun k => k = p) hb) (fun _ h => .inl h), h.lt⟩
theorem Nst.drew {w W : World} {p : Nat} {v : V} {er : Nat} {bs : List Nat} (h : Nst w W p v er bs) : Nst w W.drew p v er bs := h.below (Below.refl _ _).drew

/-- What numbers leaves: where it says yes and nothing is left, the bytes are the vector's; and a vector's bytes come to the vector. -/
def Nums (p : Nat) (bs : List Nat) (w : World) (e : Ending) (w' : World) : Prop :=
  ∃ (v : V) (ok : Bool) (er : Nat) (r : List Nat) (a : Option Addr) (len cap : Nat), e = .returned (.tuple #[.agg v.arr, .bool ok]) ∧ Rd w' p er a len cap r ∧ Kept (fun k => k = p) w w' ∧
    (ok = true → er = 0 → r = [] → V.bytes v = bs) ∧ (∀ u, V.bytes u = bs → v = u ∧ ok = true ∧ er = 0 ∧ r = [])

theorem nums_no {p : Nat} {bs : List Nat} {w w' : World} {v : V} {er : Nat} {r : List Nat} (h : Nst w w' p v er r) (hno : ∀ u, V.bytes u ≠ bs) : Nums p bs w (.returned (.tuple #[.agg v.arr, .bool false])) w' := by
  obtain ⟨a, len, cap, hr⟩ := h.rd
  exact ⟨v, false, er, r, a, len, cap, rfl, hr, h.kept, (fun h => by cases h), fun u hu => absurd hu (hno u)⟩

theorem nums_end {p n : Nat} {bs : List Nat} {w w' : World} (hs : ∀ c ∈ bs, c < 256) (hn : numX 0 bs = n) (h16 : n ≤ 16) (hx : ∀ i, i < n → xAt bs i < 4294967296) (h : Nst w w' p (vecTo bs n) (st bs n).1 (st bs n).2) : Nums p bs w (.returned (.tuple #[.agg (vecTo bs n).arr, .bool (decide (V.len (vecTo bs n) = n))])) w' := by
  obtain ⟨a, len, cap, hr⟩ := h.rd
  refine ⟨vecTo bs n, _, _, _, a, len, cap, rfl, hr, h.kept, fun h1 h2 h3 => dec_ok hs hn h16 hx h2 h3 (of_decide_eq_true h1), fun u hu => ?_⟩
  obtain ⟨e1, _, _, e2, e3⟩ := dec_bytes hu
  obtain rfl : V.len u = n := e1.symm.trans hn
  rw [e3, e2]
  exact ⟨rfl, by simp, rfl, rfl⟩

set_option maxHeartbeats 2000000 in
set_option maxRecDepth 100000 in
theorem numbers_any (p : Nat) (a : Option Addr) (len cap : Nat) (bs : List Nat) (w : World) (h : Rd w p 0 a len cap bs) : Calls Tryd.prog 94 #[.pointer (some ⟨p, 0, none⟩)] w (Nums p bs w) := by
  have HSM := Lib.hid h.row.small
  obtain ⟨z, hz⟩ : ∃ z, V.zero = z := ⟨_, rfl⟩
  have HZ := Lib.hid hz
  have HS0 : Hid (Nst w (w.alloc (.cells z.arr 27)) p z 0 bs) := Lib.hid ⟨⟨a, len, cap, h.below (below_one _ _)⟩, Blk.new _ _ _, .of_below (below_one _ _), h.block.lt⟩
  have HN := Lib.hid (num_lt (er := 0) h.row.small)
  clear hz h
  go_enter Tryd.func94, Tryd.ntmps94
  go_wp2_with (refine wpList_alloc27 HZ.out rfl rfl ?_)
  generalize w.alloc (.cells z.arr 27) = W at HS0
  refine HS0.out.num.mono ?_
  rintro e w1 ⟨rfl, h1⟩
  have HS1 : Hid (Nst w w1 p z (st bs 0).1 (st bs 0).2) := Lib.hid h1
  clear h1 HS0
  generalize hn : numX 0 bs = n at HN
  have HX := Lib.hid hn
  clear hn
  by_cases h16 : n ≤ 16
  · have h16' : (n : Int) ≤ 16 := by omega
    go_wp2_with fail
    go_loopw [19] (fun i wr => ∃ k : Nat, k ≤ n ∧ i = .int .i64 (k : Int) ∧ Hid (Nst w wr p (vecTo bs k) (st bs k).1 (st bs k).2) ∧ Hid (∀ i, i < k → xAt bs i < 4294967296)) (fun i _ => n - (intOf i).toNat)
    case atStart => exact ⟨0, by omega, rfl, Lib.hid (by rw [vecTo_zero, HZ.out]; exact HS1.out), Lib.hid (fun i h => by omega)⟩
    case round =>
      obtain ⟨k, hk, rfl, HR, HB⟩ := hrel
      by_cases hlt : k < n
      · have hlt' : (k : Int) < (n : Int) := by omega
        go_wp2_with fail
        refine HR.out.num.mono ?_
        rintro e w2 ⟨rfl, h2⟩
        have HR2 : Hid (Nst w w2 p (vecTo bs k) (st bs (k + 1)).1 (st bs (k + 1)).2) := Lib.hid h2
        have HXL := Lib.hid (num_lt (er := (st bs k).1) (st_lt HSM.out k))
        clear h2
        generalize hx : numX (st bs k).1 (st bs k).2 = x at HXL
        have HXA : Hid (xAt bs k = x) := Lib.hid hx
        clear hx
        by_cases hbig : x ≤ 4294967295
        · have hbig' : (x : Int) ≤ 4294967295 := by omega
          have f1 := HR2.out.vec.frozen k
          have c1 : w2.cell? ⟨w.heap.size, k, none⟩ = some (.int .u32 ((vecTo bs k).at_ k : Int)) := by rw [HR2.out.vec.cell, V.arr_at _ (by omega)]
          go_wp2_with fail
          go_roundw
          case rel =>
            refine ⟨k + 1, by omega, by go_num, Lib.hid ?_, Lib.hid (fun i hi => ?_)⟩
            · have := HR2.out.put (k := k) (s := x) (by omega) (by omega)
              rw [vecTo_succ bs (by omega), HXA.out, Nat.mod_eq_of_lt (by omega)]
              exact this
            · by_cases e : i = k
              · subst e; rw [HXA.out]; omega
              · exact HB.out i (by omega)
          case measure => simp [intOf]; omega
        · have hbig' : 4294967295 < (x : Int) := by omega
          go_wp2_with (first | (refine wpList_load27w (by kernel_rfl) rfl rfl HR2.out.vec ?_) | (refine wpList_stop rfl ?_))
          refine ⟨?_⟩
          refine wpList_store27 rfl rfl rfl rfl HR2.out.vec ?_
          have HR3 := Lib.hid (HR2.out.row (vecTo bs k))
          generalize w2.setRow w.heap.size (vecTo bs k).arr = w3 at HR3
          go_wp2_with fail
          refine bodyPost_ret (ret27_two (t := 2) (s := 3) (y := .bool false) rfl rfl rfl HR3.out.vec) rfl (nums_no HR3.out (fun u hu => ?_))
          obtain ⟨e1, _, e3, _, _⟩ := dec_bytes hu
          have := (e3 k (by rw [← e1, HX.out]; exact hlt)).1
          rw [HXA.out] at this
          have := u.lt k
          omega
      · obtain rfl : k = n := by omega
        have hlt' : ¬ (k : Int) < (k : Int) := by omega
        go_wp2_with fail
        refine wp_region_held_drew (S := fun w' => Nst w w' p (vecTo bs k) (st bs k).1 (st bs k).2) (by kernel_rfl) HR.out.drew (fun hS => ?_)
        refine held_take 0 35 (.agg (vecTo bs k).arr) rfl rfl (by kernel_rfl) (by kernel_rfl) (by kernel_rfl) (fun _ _ _ h => h) (by kernel_rfl) (fun _ h => exec_load27 rfl rfl h.vec) hS ?_
        simp only [Act.put, List.setIfInBounds_toArray, List.set_cons_zero, List.set_cons_succ]
        refine held_take 1 36 (.agg (vecTo bs k).arr) rfl rfl (by kernel_rfl) (by kernel_rfl) (by kernel_rfl) (fun _ _ _ h => h) (by kernel_rfl) (fun _ h => exec_load27 rfl rfl h.vec) hS ?_
        simp only [Act.put, List.setIfInBounds_toArray, List.set_cons_zero, List.set_cons_succ]
        refine held_take 3 38 (.int .u64 (k : Int)) rfl rfl (by kernel_rfl) (by kernel_rfl) (by kernel_rfl) (fun _ _ _ h => h) (by kernel_rfl) (fun _ _ => rfl) hS ?_
        simp only [Act.put, List.setIfInBounds_toArray, List.set_cons_zero, List.set_cons_succ]
        refine held_take 4 39 (.int .i64 (k : Int)) rfl rfl (by kernel_rfl) (by kernel_rfl) (by kernel_rfl) (fun _ _ _ h => h) (by kernel_rfl) (fun _ _ => exec_conv rfl rfl (by omega)) hS ?_
        simp only [Act.put, List.setIfInBounds_toArray, List.set_cons_zero, List.set_cons_succ]
        refine held_call 2 37 70 #[(.agg (vecTo bs k).arr)] (.int .i64 (V.len (vecTo bs k) : Int)) rfl (by kernel_rfl) rfl (by kernel_rfl) (by kernel_rfl) (length_any (vecTo bs k) _) (fun _ h hb => h.below hb) hS (fun w102 hS => ?_)
        simp only [Act.put, List.setIfInBounds_toArray, List.set_cons_zero, List.set_cons_succ]
        refine held_take 5 40 (.bool (decide (V.len (vecTo bs k) = k))) rfl rfl (by kernel_rfl) (by kernel_rfl) (by kernel_rfl) (fun _ _ _ h => h) (by kernel_rfl) (fun _ _ => exec_eqlI trivial rfl rfl rfl (dec_eq _ _)) hS ?_
        simp only [Act.put, List.setIfInBounds_toArray, List.set_cons_zero, List.set_cons_succ]
        refine wpAnyH_ready (rs := [6]) (by kernel_rfl) (by simp) ?_
        refine br_store 6 rfl rfl (by kernel_rfl) rfl rfl rfl hS.vec (hS.row _) (fun hS => ?_)
        refine held_take 7 3 (.bool (decide (V.len (vecTo bs k) = k))) rfl rfl (by kernel_rfl) (by kernel_rfl) (by kernel_rfl) (fun _ _ _ h => h) (by kernel_rfl) (fun _ _ => rfl) hS ?_
        simp only [Act.put, List.setIfInBounds_toArray, List.set_cons_zero, List.set_cons_succ]
        refine wpAnyH_done (by kernel_rfl) ?_ _
        have HS9 := Lib.hid hS
        clear hS
        go_wp2_with fail
        exact bodyPost_ret (ret27_two (t := 2) (s := 3) (y := .bool (decide (V.len (vecTo bs k) = k))) rfl rfl rfl HS9.out.vec) rfl (nums_end HSM.out HX.out h16 HB.out HS9.out)
  · have h16' : 16 < (n : Int) := by omega
    go_wp2_with (first | (refine wpList_load27w (by kernel_rfl) rfl rfl HS1.out.vec ?_) | (refine wpList_stop rfl ?_))
    refine ⟨?_⟩
    refine wpList_store27 rfl rfl rfl rfl HS1.out.vec ?_
    have HS2 := Lib.hid (HS1.out.row z)
    generalize w1.setRow w.heap.size z.arr = w2 at HS2
    go_wp2_with fail
    refine bodyPost_ret (ret27_two (t := 2) (s := 3) (y := .bool false) rfl rfl rfl HS2.out.vec) rfl (nums_no HS2.out (fun u hu => ?_))
    have e1 := (dec_bytes hu).1
    have := V.len_le u
    rw [HX.out] at e1
    omega

section
open Classical
/-- The vector whose bytes they are, and whether there is one. -/
noncomputable def decV (bs : List Nat) : V := if h : ∃ u, V.bytes u = bs then h.choose else V.zero
noncomputable def decE (bs : List Nat) : Nat := if ∃ u, V.bytes u = bs then 0 else 5
theorem dec_yes {u : V} {bs : List Nat} (h : V.bytes u = bs) : decE bs = 0 ∧ decV bs = u := by
  have hex : ∃ u, V.bytes u = bs := ⟨u, h⟩
  unfold decE decV
  rw [if_pos hex, dif_pos hex]
  exact ⟨rfl, bytes_inj (hex.choose_spec.trans h.symm)⟩
theorem dec_no {bs : List Nat} (h : ∀ u, V.bytes u ≠ bs) : decE bs = 5 ∧ decV bs = V.zero := by
  have hex : ¬ ∃ u, V.bytes u = bs := fun ⟨u, hu⟩ => h u hu
  unfold decE decV
  rw [if_neg hex, dif_neg hex]
  exact ⟨rfl, rfl⟩
end
theorem dec_of {bs : List Nat} {e : Nat} {u : V} {w w' : World} (h : decE bs = e ∧ decV bs = u) (hb : Below w.heap.size w w') : Both (decV bs) (decE bs) w (.returned (.tuple #[.agg u.arr, .int .i64 (e : Int)])) w' := ⟨by rw [h.1, h.2], hb⟩

/-- What Decode has made: the answer's block, a reader, a vector. -/
structure Dst (w W : World) (p : Nat) (er : Nat) (r : List Nat) (q : Nat) (z v : V) : Prop where
  ans : Blk W w.heap.size 27 z.arr
  rd : ∃ a len cap, Rd W p er a len cap r
  vec : Blk W q 27 v.arr
  old : Below w.heap.size w W

theorem Dst.ret {w W : World} {p er q : Nat} {r : List Nat} {z v : V} (h : Dst w W p er r q z v) {ds : Array Value} : Below w.heap.size w (W.setRow w.heap.size ds) :=
  h.old.trans ((Kept.setRow W w.heap.size ds).below h.old.size (fun k hk => by omega))

set_option maxHeartbeats 2000000 in
theorem decode_any (a : Option Addr) (len cap : Nat) (bs : List Nat) (w : World) (hl : len ≤ 1000000) (hR : Row w a len bs) (hz : a = none → len = 0 ∧ cap = 0) : Calls Tryd.prog 92 #[.slice a len cap] w (Both (decV bs) (decE bs) w) := by
  obtain ⟨z, hz0⟩ : ∃ z, V.zero = z := ⟨_, rfl⟩
  have HZ := Lib.hid hz0
  have hb0 := below_one w (.cells z.arr 27)
  have HRD := Lib.hid (read_any a len cap bs (w.alloc (.cells z.arr 27)) hl (hR.below hb0) hz)
  have HB0 := Lib.hid hb0
  have HA0 := Lib.hid (Blk.new w 27 z.arr)
  clear hR hz hz0 hb0
  go_enter Tryd.func92, Tryd.ntmps92
  go_wp2_with (refine wpList_alloc27 HZ.out rfl rfl ?_)
  generalize w.alloc (.cells z.arr 27) = W at HRD HB0 HA0
  refine HRD.out.mono ?_
  rintro e w1 ⟨p, ar, cr, rfl, hp, hrd, hb, _⟩
  have HR1 := Lib.hid hrd
  have HA1 := Lib.hid (HA0.out.below hb)
  have HB1 := Lib.hid (HB0.out.trans (hb.mono HB0.out.size))
  have HP : Hid (w.heap.size < p) := Lib.hid (Nat.lt_of_lt_of_le HA0.out.lt hp)
  clear hrd hb hp
  go_wp2_with fail
  refine (numbers_any p ar bs.length cr bs w1 HR1.out).mono ?_
  rintro e w2 ⟨v, ok, er, r, a2, len2, cap2, rfl, hr2, hk2, hy, hn⟩
  have HR2 := Lib.hid hr2
  have HA2 := Lib.hid (HA1.out.kept hk2 (by have := HP.out; omega))
  have HB2 := Lib.hid (HB1.out.trans (hk2.below HB1.out.size (fun k hk => by have := HP.out; omega)))
  have HY := Lib.hid hy
  have HN := Lib.hid hn
  clear hr2 hk2 hy hn
  go_wp2_with (first | (refine wpList_alloc27 HZ.out rfl rfl ?_) | (refine wpList_stop rfl ?_))
  refine ⟨?_⟩
  refine wpList_store27 rfl rfl rfl rfl (Blk.new w2 27 z.arr) ?_
  have hlo := laid_old w2 z v
  have HD : Hid (Dst w ((w2.alloc (.cells z.arr 27)).setRow w2.heap.size v.arr) p er r w2.heap.size z v) := Lib.hid ⟨HA2.out.below hlo, ⟨_, _, _, HR2.out.below hlo⟩, laid_blk w2 z v, HB2.out.trans (hlo.mono HB2.out.size)⟩
  clear hlo HA2 HB2 HR2
  generalize (w2.alloc (.cells z.arr 27)).setRow w2.heap.size v.arr = w3 at HD
  generalize w2.heap.size = q at HD
  cases ok
  · have HE := Lib.hid (dec_no (fun u hu => by have := (HN.out u hu).2.1; cases this))
    go_wp2_with (first | (refine wpList_zero27 HZ.out (by kernel_rfl) rfl ?_) | (refine wpList_stop rfl ?_))
    refine ⟨?_⟩
    refine wpList_store27 rfl rfl rfl rfl HD.out.ans ?_
    go_wp2_with fail
    rw [HZ.out] at HE
    exact bodyPost_ret (ret27_two (t := 2) (s := 3) (y := .int .i64 5) rfl rfl rfl HD.out.ans.row) rfl (dec_of HE.out HD.out.ret)
  · obtain ⟨a3, len3, cap3, hr3⟩ := HD.out.rd
    have HDN := Lib.hid (done_any p er a3 len3 cap3 r w3 hr3)
    clear hr3
    cases hd : doneB er r
    · rw [hd] at HDN
      have HE := Lib.hid (dec_no (fun u hu => by
        obtain ⟨_, _, h1, h2⟩ := HN.out u hu
        rw [h1, h2] at hd
        simp [doneB] at hd))
      clear hd
      go_wp2_with fail
      refine HDN.out.mono ?_
      rintro e w4 ⟨rfl, rfl⟩
      go_wp2_with (first | (refine wpList_zero27 HZ.out (by kernel_rfl) rfl ?_) | (refine wpList_stop rfl ?_))
      refine ⟨?_⟩
      refine wpList_store27 rfl rfl rfl rfl HD.out.ans ?_
      go_wp2_with fail
      rw [HZ.out] at HE
      exact bodyPost_ret (ret27_two (t := 2) (s := 3) (y := .int .i64 5) rfl rfl rfl HD.out.ans.row) rfl (dec_of HE.out HD.out.ret)
    · rw [hd] at HDN
      have hd' : er = 0 ∧ r = [] := by simpa [doneB, List.length_eq_zero_iff] using hd
      have HE := Lib.hid (dec_yes (HY.out rfl hd'.1 hd'.2))
      clear hd hd'
      go_wp2_with fail
      refine HDN.out.mono ?_
      rintro e w4 ⟨rfl, rfl⟩
      go_wp2_with (first | (refine wpList_load27w (by kernel_rfl) rfl rfl HD.out.vec ?_) | (refine wpList_stop rfl ?_))
      refine ⟨?_⟩
      refine wpList_store27 rfl rfl rfl rfl HD.out.ans ?_
      go_wp2_with fail
      exact bodyPost_ret (ret27_two (t := 2) (s := 3) (y := .int .i64 0) rfl rfl rfl HD.out.ans.row) rfl (dec_of HE.out HD.out.ret)

end Go.Proofs.YtfnaccmgmocolaaDoor

namespace Go.Proofs.YtfnaccmgmocolaaDoor
open Go.RowKit

theorem load101 {w : World} {g : Nat} {x y : Value} (h : Blk w g 101 #[x, y]) : (Instr.loadAt 101 (.pointer (some ⟨g, 0, none⟩))).run Tryd.prog w = .ok (.agg #[x, y]) w := by
  have hl := run_loadVar_mid (P := Tryd.prog) w g 0 101 [x, y] _ (by
    intro j u hu
    rw [Nat.zero_add, h.cell]
    simpa using hu) Tryd.underlying101 rfl (by kernel_rfl)
  simp only [Instr.loadAt, Instr.sureAddr, Sem.run_bind, Sem.run_pure, Result.andThen_ok, hl]

theorem store101 {w : World} {g : Nat} {x y u v : Value} (hx : x.oneCell' = true) (hy : y.oneCell' = true) (h : Blk w g 101 #[u, v]) : (Instr.storeAt 101 (.pointer (some ⟨g, 0, none⟩)) (.agg #[x, y])).run Tryd.prog w = .ok () (w.setRow g #[x, y]) := by
  simp only [Instr.storeAt, Instr.sureAddr, Sem.run_bind, Sem.run_pure, Result.andThen]
  exact run_storeVar_row _ _ 101 101 #[u, v] #[x, y] h (by kernel_rfl) rfl (by simp [hx, hy])

section
variable {ops : Array Oper} {rest : List Oper} {o : Oper} {act : Act} {Q : Exit → Act → World → Prop} {W : World}
theorem wpList_load101 {x : Operand} {g : Nat} {u v : Value} (hgd : o.guard = none) (ho : o.op = .load 101 x) (hx : act.eval x = .pointer (some ⟨g, 0, none⟩)) (h : Blk W g 101 #[u, v])
    (k : wpList Tryd.prog ops Q rest (act.put o.dst (.agg #[u, v])) W) : wpList Tryd.prog ops Q (o :: rest) act W :=
  wpList_plain hgd fun _ hK => by
    unfold Oper.wp execOp
    simp only [ho, hx, Sem.run_bind, load101 h, Result.andThen_ok]
    exact hK _ _ k
theorem wpList_store101 {x y : Operand} {g : Nat} {u v : Value} {a : Option Addr} {n c : Nat} {z : Int} (hgd : o.guard = none) (ho : o.op = .store 101 x y) (hx : act.eval x = .pointer (some ⟨g, 0, none⟩)) (hy : act.eval y = .agg #[.slice a n c, .int .i64 z]) (h : Blk W g 101 #[u, v])
    (k : wpList Tryd.prog ops Q rest (act.put o.dst undef) (W.setRow g #[.slice a n c, .int .i64 z])) : wpList Tryd.prog ops Q (o :: rest) act W :=
  wpList_plain hgd fun _ hK => by
    unfold Oper.wp execOp
    simp only [ho, hx, hy, Sem.run_bind, store101 (x := .slice a n c) (y := .int .i64 z) rfl rfl h, Result.andThen_ok]
    exact hK _ _ k
/-- The walk stands still at a store of a reader. -/
theorem wpList_stop101 {x y : Operand} (_ho : o.op = .store 101 x y) (k : Halt_ (wpList Tryd.prog ops Q (o :: rest) act W)) : wpList Tryd.prog ops Q (o :: rest) act W := k.out
end

section
variable {ops : Array Oper} {Q : Exit → Act → World → Prop} {S : World → Prop} {fuel : Nat} {listed : Array Bool} {a : Act} {w : World}
/-- A call, whatever its contract. -/
theorem held_callP (i : Nat) (d : Tmp) {oi : Oper} (f : FuncId) (args : Array Value) {R : Ending → World → Prop} (hd : oi.dst = some d) (hr : Region.ready .any ops listed = [i]) (hi : ops[i]? = some oi) (hw : Region.wanted oi (yielded ops a.tmps) = true)
    (hrun : (execOp a.eval oi).run Tryd.prog w = .ok (.enter f args) w) (hc : Calls Tryd.prog f args w R)
    (h : ∀ e w', R e w' → ∃ v, e = .returned v ∧ S w' ∧ (S w' → wpAnyH Tryd.prog .any ops Q S fuel (listed.setIfInBounds i true) (a.put (some d) v) w')) : wpAnyH Tryd.prog .any ops Q S (fuel + 1) listed a w := by
  refine wpAnyH_ready (rs := [i]) hr (by simp) (AllReadyH.cons hi (fun K hK => ?_) AllReadyH.nil)
  rw [if_pos hw]
  unfold Oper.wp
  rw [hrun, Oper.upon_enter]
  refine hc.mono fun e w' hh => ?_
  obtain ⟨v, rfl, hS, hk⟩ := h e w' hh
  exact hK.out _ _ hS (fun hS' => by rw [hd]; exact hk hS')
/-- An operation that yields its value in the world at hand. -/
theorem held_run (i : Nat) (d : Tmp) {oi : Oper} (v : Value) (hd : oi.dst = some d) (hi : ops[i]? = some oi) (hr : Region.ready .any ops listed = [i]) (hw : Region.wanted oi (yielded ops a.tmps) = true)
    (hy : (execOp a.eval oi).run Tryd.prog w = .ok (.value v) w) (hS : S w)
    (h : wpAnyH Tryd.prog .any ops Q S fuel (listed.setIfInBounds i true) (a.put (some d) v) w) : wpAnyH Tryd.prog .any ops Q S (fuel + 1) listed a w := by
  refine wpAnyH_ready (rs := [i]) hr (by simp) (AllReadyH.cons hi (fun K hK => ?_) AllReadyH.nil)
  rw [if_pos hw]
  unfold Oper.wp
  rw [hy]
  exact hK.out _ _ hS (fun _ => by rw [hd]; exact h)
end

theorem exec_str {ev : Operand → Value} {o : Oper} {x : Operand} {a : Option Addr} {l c : Nat} {s : ByteArray} {w : World} (ho : o.op = .convert 31 9 x) (hx : ev x = .slice a l c) (h : (convert 31 9 (.slice a l c)).run Tryd.prog w = .ok (.string s) w) : (execOp ev o).run Tryd.prog w = .ok (.value (.string s)) w := by
  unfold execOp
  simp only [ho, hx, Sem.run_bind, h, Result.andThen_ok]
  rfl
theorem exec_eqlS {ev : Operand → Value} {o : Oper} {x y : Operand} {t : TypeId} {a b : ByteArray} {r : Bool} {w : World} (ho : o.op = .binOp .eql 9 x y t) (hx : ev x = .string a) (hy : ev y = .string b) (hr : (a.toList == b.toList) = r) : (execOp ev o).run Tryd.prog w = .ok (.value (.bool r)) w := by
  subst hr
  unfold execOp
  simp [ho, hx, hy, eqGuard, binOp_string_eql]
theorem exec_neqS {ev : Operand → Value} {o : Oper} {x y : Operand} {t : TypeId} {a b : ByteArray} {r : Bool} {w : World} (ho : o.op = .binOp .neq 9 x y t) (hx : ev x = .string a) (hy : ev y = .string b) (hr : (!(a.toList == b.toList)) = r) : (execOp ev o).run Tryd.prog w = .ok (.value (.bool r)) w := by
  subst hr
  unfold execOp
  simp [ho, hx, hy, eqGuard, binOp_string_neq]
theorem str_ne {l m : List Nat} (h1 : ∀ c ∈ l, c < 256) (h2 : ∀ c ∈ m, c < 256) (h : l ≠ m) : ((strOf l).toList == (strOf m).toList) = false := by
  rw [beq_eq_false_iff_ne, ByteArray.toList_eq, ByteArray.toList_eq]
  exact fun e => h (strOf_inj h1 h2 (by cases hs : strOf l; cases ht : strOf m; rw [hs, ht] at e; exact congrArg ByteArray.mk (Array.toList_inj.1 e)))

/-- A reader's value laid down at a new block. -/
theorem laid101 (w : World) (x y u v : Value) : Blk ((w.alloc (.cells #[u, v] 101)).setRow w.heap.size #[x, y]) w.heap.size 101 #[x, y] ∧ Below w.heap.size w ((w.alloc (.cells #[u, v] 101)).setRow w.heap.size #[x, y]) :=
  ⟨(Blk.new w 101 #[u, v]).row, (below_one w _).trans ((Kept.setRow (w.alloc (.cells #[u, v] 101)) w.heap.size #[x, y]).below (by simp) (fun k hk => by omega))⟩

/-- What the document's Decode has made. -/
structure Rst (w W : World) (q : Nat) (a : Option Addr) (n c : Nat) (r : List Nat) (z v : V) : Prop where
  ans : Blk W w.heap.size 27 z.arr
  vec : Blk W (w.heap.size + 1) 27 v.arr
  rdr : Blk W q 101 #[.slice a n c, .int .i64 0]
  sub : Sub W a n c r w.heap.size
  old : Below w.heap.size w W
  gt : w.heap.size + 1 < q

theorem Rst.below {w W W' : World} {q : Nat} {a : Option Addr} {n c : Nat} {r : List Nat} {z v : V} (h : Rst w W q a n c r z v) (hb : Below W.heap.size W W') : Rst w W' q a n c r z v :=
  ⟨h.ans.below hb, h.vec.below hb, h.rdr.below hb, h.sub.below (hb.mono h.old.size), h.old.trans (hb.mono h.old.size), h.gt⟩
theorem Rst.put {w W : World} {q : Nat} {a : Option Addr} {n c : Nat} {r : List Nat} {z v : V} (h : Rst w W q a n c r z v) {k s : Nat} (hk : k < 16) (hs : s < 4294967296) : Rst w (W.setCell ⟨w.heap.size + 1, k, none⟩ (.int .u32 (s : Int))) q a n c r z (v.put k s) := by
  have k1 := kept_cell W (w.heap.size + 1) k (.int .u32 (s : Int))
  have hb : Below w.heap.size W (W.setCell ⟨w.heap.size + 1, k, none⟩ (.int .u32 (s : Int))) := k1.below h.old.size (fun j hj => by omega)
  have hg := h.gt
  refine ⟨h.ans.kept k1 (by omega), ?_, h.rdr.kept k1 (by omega), h.sub.below hb, h.old.trans hb, hg⟩
  have := h.vec.set k (.int .u32 (s : Int))
  rwa [V.arr_put v hk hs] at this
theorem Rst.next {w W : World} {q : Nat} {a a' : Option Addr} {n c n' c' : Nat} {r r' : List Nat} {z v : V} (h : Rst w W q a n c r z v) (hs : Sub W a' n' c' r' w.heap.size) : Rst w (W.setRow q #[.slice a' n' c', .int .i64 0]) q a' n' c' r' z v := by
  have k1 := Kept.setRow W q #[.slice a' n' c', .int .i64 0]
  have hg := h.gt
  have hb : Below w.heap.size W (W.setRow q #[.slice a' n' c', .int .i64 0]) := k1.below h.old.size (fun j hj => by omega)
  exact ⟨h.ans.kept k1 (by omega), h.vec.kept k1 (by omega), h.rdr.row, hs.below hb, h.old.trans hb, hg⟩
theorem Rst.ret {w W : World} {q : Nat} {a : Option Addr} {n c : Nat} {r : List Nat} {z v : V} (h : Rst w W q a n c r z v) {ds : Array Value} : Below w.heap.size w (W.setRow w.heap.size ds) :=
  h.old.trans ((Kept.setRow W w.heap.size ds).below h.old.size (fun k hk => by omega))

set_option maxHeartbeats 2000000 in
set_option maxRecDepth 100000 in
theorem rdecode_any (a : Option Addr) (len cap : Nat) (bs : List Nat) (w : World) (hl : len ≤ 1000000) (hR : Row w a len bs) (hc : len ≤ cap) (hz : a = none → len = 0 ∧ cap = 0) : Calls Tryd.prog 83 #[.slice a len cap] w (Both (decV bs) (decE bs) w) := by
  obtain ⟨z, hz0⟩ : ∃ z, V.zero = z := ⟨_, rfl⟩
  have HZ := Lib.hid hz0
  have HSM := Lib.hid hR.small
  have hb0 := below_two' w (.cells z.arr 27) (.cells z.arr 27)
  have HR0 := Lib.hid hR
  have hsub : Sub ((w.alloc (.cells z.arr 27)).alloc (.cells z.arr 27)) a len cap bs w.heap.size := ⟨hR.below hb0, hc, hz, hl, hR.lt⟩
  have HJ : Hid (Calls Tryd.prog 59 #[.agg #[.slice a len cap, .int .i64 0]] ((w.alloc (.cells z.arr 27)).alloc (.cells z.arr 27)) (RNumd (numX 0 bs) (numE 0 bs) (numB 0 bs) w.heap.size ((w.alloc (.cells z.arr 27)).alloc (.cells z.arr 27)))) := Lib.hid (refnum_any 0 a len cap bs w.heap.size _ hb0.size hsub)
  have HT := Lib.hid (two_new w z z)
  have HN := Lib.hid (num_lt (er := 0) hR.small)
  clear hR hz hz0 hb0 hsub
  go_enter Tryd.func83, Tryd.ntmps83
  go_wp2_with (refine wpList_alloc27 HZ.out rfl rfl ?_)
  generalize (w.alloc (.cells z.arr 27)).alloc (.cells z.arr 27) = W at HJ HT
  refine HJ.out.mono ?_
  rintro e w1 ⟨a1, n1, c1, rfl, hs1, hb1⟩
  have HS1 := Lib.hid hs1
  have HT1 := Lib.hid (HT.out.below hb1)
  clear hs1 hb1
  generalize hn : numX 0 bs = n at HN
  have HX := Lib.hid hn
  clear hn
  generalize he : numE 0 bs = er
  have HER := Lib.hid he
  clear he
  go_wp2_with (refine wpList_stop101 rfl ?_)
  refine ⟨?_⟩
  refine wpList_store101 rfl rfl rfl rfl (Blk.new w1 101 _) ?_
  obtain ⟨hl1, hl2⟩ := laid101 w1 (.slice a1 n1 c1) (.int .i64 (er : Int)) (.slice none 0 0) (.int .i64 0)
  have HT2 := Lib.hid (HT1.out.below hl2)
  have HS2 := Lib.hid (HS1.out.below (hl2.mono HT1.out.old.size))
  have HQ1 := Lib.hid hl1
  have HG : Hid (w.heap.size + 1 < w1.heap.size) := Lib.hid HT1.out.two.lt
  clear hl1 hl2
  generalize (w1.alloc (.cells #[.slice none 0 0, .int .i64 0] 101)).setRow w1.heap.size #[.slice a1 n1 c1, .int .i64 (er : Int)] = w2 at HT2 HS2 HQ1
  generalize w1.heap.size = q at HQ1 HG
  by_cases he : er = 0
  · subst he
    by_cases h16 : n ≤ 16
    · have h16' : (n : Int) ≤ 16 := by omega
      have HR : Hid (Rst w w2 q a1 n1 c1 (st bs 0).2 z (vecTo bs 0)) := Lib.hid ⟨HT2.out.one, by rw [vecTo_zero, HZ.out]; exact HT2.out.two, HQ1.out, HS2.out, HT2.out.old, HG.out⟩
      have HE0 : Hid ((st bs 0).1 = 0) := Lib.hid HER.out
      clear HT2 HS2 HQ1 HT1 HS1 HT HJ
      go_wp2_with fail
      go_loopw [8] (fun i wr => ∃ (k m d : Nat) (b : Option Addr), k ≤ n ∧ i = .int .i64 (k : Int) ∧ Hid (Rst w wr q b m d (st bs k).2 z (vecTo bs k)) ∧ Hid ((st bs k).1 = 0)) (fun i _ => n - (intOf i).toNat)
      case atStart => exact ⟨0, n1, c1, a1, by omega, rfl, HR, HE0⟩
      case round =>
        obtain ⟨k, m, d, b, hk, rfl, HR, HE0⟩ := hrel
        by_cases hlt : k < n
        · have hlt' : (k : Int) < (n : Int) := by omega
          have HJ : Hid (Calls Tryd.prog 59 #[.agg #[.slice b m d, .int .i64 0]] wr (RNumd (numX 0 (st bs k).2) (numE 0 (st bs k).2) (numB 0 (st bs k).2) w.heap.size wr)) := Lib.hid (refnum_any 0 b m d _ w.heap.size wr HR.out.old.size HR.out.sub)
          go_wp2_with (refine wpList_load101 rfl rfl rfl HR.out.rdr ?_)
          refine HJ.out.mono ?_
          rintro e w3 ⟨b3, m3, d3, rfl, hs3, hb3⟩
          have HR3 := Lib.hid (HR.out.below hb3)
          have hs3' : Sub w3 b3 m3 d3 (st bs (k + 1)).2 w.heap.size := by rw [st, HE0.out]; exact hs3
          have HS3 := Lib.hid hs3'
          clear hs3 hs3' hb3 HJ
          have HXL := Lib.hid (num_lt (er := 0) (st_lt HSM.out k))
          have HXA : Hid (xAt bs k = numX 0 (st bs k).2) := Lib.hid (by rw [xAt, HE0.out])
          have HEA : Hid ((st bs (k + 1)).1 = numE 0 (st bs k).2) := Lib.hid (by rw [st, HE0.out])
          generalize numX 0 (st bs k).2 = x at HXL HXA
          generalize numE 0 (st bs k).2 = er3 at HEA
          go_wp2_with (refine wpList_stop101 rfl ?_)
          refine ⟨?_⟩
          refine wpList_store101 rfl rfl rfl rfl (Blk.new w3 101 _) ?_
          obtain ⟨hl1, hl2⟩ := laid101 w3 (.slice b3 m3 d3) (.int .i64 (er3 : Int)) (.slice none 0 0) (.int .i64 0)
          have HR4 := Lib.hid (HR3.out.below hl2)
          have HS4 := Lib.hid (HS3.out.below (hl2.mono HR3.out.old.size))
          have HQ4 := Lib.hid hl1
          clear hl1 hl2
          generalize (w3.alloc (.cells #[.slice none 0 0, .int .i64 0] 101)).setRow w3.heap.size #[.slice b3 m3 d3, .int .i64 (er3 : Int)] = w4 at HR4 HS4 HQ4
          generalize w3.heap.size = q4 at HQ4
          by_cases he3 : er3 = 0
          · subst he3
            have hlt16 : (k : Int) < 16 := by omega
            go_wp2_with (first | (refine wpList_load101 rfl rfl rfl HQ4.out ?_) | (refine wpList_stop101 rfl ?_))
            refine ⟨?_⟩
            refine wpList_store101 rfl rfl rfl rfl HR4.out.rdr ?_
            have HR5 := Lib.hid (HR4.out.next HS4.out)
            generalize w4.setRow q #[.slice b3 m3 d3, .int .i64 ((0 : Nat) : Int)] = w5 at HR5
            have f1 := HR5.out.vec.frozen k
            have c1 : w5.cell? ⟨w.heap.size + 1, k, none⟩ = some (.int .u32 ((vecTo bs k).at_ k : Int)) := by rw [HR5.out.vec.cell, V.arr_at _ (by omega)]
            go_wp2_with fail
            go_roundw
            case rel =>
              refine ⟨k + 1, m3, d3, b3, by omega, by go_num, Lib.hid ?_, HEA⟩
              have := HR5.out.put (k := k) (s := x % 4294967296) (by omega) (Nat.mod_lt _ (by omega))
              rw [vecTo_succ bs (by omega), HXA.out]
              exact this
            case measure => simp [intOf]; omega
          · have hne : ((er3 : Int) != 0) = true := by simp; omega
            have HE := Lib.hid (dec_no (fun u hu => by
              obtain ⟨e1, _, e3, _, _⟩ := dec_bytes hu
              have := (e3 k (by rw [← e1, HX.out]; exact hlt)).2
              rw [show numE (st bs k).1 (st bs k).2 = (st bs (k + 1)).1 from rfl, HEA.out] at this
              exact he3 this))
            go_wp2_with (first | (refine wpList_zero27 HZ.out (by kernel_rfl) rfl ?_) | (refine wpList_stop rfl ?_))
            refine ⟨?_⟩
            refine wpList_store27 rfl rfl rfl rfl HR4.out.ans ?_
            go_wp2_with fail
            rw [HZ.out] at HE
            exact bodyPost_ret (ret27_two (t := 2) (s := 3) (y := .int .i64 5) rfl rfl rfl (Blk.row HR4.out.ans)) rfl (dec_of HE.out HR4.out.ret)
        · obtain rfl : k = n := by omega
          have hlt' : ¬ (k : Int) < (k : Int) := by omega
          generalize hv : vecTo bs k = v at HR
          have HV := Lib.hid hv
          clear hv
          have HUN : Hid (∀ u, V.bytes u = bs → v = u) := Lib.hid (fun u hu => by
            obtain ⟨e1, _, _, _, e5⟩ := dec_bytes hu
            rw [← HV.out, ← HX.out, e1]
            exact e5)
          go_wp2_with fail
          by_cases hq : V.bytes v = bs
          · have HQ : Hid ((!((strOf (V.bytes v)).toList == (strOf bs).toList)) = false) := Lib.hid (by rw [hq]; simp)
            have HE := Lib.hid (dec_yes hq)
            clear hq
            refine wp_region_held_drew (S := fun w' => Rst w w' q b m d (st bs k).2 z v) (by kernel_rfl) (HR.out.below (Below.refl _ _).drew) (fun hS => ?_)
            refine held_take 0 46 (.agg v.arr) rfl rfl (by kernel_rfl) (by kernel_rfl) (by kernel_rfl) (fun _ _ _ h => h) (by kernel_rfl) (fun _ h => exec_load27 rfl rfl h.vec) hS ?_
            simp only [Act.put, List.setIfInBounds_toArray, List.set_cons_zero, List.set_cons_succ]
            refine held_take 3 49 (.slice a len cap) rfl rfl (by kernel_rfl) (by kernel_rfl) (by kernel_rfl) (fun _ _ _ h => h) (by kernel_rfl) (fun _ _ => rfl) hS ?_
            simp only [Act.put, List.setIfInBounds_toArray, List.set_cons_zero, List.set_cons_succ]
            refine held_take 4 50 (.string (strOf bs)) rfl rfl (by kernel_rfl) (by kernel_rfl) (by kernel_rfl) (fun _ _ _ h => h) (by kernel_rfl) (fun _ h => exec_str rfl rfl (conv_any (HR0.out.below h.old))) hS ?_
            simp only [Act.put, List.setIfInBounds_toArray, List.set_cons_zero, List.set_cons_succ]
            refine held_callP 1 47 87 #[(.agg v.arr)] rfl (by kernel_rfl) rfl (by kernel_rfl) (by kernel_rfl) (rencode_any v _) (fun e w101 hP => ?_)
            obtain ⟨ga1, ca1, rfl, ho1, hb1⟩ := hP
            refine ⟨_, rfl, hS.below hb1, fun hS => ?_⟩
            simp only [Act.put, List.setIfInBounds_toArray, List.set_cons_zero, List.set_cons_succ]
            refine held_run 2 48 (.string (strOf (V.bytes v))) rfl rfl (by kernel_rfl) (by kernel_rfl) (exec_str rfl rfl (conv_any (ho1.row (V.bytes_lt v)))) hS ?_
            simp only [Act.put, List.setIfInBounds_toArray, List.set_cons_zero, List.set_cons_succ]
            refine held_take 5 51 (.bool false) rfl rfl (by kernel_rfl) (by kernel_rfl) (by kernel_rfl) (fun _ _ _ h => h) (by kernel_rfl) (fun _ _ => exec_neqS rfl rfl rfl HQ.out) hS ?_
            simp only [Act.put, List.setIfInBounds_toArray, List.set_cons_zero, List.set_cons_succ]
            refine wpAnyH_done (by kernel_rfl) ?_ _
            have HS9 := Lib.hid hS
            clear hS
            go_wp2_with (first | (refine wpList_load27w (by kernel_rfl) rfl rfl HS9.out.vec ?_) | (refine wpList_stop rfl ?_))
            refine ⟨?_⟩
            refine wpList_store27 rfl rfl rfl rfl HS9.out.ans ?_
            go_wp2_with fail
            exact bodyPost_ret (ret27_two (t := 2) (s := 3) (y := .int .i64 0) rfl rfl rfl (Blk.row HS9.out.ans)) rfl (dec_of HE.out HS9.out.ret)
          · have HQ : Hid ((!((strOf (V.bytes v)).toList == (strOf bs).toList)) = true) := Lib.hid (by rw [str_ne (V.bytes_lt v) HSM.out hq]; rfl)
            have HE := Lib.hid (dec_no (fun u hu => hq (by rw [HUN.out u hu]; exact hu)))
            clear hq
            refine wp_region_held_drew (S := fun w' => Rst w w' q b m d (st bs k).2 z v) (by kernel_rfl) (HR.out.below (Below.refl _ _).drew) (fun hS => ?_)
            refine held_take 0 46 (.agg v.arr) rfl rfl (by kernel_rfl) (by kernel_rfl) (by kernel_rfl) (fun _ _ _ h => h) (by kernel_rfl) (fun _ h => exec_load27 rfl rfl h.vec) hS ?_
            simp only [Act.put, List.setIfInBounds_toArray, List.set_cons_zero, List.set_cons_succ]
            refine held_take 3 49 (.slice a len cap) rfl rfl (by kernel_rfl) (by kernel_rfl) (by kernel_rfl) (fun _ _ _ h => h) (by kernel_rfl) (fun _ _ => rfl) hS ?_
            simp only [Act.put, List.setIfInBounds_toArray, List.set_cons_zero, List.set_cons_succ]
            refine held_take 4 50 (.string (strOf bs)) rfl rfl (by kernel_rfl) (by kernel_rfl) (by kernel_rfl) (fun _ _ _ h => h) (by kernel_rfl) (fun _ h => exec_str rfl rfl (conv_any (HR0.out.below h.old))) hS ?_
            simp only [Act.put, List.setIfInBounds_toArray, List.set_cons_zero, List.set_cons_succ]
            refine held_callP 1 47 87 #[(.agg v.arr)] rfl (by kernel_rfl) rfl (by kernel_rfl) (by kernel_rfl) (rencode_any v _) (fun e w101 hP => ?_)
            obtain ⟨ga1, ca1, rfl, ho1, hb1⟩ := hP
            refine ⟨_, rfl, hS.below hb1, fun hS => ?_⟩
            simp only [Act.put, List.setIfInBounds_toArray, List.set_cons_zero, List.set_cons_succ]
            refine held_run 2 48 (.string (strOf (V.bytes v))) rfl rfl (by kernel_rfl) (by kernel_rfl) (exec_str rfl rfl (conv_any (ho1.row (V.bytes_lt v)))) hS ?_
            simp only [Act.put, List.setIfInBounds_toArray, List.set_cons_zero, List.set_cons_succ]
            refine held_take 5 51 (.bool true) rfl rfl (by kernel_rfl) (by kernel_rfl) (by kernel_rfl) (fun _ _ _ h => h) (by kernel_rfl) (fun _ _ => exec_neqS rfl rfl rfl HQ.out) hS ?_
            simp only [Act.put, List.setIfInBounds_toArray, List.set_cons_zero, List.set_cons_succ]
            refine wpAnyH_done (by kernel_rfl) ?_ _
            have HS9 := Lib.hid hS
            clear hS
            go_wp2_with (first | (refine wpList_zero27 HZ.out (by kernel_rfl) rfl ?_) | (refine wpList_stop rfl ?_))
            refine ⟨?_⟩
            refine wpList_store27 rfl rfl rfl rfl HS9.out.ans ?_
            go_wp2_with fail
            rw [HZ.out] at HE
            exact bodyPost_ret (ret27_two (t := 2) (s := 3) (y := .int .i64 5) rfl rfl rfl (Blk.row HS9.out.ans)) rfl (dec_of HE.out HS9.out.ret)
    · have h16' : 16 < (n : Int) := by omega
      have HE := Lib.hid (dec_no (fun u hu => by
        have e1 := (dec_bytes hu).1
        have := V.len_le u
        rw [HX.out] at e1
        omega))
      go_wp2_with (first | (refine wpList_zero27 HZ.out (by kernel_rfl) rfl ?_) | (refine wpList_stop rfl ?_))
      refine ⟨?_⟩
      refine wpList_store27 rfl rfl rfl rfl HT2.out.one ?_
      go_wp2_with fail
      rw [HZ.out] at HE
      exact bodyPost_ret (ret27_two (t := 2) (s := 3) (y := .int .i64 5) rfl rfl rfl (Blk.row HT2.out.one)) rfl (dec_of HE.out (HT2.out.old.trans ((Kept.setRow w2 w.heap.size _).below HT2.out.old.size (fun k hk => by omega))))
  · have hne : ((er : Int) != 0) = true := by simp; omega
    have HE := Lib.hid (dec_no (fun u hu => by
      have e1 := (dec_bytes hu).2.1
      rw [HER.out] at e1
      exact he e1))
    go_wp2_with (first | (refine wpList_zero27 HZ.out (by kernel_rfl) rfl ?_) | (refine wpList_stop rfl ?_))
    refine ⟨?_⟩
    refine wpList_store27 rfl rfl rfl rfl HT2.out.one ?_
    go_wp2_with fail
    rw [HZ.out] at HE
    exact bodyPost_ret (ret27_two (t := 2) (s := 3) (y := .int .i64 5) rfl rfl rfl (Blk.row HT2.out.one)) rfl (dec_of HE.out (HT2.out.old.trans ((Kept.setRow w2 w.heap.size _).below HT2.out.old.size (fun k hk => by omega))))

end Go.Proofs.YtfnaccmgmocolaaDoor
