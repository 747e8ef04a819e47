/- Walks of numbers and Decode, the program's: what the fields of any bytes come to. -/
import Derived.Test.YtjfcddfnmbeolaaDm
import Derived.Test.YtjfcddfnmbeolaaRref
import Derived.Test.YtjfcddfnmbeolaaAr
namespace Go.Proofs.Ytjfcddfnmbeolaa
open Go.RowKit

theorem br_store {ops : Array Oper} {Q : Exit → Act → World → Prop} {S : World → Prop} {fuel : Nat} {listed : Array Bool} {a : Act} {w : World} (i : Nat) {oi : Oper} {x y : Operand} {g : Nat} {v u : V} (hd : oi.dst = none) (hi : ops[i]? = some oi) (hw : Region.wanted oi (yielded ops a.tmps) = true) (ho : oi.op = .store 27 x y) (hx : a.eval x = .pointer (some ⟨g, 0, none⟩)) (hy : a.eval y = .agg u.arr) (hb : Blk w g 27 v.arr)
    (hm : S (w.setRow g u.arr)) (h : S (w.setRow g u.arr) → wpAnyH Try.prog .any ops Q S fuel (listed.setIfInBounds i true) a (w.setRow g u.arr)) : AllReadyH Try.prog .any ops Q S fuel listed a w [i] := by
  refine AllReadyH.cons hi (fun K hK => ?_) AllReadyH.nil
  rw [if_pos hw]
  unfold Oper.wp execOp
  simp only [ho, hx, hy, Sem.run_bind, store27 (u := u) hb, Result.andThen_ok]
  exact hK.out _ _ hm (fun hS' => by rw [hd]; exact h hS')

theorem exec_conv {ev : Operand → Value} {o : Oper} {x : Operand} {n : Nat} {w : World} (ho : o.op = .convert 32 3 x) (hx : ev x = .int .u64 (n : Int)) (hn : n < 9223372036854775808) : (execOp ev o).run Try.prog w = .ok (.value (.int .i64 (n : Int))) w := by
  have e : IntKind.i64.wrap (n : Int) = (n : Int) := IntWalk.i64_in _ (by omega)
  have h : (convert 32 3 (.int .u64 (n : Int))).run Try.prog w = .ok (.int .i64 (IntKind.i64.wrap (n : Int))) w := by kernel_rfl
  rw [e] at h
  unfold execOp
  simp only [ho, hx, Sem.run_bind, h, Result.andThen_ok]
  rfl

theorem dec_eq (x y : Nat) : ((x : Int) == (y : Int)) = decide (x = y) := by
  rw [Bool.eq_iff_iff]; simp; omega

/-- A reader and a vector that a call made: of what was there only the reader has turned. -/
structure Nst (w W : World) (p : Nat) (v : V) (er : Nat) (bs : List Nat) : Prop where
  rd : ∃ a len cap, Rd W p er a len cap bs
  vec : Blk W w.heap.size 27 v.arr
  kept : Kept (fun k => k = p) w W
  lt : p < w.heap.size

theorem Nst.num {w W : World} {p : Nat} {v : V} {er : Nat} {bs : List Nat} (h : Nst w W p v er bs) :
    Calls Try.prog 62 #[.pointer (some ⟨p, 0, none⟩)] W fun e w' => e = .returned (.tuple #[.int .u64 (numX er bs : Int), .int .i64 (numE er bs : Int)]) ∧ Nst w w' p v (numE er bs) (numB er bs) := by
  obtain ⟨a, len, cap, hr⟩ := h.rd
  refine (rnum_any p er a len cap bs W hr).mono fun e w' => ?_
  rintro ⟨a', len', cap', rfl, hr', hk⟩
  exact ⟨rfl, ⟨a', len', cap', hr'⟩, h.vec.kept hk (by have := h.lt; omega), h.kept.trans hk (fun _ h => .inl h), h.lt⟩

theorem Nst.keep {w W W' : World} {p : Nat} {v u : V} {er : Nat} {bs : List Nat} (h : Nst w W p v er bs) (k : Kept (fun k => k = w.heap.size) W W') (hv : Blk W' w.heap.size 27 u.arr) : Nst w W' p u er bs := by
  obtain ⟨a, len, cap, hr⟩ := h.rd
  have hp := h.lt
  exact ⟨⟨a, len, cap, hr.keep k (by omega) (fun ad ha h0 => by have := hr.apart ad ha h0; omega)⟩, hv, h.kept.trans k (fun i hi => .inr (by omega)), hp⟩

theorem Nst.put {w W : World} {p : Nat} {v : V} {er : Nat} {bs : List Nat} (h : Nst w W p v er bs) {k s : Nat} (hk : k < 16) (hs : s < 4294967296) : Nst w (W.setCell ⟨w.heap.size, k, none⟩ (.int .u32 (s : Int))) p (v.put k s) er bs := by
  refine h.keep (kept_cell W w.heap.size k (.int .u32 (s : Int))) ?_
  have := h.vec.set k (.int .u32 (s : Int))
  rwa [V.arr_put v hk hs] at this

theorem Nst.row {w W : World} {p : Nat} {v : V} {er : Nat} {bs : List Nat} (h : Nst w W p v er bs) (u : V) : Nst w (W.setRow w.heap.size u.arr) p u er bs := h.keep (Kept.setRow _ _ _) h.vec.row

theorem Nst.below {w W W' : World} {p : Nat} {v : V} {er : Nat} {bs : List Nat} (h : Nst w W p v er bs) (hb : Below W.heap.size W W') : Nst w W' p v er bs := by
  obtain ⟨a, len, cap, hr⟩ := h.rd
  exact ⟨⟨a, len, cap, hr.below hb⟩, h.vec.below hb, h.kept.trans (Kept.of_below (S := fun k => k = p) hb) (fun _ h => .inl h), h.lt⟩
theorem Nst.drew {w W : World} {p : Nat} {v : V} {er : Nat} {bs : List Nat} (h : Nst w W p v er bs) : Nst w W.drew p v er bs := h.below (Below.refl _ _).drew

/-- What numbers leaves: where it says yes and nothing is left, the bytes are the vector's; and a vector's bytes come to the vector. -/
def Nums (p : Nat) (bs : List Nat) (w : World) (e : Ending) (w' : World) : Prop :=
  ∃ (v : V) (ok : Bool) (er : Nat) (r : List Nat) (a : Option Addr) (len cap : Nat), e = .returned (.tuple #[.agg v.arr, .bool ok]) ∧ Rd w' p er a len cap r ∧ Kept (fun k => k = p) w w' ∧
    (ok = true → er = 0 → r = [] → V.bytes v = bs) ∧ (∀ u, V.bytes u = bs → v = u ∧ ok = true ∧ er = 0 ∧ r = [])

theorem nums_no {p : Nat} {bs : List Nat} {w w' : World} {v : V} {er : Nat} {r : List Nat} (h : Nst w w' p v er r) (hno : ∀ u, V.bytes u ≠ bs) : Nums p bs w (.returned (.tuple #[.agg v.arr, .bool false])) w' := by
  obtain ⟨a, len, cap, hr⟩ := h.rd
  exact ⟨v, false, er, r, a, len, cap, rfl, hr, h.kept, (fun h => by cases h), fun u hu => absurd hu (hno u)⟩

theorem nums_end {p n : Nat} {bs : List Nat} {w w' : World} (hs : ∀ c ∈ bs, c < 256) (hn : numX 0 bs = n) (h16 : n ≤ 16) (hx : ∀ i, i < n → xAt bs i < 4294967296) (h : Nst w w' p (vecTo bs n) (st bs n).1 (st bs n).2) : Nums p bs w (.returned (.tuple #[.agg (vecTo bs n).arr, .bool (decide (V.len (vecTo bs n) = n))])) w' := by
  obtain ⟨a, len, cap, hr⟩ := h.rd
  refine ⟨vecTo bs n, _, _, _, a, len, cap, rfl, hr, h.kept, fun h1 h2 h3 => dec_ok hs hn h16 hx h2 h3 (of_decide_eq_true h1), fun u hu => ?_⟩
  obtain ⟨e1, _, _, e2, e3⟩ := dec_bytes hu
  obtain rfl : V.len u = n := e1.symm.trans hn
  rw [e3, e2]
  exact ⟨rfl, by simp, rfl, rfl⟩

set_option maxHeartbeats 2000000 in
set_option maxRecDepth 100000 in
theorem numbers_any (p : Nat) (a : Option Addr) (len cap : Nat) (bs : List Nat) (w : World) (h : Rd w p 0 a len cap bs) : Calls Try.prog 71 #[.pointer (some ⟨p, 0, none⟩)] w (Nums p bs w) := by
  have HSM := Lib.hid h.row.small
  obtain ⟨z, hz⟩ : ∃ z, V.zero = z := ⟨_, rfl⟩
  have HZ := Lib.hid hz
  have HS0 : Hid (Nst w (w.alloc (.cells z.arr 27)) p z 0 bs) := Lib.hid ⟨⟨a, len, cap, h.below (below_one _ _)⟩, Blk.new _ _ _, .of_below (below_one _ _), h.block.lt⟩
  have HN := Lib.hid (num_lt (er := 0) h.row.small)
  clear hz h
  go_enter Try.func71, Try.ntmps71
  go_wp2_with (refine wpList_alloc27 HZ.out rfl rfl ?_)
  generalize w.alloc (.cells z.arr 27) = W at HS0
  refine HS0.out.num.mono ?_
  rintro e w1 ⟨rfl, h1⟩
  have HS1 : Hid (Nst w w1 p z (st bs 0).1 (st bs 0).2) := Lib.hid h1
  clear h1 HS0
  generalize hn : numX 0 bs = n at HN
  have HX := Lib.hid hn
  clear hn
  by_cases h16 : n ≤ 16
  · have h16' : (n : Int) ≤ 16 := by omega
    go_wp2_with fail
    go_loopw [19] (fun i wr => ∃ k : Nat, k ≤ n ∧ i = .int .i64 (k : Int) ∧ Hid (Nst w wr p (vecTo bs k) (st bs k).1 (st bs k).2) ∧ Hid (∀ i, i < k → xAt bs i < 4294967296)) (fun i _ => n - (intOf i).toNat)
    case atStart => exact ⟨0, by omega, rfl, Lib.hid (by rw [vecTo_zero, HZ.out]; exact HS1.out), Lib.hid (fun i h => by omega)⟩
    case round =>
      obtain ⟨k, hk, rfl, HR, HB⟩ := hrel
      by_cases hlt : k < n
      · have hlt' : (k : Int) < (n : Int) := by omega
        go_wp2_with fail
        refine HR.out.num.mono ?_
        rintro e w2 ⟨rfl, h2⟩
        have HR2 : Hid (Nst w w2 p (vecTo bs k) (st bs (k + 1)).1 (st bs (k + 1)).2) := Lib.hid h2
        have HXL := Lib.hid (num_lt (er := (st bs k).1) (st_lt HSM.out k))
        clear h2
        generalize hx : numX (st bs k).1 (st bs k).2 = x at HXL
        have HXA : Hid (xAt bs k = x) := Lib.hid hx
        clear hx
        by_cases hbig : x ≤ 4294967295
        · have hbig' : (x : Int) ≤ 4294967295 := by omega
          have f1 := HR2.out.vec.frozen k
          have c1 : w2.cell? ⟨w.heap.size, k, none⟩ = some (.int .u32 ((vecTo bs k).at_ k : Int)) := by rw [HR2.out.vec.cell, V.arr_at _ (by omega)]
          go_wp2_with fail
          go_roundw
          case rel =>
            refine ⟨k + 1, by omega, by go_num, Lib.hid ?_, Lib.hid (fun i hi => ?_)⟩
            · have := HR2.out.put (k := k) (s := x) (by omega) (by omega)
              rw [vecTo_succ bs (by omega), HXA.out, Nat.mod_eq_of_lt (by omega)]
              exact this
            · by_cases e : i = k
              · subst e; rw [HXA.out]; omega
              · exact HB.out i (by omega)
          case measure => simp [intOf]; omega
        · have hbig' : 4294967295 < (x : Int) := by omega
          go_wp2_with (first | (refine wpList_load27w (by kernel_rfl) rfl rfl HR2.out.vec ?_) | (refine wpList_stop rfl ?_))
          refine ⟨?_⟩
          refine wpList_store27 rfl rfl rfl rfl HR2.out.vec ?_
          have HR3 := Lib.hid (HR2.out.row (vecTo bs k))
          generalize w2.setRow w.heap.size (vecTo bs k).arr = w3 at HR3
          go_wp2_with fail
          refine bodyPost_ret (ret27_two (t := 2) (s := 3) (y := .bool false) rfl rfl rfl HR3.out.vec) rfl (nums_no HR3.out (fun u hu => ?_))
          obtain ⟨e1, _, e3, _, _⟩ := dec_bytes hu
          have := (e3 k (by rw [← e1, HX.out]; exact hlt)).1
          rw [HXA.out] at this
          have := u.lt k
          omega
      · obtain rfl : k = n := by omega
        have hlt' : ¬ (k : Int) < (k : Int) := by omega
        go_wp2_with fail
        refine wp_region_held_drew (S := fun w' => Nst w w' p (vecTo bs k) (st bs k).1 (st bs k).2) (by kernel_rfl) HR.out.drew (fun hS => ?_)
        refine held_take 0 35 (.agg (vecTo bs k).arr) rfl rfl (by kernel_rfl) (by kernel_rfl) (by kernel_rfl) (fun _ _ _ h => h) (by kernel_rfl) (fun _ h => exec_load27 rfl rfl h.vec) hS ?_
        simp only [Act.put, List.setIfInBounds_toArray, List.set_cons_zero, List.set_cons_succ]
        refine held_take 1 36 (.agg (vecTo bs k).arr) rfl rfl (by kernel_rfl) (by kernel_rfl) (by kernel_rfl) (fun _ _ _ h => h) (by kernel_rfl) (fun _ h => exec_load27 rfl rfl h.vec) hS ?_
        simp only [Act.put, List.setIfInBounds_toArray, List.set_cons_zero, List.set_cons_succ]
        refine held_take 3 38 (.int .u64 (k : Int)) rfl rfl (by kernel_rfl) (by kernel_rfl) (by kernel_rfl) (fun _ _ _ h => h) (by kernel_rfl) (fun _ _ => rfl) hS ?_
        simp only [Act.put, List.setIfInBounds_toArray, List.set_cons_zero, List.set_cons_succ]
        refine held_take 4 39 (.int .i64 (k : Int)) rfl rfl (by kernel_rfl) (by kernel_rfl) (by kernel_rfl) (fun _ _ _ h => h) (by kernel_rfl) (fun _ _ => exec_conv rfl rfl (by omega)) hS ?_
        simp only [Act.put, List.setIfInBounds_toArray, List.set_cons_zero, List.set_cons_succ]
        refine held_call 2 37 56 #[(.agg (vecTo bs k).arr)] (.int .i64 (V.len (vecTo bs k) : Int)) rfl (by kernel_rfl) rfl (by kernel_rfl) (by kernel_rfl) (length_any (vecTo bs k) _) (fun _ h hb => h.below hb) hS (fun w102 hS => ?_)
        simp only [Act.put, List.setIfInBounds_toArray, List.set_cons_zero, List.set_cons_succ]
        refine held_take 5 40 (.bool (decide (V.len (vecTo bs k) = k))) rfl rfl (by kernel_rfl) (by kernel_rfl) (by kernel_rfl) (fun _ _ _ h => h) (by kernel_rfl) (fun _ _ => exec_eqlI trivial rfl rfl rfl (dec_eq _ _)) hS ?_
        simp only [Act.put, List.setIfInBounds_toArray, List.set_cons_zero, List.set_cons_succ]
        refine wpAnyH_ready (rs := [6]) (by kernel_rfl) (by simp) ?_
        refine br_store 6 rfl rfl (by kernel_rfl) rfl rfl rfl hS.vec (hS.row _) (fun hS => ?_)
        refine held_take 7 3 (.bool (decide (V.len (vecTo bs k) = k))) rfl rfl (by kernel_rfl) (by kernel_rfl) (by kernel_rfl) (fun _ _ _ h => h) (by kernel_rfl) (fun _ _ => rfl) hS ?_
        simp only [Act.put, List.setIfInBounds_toArray, List.set_cons_zero, List.set_cons_succ]
        refine wpAnyH_done (by kernel_rfl) ?_ _
        have HS9 := Lib.hid hS
        clear hS
        go_wp2_with fail
        exact bodyPost_ret (ret27_two (t := 2) (s := 3) (y := .bool (decide (V.len (vecTo bs k) = k))) rfl rfl rfl HS9.out.vec) rfl (nums_end HSM.out HX.out h16 HB.out HS9.out)
  · have h16' : 16 < (n : Int) := by omega
    go_wp2_with (first | (refine wpList_load27w (by kernel_rfl) rfl rfl HS1.out.vec ?_) | (refine wpList_stop rfl ?_))
    refine ⟨?_⟩
    refine wpList_store27 rfl rfl rfl rfl HS1.out.vec ?_
    have HS2 := Lib.hid (HS1.out.row z)
    generalize w1.setRow w.heap.size z.arr = w2 at HS2
    go_wp2_with fail
    refine bodyPost_ret (ret27_two (t := 2) (s := 3) (y := .bool false) rfl rfl rfl HS2.out.vec) rfl (nums_no HS2.out (fun u hu => ?_))
    have e1 := (dec_bytes hu).1
    have := V.len_le u
    rw [HX.out] at e1
    omega

section
open Classical
/-- The vector whose bytes they are, and whether there is one. -/
noncomputable def decV (bs : List Nat) : V := if h : ∃ u, V.bytes u = bs then h.choose else V.zero
noncomputable def decE (bs : List Nat) : Nat := if ∃ u, V.bytes u = bs then 0 else 5
theorem dec_yes {u : V} {bs : List Nat} (h : V.bytes u = bs) : decE bs = 0 ∧ decV bs = u := by
  have hex : ∃ u, V.bytes u = bs := ⟨u, h⟩
  unfold decE decV
  rw [if_pos hex, dif_pos hex]
  exact ⟨rfl, bytes_inj (hex.choose_spec.trans h.symm)⟩
theorem dec_no {bs : List Nat} (h : ∀ u, V.bytes u ≠ bs) : decE bs = 5 ∧ decV bs = V.zero := by
  have hex : ¬ ∃ u, V.bytes u = bs := fun ⟨u, hu⟩ => h u hu
  unfold decE decV
  rw [if_neg hex, dif_neg hex]
  exact ⟨rfl, rfl⟩
end
theorem dec_of {bs : List Nat} {e : Nat} {u : V} {w w' : World} (h : decE bs = e ∧ decV bs = u) (hb : Below w.heap.size w w') : Both (decV bs) (decE bs) w (.returned (.tuple #[.agg u.arr, .int .i64 (e : Int)])) w' := ⟨by rw [h.1, h.2], hb⟩

/-- What Decode has made: the answer's block, a reader, a vector. -/
structure Dst (w W : World) (p : Nat) (er : Nat) (r : List Nat) (q : Nat) (z v : V) : Prop where
  ans : Blk W w.heap.size 27 z.arr
  rd : ∃ a len cap, Rd W p er a len cap r
  vec : Blk W q 27 v.arr
  old : Below w.heap.size w W

theorem Dst.ret {w W : World} {p er q : Nat} {r : List Nat} {z v : V} (h : Dst w W p er r q z v) {ds : Array Value} : Below w.heap.size w (W.setRow w.heap.size ds) :=
  h.old.trans ((Kept.setRow W w.heap.size ds).below h.old.size (fun k hk => by omega))

set_option maxHeartbeats 2000000 in
theorem decode_any (a : Option Addr) (len cap : Nat) (bs : List Nat) (w : World) (hl : len ≤ 1000000) (hR : Row w a len bs) (hz : a = none → len = 0 ∧ cap = 0) : Calls Try.prog 64 #[.slice a len cap] w (Both (decV bs) (decE bs) w) := by
  obtain ⟨z, hz0⟩ : ∃ z, V.zero = z := ⟨_, rfl⟩
  have HZ := Lib.hid hz0
  have hb0 := below_one w (.cells z.arr 27)
  have HRD := Lib.hid (read_any a len cap bs (w.alloc (.cells z.arr 27)) hl (hR.below hb0) hz)
  have HB0 := Lib.hid hb0
  have HA0 := Lib.hid (Blk.new w 27 z.arr)
  clear hR hz hz0 hb0
  go_enter Try.func64, Try.ntmps64
  go_wp2_with (refine wpList_alloc27 HZ.out rfl rfl ?_)
  generalize w.alloc (.cells z.arr 27) = W at HRD HB0 HA0
  refine HRD.out.mono ?_
  rintro e w1 ⟨p, ar, cr, rfl, hp, hrd, hb, _⟩
  have HR1 := Lib.hid hrd
  have HA1 := Lib.hid (HA0.out.below hb)
  have HB1 := Lib.hid (HB0.out.trans (hb.mono HB0.out.size))
  have HP : Hid (w.heap.size < p) := Lib.hid (Nat.lt_of_lt_of_le HA0.out.lt hp)
  clear hrd hb hp
  go_wp2_with fail
  refine (numbers_any p ar bs.length cr bs w1 HR1.out).mono ?_
  rintro e w2 ⟨v, ok, er, r, a2, len2, cap2, rfl, hr2, hk2, hy, hn⟩
  have HR2 := Lib.hid hr2
  have HA2 := Lib.hid (HA1.out.kept hk2 (by have := HP.out; omega))
  have HB2 := Lib.hid (HB1.out.trans (hk2.below HB1.out.size (fun k hk => by have := HP.out; omega)))
  have HY := Lib.hid hy
  have HN := Lib.hid hn
  clear hr2 hk2 hy hn
  go_wp2_with (first | (refine wpList_alloc27 HZ.out rfl rfl ?_) | (refine wpList_stop rfl ?_))
  refine ⟨?_⟩
  refine wpList_store27 rfl rfl rfl rfl (Blk.new w2 27 z.arr) ?_
  have hlo := laid_old w2 z v
  have HD : Hid (Dst w ((w2.alloc (.cells z.arr 27)).setRow w2.heap.size v.arr) p er r w2.heap.size z v) := Lib.hid ⟨HA2.out.below hlo, ⟨_, _, _, HR2.out.below hlo⟩, laid_blk w2 z v, HB2.out.trans (hlo.mono HB2.out.size)⟩
  clear hlo HA2 HB2 HR2
  generalize (w2.alloc (.cells z.arr 27)).setRow w2.heap.size v.arr = w3 at HD
  generalize w2.heap.size = q at HD
  cases ok
  · have HE := Lib.hid (dec_no (fun u hu => by have := (HN.out u hu).2.1; cases this))
    go_wp2_with (first | (refine wpList_zero27 HZ.out (by kernel_rfl) rfl ?_) | (refine wpList_stop rfl ?_))
    refine ⟨?_⟩
    refine wpList_store27 rfl rfl rfl rfl HD.out.ans ?_
    go_wp2_with fail
    rw [HZ.out] at HE
    exact bodyPost_ret (ret27_two (t := 2) (s := 3) (y := .int .i64 5) rfl rfl rfl HD.out.ans.row) rfl (dec_of HE.out HD.out.ret)
  · obtain ⟨a3, len3, cap3, hr3⟩ := HD.out.rd
    have HDN := Lib.hid (done_any p er a3 len3 cap3 r w3 hr3)
    clear hr3
    cases hd : doneB er r
    · rw [hd] at HDN
      have HE := Lib.hid (dec_no (fun u hu => by
        obtain ⟨_, _, h1, h2⟩ := HN.out u hu
        rw [h1, h2] at hd
        simp [doneB] at hd))
      clear hd
      go_wp2_with fail
      refine HDN.out.mono ?_
      rintro e w4 ⟨rfl, rfl⟩
      go_wp2_with (first | (refine wpList_zero27 HZ.out (by kernel_rfl) rfl ?_) | (refine wpList_stop rfl ?_))
      refine ⟨?_⟩
      refine wpList_store27 rfl rfl rfl rfl HD.out.ans ?_
      go_wp2_with fail
      rw [HZ.out] at HE
      exact bodyPost_ret (ret27_two (t := 2) (s := 3) (y := .int .i64 5) rfl rfl rfl HD.out.ans.row) rfl (dec_of HE.out HD.out.ret)
    · rw [hd] at HDN
      have hd' : er = 0 ∧ r = [] := by simpa [doneB, List.length_eq_zero_iff] using hd
      have HE := Lib.hid (dec_yes (HY.out rfl hd'.1 hd'.2))
      clear hd hd'
      go_wp2_with fail
      refine HDN.out.mono ?_
      rintro e w4 ⟨rfl, rfl⟩
      go_wp2_with (first | (refine wpList_load27w (by kernel_rfl) rfl rfl HD.out.vec ?_) | (refine wpList_stop rfl ?_))
      refine ⟨?_⟩
      refine wpList_store27 rfl rfl rfl rfl HD.out.ans ?_
      go_wp2_with fail
      exact bodyPost_ret (ret27_two (t := 2) (s := 3) (y := .int .i64 0) rfl rfl rfl HD.out.ans.row) rfl (dec_of HE.out HD.out.ret)

end Go.Proofs.Ytjfcddfnmbeolaa
