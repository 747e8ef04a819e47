/- Walks of Under and has of the document. -/
import Derived.Test.YtmibfbbkjejkmaaLw
namespace Go.Proofs.Ytmibfbbkjejkmaa
open Go.RowKit Fold

section
variable {ev : Operand → Value} {q : Oper} {w : World}
/-- A dot inside a list. -/
theorem exec_dotO {x : Operand} {b off : Nat} {p : O} (ho : q.op = .load 38 x) (hx : ev x = .pointer (some ⟨b, off, none⟩)) (h : w.rangeAt b off p.cs) : (execOp ev q).run Try.prog w = .ok (.value (dotV p.r p.s)) w := by
  have hl := run_loadVar_mid (P := Try.prog) w b off 38 [.int .u8 (p.r : Int), .int .u32 (p.s : Int)] _ (fun j u hu => h j u (by
    match j, hu with
    | 0, hu => exact hu
    | 1, hu => exact hu)) Try.underlying38 rfl (by kernel_rfl)
  refine exec_cell ho hx ?_
  simp only [Instr.loadAt, Instr.sureAddr, Sem.run_bind, Sem.run_pure, Result.andThen_ok, hl]
theorem exec_eq38 {x y : Operand} {r s r' s' : Nat} {b : Bool} (ho : q.op = .binOp .eql 38 x y 38) (hx : ev x = dotV r s) (hy : ev y = dotV r' s') (hb : (((r : Int) == (r' : Int)) && ((s : Int) == (s' : Int))) = b) : (execOp ev q).run Try.prog w = .ok (.value (.bool b)) w := by
  subst hb
  unfold execOp dotV at *
  simp only [ho, hx, hy]
  go_simp
  by_cases h1 : (r : Int) = (r' : Int) <;> by_cases h2 : (s : Int) = (s' : Int) <;> simp [h1, h2]
theorem exec_conv8 {x : Operand} {n : Nat} (ho : q.op = .convert 5 3 x) (hx : ev x = .int .u8 (n : Int)) (hn : n < 256) : (execOp ev q).run Try.prog w = .ok (.value (.int .i64 (n : Int))) w := by
  have e : IntKind.i64.wrap (n : Int) = (n : Int) := by rw [IntKind.wrap_i64]; omega
  have h : (convert 5 3 (.int .u8 (n : Int))).run Try.prog w = .ok (.int .i64 (IntKind.i64.wrap (n : Int))) w := by kernel_rfl
  rw [e] at h
  unfold execOp
  simp only [ho, hx, Sem.run_bind, h, Result.andThen_ok]
  rfl
end
structure Ru (w W : World) (v : V) (b off : Nat) (x : O) : Prop where
  box : Blk W w.heap.size 25 v.arr
  op : W.rangeAt b off x.cs
theorem Ru.below {w W W' : World} {v : V} {b off : Nat} {x : O} (h : Ru w W v b off x) (hb : Below W.heap.size W W') : Ru w W' v b off x := ⟨h.box.below hb, fun j u hu => below_at hb (h.op j u hu)⟩

set_option maxRecDepth 100000 in
set_option maxHeartbeats 1000000 in
theorem runder_any {a : Option Addr} {n cap : Nat} {l : List O} {w : World} (hl : OL w a n l) (hn : n < 1000000) (v : V) : Calls Try.prog 15 #[.slice a n cap, .agg v.arr] w (OpsP (Fold.under l v) w) := by
  have HL := Lib.hid hl
  have HLEN := Lib.hid (OL.len' hl)
  have hb1 := fun (v : V) (w : World) => box25 v w
  clear hl
  go_enter Try.func15, Try.ntmps15
  go_wp2_with fail
  clear hb1
  go_loopw [5, 6] (UndR w v (fun o => V.hasB v o.r o.s) l n) (fun _ u _ => n - (numI u).toNat)
  case atStart => exact ⟨⟨0, none, 0, 0, rfl, rfl, Nat.zero_le _, Lib.hid rfl, Lib.hid (ownG_nil _ _ _ _), Lib.hid (below_one _ _)⟩, Blk.new w 25 v.arr⟩
  case round =>
    obtain ⟨⟨k, a', m, cap', rfl, rfl, hk, HM, HW, HB⟩, hvb⟩ := hrel
    have HV := Lib.hid hvb
    clear hvb
    by_cases hlt : k < n
    · obtain ⟨b, off, x, rfl, hx, hr⟩ := OL.at (HL.out.below HB.out) hlt
      have HX := Lib.hid hx
      have HR : Hid (Ru w wr v b (off + k * 23) x) := Lib.hid ⟨HV.out, hr⟩
      have HH := Lib.hid (fun W => rhas_any v x.r x.s W x.hr x.hs)
      clear hx hr
      go_upto_region 5 with fail
      cases hh : V.hasB v x.r x.s
      · rw [hh] at HH
        refine wp_region_held_drew (S := fun w' => Ru w w' v b (off + k * 23) x ∧ Below wr.heap.size wr w') (by kernel_rfl) ⟨HR.out.below (drew_below wr), drew_below wr⟩ (fun hS => ?_)
        refine held_take 0 13 (.agg v.arr) rfl rfl (by kernel_rfl) (by kernel_rfl) (by kernel_rfl) (fun _ _ _ h => h) (by kernel_rfl) (fun _ h => exec_load25 (v := v) rfl rfl h.1.box) hS ?_
        simp only [Act.put, List.setIfInBounds_toArray, List.set_cons_zero, List.set_cons_succ]
        refine held_take 1 14 (.slice (some ⟨b, off, none⟩) n cap) rfl rfl (by kernel_rfl) (by kernel_rfl) (by kernel_rfl) (fun _ _ _ h => h) (by kernel_rfl) (fun _ _ => rfl) hS ?_
        simp only [Act.put, List.setIfInBounds_toArray, List.set_cons_zero, List.set_cons_succ]
        refine held_take 2 15 (.int .i64 (k : Int)) rfl rfl (by kernel_rfl) (by kernel_rfl) (by kernel_rfl) (fun _ _ _ h => h) (by kernel_rfl) (fun _ _ => rfl) hS ?_
        simp only [Act.put, List.setIfInBounds_toArray, List.set_cons_zero, List.set_cons_succ]
        refine held_take 3 16 (.pointer (some ⟨b, off + k * 23, none⟩)) rfl rfl (by kernel_rfl) (by kernel_rfl) (by kernel_rfl) (fun _ _ _ h => h) (by kernel_rfl) (fun _ _ => exec_idxO (i := k) rfl rfl rfl rfl hlt) hS ?_
        simp only [Act.put, List.setIfInBounds_toArray, List.set_cons_zero, List.set_cons_succ]
        refine held_take 4 17 (.pointer (some ⟨b, off + k * 23, none⟩)) rfl rfl (by kernel_rfl) (by kernel_rfl) (by kernel_rfl) (fun _ _ _ h => h) (by kernel_rfl) (fun _ _ => (by kernel_rfl)) hS ?_
        simp only [Act.put, List.setIfInBounds_toArray, List.set_cons_zero, List.set_cons_succ]
        refine held_take 5 18 (dotV x.r x.s) rfl rfl (by kernel_rfl) (by kernel_rfl) (by kernel_rfl) (fun _ _ _ h => h) (by kernel_rfl) (fun _ h => exec_dotO (p := x) rfl rfl h.1.op) hS ?_
        simp only [Act.put, List.setIfInBounds_toArray, List.set_cons_zero, List.set_cons_succ]
        refine held_call 6 19 21 #[.agg v.arr, dotV x.r x.s] (.bool false) rfl (by kernel_rfl) rfl (by kernel_rfl) (by kernel_rfl) (HH.out _) (fun _ h hb => ⟨h.1.below hb, h.2.trans (hb.mono h.2.size)⟩) hS (fun w16 hS => ?_)
        simp only [Act.put, List.setIfInBounds_toArray, List.set_cons_zero, List.set_cons_succ]
        refine wpAnyH_done (by kernel_rfl) ?_ _
        have HE := Lib.hid (out_skip (cap := cap') HM.out HX.out hlt hh HW.out HB.out hS.2)
        have HV2 := Lib.hid hS.1.box
        clear hS hh
        go_wp2_with fail
        go_roundw
        case rel => exact ⟨HE.out, HV2.out⟩
        case measure => simp [numI]; omega
      · rw [hh] at HH
        refine wp_region_held_drew (S := fun w' => Ru w w' v b (off + k * 23) x ∧ Below wr.heap.size wr w') (by kernel_rfl) ⟨HR.out.below (drew_below wr), drew_below wr⟩ (fun hS => ?_)
        refine held_take 0 13 (.agg v.arr) rfl rfl (by kernel_rfl) (by kernel_rfl) (by kernel_rfl) (fun _ _ _ h => h) (by kernel_rfl) (fun _ h => exec_load25 (v := v) rfl rfl h.1.box) hS ?_
        simp only [Act.put, List.setIfInBounds_toArray, List.set_cons_zero, List.set_cons_succ]
        refine held_take 1 14 (.slice (some ⟨b, off, none⟩) n cap) rfl rfl (by kernel_rfl) (by kernel_rfl) (by kernel_rfl) (fun _ _ _ h => h) (by kernel_rfl) (fun _ _ => rfl) hS ?_
        simp only [Act.put, List.setIfInBounds_toArray, List.set_cons_zero, List.set_cons_succ]
        refine held_take 2 15 (.int .i64 (k : Int)) rfl rfl (by kernel_rfl) (by kernel_rfl) (by kernel_rfl) (fun _ _ _ h => h) (by kernel_rfl) (fun _ _ => rfl) hS ?_
        simp only [Act.put, List.setIfInBounds_toArray, List.set_cons_zero, List.set_cons_succ]
        refine held_take 3 16 (.pointer (some ⟨b, off + k * 23, none⟩)) rfl rfl (by kernel_rfl) (by kernel_rfl) (by kernel_rfl) (fun _ _ _ h => h) (by kernel_rfl) (fun _ _ => exec_idxO (i := k) rfl rfl rfl rfl hlt) hS ?_
        simp only [Act.put, List.setIfInBounds_toArray, List.set_cons_zero, List.set_cons_succ]
        refine held_take 4 17 (.pointer (some ⟨b, off + k * 23, none⟩)) rfl rfl (by kernel_rfl) (by kernel_rfl) (by kernel_rfl) (fun _ _ _ h => h) (by kernel_rfl) (fun _ _ => (by kernel_rfl)) hS ?_
        simp only [Act.put, List.setIfInBounds_toArray, List.set_cons_zero, List.set_cons_succ]
        refine held_take 5 18 (dotV x.r x.s) rfl rfl (by kernel_rfl) (by kernel_rfl) (by kernel_rfl) (fun _ _ _ h => h) (by kernel_rfl) (fun _ h => exec_dotO (p := x) rfl rfl h.1.op) hS ?_
        simp only [Act.put, List.setIfInBounds_toArray, List.set_cons_zero, List.set_cons_succ]
        refine held_call 6 19 21 #[.agg v.arr, dotV x.r x.s] (.bool true) rfl (by kernel_rfl) rfl (by kernel_rfl) (by kernel_rfl) (HH.out _) (fun _ h hb => ⟨h.1.below hb, h.2.trans (hb.mono h.2.size)⟩) hS (fun w16 hS => ?_)
        simp only [Act.put, List.setIfInBounds_toArray, List.set_cons_zero, List.set_cons_succ]
        refine wpAnyH_done (by kernel_rfl) ?_ _
        have H1 := Lib.hid hS.2
        have HR1 := Lib.hid hS.1.op
        have HV1 := Lib.hid hS.1.box
        clear hS
        go_wp2_with (first | (refine wpList_run rfl (exec_idxO (i := k) rfl rfl rfl rfl hlt) ?_) | (refine wpList_run rfl (exec_ldO (p := x) rfl rfl HR1.out) ?_) | (refine wpList_run rfl (exec_bsO (p := x) rfl rfl) ?_) | (at_builtin; refine wpList_appendG 22 40 23 84 info40b und22 rfl (by decide) (by decide) rfl rfl rfl rfl (HW.out.below (H1.out.trans ((below_one w16 _).mono H1.out.size))) (Blk.new w16 40 x.arr) x.arr_size (one_cs x) (by have := HM.out; have := List.length_filter_le (fun o => V.hasB v o.r o.s) (l.take k); have := List.length_take_le k l; omega) (by have := HB.out.size; have := H1.out.size; simp; omega) ?_; intro a3 cap3 w3 ho3 hk3 hl3))
        have HE := Lib.hid (out_app HM.out HX.out hlt hh HW.out HB.out (H1.out.trans ((below_one w16 _).mono H1.out.size)) (OwnO.snoc ho3) hk3)
        have HV3 : Hid (Blk w3 w.heap.size 25 v.arr) := Lib.hid ((HV1.out.below (below_one w16 _)).kept hk3 (fun ⟨ad, had, e⟩ => by
          have hg := (HW.out.lt ad had)
          have hne : ad.block ≠ w.heap.size := fun e2 => by
            rcases HW.out.row.2 with ⟨h0, _⟩ | ⟨g', c', cur, hv', _, hgb, _⟩
            · rw [had] at h0; cases h0
            · rw [had] at hv'
              cases hv'
              have h5 := HV.out
              unfold Blk at h5
              simp only at e2
              rw [e2, h5] at hgb
              cases hgb
          exact hne e.symm))
        clear ho3 hk3 hl3 hh
        go_roundw
        case rel => exact ⟨HE.out, HV3.out⟩
        case measure => simp [numI]; omega
    · obtain rfl : k = n := by omega
      have HE : Hid (OpsP (Fold.under l v) w (.returned (.slice a' m cap')) wr) := by
        have hm := HM.out
        have ho := HW.out
        rw [List.take_of_length_le (by rw [HLEN.out]; omega)] at hm ho
        subst hm
        exact Lib.hid ⟨a', cap', rfl, ho, HB.out⟩
      go_wp2_with fail
      go_ret
      exact HE.out

/-! has. -/
structure Rh (w W : World) (r s b off : Nat) (x : O) : Prop where
  dot : Blk W w.heap.size 38 #[.int .u8 (r : Int), .int .u32 (s : Int)]
  op : W.rangeAt b off x.cs
def RhR (w : World) (a : Option Addr) (n : Nat) (l : List O) (r s : Nat) (u : Value) (W : World) : Prop := ∃ k : Nat, u = .int .i64 (k : Int) ∧ k ≤ n ∧ Hid (∀ o ∈ l.take k, ¬ (o.r = r ∧ o.s = s)) ∧ Hid (Blk W w.heap.size 38 #[.int .u8 (r : Int), .int .u32 (s : Int)]) ∧ Hid (OL W a n l) ∧ Hid (Below w.heap.size w W)
def hasD (l : List O) (r s : Nat) : Bool := l.any fun o => decide (o.r = r ∧ o.s = s)
set_option maxRecDepth 100000 in
set_option maxHeartbeats 1000000 in
theorem refhas_any {a : Option Addr} {n cap : Nat} {l : List O} {w : World} (hl : OL w a n l) (hn : n < 1000000) (r s : Nat) : Calls Try.prog 30 #[.slice a n cap, dotV r s] w (Says (.bool (hasD l r s)) w) := by
  have HL := Lib.hid (hl.below (below_one w (.cells #[.int .u8 (r : Int), .int .u32 (s : Int)] 38)))
  have HLEN := Lib.hid (OL.len' hl)
  have HD : Hid (Blk (w.alloc (.cells #[.int .u8 (r : Int), .int .u32 (s : Int)] 38)) w.heap.size 38 #[.int .u8 (r : Int), .int .u32 (s : Int)]) := Lib.hid (Blk.new _ _ _)
  have HB0 := Lib.hid (below_one w (.cells #[.int .u8 (r : Int), .int .u32 (s : Int)] 38))
  clear hl
  go_enter Try.func30, Try.ntmps30
  go_wp2_with fail
  generalize w.alloc (.cells #[.int .u8 (r : Int), .int .u32 (s : Int)] 38) = w0 at HL HD HB0
  go_loopw [5] (RhR w a n l r s) (fun u _ => n - (numI u).toNat)
  case atStart => exact ⟨0, rfl, Nat.zero_le _, Lib.hid (fun o h => by simp at h), HD, HL, HB0⟩
  case round =>
    obtain ⟨k, rfl, hk, HF, HDk, HLk, HB⟩ := hrel
    clear HD HL HB0
    by_cases hlt : k < n
    · obtain ⟨b, off, x, rfl, hx, hr⟩ := OL.at HLk.out hlt
      have HX := Lib.hid hx
      have HR : Hid (Rh w wr r s b (off + k * 23) x) := Lib.hid ⟨HDk.out, hr⟩
      clear hx hr
      go_upto_region 4 with fail
      by_cases he : x.r = r ∧ x.s = s
      · have HQ : Hid ((((x.r : Int) == (r : Int)) && ((x.s : Int) == (s : Int))) = true) := Lib.hid (by simp [he.1, he.2])
        have HE : Hid (hasD l r s = true) := Lib.hid (List.any_eq_true.2 ⟨x, List.mem_of_getElem? HX.out, decide_eq_true he⟩)
        clear he
        refine wp_region_held_drew (S := fun w' => Rh w w' r s b (off + k * 23) x) (by kernel_rfl) ⟨HR.out.dot, HR.out.op⟩ (fun hS => ?_)
        refine held_take 0 12 (.slice (some ⟨b, off, none⟩) n cap) rfl rfl (by kernel_rfl) (by kernel_rfl) (by kernel_rfl) (fun _ _ _ h => h) (by kernel_rfl) (fun _ _ => rfl) hS ?_
        simp only [Act.put, List.setIfInBounds_toArray, List.set_cons_zero, List.set_cons_succ]
        refine held_take 1 13 (.int .i64 (k : Int)) rfl rfl (by kernel_rfl) (by kernel_rfl) (by kernel_rfl) (fun _ _ _ h => h) (by kernel_rfl) (fun _ _ => rfl) hS ?_
        simp only [Act.put, List.setIfInBounds_toArray, List.set_cons_zero, List.set_cons_succ]
        refine held_take 2 14 (.pointer (some ⟨b, off + k * 23, none⟩)) rfl rfl (by kernel_rfl) (by kernel_rfl) (by kernel_rfl) (fun _ _ _ h => h) (by kernel_rfl) (fun _ _ => exec_idxO (i := k) rfl rfl rfl rfl hlt) hS ?_
        simp only [Act.put, List.setIfInBounds_toArray, List.set_cons_zero, List.set_cons_succ]
        refine held_take 3 15 (.pointer (some ⟨b, off + k * 23, none⟩)) rfl rfl (by kernel_rfl) (by kernel_rfl) (by kernel_rfl) (fun _ _ _ h => h) (by kernel_rfl) (fun _ _ => (by kernel_rfl)) hS ?_
        simp only [Act.put, List.setIfInBounds_toArray, List.set_cons_zero, List.set_cons_succ]
        refine held_take 4 16 (dotV x.r x.s) rfl rfl (by kernel_rfl) (by kernel_rfl) (by kernel_rfl) (fun _ _ _ h => h) (by kernel_rfl) (fun _ h => exec_dotO (p := x) rfl rfl h.op) hS ?_
        simp only [Act.put, List.setIfInBounds_toArray, List.set_cons_zero, List.set_cons_succ]
        refine held_take 5 17 (dotV r s) rfl rfl (by kernel_rfl) (by kernel_rfl) (by kernel_rfl) (fun _ _ _ h => h) (by kernel_rfl) (fun _ h => exec_load38 rfl rfl h.dot) hS ?_
        simp only [Act.put, List.setIfInBounds_toArray, List.set_cons_zero, List.set_cons_succ]
        refine held_take 6 18 (.bool true) rfl rfl (by kernel_rfl) (by kernel_rfl) (by kernel_rfl) (fun _ _ _ h => h) (by kernel_rfl) (fun _ _ => exec_eq38 rfl rfl rfl HQ.out) hS ?_
        simp only [Act.put, List.setIfInBounds_toArray, List.set_cons_zero, List.set_cons_succ]
        refine wpAnyH_done (by kernel_rfl) ?_ _
        clear hS
        go_wp2_with fail
        go_ret
        exact ⟨by rw [HE.out]; rfl, HB.out.drew⟩
      · have HQ : Hid ((((x.r : Int) == (r : Int)) && ((x.s : Int) == (s : Int))) = false) := Lib.hid (by simp; omega)
        have HFN : Hid (∀ o ∈ l.take (k + 1), ¬ (o.r = r ∧ o.s = s)) := Lib.hid (fun o ho => by
          rw [List.take_add_one, HX.out] at ho
          rcases List.mem_append.1 ho with ho | ho
          · exact HF.out o ho
          · obtain rfl : o = x := by simpa using ho
            exact he)
        clear he
        refine wp_region_held_drew (S := fun w' => Rh w w' r s b (off + k * 23) x) (by kernel_rfl) ⟨HR.out.dot, HR.out.op⟩ (fun hS => ?_)
        refine held_take 0 12 (.slice (some ⟨b, off, none⟩) n cap) rfl rfl (by kernel_rfl) (by kernel_rfl) (by kernel_rfl) (fun _ _ _ h => h) (by kernel_rfl) (fun _ _ => rfl) hS ?_
        simp only [Act.put, List.setIfInBounds_toArray, List.set_cons_zero, List.set_cons_succ]
        refine held_take 1 13 (.int .i64 (k : Int)) rfl rfl (by kernel_rfl) (by kernel_rfl) (by kernel_rfl) (fun _ _ _ h => h) (by kernel_rfl) (fun _ _ => rfl) hS ?_
        simp only [Act.put, List.setIfInBounds_toArray, List.set_cons_zero, List.set_cons_succ]
        refine held_take 2 14 (.pointer (some ⟨b, off + k * 23, none⟩)) rfl rfl (by kernel_rfl) (by kernel_rfl) (by kernel_rfl) (fun _ _ _ h => h) (by kernel_rfl) (fun _ _ => exec_idxO (i := k) rfl rfl rfl rfl hlt) hS ?_
        simp only [Act.put, List.setIfInBounds_toArray, List.set_cons_zero, List.set_cons_succ]
        refine held_take 3 15 (.pointer (some ⟨b, off + k * 23, none⟩)) rfl rfl (by kernel_rfl) (by kernel_rfl) (by kernel_rfl) (fun _ _ _ h => h) (by kernel_rfl) (fun _ _ => (by kernel_rfl)) hS ?_
        simp only [Act.put, List.setIfInBounds_toArray, List.set_cons_zero, List.set_cons_succ]
        refine held_take 4 16 (dotV x.r x.s) rfl rfl (by kernel_rfl) (by kernel_rfl) (by kernel_rfl) (fun _ _ _ h => h) (by kernel_rfl) (fun _ h => exec_dotO (p := x) rfl rfl h.op) hS ?_
        simp only [Act.put, List.setIfInBounds_toArray, List.set_cons_zero, List.set_cons_succ]
        refine held_take 5 17 (dotV r s) rfl rfl (by kernel_rfl) (by kernel_rfl) (by kernel_rfl) (fun _ _ _ h => h) (by kernel_rfl) (fun _ h => exec_load38 rfl rfl h.dot) hS ?_
        simp only [Act.put, List.setIfInBounds_toArray, List.set_cons_zero, List.set_cons_succ]
        refine held_take 6 18 (.bool false) rfl rfl (by kernel_rfl) (by kernel_rfl) (by kernel_rfl) (fun _ _ _ h => h) (by kernel_rfl) (fun _ _ => exec_eq38 rfl rfl rfl HQ.out) hS ?_
        simp only [Act.put, List.setIfInBounds_toArray, List.set_cons_zero, List.set_cons_succ]
        refine wpAnyH_done (by kernel_rfl) ?_ _
        have HDN := Lib.hid (HDk.out.below (drew_below wr))
        have HLN := Lib.hid (HLk.out.below (drew_below wr))
        have HBN : Hid (Below w.heap.size w wr.drew) := Lib.hid HB.out.drew
        clear hS
        go_wp2_with fail
        go_roundw
        case rel => exact ⟨k + 1, by go_num, hlt, HFN, HDN, HLN, HBN⟩
        case measure => simp [numI]; omega
    · obtain rfl : k = n := by omega
      have HE : Hid (hasD l r s = false) := Lib.hid (by
        have h := HF.out
        rw [List.take_of_length_le (by rw [HLEN.out]; omega)] at h
        simp only [hasD, List.any_eq_false, decide_eq_true_eq]
        exact h)
      go_wp2_with fail
      go_ret
      exact ⟨by rw [HE.out]; rfl, HB.out⟩

end Go.Proofs.Ytmibfbbkjejkmaa
