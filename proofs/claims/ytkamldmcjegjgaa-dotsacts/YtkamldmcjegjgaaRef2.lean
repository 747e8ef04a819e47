/- Walk of the document's Closed of a set of dots. -/
import Derived.Test.YtkamldmcjegjgaaRef
namespace Go.Proofs.Ytkamldmcjegjgaa
open Go.RowKit

section
variable {ev : Operand → Value} {o : Oper} {w : World}
theorem exec_byte {x : Operand} {k : Nat} (ho : o.op = .convert 3 5 x) (hx : ev x = .int .i64 (k : Int)) (hk : k < 256) : (execOp ev o).run Try.prog w = .ok (.value (.int .u8 (k : Int))) w := by
  have hw : IntKind.u8.wrap (k : Int) = (k : Int) := by simp [IntKind.wrap, IntKind.bits, IntKind.signed]; omega
  unfold execOp
  simp only [ho, hx]
  go_simp
theorem exec_index24 {x y : Operand} {g k : Nat} {q : IntKind} (ho : o.op = .indexAddr 24 x y) (hx : ev x = .pointer (some ⟨g, 0, none⟩)) (hy : ev y = .int q (k : Int)) (hk : k < 16) : (execOp ev o).run Try.prog w = .ok (.value (.pointer (some ⟨g, k, none⟩))) w := by
  have h2 : (k : Int) < 16 := by omega
  have h0 : (0 : Int) ≤ (k : Int) := by omega
  unfold execOp
  simp only [ho, hx, hy]
  go_simp
theorem exec_succ {x : Operand} {t : TypeId} {y z : Nat} (ho : o.op = .binOp .add 22 x (.const (.int .u32 1)) t) (hx : ev x = .int .u32 (y : Int)) (hc : ev (.const (.int .u32 1)) = .int .u32 1) (hw : IntKind.u32.wrap ((y : Int) + 1) = (z : Int)) : (execOp ev o).run Try.prog w = .ok (.value (.int .u32 (z : Int))) w := by
  unfold execOp
  simp only [ho, hx, hc]
  go_simp
theorem exec_dot {x y : Operand} {r s : Nat} (ho : o.op = .build 34 #[(0, x), (1, y)]) (hx : ev x = .int .u8 (r : Int)) (hy : ev y = .int .u32 (s : Int)) : (execOp ev o).run Try.prog w = .ok (.value (dotV r s)) w := by
  unfold execOp
  simp only [ho]
  rw [show (#[(0, x), (1, y)] : Array (Nat × Operand)).map (fun (i, x) => (i, ev x)) = #[(0, .int .u8 (r : Int)), (1, .int .u32 (s : Int))] by simp [hx, hy]]
  kernel_rfl
end

/-- What the document's Closed has made. -/
structure Rc (w W : World) (v : V) (a : Option Addr) (n cap : Nat) (l : List Dt) (u : V) : Prop where
  grp : Blk W w.heap.size 31 (v.obj (.slice a n cap))
  ans : Blk W (w.heap.size + 1) 24 V.zero.arr
  vec : Blk W (w.heap.size + 1 + 1) 24 u.arr
  dl : DL W a n l
  old : Below w.heap.size w W
section
variable {w W W' : World} {v u : V} {a : Option Addr} {n cap : Nat} {l : List Dt}
theorem Rc.drew (h : Rc w W v a n cap l u) : Rc w W.drew v a n cap l u := ⟨h.grp, h.ans, h.vec, h.dl.drew, h.old.drew⟩
theorem Rc.below (h : Rc w W v a n cap l u) (hb : Below W.heap.size W W') : Rc w W' v a n cap l u := ⟨h.grp.below hb, h.ans.below hb, h.vec.below hb, h.dl.below hb, h.old.trans (hb.mono h.old.size)⟩
theorem Rc.put (h : Rc w W v a n cap l u) (hd : ∀ ad, a = some ad → n ≠ 0 → ad.block < w.heap.size) {r s : Nat} (hr : r < 16) (hs : s < 4294967296) : Rc w (W.setCell ⟨w.heap.size + 1 + 1, r, none⟩ (.int .u32 (s : Int))) v a n cap l (u.put r s) := by
  have k := Kept.setCell W ⟨w.heap.size + 1 + 1, r, none⟩ (.int .u32 (s : Int))
  have hb := h.vec.set r (.int .u32 (s : Int))
  rw [V.arr_put u hr hs] at hb
  exact ⟨h.grp.kept k (by simp; omega), h.ans.kept k (by simp), hb, h.dl.keep k (fun ad had hn => by have := hd ad had hn; simp; omega), h.old.trans (k.below h.old.size (fun k hk => by simp at hk; omega))⟩
theorem Rc.num (h : Rc w W v a n cap l u) {r : Nat} (hr : r < 16) : W.cell? ⟨w.heap.size + 1 + 1, r, none⟩ = some (.int .u32 (u.at_ r : Int)) := by rw [h.vec.cell, V.arr_at _ hr]
end
theorem rc_new {w : World} {v : V} {a : Option Addr} {n cap : Nat} {l : List Dt} (h : DL w a n l) : Rc w ((((w.alloc (.cells (v.obj (.slice a n cap)) 31)).alloc (.cells V.zero.arr 24)).alloc (.cells V.zero.arr 24)).setRow (w.heap.size + 1 + 1) v.arr) v a n cap l v := by
  have h1 := Blk.new w 31 (v.obj (.slice a n cap))
  have h2 := Blk.new (w.alloc (.cells (v.obj (.slice a n cap)) 31)) 24 V.zero.arr
  have h3 := Blk.new ((w.alloc (.cells (v.obj (.slice a n cap)) 31)).alloc (.cells V.zero.arr 24)) 24 V.zero.arr
  have k2 := Kept.alloc (fun _ => False) (w.alloc (.cells (v.obj (.slice a n cap)) 31)) (.cells V.zero.arr 24)
  have k3 := Kept.alloc (fun _ => False) ((w.alloc (.cells (v.obj (.slice a n cap)) 31)).alloc (.cells V.zero.arr 24)) (.cells V.zero.arr 24)
  simp only [World.size_alloc] at h2 h3
  have hb : Below w.heap.size w (((w.alloc (.cells (v.obj (.slice a n cap)) 31)).alloc (.cells V.zero.arr 24)).alloc (.cells V.zero.arr 24)) := (below_two' w _ _).alloc (by simp; omega) _
  generalize (((w.alloc (.cells (v.obj (.slice a n cap)) 31)).alloc (.cells V.zero.arr 24)).alloc (.cells V.zero.arr 24)) = W at h3 k3 hb
  have g1 := (h1.kept k2 (fun h => h)).kept k3 (fun h => h)
  have g2 := h2.kept k3 (fun h => h)
  have k := Kept.setRow W (w.heap.size + 1 + 1) v.arr
  exact ⟨g1.kept k (by omega), g2.kept k (by omega), h3.row, (h.below hb).keep k (fun ad had hn => by have := h.lt ad had hn; omega), ret_row hb (by omega)⟩

/-- A number in memory. -/
def cellNat (w : World) (p : Addr) : Nat := match w.cell? p with | some (.int _ z) => z.toNat | _ => 0

set_option maxRecDepth 100000 in
set_option maxHeartbeats 2000000 in
theorem rfclosed_any {w : World} {v : V} {a : Option Addr} {n cap : Nat} {l : List Dt} {c : V} {L : List Dt} (h : DL w a n l) (K : Link v l c L) (hn : n < 1000000) : Calls Try.prog 17 #[setV v a n cap] w (Says (.agg c.arr) w) := by
  have HT := Lib.hid (rc_new (v := v) (cap := cap) h)
  have HK := Lib.hid K
  have HLT := Lib.hid h.lt
  have hb1 := fun w => box31 (v.obj (.slice a n cap)) w
  clear h K
  go_enter Try.func17, Try.ntmps17
  go_wp2_with (first | (refine wpList_run rfl (exec_alloc24 rfl) ?_) | (refine wpList_run rfl (exec_loadv31 (v := v) rfl rfl (Blk.below (Blk.new w 31 _) (below_one _ _))) ?_) | (refine wpList_void rfl rfl (exec_store24 (u := v) rfl rfl rfl (Blk.new _ 24 V.zero.arr)) ?_))
  clear hb1
  generalize (((w.alloc (.cells (v.obj (.slice a n cap)) 31)).alloc (.cells V.zero.arr 24)).alloc (.cells V.zero.arr 24)).setRow (w.heap.size + 1 + 1) v.arr = W at HT
  go_loopw [4] (fun i wr => ∃ (k : Nat) (u : V), k ≤ 16 ∧ i = .int .i64 (k : Int) ∧ Hid (Rc w wr v a n cap l u) ∧ Hid (∀ j, j < 16 → u.at_ j = if j < k then c.at_ j else v.at_ j)) (fun i _ => 16 - (intOf i).toNat)
  case atStart => exact ⟨0, v, by omega, rfl, HT, Lib.hid (fun j _ => by simp)⟩
  case round =>
    obtain ⟨k, u0, hk, rfl, HR0, HU0⟩ := hrel
    by_cases hlt : k < 16
    · go_wp2_with fail
      have HS0 : Hid (Rc w wr v a n cap l u0 ∧ (∀ j, j < 16 → j ≠ k → u0.at_ j = if j < k then c.at_ j else v.at_ j) ∧ u0.at_ k ≤ c.at_ k) := Lib.hid ⟨HR0.out, fun j hj _ => HU0.out j hj, by rw [HU0.out k hlt, if_neg (by omega)]; exact HK.out.below hlt⟩
      go_loopw [11] (fun _ wr => ∃ (u : V), Hid (Rc w wr v a n cap l u ∧ (∀ j, j < 16 → j ≠ k → u.at_ j = if j < k then c.at_ j else v.at_ j) ∧ u.at_ k ≤ c.at_ k)) (fun _ wr => c.at_ k - cellNat wr ⟨w.heap.size + 1 + 1, k, none⟩)
      case atStart => exact ⟨u0, HS0⟩
      case round =>
        obtain ⟨u, HS⟩ := hrel
        have hct := HK.out.norm.top k hlt
        have huc := HS.out.2.2
        obtain ⟨y, hy⟩ : ∃ y, u.at_ k = y := ⟨_, rfl⟩
        obtain ⟨z, hz⟩ : ∃ z, y + 1 = z := ⟨_, rfl⟩
        have hw1 := wrap_succ (y := y) (by omega)
        rw [hz] at hw1
        have HY := Lib.hid hy
        have HZ := Lib.hid hz
        have hz32 : z < 4294967296 := by omega
        have hk256 : k < 256 := by omega
        have HIN : Hid (rin v l (k, z) = decide (y < c.at_ k)) := Lib.hid (by
          rw [Bool.eq_iff_iff, ← HK.out.same, decide_eq_true_iff]
          constructor
          · intro hin
            rcases Nat.lt_or_ge y (c.at_ k) with h1 | h1
            · exact h1
            · have : y = c.at_ k := by omega
              rw [← hz, this] at hin
              exact absurd hin (HK.out.norm.not_next k)
          · intro h1
            exact .inl ((hasB_iff _ _ _).2 ⟨⟨hlt, by simp only; omega, by simp only; omega⟩, by simp only; omega⟩))
        have HW1 := Lib.hid hw1
        clear hy hz hct hw1
        by_cases hyc : y < c.at_ k
        · rw [decide_eq_true hyc] at HIN
          go_wp2_with fail
          refine wp_region_held_drew (S := fun w' => Rc w w' v a n cap l u) (by kernel_rfl) HS.out.1.drew (fun hS => ?_)
          refine held_take 0 11 (setV v a n cap) rfl rfl (by kernel_rfl) (by kernel_rfl) (by kernel_rfl) (fun _ _ _ h => h) (by kernel_rfl) (fun _ h => exec_load31 rfl rfl h.grp) hS ?_
          simp only [Act.put, List.setIfInBounds_toArray, List.set_cons_zero, List.set_cons_succ]
          refine held_take 1 12 (.int .i64 (k : Int)) rfl rfl (by kernel_rfl) (by kernel_rfl) (by kernel_rfl) (fun _ _ _ h => h) (by kernel_rfl) (fun _ _ => rfl) hS ?_
          simp only [Act.put, List.setIfInBounds_toArray, List.set_cons_zero, List.set_cons_succ]
          refine held_take 2 13 (.int .u8 (k : Int)) rfl rfl (by kernel_rfl) (by kernel_rfl) (by kernel_rfl) (fun _ _ _ h => h) (by kernel_rfl) (fun _ _ => exec_byte rfl rfl hk256) hS ?_
          simp only [Act.put, List.setIfInBounds_toArray, List.set_cons_zero, List.set_cons_succ]
          refine held_take 3 14 (.int .i64 (k : Int)) rfl rfl (by kernel_rfl) (by kernel_rfl) (by kernel_rfl) (fun _ _ _ h => h) (by kernel_rfl) (fun _ _ => rfl) hS ?_
          simp only [Act.put, List.setIfInBounds_toArray, List.set_cons_zero, List.set_cons_succ]
          refine held_take 4 15 (.pointer (some ⟨w.heap.size + 1 + 1, k, none⟩)) rfl rfl (by kernel_rfl) (by kernel_rfl) (by kernel_rfl) (fun _ _ _ h => h) (by kernel_rfl) (fun _ _ => exec_index24 rfl rfl rfl hlt) hS ?_
          simp only [Act.put, List.setIfInBounds_toArray, List.set_cons_zero, List.set_cons_succ]
          refine held_take 5 16 (.int .u32 (y : Int)) rfl rfl (by kernel_rfl) (by kernel_rfl) (by kernel_rfl) (fun _ _ _ h => h) (by kernel_rfl) (fun _ h => exec_cell rfl rfl (load_cell agg22 (HY.out ▸ h.num hlt))) hS ?_
          simp only [Act.put, List.setIfInBounds_toArray, List.set_cons_zero, List.set_cons_succ]
          refine held_take 6 17 (.int .u32 (z : Int)) rfl rfl (by kernel_rfl) (by kernel_rfl) (by kernel_rfl) (fun _ _ _ h => h) (by kernel_rfl) (fun _ _ => exec_succ rfl rfl rfl HW1.out) hS ?_
          simp only [Act.put, List.setIfInBounds_toArray, List.set_cons_zero, List.set_cons_succ]
          refine held_take 7 18 (dotV k z) rfl rfl (by kernel_rfl) (by kernel_rfl) (by kernel_rfl) (fun _ _ _ h => h) (by kernel_rfl) (fun _ _ => exec_dot rfl rfl rfl) hS ?_
          simp only [Act.put, List.setIfInBounds_toArray, List.set_cons_zero, List.set_cons_succ]
          refine held_call 8 19 13 #[(setV v a n cap), (dotV k z)] (.bool true) rfl (by kernel_rfl) rfl (by kernel_rfl) (by kernel_rfl) (HIN.out ▸ rfhas_any hS.dl k z hk256 hz32 hn) (fun _ h hb => h.below hb) hS (fun w108 hS => ?_)
          simp only [Act.put, List.setIfInBounds_toArray, List.set_cons_zero, List.set_cons_succ]
          refine wpAnyH_done (by kernel_rfl) ?_ _
          have c3 := hS.num hlt
          have f3 := hS.vec.frozen k
          rw [HY.out] at c3
          have HRS := Lib.hid hS
          clear hS
          have hw1 := HW1.out
          go_wp2_with fail
          have HP := Lib.hid (HRS.out.put HLT.out hlt hz32)
          go_roundw
          case rel =>
            refine ⟨u.put k z, Lib.hid ⟨HP.out, fun j hj hne => ?_, ?_⟩⟩
            · rw [V.put_at u k z hj hz32, if_neg hne]; exact HS.out.2.1 j hj hne
            · rw [V.put_at u k z hlt hz32, if_pos rfl]; have := HZ.out; omega
          case measure =>
            have e1 : cellNat (w108.setCell ⟨w.heap.size + 1 + 1, k, none⟩ (.int .u32 (z : Int))) ⟨w.heap.size + 1 + 1, k, none⟩ = z := by
              have := HP.out.num hlt
              rw [V.put_at u k z hlt hz32, if_pos rfl] at this
              simp [cellNat, this]
            have e2 : cellNat wr ⟨w.heap.size + 1 + 1, k, none⟩ = y := by
              have := HS.out.1.num hlt
              rw [HY.out] at this
              simp [cellNat, this]
            have := HZ.out
            rw [e1, e2]
            omega
        · rw [decide_eq_false hyc] at HIN
          go_wp2_with fail
          refine wp_region_held_drew (S := fun w' => Rc w w' v a n cap l u) (by kernel_rfl) HS.out.1.drew (fun hS => ?_)
          refine held_take 0 11 (setV v a n cap) rfl rfl (by kernel_rfl) (by kernel_rfl) (by kernel_rfl) (fun _ _ _ h => h) (by kernel_rfl) (fun _ h => exec_load31 rfl rfl h.grp) hS ?_
          simp only [Act.put, List.setIfInBounds_toArray, List.set_cons_zero, List.set_cons_succ]
          refine held_take 1 12 (.int .i64 (k : Int)) rfl rfl (by kernel_rfl) (by kernel_rfl) (by kernel_rfl) (fun _ _ _ h => h) (by kernel_rfl) (fun _ _ => rfl) hS ?_
          simp only [Act.put, List.setIfInBounds_toArray, List.set_cons_zero, List.set_cons_succ]
          refine held_take 2 13 (.int .u8 (k : Int)) rfl rfl (by kernel_rfl) (by kernel_rfl) (by kernel_rfl) (fun _ _ _ h => h) (by kernel_rfl) (fun _ _ => exec_byte rfl rfl hk256) hS ?_
          simp only [Act.put, List.setIfInBounds_toArray, List.set_cons_zero, List.set_cons_succ]
          refine held_take 3 14 (.int .i64 (k : Int)) rfl rfl (by kernel_rfl) (by kernel_rfl) (by kernel_rfl) (fun _ _ _ h => h) (by kernel_rfl) (fun _ _ => rfl) hS ?_
          simp only [Act.put, List.setIfInBounds_toArray, List.set_cons_zero, List.set_cons_succ]
          refine held_take 4 15 (.pointer (some ⟨w.heap.size + 1 + 1, k, none⟩)) rfl rfl (by kernel_rfl) (by kernel_rfl) (by kernel_rfl) (fun _ _ _ h => h) (by kernel_rfl) (fun _ _ => exec_index24 rfl rfl rfl hlt) hS ?_
          simp only [Act.put, List.setIfInBounds_toArray, List.set_cons_zero, List.set_cons_succ]
          refine held_take 5 16 (.int .u32 (y : Int)) rfl rfl (by kernel_rfl) (by kernel_rfl) (by kernel_rfl) (fun _ _ _ h => h) (by kernel_rfl) (fun _ h => exec_cell rfl rfl (load_cell agg22 (HY.out ▸ h.num hlt))) hS ?_
          simp only [Act.put, List.setIfInBounds_toArray, List.set_cons_zero, List.set_cons_succ]
          refine held_take 6 17 (.int .u32 (z : Int)) rfl rfl (by kernel_rfl) (by kernel_rfl) (by kernel_rfl) (fun _ _ _ h => h) (by kernel_rfl) (fun _ _ => exec_succ rfl rfl rfl HW1.out) hS ?_
          simp only [Act.put, List.setIfInBounds_toArray, List.set_cons_zero, List.set_cons_succ]
          refine held_take 7 18 (dotV k z) rfl rfl (by kernel_rfl) (by kernel_rfl) (by kernel_rfl) (fun _ _ _ h => h) (by kernel_rfl) (fun _ _ => exec_dot rfl rfl rfl) hS ?_
          simp only [Act.put, List.setIfInBounds_toArray, List.set_cons_zero, List.set_cons_succ]
          refine held_call 8 19 13 #[(setV v a n cap), (dotV k z)] (.bool false) rfl (by kernel_rfl) rfl (by kernel_rfl) (by kernel_rfl) (HIN.out ▸ rfhas_any hS.dl k z hk256 hz32 hn) (fun _ h hb => h.below hb) hS (fun w108 hS => ?_)
          simp only [Act.put, List.setIfInBounds_toArray, List.set_cons_zero, List.set_cons_succ]
          refine wpAnyH_done (by kernel_rfl) ?_ _
          have HRS := Lib.hid hS
          clear hS
          go_wp2_with fail
          go_roundw
          case rel =>
            refine ⟨k + 1, u, by omega, by go_num, HRS, Lib.hid (fun j hj => ?_)⟩
            by_cases e : j = k
            · subst e
              rw [if_pos (by omega)]
              have := HY.out
              omega
            · rw [HS.out.2.1 j hj e]
              by_cases h1 : j < k
              · rw [if_pos h1, if_pos (by omega)]
              · rw [if_neg h1, if_neg (by omega)]
          case measure => simp [intOf]; omega
    · obtain rfl : k = 16 := by omega
      have HC : Hid (u0 = c) := Lib.hid (V.ext fun j hj => by rw [HU0.out j hj, if_pos hj])
      go_wp2_with (first | (refine wpList_load24 rfl rfl rfl HR0.out.vec ?_) | (refine wpList_store24 rfl rfl rfl rfl HR0.out.ans ?_))
      exact bodyPost_ret (ret24 rfl rfl (Blk.row HR0.out.ans)) rfl ⟨by rw [HC.out], ret_row HR0.out.old (by omega)⟩

end Go.Proofs.Ytkamldmcjegjgaa
