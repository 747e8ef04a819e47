/- FoldParts: carts, what a vector means, and closed, as the document says. -/
import Derived.Test.YtmibfbbkjejkmaaSm
import Derived.Test.YtmibfbbkjejkmaaCt
import Derived.Test.YtmibfbbkjejkmaaRt
import Derived.Test.YtmibfbbkjejkmaaRk
import Derived.Test.YtmibfbbkjejkmaaRows
namespace Go.Proofs.Ytmibfbbkjejkmaa
open Go.ChangeShapes Go.WideShapes Go.ChangeAt Go.RowKit Fold

theorem ops_cap {H : Type} {enc : TypeId × Value → H} {W : World} {a : Option Addr} {len cap : Nat} {d : DataW H} {p : List MemPlace}
    (h : DataW.Trod enc Try.prog W 0 (fun _ => true) true 22 (.slice a len cap) d p) : len ≤ cap := by
  obtain ⟨fuel, hf⟩ := h
  rcases Go.Deep.open_slice Try.underlying22 hf with ⟨hcs, _⟩ | ⟨x, l, c, m, n, D, Pl, hcs, _, hl, hm, hmm, _, hi⟩
  · simp [Value.cells] at hcs
    obtain ⟨rfl, rfl, rfl⟩ := hcs
    exact Nat.le_refl _
  · simp [Value.cells] at hcs
    obtain ⟨rfl, rfl, rfl⟩ := hcs
    exact hl

namespace FoldParts
structure Pt (w W : World) (a : Option Addr) (n : Nat) (l : List O) (v : V) : Prop where
  box : Blk W w.heap.size 25 v.arr
  ol : OL W a n l
  old : Below w.heap.size w W
theorem Pt.below {w W W' : World} {a : Option Addr} {n : Nat} {l : List O} {v : V} (h : Pt w W a n l v) (hb : Below W.heap.size W W') : Pt w W' a n l v := ⟨h.box.below hb, h.ol.below hb, h.old.trans (hb.mono h.old.size)⟩
set_option maxHeartbeats 8000000 in
set_option maxRecDepth 100000 in
theorem walk (a : Option Addr) (n cap : Nat) (l : List O) (v : V) (w : World) (hlen : n ≤ maxLen) (hl : OL w a n l) (hcap : n ≤ cap) : Calls Try.prog 3 #[.slice a n cap, .agg v.arr] w (Says (.bool true) w) := by
  have hb1 := fun (v : V) (w : World) => box25 v w
  have HT : Hid (Pt w (w.alloc (.cells v.arr 25)) a n l v) := Lib.hid ⟨Blk.new _ _ _, hl.below (below_one _ _), below_one _ _⟩
  have hlen2 : n ≤ 9223372036854775807 := by unfold maxLen at hlen; omega
  clear hl hlen
  go_enter Try.func3, Try.ntmps3
  go_wp2_with fail
  clear hb1
  generalize w.alloc (.cells v.arr 25) = w0 at HT
  refine (alive_any _).mono ?_
  rintro e w1 ⟨rfl, hb⟩
  have HT1 := Lib.hid (HT.out.below hb)
  clear hb HT
  by_cases hgt : 40 < n
  · go_wp2_with fail
    go_ret
    exact ⟨rfl, HT1.out.old⟩
  go_upto_region 5 with fail
  refine wp_region_held_drew (S := fun w' => Pt w w' a n l v) (by kernel_rfl) (HT1.out.below (drew_below w1)) (fun hS => ?_)
  refine held_take 0 10 (.slice a n cap) rfl rfl (by kernel_rfl) (by kernel_rfl) (by kernel_rfl) (fun _ _ _ h => h) (by kernel_rfl) (fun _ _ => rfl) hS ?_
  simp only [Act.put, List.setIfInBounds_toArray, List.set_cons_zero, List.set_cons_succ]
  refine held_take 2 12 (.slice a n cap) rfl rfl (by kernel_rfl) (by kernel_rfl) (by kernel_rfl) (fun _ _ _ h => h) (by kernel_rfl) (fun _ _ => rfl) hS ?_
  simp only [Act.put, List.setIfInBounds_toArray, List.set_cons_zero, List.set_cons_succ]
  refine held_callP 1 11 11 #[.slice a n cap] rfl (by kernel_rfl) rfl (by kernel_rfl) (by kernel_rfl) (carts_any hS.ol (by omega)) (fun e w2 hP => ?_)
  obtain ⟨a2, cap2, s2, rfl, hs2, hm2, ho2, hb2⟩ := hP
  refine ⟨_, rfl, hS.below hb2, fun hS => ?_⟩
  simp only [Act.put, List.setIfInBounds_toArray, List.set_cons_zero, List.set_cons_succ]
  refine held_callP 3 13 12 #[.slice a n cap] rfl (by kernel_rfl) rfl (by kernel_rfl) (by kernel_rfl) (refcarts_any hS.ol (by omega)) (fun e w3 hP => ?_)
  obtain ⟨a3, cap3, s3, rfl, hs3, hm3, ho3, hb3⟩ := hP
  obtain rfl : s2 = s3 := sorted_one hs2 hs3 (fun x => by rw [hm2, hm3])
  have HN : Hid (s2.length < 1000000) := Lib.hid (by
    have h1 : s2.Nodup := List.nodup_iff_pairwise_ne.2 (hs2.imp fun h => by omega)
    have := h1.length_le_of_subset (l₂ := List.range 65536) (fun x hx => List.mem_range.2 (by obtain ⟨o, _, rfl⟩ := (hm2 x).1 hx; exact o.hc))
    simp at this
    omega)
  have HG2 := Lib.hid ((ownG_of ho2).gl.below hb3)
  have HG3 := Lib.hid (ownG_of ho3).gl
  refine ⟨_, rfl, hS.below hb3, fun hS => ?_⟩
  simp only [Act.put, List.setIfInBounds_toArray, List.set_cons_zero, List.set_cons_succ]
  clear hs2 hs3 hm2 hm3 ho2 ho3 hb2 hb3
  refine held_callP 4 14 10 #[.slice a2 s2.length cap2, .slice a3 s2.length cap3] rfl (by kernel_rfl) rfl (by kernel_rfl) (by kernel_rfl) (carteq_any a2 a3 s2.length cap2 cap3 s2 _ HN.out HG2.out HG3.out) (fun e w4 hP => ?_)
  obtain ⟨rfl, hb4⟩ := hP
  refine ⟨_, rfl, hS.below hb4, fun hS => ?_⟩
  simp only [Act.put, List.setIfInBounds_toArray, List.set_cons_zero, List.set_cons_succ]
  clear HG2 HG3 HN hb4
  refine held_take 5 15 (.bool true) rfl rfl (by kernel_rfl) (by kernel_rfl) (by kernel_rfl) (fun _ _ _ h => h) (by kernel_rfl) (fun _ _ => rfl) hS ?_
  simp only [Act.put, List.setIfInBounds_toArray, List.set_cons_zero, List.set_cons_succ]
  refine held_take 6 16 (.slice a n cap) rfl rfl (by kernel_rfl) (by kernel_rfl) (by kernel_rfl) (fun _ _ _ h => h) (by kernel_rfl) (fun _ _ => rfl) hS ?_
  simp only [Act.put, List.setIfInBounds_toArray, List.set_cons_zero, List.set_cons_succ]
  refine held_take 7 17 (.agg v.arr) rfl rfl (by kernel_rfl) (by kernel_rfl) (by kernel_rfl) (fun _ _ _ h => h) (by kernel_rfl) (fun _ h => exec_load25 (v := v) rfl rfl h.box) hS ?_
  simp only [Act.put, List.setIfInBounds_toArray, List.set_cons_zero, List.set_cons_succ]
  refine held_take 9 19 (.slice a n cap) rfl rfl (by kernel_rfl) (by kernel_rfl) (by kernel_rfl) (fun _ _ _ h => h) (by kernel_rfl) (fun _ _ => rfl) hS ?_
  simp only [Act.put, List.setIfInBounds_toArray, List.set_cons_zero, List.set_cons_succ]
  refine held_take 10 20 (.agg v.arr) rfl rfl (by kernel_rfl) (by kernel_rfl) (by kernel_rfl) (fun _ _ _ h => h) (by kernel_rfl) (fun _ h => exec_load25 (v := v) rfl rfl h.box) hS ?_
  simp only [Act.put, List.setIfInBounds_toArray, List.set_cons_zero, List.set_cons_succ]
  refine held_callP 8 18 14 #[.slice a n cap, .agg v.arr] rfl (by kernel_rfl) rfl (by kernel_rfl) (by kernel_rfl) (under_any hS.ol (by omega) v) (fun e w5 hP => ?_)
  obtain ⟨a5, cap5, rfl, ho5, hb5⟩ := hP
  refine ⟨_, rfl, hS.below hb5, fun hS => ?_⟩
  simp only [Act.put, List.setIfInBounds_toArray, List.set_cons_zero, List.set_cons_succ]
  refine held_callP 11 21 15 #[.slice a n cap, .agg v.arr] rfl (by kernel_rfl) rfl (by kernel_rfl) (by kernel_rfl) (runder_any hS.ol (by omega) v) (fun e w6 hP => ?_)
  obtain ⟨a6, cap6, rfl, ho6, hb6⟩ := hP
  have HG5 := Lib.hid (ho5.gl.below hb6)
  have HG6 := Lib.hid ho6.gl
  have HN : Hid ((under l v).length < 1000000) := Lib.hid (by have := List.length_filter_le (fun o : O => V.hasB v o.r o.s) l; have := OL.len' hS.ol; unfold under; omega)
  refine ⟨_, rfl, hS.below hb6, fun hS => ?_⟩
  simp only [Act.put, List.setIfInBounds_toArray, List.set_cons_zero, List.set_cons_succ]
  clear ho5 ho6 hb5 hb6
  refine held_callP 12 22 13 #[.slice a5 (under l v).length cap5, .slice a6 (under l v).length cap6] rfl (by kernel_rfl) rfl (by kernel_rfl) (by kernel_rfl) (opseq_any a5 a6 (under l v).length cap5 cap6 (under l v) _ HN.out HG5.out HG6.out) (fun e w7 hP => ?_)
  obtain ⟨rfl, hb7⟩ := hP
  refine ⟨_, rfl, hS.below hb7, fun hS => ?_⟩
  simp only [Act.put, List.setIfInBounds_toArray, List.set_cons_zero, List.set_cons_succ]
  clear HG5 HG6 HN hb7
  refine held_take 13 23 (.bool true) rfl rfl (by kernel_rfl) (by kernel_rfl) (by kernel_rfl) (fun _ _ _ h => h) (by kernel_rfl) (fun _ _ => rfl) hS ?_
  simp only [Act.put, List.setIfInBounds_toArray, List.set_cons_zero, List.set_cons_succ]
  refine held_take 14 24 (.bool true) rfl rfl (by kernel_rfl) (by kernel_rfl) (by kernel_rfl) (fun _ _ _ h => h) (by kernel_rfl) (fun _ _ => rfl) hS ?_
  simp only [Act.put, List.setIfInBounds_toArray, List.set_cons_zero, List.set_cons_succ]
  refine held_take 15 25 (.slice a n cap) rfl rfl (by kernel_rfl) (by kernel_rfl) (by kernel_rfl) (fun _ _ _ h => h) (by kernel_rfl) (fun _ _ => rfl) hS ?_
  simp only [Act.put, List.setIfInBounds_toArray, List.set_cons_zero, List.set_cons_succ]
  refine held_take 17 27 (.slice a n cap) rfl rfl (by kernel_rfl) (by kernel_rfl) (by kernel_rfl) (fun _ _ _ h => h) (by kernel_rfl) (fun _ _ => rfl) hS ?_
  simp only [Act.put, List.setIfInBounds_toArray, List.set_cons_zero, List.set_cons_succ]
  refine held_callP 16 26 16 #[.slice a n cap] rfl (by kernel_rfl) rfl (by kernel_rfl) (by kernel_rfl) (closed_any hS.ol (by omega)) (fun e w8 hP => ?_)
  obtain ⟨b8, rfl, hc8, hb8⟩ := hP
  refine ⟨_, rfl, hS.below hb8, fun hS => ?_⟩
  simp only [Act.put, List.setIfInBounds_toArray, List.set_cons_zero, List.set_cons_succ]
  refine held_callP 18 28 17 #[.slice a n cap] rfl (by kernel_rfl) rfl (by kernel_rfl) (by kernel_rfl) (refclosed_any hS.ol (by omega) hcap) (fun e w9 hP => ?_)
  obtain ⟨b9, rfl, hc9, hb9⟩ := hP
  obtain rfl : b8 = b9 := by rw [Bool.eq_iff_iff, hc8, hc9]
  refine ⟨_, rfl, hS.below hb9, fun hS => ?_⟩
  simp only [Act.put, List.setIfInBounds_toArray, List.set_cons_zero, List.set_cons_succ]
  clear hc8 hc9 hb8 hb9
  refine held_take 19 29 (.bool true) rfl rfl (by kernel_rfl) (by kernel_rfl) (by kernel_rfl) (fun _ _ _ h => h) (by kernel_rfl) (fun _ _ => exec_eqlB Try.underlying4 rfl rfl rfl (by simp)) hS ?_
  simp only [Act.put, List.setIfInBounds_toArray, List.set_cons_zero, List.set_cons_succ]
  refine held_take 20 30 (.bool true) rfl rfl (by kernel_rfl) (by kernel_rfl) (by kernel_rfl) (fun _ _ _ h => h) (by kernel_rfl) (fun _ _ => rfl) hS ?_
  simp only [Act.put, List.setIfInBounds_toArray, List.set_cons_zero, List.set_cons_succ]
  refine held_take 21 4 (.bool true) rfl rfl (by kernel_rfl) (by kernel_rfl) (by kernel_rfl) (fun _ _ _ h => h) (by kernel_rfl) (fun _ _ => rfl) hS ?_
  simp only [Act.put, List.setIfInBounds_toArray, List.set_cons_zero, List.set_cons_succ]
  refine wpAnyH_done (by kernel_rfl) ?_ _
  have HB := Lib.hid hS.old
  clear hS
  go_wp2_with fail
  go_ret
  exact ⟨rfl, HB.out⟩

set_option maxRecDepth 100000 in
theorem lifted (os : Os) (started : os.Started) (H : Type) (enc : TypeId × Value → H) :
    ReturnsInHanded {} Try.checked os 3 .any (Rows.foldPartsSpec.pre6 enc Try.prog Try.f3 Rows.foldPartsRow.domain false) (Rows.foldPartsSpec.post enc Try.prog Try.f3 false true false false) := by
  refine returnsInHanded_of_change (C := Try.checked) own started (by kernel_rfl) Try.func3
    (ChangeSpec.witness6 (enc := enc) (C := Try.checked) false ⟨#[], #[.slice none 0 0, .agg #[.int .u32 0, .int .u32 0, .int .u32 0, .int .u32 0, .int .u32 0, .int .u32 0, .int .u32 0, .int .u32 0, .int .u32 0, .int .u32 0, .int .u32 0, .int .u32 0, .int .u32 0, .int .u32 0, .int .u32 0, .int .u32 0]], []⟩ 8 (by kernel_rfl) (by kernel_rfl) (by kernel_rfl) (by kernel_rfl)) ?_
  intro W base args ds gs before hval0 hW hcnd _
  have hval : ∀ (j : Nat) t v, Try.f3.params[j]? = some t → args[j]? = some v → Value.okWide Try.prog W .any base t v := hval0
  have hW' := hW
  obtain ⟨p, q, hA0, hV, rfl, hfz, hnd⟩ := hW
  have hA : DataW.TrodAll enc Try.prog W 0 (fun _ => true) true Try.f3.params.toList args.toList ds p := hA0
  rw [Try.params3] at hA hval
  obtain ⟨v0, v1, d0, d1, p0, p1, rfl, rfl, rfl, h0, h1⟩ := trodAll_two hA
  obtain ⟨rfl, rfl⟩ := trodVars_none hV
  have lt0 : ∀ x ∈ p0, x.block < W.heap.size := by obtain ⟨m, hm⟩ := h0; exact DataW.trod_lt m _ _ _ hm
  obtain ⟨ab, nb, cb, rfl⟩ := okWide_slice Try.underlying22 (hval 0 22 v0 rfl rfl)
  obtain ⟨hl0, l0, hR0⟩ := ops_of h0
  have lt1 : ∀ x ∈ p1, x.block < W.heap.size := by obtain ⟨m, hm⟩ := h1; exact DataW.trod_lt m _ _ _ hm
  obtain ⟨a1, rfl⟩ := vec_of (hval 1 25 v1 rfl rfl) h1
  clear hA0 hval0
  refine (walk ab nb cb l0 a1 W hl0 hR0 (ops_cap h0)).mono fun e W' ⟨he, bel⟩ => ?_
  subst he
  exact ⟨_, rfl, _, _, _, [], _, [], hW', trodAll_mk1 (shut_bool Try.underlying4 _), trodAll_mk2 (Below.trod laidOut (by kernel_rfl) (of_decide_eq_true (by kernel_rfl)) h0 bel lt0) (Below.trod laidOut (by kernel_rfl) (of_decide_eq_true (by kernel_rfl)) h1 bel lt1), rfl, bel.frame _, fun h => by cases h⟩
end FoldParts

theorem foldParts_proved : Rows.FoldPartsSaid :=
  OpenClaim.holds_of_wide 3 Try.f3 rfl rfl rfl rfl rfl rfl rfl ⟨rfl, rfl, rfl, rfl, rfl⟩ rfl rfl rfl rfl rfl (by kernel_rfl) Try.func3 (by kernel_rfl)
    (of_decide_eq_true (by kernel_rfl)) (by unfold Func.isWrapper; first | (rw [if_pos (by decide +kernel)]; kernel_rfl) | (rw [if_neg (by decide +kernel)]; exact ⟨rfl, rfl⟩))
    (fun os started H enc _ => FoldParts.lifted os started H enc)
#print axioms foldParts_proved
end Go.Proofs.Ytmibfbbkjejkmaa
