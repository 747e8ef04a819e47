/- Walk of 'alive': the answers that the document fixes. -/
import Derived.Test.YtkamldmcjegjgaaRef4
namespace Go.Proofs.Ytkamldmcjegjgaa
open Go.RowKit

section
variable {ops : Array Oper} {rest : List Oper} {o : Oper} {act : Act} {Q : Exit → Act → World → Prop} {W W2 : World}
/-- An operation that is wanted, whose run is known. -/
theorem wpList_runW {v : Value} (hrun : (execOp act.eval o).run Try.prog W = .ok (.value v) W2) (hw : Region.wanted o (yielded ops act.tmps) = true)
    (k : wpList Try.prog ops Q rest (act.put o.dst v) W2) : wpList Try.prog ops Q (o :: rest) act W :=
  BigFrame.wpList_want hw fun _ hK => by
    unfold Oper.wp
    rw [hrun]
    exact hK _ _ k
end

/-- The vector with one number. -/
def lv (n : Nat) : V := V.zero.put 0 n
theorem lv_at (n : Nat) (hn : n < 4294967296) {i : Nat} (hi : i < 16) : (lv n).at_ i = if i = 0 then n else 0 := by
  rw [lv, V.put_at _ _ _ hi hn, V.zero_at]
theorem build_lv (n : Nat) (hn : n < 4294967296) (w : World) : (Instr.build 24 #[(0, .int .u32 (n : Int))]).run Try.prog w = .ok (.agg (lv n).arr) w := by
  rw [lv, ← V.arr_put V.zero (by omega) hn, zero_arr]
  kernel_rfl
theorem exec_lv {ev : Operand → Value} {o : Oper} {w : World} {n : Nat} {z : V} (hz : lv n = z) (hn : n < 4294967296) (ho : o.op = .build 24 #[(0, .const (.int .u32 (n : Int)))]) (hc : ev (.const (.int .u32 (n : Int))) = .int .u32 (n : Int)) : (execOp ev o).run Try.prog w = .ok (.value (.agg z.arr)) w := by
  subst hz
  unfold execOp
  simp only [ho]
  rw [show (#[(0, .const (.int .u32 (n : Int)))] : Array (Nat × Operand)).map (fun (i, x) => (i, ev x)) = #[(0, .int .u32 (n : Int))] by simp [hc]]
  simp only [Sem.run_bind, build_lv n hn w, Result.andThen_ok]
  rfl

/-- The numbers of such a vector. -/
def One (z : V) (n : Nat) : Prop := ∀ i, i < 16 → z.at_ i = if i = 0 then n else 0
theorem one_lv {n : Nat} {z : V} (h : lv n = z) (hn : n < 4294967296) : One z n := by subst h; exact fun i hi => lv_at n hn hi
theorem One.zero {z : V} {n : Nat} (h : One z n) : z.at_ 0 = n := h 0 (by omega)
theorem One.top {z : V} {n : Nat} (h : One z n) (hn : n ≤ 1048576) : ∀ r, r < 16 → z.at_ r ≤ 1048576 := fun r hr => by rw [h r hr]; split <;> omega
theorem One.norm {z : V} {n : Nat} (h : One z n) (hn : n ≤ 1048576) : Norm z [] := ⟨by simp [Srt], h.top hn, by simp⟩
theorem One.right {z : V} {n : Nat} (h : One z n) (hn : n ≤ 1048576) : V.rightB z 16 = true := by
  simp only [V.rightB, Bool.and_eq_true, decide_eq_true_eq]
  exact ⟨by omega, (V.rightTo_iff z 16 16).2 fun i hi => ⟨h.top hn i hi, fun h => by omega⟩⟩
theorem One.has {z : V} {n : Nat} (h : One z n) (y : Dt) : V.hasB z y.1 y.2 = true ↔ y.1 = 0 ∧ 1 ≤ y.2 ∧ y.2 ≤ 1048576 ∧ y.2 ≤ n := by
  rw [hasB_iff]
  constructor
  · rintro ⟨⟨h1, h2, h3⟩, h4⟩
    rw [h _ h1] at h4
    split at h4 <;> omega
  · rintro ⟨h1, h2, h3, h4⟩
    exact ⟨⟨by omega, h2, h3⟩, by rw [h1, h.zero]; exact h4⟩

theorem alive1 {z : V} (h : One z 2) {c1 : V} {L1 : List Dt} (ha : AddR z [] (0, 4) c1 L1) : c1 = z ∧ L1 = [(0, 4)] := by
  have he : addE z [] (0, 4) = 0 := addE_ok (by simp [V.dotB]) (by
    rw [← Bool.not_eq_true, inB_iff]
    rintro (h1 | h1)
    · have := (h.has (0, 4)).1 h1; simp at this
    · simp at h1) (by simp only; omega)
  have hA := ha.took he
  refine norm_ext hA.norm ⟨by simp [Srt], h.top (by omega), ?_⟩ fun x => ?_
  · intro x hx
    obtain rfl : x = (0, 4) := by simpa using hx
    simp only [h.zero]; omega
  · rw [hA.mem x]
    simp [In]
theorem alive1e {z : V} (h : One z 2) : addE z [] (0, 4) = 0 := addE_ok (by simp [V.dotB]) (by
    rw [← Bool.not_eq_true, inB_iff]
    rintro (h1 | h1)
    · have := (h.has (0, 4)).1 h1; simp at this
    · simp at h1) (by simp only; omega)
theorem alive2e {z : V} (h : One z 2) : addE z [(0, 4)] (0, 3) = 0 := addE_ok (by simp [V.dotB]) (by
    rw [← Bool.not_eq_true, inB_iff]
    rintro (h1 | h1)
    · have := (h.has (0, 3)).1 h1; simp at this
    · simp at h1) (by simp only; omega)
theorem norm24 {z : V} (h : One z 2) : Norm z [(0, 4)] := ⟨by simp [Srt], h.top (by omega), fun x hx => by
    obtain rfl : x = (0, 4) := by simpa using hx
    simp only [h.zero]; omega⟩
theorem alive2 {z y : V} (h : One z 2) (k : One y 4) {c2 : V} {L2 : List Dt} (ha : AddR z [(0, 4)] (0, 3) c2 L2) : c2 = y ∧ L2 = [] := by
  have hA := ha.took (alive2e h)
  refine norm_ext hA.norm (k.norm (by omega)) fun x => ?_
  rw [hA.mem x]
  unfold In
  rw [h.has x, k.has x]
  obtain ⟨r, s⟩ := x
  simp only [List.mem_singleton, List.not_mem_nil, or_false, Prod.mk.injEq]
  omega
theorem alive3 {y : V} (k : One y 4) : addE y [] (0, 3) = 8 := addE_have (by simp [V.dotB]) ((inB_iff _ _ _).2 (.inl ((k.has (0, 3)).2 (by simp))))
theorem alive4 {y : V} (k : One y 4) : inB y [] (0, 1) = true := (inB_iff _ _ _).2 (.inl ((k.has (0, 1)).2 (by simp)))
theorem alive5 {z : V} (h : One z 2) : (miss z [(0, 4)]).length = 1 := by simp [miss, h.zero, run]

theorem raw_of {r s : Nat} (hr : r < 256) (hs : s < 4294967296) : Raw (r, s) := ⟨hr, hs⟩

/-- A set in a world that came of another one. -/
structure Al (w W : World) (p m : Nat) (c : V) (L : List Dt) : Prop where
  grp : Grp W p m c L
  old : Below w.heap.size w W
  pm : w.heap.size ≤ p ∧ w.heap.size ≤ m
theorem Al.below {w W W' : World} {p m : Nat} {c : V} {L : List Dt} (h : Al w W p m c L) (hb : Below W.heap.size W W') : Al w W' p m c L := ⟨h.grp.below hb, h.old.trans (hb.mono h.old.size), h.pm⟩
theorem Al.kept {w W W' : World} {p m : Nat} {c c' : V} {L L' : List Dt} (h : Al w W p m c L) (hg : Grp W' p m c' L') (k : Kept (fun k => k = p ∨ k = m) W W') : Al w W' p m c' L' :=
  ⟨hg, h.old.trans (k.below h.old.size (fun k hk => by have := h.pm; omega)), h.pm⟩

set_option maxRecDepth 100000 in
set_option maxHeartbeats 2000000 in
theorem alive_any (w : World) : Calls Try.prog 9 #[] w (Says (.bool true) w) := by
  obtain ⟨z2, h2⟩ : ∃ z, lv 2 = z := ⟨_, rfl⟩
  obtain ⟨z4, h4⟩ : ∃ z, lv 4 = z := ⟨_, rfl⟩
  have H2 := Lib.hid h2
  have H4 := Lib.hid h4
  have O2 := Lib.hid (one_lv h2 (by omega))
  have O4 := Lib.hid (one_lv h4 (by omega))
  clear h2 h4
  go_enter Try.func9, Try.ntmps9
  go_wp2_with (refine wpList_runW (exec_lv (n := 2) H2.out (by omega) rfl rfl) (by kernel_rfl) ?_)
  refine (new_any z2 _).mono ?_
  rintro e w1 hP
  rcases hP with ⟨hr, _⟩ | ⟨_, p, m, rfl, hg, hp, hm, hb⟩
  · rw [O2.out.right (by omega)] at hr; cases hr
  have A1 := Lib.hid (show Al w w1 p m z2 [] from ⟨hg, hb, hp, hm⟩)
  clear hg hp hm hb
  go_wp2_with fail
  refine (gadd_any A1.out.grp (O2.out.norm (by omega)) (0, 4) (raw_of (by omega) (by omega)) (by simp)).mono ?_
  rintro e w2 ⟨c1, L1, rfl, ha, hg, hk⟩
  rw [alive1e O2.out]
  obtain ⟨rfl, rfl⟩ := alive1 O2.out ha
  have A2 := Lib.hid (A1.out.kept hg hk)
  clear ha hg hk A1
  go_wp2_with fail
  refine (closed_any A2.out.grp).mono ?_
  rintro e w3 ⟨rfl, hb⟩
  have A3 := Lib.hid (A2.out.below hb)
  clear hb A2
  go_wp2_with (first | (refine wpList_runW (exec_lv (n := 2) H2.out (by omega) rfl rfl) (by kernel_rfl) ?_) | (refine wpList_runW (exec_neq24 (r := false) rfl rfl rfl (by simp [V.eqB])) (by kernel_rfl) ?_))
  refine (gloose_any A3.out.grp (by simp)).mono ?_
  rintro e w4 ⟨a4, cap4, rfl, _, hb⟩
  have A4 := Lib.hid (A3.out.below hb)
  clear hb A3
  go_wp2_with fail
  refine (gmissing_any A4.out.grp (norm24 O2.out) (by simp)).mono ?_
  rintro e w5 ⟨a5, cap5, rfl, _, hb⟩
  have A5 := Lib.hid (A4.out.below hb)
  rw [alive5 O2.out]
  clear hb A4
  go_wp2_with fail
  refine (gadd_any A5.out.grp (norm24 O2.out) (0, 3) (raw_of (by omega) (by omega)) (by simp)).mono ?_
  rintro e w6 ⟨c2, L2, rfl, ha, hg, hk⟩
  rw [alive2e O2.out]
  obtain ⟨rfl, rfl⟩ := alive2 O2.out O4.out ha
  have A6 := Lib.hid (A5.out.kept hg hk)
  clear ha hg hk A5
  go_wp2_with fail
  refine (closed_any A6.out.grp).mono ?_
  rintro e w7 ⟨rfl, hb⟩
  have A7 := Lib.hid (A6.out.below hb)
  clear hb A6
  go_wp2_with (first | (refine wpList_runW (exec_lv (n := 4) H4.out (by omega) rfl rfl) (by kernel_rfl) ?_) | (refine wpList_runW (exec_eql24 (r := true) rfl rfl rfl (by simp [V.eqB])) (by kernel_rfl) ?_))
  refine (gadd_any A7.out.grp (O4.out.norm (by omega)) (0, 3) (raw_of (by omega) (by omega)) (by simp)).mono ?_
  rintro e w8 ⟨c3, L3, rfl, ha, hg, hk⟩
  obtain ⟨rfl, rfl⟩ := ha.left (by rw [alive3 O4.out]; omega)
  rw [alive3 O4.out]
  have A8 := Lib.hid (A7.out.kept hg hk)
  clear ha hg hk A7
  go_wp2_with fail
  refine (ghas_any A8.out.grp (0, 1) (raw_of (by omega) (by omega))).mono ?_
  rintro e w9 ⟨rfl, hb⟩
  rw [alive4 O4.out]
  have A9 := Lib.hid (A8.out.below hb)
  clear hb A8
  go_wp2_with fail
  refine (gloose_any A9.out.grp (by simp)).mono ?_
  rintro e w10 ⟨a10, cap10, rfl, _, hb⟩
  have A10 := Lib.hid (A9.out.below hb)
  clear hb A9
  go_wp2_with fail
  go_ret
  exact ⟨rfl, A10.out.old⟩

end Go.Proofs.Ytkamldmcjegjgaa
