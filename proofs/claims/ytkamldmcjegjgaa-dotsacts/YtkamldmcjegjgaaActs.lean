/- DotsActs: a set answers every call, in every order, as the document says. No condition. -/
import Derived.Test.YtkamldmcjegjgaaSb
namespace Go.Proofs.Ytkamldmcjegjgaa
open Go.ChangeShapes Go.WideShapes Go.ChangeAt Go.RowKit

/-- Dots lie in no block of a set. -/
theorem DL.ne_obj {w : World} {a : Option Addr} {n : Nat} {l : List Dt} (h : DL w a n l) (hn : n ≠ 0) {g : Nat} {t : TypeId} {z : V} {y : Value} (hb : Blk w g t (z.obj y)) (hy : ∀ k, y ≠ .int .u8 k) : ∀ ad, a = some ad → ad.block ≠ g := by
  intro ad had e
  obtain ⟨b, off, ha, hc⟩ := h.cells.resolve_left hn
  rw [had] at ha
  obtain rfl := Option.some.inj ha
  simp only at e
  subst e
  have hl : 0 < l.length := by rw [h.len]; omega
  have h1 := (hc 0 _ (List.getElem?_eq_getElem hl)).1
  rw [hb.cell] at h1
  generalize off + 0 * 2 = i at h1
  by_cases hi : i < 16
  · rw [push_at z y hi] at h1
    simp at h1
  · by_cases h16 : i = 16
    · subst h16
      rw [push_last] at h1
      exact hy _ (Option.some.inj h1)
    · rw [Array.getElem?_eq_none (by rw [obj_size]; omega)] at h1
      cases h1
theorem DL.ne_mp {w : World} {a : Option Addr} {n : Nat} {l : List Dt} (h : DL w a n l) (hn : n ≠ 0) {m : Nat} {L : List Dt} (hm : Mp w m L) : ∀ ad, a = some ad → ad.block ≠ m := by
  intro ad had e
  obtain ⟨b, off, ha, hc⟩ := h.cells.resolve_left hn
  rw [had] at ha
  obtain rfl := Option.some.inj ha
  simp only at e
  subst e
  have hl : 0 < l.length := by rw [h.len]; omega
  have h1 := (hc 0 _ (List.getElem?_eq_getElem hl)).1
  obtain ⟨D, k, ⟨es, clock, hb, _⟩, _⟩ := hm
  simp [World.cell?, hb] at h1

namespace DotsActs
/-- What the law reads: the dots that came in, and the document's set. -/
structure Ax (w W : World) (p m : Nat) (v : V) (a : Option Addr) (n : Nat) (l : List Dt) (q : Nat) (am : Option Addr) (nm cm : Nat) (lm : List Dt) : Prop where
  arg : DL W a n l
  set : Blk W q 31 (v.obj (.slice am nm cm))
  ml : DL W am nm lm
  old : Below w.heap.size w W
  alt : ∀ ad, a = some ad → n ≠ 0 → ad.block < w.heap.size
  pm : w.heap.size < p ∧ w.heap.size < m ∧ p < W.heap.size ∧ m < W.heap.size
  qg : w.heap.size < q ∧ q ≠ p ∧ q ≠ m
  mz : am = none → nm = 0 ∧ cm = 0
  msp : ∀ ad, am = some ad → ad.spot = none
section
variable {w W W' : World} {p m : Nat} {v : V} {a : Option Addr} {n : Nat} {l : List Dt} {q : Nat} {am : Option Addr} {nm cm : Nat} {lm : List Dt}
theorem Ax.below (h : Ax w W p m v a n l q am nm cm lm) (hb : Below W.heap.size W W') : Ax w W' p m v a n l q am nm cm lm :=
  ⟨h.arg.below hb, h.set.below hb, h.ml.below hb, h.old.trans (hb.mono h.old.size), h.alt, by have := h.pm; have := hb.size; omega, h.qg, h.mz, h.msp⟩
theorem Ax.drew (h : Ax w W p m v a n l q am nm cm lm) : Ax w W.drew p m v a n l q am nm cm lm :=
  ⟨h.arg.drew, h.set, h.ml.drew, h.old.drew, h.alt, h.pm, h.qg, h.mz, h.msp⟩
theorem Ax.kept (h : Ax w W p m v a n l q am nm cm lm) {c : V} {L : List Dt} (hg : Grp W p m c L) (hk : Kept (fun k => k = p ∨ k = m) W W') : Ax w W' p m v a n l q am nm cm lm := by
  have h1 := h.pm
  have h2 := h.qg
  refine ⟨h.arg.keep hk (fun ad had hn => by have := h.alt ad had hn; omega), h.set.kept hk (by omega), h.ml.keep hk (by rintro ad had hn (e | e); exact h.ml.ne_obj hn hg.blk (by simp) ad had e; exact h.ml.ne_mp hn hg.mp ad had e), h.old.trans (hk.below h.old.size (fun i hi => by omega)), h.alt, by have := hk.size; omega, h.qg, h.mz, h.msp⟩
theorem Ax.cells (h : Ax w W p m v a n l q am nm cm lm) {k : Nat} {x : Dt} {b1 o1 : Nat} (ha : a = some ⟨b1, o1, none⟩) (hx : l[k]? = some x) (hn : n ≠ 0) : W.cell? ⟨b1, o1 + k * 2, none⟩ = some (.int .u8 (x.1 : Int)) ∧ W.cell? ⟨b1, o1 + k * 2 + 1, none⟩ = some (.int .u32 (x.2 : Int)) := by
  obtain ⟨b2, o2, e, hc⟩ := h.arg.cells.resolve_left hn
  rw [ha] at e
  cases e
  exact hc k x hx
/-- The document's set laid down anew. -/
theorem Ax.set_ (h : Ax w W p m v a n l q am nm cm lm) {am' : Option Addr} {nm' cm' : Nat} {lm' : List Dt} (hml : DL W am' nm' lm') (hz : am' = none → nm' = 0 ∧ cm' = 0) (hsp : ∀ ad, am' = some ad → ad.spot = none) :
    Ax w (W.setRow q (v.obj (.slice am' nm' cm'))) p m v a n l q am' nm' cm' lm' := by
  have hk := Kept.setRow W q (v.obj (.slice am' nm' cm'))
  have h2 := h.qg
  refine ⟨h.arg.keep hk (fun ad had hn => by have := h.alt ad had hn; omega), h.set.row, hml.keep hk (fun ad had hn => hml.ne_obj hn h.set (by simp) ad had), h.old.trans (hk.below h.old.size (fun i hi => by omega)), h.alt, by have := h.pm; have := hk.size; omega, h.qg, hz, hsp⟩
end

/-- The answer of the document's Add laid down. -/
structure Ay (w W : World) (p m : Nat) (v : V) (a : Option Addr) (n : Nat) (l : List Dt) (q : Nat) (am : Option Addr) (nm cm : Nat) (lm : List Dt) (g : Nat) (a' : Option Addr) (n' c' : Nat) (lm' : List Dt) : Prop where
  ax : Ax w W p m v a n l q am nm cm lm
  ans : Blk W g 31 (v.obj (.slice a' n' c'))
  ml : DL W a' n' lm'

theorem ay_new {w W : World} {p m : Nat} {v : V} {a : Option Addr} {n : Nat} {l : List Dt} {q : Nat} {am : Option Addr} {nm cm : Nat} {lm : List Dt} (h : Ax w W p m v a n l q am nm cm lm) {a' : Option Addr} {n' c' : Nat} {lm' : List Dt} (hml : DL W a' n' lm') :
    Ay w ((W.alloc (.cells (V.zero.obj (.slice none 0 0)) 31)).setRow W.heap.size (v.obj (.slice a' n' c'))) p m v a n l q am nm cm lm W.heap.size a' n' c' lm' := by
  have hb : Below W.heap.size W ((W.alloc (.cells (V.zero.obj (.slice none 0 0)) 31)).setRow W.heap.size (v.obj (.slice a' n' c'))) := ret_row (below_one W _) (Nat.le_refl _)
  exact ⟨h.below hb, (Blk.new W 31 _).row, hml.below hb⟩
theorem ay_set {w W : World} {p m : Nat} {v : V} {a : Option Addr} {n : Nat} {l : List Dt} {q : Nat} {am : Option Addr} {nm cm : Nat} {lm : List Dt} (h : Ax w W p m v a n l q am nm cm lm) {a' : Option Addr} {n' c' : Nat} {lm' : List Dt} {g : Nat} (hml : DL W a' n' lm') (hg : Blk W g 31 (V.zero.obj (.slice none 0 0))) (hgg : w.heap.size < g)
    (hq : q < g) : Ay w (W.setRow g (v.obj (.slice a' n' c'))) p m v a n l q am nm cm lm g a' n' c' lm' := by
  have hk := Kept.setRow W g (v.obj (.slice a' n' c'))
  exact ⟨⟨h.arg.keep hk (fun ad had hn => by have := h.alt ad had hn; omega), h.set.kept hk (by omega), h.ml.keep hk (fun ad had hn => h.ml.ne_obj hn hg (by simp) ad had), h.old.trans (hk.below h.old.size (fun i hi => by omega)), h.alt, by have := h.pm; have := hk.size; omega, h.qg, h.mz, h.msp⟩, hg.row, hml.keep hk (fun ad had hn => hml.ne_obj hn hg (by simp) ad had)⟩

theorem build31 (v : V) (w : World) : (Instr.build 31 #[(0, .agg v.arr)]).run Try.prog w = .ok (.agg (v.obj (.slice none 0 0))) w := by
  obtain ⟨l, hl, hb⟩ := v
  obtain ⟨a0, a1, a2, a3, a4, a5, a6, a7, a8, a9, a10, a11, a12, a13, a14, a15, rfl⟩ := sixteen hl
  kernel_rfl
theorem exec_build31 {ev : Operand → Value} {o : Oper} {x : Operand} {v : V} {w : World} (ho : o.op = .build 31 #[(0, x)]) (hx : ev x = .agg v.arr) : (execOp ev o).run Try.prog w = .ok (.value (.agg (v.obj (.slice none 0 0)))) w := by
  have h := build31 v w
  unfold execOp
  simp only [ho]
  rw [show (#[(0, x)] : Array (Nat × Operand)).map (fun (i, x) => (i, ev x)) = #[(0, .agg v.arr)] by simp [hx]]
  simp only [Sem.run_bind, h, Result.andThen_ok]
  rfl

theorem miss_raw {c : V} {L : List Dt} (h : Norm c L) : ∀ x ∈ miss c L, Raw x := fun x hx => by
  obtain ⟨_, _, z, hz, e, h2⟩ := (mem_miss L c h.srt h.abv x).1 hx
  obtain ⟨h3, h4, _⟩ := h.mem z hz
  exact ⟨by omega, by omega⟩

theorem same_true {w' : World} {x y : Option Addr} {cx cy : Nat} {z : List Dt} (h1 : DL w' x z.length z) (h2 : DL w' y z.length z) (hz : z.length < 4611686018427387904) : Calls Try.prog 18 #[.slice x z.length cx, .slice y z.length cy] w' (Says (.bool true) w') := by
  have := same_any (ca := cx) (cb := cy) h1 h2 hz hz
  rwa [decide_eq_true rfl] at this

set_option maxHeartbeats 8000000 in
set_option maxRecDepth 100000 in
theorem walk (v : V) (ab : Option Addr) (nb cb : Nat) (l : List Dt) (w : World) (_hl : nb ≤ maxLen) (hR : DL w ab nb l) : Calls Try.prog 3 #[.agg v.arr, .slice ab nb cb] w (Says (.bool true) w) := by
  have HRR := Lib.hid (fun w => rright_any v 16 w (by omega) (by omega))
  have hb1 := fun (v : V) (w : World) => box24 v w
  have HO := Lib.hid (Blk.new w 24 v.arr)
  have HB0 := Lib.hid (below_one w (.cells v.arr 24))
  have HDL := Lib.hid hR
  clear hR
  go_enter Try.func3, Try.ntmps3
  go_wp2_with fail
  clear hb1
  generalize w.alloc (.cells v.arr 24) = W at HO HB0
  refine (alive_any _).mono ?_
  rintro e w1 ⟨rfl, hb⟩
  have HO1 := Lib.hid (HO.out.below hb)
  have HB1 := Lib.hid (HB0.out.trans (hb.mono HB0.out.size))
  clear hb HO HB0
  go_wp2_with (refine wpList_runW (exec_load24 rfl rfl HO1.out) (by kernel_rfl) ?_)
  refine (new_any v _).mono ?_
  rintro e w2 hP
  rcases hP with ⟨hrt, rfl, hb⟩ | ⟨hrt, p, m, rfl, hg, hp, hm, hb⟩
  · rw [hrt] at HRR
    have HO2 := Lib.hid (HO1.out.below hb)
    have HB2 := Lib.hid (HB1.out.trans (hb.mono HB1.out.size))
    clear hb hrt
    go_wp2_with (refine wpList_runW (exec_load24 rfl rfl HO2.out) (by kernel_rfl) ?_)
    refine (HRR.out _).mono ?_
    rintro e w3 ⟨rfl, hb⟩
    have HO3 := Lib.hid (HO2.out.below hb)
    have HB3 := Lib.hid (HB2.out.trans (hb.mono HB2.out.size))
    clear hb
    go_wp2_with (first | (refine wpList_runW (exec_load24 rfl rfl HO3.out) (by kernel_rfl) ?_) | (refine wpList_run rfl (exec_build31 (v := v) rfl rfl) ?_) | (refine wpList_run rfl (exec_alloc31 rfl) ?_) | (refine wpList_void rfl rfl (exec_store31 (u := v) rfl rfl rfl (Blk.new w3 31 _) rfl) ?_))
    have HB4 : Hid (Below w.heap.size w ((w3.alloc (.cells (V.zero.obj (.slice none 0 0)) 31)).setRow w3.heap.size (v.obj (.slice none 0 0)))) := Lib.hid (HB3.out.trans ((ret_row (below_one w3 _) (Nat.le_refl _)).mono HB3.out.size))
    generalize (w3.alloc (.cells (V.zero.obj (.slice none 0 0)) 31)).setRow w3.heap.size (v.obj (.slice none 0 0)) = W4 at HB4
    go_loop [7] (fun i => i = .int .i64 0) (fun _ => 0)
    case atStart => rfl
    case round =>
      subst hrel
      go_wp2_with fail
      go_ret
      exact ⟨rfl, HB4.out⟩
  · rw [hrt] at HRR
    have HO2 := Lib.hid (HO1.out.below hb)
    have HB2 := Lib.hid (HB1.out.trans (hb.mono HB1.out.size))
    have HG2 := Lib.hid hg
    have HPM : Hid (w.heap.size < p ∧ w.heap.size < m) := Lib.hid (by have := HO1.out.lt; omega)
    have HTOP := Lib.hid (right_top hrt)
    clear hb hrt hg hp hm
    go_wp2_with (refine wpList_runW (exec_load24 rfl rfl HO2.out) (by kernel_rfl) ?_)
    refine (HRR.out _).mono ?_
    rintro e w3 ⟨rfl, hb⟩
    have HO3 := Lib.hid (HO2.out.below hb)
    have HB3 := Lib.hid (HB2.out.trans (hb.mono HB2.out.size))
    have HG3 := Lib.hid (HG2.out.below hb)
    clear hb HG2 HO2 HB2
    go_wp2_with (first | (refine wpList_runW (exec_load24 rfl rfl HO3.out) (by kernel_rfl) ?_) | (refine wpList_run rfl (exec_build31 (v := v) rfl rfl) ?_) | (refine wpList_run rfl (exec_alloc31 rfl) ?_) | (refine wpList_void rfl rfl (exec_store31 (u := v) rfl rfl rfl (Blk.new w3 31 _) rfl) ?_))
    have hb4 : Below w3.heap.size w3 ((w3.alloc (.cells (V.zero.obj (.slice none 0 0)) 31)).setRow w3.heap.size (v.obj (.slice none 0 0))) := ret_row (below_one w3 _) (Nat.le_refl _)
    have HA4 : Hid (Ax w ((w3.alloc (.cells (V.zero.obj (.slice none 0 0)) 31)).setRow w3.heap.size (v.obj (.slice none 0 0))) p m v ab nb l w3.heap.size none 0 0 []) := Lib.hid ⟨((HDL.out.below HB3.out).below hb4), (Blk.new w3 31 _).row, ⟨rfl, by simp, .inl rfl⟩, HB3.out.trans (hb4.mono HB3.out.size), HDL.out.lt, by have := HPM.out; have := HG3.out.blk.lt; have := HG3.out.mp.lt; have := hb4.size; omega, by have := HO3.out.lt; have := HG3.out.blk.lt; have := HG3.out.mp.lt; omega, fun _ => ⟨rfl, rfl⟩, by simp⟩
    have HG4 := Lib.hid (HG3.out.below hb4)
    clear hb4 HG3
    generalize (w3.alloc (.cells (V.zero.obj (.slice none 0 0)) 31)).setRow w3.heap.size (v.obj (.slice none 0 0)) = W4 at HA4 HG4
    obtain ⟨q, hq⟩ : ∃ q, w3.heap.size = q := ⟨_, rfl⟩
    rw [hq] at HA4
    rw [hq]
    clear hq
    go_loopw [7] (fun i wr => ∃ (k : Nat) (c : V) (L : List Dt) (am : Option Addr) (nm cm : Nat) (lm : List Dt), k ≤ 60 ∧ k ≤ nb ∧ i = .int .i64 (k : Int) ∧ Hid (Ax w wr p m v ab nb l q am nm cm lm) ∧ Hid (Grp wr p m c L) ∧ Hid (Link v lm c L) ∧ Hid (L.length ≤ k) ∧ Hid (nm ≤ k)) (fun i _ => 60 - (intOf i).toNat)
    case atStart => exact ⟨0, v, [], none, 0, 0, [], by omega, by omega, rfl, HA4, HG4, Lib.hid (link_start HTOP.out), Lib.hid (by simp), Lib.hid (by omega)⟩
    case round =>
      obtain ⟨k, c, L, am, nm, cm, lm, hk6, hkn, rfl, HA, HG, HK, HLL, HNN⟩ := hrel
      by_cases hlt : k < nb ∧ k < 60
      · obtain ⟨hl1, hl2⟩ := hlt
        obtain ⟨⟨r, s⟩, hxx⟩ : ∃ x, l[k]? = some x := ⟨l[k]'(by rw [HDL.out.len]; exact hl1), by simp⟩
        obtain ⟨b1, o1, hab, _⟩ := HA.out.arg.cells.resolve_left (by omega)
        subst hab
        have HX : Hid (∀ (w' : World) (am : Option Addr) (nm cm : Nat) (lm : List Dt), Ax w w' p m v (some ⟨b1, o1, none⟩) nb l q am nm cm lm → w'.cell? ⟨b1, o1 + k * 2, none⟩ = some (.int .u8 (r : Int)) ∧ w'.cell? ⟨b1, o1 + k * 2 + 1, none⟩ = some (.int .u32 (s : Int))) := Lib.hid (fun w' _ _ _ _ h => h.cells rfl hxx (by omega))
        have HRW : Hid (Raw (r, s)) := Lib.hid (HDL.out.raw _ (List.mem_of_getElem? hxx))
        have hr256 : r < 256 := HRW.out.1
        have hs32 : s < 4294967296 := HRW.out.2
        have hnm : nm < 1000 := by have := HNN.out; omega
        clear hxx
        obtain ⟨bb, hbb⟩ : ∃ b, inB c L (r, s) = b := ⟨_, rfl⟩
        have HBB := Lib.hid hbb
        have HRB : Hid (rin v lm (r, s) = bb) := Lib.hid (by rw [← HK.out.inB, hbb])
        clear hbb
        go_wp2_with fail
        refine wp_region_held_drew (S := fun w' => Ax w w' p m v (some ⟨b1, o1, none⟩) nb l q am nm cm lm) (by kernel_rfl) HA.out.drew (fun hS => ?_)
        have hg := HG.out.drew
        refine held_take 0 35 (.pointer (some ⟨p, 0, none⟩)) rfl rfl (by kernel_rfl) (by kernel_rfl) (by kernel_rfl) (fun _ _ _ h => h) (by kernel_rfl) (fun _ _ => rfl) hS ?_
        simp only [Act.put, List.setIfInBounds_toArray, List.set_cons_zero, List.set_cons_succ]
        refine held_take 1 36 (.slice (some ⟨b1, o1, none⟩) nb cb) rfl rfl (by kernel_rfl) (by kernel_rfl) (by kernel_rfl) (fun _ _ _ h => h) (by kernel_rfl) (fun _ _ => rfl) hS ?_
        simp only [Act.put, List.setIfInBounds_toArray, List.set_cons_zero, List.set_cons_succ]
        refine held_take 2 37 (.int .i64 (k : Int)) rfl rfl (by kernel_rfl) (by kernel_rfl) (by kernel_rfl) (fun _ _ _ h => h) (by kernel_rfl) (fun _ _ => rfl) hS ?_
        simp only [Act.put, List.setIfInBounds_toArray, List.set_cons_zero, List.set_cons_succ]
        refine held_take 3 38 (.pointer (some ⟨b1, o1 + k * 2, none⟩)) rfl rfl (by kernel_rfl) (by kernel_rfl) (by kernel_rfl) (fun _ _ _ h => h) (by kernel_rfl) (fun _ _ => exec_index25 rfl rfl rfl hl1) hS ?_
        simp only [Act.put, List.setIfInBounds_toArray, List.set_cons_zero, List.set_cons_succ]
        refine held_take 4 39 (dotV r s) rfl rfl (by kernel_rfl) (by kernel_rfl) (by kernel_rfl) (fun _ _ _ h => h) (by kernel_rfl) (fun _ h => exec_loadD rfl rfl (HX.out _ _ _ _ _ h).1 (HX.out _ _ _ _ _ h).2) hS ?_
        simp only [Act.put, List.setIfInBounds_toArray, List.set_cons_zero, List.set_cons_succ]
        refine held_take 6 41 (setV v am nm cm) rfl rfl (by kernel_rfl) (by kernel_rfl) (by kernel_rfl) (fun _ _ _ h => h) (by kernel_rfl) (fun _ h => exec_load31 rfl rfl h.set) hS ?_
        simp only [Act.put, List.setIfInBounds_toArray, List.set_cons_zero, List.set_cons_succ]
        refine held_take 7 42 (.slice (some ⟨b1, o1, none⟩) nb cb) rfl rfl (by kernel_rfl) (by kernel_rfl) (by kernel_rfl) (fun _ _ _ h => h) (by kernel_rfl) (fun _ _ => rfl) hS ?_
        simp only [Act.put, List.setIfInBounds_toArray, List.set_cons_zero, List.set_cons_succ]
        refine held_take 8 43 (.int .i64 (k : Int)) rfl rfl (by kernel_rfl) (by kernel_rfl) (by kernel_rfl) (fun _ _ _ h => h) (by kernel_rfl) (fun _ _ => rfl) hS ?_
        simp only [Act.put, List.setIfInBounds_toArray, List.set_cons_zero, List.set_cons_succ]
        refine held_take 9 44 (.pointer (some ⟨b1, o1 + k * 2, none⟩)) rfl rfl (by kernel_rfl) (by kernel_rfl) (by kernel_rfl) (fun _ _ _ h => h) (by kernel_rfl) (fun _ _ => exec_index25 rfl rfl rfl hl1) hS ?_
        simp only [Act.put, List.setIfInBounds_toArray, List.set_cons_zero, List.set_cons_succ]
        refine held_take 10 45 (dotV r s) rfl rfl (by kernel_rfl) (by kernel_rfl) (by kernel_rfl) (fun _ _ _ h => h) (by kernel_rfl) (fun _ h => exec_loadD rfl rfl (HX.out _ _ _ _ _ h).1 (HX.out _ _ _ _ _ h).2) hS ?_
        simp only [Act.put, List.setIfInBounds_toArray, List.set_cons_zero, List.set_cons_succ]
        refine held_callP 5 40 12 #[(.pointer (some ⟨p, 0, none⟩)), (dotV r s)] rfl (by kernel_rfl) rfl (by kernel_rfl) (by kernel_rfl) (HBB.out ▸ ghas_any hg (r, s) HRW.out) (fun e w105 hP => ?_)
        obtain ⟨rfl, hb5⟩ := hP
        refine ⟨_, rfl, hS.below hb5, fun hS => ?_⟩
        have hg := hg.below hb5
        clear hb5
        simp only [Act.put, List.setIfInBounds_toArray, List.set_cons_zero, List.set_cons_succ]
        refine held_callP 11 46 13 #[(setV v am nm cm), (dotV r s)] rfl (by kernel_rfl) rfl (by kernel_rfl) (by kernel_rfl) (HRB.out ▸ rfhas_any hS.ml r s hr256 hs32 (by omega)) (fun e w111 hP => ?_)
        obtain ⟨rfl, hb11⟩ := hP
        refine ⟨_, rfl, hS.below hb11, fun hS => ?_⟩
        have hg := hg.below hb11
        clear hb11
        simp only [Act.put, List.setIfInBounds_toArray, List.set_cons_zero, List.set_cons_succ]
        refine held_take 12 47 (.bool false) rfl rfl (by kernel_rfl) (by kernel_rfl) (by kernel_rfl) (fun _ _ _ h => h) (by kernel_rfl) (fun _ _ => exec_neqB (by kernel_rfl) rfl rfl rfl (by simp)) hS ?_
        simp only [Act.put, List.setIfInBounds_toArray, List.set_cons_zero, List.set_cons_succ]
        refine wpAnyH_done (by kernel_rfl) ?_ _
        have HA5 := Lib.hid hS
        have HG5 := Lib.hid hg
        clear hS hg
        go_wp2_with fail
        refine wp_region_held_drew (S := fun w' => Ax w w' p m v (some ⟨b1, o1, none⟩) nb l q am nm cm lm) (by kernel_rfl) HA5.out.drew (fun hS => ?_)
        have hg := HG5.out.drew
        refine held_take 0 49 (setV v am nm cm) rfl rfl (by kernel_rfl) (by kernel_rfl) (by kernel_rfl) (fun _ _ _ h => h) (by kernel_rfl) (fun _ h => exec_load31 rfl rfl h.set) hS ?_
        simp only [Act.put, List.setIfInBounds_toArray, List.set_cons_zero, List.set_cons_succ]
        refine held_take 1 50 (.slice (some ⟨b1, o1, none⟩) nb cb) rfl rfl (by kernel_rfl) (by kernel_rfl) (by kernel_rfl) (fun _ _ _ h => h) (by kernel_rfl) (fun _ _ => rfl) hS ?_
        simp only [Act.put, List.setIfInBounds_toArray, List.set_cons_zero, List.set_cons_succ]
        refine held_take 2 51 (.int .i64 (k : Int)) rfl rfl (by kernel_rfl) (by kernel_rfl) (by kernel_rfl) (fun _ _ _ h => h) (by kernel_rfl) (fun _ _ => rfl) hS ?_
        simp only [Act.put, List.setIfInBounds_toArray, List.set_cons_zero, List.set_cons_succ]
        refine held_take 3 52 (.pointer (some ⟨b1, o1 + k * 2, none⟩)) rfl rfl (by kernel_rfl) (by kernel_rfl) (by kernel_rfl) (fun _ _ _ h => h) (by kernel_rfl) (fun _ _ => exec_index25 rfl rfl rfl hl1) hS ?_
        simp only [Act.put, List.setIfInBounds_toArray, List.set_cons_zero, List.set_cons_succ]
        refine held_take 4 53 (dotV r s) rfl rfl (by kernel_rfl) (by kernel_rfl) (by kernel_rfl) (fun _ _ _ h => h) (by kernel_rfl) (fun _ h => exec_loadD rfl rfl (HX.out _ _ _ _ _ h).1 (HX.out _ _ _ _ _ h).2) hS ?_
        simp only [Act.put, List.setIfInBounds_toArray, List.set_cons_zero, List.set_cons_succ]
        have HCA : Hid (∀ w', DL w' am nm lm → Calls Try.prog 14 #[setV v am nm cm, dotV r s] w' (RAdds v am lm c (r, s) w')) := Lib.hid (fun w' h => rfadd_any h HK.out HA5.out.mz HA5.out.msp hnm r s hr256 hs32)
        obtain ⟨en, hen⟩ : ∃ en : Nat, raddE v lm c (r, s) = en := ⟨_, rfl⟩
        have HEN := Lib.hid hen
        clear hen
        refine wpAnyH_ready (rs := [5, 9]) (by kernel_rfl) (by simp) ?_
        refine br_callP 5 54 14 #[setV v am nm cm, dotV r s] rfl rfl (by kernel_rfl) (by kernel_rfl) (HCA.out _ hS.ml) (fun e x1 hP => ?fst) ?snd
        case' fst =>
          obtain ⟨am', nm', cm', rfl, hml, hmz, _, hmsp, hb⟩ := hP
          rw [HEN.out] at hml
          refine ⟨_, rfl, hS.below hb, fun hS => ?_⟩
          have hg := hg.below hb
          rw [HEN.out]
          clear hb
          simp only [Act.put, List.setIfInBounds_toArray, List.set_cons_zero, List.set_cons_succ]
          refine held_take 6 48 (.tuple #[setV v am' nm' cm', .int .i64 (en : Int)]) rfl rfl (by kernel_rfl) (by kernel_rfl) (by kernel_rfl) (fun _ _ _ h => h) (by kernel_rfl) (fun _ _ => rfl) hS ?_
          simp only [Act.put, List.setIfInBounds_toArray, List.set_cons_zero, List.set_cons_succ]
          refine held_take 7 55 (setV v am' nm' cm') rfl rfl (by kernel_rfl) (by kernel_rfl) (by kernel_rfl) (fun _ _ _ h => h) (by kernel_rfl) (fun _ _ => (by kernel_rfl)) hS ?_
          simp only [Act.put, List.setIfInBounds_toArray, List.set_cons_zero, List.set_cons_succ]
          refine held_take 8 56 (.int .i64 (en : Int)) rfl rfl (by kernel_rfl) (by kernel_rfl) (by kernel_rfl) (fun _ _ _ h => h) (by kernel_rfl) (fun _ _ => (by kernel_rfl)) hS ?_
          simp only [Act.put, List.setIfInBounds_toArray, List.set_cons_zero, List.set_cons_succ]
          have HV := Lib.hid (ay_new (c' := cm') hS hml)
          have HG6 := Lib.hid (hg.below (ret_row (ds := v.obj (.slice am' nm' cm')) (below_one x1 (.cells (V.zero.obj (.slice none 0 0)) 31)) (Nat.le_refl _)))
          refine held_exec 9 8 (.pointer (some ⟨x1.heap.size, 0, none⟩)) rfl rfl (by kernel_rfl) (by kernel_rfl) (exec_alloc31 rfl) (hS.below (below_one x1 _)) ?_
          simp only [Act.put, List.setIfInBounds_toArray, List.set_cons_zero, List.set_cons_succ]
          refine held_void 10 rfl rfl (by kernel_rfl) (by kernel_rfl) (exec_store31 (u := v) rfl rfl rfl (Blk.new x1 31 _) rfl) HV.out.ax ?_
          refine held_take 11 9 (.int .i64 (en : Int)) rfl rfl (by kernel_rfl) (by kernel_rfl) (by kernel_rfl) (fun _ _ _ h => h) (by kernel_rfl) (fun _ _ => rfl) HV.out.ax ?_
          simp only [Act.put, List.setIfInBounds_toArray, List.set_cons_zero, List.set_cons_succ]
          refine wpAnyH_done (by kernel_rfl) ?_ _
          have HMZ := Lib.hid hmz
          have HMP := Lib.hid hmsp
          clear hml hmz hmsp hS hg
          generalize (x1.alloc (.cells (V.zero.obj (.slice none 0 0)) 31)).setRow x1.heap.size (v.obj (.slice am' nm' cm')) = W8 at HV HG6
          generalize x1.heap.size = g at HV
        case' snd =>
          have hgn := Blk.new w111.drew 31 (V.zero.obj (.slice none 0 0))
          have hqg := hS.set.lt
          have hwg : w.heap.size < w111.drew.heap.size := by have := hS.qg; omega
          refine br_exec 9 8 (.pointer (some ⟨w111.drew.heap.size, 0, none⟩)) rfl rfl (by kernel_rfl) (exec_alloc31 rfl) (hS.below (below_one w111.drew _)) ?_ AllReadyH.nil
          have hS := hS.below (below_one w111.drew (.cells (V.zero.obj (.slice none 0 0)) 31))
          have hg := hg.below (below_one w111.drew (.cells (V.zero.obj (.slice none 0 0)) 31))
          generalize w111.drew.alloc (.cells (V.zero.obj (.slice none 0 0)) 31) = W7 at hgn hS hg
          generalize w111.drew.heap.size = g at hgn hqg hwg
          simp only [Act.put, List.setIfInBounds_toArray, List.set_cons_zero, List.set_cons_succ]
          refine held_callP 5 54 14 #[setV v am nm cm, dotV r s] rfl (by kernel_rfl) rfl (by kernel_rfl) (by kernel_rfl) (HCA.out _ hS.ml) (fun e x1 hP => ?_)
          obtain ⟨am', nm', cm', rfl, hml, hmz, _, hmsp, hb⟩ := hP
          rw [HEN.out] at hml
          refine ⟨_, rfl, hS.below hb, fun hS => ?_⟩
          have hg := hg.below hb
          have hgn := hgn.below hb
          rw [HEN.out]
          clear hb
          simp only [Act.put, List.setIfInBounds_toArray, List.set_cons_zero, List.set_cons_succ]
          refine held_take 6 48 (.tuple #[setV v am' nm' cm', .int .i64 (en : Int)]) rfl rfl (by kernel_rfl) (by kernel_rfl) (by kernel_rfl) (fun _ _ _ h => h) (by kernel_rfl) (fun _ _ => rfl) hS ?_
          simp only [Act.put, List.setIfInBounds_toArray, List.set_cons_zero, List.set_cons_succ]
          refine held_take 7 55 (setV v am' nm' cm') rfl rfl (by kernel_rfl) (by kernel_rfl) (by kernel_rfl) (fun _ _ _ h => h) (by kernel_rfl) (fun _ _ => (by kernel_rfl)) hS ?_
          simp only [Act.put, List.setIfInBounds_toArray, List.set_cons_zero, List.set_cons_succ]
          refine held_take 8 56 (.int .i64 (en : Int)) rfl rfl (by kernel_rfl) (by kernel_rfl) (by kernel_rfl) (fun _ _ _ h => h) (by kernel_rfl) (fun _ _ => (by kernel_rfl)) hS ?_
          simp only [Act.put, List.setIfInBounds_toArray, List.set_cons_zero, List.set_cons_succ]
          have HV := Lib.hid (ay_set (c' := cm') hS hml hgn hwg hqg)
          have HG6 : Hid (Grp (x1.setRow g (v.obj (.slice am' nm' cm'))) p m c L) := Lib.hid (hg.kept (Kept.setRow x1 g _) (fun e => hgn.ne hg.blk (by decide) e.symm) (fun e => hg.mp.ne hgn e))
          refine held_void 10 rfl rfl (by kernel_rfl) (by kernel_rfl) (exec_store31 (u := v) rfl rfl rfl hgn rfl) HV.out.ax ?_
          refine held_take 11 9 (.int .i64 (en : Int)) rfl rfl (by kernel_rfl) (by kernel_rfl) (by kernel_rfl) (fun _ _ _ h => h) (by kernel_rfl) (fun _ _ => rfl) HV.out.ax ?_
          simp only [Act.put, List.setIfInBounds_toArray, List.set_cons_zero, List.set_cons_succ]
          refine wpAnyH_done (by kernel_rfl) ?_ _
          have HMZ := Lib.hid hmz
          have HMP := Lib.hid hmsp
          clear hml hmz hmsp hS hg hgn hqg hwg
          generalize x1.setRow g (v.obj (.slice am' nm' cm')) = W8 at HV HG6
        all_goals
          have HEQ : Hid (addE c L (r, s) = en) := Lib.hid (by rw [← HK.out.radd]; exact HEN.out)
          obtain ⟨lm', hlm⟩ : ∃ lm', (if en = 0 then lm ++ [(r, s)] else lm) = lm' := ⟨_, rfl⟩
          rw [hlm] at HV
          have HLM := Lib.hid hlm
          have HNM2 : Hid (nm' ≤ k + 1) := Lib.hid (by
            have h1 := HV.out.ml.len
            have h2 := HA.out.ml.len
            have h3 := HNN.out
            rw [← hlm] at h1
            by_cases e0 : en = 0
            · rw [if_pos e0, List.length_append, List.length_singleton] at h1; omega
            · rw [if_neg e0] at h1; omega)
          clear hlm
          go_wp2_with (first | (refine wpList_run rfl (exec_load31 (v := v) rfl rfl HV.out.ans) ?_) | (refine wpList_void rfl rfl (exec_store31 (u := v) rfl rfl rfl HV.out.ax.set rfl) ?_))
          have HA9 := Lib.hid (HV.out.ax.set_ HV.out.ml HMZ.out HMP.out)
          have HG9 : Hid (Grp (W8.setRow q (v.obj (.slice am' nm' cm'))) p m c L) := Lib.hid (HG6.out.kept (Kept.setRow W8 q _) (fun e => HV.out.ax.qg.2.1 e.symm) (fun e => HV.out.ax.qg.2.2 e.symm))
          generalize W8.setRow q (v.obj (.slice am' nm' cm')) = W9 at HA9 HG9
          clear HV HG6 HA5 HG5
          refine wp_region_held_drew (S := fun w' => Ax w w' p m v (some ⟨b1, o1, none⟩) nb l q am' nm' cm' lm') (by kernel_rfl) HA9.out.drew (fun hS => ?_)
          have hg := HG9.out.drew
          refine held_take 0 58 (.pointer (some ⟨p, 0, none⟩)) rfl rfl (by kernel_rfl) (by kernel_rfl) (by kernel_rfl) (fun _ _ _ h => h) (by kernel_rfl) (fun _ _ => rfl) hS ?_
          simp only [Act.put, List.setIfInBounds_toArray, List.set_cons_zero, List.set_cons_succ]
          refine held_take 1 59 (.slice (some ⟨b1, o1, none⟩) nb cb) rfl rfl (by kernel_rfl) (by kernel_rfl) (by kernel_rfl) (fun _ _ _ h => h) (by kernel_rfl) (fun _ _ => rfl) hS ?_
          simp only [Act.put, List.setIfInBounds_toArray, List.set_cons_zero, List.set_cons_succ]
          refine held_take 2 60 (.int .i64 (k : Int)) rfl rfl (by kernel_rfl) (by kernel_rfl) (by kernel_rfl) (fun _ _ _ h => h) (by kernel_rfl) (fun _ _ => rfl) hS ?_
          simp only [Act.put, List.setIfInBounds_toArray, List.set_cons_zero, List.set_cons_succ]
          refine held_take 3 61 (.pointer (some ⟨b1, o1 + k * 2, none⟩)) rfl rfl (by kernel_rfl) (by kernel_rfl) (by kernel_rfl) (fun _ _ _ h => h) (by kernel_rfl) (fun _ _ => exec_index25 rfl rfl rfl hl1) hS ?_
          simp only [Act.put, List.setIfInBounds_toArray, List.set_cons_zero, List.set_cons_succ]
          refine held_take 4 62 (dotV r s) rfl rfl (by kernel_rfl) (by kernel_rfl) (by kernel_rfl) (fun _ _ _ h => h) (by kernel_rfl) (fun _ h => exec_loadD rfl rfl (HX.out _ _ _ _ _ h).1 (HX.out _ _ _ _ _ h).2) hS ?_
          simp only [Act.put, List.setIfInBounds_toArray, List.set_cons_zero, List.set_cons_succ]
          refine held_take 6 64 (.int .i64 (en : Int)) rfl rfl (by kernel_rfl) (by kernel_rfl) (by kernel_rfl) (fun _ _ _ h => h) (by kernel_rfl) (fun _ _ => rfl) hS ?_
          simp only [Act.put, List.setIfInBounds_toArray, List.set_cons_zero, List.set_cons_succ]
          refine held_callP 5 63 15 #[.pointer (some ⟨p, 0, none⟩), dotV r s] rfl (by kernel_rfl) rfl (by kernel_rfl) (by kernel_rfl) (gadd_any hg HK.out.norm (r, s) HRW.out (by have := HLL.out; omega)) (fun e x2 hP => ?_)
          obtain ⟨c', L', rfl, ha, hg2, hkp⟩ := hP
          refine ⟨_, rfl, hS.kept hg hkp, fun hS => ?_⟩
          rw [HEQ.out]
          have HK2 : Hid (Link v lm' c' L') := Lib.hid (by have := HK.out.add ha; rw [HEQ.out, HLM.out] at this; exact this)
          have HLL2 : Hid (L'.length ≤ k + 1) := Lib.hid (by have := ha.len; have := HLL.out; omega)
          have hg := hg2
          clear ha hg2 hkp
          have HRL := Lib.hid hg.raw
          have HRM := Lib.hid (miss_raw HK2.out.norm)
          have HML : Hid ((miss c' L').length < 4611686018427387904) := Lib.hid (by have := len_miss L' c' (fun x hx => (HK2.out.norm.mem x hx).2.1); have := HLL2.out; omega)
          have HLS : Hid (L'.length < 1000000 ∧ L'.length ≤ 900 ∧ L'.length < 4611686018427387904) := Lib.hid (by have := HLL2.out; omega)
          have hnm' : nm' < 1000000 := by have := HNM2.out; omega
          have HMI : Hid (∀ (w' : World), Grp w' p m c' L' → Calls Try.prog 21 #[.pointer (some ⟨p, 0, none⟩)] w' (Lists (miss c' L') w')) := Lib.hid (fun w' h => gmissing_any h HK2.out.norm HLS.out.2.1)
          have HMJ : Hid (∀ (w' : World), DL w' am' nm' lm' → Calls Try.prog 22 #[setV v am' nm' cm'] w' (Lists (miss c' L') w')) := Lib.hid (fun w' h => rfmissing_any h HK2.out hnm')
          generalize miss c' L' = mm at HRM HML HMI HMJ
          obtain ⟨b2, hb2⟩ : ∃ b, inB c' L' (r, s) = b := ⟨_, rfl⟩
          have HB2' := Lib.hid hb2
          have HR2' : Hid (rin v lm' (r, s) = b2) := Lib.hid (by rw [← HK2.out.inB, hb2])
          clear hb2
          simp only [Act.put, List.setIfInBounds_toArray, List.set_cons_zero, List.set_cons_succ]
          refine held_take 7 65 (.bool false) rfl rfl (by kernel_rfl) (by kernel_rfl) (by kernel_rfl) (fun _ _ _ h => h) (by kernel_rfl) (fun _ _ => exec_neqI trivial rfl rfl rfl (by simp)) hS ?_
          simp only [Act.put, List.setIfInBounds_toArray, List.set_cons_zero, List.set_cons_succ]
          refine held_take 8 66 (.bool false) rfl rfl (by kernel_rfl) (by kernel_rfl) (by kernel_rfl) (fun _ _ _ h => h) (by kernel_rfl) (fun _ _ => rfl) hS ?_
          simp only [Act.put, List.setIfInBounds_toArray, List.set_cons_zero, List.set_cons_succ]
          refine held_take 9 67 (.pointer (some ⟨p, 0, none⟩)) rfl rfl (by kernel_rfl) (by kernel_rfl) (by kernel_rfl) (fun _ _ _ h => h) (by kernel_rfl) (fun _ _ => rfl) hS ?_
          simp only [Act.put, List.setIfInBounds_toArray, List.set_cons_zero, List.set_cons_succ]
          refine held_take 10 68 (.slice (some ⟨b1, o1, none⟩) nb cb) rfl rfl (by kernel_rfl) (by kernel_rfl) (by kernel_rfl) (fun _ _ _ h => h) (by kernel_rfl) (fun _ _ => rfl) hS ?_
          simp only [Act.put, List.setIfInBounds_toArray, List.set_cons_zero, List.set_cons_succ]
          refine held_take 11 69 (.int .i64 (k : Int)) rfl rfl (by kernel_rfl) (by kernel_rfl) (by kernel_rfl) (fun _ _ _ h => h) (by kernel_rfl) (fun _ _ => rfl) hS ?_
          simp only [Act.put, List.setIfInBounds_toArray, List.set_cons_zero, List.set_cons_succ]
          refine held_take 12 70 (.pointer (some ⟨b1, o1 + k * 2, none⟩)) rfl rfl (by kernel_rfl) (by kernel_rfl) (by kernel_rfl) (fun _ _ _ h => h) (by kernel_rfl) (fun _ _ => exec_index25 rfl rfl rfl hl1) hS ?_
          simp only [Act.put, List.setIfInBounds_toArray, List.set_cons_zero, List.set_cons_succ]
          refine held_take 13 71 (dotV r s) rfl rfl (by kernel_rfl) (by kernel_rfl) (by kernel_rfl) (fun _ _ _ h => h) (by kernel_rfl) (fun _ h => exec_loadD rfl rfl (HX.out _ _ _ _ _ h).1 (HX.out _ _ _ _ _ h).2) hS ?_
          simp only [Act.put, List.setIfInBounds_toArray, List.set_cons_zero, List.set_cons_succ]
          refine held_take 15 73 (setV v am' nm' cm') rfl rfl (by kernel_rfl) (by kernel_rfl) (by kernel_rfl) (fun _ _ _ h => h) (by kernel_rfl) (fun _ h => exec_load31 rfl rfl h.set) hS ?_
          simp only [Act.put, List.setIfInBounds_toArray, List.set_cons_zero, List.set_cons_succ]
          refine held_take 16 74 (.slice (some ⟨b1, o1, none⟩) nb cb) rfl rfl (by kernel_rfl) (by kernel_rfl) (by kernel_rfl) (fun _ _ _ h => h) (by kernel_rfl) (fun _ _ => rfl) hS ?_
          simp only [Act.put, List.setIfInBounds_toArray, List.set_cons_zero, List.set_cons_succ]
          refine held_take 17 75 (.int .i64 (k : Int)) rfl rfl (by kernel_rfl) (by kernel_rfl) (by kernel_rfl) (fun _ _ _ h => h) (by kernel_rfl) (fun _ _ => rfl) hS ?_
          simp only [Act.put, List.setIfInBounds_toArray, List.set_cons_zero, List.set_cons_succ]
          refine held_take 18 76 (.pointer (some ⟨b1, o1 + k * 2, none⟩)) rfl rfl (by kernel_rfl) (by kernel_rfl) (by kernel_rfl) (fun _ _ _ h => h) (by kernel_rfl) (fun _ _ => exec_index25 rfl rfl rfl hl1) hS ?_
          simp only [Act.put, List.setIfInBounds_toArray, List.set_cons_zero, List.set_cons_succ]
          refine held_take 19 77 (dotV r s) rfl rfl (by kernel_rfl) (by kernel_rfl) (by kernel_rfl) (fun _ _ _ h => h) (by kernel_rfl) (fun _ h => exec_loadD rfl rfl (HX.out _ _ _ _ _ h).1 (HX.out _ _ _ _ _ h).2) hS ?_
          simp only [Act.put, List.setIfInBounds_toArray, List.set_cons_zero, List.set_cons_succ]
          refine held_callP 14 72 12 #[(.pointer (some ⟨p, 0, none⟩)), (dotV r s)] rfl (by kernel_rfl) rfl (by kernel_rfl) (by kernel_rfl) (HB2'.out ▸ ghas_any hg (r, s) HRW.out) (fun e w114 hP => ?_)
          obtain ⟨rfl, hb14⟩ := hP
          refine ⟨_, rfl, hS.below hb14, fun hS => ?_⟩
          have hg := hg.below hb14
          clear hb14
          simp only [Act.put, List.setIfInBounds_toArray, List.set_cons_zero, List.set_cons_succ]
          refine held_callP 20 78 13 #[(setV v am' nm' cm'), (dotV r s)] rfl (by kernel_rfl) rfl (by kernel_rfl) (by kernel_rfl) (HR2'.out ▸ rfhas_any hS.ml r s hr256 hs32 hnm') (fun e w120 hP => ?_)
          obtain ⟨rfl, hb20⟩ := hP
          refine ⟨_, rfl, hS.below hb20, fun hS => ?_⟩
          have hg := hg.below hb20
          clear hb20
          simp only [Act.put, List.setIfInBounds_toArray, List.set_cons_zero, List.set_cons_succ]
          refine held_take 21 79 (.bool false) rfl rfl (by kernel_rfl) (by kernel_rfl) (by kernel_rfl) (fun _ _ _ h => h) (by kernel_rfl) (fun _ _ => exec_neqB (by kernel_rfl) rfl rfl rfl (by simp)) hS ?_
          simp only [Act.put, List.setIfInBounds_toArray, List.set_cons_zero, List.set_cons_succ]
          refine held_take 22 80 (.bool false) rfl rfl (by kernel_rfl) (by kernel_rfl) (by kernel_rfl) (fun _ _ _ h => h) (by kernel_rfl) (fun _ _ => rfl) hS ?_
          simp only [Act.put, List.setIfInBounds_toArray, List.set_cons_zero, List.set_cons_succ]
          refine held_take 23 81 (.bool false) rfl rfl (by kernel_rfl) (by kernel_rfl) (by kernel_rfl) (fun _ _ _ h => h) (by kernel_rfl) (fun _ _ => rfl) hS ?_
          simp only [Act.put, List.setIfInBounds_toArray, List.set_cons_zero, List.set_cons_succ]
          refine held_take 24 82 (.pointer (some ⟨p, 0, none⟩)) rfl rfl (by kernel_rfl) (by kernel_rfl) (by kernel_rfl) (fun _ _ _ h => h) (by kernel_rfl) (fun _ _ => rfl) hS ?_
          simp only [Act.put, List.setIfInBounds_toArray, List.set_cons_zero, List.set_cons_succ]
          refine held_take 26 84 (setV v am' nm' cm') rfl rfl (by kernel_rfl) (by kernel_rfl) (by kernel_rfl) (fun _ _ _ h => h) (by kernel_rfl) (fun _ h => exec_load31 rfl rfl h.set) hS ?_
          simp only [Act.put, List.setIfInBounds_toArray, List.set_cons_zero, List.set_cons_succ]
          refine held_callP 25 83 16 #[(.pointer (some ⟨p, 0, none⟩))] rfl (by kernel_rfl) rfl (by kernel_rfl) (by kernel_rfl) (closed_any hg) (fun e w125 hP => ?_)
          obtain ⟨rfl, hb25⟩ := hP
          refine ⟨_, rfl, hS.below hb25, fun hS => ?_⟩
          have hg := hg.below hb25
          clear hb25
          simp only [Act.put, List.setIfInBounds_toArray, List.set_cons_zero, List.set_cons_succ]
          refine held_callP 27 85 17 #[(setV v am' nm' cm')] rfl (by kernel_rfl) rfl (by kernel_rfl) (by kernel_rfl) (rfclosed_any hS.ml HK2.out hnm') (fun e w127 hP => ?_)
          obtain ⟨rfl, hb27⟩ := hP
          refine ⟨_, rfl, hS.below hb27, fun hS => ?_⟩
          have hg := hg.below hb27
          clear hb27
          simp only [Act.put, List.setIfInBounds_toArray, List.set_cons_zero, List.set_cons_succ]
          refine held_take 28 86 (.bool false) rfl rfl (by kernel_rfl) (by kernel_rfl) (by kernel_rfl) (fun _ _ _ h => h) (by kernel_rfl) (fun _ _ => exec_neq24 rfl rfl rfl (by simp [V.eqB])) hS ?_
          simp only [Act.put, List.setIfInBounds_toArray, List.set_cons_zero, List.set_cons_succ]
          refine held_take 29 87 (.bool false) rfl rfl (by kernel_rfl) (by kernel_rfl) (by kernel_rfl) (fun _ _ _ h => h) (by kernel_rfl) (fun _ _ => rfl) hS ?_
          simp only [Act.put, List.setIfInBounds_toArray, List.set_cons_zero, List.set_cons_succ]
          refine held_take 30 88 (.bool false) rfl rfl (by kernel_rfl) (by kernel_rfl) (by kernel_rfl) (fun _ _ _ h => h) (by kernel_rfl) (fun _ _ => rfl) hS ?_
          simp only [Act.put, List.setIfInBounds_toArray, List.set_cons_zero, List.set_cons_succ]
          refine held_take 31 89 (.pointer (some ⟨p, 0, none⟩)) rfl rfl (by kernel_rfl) (by kernel_rfl) (by kernel_rfl) (fun _ _ _ h => h) (by kernel_rfl) (fun _ _ => rfl) hS ?_
          simp only [Act.put, List.setIfInBounds_toArray, List.set_cons_zero, List.set_cons_succ]
          refine held_take 33 91 (setV v am' nm' cm') rfl rfl (by kernel_rfl) (by kernel_rfl) (by kernel_rfl) (fun _ _ _ h => h) (by kernel_rfl) (fun _ h => exec_load31 rfl rfl h.set) hS ?_
          simp only [Act.put, List.setIfInBounds_toArray, List.set_cons_zero, List.set_cons_succ]
          refine held_callP 32 90 19 #[(.pointer (some ⟨p, 0, none⟩))] rfl (by kernel_rfl) rfl (by kernel_rfl) (by kernel_rfl) (gloose_any hg HLS.out.1) (fun e w132 hP => ?_)
          obtain ⟨ga32, ca32, rfl, ho32, hb32⟩ := hP
          refine ⟨_, rfl, hS.below hb32, fun hS => ?_⟩
          have hg := hg.below hb32
          have hl1' := ho32.dl HRL.out
          clear hb32 ho32
          simp only [Act.put, List.setIfInBounds_toArray, List.set_cons_zero, List.set_cons_succ]
          refine held_callP 34 92 20 #[(setV v am' nm' cm')] rfl (by kernel_rfl) rfl (by kernel_rfl) (by kernel_rfl) (rfloose_any hS.ml HK2.out hnm') (fun e w134 hP => ?_)
          obtain ⟨ga34, ca34, rfl, ho34, hb34⟩ := hP
          refine ⟨_, rfl, hS.below hb34, fun hS => ?_⟩
          have hg := hg.below hb34
          have hl1' := hl1'.below hb34
          have hl2' := ho34.dl HRL.out
          clear hb34 ho34
          simp only [Act.put, List.setIfInBounds_toArray, List.set_cons_zero, List.set_cons_succ]
          refine held_callP 35 93 18 #[(.slice ga32 L'.length ca32), (.slice ga34 L'.length ca34)] rfl (by kernel_rfl) rfl (by kernel_rfl) (by kernel_rfl) (same_true hl1' hl2' HLS.out.2.2) (fun e w135 hP => ?_)
          obtain ⟨rfl, hb35⟩ := hP
          refine ⟨_, rfl, hS.below hb35, fun hS => ?_⟩
          have hg := hg.below hb35
          clear hb35
          simp only [Act.put, List.setIfInBounds_toArray, List.set_cons_zero, List.set_cons_succ]
          refine held_take 36 94 (.bool false) rfl rfl (by kernel_rfl) (by kernel_rfl) (by kernel_rfl) (fun _ _ _ h => h) (by kernel_rfl) (fun _ _ => rfl) hS ?_
          simp only [Act.put, List.setIfInBounds_toArray, List.set_cons_zero, List.set_cons_succ]
          refine held_take 37 95 (.bool false) rfl rfl (by kernel_rfl) (by kernel_rfl) (by kernel_rfl) (fun _ _ _ h => h) (by kernel_rfl) (fun _ _ => rfl) hS ?_
          simp only [Act.put, List.setIfInBounds_toArray, List.set_cons_zero, List.set_cons_succ]
          refine held_take 38 96 (.bool false) rfl rfl (by kernel_rfl) (by kernel_rfl) (by kernel_rfl) (fun _ _ _ h => h) (by kernel_rfl) (fun _ _ => rfl) hS ?_
          simp only [Act.put, List.setIfInBounds_toArray, List.set_cons_zero, List.set_cons_succ]
          refine held_take 39 97 (.pointer (some ⟨p, 0, none⟩)) rfl rfl (by kernel_rfl) (by kernel_rfl) (by kernel_rfl) (fun _ _ _ h => h) (by kernel_rfl) (fun _ _ => rfl) hS ?_
          simp only [Act.put, List.setIfInBounds_toArray, List.set_cons_zero, List.set_cons_succ]
          refine held_take 41 99 (setV v am' nm' cm') rfl rfl (by kernel_rfl) (by kernel_rfl) (by kernel_rfl) (fun _ _ _ h => h) (by kernel_rfl) (fun _ h => exec_load31 rfl rfl h.set) hS ?_
          simp only [Act.put, List.setIfInBounds_toArray, List.set_cons_zero, List.set_cons_succ]
          refine held_callP 40 98 21 #[(.pointer (some ⟨p, 0, none⟩))] rfl (by kernel_rfl) rfl (by kernel_rfl) (by kernel_rfl) (HMI.out _ hg) (fun e w140 hP => ?_)
          obtain ⟨ga40, ca40, rfl, ho40, hb40⟩ := hP
          refine ⟨_, rfl, hS.below hb40, fun hS => ?_⟩
          have hg := hg.below hb40
          have hl3' := ho40.dl HRM.out
          clear hb40 ho40
          simp only [Act.put, List.setIfInBounds_toArray, List.set_cons_zero, List.set_cons_succ]
          refine held_callP 42 100 22 #[(setV v am' nm' cm')] rfl (by kernel_rfl) rfl (by kernel_rfl) (by kernel_rfl) (HMJ.out _ hS.ml) (fun e w142 hP => ?_)
          obtain ⟨ga42, ca42, rfl, ho42, hb42⟩ := hP
          refine ⟨_, rfl, hS.below hb42, fun hS => ?_⟩
          have hg := hg.below hb42
          have hl3' := hl3'.below hb42
          have hl4' := ho42.dl HRM.out
          clear hb42 ho42
          simp only [Act.put, List.setIfInBounds_toArray, List.set_cons_zero, List.set_cons_succ]
          refine held_callP 43 101 18 #[(.slice ga40 mm.length ca40), (.slice ga42 mm.length ca42)] rfl (by kernel_rfl) rfl (by kernel_rfl) (by kernel_rfl) (same_true hl3' hl4' HML.out) (fun e w143 hP => ?_)
          obtain ⟨rfl, hb43⟩ := hP
          refine ⟨_, rfl, hS.below hb43, fun hS => ?_⟩
          have hg := hg.below hb43
          clear hb43
          simp only [Act.put, List.setIfInBounds_toArray, List.set_cons_zero, List.set_cons_succ]
          refine held_take 44 102 (.bool false) rfl rfl (by kernel_rfl) (by kernel_rfl) (by kernel_rfl) (fun _ _ _ h => h) (by kernel_rfl) (fun _ _ => rfl) hS ?_
          simp only [Act.put, List.setIfInBounds_toArray, List.set_cons_zero, List.set_cons_succ]
          refine held_take 45 103 (.bool false) rfl rfl (by kernel_rfl) (by kernel_rfl) (by kernel_rfl) (fun _ _ _ h => h) (by kernel_rfl) (fun _ _ => rfl) hS ?_
          simp only [Act.put, List.setIfInBounds_toArray, List.set_cons_zero, List.set_cons_succ]
          refine wpAnyH_done (by kernel_rfl) ?_ _
          have HA10 := Lib.hid hS
          have HG10 := Lib.hid hg
          clear hS hg hl1' hl2' hl3' hl4'
          go_wp2_with fail
          go_roundw
          case rel => exact ⟨k + 1, c', L', am', nm', cm', lm', by omega, by omega, by go_num, HA10, HG10, HK2, HLL2, HNM2⟩
          case measure => simp [intOf]; omega
      · have hcase : (nb : Int) ≤ (k : Int) ∨ ((k : Int) < (nb : Int) ∧ (60 : Int) ≤ (k : Int)) := by omega
        have hkn' : (k : Int) ≤ (nb : Int) := by omega
        rcases hcase with hcc | ⟨hcc, hcd⟩
        all_goals
          go_wp2_with fail
          go_ret
          exact ⟨rfl, HA.out.old⟩


set_option maxRecDepth 100000 in
theorem lifted (os : Os) (started : os.Started) (H : Type) (enc : TypeId × Value → H) :
    ReturnsInHanded {} Try.checked os 3 .any (Rows.dotsActsSpec.pre6 enc Try.prog Try.f3 Rows.dotsActsRow.domain false) (Rows.dotsActsSpec.post enc Try.prog Try.f3 false true false false) := by
  refine returnsInHanded_of_change (C := Try.checked) own started (by kernel_rfl) Try.func3
    (ChangeSpec.witness6 (enc := enc) (C := Try.checked) false ⟨#[], #[.agg #[.int .u32 0, .int .u32 0, .int .u32 0, .int .u32 0, .int .u32 0, .int .u32 0, .int .u32 0, .int .u32 0, .int .u32 0, .int .u32 0, .int .u32 0, .int .u32 0, .int .u32 0, .int .u32 0, .int .u32 0, .int .u32 0], .slice none 0 0], []⟩ 8 (by kernel_rfl) (by kernel_rfl) (by kernel_rfl) (by kernel_rfl)) ?_
  intro W base args ds gs before hval0 hW hcnd _
  have hval : ∀ (j : Nat) t v, Try.f3.params[j]? = some t → args[j]? = some v → Value.okWide Try.prog W .any base t v := hval0
  have hW' := hW
  obtain ⟨p, q, hA0, hV, rfl, hfz, hnd⟩ := hW
  have hA : DataW.TrodAll enc Try.prog W 0 (fun _ => true) true Try.f3.params.toList args.toList ds p := hA0
  rw [Try.params3] at hA hval
  obtain ⟨v0, v1, d0, d1, p0, p1, rfl, rfl, rfl, h0, h1⟩ := trodAll_two hA
  obtain ⟨rfl, rfl⟩ := trodVars_none hV
  have lt0 : ∀ x ∈ p0, x.block < W.heap.size := by obtain ⟨m, hm⟩ := h0; exact DataW.trod_lt m _ _ _ hm
  obtain ⟨a0, rfl⟩ := vec_of (hval 0 24 v0 rfl rfl) h0
  have lt1 : ∀ x ∈ p1, x.block < W.heap.size := by obtain ⟨m, hm⟩ := h1; exact DataW.trod_lt m _ _ _ hm
  obtain ⟨ab, nb, cb, rfl⟩ := okWide_slice Try.underlying25 (hval 1 25 v1 rfl rfl)
  obtain ⟨hl1, l1, hR1⟩ := dots_of h1
  clear hA0 hval0
  refine (walk a0 ab nb cb l1 W hl1 hR1).mono fun e W' ⟨he, bel⟩ => ?_
  subst he
  exact ⟨_, rfl, _, _, _, [], _, [], hW', trodAll_mk1 (shut_bool Try.underlying4 _), trodAll_mk2 (Below.trod laidOut (by kernel_rfl) (of_decide_eq_true (by kernel_rfl)) h0 bel lt0) (Below.trod laidOut (by kernel_rfl) (of_decide_eq_true (by kernel_rfl)) h1 bel lt1), rfl, bel.frame _, fun h => by cases h⟩
end DotsActs

theorem dotsActs_proved : Rows.DotsActsSaid :=
  OpenClaim.holds_of_wide 3 Try.f3 rfl rfl rfl rfl rfl rfl rfl ⟨rfl, rfl, rfl, rfl, rfl⟩ rfl rfl rfl rfl rfl (by kernel_rfl) Try.func3 (by kernel_rfl)
    (of_decide_eq_true (by kernel_rfl)) (by unfold Func.isWrapper; first | (rw [if_pos (by decide +kernel)]; kernel_rfl) | (rw [if_neg (by decide +kernel)]; exact ⟨rfl, rfl⟩))
    (fun os started H enc _ => DotsActs.lifted os started H enc)
#print axioms dotsActs_proved
end Go.Proofs.Ytkamldmcjegjgaa
