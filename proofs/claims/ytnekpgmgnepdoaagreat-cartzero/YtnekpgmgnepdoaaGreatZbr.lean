import Derived.Test.YtnekpgmgnepdoaaGreatZav
import Derived.Test.YtnekpgmgnepdoaaGreatZax
import Derived.Test.YtnekpgmgnepdoaaGreatZay
import Derived.Test.YtnekpgmgnepdoaaGreatZba
import Derived.Test.YtnekpgmgnepdoaaGreatZbf
import Derived.Test.YtnekpgmgnepdoaaGreatZbh
namespace Go.Proofs.YtnekpgmgnepdoaaGreat
open Go.RowKit
theorem exec_lenS {ev : Operand → Value} {o : Oper} {w : World} {x : Operand} {t : TypeId} {a : Option Addr} {n cap : Nat} (hu : ∃ e, Tryz.prog.underlying t = some (.slice e)) (ho : o.op = .call { callee := .builtin .len, args := #[x], argTypes := #[t] }) (hx : ev x = .slice a n cap) : (execOp ev o).run Tryz.prog w = .ok (.value (.int .i64 (n : Int))) w := by
 obtain ⟨e, hu⟩ := hu
 unfold execOp
 simp only [ho]
 simp [hx, hu, go_sem]
theorem join_zeroR (v : V) : V.join v V.zero = v := V.ext fun i hi => by rw [V.join_at _ _ hi, V.zero_at]; omega
theorem join_zeroL (v : V) : V.join V.zero v = v := V.ext fun i hi => by rw [V.join_at _ _ hi, V.zero_at]; omega
theorem has_zero (r k : Nat) : V.hasB V.zero r k = false := by
 unfold V.hasB V.dotB
 rw [V.zero_at]
 by_cases h : r < 16 ∧ 1 ≤ k ∧ k ≤ 1048576
 ·have : ¬ k ≤ 0 := by omega
  simp [this]
 ·simp [h]
theorem keepA_zero (x : En) : keepA Sta.zero x = true := by
 unfold keepA
 rw [show Sta.zero.v = V.zero from rfl, has_zero]
 simp
theorem keepB_zero (x : En) : keepB Sta.zero x = true := by
 unfold keepB
 rw [show Sta.zero.v = V.zero from rfl, has_zero]
 rfl
theorem filter_all {α : Type} {p : α → Bool} (h : ∀ x, p x = true) (l : List α) : l.filter p = l := List.filter_eq_self.2 fun x _ => h x
theorem merg_zeroR {s : Sta} (h : s.Right) : Merg s Sta.zero s :=
 ⟨(join_zeroR s.v).symm, h.ord, fun e => by unfold bothE; rw [filter_all keepA_zero]; simp [Sta.zero], h.ts.up, fun c => by
  show tkOf s.ts c = match tkOf s.ts c, tkOf [] c with | none, y => y | some x, none => some x | some x, some y => some (max x y)
  rw [tkOf_nil]
  cases tkOf s.ts c <;> rfl⟩
theorem merg_zeroL {s : Sta} (h : s.Right) : Merg Sta.zero s s :=
 ⟨(join_zeroL s.v).symm, h.ord, fun e => by unfold bothE; rw [filter_all keepB_zero]; simp [Sta.zero], h.ts.up, fun c => by
  show tkOf s.ts c = match tkOf [] c, tkOf s.ts c with | none, y => y | some x, none => some x | some x, some y => some (max x y)
  rw [tkOf_nil]⟩
theorem mgA_zeroR {s m : Sta} {er : Nat} (h : s.Right) (k : MgA s Sta.zero er m) : er = 0 ∧ m = s := by
 have := MgA.unique k (.ok h right_zero (by rintro ⟨x, _, y, hy, _⟩; simp [Sta.zero] at hy) (merg_zeroR h))
 exact this
theorem mgA_zeroL {s m : Sta} {er : Nat} (h : s.Right) (k : MgA Sta.zero s er m) : er = 0 ∧ m = s := by
 have := MgA.unique k (.ok right_zero h (by rintro ⟨x, hx, _⟩; simp [Sta.zero] at hx) (merg_zeroL h))
 exact this
structure OzM (w W : World) (s : Sta) (p p1 : Nat) (U : Array Value) (a1 : Option Addr) (n1 c1 : Nat) (b1 : Option Addr) (m1 d1 : Nat) : Prop where
 base : OzW w W p U
 k1 : Blk W p1 39 (sv s.v a1 n1 c1 b1 m1 d1)
 l1 : SL W s a1 n1 b1 m1
theorem OzM.below {w W W' : World} {s : Sta} {p p1 : Nat} {U : Array Value} {a1 : Option Addr} {n1 c1 : Nat} {b1 : Option Addr} {m1 d1 : Nat} (h : OzM w W s p p1 U a1 n1 c1 b1 m1 d1) (hb : Below W.heap.size W W') : OzM w W' s p p1 U a1 n1 c1 b1 m1 d1 := ⟨h.base.below hb, h.k1.below hb, h.l1.below hb⟩
structure OzD (w W : World) (s : Sta) (p p1 p2 : Nat) (U : Array Value) (a1 : Option Addr) (n1 c1 : Nat) (b1 : Option Addr) (m1 d1 : Nat) (a2 : Option Addr) (n2 c2 : Nat) (b2 : Option Addr) (m2 d2 : Nat) : Prop where
 s1 : Blk W p 28 U
 k1 : Blk W p1 39 (sv s.v a1 n1 c1 b1 m1 d1)
 k2 : Blk W p2 39 (sv s.v a2 n2 c2 b2 m2 d2)
 l1 : SL W s a1 n1 b1 m1
 l2 : SL W s a2 n2 b2 m2
 old : Below w.heap.size w W
theorem OzD.below {w W W' : World} {s : Sta} {p p1 p2 : Nat} {U : Array Value} {a1 : Option Addr} {n1 c1 : Nat} {b1 : Option Addr} {m1 d1 : Nat} {a2 : Option Addr} {n2 c2 : Nat} {b2 : Option Addr} {m2 d2 : Nat} (h : OzD w W s p p1 p2 U a1 n1 c1 b1 m1 d1 a2 n2 c2 b2 m2 d2) (hb : Below W.heap.size W W') : OzD w W' s p p1 p2 U a1 n1 c1 b1 m1 d1 a2 n2 c2 b2 m2 d2 := ⟨h.s1.below hb, h.k1.below hb, h.k2.below hb, h.l1.below hb, h.l2.below hb, h.old.trans (hb.mono h.old.size)⟩
theorem OzD.drew {w W : World} {s : Sta} {p p1 p2 : Nat} {U : Array Value} {a1 : Option Addr} {n1 c1 : Nat} {b1 : Option Addr} {m1 d1 : Nat} {a2 : Option Addr} {n2 c2 : Nat} {b2 : Option Addr} {m2 d2 : Nat} (h : OzD w W s p p1 p2 U a1 n1 c1 b1 m1 d1 a2 n2 c2 b2 m2 d2) : OzD w W.drew s p p1 p2 U a1 n1 c1 b1 m1 d1 a2 n2 c2 b2 m2 d2 := ⟨h.s1, h.k1, h.k2, h.l1.below (drew_below _), h.l2.below (drew_below _), h.old.drew⟩
set_option maxRecDepth 100000 in
set_option maxHeartbeats 16000000 in
theorem zero_walk {s : Sta} {a b : Option Addr} {n c m d : Nat} {w : World} (halive : ∀ W, Calls Tryz.prog 12 #[] W (Says (.bool true) W)) (hl : SL w s a n b m) (hn : n < 9223372036854775808) (hm : m < 9223372036854775808) : Calls Tryz.prog 11 #[.agg (sv s.v a n c b m d)] w (Says (.bool true) w) := by
 have HL := Lib.hid hl
 have HAL := Lib.hid halive
 have HSN := Lib.hid hl.es.len'
 have HTN := Lib.hid hl.ts.len'
 obtain ⟨z, hz⟩ : ∃ z, V.zero = z := ⟨_, rfl⟩
 have HZ := Lib.hid hz
 obtain ⟨s0, hs0⟩ : ∃ x, Sta.zero = x := ⟨_, rfl⟩
 have HZV : Hid (s0.v = z) := Lib.hid (by rw [← hs0]; exact hz)
 have HS0 : Hid (∀ W, SL W s0 none 0 none 0) := Lib.hid (fun W => by rw [← hs0]; exact ⟨GL.nil _ _ _, GL.nil _ _ _⟩)
 have HMR : Hid (s.Right → ∀ er m, MgA s s0 er m → er = 0 ∧ m = s) := Lib.hid (by rw [← hs0]; exact fun h er m => mgA_zeroR h)
 have HML : Hid (s.Right → ∀ er m, MgA s0 s er m → er = 0 ∧ m = s) := Lib.hid (by rw [← hs0]; exact fun h er m => mgA_zeroL h)
 have hb1 := fun (v : V) x y w => box28 v x y w
 have H0 : Hid (OzW w (w.alloc (.cells (sv s.v a n c b m d) 28)) w.heap.size (sv s.v a n c b m d)) := Lib.hid ⟨Blk.new w 28 _, below_one _ _⟩
 clear hl halive hz hs0
 go_enter Tryz.func11, Tryz.ntmps11
 go_upto_region 1 with fail
 clear hb1
 generalize w.alloc (.cells (sv s.v a n c b m d) 28) = w0 at H0
 obtain ⟨p, hp⟩ : ∃ p, w.heap.size = p := ⟨_, rfl⟩
 have HPQ : Hid (w.heap.size = p) := Lib.hid hp
 rw [hp] at H0
 rw [hp]
 clear hp
 go_wp2_with fail
 refine (HAL.out _).mono ?_
 rintro e w1 ⟨rfl, hb⟩
 have H1 := Lib.hid (H0.out.below hb)
 clear hb H0
 go_wp2_with (refine wpList_run rfl (exec_load28 rfl rfl H1.out.s1) ?_)
 refine (fewl_any hn hm).mono ?_
 rintro e w2 ⟨rfl, hb⟩
 have H2 := Lib.hid (H1.out.below hb)
 have HF1 : Hid ((decide (n ≤ 60) && decide (m ≤ 60)) = true → n ≤ 60 ∧ m ≤ 60) := Lib.hid (by simp)
 clear hb H1
 generalize (decide (n ≤ 60) && decide (m ≤ 60)) = f1 at HF1 ⊢
 cases f1
 ·go_wp2_with fail
  go_ret
  exact ⟨rfl, H2.out.old⟩
 have hF1 := HF1.out rfl
 clear HF1 hn hm
 obtain ⟨hn, hm⟩ := hF1
 go_wp2_with (refine wpList_runW (exec_load28 rfl rfl H2.out.s1) (by kernel_rfl) ?_)
 refine (rRight_any (HL.out.below H2.out.old) (by omega) (by omega)).mono ?_
 rintro e w3 ⟨r, rfl, hr, hb⟩
 have H3 := Lib.hid (H2.out.below hb)
 have HR0 := Lib.hid hr
 clear hb hr H2
 cases r
 ·go_wp2_with fail
  go_ret
  exact ⟨rfl, H3.out.old⟩
 have HR := Lib.hid (HR0.out.1 rfl)
 clear HR0
 go_wp2_with (refine wpList_run rfl (exec_load28 rfl rfl H3.out.s1) ?_)
 refine (theirs_any (HL.out.below H3.out.old) (by omega) (by omega)).mono ?_
 rintro e w4 ⟨a0, c0, b0, d0, rfl, hl0, hb⟩
 have HL0 := Lib.hid hl0
 have H4 := Lib.hid (H3.out.below hb)
 clear hl0 hb H3
 go_wp2_with fail
 rw [← stA_zero, HZ.out, ← HZV.out]
 refine (merge_any HL0.out (HS0.out w4) (by omega) (by omega) (by omega) (by omega)).mono ?_
 rintro e w5 ⟨er, mm, hM, a1, n1, c1, b1, m1, d1, rfl, hE, hT, hb⟩
 obtain ⟨rfl, rfl⟩ := HMR.out HR.out _ _ hM
 have H5 := Lib.hid (H4.out.below hb)
 have HL1 : Hid (SL w5 mm a1 n1 b1 m1) := Lib.hid ⟨hE.gl, hT.gl⟩
 clear hM hE hT hb H4 HL0
 go_wp2_with (first | (refine wpList_run rfl (exec_alloc39z HZ.out rfl) ?_) | (refine wpList_stop39 rfl ?_))
 refine ⟨?_⟩
 refine wpList_void rfl rfl (exec_store39 rfl rfl rfl (Blk.new w5 39 _)) ?_
 have hbo := bo_laid w5 39 (sv z none 0 0 none 0 0) (sv mm.v a1 n1 c1 b1 m1 d1)
 have H6 : Hid (OzM w ((w5.alloc (.cells (sv z none 0 0 none 0 0) 39)).setRow w5.heap.size (sv mm.v a1 n1 c1 b1 m1 d1)) mm p w5.heap.size (sv mm.v a n c b m d) a1 n1 c1 b1 m1 d1) := Lib.hid ⟨H5.out.below hbo.old, hbo.one, HL1.out.below hbo.old⟩
 clear hbo H5 HL1
 generalize (w5.alloc (.cells (sv z none 0 0 none 0 0) 39)).setRow w5.heap.size (sv mm.v a1 n1 c1 b1 m1 d1) = w6 at H6 ⊢
 generalize w5.heap.size = p1 at H6 ⊢
 go_wp2_with (refine wpList_run rfl (exec_load28 rfl rfl H6.out.base.s1) ?_)
 refine (theirs_any (HL.out.below H6.out.base.old) (by omega) (by omega)).mono ?_
 rintro e w7 ⟨a0, c0, b0, d0, rfl, hl0, hb⟩
 have HL0 := Lib.hid hl0
 have H7 := Lib.hid (H6.out.below hb)
 clear hl0 hb H6
 go_wp2_with fail
 rw [← stA_zero, HZ.out, ← HZV.out]
 refine (merge_any (HS0.out w7) HL0.out (by omega) (by omega) (by omega) (by omega)).mono ?_
 rintro e w8 ⟨er, mm2, hM, a2, n2, c2, b2, m2, d2, rfl, hE, hT, hb⟩
 obtain ⟨rfl, hm2⟩ := HML.out HR.out _ _ hM
 subst hm2
 have H8 := Lib.hid (H7.out.below hb)
 have HL2 : Hid (SL w8 mm2 a2 n2 b2 m2) := Lib.hid ⟨hE.gl, hT.gl⟩
 clear hM hE hT hb H7 HL0
 go_wp2_with (first | (refine wpList_run rfl (exec_alloc39z HZ.out rfl) ?_) | (refine wpList_stop39 rfl ?_))
 refine ⟨?_⟩
 refine wpList_void rfl rfl (exec_store39 rfl rfl rfl (Blk.new w8 39 _)) ?_
 have hbo := bo_laid w8 39 (sv z none 0 0 none 0 0) (sv mm2.v a2 n2 c2 b2 m2 d2)
 have H9 : Hid (OzD w ((w8.alloc (.cells (sv z none 0 0 none 0 0) 39)).setRow w8.heap.size (sv mm2.v a2 n2 c2 b2 m2 d2)) mm2 p p1 w8.heap.size (sv mm2.v a n c b m d) a1 n1 c1 b1 m1 d1 a2 n2 c2 b2 m2 d2) := Lib.hid ⟨H8.out.base.s1.below hbo.old, H8.out.k1.below hbo.old, hbo.one, H8.out.l1.below hbo.old, HL2.out.below hbo.old, H8.out.base.old.trans (hbo.old.mono H8.out.base.old.size)⟩
 have hn1 : n1 ≤ 60 := by have := H8.out.l1.es.len'; have := HSN.out; omega
 have hm1 : m1 ≤ 60 := by have := H8.out.l1.ts.len'; have := HTN.out; omega
 have hn2 : n2 ≤ 60 := by have := HL2.out.es.len'; have := HSN.out; omega
 have hm2 : m2 ≤ 60 := by have := HL2.out.ts.len'; have := HTN.out; omega
 clear hbo H8 HL2
 generalize (w8.alloc (.cells (sv z none 0 0 none 0 0) 39)).setRow w8.heap.size (sv mm2.v a2 n2 c2 b2 m2 d2) = w9 at H9 ⊢
 generalize w8.heap.size = p2 at H9 ⊢
 go_wp2_with fail
 refine wp_region_held_drew (S := fun w' => OzD w w' mm2 p p1 p2 (sv mm2.v a n c b m d) a1 n1 c1 b1 m1 d1 a2 n2 c2 b2 m2 d2) (by kernel_rfl) H9.out.drew (fun hS => ?_)
 refine held_tk 0 31 (.int .i64 0) rfl rfl (by kernel_rfl) (fun _ _ _ h => h) (fun _ _ => rfl) hS ?_
 simp only [Act.put, ap1, ap2, ap3]
 refine held_tk 1 32 (.bool true) rfl rfl (by kernel_rfl) (fun _ _ _ h => h) (fun _ _ => exec_eqlI trivial rfl rfl rfl (by simp)) hS ?_
 simp only [Act.put, ap1, ap2, ap3]
 refine held_tk 2 33 (.bool true) rfl rfl (by kernel_rfl) (fun _ _ _ h => h) (fun _ _ => rfl) hS ?_
 simp only [Act.put, ap1, ap2, ap3]
 refine held_tk 3 34 (.int .i64 0) rfl rfl (by kernel_rfl) (fun _ _ _ h => h) (fun _ _ => rfl) hS ?_
 simp only [Act.put, ap1, ap2, ap3]
 refine held_tk 4 35 (.bool true) rfl rfl (by kernel_rfl) (fun _ _ _ h => h) (fun _ _ => exec_eqlI trivial rfl rfl rfl (by simp)) hS ?_
 simp only [Act.put, ap1, ap2, ap3]
 refine held_tk 5 36 (.bool true) rfl rfl (by kernel_rfl) (fun _ _ _ h => h) (fun _ _ => rfl) hS ?_
 simp only [Act.put, ap1, ap2, ap3]
 refine held_tk 6 37 (.bool true) rfl rfl (by kernel_rfl) (fun _ _ _ h => h) (fun _ _ => rfl) hS ?_
 simp only [Act.put, ap1, ap2, ap3]
 refine held_tk 7 38 (.agg (sv mm2.v a1 n1 c1 b1 m1 d1)) rfl rfl (by kernel_rfl) (fun _ _ _ h => h) (fun _ h => exec_load39 rfl rfl h.k1) hS ?_
 simp only [Act.put, ap1, ap2, ap3]
 refine held_tk 9 40 (.agg (sv mm2.v a n c b m d)) rfl rfl (by kernel_rfl) (fun _ _ _ h => h) (fun _ h => exec_load28 rfl rfl h.s1) hS ?_
 simp only [Act.put, ap1, ap2, ap3]
 refine held_callP 8 39 20 #[.agg (sv mm2.v a1 n1 c1 b1 m1 d1)] rfl (by kernel_rfl) rfl (by kernel_rfl) (by kernel_rfl) (ours_any hS.l1 (by omega) (by omega)) (fun e w11 hP => ?_)
 obtain ⟨ao, co, bo, do2, rfl, hlo, hb⟩ := hP
 refine ⟨_, rfl, hS.below hb, fun hS => ?_⟩
 simp only [Act.put, ap1, ap2, ap3]
 refine held_callP 10 41 19 #[.agg (sv mm2.v ao n1 co bo m1 do2), .agg (sv mm2.v a n c b m d)] rfl (by kernel_rfl) rfl (by kernel_rfl) (by kernel_rfl) (same_any hlo (HL.out.below hS.old) (by omega) (by omega)) (fun e w12 hP => ?_)
 obtain ⟨r, rfl, hr, hb⟩ := hP
 obtain rfl : r = true := hr.2 ⟨rfl, rfl, rfl⟩
 refine ⟨_, rfl, hS.below hb, fun hS => ?_⟩
 simp only [Act.put, ap1, ap2, ap3]
 refine held_tk 11 42 (.bool true) rfl rfl (by kernel_rfl) (fun _ _ _ h => h) (fun _ _ => rfl) hS ?_
 simp only [Act.put, ap1, ap2, ap3]
 refine held_tk 12 43 (.bool true) rfl rfl (by kernel_rfl) (fun _ _ _ h => h) (fun _ _ => rfl) hS ?_
 simp only [Act.put, ap1, ap2, ap3]
 refine held_tk 13 44 (.agg (sv mm2.v a2 n2 c2 b2 m2 d2)) rfl rfl (by kernel_rfl) (fun _ _ _ h => h) (fun _ h => exec_load39 rfl rfl h.k2) hS ?_
 simp only [Act.put, ap1, ap2, ap3]
 refine held_tk 15 46 (.agg (sv mm2.v a n c b m d)) rfl rfl (by kernel_rfl) (fun _ _ _ h => h) (fun _ h => exec_load28 rfl rfl h.s1) hS ?_
 simp only [Act.put, ap1, ap2, ap3]
 refine held_callP 14 45 20 #[.agg (sv mm2.v a2 n2 c2 b2 m2 d2)] rfl (by kernel_rfl) rfl (by kernel_rfl) (by kernel_rfl) (ours_any hS.l2 (by omega) (by omega)) (fun e w13 hP => ?_)
 obtain ⟨ap, cp, bp, dp2, rfl, hlp, hb⟩ := hP
 refine ⟨_, rfl, hS.below hb, fun hS => ?_⟩
 simp only [Act.put, ap1, ap2, ap3]
 refine held_callP 16 47 19 #[.agg (sv mm2.v ap n2 cp bp m2 dp2), .agg (sv mm2.v a n c b m d)] rfl (by kernel_rfl) rfl (by kernel_rfl) (by kernel_rfl) (same_any hlp (HL.out.below hS.old) (by omega) (by omega)) (fun e w14 hP => ?_)
 obtain ⟨r, rfl, hr, hb⟩ := hP
 obtain rfl : r = true := hr.2 ⟨rfl, rfl, rfl⟩
 refine ⟨_, rfl, hS.below hb, fun hS => ?_⟩
 simp only [Act.put, ap1, ap2, ap3]
 refine held_tk 17 48 (.bool true) rfl rfl (by kernel_rfl) (fun _ _ _ h => h) (fun _ _ => rfl) hS ?_
 simp only [Act.put, ap1, ap2, ap3]
 refine held_tk 18 49 (.bool true) rfl rfl (by kernel_rfl) (fun _ _ _ h => h) (fun _ _ => rfl) hS ?_
 simp only [Act.put, ap1, ap2, ap3]
 refine held_tk 19 50 (.agg (sv mm2.v a1 n1 c1 b1 m1 d1)) rfl rfl (by kernel_rfl) (fun _ _ _ h => h) (fun _ h => exec_load39 rfl rfl h.k1) hS ?_
 simp only [Act.put, ap1, ap2, ap3]
 refine held_tk 22 53 (.pointer (some ⟨p, 17, none⟩)) rfl rfl (by kernel_rfl) (fun _ _ _ h => h) (fun _ _ => (by kernel_rfl)) hS ?_
 simp only [Act.put, ap1, ap2, ap3]
 refine held_tk 23 54 (.slice b m d) rfl rfl (by kernel_rfl) (fun _ _ _ h => h) (fun _ h => exec_cell rfl rfl (load_cell (by kernel_rfl) (stc17 h.s1))) hS ?_
 simp only [Act.put, ap1, ap2, ap3]
 refine held_tk 24 55 (.int .i64 (m : Int)) rfl rfl (by kernel_rfl) (fun _ _ _ h => h) (fun _ _ => exec_lenS ⟨_, Tryz.underlying26⟩ rfl rfl) hS ?_
 simp only [Act.put, ap1, ap2, ap3]
 refine held_callP 20 51 27 #[.agg (sv mm2.v a1 n1 c1 b1 m1 d1)] rfl (by kernel_rfl) rfl (by kernel_rfl) (by kernel_rfl) (carts_any hS.l1 (by omega) (by omega)) (fun e w15 hP => ?_)
 obtain ⟨l, al, cl, rfl, _, hl, hb⟩ := hP
 have hlm : l.length = m := by
  rcases hl with ⟨_, rfl⟩ | ⟨hno, _⟩
  ·rw [List.length_map]; exact HTN.out
  ·exact absurd HR.out hno
 rw [hlm]
 refine ⟨_, rfl, hS.below hb, fun hS => ?_⟩
 simp only [Act.put, ap1, ap2, ap3]
 refine held_tk 21 52 (.int .i64 (m : Int)) rfl rfl (by kernel_rfl) (fun _ _ _ h => h) (fun _ _ => exec_lenS ⟨_, Tryz.underlying59⟩ rfl rfl) hS ?_
 simp only [Act.put, ap1, ap2, ap3]
 refine held_tk 25 56 (.bool true) rfl rfl (by kernel_rfl) (fun _ _ _ h => h) (fun _ _ => exec_eqlI trivial rfl rfl rfl (by simp)) hS ?_
 simp only [Act.put, ap1, ap2, ap3]
 refine held_tk 26 57 (.bool true) rfl rfl (by kernel_rfl) (fun _ _ _ h => h) (fun _ _ => rfl) hS ?_
 simp only [Act.put, ap1, ap2, ap3]
 refine held_tk 27 2 (.bool true) rfl rfl (by kernel_rfl) (fun _ _ _ h => h) (fun _ _ => rfl) hS ?_
 simp only [Act.put, ap1, ap2, ap3]
 have HS9 := Lib.hid hS
 clear hS
 refine wpAnyH_done (by kernel_rfl) ?_ _
 go_wp2_with fail
 go_ret
 exact ⟨rfl, HS9.out.old⟩
end Go.Proofs.YtnekpgmgnepdoaaGreat
