import Derived.Test.YtnekpgmgnepdoaaGreatXav
import Derived.Test.YtnekpgmgnepdoaaGreatXbg
namespace Go.Proofs.YtnekpgmgnepdoaaGreat
open Go.RowKit
structure Av (w W : World) (a b : Sta) (p1 p2 : Nat) (a1 : Option Addr) (c1 : Nat) (b1 : Option Addr) (d1 : Nat) (a2 : Option Addr) (c2 : Nat) (b2 : Option Addr) (d2 : Nat) : Prop where
 k1 : Blk W p1 39 (sv a.v a1 1 c1 b1 1 d1)
 k2 : Blk W p2 39 (sv b.v a2 0 c2 b2 1 d2)
 la : SL W a a1 1 b1 1
 lb : SL W b a2 0 b2 1
 old : Below w.heap.size w W
theorem Av.below {w W W' : World} {a b : Sta} {p1 p2 : Nat} {a1 : Option Addr} {c1 : Nat} {b1 : Option Addr} {d1 : Nat} {a2 : Option Addr} {c2 : Nat} {b2 : Option Addr} {d2 : Nat} (h : Av w W a b p1 p2 a1 c1 b1 d1 a2 c2 b2 d2) (hb : Below W.heap.size W W') : Av w W' a b p1 p2 a1 c1 b1 d1 a2 c2 b2 d2 := ⟨h.k1.below hb, h.k2.below hb, h.la.below hb, h.lb.below hb, h.old.trans (hb.mono h.old.size)⟩
theorem wpList_stop55s {ops : Array Oper} {rest : List Oper} {o : Oper} {act : Act} {Q : Exit → Act → World → Prop} {W : World} {x y : Operand} (_ho : o.op = .store 55 x y) (k : Halt_ (wpList Tryz.prog ops Q (o :: rest) act W)) : wpList Tryz.prog ops Q (o :: rest) act W := k.out
set_option maxRecDepth 100000 in
set_option maxHeartbeats 8000000 in
theorem alive_any (w : World) : Calls Tryz.prog 12 #[] w (Says (.bool true) w) := by
 obtain ⟨z, hz⟩ : ∃ z, V.zero = z := ⟨_, rfl⟩
 have HF0 := Lib.hid facts
 obtain ⟨z1, h1⟩ : ∃ z, lv 1 = z := ⟨_, rfl⟩
 obtain ⟨z2, h2⟩ : ∃ z, lv 2 = z := ⟨_, rfl⟩
 rw [h1] at HF0
 obtain ⟨o1, ho1⟩ : ∃ o, opA = o := ⟨_, rfl⟩
 obtain ⟨o2, ho2⟩ : ∃ o, opB z1 = o := ⟨_, rfl⟩
 obtain ⟨s0, hs0⟩ : ∃ s, Sta.zero = s := ⟨_, rfl⟩
 obtain ⟨a, ha⟩ : ∃ s, sA = s := ⟨_, rfl⟩
 obtain ⟨b, hb⟩ : ∃ s, sB = s := ⟨_, rfl⟩
 rw [ho1, ho2, hs0, ha, hb] at HF0
 have HF : Hid (Facts s0 a b o1 o2) := HF0
 have hev : V.eqB b.v z2 = true := by rw [← h2]; exact HF.out.vb
 have HEV := Lib.hid hev
 have HZ := Lib.hid hz
 have H1 := Lib.hid h1
 have H2 := Lib.hid h2
 have HO1 := Lib.hid ho1
 have HO2 := Lib.hid ho2
 have HZV : Hid (s0.v = z) := Lib.hid (HF.out.zn.2.2.trans hz)
 clear hz h1 h2 ho1 ho2 hs0 ha hb HF0 hev
 go_enter Tryz.func12, Tryz.ntmps12
 go_wp2_with (first | (refine wpList_run rfl (exec_build39z HZ.out rfl) ?_) | (refine wpList_run rfl (exec_A HO1.out rfl rfl rfl rfl rfl rfl rfl) ?_))
 have hs0 : SL w s0 none 0 none 0 := ⟨by rw [HF.out.zn.1]; exact GL.nil _ _ _, by rw [HF.out.zn.2.1]; exact GL.nil _ _ _⟩
 rw [← stA_zero, HZ.out, ← HZV.out]
 refine (apply_any hs0 (by omega) (by omega) o1).mono ?_
 rw [HF.out.e1, HF.out.s1]
 rintro e w1 ⟨a1, n1, c1, b1, m1, d1, rfl, hE, hT, hb⟩
 obtain rfl : n1 = 1 := by rw [← HF.out.la.1]; exact (EL.len' hE.gl).symm
 obtain rfl : m1 = 1 := by rw [← HF.out.la.2]; exact (LL.len' hT.gl).symm
 have HA1 : Hid (SL w1 a a1 1 b1 1) := Lib.hid ⟨hE.gl, hT.gl⟩
 have HB1 := Lib.hid hb
 clear hs0 hE hT hb
 go_wp2_with (first | (refine wpList_run rfl (exec_alloc39z HZ.out rfl) ?_) | (refine wpList_stop39 rfl ?_))
 refine ⟨?_⟩
 refine wpList_void rfl rfl (exec_store39 rfl rfl rfl (Blk.new w1 39 _)) ?_
 have hbo := bo_laid w1 39 (sv z none 0 0 none 0 0) (sv a.v a1 1 c1 b1 1 d1)
 have HA2 := Lib.hid (HA1.out.below hbo.old)
 have HB2 := Lib.hid (HB1.out.trans (hbo.old.mono HB1.out.size))
 have HK2 := Lib.hid hbo.one
 clear hbo HA1 HB1
 generalize (w1.alloc (.cells (sv z none 0 0 none 0 0) 39)).setRow w1.heap.size (sv a.v a1 1 c1 b1 1 d1) = w2 at HA2 HB2 HK2 ⊢
 generalize w1.heap.size = p1 at HK2 ⊢
 go_wp2_with (first | (refine wpList_run rfl (exec_load39 rfl rfl HK2.out) ?_) | (refine wpList_run rfl (exec_lv H1.out (by omega) rfl rfl) ?_) | (refine wpList_run rfl (exec_B HO2.out rfl rfl rfl rfl rfl rfl rfl) ?_))
 refine (apply_any HA2.out (by omega) (by omega) o2).mono ?_
 rw [HF.out.e2, HF.out.s2]
 rintro e w3 ⟨a2, n2, c2, b2, m2, d2, rfl, hE, hT, hb⟩
 obtain rfl : n2 = 0 := by rw [← HF.out.lb.1]; exact (EL.len' hE.gl).symm
 obtain rfl : m2 = 1 := by rw [← HF.out.lb.2]; exact (LL.len' hT.gl).symm
 have HA3 := Lib.hid (HA2.out.below hb)
 have HB3 : Hid (SL w3 b a2 0 b2 1) := Lib.hid ⟨hE.gl, hT.gl⟩
 have HC3 := Lib.hid (HB2.out.trans (hb.mono HB2.out.size))
 have HK3 := Lib.hid (HK2.out.below hb)
 clear hE hT hb HA2 HB2 HK2
 go_wp2_with (first | (refine wpList_run rfl (exec_alloc39z HZ.out rfl) ?_) | (refine wpList_stop39 rfl ?_))
 refine ⟨?_⟩
 refine wpList_void rfl rfl (exec_store39 rfl rfl rfl (Blk.new w3 39 _)) ?_
 have hbo := bo_laid w3 39 (sv z none 0 0 none 0 0) (sv b.v a2 0 c2 b2 1 d2)
 have H4 : Hid (Av w ((w3.alloc (.cells (sv z none 0 0 none 0 0) 39)).setRow w3.heap.size (sv b.v a2 0 c2 b2 1 d2)) a b p1 w3.heap.size a1 c1 b1 d1 a2 c2 b2 d2) := Lib.hid ⟨HK3.out.below hbo.old, hbo.one, HA3.out.below hbo.old, HB3.out.below hbo.old, HC3.out.trans (hbo.old.mono HC3.out.size)⟩
 clear hbo HA3 HB3 HC3 HK3
 generalize (w3.alloc (.cells (sv z none 0 0 none 0 0) 39)).setRow w3.heap.size (sv b.v a2 0 c2 b2 1 d2) = w4 at H4 ⊢
 generalize w3.heap.size = p2 at H4 ⊢
 go_wp2_with (first | (refine wpList_run rfl (exec_load39 rfl rfl H4.out.k1) ?_) | (refine wpList_run rfl (exec_load39 rfl rfl H4.out.k2) ?_))
 refine (merge_any H4.out.la H4.out.lb (by omega) (by omega) (by omega) (by omega)).mono ?_
 rintro e w5 ⟨er, mm, hM, a3, n3, c3, b3, m3, d3, rfl, hE, hT, hb⟩
 obtain ⟨rfl, hmm⟩ := HF.out.mg _ _ hM
 obtain rfl : n3 = 0 := by have := EL.len' hE.gl; rw [hmm] at this; exact this.symm
 have H5 := Lib.hid (H4.out.below hb)
 clear hM hmm hE hT hb H4
 go_wp2_with (first | (refine wpList_run rfl (exec_alloc39z HZ.out rfl) ?_) | (refine wpList_stop39 rfl ?_))
 refine ⟨?_⟩
 refine wpList_void rfl rfl (exec_store39 rfl rfl rfl (Blk.new w5 39 _)) ?_
 have hbo := bo_laid w5 39 (sv z none 0 0 none 0 0) (sv mm.v a3 0 c3 b3 m3 d3)
 have H6 := Lib.hid (H5.out.below hbo.old)
 have HK6 := Lib.hid hbo.one
 clear hbo H5
 generalize (w5.alloc (.cells (sv z none 0 0 none 0 0) 39)).setRow w5.heap.size (sv mm.v a3 0 c3 b3 m3 d3) = w6 at H6 HK6 ⊢
 generalize w5.heap.size = p3 at HK6 ⊢
 have hM6 := Lib.hid (stc16 HK6.out)
 clear HK6
 go_wp2_with (refine wpList_run rfl (exec_load39 rfl rfl H6.out.k1) ?_)
 refine (view_any H6.out.la (by omega) (by omega) 3 (by omega)).mono ?_
 rintro e w7 hv
 rcases hv with ⟨_, its, av, cap, hit, rfl, hL, hb⟩ | ⟨hno, _⟩
 case inr => exact absurd HF.out.ra hno
 obtain ⟨rfl, hq⟩ := HF.out.va its hit
 obtain ⟨g, off, rfl, hc⟩ : ∃ g off, av = some ⟨g, off, none⟩ ∧ w7.cell? ⟨g, off + 1, none⟩ = some (.int .u32 2) := by
  rcases hL.gl.cells with h0 | ⟨g, o, rfl, hc⟩
  ·cases h0
  ·have h1 := hc 0 (clineCs 3 a.es 4) rfl
   rw [Nat.zero_mul, Nat.add_zero] at h1
   have e1 := h1 1 (.int .u32 (cqtyAt 3 a.es 4 : Int)) rfl
   rw [hq] at e1
   exact ⟨g, o, rfl, e1⟩
 have H7 := Lib.hid (H6.out.below hb)
 have hM7 := Lib.hid (below_at hb hM6.out)
 have HC7 := Lib.hid hc
 clear hit hq hL hb hc H6 hM6
 generalize coutTo 3 a.es a.es.length = ou
 generalize (tkOf a.ts 3).getD 0 = tk
 go_wp2_with (refine wpList_stop55s rfl ?_)
 refine ⟨?_⟩
 refine wpList_void rfl rfl (exec_store55 (c := 0) (v := .slice none 0 0) (o := false) (t := 0) (c2 := 3) (t2 := tk) rfl rfl rfl (Blk.new w7 55 _)) ?_
 have hbo := bo_laid w7 55 #[.int .u16 0, .slice none 0 0, .bool false, .int .u32 0] (viewV 3 (.slice (some ⟨g, off, none⟩) 1 cap) ou tk)
 have H8 := Lib.hid (H7.out.below hbo.old)
 have e3 := below_at hbo.old hM7.out
 have e5 := below_at hbo.old HC7.out
 have HV8 := Lib.hid hbo.one
 clear hbo H7 hM7 HC7
 generalize (w7.alloc (.cells #[.int .u16 0, .slice none 0 0, .bool false, .int .u32 0] 55)).setRow w7.heap.size (viewV 3 (.slice (some ⟨g, off, none⟩) 1 cap) ou tk) = w8 at H8 HV8 e3 e5 ⊢
 generalize w7.heap.size = pv at HV8 ⊢
 have e1 := stc16 H8.out.k1
 have e2 := stc16 H8.out.k2
 have e4 : w8.cell? ⟨pv, 1, none⟩ = some (.slice (some ⟨g, off, none⟩) 1 cap) := by rw [HV8.out.cell]; rfl
 clear HV8
 go_upto_region 5 with fail
 repeat (first | (refine wpList_runW (exec_stV (v := b.v) rfl rfl H8.out.k2) (by kernel_rfl) ?_) | (refine wpList_runW (exec_lv H2.out (by omega) rfl rfl) (by kernel_rfl) ?_) | (refine wpList_runW (exec_eql24 (a := b.v) (b := z2) rfl rfl rfl HEV.out) (by kernel_rfl) ?_) | (refine wpList_runW (exec_load39 rfl rfl H8.out.k2) (by kernel_rfl) ?_) | go_values | go_skip | go_guarded | go_step | go_upon | go_back)
 clear e1 e2 e3 e4 e5
 refine (view_any H8.out.lb (by omega) (by omega) 3 (by omega)).mono ?_
 rintro e w9 hv
 rcases hv with ⟨_, its2, av2, cap2, _, rfl, _, hb⟩ | ⟨hno, _⟩
 case inr => exact absurd HF.out.rb hno
 have H9 := Lib.hid (H8.out.below hb)
 clear hb H8
 rw [HF.out.tb]
 generalize coutTo 3 b.es b.es.length = ou2
 generalize its2.length = n9
 dsimp only
 repeat (first | (refine wpList_runW (exec_fldTk (c := 3) (s := .slice av2 n9 cap2) (b := ou2) (t := 6) rfl rfl) (by kernel_rfl) ?_) | (refine wpList_runW (exec_load39 rfl rfl H9.out.k1) (by kernel_rfl) ?_) | go_values | go_skip | go_guarded | go_step | go_upon | go_back)
 refine (right_any' H9.out.la (by omega) (by omega)).mono ?_
 rintro e w10 ⟨r, rfl, hr, hb⟩
 obtain rfl : r = true := hr.2 HF.out.ra
 have H10 := Lib.hid (H9.out.below hb)
 clear hr hb H9
 dsimp only
 repeat (first | (refine wpList_runW (exec_load39 rfl rfl H10.out.k2) (by kernel_rfl) ?_) | go_values | go_skip | go_guarded | go_step | go_upon | go_back)
 refine (carts_any H10.out.lb (by omega) (by omega)).mono ?_
 rintro e w11 ⟨l, al, cl, rfl, _, hl, hb⟩
 have hl1 : l.length = 1 := by
  rcases hl with ⟨_, rfl⟩ | ⟨hno, _⟩
  ·rw [List.length_map]; exact HF.out.lb.2
  ·exact absurd HF.out.rb hno
 have H11 := Lib.hid (H10.out.below hb)
 clear hl hb H10
 rw [hl1]
 clear hl1
 go_wp2_with fail
 go_ret
 exact ⟨rfl, H11.out.old⟩
end Go.Proofs.YtnekpgmgnepdoaaGreat
