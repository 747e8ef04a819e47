import Derived.Test.YtnekpgmgnepdoaaGreatZay
import Derived.Test.YtnekpgmgnepdoaaGreatZbg
import Derived.Test.YtnekpgmgnepdoaaGreatZbn
namespace Go.Proofs.YtnekpgmgnepdoaaGreat
open Go.RowKit
theorem asc_len : ∀ {l : List La} {lo : Nat}, lo ≤ 65536 → (l.Pairwise fun a b => a.c < b.c) → (∀ x ∈ l, lo ≤ x.c) → l.length + lo ≤ 65536
 | [], _, h0, _, _ => by simpa using h0
 | x :: l, lo, h0, hp, hl => by
  have hc := List.pairwise_cons.1 hp
  have h1 := hl x (by simp)
  have h2 := x.hc
  have := asc_len (l := l) (lo := x.c + 1) (by omega) hc.2 (fun y hy => hc.1 y hy)
  simp only [List.length_cons]
  omega
theorem MgA.len {s t m : Sta} {er : Nat} (h : MgA s t er m) : m.es.length ≤ s.es.length + t.es.length ∧ m.ts.length ≤ 65536 := by
 cases h with
 | ok h1 h2 hc hm =>
  refine ⟨?_, by have := asc_len (l := m.ts) (lo := 0) (by omega) hm.up (fun _ _ => Nat.zero_le _); omega⟩
  have hnd : m.es.Nodup := hm.ord.imp (fun {a b} hab e => by subst e; exact En.Ahead.irrefl _ hab)
  have h1 := nodup_len hnd (fun x hx => (hm.mem x).1 hx)
  have h2 := List.length_filter_le (keepA t) s.es
  have h3 := List.length_filter_le (keepB s) t.es
  unfold bothE at h1
  rw [List.length_append] at h1
  omega
 | clash _ _ _ => simp [Sta.zero]
 | not _ => simp [Sta.zero]
theorem SmW.below {w W W' : World} {p q : Nat} {U V : Array Value} (h : SmW w W p q U V) (hb : Below W.heap.size W W') : SmW w W' p q U V := ⟨h.s1.below hb, h.s2.below hb, h.old.trans (hb.mono h.old.size)⟩
theorem SmW.drew {w W : World} {p q : Nat} {U V : Array Value} (h : SmW w W p q U V) : SmW w W.drew p q U V := ⟨h.s1, h.s2, h.old.drew⟩
structure LyM (w W : World) (p q pm : Nat) (U V : Array Value) (mm : Sta) (am : Option Addr) (nm cm : Nat) (bm : Option Addr) (km dm : Nat) : Prop where
 base : SmW w W p q U V
 kba : Blk W pm 39 (sv mm.v am nm cm bm km dm)
 la : SL W mm am nm bm km
 lt : q < pm
theorem LyM.below {w W W' : World} {p q pm : Nat} {U V : Array Value} {mm : Sta} {am : Option Addr} {nm cm : Nat} {bm : Option Addr} {km dm : Nat} (h : LyM w W p q pm U V mm am nm cm bm km dm) (hb : Below W.heap.size W W') : LyM w W' p q pm U V mm am nm cm bm km dm := ⟨h.base.below hb, h.kba.below hb, h.la.below hb, h.lt⟩
structure LyD (w W : World) (pm pd : Nat) (mm : Sta) (am : Option Addr) (nm cm : Nat) (bm : Option Addr) (km dm : Nat) (ad : Option Addr) (nd cd : Nat) (bd : Option Addr) (kd dd : Nat) : Prop where
 kba : Blk W pm 39 (sv mm.v am nm cm bm km dm)
 kbd : Blk W pd 28 (sv mm.v ad nd cd bd kd dd)
 la : SL W mm am nm bm km
 ld : SL W mm ad nd bd kd
 old : Below w.heap.size w W
theorem LyD.below {w W W' : World} {pm pd : Nat} {mm : Sta} {am : Option Addr} {nm cm : Nat} {bm : Option Addr} {km dm : Nat} {ad : Option Addr} {nd cd : Nat} {bd : Option Addr} {kd dd : Nat} (h : LyD w W pm pd mm am nm cm bm km dm ad nd cd bd kd dd) (hb : Below W.heap.size W W') : LyD w W' pm pd mm am nm cm bm km dm ad nd cd bd kd dd := ⟨h.kba.below hb, h.kbd.below hb, h.la.below hb, h.ld.below hb, h.old.trans (hb.mono h.old.size)⟩
theorem LyD.drew {w W : World} {pm pd : Nat} {mm : Sta} {am : Option Addr} {nm cm : Nat} {bm : Option Addr} {km dm : Nat} {ad : Option Addr} {nd cd : Nat} {bd : Option Addr} {kd dd : Nat} (h : LyD w W pm pd mm am nm cm bm km dm ad nd cd bd kd dd) : LyD w W.drew pm pd mm am nm cm bm km dm ad nd cd bd kd dd := ⟨h.kba, h.kbd, h.la.below (drew_below _), h.ld.below (drew_below _), h.old.drew⟩
set_option maxRecDepth 100000 in
set_option maxHeartbeats 16000000 in
theorem merges_walk {s t : Sta} {a b a2 b2 : Option Addr} {n c m d n2 c2 m2 d2 : Nat} {w : World} (halive : ∀ W, Calls Tryz.prog 12 #[] W (Says (.bool true) W)) (hl : SL w s a n b m) (hl2 : SL w t a2 n2 b2 m2) (hn : n < 9223372036854775808) (hm : m < 9223372036854775808) (hn2 : n2 < 9223372036854775808) (hm2 : m2 < 9223372036854775808) : Calls Tryz.prog 4 #[.agg (sv s.v a n c b m d), .agg (sv t.v a2 n2 c2 b2 m2 d2)] w (Says (.bool true) w) := by
 have HL := Lib.hid hl
 have HL2 := Lib.hid hl2
 have HAL := Lib.hid halive
 have HSN := Lib.hid hl.es.len'
 have HTN := Lib.hid hl2.es.len'
 obtain ⟨z, hz⟩ : ∃ z, V.zero = z := ⟨_, rfl⟩
 have HZ := Lib.hid hz
 have hb1 := fun (v : V) x y w => box28 v x y w
 have H0 : Hid (SmW w ((w.alloc (.cells (sv s.v a n c b m d) 28)).alloc (.cells (sv t.v a2 n2 c2 b2 m2 d2) 28)) w.heap.size (w.heap.size + 1) (sv s.v a n c b m d) (sv t.v a2 n2 c2 b2 m2 d2)) := Lib.hid ⟨(Blk.new w 28 _).below (below_one _ _), by have := Blk.new (w.alloc (.cells (sv s.v a n c b m d) 28)) 28 (sv t.v a2 n2 c2 b2 m2 d2); simpa using this, below_2 _ _ _⟩
 clear hl hl2 halive hz
 go_enter Tryz.func4, Tryz.ntmps4
 go_upto_region 1 with fail
 clear hb1
 try simp only [World.size_alloc, Act.put, List.setIfInBounds_toArray, List.set_cons_zero, List.set_cons_succ]
 generalize (w.alloc (.cells (sv s.v a n c b m d) 28)).alloc (.cells (sv t.v a2 n2 c2 b2 m2 d2) 28) = w0 at H0
 obtain ⟨p, hp⟩ : ∃ p, w.heap.size = p := ⟨_, rfl⟩
 obtain ⟨q, hq⟩ : ∃ q, p + 1 = q := ⟨_, rfl⟩
 have HPQ : Hid (w.heap.size = p ∧ p + 1 = q) := Lib.hid ⟨hp, hq⟩
 rw [hp, hq] at H0
 rw [hp, hq]
 clear hp hq
 go_wp2_with fail
 refine (HAL.out _).mono ?_
 rintro e w1 ⟨rfl, hb⟩
 have H1 := Lib.hid (H0.out.below hb)
 clear hb H0
 go_wp2_with (refine wpList_run rfl (exec_load28 rfl rfl H1.out.s1) ?_)
 refine (fewl_any hn hm).mono ?_
 rintro e w2 ⟨rfl, hb⟩
 have H2 := Lib.hid (H1.out.below hb)
 have HF1 : Hid ((decide (n ≤ 60) && decide (m ≤ 60)) = true → n ≤ 60 ∧ m ≤ 60) := Lib.hid (by simp)
 clear hb H1
 generalize (decide (n ≤ 60) && decide (m ≤ 60)) = f1 at HF1 ⊢
 cases f1
 ·go_wp2_with fail
  go_ret
  exact ⟨rfl, H2.out.old⟩
 have hF1 := HF1.out rfl
 clear HF1
 go_wp2_with (refine wpList_runW (exec_load28 rfl rfl H2.out.s2) (by kernel_rfl) ?_)
 refine (fewl_any hn2 hm2).mono ?_
 rintro e w3 ⟨rfl, hb⟩
 have H3 := Lib.hid (H2.out.below hb)
 have HF2 : Hid ((decide (n2 ≤ 60) && decide (m2 ≤ 60)) = true → n2 ≤ 60 ∧ m2 ≤ 60) := Lib.hid (by simp)
 clear hb H2
 generalize (decide (n2 ≤ 60) && decide (m2 ≤ 60)) = f2 at HF2 ⊢
 cases f2
 ·go_wp2_with fail
  go_ret
  exact ⟨rfl, H3.out.old⟩
 have hF2 := HF2.out rfl
 clear HF2 hn hm hn2 hm2
 obtain ⟨hn, hm⟩ := hF1
 obtain ⟨hn2, hm2⟩ := hF2
 go_wp2_with fail
 refine wp_cut (fun act a' w' => ∃ (mm : Sta) (er : Nat) (am : Option Addr) (nm cm : Nat) (bm : Option Addr) (km dm pm : Nat) (X1 X2 : Value), a' = (((((((((act.put (some 20) (.agg (sv s.v a n c b m d))).put (some 21) X1).put (some 22) (.agg (sv t.v a2 n2 c2 b2 m2 d2))).put (some 23) X2).put (some 24) (.tuple #[.agg (sv mm.v am nm cm bm km dm), .int .i64 (er : Int)])).put (some 19) (.tuple #[.agg (sv mm.v am nm cm bm km dm), .int .i64 (er : Int)])).put (some 25) (.agg (sv mm.v am nm cm bm km dm))).put (some 26) (.int .i64 (er : Int))).put (some 5) (.pointer (some ⟨pm, 0, none⟩))).put (some 6) (.int .i64 (er : Int)) ∧ Hid (MgA s t er mm) ∧ Hid (LyM w w' p q pm (sv s.v a n c b m d) (sv t.v a2 n2 c2 b2 m2 d2) mm am nm cm bm km dm)) ?after ?reg
 case reg =>
  refine wp_region_held_drew (S := fun w' => SmW w w' p q (sv s.v a n c b m d) (sv t.v a2 n2 c2 b2 m2 d2)) (by kernel_rfl) H3.out.drew (fun hS => ?_)
  refine held_tk 0 20 (.agg (sv s.v a n c b m d)) rfl rfl (by kernel_rfl) (fun _ _ _ h => by cases h.1) (fun _ h => exec_load28 rfl rfl h.s1) hS ?_
  simp only [Act.put, ap1, ap2, ap3]
  refine held_tk 2 22 (.agg (sv t.v a2 n2 c2 b2 m2 d2)) rfl rfl (by kernel_rfl) (fun _ _ _ h => by cases h.1) (fun _ h => exec_load28 rfl rfl h.s2) hS ?_
  simp only [Act.put, ap1, ap2, ap3]
  refine wpAnyH_ready (rs := [1, 8]) (by kernel_rfl) (by simp) (br_callP 1 21 15 #[.agg (sv s.v a n c b m d)] rfl rfl (by kernel_rfl) (by kernel_rfl) (theirs_any (HL.out.below hS.old) (by omega) (by omega)) (fun e v6 hP => ?fst1) (br_exec 8 5 (.pointer (some ⟨w3.drew.heap.size, 0, none⟩)) rfl rfl (by kernel_rfl) (exec_alloc39z HZ.out rfl) (hS.below (below_one _ _)) ?snd1 AllReadyH.nil))
  case fst1 =>
   obtain ⟨a1, c1, b1, d1, rfl, hl1, hb⟩ := hP
   refine ⟨_, rfl, hS.below hb, fun hS => ?_⟩
   simp only [Act.put, ap1, ap2, ap3]
   refine wpAnyH_ready (rs := [3, 8]) (by kernel_rfl) (by simp) (br_callP 3 23 15 #[.agg (sv t.v a2 n2 c2 b2 m2 d2)] rfl rfl (by kernel_rfl) (by kernel_rfl) (theirs_any (HL2.out.below hS.old) (by omega) (by omega)) (fun e v7 hP => ?fst3) (br_exec 8 5 (.pointer (some ⟨v6.heap.size, 0, none⟩)) rfl rfl (by kernel_rfl) (exec_alloc39z HZ.out rfl) (hS.below (below_one _ _)) ?snd3 AllReadyH.nil))
   case fst3 =>
    obtain ⟨a3, c3, b3, d3, rfl, hl3, hb⟩ := hP
    refine ⟨_, rfl, hS.below hb, fun hS => ?_⟩
    simp only [Act.put, ap1, ap2, ap3]
    have hl1 := hl1.below hb
    refine wpAnyH_ready (rs := [4, 8]) (by kernel_rfl) (by simp) (br_callP 4 24 21 #[.agg (sv s.v a1 n c1 b1 m d1), .agg (sv t.v a3 n2 c3 b3 m2 d3)] rfl rfl (by kernel_rfl) (by kernel_rfl) (merge_any hl1 hl3 (by omega) (by omega) (by omega) (by omega)) (fun e v8 hP => ?fst4) (br_exec 8 5 (.pointer (some ⟨v7.heap.size, 0, none⟩)) rfl rfl (by kernel_rfl) (exec_alloc39z HZ.out rfl) (hS.below (below_one _ _)) ?snd4 AllReadyH.nil))
    case fst4 =>
     obtain ⟨er, mm, hM, am, nm, cm, bm, km, dm, rfl, hE, hT, hb⟩ := hP
     have HM := Lib.hid hM
     refine ⟨_, rfl, hS.below hb, fun hS => ?_⟩
     simp only [Act.put, ap1, ap2, ap3]
     have hl1 := hl1.below hb
     have hl3 := hl3.below hb
     refine held_tk 5 19 (.tuple #[.agg (sv mm.v am nm cm bm km dm), .int .i64 (er : Int)]) rfl rfl (by kernel_rfl) (fun _ _ _ h => by cases h.1) (fun _ _ => rfl) hS ?_
     simp only [Act.put, ap1, ap2, ap3]
     refine held_tk 6 25 (.agg (sv mm.v am nm cm bm km dm)) rfl rfl (by kernel_rfl) (fun _ _ _ h => by cases h.1) (fun _ _ => rfl) hS ?_
     simp only [Act.put, ap1, ap2, ap3]
     refine held_tk 7 26 (.int .i64 (er : Int)) rfl rfl (by kernel_rfl) (fun _ _ _ h => by cases h.1) (fun _ _ => rfl) hS ?_
     simp only [Act.put, ap1, ap2, ap3]
     have hbo := bo_laid v8 39 (sv z none 0 0 none 0 0) (sv mm.v am nm cm bm km dm)
     refine held_exec 8 5 (.pointer (some ⟨v8.heap.size, 0, none⟩)) rfl rfl (by kernel_rfl) (by kernel_rfl) (exec_alloc39z HZ.out rfl) (hS.below (below_one _ _)) ?_
     simp only [Act.put, ap1, ap2, ap3]
     refine held_void 9 rfl rfl (by kernel_rfl) (by kernel_rfl) (exec_store39 rfl rfl rfl (Blk.new v8 39 _)) (hS.below hbo.old) ?_
     have HLY : Hid (LyM w ((v8.alloc (.cells (sv z none 0 0 none 0 0) 39)).setRow v8.heap.size (sv mm.v am nm cm bm km dm)) p q v8.heap.size (sv s.v a n c b m d) (sv t.v a2 n2 c2 b2 m2 d2) mm am nm cm bm km dm) := Lib.hid ⟨hS.below hbo.old, hbo.one, ⟨hE.gl.below hbo.old, hT.gl.below hbo.old⟩, hS.s2.lt⟩
     replace hS := hS.below hbo.old
     clear hbo
     generalize (v8.alloc (.cells (sv z none 0 0 none 0 0) 39)).setRow v8.heap.size (sv mm.v am nm cm bm km dm) = w5 at HLY hS ⊢
     generalize v8.heap.size = pm at HLY ⊢
     refine held_tk 10 6 (.int .i64 (er : Int)) rfl rfl (by kernel_rfl) (fun _ _ _ h => by cases h.1) (fun _ _ => rfl) hS ?_
     simp only [Act.put, ap1, ap2, ap3]
     refine wpAnyH_done (by kernel_rfl) ?_ _
     exact ⟨rfl, mm, er, am, nm, cm, bm, km, dm, pm, _, _, rfl, HM, HLY⟩
    case snd4 =>
     simp only [Act.put, ap1, ap2, ap3]
     have HP6 : Hid (q < v7.heap.size) := Lib.hid hS.s2.lt
     have hA := Blk.new v7 39 (sv z none 0 0 none 0 0)
     have hl1 := hl1.below (below_one v7 (.cells (sv z none 0 0 none 0 0) 39))
     have hl3 := hl3.below (below_one v7 (.cells (sv z none 0 0 none 0 0) 39))
     replace hS := hS.below (below_one v7 (.cells (sv z none 0 0 none 0 0) 39))
     generalize v7.alloc (.cells (sv z none 0 0 none 0 0) 39) = v9 at hS hA hl1 hl3 ⊢
     generalize v7.heap.size = pm at hA HP6 ⊢
     have hA0 := hA
     refine held_callP 4 24 21 #[.agg (sv s.v a1 n c1 b1 m d1), .agg (sv t.v a3 n2 c3 b3 m2 d3)] rfl (by kernel_rfl) rfl (by kernel_rfl) (by kernel_rfl) (merge_any hl1 hl3 (by omega) (by omega) (by omega) (by omega)) (fun e v10 hP => ?_)
     obtain ⟨er, mm, hM, am, nm, cm, bm, km, dm, rfl, hE, hT, hb⟩ := hP
     have HM := Lib.hid hM
     refine ⟨_, rfl, hS.below hb, fun hS => ?_⟩
     simp only [Act.put, ap1, ap2, ap3]
     have hl1 := hl1.below hb
     have hl3 := hl3.below hb
     have hA := hA.below hb
     have hPB : pm < v9.heap.size := hA0.lt
     refine held_tk 5 19 (.tuple #[.agg (sv mm.v am nm cm bm km dm), .int .i64 (er : Int)]) rfl rfl (by kernel_rfl) (fun _ _ _ h => by cases h.1) (fun _ _ => rfl) hS ?_
     simp only [Act.put, ap1, ap2, ap3]
     refine held_tk 6 25 (.agg (sv mm.v am nm cm bm km dm)) rfl rfl (by kernel_rfl) (fun _ _ _ h => by cases h.1) (fun _ _ => rfl) hS ?_
     simp only [Act.put, ap1, ap2, ap3]
     refine held_tk 7 26 (.int .i64 (er : Int)) rfl rfl (by kernel_rfl) (fun _ _ _ h => by cases h.1) (fun _ _ => rfl) hS ?_
     simp only [Act.put, ap1, ap2, ap3]
     have hk := Kept.setRow v10 pm (sv mm.v am nm cm bm km dm)
     have hS9 : SmW w (v10.setRow pm (sv mm.v am nm cm bm km dm)) p q (sv s.v a n c b m d) (sv t.v a2 n2 c2 b2 m2 d2) := ⟨hS.s1.kept hk (by have := HPQ.out; have := HP6.out; omega), hS.s2.kept hk (by have := HP6.out; omega), hS.old.trans (hk.below hS.old.size (fun k hk => by have := HPQ.out; have := HP6.out; omega))⟩
     refine held_void 9 rfl rfl (by kernel_rfl) (by kernel_rfl) (exec_store39 rfl rfl rfl hA) hS9 ?_
     have HLY : Hid (LyM w (v10.setRow pm (sv mm.v am nm cm bm km dm)) p q pm (sv s.v a n c b m d) (sv t.v a2 n2 c2 b2 m2 d2) mm am nm cm bm km dm) := Lib.hid ⟨hS9, hA.row, ⟨(hE.keep hk (fun ad e h => by have := (hE.lt ad e).1; omega)).gl, (hT.keep hk (fun ad e h => by have := (hT.lt ad e).1; omega)).gl⟩, HP6.out⟩
     clear hk hS hA
     have hS := hS9
     clear hS9
     generalize v10.setRow pm (sv mm.v am nm cm bm km dm) = w5 at HLY hS ⊢
     refine held_tk 10 6 (.int .i64 (er : Int)) rfl rfl (by kernel_rfl) (fun _ _ _ h => by cases h.1) (fun _ _ => rfl) hS ?_
     simp only [Act.put, ap1, ap2, ap3]
     refine wpAnyH_done (by kernel_rfl) ?_ _
     exact ⟨rfl, mm, er, am, nm, cm, bm, km, dm, pm, _, _, rfl, HM, HLY⟩
   case snd3 =>
    simp only [Act.put, ap1, ap2, ap3]
    have HP6 : Hid (q < v6.heap.size) := Lib.hid hS.s2.lt
    have hA := Blk.new v6 39 (sv z none 0 0 none 0 0)
    have hl1 := hl1.below (below_one v6 (.cells (sv z none 0 0 none 0 0) 39))
    replace hS := hS.below (below_one v6 (.cells (sv z none 0 0 none 0 0) 39))
    generalize v6.alloc (.cells (sv z none 0 0 none 0 0) 39) = v11 at hS hA hl1 ⊢
    generalize v6.heap.size = pm at hA HP6 ⊢
    refine held_callP 3 23 15 #[.agg (sv t.v a2 n2 c2 b2 m2 d2)] rfl (by kernel_rfl) rfl (by kernel_rfl) (by kernel_rfl) (theirs_any (HL2.out.below hS.old) (by omega) (by omega)) (fun e v12 hP => ?_)
    obtain ⟨a3, c3, b3, d3, rfl, hl3, hb⟩ := hP
    refine ⟨_, rfl, hS.below hb, fun hS => ?_⟩
    simp only [Act.put, ap1, ap2, ap3]
    have hl1 := hl1.below hb
    have hA := hA.below hb
    have hA0 := hA
    refine held_callP 4 24 21 #[.agg (sv s.v a1 n c1 b1 m d1), .agg (sv t.v a3 n2 c3 b3 m2 d3)] rfl (by kernel_rfl) rfl (by kernel_rfl) (by kernel_rfl) (merge_any hl1 hl3 (by omega) (by omega) (by omega) (by omega)) (fun e v13 hP => ?_)
    obtain ⟨er, mm, hM, am, nm, cm, bm, km, dm, rfl, hE, hT, hb⟩ := hP
    have HM := Lib.hid hM
    refine ⟨_, rfl, hS.below hb, fun hS => ?_⟩
    simp only [Act.put, ap1, ap2, ap3]
    have hl1 := hl1.below hb
    have hA := hA.below hb
    have hl3 := hl3.below hb
    have hPB : pm < v12.heap.size := hA0.lt
    refine held_tk 5 19 (.tuple #[.agg (sv mm.v am nm cm bm km dm), .int .i64 (er : Int)]) rfl rfl (by kernel_rfl) (fun _ _ _ h => by cases h.1) (fun _ _ => rfl) hS ?_
    simp only [Act.put, ap1, ap2, ap3]
    refine held_tk 6 25 (.agg (sv mm.v am nm cm bm km dm)) rfl rfl (by kernel_rfl) (fun _ _ _ h => by cases h.1) (fun _ _ => rfl) hS ?_
    simp only [Act.put, ap1, ap2, ap3]
    refine held_tk 7 26 (.int .i64 (er : Int)) rfl rfl (by kernel_rfl) (fun _ _ _ h => by cases h.1) (fun _ _ => rfl) hS ?_
    simp only [Act.put, ap1, ap2, ap3]
    have hk := Kept.setRow v13 pm (sv mm.v am nm cm bm km dm)
    have hS9 : SmW w (v13.setRow pm (sv mm.v am nm cm bm km dm)) p q (sv s.v a n c b m d) (sv t.v a2 n2 c2 b2 m2 d2) := ⟨hS.s1.kept hk (by have := HPQ.out; have := HP6.out; omega), hS.s2.kept hk (by have := HP6.out; omega), hS.old.trans (hk.below hS.old.size (fun k hk => by have := HPQ.out; have := HP6.out; omega))⟩
    refine held_void 9 rfl rfl (by kernel_rfl) (by kernel_rfl) (exec_store39 rfl rfl rfl hA) hS9 ?_
    have HLY : Hid (LyM w (v13.setRow pm (sv mm.v am nm cm bm km dm)) p q pm (sv s.v a n c b m d) (sv t.v a2 n2 c2 b2 m2 d2) mm am nm cm bm km dm) := Lib.hid ⟨hS9, hA.row, ⟨(hE.keep hk (fun ad e h => by have := (hE.lt ad e).1; omega)).gl, (hT.keep hk (fun ad e h => by have := (hT.lt ad e).1; omega)).gl⟩, HP6.out⟩
    clear hk hS hA
    have hS := hS9
    clear hS9
    generalize v13.setRow pm (sv mm.v am nm cm bm km dm) = w5 at HLY hS ⊢
    refine held_tk 10 6 (.int .i64 (er : Int)) rfl rfl (by kernel_rfl) (fun _ _ _ h => by cases h.1) (fun _ _ => rfl) hS ?_
    simp only [Act.put, ap1, ap2, ap3]
    refine wpAnyH_done (by kernel_rfl) ?_ _
    exact ⟨rfl, mm, er, am, nm, cm, bm, km, dm, pm, _, _, rfl, HM, HLY⟩
  case snd1 =>
   simp only [Act.put, ap1, ap2, ap3]
   have HP6 : Hid (q < w3.drew.heap.size) := Lib.hid hS.s2.lt
   have hA := Blk.new w3.drew 39 (sv z none 0 0 none 0 0)
   replace hS := hS.below (below_one w3.drew (.cells (sv z none 0 0 none 0 0) 39))
   generalize w3.drew.alloc (.cells (sv z none 0 0 none 0 0) 39) = v14 at hS hA  ⊢
   generalize w3.drew.heap.size = pm at hA HP6 ⊢
   refine held_callP 1 21 15 #[.agg (sv s.v a n c b m d)] rfl (by kernel_rfl) rfl (by kernel_rfl) (by kernel_rfl) (theirs_any (HL.out.below hS.old) (by omega) (by omega)) (fun e v15 hP => ?_)
   obtain ⟨a1, c1, b1, d1, rfl, hl1, hb⟩ := hP
   refine ⟨_, rfl, hS.below hb, fun hS => ?_⟩
   simp only [Act.put, ap1, ap2, ap3]
   have hA := hA.below hb
   refine held_callP 3 23 15 #[.agg (sv t.v a2 n2 c2 b2 m2 d2)] rfl (by kernel_rfl) rfl (by kernel_rfl) (by kernel_rfl) (theirs_any (HL2.out.below hS.old) (by omega) (by omega)) (fun e v16 hP => ?_)
   obtain ⟨a3, c3, b3, d3, rfl, hl3, hb⟩ := hP
   refine ⟨_, rfl, hS.below hb, fun hS => ?_⟩
   simp only [Act.put, ap1, ap2, ap3]
   have hA := hA.below hb
   have hl1 := hl1.below hb
   have hA0 := hA
   refine held_callP 4 24 21 #[.agg (sv s.v a1 n c1 b1 m d1), .agg (sv t.v a3 n2 c3 b3 m2 d3)] rfl (by kernel_rfl) rfl (by kernel_rfl) (by kernel_rfl) (merge_any hl1 hl3 (by omega) (by omega) (by omega) (by omega)) (fun e v17 hP => ?_)
   obtain ⟨er, mm, hM, am, nm, cm, bm, km, dm, rfl, hE, hT, hb⟩ := hP
   have HM := Lib.hid hM
   refine ⟨_, rfl, hS.below hb, fun hS => ?_⟩
   simp only [Act.put, ap1, ap2, ap3]
   have hA := hA.below hb
   have hl1 := hl1.below hb
   have hl3 := hl3.below hb
   have hPB : pm < v16.heap.size := hA0.lt
   refine held_tk 5 19 (.tuple #[.agg (sv mm.v am nm cm bm km dm), .int .i64 (er : Int)]) rfl rfl (by kernel_rfl) (fun _ _ _ h => by cases h.1) (fun _ _ => rfl) hS ?_
   simp only [Act.put, ap1, ap2, ap3]
   refine held_tk 6 25 (.agg (sv mm.v am nm cm bm km dm)) rfl rfl (by kernel_rfl) (fun _ _ _ h => by cases h.1) (fun _ _ => rfl) hS ?_
   simp only [Act.put, ap1, ap2, ap3]
   refine held_tk 7 26 (.int .i64 (er : Int)) rfl rfl (by kernel_rfl) (fun _ _ _ h => by cases h.1) (fun _ _ => rfl) hS ?_
   simp only [Act.put, ap1, ap2, ap3]
   have hk := Kept.setRow v17 pm (sv mm.v am nm cm bm km dm)
   have hS9 : SmW w (v17.setRow pm (sv mm.v am nm cm bm km dm)) p q (sv s.v a n c b m d) (sv t.v a2 n2 c2 b2 m2 d2) := ⟨hS.s1.kept hk (by have := HPQ.out; have := HP6.out; omega), hS.s2.kept hk (by have := HP6.out; omega), hS.old.trans (hk.below hS.old.size (fun k hk => by have := HPQ.out; have := HP6.out; omega))⟩
   refine held_void 9 rfl rfl (by kernel_rfl) (by kernel_rfl) (exec_store39 rfl rfl rfl hA) hS9 ?_
   have HLY : Hid (LyM w (v17.setRow pm (sv mm.v am nm cm bm km dm)) p q pm (sv s.v a n c b m d) (sv t.v a2 n2 c2 b2 m2 d2) mm am nm cm bm km dm) := Lib.hid ⟨hS9, hA.row, ⟨(hE.keep hk (fun ad e h => by have := (hE.lt ad e).1; omega)).gl, (hT.keep hk (fun ad e h => by have := (hT.lt ad e).1; omega)).gl⟩, HP6.out⟩
   clear hk hS hA
   have hS := hS9
   clear hS9
   generalize v17.setRow pm (sv mm.v am nm cm bm km dm) = w5 at HLY hS ⊢
   refine held_tk 10 6 (.int .i64 (er : Int)) rfl rfl (by kernel_rfl) (fun _ _ _ h => by cases h.1) (fun _ _ => rfl) hS ?_
   simp only [Act.put, ap1, ap2, ap3]
   refine wpAnyH_done (by kernel_rfl) ?_ _
   exact ⟨rfl, mm, er, am, nm, cm, bm, km, dm, pm, _, _, rfl, HM, HLY⟩
 clear H3
 rintro a' w5 ⟨mm, er, am, nm, cm, bm, km, dm, pm, X1, X2, rfl, HM, HLY⟩
 simp only [Act.put, ap1, ap2, ap3]
 have HLEN := Lib.hid HM.out.len
 go_wp2_with (first | (refine wpList_run rfl (exec_load28 rfl rfl HLY.out.base.s1) ?_) | (refine wpList_run rfl (exec_load28 rfl rfl HLY.out.base.s2) ?_))
 refine (rmerge_any (HL.out.below HLY.out.base.old) (HL2.out.below HLY.out.base.old) (by omega) (by omega) (by omega) (by omega)).mono ?_
 rintro e w6 ⟨er2, mm2, hM2, ad, nd, cd, bd, kd, dd, rfl, hld, hb⟩
 obtain ⟨rfl, rfl⟩ := HM.out.unique hM2
 have HLD := Lib.hid hld
 have HLY2 := Lib.hid (HLY.out.below hb)
 clear hM2 hld hb HLY
 go_wp2_with (first | (refine wpList_run rfl (exec_alloc28z HZ.out rfl) ?_) | (refine wpList_stop28 rfl ?_))
 refine ⟨?_⟩
 refine wpList_void rfl rfl (exec_store28 rfl rfl rfl (Blk.new w6 28 _)) ?_
 have hbo := bo_laid w6 28 (sv z none 0 0 none 0 0) (sv mm.v ad nd cd bd kd dd)
 have H7 : Hid (LyD w ((w6.alloc (.cells (sv z none 0 0 none 0 0) 28)).setRow w6.heap.size (sv mm.v ad nd cd bd kd dd)) pm w6.heap.size mm am nm cm bm km dm ad nd cd bd kd dd) := Lib.hid ⟨HLY2.out.kba.below hbo.old, hbo.one, HLY2.out.la.below hbo.old, HLD.out.below hbo.old, HLY2.out.base.old.trans (hbo.old.mono HLY2.out.base.old.size)⟩
 have hnm : nm < 200000 := by have h1 := HLY2.out.la.es.len'; have h2 := HLEN.out.1; have h3 := HSN.out; have h4 := HTN.out; omega
 have hkm : km < 200000 := by have h1 := HLY2.out.la.ts.len'; have h2 := HLEN.out.2; omega
 clear hbo HLY2 HLD
 generalize (w6.alloc (.cells (sv z none 0 0 none 0 0) 28)).setRow w6.heap.size (sv mm.v ad nd cd bd kd dd) = w7 at H7 ⊢
 generalize w6.heap.size = pd at H7 ⊢
 go_wp2_with fail
 refine wp_region_held_drew (S := fun w' => LyD w w' pm pd mm am nm cm bm km dm ad nd cd bd kd dd) (by kernel_rfl) H7.out.drew (fun hS => ?_)
 refine held_tk 0 33 (.agg (sv mm.v am nm cm bm km dm)) rfl rfl (by kernel_rfl) (fun _ _ _ h => h) (fun _ h => exec_load39 rfl rfl h.kba) hS ?_
 simp only [Act.put, ap1, ap2, ap3]
 refine held_tk 2 35 (.agg (sv mm.v ad nd cd bd kd dd)) rfl rfl (by kernel_rfl) (fun _ _ _ h => h) (fun _ h => exec_load28 rfl rfl h.kbd) hS ?_
 simp only [Act.put, ap1, ap2, ap3]
 refine held_callP 1 34 20 #[.agg (sv mm.v am nm cm bm km dm)] rfl (by kernel_rfl) rfl (by kernel_rfl) (by kernel_rfl) (ours_any hS.la (by omega) (by omega)) (fun e w8 hP => ?_)
 obtain ⟨ao, co, bo, dd2, rfl, hlo, hb⟩ := hP
 refine ⟨_, rfl, hS.below hb, fun hS => ?_⟩
 simp only [Act.put, ap1, ap2, ap3]
 refine held_callP 3 36 19 #[.agg (sv mm.v ao nm co bo km dd2), .agg (sv mm.v ad nd cd bd kd dd)] rfl (by kernel_rfl) rfl (by kernel_rfl) (by kernel_rfl) (same_any hlo hS.ld (by omega) (by omega)) (fun e w9 hP => ?_)
 obtain ⟨r, rfl, hr, hb2⟩ := hP
 obtain rfl : r = true := hr.2 ⟨rfl, rfl, rfl⟩
 refine ⟨_, rfl, hS.below hb2, fun hS => ?_⟩
 simp only [Act.put, ap1, ap2, ap3]
 refine held_tk 4 37 (.bool true) rfl rfl (by kernel_rfl) (fun _ _ _ h => h) (fun _ _ => rfl) hS ?_
 simp only [Act.put, ap1, ap2, ap3]
 refine held_tk 5 38 (.int .i64 (er : Int)) rfl rfl (by kernel_rfl) (fun _ _ _ h => h) (fun _ _ => rfl) hS ?_
 simp only [Act.put, ap1, ap2, ap3]
 refine held_tk 6 39 (.int .i64 (er : Int)) rfl rfl (by kernel_rfl) (fun _ _ _ h => h) (fun _ _ => rfl) hS ?_
 simp only [Act.put, ap1, ap2, ap3]
 refine held_tk 7 40 (.bool true) rfl rfl (by kernel_rfl) (fun _ _ _ h => h) (fun _ _ => exec_eqlI trivial rfl rfl rfl (by simp)) hS ?_
 simp only [Act.put, ap1, ap2, ap3]
 refine held_tk 8 41 (.bool true) rfl rfl (by kernel_rfl) (fun _ _ _ h => h) (fun _ _ => rfl) hS ?_
 simp only [Act.put, ap1, ap2, ap3]
 refine held_tk 9 4 (.bool true) rfl rfl (by kernel_rfl) (fun _ _ _ h => h) (fun _ _ => rfl) hS ?_
 simp only [Act.put, ap1, ap2, ap3]
 have HS9 := Lib.hid hS
 clear hS
 refine wpAnyH_done (by kernel_rfl) ?_ _
 go_wp2_with fail
 go_ret
 exact ⟨rfl, HS9.out.old⟩
end Go.Proofs.YtnekpgmgnepdoaaGreat
