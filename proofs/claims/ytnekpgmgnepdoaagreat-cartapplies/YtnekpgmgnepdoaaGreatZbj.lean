import Derived.Test.YtnekpgmgnepdoaaGreatZay
import Derived.Test.YtnekpgmgnepdoaaGreatZbi
namespace Go.Proofs.YtnekpgmgnepdoaaGreat
open Go.RowKit
theorem ticked_len1 (x : La) : ∀ l, (ticked x l).length ≤ l.length + 1
 | [] => by simp [ticked]
 | y :: l => by
  have := ticked_len1 x l
  unfold ticked
  split
  ·simp
  ·split <;> simp <;> omega
theorem appS_len (s : Sta) (o : O) : (appS s o).es.length ≤ s.es.length + 1 ∧ (appS s o).ts.length ≤ s.ts.length + 1 := by
 unfold appS
 split
 ·refine ⟨?_, ticked_len1 _ _⟩
  have h1 : (leftE s.es o).length ≤ s.es.length := List.length_filter_le _ _
  show (applyE s.es o).length ≤ _
  unfold applyE
  split
  ·rw [(putE_perm _ _).length_eq]; simp only [List.length_cons]; omega
  ·omega
 ·simp [Sta.zero]
theorem und4b : Tryz.prog.underlying 4 = some .bool := by kernel_rfl
structure OaW (w W : World) (p q : Nat) (U : Array Value) (o : O) : Prop where
 s1 : Blk W p 28 U
 s2 : Blk W q 33 o.arr
 old : Below w.heap.size w W
theorem OaW.below {w W W' : World} {p q : Nat} {U : Array Value} {o : O} (h : OaW w W p q U o) (hb : Below W.heap.size W W') : OaW w W' p q U o := ⟨h.s1.below hb, h.s2.below hb, h.old.trans (hb.mono h.old.size)⟩
theorem OaW.drew {w W : World} {p q : Nat} {U : Array Value} {o : O} (h : OaW w W p q U o) : OaW w W.drew p q U o := ⟨h.s1, h.s2, h.old.drew⟩
structure OaM (w W : World) (p q pm : Nat) (U : Array Value) (o : O) (mm : Sta) (am : Option Addr) (nm cm : Nat) (bm : Option Addr) (km dm : Nat) : Prop where
 base : OaW w W p q U o
 kba : Blk W pm 39 (sv mm.v am nm cm bm km dm)
 la : SL W mm am nm bm km
theorem OaM.below {w W W' : World} {p q pm : Nat} {U : Array Value} {o : O} {mm : Sta} {am : Option Addr} {nm cm : Nat} {bm : Option Addr} {km dm : Nat} (h : OaM w W p q pm U o mm am nm cm bm km dm) (hb : Below W.heap.size W W') : OaM w W' p q pm U o mm am nm cm bm km dm := ⟨h.base.below hb, h.kba.below hb, h.la.below hb⟩
structure OaD (w W : World) (p pm pd : Nat) (U : Array Value) (mm : Sta) (am : Option Addr) (nm cm : Nat) (bm : Option Addr) (km dm : Nat) (ad : Option Addr) (nd cd : Nat) (bd : Option Addr) (kd dd : Nat) : Prop where
 s1 : Blk W p 28 U
 kba : Blk W pm 39 (sv mm.v am nm cm bm km dm)
 kbd : Blk W pd 28 (sv mm.v ad nd cd bd kd dd)
 la : SL W mm am nm bm km
 ld : SL W mm ad nd bd kd
 old : Below w.heap.size w W
theorem OaD.below {w W W' : World} {p pm pd : Nat} {U : Array Value} {mm : Sta} {am : Option Addr} {nm cm : Nat} {bm : Option Addr} {km dm : Nat} {ad : Option Addr} {nd cd : Nat} {bd : Option Addr} {kd dd : Nat} (h : OaD w W p pm pd U mm am nm cm bm km dm ad nd cd bd kd dd) (hb : Below W.heap.size W W') : OaD w W' p pm pd U mm am nm cm bm km dm ad nd cd bd kd dd := ⟨h.s1.below hb, h.kba.below hb, h.kbd.below hb, h.la.below hb, h.ld.below hb, h.old.trans (hb.mono h.old.size)⟩
theorem OaD.drew {w W : World} {p pm pd : Nat} {U : Array Value} {mm : Sta} {am : Option Addr} {nm cm : Nat} {bm : Option Addr} {km dm : Nat} {ad : Option Addr} {nd cd : Nat} {bd : Option Addr} {kd dd : Nat} (h : OaD w W p pm pd U mm am nm cm bm km dm ad nd cd bd kd dd) : OaD w W.drew p pm pd U mm am nm cm bm km dm ad nd cd bd kd dd := ⟨h.s1, h.kba, h.kbd, h.la.below (drew_below _), h.ld.below (drew_below _), h.old.drew⟩
set_option maxRecDepth 100000 in
set_option maxHeartbeats 16000000 in
theorem applies_walk {s : Sta} {o : O} {a b : Option Addr} {n c m d : Nat} {w : World} (halive : ∀ W, Calls Tryz.prog 12 #[] W (Says (.bool true) W)) (hl : SL w s a n b m) (hn : n < 9223372036854775808) (hm : m < 9223372036854775808) : Calls Tryz.prog 3 #[.agg (sv s.v a n c b m d), .agg o.arr] w (Says (.bool true) w) := by
 have HL := Lib.hid hl
 have HAL := Lib.hid halive
 have HSN := Lib.hid hl.es.len'
 have HTN := Lib.hid hl.ts.len'
 obtain ⟨z, hz⟩ : ∃ z, V.zero = z := ⟨_, rfl⟩
 have HZ := Lib.hid hz
 obtain ⟨mm, hmm⟩ : ∃ x, appS s o = x := ⟨_, rfl⟩
 obtain ⟨er, her⟩ : ∃ x, appE s o = x := ⟨_, rfl⟩
 have HMM : Hid (appS s o = mm ∧ appE s o = er) := Lib.hid ⟨hmm, her⟩
 have HLEN := Lib.hid (appS_len s o)
 rw [hmm] at HLEN
 have hb1 := fun (v : V) x y w => box28 v x y w
 have hb2 := fun (o : O) w => box33 o w
 have H0 : Hid (OaW w ((w.alloc (.cells (sv s.v a n c b m d) 28)).alloc (.cells o.arr 33)) w.heap.size (w.heap.size + 1) (sv s.v a n c b m d) o) := Lib.hid ⟨(Blk.new w 28 _).below (below_one _ _), by have := Blk.new (w.alloc (.cells (sv s.v a n c b m d) 28)) 33 o.arr; simpa using this, below_2 _ _ _⟩
 clear hl halive hz hmm her
 go_enter Tryz.func3, Tryz.ntmps3
 go_upto_region 1 with fail
 clear hb1 hb2
 try simp only [World.size_alloc, Act.put, List.setIfInBounds_toArray, List.set_cons_zero, List.set_cons_succ]
 generalize (w.alloc (.cells (sv s.v a n c b m d) 28)).alloc (.cells o.arr 33) = w0 at H0
 obtain ⟨p, hp⟩ : ∃ p, w.heap.size = p := ⟨_, rfl⟩
 obtain ⟨q, hq⟩ : ∃ q, p + 1 = q := ⟨_, rfl⟩
 have HPQ : Hid (w.heap.size = p ∧ p + 1 = q) := Lib.hid ⟨hp, hq⟩
 rw [hp, hq] at H0
 rw [hp, hq]
 clear hp hq
 go_wp2_with fail
 refine (HAL.out _).mono ?_
 rintro e w1 ⟨rfl, hb⟩
 have H1 := Lib.hid (H0.out.below hb)
 clear hb H0
 go_wp2_with (refine wpList_run rfl (exec_load28 rfl rfl H1.out.s1) ?_)
 refine (fewl_any hn hm).mono ?_
 rintro e w2 ⟨rfl, hb⟩
 have H2 := Lib.hid (H1.out.below hb)
 have HF1 : Hid ((decide (n ≤ 60) && decide (m ≤ 60)) = true → n ≤ 60 ∧ m ≤ 60) := Lib.hid (by simp)
 clear hb H1
 generalize (decide (n ≤ 60) && decide (m ≤ 60)) = f1 at HF1 ⊢
 cases f1
 ·go_wp2_with fail
  go_ret
  exact ⟨rfl, H2.out.old⟩
 have hF1 := HF1.out rfl
 clear HF1 hn hm
 obtain ⟨hn, hm⟩ := hF1
 go_wp2_with fail
 refine wp_cut (fun act a' w' => ∃ (am : Option Addr) (nm cm : Nat) (bm : Option Addr) (km dm pm : Nat) (X1 : Value), a' = ((((((((act.put (some 15) (.agg (sv s.v a n c b m d))).put (some 16) X1).put (some 17) (.agg o.arr)).put (some 18) (.tuple #[.agg (sv mm.v am nm cm bm km dm), .int .i64 (er : Int)])).put (some 14) (.tuple #[.agg (sv mm.v am nm cm bm km dm), .int .i64 (er : Int)])).put (some 19) (.agg (sv mm.v am nm cm bm km dm))).put (some 20) (.int .i64 (er : Int))).put (some 5) (.pointer (some ⟨pm, 0, none⟩))).put (some 6) (.int .i64 (er : Int)) ∧ Hid (OaM w w' p q pm (sv s.v a n c b m d) o mm am nm cm bm km dm)) ?after ?reg
 case reg =>
  refine wp_region_held_drew (S := fun w' => OaW w w' p q (sv s.v a n c b m d) o) (by kernel_rfl) H2.out.drew (fun hS => ?_)
  refine held_tk 0 15 (.agg (sv s.v a n c b m d)) rfl rfl (by kernel_rfl) (fun _ _ _ h => by cases h.1) (fun _ h => exec_load28 rfl rfl h.s1) hS ?_
  simp only [Act.put, ap1, ap2, ap3]
  refine held_tk 2 17 (.agg o.arr) rfl rfl (by kernel_rfl) (fun _ _ _ h => by cases h.1) (fun _ h => exec_load33 rfl rfl h.s2) hS ?_
  simp only [Act.put, ap1, ap2, ap3]
  refine wpAnyH_ready (rs := [1, 7]) (by kernel_rfl) (by simp) (br_callP 1 16 15 #[.agg (sv s.v a n c b m d)] rfl rfl (by kernel_rfl) (by kernel_rfl) (theirs_any (HL.out.below hS.old) (by omega) (by omega)) (fun e v6 hP => ?fst1) (br_exec 7 5 (.pointer (some ⟨w2.drew.heap.size, 0, none⟩)) rfl rfl (by kernel_rfl) (exec_alloc39z HZ.out rfl) (hS.below (below_one _ _)) ?snd1 AllReadyH.nil))
  case fst1 =>
   obtain ⟨a1, c1, b1, d1, rfl, hl1, hb⟩ := hP
   refine ⟨_, rfl, hS.below hb, fun hS => ?_⟩
   simp only [Act.put, ap1, ap2, ap3]
   refine wpAnyH_ready (rs := [3, 7]) (by kernel_rfl) (by simp) (br_callP 3 18 14 #[.agg (sv s.v a1 n c1 b1 m d1), .agg o.arr] rfl rfl (by kernel_rfl) (by kernel_rfl) (apply_any hl1 (by omega) (by omega) o) (fun e v7 hP => ?fst3) (br_exec 7 5 (.pointer (some ⟨v6.heap.size, 0, none⟩)) rfl rfl (by kernel_rfl) (exec_alloc39z HZ.out rfl) (hS.below (below_one _ _)) ?snd3 AllReadyH.nil))
   case fst3 =>
    obtain ⟨am, nm, cm, bm, km, dm, hev, hE, hT, hb⟩ := hP
    rw [HMM.out.1, HMM.out.2] at hev
    rw [HMM.out.1] at hE hT
    subst hev
    refine ⟨_, rfl, hS.below hb, fun hS => ?_⟩
    simp only [Act.put, ap1, ap2, ap3]
    have hl1 := hl1.below hb
    refine held_tk 4 14 (.tuple #[.agg (sv mm.v am nm cm bm km dm), .int .i64 (er : Int)]) rfl rfl (by kernel_rfl) (fun _ _ _ h => by cases h.1) (fun _ _ => rfl) hS ?_
    simp only [Act.put, ap1, ap2, ap3]
    refine held_tk 5 19 (.agg (sv mm.v am nm cm bm km dm)) rfl rfl (by kernel_rfl) (fun _ _ _ h => by cases h.1) (fun _ _ => rfl) hS ?_
    simp only [Act.put, ap1, ap2, ap3]
    refine held_tk 6 20 (.int .i64 (er : Int)) rfl rfl (by kernel_rfl) (fun _ _ _ h => by cases h.1) (fun _ _ => rfl) hS ?_
    simp only [Act.put, ap1, ap2, ap3]
    have hbo := bo_laid v7 39 (sv z none 0 0 none 0 0) (sv mm.v am nm cm bm km dm)
    refine held_exec 7 5 (.pointer (some ⟨v7.heap.size, 0, none⟩)) rfl rfl (by kernel_rfl) (by kernel_rfl) (exec_alloc39z HZ.out rfl) (hS.below (below_one _ _)) ?_
    simp only [Act.put, ap1, ap2, ap3]
    refine held_void 8 rfl rfl (by kernel_rfl) (by kernel_rfl) (exec_store39 rfl rfl rfl (Blk.new v7 39 _)) (hS.below hbo.old) ?_
    have HLY : Hid (OaM w ((v7.alloc (.cells (sv z none 0 0 none 0 0) 39)).setRow v7.heap.size (sv mm.v am nm cm bm km dm)) p q v7.heap.size (sv s.v a n c b m d) o mm am nm cm bm km dm) := Lib.hid ⟨hS.below hbo.old, hbo.one, ⟨hE.gl.below hbo.old, hT.gl.below hbo.old⟩⟩
    replace hS := hS.below hbo.old
    clear hbo
    generalize (v7.alloc (.cells (sv z none 0 0 none 0 0) 39)).setRow v7.heap.size (sv mm.v am nm cm bm km dm) = w5 at HLY hS ⊢
    generalize v7.heap.size = pm at HLY ⊢
    refine held_tk 9 6 (.int .i64 (er : Int)) rfl rfl (by kernel_rfl) (fun _ _ _ h => by cases h.1) (fun _ _ => rfl) hS ?_
    simp only [Act.put, ap1, ap2, ap3]
    refine wpAnyH_done (by kernel_rfl) ?_ _
    exact ⟨rfl, am, nm, cm, bm, km, dm, pm, _, rfl, HLY⟩
   case snd3 =>
    simp only [Act.put, ap1, ap2, ap3]
    have HP6 : Hid (q < v6.heap.size) := Lib.hid hS.s2.lt
    have hA := Blk.new v6 39 (sv z none 0 0 none 0 0)
    have hl1 := hl1.below (below_one v6 (.cells (sv z none 0 0 none 0 0) 39))
    replace hS := hS.below (below_one v6 (.cells (sv z none 0 0 none 0 0) 39))
    generalize v6.alloc (.cells (sv z none 0 0 none 0 0) 39) = v8 at hS hA hl1 ⊢
    generalize v6.heap.size = pm at hA HP6 ⊢
    have hA0 := hA
    have hPB : pm < v8.heap.size := hA0.lt
    refine held_callP 3 18 14 #[.agg (sv s.v a1 n c1 b1 m d1), .agg o.arr] rfl (by kernel_rfl) rfl (by kernel_rfl) (by kernel_rfl) (apply_any hl1 (by omega) (by omega) o) (fun e v9 hP => ?_)
    obtain ⟨am, nm, cm, bm, km, dm, hev, hE, hT, hb⟩ := hP
    rw [HMM.out.1, HMM.out.2] at hev
    rw [HMM.out.1] at hE hT
    subst hev
    refine ⟨_, rfl, hS.below hb, fun hS => ?_⟩
    simp only [Act.put, ap1, ap2, ap3]
    have hl1 := hl1.below hb
    have hA := hA.below hb
    refine held_tk 4 14 (.tuple #[.agg (sv mm.v am nm cm bm km dm), .int .i64 (er : Int)]) rfl rfl (by kernel_rfl) (fun _ _ _ h => by cases h.1) (fun _ _ => rfl) hS ?_
    simp only [Act.put, ap1, ap2, ap3]
    refine held_tk 5 19 (.agg (sv mm.v am nm cm bm km dm)) rfl rfl (by kernel_rfl) (fun _ _ _ h => by cases h.1) (fun _ _ => rfl) hS ?_
    simp only [Act.put, ap1, ap2, ap3]
    refine held_tk 6 20 (.int .i64 (er : Int)) rfl rfl (by kernel_rfl) (fun _ _ _ h => by cases h.1) (fun _ _ => rfl) hS ?_
    simp only [Act.put, ap1, ap2, ap3]
    have hk := Kept.setRow v9 pm (sv mm.v am nm cm bm km dm)
    have hS9 : OaW w (v9.setRow pm (sv mm.v am nm cm bm km dm)) p q (sv s.v a n c b m d) o := ⟨hS.s1.kept hk (by have := HPQ.out; have := HP6.out; omega), hS.s2.kept hk (by have := HP6.out; omega), hS.old.trans (hk.below hS.old.size (fun k hk => by have := HPQ.out; have := HP6.out; omega))⟩
    refine held_void 8 rfl rfl (by kernel_rfl) (by kernel_rfl) (exec_store39 rfl rfl rfl hA) hS9 ?_
    have HLY : Hid (OaM w (v9.setRow pm (sv mm.v am nm cm bm km dm)) p q pm (sv s.v a n c b m d) o mm am nm cm bm km dm) := Lib.hid ⟨hS9, hA.row, ⟨(hE.keep hk (fun ad e h => by have := (hE.lt ad e).1; omega)).gl, (hT.keep hk (fun ad e h => by have := (hT.lt ad e).1; omega)).gl⟩⟩
    clear hk hS hA
    have hS := hS9
    clear hS9
    generalize v9.setRow pm (sv mm.v am nm cm bm km dm) = w5 at HLY hS ⊢
    refine held_tk 9 6 (.int .i64 (er : Int)) rfl rfl (by kernel_rfl) (fun _ _ _ h => by cases h.1) (fun _ _ => rfl) hS ?_
    simp only [Act.put, ap1, ap2, ap3]
    refine wpAnyH_done (by kernel_rfl) ?_ _
    exact ⟨rfl, am, nm, cm, bm, km, dm, pm, _, rfl, HLY⟩
  case snd1 =>
   simp only [Act.put, ap1, ap2, ap3]
   have HP6 : Hid (q < w2.drew.heap.size) := Lib.hid hS.s2.lt
   have hA := Blk.new w2.drew 39 (sv z none 0 0 none 0 0)
   replace hS := hS.below (below_one w2.drew (.cells (sv z none 0 0 none 0 0) 39))
   generalize w2.drew.alloc (.cells (sv z none 0 0 none 0 0) 39) = v10 at hS hA  ⊢
   generalize w2.drew.heap.size = pm at hA HP6 ⊢
   refine held_callP 1 16 15 #[.agg (sv s.v a n c b m d)] rfl (by kernel_rfl) rfl (by kernel_rfl) (by kernel_rfl) (theirs_any (HL.out.below hS.old) (by omega) (by omega)) (fun e v11 hP => ?_)
   obtain ⟨a1, c1, b1, d1, rfl, hl1, hb⟩ := hP
   refine ⟨_, rfl, hS.below hb, fun hS => ?_⟩
   simp only [Act.put, ap1, ap2, ap3]
   have hA := hA.below hb
   have hA0 := hA
   have hPB : pm < v11.heap.size := hA0.lt
   refine held_callP 3 18 14 #[.agg (sv s.v a1 n c1 b1 m d1), .agg o.arr] rfl (by kernel_rfl) rfl (by kernel_rfl) (by kernel_rfl) (apply_any hl1 (by omega) (by omega) o) (fun e v12 hP => ?_)
   obtain ⟨am, nm, cm, bm, km, dm, hev, hE, hT, hb⟩ := hP
   rw [HMM.out.1, HMM.out.2] at hev
   rw [HMM.out.1] at hE hT
   subst hev
   refine ⟨_, rfl, hS.below hb, fun hS => ?_⟩
   simp only [Act.put, ap1, ap2, ap3]
   have hA := hA.below hb
   have hl1 := hl1.below hb
   refine held_tk 4 14 (.tuple #[.agg (sv mm.v am nm cm bm km dm), .int .i64 (er : Int)]) rfl rfl (by kernel_rfl) (fun _ _ _ h => by cases h.1) (fun _ _ => rfl) hS ?_
   simp only [Act.put, ap1, ap2, ap3]
   refine held_tk 5 19 (.agg (sv mm.v am nm cm bm km dm)) rfl rfl (by kernel_rfl) (fun _ _ _ h => by cases h.1) (fun _ _ => rfl) hS ?_
   simp only [Act.put, ap1, ap2, ap3]
   refine held_tk 6 20 (.int .i64 (er : Int)) rfl rfl (by kernel_rfl) (fun _ _ _ h => by cases h.1) (fun _ _ => rfl) hS ?_
   simp only [Act.put, ap1, ap2, ap3]
   have hk := Kept.setRow v12 pm (sv mm.v am nm cm bm km dm)
   have hS9 : OaW w (v12.setRow pm (sv mm.v am nm cm bm km dm)) p q (sv s.v a n c b m d) o := ⟨hS.s1.kept hk (by have := HPQ.out; have := HP6.out; omega), hS.s2.kept hk (by have := HP6.out; omega), hS.old.trans (hk.below hS.old.size (fun k hk => by have := HPQ.out; have := HP6.out; omega))⟩
   refine held_void 8 rfl rfl (by kernel_rfl) (by kernel_rfl) (exec_store39 rfl rfl rfl hA) hS9 ?_
   have HLY : Hid (OaM w (v12.setRow pm (sv mm.v am nm cm bm km dm)) p q pm (sv s.v a n c b m d) o mm am nm cm bm km dm) := Lib.hid ⟨hS9, hA.row, ⟨(hE.keep hk (fun ad e h => by have := (hE.lt ad e).1; omega)).gl, (hT.keep hk (fun ad e h => by have := (hT.lt ad e).1; omega)).gl⟩⟩
   clear hk hS hA
   have hS := hS9
   clear hS9
   generalize v12.setRow pm (sv mm.v am nm cm bm km dm) = w5 at HLY hS ⊢
   refine held_tk 9 6 (.int .i64 (er : Int)) rfl rfl (by kernel_rfl) (fun _ _ _ h => by cases h.1) (fun _ _ => rfl) hS ?_
   simp only [Act.put, ap1, ap2, ap3]
   refine wpAnyH_done (by kernel_rfl) ?_ _
   exact ⟨rfl, am, nm, cm, bm, km, dm, pm, _, rfl, HLY⟩
 clear H2
 rintro a' w5 ⟨am, nm, cm, bm, km, dm, pm, X1, rfl, HLY⟩
 simp only [Act.put, ap1, ap2, ap3]
 go_wp2_with (first | (refine wpList_run rfl (exec_load28 rfl rfl HLY.out.base.s1) ?_) | (refine wpList_run rfl (exec_load33 rfl rfl HLY.out.base.s2) ?_))
 refine (rapply_any (HL.out.below HLY.out.base.old) (by omega) (by omega) o).mono ?_
 rw [HMM.out.1, HMM.out.2]
 rintro e w6 ⟨ad, nd, cd, bd, kd, dd, rfl, hld, hb⟩
 have HLD := Lib.hid hld
 have HLY2 := Lib.hid (HLY.out.below hb)
 clear hld hb HLY
 go_wp2_with (first | (refine wpList_run rfl (exec_alloc28z HZ.out rfl) ?_) | (refine wpList_stop28 rfl ?_))
 refine ⟨?_⟩
 refine wpList_void rfl rfl (exec_store28 rfl rfl rfl (Blk.new w6 28 _)) ?_
 have hbo := bo_laid w6 28 (sv z none 0 0 none 0 0) (sv mm.v ad nd cd bd kd dd)
 have H7 : Hid (OaD w ((w6.alloc (.cells (sv z none 0 0 none 0 0) 28)).setRow w6.heap.size (sv mm.v ad nd cd bd kd dd)) p pm w6.heap.size (sv s.v a n c b m d) mm am nm cm bm km dm ad nd cd bd kd dd) := Lib.hid ⟨HLY2.out.base.s1.below hbo.old, HLY2.out.kba.below hbo.old, hbo.one, HLY2.out.la.below hbo.old, HLD.out.below hbo.old, HLY2.out.base.old.trans (hbo.old.mono HLY2.out.base.old.size)⟩
 have hnm : nm < 200000 := by have h1 := HLY2.out.la.es.len'; have h2 := HLEN.out.1; have h3 := HSN.out; omega
 have hkm : km < 200000 := by have h1 := HLY2.out.la.ts.len'; have h2 := HLEN.out.2; have h3 := HTN.out; omega
 clear hbo HLY2 HLD
 generalize (w6.alloc (.cells (sv z none 0 0 none 0 0) 28)).setRow w6.heap.size (sv mm.v ad nd cd bd kd dd) = w7 at H7 ⊢
 generalize w6.heap.size = pd at H7 ⊢
 go_wp2_with fail
 refine wp_region_held_drew (S := fun w' => OaD w w' p pm pd (sv s.v a n c b m d) mm am nm cm bm km dm ad nd cd bd kd dd) (by kernel_rfl) H7.out.drew (fun hS => ?_)
 refine held_tk 0 27 (.agg (sv s.v a n c b m d)) rfl rfl (by kernel_rfl) (fun _ _ _ h => h) (fun _ h => exec_load28 rfl rfl h.s1) hS ?_
 simp only [Act.put, ap1, ap2, ap3]
 refine held_tk 3 30 (.agg (sv s.v a n c b m d)) rfl rfl (by kernel_rfl) (fun _ _ _ h => h) (fun _ h => exec_load28 rfl rfl h.s1) hS ?_
 simp only [Act.put, ap1, ap2, ap3]
 refine held_callP 1 28 15 #[.agg (sv s.v a n c b m d)] rfl (by kernel_rfl) rfl (by kernel_rfl) (by kernel_rfl) (theirs_any (HL.out.below hS.old) (by omega) (by omega)) (fun e w8 hP => ?_)
 obtain ⟨a1, c1, b1, d1, rfl, hl1, hb⟩ := hP
 refine ⟨_, rfl, hS.below hb, fun hS => ?_⟩
 simp only [Act.put, ap1, ap2, ap3]
 refine held_callP 2 29 17 #[.agg (sv s.v a1 n c1 b1 m d1)] rfl (by kernel_rfl) rfl (by kernel_rfl) (by kernel_rfl) (right_any' hl1 (by omega) (by omega)) (fun e w9 hP => ?_)
 obtain ⟨r1, rfl, hr1, hb⟩ := hP
 refine ⟨_, rfl, hS.below hb, fun hS => ?_⟩
 simp only [Act.put, ap1, ap2, ap3]
 refine held_callP 4 31 18 #[.agg (sv s.v a n c b m d)] rfl (by kernel_rfl) rfl (by kernel_rfl) (by kernel_rfl) (rRight_any (HL.out.below hS.old) (by omega) (by omega)) (fun e w10 hP => ?_)
 obtain ⟨r2, rfl, hr2, hb⟩ := hP
 obtain rfl : r2 = r1 := by rw [Bool.eq_iff_iff, hr1, hr2]
 refine ⟨_, rfl, hS.below hb, fun hS => ?_⟩
 simp only [Act.put, ap1, ap2, ap3]
 refine held_tk 5 32 (.bool true) rfl rfl (by kernel_rfl) (fun _ _ _ h => h) (fun _ _ => exec_eqlB und4b rfl rfl rfl (by simp)) hS ?_
 simp only [Act.put, ap1, ap2, ap3]
 refine held_tk 6 33 (.bool true) rfl rfl (by kernel_rfl) (fun _ _ _ h => h) (fun _ _ => rfl) hS ?_
 simp only [Act.put, ap1, ap2, ap3]
 refine held_tk 7 34 (.agg (sv mm.v am nm cm bm km dm)) rfl rfl (by kernel_rfl) (fun _ _ _ h => h) (fun _ h => exec_load39 rfl rfl h.kba) hS ?_
 simp only [Act.put, ap1, ap2, ap3]
 refine held_tk 9 36 (.agg (sv mm.v ad nd cd bd kd dd)) rfl rfl (by kernel_rfl) (fun _ _ _ h => h) (fun _ h => exec_load28 rfl rfl h.kbd) hS ?_
 simp only [Act.put, ap1, ap2, ap3]
 refine held_callP 8 35 20 #[.agg (sv mm.v am nm cm bm km dm)] rfl (by kernel_rfl) rfl (by kernel_rfl) (by kernel_rfl) (ours_any hS.la (by omega) (by omega)) (fun e w11 hP => ?_)
 obtain ⟨ao, co, bo, dd2, rfl, hlo, hb⟩ := hP
 refine ⟨_, rfl, hS.below hb, fun hS => ?_⟩
 simp only [Act.put, ap1, ap2, ap3]
 refine held_callP 10 37 19 #[.agg (sv mm.v ao nm co bo km dd2), .agg (sv mm.v ad nd cd bd kd dd)] rfl (by kernel_rfl) rfl (by kernel_rfl) (by kernel_rfl) (same_any hlo hS.ld (by omega) (by omega)) (fun e w12 hP => ?_)
 obtain ⟨r, rfl, hr, hb2⟩ := hP
 obtain rfl : r = true := hr.2 ⟨rfl, rfl, rfl⟩
 refine ⟨_, rfl, hS.below hb2, fun hS => ?_⟩
 simp only [Act.put, ap1, ap2, ap3]
 refine held_tk 11 38 (.bool true) rfl rfl (by kernel_rfl) (fun _ _ _ h => h) (fun _ _ => rfl) hS ?_
 simp only [Act.put, ap1, ap2, ap3]
 refine held_tk 12 39 (.bool true) rfl rfl (by kernel_rfl) (fun _ _ _ h => h) (fun _ _ => rfl) hS ?_
 simp only [Act.put, ap1, ap2, ap3]
 refine held_tk 13 40 (.int .i64 (er : Int)) rfl rfl (by kernel_rfl) (fun _ _ _ h => h) (fun _ _ => rfl) hS ?_
 simp only [Act.put, ap1, ap2, ap3]
 refine held_tk 14 41 (.int .i64 (er : Int)) rfl rfl (by kernel_rfl) (fun _ _ _ h => h) (fun _ _ => rfl) hS ?_
 simp only [Act.put, ap1, ap2, ap3]
 refine held_tk 15 42 (.bool true) rfl rfl (by kernel_rfl) (fun _ _ _ h => h) (fun _ _ => exec_eqlI trivial rfl rfl rfl (by simp)) hS ?_
 simp only [Act.put, ap1, ap2, ap3]
 refine held_tk 16 43 (.bool true) rfl rfl (by kernel_rfl) (fun _ _ _ h => h) (fun _ _ => rfl) hS ?_
 simp only [Act.put, ap1, ap2, ap3]
 refine held_tk 17 4 (.bool true) rfl rfl (by kernel_rfl) (fun _ _ _ h => h) (fun _ _ => rfl) hS ?_
 simp only [Act.put, ap1, ap2, ap3]
 have HS9 := Lib.hid hS
 clear hS
 refine wpAnyH_done (by kernel_rfl) ?_ _
 go_wp2_with fail
 go_ret
 exact ⟨rfl, HS9.out.old⟩
end Go.Proofs.YtnekpgmgnepdoaaGreat
