import Derived.Test.YtnekpgmgnepdoaaGreatXac
namespace Go.Proofs.YtnekpgmgnepdoaaGreat
open Go.RowKit
theorem ret33 {fn : Func} {x : Tmp} {w : World} {g : Nat} {o : O} (hf : fn.results = #[.cell x 33]) {tmps : Array Value} (hx : tmps.getD x undef = .pointer (some ⟨g, 0, none⟩)) (hb : Blk w g 33 o.arr) :
  (results fn tmps).run Tryz.prog w = .ok (.agg o.arr) w := by
 have hx' : tmps[x]?.getD undef = .pointer (some ⟨g, 0, none⟩) := by rw [← hx]; simp [Array.getD_eq_getD_getElem?]
 simp only [results, hf]
 simp [hx', asAddr, loadVar33 hb]
theorem build_maker (e : En) (w : World) : (Instr.build 33 #[(0, dotV e.r e.s), (1, .int .u8 (e.k : Int)), (2, .int .u16 (e.c : Int)), (3, .int .u16 (e.i : Int))]).run Tryz.prog w = .ok (.agg e.maker.arr) w := by
 refine run_build w 33 _ _ ?_
 unfold O.arr O.cs O.hd En.maker
 kernel_rfl
theorem exec_maker {ev : Operand → Value} {q : Oper} {w : World} {x y z u : Operand} {e : En} (ho : q.op = .build 33 #[(0, x), (1, y), (2, z), (3, u)]) (hx : ev x = dotV e.r e.s) (hy : ev y = .int .u8 (e.k : Int)) (hz : ev z = .int .u16 (e.c : Int)) (hu : ev u = .int .u16 (e.i : Int)) : (execOp ev q).run Tryz.prog w = .ok (.value (.agg e.maker.arr)) w := by
 have hm : (#[((0 : Nat), x), (1, y), (2, z), (3, u)]).map (fun (i, x) => (i, ev x)) = #[(0, dotV e.r e.s), (1, .int .u8 (e.k : Int)), (2, .int .u16 (e.c : Int)), (3, .int .u16 (e.i : Int))] := by simp [hx, hy, hz, hu]
 unfold execOp
 simp only [ho, hm, Sem.run_bind, build_maker e w, Result.andThen_ok]
 rfl
set_option maxRecDepth 100000 in
set_option maxHeartbeats 1000000 in
theorem maker_any (e : En) (w : World) : Calls Tryz.prog 88 #[.agg e.arr] w (Says (.agg e.maker.arr) w) := by
 obtain ⟨zo, ho⟩ : ∃ z, O.zero = z := ⟨_, rfl⟩
 have HO := Lib.hid ho
 clear ho
 have hb1 := fun (o : En) w => box72 o w
 have H1 : Hid (Blk ((w.alloc (.cells e.arr 72)).alloc (.cells zo.arr 33)) w.heap.size 72 e.arr) := Lib.hid ((Blk.new w 72 e.arr).below (below_one _ _))
 have H2 : Hid (Blk ((w.alloc (.cells e.arr 72)).alloc (.cells zo.arr 33)) (w.heap.size + 1) 33 zo.arr) := Lib.hid (by have := Blk.new (w.alloc (.cells e.arr 72)) 33 zo.arr; simpa using this)
 have HB : Hid (Below w.heap.size w ((w.alloc (.cells e.arr 72)).alloc (.cells zo.arr 33))) := Lib.hid (below_two' _ _ _)
 go_enter Tryz.func88, Tryz.ntmps88
 go_upto_region 1 with (refine wpList_run rfl (exec_alloc33z HO.out rfl) ?_)
 clear hb1
 generalize (w.alloc (.cells e.arr 72)).alloc (.cells zo.arr 33) = W at H1 H2 HB
 have c3 := ent3 H1.out
 have c0 := ent0 H1.out
 have c1 := ent1 H1.out
 go_wp2_with (first | (refine wpList_run rfl (exec_edot (e := e) rfl rfl H1.out) ?_) | (refine wpList_run rfl (exec_maker (e := e) rfl rfl rfl rfl rfl) ?_) | (refine wpList_stop33 rfl ?_))
 refine ⟨?_⟩
 refine wpList_void rfl rfl (exec_store33 (p := zo) (u := e.maker) rfl rfl rfl H2.out) ?_
 go_wp2_with fail
 have k1 := Kept.setRow W (w.heap.size + 1) e.maker.arr
 exact bodyPost_ret (ret33 rfl rfl (H2.out.row (ds := e.maker.arr))) rfl ⟨rfl, HB.out.trans (k1.below HB.out.size (fun k hk => by omega))⟩
structure Cl (w W : World) (p : Nat) (o : O) (e : En) : Prop where
 op : Blk W p 33 o.arr
 en : Blk W w.heap.size 72 e.arr
 old : Below w.heap.size w W
theorem Cl.below {w W W' : World} {p : Nat} {o : O} {e : En} (h : Cl w W p o e) (hb : Below W.heap.size W W') : Cl w W' p o e := ⟨h.op.below hb, h.en.below hb, h.old.trans (hb.mono h.old.size)⟩
theorem Cl.drew {w W : World} {p : Nat} {o : O} {e : En} (h : Cl w W p o e) : Cl w W.drew p o e := ⟨h.op, h.en, h.old.drew⟩
set_option maxRecDepth 100000 in
set_option maxHeartbeats 1000000 in
theorem clos_any {p : Nat} {o : O} {w : World} (hp : Blk w p 33 o.arr) (e : En) : Calls Tryz.prog 86 #[.agg e.arr, .pointer (some ⟨p, 0, none⟩)] w (Says (.bool (O.endsB o e.maker)) w) := by
 have hb1 := fun (o : En) w => box72 o w
 have HT : Hid (Cl w (w.alloc (.cells e.arr 72)) p o e) := Lib.hid ⟨hp.below (below_one _ _), Blk.new _ _ _, below_one _ _⟩
 clear hp
 go_enter Tryz.func86, Tryz.ntmps86
 go_wp2_with fail
 clear hb1
 generalize w.alloc (.cells e.arr 72) = W at HT
 refine wp_region_held_drew (S := fun w' => Cl w w' p o e) (by kernel_rfl) HT.out.drew (fun hS => ?_)
 refine held_tk 0 4 (.agg o.arr) rfl rfl (by kernel_rfl) (fun _ _ _ h=>h) (fun _ h=>exec_load33 (p:=o) rfl rfl h.op) hS ?_;simp only [Act.put,ap1,ap2,ap3]
 refine held_tk 1 5 (.agg e.arr) rfl rfl (by kernel_rfl) (fun _ _ _ h=>h) (fun _ h=>exec_load72 (p:=e) rfl rfl h.en) hS ?_;simp only [Act.put,ap1,ap2,ap3]
 refine held_call 2 6 88 #[(.agg e.arr)] (.agg e.maker.arr) rfl (by kernel_rfl) rfl (by kernel_rfl) (by kernel_rfl) (maker_any e _) (fun _ h hb=>h.below hb) hS (fun w102 hS=>?_)
 simp only [Act.put, ap1, ap2, ap3]
 refine held_call 3 7 87 #[(.agg o.arr),(.agg e.maker.arr)] (.bool (O.endsB o e.maker)) rfl (by kernel_rfl) rfl (by kernel_rfl) (by kernel_rfl) (ends_any o e.maker _) (fun _ h hb=>h.below hb) hS (fun w103 hS=>?_)
 simp only [Act.put, ap1, ap2, ap3]
 refine held_tk 4 3 (.bool (O.endsB o e.maker)) rfl rfl (by kernel_rfl) (fun _ _ _ h=>h) (fun _ _=>rfl) hS ?_;simp only [Act.put,ap1,ap2,ap3]
 refine wpAnyH_done (by kernel_rfl) ?_ _
 have HS := Lib.hid hS
 clear hS
 go_wp2_with fail
 go_ret
 exact ⟨rfl, HS.out.old⟩
def IdxP (l : List En) (pd : En → Bool) (w : World) (e : Ending) (w' : World) : Prop :=
 ∃ z : Int, e = .returned (.int .i64 z) ∧ ((z = -1 ∧ ∀ x ∈ l, pd x = false) ∨ ∃ (k : Nat) (x : En), z = (k : Int) ∧ l[k]? = some x ∧ pd x = true ∧ ∀ y ∈ l.take k, pd y = false) ∧ Below w.heap.size w w'
def IxR (w : World) (l : List En) (pd : En → Bool) (n : Nat) (v : Value) (W : World) : Prop :=
 ∃ k : Nat, v = .int .i64 (k : Int) ∧ k ≤ n ∧ Hid (∀ y ∈ l.take k, pd y = false) ∧ Hid (Below w.heap.size w W)
theorem all_snoc {l : List En} {pd : En → Bool} {k : Nat} {x : En} (hx : l[k]? = some x) (h : ∀ y ∈ l.take k, pd y = false) (hp : pd x = false) : ∀ y ∈ l.take (k + 1), pd y = false := by
 intro y hy
 rw [List.take_add_one, hx] at hy
 rcases List.mem_append.1 hy with hy | hy
 ·exact h y hy
 ·obtain rfl : y = x := by simpa using hy
  exact hp
abbrev fvE (p : Nat) : Value := .func (.func 86) #[] #[.pointer (some ⟨p, 0, none⟩)]
set_option maxRecDepth 100000 in
set_option maxHeartbeats 2000000 in
theorem idxE_any {a : Option Addr} {n cap p : Nat} {l : List En} {o : O} {w : World} (hl : EL w a n l) (hp : Blk w p 33 o.arr) (hn : n < 500000) :
  Calls Tryz.prog 123 #[.slice a n cap, fvE p] w (IdxP l (fun e => O.endsB o e.maker) w) := by
 have HL := Lib.hid hl
 have HLEN := Lib.hid hl.len'
 have HP := Lib.hid hp
 clear hl hp
 go_enter Tryz.func123, Tryz.ntmps123
 go_wp2_with fail
 go_loopw [8] (IxR w l (fun e => O.endsB o e.maker) n) (fun v _ => n - (numI v).toNat)
 case atStart => exact ⟨0, rfl, Nat.zero_le _, Lib.hid (by simp), Lib.hid (Below.refl _ _)⟩
 case round =>
  obtain ⟨k, rfl, hk, HA, HB⟩ := hrel
  by_cases hlt : k < n
  ·obtain ⟨b, off, x, rfl, hx, hr⟩ := EL.at (HL.out.below HB.out) hlt
   have HX := Lib.hid hx
   have HR := Lib.hid hr
   have hc := fun w' (hb : Below w.heap.size w w') => clos_any (HP.out.below hb) x
   have HC := Lib.hid hc
   clear hx hr hc
   cases hq : O.endsB o x.maker
   ·rw [hq] at HC
    have HQ : Hid (O.endsB o x.maker = false) := Lib.hid hq
    clear hq
    go_wp2_with (first | (refine wpList_run rfl (exec_idx72 (i := k) rfl rfl rfl rfl hlt) ?_) | (refine wpList_run rfl (exec_ld72 (p := x) rfl rfl HR.out) ?_) | (refine wpList_enter 86 #[.agg x.arr, .pointer (some ⟨p, 0, none⟩)] rfl ⟨_, rfl⟩ (by kernel_rfl) (HC.out _ HB.out) ?_; intro e w' hP; obtain ⟨rfl, hg⟩ := hP; refine ⟨_, rfl, ?_⟩))
    have HB2 := Lib.hid (HB.out.trans (hg.mono HB.out.size))
    clear hg
    go_wp2_with fail
    go_roundw
    case rel => exact ⟨k + 1, by go_num, hlt, Lib.hid (all_snoc HX.out HA.out HQ.out), HB2⟩
    case measure => simp [numI]; omega
   ·rw [hq] at HC
    have HQ : Hid (O.endsB o x.maker = true) := Lib.hid hq
    clear hq
    go_wp2_with (first | (refine wpList_run rfl (exec_idx72 (i := k) rfl rfl rfl rfl hlt) ?_) | (refine wpList_run rfl (exec_ld72 (p := x) rfl rfl HR.out) ?_) | (refine wpList_enter 86 #[.agg x.arr, .pointer (some ⟨p, 0, none⟩)] rfl ⟨_, rfl⟩ (by kernel_rfl) (HC.out _ HB.out) ?_; intro e w' hP; obtain ⟨rfl, hg⟩ := hP; refine ⟨_, rfl, ?_⟩))
    have HB2 := Lib.hid (HB.out.trans (hg.mono HB.out.size))
    clear hg
    go_wp2_with fail
    go_ret
    exact ⟨k, rfl, .inr ⟨k, x, rfl, HX.out, HQ.out, HA.out⟩, HB2.out⟩
  ·obtain rfl : k = n := by omega
   have HE : Hid (∀ y ∈ l, O.endsB o y.maker = false) := Lib.hid (by have h := HA.out; rw [List.take_of_length_le (by rw [HLEN.out]; omega)] at h; exact h)
   go_wp2_with fail
   go_ret
   exact ⟨-1, rfl, .inl ⟨rfl, HE.out⟩, HB.out⟩
theorem exec_st72 {ev : Operand → Value} {q : Oper} {w : World} {x y : Operand} {g j off : Nat} {vs : List (List Value)} {p : En} (ho : q.op = .store 72 x y) (hx : ev x = .pointer (some ⟨g, off, none⟩)) (hoff : off = 0 + j * 7) (hy : ev y = .agg p.arr) (h : Rw w 72 7 g vs) (hj : j < vs.length) : (execOp ev q).run Tryz.prog w = .ok .skip (w.setCells g (0 + j * 7) p.cs) := by
 subst hoff
 have hs := run_storeAt_mid (P := Tryz.prog) w g (0 + j * 7) 72 p.arr (by have := h.there (i := j) (k := 1) (by omega); rw [Nat.one_mul] at this; exact this) size72 p.arr_one
 unfold execOp
 simp only [ho, hx, hy, Sem.run_bind, hs, Result.andThen_ok]
 rfl
def DelP (w : World) (B : Nat) (a : Option Addr) (cap : Nat) (l : List En) (e : Ending) (w' : World) : Prop :=
 e = .returned (.slice a l.length cap) ∧ OwnG w' 72 7 B a l.length cap (cellsE l) ∧ Kept (At a) w w'
structure Df (W : World) (g : Nat) (l : List En) (pd : En → Bool) (us mid : List (List Value)) (i j : Nat) : Prop where
 rw : Rw W 72 7 g (cellsE ((l.take j).filter fun x => !pd x) ++ mid ++ cellsE (l.drop j) ++ us)
 len : ((l.take j).filter fun x => !pd x).length = i
 mid : i + mid.length = j
theorem cellsE_len (l : List En) : (cellsE l).length = l.length := by simp [cellsE]
theorem Df.at {W : World} {g i j : Nat} {l : List En} {pd : En → Bool} {us mid : List (List Value)} {x : En} (h : Df W g l pd us mid i j) (hx : l[j]? = some x) : W.rangeAt g (0 + j * 7) x.cs := by
 refine h.rw.at ?_
 have hjl := (List.getElem?_eq_some_iff.1 hx).1
 have hl := h.len
 have hm := h.mid
 have hd : l.drop j = x :: l.drop (j + 1) := by
  have hj := (List.getElem?_eq_some_iff.1 hx).1
  rw [List.drop_eq_getElem_cons hj]
  congr 1
  exact (List.getElem?_eq_some_iff.1 hx).2
 rw [List.getElem?_append_left (by simp [cellsE]; omega), List.getElem?_append_right (by simp [cellsE]; omega), List.length_append, cellsE_len, hl, hm, Nat.sub_self, hd]
 rfl
theorem Df.skip {W : World} {g i j : Nat} {l : List En} {pd : En → Bool} {us mid : List (List Value)} {x : En} (h : Df W g l pd us mid i j) (hx : l[j]? = some x) (hp : pd x = true) : Df W g l pd us (mid ++ [x.cs]) i (j + 1) := by
 have hd : l.drop j = x :: l.drop (j + 1) := by
  have hj := (List.getElem?_eq_some_iff.1 hx).1
  rw [List.drop_eq_getElem_cons hj]
  congr 1
  exact (List.getElem?_eq_some_iff.1 hx).2
 have hf : (l.take (j + 1)).filter (fun x => !pd x) = (l.take j).filter fun x => !pd x := by
  rw [List.take_add_one, hx, List.filter_append]; simp [hp]
 refine ⟨?_, by rw [hf]; exact h.len, by have := h.mid; simp; omega⟩
 have := h.rw
 rw [hd] at this
 rw [hf]
 simpa [cellsE] using this
theorem Df.keep {W : World} {g i j : Nat} {l : List En} {pd : En → Bool} {us : List (List Value)} {m0 : List Value} {mt : List (List Value)} {x : En} (h : Df W g l pd us (m0 :: mt) i j) (hx : l[j]? = some x) (hp : pd x = false) : Df (W.setCells g (0 + i * 7) x.cs) g l pd us (mt ++ [x.cs]) (i + 1) (j + 1) := by
 have hd : l.drop j = x :: l.drop (j + 1) := by
  have hj := (List.getElem?_eq_some_iff.1 hx).1
  rw [List.drop_eq_getElem_cons hj]
  congr 1
  exact (List.getElem?_eq_some_iff.1 hx).2
 have hf : (l.take (j + 1)).filter (fun x => !pd x) = ((l.take j).filter fun x => !pd x) ++ [x] := by
  rw [List.take_add_one, hx, List.filter_append]; simp [hp]
 have hl := h.len
 have hm := h.mid
 simp only [List.length_cons] at hm
 refine ⟨?_, by rw [hf]; simp [hl], by simp; omega⟩
 have hr := h.rw.set (i := i) (v := x.cs) rfl (by simp [cellsE]; omega)
 have e1 : (cellsE ((l.take j).filter fun x => !pd x) ++ m0 :: mt ++ cellsE (l.drop j) ++ us).set i x.cs = cellsE ((l.take (j + 1)).filter fun x => !pd x) ++ (mt ++ [x.cs]) ++ cellsE (l.drop (j + 1)) ++ us := by
  rw [hf, hd, List.append_assoc, List.append_assoc, List.set_append_right _ _ (by simp [cellsE]; omega), cellsE_len, hl, Nat.sub_self]
  simp [cellsE]
 rw [e1] at hr
 exact hr
def DfR (w : World) (g : Nat) (l : List En) (pd : En → Bool) (us : List (List Value)) (n : Nat) (v u : Value) (W : World) : Prop :=
 ∃ (i j : Nat) (mid : List (List Value)), v = .int .i64 (i : Int) ∧ u = .int .i64 (j : Int) ∧ i < j ∧ j ≤ n ∧ Hid (Df W g l pd us mid i j) ∧ Hid (Kept (fun k => k = g) w W)
theorem kept_at {g : Nat} {w W : World} (h : Kept (fun k => k = g) w W) : Kept (At (some ⟨g, 0, none⟩)) w W := h.mono fun _ hk => ⟨⟨g, 0, none⟩, rfl, hk⟩
set_option maxRecDepth 100000 in
set_option maxHeartbeats 4000000 in
theorem del_any {a : Option Addr} {n cap p B : Nat} {l : List En} {o : O} {w : World} (h : OwnG w 72 7 B a n cap (cellsE l)) (hp : Blk w p 33 o.arr) (hne : ∀ ad, a = some ad → ad.block ≠ p) (hn : n < 500000) :
  Calls Tryz.prog 84 #[.slice a n cap, fvE p] w (DelP w B a cap (leftE l o)) := by
 have hlen : l.length = n := by have := h.len; rwa [cellsE_len] at this
 have HLEN := Lib.hid hlen
 have HI := Lib.hid (idxE_any (cap := cap) (o := o) (p := p) h.gl hp hn)
 have HO := Lib.hid h
 have HP := Lib.hid hp
 have HNE := Lib.hid hne
 clear h hp hne hlen
 go_enter Tryz.func84, Tryz.ntmps84
 go_wp2_with fail
 refine HI.out.mono ?_
 rintro e w1 ⟨z, rfl, hz, hb1⟩
 have HB1 := Lib.hid hb1
 have HP1 := Lib.hid (HP.out.below hb1)
 have HO1 := Lib.hid (HO.out.below hb1)
 clear hb1 HP HO HI
 rcases hz with ⟨rfl, hall⟩ | ⟨k, x, rfl, hx, hpx, hall⟩
 ·have HE : Hid (DelP w B a cap (leftE l o) (.returned (.slice a n cap)) w1) := by
   have e1 : leftE l o = l := List.filter_eq_self.2 fun e he => by simp [hall e he]
   rw [e1]
   refine Lib.hid ⟨by rw [HLEN.out], by rw [HLEN.out]; exact HO1.out, .of_below HB1.out⟩
  clear hall
  go_wp2_with fail
  go_ret
  exact HE.out
 ·have hkn : k < n := by have := (List.getElem?_eq_some_iff.1 hx).1; have := HLEN.out; omega
  obtain ⟨g, us, rfl, hrw, hcap, hBg, hcm⟩ : ∃ g us, a = some ⟨g, 0, none⟩ ∧ Rw w1 72 7 g (cellsE l ++ us) ∧ n + us.length = cap ∧ B ≤ g ∧ cap ≤ maxLen := by
   rcases HO1.out.rw' (by decide) with ⟨_, h0, _⟩ | h
   ·omega
   ·exact h
  have HGP : Hid (g ≠ p) := Lib.hid (HNE.out _ rfl)
  have HD0 : Hid (Df w1 g l (fun e => O.endsB o e.maker) us [x.cs] k (k + 1)) := by
   have hf : (l.take (k + 1)).filter (fun e => !O.endsB o e.maker) = l.take k := by
    rw [List.take_add_one, hx, List.filter_append, List.filter_eq_self.2 fun e he => by simp [hall e he]]
    simp [hpx]
   have hlk : (l.take k).length = k := by have := HLEN.out; simp; omega
   refine Lib.hid ⟨?_, by rw [hf]; exact hlk, rfl⟩
   rw [hf]
   have hd : l = l.take k ++ x :: l.drop (k + 1) := by
    have hj := (List.getElem?_eq_some_iff.1 hx).1
    have e2 := (List.getElem?_eq_some_iff.1 hx).2
    conv => lhs; rw [← List.take_append_drop k l, List.drop_eq_getElem_cons hj, e2]
   have e3 : cellsE l = cellsE (l.take k) ++ [x.cs] ++ cellsE (l.drop (k + 1)) := by
    conv => lhs; rw [hd]
    simp [cellsE]
   rw [e3] at hrw
   exact hrw
  have HCP : Hid (n + us.length = cap ∧ B ≤ g ∧ cap ≤ maxLen) := Lib.hid ⟨hcap, hBg, hcm⟩
  have hcn : n ≤ cap := by omega
  have hk1 : ((k : Int) == -1) = false := by rw [beq_eq_false_iff_ne]; omega
  clear hx hpx hall hrw hcap hBg hcm HO1
  obtain ⟨zo, ho⟩ : ∃ z, En.zero = z := ⟨_, rfl⟩
  have HZO := Lib.hid ho
  clear ho
  go_wp2_with fail
  go_loopw [5, 6] (DfR w1 g l (fun e => O.endsB o e.maker) us n) (fun _ u _ => n - (numI u).toNat)
  case atStart => exact ⟨k, k + 1, [x.cs], rfl, by go_num, by omega, by omega, HD0, Lib.hid (Kept.refl _ _)⟩
  case round =>
   obtain ⟨i, j, mid, rfl, rfl, hij, hjn, HD, HK⟩ := hrel
   clear HD0 hk1
   by_cases hlt : j < n
   ·obtain ⟨y, hy⟩ : ∃ y, l[j]? = some y := ⟨l[j]'(by have := HLEN.out; omega), List.getElem?_eq_getElem _⟩
    have HY := Lib.hid hy
    have HR := Lib.hid (HD.out.at hy)
    have HPR : Hid (Blk wr p 33 o.arr) := Lib.hid (HP1.out.kept HK.out (fun e => HGP.out e.symm))
    clear hy
    go_wp2_with (first | (refine wpList_run rfl (exec_idx72 (i := j) rfl rfl rfl rfl hlt) ?_) | (refine wpList_run rfl (exec_ld72 (p := y) rfl rfl HR.out) ?_) | (refine wpList_run rfl (exec_alloc72z HZO.out rfl) ?_) | (refine wpList_stop72 rfl ?_))
    refine ⟨?_⟩
    refine wpList_void rfl rfl (exec_store72 (p := zo) (u := y) rfl rfl rfl (Blk.new wr 72 zo.arr)) ?_
    have H1 := Lib.hid (bo_laid wr 72 zo.arr y.arr)
    generalize (wr.alloc (.cells zo.arr 72)).setRow wr.heap.size y.arr = w2 at H1
    have HP2 := Lib.hid (HPR.out.below H1.out.old)
    have HC := Lib.hid (clos_any HP2.out y)
    cases hq : O.endsB o y.maker
    ·rw [hq] at HC
     have HQ := Lib.hid hq
     clear hq
     go_wp2_with ((refine wpList_run rfl (exec_load72 (p := y) rfl rfl H1.out.one) ?_))
     refine HC.out.mono ?_
     rintro e w' ⟨rfl, hg⟩
     have H3 := Lib.hid (H1.out.below hg)
     have HD3 : Hid (Df w' g l (fun e => O.endsB o e.maker) us mid i j) := Lib.hid ⟨HD.out.rw.below H3.out.old, HD.out.len, HD.out.mid⟩
     have HK3 : Hid (Kept (fun k => k = g) w1 w') := Lib.hid (HK.out.trans (Kept.of_below (S := fun _ => False) H3.out.old) (fun _ h => h.elim))
     clear hg H1 HC HD HK HR
     have hil : i < (cellsE ((l.take j).filter fun x => !O.endsB o x.maker) ++ mid ++ cellsE (l.drop j) ++ us).length := by
      have h1 := HD3.out.len
      have h2 := HD3.out.mid
      simp only [List.length_append, cellsE_len]
      omega
     have HIL := Lib.hid hil
     clear hil
     go_wp2_with (first | (refine wpList_run rfl (exec_load72 (p := y) rfl rfl H3.out.one) ?_) | (refine wpList_run rfl (exec_idx72 (i := i) rfl rfl rfl rfl (by omega)) ?_) | (refine wpList_stop72 rfl ?_))
     refine ⟨?_⟩
     refine wpList_void rfl rfl (exec_st72 (j := i) (p := y) rfl rfl (by omega) rfl HD3.out.rw HIL.out) ?_
     obtain ⟨m0, mt, rfl⟩ : ∃ m0 mt, mid = m0 :: mt := by
      cases mid with
      | nil => have := HD3.out.mid; simp at this; omega
      | cons m0 mt => exact ⟨m0, mt, rfl⟩
     have HD4 := Lib.hid (HD3.out.keep HY.out HQ.out)
     have HK4 : Hid (Kept (fun k => k = g) w1 (w'.setCells g (0 + i * 7) y.cs)) := Lib.hid (HK3.out.trans (Kept.setCells g _ _ _) (fun _ h => .inl h))
     generalize w'.setCells g (0 + i * 7) y.cs = w4 at HD4 HK4
     go_wp2_with fail
     go_roundw
     case rel => exact ⟨i + 1, j + 1, _, by go_num, by go_num, by omega, by omega, HD4, HK4⟩
     case measure => simp [numI]; omega
    ·rw [hq] at HC
     have HQ := Lib.hid hq
     clear hq
     go_wp2_with ((refine wpList_run rfl (exec_load72 (p := y) rfl rfl H1.out.one) ?_))
     refine HC.out.mono ?_
     rintro e w' ⟨rfl, hg⟩
     have H3 := Lib.hid (H1.out.below hg)
     have HD4 : Hid (Df w' g l (fun e => O.endsB o e.maker) us (mid ++ [y.cs]) i (j + 1)) := Lib.hid (Df.skip ⟨HD.out.rw.below H3.out.old, HD.out.len, HD.out.mid⟩ HY.out HQ.out)
     have HK4 : Hid (Kept (fun k => k = g) w1 w') := Lib.hid (HK.out.trans (Kept.of_below (S := fun _ => False) H3.out.old) (fun _ h => h.elim))
     clear hg
     go_wp2_with fail
     go_roundw
     case rel => exact ⟨i, j + 1, _, rfl, by go_num, by omega, by omega, HD4, HK4⟩
     case measure => simp [numI]; omega
   ·obtain rfl : j = n := by omega
    have hcl : ∀ ty, (Builtin.clear_ #[36] ty #[.slice (some ⟨g, 0 + i * 7, none⟩) (j - i) (cap - i)]).run Tryz.prog wr = .ok (.tuple #[]) (wr.setCells g (0 + i * 7) (List.replicate (j - i) En.zero.cs).flatten) := fun ty =>
     run_clearR wr 36 ty 72 7 En.zero.cs und36 ((zero_of_info info72z).1 wr) rfl (by decide) En.zero.one_cs g (0 + i * 7) (j - i) (cap - i) (HD.out.rw.there (by
      have h1 := HD.out.len
      have h2 := HD.out.mid
      simp only [List.length_append, cellsE_len]
      omega))
    have HCL := Lib.hid hcl
    clear hcl
    have HE : Hid (DelP w B (some ⟨g, 0, none⟩) cap (leftE l o) (.returned (.slice (some ⟨g, 0, none⟩) i cap)) (wr.setCells g (0 + i * 7) (List.replicate (j - i) En.zero.cs).flatten)) := by
     have h1 := HD.out.len
     have h2 := HD.out.mid
     have hrw := HD.out.rw
     have hlen := HLEN.out
     rw [List.take_of_length_le (by omega)] at h1 hrw
     have hlen2 : (l.drop j) = [] := List.drop_eq_nil_iff.2 (by omega)
     rw [hlen2] at hrw
     have ho := hrw.over (us := List.replicate (j - i) En.zero.cs) (i := i) (fun v hv => by rw [List.eq_of_mem_replicate hv]; rfl) (by simp [cellsE]; omega)
     have hl2 : (overL (cellsE (l.filter fun x => !O.endsB o x.maker) ++ mid ++ cellsE [] ++ us) i (List.replicate (j - i) En.zero.cs)).length = cap := by
      rw [overL_length _ _ _ (by simp [cellsE]; omega)]
      have := HCP.out.1
      simp [cellsE]
      omega
     have hown := ho.own (B := B) (n := i) HCP.out.2.1 (by omega) hl2 HCP.out.2.2
     have ht : (overL (cellsE (l.filter fun x => !O.endsB o x.maker) ++ mid ++ cellsE [] ++ us) i (List.replicate (j - i) En.zero.cs)).take i = cellsE (leftE l o) := by
      unfold overL leftE
      rw [List.append_assoc, List.take_append_of_le_length (by simp [cellsE]; omega), List.take_take, Nat.min_self, List.append_assoc, List.append_assoc, List.take_append_of_le_length (by simp [cellsE]; omega), List.take_of_length_le (by simp [cellsE]; omega)]
     rw [ht] at hown
     have hi : (leftE l o).length = i := h1
     refine Lib.hid ⟨by rw [hi], by rw [hi]; exact hown, kept_at ?_⟩
     exact ((Kept.of_below (S := fun k => k = g) HB1.out).trans HK.out (fun _ h => .inl h)).trans (Kept.setCells g _ _ _) (fun _ h => .inl h)
    go_wp2_with (first | (refine wpList_run rfl (exec_sliceLo und36 Tryz.sizeOf72 (i := i) rfl rfl rfl rfl (by omega) (by omega) (by omega)) ?_) | (refine wpList_run rfl (exec_clear rfl rfl (HCL.out _)) ?_) | (refine wpList_run rfl (exec_sliceHi und36 Tryz.sizeOf72 (i := i) rfl rfl rfl rfl (by omega) rfl) ?_))
    go_ret
    have h := HE.out
    rw [Nat.zero_add] at h
    exact h
end Go.Proofs.YtnekpgmgnepdoaaGreat
