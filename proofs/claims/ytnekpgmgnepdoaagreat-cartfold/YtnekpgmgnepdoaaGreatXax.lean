import Derived.ProofKit
import Derived.OpenShut
import Derived.ChangeOld
import Derived.ChangeSame
import Derived.Lib.SmallJoins
import Derived.Deep.Slices
import Derived.Deep.Fields
import Derived.Laws.MakeOwn
import Derived.Test.YtnekpgmgnepdoaaGreatXai
import Derived.Test.YtnekpgmgnepdoaaGreatXat
namespace Go.Proofs.YtnekpgmgnepdoaaGreat.F
open Go.Proofs.YtnekpgmgnepdoaaGreat Go.Proofs.YtnekpgmgnepdoaaGreat.Fold
open Go.RowKit Go.Maps Fold
theorem setCells_blk {t : TypeId} {g : Nat} : ∀ (zs xs ys : List Value) (w : World), zs.length = ys.length → Blk w g t (xs ++ ys).toArray → Blk (w.setCells g xs.length zs) g t (xs ++ zs).toArray
 | [], xs, ys, w, h, hb => by
  obtain rfl : ys = [] := List.eq_nil_of_length_eq_zero h.symm
  exact hb
 | z :: zs, xs, [], w, h, hb => by simp at h
 | z :: zs, xs, y :: ys, w, h, hb => by
  have h1 := hb.set xs.length z
  have e : (xs ++ y :: ys).toArray.setIfInBounds xs.length z = ((xs ++ [z]) ++ ys).toArray := by simp
  rw [e] at h1
  have ih := setCells_blk zs (xs ++ [z]) ys _ (by simpa using h) h1
  simpa [World.setCells] using ih
theorem _root_.Go.Proofs.YtnekpgmgnepdoaaGreat.Kept.setCellsF {g : Nat} : ∀ (zs : List Value) (o : Nat) (w : World), Kept (fun k => k = g) w (w.setCells g o zs)
 | [], _, _ => Kept.refl _ _
 | z :: zs, o, w => (Kept.setCell w ⟨g, o, Option.none⟩ z).trans (Kept.setCellsF zs (o + 1) _) (fun _ h => .inl h)
section
variable {ev : Operand → Value} {q : Oper} {w : World}
theorem exec_stCtx {x y : Operand} {g : Nat} {p : O} {v : V} (ho : q.op = .store 24 x y) (hx : ev x = .pointer (some ⟨g, 7, none⟩)) (hy : ev y = .agg v.arr) (h : Blk w g 33 p.arr) : (execOp ev q).run Tryz.prog w = .ok .skip (w.setCells g 7 v.cs) := by
 have hs := run_storeAt_mid (P := Tryz.prog) w g 7 24 v.arr (h.there (by rw [v.arr_size, p.arr_size]; omega)) (by rw [v.arr_size]; exact size24) v.arr_one
 unfold execOp
 simp only [ho, hx, hy, Sem.run_bind, hs, Result.andThen_ok]
 rfl
theorem stCtx_blk {g : Nat} {p : O} {v : V} (h : Blk w g 33 p.arr) : Blk (w.setCells g 7 v.cs) g 33 (withV p v).arr := by
 have := setCells_blk v.cs p.hd p.v.cs w (by rw [v.cs_len, p.v.cs_len]) h
 exact this
theorem exec_fieldCtx {x : Operand} {p : O} (ho : q.op = .field 33 x 6) (hx : ev x = .agg p.arr) : (execOp ev q).run Tryz.prog w = .ok (.value (.agg p.v.arr)) w := by
 have hp := part_ctx p w
 unfold execOp
 simp only [ho, hx, Instr.field, Sem.run_bind, run_underlying Tryz.underlying33, Result.andThen_ok, asAgg, Sem.run_pure]
 simp only [List.getElem?_toArray, List.getElem?_cons_succ, List.getElem?_cons_zero]
 rw [Sem.run_bind, Sem.run_pure, Result.andThen_ok, hp]
 rfl
theorem exec_ldAim {x : Operand} {g : Nat} {a : Aim} (ho : q.op = .load 192 x) (hx : ev x = .pointer (some ⟨g, 0, none⟩)) (h : Blk w g 192 #[.int .u8 (a.1 : Int), .int .u16 (a.2.1 : Int), .int .u16 (a.2.2 : Int)]) : (execOp ev q).run Tryz.prog w = .ok (.value (aimV a)) w := by
 have hl := run_loadVar_mid (P := Tryz.prog) w g 0 192 [.int .u8 (a.1 : Int), .int .u16 (a.2.1 : Int), .int .u16 (a.2.2 : Int)] _ (by
  intro j u hu
  rw [Nat.zero_add, h.cell]
  simpa using hu) Tryz.underlying192 rfl (by kernel_rfl)
 refine exec_cell ho hx ?_
 simp only [Instr.loadAt, Instr.sureAddr, Sem.run_bind, Sem.run_pure, Result.andThen_ok, hl]
end
theorem drew_below (w : World) : Below w.heap.size w w.drew := (Below.refl _ _).drew
theorem wpList_stopMU {ops : Array Oper} {rest : List Oper} {o : Oper} {act : Act} {Q : Exit → Act → World → Prop} {W : World} {t : TypeId} {x y z : Operand} (_ho : o.op = .mapUpdate t x y z) (k : Halt_ (wpList Tryz.prog ops Q (o :: rest) act W)) : wpList Tryz.prog ops Q (o :: rest) act W := k.out
theorem exec_upd {ev : Operand → Value} {q : Oper} {w w2 : World} {t : TypeId} {x y z : Operand} {m key v : Value} (ho : q.op = .mapUpdate t x y z) (hx : ev x = m) (hy : ev y = key) (hz : ev z = v) (h : (Instr.mapUpdate t m key v).run Tryz.prog w = .ok () w2) : (execOp ev q).run Tryz.prog w = .ok .skip w2 := by
 unfold execOp
 simp only [ho, hx, hy, hz, Sem.run_bind, h, Result.andThen_ok]
 rfl
structure EndM (W : World) (m : Nat) (l : List O) (n : Nat) (f : Lit → Option Value) : Prop where
 mp : MpF W 192 m n f
 le : n ≤ l.length
 val : ∀ a, RawA a → f (ka a) = (endO l a).map fun o => .agg o.arr
theorem EndM.kept {S : Nat → Prop} {W W' : World} {m n : Nat} {l : List O} {f : Lit → Option Value} (h : EndM W m l n f) (k : Kept S W W') (hn : ¬ S m) : EndM W' m l n f := ⟨h.mp.kept k hn, h.le, h.val⟩
theorem EndM.below {W W' : World} {m n : Nat} {l : List O} {f : Lit → Option Value} (h : EndM W m l n f) (hb : Below W.heap.size W W') : EndM W' m l n f := ⟨h.mp.below hb, h.le, h.val⟩
theorem exec_lookA {ev : Operand → Value} {q : Oper} {w : World} {x y : Operand} {m n : Nat} {l : List O} {f : Lit → Option Value} {a : Aim} {e : O} (ho : q.op = .lookup 168 x y false) (hx : ev x = .map (some m)) (hy : ev y = aimV a) (h : EndM w m l n f) (hr : RawA a) (he : endAt l a = e) : (execOp ev q).run Tryz.prog w = .ok (.value (.agg e.arr)) w := by
 subst he
 have hl := h.mp.look law192 und168 (zero33 w) (key192 hr)
 rw [h.val a hr] at hl
 have e1 : ((endO l a).map (fun o => Value.agg o.arr)).getD (.agg O.zero.arr) = .agg (endAt l a).arr := by
  unfold endAt
  cases endO l a <;> rfl
 rw [e1] at hl
 unfold execOp
 simp only [ho, hx, hy, Sem.run_bind, hl, Result.andThen_ok]
 rfl
def EndsP (l : List O) (w : World) (e : Ending) (w' : World) : Prop := ∃ m n f, e = .returned (.map (some m)) ∧ EndM w' m l n f ∧ w.heap.size ≤ m ∧ Below w.heap.size w w'
def EndR (w : World) (l : List O) (n m : Nat) (u : Value) (W : World) : Prop :=
 ∃ (k c : Nat) (f : Lit → Option Value), u = .int .i64 (k : Int) ∧ k ≤ n ∧ Hid (EndM W m (l.take k) c f) ∧ Hid (Below w.heap.size w W)
structure Ea (W' : World) (m p2 : Nat) (l : List O) (n : Nat) (f : Lit → Option Value) (a : Aim) : Prop where
 aim : Blk W' p2 192 #[.int .u8 (a.1 : Int), .int .u16 (a.2.1 : Int), .int .u16 (a.2.2 : Int)]
 mp : EndM W' m l n f
theorem end_put {l : List O} {k c : Nat} {x : O} {f : Lit → Option Value} {W W2 : World} {m : Nat} {a : Aim} (hx : l[k]? = some x) (ha : aimOf x = some a) (hr : RawA a) (h : EndM W m (l.take k) c f)
  (h2 : MpF W2 192 m (if (f (ka a)).isSome then c else c + 1) (upd f (ka a) (.agg (withV x (V.join x.v (endAt (l.take k) a).v)).arr))) : ∃ c' f', EndM W2 m (l.take (k + 1)) c' f' := by
 have hk : k < l.length := (List.getElem?_eq_some_iff.1 hx).1
 have et : l.take (k + 1) = l.take k ++ [x] := by rw [List.take_add_one, hx]; rfl
 refine ⟨_, _, h2, ?_, fun b hb => ?_⟩
 ·have := h.le
  rw [et, List.length_append]
  simp only [List.length_cons, List.length_nil]
  split <;> omega
 ·rw [et, end_snoc]
  have es : endStep (endO (l.take k)) x b = if b = a then some (withV x (V.join x.v (vOf (endO (l.take k) a)))) else endO (l.take k) b := by
   unfold endStep; rw [ha]
  rw [es]
  by_cases e : b = a
  ·subst e
   rw [if_pos rfl, upd_same]
   rfl
  ·rw [if_neg e, upd_other _ _ (fun h => e (ka_inj hb hr h)), h.val b hb]
theorem end_skip {l : List O} {k c : Nat} {x : O} {f : Lit → Option Value} {W : World} {m : Nat} (hx : l[k]? = some x) (ha : aimOf x = none) (h : EndM W m (l.take k) c f) : EndM W m (l.take (k + 1)) c f := by
 have et : l.take (k + 1) = l.take k ++ [x] := by rw [List.take_add_one, hx]; rfl
 have es : endO (l.take (k + 1)) = endO (l.take k) := by
  rw [et, end_snoc]; unfold endStep; rw [ha]
 refine ⟨h.mp, ?_, fun b hb => by rw [es]; exact h.val b hb⟩
 have := h.le
 rw [et, List.length_append]
 omega
set_option maxRecDepth 100000 in
set_option maxHeartbeats 4000000 in
theorem enders_any {a : Option Addr} {n cap : Nat} {l : List O} {w : World} (hl : OL w a n l) (hn : n < 1000000) : Calls Tryz.prog 116 #[.slice a n cap] w (EndsP l w) := by
 obtain ⟨zo, ho⟩ : ∃ z, O.zero = z := ⟨_, rfl⟩
 have HO := Lib.hid ho
 have HL := Lib.hid hl
 have HLEN := Lib.hid hl.len'
 have hmm := @run_makeMap Tryz.prog
 clear ho hl
 go_enter Tryz.func116, Tryz.ntmps116
 go_wp2_with fail
 have HM0 : Hid (EndM (w.alloc (.map #[] 0)) w.heap.size (l.take 0) 0 (fun _ => none)) := Lib.hid ⟨mpF_new w 192, Nat.zero_le _, fun _ _ => rfl⟩
 have HB0 : Hid (Below w.heap.size w (w.alloc (.map #[] 0))) := Lib.hid (below_one _ _)
 clear hmm
 obtain ⟨m, hm0⟩ : ∃ m, w.heap.size = m := ⟨_, rfl⟩
 rw [hm0] at HM0 ⊢
 have HGM : Hid (w.heap.size ≤ m) := Lib.hid (by omega)
 generalize w.alloc (.map #[] 0) = w0 at HM0 HB0
 clear hm0
 go_loopw [10] (EndR w l n m) (fun u _ => n - (numI u).toNat)
 case atStart => exact ⟨0, 0, _, rfl, Nat.zero_le _, HM0, HB0⟩
 case round =>
  obtain ⟨k, c, f, rfl, hk, HM, HB⟩ := hrel
  clear HM0 HB0
  by_cases hlt : k < n
  ·obtain ⟨b, off, x, rfl, hx, hr⟩ := OL.at (HL.out.below HB.out) hlt
   have HX := Lib.hid hx
   have HR := Lib.hid hr
   clear hx hr
   go_wp2_with (first | (refine wpList_run rfl (exec_idxO (i := k) rfl rfl rfl rfl hlt) ?_) | (refine wpList_run rfl (exec_ldO rfl rfl HR.out) ?_) | (refine wpList_run rfl (exec_alloc33z HO.out rfl) ?_) | (refine wpList_stop33 rfl ?_))
   refine ⟨?_⟩
   refine wpList_void rfl rfl (exec_store33 (p := zo) (u := x) rfl rfl rfl (Blk.new wr 33 zo.arr)) ?_
   have H1 : Hid (Ow wr ((wr.alloc (.cells zo.arr 33)).setRow wr.heap.size x.arr) x) := Lib.hid ⟨olaid_blk wr zo x, olaid_old wr zo x⟩
   generalize (wr.alloc (.cells zo.arr 33)).setRow wr.heap.size x.arr = w1 at H1
   have c2 := oc2 H1.out.one
   have c3 := oc3 H1.out.one
   have c4 := oc4 H1.out.one
   have HA1 := Lib.hid (Blk.new w1 192 #[.int .u8 (x.k : Int), .int .u16 (x.c : Int), .int .u16 (x.i : Int)])
   have HB2 := Lib.hid (below_one w1 (.cells #[.int .u8 (x.k : Int), .int .u16 (x.c : Int), .int .u16 (x.i : Int)] 192))
   have d2 := oc2 (H1.out.one.below HB2.out)
   have HP1 := Lib.hid (H1.out.one.below HB2.out)
   have HM2 := Lib.hid ((HM.out.below H1.out.old).below HB2.out)
   have HWA : Hid (Below w.heap.size w (w1.alloc (.cells #[.int .u8 (x.k : Int), .int .u16 (x.c : Int), .int .u16 (x.i : Int)] 192))) := Lib.hid ((HB.out.trans (H1.out.old.mono HB.out.size)).trans (HB2.out.mono (Nat.le_trans HB.out.size H1.out.old.size)))
   have HG1 : Hid (w.heap.size ≤ wr.heap.size) := Lib.hid HB.out.size
   have HN12 : Hid (¬ w1.heap.size = wr.heap.size) := Lib.hid (fun e => by have := H1.out.one.lt; omega)
   have HN1m : Hid (¬ m = wr.heap.size) := Lib.hid (fun e => by have := HM.out.mp.lt; omega)
   have HN2m : Hid (¬ m = w1.heap.size) := Lib.hid (fun e => by have := HM.out.mp.lt; have := H1.out.old.size; omega)
   have HG2 : Hid (w.heap.size ≤ w1.heap.size) := Lib.hid (Nat.le_trans HB.out.size H1.out.old.size)
   by_cases h5 : x.k = 5
   ·have q5 : ((x.k : Int) == 5) = true := by simp; omega
    have H5 := Lib.hid h5
    clear h5
    go_wp2_with fail
    have hn := below_one w1 (.cells #[.int .u8 (x.k : Int), .int .u16 (x.c : Int), .int .u16 0] 192)
    have HAB : Hid (Blk (w1.alloc (.cells #[.int .u8 (x.k : Int), .int .u16 (x.c : Int), .int .u16 0] 192)) w1.heap.size 192 #[.int .u8 (x.k : Int), .int .u16 (x.c : Int), .int .u16 0]) := Lib.hid (Blk.new w1 192 _)
    have HMB := Lib.hid ((HM.out.below H1.out.old).below hn)
    clear HP1 HWA
    have HP1 := Lib.hid (H1.out.one.below hn)
    have HWA : Hid (Below w.heap.size w (w1.alloc (.cells #[.int .u8 (x.k : Int), .int .u16 (x.c : Int), .int .u16 0] 192))) := Lib.hid ((HB.out.trans (H1.out.old.mono HB.out.size)).trans (hn.mono (Nat.le_trans HB.out.size H1.out.old.size)))
    clear hn c2 c3 c4 d2 HA1 HB2 HM2 H1 HM HB
    generalize w1.alloc (.cells #[.int .u8 (x.k : Int), .int .u16 (x.c : Int), .int .u16 0] 192) = wa at HP1 HWA HAB HMB
    generalize w1.heap.size = p2 at HAB HN12 HN2m HG2
    generalize wr.heap.size = p1 at HP1 HG1 HN12 HN1m
    obtain ⟨aa, haa⟩ : ∃ aa : Aim, (x.k, x.c, 0) = aa := ⟨_, rfl⟩
    have HAIM : Hid (aimOf x = some aa) := Lib.hid (by rw [← haa]; unfold aimOf; rw [if_pos H5.out, H5.out])
    have HRA : Hid (RawA aa) := Lib.hid (by rw [← haa]; exact ⟨x.hk, x.hc, by show 0 < 65536; omega⟩)
    have HEA : Hid (Ea wa m p2 (l.take k) c f aa) := Lib.hid ⟨by rw [← haa]; exact HAB.out, HMB.out⟩
    clear haa HAB HMB q5
    obtain ⟨e0, he0⟩ : ∃ e0, endAt (l.take k) aa = e0 := ⟨_, rfl⟩
    have HE0 := Lib.hid he0
    clear he0
    refine wp_region_held_drew (S := fun w' => Ea w' m p2 (l.take k) c f aa) (by kernel_rfl) ⟨HEA.out.aim, HEA.out.mp.below (drew_below _)⟩ (fun hS => ?_)
    refine held_tk 0 29 (.pointer (some ⟨p1,7,none⟩)) rfl rfl (by kernel_rfl) (fun _ _ _ h=>h) (fun _ _=>(by kernel_rfl)) hS ?_;simp only [Act.put,ap1,ap2,ap3]
    refine held_tk 2 31 (.map (some m)) rfl rfl (by kernel_rfl) (fun _ _ _ h=>h) (fun _ _=>rfl) hS ?_;simp only [Act.put,ap1,ap2,ap3]
    refine held_tk 3 32 (aimV aa) rfl rfl (by kernel_rfl) (fun _ _ _ h=>h) (fun _ h=>exec_ldAim rfl rfl h.aim) hS ?_;simp only [Act.put,ap1,ap2,ap3]
    refine held_tk 4 33 (.agg e0.arr) rfl rfl (by kernel_rfl) (fun _ _ _ h=>h) (fun _ h=>exec_lookA rfl rfl rfl h.mp HRA.out HE0.out) hS ?_;simp only [Act.put,ap1,ap2,ap3]
    refine held_tk 5 34 (.agg e0.v.arr) rfl rfl (by kernel_rfl) (fun _ _ _ h=>h) (fun _ _=>exec_fieldCtx (p:=e0) rfl rfl) hS ?_;simp only [Act.put,ap1,ap2,ap3]
    refine held_exec 1 30 (.agg x.v.arr) rfl rfl (by kernel_rfl) (by kernel_rfl) (exec_ctx (p:=x) rfl rfl (HP1.out.below (drew_below _))) hS ?_;simp only [Act.put,ap1,ap2,ap3]
    refine held_callP 6 35 57 #[.agg x.v.arr,.agg e0.v.arr] rfl (by kernel_rfl) rfl (by kernel_rfl) (by kernel_rfl) (join_any x.v e0.v _) (fun e w6 hP=>?_)
    obtain ⟨rfl, hb6⟩ := hP
    refine ⟨_, rfl, ⟨hS.aim.below hb6, hS.mp.below hb6⟩, fun hS => ?_⟩
    simp only [Act.put, ap1, ap2, ap3]
    have HP6 : Hid (Blk w6 p1 33 x.arr) := Lib.hid ((HP1.out.below (drew_below _)).below hb6)
    have HW6 : Hid (Below w.heap.size w w6) := Lib.hid (HWA.out.drew.trans (hb6.mono HWA.out.size))
    refine held_exec 7 36 (.pointer (some ⟨p1,7,none⟩)) rfl rfl (by kernel_rfl) (by kernel_rfl) (by kernel_rfl) hS ?_;simp only [Act.put,ap1,ap2,ap3]
    have hk7 := Kept.setCellsF (g := p1) (V.join x.v e0.v).cs 7 w6
    refine held_void 8 rfl rfl (by kernel_rfl) (by kernel_rfl) (exec_stCtx (p:=x) (v:=V.join x.v e0.v) rfl rfl rfl HP6.out) ⟨hS.aim.kept hk7 HN12.out,hS.mp.kept hk7 HN1m.out⟩ ?_
    refine wpAnyH_done (by kernel_rfl) ?_ _
    have HA7 := Lib.hid (hS.aim.kept hk7 HN12.out)
    have HM7 := Lib.hid (hS.mp.kept hk7 HN1m.out)
    have HP7 := Lib.hid (stCtx_blk (v := V.join x.v e0.v) HP6.out)
    have HW7 : Hid (Below w.heap.size w (w6.setCells p1 7 (V.join x.v e0.v).cs)) := Lib.hid (HW6.out.trans (hk7.below HW6.out.size (fun j e => by rw [e]; exact HG1.out)))
    clear hk7 hS hb6 HP6 HW6
    generalize w6.setCells p1 7 (V.join x.v e0.v).cs = w7 at HA7 HM7 HP7 HW7
    obtain ⟨w8, hrun, hmp8, hk8⟩ := HM7.out.mp.put law192 und168 (by have := HM7.out.le; have := List.length_take_le k l; omega) (v := .agg (withV x (V.join x.v e0.v)).arr) (key192 HRA.out)
    have HRUN := Lib.hid hrun
    have HW8 : Hid (Below w.heap.size w w8) := Lib.hid (HW7.out.trans (hk8.below HW7.out.size (fun j e => by rw [e]; exact HGM.out)))
    have HE8 : Hid (∃ c' f', EndM w8 m (l.take (k + 1)) c' f') := Lib.hid (end_put HX.out HAIM.out HRA.out HM7.out (by rw [HE0.out]; exact hmp8))
    clear hrun hmp8 hk8
    go_wp2_with (first | (refine wpList_run rfl (exec_ldAim rfl rfl HA7.out) ?_) | (refine wpList_run rfl (exec_load33 rfl rfl HP7.out) ?_) | (refine wpList_stopMU rfl ?_))
    refine ⟨?_⟩
    refine wpList_void rfl rfl (exec_upd rfl rfl rfl rfl HRUN.out) ?_
    go_wp2_with fail
    go_roundw
    case rel =>
     obtain ⟨c', f', h8⟩ := HE8.out
     exact ⟨k + 1, c', f', by go_num, hlt, Lib.hid h8, HW8⟩
    case measure => simp [numI]; omega
   ·have q5 : ((x.k : Int) == 5) = false := by simp; omega
    by_cases h3 : x.k = 3
    ·have q3 : ((x.k : Int) == 3) = true := by simp; omega
     have H5 := Lib.hid h5
     have H3 : Hid (x.k = 3 ∨ x.k = 2) := Lib.hid (.inl h3)
     clear h3 h5
     go_wp2_with fail
     have HAB := HA1
     have HMB := HM2
     clear c2 c3 c4 d2 HA1 HB2 HM2 H1 HM HB
     generalize w1.alloc (.cells #[.int .u8 (x.k : Int), .int .u16 (x.c : Int), .int .u16 (x.i : Int)] 192) = wa at HP1 HWA HAB HMB
     generalize w1.heap.size = p2 at HAB HN12 HN2m HG2
     generalize wr.heap.size = p1 at HP1 HG1 HN12 HN1m
     obtain ⟨aa, haa⟩ : ∃ aa : Aim, (x.k, x.c, x.i) = aa := ⟨_, rfl⟩
     have HAIM : Hid (aimOf x = some aa) := Lib.hid (by rw [← haa]; unfold aimOf; rw [if_neg H5.out, if_pos H3.out])
     have HRA : Hid (RawA aa) := Lib.hid (by rw [← haa]; exact ⟨x.hk, x.hc, x.hi⟩)
     have HEA : Hid (Ea wa m p2 (l.take k) c f aa) := Lib.hid ⟨by rw [← haa]; exact HAB.out, HMB.out⟩
     clear haa HAB HMB
     obtain ⟨e0, he0⟩ : ∃ e0, endAt (l.take k) aa = e0 := ⟨_, rfl⟩
     have HE0 := Lib.hid he0
     clear he0
     refine wp_region_held_drew (S := fun w' => Ea w' m p2 (l.take k) c f aa) (by kernel_rfl) ⟨HEA.out.aim, HEA.out.mp.below (drew_below _)⟩ (fun hS => ?_)
     refine held_tk 0 29 (.pointer (some ⟨p1,7,none⟩)) rfl rfl (by kernel_rfl) (fun _ _ _ h=>h) (fun _ _=>(by kernel_rfl)) hS ?_;simp only [Act.put,ap1,ap2,ap3]
     refine held_tk 2 31 (.map (some m)) rfl rfl (by kernel_rfl) (fun _ _ _ h=>h) (fun _ _=>rfl) hS ?_;simp only [Act.put,ap1,ap2,ap3]
     refine held_tk 3 32 (aimV aa) rfl rfl (by kernel_rfl) (fun _ _ _ h=>h) (fun _ h=>exec_ldAim rfl rfl h.aim) hS ?_;simp only [Act.put,ap1,ap2,ap3]
     refine held_tk 4 33 (.agg e0.arr) rfl rfl (by kernel_rfl) (fun _ _ _ h=>h) (fun _ h=>exec_lookA rfl rfl rfl h.mp HRA.out HE0.out) hS ?_;simp only [Act.put,ap1,ap2,ap3]
     refine held_tk 5 34 (.agg e0.v.arr) rfl rfl (by kernel_rfl) (fun _ _ _ h=>h) (fun _ _=>exec_fieldCtx (p:=e0) rfl rfl) hS ?_;simp only [Act.put,ap1,ap2,ap3]
     refine held_exec 1 30 (.agg x.v.arr) rfl rfl (by kernel_rfl) (by kernel_rfl) (exec_ctx (p:=x) rfl rfl (HP1.out.below (drew_below _))) hS ?_;simp only [Act.put,ap1,ap2,ap3]
     refine held_callP 6 35 57 #[.agg x.v.arr,.agg e0.v.arr] rfl (by kernel_rfl) rfl (by kernel_rfl) (by kernel_rfl) (join_any x.v e0.v _) (fun e w6 hP=>?_)
     obtain ⟨rfl, hb6⟩ := hP
     refine ⟨_, rfl, ⟨hS.aim.below hb6, hS.mp.below hb6⟩, fun hS => ?_⟩
     simp only [Act.put, ap1, ap2, ap3]
     have HP6 : Hid (Blk w6 p1 33 x.arr) := Lib.hid ((HP1.out.below (drew_below _)).below hb6)
     have HW6 : Hid (Below w.heap.size w w6) := Lib.hid (HWA.out.drew.trans (hb6.mono HWA.out.size))
     refine held_exec 7 36 (.pointer (some ⟨p1,7,none⟩)) rfl rfl (by kernel_rfl) (by kernel_rfl) (by kernel_rfl) hS ?_;simp only [Act.put,ap1,ap2,ap3]
     have hk7 := Kept.setCellsF (g := p1) (V.join x.v e0.v).cs 7 w6
     refine held_void 8 rfl rfl (by kernel_rfl) (by kernel_rfl) (exec_stCtx (p:=x) (v:=V.join x.v e0.v) rfl rfl rfl HP6.out) ⟨hS.aim.kept hk7 HN12.out,hS.mp.kept hk7 HN1m.out⟩ ?_
     refine wpAnyH_done (by kernel_rfl) ?_ _
     have HA7 := Lib.hid (hS.aim.kept hk7 HN12.out)
     have HM7 := Lib.hid (hS.mp.kept hk7 HN1m.out)
     have HP7 := Lib.hid (stCtx_blk (v := V.join x.v e0.v) HP6.out)
     have HW7 : Hid (Below w.heap.size w (w6.setCells p1 7 (V.join x.v e0.v).cs)) := Lib.hid (HW6.out.trans (hk7.below HW6.out.size (fun j e => by rw [e]; exact HG1.out)))
     clear hk7 hS hb6 HP6 HW6
     generalize w6.setCells p1 7 (V.join x.v e0.v).cs = w7 at HA7 HM7 HP7 HW7
     obtain ⟨w8, hrun, hmp8, hk8⟩ := HM7.out.mp.put law192 und168 (by have := HM7.out.le; have := List.length_take_le k l; omega) (v := .agg (withV x (V.join x.v e0.v)).arr) (key192 HRA.out)
     have HRUN := Lib.hid hrun
     have HW8 : Hid (Below w.heap.size w w8) := Lib.hid (HW7.out.trans (hk8.below HW7.out.size (fun j e => by rw [e]; exact HGM.out)))
     have HE8 : Hid (∃ c' f', EndM w8 m (l.take (k + 1)) c' f') := Lib.hid (end_put HX.out HAIM.out HRA.out HM7.out (by rw [HE0.out]; exact hmp8))
     clear hrun hmp8 hk8
     go_wp2_with (first | (refine wpList_run rfl (exec_ldAim rfl rfl HA7.out) ?_) | (refine wpList_run rfl (exec_load33 rfl rfl HP7.out) ?_) | (refine wpList_stopMU rfl ?_))
     refine ⟨?_⟩
     refine wpList_void rfl rfl (exec_upd rfl rfl rfl rfl HRUN.out) ?_
     go_wp2_with fail
     go_roundw
     case rel =>
      obtain ⟨c', f', h8⟩ := HE8.out
      exact ⟨k + 1, c', f', by go_num, hlt, Lib.hid h8, HW8⟩
     case measure => simp [numI]; omega
    ·have q3 : ((x.k : Int) == 3) = false := by simp; omega
     by_cases h2 : x.k = 2
     ·have q2 : ((x.k : Int) == 2) = true := by simp; omega
      have H5 := Lib.hid h5
      have H3 : Hid (x.k = 3 ∨ x.k = 2) := Lib.hid (.inr h2)
      clear h2 h3 h5
      go_wp2_with fail
      have HAB := HA1
      have HMB := HM2
      clear c2 c3 c4 d2 HA1 HB2 HM2 H1 HM HB
      generalize w1.alloc (.cells #[.int .u8 (x.k : Int), .int .u16 (x.c : Int), .int .u16 (x.i : Int)] 192) = wa at HP1 HWA HAB HMB
      generalize w1.heap.size = p2 at HAB HN12 HN2m HG2
      generalize wr.heap.size = p1 at HP1 HG1 HN12 HN1m
      obtain ⟨aa, haa⟩ : ∃ aa : Aim, (x.k, x.c, x.i) = aa := ⟨_, rfl⟩
      have HAIM : Hid (aimOf x = some aa) := Lib.hid (by rw [← haa]; unfold aimOf; rw [if_neg H5.out, if_pos H3.out])
      have HRA : Hid (RawA aa) := Lib.hid (by rw [← haa]; exact ⟨x.hk, x.hc, x.hi⟩)
      have HEA : Hid (Ea wa m p2 (l.take k) c f aa) := Lib.hid ⟨by rw [← haa]; exact HAB.out, HMB.out⟩
      clear haa HAB HMB
      obtain ⟨e0, he0⟩ : ∃ e0, endAt (l.take k) aa = e0 := ⟨_, rfl⟩
      have HE0 := Lib.hid he0
      clear he0
      refine wp_region_held_drew (S := fun w' => Ea w' m p2 (l.take k) c f aa) (by kernel_rfl) ⟨HEA.out.aim, HEA.out.mp.below (drew_below _)⟩ (fun hS => ?_)
      refine held_tk 0 29 (.pointer (some ⟨p1,7,none⟩)) rfl rfl (by kernel_rfl) (fun _ _ _ h=>h) (fun _ _=>(by kernel_rfl)) hS ?_;simp only [Act.put,ap1,ap2,ap3]
      refine held_tk 2 31 (.map (some m)) rfl rfl (by kernel_rfl) (fun _ _ _ h=>h) (fun _ _=>rfl) hS ?_;simp only [Act.put,ap1,ap2,ap3]
      refine held_tk 3 32 (aimV aa) rfl rfl (by kernel_rfl) (fun _ _ _ h=>h) (fun _ h=>exec_ldAim rfl rfl h.aim) hS ?_;simp only [Act.put,ap1,ap2,ap3]
      refine held_tk 4 33 (.agg e0.arr) rfl rfl (by kernel_rfl) (fun _ _ _ h=>h) (fun _ h=>exec_lookA rfl rfl rfl h.mp HRA.out HE0.out) hS ?_;simp only [Act.put,ap1,ap2,ap3]
      refine held_tk 5 34 (.agg e0.v.arr) rfl rfl (by kernel_rfl) (fun _ _ _ h=>h) (fun _ _=>exec_fieldCtx (p:=e0) rfl rfl) hS ?_;simp only [Act.put,ap1,ap2,ap3]
      refine held_exec 1 30 (.agg x.v.arr) rfl rfl (by kernel_rfl) (by kernel_rfl) (exec_ctx (p:=x) rfl rfl (HP1.out.below (drew_below _))) hS ?_;simp only [Act.put,ap1,ap2,ap3]
      refine held_callP 6 35 57 #[.agg x.v.arr,.agg e0.v.arr] rfl (by kernel_rfl) rfl (by kernel_rfl) (by kernel_rfl) (join_any x.v e0.v _) (fun e w6 hP=>?_)
      obtain ⟨rfl, hb6⟩ := hP
      refine ⟨_, rfl, ⟨hS.aim.below hb6, hS.mp.below hb6⟩, fun hS => ?_⟩
      simp only [Act.put, ap1, ap2, ap3]
      have HP6 : Hid (Blk w6 p1 33 x.arr) := Lib.hid ((HP1.out.below (drew_below _)).below hb6)
      have HW6 : Hid (Below w.heap.size w w6) := Lib.hid (HWA.out.drew.trans (hb6.mono HWA.out.size))
      refine held_exec 7 36 (.pointer (some ⟨p1,7,none⟩)) rfl rfl (by kernel_rfl) (by kernel_rfl) (by kernel_rfl) hS ?_;simp only [Act.put,ap1,ap2,ap3]
      have hk7 := Kept.setCellsF (g := p1) (V.join x.v e0.v).cs 7 w6
      refine held_void 8 rfl rfl (by kernel_rfl) (by kernel_rfl) (exec_stCtx (p:=x) (v:=V.join x.v e0.v) rfl rfl rfl HP6.out) ⟨hS.aim.kept hk7 HN12.out,hS.mp.kept hk7 HN1m.out⟩ ?_
      refine wpAnyH_done (by kernel_rfl) ?_ _
      have HA7 := Lib.hid (hS.aim.kept hk7 HN12.out)
      have HM7 := Lib.hid (hS.mp.kept hk7 HN1m.out)
      have HP7 := Lib.hid (stCtx_blk (v := V.join x.v e0.v) HP6.out)
      have HW7 : Hid (Below w.heap.size w (w6.setCells p1 7 (V.join x.v e0.v).cs)) := Lib.hid (HW6.out.trans (hk7.below HW6.out.size (fun j e => by rw [e]; exact HG1.out)))
      clear hk7 hS hb6 HP6 HW6
      generalize w6.setCells p1 7 (V.join x.v e0.v).cs = w7 at HA7 HM7 HP7 HW7
      obtain ⟨w8, hrun, hmp8, hk8⟩ := HM7.out.mp.put law192 und168 (by have := HM7.out.le; have := List.length_take_le k l; omega) (v := .agg (withV x (V.join x.v e0.v)).arr) (key192 HRA.out)
      have HRUN := Lib.hid hrun
      have HW8 : Hid (Below w.heap.size w w8) := Lib.hid (HW7.out.trans (hk8.below HW7.out.size (fun j e => by rw [e]; exact HGM.out)))
      have HE8 : Hid (∃ c' f', EndM w8 m (l.take (k + 1)) c' f') := Lib.hid (end_put HX.out HAIM.out HRA.out HM7.out (by rw [HE0.out]; exact hmp8))
      clear hrun hmp8 hk8
      go_wp2_with (first | (refine wpList_run rfl (exec_ldAim rfl rfl HA7.out) ?_) | (refine wpList_run rfl (exec_load33 rfl rfl HP7.out) ?_) | (refine wpList_stopMU rfl ?_))
      refine ⟨?_⟩
      refine wpList_void rfl rfl (exec_upd rfl rfl rfl rfl HRUN.out) ?_
      go_wp2_with fail
      go_roundw
      case rel =>
       obtain ⟨c', f', h8⟩ := HE8.out
       exact ⟨k + 1, c', f', by go_num, hlt, Lib.hid h8, HW8⟩
      case measure => simp [numI]; omega
     ·have q2 : ((x.k : Int) == 2) = false := by simp; omega
      have HE8 := Lib.hid (end_skip HX.out (by unfold aimOf; rw [if_neg h5, if_neg (by omega)]) HM2.out)
      go_wp2_with fail
      go_roundw
      case rel => exact ⟨k + 1, c, f, by go_num, hlt, HE8, HWA⟩
      case measure => simp [numI]; omega
  ·obtain rfl : k = n := by omega
   have HE : Hid (EndsP l w (.returned (.map (some m))) wr) := by
    have h := HM.out
    rw [List.take_of_length_le (by rw [HLEN.out]; omega)] at h
    exact Lib.hid ⟨m, c, f, rfl, h, HGM.out, HB.out⟩
   go_wp2_with fail
   go_ret
   exact HE.out
end Go.Proofs.YtnekpgmgnepdoaaGreat.F
