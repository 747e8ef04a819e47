import Derived.Test.YtnekpgmgnepdoaaGreatXax
namespace Go.Proofs.YtnekpgmgnepdoaaGreat.F
open Go.Proofs.YtnekpgmgnepdoaaGreat Go.Proofs.YtnekpgmgnepdoaaGreat.Fold
open Go.RowKit Go.Maps Fold
theorem exec_bldAim {ev : Operand → Value} {q : Oper} {w : World} {x y z : Operand} {a : Aim} (ho : q.op = .build 192 #[(0, x), (1, y), (2, z)]) (hx : ev x = .int .u8 (a.1 : Int)) (hy : ev y = .int .u16 (a.2.1 : Int)) (hz : ev z = .int .u16 (a.2.2 : Int)) : (execOp ev q).run Tryz.prog w = .ok (.value (aimV a)) w := by
 have hm : (#[((0 : Nat), x), (1, y), (2, z)]).map (fun (i, x) => (i, ev x)) = #[(0, .int .u8 (a.1 : Int)), (1, .int .u16 (a.2.1 : Int)), (2, .int .u16 (a.2.2 : Int))] := by simp [hx, hy, hz]
 have hb : (Instr.build 192 #[(0, .int .u8 (a.1 : Int)), (1, .int .u16 (a.2.1 : Int)), (2, .int .u16 (a.2.2 : Int))]).run Tryz.prog w = .ok (aimV a) w := run_build w 192 _ _ (by kernel_rfl)
 unfold execOp
 simp only [ho, hm, Sem.run_bind, hb, Result.andThen_ok]
 rfl
structure Ee (w W' : World) (m : Nat) (l : List O) (n : Nat) (f : Lit → Option Value) (p : O) : Prop where
 op : Blk W' w.heap.size 33 p.arr
 mp : EndM W' m l n f
 old : Below w.heap.size w W'
theorem Ee.below {w W W' : World} {m n : Nat} {l : List O} {f : Lit → Option Value} {p : O} (h : Ee w W m l n f p) (hb : Below W.heap.size W W') : Ee w W' m l n f p := ⟨h.op.below hb, h.mp.below hb, h.old.trans (hb.mono h.old.size)⟩
set_option maxRecDepth 100000 in
set_option maxHeartbeats 4000000 in
theorem ended_any {w : World} {m n : Nat} {l : List O} {f : Lit → Option Value} (h : EndM w m l n f) (p : O) : Calls Tryz.prog 118 #[.agg p.arr, .map (some m)] w (Says (.bool (l.any fun o => O.endsB o p)) w) := by
 obtain ⟨e1, he1⟩ : ∃ e, endAt l (5, p.c, 0) = e := ⟨_, rfl⟩
 obtain ⟨e2, he2⟩ : ∃ e, endAt l (3, p.c, p.i) = e := ⟨_, rfl⟩
 obtain ⟨e3, he3⟩ : ∃ e, endAt l (2, p.c, p.i) = e := ⟨_, rfl⟩
 have HQ : Hid ((l.any fun o => O.endsB o p) = (O.endsB e1 p || O.endsB e2 p || O.endsB e3 p)) := Lib.hid (by rw [← ended_eq l p, he1, he2, he3])
 have HE1 := Lib.hid he1
 have HE2 := Lib.hid he2
 have HE3 := Lib.hid he3
 have HR1 : Hid (RawA (5, p.c, 0)) := Lib.hid ⟨by show 5 < 256; omega, p.hc, by show 0 < 65536; omega⟩
 have HR2 : Hid (RawA (3, p.c, p.i)) := Lib.hid ⟨by show 3 < 256; omega, p.hc, p.hi⟩
 have HR3 : Hid (RawA (2, p.c, p.i)) := Lib.hid ⟨by show 2 < 256; omega, p.hc, p.hi⟩
 have hb1 := fun (o : O) (w : World) => box33 o w
 have HT : Hid (Ee w (w.alloc (.cells p.arr 33)) m l n f p) := Lib.hid ⟨Blk.new w 33 p.arr, h.below (below_one w _), below_one w _⟩
 clear h he1 he2 he3
 go_enter Tryz.func118, Tryz.ntmps118
 go_wp2_with fail
 clear hb1
 generalize w.alloc (.cells p.arr 33) = W at HT
 cases hq1 : O.endsB e1 p
 ·have HB1 := Lib.hid hq1
  cases hq2 : O.endsB e2 p
  ·have HB2 := Lib.hid hq2
   cases hq3 : O.endsB e3 p
   ·have HB3 := Lib.hid hq3
    have HA : Hid ((l.any fun o => O.endsB o p) = false) := Lib.hid (by rw [HQ.out, hq1, hq2, hq3]; rfl)
    clear hq1 hq2 hq3 HQ
    refine wp_region_held_drew (S := fun w' => Ee w w' m l n f p) (by kernel_rfl) (HT.out.below (drew_below _)) (fun hS => ?_)
    refine held_tk 0 5 (.map (some m)) rfl rfl (by kernel_rfl) (fun _ _ _ h=>h) (fun _ _=>rfl) hS ?_;simp only [Act.put,ap1,ap2,ap3]
    refine held_tk 1 6 (.pointer (some ⟨w.heap.size,3,none⟩)) rfl rfl (by kernel_rfl) (fun _ _ _ h=>h) (fun _ _=>(by kernel_rfl)) hS ?_;simp only [Act.put,ap1,ap2,ap3]
    refine held_tk 2 7 (.int .u16 (p.c : Int)) rfl rfl (by kernel_rfl) (fun _ _ _ h=>h) (fun _ h=>exec_cell rfl rfl (load_cell (by kernel_rfl) (oc3 h.op))) hS ?_;simp only [Act.put,ap1,ap2,ap3]
    refine held_tk 3 8 (aimV (5,p.c,0)) rfl rfl (by kernel_rfl) (fun _ _ _ h=>h) (fun _ _=>exec_bldAim (a:=(5,p.c,0)) rfl rfl rfl rfl) hS ?_;simp only [Act.put,ap1,ap2,ap3]
    refine held_tk 4 9 (.agg e1.arr) rfl rfl (by kernel_rfl) (fun _ _ _ h=>h) (fun _ h=>exec_lookA rfl rfl rfl h.mp HR1.out HE1.out) hS ?_;simp only [Act.put,ap1,ap2,ap3]
    refine held_tk 5 10 (.agg p.arr) rfl rfl (by kernel_rfl) (fun _ _ _ h=>h) (fun _ h=>exec_load33 (p:=p) rfl rfl h.op) hS ?_;simp only [Act.put,ap1,ap2,ap3]
    refine held_call 6 11 87 #[(.agg e1.arr),(.agg p.arr)] (.bool false) rfl (by kernel_rfl) rfl (by kernel_rfl) (by kernel_rfl) ((ends_any e1 p _).mono fun _ _ h=>⟨h.1.trans (ret_bool HB1.out),h.2⟩) (fun _ h hb=>h.below hb) hS (fun w106 hS=>?_)
    simp only [Act.put, ap1, ap2, ap3]
    refine held_tk 7 12 (.bool false) rfl rfl (by kernel_rfl) (fun _ _ _ h=>h) (fun _ _=>rfl) hS ?_;simp only [Act.put,ap1,ap2,ap3]
    refine held_tk 8 13 (.map (some m)) rfl rfl (by kernel_rfl) (fun _ _ _ h=>h) (fun _ _=>rfl) hS ?_;simp only [Act.put,ap1,ap2,ap3]
    refine held_tk 9 14 (.pointer (some ⟨w.heap.size,3,none⟩)) rfl rfl (by kernel_rfl) (fun _ _ _ h=>h) (fun _ _=>(by kernel_rfl)) hS ?_;simp only [Act.put,ap1,ap2,ap3]
    refine held_tk 10 15 (.int .u16 (p.c : Int)) rfl rfl (by kernel_rfl) (fun _ _ _ h=>h) (fun _ h=>exec_cell rfl rfl (load_cell (by kernel_rfl) (oc3 h.op))) hS ?_;simp only [Act.put,ap1,ap2,ap3]
    refine held_tk 11 16 (.pointer (some ⟨w.heap.size,4,none⟩)) rfl rfl (by kernel_rfl) (fun _ _ _ h=>h) (fun _ _=>(by kernel_rfl)) hS ?_;simp only [Act.put,ap1,ap2,ap3]
    refine held_tk 12 17 (.int .u16 (p.i : Int)) rfl rfl (by kernel_rfl) (fun _ _ _ h=>h) (fun _ h=>exec_cell rfl rfl (load_cell (by kernel_rfl) (oc4 h.op))) hS ?_;simp only [Act.put,ap1,ap2,ap3]
    refine held_tk 13 18 (aimV (3,p.c,p.i)) rfl rfl (by kernel_rfl) (fun _ _ _ h=>h) (fun _ _=>exec_bldAim (a:=(3,p.c,p.i)) rfl rfl rfl rfl) hS ?_;simp only [Act.put,ap1,ap2,ap3]
    refine held_tk 14 19 (.agg e2.arr) rfl rfl (by kernel_rfl) (fun _ _ _ h=>h) (fun _ h=>exec_lookA rfl rfl rfl h.mp HR2.out HE2.out) hS ?_;simp only [Act.put,ap1,ap2,ap3]
    refine held_tk 15 20 (.agg p.arr) rfl rfl (by kernel_rfl) (fun _ _ _ h=>h) (fun _ h=>exec_load33 (p:=p) rfl rfl h.op) hS ?_;simp only [Act.put,ap1,ap2,ap3]
    refine held_call 16 21 87 #[(.agg e2.arr),(.agg p.arr)] (.bool false) rfl (by kernel_rfl) rfl (by kernel_rfl) (by kernel_rfl) ((ends_any e2 p _).mono fun _ _ h=>⟨h.1.trans (ret_bool HB2.out),h.2⟩) (fun _ h hb=>h.below hb) hS (fun w116 hS=>?_)
    simp only [Act.put, ap1, ap2, ap3]
    refine held_tk 17 22 (.bool false) rfl rfl (by kernel_rfl) (fun _ _ _ h=>h) (fun _ _=>rfl) hS ?_;simp only [Act.put,ap1,ap2,ap3]
    refine held_tk 18 23 (.bool false) rfl rfl (by kernel_rfl) (fun _ _ _ h=>h) (fun _ _=>rfl) hS ?_;simp only [Act.put,ap1,ap2,ap3]
    refine held_tk 19 24 (.map (some m)) rfl rfl (by kernel_rfl) (fun _ _ _ h=>h) (fun _ _=>rfl) hS ?_;simp only [Act.put,ap1,ap2,ap3]
    refine held_tk 20 25 (.pointer (some ⟨w.heap.size,3,none⟩)) rfl rfl (by kernel_rfl) (fun _ _ _ h=>h) (fun _ _=>(by kernel_rfl)) hS ?_;simp only [Act.put,ap1,ap2,ap3]
    refine held_tk 21 26 (.int .u16 (p.c : Int)) rfl rfl (by kernel_rfl) (fun _ _ _ h=>h) (fun _ h=>exec_cell rfl rfl (load_cell (by kernel_rfl) (oc3 h.op))) hS ?_;simp only [Act.put,ap1,ap2,ap3]
    refine held_tk 22 27 (.pointer (some ⟨w.heap.size,4,none⟩)) rfl rfl (by kernel_rfl) (fun _ _ _ h=>h) (fun _ _=>(by kernel_rfl)) hS ?_;simp only [Act.put,ap1,ap2,ap3]
    refine held_tk 23 28 (.int .u16 (p.i : Int)) rfl rfl (by kernel_rfl) (fun _ _ _ h=>h) (fun _ h=>exec_cell rfl rfl (load_cell (by kernel_rfl) (oc4 h.op))) hS ?_;simp only [Act.put,ap1,ap2,ap3]
    refine held_tk 24 29 (aimV (2,p.c,p.i)) rfl rfl (by kernel_rfl) (fun _ _ _ h=>h) (fun _ _=>exec_bldAim (a:=(2,p.c,p.i)) rfl rfl rfl rfl) hS ?_;simp only [Act.put,ap1,ap2,ap3]
    refine held_tk 25 30 (.agg e3.arr) rfl rfl (by kernel_rfl) (fun _ _ _ h=>h) (fun _ h=>exec_lookA rfl rfl rfl h.mp HR3.out HE3.out) hS ?_;simp only [Act.put,ap1,ap2,ap3]
    refine held_tk 26 31 (.agg p.arr) rfl rfl (by kernel_rfl) (fun _ _ _ h=>h) (fun _ h=>exec_load33 (p:=p) rfl rfl h.op) hS ?_;simp only [Act.put,ap1,ap2,ap3]
    refine held_call 27 32 87 #[(.agg e3.arr),(.agg p.arr)] (.bool false) rfl (by kernel_rfl) rfl (by kernel_rfl) (by kernel_rfl) ((ends_any e3 p _).mono fun _ _ h=>⟨h.1.trans (ret_bool HB3.out),h.2⟩) (fun _ h hb=>h.below hb) hS (fun w127 hS=>?_)
    simp only [Act.put, ap1, ap2, ap3]
    refine held_tk 28 33 (.bool false) rfl rfl (by kernel_rfl) (fun _ _ _ h=>h) (fun _ _=>rfl) hS ?_;simp only [Act.put,ap1,ap2,ap3]
    refine held_tk 29 4 (.bool false) rfl rfl (by kernel_rfl) (fun _ _ _ h=>h) (fun _ _=>rfl) hS ?_;simp only [Act.put,ap1,ap2,ap3]
    refine wpAnyH_done (by kernel_rfl) ?_ _
    go_wp2_with fail
    go_ret
    exact ⟨ret_bool HA.out.symm, hS.old⟩
   ·have HB3 := Lib.hid hq3
    have HA : Hid ((l.any fun o => O.endsB o p) = true) := Lib.hid (by rw [HQ.out, hq1, hq2, hq3]; rfl)
    clear hq1 hq2 hq3 HQ
    refine wp_region_held_drew (S := fun w' => Ee w w' m l n f p) (by kernel_rfl) (HT.out.below (drew_below _)) (fun hS => ?_)
    refine held_tk 0 5 (.map (some m)) rfl rfl (by kernel_rfl) (fun _ _ _ h=>h) (fun _ _=>rfl) hS ?_;simp only [Act.put,ap1,ap2,ap3]
    refine held_tk 1 6 (.pointer (some ⟨w.heap.size,3,none⟩)) rfl rfl (by kernel_rfl) (fun _ _ _ h=>h) (fun _ _=>(by kernel_rfl)) hS ?_;simp only [Act.put,ap1,ap2,ap3]
    refine held_tk 2 7 (.int .u16 (p.c : Int)) rfl rfl (by kernel_rfl) (fun _ _ _ h=>h) (fun _ h=>exec_cell rfl rfl (load_cell (by kernel_rfl) (oc3 h.op))) hS ?_;simp only [Act.put,ap1,ap2,ap3]
    refine held_tk 3 8 (aimV (5,p.c,0)) rfl rfl (by kernel_rfl) (fun _ _ _ h=>h) (fun _ _=>exec_bldAim (a:=(5,p.c,0)) rfl rfl rfl rfl) hS ?_;simp only [Act.put,ap1,ap2,ap3]
    refine held_tk 4 9 (.agg e1.arr) rfl rfl (by kernel_rfl) (fun _ _ _ h=>h) (fun _ h=>exec_lookA rfl rfl rfl h.mp HR1.out HE1.out) hS ?_;simp only [Act.put,ap1,ap2,ap3]
    refine held_tk 5 10 (.agg p.arr) rfl rfl (by kernel_rfl) (fun _ _ _ h=>h) (fun _ h=>exec_load33 (p:=p) rfl rfl h.op) hS ?_;simp only [Act.put,ap1,ap2,ap3]
    refine held_call 6 11 87 #[(.agg e1.arr),(.agg p.arr)] (.bool false) rfl (by kernel_rfl) rfl (by kernel_rfl) (by kernel_rfl) ((ends_any e1 p _).mono fun _ _ h=>⟨h.1.trans (ret_bool HB1.out),h.2⟩) (fun _ h hb=>h.below hb) hS (fun w106 hS=>?_)
    simp only [Act.put, ap1, ap2, ap3]
    refine held_tk 7 12 (.bool false) rfl rfl (by kernel_rfl) (fun _ _ _ h=>h) (fun _ _=>rfl) hS ?_;simp only [Act.put,ap1,ap2,ap3]
    refine held_tk 8 13 (.map (some m)) rfl rfl (by kernel_rfl) (fun _ _ _ h=>h) (fun _ _=>rfl) hS ?_;simp only [Act.put,ap1,ap2,ap3]
    refine held_tk 9 14 (.pointer (some ⟨w.heap.size,3,none⟩)) rfl rfl (by kernel_rfl) (fun _ _ _ h=>h) (fun _ _=>(by kernel_rfl)) hS ?_;simp only [Act.put,ap1,ap2,ap3]
    refine held_tk 10 15 (.int .u16 (p.c : Int)) rfl rfl (by kernel_rfl) (fun _ _ _ h=>h) (fun _ h=>exec_cell rfl rfl (load_cell (by kernel_rfl) (oc3 h.op))) hS ?_;simp only [Act.put,ap1,ap2,ap3]
    refine held_tk 11 16 (.pointer (some ⟨w.heap.size,4,none⟩)) rfl rfl (by kernel_rfl) (fun _ _ _ h=>h) (fun _ _=>(by kernel_rfl)) hS ?_;simp only [Act.put,ap1,ap2,ap3]
    refine held_tk 12 17 (.int .u16 (p.i : Int)) rfl rfl (by kernel_rfl) (fun _ _ _ h=>h) (fun _ h=>exec_cell rfl rfl (load_cell (by kernel_rfl) (oc4 h.op))) hS ?_;simp only [Act.put,ap1,ap2,ap3]
    refine held_tk 13 18 (aimV (3,p.c,p.i)) rfl rfl (by kernel_rfl) (fun _ _ _ h=>h) (fun _ _=>exec_bldAim (a:=(3,p.c,p.i)) rfl rfl rfl rfl) hS ?_;simp only [Act.put,ap1,ap2,ap3]
    refine held_tk 14 19 (.agg e2.arr) rfl rfl (by kernel_rfl) (fun _ _ _ h=>h) (fun _ h=>exec_lookA rfl rfl rfl h.mp HR2.out HE2.out) hS ?_;simp only [Act.put,ap1,ap2,ap3]
    refine held_tk 15 20 (.agg p.arr) rfl rfl (by kernel_rfl) (fun _ _ _ h=>h) (fun _ h=>exec_load33 (p:=p) rfl rfl h.op) hS ?_;simp only [Act.put,ap1,ap2,ap3]
    refine held_call 16 21 87 #[(.agg e2.arr),(.agg p.arr)] (.bool false) rfl (by kernel_rfl) rfl (by kernel_rfl) (by kernel_rfl) ((ends_any e2 p _).mono fun _ _ h=>⟨h.1.trans (ret_bool HB2.out),h.2⟩) (fun _ h hb=>h.below hb) hS (fun w116 hS=>?_)
    simp only [Act.put, ap1, ap2, ap3]
    refine held_tk 17 22 (.bool false) rfl rfl (by kernel_rfl) (fun _ _ _ h=>h) (fun _ _=>rfl) hS ?_;simp only [Act.put,ap1,ap2,ap3]
    refine held_tk 18 23 (.bool false) rfl rfl (by kernel_rfl) (fun _ _ _ h=>h) (fun _ _=>rfl) hS ?_;simp only [Act.put,ap1,ap2,ap3]
    refine held_tk 19 24 (.map (some m)) rfl rfl (by kernel_rfl) (fun _ _ _ h=>h) (fun _ _=>rfl) hS ?_;simp only [Act.put,ap1,ap2,ap3]
    refine held_tk 20 25 (.pointer (some ⟨w.heap.size,3,none⟩)) rfl rfl (by kernel_rfl) (fun _ _ _ h=>h) (fun _ _=>(by kernel_rfl)) hS ?_;simp only [Act.put,ap1,ap2,ap3]
    refine held_tk 21 26 (.int .u16 (p.c : Int)) rfl rfl (by kernel_rfl) (fun _ _ _ h=>h) (fun _ h=>exec_cell rfl rfl (load_cell (by kernel_rfl) (oc3 h.op))) hS ?_;simp only [Act.put,ap1,ap2,ap3]
    refine held_tk 22 27 (.pointer (some ⟨w.heap.size,4,none⟩)) rfl rfl (by kernel_rfl) (fun _ _ _ h=>h) (fun _ _=>(by kernel_rfl)) hS ?_;simp only [Act.put,ap1,ap2,ap3]
    refine held_tk 23 28 (.int .u16 (p.i : Int)) rfl rfl (by kernel_rfl) (fun _ _ _ h=>h) (fun _ h=>exec_cell rfl rfl (load_cell (by kernel_rfl) (oc4 h.op))) hS ?_;simp only [Act.put,ap1,ap2,ap3]
    refine held_tk 24 29 (aimV (2,p.c,p.i)) rfl rfl (by kernel_rfl) (fun _ _ _ h=>h) (fun _ _=>exec_bldAim (a:=(2,p.c,p.i)) rfl rfl rfl rfl) hS ?_;simp only [Act.put,ap1,ap2,ap3]
    refine held_tk 25 30 (.agg e3.arr) rfl rfl (by kernel_rfl) (fun _ _ _ h=>h) (fun _ h=>exec_lookA rfl rfl rfl h.mp HR3.out HE3.out) hS ?_;simp only [Act.put,ap1,ap2,ap3]
    refine held_tk 26 31 (.agg p.arr) rfl rfl (by kernel_rfl) (fun _ _ _ h=>h) (fun _ h=>exec_load33 (p:=p) rfl rfl h.op) hS ?_;simp only [Act.put,ap1,ap2,ap3]
    refine held_call 27 32 87 #[(.agg e3.arr),(.agg p.arr)] (.bool true) rfl (by kernel_rfl) rfl (by kernel_rfl) (by kernel_rfl) ((ends_any e3 p _).mono fun _ _ h=>⟨h.1.trans (ret_bool HB3.out),h.2⟩) (fun _ h hb=>h.below hb) hS (fun w127 hS=>?_)
    simp only [Act.put, ap1, ap2, ap3]
    refine held_tk 28 33 (.bool true) rfl rfl (by kernel_rfl) (fun _ _ _ h=>h) (fun _ _=>rfl) hS ?_;simp only [Act.put,ap1,ap2,ap3]
    refine held_tk 29 4 (.bool true) rfl rfl (by kernel_rfl) (fun _ _ _ h=>h) (fun _ _=>rfl) hS ?_;simp only [Act.put,ap1,ap2,ap3]
    refine wpAnyH_done (by kernel_rfl) ?_ _
    go_wp2_with fail
    go_ret
    exact ⟨ret_bool HA.out.symm, hS.old⟩
  ·have HB2 := Lib.hid hq2
   have HA : Hid ((l.any fun o => O.endsB o p) = true) := Lib.hid (by rw [HQ.out, hq1, hq2]; rfl)
   clear hq1 hq2 HQ
   refine wp_region_held_drew (S := fun w' => Ee w w' m l n f p) (by kernel_rfl) (HT.out.below (drew_below _)) (fun hS => ?_)
   refine held_tk 0 5 (.map (some m)) rfl rfl (by kernel_rfl) (fun _ _ _ h=>h) (fun _ _=>rfl) hS ?_;simp only [Act.put,ap1,ap2,ap3]
   refine held_tk 1 6 (.pointer (some ⟨w.heap.size,3,none⟩)) rfl rfl (by kernel_rfl) (fun _ _ _ h=>h) (fun _ _=>(by kernel_rfl)) hS ?_;simp only [Act.put,ap1,ap2,ap3]
   refine held_tk 2 7 (.int .u16 (p.c : Int)) rfl rfl (by kernel_rfl) (fun _ _ _ h=>h) (fun _ h=>exec_cell rfl rfl (load_cell (by kernel_rfl) (oc3 h.op))) hS ?_;simp only [Act.put,ap1,ap2,ap3]
   refine held_tk 3 8 (aimV (5,p.c,0)) rfl rfl (by kernel_rfl) (fun _ _ _ h=>h) (fun _ _=>exec_bldAim (a:=(5,p.c,0)) rfl rfl rfl rfl) hS ?_;simp only [Act.put,ap1,ap2,ap3]
   refine held_tk 4 9 (.agg e1.arr) rfl rfl (by kernel_rfl) (fun _ _ _ h=>h) (fun _ h=>exec_lookA rfl rfl rfl h.mp HR1.out HE1.out) hS ?_;simp only [Act.put,ap1,ap2,ap3]
   refine held_tk 5 10 (.agg p.arr) rfl rfl (by kernel_rfl) (fun _ _ _ h=>h) (fun _ h=>exec_load33 (p:=p) rfl rfl h.op) hS ?_;simp only [Act.put,ap1,ap2,ap3]
   refine held_call 6 11 87 #[(.agg e1.arr),(.agg p.arr)] (.bool false) rfl (by kernel_rfl) rfl (by kernel_rfl) (by kernel_rfl) ((ends_any e1 p _).mono fun _ _ h=>⟨h.1.trans (ret_bool HB1.out),h.2⟩) (fun _ h hb=>h.below hb) hS (fun w106 hS=>?_)
   simp only [Act.put, ap1, ap2, ap3]
   refine held_tk 7 12 (.bool false) rfl rfl (by kernel_rfl) (fun _ _ _ h=>h) (fun _ _=>rfl) hS ?_;simp only [Act.put,ap1,ap2,ap3]
   refine held_tk 8 13 (.map (some m)) rfl rfl (by kernel_rfl) (fun _ _ _ h=>h) (fun _ _=>rfl) hS ?_;simp only [Act.put,ap1,ap2,ap3]
   refine held_tk 9 14 (.pointer (some ⟨w.heap.size,3,none⟩)) rfl rfl (by kernel_rfl) (fun _ _ _ h=>h) (fun _ _=>(by kernel_rfl)) hS ?_;simp only [Act.put,ap1,ap2,ap3]
   refine held_tk 10 15 (.int .u16 (p.c : Int)) rfl rfl (by kernel_rfl) (fun _ _ _ h=>h) (fun _ h=>exec_cell rfl rfl (load_cell (by kernel_rfl) (oc3 h.op))) hS ?_;simp only [Act.put,ap1,ap2,ap3]
   refine held_tk 11 16 (.pointer (some ⟨w.heap.size,4,none⟩)) rfl rfl (by kernel_rfl) (fun _ _ _ h=>h) (fun _ _=>(by kernel_rfl)) hS ?_;simp only [Act.put,ap1,ap2,ap3]
   refine held_tk 12 17 (.int .u16 (p.i : Int)) rfl rfl (by kernel_rfl) (fun _ _ _ h=>h) (fun _ h=>exec_cell rfl rfl (load_cell (by kernel_rfl) (oc4 h.op))) hS ?_;simp only [Act.put,ap1,ap2,ap3]
   refine held_tk 13 18 (aimV (3,p.c,p.i)) rfl rfl (by kernel_rfl) (fun _ _ _ h=>h) (fun _ _=>exec_bldAim (a:=(3,p.c,p.i)) rfl rfl rfl rfl) hS ?_;simp only [Act.put,ap1,ap2,ap3]
   refine held_tk 14 19 (.agg e2.arr) rfl rfl (by kernel_rfl) (fun _ _ _ h=>h) (fun _ h=>exec_lookA rfl rfl rfl h.mp HR2.out HE2.out) hS ?_;simp only [Act.put,ap1,ap2,ap3]
   refine held_tk 15 20 (.agg p.arr) rfl rfl (by kernel_rfl) (fun _ _ _ h=>h) (fun _ h=>exec_load33 (p:=p) rfl rfl h.op) hS ?_;simp only [Act.put,ap1,ap2,ap3]
   refine held_call 16 21 87 #[(.agg e2.arr),(.agg p.arr)] (.bool true) rfl (by kernel_rfl) rfl (by kernel_rfl) (by kernel_rfl) ((ends_any e2 p _).mono fun _ _ h=>⟨h.1.trans (ret_bool HB2.out),h.2⟩) (fun _ h hb=>h.below hb) hS (fun w116 hS=>?_)
   simp only [Act.put, ap1, ap2, ap3]
   refine held_tk 17 22 (.bool true) rfl rfl (by kernel_rfl) (fun _ _ _ h=>h) (fun _ _=>rfl) hS ?_;simp only [Act.put,ap1,ap2,ap3]
   refine held_tk 18 23 (.bool true) rfl rfl (by kernel_rfl) (fun _ _ _ h=>h) (fun _ _=>rfl) hS ?_;simp only [Act.put,ap1,ap2,ap3]
   refine held_sk 19 24 rfl rfl (by kernel_rfl) (fun _ _ _ h=>h) hS ?_;simp only [Act.put,ap1,ap2,ap3]
   refine held_sk 20 25 rfl rfl (by kernel_rfl) (fun _ _ _ h=>h) hS ?_;simp only [Act.put,ap1,ap2,ap3]
   refine held_sk 21 26 rfl rfl (by kernel_rfl) (fun _ _ _ h=>h) hS ?_;simp only [Act.put,ap1,ap2,ap3]
   refine held_sk 22 27 rfl rfl (by kernel_rfl) (fun _ _ _ h=>h) hS ?_;simp only [Act.put,ap1,ap2,ap3]
   refine held_sk 23 28 rfl rfl (by kernel_rfl) (fun _ _ _ h=>h) hS ?_;simp only [Act.put,ap1,ap2,ap3]
   refine held_sk 24 29 rfl rfl (by kernel_rfl) (fun _ _ _ h=>h) hS ?_;simp only [Act.put,ap1,ap2,ap3]
   refine held_sk 25 30 rfl rfl (by kernel_rfl) (fun _ _ _ h=>h) hS ?_;simp only [Act.put,ap1,ap2,ap3]
   refine held_sk 26 31 rfl rfl (by kernel_rfl) (fun _ _ _ h=>h) hS ?_;simp only [Act.put,ap1,ap2,ap3]
   refine held_sk 27 32 rfl rfl (by kernel_rfl) (fun _ _ _ h=>h) hS ?_;simp only [Act.put,ap1,ap2,ap3]
   refine held_tk 28 33 (.bool true) rfl rfl (by kernel_rfl) (fun _ _ _ h=>h) (fun _ _=>rfl) hS ?_;simp only [Act.put,ap1,ap2,ap3]
   refine held_tk 29 4 (.bool true) rfl rfl (by kernel_rfl) (fun _ _ _ h=>h) (fun _ _=>rfl) hS ?_;simp only [Act.put,ap1,ap2,ap3]
   refine wpAnyH_done (by kernel_rfl) ?_ _
   go_wp2_with fail
   go_ret
   exact ⟨ret_bool HA.out.symm, hS.old⟩
 ·have HB1 := Lib.hid hq1
  have HA : Hid ((l.any fun o => O.endsB o p) = true) := Lib.hid (by rw [HQ.out, hq1]; rfl)
  clear hq1 HQ
  refine wp_region_held_drew (S := fun w' => Ee w w' m l n f p) (by kernel_rfl) (HT.out.below (drew_below _)) (fun hS => ?_)
  refine held_tk 0 5 (.map (some m)) rfl rfl (by kernel_rfl) (fun _ _ _ h=>h) (fun _ _=>rfl) hS ?_;simp only [Act.put,ap1,ap2,ap3]
  refine held_tk 1 6 (.pointer (some ⟨w.heap.size,3,none⟩)) rfl rfl (by kernel_rfl) (fun _ _ _ h=>h) (fun _ _=>(by kernel_rfl)) hS ?_;simp only [Act.put,ap1,ap2,ap3]
  refine held_tk 2 7 (.int .u16 (p.c : Int)) rfl rfl (by kernel_rfl) (fun _ _ _ h=>h) (fun _ h=>exec_cell rfl rfl (load_cell (by kernel_rfl) (oc3 h.op))) hS ?_;simp only [Act.put,ap1,ap2,ap3]
  refine held_tk 3 8 (aimV (5,p.c,0)) rfl rfl (by kernel_rfl) (fun _ _ _ h=>h) (fun _ _=>exec_bldAim (a:=(5,p.c,0)) rfl rfl rfl rfl) hS ?_;simp only [Act.put,ap1,ap2,ap3]
  refine held_tk 4 9 (.agg e1.arr) rfl rfl (by kernel_rfl) (fun _ _ _ h=>h) (fun _ h=>exec_lookA rfl rfl rfl h.mp HR1.out HE1.out) hS ?_;simp only [Act.put,ap1,ap2,ap3]
  refine held_tk 5 10 (.agg p.arr) rfl rfl (by kernel_rfl) (fun _ _ _ h=>h) (fun _ h=>exec_load33 (p:=p) rfl rfl h.op) hS ?_;simp only [Act.put,ap1,ap2,ap3]
  refine held_call 6 11 87 #[(.agg e1.arr),(.agg p.arr)] (.bool true) rfl (by kernel_rfl) rfl (by kernel_rfl) (by kernel_rfl) ((ends_any e1 p _).mono fun _ _ h=>⟨h.1.trans (ret_bool HB1.out),h.2⟩) (fun _ h hb=>h.below hb) hS (fun w106 hS=>?_)
  simp only [Act.put, ap1, ap2, ap3]
  refine held_tk 7 12 (.bool true) rfl rfl (by kernel_rfl) (fun _ _ _ h=>h) (fun _ _=>rfl) hS ?_;simp only [Act.put,ap1,ap2,ap3]
  refine held_sk 8 13 rfl rfl (by kernel_rfl) (fun _ _ _ h=>h) hS ?_;simp only [Act.put,ap1,ap2,ap3]
  refine held_sk 9 14 rfl rfl (by kernel_rfl) (fun _ _ _ h=>h) hS ?_;simp only [Act.put,ap1,ap2,ap3]
  refine held_sk 10 15 rfl rfl (by kernel_rfl) (fun _ _ _ h=>h) hS ?_;simp only [Act.put,ap1,ap2,ap3]
  refine held_sk 11 16 rfl rfl (by kernel_rfl) (fun _ _ _ h=>h) hS ?_;simp only [Act.put,ap1,ap2,ap3]
  refine held_sk 12 17 rfl rfl (by kernel_rfl) (fun _ _ _ h=>h) hS ?_;simp only [Act.put,ap1,ap2,ap3]
  refine held_sk 13 18 rfl rfl (by kernel_rfl) (fun _ _ _ h=>h) hS ?_;simp only [Act.put,ap1,ap2,ap3]
  refine held_sk 14 19 rfl rfl (by kernel_rfl) (fun _ _ _ h=>h) hS ?_;simp only [Act.put,ap1,ap2,ap3]
  refine held_sk 15 20 rfl rfl (by kernel_rfl) (fun _ _ _ h=>h) hS ?_;simp only [Act.put,ap1,ap2,ap3]
  refine held_sk 16 21 rfl rfl (by kernel_rfl) (fun _ _ _ h=>h) hS ?_;simp only [Act.put,ap1,ap2,ap3]
  refine held_tk 17 22 (.bool true) rfl rfl (by kernel_rfl) (fun _ _ _ h=>h) (fun _ _=>rfl) hS ?_;simp only [Act.put,ap1,ap2,ap3]
  refine held_tk 18 23 (.bool true) rfl rfl (by kernel_rfl) (fun _ _ _ h=>h) (fun _ _=>rfl) hS ?_;simp only [Act.put,ap1,ap2,ap3]
  refine held_sk 19 24 rfl rfl (by kernel_rfl) (fun _ _ _ h=>h) hS ?_;simp only [Act.put,ap1,ap2,ap3]
  refine held_sk 20 25 rfl rfl (by kernel_rfl) (fun _ _ _ h=>h) hS ?_;simp only [Act.put,ap1,ap2,ap3]
  refine held_sk 21 26 rfl rfl (by kernel_rfl) (fun _ _ _ h=>h) hS ?_;simp only [Act.put,ap1,ap2,ap3]
  refine held_sk 22 27 rfl rfl (by kernel_rfl) (fun _ _ _ h=>h) hS ?_;simp only [Act.put,ap1,ap2,ap3]
  refine held_sk 23 28 rfl rfl (by kernel_rfl) (fun _ _ _ h=>h) hS ?_;simp only [Act.put,ap1,ap2,ap3]
  refine held_sk 24 29 rfl rfl (by kernel_rfl) (fun _ _ _ h=>h) hS ?_;simp only [Act.put,ap1,ap2,ap3]
  refine held_sk 25 30 rfl rfl (by kernel_rfl) (fun _ _ _ h=>h) hS ?_;simp only [Act.put,ap1,ap2,ap3]
  refine held_sk 26 31 rfl rfl (by kernel_rfl) (fun _ _ _ h=>h) hS ?_;simp only [Act.put,ap1,ap2,ap3]
  refine held_sk 27 32 rfl rfl (by kernel_rfl) (fun _ _ _ h=>h) hS ?_;simp only [Act.put,ap1,ap2,ap3]
  refine held_tk 28 33 (.bool true) rfl rfl (by kernel_rfl) (fun _ _ _ h=>h) (fun _ _=>rfl) hS ?_;simp only [Act.put,ap1,ap2,ap3]
  refine held_tk 29 4 (.bool true) rfl rfl (by kernel_rfl) (fun _ _ _ h=>h) (fun _ _=>rfl) hS ?_;simp only [Act.put,ap1,ap2,ap3]
  refine wpAnyH_done (by kernel_rfl) ?_ _
  go_wp2_with fail
  go_ret
  exact ⟨ret_bool HA.out.symm, hS.old⟩
end Go.Proofs.YtnekpgmgnepdoaaGreat.F
