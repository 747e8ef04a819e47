import Derived.Test.YtnekpgmgnepdoaaGreatXad
section
namespace Go.Proofs.YtnekpgmgnepdoaaGreat
open Go.RowKit
theorem rsum_any (v : V) (w : World) : Calls Tryz.prog 31 #[.agg v.arr] w (Says (.int .u64 (V.sum v : Int)) w) := by
 have hb1 := fun (v : V) (w : World) => box24 v w
 go_enter Tryz.func31, Tryz.ntmps31
 go_wp2_with fail
 clear hb1
 have HO := Lib.hid (below_one w (.cells v.arr 24))
 have HV := Lib.hid (Blk.new w 24 v.arr)
 generalize w.alloc (.cells v.arr 24) = W at HO HV
 go_loop [3, 4] (fun s i => ∃ k m : Nat, k ≤ 16 ∧ i = .int .i64 (k : Int) ∧ s = .int .u64 (m : Int) ∧ m ≤ k * 4294967295 ∧ Hid (V.sumTo v k = m)) (fun _ i => 16 - (intOf i).toNat)
 case atStart => exact ⟨0, 0, by omega, rfl, rfl, by omega, Lib.hid rfl⟩
 case round =>
  obtain ⟨k, m, hk, rfl, rfl, hm, HR⟩ := hrel
  by_cases hlt : k < 16
  ·have c1 : W.cell? ⟨w.heap.size, k, none⟩ = some (.int .u32 (v.at_ k : Int)) := by rw [HV.out.cell, V.arr_at _ hlt]
   have l1 := v.lt k
   have HR2 : Hid (V.sumTo v (k + 1) = m + v.at_ k) := Lib.hid (by rw [V.sumTo, HR.out])
   generalize v.at_ k = x at c1 l1 HR2
   go_wp2_with fail
   go_round
   case rel => exact ⟨k + 1, m + x, by omega, by go_num, by go_num, by omega, HR2⟩
   case measure => simp [intOf]; omega
  ·obtain rfl : k = 16 := by omega
   go_wp2_with fail
   go_ret
   exact ⟨ret_int (by rw [V.sum, HR.out]), HO.out⟩
end Go.Proofs.YtnekpgmgnepdoaaGreat
end
section
namespace Go.Proofs.YtnekpgmgnepdoaaGreat
open Go.RowKit
section
variable {ev : Operand → Value} {q : Oper} {w : World}
theorem box55 (c : Nat) (a : Option Addr) (n cap : Nat) (o : Bool) (t : Nat) (w : World) : (Instr.box 55 (.agg (vw c a n cap o t))).run Tryz.prog w = .ok (.pointer (some ⟨w.heap.size, 0, none⟩)) (w.alloc (.cells (vw c a n cap o t) 55)) := by
 simp [Instr.box, newVar, newRow, Value.cells, go_sem]
end
structure Sm (w W : World) (g1 g2 c : Nat) (a1 a2 : Option Addr) (n cap1 cap2 : Nat) (o : Bool) (t : Nat) (ls : List (Nat × Nat)) : Prop where
 one : Blk W g1 55 (vw c a1 n cap1 o t)
 two : Blk W g2 55 (vw c a2 n cap2 o t)
 gl1 : GL W 2 a1 n (ls.map ln)
 gl2 : GL W 2 a2 n (ls.map ln)
 old : Below w.heap.size w W
theorem Sm.below {w W W' : World} {g1 g2 c n cap1 cap2 t : Nat} {a1 a2 : Option Addr} {o : Bool} {ls : List (Nat × Nat)} (h : Sm w W g1 g2 c a1 a2 n cap1 cap2 o t ls) (hb : Below W.heap.size W W') : Sm w W' g1 g2 c a1 a2 n cap1 cap2 o t ls :=
 ⟨h.one.below hb, h.two.below hb, h.gl1.below hb, h.gl2.below hb, h.old.trans (hb.mono h.old.size)⟩
structure Sr2 (W : World) (g1 g2 c b1 b2 o1 o2 n cap1 cap2 j i q : Nat) (o : Bool) (t : Nat) : Prop where
 one : Blk W g1 55 (vw c (some ⟨b1, o1, none⟩) n cap1 o t)
 two : Blk W g2 55 (vw c (some ⟨b2, o2, none⟩) n cap2 o t)
 r1 : W.rangeAt b1 (o1 + j * 2) (ln (i, q))
 r2 : W.rangeAt b2 (o2 + j * 2) (ln (i, q))
theorem vc1 {w : World} {g c : Nat} {a : Option Addr} {n cap : Nat} {o : Bool} {t : Nat} (h : Blk w g 55 (vw c a n cap o t)) : w.cell? ⟨g, 1, none⟩ = some (.slice a n cap) := by rw [h.cell]; rfl
def SmR (w : World) (g1 g2 c : Nat) (a1 a2 : Option Addr) (n cap1 cap2 : Nat) (o : Bool) (t : Nat) (ls : List (Nat × Nat)) (u : Value) (W : World) : Prop :=
 ∃ j : Nat, u = .int .i64 (j : Int) ∧ j ≤ n ∧ Hid (Sm w W g1 g2 c a1 a2 n cap1 cap2 o t ls)
set_option maxRecDepth 100000 in
set_option maxHeartbeats 2000000 in
theorem vsame_any (c : Nat) (a1 a2 : Option Addr) (n cap1 cap2 : Nat) (o : Bool) (t : Nat) (ls : List (Nat × Nat)) (w : World) (hn : n < 1000000) (h1 : GL w 2 a1 n (ls.map ln)) (h2 : GL w 2 a2 n (ls.map ln)) : Calls Tryz.prog 23 #[.agg (vw c a1 n cap1 o t), .agg (vw c a2 n cap2 o t)] w (Says (.bool true) w) := by
 have hb1 := fun (a : Option Addr) (cap : Nat) (w : World) => box55 c a n cap o t w
 have HS0 : Hid (Sm w ((w.alloc (.cells (vw c a1 n cap1 o t) 55)).alloc (.cells (vw c a2 n cap2 o t) 55)) w.heap.size (w.heap.size + 1) c a1 a2 n cap1 cap2 o t ls) := Lib.hid ⟨(Blk.new w 55 _).below (below_one _ _), by
  have h := Blk.new (w.alloc (.cells (vw c a1 n cap1 o t) 55)) 55 (vw c a2 n cap2 o t)
  rw [World.size_alloc] at h
  exact h, h1.below (below_two' _ _ _), h2.below (below_two' _ _ _), below_two' _ _ _⟩
 clear h1 h2
 go_enter Tryz.func23, Tryz.ntmps23
 go_upto_region 1 with fail
 clear hb1
 generalize (w.alloc (.cells (vw c a1 n cap1 o t) 55)).alloc (.cells (vw c a2 n cap2 o t) 55) = w0 at HS0
 obtain ⟨g2, hg2⟩ : ∃ g, w.heap.size + 1 = g := ⟨_, rfl⟩
 obtain ⟨g1, hg1⟩ : ∃ g, w.heap.size = g := ⟨_, rfl⟩
 rw [hg2, hg1] at HS0
 rw [hg2, hg1]
 clear hg1 hg2
 have c10 : w0.cell? ⟨g1, 0, none⟩ = some (.int .u16 (c : Int)) := by rw [HS0.out.one.cell]; rfl
 have c11 := vc1 HS0.out.one
 have c12 : w0.cell? ⟨g1, 2, none⟩ = some (.bool o) := by rw [HS0.out.one.cell]; rfl
 have c13 : w0.cell? ⟨g1, 3, none⟩ = some (.int .u32 (t : Int)) := by rw [HS0.out.one.cell]; rfl
 have c20 : w0.cell? ⟨g2, 0, none⟩ = some (.int .u16 (c : Int)) := by rw [HS0.out.two.cell]; rfl
 have c21 := vc1 HS0.out.two
 have c22 : w0.cell? ⟨g2, 2, none⟩ = some (.bool o) := by rw [HS0.out.two.cell]; rfl
 have c23 : w0.cell? ⟨g2, 3, none⟩ = some (.int .u32 (t : Int)) := by rw [HS0.out.two.cell]; rfl
 go_wp2_with fail
 clear c10 c11 c12 c13 c20 c21 c22 c23
 go_loopw [5] (SmR w g1 g2 c a1 a2 n cap1 cap2 o t ls) (fun u _ => n - (numI u).toNat)
 case atStart => exact ⟨0, rfl, Nat.zero_le _, HS0⟩
 case round =>
  obtain ⟨j, rfl, hj, HS⟩ := hrel
  clear HS0
  have c11 := vc1 HS.out.one
  by_cases hlt : j < n
  ·have hlen : ls.length = n := by simpa using HS.out.gl1.len
   obtain ⟨⟨i, q⟩, hiq⟩ : ∃ x, ls[j]? = some x := ⟨_, List.getElem?_eq_getElem (by omega)⟩
   obtain ⟨b1, o1, e1, r1⟩ : ∃ b off, a1 = some ⟨b, off, none⟩ ∧ wr.rangeAt b (off + j * 2) (ln (i, q)) := by
    rcases HS.out.gl1.cells with h0 | ⟨b, off, ha, hc⟩
    ·omega
    ·exact ⟨b, off, ha, hc j _ (by simp [hiq])⟩
   obtain ⟨b2, o2, e2, r2⟩ : ∃ b off, a2 = some ⟨b, off, none⟩ ∧ wr.rangeAt b (off + j * 2) (ln (i, q)) := by
    rcases HS.out.gl2.cells with h0 | ⟨b, off, ha, hc⟩
    ·omega
    ·exact ⟨b, off, ha, hc j _ (by simp [hiq])⟩
   subst e1 e2
   have HR : Hid (Sr2 wr g1 g2 c b1 b2 o1 o2 n cap1 cap2 j i q o t) := Lib.hid ⟨HS.out.one, HS.out.two, r1, r2⟩
   clear hiq r1 r2 hlen
   go_upto_region 6 with fail
   clear c11
   refine wp_region_held_drew (S := fun w' => Sr2 w' g1 g2 c b1 b2 o1 o2 n cap1 cap2 j i q o t) (by kernel_rfl) ⟨HR.out.one, HR.out.two, HR.out.r1, HR.out.r2⟩ (fun hS => ?_)
   refine held_tk 0 41 (.pointer (some ⟨g1, 1, none⟩)) rfl rfl (by kernel_rfl) (fun _ _ _ h => h) (fun _ _ => (by kernel_rfl)) hS ?_
   simp only [Act.put, ap1, ap2, ap3]
   refine held_tk 1 42 (.slice (some ⟨b1, o1, none⟩) n cap1) rfl rfl (by kernel_rfl) (fun _ _ _ h => h) (fun _ h => exec_cell rfl rfl (load_cell (by kernel_rfl) (vc1 h.one))) hS ?_
   simp only [Act.put, ap1, ap2, ap3]
   refine held_tk 2 43 (.int .i64 (j : Int)) rfl rfl (by kernel_rfl) (fun _ _ _ h => h) (fun _ _ => rfl) hS ?_
   simp only [Act.put, ap1, ap2, ap3]
   refine held_tk 3 44 (.pointer (some ⟨b1, o1 + j * 2, none⟩)) rfl rfl (by kernel_rfl) (fun _ _ _ h => h) (fun _ _ => exec_idxL (i := j) rfl rfl rfl rfl hlt) hS ?_
   simp only [Act.put, ap1, ap2, ap3]
   refine held_tk 4 45 (.agg #[.int .u16 (i : Int), .int .u32 (q : Int)]) rfl rfl (by kernel_rfl) (fun _ _ _ h => h) (fun _ h => exec_ld86 rfl rfl h.r1) hS ?_
   simp only [Act.put, ap1, ap2, ap3]
   refine held_tk 5 46 (.pointer (some ⟨g2, 1, none⟩)) rfl rfl (by kernel_rfl) (fun _ _ _ h => h) (fun _ _ => (by kernel_rfl)) hS ?_
   simp only [Act.put, ap1, ap2, ap3]
   refine held_tk 6 47 (.slice (some ⟨b2, o2, none⟩) n cap2) rfl rfl (by kernel_rfl) (fun _ _ _ h => h) (fun _ h => exec_cell rfl rfl (load_cell (by kernel_rfl) (vc1 h.two))) hS ?_
   simp only [Act.put, ap1, ap2, ap3]
   refine held_tk 7 48 (.int .i64 (j : Int)) rfl rfl (by kernel_rfl) (fun _ _ _ h => h) (fun _ _ => rfl) hS ?_
   simp only [Act.put, ap1, ap2, ap3]
   refine held_tk 8 49 (.pointer (some ⟨b2, o2 + j * 2, none⟩)) rfl rfl (by kernel_rfl) (fun _ _ _ h => h) (fun _ _ => exec_idxL (i := j) rfl rfl rfl rfl hlt) hS ?_
   simp only [Act.put, ap1, ap2, ap3]
   refine held_tk 9 50 (.agg #[.int .u16 (i : Int), .int .u32 (q : Int)]) rfl rfl (by kernel_rfl) (fun _ _ _ h => h) (fun _ h => exec_ld86 rfl rfl h.r2) hS ?_
   simp only [Act.put, ap1, ap2, ap3]
   refine held_tk 10 51 (.bool false) rfl rfl (by kernel_rfl) (fun _ _ _ h => h) (fun _ _ => exec_neq86 rfl rfl rfl) hS ?_
   simp only [Act.put, ap1, ap2, ap3]
   refine wpAnyH_done (by kernel_rfl) ?_ _
   have HSN := Lib.hid (HS.out.below (drew_below wr))
   clear hS
   go_wp2_with fail
   go_roundw
   case rel => exact ⟨j + 1, by go_num, by omega, HSN⟩
   case measure => simp [numI]; omega
  ·go_wp2_with fail
   go_ret
   exact ⟨rfl, HS.out.old⟩
end Go.Proofs.YtnekpgmgnepdoaaGreat
end
section
namespace Go.Proofs.YtnekpgmgnepdoaaGreat
open Go.RowKit
theorem citems_eq {c : Nat} {L : List En} {a b : List Nat} (ha : CItems c L a) (hb : CItems c L b) : a = b := sorted_one ha.up hb.up (fun x => by rw [ha.mem, hb.mem])
theorem Seen.unique {s : Sta} {c : Nat} {l l' : List (Nat × Nat)} {o o' : Bool} {t t' : Nat} (h : Seen s c l o t) (k : Seen s c l' o' t') : l = l' ∧ o = o' ∧ t = t' := by
 cases h with
 | yes h its hi => cases k with
  | yes _ its' hi' => rw [citems_eq hi hi']; exact ⟨rfl, rfl, rfl⟩
  | no k => exact absurd h k
 | no h => cases k with
  | yes k _ _ => exact absurd k h
  | no _ => exact ⟨rfl, rfl, rfl⟩
end Go.Proofs.YtnekpgmgnepdoaaGreat
end
section
namespace Go.Proofs.YtnekpgmgnepdoaaGreat
open Go.RowKit
def clearOp (v : V) (c : Nat) (hc : c < 65536) (hs : v.at_ 1 + 1 < 4294967296) : O := ⟨1, v.at_ 1 + 1, 5, c, 0, 0, 7, v, by omega, hs, by omega, hc, by omega, by omega, by omega⟩
theorem clear_ready {s : Sta} (h : s.Right) {c : Nat} (hc : c < 65536) (hs : s.v.at_ 1 + 1 < 4294967296) (h1 : s.v.at_ 1 < 1048576) : O.readyE s.v (clearOp s.v c hc hs) = 0 := by
 rw [ready_iff]
 refine ⟨(O.right_iff _ _).2 ⟨?_, rfl, ?_, h.vec, ?_, ?_⟩, ?_, (V.belowB_iff _ _).2 fun i _ => Nat.le_refl _⟩
 ·show V.dotB 1 (s.v.at_ 1 + 1) = true
  unfold V.dotB
  rw [decide_eq_true_eq]
  omega
 ·show ((1 : Nat) : Int) < 16; decide
 ·show 7 ≤ 1073741824; decide
 ·show O.kindB (clearOp s.v c hc hs) = true
  unfold O.kindB
  rw [decide_eq_true_eq]
  exact .inr (.inr (.inr ⟨.inr rfl, rfl, rfl⟩))
 ·rw [← Bool.not_eq_true, hasB_iff]
  show ¬ (1 < 16 ∧ 1 ≤ s.v.at_ 1 + 1 ∧ s.v.at_ 1 + 1 ≤ 1048576 ∧ s.v.at_ 1 + 1 ≤ s.v.at_ 1)
  omega
theorem clear_ends {s : Sta} (h : s.Right) {c : Nat} (hc : c < 65536) (hs : s.v.at_ 1 + 1 < 4294967296) {e : En} (he : e ∈ s.es) : O.endsB (clearOp s.v c hc hs) e.maker = decide (e.c = c) := by
 obtain ⟨_, h2, h3, _⟩ := h.has e he
 unfold O.endsB
 rw [decide_eq_decide]
 unfold En.shapedB at h3
 rw [decide_eq_true_eq] at h3
 have hl : e.maker.laysB = true := by
  unfold O.laysB
  rw [decide_eq_true_eq]
  show e.k = 1 ∨ e.k = 2 ∨ e.k = 4
  omega
 constructor
 ·rintro ⟨_, h5, _⟩; exact (show c = e.c from h5).symm
 ·intro h5; exact ⟨hl, show c = e.c from h5.symm, h2, .inl rfl⟩
theorem clear_es {s : Sta} (h : s.Right) {c : Nat} (hc : c < 65536) (hs : s.v.at_ 1 + 1 < 4294967296) : (applyS s (clearOp s.v c hc hs)).es = s.es.filter fun e => !decide (e.c = c) := by
 have e0 : (applyS s (clearOp s.v c hc hs)).es = applyE s.es (clearOp s.v c hc hs) := rfl
 rw [e0]
 unfold applyE
 rw [if_neg (by show ¬ O.laysB (clearOp s.v c hc hs) = true; unfold O.laysB; rw [decide_eq_true_eq]; show ¬ (5 = 1 ∨ 5 = 2 ∨ 5 = 4); omega)]
 unfold leftE
 exact List.filter_congr fun e he => by rw [clear_ends h hc hs he]
theorem foldl_none {c i : Nat} : ∀ {l : List En}, (∀ e ∈ l, ¬ e.c = c) → l.foldl (camStep c i) none = none
 | [], _ => rfl
 | e :: l, h => by
  rw [List.foldl_cons, show camStep c i none e = none from if_neg fun hh => h e (by simp) hh.1]
  exact foldl_none fun x hx => h x (List.mem_cons_of_mem _ hx)
theorem seen_none {t : Sta} {c : Nat} (h : ∀ e ∈ t.es, ¬ e.c = c) {ls : List (Nat × Nat)} {o : Bool} {k : Nat} (hs : Seen t c ls o k) : ls = [] ∧ o = false := by
 cases hs with
 | yes _ its hi =>
  refine ⟨?_, ?_⟩
  ·have : its = [] := List.eq_nil_iff_forall_not_mem.2 fun i hmi => by
    have := ((hi.mem i).1 hmi).2
    rw [cam_all, foldl_none h] at this
    cases this
   rw [this]; rfl
  ·rw [cout_all, ← Bool.not_eq_true, List.any_eq_true]
   rintro ⟨e, he, hh⟩
   rw [decide_eq_true_eq] at hh
   exact h e he hh.1
 | no _ => exact ⟨rfl, rfl⟩
theorem seen_same {s t : Sta} {c : Nat} (hs : s.Right) (ht : t.Right) (h1 : ∀ i, camTo c t.es t.es.length i = camTo c s.es s.es.length i) (h2 : coutTo c t.es t.es.length = coutTo c s.es s.es.length) (h3 : tkOf t.ts c = tkOf s.ts c) {ls : List (Nat × Nat)} {o : Bool} {k : Nat} (h : Seen s c ls o k) : Seen t c ls o k := by
 cases h with
 | yes _ its hi =>
  have e1 : ∀ i, cqtyAt c t.es i = cqtyAt c s.es i := fun i => by unfold cqtyAt; rw [h1]
  have := Seen.yes (s := t) (c := c) ht its ⟨hi.up, fun i => by rw [hi.mem, h1]⟩
  rw [h2, h3] at this
  simpa only [e1] using this
 | no h => exact absurd hs h
theorem clear_other {s : Sta} (h : s.Right) {c m : Nat} (hc : c < 65536) (hs : s.v.at_ 1 + 1 < 4294967296) (hm : ¬ m = c) : (∀ i, camTo m (applyS s (clearOp s.v c hc hs)).es (applyS s (clearOp s.v c hc hs)).es.length i = camTo m s.es s.es.length i) ∧ coutTo m (applyS s (clearOp s.v c hc hs)).es (applyS s (clearOp s.v c hc hs)).es.length = coutTo m s.es s.es.length ∧ tkOf (applyS s (clearOp s.v c hc hs)).ts m = tkOf s.ts m := by
 rw [clear_es h]
 refine ⟨fun i => ?_, ?_, ?_⟩
 ·rw [cam_all, cam_all]
  refine foldl_filter fun e _ hp a => ?_
  have hec : e.c = c := by simpa using hp
  exact if_neg fun hh => hm (hh.1.symm.trans hec)
 ·rw [cout_all, cout_all, Bool.eq_iff_iff, List.any_eq_true, List.any_eq_true]
  constructor
  ·rintro ⟨e, he, hh⟩
   exact ⟨e, (List.mem_filter.1 he).1, hh⟩
  ·rintro ⟨e, he, hh⟩
   refine ⟨e, List.mem_filter.2 ⟨he, ?_⟩, hh⟩
   rw [decide_eq_true_eq] at hh
   have : ¬ e.c = c := fun h5 => hm (hh.1.symm.trans h5)
   simp [this]
 ·show tkOf (ticked (tickO (clearOp s.v c hc hs)) s.ts) m = _
  rw [tkOf_ticked h.ts.up]
  exact if_neg hm
theorem build_C (v : V) (c : Nat) (hc : c < 65536) (hs : v.at_ 1 + 1 < 4294967296) (w : World) : (Instr.build 33 #[(0, dotV 1 (v.at_ 1 + 1)), (1, .int .u8 5), (2, .int .u16 (c : Int)), (5, .int .u32 7), (6, .agg v.arr)]).run Tryz.prog w = .ok (.agg (clearOp v c hc hs).arr) w := by
 refine run_build w 33 _ _ ?_
 unfold clearOp
 generalize v.at_ 1 + 1 = q at hs
 obtain ⟨x0, x1, x2, x3, x4, x5, x6, x7, x8, x9, y0, y1, y2, y3, y4, y5, hv⟩ := sixteen v
 unfold O.arr O.cs O.hd V.arr V.cs
 simp only
 rw [hv]
 kernel_rfl
section
variable {ev : Operand → Value} {o : Oper} {w : World}
theorem exec_C {x0 x1 x2 x5 x6 : Operand} {v : V} {c : Nat} {hc : c < 65536} {hs : v.at_ 1 + 1 < 4294967296} {a : O} {q : Nat} (ha : clearOp v c hc hs = a) (hq : v.at_ 1 + 1 = q) (ho : o.op = .build 33 #[(0, x0), (1, x1), (2, x2), (5, x5), (6, x6)]) (h0 : ev x0 = dotV 1 q) (h1 : ev x1 = .int .u8 5) (h2 : ev x2 = .int .u16 (c : Int)) (h5 : ev x5 = .int .u32 7) (h6 : ev x6 = .agg v.arr) : (execOp ev o).run Tryz.prog w = .ok (.value (.agg a.arr)) w := by
 subst ha hq
 have hm : (#[((0 : Nat), x0), (1, x1), (2, x2), (5, x5), (6, x6)]).map (fun (i, x) => (i, ev x)) = #[(0, dotV 1 (v.at_ 1 + 1)), (1, .int .u8 5), (2, .int .u16 (c : Int)), (5, .int .u32 7), (6, .agg v.arr)] := by simp [h0, h1, h2, h5, h6]
 unfold execOp
 simp only [ho, hm, Sem.run_bind, build_C v c hc hs w, Result.andThen_ok]
 rfl
end
structure OcW (w W : World) (s t : Sta) (p7 p9 p11 c tk : Nat) (a1 : Option Addr) (n1 c1 : Nat) (b1 : Option Addr) (m1 d1 : Nat) (a2 : Option Addr) (n2 c2 : Nat) (b2 : Option Addr) (m2 d2 : Nat) (av : Option Addr) (capv : Nat) : Prop where
 k7 : Blk W p7 39 (sv s.v a1 n1 c1 b1 m1 d1)
 k9 : Blk W p9 39 (sv t.v a2 n2 c2 b2 m2 d2)
 kv : Blk W p11 55 (viewV c (.slice av 0 capv) false tk)
 l7 : SL W s a1 n1 b1 m1
 l9 : SL W t a2 n2 b2 m2
 old : Below w.heap.size w W
section
variable {w W W' : World} {s t : Sta} {p7 p9 p11 c tk : Nat} {a1 : Option Addr} {n1 c1 : Nat} {b1 : Option Addr} {m1 d1 : Nat} {a2 : Option Addr} {n2 c2 : Nat} {b2 : Option Addr} {m2 d2 : Nat} {av : Option Addr} {capv : Nat}
theorem OcW.below (h : OcW w W s t p7 p9 p11 c tk a1 n1 c1 b1 m1 d1 a2 n2 c2 b2 m2 d2 av capv) (hb : Below W.heap.size W W') : OcW w W' s t p7 p9 p11 c tk a1 n1 c1 b1 m1 d1 a2 n2 c2 b2 m2 d2 av capv := ⟨h.k7.below hb, h.k9.below hb, h.kv.below hb, h.l7.below hb, h.l9.below hb, h.old.trans (hb.mono h.old.size)⟩
theorem OcW.drew (h : OcW w W s t p7 p9 p11 c tk a1 n1 c1 b1 m1 d1 a2 n2 c2 b2 m2 d2 av capv) : OcW w W.drew s t p7 p9 p11 c tk a1 n1 c1 b1 m1 d1 a2 n2 c2 b2 m2 d2 av capv := ⟨h.k7, h.k9, h.kv, h.l7.below (drew_below _), h.l9.below (drew_below _), h.old.drew⟩
theorem OcW.v1 (h : OcW w W s t p7 p9 p11 c tk a1 n1 c1 b1 m1 d1 a2 n2 c2 b2 m2 d2 av capv) : W.cell? ⟨p11, 1, none⟩ = some (.slice av 0 capv) := by rw [h.kv.cell]; rfl
theorem OcW.v2 (h : OcW w W s t p7 p9 p11 c tk a1 n1 c1 b1 m1 d1 a2 n2 c2 b2 m2 d2 av capv) : W.cell? ⟨p11, 2, none⟩ = some (.bool false) := by rw [h.kv.cell]; rfl
end
theorem wpList_stop55t {ops : Array Oper} {rest : List Oper} {o : Oper} {act : Act} {Q : Exit → Act → World → Prop} {W : World} {x y : Operand} (_ho : o.op = .store 55 x y) (k : Halt_ (wpList Tryz.prog ops Q (o :: rest) act W)) : wpList Tryz.prog ops Q (o :: rest) act W := k.out
set_option maxRecDepth 100000 in
set_option maxHeartbeats 32000000 in
theorem clears_walk {a : Option Addr} {n cap : Nat} {l : List O} {w : World} (halive : ∀ W, Calls Tryz.prog 12 #[] W (Says (.bool true) W)) (hl : OL w a n l) (hn : n < 9223372036854775808) (hcap : n ≤ cap) (c m : Nat) (hc16 : c < 65536) (hm16 : m < 65536) : Calls Tryz.prog 9 #[.slice a n cap, .int .u16 (c : Int), .int .u16 (m : Int)] w (Says (.bool true) w) := by
 have HL := Lib.hid hl
 have HLEN := Lib.hid hl.len'
 have HAL := Lib.hid halive
 obtain ⟨z, hz⟩ : ∃ z, V.zero = z := ⟨_, rfl⟩
 have HZ := Lib.hid hz
 clear hl halive hz
 go_enter Tryz.func9, Tryz.ntmps9
 go_wp2_with fail
 refine (HAL.out _).mono ?_
 rintro e w1 ⟨rfl, hb⟩
 have H1 := Lib.hid hb
 clear hb
 go_wp2_with fail
 refine (hist_any (HL.out.below H1.out) hn hcap).mono ?_
 rintro e w2 ⟨hi, rfl, hhi, hb⟩
 have H2 := Lib.hid (H1.out.trans (hb.mono H1.out.size))
 clear hb H1
 cases hi
 ·clear hhi
  go_wp2_with fail
  go_ret
  exact ⟨rfl, H2.out⟩
 have HH := Lib.hid (hhi.1 rfl)
 clear hhi hn
 have hn : n ≤ 40 := by have := HH.out.few; have := HLEN.out; omega
 have hsp := spec_of HH.out.runs
 have HSP := Lib.hid hsp
 have HLE := Lib.hid hsp.len
 have HSR := Lib.hid hsp.right
 have HSUM := Lib.hid (sum_st HH.out.runs)
 have HALL := all_any (cap := cap) (HL.out.below H2.out) hn HH.out.runs
 unfold AllP at HALL
 generalize stOf Sta.zero l = s at HLE HSR HSUM HALL HSP
 clear hsp
 have HALL := Lib.hid HALL
 have h1s : s.v.at_ 1 ≤ 40 := by have := at_le_sum s.v (k := 16) (i := 1) (by omega); have h2 := HSUM.out; unfold V.sum at h2; have := HLEN.out; omega
 have hqs : s.v.at_ 1 + 1 < 4294967296 := by omega
 obtain ⟨t, ht⟩ : ∃ t, applyS s (clearOp s.v c hc16 hqs) = t := ⟨_, rfl⟩
 obtain ⟨op, hop⟩ : ∃ o, clearOp s.v c hc16 hqs = o := ⟨_, rfl⟩
 have happ := appS_of HSR.out (clear_ready HSR.out hc16 hqs (by omega))
 have HTR : Hid t.Right := Lib.hid (by rw [← ht]; exact (HSP.out.step (clear_ready HSR.out hc16 hqs (by omega))).right)
 have HNON : Hid (∀ ls o k, Seen t c ls o k → ls = [] ∧ o = false) := Lib.hid (fun ls o k h => seen_none (by rw [← ht, clear_es HSR.out]; intro e he; have := (List.mem_filter.1 he).2; simpa using this) h)
 have HOTH : Hid (¬ m = c → ∀ ls o k, Seen s m ls o k → Seen t m ls o k) := Lib.hid (fun hm ls o k h => by
  obtain ⟨e1, e2, e3⟩ := clear_other HSR.out hc16 hqs hm
  exact seen_same HSR.out HTR.out (by rw [← ht]; exact e1) (by rw [← ht]; exact e2) (by rw [← ht]; exact e3) h)
 have HTL : Hid (t.es.length ≤ 41 ∧ t.ts.length ≤ 41) := Lib.hid (by
  have h := (HSP.out.step (clear_ready HSR.out hc16 hqs (by omega))).len
  rw [ht, List.length_append, List.length_singleton] at h
  have := HLEN.out
  omega)
 have HAPP : Hid (appE s op = 0 ∧ appS s op = t) := Lib.hid (by rw [← hop, ← ht]; exact happ)
 have HOP := Lib.hid hop
 obtain ⟨q1, hq1⟩ : ∃ q, s.v.at_ 1 = q := ⟨_, rfl⟩
 have HQ1 : Hid (s.v.at_ 1 = q1) := Lib.hid hq1
 have HQ2 : Hid (s.v.at_ 1 + 1 = q1 + 1) := Lib.hid (by rw [hq1])
 have hq40 : q1 ≤ 40 := by rw [← hq1]; exact h1s
 have HSU : Hid (V.sum s.v ≤ 40) := Lib.hid (by rw [HSUM.out]; have := HLEN.out; omega)
 clear happ ht hop hq1 h1s HSP
 go_wp2_with fail
 refine HALL.out.mono ?_
 rintro e w5 ⟨a1, n1, c1, b1, m1, d1, rfl, hsl, hb⟩
 have H6 := Lib.hid (H2.out.trans (hb.mono H2.out.size))
 have HS6 := Lib.hid hsl
 have hf1 : n1 ≤ 40 ∧ m1 ≤ 40 := by have h1 := hsl.es.len'; have h2 := hsl.ts.len'; have h3 := HLE.out; have := HLEN.out; omega
 clear hb hsl H2 HALL
 go_wp2_with (first | (refine wpList_run rfl (exec_alloc39z HZ.out rfl) ?_) | (refine wpList_stop39 rfl ?_))
 refine ⟨?_⟩
 refine wpList_void rfl rfl (exec_store39 rfl rfl rfl (Blk.new w5 39 _)) ?_
 have hbo := bo_laid w5 39 (sv z none 0 0 none 0 0) (sv s.v a1 n1 c1 b1 m1 d1)
 have H7 := Lib.hid (H6.out.trans (hbo.old.mono H6.out.size))
 have HS7 := Lib.hid (HS6.out.below hbo.old)
 have HK7 := Lib.hid hbo.one
 clear hbo H6 HS6
 generalize (w5.alloc (.cells (sv z none 0 0 none 0 0) 39)).setRow w5.heap.size (sv s.v a1 n1 c1 b1 m1 d1) = w6 at H7 HS7 HK7 ⊢
 generalize w5.heap.size = p7 at HK7 ⊢
 go_wp2_with (refine wpList_runW (exec_stV (v := s.v) rfl rfl HK7.out) (by kernel_rfl) ?_)
 refine (rsum_any s.v w6).mono ?_
 rintro e w7 ⟨rfl, hb⟩
 have H8 := Lib.hid (H7.out.trans (hb.mono H7.out.size))
 have HS8 := Lib.hid (HS7.out.below hb)
 have HK8 := Lib.hid (HK7.out.below hb)
 clear hb H7 HS7 HK7
 obtain ⟨su, hsu⟩ : ∃ x, V.sum s.v = x := ⟨_, rfl⟩
 have hsu40 : su ≤ 40 := by rw [← hsu]; exact HSU.out
 rw [hsu]
 clear hsu
 have qs : decide ((1048576 : Int) ≤ (su : Int)) = false := by simp; omega
 have c1_ : w7.cell? ⟨p7, 1, none⟩ = some (.int .u32 (q1 : Int)) := by rw [stc_at HK8.out (by omega), HQ1.out]
 go_wp2_with (first | (refine wpList_run rfl (exec_load39 rfl rfl HK8.out) ?_) | (refine wpList_run rfl (exec_idx24c (j := 1) rfl rfl rfl (by omega)) ?_) | (refine wpList_run rfl (exec_stV (v := s.v) rfl rfl HK8.out) ?_) | (refine wpList_run rfl (exec_C (q := q1 + 1) HOP.out HQ2.out rfl rfl rfl rfl rfl rfl) ?_))
 clear c1_
 refine (apply_any HS8.out (by omega) (by omega) op).mono ?_
 rw [HAPP.out.1, HAPP.out.2]
 rintro e w8 ⟨a2, n2, c2, b2, m2, d2, rfl, hE, hT, hb⟩
 have H9 := Lib.hid (H8.out.trans (hb.mono H8.out.size))
 have HS9 := Lib.hid (HS8.out.below hb)
 have HK9 := Lib.hid (HK8.out.below hb)
 have HT9 : Hid (SL w8 t a2 n2 b2 m2) := Lib.hid ⟨hE.gl, hT.gl⟩
 have hf2 : n2 ≤ 41 ∧ m2 ≤ 41 := by have h1 := HT9.out.es.len'; have h2 := HT9.out.ts.len'; have h3 := HTL.out; omega
 clear hb hE hT H8 HS8 HK8
 go_wp2_with (first | (refine wpList_run rfl (exec_alloc39z HZ.out rfl) ?_) | (refine wpList_stop39 rfl ?_))
 refine ⟨?_⟩
 refine wpList_void rfl rfl (exec_store39 rfl rfl rfl (Blk.new w8 39 _)) ?_
 have hbo := bo_laid w8 39 (sv z none 0 0 none 0 0) (sv t.v a2 n2 c2 b2 m2 d2)
 have H10 := Lib.hid (H9.out.trans (hbo.old.mono H9.out.size))
 have HS10 := Lib.hid (HS9.out.below hbo.old)
 have HK10 := Lib.hid (HK9.out.below hbo.old)
 have HT10 := Lib.hid (HT9.out.below hbo.old)
 have HJ10 := Lib.hid hbo.one
 clear hbo H9 HS9 HK9 HT9
 generalize (w8.alloc (.cells (sv z none 0 0 none 0 0) 39)).setRow w8.heap.size (sv t.v a2 n2 c2 b2 m2 d2) = w9 at H10 HS10 HK10 HT10 HJ10 ⊢
 generalize w8.heap.size = p9 at HJ10 ⊢
 go_wp2_with (refine wpList_run rfl (exec_load39 rfl rfl HJ10.out) ?_)
 refine (view_seen (view_any HT10.out (by omega) (by omega) c hc16)).mono ?_
 rintro e w10 ⟨ls, o, tk, av, capv, rfl, hI, _, hb⟩
 obtain ⟨rfl, rfl⟩ := HNON.out _ _ _ hI
 have H11 := Lib.hid (H10.out.trans (hb.mono H10.out.size))
 have HS11 := Lib.hid (HS10.out.below hb)
 have HK11 := Lib.hid (HK10.out.below hb)
 have HT11 := Lib.hid (HT10.out.below hb)
 have HJ11 := Lib.hid (HJ10.out.below hb)
 clear hb hI H10 HS10 HK10 HT10 HJ10
 go_wp2_with (refine wpList_stop55t rfl ?_)
 refine ⟨?_⟩
 refine wpList_void rfl rfl (exec_store55 (c := 0) (v := .slice none 0 0) (o := false) (t := 0) (c2 := c) (t2 := tk) rfl rfl rfl (Blk.new w10 55 _)) ?_
 have hbo := bo_laid w10 55 #[.int .u16 0, .slice none 0 0, .bool false, .int .u32 0] (viewV c (.slice av 0 capv) false tk)
 have H12 : Hid (OcW w ((w10.alloc (.cells #[.int .u16 0, .slice none 0 0, .bool false, .int .u32 0] 55)).setRow w10.heap.size (viewV c (.slice av 0 capv) false tk)) s t p7 p9 w10.heap.size c tk a1 n1 c1 b1 m1 d1 a2 n2 c2 b2 m2 d2 av capv) := Lib.hid ⟨HK11.out.below hbo.old, HJ11.out.below hbo.old, hbo.one, HS11.out.below hbo.old, HT11.out.below hbo.old, H11.out.trans (hbo.old.mono H11.out.size)⟩
 clear hbo H11 HS11 HK11 HT11 HJ11
 generalize (w10.alloc (.cells #[.int .u16 0, .slice none 0 0, .bool false, .int .u32 0] 55)).setRow w10.heap.size (viewV c (.slice av 0 capv) false tk) = w11 at H12 ⊢
 generalize w10.heap.size = p11 at H12 ⊢
 by_cases hmc0 : m = c
 ·subst hmc0
  go_wp2_with fail
  refine wp_region_held_drew (S := fun w' => OcW w w' s t p7 p9 p11 m tk a1 n1 c1 b1 m1 d1 a2 n2 c2 b2 m2 d2 av capv) (by kernel_rfl) H12.out.drew (fun hS => ?_)
  refine held_tk 0 47 (.int .i64 0) rfl rfl (by kernel_rfl) (fun _ _ _ h => h) (fun _ _ => rfl) hS ?_
  simp only [Act.put, ap1, ap2, ap3]
  refine held_tk 1 48 (.bool true) rfl rfl (by kernel_rfl) (fun _ _ _ h => h) (fun _ _ => exec_eqlI trivial rfl rfl rfl (by simp)) hS ?_
  simp only [Act.put, ap1, ap2, ap3]
  refine held_tk 2 49 (.bool true) rfl rfl (by kernel_rfl) (fun _ _ _ h => h) (fun _ _ => rfl) hS ?_
  simp only [Act.put, ap1, ap2, ap3]
  refine held_tk 3 50 (.pointer (some ⟨p11, 1, none⟩)) rfl rfl (by kernel_rfl) (fun _ _ _ h => h) (fun _ _ => (by kernel_rfl)) hS ?_
  simp only [Act.put, ap1, ap2, ap3]
  refine held_tk 4 51 (.slice av 0 capv) rfl rfl (by kernel_rfl) (fun _ _ _ h => h) (fun _ h => exec_cell rfl rfl (load_cell (by kernel_rfl) h.v1)) hS ?_
  simp only [Act.put, ap1, ap2, ap3]
  refine held_tk 5 52 (.int .i64 ((0 : Nat) : Int)) rfl rfl (by kernel_rfl) (fun _ _ _ h => h) (fun _ _ => exec_lenS ⟨_, und53⟩ rfl rfl) hS ?_
  simp only [Act.put, ap1, ap2, ap3]
  refine held_tk 6 53 (.bool true) rfl rfl (by kernel_rfl) (fun _ _ _ h => h) (fun _ _ => exec_eqlI trivial rfl rfl rfl (by simp)) hS ?_
  simp only [Act.put, ap1, ap2, ap3]
  refine held_tk 7 54 (.bool true) rfl rfl (by kernel_rfl) (fun _ _ _ h => h) (fun _ _ => rfl) hS ?_
  simp only [Act.put, ap1, ap2, ap3]
  refine held_tk 8 55 (.bool true) rfl rfl (by kernel_rfl) (fun _ _ _ h => h) (fun _ _ => rfl) hS ?_
  simp only [Act.put, ap1, ap2, ap3]
  refine held_tk 9 56 (.pointer (some ⟨p11, 2, none⟩)) rfl rfl (by kernel_rfl) (fun _ _ _ h => h) (fun _ _ => (by kernel_rfl)) hS ?_
  simp only [Act.put, ap1, ap2, ap3]
  refine held_tk 10 57 (.bool false) rfl rfl (by kernel_rfl) (fun _ _ _ h => h) (fun _ h => exec_cell rfl rfl (load_cell (by kernel_rfl) h.v2)) hS ?_
  simp only [Act.put, ap1, ap2, ap3]
  refine held_tk 11 58 (.bool true) rfl rfl (by kernel_rfl) (fun _ _ _ h => h) (fun _ _ => rfl) hS ?_
  simp only [Act.put, ap1, ap2, ap3]
  refine held_tk 12 59 (.bool true) rfl rfl (by kernel_rfl) (fun _ _ _ h => h) (fun _ _ => rfl) hS ?_
  simp only [Act.put, ap1, ap2, ap3]
  refine held_tk 13 60 (.bool true) rfl rfl (by kernel_rfl) (fun _ _ _ h => h) (fun _ _ => rfl) hS ?_
  simp only [Act.put, ap1, ap2, ap3]
  refine held_tk 14 61 (.int .u16 (m : Int)) rfl rfl (by kernel_rfl) (fun _ _ _ h => h) (fun _ _ => rfl) hS ?_
  simp only [Act.put, ap1, ap2, ap3]
  refine held_tk 15 62 (.int .u16 (m : Int)) rfl rfl (by kernel_rfl) (fun _ _ _ h => h) (fun _ _ => rfl) hS ?_
  simp only [Act.put, ap1, ap2, ap3]
  refine held_tk 16 63 (.bool true) rfl rfl (by kernel_rfl) (fun _ _ _ h => h) (fun _ _ => exec_eqlI trivial rfl rfl rfl (by simp)) hS ?_
  simp only [Act.put, ap1, ap2, ap3]
  refine held_tk 17 64 (.bool true) rfl rfl (by kernel_rfl) (fun _ _ _ h => h) (fun _ _ => rfl) hS ?_
  simp only [Act.put, ap1, ap2, ap3]
  refine held_sk 18 65 rfl rfl (by kernel_rfl) (fun _ _ _ h => h) hS ?_
  simp only [Act.put, ap1, ap2, ap3]
  refine held_sk 19 66 rfl rfl (by kernel_rfl) (fun _ _ _ h => h) hS ?_
  simp only [Act.put, ap1, ap2, ap3]
  refine held_sk 20 67 rfl rfl (by kernel_rfl) (fun _ _ _ h => h) hS ?_
  simp only [Act.put, ap1, ap2, ap3]
  refine held_sk 21 68 rfl rfl (by kernel_rfl) (fun _ _ _ h => h) hS ?_
  simp only [Act.put, ap1, ap2, ap3]
  refine held_sk 22 69 rfl rfl (by kernel_rfl) (fun _ _ _ h => h) hS ?_
  simp only [Act.put, ap1, ap2, ap3]
  refine held_sk 23 70 rfl rfl (by kernel_rfl) (fun _ _ _ h => h) hS ?_
  simp only [Act.put, ap1, ap2, ap3]
  refine held_sk 24 71 rfl rfl (by kernel_rfl) (fun _ _ _ h => h) hS ?_
  simp only [Act.put, ap1, ap2, ap3]
  refine held_tk 25 72 (.bool true) rfl rfl (by kernel_rfl) (fun _ _ _ h => h) (fun _ _ => rfl) hS ?_
  simp only [Act.put, ap1, ap2, ap3]
  refine held_tk 26 73 (.bool true) rfl rfl (by kernel_rfl) (fun _ _ _ h => h) (fun _ _ => rfl) hS ?_
  simp only [Act.put, ap1, ap2, ap3]
  refine held_tk 27 6 (.bool true) rfl rfl (by kernel_rfl) (fun _ _ _ h => h) (fun _ _ => rfl) hS ?_
  simp only [Act.put, ap1, ap2, ap3]
  have HS9 := Lib.hid hS
  clear hS
  refine wpAnyH_done (by kernel_rfl) ?_ _
  go_wp2_with fail
  go_ret
  exact ⟨rfl, HS9.out.old⟩
 ·have hmc : ((m : Int) == (c : Int)) = false := by simp; omega
  have HOTH := Lib.hid (HOTH.out hmc0)
  go_wp2_with fail
  refine wp_region_held_drew (S := fun w' => OcW w w' s t p7 p9 p11 c tk a1 n1 c1 b1 m1 d1 a2 n2 c2 b2 m2 d2 av capv) (by kernel_rfl) H12.out.drew (fun hS => ?_)
  refine held_tk 0 47 (.int .i64 0) rfl rfl (by kernel_rfl) (fun _ _ _ h => h) (fun _ _ => rfl) hS ?_
  simp only [Act.put, ap1, ap2, ap3]
  refine held_tk 1 48 (.bool true) rfl rfl (by kernel_rfl) (fun _ _ _ h => h) (fun _ _ => exec_eqlI trivial rfl rfl rfl (by simp)) hS ?_
  simp only [Act.put, ap1, ap2, ap3]
  refine held_tk 2 49 (.bool true) rfl rfl (by kernel_rfl) (fun _ _ _ h => h) (fun _ _ => rfl) hS ?_
  simp only [Act.put, ap1, ap2, ap3]
  refine held_tk 3 50 (.pointer (some ⟨p11, 1, none⟩)) rfl rfl (by kernel_rfl) (fun _ _ _ h => h) (fun _ _ => (by kernel_rfl)) hS ?_
  simp only [Act.put, ap1, ap2, ap3]
  refine held_tk 4 51 (.slice av 0 capv) rfl rfl (by kernel_rfl) (fun _ _ _ h => h) (fun _ h => exec_cell rfl rfl (load_cell (by kernel_rfl) h.v1)) hS ?_
  simp only [Act.put, ap1, ap2, ap3]
  refine held_tk 5 52 (.int .i64 ((0 : Nat) : Int)) rfl rfl (by kernel_rfl) (fun _ _ _ h => h) (fun _ _ => exec_lenS ⟨_, und53⟩ rfl rfl) hS ?_
  simp only [Act.put, ap1, ap2, ap3]
  refine held_tk 6 53 (.bool true) rfl rfl (by kernel_rfl) (fun _ _ _ h => h) (fun _ _ => exec_eqlI trivial rfl rfl rfl (by simp)) hS ?_
  simp only [Act.put, ap1, ap2, ap3]
  refine held_tk 7 54 (.bool true) rfl rfl (by kernel_rfl) (fun _ _ _ h => h) (fun _ _ => rfl) hS ?_
  simp only [Act.put, ap1, ap2, ap3]
  refine held_tk 8 55 (.bool true) rfl rfl (by kernel_rfl) (fun _ _ _ h => h) (fun _ _ => rfl) hS ?_
  simp only [Act.put, ap1, ap2, ap3]
  refine held_tk 9 56 (.pointer (some ⟨p11, 2, none⟩)) rfl rfl (by kernel_rfl) (fun _ _ _ h => h) (fun _ _ => (by kernel_rfl)) hS ?_
  simp only [Act.put, ap1, ap2, ap3]
  refine held_tk 10 57 (.bool false) rfl rfl (by kernel_rfl) (fun _ _ _ h => h) (fun _ h => exec_cell rfl rfl (load_cell (by kernel_rfl) h.v2)) hS ?_
  simp only [Act.put, ap1, ap2, ap3]
  refine held_tk 11 58 (.bool true) rfl rfl (by kernel_rfl) (fun _ _ _ h => h) (fun _ _ => rfl) hS ?_
  simp only [Act.put, ap1, ap2, ap3]
  refine held_tk 12 59 (.bool true) rfl rfl (by kernel_rfl) (fun _ _ _ h => h) (fun _ _ => rfl) hS ?_
  simp only [Act.put, ap1, ap2, ap3]
  refine held_tk 13 60 (.bool true) rfl rfl (by kernel_rfl) (fun _ _ _ h => h) (fun _ _ => rfl) hS ?_
  simp only [Act.put, ap1, ap2, ap3]
  refine held_tk 14 61 (.int .u16 (m : Int)) rfl rfl (by kernel_rfl) (fun _ _ _ h => h) (fun _ _ => rfl) hS ?_
  simp only [Act.put, ap1, ap2, ap3]
  refine held_tk 15 62 (.int .u16 (c : Int)) rfl rfl (by kernel_rfl) (fun _ _ _ h => h) (fun _ _ => rfl) hS ?_
  simp only [Act.put, ap1, ap2, ap3]
  refine held_tk 16 63 (.bool false) rfl rfl (by kernel_rfl) (fun _ _ _ h => h) (fun _ _ => exec_eqlI trivial rfl rfl rfl hmc) hS ?_
  simp only [Act.put, ap1, ap2, ap3]
  refine held_tk 17 64 (.bool false) rfl rfl (by kernel_rfl) (fun _ _ _ h => h) (fun _ _ => rfl) hS ?_
  simp only [Act.put, ap1, ap2, ap3]
  refine held_tk 18 65 (.agg (sv t.v a2 n2 c2 b2 m2 d2)) rfl rfl (by kernel_rfl) (fun _ _ _ h => h) (fun _ h => exec_load39 rfl rfl h.k9) hS ?_
  simp only [Act.put, ap1, ap2, ap3]
  refine held_tk 19 66 (.int .u16 (m : Int)) rfl rfl (by kernel_rfl) (fun _ _ _ h => h) (fun _ _ => rfl) hS ?_
  simp only [Act.put, ap1, ap2, ap3]
  refine held_tk 21 68 (.agg (sv s.v a1 n1 c1 b1 m1 d1)) rfl rfl (by kernel_rfl) (fun _ _ _ h => h) (fun _ h => exec_load39 rfl rfl h.k7) hS ?_
  simp only [Act.put, ap1, ap2, ap3]
  refine held_tk 22 69 (.int .u16 (m : Int)) rfl rfl (by kernel_rfl) (fun _ _ _ h => h) (fun _ _ => rfl) hS ?_
  simp only [Act.put, ap1, ap2, ap3]
  refine held_callP 20 67 24 #[.agg (sv t.v a2 n2 c2 b2 m2 d2), .int .u16 (m : Int)] rfl (by kernel_rfl) rfl (by kernel_rfl) (by kernel_rfl) (view_seen (view_any hS.l9 (by omega) (by omega) m hm16)) (fun e x1 hP => ?_)
  obtain ⟨ls, o, tk, a3, c3, rfl, hI, hg2, hb⟩ := hP
  refine ⟨_, rfl, hS.below hb, fun hS => ?_⟩
  simp only [Act.put, ap1, ap2, ap3]
  refine held_callP 23 70 24 #[.agg (sv s.v a1 n1 c1 b1 m1 d1), .int .u16 (m : Int)] rfl (by kernel_rfl) rfl (by kernel_rfl) (by kernel_rfl) (view_seen (view_any hS.l7 (by omega) (by omega) m hm16)) (fun e x2 hP => ?_)
  obtain ⟨ls3, o3, t3, a4, c4, rfl, hI3, hg3, hb⟩ := hP
  obtain ⟨rfl, rfl, rfl⟩ := hI.unique (HOTH.out _ _ _ hI3)
  refine ⟨_, rfl, hS.below hb, fun hS => ?_⟩
  simp only [Act.put, ap1, ap2, ap3]
  have hg2 := hg2.below hb
  refine held_callP 24 71 23 #[.agg (vw m a3 ls.length c3 o tk), .agg (vw m a4 ls.length c4 o tk)] rfl (by kernel_rfl) rfl (by kernel_rfl) (by kernel_rfl) (vsame_any m a3 a4 ls.length c3 c4 o tk ls _ hI.short hg2 hg3) (fun e x3 hP => ?_)
  obtain ⟨rfl, hb⟩ := hP
  refine ⟨_, rfl, hS.below hb, fun hS => ?_⟩
  simp only [Act.put, ap1, ap2, ap3]
  refine held_tk 25 72 (.bool true) rfl rfl (by kernel_rfl) (fun _ _ _ h => h) (fun _ _ => rfl) hS ?_
  simp only [Act.put, ap1, ap2, ap3]
  refine held_tk 26 73 (.bool true) rfl rfl (by kernel_rfl) (fun _ _ _ h => h) (fun _ _ => rfl) hS ?_
  simp only [Act.put, ap1, ap2, ap3]
  refine held_tk 27 6 (.bool true) rfl rfl (by kernel_rfl) (fun _ _ _ h => h) (fun _ _ => rfl) hS ?_
  simp only [Act.put, ap1, ap2, ap3]
  have HS9 := Lib.hid hS
  clear hS
  refine wpAnyH_done (by kernel_rfl) ?_ _
  go_wp2_with fail
  go_ret
  exact ⟨rfl, HS9.out.old⟩
end Go.Proofs.YtnekpgmgnepdoaaGreat
end
