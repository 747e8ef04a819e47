import Derived.Test.YtnekpgmgnepdoaaGreatZax
import Derived.Test.YtnekpgmgnepdoaaGreatZbc
import Derived.Test.YtnekpgmgnepdoaaGreatZbd
section
namespace Go.Proofs.YtnekpgmgnepdoaaGreat
open Go.RowKit
theorem ticked_len (x : La) : ∀ l : List La, (ticked x l).length ≤ l.length + 1
 | [] => by simp [ticked]
 | y :: l => by
  have := ticked_len x l
  unfold ticked
  split
  ·simp
  ·split <;> simp <;> omega
end Go.Proofs.YtnekpgmgnepdoaaGreat
end
section
namespace Go.Proofs.YtnekpgmgnepdoaaGreat
open Go.RowKit
def FndP (l : List En) (r i : Nat) (w : World) (e : Ending) (w' : World) : Prop :=
 ∃ v : Int, e = .returned (.int .i64 v) ∧ ((v = -1 ∧ ∀ x ∈ l, ¬ (x.r = r ∧ x.s = i)) ∨ ∃ (k : Nat) (x : En), v = (k : Int) ∧ l[k]? = some x ∧ x.r = r ∧ x.s = i) ∧ Below w.heap.size w w'
structure FnS (w W : World) (s : Sta) (p q g off : Nat) (n c : Nat) (b : Option Addr) (m d : Nat) (r i : Nat) (x : En) (ox : Nat) : Prop where
 st : Blk W p 28 (sv s.v (some ⟨g, off, none⟩) n c b m d)
 bx : Blk W q 30 #[.int .u8 (r : Int), .int .u32 (i : Int)]
 el : W.rangeAt g ox x.cs
 old : Below w.heap.size w W
theorem FnS.drew {w W : World} {s : Sta} {p q g off n c : Nat} {b : Option Addr} {m d r i : Nat} {x : En} {ox : Nat} (h : FnS w W s p q g off n c b m d r i x ox) : FnS w W.drew s p q g off n c b m d r i x ox := ⟨h.st, h.bx, h.el, h.old.drew⟩
set_option maxRecDepth 100000 in
set_option maxHeartbeats 4000000 in
theorem find_any {s : Sta} {a b : Option Addr} {n c m d : Nat} {w : World} (hl : SL w s a n b m) (hn : n < 500000) (r i : Nat) : Calls Tryz.prog 59 #[.agg (sv s.v a n c b m d), dotV r i] w (FndP s.es r i w) := by
 have HL := Lib.hid hl
 have HLEN := Lib.hid hl.es.len'
 have hb1 := fun (v : V) x y w => box28 v x y w
 have HP : Hid (Blk ((w.alloc (.cells (sv s.v a n c b m d) 28)).alloc (.cells #[.int .u8 (r : Int), .int .u32 (i : Int)] 30)) w.heap.size 28 (sv s.v a n c b m d)) := Lib.hid ((Blk.new w 28 _).below (below_one _ _))
 have HD : Hid (Blk ((w.alloc (.cells (sv s.v a n c b m d) 28)).alloc (.cells #[.int .u8 (r : Int), .int .u32 (i : Int)] 30)) (w.heap.size + 1) 30 #[.int .u8 (r : Int), .int .u32 (i : Int)]) := Lib.hid (by have := Blk.new (w.alloc (.cells (sv s.v a n c b m d) 28)) 30 #[.int .u8 (r : Int), .int .u32 (i : Int)]; simpa using this)
 have HB0 := Lib.hid (below_2 w (.cells (sv s.v a n c b m d) 28) (.cells #[.int .u8 (r : Int), .int .u32 (i : Int)] 30))
 clear hl
 go_enter Tryz.func59, Tryz.ntmps59
 go_upto_region 1 with fail
 clear hb1
 generalize (w.alloc (.cells (sv s.v a n c b m d) 28)).alloc (.cells #[.int .u8 (r : Int), .int .u32 (i : Int)] 30) = w0 at HP HD HB0
 obtain ⟨p, hp⟩ : ∃ p, w.heap.size = p := ⟨_, rfl⟩
 obtain ⟨q, hq⟩ : ∃ q, p + 1 = q := ⟨_, rfl⟩
 rw [hp] at HP HD
 rw [hq] at HD
 rw [hp, hq]
 clear hp hq
 go_wp2_with fail
 go_loopw [5] (fun iv wr => ∃ k : Nat, k ≤ n ∧ iv = .int .i64 (k : Int) ∧ Hid (∀ x ∈ s.es.take k, ¬ (x.r = r ∧ x.s = i)) ∧ Hid (Blk wr p 28 (sv s.v a n c b m d)) ∧ Hid (Blk wr q 30 #[.int .u8 (r : Int), .int .u32 (i : Int)]) ∧ Hid (Below w.heap.size w wr)) (fun iv _ => n - (intOf iv).toNat)
 case atStart => exact ⟨0, Nat.zero_le _, rfl, Lib.hid (by simp), HP, HD, HB0⟩
 case round =>
  obtain ⟨k, hk, rfl, HN, HP2, HD2, HB⟩ := hrel
  clear HP HD HB0
  have c16 := stc16 HP2.out
  by_cases hlt : k < n
  ·obtain ⟨g, off, x, rfl, hx, hr⟩ := EL.at (HL.out.es.below HB.out) hlt
   have HX := Lib.hid hx
   have HQ : Hid (FnS w wr s p q g off n c b m d r i x (off + k * 7)) := Lib.hid ⟨HP2.out, HD2.out, hr, HB.out⟩
   clear hx hr
   by_cases hd : x.r = r ∧ x.s = i
   ·have hq : decide (x.r = r ∧ x.s = i) = true := decide_eq_true hd
    have HD3 := Lib.hid hd
    clear hd
    go_wp2_with fail
    refine wp_region_held_drew (S := fun w' => FnS w w' s p q g off n c b m d r i x (off + k * 7)) (by kernel_rfl) HQ.out.drew (fun hS => ?_)
    refine held_tk 0 13 (.pointer (some ⟨p, 16, none⟩)) rfl rfl (by kernel_rfl) (fun _ _ _ h => h) (fun _ _ => (by kernel_rfl)) hS ?_
    simp only [Act.put, ap1, ap2, ap3]
    refine held_tk 1 14 (.slice (some ⟨g, off, none⟩) n c) rfl rfl (by kernel_rfl) (fun _ _ _ h => h) (fun _ h => exec_cell rfl rfl (load_cell (by kernel_rfl) (stc16 h.st))) hS ?_
    simp only [Act.put, ap1, ap2, ap3]
    refine held_tk 2 15 (.int .i64 (k : Int)) rfl rfl (by kernel_rfl) (fun _ _ _ h => h) (fun _ _ => rfl) hS ?_
    simp only [Act.put, ap1, ap2, ap3]
    refine held_tk 3 16 (.pointer (some ⟨g, off + k * 7, none⟩)) rfl rfl (by kernel_rfl) (fun _ _ _ h => h) (fun _ _ => exec_idx93 (i := k) rfl rfl rfl rfl hlt) hS ?_
    simp only [Act.put, ap1, ap2, ap3]
    refine held_tk 4 17 (.pointer (some ⟨g, off + k * 7 + 4, none⟩)) rfl rfl (by kernel_rfl) (fun _ _ _ h => h) (fun _ _ => (by kernel_rfl)) hS ?_
    simp only [Act.put, ap1, ap2, ap3]
    refine held_tk 5 18 (dotV x.r x.s) rfl rfl (by kernel_rfl) (fun _ _ _ h => h) (fun _ h => exec_rdot (e := x) rfl rfl h.el) hS ?_
    simp only [Act.put, ap1, ap2, ap3]
    refine held_tk 6 19 (dotV r i) rfl rfl (by kernel_rfl) (fun _ _ _ h => h) (fun _ h => exec_load30 rfl rfl h.bx) hS ?_
    simp only [Act.put, ap1, ap2, ap3]
    refine held_tk 7 20 (.bool true) rfl rfl (by kernel_rfl) (fun _ _ _ h => h) (fun _ _ => exec_eqlD rfl rfl rfl hq) hS ?_
    simp only [Act.put, ap1, ap2, ap3]
    refine wpAnyH_done (by kernel_rfl) ?_ _
    have HS2 := Lib.hid hS
    clear hS
    go_wp2_with fail
    go_ret
    exact ⟨(k : Int), rfl, .inr ⟨k, x, rfl, HX.out, HD3.out⟩, HS2.out.old⟩
   ·have hq : decide (x.r = r ∧ x.s = i) = false := decide_eq_false hd
    have HN2 : Hid (∀ y ∈ s.es.take (k + 1), ¬ (y.r = r ∧ y.s = i)) := Lib.hid (fun y hy => by
     rw [List.take_add_one, HX.out] at hy
     rcases List.mem_append.1 hy with h | h
     ·exact HN.out y h
     ·obtain rfl : y = x := by simpa using h
      exact hd)
    clear hd
    go_wp2_with fail
    refine wp_region_held_drew (S := fun w' => FnS w w' s p q g off n c b m d r i x (off + k * 7)) (by kernel_rfl) HQ.out.drew (fun hS => ?_)
    refine held_tk 0 13 (.pointer (some ⟨p, 16, none⟩)) rfl rfl (by kernel_rfl) (fun _ _ _ h => h) (fun _ _ => (by kernel_rfl)) hS ?_
    simp only [Act.put, ap1, ap2, ap3]
    refine held_tk 1 14 (.slice (some ⟨g, off, none⟩) n c) rfl rfl (by kernel_rfl) (fun _ _ _ h => h) (fun _ h => exec_cell rfl rfl (load_cell (by kernel_rfl) (stc16 h.st))) hS ?_
    simp only [Act.put, ap1, ap2, ap3]
    refine held_tk 2 15 (.int .i64 (k : Int)) rfl rfl (by kernel_rfl) (fun _ _ _ h => h) (fun _ _ => rfl) hS ?_
    simp only [Act.put, ap1, ap2, ap3]
    refine held_tk 3 16 (.pointer (some ⟨g, off + k * 7, none⟩)) rfl rfl (by kernel_rfl) (fun _ _ _ h => h) (fun _ _ => exec_idx93 (i := k) rfl rfl rfl rfl hlt) hS ?_
    simp only [Act.put, ap1, ap2, ap3]
    refine held_tk 4 17 (.pointer (some ⟨g, off + k * 7 + 4, none⟩)) rfl rfl (by kernel_rfl) (fun _ _ _ h => h) (fun _ _ => (by kernel_rfl)) hS ?_
    simp only [Act.put, ap1, ap2, ap3]
    refine held_tk 5 18 (dotV x.r x.s) rfl rfl (by kernel_rfl) (fun _ _ _ h => h) (fun _ h => exec_rdot (e := x) rfl rfl h.el) hS ?_
    simp only [Act.put, ap1, ap2, ap3]
    refine held_tk 6 19 (dotV r i) rfl rfl (by kernel_rfl) (fun _ _ _ h => h) (fun _ h => exec_load30 rfl rfl h.bx) hS ?_
    simp only [Act.put, ap1, ap2, ap3]
    refine held_tk 7 20 (.bool false) rfl rfl (by kernel_rfl) (fun _ _ _ h => h) (fun _ _ => exec_eqlD rfl rfl rfl hq) hS ?_
    simp only [Act.put, ap1, ap2, ap3]
    refine wpAnyH_done (by kernel_rfl) ?_ _
    have HS2 := Lib.hid hS
    clear hS
    go_wp2_with fail
    go_roundw
    case rel => exact ⟨k + 1, hlt, by go_num, HN2, Lib.hid HS2.out.st, Lib.hid HS2.out.bx, Lib.hid HS2.out.old⟩
    case measure => simp [intOf]; omega
  ·have HALL : Hid (∀ x ∈ s.es, ¬ (x.r = r ∧ x.s = i)) := Lib.hid (by have := HN.out; rwa [List.take_of_length_le (by rw [HLEN.out]; omega)] at this)
   go_wp2_with fail
   go_ret
   exact ⟨-1, rfl, .inl ⟨rfl, HALL.out⟩, HB.out⟩
end Go.Proofs.YtnekpgmgnepdoaaGreat
end
section
namespace Go.Proofs.YtnekpgmgnepdoaaGreat
open Go.RowKit
theorem exec_build28b {ev : Operand → Value} {q : Oper} {w : World} {x z : Operand} {v : V} {b : Option Addr} {m d : Nat} (ho : q.op = .build 28 #[(0, x), (2, z)]) (hx : ev x = .agg v.arr) (hz : ev z = .slice b m d) : (execOp ev q).run Tryz.prog w = .ok (.value (.agg (sv v none 0 0 b m d))) w := by
 have hm : (#[((0 : Nat), x), (2, z)]).map (fun (i, x) => (i, ev x)) = #[(0, .agg v.arr), (2, .slice b m d)] := by simp [hx, hz]
 have hb : (Instr.build 28 #[(0, .agg v.arr), (2, .slice b m d)]).run Tryz.prog w = .ok (.agg (sv v none 0 0 b m d)) w := by
  refine run_build w 28 _ _ ?_
  obtain ⟨x0, x1, x2, x3, x4, x5, x6, x7, x8, x9, y0, y1, y2, y3, y4, y5, hv⟩ := sixteen v
  unfold sv stA stC V.arr V.cs
  rw [hv]
  kernel_rfl
 unfold execOp
 simp only [ho, hm, Sem.run_bind, hb, Result.andThen_ok]
 rfl
theorem exec_stS {ev : Operand → Value} {q : Oper} {w : World} {x y : Operand} {ty g o t n c : Nat} {a : Option Addr} {cs : Array Value} (hu : ty = 25 ∨ ty = 26) (ho : q.op = .store ty x y) (hx : ev x = .pointer (some ⟨g, o, none⟩)) (hy : ev y = .slice a n c) (h : Blk w g t cs) (hlt : o < cs.size) : (execOp ev q).run Tryz.prog w = .ok .skip (w.setCell ⟨g, o, none⟩ (.slice a n c)) := by
 have hc : w.cell? ⟨g, o, none⟩ = some cs[o] := by rw [h.cell]; exact Array.getElem?_eq_getElem hlt
 have hf : w.frozen? ⟨g, o, none⟩ = false := h.frozen o
 have hu25 := Tryz.underlying25
 have hu26 := Tryz.underlying26
 generalize cs[o] = old at hc
 unfold execOp
 rcases hu with rfl | rfl
 ·simp only [ho, hx, hy]
  go_simp
 ·simp only [ho, hx, hy]
  go_simp
theorem wpList_stopS {ops : Array Oper} {rest : List Oper} {o : Oper} {act : Act} {Q : Exit → Act → World → Prop} {W : World} {x y : Operand} {ty : TypeId} (_hu : ty = 25 ∨ ty = 26) (_ho : o.op = .store ty x y) (k : Halt_ (wpList Tryz.prog ops Q (o :: rest) act W)) : wpList Tryz.prog ops Q (o :: rest) act W := k.out
theorem put_step {D out : List En} {x : En} (h : (D ++ [x]).Pairwise fun a b => ¬ (a.r = b.r ∧ a.s = b.s)) (hp : out.Perm D) (ho : out.Pairwise En.Ahead) : (putE x out).Perm (D ++ [x]) ∧ (putE x out).Pairwise En.Ahead := by
 refine ⟨(putE_perm x out).trans ((hp.cons x).trans (by simpa using (List.perm_append_comm (l₁ := [x]) (l₂ := D)))), putE_ord ho fun y hy hl => ?_⟩
 rw [List.pairwise_append] at h
 exact h.2.2 y (hp.mem_iff.1 hy) x (by simp) ⟨hl.2.1.symm, hl.2.2.symm⟩
theorem sub_a {s t : Sta} {k : Nat} : ((s.es.take k).filter (keepA t)).Sublist (bothE s t) := ((List.take_sublist k s.es).filter _).trans (List.sublist_append_left _ _)
theorem sub_b {s t : Sta} {k : Nat} : (s.es.filter (keepA t) ++ (t.es.take k).filter (keepB s)).Sublist (bothE s t) := (List.Sublist.refl _).append ((List.take_sublist k t.es).filter _)
structure TkJ (s t : Sta) (k : Nat) (T : List La) : Prop where
 up : T.Pairwise fun a b => a.c < b.c
 tk : ∀ c, tkOf T c = mtk (tkOf s.ts c) (tkOf (t.ts.take k) c)
 len : T.length ≤ s.ts.length + k
theorem TkJ.start {s : Sta} (t : Sta) (h : s.ts.Pairwise fun a b => a.c < b.c) : TkJ s t 0 s.ts := ⟨h, fun c => by simp only [List.take_zero, tkOf_nil]; cases tkOf s.ts c <;> rfl, by omega⟩
theorem tkOf_behind {l : List La} {y : La} (c : Nat) : tkOf (l ++ [y]) c = (tkOf l c).or (if y.c = c then some y.t else none) := by
 induction l with
 | nil => simp [tkOf_cons, tkOf_nil]
 | cons x l ih =>
  rw [List.cons_append, tkOf_cons, tkOf_cons, ih]
  by_cases h : x.c = c <;> simp [h]
theorem TkJ.next {s t : Sta} {k : Nat} {T : List La} {y : La} (h : TkJ s t k T) (hup : t.ts.Pairwise fun a b => a.c < b.c) (hy : t.ts[k]? = some y) : TkJ s t (k + 1) (ticked y T) := by
 refine ⟨ticked_up h.up, fun c => ?_, by have := ticked_len y T; have := h.len; omega⟩
 rw [tkOf_ticked h.up, List.take_add_one, hy, h.tk]
 simp only [Option.toList_some]
 rw [tkOf_behind]
 by_cases e : c = y.c
 ·subst e
  have hno : tkOf (t.ts.take k) y.c = none := tkOf_none fun z hz e => by
   obtain ⟨i, hi, hzi⟩ := mem_take_get hz
   have := up_get hup hi hzi hy
   omega
  rw [if_pos rfl, hno]
  simp only [Option.none_or, if_true]
  cases tkOf s.ts y.c with
  | none => simp [mtk, maxO]
  | some x => simp [mtk, maxO]
 ·rw [if_neg e, if_neg (fun h => e h.symm), Option.or_none]
structure Ry0 (w W : World) (s t : Sta) (p0 p1 pr : Nat) (a : Option Addr) (n c : Nat) (b : Option Addr) (m d : Nat) (a2 : Option Addr) (n2 c2 : Nat) (b2 : Option Addr) (m2 d2 : Nat) (z : V) : Prop where
 sa : Blk W p0 28 (sv s.v a n c b m d)
 sb : Blk W p1 28 (sv t.v a2 n2 c2 b2 m2 d2)
 res : Blk W pr 28 (sv z none 0 0 none 0 0)
 old : Below w.heap.size w W
theorem Ry0.below {w W W' : World} {s t : Sta} {p0 p1 pr n c m d n2 c2 m2 d2 : Nat} {a b a2 b2 : Option Addr} {z : V} (h : Ry0 w W s t p0 p1 pr a n c b m d a2 n2 c2 b2 m2 d2 z) (hb : Below W.heap.size W W') : Ry0 w W' s t p0 p1 pr a n c b m d a2 n2 c2 b2 m2 d2 z := ⟨h.sa.below hb, h.sb.below hb, h.res.below hb, h.old.trans (hb.mono h.old.size)⟩
theorem ry0_new (w : World) (s t : Sta) (a : Option Addr) (n c : Nat) (b : Option Addr) (m d : Nat) (a2 : Option Addr) (n2 c2 : Nat) (b2 : Option Addr) (m2 d2 : Nat) (z : V) : Ry0 w (((w.alloc (.cells (sv s.v a n c b m d) 28)).alloc (.cells (sv t.v a2 n2 c2 b2 m2 d2) 28)).alloc (.cells (sv z none 0 0 none 0 0) 28)) s t w.heap.size (w.heap.size + 1) (w.heap.size + 1 + 1) a n c b m d a2 n2 c2 b2 m2 d2 z := by
 have h1 := Blk.new w 28 (sv s.v a n c b m d)
 have h2 := Blk.new (w.alloc (.cells (sv s.v a n c b m d) 28)) 28 (sv t.v a2 n2 c2 b2 m2 d2)
 have h3 := Blk.new ((w.alloc (.cells (sv s.v a n c b m d) 28)).alloc (.cells (sv t.v a2 n2 c2 b2 m2 d2) 28)) 28 (sv z none 0 0 none 0 0)
 have b2' := below_one (w.alloc (.cells (sv s.v a n c b m d) 28)) (.cells (sv t.v a2 n2 c2 b2 m2 d2) 28)
 have b3 := below_one ((w.alloc (.cells (sv s.v a n c b m d) 28)).alloc (.cells (sv t.v a2 n2 c2 b2 m2 d2) 28)) (.cells (sv z none 0 0 none 0 0) 28)
 simp only [World.size_alloc] at h2 h3
 exact ⟨(h1.below b2').below b3, h2.below b3, h3, ((below_one w _).trans (b2'.mono (by simp))).trans (b3.mono (by simp; omega))⟩
structure RyA (w W : World) (s t : Sta) (p0 p1 pr p6 : Nat) (a : Option Addr) (n c : Nat) (b : Option Addr) (m d : Nat) (a2 : Option Addr) (n2 c2 : Nat) (b2 : Option Addr) (m2 d2 : Nat) (z u : V) : Prop extends Ry0 w W s t p0 p1 pr a n c b m d a2 n2 c2 b2 m2 d2 z where
 new : Blk W p6 28 (sv u none 0 0 b m d)
theorem RyA.below {w W W' : World} {s t : Sta} {p0 p1 pr p6 n c m d n2 c2 m2 d2 : Nat} {a b a2 b2 : Option Addr} {z u : V} (h : RyA w W s t p0 p1 pr p6 a n c b m d a2 n2 c2 b2 m2 d2 z u) (hb : Below W.heap.size W W') : RyA w W' s t p0 p1 pr p6 a n c b m d a2 n2 c2 b2 m2 d2 z u := ⟨h.toRy0.below hb, h.new.below hb⟩
structure RyB (w W : World) (s t : Sta) (p0 p1 pr p6 : Nat) (a : Option Addr) (n c : Nat) (b : Option Addr) (m d : Nat) (a2 : Option Addr) (n2 c2 : Nat) (b2 : Option Addr) (m2 d2 : Nat) (z u : V) (W0 : World) (q : Nat) (x : En) : Prop extends RyA w W s t p0 p1 pr p6 a n c b m d a2 n2 c2 b2 m2 d2 z u where
 bx : Blk W q 93 x.arr
 since : Below W0.heap.size W0 W
theorem RyB.below {w W W' : World} {s t : Sta} {p0 p1 pr p6 n c m d n2 c2 m2 d2 : Nat} {a b a2 b2 : Option Addr} {z u : V} {W0 : World} {q : Nat} {x : En} (h : RyB w W s t p0 p1 pr p6 a n c b m d a2 n2 c2 b2 m2 d2 z u W0 q x) (hb : Below W.heap.size W W') : RyB w W' s t p0 p1 pr p6 a n c b m d a2 n2 c2 b2 m2 d2 z u W0 q x := ⟨h.toRyA.below hb, h.bx.below hb, h.since.trans (hb.mono h.since.size)⟩
structure RyT (w W : World) (s t : Sta) (p0 p1 pr p6 : Nat) (a : Option Addr) (n c : Nat) (b : Option Addr) (m d : Nat) (a2 : Option Addr) (n2 c2 : Nat) (b2 : Option Addr) (m2 d2 : Nat) (z u : V) (W0 : World) : Prop extends RyA w W s t p0 p1 pr p6 a n c b m d a2 n2 c2 b2 m2 d2 z u where
 sinceT : Below W0.heap.size W0 W
theorem RyT.below {w W W' : World} {s t : Sta} {p0 p1 pr p6 n c m d n2 c2 m2 d2 : Nat} {a b a2 b2 : Option Addr} {z u : V} {W0 : World} (h : RyT w W s t p0 p1 pr p6 a n c b m d a2 n2 c2 b2 m2 d2 z u W0) (hb : Below W.heap.size W W') : RyT w W' s t p0 p1 pr p6 a n c b m d a2 n2 c2 b2 m2 d2 z u W0 := ⟨h.toRyA.below hb, h.sinceT.trans (hb.mono h.sinceT.size)⟩
def Far (a : Option Addr) (n p6 pr : Nat) : Prop := ∀ ad, a = some ad → n ≠ 0 → ad.block ≠ p6 ∧ ad.block ≠ pr
theorem far_nil (n p6 pr : Nat) : Far none n p6 pr := fun ad h => by cases h
theorem far_own {W : World} {e size B n cap p6 pr : Nat} {a : Option Addr} {vs : List (List Value)} (h : OwnG W e size B a n cap vs) (h6 : p6 < B) (hr : pr < B) : Far a n p6 pr := fun ad ha _ => by have := (h.lt ad ha).1; omega
theorem ll_lt {w : World} {a : Option Addr} {n : Nat} {l : List La} (h : LL w a n l) : ∀ ad, a = some ad → n ≠ 0 → ad.block < w.heap.size := by
 intro ad ha h0
 obtain ⟨b, off, x, e, _, hr⟩ := LL.at h (i := 0) (by omega)
 rw [ha] at e
 obtain rfl := Option.some.inj e
 exact block_lt_of_cell (hr 0 _ rfl)
def RMgP (s t : Sta) (w : World) (e : Ending) (w' : World) : Prop := ∃ er m, MgA s t er m ∧ RStP m er w e w'
set_option maxRecDepth 100000 in
set_option maxHeartbeats 32000000 in
theorem rmerge_any {s t : Sta} {a b a2 b2 : Option Addr} {n c m d n2 c2 m2 d2 : Nat} {w : World} (hs : SL w s a n b m) (ht : SL w t a2 n2 b2 m2) (hn : n < 200000) (hm : m < 200000) (hn2 : n2 < 200000) (hm2 : m2 < 200000) : Calls Tryz.prog 22 #[.agg (sv s.v a n c b m d), .agg (sv t.v a2 n2 c2 b2 m2 d2)] w (RMgP s t w) := by
 have HS := Lib.hid hs
 have HT := Lib.hid ht
 have HSN := Lib.hid hs.es.len'
 have HTN := Lib.hid ht.es.len'
 have HSM := Lib.hid hs.ts.len'
 have HTM := Lib.hid ht.ts.len'
 obtain ⟨z, hz⟩ : ∃ z, V.zero = z := ⟨_, rfl⟩
 have HZ := Lib.hid hz
 obtain ⟨ze, hze⟩ : ∃ z, En.zero = z := ⟨_, rfl⟩
 have HZN := Lib.hid hze
 have hb1 := fun (v : V) x y w => box28 v x y w
 have H0 := Lib.hid (ry0_new w s t a n c b m d a2 n2 c2 b2 m2 d2 z)
 have HZE : Hid (∀ er W, MgA s t er Sta.zero → Below w.heap.size w W → RMgP s t w (.returned (.tuple #[.agg (sv z none 0 0 none 0 0), .int .i64 (er : Int)])) W) := Lib.hid (fun er W he hb =>
  ⟨er, _, he, none, 0, 0, none, 0, 0, by rw [← hz]; rfl, ⟨GL.nil _ _ _, GL.nil _ _ _⟩, hb⟩)
 clear hs ht hz hze
 go_enter Tryz.func22, Tryz.ntmps22
 go_upto_region 1 with (refine wpList_run rfl (exec_alloc28z HZ.out rfl) ?_)
 clear hb1
 generalize ((w.alloc (.cells (sv s.v a n c b m d) 28)).alloc (.cells (sv t.v a2 n2 c2 b2 m2 d2) 28)).alloc (.cells (sv z none 0 0 none 0 0) 28) = w0 at H0
 obtain ⟨p0, hp0⟩ : ∃ p, w.heap.size = p := ⟨_, rfl⟩
 obtain ⟨p1, hp1⟩ : ∃ p, p0 + 1 = p := ⟨_, rfl⟩
 obtain ⟨pr, hpr⟩ : ∃ p, p1 + 1 = p := ⟨_, rfl⟩
 have HPS : Hid (w.heap.size = p0 ∧ p0 + 1 = p1 ∧ p1 + 1 = pr) := Lib.hid ⟨hp0, hp1, hpr⟩
 have H1 : Hid (Ry0 w w0 s t p0 p1 pr a n c b m d a2 n2 c2 b2 m2 d2 z) := Lib.hid (by have h := H0.out; rw [hp0, hp1, hpr] at h; exact h)
 rw [hp0, hp1, hpr]
 clear hp0 hp1 hpr H0
 go_wp2_with (refine wpList_run rfl (exec_load28 rfl rfl H1.out.sa) ?_)
 refine (rRight_any (HS.out.below H1.out.old) (by omega) (by omega)).mono ?_
 rintro e w1 ⟨r, rfl, hr, hb⟩
 have H2 := Lib.hid (H1.out.below hb)
 clear hb H1
 cases r
 ·have HF : Hid (MgA s t 2 Sta.zero) := Lib.hid (.not (fun h => by have := hr.2 h.1; cases this))
  clear hr
  go_wp2_with (first | (refine wpList_run rfl (exec_zero28 HZ.out rfl) ?_) | (refine wpList_stop28 rfl ?_))
  refine ⟨?_⟩
  refine wpList_void rfl rfl (exec_store28 (u := z) (a := none) (n := 0) (c := 0) (b := none) (m := 0) (d := 0) rfl rfl rfl H2.out.res) ?_
  have hks := Kept.setRow w1 pr (sv z none 0 0 none 0 0)
  have HB3 : Hid (Below w.heap.size w (w1.setRow pr (sv z none 0 0 none 0 0))) := Lib.hid (H2.out.old.trans (hks.below H2.out.old.size (fun k hk => by have := HPS.out; omega)))
  have HR3 : Hid (Blk (w1.setRow pr (sv z none 0 0 none 0 0)) pr 28 (sv z none 0 0 none 0 0)) := Lib.hid H2.out.res.row
  generalize w1.setRow pr (sv z none 0 0 none 0 0) = w3 at HB3 HR3 hks
  clear hks
  go_wp2_with fail
  exact bodyPost_ret (v := .tuple #[.agg (sv z none 0 0 none 0 0), .int .i64 ((2 : Nat) : Int)]) (ret28_two rfl rfl rfl HR3.out) rfl (HZE.out 2 _ HF.out HB3.out)
 ·have HR := Lib.hid (hr.1 rfl)
  clear hr
  go_wp2_with (refine wpList_runW (exec_load28 rfl rfl H2.out.sb) (by kernel_rfl) ?_)
  refine (rRight_any (HT.out.below H2.out.old) (by omega) (by omega)).mono ?_
  rintro e w2 ⟨r, rfl, hr, hb⟩
  have H3 := Lib.hid (H2.out.below hb)
  clear hb H2
  cases r
  ·have HF : Hid (MgA s t 2 Sta.zero) := Lib.hid (.not (fun h => by have := hr.2 h.2; cases this))
   clear hr
   go_wp2_with (first | (refine wpList_run rfl (exec_zero28 HZ.out rfl) ?_) | (refine wpList_stop28 rfl ?_))
   refine ⟨?_⟩
   refine wpList_void rfl rfl (exec_store28 (u := z) (a := none) (n := 0) (c := 0) (b := none) (m := 0) (d := 0) rfl rfl rfl H3.out.res) ?_
   have hks := Kept.setRow w2 pr (sv z none 0 0 none 0 0)
   have HB3 : Hid (Below w.heap.size w (w2.setRow pr (sv z none 0 0 none 0 0))) := Lib.hid (H3.out.old.trans (hks.below H3.out.old.size (fun k hk => by have := HPS.out; omega)))
   have HR3 : Hid (Blk (w2.setRow pr (sv z none 0 0 none 0 0)) pr 28 (sv z none 0 0 none 0 0)) := Lib.hid H3.out.res.row
   generalize w2.setRow pr (sv z none 0 0 none 0 0) = w3 at HB3 HR3 hks
   clear hks
   go_wp2_with fail
   exact bodyPost_ret (v := .tuple #[.agg (sv z none 0 0 none 0 0), .int .i64 ((2 : Nat) : Int)]) (ret28_two rfl rfl rfl HR3.out) rfl (HZE.out 2 _ HF.out HB3.out)
  ·have HR2 := Lib.hid (hr.1 rfl)
   clear hr
   have HONE := Lib.hid (both_one HR.out HR2.out)
   obtain ⟨u, hu⟩ : ∃ u, V.join s.v t.v = u := ⟨_, rfl⟩
   have HJ : Hid (∀ W, Calls Tryz.prog 39 #[.agg s.v.arr, .agg t.v.arr] W (Says (.agg u.arr) W)) := Lib.hid (fun W => hu ▸ rjoin_any s.v t.v W)
   have HU := Lib.hid hu
   clear hu
   go_wp2_with fail
   refine wp_cut (fun act a' w' => ∃ p6, a' = ((((((((act.put (some 24) (.pointer (some ⟨p0, 0, none⟩))).put (some 25) (.agg s.v.arr)).put (some 26) (.pointer (some ⟨p1, 0, none⟩))).put (some 27) (.agg t.v.arr)).put (some 28) (.agg u.arr)).put (some 29) (.pointer (some ⟨p0, 17, none⟩))).put (some 30) (.slice b m d)).put (some 31) (.agg (sv u none 0 0 b m d))).put (some 6) (.pointer (some ⟨p6, 0, none⟩)) ∧ Hid (RyA w w' s t p0 p1 pr p6 a n c b m d a2 n2 c2 b2 m2 d2 z u) ∧ Hid (pr < p6)) ?after ?reg
   case reg =>
    refine wp_region_held_drew (S := fun w' => Ry0 w w' s t p0 p1 pr a n c b m d a2 n2 c2 b2 m2 d2 z) (by kernel_rfl) (H3.out.below (drew_below _)) (fun hS => ?_)
    refine held_tk 0 24 (.pointer (some ⟨p0, 0, none⟩)) rfl rfl (by kernel_rfl) (fun _ _ _ h => by cases h.1) (fun _ _ => (by kernel_rfl)) hS ?_
    simp only [Act.put, ap1, ap2, ap3]
    refine held_tk 1 25 (.agg s.v.arr) rfl rfl (by kernel_rfl) (fun _ _ _ h => by cases h.1) (fun _ h => exec_stV (v := s.v) rfl rfl h.sa) hS ?_
    simp only [Act.put, ap1, ap2, ap3]
    refine held_tk 2 26 (.pointer (some ⟨p1, 0, none⟩)) rfl rfl (by kernel_rfl) (fun _ _ _ h => by cases h.1) (fun _ _ => (by kernel_rfl)) hS ?_
    simp only [Act.put, ap1, ap2, ap3]
    refine held_tk 3 27 (.agg t.v.arr) rfl rfl (by kernel_rfl) (fun _ _ _ h => by cases h.1) (fun _ h => exec_stV (v := t.v) rfl rfl h.sb) hS ?_
    simp only [Act.put, ap1, ap2, ap3]
    refine held_tk 5 29 (.pointer (some ⟨p0, 17, none⟩)) rfl rfl (by kernel_rfl) (fun _ _ _ h => by cases h.1) (fun _ _ => (by kernel_rfl)) hS ?_
    simp only [Act.put, ap1, ap2, ap3]
    refine held_tk 6 30 (.slice b m d) rfl rfl (by kernel_rfl) (fun _ _ _ h => by cases h.1) (fun _ h => exec_cell rfl rfl (load_cell (by kernel_rfl) (stc17 h.sa))) hS ?_
    simp only [Act.put, ap1, ap2, ap3]
    refine wpAnyH_ready (rs := [4, 8]) (by kernel_rfl) (by simp) (br_callP 4 28 39 #[.agg s.v.arr, .agg t.v.arr] rfl rfl (by kernel_rfl) (by kernel_rfl) (HJ.out _) (fun e w6 hP => ?fst) (br_exec 8 6 (.pointer (some ⟨w2.drew.heap.size, 0, none⟩)) rfl rfl (by kernel_rfl) (exec_alloc28z HZ.out rfl) (hS.below (below_one _ _)) ?snd AllReadyH.nil))
    case fst =>
     obtain ⟨rfl, hb6⟩ := hP
     refine ⟨_, rfl, hS.below hb6, fun hS => ?_⟩
     simp only [Act.put, ap1, ap2, ap3]
     refine held_tk 7 31 (.agg (sv u none 0 0 b m d)) rfl rfl (by kernel_rfl) (fun _ _ _ h => by cases h.1) (fun _ _ => exec_build28b rfl rfl rfl) hS ?_
     simp only [Act.put, ap1, ap2, ap3]
     have hbo := bo_laid w6 28 (sv z none 0 0 none 0 0) (sv u none 0 0 b m d)
     refine held_exec 8 6 (.pointer (some ⟨w6.heap.size, 0, none⟩)) rfl rfl (by kernel_rfl) (by kernel_rfl) (exec_alloc28z HZ.out rfl) (hS.below (below_one _ _)) ?_
     simp only [Act.put, ap1, ap2, ap3]
     refine held_void 9 rfl rfl (by kernel_rfl) (by kernel_rfl) (exec_store28 rfl rfl rfl (Blk.new w6 28 _)) (hS.below hbo.old) ?_
     have HQ0 : Hid (RyA w ((w6.alloc (.cells (sv z none 0 0 none 0 0) 28)).setRow w6.heap.size (sv u none 0 0 b m d)) s t p0 p1 pr w6.heap.size a n c b m d a2 n2 c2 b2 m2 d2 z u) := Lib.hid ⟨hS.below hbo.old, hbo.one⟩
     have HP6 : Hid (pr < w6.heap.size) := Lib.hid hS.res.lt
     clear hbo hS hb6
     generalize (w6.alloc (.cells (sv z none 0 0 none 0 0) 28)).setRow w6.heap.size (sv u none 0 0 b m d) = w5 at HQ0 ⊢
     generalize w6.heap.size = p6 at HQ0 HP6 ⊢
     refine wpAnyH_done (by kernel_rfl) ?_ _
     exact ⟨rfl, p6, rfl, HQ0, HP6⟩
    case snd =>
     simp only [Act.put, ap1, ap2, ap3]
     have hS8 := hS.below (below_one w2.drew (.cells (sv z none 0 0 none 0 0) 28))
     have hB8 := Blk.new w2.drew 28 (sv z none 0 0 none 0 0)
     have HP6 : Hid (pr < w2.drew.heap.size) := Lib.hid hS.res.lt
     clear hS
     generalize w2.drew.alloc (.cells (sv z none 0 0 none 0 0) 28) = w8 at hS8 hB8 ⊢
     generalize w2.drew.heap.size = p6 at hB8 HP6 ⊢
     refine held_callP 4 28 39 #[.agg s.v.arr, .agg t.v.arr] rfl (by kernel_rfl) rfl (by kernel_rfl) (by kernel_rfl) (HJ.out _) (fun e w6 hP => ?_)
     obtain ⟨rfl, hb6⟩ := hP
     refine ⟨_, rfl, hS8.below hb6, fun hS => ?_⟩
     simp only [Act.put, ap1, ap2, ap3]
     refine held_tk 7 31 (.agg (sv u none 0 0 b m d)) rfl rfl (by kernel_rfl) (fun _ _ _ h => by cases h.1) (fun _ _ => exec_build28b rfl rfl rfl) hS ?_
     simp only [Act.put, ap1, ap2, ap3]
     have hk := Kept.setRow w6 p6 (sv u none 0 0 b m d)
     have hS9 : Ry0 w (w6.setRow p6 (sv u none 0 0 b m d)) s t p0 p1 pr a n c b m d a2 n2 c2 b2 m2 d2 z := ⟨hS.sa.kept hk (by have := HPS.out; have := HP6.out; omega), hS.sb.kept hk (by have := HPS.out; have := HP6.out; omega), hS.res.kept hk (by have := HPS.out; have := HP6.out; omega), hS.old.trans (hk.below hS.old.size (fun k hk => by have := HPS.out; have := HP6.out; omega))⟩
     refine held_void 9 rfl rfl (by kernel_rfl) (by kernel_rfl) (exec_store28 rfl rfl rfl (hB8.below hb6)) hS9 ?_
     have HQ0 : Hid (RyA w (w6.setRow p6 (sv u none 0 0 b m d)) s t p0 p1 pr p6 a n c b m d a2 n2 c2 b2 m2 d2 z u) := Lib.hid ⟨hS9, (hB8.below hb6).row⟩
     clear hk hS hS9 hS8 hB8 hb6
     generalize w6.setRow p6 (sv u none 0 0 b m d) = w5 at HQ0 ⊢
     refine wpAnyH_done (by kernel_rfl) ?_ _
     exact ⟨rfl, p6, rfl, HQ0, HP6⟩
   clear HJ H3
   rintro a' w5 ⟨p6, rfl, HQ0, HP6⟩
   simp only [Act.put, ap1, ap2, ap3]
   go_wp2_with fail
   go_loopw [7, 8] (fun lv i wr => ∃ (k n1 c1 : Nat) (a1 : Option Addr) (out : List En), k ≤ n ∧ n1 ≤ k ∧ lv = .slice a1 n1 c1 ∧ i = .int .i64 (k : Int) ∧ Hid (out.Perm ((s.es.take k).filter (keepA t)) ∧ out.Pairwise En.Ahead) ∧ Hid (noClash t (s.es.take k)) ∧ Hid (EL wr a1 n1 out) ∧ Hid (Far a1 n1 p6 pr) ∧ Hid (RyA w wr s t p0 p1 pr p6 a n c b m d a2 n2 c2 b2 m2 d2 z u)) (fun _ i _ => n - (intOf i).toNat)
   case atStart => exact ⟨0, 0, 0, none, [], by omega, by omega, rfl, rfl, Lib.hid ⟨by simp, by simp⟩, Lib.hid (fun x hx => by simp at hx), Lib.hid (GL.nil _ _ _), Lib.hid (far_nil _ _ _), HQ0⟩
   case round =>
    obtain ⟨k, n1, c1, a1, out, hk, hn1, rfl, rfl, HPM, HNC, HEL, HFA, HQA⟩ := hrel
    clear HQ0
    have c16 := stc16 HQA.out.sa
    by_cases hlt : k < n
    ·obtain ⟨g, off, x, rfl, hx, hrw⟩ := EL.at_base HS.out.es hlt
     have HX := Lib.hid hx
     have HRW := Lib.hid hrw
     clear hx hrw
     go_wp2_with (first | (refine wpList_run rfl (exec_idx93 (i := k) rfl rfl rfl rfl hlt) ?_) | (refine wpList_run rfl (exec_ld93 (p := x) rfl rfl (HRW.out _ HQA.out.old)) ?_) | (refine wpList_run rfl (exec_alloc93z HZN.out rfl) ?_) | (refine wpList_stop93 rfl ?_))
     refine ⟨?_⟩
     refine wpList_void rfl rfl (exec_store93 (p := ze) (u := x) rfl rfl rfl (Blk.new wr 93 ze.arr)) ?_
     have hbo := bo_laid wr 93 ze.arr x.arr
     have HQB : Hid (RyB w ((wr.alloc (.cells ze.arr 93)).setRow wr.heap.size x.arr) s t p0 p1 pr p6 _ n c b m d _ n2 c2 b2 m2 d2 z u wr wr.heap.size x) := Lib.hid ⟨HQA.out.below hbo.old, hbo.one, hbo.old⟩
     clear hbo c16
     generalize (wr.alloc (.cells ze.arr 93)).setRow wr.heap.size x.arr = w1 at HQB ⊢
     generalize wr.heap.size = q at HQB ⊢
     go_wp2_with (first | (refine wpList_run rfl (exec_load28 rfl rfl HQB.out.sb) ?_) | (refine wpList_run rfl (exec_edot (e := x) rfl rfl HQB.out.bx) ?_))
     refine (find_any (HT.out.below HQB.out.old) (by omega) x.r x.s).mono ?_
     rintro e w2 ⟨v, rfl, hf, hb⟩
     have HQ := Lib.hid (HQB.out.below hb)
     clear hb HQB
     have HTFQ := Lib.hid (take_filter (p := keepA t) HX.out)
     rcases hf with ⟨rfl, hno⟩ | ⟨kk, y, rfl, hy, e1, e2⟩
     ·have HNC2 : Hid (noClash t (s.es.take (k + 1))) := Lib.hid (by
       intro x' hx' y' hy' e1 e2
       rw [List.take_add_one, HX.out] at hx'
       rcases List.mem_append.1 hx' with h | h
       ·exact HNC.out x' h y' hy' e1 e2
       ·obtain rfl : x' = x := by simpa using h
        exact absurd ⟨e1.symm, e2.symm⟩ (hno y' hy'))
      have HKP : Hid (keepA t x = !V.hasB t.v x.r x.s) := Lib.hid (by
       have : hasE t.es x = false := by
        unfold hasE
        rw [List.any_eq_false]
        intro y' hy' hh
        exact hno y' hy' (by simpa using hh)
       unfold keepA
       rw [this, Bool.false_or])
      clear hno
      go_wp2_with fail
      refine wp_region_held_drew (S := fun w' => RyB w w' s t p0 p1 pr p6 (some ⟨g, off, none⟩) n c b m d a2 n2 c2 b2 m2 d2 z u wr q x) (by kernel_rfl) (HQ.out.below (drew_below _)) (fun hS => ?_)
      refine held_tk 0 48 (.int .i64 (-1)) rfl rfl (by kernel_rfl) (fun _ _ _ h => h) (fun _ _ => rfl) hS ?_
      simp only [Act.put, ap1, ap2, ap3]
      refine held_tk 1 49 (.bool false) rfl rfl (by kernel_rfl) (fun _ _ _ h => h) (fun _ _ => exec_geqI rfl rfl rfl (by decide)) hS ?_
      simp only [Act.put, ap1, ap2, ap3]
      refine held_tk 2 50 (.bool false) rfl rfl (by kernel_rfl) (fun _ _ _ h => h) (fun _ _ => rfl) hS ?_
      simp only [Act.put, ap1, ap2, ap3]
      refine held_sk 3 51 rfl rfl (by kernel_rfl) (fun _ _ _ h => h) hS ?_
      simp only [Act.put, ap1, ap2, ap3]
      refine held_sk 4 52 rfl rfl (by kernel_rfl) (fun _ _ _ h => h) hS ?_
      simp only [Act.put, ap1, ap2, ap3]
      refine held_sk 5 53 rfl rfl (by kernel_rfl) (fun _ _ _ h => h) hS ?_
      simp only [Act.put, ap1, ap2, ap3]
      refine held_sk 6 54 rfl rfl (by kernel_rfl) (fun _ _ _ h => h) hS ?_
      simp only [Act.put, ap1, ap2, ap3]
      refine held_sk 7 55 rfl rfl (by kernel_rfl) (fun _ _ _ h => h) hS ?_
      simp only [Act.put, ap1, ap2, ap3]
      refine held_sk 8 56 rfl rfl (by kernel_rfl) (fun _ _ _ h => h) hS ?_
      simp only [Act.put, ap1, ap2, ap3]
      refine held_sk 9 57 rfl rfl (by kernel_rfl) (fun _ _ _ h => h) hS ?_
      simp only [Act.put, ap1, ap2, ap3]
      refine held_tk 10 58 (.bool false) rfl rfl (by kernel_rfl) (fun _ _ _ h => h) (fun _ _ => rfl) hS ?_
      simp only [Act.put, ap1, ap2, ap3]
      refine wpAnyH_done (by kernel_rfl) ?_ _
      have HSP := Lib.hid hS
      clear hS
      go_wp2_with (first | (refine wpList_runW (exec_stV (v := t.v) rfl rfl HSP.out.sb) (by kernel_rfl) ?_) | (refine wpList_runW (exec_edot (e := x) rfl rfl HSP.out.bx) (by kernel_rfl) ?_))
      refine (rhas_any t.v x.r x.s _ x.hr x.hs).mono ?_
      rintro _ w4 ⟨rfl, hb⟩
      have HSQ := Lib.hid (HSP.out.below hb)
      clear hb HSP
      generalize V.hasB t.v x.r x.s = hh at HKP ⊢
      cases hh
      ·have HTF : Hid ((s.es.take (k + 1)).filter (keepA t) = (s.es.take k).filter (keepA t) ++ [x]) := Lib.hid (by rw [HTFQ.out, if_pos (by rw [HKP.out]; rfl)])
       clear HTFQ HKP
       go_wp2_with (first | (refine wpList_run rfl (exec_load93 (p := x) rfl rfl HSQ.out.bx) ?_))
       refine (put_any (HEL.out.below HSQ.out.since) (by omega) x).mono ?_
       rintro _ w7 ⟨a7, c7, rfl, ho7, hb7⟩
       have hlen7 : (cellsE (putE x out)).length = n1 + 1 := by have h1 := (putE_perm x out).length_eq; have h2 := HEL.out.len'; simp only [cellsE, List.length_map]; simp only [List.length_cons] at h1; omega
       rw [hlen7] at ho7 ⊢
       have HEL7 : Hid (EL w7 a7 (n1 + 1) (putE x out)) := Lib.hid ho7.gl
       have HFA7 : Hid (Far a7 (n1 + 1) p6 pr) := Lib.hid (far_own ho7 HSQ.out.new.lt HSQ.out.res.lt)
       have HQ7 := Lib.hid (HSQ.out.toRyA.below hb7)
       clear ho7 hb7 hlen7
       go_wp2_with fail
       go_roundw
       case rel => exact ⟨k + 1, n1 + 1, c7, a7, putE x out, hlt, by omega, rfl, by go_num, Lib.hid (by rw [HTF.out]; exact put_step (HONE.out.sublist (by rw [← HTF.out]; exact sub_a)) HPM.out.1 HPM.out.2), HNC2, HEL7, HFA7, HQ7⟩
       case measure => simp [intOf]; omega
      ·have HTF : Hid ((s.es.take (k + 1)).filter (keepA t) = (s.es.take k).filter (keepA t)) := Lib.hid (by rw [HTFQ.out, if_neg (by rw [HKP.out]; simp), List.append_nil])
       clear HTFQ HKP
       go_wp2_with fail
       go_roundw
       case rel => exact ⟨k + 1, n1, c1, a1, out, hlt, by omega, rfl, by go_num, Lib.hid (by rw [HTF.out]; exact HPM.out), HNC2, Lib.hid (HEL.out.below HSQ.out.since), HFA, Lib.hid HSQ.out.toRyA⟩
       case measure => simp [intOf]; omega
     ·have hkk : kk < n2 := by have h1 := (List.getElem?_eq_some_iff.1 hy).1; have h2 := HTN.out; omega
      obtain ⟨g2, off2, y', rfl, hy', hry⟩ := EL.at_base HT.out.es hkk
      obtain rfl := Option.some.inj (hy'.symm.trans hy)
      have HRY := Lib.hid hry
      have HY := Lib.hid hy
      have hgk : decide ((0 : Int) ≤ (kk : Int)) = true := by simp
      have HE12 := Lib.hid (And.intro e1 e2)
      clear hy hy' hry e1 e2
      by_cases hyx : y' = x
      ·have hq : (!decide (y' = x)) = false := by simp [hyx]
       have HTF : Hid ((s.es.take (k + 1)).filter (keepA t) = (s.es.take k).filter (keepA t) ++ [x]) := Lib.hid (by
        have : keepA t x = true := by
         unfold keepA hasE
         rw [Bool.or_eq_true, List.any_eq_true]
         exact .inl ⟨y', List.mem_of_getElem? HY.out, by simp [hyx]⟩
        rw [HTFQ.out, if_pos this])
       have HNC2 : Hid (noClash t (s.es.take (k + 1))) := Lib.hid (by
        intro x' hx' y2 hy2 e1 e2
        rw [List.take_add_one, HX.out] at hx'
        rcases List.mem_append.1 hx' with h | h
        ·exact HNC.out x' h y2 hy2 e1 e2
        ·obtain rfl : x' = x := by simpa using h
         subst hyx
         exact one_eq HR2.out.one (List.mem_of_getElem? HY.out) hy2 e1 e2)
       clear hyx HTFQ
       go_wp2_with fail
       refine wp_region_held_drew (S := fun w' => RyB w w' s t p0 p1 pr p6 (some ⟨g, off, none⟩) n c b m d (some ⟨g2, off2, none⟩) n2 c2 b2 m2 d2 z u wr q x) (by kernel_rfl) (HQ.out.below (drew_below _)) (fun hS => ?_)
       refine held_tk 0 48 (.int .i64 (kk : Int)) rfl rfl (by kernel_rfl) (fun _ _ _ h => h) (fun _ _ => rfl) hS ?_
       simp only [Act.put, ap1, ap2, ap3]
       refine held_tk 1 49 (.bool true) rfl rfl (by kernel_rfl) (fun _ _ _ h => h) (fun _ _ => exec_geqI rfl rfl rfl hgk) hS ?_
       simp only [Act.put, ap1, ap2, ap3]
       refine held_tk 2 50 (.bool true) rfl rfl (by kernel_rfl) (fun _ _ _ h => h) (fun _ _ => rfl) hS ?_
       simp only [Act.put, ap1, ap2, ap3]
       refine held_tk 3 51 (.pointer (some ⟨p1, 16, none⟩)) rfl rfl (by kernel_rfl) (fun _ _ _ h => h) (fun _ _ => (by kernel_rfl)) hS ?_
       simp only [Act.put, ap1, ap2, ap3]
       refine held_tk 4 52 (.slice (some ⟨g2, off2, none⟩) n2 c2) rfl rfl (by kernel_rfl) (fun _ _ _ h => h) (fun _ h => exec_cell rfl rfl (load_cell (by kernel_rfl) (stc16 h.sb))) hS ?_
       simp only [Act.put, ap1, ap2, ap3]
       refine held_tk 5 53 (.int .i64 (kk : Int)) rfl rfl (by kernel_rfl) (fun _ _ _ h => h) (fun _ _ => rfl) hS ?_
       simp only [Act.put, ap1, ap2, ap3]
       refine held_tk 6 54 (.pointer (some ⟨g2, off2 + kk * 7, none⟩)) rfl rfl (by kernel_rfl) (fun _ _ _ h => h) (fun _ _ => exec_idx93 (i := kk) rfl rfl rfl rfl hkk) hS ?_
       simp only [Act.put, ap1, ap2, ap3]
       refine held_tk 7 55 (.agg y'.arr) rfl rfl (by kernel_rfl) (fun _ _ _ h => h) (fun _ h => exec_ld93 (p := y') rfl rfl (HRY.out _ h.old)) hS ?_
       simp only [Act.put, ap1, ap2, ap3]
       refine held_tk 8 56 (.agg x.arr) rfl rfl (by kernel_rfl) (fun _ _ _ h => h) (fun _ h => exec_load93 (p := x) rfl rfl h.bx) hS ?_
       simp only [Act.put, ap1, ap2, ap3]
       refine held_tk 9 57 (.bool false) rfl rfl (by kernel_rfl) (fun _ _ _ h => h) (fun _ _ => exec_neq93 rfl rfl rfl hq) hS ?_
       simp only [Act.put, ap1, ap2, ap3]
       refine held_tk 10 58 (.bool false) rfl rfl (by kernel_rfl) (fun _ _ _ h => h) (fun _ _ => rfl) hS ?_
       simp only [Act.put, ap1, ap2, ap3]
       refine wpAnyH_done (by kernel_rfl) ?_ _
       have HSQ := Lib.hid hS
       clear hS
       obtain ⟨wX, hwX⟩ : ∃ W, w2.drew = W := ⟨_, rfl⟩
       rw [hwX] at HSQ ⊢
       clear hwX
       go_upto_region 13 with fail
       go_wp2_with (first | (refine wpList_run rfl (exec_load93 (p := x) rfl rfl HSQ.out.bx) ?_))
       refine (put_any (HEL.out.below HSQ.out.since) (by omega) x).mono ?_
       rintro _ w7 ⟨a7, c7, rfl, ho7, hb7⟩
       have hlen7 : (cellsE (putE x out)).length = n1 + 1 := by have h1 := (putE_perm x out).length_eq; have h2 := HEL.out.len'; simp only [cellsE, List.length_map]; simp only [List.length_cons] at h1; omega
       rw [hlen7] at ho7 ⊢
       have HEL7 : Hid (EL w7 a7 (n1 + 1) (putE x out)) := Lib.hid ho7.gl
       have HFA7 : Hid (Far a7 (n1 + 1) p6 pr) := Lib.hid (far_own ho7 HSQ.out.new.lt HSQ.out.res.lt)
       have HQ7 := Lib.hid (HSQ.out.toRyA.below hb7)
       clear ho7 hb7 hlen7
       go_wp2_with fail
       go_roundw
       case rel => exact ⟨k + 1, n1 + 1, c7, a7, putE x out, hlt, by omega, rfl, by go_num, Lib.hid (by rw [HTF.out]; exact put_step (HONE.out.sublist (by rw [← HTF.out]; exact sub_a)) HPM.out.1 HPM.out.2), HNC2, HEL7, HFA7, HQ7⟩
       case measure => simp [intOf]; omega
      ·have hq : (!decide (y' = x)) = true := by simp [hyx]
       have HF : Hid (MgA s t 5 Sta.zero) := Lib.hid (.clash HR.out HR2.out ⟨x, List.mem_of_getElem? HX.out, y', List.mem_of_getElem? HY.out, HE12.out.1.symm, HE12.out.2.symm, fun e => hyx e.symm⟩)
       clear hyx HTFQ
       go_wp2_with fail
       refine wp_region_held_drew (S := fun w' => RyB w w' s t p0 p1 pr p6 (some ⟨g, off, none⟩) n c b m d (some ⟨g2, off2, none⟩) n2 c2 b2 m2 d2 z u wr q x) (by kernel_rfl) (HQ.out.below (drew_below _)) (fun hS => ?_)
       refine held_tk 0 48 (.int .i64 (kk : Int)) rfl rfl (by kernel_rfl) (fun _ _ _ h => h) (fun _ _ => rfl) hS ?_
       simp only [Act.put, ap1, ap2, ap3]
       refine held_tk 1 49 (.bool true) rfl rfl (by kernel_rfl) (fun _ _ _ h => h) (fun _ _ => exec_geqI rfl rfl rfl hgk) hS ?_
       simp only [Act.put, ap1, ap2, ap3]
       refine held_tk 2 50 (.bool true) rfl rfl (by kernel_rfl) (fun _ _ _ h => h) (fun _ _ => rfl) hS ?_
       simp only [Act.put, ap1, ap2, ap3]
       refine held_tk 3 51 (.pointer (some ⟨p1, 16, none⟩)) rfl rfl (by kernel_rfl) (fun _ _ _ h => h) (fun _ _ => (by kernel_rfl)) hS ?_
       simp only [Act.put, ap1, ap2, ap3]
       refine held_tk 4 52 (.slice (some ⟨g2, off2, none⟩) n2 c2) rfl rfl (by kernel_rfl) (fun _ _ _ h => h) (fun _ h => exec_cell rfl rfl (load_cell (by kernel_rfl) (stc16 h.sb))) hS ?_
       simp only [Act.put, ap1, ap2, ap3]
       refine held_tk 5 53 (.int .i64 (kk : Int)) rfl rfl (by kernel_rfl) (fun _ _ _ h => h) (fun _ _ => rfl) hS ?_
       simp only [Act.put, ap1, ap2, ap3]
       refine held_tk 6 54 (.pointer (some ⟨g2, off2 + kk * 7, none⟩)) rfl rfl (by kernel_rfl) (fun _ _ _ h => h) (fun _ _ => exec_idx93 (i := kk) rfl rfl rfl rfl hkk) hS ?_
       simp only [Act.put, ap1, ap2, ap3]
       refine held_tk 7 55 (.agg y'.arr) rfl rfl (by kernel_rfl) (fun _ _ _ h => h) (fun _ h => exec_ld93 (p := y') rfl rfl (HRY.out _ h.old)) hS ?_
       simp only [Act.put, ap1, ap2, ap3]
       refine held_tk 8 56 (.agg x.arr) rfl rfl (by kernel_rfl) (fun _ _ _ h => h) (fun _ h => exec_load93 (p := x) rfl rfl h.bx) hS ?_
       simp only [Act.put, ap1, ap2, ap3]
       refine held_tk 9 57 (.bool true) rfl rfl (by kernel_rfl) (fun _ _ _ h => h) (fun _ _ => exec_neq93 rfl rfl rfl hq) hS ?_
       simp only [Act.put, ap1, ap2, ap3]
       refine held_tk 10 58 (.bool true) rfl rfl (by kernel_rfl) (fun _ _ _ h => h) (fun _ _ => rfl) hS ?_
       simp only [Act.put, ap1, ap2, ap3]
       refine wpAnyH_done (by kernel_rfl) ?_ _
       have H5 := Lib.hid hS
       clear hS
       obtain ⟨wX, hwX⟩ : ∃ W, w2.drew = W := ⟨_, rfl⟩
       rw [hwX] at H5 ⊢
       clear hwX
       go_wp2_with (first | (refine wpList_run rfl (exec_zero28 HZ.out rfl) ?_) | (refine wpList_stop28 rfl ?_))
       refine ⟨?_⟩
       refine wpList_void rfl rfl (exec_store28 (u := z) (a := none) (n := 0) (c := 0) (b := none) (m := 0) (d := 0) rfl rfl rfl H5.out.res) ?_
       have hks := Kept.setRow wX pr (sv z none 0 0 none 0 0)
       have HB3 : Hid (Below w.heap.size w (wX.setRow pr (sv z none 0 0 none 0 0))) := Lib.hid (H5.out.old.trans (hks.below H5.out.old.size (fun k hk => by have := HPS.out; omega)))
       have HR3 : Hid (Blk (wX.setRow pr (sv z none 0 0 none 0 0)) pr 28 (sv z none 0 0 none 0 0)) := Lib.hid H5.out.res.row
       generalize wX.setRow pr (sv z none 0 0 none 0 0) = w3 at HB3 HR3 hks
       clear hks
       go_wp2_with fail
       exact bodyPost_ret (v := .tuple #[.agg (sv z none 0 0 none 0 0), .int .i64 ((5 : Nat) : Int)]) (ret28_two rfl rfl rfl HR3.out) rfl (HZE.out 5 _ HF.out HB3.out)
    ·have hkn : n = k := by omega
     subst hkn
     have hall : s.es.take n = s.es := List.take_of_length_le (by rw [HSN.out]; exact Nat.le_refl _)
     rw [hall] at HNC HPM
     have HCL : Hid (¬ Clash s t) := Lib.hid (by
      rintro ⟨x, hx, y, hy, e1, e2, e3⟩
      exact e3 (HNC.out x hx y hy e1 e2))
     have HPM0 : Hid (out.Perm (s.es.filter (keepA t) ++ (t.es.take 0).filter (keepB s)) ∧ out.Pairwise En.Ahead) := Lib.hid (by simpa using HPM.out)
     clear hall HNC HPM
     go_wp2_with fail
     clear c16
     go_loopw [7, 11] (fun lv i wr => ∃ (k n1 c1 : Nat) (a1 : Option Addr) (out : List En), k ≤ n2 ∧ n1 ≤ n + k ∧ lv = .slice a1 n1 c1 ∧ i = .int .i64 (k : Int) ∧ Hid (out.Perm (s.es.filter (keepA t) ++ (t.es.take k).filter (keepB s)) ∧ out.Pairwise En.Ahead) ∧ Hid (EL wr a1 n1 out) ∧ Hid (Far a1 n1 p6 pr) ∧ Hid (RyA w wr s t p0 p1 pr p6 a n c b m d a2 n2 c2 b2 m2 d2 z u)) (fun _ i _ => n2 - (intOf i).toNat)
     case atStart => exact ⟨0, n1, c1, a1, out, by omega, by omega, rfl, rfl, HPM0, HEL, HFA, HQA⟩
     case round =>
      clear HPM0 HEL HFA HQA
      obtain ⟨k, n1, c1, a1, out, hk, hn1, rfl, rfl, HPM, HEL, HFA, HQA⟩ := hrel
      have c16 := stc16 HQA.out.sb
      by_cases hlt : k < n2
      ·obtain ⟨g, off, x, rfl, hx, hrw⟩ := EL.at_base HT.out.es hlt
       have HX := Lib.hid hx
       have HRW := Lib.hid hrw
       clear hx hrw
       go_wp2_with (first | (refine wpList_run rfl (exec_idx93 (i := k) rfl rfl rfl rfl hlt) ?_) | (refine wpList_run rfl (exec_ld93 (p := x) rfl rfl (HRW.out _ HQA.out.old)) ?_) | (refine wpList_run rfl (exec_alloc93z HZN.out rfl) ?_) | (refine wpList_stop93 rfl ?_))
       refine ⟨?_⟩
       refine wpList_void rfl rfl (exec_store93 (p := ze) (u := x) rfl rfl rfl (Blk.new wr 93 ze.arr)) ?_
       have hbo := bo_laid wr 93 ze.arr x.arr
       have HQB : Hid (RyB w ((wr.alloc (.cells ze.arr 93)).setRow wr.heap.size x.arr) s t p0 p1 pr p6 _ n c b m d _ n2 c2 b2 m2 d2 z u wr wr.heap.size x) := Lib.hid ⟨HQA.out.below hbo.old, hbo.one, hbo.old⟩
       clear hbo c16
       generalize (wr.alloc (.cells ze.arr 93)).setRow wr.heap.size x.arr = w1 at HQB ⊢
       generalize wr.heap.size = q at HQB ⊢
       go_wp2_with (first | (refine wpList_run rfl (exec_load28 rfl rfl HQB.out.sa) ?_) | (refine wpList_run rfl (exec_edot (e := x) rfl rfl HQB.out.bx) ?_))
       refine (find_any (HS.out.below HQB.out.old) (by omega) x.r x.s).mono ?_
       rintro e w2 ⟨v, rfl, hf, hb⟩
       have HSP := Lib.hid (HQB.out.below hb)
       clear hb HQB
       have HTFQ : Hid (s.es.filter (keepA t) ++ (t.es.take (k + 1)).filter (keepB s) = s.es.filter (keepA t) ++ ((t.es.take k).filter (keepB s) ++ (if keepB s x = true then [x] else []))) := Lib.hid (by rw [take_filter (p := keepB s) HX.out])
       rcases hf with ⟨rfl, hno⟩ | ⟨kk, y, rfl, hy, e1, e2⟩
       ·have HKP : Hid (keepB s x = !V.hasB s.v x.r x.s) := Lib.hid rfl
        clear hno
        go_wp2_with (first | (refine wpList_runW (exec_stV (v := s.v) rfl rfl HSP.out.sa) (by kernel_rfl) ?_) | (refine wpList_runW (exec_edot (e := x) rfl rfl HSP.out.bx) (by kernel_rfl) ?_))
        refine (rhas_any s.v x.r x.s _ x.hr x.hs).mono ?_
        rintro _ w4 ⟨rfl, hb⟩
        have HSQ := Lib.hid (HSP.out.below hb)
        clear hb HSP
        generalize V.hasB s.v x.r x.s = hh at HKP ⊢
        cases hh
        ·have HTF : Hid (s.es.filter (keepA t) ++ (t.es.take (k + 1)).filter (keepB s) = s.es.filter (keepA t) ++ ((t.es.take k).filter (keepB s) ++ [x])) := Lib.hid (by rw [HTFQ.out, if_pos (by rw [HKP.out]; rfl)])
         clear HTFQ HKP
         go_wp2_with (first | (refine wpList_run rfl (exec_load93 (p := x) rfl rfl HSQ.out.bx) ?_))
         refine (put_any (HEL.out.below HSQ.out.since) (by omega) x).mono ?_
         rintro _ w7 ⟨a7, c7, rfl, ho7, hb7⟩
         have hlen7 : (cellsE (putE x out)).length = n1 + 1 := by have h1 := (putE_perm x out).length_eq; have h2 := HEL.out.len'; simp only [cellsE, List.length_map]; simp only [List.length_cons] at h1; omega
         rw [hlen7] at ho7 ⊢
         have HEL7 : Hid (EL w7 a7 (n1 + 1) (putE x out)) := Lib.hid ho7.gl
         have HFA7 : Hid (Far a7 (n1 + 1) p6 pr) := Lib.hid (far_own ho7 HSQ.out.new.lt HSQ.out.res.lt)
         have HQ7 := Lib.hid (HSQ.out.toRyA.below hb7)
         clear ho7 hb7 hlen7
         go_wp2_with fail
         go_roundw
         case rel => exact ⟨k + 1, n1 + 1, c7, a7, putE x out, hlt, by omega, rfl, by go_num, Lib.hid (by rw [HTF.out, ← List.append_assoc]; exact put_step (HONE.out.sublist (by rw [List.append_assoc, ← HTF.out]; exact sub_b)) HPM.out.1 HPM.out.2), HEL7, HFA7, HQ7⟩
         case measure => simp [intOf]; omega
        ·have HTF : Hid (s.es.filter (keepA t) ++ (t.es.take (k + 1)).filter (keepB s) = s.es.filter (keepA t) ++ (t.es.take k).filter (keepB s)) := Lib.hid (by rw [HTFQ.out, if_neg (by rw [HKP.out]; simp), List.append_nil])
         clear HTFQ HKP
         go_wp2_with fail
         go_roundw
         case rel => exact ⟨k + 1, n1, c1, a1, out, hlt, by omega, rfl, by go_num, Lib.hid (by rw [HTF.out]; exact HPM.out), Lib.hid (HEL.out.below HSQ.out.since), HFA, Lib.hid HSQ.out.toRyA⟩
         case measure => simp [intOf]; omega
       ·have hgk : decide ((kk : Int) < 0) = false := by simp
        have HTF : Hid (s.es.filter (keepA t) ++ (t.es.take (k + 1)).filter (keepB s) = s.es.filter (keepA t) ++ (t.es.take k).filter (keepB s)) := Lib.hid (by
         have h1 := (HR.out.has y (List.mem_of_getElem? hy)).2.1
         rw [e1, e2] at h1
         rw [HTFQ.out, if_neg (by unfold keepB; rw [h1]; simp), List.append_nil])
        clear HTFQ hy e1 e2
        have HSQ := HSP
        clear HSP
        go_wp2_with fail
        go_roundw
        case rel => exact ⟨k + 1, n1, c1, a1, out, hlt, by omega, rfl, by go_num, Lib.hid (by rw [HTF.out]; exact HPM.out), Lib.hid (HEL.out.below HSQ.out.since), HFA, Lib.hid HSQ.out.toRyA⟩
        case measure => simp [intOf]; omega
      ·have hkn : n2 = k := by omega
       subst hkn
       have hall : t.es.take n2 = t.es := List.take_of_length_le (by rw [HTN.out]; exact Nat.le_refl _)
       rw [hall] at HPM
       have HMEM : Hid (∀ e, e ∈ out ↔ e ∈ bothE s t) := Lib.hid (fun e => HPM.out.1.mem_iff)
       have HORD := Lib.hid HPM.out.2
       clear hall HPM
       have c17 := stc17 HQA.out.sa
       go_wp2_with fail
       clear c16 c17
       have HTL0 : Hid (LL wr b m s.ts) := Lib.hid (HS.out.ts.below HQA.out.old)
       have HFB : Hid (Far b m p6 pr) := Lib.hid (fun ad ha h0 => by have := ll_lt HS.out.ts ad ha h0; have := HPS.out; have := HP6.out; omega)
       obtain ⟨wE, hwE⟩ : ∃ W : World, W = wr := ⟨_, rfl⟩
       have HEL2 : Hid (EL wE a1 n1 out) := Lib.hid (hwE ▸ HEL.out)
       have HSI : Hid (Below wE.heap.size wE wr) := Lib.hid (by subst hwE; exact Below.refl _ _)
       clear HEL hwE
       go_loopw [13, 14] (fun tv i wr => ∃ (k n5 c5 : Nat) (a5 : Option Addr) (T : List La), k ≤ m2 ∧ n5 ≤ m + k ∧ tv = .slice a5 n5 c5 ∧ i = .int .i64 (k : Int) ∧ Hid (TkJ s t k T) ∧ Hid (LL wr a5 n5 T) ∧ Hid (Far a5 n5 p6 pr) ∧ Hid (Below wE.heap.size wE wr) ∧ Hid (RyA w wr s t p0 p1 pr p6 a n c b m d a2 n2 c2 b2 m2 d2 z u)) (fun _ i _ => m2 - (intOf i).toNat)
       case atStart => exact ⟨0, m, d, b, s.ts, by omega, by omega, rfl, rfl, Lib.hid (TkJ.start t HR.out.ts.up), HTL0, HFB, HSI, HQA⟩
       case round =>
        clear HTL0 HSI HQA HFB
        obtain ⟨k, n5, c5, a5, T, hk, hn5, rfl, rfl, HTK, HTL, HFB, HSI, HQA⟩ := hrel
        have HUP := Lib.hid HTK.out.up
        have c17 := stc17 HQA.out.sb
        by_cases hlt : k < m2
        ·obtain ⟨g, off, y, rfl, hy, hrw⟩ := LL.at_base HT.out.ts hlt
         have HC0 : Hid (∀ W, Below w.heap.size w W → W.cell? ⟨g, off + k * 2, none⟩ = some (.int .u16 (y.c : Int))) := Lib.hid (fun W hb => by have := hrw W hb 0 _ rfl; simpa using this)
         have HC1 : Hid (∀ W, Below w.heap.size w W → W.cell? ⟨g, off + k * 2 + 1, none⟩ = some (.int .u32 (y.t : Int))) := Lib.hid (fun W hb => hrw W hb 1 _ rfl)
         have HTK2 := Lib.hid (HTK.out.next HR2.out.ts.up hy)
         clear hy hrw
         have HQT : Hid (RyT w wr s t p0 p1 pr p6 a n c b m d a2 n2 c2 (some ⟨g, off, none⟩) m2 d2 z u wr) := Lib.hid ⟨HQA.out, Below.refl _ _⟩
         go_wp2_with fail
         refine wp_region_held_drew (S := fun w' => RyT w w' s t p0 p1 pr p6 a n c b m d a2 n2 c2 (some ⟨g, off, none⟩) m2 d2 z u wr) (by kernel_rfl) (HQT.out.below (drew_below _)) (fun hS => ?_)
         refine held_tk 0 110 (.slice a5 n5 c5) rfl rfl (by kernel_rfl) (fun _ _ _ h => h) (fun _ _ => rfl) hS ?_
         simp only [Act.put, ap1, ap2, ap3]
         refine held_tk 1 111 (.pointer (some ⟨p1, 17, none⟩)) rfl rfl (by kernel_rfl) (fun _ _ _ h => h) (fun _ _ => (by kernel_rfl)) hS ?_
         simp only [Act.put, ap1, ap2, ap3]
         refine held_tk 2 112 (.slice (some ⟨g, off, none⟩) m2 d2) rfl rfl (by kernel_rfl) (fun _ _ _ h => h) (fun _ h => exec_cell rfl rfl (load_cell (by kernel_rfl) (stc17 h.sb))) hS ?_
         simp only [Act.put, ap1, ap2, ap3]
         refine held_tk 3 113 (.int .i64 (k : Int)) rfl rfl (by kernel_rfl) (fun _ _ _ h => h) (fun _ _ => rfl) hS ?_
         simp only [Act.put, ap1, ap2, ap3]
         refine held_tk 4 114 (.pointer (some ⟨g, off + k * 2, none⟩)) rfl rfl (by kernel_rfl) (fun _ _ _ h => h) (fun _ _ => exec_idx95 (i := k) rfl rfl rfl rfl hlt) hS ?_
         simp only [Act.put, ap1, ap2, ap3]
         refine held_tk 5 115 (.pointer (some ⟨g, off + k * 2, none⟩)) rfl rfl (by kernel_rfl) (fun _ _ _ h => h) (fun _ _ => (by kernel_rfl)) hS ?_
         simp only [Act.put, ap1, ap2, ap3]
         refine held_tk 6 116 (.int .u16 (y.c : Int)) rfl rfl (by kernel_rfl) (fun _ _ _ h => h) (fun _ h => exec_cell rfl rfl (load_cell (by kernel_rfl) (HC0.out _ h.old))) hS ?_
         simp only [Act.put, ap1, ap2, ap3]
         refine held_tk 7 117 (.pointer (some ⟨p1, 17, none⟩)) rfl rfl (by kernel_rfl) (fun _ _ _ h => h) (fun _ _ => (by kernel_rfl)) hS ?_
         simp only [Act.put, ap1, ap2, ap3]
         refine held_tk 8 118 (.slice (some ⟨g, off, none⟩) m2 d2) rfl rfl (by kernel_rfl) (fun _ _ _ h => h) (fun _ h => exec_cell rfl rfl (load_cell (by kernel_rfl) (stc17 h.sb))) hS ?_
         simp only [Act.put, ap1, ap2, ap3]
         refine held_tk 9 119 (.int .i64 (k : Int)) rfl rfl (by kernel_rfl) (fun _ _ _ h => h) (fun _ _ => rfl) hS ?_
         simp only [Act.put, ap1, ap2, ap3]
         refine held_tk 10 120 (.pointer (some ⟨g, off + k * 2, none⟩)) rfl rfl (by kernel_rfl) (fun _ _ _ h => h) (fun _ _ => exec_idx95 (i := k) rfl rfl rfl rfl hlt) hS ?_
         simp only [Act.put, ap1, ap2, ap3]
         refine held_tk 11 121 (.pointer (some ⟨g, off + k * 2 + 1, none⟩)) rfl rfl (by kernel_rfl) (fun _ _ _ h => h) (fun _ _ => (by kernel_rfl)) hS ?_
         simp only [Act.put, ap1, ap2, ap3]
         refine held_tk 12 122 (.int .u32 (y.t : Int)) rfl rfl (by kernel_rfl) (fun _ _ _ h => h) (fun _ h => exec_cell rfl rfl (load_cell (by kernel_rfl) (HC1.out _ h.old))) hS ?_
         simp only [Act.put, ap1, ap2, ap3]
         refine held_callP 13 123 49 #[(.slice a5 n5 c5), (.int .u16 (y.c : Int)), (.int .u32 (y.t : Int))] rfl (by kernel_rfl) rfl (by kernel_rfl) (by kernel_rfl) (ticked_any (HTL.out.below hS.sinceT) (by omega) HUP.out y) (fun e w113 hP => ?_)
         obtain ⟨ga13, ca13, rfl, ho13, hb13⟩ := hP
         refine ⟨_, rfl, hS.below hb13, fun hS => ?_⟩
         have KT := Lib.hid (ho13.gl)
         have KF := Lib.hid (far_own ho13 (HQT.out.below (drew_below _)).new.lt (HQT.out.below (drew_below _)).res.lt)
         clear hb13 ho13
         simp only [Act.put, ap1, ap2, ap3]
         refine held_tk 14 13 (.slice ga13 (cellsL (ticked y T)).length ca13) rfl rfl (by kernel_rfl) (fun _ _ _ h => h) (fun _ _ => rfl) hS ?_
         simp only [Act.put, ap1, ap2, ap3]
         refine wpAnyH_done (by kernel_rfl) ?_ _
         have HS5 := Lib.hid hS
         clear hS HQT
         have hl5 : (cellsL (ticked y T)).length ≤ m + (k + 1) := by have h1 := HTK2.out.len; have h2 := HSM.out; simp only [cellsL, List.length_map]; omega
         generalize (cellsL (ticked y T)).length = n6 at KT KF hl5 ⊢
         go_wp2_with fail
         go_roundw
         case rel => exact ⟨k + 1, n6, ca13, ga13, ticked y T, hlt, hl5, rfl, by go_num, HTK2, KT, KF, Lib.hid (HSI.out.trans (HS5.out.sinceT.mono HSI.out.size)), Lib.hid HS5.out.toRyA⟩
         case measure => simp [intOf]; omega
        ·have hkn : m2 = k := by omega
         subst hkn
         have hall : t.ts.take m2 = t.ts := List.take_of_length_le (by rw [HTM.out]; exact Nat.le_refl _)
         have HTKE : Hid (∀ c, tkOf T c = mtk (tkOf s.ts c) (tkOf t.ts c)) := Lib.hid (fun c => by rw [HTK.out.tk, hall])
         clear hall
         go_wp2_with (refine wpList_stopS (.inl rfl) rfl ?_)
         refine ⟨?_⟩
         refine wpList_void rfl rfl (exec_stS (.inl rfl) rfl rfl rfl HQA.out.new (by rw [stA_size]; decide)) ?_
         have hk1 := Kept.setCell wr ⟨p6, 16, none⟩ (.slice a1 n1 c1)
         have hb1 := HQA.out.new.set 16 (.slice a1 n1 c1)
         rw [sv_es] at hb1
         have HW1 : Hid (Kept (fun k => k = p6) wr (wr.setCell ⟨p6, 16, none⟩ (.slice a1 n1 c1)) ∧ Blk (wr.setCell ⟨p6, 16, none⟩ (.slice a1 n1 c1)) p6 28 (sv u a1 n1 c1 b m d)) := Lib.hid ⟨hk1, hb1⟩
         clear hk1 hb1
         generalize wr.setCell ⟨p6, 16, none⟩ (.slice a1 n1 c1) = w1 at HW1 ⊢
         go_wp2_with (refine wpList_stopS (.inr rfl) rfl ?_)
         refine ⟨?_⟩
         refine wpList_void rfl rfl (exec_stS (.inr rfl) rfl rfl rfl HW1.out.2 (by rw [stA_size]; decide)) ?_
         have hk1 := Kept.setCell w1 ⟨p6, 17, none⟩ (.slice a5 n5 c5)
         have hb1 := HW1.out.2.set 17 (.slice a5 n5 c5)
         rw [sv_ts] at hb1
         have HW2 : Hid (Kept (fun k => k = p6) wr (w1.setCell ⟨p6, 17, none⟩ (.slice a5 n5 c5)) ∧ Blk (w1.setCell ⟨p6, 17, none⟩ (.slice a5 n5 c5)) p6 28 (sv u a1 n1 c1 a5 n5 c5)) := Lib.hid ⟨HW1.out.1.trans hk1 (fun i hi => .inl hi), hb1⟩
         clear hk1 hb1 HW1
         generalize w1.setCell ⟨p6, 17, none⟩ (.slice a5 n5 c5) = w2 at HW2 ⊢
         have HRES : Hid (Blk w2 pr 28 (sv z none 0 0 none 0 0)) := Lib.hid (HQA.out.res.kept HW2.out.1 (by have := HP6.out; omega))
         go_wp2_with (first | (refine wpList_run rfl (exec_load28 rfl rfl HW2.out.2) ?_) | (refine wpList_stop28 rfl ?_))
         refine ⟨?_⟩
         refine wpList_void rfl rfl (exec_store28 rfl rfl rfl HRES.out) ?_
         have hks := Kept.setRow w2 pr (sv u a1 n1 c1 a5 n5 c5)
         have HF : Hid (RMgP s t w (.returned (.tuple #[.agg (sv u a1 n1 c1 a5 n5 c5), .int .i64 0])) (w2.setRow pr (sv u a1 n1 c1 a5 n5 c5))) := Lib.hid ⟨0, ⟨u, out, T⟩, .ok HR.out HR2.out HCL.out ⟨HU.out.symm, HORD.out, HMEM.out, HTK.out.up, fun c => by rw [HTKE.out c]; rfl⟩, a1, n1, c1, a5, n5, c5, rfl,
          ⟨((HEL2.out.below HSI.out).keep HW2.out.1 (fun ad e h0 h => (HFA.out ad e h0).1 h)).keep hks (fun ad e h0 h => (HFA.out ad e h0).2 h), (HTL.out.keep HW2.out.1 (fun ad e h0 h => (HFB.out ad e h0).1 h)).keep hks (fun ad e h0 h => (HFB.out ad e h0).2 h)⟩,
          (HQA.out.old.trans (HW2.out.1.below HQA.out.old.size (fun k hk => by have := HPS.out; have := HP6.out; omega))).trans (hks.below (Nat.le_trans HQA.out.old.size HW2.out.1.size) (fun k hk => by have := HPS.out; omega))⟩
         have HRB : Hid (Blk (w2.setRow pr (sv u a1 n1 c1 a5 n5 c5)) pr 28 (sv u a1 n1 c1 a5 n5 c5)) := Lib.hid HRES.out.row
         generalize w2.setRow pr (sv u a1 n1 c1 a5 n5 c5) = w3 at HF HRB
         clear hks
         go_wp2_with fail
         exact bodyPost_ret (v := .tuple #[.agg (sv u a1 n1 c1 a5 n5 c5), .int .i64 0]) (ret28_two rfl rfl rfl HRB.out) rfl HF.out
end Go.Proofs.YtnekpgmgnepdoaaGreat
end
