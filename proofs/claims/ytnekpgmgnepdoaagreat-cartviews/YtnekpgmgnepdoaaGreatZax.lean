import Derived.Test.YtnekpgmgnepdoaaGreatZaw
namespace Go.Proofs.YtnekpgmgnepdoaaGreat
open Go.RowKit
theorem eq_dotsD (d : Nat) (r s r' s' : Nat) (w : World) : (Op.equalIn (d + 2) 30 (dotV r s) (dotV r' s')).run Tryz.prog w = .ok (decide (r = r' ∧ s = s')) w := by
 have hS : Tryz.prog.underlying 30 = some (.struct (Tryz.prog.fieldsOf 30)) := by kernel_rfl
 have hp : Tryz.prog.stoodInHeld 30 = false := by kernel_rfl
 have hE : decide (r = r' ∧ s = s') = (((r : Int) == (r' : Int)) && (((s : Int) == (s' : Int)) && true)) := by
  rw [Bool.eq_iff_iff]
  simp only [decide_eq_true_eq, Bool.and_eq_true, beq_iff_eq, Int.natCast_inj, and_true]
 rw [hE, run_equalIn_agg w (d + 1) 30 _ _ hS hp]
 simp only [Program.fieldsOf, Tryz.underlying30]
 refine eqF_any (.int .u8 (r : Int)) (.int .u8 (r' : Int)) (by decide) (dpart _ _ w (by kernel_rfl) rfl) (dpart _ _ w (by kernel_rfl) rfl) (eq_intsD d 5 .u8 _ _ w (by kernel_rfl)) ?_
 refine eqF_any (.int .u32 (s : Int)) (.int .u32 (s' : Int)) (by decide) (dpart _ _ w (by kernel_rfl) rfl) (dpart _ _ w (by kernel_rfl) rfl) (eq_intsD d 22 .u32 _ _ w (by kernel_rfl)) ?_
 exact eqF_nil
section
variable {ev : Operand → Value} {o : Oper} {w : World}
theorem exec_eqlD {x y : Operand} {t : TypeId} {r s r' s' : Nat} {q : Bool} (ho : o.op = .binOp .eql 30 x y t) (hx : ev x = dotV r s) (hy : ev y = dotV r' s') (hq : decide (r = r' ∧ s = s') = q) : (execOp ev o).run Tryz.prog w = .ok (.value (.bool q)) w := by
 subst hq
 have hb : (binOp .eql 30 (dotV r s) (dotV r' s')).run Tryz.prog w = .ok (.bool (decide (r = r' ∧ s = s'))) w := by
  rw [run_eql_struct, eq_dotsD 9998]; rfl
 have hg : (eqGuard .eql 30 x y (dotV r s) (dotV r' s')).run Tryz.prog w = .ok () w := run_eqGuard_agg w .eql 30 x y _ _ (by kernel_rfl)
 unfold execOp
 simp only [ho, hx, hy, Sem.run_bind, hg, hb, Result.andThen_ok]
 rfl
theorem load_rdot {b f : Nat} {e : En} (h : w.rangeAt b f e.cs) : (Instr.loadAt 30 (.pointer (some ⟨b, f + 4, none⟩))).run Tryz.prog w = .ok (dotV e.r e.s) w := by
 have h4 := h 4 _ rfl
 have h5 := h 5 _ rfl
 have hl := run_loadVar_mid (P := Tryz.prog) w b (f + 4) 30 [.int .u8 (e.r : Int), .int .u32 (e.s : Int)] _ (by
  intro j u hu
  match j, hu with
  | 0, hu => obtain rfl := Option.some.inj hu; simpa using h4
  | 1, hu => obtain rfl := Option.some.inj hu; simpa [Nat.add_assoc] using h5) (show Tryz.prog.underlying 30 = some (.struct (Tryz.prog.fieldsOf 30)) by kernel_rfl) rfl (by kernel_rfl)
 simp only [Instr.loadAt, Instr.sureAddr, Sem.run_bind, Sem.run_pure, Result.andThen_ok, hl]
theorem exec_rdot {x : Operand} {b f : Nat} {e : En} (ho : o.op = .load 30 x) (hx : ev x = .pointer (some ⟨b, f + 4, none⟩)) (h : w.rangeAt b f e.cs) : (execOp ev o).run Tryz.prog w = .ok (.value (dotV e.r e.s)) w := exec_cell ho hx (load_rdot h)
end
structure EsQ (s : Sta) (l : List En) : Prop where
 has : ∀ e ∈ l, reB s e = true
 ord : l.Pairwise En.Ahead
 one : OneE l
theorem reB_iff (s : Sta) (e : En) : reB s e = true ↔ (tkOf s.ts e.c).isSome = true ∧ V.hasB s.v e.r e.s = true ∧ e.okB = true := by
 unfold reB En.okB
 simp only [Bool.and_eq_true, decide_eq_true_eq]
 constructor
 ·rintro ⟨h1, h2, h3, h4, h5⟩; exact ⟨h1, h3, ⟨h4, h5⟩, h2⟩
 ·rintro ⟨h1, h3, ⟨h4, h5⟩, h2⟩; exact ⟨h1, h2, h3, h4, h5⟩
theorem right_partsQ (s : Sta) : s.Right ↔ V.rightB s.v 16 = true ∧ TsR s.ts ∧ EsQ s s.es := by
 rw [right_parts]
 constructor
 ·rintro ⟨h1, h2, h3, h4⟩; exact ⟨h1, h2, fun e he => (reB_iff s e).2 (h3.has e he), h3.ord, h4⟩
 ·rintro ⟨h1, h2, h3⟩; exact ⟨h1, h2, ⟨fun e he => (reB_iff s e).1 (h3.has e he), h3.ord⟩, h3.one⟩
theorem pair_get {α : Type} {R : α → α → Prop} {l : List α} (h : l.Pairwise R) {i j : Nat} {x y : α} (hij : i < j) (hx : l[i]? = some x) (hy : l[j]? = some y) : R x y := by
 have h1 := (List.getElem?_eq_some_iff.1 hx)
 have h2 := (List.getElem?_eq_some_iff.1 hy)
 have := List.pairwise_iff_getElem.1 h i j h1.1 h2.1 hij
 rw [h1.2, h2.2] at this
 exact this
theorem mem_take_get {α : Type} {l : List α} {k : Nat} {a : α} (h : a ∈ l.take k) : ∃ i, i < k ∧ l[i]? = some a := by
 obtain ⟨i, hi, rfl⟩ := List.getElem_of_mem h
 simp only [List.length_take] at hi
 exact ⟨i, by omega, by rw [List.getElem_take, List.getElem?_eq_getElem]⟩
theorem EsQ.next {s : Sta} {l : List En} {k : Nat} {x : En} (h : EsQ s (l.take k)) (hx : l[k]? = some x) (h1 : reB s x = true) (hp : ∀ y, 0 < k → l[k - 1]? = some y → En.Ahead y x) (hd : ∀ j y, j < k → l[j]? = some y → ¬ (y.r = x.r ∧ y.s = x.s)) : EsQ s (l.take (k + 1)) := by
 rw [List.take_add_one, hx]
 refine ⟨fun t ht => ?_, ?_, ?_⟩
 ·rcases List.mem_append.1 ht with h5 | h5
  ·exact h.has t h5
  ·obtain rfl : t = x := by simpa using h5
   exact h1
 ·rw [List.pairwise_append]
  refine ⟨h.ord, by simp, fun a ha b hb => ?_⟩
  obtain rfl : b = x := by simpa using hb
  obtain ⟨i, hi, hia⟩ := mem_take_get ha
  have hkl : k - 1 < l.length := by have := (List.getElem?_eq_some_iff.1 hx).1; omega
  have hy := List.getElem?_eq_getElem hkl
  have h1 := hp _ (by omega) hy
  by_cases e : i = k - 1
  ·subst e
   rw [hia] at hy
   cases hy
   exact h1
  ·refine En.Ahead.trans ?_ h1
   exact pair_get (i := i) (j := k - 1) h.ord (by omega) (by rw [List.getElem?_take_of_lt hi]; exact hia) (by rw [List.getElem?_take_of_lt (by omega)]; exact hy)
 ·unfold OneE
  rw [List.pairwise_append]
  refine ⟨h.one, by simp, fun a ha b hb => ?_⟩
  obtain rfl : b = x := by simpa using hb
  obtain ⟨i, hi, hia⟩ := mem_take_get ha
  exact hd i a hi hia
structure RrS (w W : World) (s : Sta) (p g off : Nat) (n c : Nat) (b : Option Addr) (m d : Nat) (x : En) (ox : Nat) (y : En) (oy : Nat) : Prop where
 st : Blk W p 28 (sv s.v (some ⟨g, off, none⟩) n c b m d)
 el : W.rangeAt g ox x.cs
 pr : W.rangeAt g oy y.cs
 old : Below w.heap.size w W
theorem RrS.below {w W W' : World} {s : Sta} {p g off : Nat} {n c : Nat} {b : Option Addr} {m d : Nat} {x : En} {ox : Nat} {y : En} {oy : Nat} (h : RrS w W s p g off n c b m d x ox y oy) (hb : Below W.heap.size W W') : RrS w W' s p g off n c b m d x ox y oy :=
 ⟨h.st.below hb, fun j u hu => below_at hb (h.el j u hu), fun j u hu => below_at hb (h.pr j u hu), h.old.trans (hb.mono h.old.size)⟩
theorem RrS.drew {w W : World} {s : Sta} {p g off : Nat} {n c : Nat} {b : Option Addr} {m d : Nat} {x : En} {ox : Nat} {y : En} {oy : Nat} (h : RrS w W s p g off n c b m d x ox y oy) : RrS w W.drew s p g off n c b m d x ox y oy := ⟨h.st, h.el, h.pr, h.old.drew⟩
structure RtQ (w W : World) (s : Sta) (p g off : Nat) (a : Option Addr) (n c m d : Nat) (x : La) (k : Nat) (y : La) : Prop where
 st : Blk W p 28 (sv s.v a n c (some ⟨g, off, none⟩) m d)
 cx : W.cell? ⟨g, off + k * 2, none⟩ = some (.int .u16 (x.c : Int))
 tx : W.cell? ⟨g, off + k * 2 + 1, none⟩ = some (.int .u32 (x.t : Int))
 cy : W.cell? ⟨g, off + (k - 1) * 2, none⟩ = some (.int .u16 (y.c : Int))
 old : Below w.heap.size w W
theorem RtQ.drew {w W : World} {s : Sta} {p g off : Nat} {a : Option Addr} {n c m d : Nat} {x : La} {k : Nat} {y : La} (h : RtQ w W s p g off a n c m d x k y) : RtQ w W.drew s p g off a n c m d x k y := ⟨h.st, h.cx, h.tx, h.cy, h.old.drew⟩
structure RtQz (w W : World) (s : Sta) (p g off : Nat) (a : Option Addr) (n c m d : Nat) (x : La) (k : Nat) : Prop where
 st : Blk W p 28 (sv s.v a n c (some ⟨g, off, none⟩) m d)
 cx : W.cell? ⟨g, off + k * 2, none⟩ = some (.int .u16 (x.c : Int))
 tx : W.cell? ⟨g, off + k * 2 + 1, none⟩ = some (.int .u32 (x.t : Int))
 old : Below w.heap.size w W
theorem RtQz.drew {w W : World} {s : Sta} {p g off : Nat} {a : Option Addr} {n c m d : Nat} {x : La} {k : Nat} (h : RtQz w W s p g off a n c m d x k) : RtQz w W.drew s p g off a n c m d x k := ⟨h.st, h.cx, h.tx, h.old.drew⟩
set_option maxRecDepth 100000 in
set_option maxHeartbeats 8000000 in
theorem rRight_any {s : Sta} {a b : Option Addr} {n c m d : Nat} {w : World} (hl : SL w s a n b m) (hn : n < 500000) (hm : m < 500000) : Calls Tryz.prog 18 #[.agg (sv s.v a n c b m d)] w (SaysIff s.Right w) := by
 have HL := Lib.hid hl
 have HLEN := Lib.hid hl.es.len'
 have HLET := Lib.hid hl.ts.len'
 have HRP := Lib.hid (right_partsQ s)
 have hb1 := fun (v : V) x y w => box28 v x y w
 have HP0 := Lib.hid (bo_new w 28 (sv s.v a n c b m d))
 clear hl
 go_enter Tryz.func18, Tryz.ntmps18
 go_upto_region 1 with fail
 clear hb1
 generalize w.alloc (.cells (sv s.v a n c b m d) 28) = w0 at HP0
 obtain ⟨p, hp⟩ : ∃ p, w.heap.size = p := ⟨_, rfl⟩
 have HS0 := Lib.hid HP0.out.one
 have HB0 := Lib.hid HP0.out.old
 rw [hp] at HS0
 rw [hp]
 clear hp HP0
 go_wp2_with fail
 go_loopw [3] (fun i wr => ∃ k : Nat, k ≤ m ∧ i = .int .i64 (k : Int) ∧ Hid (TsTo s.ts k) ∧ Hid (Blk wr p 28 (sv s.v a n c b m d)) ∧ Hid (Below w.heap.size w wr)) (fun i _ => m - (intOf i).toNat)
 case atStart => exact ⟨0, Nat.zero_le _, rfl, Lib.hid ⟨by simp, by simp⟩, HS0, HB0⟩
 case round =>
  obtain ⟨k, hk, rfl, HT, HST, HB⟩ := hrel
  clear HS0 HB0
  have c17 := stc17 HST.out
  by_cases hlt : k < m
  ·obtain ⟨g, off, x, rfl, hx, hr⟩ := LL.at (HL.out.ts.below HB.out) hlt
   have HX := Lib.hid hx
   have HE1 : Hid (wr.cell? ⟨g, off + k * 2, none⟩ = some (.int .u16 (x.c : Int)) ∧ wr.cell? ⟨g, off + k * 2 + 1, none⟩ = some (.int .u32 (x.t : Int))) := Lib.hid ⟨by have := hr 0 _ rfl; simpa using this, hr 1 _ rfl⟩
   clear hx hr
   by_cases ht : x.t ≤ 1073741824
   ·have hq : decide ((1073741824 : Int) < (x.t : Int)) = false := by simp; omega
    by_cases h0 : 0 < k
    ·have hk0 : decide ((0 : Int) < (k : Int)) = true := by simp; omega
     obtain ⟨b2, off2, y, e2, hy, hr2⟩ := LL.at (HL.out.ts.below HB.out) (i := k - 1) (by omega)
     simp only [Option.some.injEq, Addr.mk.injEq, and_true] at e2
     obtain ⟨rfl, rfl⟩ := e2
     have HY := Lib.hid hy
     have HQ : Hid (RtQ w wr s p g off a n c m d x k y) := Lib.hid ⟨HST.out, HE1.out.1, HE1.out.2, (by have := hr2 0 _ rfl; simpa using this), HB.out⟩
     clear hy hr2
     by_cases hc2 : y.c < x.c
     ·have hc : decide ((x.c : Int) ≤ (y.c : Int)) = false := by simp; omega
      have HNX : Hid (TsTo s.ts (k + 1)) := Lib.hid (HT.out.next HX.out ht (fun z _ hz => by obtain rfl := Option.some.inj (hz.symm.trans HY.out); exact hc2))
      go_wp2_with fail
      refine wp_region_held_drew (S := fun w' => RtQ w w' s p g off a n c m d x k y) (by kernel_rfl) HQ.out.drew (fun hS => ?_)
      refine held_tk 0 13 (.pointer (some ⟨p, 17, none⟩)) rfl rfl (by kernel_rfl) (fun _ _ _ h => h) (fun _ _ => (by kernel_rfl)) hS ?_
      simp only [Act.put, ap1, ap2, ap3]
      refine held_tk 1 14 (.slice (some ⟨g, off, none⟩) m d) rfl rfl (by kernel_rfl) (fun _ _ _ h => h) (fun _ h => exec_cell rfl rfl (load_cell (by kernel_rfl) (stc17 h.st))) hS ?_
      simp only [Act.put, ap1, ap2, ap3]
      refine held_tk 2 15 (.int .i64 (k : Int)) rfl rfl (by kernel_rfl) (fun _ _ _ h => h) (fun _ _ => rfl) hS ?_
      simp only [Act.put, ap1, ap2, ap3]
      refine held_tk 3 16 (.pointer (some ⟨g, off + k * 2, none⟩)) rfl rfl (by kernel_rfl) (fun _ _ _ h => h) (fun _ _ => exec_idx95 (i := k) rfl rfl rfl rfl hlt) hS ?_
      simp only [Act.put, ap1, ap2, ap3]
      refine held_tk 4 17 (.pointer (some ⟨g, off + k * 2 + 1, none⟩)) rfl rfl (by kernel_rfl) (fun _ _ _ h => h) (fun _ _ => (by kernel_rfl)) hS ?_
      simp only [Act.put, ap1, ap2, ap3]
      refine held_tk 5 18 (.int .u32 (x.t : Int)) rfl rfl (by kernel_rfl) (fun _ _ _ h => h) (fun _ h => exec_cell rfl rfl (load_cell (by kernel_rfl) h.tx)) hS ?_
      simp only [Act.put, ap1, ap2, ap3]
      refine held_tk 6 19 (.bool false) rfl rfl (by kernel_rfl) (fun _ _ _ h => h) (fun _ _ => exec_gtrI rfl rfl rfl hq) hS ?_
      simp only [Act.put, ap1, ap2, ap3]
      refine held_tk 7 20 (.bool false) rfl rfl (by kernel_rfl) (fun _ _ _ h => h) (fun _ _ => rfl) hS ?_
      simp only [Act.put, ap1, ap2, ap3]
      refine held_tk 8 21 (.int .i64 (k : Int)) rfl rfl (by kernel_rfl) (fun _ _ _ h => h) (fun _ _ => rfl) hS ?_
      simp only [Act.put, ap1, ap2, ap3]
      refine held_tk 9 22 (.bool true) rfl rfl (by kernel_rfl) (fun _ _ _ h => h) (fun _ _ => exec_gtrI rfl rfl rfl hk0) hS ?_
      simp only [Act.put, ap1, ap2, ap3]
      refine held_tk 10 23 (.bool true) rfl rfl (by kernel_rfl) (fun _ _ _ h => h) (fun _ _ => rfl) hS ?_
      simp only [Act.put, ap1, ap2, ap3]
      refine held_tk 11 24 (.pointer (some ⟨p, 17, none⟩)) rfl rfl (by kernel_rfl) (fun _ _ _ h => h) (fun _ _ => (by kernel_rfl)) hS ?_
      simp only [Act.put, ap1, ap2, ap3]
      refine held_tk 12 25 (.slice (some ⟨g, off, none⟩) m d) rfl rfl (by kernel_rfl) (fun _ _ _ h => h) (fun _ h => exec_cell rfl rfl (load_cell (by kernel_rfl) (stc17 h.st))) hS ?_
      simp only [Act.put, ap1, ap2, ap3]
      refine held_tk 13 26 (.int .i64 (k : Int)) rfl rfl (by kernel_rfl) (fun _ _ _ h => h) (fun _ _ => rfl) hS ?_
      simp only [Act.put, ap1, ap2, ap3]
      refine held_tk 14 27 (.int .i64 ((k : Int) - 1)) rfl rfl (by kernel_rfl) (fun _ _ _ h => h) (fun _ _ => exec_subN rfl rfl rfl rfl (by omega) (by omega)) hS ?_
      simp only [Act.put, ap1, ap2, ap3]
      refine held_tk 15 28 (.pointer (some ⟨g, off + (k - 1) * 2, none⟩)) rfl rfl (by kernel_rfl) (fun _ _ _ h => h) (fun _ _ => exec_idx95 (i := k - 1) rfl rfl rfl (by omega) (by omega)) hS ?_
      simp only [Act.put, ap1, ap2, ap3]
      refine held_tk 16 29 (.pointer (some ⟨g, off + (k - 1) * 2, none⟩)) rfl rfl (by kernel_rfl) (fun _ _ _ h => h) (fun _ _ => (by kernel_rfl)) hS ?_
      simp only [Act.put, ap1, ap2, ap3]
      refine held_tk 17 30 (.int .u16 (y.c : Int)) rfl rfl (by kernel_rfl) (fun _ _ _ h => h) (fun _ h => exec_cell rfl rfl (load_cell (by kernel_rfl) h.cy)) hS ?_
      simp only [Act.put, ap1, ap2, ap3]
      refine held_tk 18 31 (.pointer (some ⟨p, 17, none⟩)) rfl rfl (by kernel_rfl) (fun _ _ _ h => h) (fun _ _ => (by kernel_rfl)) hS ?_
      simp only [Act.put, ap1, ap2, ap3]
      refine held_tk 19 32 (.slice (some ⟨g, off, none⟩) m d) rfl rfl (by kernel_rfl) (fun _ _ _ h => h) (fun _ h => exec_cell rfl rfl (load_cell (by kernel_rfl) (stc17 h.st))) hS ?_
      simp only [Act.put, ap1, ap2, ap3]
      refine held_tk 20 33 (.int .i64 (k : Int)) rfl rfl (by kernel_rfl) (fun _ _ _ h => h) (fun _ _ => rfl) hS ?_
      simp only [Act.put, ap1, ap2, ap3]
      refine held_tk 21 34 (.pointer (some ⟨g, off + k * 2, none⟩)) rfl rfl (by kernel_rfl) (fun _ _ _ h => h) (fun _ _ => exec_idx95 (i := k) rfl rfl rfl rfl hlt) hS ?_
      simp only [Act.put, ap1, ap2, ap3]
      refine held_tk 22 35 (.pointer (some ⟨g, off + k * 2, none⟩)) rfl rfl (by kernel_rfl) (fun _ _ _ h => h) (fun _ _ => (by kernel_rfl)) hS ?_
      simp only [Act.put, ap1, ap2, ap3]
      refine held_tk 23 36 (.int .u16 (x.c : Int)) rfl rfl (by kernel_rfl) (fun _ _ _ h => h) (fun _ h => exec_cell rfl rfl (load_cell (by kernel_rfl) h.cx)) hS ?_
      simp only [Act.put, ap1, ap2, ap3]
      refine held_tk 24 37 (.bool false) rfl rfl (by kernel_rfl) (fun _ _ _ h => h) (fun _ _ => exec_geqI rfl rfl rfl hc) hS ?_
      simp only [Act.put, ap1, ap2, ap3]
      refine held_tk 25 38 (.bool false) rfl rfl (by kernel_rfl) (fun _ _ _ h => h) (fun _ _ => rfl) hS ?_
      simp only [Act.put, ap1, ap2, ap3]
      refine held_tk 26 39 (.bool false) rfl rfl (by kernel_rfl) (fun _ _ _ h => h) (fun _ _ => rfl) hS ?_
      simp only [Act.put, ap1, ap2, ap3]
      refine wpAnyH_done (by kernel_rfl) ?_ _
      have HS2 := Lib.hid hS
      clear hS
      go_wp2_with fail
      go_roundw
      case rel => exact ⟨k + 1, by omega, by go_num, HNX, Lib.hid HS2.out.st, Lib.hid HS2.out.old⟩
      case measure => simp [intOf]; omega
     ·have hc : decide ((x.c : Int) ≤ (y.c : Int)) = true := by simp; omega
      have HN : Hid (¬ s.Right) := Lib.hid (fun h => hc2 (up_get ((HRP.out.1 h).2.1.up) (by omega) HY.out HX.out))
      go_wp2_with fail
      refine wp_region_held_drew (S := fun w' => RtQ w w' s p g off a n c m d x k y) (by kernel_rfl) HQ.out.drew (fun hS => ?_)
      refine held_tk 0 13 (.pointer (some ⟨p, 17, none⟩)) rfl rfl (by kernel_rfl) (fun _ _ _ h => h) (fun _ _ => (by kernel_rfl)) hS ?_
      simp only [Act.put, ap1, ap2, ap3]
      refine held_tk 1 14 (.slice (some ⟨g, off, none⟩) m d) rfl rfl (by kernel_rfl) (fun _ _ _ h => h) (fun _ h => exec_cell rfl rfl (load_cell (by kernel_rfl) (stc17 h.st))) hS ?_
      simp only [Act.put, ap1, ap2, ap3]
      refine held_tk 2 15 (.int .i64 (k : Int)) rfl rfl (by kernel_rfl) (fun _ _ _ h => h) (fun _ _ => rfl) hS ?_
      simp only [Act.put, ap1, ap2, ap3]
      refine held_tk 3 16 (.pointer (some ⟨g, off + k * 2, none⟩)) rfl rfl (by kernel_rfl) (fun _ _ _ h => h) (fun _ _ => exec_idx95 (i := k) rfl rfl rfl rfl hlt) hS ?_
      simp only [Act.put, ap1, ap2, ap3]
      refine held_tk 4 17 (.pointer (some ⟨g, off + k * 2 + 1, none⟩)) rfl rfl (by kernel_rfl) (fun _ _ _ h => h) (fun _ _ => (by kernel_rfl)) hS ?_
      simp only [Act.put, ap1, ap2, ap3]
      refine held_tk 5 18 (.int .u32 (x.t : Int)) rfl rfl (by kernel_rfl) (fun _ _ _ h => h) (fun _ h => exec_cell rfl rfl (load_cell (by kernel_rfl) h.tx)) hS ?_
      simp only [Act.put, ap1, ap2, ap3]
      refine held_tk 6 19 (.bool false) rfl rfl (by kernel_rfl) (fun _ _ _ h => h) (fun _ _ => exec_gtrI rfl rfl rfl hq) hS ?_
      simp only [Act.put, ap1, ap2, ap3]
      refine held_tk 7 20 (.bool false) rfl rfl (by kernel_rfl) (fun _ _ _ h => h) (fun _ _ => rfl) hS ?_
      simp only [Act.put, ap1, ap2, ap3]
      refine held_tk 8 21 (.int .i64 (k : Int)) rfl rfl (by kernel_rfl) (fun _ _ _ h => h) (fun _ _ => rfl) hS ?_
      simp only [Act.put, ap1, ap2, ap3]
      refine held_tk 9 22 (.bool true) rfl rfl (by kernel_rfl) (fun _ _ _ h => h) (fun _ _ => exec_gtrI rfl rfl rfl hk0) hS ?_
      simp only [Act.put, ap1, ap2, ap3]
      refine held_tk 10 23 (.bool true) rfl rfl (by kernel_rfl) (fun _ _ _ h => h) (fun _ _ => rfl) hS ?_
      simp only [Act.put, ap1, ap2, ap3]
      refine held_tk 11 24 (.pointer (some ⟨p, 17, none⟩)) rfl rfl (by kernel_rfl) (fun _ _ _ h => h) (fun _ _ => (by kernel_rfl)) hS ?_
      simp only [Act.put, ap1, ap2, ap3]
      refine held_tk 12 25 (.slice (some ⟨g, off, none⟩) m d) rfl rfl (by kernel_rfl) (fun _ _ _ h => h) (fun _ h => exec_cell rfl rfl (load_cell (by kernel_rfl) (stc17 h.st))) hS ?_
      simp only [Act.put, ap1, ap2, ap3]
      refine held_tk 13 26 (.int .i64 (k : Int)) rfl rfl (by kernel_rfl) (fun _ _ _ h => h) (fun _ _ => rfl) hS ?_
      simp only [Act.put, ap1, ap2, ap3]
      refine held_tk 14 27 (.int .i64 ((k : Int) - 1)) rfl rfl (by kernel_rfl) (fun _ _ _ h => h) (fun _ _ => exec_subN rfl rfl rfl rfl (by omega) (by omega)) hS ?_
      simp only [Act.put, ap1, ap2, ap3]
      refine held_tk 15 28 (.pointer (some ⟨g, off + (k - 1) * 2, none⟩)) rfl rfl (by kernel_rfl) (fun _ _ _ h => h) (fun _ _ => exec_idx95 (i := k - 1) rfl rfl rfl (by omega) (by omega)) hS ?_
      simp only [Act.put, ap1, ap2, ap3]
      refine held_tk 16 29 (.pointer (some ⟨g, off + (k - 1) * 2, none⟩)) rfl rfl (by kernel_rfl) (fun _ _ _ h => h) (fun _ _ => (by kernel_rfl)) hS ?_
      simp only [Act.put, ap1, ap2, ap3]
      refine held_tk 17 30 (.int .u16 (y.c : Int)) rfl rfl (by kernel_rfl) (fun _ _ _ h => h) (fun _ h => exec_cell rfl rfl (load_cell (by kernel_rfl) h.cy)) hS ?_
      simp only [Act.put, ap1, ap2, ap3]
      refine held_tk 18 31 (.pointer (some ⟨p, 17, none⟩)) rfl rfl (by kernel_rfl) (fun _ _ _ h => h) (fun _ _ => (by kernel_rfl)) hS ?_
      simp only [Act.put, ap1, ap2, ap3]
      refine held_tk 19 32 (.slice (some ⟨g, off, none⟩) m d) rfl rfl (by kernel_rfl) (fun _ _ _ h => h) (fun _ h => exec_cell rfl rfl (load_cell (by kernel_rfl) (stc17 h.st))) hS ?_
      simp only [Act.put, ap1, ap2, ap3]
      refine held_tk 20 33 (.int .i64 (k : Int)) rfl rfl (by kernel_rfl) (fun _ _ _ h => h) (fun _ _ => rfl) hS ?_
      simp only [Act.put, ap1, ap2, ap3]
      refine held_tk 21 34 (.pointer (some ⟨g, off + k * 2, none⟩)) rfl rfl (by kernel_rfl) (fun _ _ _ h => h) (fun _ _ => exec_idx95 (i := k) rfl rfl rfl rfl hlt) hS ?_
      simp only [Act.put, ap1, ap2, ap3]
      refine held_tk 22 35 (.pointer (some ⟨g, off + k * 2, none⟩)) rfl rfl (by kernel_rfl) (fun _ _ _ h => h) (fun _ _ => (by kernel_rfl)) hS ?_
      simp only [Act.put, ap1, ap2, ap3]
      refine held_tk 23 36 (.int .u16 (x.c : Int)) rfl rfl (by kernel_rfl) (fun _ _ _ h => h) (fun _ h => exec_cell rfl rfl (load_cell (by kernel_rfl) h.cx)) hS ?_
      simp only [Act.put, ap1, ap2, ap3]
      refine held_tk 24 37 (.bool true) rfl rfl (by kernel_rfl) (fun _ _ _ h => h) (fun _ _ => exec_geqI rfl rfl rfl hc) hS ?_
      simp only [Act.put, ap1, ap2, ap3]
      refine held_tk 25 38 (.bool true) rfl rfl (by kernel_rfl) (fun _ _ _ h => h) (fun _ _ => rfl) hS ?_
      simp only [Act.put, ap1, ap2, ap3]
      refine held_tk 26 39 (.bool true) rfl rfl (by kernel_rfl) (fun _ _ _ h => h) (fun _ _ => rfl) hS ?_
      simp only [Act.put, ap1, ap2, ap3]
      refine wpAnyH_done (by kernel_rfl) ?_ _
      have HS2 := Lib.hid hS
      clear hS
      go_wp2_with fail
      go_ret
      exact ⟨false, rfl, by simp [HN.out], HS2.out.old⟩
    ·have hk0 : decide ((0 : Int) < (k : Int)) = false := by simp; omega
     have HQ : Hid (RtQ w wr s p g off a n c m d x k x) := Lib.hid ⟨HST.out, HE1.out.1, HE1.out.2, by rw [show (k - 1) * 2 = k * 2 by omega]; exact HE1.out.1, HB.out⟩
     have HNX : Hid (TsTo s.ts (k + 1)) := Lib.hid (HT.out.next HX.out ht (fun z hz => by omega))
     go_wp2_with fail
     refine wp_region_held_drew (S := fun w' => RtQ w w' s p g off a n c m d x k x) (by kernel_rfl) HQ.out.drew (fun hS => ?_)
     refine held_tk 0 13 (.pointer (some ⟨p, 17, none⟩)) rfl rfl (by kernel_rfl) (fun _ _ _ h => h) (fun _ _ => (by kernel_rfl)) hS ?_
     simp only [Act.put, ap1, ap2, ap3]
     refine held_tk 1 14 (.slice (some ⟨g, off, none⟩) m d) rfl rfl (by kernel_rfl) (fun _ _ _ h => h) (fun _ h => exec_cell rfl rfl (load_cell (by kernel_rfl) (stc17 h.st))) hS ?_
     simp only [Act.put, ap1, ap2, ap3]
     refine held_tk 2 15 (.int .i64 (k : Int)) rfl rfl (by kernel_rfl) (fun _ _ _ h => h) (fun _ _ => rfl) hS ?_
     simp only [Act.put, ap1, ap2, ap3]
     refine held_tk 3 16 (.pointer (some ⟨g, off + k * 2, none⟩)) rfl rfl (by kernel_rfl) (fun _ _ _ h => h) (fun _ _ => exec_idx95 (i := k) rfl rfl rfl rfl hlt) hS ?_
     simp only [Act.put, ap1, ap2, ap3]
     refine held_tk 4 17 (.pointer (some ⟨g, off + k * 2 + 1, none⟩)) rfl rfl (by kernel_rfl) (fun _ _ _ h => h) (fun _ _ => (by kernel_rfl)) hS ?_
     simp only [Act.put, ap1, ap2, ap3]
     refine held_tk 5 18 (.int .u32 (x.t : Int)) rfl rfl (by kernel_rfl) (fun _ _ _ h => h) (fun _ h => exec_cell rfl rfl (load_cell (by kernel_rfl) h.tx)) hS ?_
     simp only [Act.put, ap1, ap2, ap3]
     refine held_tk 6 19 (.bool false) rfl rfl (by kernel_rfl) (fun _ _ _ h => h) (fun _ _ => exec_gtrI rfl rfl rfl hq) hS ?_
     simp only [Act.put, ap1, ap2, ap3]
     refine held_tk 7 20 (.bool false) rfl rfl (by kernel_rfl) (fun _ _ _ h => h) (fun _ _ => rfl) hS ?_
     simp only [Act.put, ap1, ap2, ap3]
     refine held_tk 8 21 (.int .i64 (k : Int)) rfl rfl (by kernel_rfl) (fun _ _ _ h => h) (fun _ _ => rfl) hS ?_
     simp only [Act.put, ap1, ap2, ap3]
     refine held_tk 9 22 (.bool false) rfl rfl (by kernel_rfl) (fun _ _ _ h => h) (fun _ _ => exec_gtrI rfl rfl rfl hk0) hS ?_
     simp only [Act.put, ap1, ap2, ap3]
     refine held_tk 10 23 (.bool false) rfl rfl (by kernel_rfl) (fun _ _ _ h => h) (fun _ _ => rfl) hS ?_
     simp only [Act.put, ap1, ap2, ap3]
     refine held_sk 11 24 rfl rfl (by kernel_rfl) (fun _ _ _ h => h) hS ?_
     simp only [Act.put, ap1, ap2, ap3]
     refine held_sk 12 25 rfl rfl (by kernel_rfl) (fun _ _ _ h => h) hS ?_
     simp only [Act.put, ap1, ap2, ap3]
     refine held_sk 13 26 rfl rfl (by kernel_rfl) (fun _ _ _ h => h) hS ?_
     simp only [Act.put, ap1, ap2, ap3]
     refine held_sk 14 27 rfl rfl (by kernel_rfl) (fun _ _ _ h => h) hS ?_
     simp only [Act.put, ap1, ap2, ap3]
     refine held_sk 15 28 rfl rfl (by kernel_rfl) (fun _ _ _ h => h) hS ?_
     simp only [Act.put, ap1, ap2, ap3]
     refine held_sk 16 29 rfl rfl (by kernel_rfl) (fun _ _ _ h => h) hS ?_
     simp only [Act.put, ap1, ap2, ap3]
     refine held_sk 17 30 rfl rfl (by kernel_rfl) (fun _ _ _ h => h) hS ?_
     simp only [Act.put, ap1, ap2, ap3]
     refine held_sk 18 31 rfl rfl (by kernel_rfl) (fun _ _ _ h => h) hS ?_
     simp only [Act.put, ap1, ap2, ap3]
     refine held_sk 19 32 rfl rfl (by kernel_rfl) (fun _ _ _ h => h) hS ?_
     simp only [Act.put, ap1, ap2, ap3]
     refine held_sk 20 33 rfl rfl (by kernel_rfl) (fun _ _ _ h => h) hS ?_
     simp only [Act.put, ap1, ap2, ap3]
     refine held_sk 21 34 rfl rfl (by kernel_rfl) (fun _ _ _ h => h) hS ?_
     simp only [Act.put, ap1, ap2, ap3]
     refine held_sk 22 35 rfl rfl (by kernel_rfl) (fun _ _ _ h => h) hS ?_
     simp only [Act.put, ap1, ap2, ap3]
     refine held_sk 23 36 rfl rfl (by kernel_rfl) (fun _ _ _ h => h) hS ?_
     simp only [Act.put, ap1, ap2, ap3]
     refine held_sk 24 37 rfl rfl (by kernel_rfl) (fun _ _ _ h => h) hS ?_
     simp only [Act.put, ap1, ap2, ap3]
     refine held_tk 25 38 (.bool false) rfl rfl (by kernel_rfl) (fun _ _ _ h => h) (fun _ _ => rfl) hS ?_
     simp only [Act.put, ap1, ap2, ap3]
     refine held_tk 26 39 (.bool false) rfl rfl (by kernel_rfl) (fun _ _ _ h => h) (fun _ _ => rfl) hS ?_
     simp only [Act.put, ap1, ap2, ap3]
     refine wpAnyH_done (by kernel_rfl) ?_ _
     have HS2 := Lib.hid hS
     clear hS
     go_wp2_with fail
     go_roundw
     case rel => exact ⟨k + 1, by omega, by go_num, HNX, Lib.hid HS2.out.st, Lib.hid HS2.out.old⟩
     case measure => simp [intOf]; omega
   ·have hq : decide ((1073741824 : Int) < (x.t : Int)) = true := by simp; omega
    have HN : Hid (¬ s.Right) := Lib.hid (fun h => ht ((HRP.out.1 h).2.1.le x (List.mem_of_getElem? HX.out)))
    have HQ : Hid (RtQz w wr s p g off a n c m d x k) := Lib.hid ⟨HST.out, HE1.out.1, HE1.out.2, HB.out⟩
    go_wp2_with fail
    refine wp_region_held_drew (S := fun w' => RtQz w w' s p g off a n c m d x k) (by kernel_rfl) HQ.out.drew (fun hS => ?_)
    refine held_tk 0 13 (.pointer (some ⟨p, 17, none⟩)) rfl rfl (by kernel_rfl) (fun _ _ _ h => h) (fun _ _ => (by kernel_rfl)) hS ?_
    simp only [Act.put, ap1, ap2, ap3]
    refine held_tk 1 14 (.slice (some ⟨g, off, none⟩) m d) rfl rfl (by kernel_rfl) (fun _ _ _ h => h) (fun _ h => exec_cell rfl rfl (load_cell (by kernel_rfl) (stc17 h.st))) hS ?_
    simp only [Act.put, ap1, ap2, ap3]
    refine held_tk 2 15 (.int .i64 (k : Int)) rfl rfl (by kernel_rfl) (fun _ _ _ h => h) (fun _ _ => rfl) hS ?_
    simp only [Act.put, ap1, ap2, ap3]
    refine held_tk 3 16 (.pointer (some ⟨g, off + k * 2, none⟩)) rfl rfl (by kernel_rfl) (fun _ _ _ h => h) (fun _ _ => exec_idx95 (i := k) rfl rfl rfl rfl hlt) hS ?_
    simp only [Act.put, ap1, ap2, ap3]
    refine held_tk 4 17 (.pointer (some ⟨g, off + k * 2 + 1, none⟩)) rfl rfl (by kernel_rfl) (fun _ _ _ h => h) (fun _ _ => (by kernel_rfl)) hS ?_
    simp only [Act.put, ap1, ap2, ap3]
    refine held_tk 5 18 (.int .u32 (x.t : Int)) rfl rfl (by kernel_rfl) (fun _ _ _ h => h) (fun _ h => exec_cell rfl rfl (load_cell (by kernel_rfl) h.tx)) hS ?_
    simp only [Act.put, ap1, ap2, ap3]
    refine held_tk 6 19 (.bool true) rfl rfl (by kernel_rfl) (fun _ _ _ h => h) (fun _ _ => exec_gtrI rfl rfl rfl hq) hS ?_
    simp only [Act.put, ap1, ap2, ap3]
    refine held_tk 7 20 (.bool true) rfl rfl (by kernel_rfl) (fun _ _ _ h => h) (fun _ _ => rfl) hS ?_
    simp only [Act.put, ap1, ap2, ap3]
    refine held_sk 8 21 rfl rfl (by kernel_rfl) (fun _ _ _ h => h) hS ?_
    simp only [Act.put, ap1, ap2, ap3]
    refine held_sk 9 22 rfl rfl (by kernel_rfl) (fun _ _ _ h => h) hS ?_
    simp only [Act.put, ap1, ap2, ap3]
    refine held_sk 10 23 rfl rfl (by kernel_rfl) (fun _ _ _ h => h) hS ?_
    simp only [Act.put, ap1, ap2, ap3]
    refine held_sk 11 24 rfl rfl (by kernel_rfl) (fun _ _ _ h => h) hS ?_
    simp only [Act.put, ap1, ap2, ap3]
    refine held_sk 12 25 rfl rfl (by kernel_rfl) (fun _ _ _ h => h) hS ?_
    simp only [Act.put, ap1, ap2, ap3]
    refine held_sk 13 26 rfl rfl (by kernel_rfl) (fun _ _ _ h => h) hS ?_
    simp only [Act.put, ap1, ap2, ap3]
    refine held_sk 14 27 rfl rfl (by kernel_rfl) (fun _ _ _ h => h) hS ?_
    simp only [Act.put, ap1, ap2, ap3]
    refine held_sk 15 28 rfl rfl (by kernel_rfl) (fun _ _ _ h => h) hS ?_
    simp only [Act.put, ap1, ap2, ap3]
    refine held_sk 16 29 rfl rfl (by kernel_rfl) (fun _ _ _ h => h) hS ?_
    simp only [Act.put, ap1, ap2, ap3]
    refine held_sk 17 30 rfl rfl (by kernel_rfl) (fun _ _ _ h => h) hS ?_
    simp only [Act.put, ap1, ap2, ap3]
    refine held_sk 18 31 rfl rfl (by kernel_rfl) (fun _ _ _ h => h) hS ?_
    simp only [Act.put, ap1, ap2, ap3]
    refine held_sk 19 32 rfl rfl (by kernel_rfl) (fun _ _ _ h => h) hS ?_
    simp only [Act.put, ap1, ap2, ap3]
    refine held_sk 20 33 rfl rfl (by kernel_rfl) (fun _ _ _ h => h) hS ?_
    simp only [Act.put, ap1, ap2, ap3]
    refine held_sk 21 34 rfl rfl (by kernel_rfl) (fun _ _ _ h => h) hS ?_
    simp only [Act.put, ap1, ap2, ap3]
    refine held_sk 22 35 rfl rfl (by kernel_rfl) (fun _ _ _ h => h) hS ?_
    simp only [Act.put, ap1, ap2, ap3]
    refine held_sk 23 36 rfl rfl (by kernel_rfl) (fun _ _ _ h => h) hS ?_
    simp only [Act.put, ap1, ap2, ap3]
    refine held_sk 24 37 rfl rfl (by kernel_rfl) (fun _ _ _ h => h) hS ?_
    simp only [Act.put, ap1, ap2, ap3]
    refine held_sk 25 38 rfl rfl (by kernel_rfl) (fun _ _ _ h => h) hS ?_
    simp only [Act.put, ap1, ap2, ap3]
    refine held_tk 26 39 (.bool true) rfl rfl (by kernel_rfl) (fun _ _ _ h => h) (fun _ _ => rfl) hS ?_
    simp only [Act.put, ap1, ap2, ap3]
    refine wpAnyH_done (by kernel_rfl) ?_ _
    have HS2 := Lib.hid hS
    clear hS
    go_wp2_with fail
    go_ret
    exact ⟨false, rfl, by simp [HN.out], HS2.out.old⟩
  ·have HTR : Hid (TsR s.ts) := Lib.hid (HT.out.all (by rw [HLET.out]; omega))
   clear HT
   go_wp2_with fail
   clear c17
   go_loopw [4] (fun i wr => ∃ k : Nat, k ≤ n ∧ i = .int .i64 (k : Int) ∧ Hid (EsQ s (s.es.take k)) ∧ Hid (Blk wr p 28 (sv s.v a n c b m d)) ∧ Hid (Below w.heap.size w wr)) (fun i _ => n - (intOf i).toNat)
   case atStart => exact ⟨0, Nat.zero_le _, rfl, Lib.hid ⟨by simp, by simp, by simp [OneE]⟩, HST, HB⟩
   case round =>
    clear HST HB
    obtain ⟨k, hk, rfl, HE, HST, HB⟩ := hrel
    have c16 := stc16 HST.out
    by_cases hlt : k < n
    ·obtain ⟨g, off, x, rfl, hx, hr⟩ := EL.at (HL.out.es.below HB.out) hlt
     have HX := Lib.hid hx
     have HR := Lib.hid hr
     have HKR := Lib.hid (fun W hb => re_any (c := c) (d := d) (w := W) (HL.out.below hb) hm x)
     clear hx hr
     obtain ⟨rb, hrb⟩ : ∃ rb, reB s x = rb := ⟨_, rfl⟩
     have HRB := Lib.hid hrb
     have HK : Hid (∀ W, Below w.heap.size w W → Calls Tryz.prog 53 #[.agg (sv s.v (some ⟨g, off, none⟩) n c b m d), .agg x.arr] W (Says (.bool rb) W)) := Lib.hid (fun W hb => hrb ▸ HKR.out W hb)
     clear hrb HKR
     cases rb
     ·have HN : Hid (¬ s.Right) := Lib.hid (fun h => by have := (HRP.out.1 h).2.2.has x (List.mem_of_getElem? HX.out); rw [HRB.out] at this; cases this)
      have HQ : Hid (RrS w wr s p g off n c b m d x (off + k * 7) x (off + k * 7)) := Lib.hid ⟨HST.out, HR.out, HR.out, HB.out⟩
      go_wp2_with fail
      refine wp_region_held_drew (S := fun w' => RrS w w' s p g off n c b m d x (off + k * 7) x (off + k * 7)) (by kernel_rfl) HQ.out.drew (fun hS => ?_)
      refine held_tk 0 47 (.agg (sv s.v (some ⟨g, off, none⟩) n c b m d)) rfl rfl (by kernel_rfl) (fun _ _ _ h => h) (fun _ h => exec_load28 rfl rfl h.st) hS ?_
      simp only [Act.put, ap1, ap2, ap3]
      refine held_tk 1 48 (.pointer (some ⟨p, 16, none⟩)) rfl rfl (by kernel_rfl) (fun _ _ _ h => h) (fun _ _ => (by kernel_rfl)) hS ?_
      simp only [Act.put, ap1, ap2, ap3]
      refine held_tk 2 49 (.slice (some ⟨g, off, none⟩) n c) rfl rfl (by kernel_rfl) (fun _ _ _ h => h) (fun _ h => exec_cell rfl rfl (load_cell (by kernel_rfl) (stc16 h.st))) hS ?_
      simp only [Act.put, ap1, ap2, ap3]
      refine held_tk 3 50 (.int .i64 (k : Int)) rfl rfl (by kernel_rfl) (fun _ _ _ h => h) (fun _ _ => rfl) hS ?_
      simp only [Act.put, ap1, ap2, ap3]
      refine held_tk 4 51 (.pointer (some ⟨g, off + k * 7, none⟩)) rfl rfl (by kernel_rfl) (fun _ _ _ h => h) (fun _ _ => exec_idx93 (i := k) rfl rfl rfl rfl hlt) hS ?_
      simp only [Act.put, ap1, ap2, ap3]
      refine held_tk 5 52 (.agg x.arr) rfl rfl (by kernel_rfl) (fun _ _ _ h => h) (fun _ h => exec_ld93 (p := x) rfl rfl h.el) hS ?_
      simp only [Act.put, ap1, ap2, ap3]
      refine held_call 6 53 53 #[(.agg (sv s.v (some ⟨g, off, none⟩) n c b m d)), (.agg x.arr)] (.bool false) rfl (by kernel_rfl) rfl (by kernel_rfl) (by kernel_rfl) (HK.out _ hS.old) (fun _ h hb => h.below hb) hS (fun w106 hS => ?_)
      simp only [Act.put, ap1, ap2, ap3]
      refine held_tk 7 54 (.bool true) rfl rfl (by kernel_rfl) (fun _ _ _ h => h) (fun _ _ => rfl) hS ?_
      simp only [Act.put, ap1, ap2, ap3]
      refine held_tk 8 55 (.bool true) rfl rfl (by kernel_rfl) (fun _ _ _ h => h) (fun _ _ => rfl) hS ?_
      simp only [Act.put, ap1, ap2, ap3]
      refine held_sk 9 56 rfl rfl (by kernel_rfl) (fun _ _ _ h => h) hS ?_
      simp only [Act.put, ap1, ap2, ap3]
      refine held_sk 10 57 rfl rfl (by kernel_rfl) (fun _ _ _ h => h) hS ?_
      simp only [Act.put, ap1, ap2, ap3]
      refine held_sk 11 58 rfl rfl (by kernel_rfl) (fun _ _ _ h => h) hS ?_
      simp only [Act.put, ap1, ap2, ap3]
      refine held_sk 12 59 rfl rfl (by kernel_rfl) (fun _ _ _ h => h) hS ?_
      simp only [Act.put, ap1, ap2, ap3]
      refine held_sk 13 60 rfl rfl (by kernel_rfl) (fun _ _ _ h => h) hS ?_
      simp only [Act.put, ap1, ap2, ap3]
      refine held_sk 14 61 rfl rfl (by kernel_rfl) (fun _ _ _ h => h) hS ?_
      simp only [Act.put, ap1, ap2, ap3]
      refine held_sk 15 62 rfl rfl (by kernel_rfl) (fun _ _ _ h => h) hS ?_
      simp only [Act.put, ap1, ap2, ap3]
      refine held_sk 16 63 rfl rfl (by kernel_rfl) (fun _ _ _ h => h) hS ?_
      simp only [Act.put, ap1, ap2, ap3]
      refine held_sk 17 64 rfl rfl (by kernel_rfl) (fun _ _ _ h => h) hS ?_
      simp only [Act.put, ap1, ap2, ap3]
      refine held_sk 18 65 rfl rfl (by kernel_rfl) (fun _ _ _ h => h) hS ?_
      simp only [Act.put, ap1, ap2, ap3]
      refine held_sk 19 66 rfl rfl (by kernel_rfl) (fun _ _ _ h => h) hS ?_
      simp only [Act.put, ap1, ap2, ap3]
      refine held_sk 20 67 rfl rfl (by kernel_rfl) (fun _ _ _ h => h) hS ?_
      simp only [Act.put, ap1, ap2, ap3]
      refine held_sk 21 68 rfl rfl (by kernel_rfl) (fun _ _ _ h => h) hS ?_
      simp only [Act.put, ap1, ap2, ap3]
      refine held_sk 22 69 rfl rfl (by kernel_rfl) (fun _ _ _ h => h) hS ?_
      simp only [Act.put, ap1, ap2, ap3]
      refine held_sk 23 70 rfl rfl (by kernel_rfl) (fun _ _ _ h => h) hS ?_
      simp only [Act.put, ap1, ap2, ap3]
      refine held_sk 24 71 rfl rfl (by kernel_rfl) (fun _ _ _ h => h) hS ?_
      simp only [Act.put, ap1, ap2, ap3]
      refine held_sk 25 72 rfl rfl (by kernel_rfl) (fun _ _ _ h => h) hS ?_
      simp only [Act.put, ap1, ap2, ap3]
      refine held_tk 26 73 (.bool true) rfl rfl (by kernel_rfl) (fun _ _ _ h => h) (fun _ _ => rfl) hS ?_
      simp only [Act.put, ap1, ap2, ap3]
      refine wpAnyH_done (by kernel_rfl) ?_ _
      have HS2 := Lib.hid hS
      clear hS
      go_wp2_with fail
      go_ret
      exact ⟨false, rfl, by simp [HN.out], HS2.out.old⟩
     ·by_cases h0 : 0 < k
      ·have hk0 : decide ((0 : Int) < (k : Int)) = true := by simp; omega
       obtain ⟨b2, off2, y, e2, hy, hr2⟩ := EL.at (HL.out.es.below HB.out) (i := k - 1) (by omega)
       simp only [Option.some.injEq, Addr.mk.injEq, and_true] at e2
       obtain ⟨rfl, rfl⟩ := e2
       have HY := Lib.hid hy
       have HQ : Hid (RrS w wr s p g off n c b m d x (off + k * 7) y (off + (k - 1) * 7)) := Lib.hid ⟨HST.out, HR.out, hr2, HB.out⟩
       clear hy hr2
       obtain ⟨ah, hah⟩ : ∃ ah, En.aheadB y x = ah := ⟨_, rfl⟩
       have HAH := Lib.hid hah
       have HO : Hid (∀ W, Calls Tryz.prog 54 #[.agg y.arr, .agg x.arr] W (Says (.bool ah) W)) := Lib.hid (fun W => hah ▸ ahead_any y x W)
       clear hah
       cases ah
       ·have HN : Hid (¬ s.Right) := Lib.hid (fun h => (En.aheadB_not y x).1 HAH.out (pair_get (HRP.out.1 h).2.2.ord (by omega) HY.out HX.out))
        go_wp2_with fail
        refine wp_region_held_drew (S := fun w' => RrS w w' s p g off n c b m d x (off + k * 7) y (off + (k - 1) * 7)) (by kernel_rfl) HQ.out.drew (fun hS => ?_)
        refine held_tk 0 47 (.agg (sv s.v (some ⟨g, off, none⟩) n c b m d)) rfl rfl (by kernel_rfl) (fun _ _ _ h => h) (fun _ h => exec_load28 rfl rfl h.st) hS ?_
        simp only [Act.put, ap1, ap2, ap3]
        refine held_tk 1 48 (.pointer (some ⟨p, 16, none⟩)) rfl rfl (by kernel_rfl) (fun _ _ _ h => h) (fun _ _ => (by kernel_rfl)) hS ?_
        simp only [Act.put, ap1, ap2, ap3]
        refine held_tk 2 49 (.slice (some ⟨g, off, none⟩) n c) rfl rfl (by kernel_rfl) (fun _ _ _ h => h) (fun _ h => exec_cell rfl rfl (load_cell (by kernel_rfl) (stc16 h.st))) hS ?_
        simp only [Act.put, ap1, ap2, ap3]
        refine held_tk 3 50 (.int .i64 (k : Int)) rfl rfl (by kernel_rfl) (fun _ _ _ h => h) (fun _ _ => rfl) hS ?_
        simp only [Act.put, ap1, ap2, ap3]
        refine held_tk 4 51 (.pointer (some ⟨g, off + k * 7, none⟩)) rfl rfl (by kernel_rfl) (fun _ _ _ h => h) (fun _ _ => exec_idx93 (i := k) rfl rfl rfl rfl hlt) hS ?_
        simp only [Act.put, ap1, ap2, ap3]
        refine held_tk 5 52 (.agg x.arr) rfl rfl (by kernel_rfl) (fun _ _ _ h => h) (fun _ h => exec_ld93 (p := x) rfl rfl h.el) hS ?_
        simp only [Act.put, ap1, ap2, ap3]
        refine held_call 6 53 53 #[(.agg (sv s.v (some ⟨g, off, none⟩) n c b m d)), (.agg x.arr)] (.bool true) rfl (by kernel_rfl) rfl (by kernel_rfl) (by kernel_rfl) (HK.out _ hS.old) (fun _ h hb => h.below hb) hS (fun w106 hS => ?_)
        simp only [Act.put, ap1, ap2, ap3]
        refine held_tk 7 54 (.bool false) rfl rfl (by kernel_rfl) (fun _ _ _ h => h) (fun _ _ => rfl) hS ?_
        simp only [Act.put, ap1, ap2, ap3]
        refine held_tk 8 55 (.bool false) rfl rfl (by kernel_rfl) (fun _ _ _ h => h) (fun _ _ => rfl) hS ?_
        simp only [Act.put, ap1, ap2, ap3]
        refine held_tk 9 56 (.int .i64 (k : Int)) rfl rfl (by kernel_rfl) (fun _ _ _ h => h) (fun _ _ => rfl) hS ?_
        simp only [Act.put, ap1, ap2, ap3]
        refine held_tk 10 57 (.bool true) rfl rfl (by kernel_rfl) (fun _ _ _ h => h) (fun _ _ => exec_gtrI rfl rfl rfl hk0) hS ?_
        simp only [Act.put, ap1, ap2, ap3]
        refine held_tk 11 58 (.bool true) rfl rfl (by kernel_rfl) (fun _ _ _ h => h) (fun _ _ => rfl) hS ?_
        simp only [Act.put, ap1, ap2, ap3]
        refine held_tk 12 59 (.pointer (some ⟨p, 16, none⟩)) rfl rfl (by kernel_rfl) (fun _ _ _ h => h) (fun _ _ => (by kernel_rfl)) hS ?_
        simp only [Act.put, ap1, ap2, ap3]
        refine held_tk 13 60 (.slice (some ⟨g, off, none⟩) n c) rfl rfl (by kernel_rfl) (fun _ _ _ h => h) (fun _ h => exec_cell rfl rfl (load_cell (by kernel_rfl) (stc16 h.st))) hS ?_
        simp only [Act.put, ap1, ap2, ap3]
        refine held_tk 14 61 (.int .i64 (k : Int)) rfl rfl (by kernel_rfl) (fun _ _ _ h => h) (fun _ _ => rfl) hS ?_
        simp only [Act.put, ap1, ap2, ap3]
        refine held_tk 15 62 (.int .i64 ((k : Int) - 1)) rfl rfl (by kernel_rfl) (fun _ _ _ h => h) (fun _ _ => exec_subN rfl rfl rfl rfl (by omega) (by omega)) hS ?_
        simp only [Act.put, ap1, ap2, ap3]
        refine held_tk 16 63 (.pointer (some ⟨g, off + (k - 1) * 7, none⟩)) rfl rfl (by kernel_rfl) (fun _ _ _ h => h) (fun _ _ => exec_idx93 (i := k - 1) rfl rfl rfl (by omega) (by omega)) hS ?_
        simp only [Act.put, ap1, ap2, ap3]
        refine held_tk 17 64 (.agg y.arr) rfl rfl (by kernel_rfl) (fun _ _ _ h => h) (fun _ h => exec_ld93 (p := y) rfl rfl h.pr) hS ?_
        simp only [Act.put, ap1, ap2, ap3]
        refine held_tk 18 65 (.pointer (some ⟨p, 16, none⟩)) rfl rfl (by kernel_rfl) (fun _ _ _ h => h) (fun _ _ => (by kernel_rfl)) hS ?_
        simp only [Act.put, ap1, ap2, ap3]
        refine held_tk 19 66 (.slice (some ⟨g, off, none⟩) n c) rfl rfl (by kernel_rfl) (fun _ _ _ h => h) (fun _ h => exec_cell rfl rfl (load_cell (by kernel_rfl) (stc16 h.st))) hS ?_
        simp only [Act.put, ap1, ap2, ap3]
        refine held_tk 20 67 (.int .i64 (k : Int)) rfl rfl (by kernel_rfl) (fun _ _ _ h => h) (fun _ _ => rfl) hS ?_
        simp only [Act.put, ap1, ap2, ap3]
        refine held_tk 21 68 (.pointer (some ⟨g, off + k * 7, none⟩)) rfl rfl (by kernel_rfl) (fun _ _ _ h => h) (fun _ _ => exec_idx93 (i := k) rfl rfl rfl rfl hlt) hS ?_
        simp only [Act.put, ap1, ap2, ap3]
        refine held_tk 22 69 (.agg x.arr) rfl rfl (by kernel_rfl) (fun _ _ _ h => h) (fun _ h => exec_ld93 (p := x) rfl rfl h.el) hS ?_
        simp only [Act.put, ap1, ap2, ap3]
        refine held_call 23 70 54 #[(.agg y.arr), (.agg x.arr)] (.bool false) rfl (by kernel_rfl) rfl (by kernel_rfl) (by kernel_rfl) (HO.out _) (fun _ h hb => h.below hb) hS (fun w123 hS => ?_)
        simp only [Act.put, ap1, ap2, ap3]
        refine held_tk 24 71 (.bool true) rfl rfl (by kernel_rfl) (fun _ _ _ h => h) (fun _ _ => rfl) hS ?_
        simp only [Act.put, ap1, ap2, ap3]
        refine held_tk 25 72 (.bool true) rfl rfl (by kernel_rfl) (fun _ _ _ h => h) (fun _ _ => rfl) hS ?_
        simp only [Act.put, ap1, ap2, ap3]
        refine held_tk 26 73 (.bool true) rfl rfl (by kernel_rfl) (fun _ _ _ h => h) (fun _ _ => rfl) hS ?_
        simp only [Act.put, ap1, ap2, ap3]
        refine wpAnyH_done (by kernel_rfl) ?_ _
        have HS2 := Lib.hid hS
        clear hS
        go_wp2_with fail
        go_ret
        exact ⟨false, rfl, by simp [HN.out], HS2.out.old⟩
       ·have HPV : Hid (∀ z, 0 < k → s.es[k - 1]? = some z → En.Ahead z x) := Lib.hid (fun z _ hz => by obtain rfl := Option.some.inj (hz.symm.trans HY.out); exact (En.aheadB_iff _ _).1 HAH.out)
        go_wp2_with fail
        refine wp_region_held_drew (S := fun w' => RrS w w' s p g off n c b m d x (off + k * 7) y (off + (k - 1) * 7)) (by kernel_rfl) HQ.out.drew (fun hS => ?_)
        refine held_tk 0 47 (.agg (sv s.v (some ⟨g, off, none⟩) n c b m d)) rfl rfl (by kernel_rfl) (fun _ _ _ h => h) (fun _ h => exec_load28 rfl rfl h.st) hS ?_
        simp only [Act.put, ap1, ap2, ap3]
        refine held_tk 1 48 (.pointer (some ⟨p, 16, none⟩)) rfl rfl (by kernel_rfl) (fun _ _ _ h => h) (fun _ _ => (by kernel_rfl)) hS ?_
        simp only [Act.put, ap1, ap2, ap3]
        refine held_tk 2 49 (.slice (some ⟨g, off, none⟩) n c) rfl rfl (by kernel_rfl) (fun _ _ _ h => h) (fun _ h => exec_cell rfl rfl (load_cell (by kernel_rfl) (stc16 h.st))) hS ?_
        simp only [Act.put, ap1, ap2, ap3]
        refine held_tk 3 50 (.int .i64 (k : Int)) rfl rfl (by kernel_rfl) (fun _ _ _ h => h) (fun _ _ => rfl) hS ?_
        simp only [Act.put, ap1, ap2, ap3]
        refine held_tk 4 51 (.pointer (some ⟨g, off + k * 7, none⟩)) rfl rfl (by kernel_rfl) (fun _ _ _ h => h) (fun _ _ => exec_idx93 (i := k) rfl rfl rfl rfl hlt) hS ?_
        simp only [Act.put, ap1, ap2, ap3]
        refine held_tk 5 52 (.agg x.arr) rfl rfl (by kernel_rfl) (fun _ _ _ h => h) (fun _ h => exec_ld93 (p := x) rfl rfl h.el) hS ?_
        simp only [Act.put, ap1, ap2, ap3]
        refine held_call 6 53 53 #[(.agg (sv s.v (some ⟨g, off, none⟩) n c b m d)), (.agg x.arr)] (.bool true) rfl (by kernel_rfl) rfl (by kernel_rfl) (by kernel_rfl) (HK.out _ hS.old) (fun _ h hb => h.below hb) hS (fun w106 hS => ?_)
        simp only [Act.put, ap1, ap2, ap3]
        refine held_tk 7 54 (.bool false) rfl rfl (by kernel_rfl) (fun _ _ _ h => h) (fun _ _ => rfl) hS ?_
        simp only [Act.put, ap1, ap2, ap3]
        refine held_tk 8 55 (.bool false) rfl rfl (by kernel_rfl) (fun _ _ _ h => h) (fun _ _ => rfl) hS ?_
        simp only [Act.put, ap1, ap2, ap3]
        refine held_tk 9 56 (.int .i64 (k : Int)) rfl rfl (by kernel_rfl) (fun _ _ _ h => h) (fun _ _ => rfl) hS ?_
        simp only [Act.put, ap1, ap2, ap3]
        refine held_tk 10 57 (.bool true) rfl rfl (by kernel_rfl) (fun _ _ _ h => h) (fun _ _ => exec_gtrI rfl rfl rfl hk0) hS ?_
        simp only [Act.put, ap1, ap2, ap3]
        refine held_tk 11 58 (.bool true) rfl rfl (by kernel_rfl) (fun _ _ _ h => h) (fun _ _ => rfl) hS ?_
        simp only [Act.put, ap1, ap2, ap3]
        refine held_tk 12 59 (.pointer (some ⟨p, 16, none⟩)) rfl rfl (by kernel_rfl) (fun _ _ _ h => h) (fun _ _ => (by kernel_rfl)) hS ?_
        simp only [Act.put, ap1, ap2, ap3]
        refine held_tk 13 60 (.slice (some ⟨g, off, none⟩) n c) rfl rfl (by kernel_rfl) (fun _ _ _ h => h) (fun _ h => exec_cell rfl rfl (load_cell (by kernel_rfl) (stc16 h.st))) hS ?_
        simp only [Act.put, ap1, ap2, ap3]
        refine held_tk 14 61 (.int .i64 (k : Int)) rfl rfl (by kernel_rfl) (fun _ _ _ h => h) (fun _ _ => rfl) hS ?_
        simp only [Act.put, ap1, ap2, ap3]
        refine held_tk 15 62 (.int .i64 ((k : Int) - 1)) rfl rfl (by kernel_rfl) (fun _ _ _ h => h) (fun _ _ => exec_subN rfl rfl rfl rfl (by omega) (by omega)) hS ?_
        simp only [Act.put, ap1, ap2, ap3]
        refine held_tk 16 63 (.pointer (some ⟨g, off + (k - 1) * 7, none⟩)) rfl rfl (by kernel_rfl) (fun _ _ _ h => h) (fun _ _ => exec_idx93 (i := k - 1) rfl rfl rfl (by omega) (by omega)) hS ?_
        simp only [Act.put, ap1, ap2, ap3]
        refine held_tk 17 64 (.agg y.arr) rfl rfl (by kernel_rfl) (fun _ _ _ h => h) (fun _ h => exec_ld93 (p := y) rfl rfl h.pr) hS ?_
        simp only [Act.put, ap1, ap2, ap3]
        refine held_tk 18 65 (.pointer (some ⟨p, 16, none⟩)) rfl rfl (by kernel_rfl) (fun _ _ _ h => h) (fun _ _ => (by kernel_rfl)) hS ?_
        simp only [Act.put, ap1, ap2, ap3]
        refine held_tk 19 66 (.slice (some ⟨g, off, none⟩) n c) rfl rfl (by kernel_rfl) (fun _ _ _ h => h) (fun _ h => exec_cell rfl rfl (load_cell (by kernel_rfl) (stc16 h.st))) hS ?_
        simp only [Act.put, ap1, ap2, ap3]
        refine held_tk 20 67 (.int .i64 (k : Int)) rfl rfl (by kernel_rfl) (fun _ _ _ h => h) (fun _ _ => rfl) hS ?_
        simp only [Act.put, ap1, ap2, ap3]
        refine held_tk 21 68 (.pointer (some ⟨g, off + k * 7, none⟩)) rfl rfl (by kernel_rfl) (fun _ _ _ h => h) (fun _ _ => exec_idx93 (i := k) rfl rfl rfl rfl hlt) hS ?_
        simp only [Act.put, ap1, ap2, ap3]
        refine held_tk 22 69 (.agg x.arr) rfl rfl (by kernel_rfl) (fun _ _ _ h => h) (fun _ h => exec_ld93 (p := x) rfl rfl h.el) hS ?_
        simp only [Act.put, ap1, ap2, ap3]
        refine held_call 23 70 54 #[(.agg y.arr), (.agg x.arr)] (.bool true) rfl (by kernel_rfl) rfl (by kernel_rfl) (by kernel_rfl) (HO.out _) (fun _ h hb => h.below hb) hS (fun w123 hS => ?_)
        simp only [Act.put, ap1, ap2, ap3]
        refine held_tk 24 71 (.bool false) rfl rfl (by kernel_rfl) (fun _ _ _ h => h) (fun _ _ => rfl) hS ?_
        simp only [Act.put, ap1, ap2, ap3]
        refine held_tk 25 72 (.bool false) rfl rfl (by kernel_rfl) (fun _ _ _ h => h) (fun _ _ => rfl) hS ?_
        simp only [Act.put, ap1, ap2, ap3]
        refine held_tk 26 73 (.bool false) rfl rfl (by kernel_rfl) (fun _ _ _ h => h) (fun _ _ => rfl) hS ?_
        simp only [Act.put, ap1, ap2, ap3]
        refine wpAnyH_done (by kernel_rfl) ?_ _
        have HS2 := Lib.hid hS
        clear hS
        go_wp2_with fail
        go_loopw [5] (fun v wr => ∃ j : Nat, j ≤ k ∧ v = .int .i64 (j : Int) ∧ Hid (∀ i y, i < j → s.es[i]? = some y → ¬ (y.r = x.r ∧ y.s = x.s)) ∧ Hid (Blk wr p 28 (sv s.v (some ⟨g, off, none⟩) n c b m d)) ∧ Hid (Below w.heap.size w wr)) (fun v _ => k - (intOf v).toNat)
        case atStart => exact ⟨0, Nat.zero_le _, rfl, Lib.hid (fun i y hi => by omega), Lib.hid HS2.out.st, Lib.hid HS2.out.old⟩
        case round =>
         obtain ⟨j, hj, rfl, HNO, HST2, HB2⟩ := hrel
         by_cases hjk : j < k
         ·obtain ⟨g2, off2, y, e2, hy, hr2⟩ := EL.at (HL.out.es.below HB2.out) (i := j) (by omega)
          simp only [Option.some.injEq, Addr.mk.injEq, and_true] at e2
          obtain ⟨rfl, rfl⟩ := e2
          obtain ⟨g3, off3, x3, e3, hx3, hr3⟩ := EL.at (HL.out.es.below HB2.out) hlt
          simp only [Option.some.injEq, Addr.mk.injEq, and_true] at e3
          obtain ⟨rfl, rfl⟩ := e3
          obtain rfl := Option.some.inj (hx3.symm.trans HX.out)
          have HY := Lib.hid hy
          have HQ : Hid (RrS w wr s p g off n c b m d x3 (off + k * 7) y (off + j * 7)) := Lib.hid ⟨HST2.out, hr3, hr2, HB2.out⟩
          clear hy hr2 hr3 hx3
          by_cases hd : y.r = x3.r ∧ y.s = x3.s
          ·have hq : decide (y.r = x3.r ∧ y.s = x3.s) = true := decide_eq_true hd
           have HN : Hid (¬ s.Right) := Lib.hid (fun h => pair_get (HRP.out.1 h).2.2.one hjk HY.out HX.out hd)
           clear hd
           go_wp2_with fail
           refine wp_region_held_drew (S := fun w' => RrS w w' s p g off n c b m d x3 (off + k * 7) y (off + j * 7)) (by kernel_rfl) HQ.out.drew (fun hS => ?_)
           refine held_tk 0 79 (.pointer (some ⟨p, 16, none⟩)) rfl rfl (by kernel_rfl) (fun _ _ _ h => h) (fun _ _ => (by kernel_rfl)) hS ?_
           simp only [Act.put, ap1, ap2, ap3]
           refine held_tk 1 80 (.slice (some ⟨g, off, none⟩) n c) rfl rfl (by kernel_rfl) (fun _ _ _ h => h) (fun _ h => exec_cell rfl rfl (load_cell (by kernel_rfl) (stc16 h.st))) hS ?_
           simp only [Act.put, ap1, ap2, ap3]
           refine held_tk 2 81 (.int .i64 (j : Int)) rfl rfl (by kernel_rfl) (fun _ _ _ h => h) (fun _ _ => rfl) hS ?_
           simp only [Act.put, ap1, ap2, ap3]
           refine held_tk 3 82 (.pointer (some ⟨g, off + j * 7, none⟩)) rfl rfl (by kernel_rfl) (fun _ _ _ h => h) (fun _ _ => exec_idx93 (i := j) rfl rfl rfl rfl (by omega)) hS ?_
           simp only [Act.put, ap1, ap2, ap3]
           refine held_tk 4 83 (.pointer (some ⟨g, off + j * 7 + 4, none⟩)) rfl rfl (by kernel_rfl) (fun _ _ _ h => h) (fun _ _ => (by kernel_rfl)) hS ?_
           simp only [Act.put, ap1, ap2, ap3]
           refine held_tk 5 84 (dotV y.r y.s) rfl rfl (by kernel_rfl) (fun _ _ _ h => h) (fun _ h => exec_rdot (e := y) rfl rfl h.pr) hS ?_
           simp only [Act.put, ap1, ap2, ap3]
           refine held_tk 6 85 (.pointer (some ⟨p, 16, none⟩)) rfl rfl (by kernel_rfl) (fun _ _ _ h => h) (fun _ _ => (by kernel_rfl)) hS ?_
           simp only [Act.put, ap1, ap2, ap3]
           refine held_tk 7 86 (.slice (some ⟨g, off, none⟩) n c) rfl rfl (by kernel_rfl) (fun _ _ _ h => h) (fun _ h => exec_cell rfl rfl (load_cell (by kernel_rfl) (stc16 h.st))) hS ?_
           simp only [Act.put, ap1, ap2, ap3]
           refine held_tk 8 87 (.int .i64 (k : Int)) rfl rfl (by kernel_rfl) (fun _ _ _ h => h) (fun _ _ => rfl) hS ?_
           simp only [Act.put, ap1, ap2, ap3]
           refine held_tk 9 88 (.pointer (some ⟨g, off + k * 7, none⟩)) rfl rfl (by kernel_rfl) (fun _ _ _ h => h) (fun _ _ => exec_idx93 (i := k) rfl rfl rfl rfl hlt) hS ?_
           simp only [Act.put, ap1, ap2, ap3]
           refine held_tk 10 89 (.pointer (some ⟨g, off + k * 7 + 4, none⟩)) rfl rfl (by kernel_rfl) (fun _ _ _ h => h) (fun _ _ => (by kernel_rfl)) hS ?_
           simp only [Act.put, ap1, ap2, ap3]
           refine held_tk 11 90 (dotV x3.r x3.s) rfl rfl (by kernel_rfl) (fun _ _ _ h => h) (fun _ h => exec_rdot (e := x3) rfl rfl h.el) hS ?_
           simp only [Act.put, ap1, ap2, ap3]
           refine held_tk 12 91 (.bool true) rfl rfl (by kernel_rfl) (fun _ _ _ h => h) (fun _ _ => exec_eqlD rfl rfl rfl hq) hS ?_
           simp only [Act.put, ap1, ap2, ap3]
           refine wpAnyH_done (by kernel_rfl) ?_ _
           have HS2 := Lib.hid hS
           clear hS
           go_wp2_with fail
           go_ret
           exact ⟨false, rfl, by simp [HN.out], HS2.out.old⟩
          ·have hq : decide (y.r = x3.r ∧ y.s = x3.s) = false := decide_eq_false hd
           have HNO2 : Hid (∀ i z, i < j + 1 → s.es[i]? = some z → ¬ (z.r = x3.r ∧ z.s = x3.s)) := Lib.hid (fun i z hi hz => by
            by_cases e : i = j
            ·subst e
             obtain rfl := Option.some.inj (hz.symm.trans HY.out)
             exact hd
            ·exact HNO.out i z (by omega) hz)
           clear hd
           go_wp2_with fail
           refine wp_region_held_drew (S := fun w' => RrS w w' s p g off n c b m d x3 (off + k * 7) y (off + j * 7)) (by kernel_rfl) HQ.out.drew (fun hS => ?_)
           refine held_tk 0 79 (.pointer (some ⟨p, 16, none⟩)) rfl rfl (by kernel_rfl) (fun _ _ _ h => h) (fun _ _ => (by kernel_rfl)) hS ?_
           simp only [Act.put, ap1, ap2, ap3]
           refine held_tk 1 80 (.slice (some ⟨g, off, none⟩) n c) rfl rfl (by kernel_rfl) (fun _ _ _ h => h) (fun _ h => exec_cell rfl rfl (load_cell (by kernel_rfl) (stc16 h.st))) hS ?_
           simp only [Act.put, ap1, ap2, ap3]
           refine held_tk 2 81 (.int .i64 (j : Int)) rfl rfl (by kernel_rfl) (fun _ _ _ h => h) (fun _ _ => rfl) hS ?_
           simp only [Act.put, ap1, ap2, ap3]
           refine held_tk 3 82 (.pointer (some ⟨g, off + j * 7, none⟩)) rfl rfl (by kernel_rfl) (fun _ _ _ h => h) (fun _ _ => exec_idx93 (i := j) rfl rfl rfl rfl (by omega)) hS ?_
           simp only [Act.put, ap1, ap2, ap3]
           refine held_tk 4 83 (.pointer (some ⟨g, off + j * 7 + 4, none⟩)) rfl rfl (by kernel_rfl) (fun _ _ _ h => h) (fun _ _ => (by kernel_rfl)) hS ?_
           simp only [Act.put, ap1, ap2, ap3]
           refine held_tk 5 84 (dotV y.r y.s) rfl rfl (by kernel_rfl) (fun _ _ _ h => h) (fun _ h => exec_rdot (e := y) rfl rfl h.pr) hS ?_
           simp only [Act.put, ap1, ap2, ap3]
           refine held_tk 6 85 (.pointer (some ⟨p, 16, none⟩)) rfl rfl (by kernel_rfl) (fun _ _ _ h => h) (fun _ _ => (by kernel_rfl)) hS ?_
           simp only [Act.put, ap1, ap2, ap3]
           refine held_tk 7 86 (.slice (some ⟨g, off, none⟩) n c) rfl rfl (by kernel_rfl) (fun _ _ _ h => h) (fun _ h => exec_cell rfl rfl (load_cell (by kernel_rfl) (stc16 h.st))) hS ?_
           simp only [Act.put, ap1, ap2, ap3]
           refine held_tk 8 87 (.int .i64 (k : Int)) rfl rfl (by kernel_rfl) (fun _ _ _ h => h) (fun _ _ => rfl) hS ?_
           simp only [Act.put, ap1, ap2, ap3]
           refine held_tk 9 88 (.pointer (some ⟨g, off + k * 7, none⟩)) rfl rfl (by kernel_rfl) (fun _ _ _ h => h) (fun _ _ => exec_idx93 (i := k) rfl rfl rfl rfl hlt) hS ?_
           simp only [Act.put, ap1, ap2, ap3]
           refine held_tk 10 89 (.pointer (some ⟨g, off + k * 7 + 4, none⟩)) rfl rfl (by kernel_rfl) (fun _ _ _ h => h) (fun _ _ => (by kernel_rfl)) hS ?_
           simp only [Act.put, ap1, ap2, ap3]
           refine held_tk 11 90 (dotV x3.r x3.s) rfl rfl (by kernel_rfl) (fun _ _ _ h => h) (fun _ h => exec_rdot (e := x3) rfl rfl h.el) hS ?_
           simp only [Act.put, ap1, ap2, ap3]
           refine held_tk 12 91 (.bool false) rfl rfl (by kernel_rfl) (fun _ _ _ h => h) (fun _ _ => exec_eqlD rfl rfl rfl hq) hS ?_
           simp only [Act.put, ap1, ap2, ap3]
           refine wpAnyH_done (by kernel_rfl) ?_ _
           have HS3 := Lib.hid hS
           clear hS
           go_wp2_with fail
           go_roundw
           case rel => exact ⟨j + 1, by omega, by go_num, HNO2, Lib.hid HS3.out.st, Lib.hid HS3.out.old⟩
           case measure => simp [intOf]; omega
         ·obtain rfl : j = k := by omega
          go_wp2_with fail
          go_roundw
          case rel => exact ⟨j + 1, by omega, by go_num, Lib.hid (HE.out.next HX.out HRB.out HPV.out HNO.out), HST2, HB2⟩
          case measure => simp [intOf]; omega
      ·have hk0 : decide ((0 : Int) < (k : Int)) = false := by simp; omega
       have HQ : Hid (RrS w wr s p g off n c b m d x (off + k * 7) x (off + k * 7)) := Lib.hid ⟨HST.out, HR.out, HR.out, HB.out⟩
       have HPV : Hid (∀ z, 0 < k → s.es[k - 1]? = some z → En.Ahead z x) := Lib.hid (fun z h => absurd h h0)
       go_wp2_with fail
       refine wp_region_held_drew (S := fun w' => RrS w w' s p g off n c b m d x (off + k * 7) x (off + k * 7)) (by kernel_rfl) HQ.out.drew (fun hS => ?_)
       refine held_tk 0 47 (.agg (sv s.v (some ⟨g, off, none⟩) n c b m d)) rfl rfl (by kernel_rfl) (fun _ _ _ h => h) (fun _ h => exec_load28 rfl rfl h.st) hS ?_
       simp only [Act.put, ap1, ap2, ap3]
       refine held_tk 1 48 (.pointer (some ⟨p, 16, none⟩)) rfl rfl (by kernel_rfl) (fun _ _ _ h => h) (fun _ _ => (by kernel_rfl)) hS ?_
       simp only [Act.put, ap1, ap2, ap3]
       refine held_tk 2 49 (.slice (some ⟨g, off, none⟩) n c) rfl rfl (by kernel_rfl) (fun _ _ _ h => h) (fun _ h => exec_cell rfl rfl (load_cell (by kernel_rfl) (stc16 h.st))) hS ?_
       simp only [Act.put, ap1, ap2, ap3]
       refine held_tk 3 50 (.int .i64 (k : Int)) rfl rfl (by kernel_rfl) (fun _ _ _ h => h) (fun _ _ => rfl) hS ?_
       simp only [Act.put, ap1, ap2, ap3]
       refine held_tk 4 51 (.pointer (some ⟨g, off + k * 7, none⟩)) rfl rfl (by kernel_rfl) (fun _ _ _ h => h) (fun _ _ => exec_idx93 (i := k) rfl rfl rfl rfl hlt) hS ?_
       simp only [Act.put, ap1, ap2, ap3]
       refine held_tk 5 52 (.agg x.arr) rfl rfl (by kernel_rfl) (fun _ _ _ h => h) (fun _ h => exec_ld93 (p := x) rfl rfl h.el) hS ?_
       simp only [Act.put, ap1, ap2, ap3]
       refine held_call 6 53 53 #[(.agg (sv s.v (some ⟨g, off, none⟩) n c b m d)), (.agg x.arr)] (.bool true) rfl (by kernel_rfl) rfl (by kernel_rfl) (by kernel_rfl) (HK.out _ hS.old) (fun _ h hb => h.below hb) hS (fun w106 hS => ?_)
       simp only [Act.put, ap1, ap2, ap3]
       refine held_tk 7 54 (.bool false) rfl rfl (by kernel_rfl) (fun _ _ _ h => h) (fun _ _ => rfl) hS ?_
       simp only [Act.put, ap1, ap2, ap3]
       refine held_tk 8 55 (.bool false) rfl rfl (by kernel_rfl) (fun _ _ _ h => h) (fun _ _ => rfl) hS ?_
       simp only [Act.put, ap1, ap2, ap3]
       refine held_tk 9 56 (.int .i64 (k : Int)) rfl rfl (by kernel_rfl) (fun _ _ _ h => h) (fun _ _ => rfl) hS ?_
       simp only [Act.put, ap1, ap2, ap3]
       refine held_tk 10 57 (.bool false) rfl rfl (by kernel_rfl) (fun _ _ _ h => h) (fun _ _ => exec_gtrI rfl rfl rfl hk0) hS ?_
       simp only [Act.put, ap1, ap2, ap3]
       refine held_tk 11 58 (.bool false) rfl rfl (by kernel_rfl) (fun _ _ _ h => h) (fun _ _ => rfl) hS ?_
       simp only [Act.put, ap1, ap2, ap3]
       refine held_sk 12 59 rfl rfl (by kernel_rfl) (fun _ _ _ h => h) hS ?_
       simp only [Act.put, ap1, ap2, ap3]
       refine held_sk 13 60 rfl rfl (by kernel_rfl) (fun _ _ _ h => h) hS ?_
       simp only [Act.put, ap1, ap2, ap3]
       refine held_sk 14 61 rfl rfl (by kernel_rfl) (fun _ _ _ h => h) hS ?_
       simp only [Act.put, ap1, ap2, ap3]
       refine held_sk 15 62 rfl rfl (by kernel_rfl) (fun _ _ _ h => h) hS ?_
       simp only [Act.put, ap1, ap2, ap3]
       refine held_sk 16 63 rfl rfl (by kernel_rfl) (fun _ _ _ h => h) hS ?_
       simp only [Act.put, ap1, ap2, ap3]
       refine held_sk 17 64 rfl rfl (by kernel_rfl) (fun _ _ _ h => h) hS ?_
       simp only [Act.put, ap1, ap2, ap3]
       refine held_sk 18 65 rfl rfl (by kernel_rfl) (fun _ _ _ h => h) hS ?_
       simp only [Act.put, ap1, ap2, ap3]
       refine held_sk 19 66 rfl rfl (by kernel_rfl) (fun _ _ _ h => h) hS ?_
       simp only [Act.put, ap1, ap2, ap3]
       refine held_sk 20 67 rfl rfl (by kernel_rfl) (fun _ _ _ h => h) hS ?_
       simp only [Act.put, ap1, ap2, ap3]
       refine held_sk 21 68 rfl rfl (by kernel_rfl) (fun _ _ _ h => h) hS ?_
       simp only [Act.put, ap1, ap2, ap3]
       refine held_sk 22 69 rfl rfl (by kernel_rfl) (fun _ _ _ h => h) hS ?_
       simp only [Act.put, ap1, ap2, ap3]
       refine held_sk 23 70 rfl rfl (by kernel_rfl) (fun _ _ _ h => h) hS ?_
       simp only [Act.put, ap1, ap2, ap3]
       refine held_sk 24 71 rfl rfl (by kernel_rfl) (fun _ _ _ h => h) hS ?_
       simp only [Act.put, ap1, ap2, ap3]
       refine held_tk 25 72 (.bool false) rfl rfl (by kernel_rfl) (fun _ _ _ h => h) (fun _ _ => rfl) hS ?_
       simp only [Act.put, ap1, ap2, ap3]
       refine held_tk 26 73 (.bool false) rfl rfl (by kernel_rfl) (fun _ _ _ h => h) (fun _ _ => rfl) hS ?_
       simp only [Act.put, ap1, ap2, ap3]
       refine wpAnyH_done (by kernel_rfl) ?_ _
       have HS2 := Lib.hid hS
       clear hS
       go_wp2_with fail
       go_loopw [5] (fun v wr => ∃ j : Nat, j ≤ k ∧ v = .int .i64 (j : Int) ∧ Hid (∀ i y, i < j → s.es[i]? = some y → ¬ (y.r = x.r ∧ y.s = x.s)) ∧ Hid (Blk wr p 28 (sv s.v (some ⟨g, off, none⟩) n c b m d)) ∧ Hid (Below w.heap.size w wr)) (fun v _ => k - (intOf v).toNat)
       case atStart => exact ⟨0, Nat.zero_le _, rfl, Lib.hid (fun i y hi => by omega), Lib.hid HS2.out.st, Lib.hid HS2.out.old⟩
       case round =>
        obtain ⟨j, hj, rfl, HNO, HST2, HB2⟩ := hrel
        by_cases hjk : j < k
        ·obtain ⟨g2, off2, y, e2, hy, hr2⟩ := EL.at (HL.out.es.below HB2.out) (i := j) (by omega)
         simp only [Option.some.injEq, Addr.mk.injEq, and_true] at e2
         obtain ⟨rfl, rfl⟩ := e2
         obtain ⟨g3, off3, x3, e3, hx3, hr3⟩ := EL.at (HL.out.es.below HB2.out) hlt
         simp only [Option.some.injEq, Addr.mk.injEq, and_true] at e3
         obtain ⟨rfl, rfl⟩ := e3
         obtain rfl := Option.some.inj (hx3.symm.trans HX.out)
         have HY := Lib.hid hy
         have HQ : Hid (RrS w wr s p g off n c b m d x3 (off + k * 7) y (off + j * 7)) := Lib.hid ⟨HST2.out, hr3, hr2, HB2.out⟩
         clear hy hr2 hr3 hx3
         by_cases hd : y.r = x3.r ∧ y.s = x3.s
         ·have hq : decide (y.r = x3.r ∧ y.s = x3.s) = true := decide_eq_true hd
          have HN : Hid (¬ s.Right) := Lib.hid (fun h => pair_get (HRP.out.1 h).2.2.one hjk HY.out HX.out hd)
          clear hd
          go_wp2_with fail
          refine wp_region_held_drew (S := fun w' => RrS w w' s p g off n c b m d x3 (off + k * 7) y (off + j * 7)) (by kernel_rfl) HQ.out.drew (fun hS => ?_)
          refine held_tk 0 79 (.pointer (some ⟨p, 16, none⟩)) rfl rfl (by kernel_rfl) (fun _ _ _ h => h) (fun _ _ => (by kernel_rfl)) hS ?_
          simp only [Act.put, ap1, ap2, ap3]
          refine held_tk 1 80 (.slice (some ⟨g, off, none⟩) n c) rfl rfl (by kernel_rfl) (fun _ _ _ h => h) (fun _ h => exec_cell rfl rfl (load_cell (by kernel_rfl) (stc16 h.st))) hS ?_
          simp only [Act.put, ap1, ap2, ap3]
          refine held_tk 2 81 (.int .i64 (j : Int)) rfl rfl (by kernel_rfl) (fun _ _ _ h => h) (fun _ _ => rfl) hS ?_
          simp only [Act.put, ap1, ap2, ap3]
          refine held_tk 3 82 (.pointer (some ⟨g, off + j * 7, none⟩)) rfl rfl (by kernel_rfl) (fun _ _ _ h => h) (fun _ _ => exec_idx93 (i := j) rfl rfl rfl rfl (by omega)) hS ?_
          simp only [Act.put, ap1, ap2, ap3]
          refine held_tk 4 83 (.pointer (some ⟨g, off + j * 7 + 4, none⟩)) rfl rfl (by kernel_rfl) (fun _ _ _ h => h) (fun _ _ => (by kernel_rfl)) hS ?_
          simp only [Act.put, ap1, ap2, ap3]
          refine held_tk 5 84 (dotV y.r y.s) rfl rfl (by kernel_rfl) (fun _ _ _ h => h) (fun _ h => exec_rdot (e := y) rfl rfl h.pr) hS ?_
          simp only [Act.put, ap1, ap2, ap3]
          refine held_tk 6 85 (.pointer (some ⟨p, 16, none⟩)) rfl rfl (by kernel_rfl) (fun _ _ _ h => h) (fun _ _ => (by kernel_rfl)) hS ?_
          simp only [Act.put, ap1, ap2, ap3]
          refine held_tk 7 86 (.slice (some ⟨g, off, none⟩) n c) rfl rfl (by kernel_rfl) (fun _ _ _ h => h) (fun _ h => exec_cell rfl rfl (load_cell (by kernel_rfl) (stc16 h.st))) hS ?_
          simp only [Act.put, ap1, ap2, ap3]
          refine held_tk 8 87 (.int .i64 (k : Int)) rfl rfl (by kernel_rfl) (fun _ _ _ h => h) (fun _ _ => rfl) hS ?_
          simp only [Act.put, ap1, ap2, ap3]
          refine held_tk 9 88 (.pointer (some ⟨g, off + k * 7, none⟩)) rfl rfl (by kernel_rfl) (fun _ _ _ h => h) (fun _ _ => exec_idx93 (i := k) rfl rfl rfl rfl hlt) hS ?_
          simp only [Act.put, ap1, ap2, ap3]
          refine held_tk 10 89 (.pointer (some ⟨g, off + k * 7 + 4, none⟩)) rfl rfl (by kernel_rfl) (fun _ _ _ h => h) (fun _ _ => (by kernel_rfl)) hS ?_
          simp only [Act.put, ap1, ap2, ap3]
          refine held_tk 11 90 (dotV x3.r x3.s) rfl rfl (by kernel_rfl) (fun _ _ _ h => h) (fun _ h => exec_rdot (e := x3) rfl rfl h.el) hS ?_
          simp only [Act.put, ap1, ap2, ap3]
          refine held_tk 12 91 (.bool true) rfl rfl (by kernel_rfl) (fun _ _ _ h => h) (fun _ _ => exec_eqlD rfl rfl rfl hq) hS ?_
          simp only [Act.put, ap1, ap2, ap3]
          refine wpAnyH_done (by kernel_rfl) ?_ _
          have HS2 := Lib.hid hS
          clear hS
          go_wp2_with fail
          go_ret
          exact ⟨false, rfl, by simp [HN.out], HS2.out.old⟩
         ·have hq : decide (y.r = x3.r ∧ y.s = x3.s) = false := decide_eq_false hd
          have HNO2 : Hid (∀ i z, i < j + 1 → s.es[i]? = some z → ¬ (z.r = x3.r ∧ z.s = x3.s)) := Lib.hid (fun i z hi hz => by
           by_cases e : i = j
           ·subst e
            obtain rfl := Option.some.inj (hz.symm.trans HY.out)
            exact hd
           ·exact HNO.out i z (by omega) hz)
          clear hd
          go_wp2_with fail
          refine wp_region_held_drew (S := fun w' => RrS w w' s p g off n c b m d x3 (off + k * 7) y (off + j * 7)) (by kernel_rfl) HQ.out.drew (fun hS => ?_)
          refine held_tk 0 79 (.pointer (some ⟨p, 16, none⟩)) rfl rfl (by kernel_rfl) (fun _ _ _ h => h) (fun _ _ => (by kernel_rfl)) hS ?_
          simp only [Act.put, ap1, ap2, ap3]
          refine held_tk 1 80 (.slice (some ⟨g, off, none⟩) n c) rfl rfl (by kernel_rfl) (fun _ _ _ h => h) (fun _ h => exec_cell rfl rfl (load_cell (by kernel_rfl) (stc16 h.st))) hS ?_
          simp only [Act.put, ap1, ap2, ap3]
          refine held_tk 2 81 (.int .i64 (j : Int)) rfl rfl (by kernel_rfl) (fun _ _ _ h => h) (fun _ _ => rfl) hS ?_
          simp only [Act.put, ap1, ap2, ap3]
          refine held_tk 3 82 (.pointer (some ⟨g, off + j * 7, none⟩)) rfl rfl (by kernel_rfl) (fun _ _ _ h => h) (fun _ _ => exec_idx93 (i := j) rfl rfl rfl rfl (by omega)) hS ?_
          simp only [Act.put, ap1, ap2, ap3]
          refine held_tk 4 83 (.pointer (some ⟨g, off + j * 7 + 4, none⟩)) rfl rfl (by kernel_rfl) (fun _ _ _ h => h) (fun _ _ => (by kernel_rfl)) hS ?_
          simp only [Act.put, ap1, ap2, ap3]
          refine held_tk 5 84 (dotV y.r y.s) rfl rfl (by kernel_rfl) (fun _ _ _ h => h) (fun _ h => exec_rdot (e := y) rfl rfl h.pr) hS ?_
          simp only [Act.put, ap1, ap2, ap3]
          refine held_tk 6 85 (.pointer (some ⟨p, 16, none⟩)) rfl rfl (by kernel_rfl) (fun _ _ _ h => h) (fun _ _ => (by kernel_rfl)) hS ?_
          simp only [Act.put, ap1, ap2, ap3]
          refine held_tk 7 86 (.slice (some ⟨g, off, none⟩) n c) rfl rfl (by kernel_rfl) (fun _ _ _ h => h) (fun _ h => exec_cell rfl rfl (load_cell (by kernel_rfl) (stc16 h.st))) hS ?_
          simp only [Act.put, ap1, ap2, ap3]
          refine held_tk 8 87 (.int .i64 (k : Int)) rfl rfl (by kernel_rfl) (fun _ _ _ h => h) (fun _ _ => rfl) hS ?_
          simp only [Act.put, ap1, ap2, ap3]
          refine held_tk 9 88 (.pointer (some ⟨g, off + k * 7, none⟩)) rfl rfl (by kernel_rfl) (fun _ _ _ h => h) (fun _ _ => exec_idx93 (i := k) rfl rfl rfl rfl hlt) hS ?_
          simp only [Act.put, ap1, ap2, ap3]
          refine held_tk 10 89 (.pointer (some ⟨g, off + k * 7 + 4, none⟩)) rfl rfl (by kernel_rfl) (fun _ _ _ h => h) (fun _ _ => (by kernel_rfl)) hS ?_
          simp only [Act.put, ap1, ap2, ap3]
          refine held_tk 11 90 (dotV x3.r x3.s) rfl rfl (by kernel_rfl) (fun _ _ _ h => h) (fun _ h => exec_rdot (e := x3) rfl rfl h.el) hS ?_
          simp only [Act.put, ap1, ap2, ap3]
          refine held_tk 12 91 (.bool false) rfl rfl (by kernel_rfl) (fun _ _ _ h => h) (fun _ _ => exec_eqlD rfl rfl rfl hq) hS ?_
          simp only [Act.put, ap1, ap2, ap3]
          refine wpAnyH_done (by kernel_rfl) ?_ _
          have HS3 := Lib.hid hS
          clear hS
          go_wp2_with fail
          go_roundw
          case rel => exact ⟨j + 1, by omega, by go_num, HNO2, Lib.hid HS3.out.st, Lib.hid HS3.out.old⟩
          case measure => simp [intOf]; omega
        ·obtain rfl : j = k := by omega
         go_wp2_with fail
         go_roundw
         case rel => exact ⟨j + 1, by omega, by go_num, Lib.hid (HE.out.next HX.out HRB.out HPV.out HNO.out), HST2, HB2⟩
         case measure => simp [intOf]; omega
    ·have HEQ : Hid (EsQ s s.es) := Lib.hid (by have := HE.out; rwa [List.take_of_length_le (by rw [HLEN.out]; omega)] at this)
     go_wp2_with (first | (refine wpList_run rfl (exec_stV (v := s.v) rfl rfl HST.out) ?_))
     refine (rright_any s.v 16 wr (by omega) (by omega)).mono ?_
     rintro _ w2 ⟨rfl, hb⟩
     have HB2 := Lib.hid (HB.out.trans (hb.mono HB.out.size))
     clear hb
     go_wp2_with fail
     go_ret
     exact ⟨_, rfl, by rw [HRP.out]; simp [HTR.out, HEQ.out], HB2.out⟩
end Go.Proofs.YtnekpgmgnepdoaaGreat
