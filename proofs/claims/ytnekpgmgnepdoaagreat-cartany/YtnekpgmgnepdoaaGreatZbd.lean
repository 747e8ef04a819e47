import Derived.Test.YtnekpgmgnepdoaaGreatZaz
import Derived.Test.YtnekpgmgnepdoaaGreatZba
section
namespace Go.Proofs.YtnekpgmgnepdoaaGreat
theorem mem_putE {x y : En} {l : List En} : y ∈ putE x l ↔ y = x ∨ y ∈ l := by
 rw [(putE_perm x l).mem_iff, List.mem_cons]
theorem putE_ord {x : En} : ∀ {l : List En}, l.Pairwise En.Ahead → (∀ y ∈ l, ¬ En.Like x y) → (putE x l).Pairwise En.Ahead
 | [], _, _ => by simp [putE]
 | y :: l, h, hn => by
  obtain ⟨h1, h2⟩ := List.pairwise_cons.1 h
  unfold putE
  split
  ·rename_i ha
   rw [En.aheadB_iff] at ha
   refine List.pairwise_cons.2 ⟨fun z hz => ?_, h⟩
   rcases List.mem_cons.1 hz with rfl | hz
   ·exact ha
   ·exact ha.trans (h1 z hz)
  ·rename_i ha
   rw [Bool.not_eq_true, En.aheadB_not] at ha
   have hyx : En.Ahead y x := by
    rcases En.tri x y with h | h | h
    ·exact absurd h ha
    ·exact absurd h (hn y List.mem_cons_self)
    ·exact h
   refine List.pairwise_cons.2 ⟨fun z hz => ?_, putE_ord h2 fun z hz => hn z (List.mem_cons_of_mem _ hz)⟩
   rcases mem_putE.1 hz with rfl | hz
   ·exact hyx
   ·exact h1 z hz
theorem mem_ticked {x y : La} : ∀ {l : List La}, y ∈ ticked x l → y.c = x.c ∨ y ∈ l
 | [], h => by simp only [ticked, List.mem_singleton] at h; exact .inl (by rw [h])
 | z :: l, h => by
  unfold ticked at h
  split at h
  ·rcases List.mem_cons.1 h with rfl | h
   ·exact .inl rfl
   ·exact .inr (List.mem_cons_of_mem _ h)
  ·split at h
   ·rcases List.mem_cons.1 h with rfl | h
    ·exact .inl rfl
    ·exact .inr h
   ·rcases List.mem_cons.1 h with rfl | h
    ·exact .inr List.mem_cons_self
    ·rcases mem_ticked h with h | h
     ·exact .inl h
     ·exact .inr (List.mem_cons_of_mem _ h)
theorem ticked_up {x : La} : ∀ {l : List La}, l.Pairwise (fun a b => a.c < b.c) → (ticked x l).Pairwise fun a b => a.c < b.c
 | [], _ => by simp [ticked]
 | y :: l, h => by
  obtain ⟨h1, h2⟩ := List.pairwise_cons.1 h
  unfold ticked
  split
  ·rename_i e
   exact List.pairwise_cons.2 ⟨fun z hz => by have := h1 z hz; show x.c < z.c; omega, h2⟩
  ·split
   ·refine List.pairwise_cons.2 ⟨fun z hz => ?_, h⟩
    rcases List.mem_cons.1 hz with rfl | hz
    ·assumption
    ·have := h1 z hz; omega
   ·refine List.pairwise_cons.2 ⟨fun z hz => ?_, ticked_up h2⟩
    rcases mem_ticked hz with e | hz
    ·omega
    ·exact h1 z hz
def maxO (a : Option Nat) (t : Nat) : Nat := max (a.getD 0) t
theorem tkOf_ticked {x : La} : ∀ {l : List La}, l.Pairwise (fun a b => a.c < b.c) → ∀ c, tkOf (ticked x l) c = if c = x.c then some (maxO (tkOf l c) x.t) else tkOf l c
 | [], _, c => by
  simp only [ticked, tkOf_cons, tkOf_nil]
  by_cases e : x.c = c
  ·simp [e, maxO]
  ·rw [if_neg e, if_neg (fun h => e h.symm)]
 | y :: l, h, c => by
  obtain ⟨h1, h2⟩ := List.pairwise_cons.1 h
  unfold ticked
  split
  ·rename_i ey
   rw [tkOf_cons]
   by_cases e : c = x.c
   ·subst e
    rw [if_pos rfl, if_pos rfl, tkOf_cons, if_pos ey]
    rfl
   ·rw [if_neg (fun h => e h.symm), if_neg e, tkOf_cons, if_neg (fun h => e (by omega))]
  ·rename_i ey
   split
   ·rename_i hlt
    rw [tkOf_cons x]
    by_cases e : c = x.c
    ·subst e
     rw [if_pos rfl, if_pos rfl, tkOf_none (l := y :: l) fun z hz => by rcases List.mem_cons.1 hz with rfl | hz; omega; have := h1 z hz; omega]
     simp [maxO]
    ·rw [if_neg (fun h => e h.symm), if_neg e]
   ·rw [tkOf_cons, tkOf_ticked h2 c, tkOf_cons]
    by_cases e : c = x.c
    ·subst e
     rw [if_neg ey, if_neg ey]
    ·rw [if_neg e, if_neg e]
end Go.Proofs.YtnekpgmgnepdoaaGreat
end
section
namespace Go.Proofs.YtnekpgmgnepdoaaGreat
open Go.RowKit
set_option maxRecDepth 100000 in
set_option maxHeartbeats 1000000 in
theorem rjoin_any (a b : V) (w : World) : Calls Tryz.prog 39 #[.agg a.arr, .agg b.arr] w (Gives (V.join a b) w) := by
 have hb1 := fun (v : V) (w : World) => box24 v w
 have ha1 := fun (w : World) => alloc24 w
 go_enter Tryz.func39, Tryz.ntmps39
 go_wp2_with fail
 clear hb1 ha1
 have HT := Lib.hid (three_new w a b)
 rw [← zero_arr]
 generalize ((w.alloc (.cells a.arr 24)).alloc (.cells b.arr 24)).alloc (.cells V.zero.arr 24) = W at HT
 go_loopw [5] (fun i wr => ∃ k : Nat, k ≤ 16 ∧ i = .int .i64 (k : Int) ∧ Hid (Three w wr (V.joinTo a b k) b)) (fun i _ => 16 - (intOf i).toNat)
 case atStart => exact ⟨0, by omega, rfl, Lib.hid (by rw [V.joinTo_zero]; exact HT.out)⟩
 case round =>
  obtain ⟨k, hk, rfl, HR⟩ := hrel
  by_cases hlt : k < 16
  ·have c1 : wr.cell? ⟨w.heap.size, k, none⟩ = some (.int .u32 (a.at_ k : Int)) := by rw [HR.out.one.cell, V.arr_at _ hlt, V.joinTo_here a b hlt]
   have c2 : wr.cell? ⟨w.heap.size + 1, k, none⟩ = some (.int .u32 (b.at_ k : Int)) := by rw [HR.out.two.cell, V.arr_at _ hlt]
   have f1 : wr.frozen? ⟨w.heap.size, k, none⟩ = false := HR.out.one.frozen k
   have l1 := a.lt k
   have l2 := b.lt k
   generalize hx : a.at_ k = x at c1 l1
   generalize hy : b.at_ k = y at c2 l2
   have HX := Lib.hid hx
   have HY := Lib.hid hy
   clear hx hy
   go_wp2_with fail
   go_still_tail 9, (by kernel_rfl)
   go_wp2_with fail
   go_roundw
   case rel =>
    refine ⟨k + 1, by omega, by go_num, Lib.hid ?_⟩
    have := HR.out.put (s := max x y) hlt (by omega)
    rw [V.joinTo_succ a b hlt, HX.out, HY.out]
    rw [show ((max x y : Nat) : Int) = max (x : Int) (y : Int) by omega] at this
    simpa using this.drew
   case measure => simp [intOf]; omega
  ·obtain rfl : k = 16 := by omega
   go_wp2_with (first | (refine wpList_load24 rfl rfl rfl HR.out.one ?_) | (refine wpList_store24 rfl rfl rfl rfl HR.out.ans ?_))
   exact bodyPost_ret (ret24 rfl rfl (Blk.row HR.out.ans)) rfl ⟨by rw [V.joinTo_all], HR.out.ret⟩
end Go.Proofs.YtnekpgmgnepdoaaGreat
end
