import Derived.Test.YtnekpgmgnepdoaaGreatZav
import Derived.Test.YtnekpgmgnepdoaaGreatZaw
import Derived.Test.YtnekpgmgnepdoaaGreatZaz
section
namespace Go.Proofs.YtnekpgmgnepdoaaGreat
open Go.RowKit
theorem build28z (w : World) : (Instr.build 28 #[]).run Tryz.prog w = .ok (.agg (stA V.zero (.slice none 0 0) (.slice none 0 0))) w := by rw [stA_zero]; kernel_rfl
theorem ret28_two {fn : Func} {t s : Tmp} (h : fn.results = #[.cell t 28, .tmp s]) {tmps : Array Value} {w : World} {g : Nat} {v : V} {x y z : Value} (hx : tmps.getD t undef = .pointer (some ⟨g, 0, none⟩)) (hy : tmps.getD s undef = z) (hb : Blk w g 28 (stA v x y)) :
  (results fn tmps).run Tryz.prog w = .ok (.tuple #[.agg (stA v x y), z]) w := by
 rw [results_cell_tmp h, hx, hy]
 simp [Result.andThen, asAddr, loadVar28 hb]
section
variable {ev : Operand → Value} {q : Oper} {w : World}
theorem exec_zero28 {z : V} (hz : V.zero = z) (ho : q.op = .build 28 #[]) : (execOp ev q).run Tryz.prog w = .ok (.value (.agg (sv z none 0 0 none 0 0))) w := by
 subst hz
 unfold execOp
 have h1 : ((#[] : Array (Nat × Operand)).map fun (i, x) => (i, ev x)) = #[] := by simp
 simp only [ho, h1, Sem.run_bind, build28z, Result.andThen_ok]
 rfl
end
end Go.Proofs.YtnekpgmgnepdoaaGreat
end
section
namespace Go.Proofs.YtnekpgmgnepdoaaGreat
open Go.RowKit
theorem EL.at_base {w : World} {a : Option Addr} {n i : Nat} {l : List En} (h : EL w a n l) (hi : i < n) : ∃ b off x, a = some ⟨b, off, none⟩ ∧ l[i]? = some x ∧ ∀ W, Below w.heap.size w W → W.rangeAt b (off + i * 7) x.cs := by
 obtain ⟨b, off, x, h1, h2, h3⟩ := EL.at h hi
 exact ⟨b, off, x, h1, h2, fun W hb j u hu => below_at hb (h3 j u hu)⟩
theorem LL.at_base {w : World} {a : Option Addr} {n i : Nat} {l : List La} (h : LL w a n l) (hi : i < n) : ∃ b off x, a = some ⟨b, off, none⟩ ∧ l[i]? = some x ∧ ∀ W, Below w.heap.size w W → W.rangeAt b (off + i * 2) x.cs := by
 obtain ⟨b, off, x, h1, h2, h3⟩ := LL.at h hi
 exact ⟨b, off, x, h1, h2, fun W hb j u hu => below_at hb (h3 j u hu)⟩
def PuJ (x : En) (l out : List En) (k : Nat) (dn : Bool) : Prop := putE x l = out ++ bif dn then l.drop k else putE x (l.drop k)
theorem PuJ.start (x : En) (l : List En) : PuJ x l [] 0 false := by simp [PuJ]
theorem drop_get {α : Type} {l : List α} {k : Nat} {y : α} (h : l[k]? = some y) : l.drop k = y :: l.drop (k + 1) := by
 obtain ⟨h1, h2⟩ := List.getElem?_eq_some_iff.1 h
 rw [List.drop_eq_getElem_cons h1, h2]
theorem PuJ.done {x y : En} {l out : List En} {k : Nat} (h : PuJ x l out k true) (hy : l[k]? = some y) : PuJ x l (out ++ [y]) (k + 1) true := by
 unfold PuJ at h ⊢
 rw [h, drop_get hy]
 simp
theorem PuJ.new {x y : En} {l out : List En} {k : Nat} (h : PuJ x l out k false) (hy : l[k]? = some y) (ha : En.aheadB x y = true) : PuJ x l (out ++ [x] ++ [y]) (k + 1) true := by
 unfold PuJ at h ⊢
 rw [h, drop_get hy]
 simp [putE, ha]
theorem PuJ.not {x y : En} {l out : List En} {k : Nat} (h : PuJ x l out k false) (hy : l[k]? = some y) (ha : En.aheadB x y = false) : PuJ x l (out ++ [y]) (k + 1) false := by
 unfold PuJ at h ⊢
 rw [h, drop_get hy]
 simp [putE, ha]
theorem PuJ.end_done {x : En} {l out : List En} {k : Nat} (h : PuJ x l out k true) (hk : l.length ≤ k) : putE x l = out := by
 unfold PuJ at h
 rw [h, List.drop_eq_nil_of_le hk]
 simp
theorem PuJ.end_not {x : En} {l out : List En} {k : Nat} (h : PuJ x l out k false) (hk : l.length ≤ k) : putE x l = out ++ [x] := by
 unfold PuJ at h
 rw [h, List.drop_eq_nil_of_le hk]
 simp [putE]
structure PuS (w W : World) (B p : Nat) (x : En) (g o : Nat) (y : En) (a1 : Option Addr) (n1 c1 : Nat) (out : List En) : Prop where
 box : Blk W p 93 x.arr
 el : W.rangeAt g o y.cs
 own : OwnG W 93 7 B a1 n1 c1 (cellsE out)
 old : Below w.heap.size w W
 sz : B ≤ W.heap.size
 lo : g < w.heap.size
theorem PuS.below {w W W' : World} {B p : Nat} {x : En} {g o : Nat} {y : En} {a1 : Option Addr} {n1 c1 : Nat} {out : List En} (h : PuS w W B p x g o y a1 n1 c1 out) (hb : Below W.heap.size W W') : PuS w W' B p x g o y a1 n1 c1 out :=
 ⟨h.box.below hb, fun j u hu => below_at hb (h.el j u hu), h.own.below hb, h.old.trans (hb.mono h.old.size), Nat.le_trans h.sz hb.size, h.lo⟩
theorem PuS.drew {w W : World} {B p : Nat} {x : En} {g o : Nat} {y : En} {a1 : Option Addr} {n1 c1 : Nat} {out : List En} (h : PuS w W B p x g o y a1 n1 c1 out) : PuS w W.drew B p x g o y a1 n1 c1 out :=
 h.below (Below.refl _ _).drew
theorem pu_app {w W W' : World} {B p : Nat} {x : En} {g o : Nat} {y e : En} {a1 a2 : Option Addr} {n1 c1 c2 : Nat} {out : List En} {ob : Obj} (h : PuS w W B p x g o y a1 n1 c1 out) (hp : p < B) (hB : w.heap.size ≤ B)
  (ho : OwnG W' 93 7 B a2 (n1 + 1) c2 (cellsE out ++ [e.arr.toList])) (hk : Kept (At a1) (W.alloc ob) W') : PuS w W' B p x g o y a2 (n1 + 1) c2 (out ++ [e]) := by
 have hat : ∀ k, At a1 k → B ≤ k := fun k ⟨ad0, had, e⟩ => by rw [e]; exact (h.own.lt ad0 had).1
 have h1 := h.old.trans ((below_one W ob).mono h.old.size)
 have hs := hk.size
 rw [World.size_alloc] at hs
 have h2 : Below w.heap.size w W' := h1.trans (hk.below h1.size (fun j e => Nat.le_trans hB (hat j e)))
 refine ⟨(h.box.below (below_one W ob)).kept hk (fun e => by have := hat _ e; omega), fun j u hu => hk.at_ (below_at (below_one W ob) (h.el j u hu)) (fun e => by have := hat _ e; have := h.lo; omega), ?_, h2, by have := h.sz; omega, h.lo⟩
 rw [cellsE_app]
 exact ho
set_option maxRecDepth 100000 in
set_option maxHeartbeats 8000000 in
theorem put_any {a : Option Addr} {n cap : Nat} {l : List En} {w : World} (hl : EL w a n l) (hn : n < 500000) (x : En) : Calls Tryz.prog 48 #[.slice a n cap, .agg x.arr] w (OwnsP 93 7 (cellsE (putE x l)) w) := by
 have HL := Lib.hid hl
 have HLEN := Lib.hid hl.len'
 have hb1 := fun (o : En) w => box93 o w
 have HP0 := Lib.hid (bo_new w 93 x.arr)
 clear hl
 go_enter Tryz.func48, Tryz.ntmps48
 go_upto_region 1 with fail
 clear hb1
 have HSZ : Hid ((w.alloc (.cells x.arr 93)).heap.size = w.heap.size + 1) := Lib.hid (by simp)
 generalize w.alloc (.cells x.arr 93) = w0 at HP0 HSZ
 obtain ⟨p, hp⟩ : ∃ p, w.heap.size = p := ⟨_, rfl⟩
 obtain ⟨B, hB⟩ : ∃ B, w0.heap.size = B := ⟨_, rfl⟩
 have HBX := Lib.hid HP0.out.one
 have HB0 := Lib.hid HP0.out.old
 have HBB : Hid (p < B ∧ w.heap.size ≤ B) := Lib.hid (by have := HSZ.out; omega)
 have HBS : Hid (B ≤ w0.heap.size) := Lib.hid (by omega)
 rw [hp] at HBX
 rw [hp]
 clear hp hB HP0 HSZ
 go_wp2_with fail
 go_loopw [5, 6, 7] (fun o dv i wr => ∃ (k n1 c1 : Nat) (a1 : Option Addr) (out : List En) (dn : Bool), k ≤ n ∧ n1 ≤ k + 1 ∧ o = .slice a1 n1 c1 ∧ dv = .bool dn ∧ i = .int .i64 (k : Int) ∧ Hid (PuJ x l out k dn ∧ n1 = k + bif dn then 1 else 0) ∧ Hid (Blk wr p 93 x.arr) ∧ Hid (OwnG wr 93 7 B a1 n1 c1 (cellsE out)) ∧ Hid (Below w.heap.size w wr) ∧ Hid (B ≤ wr.heap.size)) (fun _ _ i _ => n - (intOf i).toNat)
 case atStart => exact ⟨0, 0, 0, none, [], false, by omega, by omega, rfl, rfl, rfl, Lib.hid ⟨PuJ.start x l, rfl⟩, HBX, Lib.hid (ownG_nil _ _ _ _), HB0, HBS⟩
 case round =>
  obtain ⟨k, n1, c1, a1, out, dn, hk, hn1, rfl, rfl, rfl, HJ, HBX2, HOW, HB, HSZ⟩ := hrel
  clear HBX HB0 HBS
  by_cases hlt : k < n
  ·obtain ⟨g, off, y, rfl, hy, hr⟩ := EL.at_base HL.out hlt
   have HY := Lib.hid hy
   have HLO : Hid (g < w.heap.size) := Lib.hid (block_lt_of_cell (hr w (Below.refl _ _) 0 _ rfl))
   have HQ : Hid (PuS w wr B p x g (off + k * 7) y a1 n1 c1 out) := Lib.hid ⟨HBX2.out, hr wr HB.out, HOW.out, HB.out, HSZ.out, HLO.out⟩
   clear hy hr
   cases dn
   ·have hn2 : n1 ≤ k := by have := HJ.out.2; simp at this; omega
    obtain ⟨ah, hah⟩ : ∃ ah, En.aheadB x y = ah := ⟨_, rfl⟩
    have HAH := Lib.hid hah
    have HO : Hid (∀ W, Calls Tryz.prog 54 #[.agg x.arr, .agg y.arr] W (Says (.bool ah) W)) := Lib.hid (fun W => hah ▸ ahead_any x y W)
    clear hah
    cases ah
    ·have HJN : Hid (PuJ x l (out ++ [y]) (k + 1) false ∧ n1 + 1 = k + 1 + bif false then 1 else 0) := Lib.hid ⟨HJ.out.1.not HY.out HAH.out, by have := HJ.out.2; simp at this ⊢; omega⟩
     go_wp2_with fail
     refine wp_region_held_drew (S := fun w' => PuS w w' B p x g (off + k * 7) y a1 n1 c1 out) (by kernel_rfl) HQ.out.drew (fun hS => ?_)
     refine held_tk 0 14 (.bool false) rfl rfl (by kernel_rfl) (fun _ _ _ h => h) (fun _ _ => rfl) hS ?_
     simp only [Act.put, ap1, ap2, ap3]
     refine held_tk 1 15 (.bool true) rfl rfl (by kernel_rfl) (fun _ _ _ h => h) (fun _ _ => rfl) hS ?_
     simp only [Act.put, ap1, ap2, ap3]
     refine held_tk 2 16 (.bool true) rfl rfl (by kernel_rfl) (fun _ _ _ h => h) (fun _ _ => rfl) hS ?_
     simp only [Act.put, ap1, ap2, ap3]
     refine held_tk 3 17 (.agg x.arr) rfl rfl (by kernel_rfl) (fun _ _ _ h => h) (fun _ h => exec_load93 (p := x) rfl rfl h.box) hS ?_
     simp only [Act.put, ap1, ap2, ap3]
     refine held_tk 4 18 (.slice (some ⟨g, off, none⟩) n cap) rfl rfl (by kernel_rfl) (fun _ _ _ h => h) (fun _ _ => rfl) hS ?_
     simp only [Act.put, ap1, ap2, ap3]
     refine held_tk 5 19 (.int .i64 (k : Int)) rfl rfl (by kernel_rfl) (fun _ _ _ h => h) (fun _ _ => rfl) hS ?_
     simp only [Act.put, ap1, ap2, ap3]
     refine held_tk 6 20 (.pointer (some ⟨g, off + k * 7, none⟩)) rfl rfl (by kernel_rfl) (fun _ _ _ h => h) (fun _ _ => exec_idx93 (i := k) rfl rfl rfl rfl hlt) hS ?_
     simp only [Act.put, ap1, ap2, ap3]
     refine held_tk 7 21 (.agg y.arr) rfl rfl (by kernel_rfl) (fun _ _ _ h => h) (fun _ h => exec_ld93 (p := y) rfl rfl h.el) hS ?_
     simp only [Act.put, ap1, ap2, ap3]
     refine held_call 8 22 54 #[(.agg x.arr), (.agg y.arr)] (.bool false) rfl (by kernel_rfl) rfl (by kernel_rfl) (by kernel_rfl) (HO.out _) (fun _ h hb => h.below hb) hS (fun w108 hS => ?_)
     simp only [Act.put, ap1, ap2, ap3]
     refine held_tk 9 23 (.bool false) rfl rfl (by kernel_rfl) (fun _ _ _ h => h) (fun _ _ => rfl) hS ?_
     simp only [Act.put, ap1, ap2, ap3]
     refine wpAnyH_done (by kernel_rfl) ?_ _
     have HS2 := Lib.hid hS
     clear hS
     go_wp2_with (first | (refine wpList_run rfl (exec_idx93 (i := k) rfl rfl rfl rfl hlt) ?_) | (refine wpList_run rfl (exec_ld93 (p := y) rfl rfl HS2.out.el) ?_) | (refine wpList_run rfl (exec_bs93 (p := y) rfl rfl) ?_) | (at_builtin; refine wpList_appendG 25 93 7 24 info93 und25 rfl (by decide) (by decide) rfl rfl rfl rfl (HS2.out.own.below (below_one w108 _)) (Blk.new w108 93 y.arr) y.arr_size (by simpa using y.one_cs) (by omega) (by have := HS2.out.sz; simp; omega) ?_; intro a4 c4 w4 ho hk hl3; have HS4 := Lib.hid (pu_app (out := out) (e := y) HS2.out HBB.out.1 HBB.out.2 ho hk); clear ho hk hl3))
     go_roundw
     case rel => exact ⟨k + 1, n1 + 1, c4, a4, out ++ [y], false, hlt, by omega, rfl, rfl, by go_num, HJN, Lib.hid HS4.out.box, Lib.hid HS4.out.own, Lib.hid HS4.out.old, Lib.hid HS4.out.sz⟩
     case measure => simp [intOf]; omega
    ·have HJN : Hid (PuJ x l (out ++ [x] ++ [y]) (k + 1) true ∧ n1 + 1 + 1 = k + 1 + bif true then 1 else 0) := Lib.hid ⟨HJ.out.1.new HY.out HAH.out, by have := HJ.out.2; simp at this ⊢; omega⟩
     go_wp2_with fail
     refine wp_region_held_drew (S := fun w' => PuS w w' B p x g (off + k * 7) y a1 n1 c1 out) (by kernel_rfl) HQ.out.drew (fun hS => ?_)
     refine held_tk 0 14 (.bool false) rfl rfl (by kernel_rfl) (fun _ _ _ h => h) (fun _ _ => rfl) hS ?_
     simp only [Act.put, ap1, ap2, ap3]
     refine held_tk 1 15 (.bool true) rfl rfl (by kernel_rfl) (fun _ _ _ h => h) (fun _ _ => rfl) hS ?_
     simp only [Act.put, ap1, ap2, ap3]
     refine held_tk 2 16 (.bool true) rfl rfl (by kernel_rfl) (fun _ _ _ h => h) (fun _ _ => rfl) hS ?_
     simp only [Act.put, ap1, ap2, ap3]
     refine held_tk 3 17 (.agg x.arr) rfl rfl (by kernel_rfl) (fun _ _ _ h => h) (fun _ h => exec_load93 (p := x) rfl rfl h.box) hS ?_
     simp only [Act.put, ap1, ap2, ap3]
     refine held_tk 4 18 (.slice (some ⟨g, off, none⟩) n cap) rfl rfl (by kernel_rfl) (fun _ _ _ h => h) (fun _ _ => rfl) hS ?_
     simp only [Act.put, ap1, ap2, ap3]
     refine held_tk 5 19 (.int .i64 (k : Int)) rfl rfl (by kernel_rfl) (fun _ _ _ h => h) (fun _ _ => rfl) hS ?_
     simp only [Act.put, ap1, ap2, ap3]
     refine held_tk 6 20 (.pointer (some ⟨g, off + k * 7, none⟩)) rfl rfl (by kernel_rfl) (fun _ _ _ h => h) (fun _ _ => exec_idx93 (i := k) rfl rfl rfl rfl hlt) hS ?_
     simp only [Act.put, ap1, ap2, ap3]
     refine held_tk 7 21 (.agg y.arr) rfl rfl (by kernel_rfl) (fun _ _ _ h => h) (fun _ h => exec_ld93 (p := y) rfl rfl h.el) hS ?_
     simp only [Act.put, ap1, ap2, ap3]
     refine held_call 8 22 54 #[(.agg x.arr), (.agg y.arr)] (.bool true) rfl (by kernel_rfl) rfl (by kernel_rfl) (by kernel_rfl) (HO.out _) (fun _ h hb => h.below hb) hS (fun w108 hS => ?_)
     simp only [Act.put, ap1, ap2, ap3]
     refine held_tk 9 23 (.bool true) rfl rfl (by kernel_rfl) (fun _ _ _ h => h) (fun _ _ => rfl) hS ?_
     simp only [Act.put, ap1, ap2, ap3]
     refine wpAnyH_done (by kernel_rfl) ?_ _
     have HS2 := Lib.hid hS
     clear hS
     go_wp2_with (first | (refine wpList_run rfl (exec_load93 (p := x) rfl rfl HS2.out.box) ?_) | (refine wpList_run rfl (exec_bs93 (p := x) rfl rfl) ?_) | (at_builtin; refine wpList_appendG 25 93 7 24 info93 und25 rfl (by decide) (by decide) rfl rfl rfl rfl (HS2.out.own.below (below_one w108 _)) (Blk.new w108 93 x.arr) x.arr_size (by simpa using x.one_cs) (by omega) (by have := HS2.out.sz; simp; omega) ?_; intro a3 c3 w3 ho hk hl3; have HS3 := Lib.hid (pu_app (out := out) (e := x) HS2.out HBB.out.1 HBB.out.2 ho hk); clear ho hk hl3) | (refine wpList_run rfl (exec_idx93 (i := k) rfl rfl rfl rfl hlt) ?_) | (refine wpList_run rfl (exec_ld93 (p := y) rfl rfl HS3.out.el) ?_) | (refine wpList_run rfl (exec_bs93 (p := y) rfl rfl) ?_) | (at_builtin; refine wpList_appendG 25 93 7 24 info93 und25 rfl (by decide) (by decide) rfl rfl rfl rfl (HS3.out.own.below (below_one w3 _)) (Blk.new w3 93 y.arr) y.arr_size (by simpa using y.one_cs) (by omega) (by have := HS3.out.sz; simp; omega) ?_; intro a4 c4 w4 ho hk hl3; have HS4 := Lib.hid (pu_app (out := (out ++ [x])) (e := y) HS3.out HBB.out.1 HBB.out.2 ho hk); clear ho hk hl3))
     go_roundw
     case rel => exact ⟨k + 1, n1 + 1 + 1, c4, a4, out ++ [x] ++ [y], true, hlt, by omega, rfl, rfl, by go_num, HJN, Lib.hid HS4.out.box, Lib.hid HS4.out.own, Lib.hid HS4.out.old, Lib.hid HS4.out.sz⟩
     case measure => simp [intOf]; omega
   ·have HJN : Hid (PuJ x l (out ++ [y]) (k + 1) true ∧ n1 + 1 = k + 1 + bif true then 1 else 0) := Lib.hid ⟨HJ.out.1.done HY.out, by have := HJ.out.2; simp at this ⊢; omega⟩
    go_wp2_with fail
    refine wp_region_held_drew (S := fun w' => PuS w w' B p x g (off + k * 7) y a1 n1 c1 out) (by kernel_rfl) HQ.out.drew (fun hS => ?_)
    refine held_tk 0 14 (.bool true) rfl rfl (by kernel_rfl) (fun _ _ _ h => h) (fun _ _ => rfl) hS ?_
    simp only [Act.put, ap1, ap2, ap3]
    refine held_tk 1 15 (.bool false) rfl rfl (by kernel_rfl) (fun _ _ _ h => h) (fun _ _ => rfl) hS ?_
    simp only [Act.put, ap1, ap2, ap3]
    refine held_tk 2 16 (.bool false) rfl rfl (by kernel_rfl) (fun _ _ _ h => h) (fun _ _ => rfl) hS ?_
    simp only [Act.put, ap1, ap2, ap3]
    refine held_sk 3 17 rfl rfl (by kernel_rfl) (fun _ _ _ h => h) hS ?_
    simp only [Act.put, ap1, ap2, ap3]
    refine held_sk 4 18 rfl rfl (by kernel_rfl) (fun _ _ _ h => h) hS ?_
    simp only [Act.put, ap1, ap2, ap3]
    refine held_sk 5 19 rfl rfl (by kernel_rfl) (fun _ _ _ h => h) hS ?_
    simp only [Act.put, ap1, ap2, ap3]
    refine held_sk 6 20 rfl rfl (by kernel_rfl) (fun _ _ _ h => h) hS ?_
    simp only [Act.put, ap1, ap2, ap3]
    refine held_sk 7 21 rfl rfl (by kernel_rfl) (fun _ _ _ h => h) hS ?_
    simp only [Act.put, ap1, ap2, ap3]
    refine held_sk 8 22 rfl rfl (by kernel_rfl) (fun _ _ _ h => h) hS ?_
    simp only [Act.put, ap1, ap2, ap3]
    refine held_tk 9 23 (.bool false) rfl rfl (by kernel_rfl) (fun _ _ _ h => h) (fun _ _ => rfl) hS ?_
    simp only [Act.put, ap1, ap2, ap3]
    refine wpAnyH_done (by kernel_rfl) ?_ _
    have HS2 := Lib.hid hS
    clear hS
    obtain ⟨W1, hW1⟩ : ∃ W1, wr.drew = W1 := ⟨_, rfl⟩
    rw [hW1] at HS2 ⊢
    clear hW1
    go_wp2_with (first | (refine wpList_run rfl (exec_idx93 (i := k) rfl rfl rfl rfl hlt) ?_) | (refine wpList_run rfl (exec_ld93 (p := y) rfl rfl HS2.out.el) ?_) | (refine wpList_run rfl (exec_bs93 (p := y) rfl rfl) ?_) | (at_builtin; refine wpList_appendG 25 93 7 24 info93 und25 rfl (by decide) (by decide) rfl rfl rfl rfl (HS2.out.own.below (below_one W1 _)) (Blk.new W1 93 y.arr) y.arr_size (by simpa using y.one_cs) (by omega) (by have := HS2.out.sz; simp; omega) ?_; intro a4 c4 w4 ho hk hl3; have HS4 := Lib.hid (pu_app (out := out) (e := y) HS2.out HBB.out.1 HBB.out.2 ho hk); clear ho hk hl3))
    go_roundw
    case rel => exact ⟨k + 1, n1 + 1, c4, a4, out ++ [y], true, hlt, by omega, rfl, rfl, by go_num, HJN, Lib.hid HS4.out.box, Lib.hid HS4.out.own, Lib.hid HS4.out.old, Lib.hid HS4.out.sz⟩
    case measure => simp [intOf]; omega
  ·have hlen : l.length ≤ k := by have := HLEN.out; omega
   have HLE := Lib.hid hlen
   clear hlen
   cases dn
   ·have HE := Lib.hid (HJ.out.1.end_not HLE.out)
    go_wp2_with (first | (refine wpList_run rfl (exec_load93 (p := x) rfl rfl HBX2.out) ?_) | (refine wpList_run rfl (exec_bs93 (p := x) rfl rfl) ?_) | (at_builtin; refine wpList_appendG 25 93 7 24 info93 und25 rfl (by decide) (by decide) rfl rfl rfl rfl (HOW.out.below (below_one wr _)) (Blk.new wr 93 x.arr) x.arr_size (by simpa using x.one_cs) (by omega) (by have := HSZ.out; simp; omega) ?_; intro a3 c3 w3 ho hk3 hl3; have HO3 := Lib.hid ho; have HK3 := Lib.hid hk3; clear ho hk3 hl3))
    go_ret
    have hat : ∀ k, At a1 k → B ≤ k := fun k ⟨ad0, had, e⟩ => by rw [e]; exact (HOW.out.lt ad0 had).1
    have h1 := HB.out.trans ((below_one wr (.cells x.arr 93)).mono HB.out.size)
    have h2 : Below w.heap.size w w3 := h1.trans (HK3.out.below h1.size (fun j e => Nat.le_trans HBB.out.2 (hat j e)))
    have hlen2 : (cellsE (putE x l)).length = n1 + 1 := by rw [HE.out, cellsE_app]; exact HO3.out.len
    refine ⟨a3, c3, (by rw [hlen2]; first | done | rfl), ?_, h2⟩
    rw [hlen2, HE.out, cellsE_app]
    exact HO3.out.mono HBB.out.2
   ·have HE := Lib.hid (HJ.out.1.end_done HLE.out)
    go_wp2_with fail
    go_ret
    have hlen2 : (cellsE (putE x l)).length = n1 := by rw [HE.out]; exact HOW.out.len
    refine ⟨a1, c1, (by rw [hlen2]; first | done | rfl), ?_, HB.out⟩
    rw [hlen2, HE.out]
    exact HOW.out.mono HBB.out.2
end Go.Proofs.YtnekpgmgnepdoaaGreat
end
section
namespace Go.Proofs.YtnekpgmgnepdoaaGreat
open Go.RowKit
def TiJ (x : La) (l out : List La) (k : Nat) (dn : Bool) : Prop := (ticked x l = out ++ bif dn then l.drop k else ticked x (l.drop k)) ∧ (dn = true → ∀ y ∈ l.drop k, y.c ≠ x.c)
theorem up_tail {l : List La} {k : Nat} {y : La} (h : l.Pairwise fun a b => a.c < b.c) (hy : l[k]? = some y) : ∀ z ∈ l.drop (k + 1), y.c < z.c := by
 have h1 := h.drop (i := k)
 rw [drop_get hy, List.pairwise_cons] at h1
 exact h1.1
theorem TiJ.start (x : La) (l : List La) : TiJ x l [] 0 false := ⟨by simp, by simp⟩
theorem TiJ.done {x y : La} {l out : List La} {k : Nat} (h : TiJ x l out k true) (hy : l[k]? = some y) : TiJ x l (out ++ [y]) (k + 1) true := by
 obtain ⟨h1, h2⟩ := h
 rw [drop_get hy] at h1 h2
 exact ⟨by rw [h1]; simp, fun _ z hz => h2 rfl z (List.mem_cons_of_mem _ hz)⟩
theorem TiJ.hit {x y z : La} {l out : List La} {k : Nat} (h : TiJ x l out k false) (hup : l.Pairwise fun a b => a.c < b.c) (hy : l[k]? = some y) (hc : y.c = x.c) (hz : z.c = x.c) (ht : z.t = max y.t x.t) : TiJ x l (out ++ [z]) (k + 1) true := by
 obtain ⟨h1, _⟩ := h
 have h3 := up_tail hup hy
 refine ⟨?_, fun _ u hu => by have := h3 u hu; omega⟩
 rw [h1, drop_get hy]
 simp only [cond_false, cond_true, List.append_assoc, List.singleton_append]
 congr 1
 unfold ticked
 rw [if_pos hc]
 congr 1
 exact La.ext' hz.symm ht.symm
theorem TiJ.new {x y : La} {l out : List La} {k : Nat} (h : TiJ x l out k false) (hup : l.Pairwise fun a b => a.c < b.c) (hy : l[k]? = some y) (hc : x.c < y.c) : TiJ x l (out ++ [x] ++ [y]) (k + 1) true := by
 obtain ⟨h1, _⟩ := h
 have h3 := up_tail hup hy
 refine ⟨?_, fun _ u hu => by have := h3 u hu; omega⟩
 rw [h1, drop_get hy]
 simp only [cond_false, cond_true, List.append_assoc, List.singleton_append]
 congr 1
 unfold ticked
 rw [if_neg (by omega), if_pos hc]
 rfl
theorem TiJ.not {x y : La} {l out : List La} {k : Nat} (h : TiJ x l out k false) (hy : l[k]? = some y) (hc : y.c < x.c) : TiJ x l (out ++ [y]) (k + 1) false := by
 obtain ⟨h1, _⟩ := h
 refine ⟨?_, by simp⟩
 rw [h1, drop_get hy]
 simp only [cond_false, List.append_assoc, List.singleton_append]
 congr 1
 conv => lhs; unfold ticked
 rw [if_neg (by omega), if_neg (by omega)]
theorem TiJ.end_done {x : La} {l out : List La} {k : Nat} (h : TiJ x l out k true) (hk : l.length ≤ k) : ticked x l = out := by
 rw [h.1, List.drop_eq_nil_of_le hk]
 simp
theorem TiJ.end_not {x : La} {l out : List La} {k : Nat} (h : TiJ x l out k false) (hk : l.length ≤ k) : ticked x l = out ++ [x] := by
 rw [h.1, List.drop_eq_nil_of_le hk]
 simp [ticked]
section
variable {ev : Operand → Value} {q : Oper} {w : World} {ops : Array Oper} {rest : List Oper} {o : Oper} {act : Act} {Q : Exit → Act → World → Prop} {W : World}
theorem exec_bld95 {x y : Operand} {t : La} (ho : q.op = .build 95 #[(0, x), (1, y)]) (hx : ev x = .int .u16 (t.c : Int)) (hy : ev y = .int .u32 (t.t : Int)) : (execOp ev q).run Tryz.prog w = .ok (.value (.agg t.arr)) w := by
 have hm : (#[((0 : Nat), x), (1, y)]).map (fun (i, x) => (i, ev x)) = #[(0, .int .u16 (t.c : Int)), (1, .int .u32 (t.t : Int))] := by simp [hx, hy]
 have hb : (Instr.build 95 #[(0, .int .u16 (t.c : Int)), (1, .int .u32 (t.t : Int))]).run Tryz.prog w = .ok (.agg t.arr) w := run_build w 95 _ _ (by kernel_rfl)
 unfold execOp
 simp only [ho, hm, Sem.run_bind, hb, Result.andThen_ok]
 rfl
end
structure TiS (w W : World) (B q : Nat) (y : La) (a1 : Option Addr) (n1 c1 : Nat) (out : List La) : Prop where
 box : Blk W q 95 y.arr
 own : OwnG W 95 2 B a1 n1 c1 (cellsL out)
 old : Below w.heap.size w W
 sz : B ≤ W.heap.size
 ne : ∀ k, At a1 k → k < q
 lo : w.heap.size ≤ q
structure TiN (w W : World) (B q : Nat) (y : La) (a1 : Option Addr) (n1 c1 : Nat) (out : List La) : Prop where
 box : Blk W q 95 y.arr
 own : OwnG W 95 2 B a1 n1 c1 (cellsL out)
 old : Below w.heap.size w W
 sz : B ≤ W.heap.size
theorem ti_app {w W W' : World} {B q : Nat} {y e : La} {a1 a2 : Option Addr} {n1 c1 c2 : Nat} {out : List La} {ob : Obj} (h : TiS w W B q y a1 n1 c1 out) (hB : w.heap.size ≤ B)
  (ho : OwnG W' 95 2 B a2 (n1 + 1) c2 (cellsL out ++ [e.arr.toList])) (hk : Kept (At a1) (W.alloc ob) W') : TiN w W' B q y a2 (n1 + 1) c2 (out ++ [e]) := by
 have hat : ∀ k, At a1 k → B ≤ k := fun k ⟨ad0, had, e⟩ => by rw [e]; exact (h.own.lt ad0 had).1
 have h1 := h.old.trans ((below_one W ob).mono h.old.size)
 have hs := hk.size
 rw [World.size_alloc] at hs
 have h2 : Below w.heap.size w W' := h1.trans (hk.below h1.size (fun j e => Nat.le_trans hB (hat j e)))
 refine ⟨(h.box.below (below_one W ob)).kept hk (fun e => by have := h.ne _ e; omega), ?_, h2, by have := h.sz; omega⟩
 rw [cellsL_app]
 exact ho
structure TiE (w W : World) (B : Nat) (a1 : Option Addr) (n1 c1 : Nat) (out : List La) : Prop where
 own : OwnG W 95 2 B a1 n1 c1 (cellsL out)
 old : Below w.heap.size w W
 sz : B ≤ W.heap.size
theorem ti_app2 {w W W' : World} {B q : Nat} {y e : La} {a1 a2 : Option Addr} {n1 c1 c2 : Nat} {out : List La} {ob : Obj} (h : TiN w W B q y a1 n1 c1 out) (hB : w.heap.size ≤ B)
  (ho : OwnG W' 95 2 B a2 (n1 + 1) c2 (cellsL out ++ [e.arr.toList])) (hk : Kept (At a1) (W.alloc ob) W') : TiE w W' B a2 (n1 + 1) c2 (out ++ [e]) := by
 have hat : ∀ k, At a1 k → B ≤ k := fun k ⟨ad0, had, e⟩ => by rw [e]; exact (h.own.lt ad0 had).1
 have h1 := h.old.trans ((below_one W ob).mono h.old.size)
 have hs := hk.size
 rw [World.size_alloc] at hs
 have h2 : Below w.heap.size w W' := h1.trans (hk.below h1.size (fun j e => Nat.le_trans hB (hat j e)))
 refine ⟨?_, h2, by have := h.sz; omega⟩
 rw [cellsL_app]
 exact ho
set_option maxRecDepth 100000 in
set_option maxHeartbeats 8000000 in
theorem ticked_any {a : Option Addr} {n cap : Nat} {l : List La} {w : World} (hl : LL w a n l) (hn : n < 500000) (hup : l.Pairwise fun a b => a.c < b.c) (x : La) : Calls Tryz.prog 49 #[.slice a n cap, .int .u16 (x.c : Int), .int .u32 (x.t : Int)] w (OwnsP 95 2 (cellsL (ticked x l)) w) := by
 have HL := Lib.hid hl
 have HLEN := Lib.hid hl.len'
 have HUP := Lib.hid hup
 obtain ⟨zo, hz⟩ : ∃ z, La.zero = z := ⟨_, rfl⟩
 have HZO := Lib.hid hz
 obtain ⟨B, hB⟩ : ∃ B, w.heap.size = B := ⟨_, rfl⟩
 have HBB : Hid (w.heap.size ≤ B) := Lib.hid (by omega)
 have HBE := Lib.hid hB
 clear hl hup hz
 go_enter Tryz.func49, Tryz.ntmps49
 go_wp2_with fail
 go_loopw [7, 8, 9] (fun o dv i wr => ∃ (k n1 c1 : Nat) (a1 : Option Addr) (out : List La) (dn : Bool), k ≤ n ∧ n1 ≤ k + 1 ∧ o = .slice a1 n1 c1 ∧ dv = .bool dn ∧ i = .int .i64 (k : Int) ∧ Hid (TiJ x l out k dn ∧ n1 ≤ k + bif dn then 1 else 0) ∧ Hid (OwnG wr 95 2 B a1 n1 c1 (cellsL out)) ∧ Hid (Below w.heap.size w wr) ∧ Hid (B ≤ wr.heap.size)) (fun _ _ i _ => n - (intOf i).toNat)
 case atStart => exact ⟨0, 0, 0, none, [], false, by omega, by omega, rfl, rfl, rfl, Lib.hid ⟨TiJ.start x l, Nat.le_refl _⟩, Lib.hid (ownG_nil _ _ _ _), Lib.hid (Below.refl _ _), Lib.hid (by omega)⟩
 case round =>
  obtain ⟨k, n1, c1, a1, out, dn, hk, hn1, rfl, rfl, rfl, HJ, HOW, HB, HSZ⟩ := hrel
  clear hB
  by_cases hlt : k < n
  ·obtain ⟨g, off, y, rfl, hy, hr⟩ := LL.at_base HL.out hlt
   have HY := Lib.hid hy
   have HR := Lib.hid (hr wr HB.out)
   clear hy hr
   go_wp2_with (first | (refine wpList_run rfl (exec_idx95 (i := k) rfl rfl rfl rfl hlt) ?_) | (refine wpList_run rfl (exec_ld95 (p := y) rfl rfl HR.out) ?_) | (refine wpList_run rfl (exec_alloc95z HZO.out rfl) ?_) | (refine wpList_stop95 rfl ?_))
   refine ⟨?_⟩
   refine wpList_void rfl rfl (exec_store95 (p := zo) (u := y) rfl rfl rfl (Blk.new wr 95 zo.arr)) ?_
   have h1 := bo_laid wr 95 zo.arr y.arr
   have HS1 : Hid (TiS w ((wr.alloc (.cells zo.arr 95)).setRow wr.heap.size y.arr) B wr.heap.size y a1 n1 c1 out) := Lib.hid ⟨h1.one, HOW.out.below h1.old, HB.out.trans (h1.old.mono HB.out.size), Nat.le_trans HSZ.out h1.old.size, fun k ⟨ad0, had, e⟩ => by rw [e]; exact (HOW.out.lt ad0 had).2, HB.out.size⟩
   clear h1
   generalize (wr.alloc (.cells zo.arr 95)).setRow wr.heap.size y.arr = w1 at HS1
   obtain ⟨q, hq⟩ : ∃ q, wr.heap.size = q := ⟨_, rfl⟩
   rw [hq] at HS1
   rw [hq]
   clear hq HOW HR
   have c0 := lat0 HS1.out.box
   cases dn
   ·have hn2 : n1 ≤ k := by have := HJ.out.2; simp at this; omega
    by_cases hc : y.c = x.c
    ·have q1 := eqT hc
     obtain ⟨z, hz1, hz2⟩ : ∃ z : La, z.c = x.c ∧ z.t = max y.t x.t := ⟨⟨x.c, max y.t x.t, x.hc, Nat.max_lt.2 ⟨y.ht, x.ht⟩⟩, rfl, rfl⟩
     have HJN : Hid (TiJ x l (out ++ [z]) (k + 1) true ∧ n1 + 1 ≤ k + 1 + bif true then 1 else 0) := Lib.hid ⟨HJ.out.1.hit HUP.out HY.out hc hz1 hz2, by have := HJ.out.2; simp at this ⊢; omega⟩
     have HZ : Hid (y.arr.setIfInBounds 1 (.int .u32 ((max y.t x.t : Nat) : Int)) = z.arr) := Lib.hid (by
      rw [← hz2]
      unfold La.arr La.cs
      rw [hz1, ← hc]
      rfl)
     have c1 := lat1 HS1.out.box
     clear hz1 hz2 hc
     go_wp2_with (first | (refine wpList_run rfl (exec_max (a := y.t) (b := x.t) rfl rfl rfl) ?_) | (refine wpList_stopT rfl ?_))
     refine ⟨?_⟩
     refine wpList_void rfl rfl (exec_st22 (n := max y.t x.t) rfl rfl rfl HS1.out.box (by rw [La.arr_size]; decide)) ?_
     have HS0 := HS1
     clear HS1 c0 c1
     have HS1 : Hid (TiS w (w1.setCell ⟨q, 1, none⟩ (.int .u32 ((max y.t x.t : Nat) : Int))) B q z a1 n1 c1 out) := Lib.hid (by
      have h := HS0.out
      have hb := h.box.set 1 (.int .u32 ((max y.t x.t : Nat) : Int))
      rw [HZ.out] at hb
      have hk := Kept.setCell w1 ⟨q, 1, none⟩ (.int .u32 ((max y.t x.t : Nat) : Int))
      refine ⟨hb, h.own.keep hk (fun ad had e => ?_), h.old.trans (hk.below h.old.size (fun k e => by rw [e]; exact h.lo)), by simpa [World.setCell] using h.sz, h.ne, h.lo⟩
      have := h.ne _ ⟨ad, had, rfl⟩
      simp only at e
      omega)
     generalize w1.setCell ⟨q, 1, none⟩ (.int .u32 ((max y.t x.t : Nat) : Int)) = w1 at HS1
     go_wp2_with (first | (refine wpList_run rfl (exec_load95 (p := z) rfl rfl HS1.out.box) ?_) | (refine wpList_run rfl (exec_bs95 (p := z) rfl rfl) ?_) | (at_builtin; refine wpList_appendG 26 95 2 8 info95 und26 rfl (by decide) (by decide) rfl rfl rfl rfl (HS1.out.own.below (below_one w1 _)) (Blk.new w1 95 z.arr) z.arr_size (by simpa using z.one_cs) (by omega) (by have := HS1.out.sz; simp; omega) ?_; intro a4 c4 w4 ho hk hl3; have HS4 := Lib.hid (ti_app (e := z) HS1.out HBB.out ho hk); clear ho hk hl3))
     go_roundw
     case rel => exact ⟨k + 1, n1 + 1, c4, a4, out ++ [z], true, hlt, by omega, rfl, rfl, by go_num, HJN, Lib.hid HS4.out.own, Lib.hid HS4.out.old, Lib.hid HS4.out.sz⟩
     case measure => simp [intOf]; omega
    ·have q1 := eqFa hc
     by_cases hl : x.c < y.c
     ·have q2 : decide (x.c < y.c) = true := decide_eq_true hl
      have HJN : Hid (TiJ x l (out ++ [x] ++ [y]) (k + 1) true ∧ n1 + 1 + 1 ≤ k + 1 + bif true then 1 else 0) := Lib.hid ⟨HJ.out.1.new HUP.out HY.out hl, by have := HJ.out.2; simp at this ⊢; omega⟩
      clear hc hl
      go_wp2_with (first | (refine wpList_run rfl (exec_bld95 (t := x) rfl rfl rfl) ?_) | (refine wpList_run rfl (exec_bs95 (p := x) rfl rfl) ?_) | (at_builtin; refine wpList_appendG 26 95 2 8 info95 und26 rfl (by decide) (by decide) rfl rfl rfl rfl (HS1.out.own.below (below_one w1 _)) (Blk.new w1 95 x.arr) x.arr_size (by simpa using x.one_cs) (by omega) (by have := HS1.out.sz; simp; omega) ?_; intro a3 c3 w3 ho hk hl3; have HS3 := Lib.hid (ti_app (e := x) HS1.out HBB.out ho hk); have HB3 := Lib.hid HS3.out.box; clear ho hk hl3) | (refine wpList_run rfl (exec_load95 (p := y) rfl rfl HS3.out.box) ?_) | (refine wpList_run rfl (exec_bs95 (p := y) rfl rfl) ?_) | (at_builtin; refine wpList_appendG 26 95 2 8 info95 und26 rfl (by decide) (by decide) rfl rfl rfl rfl (HS3.out.own.below (below_one w3 _)) (Blk.new w3 95 y.arr) y.arr_size (by simpa using y.one_cs) (by omega) (by have := HS3.out.sz; simp; omega) ?_; intro a4 c4 w4 ho hk hl3; have HS4 := Lib.hid (ti_app2 (e := y) HS3.out HBB.out ho hk); clear ho hk hl3))
      go_roundw
      case rel => exact ⟨k + 1, n1 + 1 + 1, c4, a4, out ++ [x] ++ [y], true, hlt, by omega, rfl, rfl, by go_num, HJN, Lib.hid HS4.out.own, Lib.hid HS4.out.old, Lib.hid HS4.out.sz⟩
      case measure => simp [intOf]; omega
     ·have q2 : decide (x.c < y.c) = false := decide_eq_false hl
      have HJN : Hid (TiJ x l (out ++ [y]) (k + 1) false ∧ n1 + 1 ≤ k + 1 + bif false then 1 else 0) := Lib.hid ⟨HJ.out.1.not HY.out (by omega), by have := HJ.out.2; simp at this ⊢; omega⟩
      clear hc hl
      go_wp2_with (first | (refine wpList_run rfl (exec_load95 (p := y) rfl rfl HS1.out.box) ?_) | (refine wpList_run rfl (exec_bs95 (p := y) rfl rfl) ?_) | (at_builtin; refine wpList_appendG 26 95 2 8 info95 und26 rfl (by decide) (by decide) rfl rfl rfl rfl (HS1.out.own.below (below_one w1 _)) (Blk.new w1 95 y.arr) y.arr_size (by simpa using y.one_cs) (by omega) (by have := HS1.out.sz; simp; omega) ?_; intro a4 c4 w4 ho hk hl3; have HS4 := Lib.hid (ti_app (e := y) HS1.out HBB.out ho hk); clear ho hk hl3))
      go_roundw
      case rel => exact ⟨k + 1, n1 + 1, c4, a4, out ++ [y], false, hlt, by omega, rfl, rfl, by go_num, HJN, Lib.hid HS4.out.own, Lib.hid HS4.out.old, Lib.hid HS4.out.sz⟩
      case measure => simp [intOf]; omega
   ·have hne := HJ.out.1.2 rfl y (by rw [drop_get HY.out]; exact List.mem_cons_self)
    have q1 := eqFa hne
    have HJN : Hid (TiJ x l (out ++ [y]) (k + 1) true ∧ n1 + 1 ≤ k + 1 + bif true then 1 else 0) := Lib.hid ⟨HJ.out.1.done HY.out, by have := HJ.out.2; simp at this ⊢; omega⟩
    clear hne
    go_wp2_with (first | (refine wpList_run rfl (exec_load95 (p := y) rfl rfl HS1.out.box) ?_) | (refine wpList_run rfl (exec_bs95 (p := y) rfl rfl) ?_) | (at_builtin; refine wpList_appendG 26 95 2 8 info95 und26 rfl (by decide) (by decide) rfl rfl rfl rfl (HS1.out.own.below (below_one w1 _)) (Blk.new w1 95 y.arr) y.arr_size (by simpa using y.one_cs) (by omega) (by have := HS1.out.sz; simp; omega) ?_; intro a4 c4 w4 ho hk hl3; have HS4 := Lib.hid (ti_app (e := y) HS1.out HBB.out ho hk); clear ho hk hl3))
    go_roundw
    case rel => exact ⟨k + 1, n1 + 1, c4, a4, out ++ [y], true, hlt, by omega, rfl, rfl, by go_num, HJN, Lib.hid HS4.out.own, Lib.hid HS4.out.old, Lib.hid HS4.out.sz⟩
    case measure => simp [intOf]; omega
  ·have hlen : l.length ≤ k := by have := HLEN.out; omega
   have HLE := Lib.hid hlen
   clear hlen
   cases dn
   ·have HE := Lib.hid (HJ.out.1.end_not HLE.out)
    go_wp2_with (first | (refine wpList_run rfl (exec_bld95 (t := x) rfl rfl rfl) ?_) | (refine wpList_run rfl (exec_bs95 (p := x) rfl rfl) ?_) | (at_builtin; refine wpList_appendG 26 95 2 8 info95 und26 rfl (by decide) (by decide) rfl rfl rfl rfl (HOW.out.below (below_one wr _)) (Blk.new wr 95 x.arr) x.arr_size (by simpa using x.one_cs) (by omega) (by have := HSZ.out; simp; omega) ?_; intro a3 c3 w3 ho hk3 hl3; have HO3 := Lib.hid ho; have HK3 := Lib.hid hk3; clear ho hk3 hl3))
    go_ret
    have hat : ∀ k, At a1 k → B ≤ k := fun k ⟨ad0, had, e⟩ => by rw [e]; exact (HOW.out.lt ad0 had).1
    have h1 := HB.out.trans ((below_one wr (.cells x.arr 95)).mono HB.out.size)
    have h2 : Below w.heap.size w w3 := h1.trans (HK3.out.below h1.size (fun j e => Nat.le_trans HBB.out (hat j e)))
    have hlen2 : (cellsL (ticked x l)).length = n1 + 1 := by rw [HE.out, cellsL_app]; exact HO3.out.len
    refine ⟨a3, c3, (by rw [hlen2]; first | done | rfl), ?_, h2⟩
    rw [hlen2, HE.out, cellsL_app]
    exact HO3.out.mono HBB.out
   ·have HE := Lib.hid (HJ.out.1.end_done HLE.out)
    go_wp2_with fail
    go_ret
    have hlen2 : (cellsL (ticked x l)).length = n1 := by rw [HE.out]; exact HOW.out.len
    refine ⟨a1, c1, (by rw [hlen2]; first | done | rfl), ?_, HB.out⟩
    rw [hlen2, HE.out]
    exact HOW.out.mono HBB.out
end Go.Proofs.YtnekpgmgnepdoaaGreat
end
section
namespace Go.Proofs.YtnekpgmgnepdoaaGreat
open Go.RowKit
def RStP (s : Sta) (er : Nat) (w : World) (e : Ending) (w' : World) : Prop :=
 ∃ a n c b m d, e = .returned (.tuple #[.agg (sv s.v a n c b m d), .int .i64 (er : Int)]) ∧ SL w' s a n b m ∧ Below w.heap.size w w'
end Go.Proofs.YtnekpgmgnepdoaaGreat
end
section
namespace Go.Proofs.YtnekpgmgnepdoaaGreat
open Go.RowKit
theorem wp_cut {P : Program} {c : Code} {Q : Exit → Act → World → Prop} {a : Act} {w : World} (Post : Act → Act → World → Prop) (hq : ∀ a' w', Post a a' w' → Q .normal a' w') (h : c.wp P (fun e a' w' => e = .normal ∧ Post a a' w') a w) : c.wp P Q a w :=
 Code.wp_mono (fun e a' w' ⟨he, hp⟩ => by subst he; exact hq a' w' hp) h
end Go.Proofs.YtnekpgmgnepdoaaGreat
end
