import Derived.Test.YtnekpgmgnepdoaaGreatXad
import Derived.Test.YtnekpgmgnepdoaaGreatXae
namespace Go.Proofs.YtnekpgmgnepdoaaGreat
open Go.RowKit
def keepAt (l : List La) : Nat → Bool
 | 0 => true
 | i + 1 => !decide ((l[i + 1]?.map La.c) = (l[i]?.map La.c))
def compN (l : List La) : Nat → List La
 | 0 => []
 | j + 1 => compN l j ++ (if keepAt l j = true then l[j]?.toList else [])
theorem comp_keep {l : List La} {j : Nat} {x : La} (hx : l[j]? = some x) (hk : keepAt l j = true) : compN l (j + 1) = compN l j ++ [x] := by
 simp only [compN, if_pos hk, hx, Option.toList_some]
theorem comp_skip {l : List La} {j : Nat} (hk : keepAt l j = false) : compN l (j + 1) = compN l j := by
 simp [compN, hk]
theorem keep_at {l : List La} {i : Nat} {x y : La} (hx : l[i + 1]? = some x) (hy : l[i]? = some y) : keepAt l (i + 1) = !decide (x.c = y.c) := by
 simp [keepAt, hx, hy]
theorem comp_small {l : List La} (h : l.length < 2) : compN l l.length = l := by
 match l, h with
 | [], _ => rfl
 | [x], _ => rfl
 | x :: y :: t, h => simp at h; omega
theorem cellsL_len (l : List La) : (cellsL l).length = l.length := by simp [cellsL]
theorem drop_at {l : List La} {j : Nat} {x : La} (hx : l[j]? = some x) : l.drop j = x :: l.drop (j + 1) := by
 have hj := (List.getElem?_eq_some_iff.1 hx).1
 rw [List.drop_eq_getElem_cons hj]
 congr 1
 exact (List.getElem?_eq_some_iff.1 hx).2
structure Cf (W : World) (g : Nat) (l : List La) (us : List (List Value)) (k j : Nat) : Prop where
 rw : Rw W 96 2 g (cellsL (compN l j) ++ cellsL (l.drop k) ++ us)
 len : (compN l j).length = k
theorem Cf.at {W : World} {g k j i : Nat} {l : List La} {us : List (List Value)} {x : La} (h : Cf W g l us k j) (hk : k ≤ i) (hx : l[i]? = some x) : W.rangeAt g (0 + i * 2) x.cs := by
 refine h.rw.at ?_
 have hil := (List.getElem?_eq_some_iff.1 hx).1
 have hl := h.len
 rw [List.getElem?_append_left (by simp [cellsL]; omega), List.getElem?_append_right (by simp [cellsL]; omega), cellsL_len, hl]
 unfold cellsL
 rw [List.getElem?_map, List.getElem?_drop, show k + (i - k) = i by omega, hx]
 rfl
theorem Cf.skip {W : World} {g k j : Nat} {l : List La} {us : List (List Value)} (h : Cf W g l us k j) (hk : keepAt l j = false) : Cf W g l us k (j + 1) := by
 refine ⟨?_, ?_⟩
 ·rw [comp_skip hk]; exact h.rw
 ·rw [comp_skip hk]; exact h.len
theorem Cf.next {W : World} {g k : Nat} {l : List La} {us : List (List Value)} {x : La} (h : Cf W g l us k k) (hx : l[k]? = some x) (hk : keepAt l k = true) : Cf W g l us (k + 1) (k + 1) := by
 refine ⟨?_, by rw [comp_keep hx hk, List.length_append, h.len]; rfl⟩
 have hr := h.rw
 rw [drop_at hx] at hr
 rw [comp_keep hx hk]
 simpa [cellsL] using hr
theorem Cf.write {W : World} {g k j : Nat} {l : List La} {us : List (List Value)} {x : La} (h : Cf W g l us k j) (hkl : k < l.length) (hx : l[j]? = some x) (hk : keepAt l j = true) : Cf (W.setCells g (0 + k * 2) x.cs) g l us (k + 1) (j + 1) := by
 have hl := h.len
 refine ⟨?_, by rw [comp_keep hx hk, List.length_append, h.len]; rfl⟩
 have hr := h.rw.set (i := k) (v := x.cs) rfl (by simp [cellsL]; omega)
 obtain ⟨y, hy⟩ : ∃ y, l[k]? = some y := ⟨l[k], List.getElem?_eq_getElem hkl⟩
 have e1 : (cellsL (compN l j) ++ cellsL (l.drop k) ++ us).set k x.cs = cellsL (compN l (j + 1)) ++ cellsL (l.drop (k + 1)) ++ us := by
  rw [comp_keep hx hk, drop_at hy, List.append_assoc, List.set_append_right _ _ (by simp [cellsL]; omega), cellsL_len, hl, Nat.sub_self]
  simp [cellsL]
 rw [e1] at hr
 exact hr
theorem Cf.below {W W' : World} {g k j : Nat} {l : List La} {us : List (List Value)} (h : Cf W g l us k j) (hb : Below W.heap.size W W') : Cf W' g l us k j := ⟨h.rw.below hb, h.len⟩
theorem take_drop (l : List La) (k : Nat) : cellsL (l.take k) ++ cellsL (l.drop k) = cellsL l := by unfold cellsL; rw [← List.map_append, List.take_append_drop]
theorem Cf.whole {W : World} {g k : Nat} {l : List La} {us : List (List Value)} (h : Cf W g l us k k) (e : compN l k = l.take k) : Rw W 96 2 g (cellsL l ++ us) := by
 have hr := h.rw
 rw [e, take_drop] at hr
 exact hr
theorem comp_next {l : List La} {k : Nat} {x : La} (e : compN l k = l.take k) (hx : l[k]? = some x) (hk : keepAt l k = true) : compN l (k + 1) = l.take (k + 1) := by
 rw [comp_keep hx hk, e, List.take_add_one, hx]; rfl
structure CfI (w W : World) (g k j : Nat) (l : List La) (us : List (List Value)) (o1 o2 : Nat) (x y : La) : Prop where
 cf : Cf W g l us k j
 a : W.rangeAt g o1 x.cs
 b : W.rangeAt g o2 y.cs
 old : Kept (fun k => k = g) w W
theorem CfI.below {w W W' : World} {g k j o1 o2 : Nat} {l : List La} {us : List (List Value)} {x y : La} (h : CfI w W g k j l us o1 o2 x y) (hb : Below W.heap.size W W') : CfI w W' g k j l us o1 o2 x y :=
 ⟨h.cf.below hb, fun i u hu => below_at hb (h.a i u hu), fun i u hu => below_at hb (h.b i u hu), h.old.trans (Kept.of_below (S := fun _ => False) hb) (fun _ h => h.elim)⟩
section
variable {ev : Operand → Value} {q : Oper} {w : World}
theorem exec_subI {x y : Operand} {a b r : Int} (ho : q.op = .binOp .sub 3 x y 3) (hx : ev x = .int .i64 a) (hy : ev y = .int .i64 b) (hr : a - b = r) (h1 : 0 ≤ r) (h2 : r < 1000000000) : (execOp ev q).run Tryz.prog w = .ok (.value (.int .i64 r)) w := by
 subst hr
 have hw : IntKind.i64.wrap (a - b) = a - b := by rw [IntKind.wrap_i64]; omega
 unfold execOp
 simp only [ho, hx, hy]
 go_simp
theorem exec_notB {x : Operand} {b r : Bool} (ho : q.op = .unOp .not 4 x) (hx : ev x = .bool b) (hr : (!b) = r) : (execOp ev q).run Tryz.prog w = .ok (.value (.bool r)) w := by
 subst hr
 unfold execOp
 simp only [ho, hx]
 go_simp
theorem exec_st96 {x y : Operand} {g j off : Nat} {vs : List (List Value)} {p : La} (ho : q.op = .store 96 x y) (hx : ev x = .pointer (some ⟨g, off, none⟩)) (hoff : off = 0 + j * 2) (hy : ev y = .agg p.arr) (h : Rw w 96 2 g vs) (hj : j < vs.length) : (execOp ev q).run Tryz.prog w = .ok .skip (w.setCells g (0 + j * 2) p.cs) := by
 subst hoff
 have hs := run_storeAt_mid (P := Tryz.prog) w g (0 + j * 2) 96 p.arr (by have := h.there (i := j) (k := 1) (by omega); rw [Nat.one_mul] at this; exact this) size96 p.arr_one
 unfold execOp
 simp only [ho, hx, hy, Sem.run_bind, hs, Result.andThen_ok]
 rfl
end
def CompP (w : World) (B : Nat) (a : Option Addr) (cap : Nat) (l : List La) (e : Ending) (w' : World) : Prop :=
 e = .returned (.slice a l.length cap) ∧ OwnG w' 96 2 B a l.length cap (cellsL l) ∧ Kept (At a) w w'
def CoR (w : World) (g : Nat) (l : List La) (us : List (List Value)) (n : Nat) (v : Value) (W : World) : Prop :=
 ∃ k : Nat, v = .int .i64 (k : Int) ∧ 1 ≤ k ∧ k ≤ n ∧ Hid (Cf W g l us k k) ∧ Hid (compN l k = l.take k) ∧ Hid (Kept (fun k => k = g) w W)
def CiR (w : World) (g : Nat) (l : List La) (us : List (List Value)) (n k0 : Nat) (v u : Value) (W : World) : Prop :=
 ∃ k k2 : Nat, v = .int .i64 (k : Int) ∧ u = .int .i64 (k2 : Int) ∧ 1 ≤ k2 ∧ k0 + k2 ≤ n ∧ k < k0 + k2 ∧ Hid (Cf W g l us k (k0 + k2)) ∧ Hid (Kept (fun k => k = g) w W)
set_option maxRecDepth 100000 in
set_option maxHeartbeats 8000000 in
theorem compact_any {a : Option Addr} {n cap B : Nat} {l : List La} {w : World} (h : OwnG w 96 2 B a n cap (cellsL l)) (hn : n < 900000) : Calls Tryz.prog 107 #[.slice a n cap, .func (.func 108) #[] #[]] w (CompP w B a cap (compN l n)) := by
 have hlen : l.length = n := by have := h.len; rwa [cellsL_len] at this
 by_cases h2 : n < 2
 ·have HE : Hid (CompP w B a cap (compN l n) (.returned (.slice a n cap)) w) := Lib.hid (by
   have e := comp_small (l := l) (by omega)
   rw [hlen] at e
   rw [e]
   exact ⟨by rw [hlen], by rw [hlen]; exact h, Kept.refl _ _⟩)
  clear h
  go_enter Tryz.func107, Tryz.ntmps107
  go_wp2_with fail
  go_ret
  exact HE.out
 ·obtain ⟨g, us, rfl, hrw, hcap, hBg, hcm⟩ : ∃ g us, a = some ⟨g, 0, none⟩ ∧ Rw w 96 2 g (cellsL l ++ us) ∧ n + us.length = cap ∧ B ≤ g ∧ cap ≤ maxLen := by
   rcases h.rw' (by decide) with ⟨_, h0, _⟩ | h
   ·omega
   ·exact h
  have HLEN := Lib.hid hlen
  have HC0 : Hid (Cf w g l us 1 1) := Lib.hid (by
   obtain ⟨x, hx⟩ : ∃ x, l[0]? = some x := ⟨l[0]'(by omega), List.getElem?_eq_getElem _⟩
   have : Cf w g l us 0 0 := ⟨by simpa [compN, cellsL] using hrw, rfl⟩
   exact this.next hx rfl)
  have HCE : Hid (compN l 1 = l.take 1) := Lib.hid (by
   obtain ⟨x, hx⟩ : ∃ x, l[0]? = some x := ⟨l[0]'(by omega), List.getElem?_eq_getElem _⟩
   exact comp_next rfl hx rfl)
  have HCP : Hid (n + us.length = cap ∧ B ≤ g ∧ cap ≤ maxLen) := Lib.hid ⟨hcap, hBg, hcm⟩
  have hcn : n ≤ cap := by omega
  have hn2 : 2 ≤ n := by omega
  clear h hlen hrw hcap hBg hcm h2
  go_enter Tryz.func107, Tryz.ntmps107
  go_wp2_with fail
  go_loopw [5] (CoR w g l us n) (fun v _ => n - (numI v).toNat)
  case atStart => exact ⟨1, by go_num, by omega, by omega, HC0, HCE, Lib.hid (Kept.refl _ _)⟩
  case round =>
   obtain ⟨k, rfl, hk1, hkn, HC, HE0, HK⟩ := hrel
   clear HC0 HCE
   by_cases hlt : k < n
   ·obtain ⟨k1, hk⟩ : ∃ k1, k1 + 1 = k := ⟨k - 1, by omega⟩
    obtain ⟨x, hx⟩ : ∃ x, l[k]? = some x := ⟨l[k]'(by have := HLEN.out; omega), List.getElem?_eq_getElem _⟩
    obtain ⟨y, hy⟩ : ∃ y, l[k1]? = some y := ⟨l[k1]'(by have := HLEN.out; omega), List.getElem?_eq_getElem _⟩
    have HX := Lib.hid hx
    have HKE : Hid (keepAt l k = !decide (x.c = y.c)) := Lib.hid (by rw [← hk] at hx ⊢; exact keep_at hx hy)
    have HI : Hid (CfI w wr g k k l us (0 + k * 2) (0 + k1 * 2) x y) := Lib.hid ⟨HC.out, HC.out.at (Nat.le_refl _) hx, (HC.out.whole HE0.out).at (i := k1) (v := y.cs) (by
     have := HLEN.out
     rw [List.getElem?_append_left (by simp [cellsL]; omega)]
     unfold cellsL
     rw [List.getElem?_map, hy]
     rfl), HK.out⟩
    clear hx hy HC HK
    have hc := fun w => sameL_any x y w
    by_cases hq : x.c = y.c
    ·rw [decide_eq_true hq] at hc HKE
     clear hq
     go_wp2_with fail
     refine wp_region_held_drew (S := fun w' => CfI w w' g k k l us (0 + k * 2) (0 + k1 * 2) x y) (by kernel_rfl) (HI.out.below (drew_below _)) (fun hS => ?_)
     refine held_tk 0 18 (.func (.func 108) #[] #[]) rfl rfl (by kernel_rfl) (fun _ _ _ h=>h) (fun _ _=>rfl) hS ?_;simp only [Act.put,ap1,ap2,ap3]
     refine held_tk 1 19 (.slice (some ⟨g,0,none⟩) n cap) rfl rfl (by kernel_rfl) (fun _ _ _ h=>h) (fun _ _=>rfl) hS ?_;simp only [Act.put,ap1,ap2,ap3]
     refine held_tk 2 20 (.int .i64 (k : Int)) rfl rfl (by kernel_rfl) (fun _ _ _ h=>h) (fun _ _=>rfl) hS ?_;simp only [Act.put,ap1,ap2,ap3]
     refine held_tk 3 21 (.pointer (some ⟨g,0 + k * 2,none⟩)) rfl rfl (by kernel_rfl) (fun _ _ _ h=>h) (fun _ _=>exec_idx96 (off:=0) (i:=k) rfl rfl rfl (by omega) (by omega)) hS ?_;simp only [Act.put,ap1,ap2,ap3]
     refine held_tk 4 22 (.agg x.arr) rfl rfl (by kernel_rfl) (fun _ _ _ h=>h) (fun _ h=>exec_ld96 (p:=x) rfl rfl h.a) hS ?_;simp only [Act.put,ap1,ap2,ap3]
     refine held_tk 5 23 (.slice (some ⟨g,0,none⟩) n cap) rfl rfl (by kernel_rfl) (fun _ _ _ h=>h) (fun _ _=>rfl) hS ?_;simp only [Act.put,ap1,ap2,ap3]
     refine held_tk 6 24 (.int .i64 (k : Int)) rfl rfl (by kernel_rfl) (fun _ _ _ h=>h) (fun _ _=>rfl) hS ?_;simp only [Act.put,ap1,ap2,ap3]
     refine held_tk 7 25 (.int .i64 (k1 : Int)) rfl rfl (by kernel_rfl) (fun _ _ _ h=>h) (fun _ _=>exec_subI rfl rfl rfl (by omega) (by omega) (by omega)) hS ?_;simp only [Act.put,ap1,ap2,ap3]
     refine held_tk 8 26 (.pointer (some ⟨g,0 + k1 * 2,none⟩)) rfl rfl (by kernel_rfl) (fun _ _ _ h=>h) (fun _ _=>exec_idx96 (off:=0) (i:=k1) rfl rfl rfl (by omega) (by omega)) hS ?_;simp only [Act.put,ap1,ap2,ap3]
     refine held_tk 9 27 (.agg y.arr) rfl rfl (by kernel_rfl) (fun _ _ _ h=>h) (fun _ h=>exec_ld96 (p:=y) rfl rfl h.b) hS ?_;simp only [Act.put,ap1,ap2,ap3]
     refine held_callP 10 28 108 #[.agg x.arr,.agg y.arr] rfl (by kernel_rfl) rfl (by kernel_rfl) (by kernel_rfl) (hc _) (fun e w5 hP=>?_)
     obtain ⟨rfl, hg⟩ := hP
     refine ⟨_, rfl, hS.below hg.below, fun hS => ?_⟩
     clear hg
     simp only [Act.put, ap1, ap2, ap3]
     refine wpAnyH_done (by kernel_rfl) ?_ _
     have HC2 : Hid (Cf w5 g l us k (k + 1)) := Lib.hid (hS.cf.skip HKE.out)
     have HK2 := Lib.hid hS.old
     clear hS hc HI HKE HX HE0
     go_wp2_with (refine wpList_run rfl (exec_sliceLo und37 Tryz.sizeOf96 (i := k) rfl rfl rfl rfl (by omega) (by omega) (by omega)) ?_)
     obtain ⟨k0, hk0⟩ : ∃ k0, k = k0 := ⟨_, rfl⟩
     rw [show Cf w5 g l us k (k + 1) = Cf w5 g l us k (k0 + 1) by rw [hk0]] at HC2
     have hk00 : k ≤ k0 := by omega
     have hk01 : k0 < n := by omega
     have hk02 : k0 ≤ k := by omega
     have hlen2 : 2 ≤ n := hn2
     rw [show (Value.slice (some ⟨g, k * 2, none⟩) (n - k) (cap - k)) = Value.slice (some ⟨g, k0 * 2, none⟩) (n - k0) (cap - k0) by rw [hk0]]
     clear hk0 hk hk1 hkn hlt
     go_loopw [5, 7] (CiR w g l us n k0) (fun _ u _ => n - k0 - (numI u).toNat)
     case atStart => exact ⟨k, 1, rfl, by go_num, by omega, by omega, by omega, HC2, HK2⟩
     case round =>
      obtain ⟨i, k2, rfl, rfl, h21, h2n, hik, HC, HK⟩ := hrel
      clear HC2 HK2
      by_cases hlt : k2 < n - k0
      ·obtain ⟨k3, hk3⟩ : ∃ k3, k3 + 1 = k2 := ⟨k2 - 1, by omega⟩
       obtain ⟨x, hx⟩ : ∃ x, l[k0 + k2]? = some x := ⟨l[k0 + k2]'(by have := HLEN.out; omega), List.getElem?_eq_getElem _⟩
       obtain ⟨y, hy⟩ : ∃ y, l[k0 + k3]? = some y := ⟨l[k0 + k3]'(by have := HLEN.out; omega), List.getElem?_eq_getElem _⟩
       have HX := Lib.hid hx
       have HKE : Hid (keepAt l (k0 + k2) = !decide (x.c = y.c)) := Lib.hid (by rw [← hk3, ← Nat.add_assoc] at hx ⊢; exact keep_at hx hy)
       have HI : Hid (CfI w wr g i (k0 + k2) l us (k0 * 2 + k2 * 2) (k0 * 2 + k3 * 2) x y) := Lib.hid ⟨HC.out, by
        have h := HC.out.at (i := k0 + k2) (by omega) hx
        rwa [show 0 + (k0 + k2) * 2 = k0 * 2 + k2 * 2 by omega] at h, by
        have h := HC.out.at (i := k0 + k3) (by omega) hy
        rwa [show 0 + (k0 + k3) * 2 = k0 * 2 + k3 * 2 by omega] at h, HK.out⟩
       clear hx hy HC HK
       have hc := fun w => sameL_any x y w
       by_cases hq : x.c = y.c
       ·rw [decide_eq_true hq] at hc HKE
        clear hq
        go_wp2_with fail
        refine wp_region_held_drew (S := fun w' => CfI w w' g i (k0 + k2) l us (k0 * 2 + k2 * 2) (k0 * 2 + k3 * 2) x y) (by kernel_rfl) (HI.out.below (drew_below _)) (fun hS => ?_)
        refine held_tk 0 38 (.func (.func 108) #[] #[]) rfl rfl (by kernel_rfl) (fun _ _ _ h=>h) (fun _ _=>rfl) hS ?_;simp only [Act.put,ap1,ap2,ap3]
        refine held_tk 1 39 (.slice (some ⟨g,k0 * 2,none⟩) (n - k0) (cap - k0)) rfl rfl (by kernel_rfl) (fun _ _ _ h=>h) (fun _ _=>rfl) hS ?_;simp only [Act.put,ap1,ap2,ap3]
        refine held_tk 2 40 (.int .i64 (k2 : Int)) rfl rfl (by kernel_rfl) (fun _ _ _ h=>h) (fun _ _=>rfl) hS ?_;simp only [Act.put,ap1,ap2,ap3]
        refine held_tk 3 41 (.pointer (some ⟨g,k0 * 2 + k2 * 2,none⟩)) rfl rfl (by kernel_rfl) (fun _ _ _ h=>h) (fun _ _=>exec_idx96 (off:=k0 * 2) (i:=k2) rfl rfl rfl (by omega) (by omega)) hS ?_;simp only [Act.put,ap1,ap2,ap3]
        refine held_tk 4 42 (.agg x.arr) rfl rfl (by kernel_rfl) (fun _ _ _ h=>h) (fun _ h=>exec_ld96 (p:=x) rfl rfl h.a) hS ?_;simp only [Act.put,ap1,ap2,ap3]
        refine held_tk 5 43 (.slice (some ⟨g,k0 * 2,none⟩) (n - k0) (cap - k0)) rfl rfl (by kernel_rfl) (fun _ _ _ h=>h) (fun _ _=>rfl) hS ?_;simp only [Act.put,ap1,ap2,ap3]
        refine held_tk 6 44 (.int .i64 (k2 : Int)) rfl rfl (by kernel_rfl) (fun _ _ _ h=>h) (fun _ _=>rfl) hS ?_;simp only [Act.put,ap1,ap2,ap3]
        refine held_tk 7 45 (.int .i64 (k3 : Int)) rfl rfl (by kernel_rfl) (fun _ _ _ h=>h) (fun _ _=>exec_subI rfl rfl rfl (by omega) (by omega) (by omega)) hS ?_;simp only [Act.put,ap1,ap2,ap3]
        refine held_tk 8 46 (.pointer (some ⟨g,k0 * 2 + k3 * 2,none⟩)) rfl rfl (by kernel_rfl) (fun _ _ _ h=>h) (fun _ _=>exec_idx96 (off:=k0 * 2) (i:=k3) rfl rfl rfl (by omega) (by omega)) hS ?_;simp only [Act.put,ap1,ap2,ap3]
        refine held_tk 9 47 (.agg y.arr) rfl rfl (by kernel_rfl) (fun _ _ _ h=>h) (fun _ h=>exec_ld96 (p:=y) rfl rfl h.b) hS ?_;simp only [Act.put,ap1,ap2,ap3]
        refine held_callP 10 48 108 #[.agg x.arr,.agg y.arr] rfl (by kernel_rfl) rfl (by kernel_rfl) (by kernel_rfl) (hc _) (fun e w5 hP=>?_)
        obtain ⟨rfl, hg⟩ := hP
        refine ⟨_, rfl, hS.below hg.below, fun hS => ?_⟩
        clear hg
        simp only [Act.put, ap1, ap2, ap3]
        refine held_tk 11 49 (.bool false) rfl rfl (by kernel_rfl) (fun _ _ _ h=>h) (fun _ _=>exec_notB rfl rfl rfl) hS ?_;simp only [Act.put,ap1,ap2,ap3]
        refine wpAnyH_done (by kernel_rfl) ?_ _
        have HC2 : Hid (Cf w5 g l us i (k0 + (k2 + 1))) := Lib.hid (hS.cf.skip HKE.out)
        have HK2 := Lib.hid hS.old
        clear hS hc HI HKE HX
        go_wp2_with fail
        go_roundw
        case rel => exact ⟨i, k2 + 1, rfl, by go_num, by omega, by omega, by omega, HC2, HK2⟩
        case measure => simp [numI]; omega
       ·rw [decide_eq_false hq] at hc HKE
        clear hq
        go_wp2_with fail
        refine wp_region_held_drew (S := fun w' => CfI w w' g i (k0 + k2) l us (k0 * 2 + k2 * 2) (k0 * 2 + k3 * 2) x y) (by kernel_rfl) (HI.out.below (drew_below _)) (fun hS => ?_)
        refine held_tk 0 38 (.func (.func 108) #[] #[]) rfl rfl (by kernel_rfl) (fun _ _ _ h=>h) (fun _ _=>rfl) hS ?_;simp only [Act.put,ap1,ap2,ap3]
        refine held_tk 1 39 (.slice (some ⟨g,k0 * 2,none⟩) (n - k0) (cap - k0)) rfl rfl (by kernel_rfl) (fun _ _ _ h=>h) (fun _ _=>rfl) hS ?_;simp only [Act.put,ap1,ap2,ap3]
        refine held_tk 2 40 (.int .i64 (k2 : Int)) rfl rfl (by kernel_rfl) (fun _ _ _ h=>h) (fun _ _=>rfl) hS ?_;simp only [Act.put,ap1,ap2,ap3]
        refine held_tk 3 41 (.pointer (some ⟨g,k0 * 2 + k2 * 2,none⟩)) rfl rfl (by kernel_rfl) (fun _ _ _ h=>h) (fun _ _=>exec_idx96 (off:=k0 * 2) (i:=k2) rfl rfl rfl (by omega) (by omega)) hS ?_;simp only [Act.put,ap1,ap2,ap3]
        refine held_tk 4 42 (.agg x.arr) rfl rfl (by kernel_rfl) (fun _ _ _ h=>h) (fun _ h=>exec_ld96 (p:=x) rfl rfl h.a) hS ?_;simp only [Act.put,ap1,ap2,ap3]
        refine held_tk 5 43 (.slice (some ⟨g,k0 * 2,none⟩) (n - k0) (cap - k0)) rfl rfl (by kernel_rfl) (fun _ _ _ h=>h) (fun _ _=>rfl) hS ?_;simp only [Act.put,ap1,ap2,ap3]
        refine held_tk 6 44 (.int .i64 (k2 : Int)) rfl rfl (by kernel_rfl) (fun _ _ _ h=>h) (fun _ _=>rfl) hS ?_;simp only [Act.put,ap1,ap2,ap3]
        refine held_tk 7 45 (.int .i64 (k3 : Int)) rfl rfl (by kernel_rfl) (fun _ _ _ h=>h) (fun _ _=>exec_subI rfl rfl rfl (by omega) (by omega) (by omega)) hS ?_;simp only [Act.put,ap1,ap2,ap3]
        refine held_tk 8 46 (.pointer (some ⟨g,k0 * 2 + k3 * 2,none⟩)) rfl rfl (by kernel_rfl) (fun _ _ _ h=>h) (fun _ _=>exec_idx96 (off:=k0 * 2) (i:=k3) rfl rfl rfl (by omega) (by omega)) hS ?_;simp only [Act.put,ap1,ap2,ap3]
        refine held_tk 9 47 (.agg y.arr) rfl rfl (by kernel_rfl) (fun _ _ _ h=>h) (fun _ h=>exec_ld96 (p:=y) rfl rfl h.b) hS ?_;simp only [Act.put,ap1,ap2,ap3]
        refine held_callP 10 48 108 #[.agg x.arr,.agg y.arr] rfl (by kernel_rfl) rfl (by kernel_rfl) (by kernel_rfl) (hc _) (fun e w5 hP=>?_)
        obtain ⟨rfl, hg⟩ := hP
        refine ⟨_, rfl, hS.below hg.below, fun hS => ?_⟩
        clear hg
        simp only [Act.put, ap1, ap2, ap3]
        refine held_tk 11 49 (.bool true) rfl rfl (by kernel_rfl) (fun _ _ _ h=>h) (fun _ _=>exec_notB rfl rfl rfl) hS ?_;simp only [Act.put,ap1,ap2,ap3]
        refine wpAnyH_done (by kernel_rfl) ?_ _
        have HS := Lib.hid hS
        have HRA := Lib.hid hS.a
        have HIL : Hid (i < (cellsL (compN l (k0 + k2)) ++ cellsL (l.drop i) ++ us).length) := Lib.hid (by
         have h1 := hS.cf.len
         have h2 := HLEN.out
         simp only [List.length_append, cellsL_len, List.length_drop]
         omega)
        clear hS hc HI
        go_wp2_with (first | (refine wpList_run rfl (exec_idx96 (off := k0 * 2) (i := k2) rfl rfl rfl rfl (by omega)) ?_) | (refine wpList_run rfl (exec_ld96 (p := x) rfl rfl HRA.out) ?_) | (refine wpList_run rfl (exec_idx96 (off := 0) (i := i) rfl rfl rfl rfl (by omega)) ?_) | (refine wpList_stop96 rfl ?_))
        refine ⟨?_⟩
        refine wpList_void rfl rfl (exec_st96 (j := i) (p := x) rfl rfl (by omega) rfl HS.out.cf.rw HIL.out) ?_
        have HC2 : Hid (Cf (w5.setCells g (0 + i * 2) x.cs) g l us (i + 1) (k0 + (k2 + 1))) := Lib.hid (HS.out.cf.write (by have := HLEN.out; omega) HX.out HKE.out)
        have HK2 : Hid (Kept (fun k => k = g) w (w5.setCells g (0 + i * 2) x.cs)) := Lib.hid (HS.out.old.trans (Kept.setCells g _ _ _) (fun _ h => .inl h))
        generalize w5.setCells g (0 + i * 2) x.cs = w6 at HC2 HK2
        clear HS HRA HIL HKE HX
        go_wp2_with fail
        go_roundw
        case rel => exact ⟨i + 1, k2 + 1, by go_num, by go_num, by omega, by omega, by omega, HC2, HK2⟩
        case measure => simp [numI]; omega
      ·obtain rfl : n = k0 + k2 := by omega
       obtain ⟨N, hN⟩ : ∃ N, k0 + k2 = N := ⟨_, rfl⟩
       have hcl : ∀ ty, (Builtin.clear_ #[37] ty #[.slice (some ⟨g, 0 + i * 2, none⟩) (k0 + k2 - i) (cap - i)]).run Tryz.prog wr = .ok (.tuple #[]) (wr.setCells g (0 + i * 2) (List.replicate (k0 + k2 - i) La.zero.cs).flatten) := fun ty =>
        run_clearR wr 37 ty 96 2 La.zero.cs und37 ((zero_of_info info96z).1 wr) rfl (by decide) La.zero.one_cs g (0 + i * 2) (k0 + k2 - i) (cap - i) (HC.out.rw.there (by
         have h1 := HC.out.len
         have h2 := HLEN.out
         simp only [List.length_append, cellsL_len, List.length_drop]
         omega))
       have HCL := Lib.hid hcl
       clear hcl
       have HE : Hid (CompP w B (some ⟨g, 0, none⟩) cap (compN l (k0 + k2)) (.returned (.slice (some ⟨g, 0, none⟩) i cap)) (wr.setCells g (0 + i * 2) (List.replicate (k0 + k2 - i) La.zero.cs).flatten)) := by
        have h1 := HC.out.len
        have hrw := HC.out.rw
        have hlen := HLEN.out
        have hcp := HCP.out
        have hL : (cellsL (compN l (k0 + k2)) ++ cellsL (l.drop i) ++ us).length = cap := by
         simp only [List.length_append, cellsL_len, List.length_drop]
         omega
        have ho := hrw.over (us := List.replicate (k0 + k2 - i) La.zero.cs) (i := i) (fun v hv => by rw [List.eq_of_mem_replicate hv]; rfl) (by rw [hL, List.length_replicate]; omega)
        have hl2 : (overL (cellsL (compN l (k0 + k2)) ++ cellsL (l.drop i) ++ us) i (List.replicate (k0 + k2 - i) La.zero.cs)).length = cap := by
         rw [overL_length _ _ _ (by rw [hL, List.length_replicate]; omega), hL]
        have hown := ho.own (B := B) (n := i) HCP.out.2.1 (by omega) hl2 HCP.out.2.2
        have ht : (overL (cellsL (compN l (k0 + k2)) ++ cellsL (l.drop i) ++ us) i (List.replicate (k0 + k2 - i) La.zero.cs)).take i = cellsL (compN l (k0 + k2)) := by
         unfold overL
         rw [List.append_assoc, List.take_append_of_le_length (by rw [List.length_take]; omega), List.take_take, Nat.min_self, List.append_assoc, List.take_append_of_le_length (by rw [cellsL_len]; omega), List.take_of_length_le (by rw [cellsL_len]; omega)]
        rw [ht] at hown
        refine Lib.hid ⟨by rw [h1], by rw [h1]; exact hown, kept_at ?_⟩
        exact HK.out.trans (Kept.setCells g _ _ _) (fun _ h => .inl h)
       rw [hN] at HE HCL ⊢
       go_wp2_with (first | (refine wpList_run rfl (exec_sliceLo und37 Tryz.sizeOf96 (i := i) rfl rfl rfl rfl (by omega) (by omega) (by omega)) ?_) | (refine wpList_run rfl (exec_clear rfl rfl (HCL.out _)) ?_) | (refine wpList_run rfl (exec_sliceHi und37 Tryz.sizeOf96 (i := i) rfl rfl rfl rfl (by omega) rfl) ?_))
       go_ret
       have h := HE.out
       rw [Nat.zero_add] at h
       rw [hN]
       exact h
    ·rw [decide_eq_false hq] at hc HKE
     clear hq
     go_wp2_with fail
     refine wp_region_held_drew (S := fun w' => CfI w w' g k k l us (0 + k * 2) (0 + k1 * 2) x y) (by kernel_rfl) (HI.out.below (drew_below _)) (fun hS => ?_)
     refine held_tk 0 18 (.func (.func 108) #[] #[]) rfl rfl (by kernel_rfl) (fun _ _ _ h=>h) (fun _ _=>rfl) hS ?_;simp only [Act.put,ap1,ap2,ap3]
     refine held_tk 1 19 (.slice (some ⟨g,0,none⟩) n cap) rfl rfl (by kernel_rfl) (fun _ _ _ h=>h) (fun _ _=>rfl) hS ?_;simp only [Act.put,ap1,ap2,ap3]
     refine held_tk 2 20 (.int .i64 (k : Int)) rfl rfl (by kernel_rfl) (fun _ _ _ h=>h) (fun _ _=>rfl) hS ?_;simp only [Act.put,ap1,ap2,ap3]
     refine held_tk 3 21 (.pointer (some ⟨g,0 + k * 2,none⟩)) rfl rfl (by kernel_rfl) (fun _ _ _ h=>h) (fun _ _=>exec_idx96 (off:=0) (i:=k) rfl rfl rfl (by omega) (by omega)) hS ?_;simp only [Act.put,ap1,ap2,ap3]
     refine held_tk 4 22 (.agg x.arr) rfl rfl (by kernel_rfl) (fun _ _ _ h=>h) (fun _ h=>exec_ld96 (p:=x) rfl rfl h.a) hS ?_;simp only [Act.put,ap1,ap2,ap3]
     refine held_tk 5 23 (.slice (some ⟨g,0,none⟩) n cap) rfl rfl (by kernel_rfl) (fun _ _ _ h=>h) (fun _ _=>rfl) hS ?_;simp only [Act.put,ap1,ap2,ap3]
     refine held_tk 6 24 (.int .i64 (k : Int)) rfl rfl (by kernel_rfl) (fun _ _ _ h=>h) (fun _ _=>rfl) hS ?_;simp only [Act.put,ap1,ap2,ap3]
     refine held_tk 7 25 (.int .i64 (k1 : Int)) rfl rfl (by kernel_rfl) (fun _ _ _ h=>h) (fun _ _=>exec_subI rfl rfl rfl (by omega) (by omega) (by omega)) hS ?_;simp only [Act.put,ap1,ap2,ap3]
     refine held_tk 8 26 (.pointer (some ⟨g,0 + k1 * 2,none⟩)) rfl rfl (by kernel_rfl) (fun _ _ _ h=>h) (fun _ _=>exec_idx96 (off:=0) (i:=k1) rfl rfl rfl (by omega) (by omega)) hS ?_;simp only [Act.put,ap1,ap2,ap3]
     refine held_tk 9 27 (.agg y.arr) rfl rfl (by kernel_rfl) (fun _ _ _ h=>h) (fun _ h=>exec_ld96 (p:=y) rfl rfl h.b) hS ?_;simp only [Act.put,ap1,ap2,ap3]
     refine held_callP 10 28 108 #[.agg x.arr,.agg y.arr] rfl (by kernel_rfl) rfl (by kernel_rfl) (by kernel_rfl) (hc _) (fun e w5 hP=>?_)
     obtain ⟨rfl, hg⟩ := hP
     refine ⟨_, rfl, hS.below hg.below, fun hS => ?_⟩
     clear hg
     simp only [Act.put, ap1, ap2, ap3]
     refine wpAnyH_done (by kernel_rfl) ?_ _
     have HC2 : Hid (Cf w5 g l us (k + 1) (k + 1)) := Lib.hid (hS.cf.next HX.out HKE.out)
     have HE2 : Hid (compN l (k + 1) = l.take (k + 1)) := Lib.hid (comp_next HE0.out HX.out HKE.out)
     have HK2 := Lib.hid hS.old
     clear hS hc HI HKE HX HE0
     go_wp2_with fail
     go_roundw
     case rel => exact ⟨k + 1, by go_num, by omega, by omega, HC2, HE2, HK2⟩
     case measure => simp [numI]; omega
   ·obtain rfl : k = n := by omega
    have HE : Hid (CompP w B (some ⟨g, 0, none⟩) cap (compN l k) (.returned (.slice (some ⟨g, 0, none⟩) k cap)) wr) := Lib.hid (by
     have hlen := HLEN.out
     have h1 := HC.out.len
     have hr := HC.out.whole HE0.out
     have hcp := HCP.out
     have ho := hr.own (B := B) (n := k) (cap := cap) HCP.out.2.1 (by omega) (by simp only [List.length_append, cellsL_len]; omega) HCP.out.2.2
     rw [List.take_append_of_le_length (by rw [cellsL_len]; omega), List.take_of_length_le (by rw [cellsL_len]; omega)] at ho
     have e : compN l k = l := by rw [HE0.out, List.take_of_length_le (by omega)]
     rw [e]
     exact ⟨by rw [hlen], by rw [hlen]; exact ho, kept_at HK.out⟩)
    go_wp2_with fail
    go_ret
    exact HE.out
end Go.Proofs.YtnekpgmgnepdoaaGreat
