import Derived.Test.YtnekpgmgnepdoaaGreatWad
namespace Go.Proofs.YtnekpgmgnepdoaaGreat
open Go.RowKit
def OwnsP (e size : Nat) (vs : List (List Value)) (w : World) (x : Ending) (w' : World) : Prop := ∃ a cap, x = .returned (.slice a vs.length cap) ∧ OwnG w' e size w.heap.size a vs.length cap vs ∧ Below w.heap.size w w'
theorem GL.nil_of {w : World} {size n : Nat} {vs : List (List Value)} (h : GL w size none n vs) : n = 0 ∧ vs = [] := by
 have h0 : n = 0 := by
  rcases h.cells with h | ⟨b, off, e, _⟩
  ·exact h
  ·cases e
 exact ⟨h0, List.eq_nil_of_length_eq_zero (by rw [h.len, h0])⟩
def FindP (k : Nat) (b : Bool) (w : World) (e : Ending) (w' : World) : Prop := e = .returned (.tuple #[.int .i64 (k : Int), .bool b]) ∧ Grew w w'
section
variable {ops : Array Oper} {rest : List Oper} {o : Oper} {act : Act} {Q : Exit → Act → World → Prop} {W : World}
theorem wpList_enter (f : FuncId) (args : Array Value) {R : Ending → World → Prop} (hgd : o.guard = .none) (_ho : ∃ c, o.op = .call c) (hrun : (execOp act.eval o).run Tryz.prog W = .ok (.enter f args) W) (hc : Calls Tryz.prog f args W R)
  (k : ∀ e w', R e w' → ∃ v, e = .returned v ∧ wpList Tryz.prog ops Q rest (act.put o.dst v) w') : wpList Tryz.prog ops Q (o :: rest) act W :=
 wpList_plain hgd fun _ hK => by
  unfold Oper.wp
  rw [hrun, Oper.upon_enter]
  refine hc.mono fun e w' hh => ?_
  obtain ⟨v, rfl, hk⟩ := k e w' hh
  exact hK _ _ hk
theorem wpList_enterW (f : FuncId) (args : Array Value) {R : Ending → World → Prop} (hw : Region.wanted o (yielded ops act.tmps) = true) (_ho : ∃ c, o.op = .call c) (hrun : (execOp act.eval o).run Tryz.prog W = .ok (.enter f args) W) (hc : Calls Tryz.prog f args W R)
  (k : ∀ e w', R e w' → ∃ v, e = .returned v ∧ wpList Tryz.prog ops Q rest (act.put o.dst v) w') : wpList Tryz.prog ops Q (o :: rest) act W :=
 BigFrame.wpList_want hw fun _ hK => by
  unfold Oper.wp
  rw [hrun, Oper.upon_enter]
  refine hc.mono fun e w' hh => ?_
  obtain ⟨v, rfl, hk⟩ := k e w' hh
  exact hK _ _ hk
end
theorem count_at {α : Type} (p : α → Bool) : ∀ (l : List α) (k : Nat), k ≤ l.length → (∀ t y, t < k → l[t]? = some y → p y = true) → (∀ t y, k ≤ t → l[t]? = some y → p y = false) → l.countP p = k
 | [], k, hk, _, _ => by simp at hk; simp [hk]
 | a :: l, 0, _, _, h2 => by
  rw [List.countP_eq_zero]
  intro x hx
  obtain ⟨t, ht, rfl⟩ := List.getElem_of_mem hx
  simp [h2 t _ (Nat.zero_le _) (List.getElem?_eq_getElem ht)]
 | a :: l, k + 1, hk, h1, h2 => by
  rw [List.countP_cons_of_pos (h1 0 a (by omega) rfl), count_at p l k (by simpa using hk) (fun t y ht hy => h1 (t + 1) y (by omega) (by simpa using hy)) (fun t y ht hy => h2 (t + 1) y (by omega) (by simpa using hy))]
def BsR {α : Type} (w : World) (l : List α) (n : Nat) (cf : α → Int) (v u : Value) (W : World) : Prop :=
 ∃ lo hi : Nat, v = .int .i64 (lo : Int) ∧ u = .int .i64 (hi : Int) ∧ lo ≤ hi ∧ hi ≤ n ∧ Hid (∀ t y, t < lo → l[t]? = some y → cf y < 0) ∧ Hid (∀ t y, hi ≤ t → l[t]? = some y → 0 ≤ cf y) ∧ Hid (Grew w W)
def Mono {α : Type} (l : List α) (cf : α → Int) : Prop := ∀ (i j : Nat) (x y : α), i ≤ j → l[i]? = some x → l[j]? = some y → cf y < 0 → cf x < 0
def foundB {α : Type} (l : List α) (cf : α → Int) : Bool := match l[l.countP fun y => decide (cf y < 0)]? with
 | none => false
 | some y => decide (cf y = 0)
set_option maxRecDepth 100000 in
set_option maxHeartbeats 1000000 in
theorem cloneE_any {a : Option Addr} {n cap : Nat} {l : List En} {w : World} (hl : EL w a n l) (hn : n < 500000) : Calls Tryz.prog 85 #[.slice a n cap] w (OwnsP 72 7 (cellsE l) w) := by
 have HLEN : Hid ((cellsE l).length = n) := Lib.hid hl.len
 have q1 : ∀ (w : World) (a : Option Addr) (n c n' c' : Nat), (binOp .eql 36 (.slice a n c) (.slice none n' c')).run Tryz.prog w = .ok (.bool a.isNone) w := fun w a n c n' c' => Lib.run_eql_slice_nil w _ _ a n c n' c' und36
 cases a with
 | none =>
  have HE : Hid (OwnsP 72 7 (cellsE l) w (.returned (.slice none 0 0)) w) := by
   have h := (GL.nil_of hl).2
   rw [h]
   exact Lib.hid ⟨none, 0, rfl, ownG_nil _ _ _ _, Below.refl _ _⟩
  clear hl
  go_enter Tryz.func85, Tryz.ntmps85
  go_wp2_with fail
  go_ret
  exact HE.out
 | some ad =>
  have HL := Lib.hid hl
  clear hl
  go_enter Tryz.func85, Tryz.ntmps85
  go_wp2_with (at_builtin; refine wpList_appendR (B := w.heap.size) 36 72 7 24 info72 und36 rfl (by decide) (by decide) rfl rfl rfl rfl (vs := []) ⟨World.ownsRow_made w #[] 0 (Nat.le_refl _) (Nat.zero_le _) (by simp), by simp, rfl⟩ (HL.out.below (below_one w _)) (cellsE_each l) (cellsE_one l) (by omega) (by simp) ?_; intro a3 cap3 w3 ho3 hk3 hl3)
  have HE : Hid (OwnsP 72 7 (cellsE l) w (.returned (.slice a3 n cap3)) w3) := Lib.hid (by
   rw [Nat.zero_add] at ho3
   rw [List.nil_append] at ho3
   refine ⟨a3, cap3, by rw [HLEN.out], by rw [HLEN.out]; exact ho3, (below_one w _).trans (hk3.below (by simp) (fun k hk => ?_))⟩
   obtain ⟨ad, e1, e2⟩ := hk
   cases e1
   rw [e2]
   exact Nat.le_refl _)
  clear ho3 hk3 hl3
  go_wp2_with fail
  go_ret
  exact HE.out
structure BsS (w W : World) (x : En) (b o : Nat) (y : En) : Prop where
 tgt : Blk W w.heap.size 72 x.arr
 el : W.rangeAt b o y.cs
 old : Grew w W
theorem BsS.grew {w W W' : World} {x y : En} {b o : Nat} (h : BsS w W x b o y) (k : Grew W W') : BsS w W' x b o y := ⟨h.tgt.grew k, fun j u hu => below_at k.below (h.el j u hu), h.old.trans k⟩
def BsRE (w : World) (x : En) (l : List En) (n : Nat) (cf : En → Int) (v u : Value) (W : World) : Prop := BsR w l n cf v u W ∧ Hid (Blk W w.heap.size 72 x.arr)
set_option maxRecDepth 100000 in
set_option maxHeartbeats 2000000 in
theorem bsE_any {a : Option Addr} {n cap : Nat} {l : List En} {w : World} (hl : EL w a n l) (hn : n < 500000) (x : En) (hm : Mono l fun y => En.ord y x) :
  Calls Tryz.prog 90 #[.slice a n cap, .agg x.arr, .func (.func 91) #[] #[]] w (FindP (l.countP fun y => decide (En.ord y x < 0)) (foundB l fun y => En.ord y x) w) := by
 have HL := Lib.hid hl
 have hlen := hl.len'
 have HLEN := Lib.hid hlen
 have HM := Lib.hid hm
 have HC := Lib.hid (fun (y : En) w => order_any y x w)
 obtain ⟨cf, hcf⟩ : ∃ cf : En → Int, (fun y => En.ord y x) = cf := ⟨_, rfl⟩
 have HCF : Hid (∀ y, En.ord y x = cf y) := Lib.hid (fun y => by rw [← hcf])
 have HG : Hid (FindP (l.countP fun y => decide (En.ord y x < 0)) (foundB l fun y => En.ord y x) w = FindP (l.countP fun y => decide (cf y < 0)) (foundB l cf) w) := Lib.hid (by rw [← hcf])
 rw [HG.out]
 rw [hcf] at HM
 have HC2 : Hid (∀ (y : En) w, Calls Tryz.prog 91 #[.agg y.arr, .agg x.arr] w (CmpP (cf y) w)) := Lib.hid (fun y w => by rw [← HCF.out]; exact HC.out y w)
 clear hl hlen hm hcf HG HCF HC
 have hb1 := fun (o : En) w => box72 o w
 go_enter Tryz.func90, Tryz.ntmps90
 go_wp2_with fail
 clear hb1
 go_loopw [9, 10] (BsRE w x l n cf) (fun v u _ => (numI u - numI v).toNat)
 case atStart => exact ⟨⟨0, n, rfl, rfl, Nat.zero_le _, Nat.le_refl _, Lib.hid (fun t y h => by omega), Lib.hid (fun t y h1 h2 => by have := (List.getElem?_eq_some_iff.1 h2).1; have := HLEN.out; omega), Lib.hid ((Grew.refl w).alloc _)⟩, Lib.hid (Blk.new w 72 x.arr)⟩
 case round =>
  obtain ⟨⟨lo, hi, rfl, rfl, hlh, hin, HLO, HHI, HW⟩, HT⟩ := hrel
  by_cases hlt : lo < hi
  ·obtain ⟨b, off, y, rfl, hy, hr⟩ := EL.at (HL.out.below HW.out.below) (i := (lo + hi) / 2) (by omega)
   have HY := Lib.hid hy
   have HR := Lib.hid hr
   have HS : Hid (BsS w wr x b (off + (lo + hi) / 2 * 7) y) := Lib.hid ⟨HT.out, hr, HW.out⟩
   clear hy hr
   have hc := fun w => HC2.out y w
   obtain ⟨z, hz⟩ : ∃ z, cf y = z := ⟨_, rfl⟩
   have HZ := Lib.hid hz
   rw [hz] at hc
   clear hz
   by_cases hneg : z < 0
   ·have hd : decide (z < 0) = true := by simpa using hneg
    go_wp2_with fail
    refine wp_region_held_drew (S := fun w' => BsS w w' x b (off + (lo + hi) / 2 * 7) y) (by kernel_rfl) (HS.out.grew (Grew.refl _).drew) (fun hS => ?_)
    refine held_tk 0 24 (.func (.func 91) #[] #[]) rfl rfl (by kernel_rfl) (fun _ _ _ h=>h) (fun _ _=>rfl) hS ?_;simp only [Act.put,ap1,ap2,ap3]
    refine held_tk 1 25 (.slice (some ⟨b,off,none⟩) n cap) rfl rfl (by kernel_rfl) (fun _ _ _ h=>h) (fun _ _=>rfl) hS ?_;simp only [Act.put,ap1,ap2,ap3]
    refine held_tk 2 26 (.int .i64 (((lo : Int) + (hi : Int)) / 2)) rfl rfl (by kernel_rfl) (fun _ _ _ h=>h) (fun _ _=>rfl) hS ?_;simp only [Act.put,ap1,ap2,ap3]
    refine held_tk 3 27 (.pointer (some ⟨b,off + (lo + hi) / 2 * 7,none⟩)) rfl rfl (by kernel_rfl) (fun _ _ _ h=>h) (fun _ _=>exec_idx72 (i:=(lo + hi) / 2) rfl rfl rfl (by omega) (by omega)) hS ?_;simp only [Act.put,ap1,ap2,ap3]
    refine held_tk 4 28 (.agg y.arr) rfl rfl (by kernel_rfl) (fun _ _ _ h=>h) (fun _ h=>exec_ld72 (p:=y) rfl rfl h.el) hS ?_;simp only [Act.put,ap1,ap2,ap3]
    refine held_tk 5 29 (.agg x.arr) rfl rfl (by kernel_rfl) (fun _ _ _ h=>h) (fun _ h=>exec_load72 (p:=x) rfl rfl h.tgt) hS ?_;simp only [Act.put,ap1,ap2,ap3]
    refine held_callP 6 30 91 #[.agg y.arr,.agg x.arr] rfl (by kernel_rfl) rfl (by kernel_rfl) (by kernel_rfl) (hc _) (fun e w5 hP=>?_)
    obtain ⟨rfl, hg⟩ := hP
    refine ⟨_, rfl, hS.grew hg, fun hS => ?_⟩
    clear hg
    simp only [Act.put, ap1, ap2, ap3]
    refine held_tk 7 31 (.bool true) rfl rfl (by kernel_rfl) (fun _ _ _ h=>h) (fun _ _=>exec_lssI rfl rfl rfl hd) hS ?_;simp only [Act.put,ap1,ap2,ap3]
    refine wpAnyH_done (by kernel_rfl) ?_ _
    have HT2 := Lib.hid hS.tgt
    have HW2 := Lib.hid hS.old
    clear hS
    go_wp2_with fail
    go_roundw
    case rel => exact ⟨⟨(lo + hi) / 2 + 1, hi, congrArg (Value.int .i64) (by omega), rfl, by omega, hin, Lib.hid (fun t u ht hu => HM.out t ((lo + hi) / 2) u y (by omega) hu HY.out (by rw [HZ.out]; exact hneg)), HHI, HW2⟩, HT2⟩
    case measure => simp [numI]; omega
   ·have hd : decide (z < 0) = false := by simpa using hneg
    go_wp2_with fail
    refine wp_region_held_drew (S := fun w' => BsS w w' x b (off + (lo + hi) / 2 * 7) y) (by kernel_rfl) (HS.out.grew (Grew.refl _).drew) (fun hS => ?_)
    refine held_tk 0 24 (.func (.func 91) #[] #[]) rfl rfl (by kernel_rfl) (fun _ _ _ h=>h) (fun _ _=>rfl) hS ?_;simp only [Act.put,ap1,ap2,ap3]
    refine held_tk 1 25 (.slice (some ⟨b,off,none⟩) n cap) rfl rfl (by kernel_rfl) (fun _ _ _ h=>h) (fun _ _=>rfl) hS ?_;simp only [Act.put,ap1,ap2,ap3]
    refine held_tk 2 26 (.int .i64 (((lo : Int) + (hi : Int)) / 2)) rfl rfl (by kernel_rfl) (fun _ _ _ h=>h) (fun _ _=>rfl) hS ?_;simp only [Act.put,ap1,ap2,ap3]
    refine held_tk 3 27 (.pointer (some ⟨b,off + (lo + hi) / 2 * 7,none⟩)) rfl rfl (by kernel_rfl) (fun _ _ _ h=>h) (fun _ _=>exec_idx72 (i:=(lo + hi) / 2) rfl rfl rfl (by omega) (by omega)) hS ?_;simp only [Act.put,ap1,ap2,ap3]
    refine held_tk 4 28 (.agg y.arr) rfl rfl (by kernel_rfl) (fun _ _ _ h=>h) (fun _ h=>exec_ld72 (p:=y) rfl rfl h.el) hS ?_;simp only [Act.put,ap1,ap2,ap3]
    refine held_tk 5 29 (.agg x.arr) rfl rfl (by kernel_rfl) (fun _ _ _ h=>h) (fun _ h=>exec_load72 (p:=x) rfl rfl h.tgt) hS ?_;simp only [Act.put,ap1,ap2,ap3]
    refine held_callP 6 30 91 #[.agg y.arr,.agg x.arr] rfl (by kernel_rfl) rfl (by kernel_rfl) (by kernel_rfl) (hc _) (fun e w5 hP=>?_)
    obtain ⟨rfl, hg⟩ := hP
    refine ⟨_, rfl, hS.grew hg, fun hS => ?_⟩
    clear hg
    simp only [Act.put, ap1, ap2, ap3]
    refine held_tk 7 31 (.bool false) rfl rfl (by kernel_rfl) (fun _ _ _ h=>h) (fun _ _=>exec_lssI rfl rfl rfl hd) hS ?_;simp only [Act.put,ap1,ap2,ap3]
    refine wpAnyH_done (by kernel_rfl) ?_ _
    have HT2 := Lib.hid hS.tgt
    have HW2 := Lib.hid hS.old
    clear hS
    go_wp2_with fail
    go_roundw
    case rel => exact ⟨⟨lo, (lo + hi) / 2, rfl, congrArg (Value.int .i64) (by omega), by omega, by omega, HLO, Lib.hid (fun t u ht hu => Int.not_lt.1 fun h => by have := HM.out ((lo + hi) / 2) t y u ht HY.out hu h; rw [HZ.out] at this; omega), HW2⟩, HT2⟩
    case measure => simp [numI]; omega
  ·obtain rfl : hi = lo := by omega
   have HK : Hid (l.countP (fun y => decide (cf y < 0)) = hi) := Lib.hid (count_at _ l hi (by rw [HLEN.out]; exact hin) (fun t y ht hy => decide_eq_true (HLO.out t y ht hy)) (fun t y ht hy => decide_eq_false (by have := HHI.out t y ht hy; omega)))
   by_cases hn2 : hi < n
   ·obtain ⟨b, off, y, rfl, hy, hr⟩ := EL.at (HL.out.below HW.out.below) (i := hi) hn2
    have HS : Hid (BsS w wr x b (off + hi * 7) y) := Lib.hid ⟨HT.out, hr, HW.out⟩
    have hc := fun w => HC2.out y w
    have HF : Hid (foundB l cf = decide (cf y = 0)) := Lib.hid (by unfold foundB; rw [HK.out, hy])
    generalize cf y = z at hc HF
    clear hy hr
    by_cases hz : z = 0
    ·have hz2 : (z == 0) = true := by simp [hz]
     have HE : Hid (foundB l cf = true) := Lib.hid (by rw [HF.out]; simp [hz])
     clear hz
     have hd : decide ((hi : Int) < (n : Int)) = true := by simp; omega
     go_wp2_with fail
     refine wp_region_held_drew (S := fun w' => BsS w w' x b (off + hi * 7) y) (by kernel_rfl) (HS.out.grew (Grew.refl _).drew) (fun hS => ?_)
     refine held_tk 0 35 (.int .i64 (hi : Int)) rfl rfl (by kernel_rfl) (fun _ _ _ h=>h) (fun _ _=>rfl) hS ?_;simp only [Act.put,ap1,ap2,ap3]
     refine held_tk 1 36 (.int .i64 (hi : Int)) rfl rfl (by kernel_rfl) (fun _ _ _ h=>h) (fun _ _=>rfl) hS ?_;simp only [Act.put,ap1,ap2,ap3]
     refine held_tk 2 37 (.int .i64 (n : Int)) rfl rfl (by kernel_rfl) (fun _ _ _ h=>h) (fun _ _=>rfl) hS ?_;simp only [Act.put,ap1,ap2,ap3]
     refine held_tk 3 38 (.bool true) rfl rfl (by kernel_rfl) (fun _ _ _ h=>h) (fun _ _=>exec_lssI rfl rfl rfl hd) hS ?_;simp only [Act.put,ap1,ap2,ap3]
     refine held_tk 4 39 (.bool true) rfl rfl (by kernel_rfl) (fun _ _ _ h=>h) (fun _ _=>rfl) hS ?_;simp only [Act.put,ap1,ap2,ap3]
     refine held_tk 5 40 (.func (.func 91) #[] #[]) rfl rfl (by kernel_rfl) (fun _ _ _ h=>h) (fun _ _=>rfl) hS ?_;simp only [Act.put,ap1,ap2,ap3]
     refine held_tk 6 41 (.slice (some ⟨b,off,none⟩) n cap) rfl rfl (by kernel_rfl) (fun _ _ _ h=>h) (fun _ _=>rfl) hS ?_;simp only [Act.put,ap1,ap2,ap3]
     refine held_tk 7 42 (.int .i64 (hi : Int)) rfl rfl (by kernel_rfl) (fun _ _ _ h=>h) (fun _ _=>rfl) hS ?_;simp only [Act.put,ap1,ap2,ap3]
     refine held_tk 8 43 (.pointer (some ⟨b,off + hi * 7,none⟩)) rfl rfl (by kernel_rfl) (fun _ _ _ h=>h) (fun _ _=>exec_idx72 (i:=hi) rfl rfl rfl rfl hn2) hS ?_;simp only [Act.put,ap1,ap2,ap3]
     refine held_tk 9 44 (.agg y.arr) rfl rfl (by kernel_rfl) (fun _ _ _ h=>h) (fun _ h=>exec_ld72 (p:=y) rfl rfl h.el) hS ?_;simp only [Act.put,ap1,ap2,ap3]
     refine held_tk 10 45 (.agg x.arr) rfl rfl (by kernel_rfl) (fun _ _ _ h=>h) (fun _ h=>exec_load72 (p:=x) rfl rfl h.tgt) hS ?_;simp only [Act.put,ap1,ap2,ap3]
     refine held_callP 11 46 91 #[.agg y.arr,.agg x.arr] rfl (by kernel_rfl) rfl (by kernel_rfl) (by kernel_rfl) (hc _) (fun e w5 hP=>?_)
     obtain ⟨rfl, hg⟩ := hP
     refine ⟨_, rfl, hS.grew hg, fun hS => ?_⟩
     clear hg
     simp only [Act.put, ap1, ap2, ap3]
     refine held_tk 12 47 (.bool true) rfl rfl (by kernel_rfl) (fun _ _ _ h=>h) (fun _ _=>exec_eqlI trivial rfl rfl rfl hz2) hS ?_;simp only [Act.put,ap1,ap2,ap3]
     refine held_tk 13 48 (.bool true) rfl rfl (by kernel_rfl) (fun _ _ _ h=>h) (fun _ _=>rfl) hS ?_;simp only [Act.put,ap1,ap2,ap3]
     refine held_tk 14 6 (.int .i64 (hi : Int)) rfl rfl (by kernel_rfl) (fun _ _ _ h=>h) (fun _ _=>rfl) hS ?_;simp only [Act.put,ap1,ap2,ap3]
     refine held_tk 15 7 (.bool true) rfl rfl (by kernel_rfl) (fun _ _ _ h=>h) (fun _ _=>rfl) hS ?_;simp only [Act.put,ap1,ap2,ap3]
     refine wpAnyH_done (by kernel_rfl) ?_ _
     have HT2 := Lib.hid hS.tgt
     have HW2 := Lib.hid hS.old
     clear hS
     go_wp2_with fail
     go_ret2
     exact ⟨by rw [HK.out, HE.out]; rfl, HW2.out⟩
    ·have hz2 : (z == 0) = false := by simp [hz]
     have HE : Hid (foundB l cf = false) := Lib.hid (by rw [HF.out]; simp [hz])
     clear hz
     have hd : decide ((hi : Int) < (n : Int)) = true := by simp; omega
     go_wp2_with fail
     refine wp_region_held_drew (S := fun w' => BsS w w' x b (off + hi * 7) y) (by kernel_rfl) (HS.out.grew (Grew.refl _).drew) (fun hS => ?_)
     refine held_tk 0 35 (.int .i64 (hi : Int)) rfl rfl (by kernel_rfl) (fun _ _ _ h=>h) (fun _ _=>rfl) hS ?_;simp only [Act.put,ap1,ap2,ap3]
     refine held_tk 1 36 (.int .i64 (hi : Int)) rfl rfl (by kernel_rfl) (fun _ _ _ h=>h) (fun _ _=>rfl) hS ?_;simp only [Act.put,ap1,ap2,ap3]
     refine held_tk 2 37 (.int .i64 (n : Int)) rfl rfl (by kernel_rfl) (fun _ _ _ h=>h) (fun _ _=>rfl) hS ?_;simp only [Act.put,ap1,ap2,ap3]
     refine held_tk 3 38 (.bool true) rfl rfl (by kernel_rfl) (fun _ _ _ h=>h) (fun _ _=>exec_lssI rfl rfl rfl hd) hS ?_;simp only [Act.put,ap1,ap2,ap3]
     refine held_tk 4 39 (.bool true) rfl rfl (by kernel_rfl) (fun _ _ _ h=>h) (fun _ _=>rfl) hS ?_;simp only [Act.put,ap1,ap2,ap3]
     refine held_tk 5 40 (.func (.func 91) #[] #[]) rfl rfl (by kernel_rfl) (fun _ _ _ h=>h) (fun _ _=>rfl) hS ?_;simp only [Act.put,ap1,ap2,ap3]
     refine held_tk 6 41 (.slice (some ⟨b,off,none⟩) n cap) rfl rfl (by kernel_rfl) (fun _ _ _ h=>h) (fun _ _=>rfl) hS ?_;simp only [Act.put,ap1,ap2,ap3]
     refine held_tk 7 42 (.int .i64 (hi : Int)) rfl rfl (by kernel_rfl) (fun _ _ _ h=>h) (fun _ _=>rfl) hS ?_;simp only [Act.put,ap1,ap2,ap3]
     refine held_tk 8 43 (.pointer (some ⟨b,off + hi * 7,none⟩)) rfl rfl (by kernel_rfl) (fun _ _ _ h=>h) (fun _ _=>exec_idx72 (i:=hi) rfl rfl rfl rfl hn2) hS ?_;simp only [Act.put,ap1,ap2,ap3]
     refine held_tk 9 44 (.agg y.arr) rfl rfl (by kernel_rfl) (fun _ _ _ h=>h) (fun _ h=>exec_ld72 (p:=y) rfl rfl h.el) hS ?_;simp only [Act.put,ap1,ap2,ap3]
     refine held_tk 10 45 (.agg x.arr) rfl rfl (by kernel_rfl) (fun _ _ _ h=>h) (fun _ h=>exec_load72 (p:=x) rfl rfl h.tgt) hS ?_;simp only [Act.put,ap1,ap2,ap3]
     refine held_callP 11 46 91 #[.agg y.arr,.agg x.arr] rfl (by kernel_rfl) rfl (by kernel_rfl) (by kernel_rfl) (hc _) (fun e w5 hP=>?_)
     obtain ⟨rfl, hg⟩ := hP
     refine ⟨_, rfl, hS.grew hg, fun hS => ?_⟩
     clear hg
     simp only [Act.put, ap1, ap2, ap3]
     refine held_tk 12 47 (.bool false) rfl rfl (by kernel_rfl) (fun _ _ _ h=>h) (fun _ _=>exec_eqlI trivial rfl rfl rfl hz2) hS ?_;simp only [Act.put,ap1,ap2,ap3]
     refine held_tk 13 48 (.bool false) rfl rfl (by kernel_rfl) (fun _ _ _ h=>h) (fun _ _=>rfl) hS ?_;simp only [Act.put,ap1,ap2,ap3]
     refine held_tk 14 6 (.int .i64 (hi : Int)) rfl rfl (by kernel_rfl) (fun _ _ _ h=>h) (fun _ _=>rfl) hS ?_;simp only [Act.put,ap1,ap2,ap3]
     refine held_tk 15 7 (.bool false) rfl rfl (by kernel_rfl) (fun _ _ _ h=>h) (fun _ _=>rfl) hS ?_;simp only [Act.put,ap1,ap2,ap3]
     refine wpAnyH_done (by kernel_rfl) ?_ _
     have HT2 := Lib.hid hS.tgt
     have HW2 := Lib.hid hS.old
     clear hS
     go_wp2_with fail
     go_ret2
     exact ⟨by rw [HK.out, HE.out]; rfl, HW2.out⟩
   ·have HE : Hid (foundB l cf = false) := Lib.hid (by unfold foundB; rw [HK.out, List.getElem?_eq_none (by rw [HLEN.out]; omega)])
    have hd : decide ((hi : Int) < (n : Int)) = false := by simp; omega
    go_wp2_with fail
    refine wp_region_held_drew (S := fun w' => Grew w w') (by kernel_rfl) (HW.out.trans (Grew.refl _).drew) (fun hS => ?_)
    refine held_tk 0 35 (.int .i64 (hi : Int)) rfl rfl (by kernel_rfl) (fun _ _ _ h=>h) (fun _ _=>rfl) hS ?_;simp only [Act.put,ap1,ap2,ap3]
    refine held_tk 1 36 (.int .i64 (hi : Int)) rfl rfl (by kernel_rfl) (fun _ _ _ h=>h) (fun _ _=>rfl) hS ?_;simp only [Act.put,ap1,ap2,ap3]
    refine held_tk 2 37 (.int .i64 (n : Int)) rfl rfl (by kernel_rfl) (fun _ _ _ h=>h) (fun _ _=>rfl) hS ?_;simp only [Act.put,ap1,ap2,ap3]
    refine held_tk 3 38 (.bool false) rfl rfl (by kernel_rfl) (fun _ _ _ h=>h) (fun _ _=>exec_lssI rfl rfl rfl hd) hS ?_;simp only [Act.put,ap1,ap2,ap3]
    refine held_tk 4 39 (.bool false) rfl rfl (by kernel_rfl) (fun _ _ _ h=>h) (fun _ _=>rfl) hS ?_;simp only [Act.put,ap1,ap2,ap3]
    refine held_sk 5 40 rfl rfl (by kernel_rfl) (fun _ _ _ h=>h) hS ?_;simp only [Act.put,ap1,ap2,ap3]
    refine held_sk 6 41 rfl rfl (by kernel_rfl) (fun _ _ _ h=>h) hS ?_;simp only [Act.put,ap1,ap2,ap3]
    refine held_sk 7 42 rfl rfl (by kernel_rfl) (fun _ _ _ h=>h) hS ?_;simp only [Act.put,ap1,ap2,ap3]
    refine held_sk 8 43 rfl rfl (by kernel_rfl) (fun _ _ _ h=>h) hS ?_;simp only [Act.put,ap1,ap2,ap3]
    refine held_sk 9 44 rfl rfl (by kernel_rfl) (fun _ _ _ h=>h) hS ?_;simp only [Act.put,ap1,ap2,ap3]
    refine held_sk 10 45 rfl rfl (by kernel_rfl) (fun _ _ _ h=>h) hS ?_;simp only [Act.put,ap1,ap2,ap3]
    refine held_sk 11 46 rfl rfl (by kernel_rfl) (fun _ _ _ h=>h) hS ?_;simp only [Act.put,ap1,ap2,ap3]
    refine held_sk 12 47 rfl rfl (by kernel_rfl) (fun _ _ _ h=>h) hS ?_;simp only [Act.put,ap1,ap2,ap3]
    refine held_tk 13 48 (.bool false) rfl rfl (by kernel_rfl) (fun _ _ _ h=>h) (fun _ _=>rfl) hS ?_;simp only [Act.put,ap1,ap2,ap3]
    refine held_tk 14 6 (.int .i64 (hi : Int)) rfl rfl (by kernel_rfl) (fun _ _ _ h=>h) (fun _ _=>rfl) hS ?_;simp only [Act.put,ap1,ap2,ap3]
    refine held_tk 15 7 (.bool false) rfl rfl (by kernel_rfl) (fun _ _ _ h=>h) (fun _ _=>rfl) hS ?_;simp only [Act.put,ap1,ap2,ap3]
    refine wpAnyH_done (by kernel_rfl) ?_ _
    have HW2 := Lib.hid hS
    clear hS
    go_wp2_with fail
    go_ret2
    exact ⟨by rw [HK.out, HE.out]; rfl, HW2.out⟩
set_option maxRecDepth 100000 in
set_option maxHeartbeats 1000000 in
theorem cloneL_any {a : Option Addr} {n cap : Nat} {l : List La} {w : World} (hl : LL w a n l) (hn : n < 500000) : Calls Tryz.prog 93 #[.slice a n cap] w (OwnsP 96 2 (cellsL l) w) := by
 have HLEN : Hid ((cellsL l).length = n) := Lib.hid hl.len
 have q1 : ∀ (w : World) (a : Option Addr) (n c n' c' : Nat), (binOp .eql 37 (.slice a n c) (.slice none n' c')).run Tryz.prog w = .ok (.bool a.isNone) w := fun w a n c n' c' => Lib.run_eql_slice_nil w _ _ a n c n' c' und37
 cases a with
 | none =>
  have HE : Hid (OwnsP 96 2 (cellsL l) w (.returned (.slice none 0 0)) w) := by
   have h := (GL.nil_of hl).2
   rw [h]
   exact Lib.hid ⟨none, 0, rfl, ownG_nil _ _ _ _, Below.refl _ _⟩
  clear hl
  go_enter Tryz.func93, Tryz.ntmps93
  go_wp2_with fail
  go_ret
  exact HE.out
 | some ad =>
  have HL := Lib.hid hl
  clear hl
  go_enter Tryz.func93, Tryz.ntmps93
  go_wp2_with (at_builtin; refine wpList_appendR (B := w.heap.size) 37 96 2 8 info96 und37 rfl (by decide) (by decide) rfl rfl rfl rfl (vs := []) ⟨World.ownsRow_made w #[] 0 (Nat.le_refl _) (Nat.zero_le _) (by simp), by simp, rfl⟩ (HL.out.below (below_one w _)) (cellsL_each l) (cellsL_one l) (by omega) (by simp) ?_; intro a3 cap3 w3 ho3 hk3 hl3)
  have HE : Hid (OwnsP 96 2 (cellsL l) w (.returned (.slice a3 n cap3)) w3) := Lib.hid (by
   rw [Nat.zero_add] at ho3
   rw [List.nil_append] at ho3
   refine ⟨a3, cap3, by rw [HLEN.out], by rw [HLEN.out]; exact ho3, (below_one w _).trans (hk3.below (by simp) (fun k hk => ?_))⟩
   obtain ⟨ad, e1, e2⟩ := hk
   cases e1
   rw [e2]
   exact Nat.le_refl _)
  clear ho3 hk3 hl3
  go_wp2_with fail
  go_ret
  exact HE.out
set_option maxRecDepth 100000 in
set_option maxHeartbeats 2000000 in
theorem bsL_any {a : Option Addr} {n cap : Nat} {l : List La} {w : World} (hl : LL w a n l) (hn : n < 500000) (c : Nat) (hm : Mono l fun y => cmpN y.c c) :
  Calls Tryz.prog 109 #[.slice a n cap, .int .u16 (c : Int), .func (.func 110) #[] #[]] w (FindP (l.countP fun y => decide (cmpN y.c c < 0)) (foundB l fun y => cmpN y.c c) w) := by
 have HL := Lib.hid hl
 have hlen := hl.len'
 have HLEN := Lib.hid hlen
 have HM := Lib.hid hm
 have HC := Lib.hid (fun (y : La) w => tickCmp_any y c w)
 obtain ⟨cf, hcf⟩ : ∃ cf : La → Int, (fun y => cmpN y.c c) = cf := ⟨_, rfl⟩
 have HCF : Hid (∀ y, cmpN y.c c = cf y) := Lib.hid (fun y => by rw [← hcf])
 have HG : Hid (FindP (l.countP fun y => decide (cmpN y.c c < 0)) (foundB l fun y => cmpN y.c c) w = FindP (l.countP fun y => decide (cf y < 0)) (foundB l cf) w) := Lib.hid (by rw [← hcf])
 rw [HG.out]
 rw [hcf] at HM
 have HC2 : Hid (∀ (y : La) w, Calls Tryz.prog 110 #[.agg y.arr, .int .u16 (c : Int)] w (CmpP (cf y) w)) := Lib.hid (fun y w => by rw [← HCF.out]; exact HC.out y w)
 clear hl hlen hm hcf HG HCF HC
 go_enter Tryz.func109, Tryz.ntmps109
 go_wp2_with fail
 go_loopw [9, 10] (BsR w l n cf) (fun v u _ => (numI u - numI v).toNat)
 case atStart => exact ⟨0, n, rfl, rfl, Nat.zero_le _, Nat.le_refl _, Lib.hid (fun t y h => by omega), Lib.hid (fun t y h1 h2 => by have := (List.getElem?_eq_some_iff.1 h2).1; have := HLEN.out; omega), Lib.hid (Grew.refl w)⟩
 case round =>
  obtain ⟨lo, hi, rfl, rfl, hlh, hin, HLO, HHI, HW⟩ := hrel
  by_cases hlt : lo < hi
  ·obtain ⟨b, off, y, rfl, hy, hr⟩ := LL.at (HL.out.below HW.out.below) (i := (lo + hi) / 2) (by omega)
   have HY := Lib.hid hy
   have HR := Lib.hid hr
   clear hy hr
   have hc := fun w => HC2.out y w
   obtain ⟨z, hz⟩ : ∃ z, cf y = z := ⟨_, rfl⟩
   have HZ := Lib.hid hz
   rw [hz] at hc
   clear hz
   by_cases hneg : z < 0
   ·go_wp2_with (first | (refine wpList_run rfl (exec_idx96 (i := (lo + hi) / 2) rfl rfl rfl (by omega) (by omega)) ?_) | (refine wpList_run rfl (exec_ld96 (p := y) rfl rfl HR.out) ?_) | (refine wpList_enter 110 #[.agg y.arr, .int .u16 (c : Int)] rfl ⟨_, rfl⟩ (by kernel_rfl) (hc _) ?_; intro e w' hP; obtain ⟨rfl, hg⟩ := hP; refine ⟨_, rfl, ?_⟩))
    have HW2 := Lib.hid (HW.out.trans hg)
    clear hg
    go_wp2_with fail
    go_roundw
    case rel => exact ⟨(lo + hi) / 2 + 1, hi, congrArg (Value.int .i64) (by omega), rfl, by omega, hin, Lib.hid (fun t u ht hu => HM.out t ((lo + hi) / 2) u y (by omega) hu HY.out (by rw [HZ.out]; exact hneg)), HHI, HW2⟩
    case measure => simp [numI]; omega
   ·go_wp2_with (first | (refine wpList_run rfl (exec_idx96 (i := (lo + hi) / 2) rfl rfl rfl (by omega) (by omega)) ?_) | (refine wpList_run rfl (exec_ld96 (p := y) rfl rfl HR.out) ?_) | (refine wpList_enter 110 #[.agg y.arr, .int .u16 (c : Int)] rfl ⟨_, rfl⟩ (by kernel_rfl) (hc _) ?_; intro e w' hP; obtain ⟨rfl, hg⟩ := hP; refine ⟨_, rfl, ?_⟩))
    have HW2 := Lib.hid (HW.out.trans hg)
    clear hg
    go_wp2_with fail
    go_roundw
    case rel => exact ⟨lo, (lo + hi) / 2, rfl, congrArg (Value.int .i64) (by omega), by omega, by omega, HLO, Lib.hid (fun t u ht hu => Int.not_lt.1 fun h => by have := HM.out ((lo + hi) / 2) t y u ht HY.out hu h; rw [HZ.out] at this; omega), HW2⟩
    case measure => simp [numI]; omega
  ·obtain rfl : hi = lo := by omega
   have HK : Hid (l.countP (fun y => decide (cf y < 0)) = hi) := Lib.hid (count_at _ l hi (by rw [HLEN.out]; exact hin) (fun t y ht hy => decide_eq_true (HLO.out t y ht hy)) (fun t y ht hy => decide_eq_false (by have := HHI.out t y ht hy; omega)))
   by_cases hn2 : hi < n
   ·obtain ⟨b, off, y, rfl, hy, hr⟩ := LL.at (HL.out.below HW.out.below) (i := hi) hn2
    have HR := Lib.hid hr
    have hc := fun w => HC2.out y w
    have HF : Hid (foundB l cf = decide (cf y = 0)) := Lib.hid (by unfold foundB; rw [HK.out, hy])
    generalize cf y = z at hc HF
    clear hy hr
    by_cases hz : z = 0
    ·have hz2 : (z == 0) = true := by simp [hz]
     have HE : Hid (foundB l cf = true) := Lib.hid (by rw [HF.out]; simp [hz])
     clear hz
     go_wp2_with (first | (refine wpList_runW (exec_idx96 (i := hi) rfl rfl rfl rfl hn2) (by kernel_rfl) ?_) | (refine wpList_runW (exec_ld96 (p := y) rfl rfl HR.out) (by kernel_rfl) ?_) | (refine wpList_enterW 110 #[.agg y.arr, .int .u16 (c : Int)] (by kernel_rfl) ⟨_, rfl⟩ (by kernel_rfl) (hc _) ?_; intro e w' hP; obtain ⟨rfl, hg⟩ := hP; refine ⟨_, rfl, ?_⟩))
     have HW2 := Lib.hid (HW.out.trans hg)
     clear hg
     go_wp2_with fail
     go_ret2
     exact ⟨by rw [HK.out, HE.out]; rfl, HW2.out⟩
    ·have hz2 : (z == 0) = false := by simp [hz]
     have HE : Hid (foundB l cf = false) := Lib.hid (by rw [HF.out]; simp [hz])
     clear hz
     go_wp2_with (first | (refine wpList_runW (exec_idx96 (i := hi) rfl rfl rfl rfl hn2) (by kernel_rfl) ?_) | (refine wpList_runW (exec_ld96 (p := y) rfl rfl HR.out) (by kernel_rfl) ?_) | (refine wpList_enterW 110 #[.agg y.arr, .int .u16 (c : Int)] (by kernel_rfl) ⟨_, rfl⟩ (by kernel_rfl) (hc _) ?_; intro e w' hP; obtain ⟨rfl, hg⟩ := hP; refine ⟨_, rfl, ?_⟩))
     have HW2 := Lib.hid (HW.out.trans hg)
     clear hg
     go_wp2_with fail
     go_ret2
     exact ⟨by rw [HK.out, HE.out]; rfl, HW2.out⟩
   ·have HE : Hid (foundB l cf = false) := Lib.hid (by unfold foundB; rw [HK.out, List.getElem?_eq_none (by rw [HLEN.out]; omega)])
    go_wp2_with fail
    go_ret2
    exact ⟨by rw [HK.out, HE.out]; rfl, HW.out⟩
end Go.Proofs.YtnekpgmgnepdoaaGreat
