import Derived.Test.YtnekpgmgnepdoaaGreatXag
import Derived.Test.YtnekpgmgnepdoaaGreatXah
import Derived.Test.YtnekpgmgnepdoaaGreatXak
namespace Go.Proofs.YtnekpgmgnepdoaaGreat
open Go.RowKit
structure EsR (s : Sta) (l : List En) : Prop where
 has : ∀ e ∈ l, (tkOf s.ts e.c).isSome = true ∧ V.hasB s.v e.r e.s = true ∧ e.okB = true
 ord : l.Pairwise En.Ahead
theorem ahead_get {l : List En} (h : l.Pairwise En.Ahead) {i j : Nat} {x y : En} (hij : i < j) (hx : l[i]? = some x) (hy : l[j]? = some y) : En.Ahead x y := by
 have h1 := (List.getElem?_eq_some_iff.1 hx)
 have h2 := (List.getElem?_eq_some_iff.1 hy)
 have := List.pairwise_iff_getElem.1 h i j h1.1 h2.1 hij
 rw [h1.2, h2.2] at this
 exact this
theorem EsR.next {s : Sta} {l : List En} {k : Nat} {x : En} (h : EsR s (l.take k)) (hx : l[k]? = some x) (h1 : (tkOf s.ts x.c).isSome = true) (h2 : V.hasB s.v x.r x.s = true) (h3 : x.okB = true) (hp : ∀ y, 0 < k → l[k - 1]? = some y → En.Ahead y x) : EsR s (l.take (k + 1)) := by
 refine ⟨fun t ht2 => ?_, ?_⟩
 ·rw [List.take_add_one, hx] at ht2
  rcases List.mem_append.1 ht2 with h5 | h5
  ·exact h.has t h5
  ·obtain rfl : t = x := by simpa using h5
   exact ⟨h1, h2, h3⟩
 ·rw [List.take_add_one, hx, List.pairwise_append]
  refine ⟨h.ord, by simp, fun a ha b hb => ?_⟩
  obtain rfl : b = x := by simpa using hb
  by_cases h0 : 0 < k
  ·have hkl : k - 1 < l.length := by have := (List.getElem?_eq_some_iff.1 hx).1; omega
   have hy := List.getElem?_eq_getElem hkl
   have h1 := hp _ h0 hy
   obtain ⟨i, hi, rfl⟩ := List.getElem_of_mem ha
   simp only [List.length_take] at hi
   by_cases e : i = k - 1
   ·subst e
    simpa using h1
   ·have h2 := List.pairwise_iff_getElem.1 h.ord i (k - 1) (by simp; omega) (by simp; omega) (by omega)
    simp only [List.getElem_take] at h2 ⊢
    exact h2.trans h1
  ·have : k = 0 := by omega
   subst this
   simp at ha
theorem right_parts (s : Sta) : s.Right ↔ V.rightB s.v 16 = true ∧ TsR s.ts ∧ EsR s s.es ∧ OneE s.es := by
 constructor
 ·intro h
  refine ⟨h.vec, h.ts, ⟨fun e he => ?_, h.ord⟩, h.one⟩
  obtain ⟨h1, h2, h3, h4, h5⟩ := h.has e he
  exact ⟨tkOf_some.2 h1, h2, by unfold En.okB; rw [decide_eq_true ⟨h4, h5⟩, h3]; rfl⟩
 ·rintro ⟨h1, h2, h3, h4⟩
  refine ⟨h1, h2, fun e he => ?_, h3.ord, h4⟩
  obtain ⟨k1, k2, k3⟩ := h3.has e he
  unfold En.okB at k3
  rw [Bool.and_eq_true, decide_eq_true_eq] at k3
  exact ⟨tkOf_some.1 k1, k2, k3.2, k3.1.1, k3.1.2⟩
structure ReS (w W : World) (s : Sta) (x : En) (p q g o : Nat) (y : En) (a : Option Addr) (n c : Nat) (b : Option Addr) (m d : Nat) : Prop where
 st : Blk W p 39 (sv s.v a n c b m d)
 en : Blk W q 72 x.arr
 pr : W.rangeAt g o y.cs
 old : Below w.heap.size w W
theorem ReS.below {w W W' : World} {s : Sta} {x y : En} {p q g o n c m d : Nat} {a b : Option Addr} (h : ReS w W s x p q g o y a n c b m d) (hb : Below W.heap.size W W') : ReS w W' s x p q g o y a n c b m d :=
 ⟨h.st.below hb, h.en.below hb, fun j u hu => below_at hb (h.pr j u hu), h.old.trans (hb.mono h.old.size)⟩
theorem ReS.drew {w W : World} {s : Sta} {x y : En} {p q g o n c m d : Nat} {a b : Option Addr} (h : ReS w W s x p q g o y a n c b m d) : ReS w W.drew s x p q g o y a n c b m d := ⟨h.st, h.en, h.pr, h.old.drew⟩
def ReR (w : World) (s : Sta) (p : Nat) (a : Option Addr) (n c : Nat) (b : Option Addr) (m d : Nat) (v : Value) (W : World) : Prop :=
 ∃ k : Nat, v = .int .i64 (k : Int) ∧ k ≤ n ∧ Hid (EsR s (s.es.take k)) ∧ Hid (Blk W p 39 (sv s.v a n c b m d)) ∧ Hid (Below w.heap.size w W)
theorem own_range {w : World} {q t : Nat} {x : En} (h : Blk w q t x.arr) : w.rangeAt q 0 x.cs := fun j u hu => by rw [h.cell, Nat.zero_add]; simpa using hu
set_option maxRecDepth 100000 in
set_option maxHeartbeats 8000000 in
theorem rightEntries_any {s : Sta} {a b : Option Addr} {n c m d : Nat} {w : World} (hl : SL w s a n b m) (hn : n < 100) (hm : m < 500000) (hts : TsR s.ts) : Calls Tryz.prog 52 #[.agg (sv s.v a n c b m d)] w (SaysIff (EsR s s.es ∧ OneE s.es) w) := by
 have HL := Lib.hid hl
 have HLEN := Lib.hid hl.es.len'
 have HUP := Lib.hid hts.up
 obtain ⟨zo, ho⟩ : ∃ z, En.zero = z := ⟨_, rfl⟩
 have HZO := Lib.hid ho
 have hb1 := fun (v : V) x y w => box39 v x y w
 have HP0 := Lib.hid (bo_new w 39 (sv s.v a n c b m d))
 clear hl ho hts
 go_enter Tryz.func52, Tryz.ntmps52
 go_upto_region 1 with fail
 clear hb1
 generalize w.alloc (.cells (sv s.v a n c b m d) 39) = w0 at HP0
 obtain ⟨p, hp⟩ : ∃ p, w.heap.size = p := ⟨_, rfl⟩
 have HPP := Lib.hid hp
 have HS0 := Lib.hid HP0.out.one
 rw [hp] at HS0
 rw [hp]
 clear hp
 have c16 := stc16 HS0.out
 go_wp2_with fail
 clear c16
 go_loopw [10] (ReR w s p a n c b m d) (fun v _ => n - (numI v).toNat)
 case atStart => exact ⟨0, rfl, Nat.zero_le _, Lib.hid ⟨by simp, by simp⟩, HS0, Lib.hid HP0.out.old⟩
 case round =>
  obtain ⟨k, rfl, hk, HE, HST, HB⟩ := hrel
  clear HS0 HP0
  by_cases hlt : k < n
  ·obtain ⟨g, off, x, rfl, hx, hr⟩ := EL.at (HL.out.es.below HB.out) hlt
   have HX := Lib.hid hx
   have HR := Lib.hid hr
   clear hx hr
   go_wp2_with (first | (refine wpList_run rfl (exec_idx72 (i := k) rfl rfl rfl rfl hlt) ?_) | (refine wpList_run rfl (exec_ld72 (p := x) rfl rfl HR.out) ?_) | (refine wpList_run rfl (exec_alloc72z HZO.out rfl) ?_) | (refine wpList_stop72 rfl ?_))
   refine ⟨?_⟩
   refine wpList_void rfl rfl (exec_store72 (p := zo) (u := x) rfl rfl rfl (Blk.new wr 72 zo.arr)) ?_
   have H1 := Lib.hid (bo_laid wr 72 zo.arr x.arr)
   generalize (wr.alloc (.cells zo.arr 72)).setRow wr.heap.size x.arr = w1 at H1
   have HST1 := Lib.hid (HST.out.below H1.out.old)
   have HB1 : Hid (Below w.heap.size w w1) := Lib.hid (HB.out.trans (H1.out.old.mono HB.out.size))
   have HQ := Lib.hid H1.out.one
   generalize wr.heap.size = q at HQ H1
   clear H1
   have c17 := stc17 HST1.out
   have e0 := ent0 HQ.out
   go_wp2_with fail
   clear c17 e0
   refine (tickIndex_any (HL.out.ts.below HB1.out) hm HUP.out x.c).mono ?_
   rintro e w2 ⟨rfl, hg⟩
   have HS2 : Hid (ReS w w2 s x p q q 0 x (some ⟨g, off, none⟩) n c b m d) := Lib.hid ⟨HST1.out.grew hg, HQ.out.grew hg, own_range (HQ.out.grew hg), HB1.out.trans (hg.below.mono HB1.out.size)⟩
   clear hg HST1 HQ HB1 HST HB HR
   generalize tkIx s.ts x.c = ti
   have HH := Lib.hid (fun w => has_any s.v x.r x.s w x.hr x.hs)
   have HK := Lib.hid (fun w => rightEntry_any x w)
   cases ht : (tkOf s.ts x.c).isSome
   ·have HN : Hid (¬ (EsR s s.es ∧ OneE s.es)) := Lib.hid (fun h => by have := (h.1.has x (List.mem_of_getElem? HX.out)).1; rw [ht] at this; cases this)
    clear ht
    go_wp2_with fail
    refine wp_region_held_drew (S := fun w' => ReS w w' s x p q q 0 x (some ⟨g, off, none⟩) n c b m d) (by kernel_rfl) HS2.out.drew (fun hS => ?_)
    refine held_tk 0 23 (.bool false) rfl rfl (by kernel_rfl) (fun _ _ _ h=>h) (fun _ _=>rfl) hS ?_;simp only [Act.put,ap1,ap2,ap3]
    refine held_tk 1 24 (.bool true) rfl rfl (by kernel_rfl) (fun _ _ _ h=>h) (fun _ _=>rfl) hS ?_;simp only [Act.put,ap1,ap2,ap3]
    refine held_tk 2 25 (.bool true) rfl rfl (by kernel_rfl) (fun _ _ _ h=>h) (fun _ _=>rfl) hS ?_;simp only [Act.put,ap1,ap2,ap3]
    refine held_sk 3 26 rfl rfl (by kernel_rfl) (fun _ _ _ h=>h) hS ?_;simp only [Act.put,ap1,ap2,ap3]
    refine held_sk 4 27 rfl rfl (by kernel_rfl) (fun _ _ _ h=>h) hS ?_;simp only [Act.put,ap1,ap2,ap3]
    refine held_sk 5 28 rfl rfl (by kernel_rfl) (fun _ _ _ h=>h) hS ?_;simp only [Act.put,ap1,ap2,ap3]
    refine held_sk 6 29 rfl rfl (by kernel_rfl) (fun _ _ _ h=>h) hS ?_;simp only [Act.put,ap1,ap2,ap3]
    refine held_sk 7 30 rfl rfl (by kernel_rfl) (fun _ _ _ h=>h) hS ?_;simp only [Act.put,ap1,ap2,ap3]
    refine held_sk 8 31 rfl rfl (by kernel_rfl) (fun _ _ _ h=>h) hS ?_;simp only [Act.put,ap1,ap2,ap3]
    refine held_tk 9 32 (.bool true) rfl rfl (by kernel_rfl) (fun _ _ _ h=>h) (fun _ _=>rfl) hS ?_;simp only [Act.put,ap1,ap2,ap3]
    refine held_tk 10 33 (.bool true) rfl rfl (by kernel_rfl) (fun _ _ _ h=>h) (fun _ _=>rfl) hS ?_;simp only [Act.put,ap1,ap2,ap3]
    refine held_sk 11 34 rfl rfl (by kernel_rfl) (fun _ _ _ h=>h) hS ?_;simp only [Act.put,ap1,ap2,ap3]
    refine held_sk 12 35 rfl rfl (by kernel_rfl) (fun _ _ _ h=>h) hS ?_;simp only [Act.put,ap1,ap2,ap3]
    refine held_sk 13 36 rfl rfl (by kernel_rfl) (fun _ _ _ h=>h) hS ?_;simp only [Act.put,ap1,ap2,ap3]
    refine held_tk 14 37 (.bool true) rfl rfl (by kernel_rfl) (fun _ _ _ h=>h) (fun _ _=>rfl) hS ?_;simp only [Act.put,ap1,ap2,ap3]
    refine held_tk 15 38 (.bool true) rfl rfl (by kernel_rfl) (fun _ _ _ h=>h) (fun _ _=>rfl) hS ?_;simp only [Act.put,ap1,ap2,ap3]
    refine held_sk 16 39 rfl rfl (by kernel_rfl) (fun _ _ _ h=>h) hS ?_;simp only [Act.put,ap1,ap2,ap3]
    refine held_sk 17 40 rfl rfl (by kernel_rfl) (fun _ _ _ h=>h) hS ?_;simp only [Act.put,ap1,ap2,ap3]
    refine held_sk 18 41 rfl rfl (by kernel_rfl) (fun _ _ _ h=>h) hS ?_;simp only [Act.put,ap1,ap2,ap3]
    refine held_sk 19 42 rfl rfl (by kernel_rfl) (fun _ _ _ h=>h) hS ?_;simp only [Act.put,ap1,ap2,ap3]
    refine held_sk 20 43 rfl rfl (by kernel_rfl) (fun _ _ _ h=>h) hS ?_;simp only [Act.put,ap1,ap2,ap3]
    refine held_sk 21 44 rfl rfl (by kernel_rfl) (fun _ _ _ h=>h) hS ?_;simp only [Act.put,ap1,ap2,ap3]
    refine held_sk 22 45 rfl rfl (by kernel_rfl) (fun _ _ _ h=>h) hS ?_;simp only [Act.put,ap1,ap2,ap3]
    refine held_sk 23 46 rfl rfl (by kernel_rfl) (fun _ _ _ h=>h) hS ?_;simp only [Act.put,ap1,ap2,ap3]
    refine held_sk 24 47 rfl rfl (by kernel_rfl) (fun _ _ _ h=>h) hS ?_;simp only [Act.put,ap1,ap2,ap3]
    refine held_sk 25 48 rfl rfl (by kernel_rfl) (fun _ _ _ h=>h) hS ?_;simp only [Act.put,ap1,ap2,ap3]
    refine held_sk 26 49 rfl rfl (by kernel_rfl) (fun _ _ _ h=>h) hS ?_;simp only [Act.put,ap1,ap2,ap3]
    refine held_sk 27 50 rfl rfl (by kernel_rfl) (fun _ _ _ h=>h) hS ?_;simp only [Act.put,ap1,ap2,ap3]
    refine held_sk 28 51 rfl rfl (by kernel_rfl) (fun _ _ _ h=>h) hS ?_;simp only [Act.put,ap1,ap2,ap3]
    refine held_tk 29 52 (.bool true) rfl rfl (by kernel_rfl) (fun _ _ _ h=>h) (fun _ _=>rfl) hS ?_;simp only [Act.put,ap1,ap2,ap3]
    refine wpAnyH_done (by kernel_rfl) ?_ _
    have HS2 := Lib.hid hS
    clear hS
    go_wp2_with fail
    go_ret
    exact ⟨false, rfl, by simp [HN.out], HS2.out.old⟩
   ·cases hh : V.hasB s.v x.r x.s
    ·have HN : Hid (¬ (EsR s s.es ∧ OneE s.es)) := Lib.hid (fun h => by have := (h.1.has x (List.mem_of_getElem? HX.out)).2.1; rw [hh] at this; cases this)
     rw [hh] at HH
     clear ht hh
     go_wp2_with fail
     refine wp_region_held_drew (S := fun w' => ReS w w' s x p q q 0 x (some ⟨g, off, none⟩) n c b m d) (by kernel_rfl) HS2.out.drew (fun hS => ?_)
     refine held_tk 0 23 (.bool true) rfl rfl (by kernel_rfl) (fun _ _ _ h=>h) (fun _ _=>rfl) hS ?_;simp only [Act.put,ap1,ap2,ap3]
     refine held_tk 1 24 (.bool false) rfl rfl (by kernel_rfl) (fun _ _ _ h=>h) (fun _ _=>rfl) hS ?_;simp only [Act.put,ap1,ap2,ap3]
     refine held_tk 2 25 (.bool false) rfl rfl (by kernel_rfl) (fun _ _ _ h=>h) (fun _ _=>rfl) hS ?_;simp only [Act.put,ap1,ap2,ap3]
     refine held_tk 3 26 (.pointer (some ⟨p,0,none⟩)) rfl rfl (by kernel_rfl) (fun _ _ _ h=>h) (fun _ _=>(by kernel_rfl)) hS ?_;simp only [Act.put,ap1,ap2,ap3]
     refine held_tk 4 27 (.agg s.v.arr) rfl rfl (by kernel_rfl) (fun _ _ _ h=>h) (fun _ h=>exec_stV (v:=s.v) rfl rfl h.st) hS ?_;simp only [Act.put,ap1,ap2,ap3]
     refine held_tk 5 28 (.pointer (some ⟨q,4,none⟩)) rfl rfl (by kernel_rfl) (fun _ _ _ h=>h) (fun _ _=>(by kernel_rfl)) hS ?_;simp only [Act.put,ap1,ap2,ap3]
     refine held_tk 6 29 (dotV x.r x.s) rfl rfl (by kernel_rfl) (fun _ _ _ h=>h) (fun _ h=>exec_edot (e:=x) rfl rfl h.en) hS ?_;simp only [Act.put,ap1,ap2,ap3]
     refine held_call 7 30 81 #[(.agg s.v.arr),(dotV x.r x.s)] (.bool false) rfl (by kernel_rfl) rfl (by kernel_rfl) (by kernel_rfl) (HH.out _) (fun _ h hb=>h.below hb) hS (fun w107 hS=>?_)
     simp only [Act.put, ap1, ap2, ap3]
     refine held_tk 8 31 (.bool true) rfl rfl (by kernel_rfl) (fun _ _ _ h=>h) (fun _ _=>rfl) hS ?_;simp only [Act.put,ap1,ap2,ap3]
     refine held_tk 9 32 (.bool true) rfl rfl (by kernel_rfl) (fun _ _ _ h=>h) (fun _ _=>rfl) hS ?_;simp only [Act.put,ap1,ap2,ap3]
     refine held_tk 10 33 (.bool true) rfl rfl (by kernel_rfl) (fun _ _ _ h=>h) (fun _ _=>rfl) hS ?_;simp only [Act.put,ap1,ap2,ap3]
     refine held_sk 11 34 rfl rfl (by kernel_rfl) (fun _ _ _ h=>h) hS ?_;simp only [Act.put,ap1,ap2,ap3]
     refine held_sk 12 35 rfl rfl (by kernel_rfl) (fun _ _ _ h=>h) hS ?_;simp only [Act.put,ap1,ap2,ap3]
     refine held_sk 13 36 rfl rfl (by kernel_rfl) (fun _ _ _ h=>h) hS ?_;simp only [Act.put,ap1,ap2,ap3]
     refine held_tk 14 37 (.bool true) rfl rfl (by kernel_rfl) (fun _ _ _ h=>h) (fun _ _=>rfl) hS ?_;simp only [Act.put,ap1,ap2,ap3]
     refine held_tk 15 38 (.bool true) rfl rfl (by kernel_rfl) (fun _ _ _ h=>h) (fun _ _=>rfl) hS ?_;simp only [Act.put,ap1,ap2,ap3]
     refine held_sk 16 39 rfl rfl (by kernel_rfl) (fun _ _ _ h=>h) hS ?_;simp only [Act.put,ap1,ap2,ap3]
     refine held_sk 17 40 rfl rfl (by kernel_rfl) (fun _ _ _ h=>h) hS ?_;simp only [Act.put,ap1,ap2,ap3]
     refine held_sk 18 41 rfl rfl (by kernel_rfl) (fun _ _ _ h=>h) hS ?_;simp only [Act.put,ap1,ap2,ap3]
     refine held_sk 19 42 rfl rfl (by kernel_rfl) (fun _ _ _ h=>h) hS ?_;simp only [Act.put,ap1,ap2,ap3]
     refine held_sk 20 43 rfl rfl (by kernel_rfl) (fun _ _ _ h=>h) hS ?_;simp only [Act.put,ap1,ap2,ap3]
     refine held_sk 21 44 rfl rfl (by kernel_rfl) (fun _ _ _ h=>h) hS ?_;simp only [Act.put,ap1,ap2,ap3]
     refine held_sk 22 45 rfl rfl (by kernel_rfl) (fun _ _ _ h=>h) hS ?_;simp only [Act.put,ap1,ap2,ap3]
     refine held_sk 23 46 rfl rfl (by kernel_rfl) (fun _ _ _ h=>h) hS ?_;simp only [Act.put,ap1,ap2,ap3]
     refine held_sk 24 47 rfl rfl (by kernel_rfl) (fun _ _ _ h=>h) hS ?_;simp only [Act.put,ap1,ap2,ap3]
     refine held_sk 25 48 rfl rfl (by kernel_rfl) (fun _ _ _ h=>h) hS ?_;simp only [Act.put,ap1,ap2,ap3]
     refine held_sk 26 49 rfl rfl (by kernel_rfl) (fun _ _ _ h=>h) hS ?_;simp only [Act.put,ap1,ap2,ap3]
     refine held_sk 27 50 rfl rfl (by kernel_rfl) (fun _ _ _ h=>h) hS ?_;simp only [Act.put,ap1,ap2,ap3]
     refine held_sk 28 51 rfl rfl (by kernel_rfl) (fun _ _ _ h=>h) hS ?_;simp only [Act.put,ap1,ap2,ap3]
     refine held_tk 29 52 (.bool true) rfl rfl (by kernel_rfl) (fun _ _ _ h=>h) (fun _ _=>rfl) hS ?_;simp only [Act.put,ap1,ap2,ap3]
     refine wpAnyH_done (by kernel_rfl) ?_ _
     have HS2 := Lib.hid hS
     clear hS
     go_wp2_with fail
     go_ret
     exact ⟨false, rfl, by simp [HN.out], HS2.out.old⟩
    ·rw [hh] at HH
     cases hok : x.okB
     ·have HN : Hid (¬ (EsR s s.es ∧ OneE s.es)) := Lib.hid (fun h => by have := (h.1.has x (List.mem_of_getElem? HX.out)).2.2; rw [hok] at this; cases this)
      rw [hok] at HK
      clear ht hh hok
      go_wp2_with fail
      refine wp_region_held_drew (S := fun w' => ReS w w' s x p q q 0 x (some ⟨g, off, none⟩) n c b m d) (by kernel_rfl) HS2.out.drew (fun hS => ?_)
      refine held_tk 0 23 (.bool true) rfl rfl (by kernel_rfl) (fun _ _ _ h=>h) (fun _ _=>rfl) hS ?_;simp only [Act.put,ap1,ap2,ap3]
      refine held_tk 1 24 (.bool false) rfl rfl (by kernel_rfl) (fun _ _ _ h=>h) (fun _ _=>rfl) hS ?_;simp only [Act.put,ap1,ap2,ap3]
      refine held_tk 2 25 (.bool false) rfl rfl (by kernel_rfl) (fun _ _ _ h=>h) (fun _ _=>rfl) hS ?_;simp only [Act.put,ap1,ap2,ap3]
      refine held_tk 3 26 (.pointer (some ⟨p,0,none⟩)) rfl rfl (by kernel_rfl) (fun _ _ _ h=>h) (fun _ _=>(by kernel_rfl)) hS ?_;simp only [Act.put,ap1,ap2,ap3]
      refine held_tk 4 27 (.agg s.v.arr) rfl rfl (by kernel_rfl) (fun _ _ _ h=>h) (fun _ h=>exec_stV (v:=s.v) rfl rfl h.st) hS ?_;simp only [Act.put,ap1,ap2,ap3]
      refine held_tk 5 28 (.pointer (some ⟨q,4,none⟩)) rfl rfl (by kernel_rfl) (fun _ _ _ h=>h) (fun _ _=>(by kernel_rfl)) hS ?_;simp only [Act.put,ap1,ap2,ap3]
      refine held_tk 6 29 (dotV x.r x.s) rfl rfl (by kernel_rfl) (fun _ _ _ h=>h) (fun _ h=>exec_edot (e:=x) rfl rfl h.en) hS ?_;simp only [Act.put,ap1,ap2,ap3]
      refine held_call 7 30 81 #[(.agg s.v.arr),(dotV x.r x.s)] (.bool true) rfl (by kernel_rfl) rfl (by kernel_rfl) (by kernel_rfl) (HH.out _) (fun _ h hb=>h.below hb) hS (fun w107 hS=>?_)
      simp only [Act.put, ap1, ap2, ap3]
      refine held_tk 8 31 (.bool false) rfl rfl (by kernel_rfl) (fun _ _ _ h=>h) (fun _ _=>rfl) hS ?_;simp only [Act.put,ap1,ap2,ap3]
      refine held_tk 9 32 (.bool false) rfl rfl (by kernel_rfl) (fun _ _ _ h=>h) (fun _ _=>rfl) hS ?_;simp only [Act.put,ap1,ap2,ap3]
      refine held_tk 10 33 (.bool false) rfl rfl (by kernel_rfl) (fun _ _ _ h=>h) (fun _ _=>rfl) hS ?_;simp only [Act.put,ap1,ap2,ap3]
      refine held_tk 11 34 (.agg x.arr) rfl rfl (by kernel_rfl) (fun _ _ _ h=>h) (fun _ h=>exec_load72 (p:=x) rfl rfl h.en) hS ?_;simp only [Act.put,ap1,ap2,ap3]
      refine held_call 12 35 96 #[(.agg x.arr)] (.bool false) rfl (by kernel_rfl) rfl (by kernel_rfl) (by kernel_rfl) (HK.out _) (fun _ h hb=>h.below hb) hS (fun w112 hS=>?_)
      simp only [Act.put, ap1, ap2, ap3]
      refine held_tk 13 36 (.bool true) rfl rfl (by kernel_rfl) (fun _ _ _ h=>h) (fun _ _=>rfl) hS ?_;simp only [Act.put,ap1,ap2,ap3]
      refine held_tk 14 37 (.bool true) rfl rfl (by kernel_rfl) (fun _ _ _ h=>h) (fun _ _=>rfl) hS ?_;simp only [Act.put,ap1,ap2,ap3]
      refine held_tk 15 38 (.bool true) rfl rfl (by kernel_rfl) (fun _ _ _ h=>h) (fun _ _=>rfl) hS ?_;simp only [Act.put,ap1,ap2,ap3]
      refine held_sk 16 39 rfl rfl (by kernel_rfl) (fun _ _ _ h=>h) hS ?_;simp only [Act.put,ap1,ap2,ap3]
      refine held_sk 17 40 rfl rfl (by kernel_rfl) (fun _ _ _ h=>h) hS ?_;simp only [Act.put,ap1,ap2,ap3]
      refine held_sk 18 41 rfl rfl (by kernel_rfl) (fun _ _ _ h=>h) hS ?_;simp only [Act.put,ap1,ap2,ap3]
      refine held_sk 19 42 rfl rfl (by kernel_rfl) (fun _ _ _ h=>h) hS ?_;simp only [Act.put,ap1,ap2,ap3]
      refine held_sk 20 43 rfl rfl (by kernel_rfl) (fun _ _ _ h=>h) hS ?_;simp only [Act.put,ap1,ap2,ap3]
      refine held_sk 21 44 rfl rfl (by kernel_rfl) (fun _ _ _ h=>h) hS ?_;simp only [Act.put,ap1,ap2,ap3]
      refine held_sk 22 45 rfl rfl (by kernel_rfl) (fun _ _ _ h=>h) hS ?_;simp only [Act.put,ap1,ap2,ap3]
      refine held_sk 23 46 rfl rfl (by kernel_rfl) (fun _ _ _ h=>h) hS ?_;simp only [Act.put,ap1,ap2,ap3]
      refine held_sk 24 47 rfl rfl (by kernel_rfl) (fun _ _ _ h=>h) hS ?_;simp only [Act.put,ap1,ap2,ap3]
      refine held_sk 25 48 rfl rfl (by kernel_rfl) (fun _ _ _ h=>h) hS ?_;simp only [Act.put,ap1,ap2,ap3]
      refine held_sk 26 49 rfl rfl (by kernel_rfl) (fun _ _ _ h=>h) hS ?_;simp only [Act.put,ap1,ap2,ap3]
      refine held_sk 27 50 rfl rfl (by kernel_rfl) (fun _ _ _ h=>h) hS ?_;simp only [Act.put,ap1,ap2,ap3]
      refine held_sk 28 51 rfl rfl (by kernel_rfl) (fun _ _ _ h=>h) hS ?_;simp only [Act.put,ap1,ap2,ap3]
      refine held_tk 29 52 (.bool true) rfl rfl (by kernel_rfl) (fun _ _ _ h=>h) (fun _ _=>rfl) hS ?_;simp only [Act.put,ap1,ap2,ap3]
      refine wpAnyH_done (by kernel_rfl) ?_ _
      have HS2 := Lib.hid hS
      clear hS
      go_wp2_with fail
      go_ret
      exact ⟨false, rfl, by simp [HN.out], HS2.out.old⟩
     ·rw [hok] at HK
      by_cases h0 : 0 < k
      ·have hk0 : decide ((0 : Int) < (k : Int)) = true := by simp; omega
       obtain ⟨g2, off2, y, e2, hy, hr2⟩ := EL.at (HL.out.es.below HS2.out.old) (i := k - 1) (by omega)
       simp only [Option.some.injEq, Addr.mk.injEq, and_true] at e2
       obtain ⟨rfl, rfl⟩ := e2
       have HY := Lib.hid hy
       have HS3 : Hid (ReS w w2 s x p q g (off + (k - 1) * 7) y (some ⟨g, off, none⟩) n c b m d) := Lib.hid ⟨HS2.out.st, HS2.out.en, hr2, HS2.out.old⟩
       have HO : Hid (∀ w, Calls Tryz.prog 91 #[.agg y.arr, .agg x.arr] w (Says (.int .i64 (En.ord y x)) w)) := Lib.hid (fun w => (order_any y x w).mono fun _ _ h => ⟨h.1, h.2.below⟩)
       clear hy hr2
       by_cases hah : En.Ahead y x
       ·have HNX : Hid (EsR s (s.es.take (k + 1))) := Lib.hid (HE.out.next HX.out ht hh hok (fun z _ hz => by rw [HY.out] at hz; cases hz; exact hah))
        have hz := (En.ord_neg y x).2 hah
        generalize En.ord y x = z at HO hz
        have ho : decide ((0 : Int) ≤ z) = false := by simp; omega
        clear ht hh hok hah hz
        go_wp2_with fail
        refine wp_region_held_drew (S := fun w' => ReS w w' s x p q g (off + (k - 1) * 7) y (some ⟨g, off, none⟩) n c b m d) (by kernel_rfl) HS3.out.drew (fun hS => ?_)
        refine held_tk 0 23 (.bool true) rfl rfl (by kernel_rfl) (fun _ _ _ h=>h) (fun _ _=>rfl) hS ?_;simp only [Act.put,ap1,ap2,ap3]
        refine held_tk 1 24 (.bool false) rfl rfl (by kernel_rfl) (fun _ _ _ h=>h) (fun _ _=>rfl) hS ?_;simp only [Act.put,ap1,ap2,ap3]
        refine held_tk 2 25 (.bool false) rfl rfl (by kernel_rfl) (fun _ _ _ h=>h) (fun _ _=>rfl) hS ?_;simp only [Act.put,ap1,ap2,ap3]
        refine held_tk 3 26 (.pointer (some ⟨p,0,none⟩)) rfl rfl (by kernel_rfl) (fun _ _ _ h=>h) (fun _ _=>(by kernel_rfl)) hS ?_;simp only [Act.put,ap1,ap2,ap3]
        refine held_tk 4 27 (.agg s.v.arr) rfl rfl (by kernel_rfl) (fun _ _ _ h=>h) (fun _ h=>exec_stV (v:=s.v) rfl rfl h.st) hS ?_;simp only [Act.put,ap1,ap2,ap3]
        refine held_tk 5 28 (.pointer (some ⟨q,4,none⟩)) rfl rfl (by kernel_rfl) (fun _ _ _ h=>h) (fun _ _=>(by kernel_rfl)) hS ?_;simp only [Act.put,ap1,ap2,ap3]
        refine held_tk 6 29 (dotV x.r x.s) rfl rfl (by kernel_rfl) (fun _ _ _ h=>h) (fun _ h=>exec_edot (e:=x) rfl rfl h.en) hS ?_;simp only [Act.put,ap1,ap2,ap3]
        refine held_call 7 30 81 #[(.agg s.v.arr),(dotV x.r x.s)] (.bool true) rfl (by kernel_rfl) rfl (by kernel_rfl) (by kernel_rfl) (HH.out _) (fun _ h hb=>h.below hb) hS (fun w107 hS=>?_)
        simp only [Act.put, ap1, ap2, ap3]
        refine held_tk 8 31 (.bool false) rfl rfl (by kernel_rfl) (fun _ _ _ h=>h) (fun _ _=>rfl) hS ?_;simp only [Act.put,ap1,ap2,ap3]
        refine held_tk 9 32 (.bool false) rfl rfl (by kernel_rfl) (fun _ _ _ h=>h) (fun _ _=>rfl) hS ?_;simp only [Act.put,ap1,ap2,ap3]
        refine held_tk 10 33 (.bool false) rfl rfl (by kernel_rfl) (fun _ _ _ h=>h) (fun _ _=>rfl) hS ?_;simp only [Act.put,ap1,ap2,ap3]
        refine held_tk 11 34 (.agg x.arr) rfl rfl (by kernel_rfl) (fun _ _ _ h=>h) (fun _ h=>exec_load72 (p:=x) rfl rfl h.en) hS ?_;simp only [Act.put,ap1,ap2,ap3]
        refine held_call 12 35 96 #[(.agg x.arr)] (.bool true) rfl (by kernel_rfl) rfl (by kernel_rfl) (by kernel_rfl) (HK.out _) (fun _ h hb=>h.below hb) hS (fun w112 hS=>?_)
        simp only [Act.put, ap1, ap2, ap3]
        refine held_tk 13 36 (.bool false) rfl rfl (by kernel_rfl) (fun _ _ _ h=>h) (fun _ _=>rfl) hS ?_;simp only [Act.put,ap1,ap2,ap3]
        refine held_tk 14 37 (.bool false) rfl rfl (by kernel_rfl) (fun _ _ _ h=>h) (fun _ _=>rfl) hS ?_;simp only [Act.put,ap1,ap2,ap3]
        refine held_tk 15 38 (.bool false) rfl rfl (by kernel_rfl) (fun _ _ _ h=>h) (fun _ _=>rfl) hS ?_;simp only [Act.put,ap1,ap2,ap3]
        refine held_tk 16 39 (.int .i64 (k : Int)) rfl rfl (by kernel_rfl) (fun _ _ _ h=>h) (fun _ _=>rfl) hS ?_;simp only [Act.put,ap1,ap2,ap3]
        refine held_tk 17 40 (.bool true) rfl rfl (by kernel_rfl) (fun _ _ _ h=>h) (fun _ _=>exec_gtrI rfl rfl rfl hk0) hS ?_;simp only [Act.put,ap1,ap2,ap3]
        refine held_tk 18 41 (.bool true) rfl rfl (by kernel_rfl) (fun _ _ _ h=>h) (fun _ _=>rfl) hS ?_;simp only [Act.put,ap1,ap2,ap3]
        refine held_tk 19 42 (.pointer (some ⟨p,16,none⟩)) rfl rfl (by kernel_rfl) (fun _ _ _ h=>h) (fun _ _=>(by kernel_rfl)) hS ?_;simp only [Act.put,ap1,ap2,ap3]
        refine held_tk 20 43 (.slice (some ⟨g,off,none⟩) n c) rfl rfl (by kernel_rfl) (fun _ _ _ h=>h) (fun _ h=>exec_cell rfl rfl (load_cell (by kernel_rfl) (stc16 h.st))) hS ?_;simp only [Act.put,ap1,ap2,ap3]
        refine held_tk 21 44 (.int .i64 (k : Int)) rfl rfl (by kernel_rfl) (fun _ _ _ h=>h) (fun _ _=>rfl) hS ?_;simp only [Act.put,ap1,ap2,ap3]
        refine held_tk 22 45 (.int .i64 ((k : Int) - 1)) rfl rfl (by kernel_rfl) (fun _ _ _ h=>h) (fun _ _=>exec_subN rfl rfl rfl rfl (by omega) (by omega)) hS ?_;simp only [Act.put,ap1,ap2,ap3]
        refine held_tk 23 46 (.pointer (some ⟨g,off + (k - 1) * 7,none⟩)) rfl rfl (by kernel_rfl) (fun _ _ _ h=>h) (fun _ _=>exec_idx72 (i:=k - 1) rfl rfl rfl (by omega) (by omega)) hS ?_;simp only [Act.put,ap1,ap2,ap3]
        refine held_tk 24 47 (.agg y.arr) rfl rfl (by kernel_rfl) (fun _ _ _ h=>h) (fun _ h=>exec_ld72 (p:=y) rfl rfl h.pr) hS ?_;simp only [Act.put,ap1,ap2,ap3]
        refine held_tk 25 48 (.agg x.arr) rfl rfl (by kernel_rfl) (fun _ _ _ h=>h) (fun _ h=>exec_load72 (p:=x) rfl rfl h.en) hS ?_;simp only [Act.put,ap1,ap2,ap3]
        refine held_call 26 49 91 #[(.agg y.arr),(.agg x.arr)] (.int .i64 z) rfl (by kernel_rfl) rfl (by kernel_rfl) (by kernel_rfl) (HO.out _) (fun _ h hb=>h.below hb) hS (fun w126 hS=>?_)
        simp only [Act.put, ap1, ap2, ap3]
        refine held_tk 27 50 (.bool false) rfl rfl (by kernel_rfl) (fun _ _ _ h=>h) (fun _ _=>exec_geqI rfl rfl rfl ho) hS ?_;simp only [Act.put,ap1,ap2,ap3]
        refine held_tk 28 51 (.bool false) rfl rfl (by kernel_rfl) (fun _ _ _ h=>h) (fun _ _=>rfl) hS ?_;simp only [Act.put,ap1,ap2,ap3]
        refine held_tk 29 52 (.bool false) rfl rfl (by kernel_rfl) (fun _ _ _ h=>h) (fun _ _=>rfl) hS ?_;simp only [Act.put,ap1,ap2,ap3]
        refine wpAnyH_done (by kernel_rfl) ?_ _
        have HS2 := Lib.hid hS
        clear hS
        go_wp2_with fail
        go_roundw
        case rel => exact ⟨k + 1, by go_num, hlt, HNX, Lib.hid HS2.out.st, Lib.hid HS2.out.old⟩
        case measure => simp [numI]; omega
       ·have HN : Hid (¬ (EsR s s.es ∧ OneE s.es)) := Lib.hid (fun h => hah (ahead_get h.1.ord (by omega) HY.out HX.out))
        have hz : ¬ En.ord y x < 0 := fun h => hah ((En.ord_neg y x).1 h)
        generalize En.ord y x = z at HO hz
        have ho : decide ((0 : Int) ≤ z) = true := by simp; omega
        clear ht hh hok hah hz
        go_wp2_with fail
        refine wp_region_held_drew (S := fun w' => ReS w w' s x p q g (off + (k - 1) * 7) y (some ⟨g, off, none⟩) n c b m d) (by kernel_rfl) HS3.out.drew (fun hS => ?_)
        refine held_tk 0 23 (.bool true) rfl rfl (by kernel_rfl) (fun _ _ _ h=>h) (fun _ _=>rfl) hS ?_;simp only [Act.put,ap1,ap2,ap3]
        refine held_tk 1 24 (.bool false) rfl rfl (by kernel_rfl) (fun _ _ _ h=>h) (fun _ _=>rfl) hS ?_;simp only [Act.put,ap1,ap2,ap3]
        refine held_tk 2 25 (.bool false) rfl rfl (by kernel_rfl) (fun _ _ _ h=>h) (fun _ _=>rfl) hS ?_;simp only [Act.put,ap1,ap2,ap3]
        refine held_tk 3 26 (.pointer (some ⟨p,0,none⟩)) rfl rfl (by kernel_rfl) (fun _ _ _ h=>h) (fun _ _=>(by kernel_rfl)) hS ?_;simp only [Act.put,ap1,ap2,ap3]
        refine held_tk 4 27 (.agg s.v.arr) rfl rfl (by kernel_rfl) (fun _ _ _ h=>h) (fun _ h=>exec_stV (v:=s.v) rfl rfl h.st) hS ?_;simp only [Act.put,ap1,ap2,ap3]
        refine held_tk 5 28 (.pointer (some ⟨q,4,none⟩)) rfl rfl (by kernel_rfl) (fun _ _ _ h=>h) (fun _ _=>(by kernel_rfl)) hS ?_;simp only [Act.put,ap1,ap2,ap3]
        refine held_tk 6 29 (dotV x.r x.s) rfl rfl (by kernel_rfl) (fun _ _ _ h=>h) (fun _ h=>exec_edot (e:=x) rfl rfl h.en) hS ?_;simp only [Act.put,ap1,ap2,ap3]
        refine held_call 7 30 81 #[(.agg s.v.arr),(dotV x.r x.s)] (.bool true) rfl (by kernel_rfl) rfl (by kernel_rfl) (by kernel_rfl) (HH.out _) (fun _ h hb=>h.below hb) hS (fun w107 hS=>?_)
        simp only [Act.put, ap1, ap2, ap3]
        refine held_tk 8 31 (.bool false) rfl rfl (by kernel_rfl) (fun _ _ _ h=>h) (fun _ _=>rfl) hS ?_;simp only [Act.put,ap1,ap2,ap3]
        refine held_tk 9 32 (.bool false) rfl rfl (by kernel_rfl) (fun _ _ _ h=>h) (fun _ _=>rfl) hS ?_;simp only [Act.put,ap1,ap2,ap3]
        refine held_tk 10 33 (.bool false) rfl rfl (by kernel_rfl) (fun _ _ _ h=>h) (fun _ _=>rfl) hS ?_;simp only [Act.put,ap1,ap2,ap3]
        refine held_tk 11 34 (.agg x.arr) rfl rfl (by kernel_rfl) (fun _ _ _ h=>h) (fun _ h=>exec_load72 (p:=x) rfl rfl h.en) hS ?_;simp only [Act.put,ap1,ap2,ap3]
        refine held_call 12 35 96 #[(.agg x.arr)] (.bool true) rfl (by kernel_rfl) rfl (by kernel_rfl) (by kernel_rfl) (HK.out _) (fun _ h hb=>h.below hb) hS (fun w112 hS=>?_)
        simp only [Act.put, ap1, ap2, ap3]
        refine held_tk 13 36 (.bool false) rfl rfl (by kernel_rfl) (fun _ _ _ h=>h) (fun _ _=>rfl) hS ?_;simp only [Act.put,ap1,ap2,ap3]
        refine held_tk 14 37 (.bool false) rfl rfl (by kernel_rfl) (fun _ _ _ h=>h) (fun _ _=>rfl) hS ?_;simp only [Act.put,ap1,ap2,ap3]
        refine held_tk 15 38 (.bool false) rfl rfl (by kernel_rfl) (fun _ _ _ h=>h) (fun _ _=>rfl) hS ?_;simp only [Act.put,ap1,ap2,ap3]
        refine held_tk 16 39 (.int .i64 (k : Int)) rfl rfl (by kernel_rfl) (fun _ _ _ h=>h) (fun _ _=>rfl) hS ?_;simp only [Act.put,ap1,ap2,ap3]
        refine held_tk 17 40 (.bool true) rfl rfl (by kernel_rfl) (fun _ _ _ h=>h) (fun _ _=>exec_gtrI rfl rfl rfl hk0) hS ?_;simp only [Act.put,ap1,ap2,ap3]
        refine held_tk 18 41 (.bool true) rfl rfl (by kernel_rfl) (fun _ _ _ h=>h) (fun _ _=>rfl) hS ?_;simp only [Act.put,ap1,ap2,ap3]
        refine held_tk 19 42 (.pointer (some ⟨p,16,none⟩)) rfl rfl (by kernel_rfl) (fun _ _ _ h=>h) (fun _ _=>(by kernel_rfl)) hS ?_;simp only [Act.put,ap1,ap2,ap3]
        refine held_tk 20 43 (.slice (some ⟨g,off,none⟩) n c) rfl rfl (by kernel_rfl) (fun _ _ _ h=>h) (fun _ h=>exec_cell rfl rfl (load_cell (by kernel_rfl) (stc16 h.st))) hS ?_;simp only [Act.put,ap1,ap2,ap3]
        refine held_tk 21 44 (.int .i64 (k : Int)) rfl rfl (by kernel_rfl) (fun _ _ _ h=>h) (fun _ _=>rfl) hS ?_;simp only [Act.put,ap1,ap2,ap3]
        refine held_tk 22 45 (.int .i64 ((k : Int) - 1)) rfl rfl (by kernel_rfl) (fun _ _ _ h=>h) (fun _ _=>exec_subN rfl rfl rfl rfl (by omega) (by omega)) hS ?_;simp only [Act.put,ap1,ap2,ap3]
        refine held_tk 23 46 (.pointer (some ⟨g,off + (k - 1) * 7,none⟩)) rfl rfl (by kernel_rfl) (fun _ _ _ h=>h) (fun _ _=>exec_idx72 (i:=k - 1) rfl rfl rfl (by omega) (by omega)) hS ?_;simp only [Act.put,ap1,ap2,ap3]
        refine held_tk 24 47 (.agg y.arr) rfl rfl (by kernel_rfl) (fun _ _ _ h=>h) (fun _ h=>exec_ld72 (p:=y) rfl rfl h.pr) hS ?_;simp only [Act.put,ap1,ap2,ap3]
        refine held_tk 25 48 (.agg x.arr) rfl rfl (by kernel_rfl) (fun _ _ _ h=>h) (fun _ h=>exec_load72 (p:=x) rfl rfl h.en) hS ?_;simp only [Act.put,ap1,ap2,ap3]
        refine held_call 26 49 91 #[(.agg y.arr),(.agg x.arr)] (.int .i64 z) rfl (by kernel_rfl) rfl (by kernel_rfl) (by kernel_rfl) (HO.out _) (fun _ h hb=>h.below hb) hS (fun w126 hS=>?_)
        simp only [Act.put, ap1, ap2, ap3]
        refine held_tk 27 50 (.bool true) rfl rfl (by kernel_rfl) (fun _ _ _ h=>h) (fun _ _=>exec_geqI rfl rfl rfl ho) hS ?_;simp only [Act.put,ap1,ap2,ap3]
        refine held_tk 28 51 (.bool true) rfl rfl (by kernel_rfl) (fun _ _ _ h=>h) (fun _ _=>rfl) hS ?_;simp only [Act.put,ap1,ap2,ap3]
        refine held_tk 29 52 (.bool true) rfl rfl (by kernel_rfl) (fun _ _ _ h=>h) (fun _ _=>rfl) hS ?_;simp only [Act.put,ap1,ap2,ap3]
        refine wpAnyH_done (by kernel_rfl) ?_ _
        have HS2 := Lib.hid hS
        clear hS
        go_wp2_with fail
        go_ret
        exact ⟨false, rfl, by simp [HN.out], HS2.out.old⟩
      ·have hk0 : decide ((0 : Int) < (k : Int)) = false := by simp; omega
       have HNX : Hid (EsR s (s.es.take (k + 1))) := Lib.hid (HE.out.next HX.out ht hh hok (fun z h _ => absurd h h0))
       clear ht hh hok
       go_wp2_with fail
       refine wp_region_held_drew (S := fun w' => ReS w w' s x p q q 0 x (some ⟨g, off, none⟩) n c b m d) (by kernel_rfl) HS2.out.drew (fun hS => ?_)
       refine held_tk 0 23 (.bool true) rfl rfl (by kernel_rfl) (fun _ _ _ h=>h) (fun _ _=>rfl) hS ?_;simp only [Act.put,ap1,ap2,ap3]
       refine held_tk 1 24 (.bool false) rfl rfl (by kernel_rfl) (fun _ _ _ h=>h) (fun _ _=>rfl) hS ?_;simp only [Act.put,ap1,ap2,ap3]
       refine held_tk 2 25 (.bool false) rfl rfl (by kernel_rfl) (fun _ _ _ h=>h) (fun _ _=>rfl) hS ?_;simp only [Act.put,ap1,ap2,ap3]
       refine held_tk 3 26 (.pointer (some ⟨p,0,none⟩)) rfl rfl (by kernel_rfl) (fun _ _ _ h=>h) (fun _ _=>(by kernel_rfl)) hS ?_;simp only [Act.put,ap1,ap2,ap3]
       refine held_tk 4 27 (.agg s.v.arr) rfl rfl (by kernel_rfl) (fun _ _ _ h=>h) (fun _ h=>exec_stV (v:=s.v) rfl rfl h.st) hS ?_;simp only [Act.put,ap1,ap2,ap3]
       refine held_tk 5 28 (.pointer (some ⟨q,4,none⟩)) rfl rfl (by kernel_rfl) (fun _ _ _ h=>h) (fun _ _=>(by kernel_rfl)) hS ?_;simp only [Act.put,ap1,ap2,ap3]
       refine held_tk 6 29 (dotV x.r x.s) rfl rfl (by kernel_rfl) (fun _ _ _ h=>h) (fun _ h=>exec_edot (e:=x) rfl rfl h.en) hS ?_;simp only [Act.put,ap1,ap2,ap3]
       refine held_call 7 30 81 #[(.agg s.v.arr),(dotV x.r x.s)] (.bool true) rfl (by kernel_rfl) rfl (by kernel_rfl) (by kernel_rfl) (HH.out _) (fun _ h hb=>h.below hb) hS (fun w107 hS=>?_)
       simp only [Act.put, ap1, ap2, ap3]
       refine held_tk 8 31 (.bool false) rfl rfl (by kernel_rfl) (fun _ _ _ h=>h) (fun _ _=>rfl) hS ?_;simp only [Act.put,ap1,ap2,ap3]
       refine held_tk 9 32 (.bool false) rfl rfl (by kernel_rfl) (fun _ _ _ h=>h) (fun _ _=>rfl) hS ?_;simp only [Act.put,ap1,ap2,ap3]
       refine held_tk 10 33 (.bool false) rfl rfl (by kernel_rfl) (fun _ _ _ h=>h) (fun _ _=>rfl) hS ?_;simp only [Act.put,ap1,ap2,ap3]
       refine held_tk 11 34 (.agg x.arr) rfl rfl (by kernel_rfl) (fun _ _ _ h=>h) (fun _ h=>exec_load72 (p:=x) rfl rfl h.en) hS ?_;simp only [Act.put,ap1,ap2,ap3]
       refine held_call 12 35 96 #[(.agg x.arr)] (.bool true) rfl (by kernel_rfl) rfl (by kernel_rfl) (by kernel_rfl) (HK.out _) (fun _ h hb=>h.below hb) hS (fun w112 hS=>?_)
       simp only [Act.put, ap1, ap2, ap3]
       refine held_tk 13 36 (.bool false) rfl rfl (by kernel_rfl) (fun _ _ _ h=>h) (fun _ _=>rfl) hS ?_;simp only [Act.put,ap1,ap2,ap3]
       refine held_tk 14 37 (.bool false) rfl rfl (by kernel_rfl) (fun _ _ _ h=>h) (fun _ _=>rfl) hS ?_;simp only [Act.put,ap1,ap2,ap3]
       refine held_tk 15 38 (.bool false) rfl rfl (by kernel_rfl) (fun _ _ _ h=>h) (fun _ _=>rfl) hS ?_;simp only [Act.put,ap1,ap2,ap3]
       refine held_tk 16 39 (.int .i64 (k : Int)) rfl rfl (by kernel_rfl) (fun _ _ _ h=>h) (fun _ _=>rfl) hS ?_;simp only [Act.put,ap1,ap2,ap3]
       refine held_tk 17 40 (.bool false) rfl rfl (by kernel_rfl) (fun _ _ _ h=>h) (fun _ _=>exec_gtrI rfl rfl rfl hk0) hS ?_;simp only [Act.put,ap1,ap2,ap3]
       refine held_tk 18 41 (.bool false) rfl rfl (by kernel_rfl) (fun _ _ _ h=>h) (fun _ _=>rfl) hS ?_;simp only [Act.put,ap1,ap2,ap3]
       refine held_sk 19 42 rfl rfl (by kernel_rfl) (fun _ _ _ h=>h) hS ?_;simp only [Act.put,ap1,ap2,ap3]
       refine held_sk 20 43 rfl rfl (by kernel_rfl) (fun _ _ _ h=>h) hS ?_;simp only [Act.put,ap1,ap2,ap3]
       refine held_sk 21 44 rfl rfl (by kernel_rfl) (fun _ _ _ h=>h) hS ?_;simp only [Act.put,ap1,ap2,ap3]
       refine held_sk 22 45 rfl rfl (by kernel_rfl) (fun _ _ _ h=>h) hS ?_;simp only [Act.put,ap1,ap2,ap3]
       refine held_sk 23 46 rfl rfl (by kernel_rfl) (fun _ _ _ h=>h) hS ?_;simp only [Act.put,ap1,ap2,ap3]
       refine held_sk 24 47 rfl rfl (by kernel_rfl) (fun _ _ _ h=>h) hS ?_;simp only [Act.put,ap1,ap2,ap3]
       refine held_sk 25 48 rfl rfl (by kernel_rfl) (fun _ _ _ h=>h) hS ?_;simp only [Act.put,ap1,ap2,ap3]
       refine held_sk 26 49 rfl rfl (by kernel_rfl) (fun _ _ _ h=>h) hS ?_;simp only [Act.put,ap1,ap2,ap3]
       refine held_sk 27 50 rfl rfl (by kernel_rfl) (fun _ _ _ h=>h) hS ?_;simp only [Act.put,ap1,ap2,ap3]
       refine held_tk 28 51 (.bool false) rfl rfl (by kernel_rfl) (fun _ _ _ h=>h) (fun _ _=>rfl) hS ?_;simp only [Act.put,ap1,ap2,ap3]
       refine held_tk 29 52 (.bool false) rfl rfl (by kernel_rfl) (fun _ _ _ h=>h) (fun _ _=>rfl) hS ?_;simp only [Act.put,ap1,ap2,ap3]
       refine wpAnyH_done (by kernel_rfl) ?_ _
       have HS2 := Lib.hid hS
       clear hS
       go_wp2_with fail
       go_roundw
       case rel => exact ⟨k + 1, by go_num, hlt, HNX, Lib.hid HS2.out.st, Lib.hid HS2.out.old⟩
       case measure => simp [numI]; omega
  ·obtain rfl : k = n := by omega
   have HEA : Hid (EsR s s.es) := Lib.hid (by have h := HE.out; rw [List.take_of_length_le (by rw [HLEN.out]; omega)] at h; exact h)
   have c16 := stc16 HST.out
   go_wp2_with fail
   clear c16
   refine (distinct_any (HL.out.es.below HB.out) hn).mono ?_
   rintro e w3 ⟨r, rfl, hr, hb⟩
   have HR : Hid (SaysIff (EsR s s.es ∧ OneE s.es) w (.returned (.bool r)) w3) := Lib.hid ⟨r, rfl, by rw [hr]; exact ⟨fun h => ⟨HEA.out, h⟩, fun h => h.2⟩, HB.out.trans (hb.mono HB.out.size)⟩
   clear hr hb
   go_wp2_with fail
   go_ret
   exact HR.out
set_option maxRecDepth 100000 in
set_option maxHeartbeats 4000000 in
theorem right_any' {s : Sta} {a b : Option Addr} {n c m d : Nat} {w : World} (hl : SL w s a n b m) (hn : n < 100) (hm : m < 500000) : Calls Tryz.prog 17 #[.agg (sv s.v a n c b m d)] w (SaysIff s.Right w) := by
 have HL := Lib.hid hl
 have hb1 := fun (v : V) x y w => box39 v x y w
 have HP := Lib.hid (bo_new w 39 (sv s.v a n c b m d))
 have HV := Lib.hid (fun w => right_any s.v 16 w (by omega) (by omega))
 have HI := Lib.hid (right_parts s)
 clear hl
 go_enter Tryz.func17, Tryz.ntmps17
 go_upto_region 1 with fail
 clear hb1
 generalize w.alloc (.cells (sv s.v a n c b m d) 39) = w0 at HP
 go_wp2_with (refine wpList_run rfl (exec_stV (v := s.v) rfl rfl HP.out.one) ?_)
 cases hv : V.rightB s.v 16
 ·rw [hv] at HV
  have HN : Hid (¬ s.Right) := Lib.hid (fun h => by have := h.vec; rw [hv] at this; cases this)
  clear hv
  refine (HV.out _).mono ?_
  rintro e w1 ⟨rfl, hb⟩
  have HP1 := Lib.hid (HP.out.below hb)
  clear hb
  go_wp2_with fail
  go_ret
  exact ⟨false, rfl, by simp [HN.out], HP1.out.old⟩
 ·rw [hv] at HV
  refine (HV.out _).mono ?_
  rintro e w1 ⟨rfl, hb⟩
  have HP1 := Lib.hid (HP.out.below hb)
  clear hb
  have c17 := stc17 HP1.out.one
  go_wp2_with fail
  clear c17
  refine (rightTicks_any (HL.out.ts.below HP1.out.old) hm).mono ?_
  rintro e w2 ⟨r, rfl, hr, hb⟩
  have HP2 := Lib.hid (HP1.out.below hb)
  clear hb
  cases r
  ·have HN : Hid (¬ s.Right) := Lib.hid (fun h => by have := hr.2 h.ts; cases this)
   clear hr hv
   go_wp2_with fail
   go_ret
   exact ⟨false, rfl, by simp [HN.out], HP2.out.old⟩
  ·have hts : TsR s.ts := hr.1 rfl
   have HTS := Lib.hid hts
   have HVV := Lib.hid hv
   clear hr hts hv
   go_wp2_with (refine wpList_runW (exec_load39 rfl rfl HP2.out.one) (by kernel_rfl) ?_)
   refine (rightEntries_any (HL.out.below HP2.out.old) hn hm HTS.out).mono ?_
   rintro e w3 ⟨r, rfl, hr, hb⟩
   have HP3 := Lib.hid (HP2.out.below hb)
   have HR : Hid (r = true ↔ s.Right) := Lib.hid (by rw [hr, HI.out]; exact ⟨fun h => ⟨HVV.out, HTS.out, h.1, h.2⟩, fun h => ⟨h.2.2.1, h.2.2.2⟩⟩)
   clear hr hb
   go_wp2_with fail
   go_ret
   exact ⟨r, rfl, HR.out, HP3.out.old⟩
end Go.Proofs.YtnekpgmgnepdoaaGreat
