import Derived.Test.YtnekpgmgnepdoaaGreatZap
section
namespace Go.Proofs.YtnekpgmgnepdoaaGreat
open Go.RowKit
theorem tkOf_snoc (l : List La) (x : La) (c : Nat) : tkOf (l ++ [x]) c = (tkOf l c).or (if x.c = c then some x.t else none) := by
 induction l with
 | nil => rw [List.nil_append, tkOf_cons]; rfl
 | cons y l ih =>
  rw [List.cons_append, tkOf_cons, tkOf_cons, ih]
  by_cases e : y.c = c <;> simp [e]
theorem comp_tk (m : List La) (c : Nat) : ∀ j, j ≤ m.length → tkOf (compN m j) c = tkOf (m.take j) c
 | 0, _ => rfl
 | j + 1, h => by
  have ih := comp_tk m c j (by omega)
  obtain ⟨x, hx⟩ : ∃ x, m[j]? = some x := ⟨m[j]'(by omega), List.getElem?_eq_getElem _⟩
  have et : m.take (j + 1) = m.take j ++ [x] := by rw [List.take_add_one, hx]; rfl
  cases hk : keepAt m j
  ·rw [comp_skip hk, ih, et, tkOf_snoc]
   match j, hk, hx with
   | 0, hk, _ => cases hk
   | i + 1, hk, hx =>
    obtain ⟨y, hy⟩ : ∃ y, m[i]? = some y := ⟨m[i]'(by omega), List.getElem?_eq_getElem _⟩
    rw [keep_at hx hy] at hk
    have hxy : x.c = y.c := by simpa using hk
    by_cases e : x.c = c
    ·have : (tkOf (m.take (i + 1)) c).isSome = true := tkOf_some.2 ⟨y, by
      rw [List.take_add_one, hy]
      exact List.mem_append_right _ (by simp), by omega⟩
     obtain ⟨t, ht⟩ := Option.isSome_iff_exists.1 this
     rw [ht]; rfl
    ·rw [if_neg e, Option.or_none]
  ·rw [comp_keep hx hk, et, tkOf_snoc, tkOf_snoc, ih]
def SortedL (m : List La) : Prop := m.Pairwise fun x y => ¬ ordL y x < 0
theorem sorted_le {m : List La} (h : SortedL m) : m.Pairwise fun x y => x.c ≤ y.c ∧ (x.c = y.c → y.t ≤ x.t) := h.imp fun {x y} k => by
 rw [ordL_neg] at k
 omega
theorem up_sorted {m : List La} (h : m.Pairwise fun a b => a.c < b.c) : SortedL m := h.imp fun {x y} k => by
 rw [ordL_neg]
 omega
theorem comp_mem {m : List La} : ∀ {j : Nat} {x : La}, x ∈ compN m j → x ∈ m.take j
 | j + 1, x, h => by
  simp only [compN, List.mem_append] at h
  rw [List.take_add_one, List.mem_append]
  rcases h with h | h
  ·exact .inl (comp_mem h)
  ·cases hk : keepAt m j <;> rw [hk] at h
   ·simp at h
   ·exact .inr h
theorem comp_up {m : List La} (hs : SortedL m) : ∀ j, j ≤ m.length → (compN m j).Pairwise fun a b => a.c < b.c
 | 0, _ => List.Pairwise.nil
 | j + 1, h => by
  have ih := comp_up hs j (by omega)
  obtain ⟨x, hx⟩ : ∃ x, m[j]? = some x := ⟨m[j]'(by omega), List.getElem?_eq_getElem _⟩
  cases hk : keepAt m j
  ·rw [comp_skip hk]; exact ih
  ·rw [comp_keep hx hk, List.pairwise_append]
   refine ⟨ih, by simp, fun a ha b hb => ?_⟩
   obtain rfl : b = x := by simpa using hb
   have hm := comp_mem ha
   match j, hk, hx, hm with
   | 0, _, _, hm => simp at hm
   | i + 1, hk, hx, hm =>
    obtain ⟨y, hy⟩ : ∃ y, m[i]? = some y := ⟨m[i]'(by omega), List.getElem?_eq_getElem _⟩
    rw [keep_at hx hy] at hk
    have hxy : ¬ b.c = y.c := by simpa using hk
    have hp := List.pairwise_iff_getElem.1 (sorted_le hs)
    have h1 : y.c ≤ b.c := by
     have := (hp i (i + 1) (by omega) (by omega) (by omega)).1
     rw [(List.getElem?_eq_some_iff.1 hx).2, (List.getElem?_eq_some_iff.1 hy).2] at this
     exact this
    obtain ⟨q, hq, hqa⟩ := List.getElem_of_mem hm
    rw [List.length_take] at hq
    rw [List.getElem_take] at hqa
    have h2 : a.c ≤ y.c := by
     by_cases e : q = i
     ·subst e
      rw [(List.getElem?_eq_some_iff.1 hy).2] at hqa
      rw [hqa]
      exact Nat.le_refl _
     ·have := (hp q i (by omega) (by omega) (by omega)).1
      rw [hqa, (List.getElem?_eq_some_iff.1 hy).2] at this
      exact this
    omega
theorem tk_max {c t : Nat} : ∀ {m : List La}, SortedL m → tkOf m c = some t → (∃ y ∈ m, y.c = c ∧ y.t = t) ∧ ∀ y ∈ m, y.c = c → y.t ≤ t
 | [], _, h => by rw [tkOf_nil] at h; cases h
 | x :: m, hs, h => by
  obtain ⟨h1, h2⟩ := List.pairwise_cons.1 hs
  rw [tkOf_cons] at h
  by_cases e : x.c = c
  ·rw [if_pos e] at h
   obtain rfl := Option.some.inj h
   refine ⟨⟨x, List.mem_cons_self, e, rfl⟩, fun y hy hyc => ?_⟩
   rcases List.mem_cons.1 hy with hy1 | hy1
   ·rw [hy1]; exact Nat.le_refl _
   ·have := h1 y hy1
    rw [ordL_neg] at this
    omega
  ·rw [if_neg e] at h
   obtain ⟨⟨y, h3, h4⟩, h5⟩ := tk_max h2 h
   refine ⟨⟨y, List.mem_cons_of_mem _ h3, h4⟩, fun y hy hyc => ?_⟩
   rcases List.mem_cons.1 hy with hy1 | hy1
   ·rw [hy1] at hyc; exact absurd hyc e
   ·exact h5 y hy1 hyc
def mtk (a b : Option Nat) : Option Nat := match a, b with
 | none, y => y
 | some x, none => some x
 | some x, some y => some (max x y)
theorem tk_no {l : List La} {c : Nat} (h : tkOf l c = none) : ∀ y ∈ l, y.c ≠ c := fun y hy e => by
 have := tkOf_some.2 ⟨y, hy, e⟩
 rw [h] at this
 cases this
theorem tk_merge {a b m : List La} (ha : a.Pairwise fun a b => a.c < b.c) (hb : b.Pairwise fun a b => a.c < b.c) (hp : m.Perm (a ++ b)) (hs : SortedL m) (c : Nat) : tkOf m c = mtk (tkOf a c) (tkOf b c) := by
 have hmem : ∀ y, y ∈ m ↔ y ∈ a ∨ y ∈ b := fun y => by rw [hp.mem_iff, List.mem_append]
 cases hA : tkOf a c with
 | none =>
  cases hB : tkOf b c with
  | none =>
   refine tkOf_none fun y hy => ?_
   rcases (hmem y).1 hy with h | h
   ·exact tk_no hA y h
   ·exact tk_no hB y h
  | some y =>
   obtain ⟨⟨q, h1, h2, h3⟩, h4⟩ := tk_max (up_sorted hb) hB
   obtain ⟨t, ht⟩ := Option.isSome_iff_exists.1 (tkOf_some.2 ⟨q, (hmem q).2 (.inr h1), h2⟩)
   obtain ⟨⟨p, k1, k2, k3⟩, k4⟩ := tk_max hs ht
   have e1 := k4 q ((hmem q).2 (.inr h1)) h2
   rcases (hmem p).1 k1 with h | h
   ·exact absurd k2 (tk_no hA p h)
   ·have e2 := h4 p h k2
    rw [ht]
    show some t = some y
    congr 1; omega
 | some x =>
  obtain ⟨⟨p0, i1, i2, i3⟩, i4⟩ := tk_max (up_sorted ha) hA
  obtain ⟨t, ht⟩ := Option.isSome_iff_exists.1 (tkOf_some.2 ⟨p0, (hmem p0).2 (.inl i1), i2⟩)
  obtain ⟨⟨p, k1, k2, k3⟩, k4⟩ := tk_max hs ht
  have e0 := k4 p0 ((hmem p0).2 (.inl i1)) i2
  cases hB : tkOf b c with
  | none =>
   rcases (hmem p).1 k1 with h | h
   ·have e2 := i4 p h k2
    rw [ht]
    show some t = some x
    congr 1; omega
   ·exact absurd k2 (tk_no hB p h)
  | some y =>
   obtain ⟨⟨q, h1, h2, h3⟩, h4⟩ := tk_max (up_sorted hb) hB
   have e1 := k4 q ((hmem q).2 (.inr h1)) h2
   rw [ht]
   show some t = some (max x y)
   congr 1
   rcases (hmem p).1 k1 with h | h
   ·have e2 := i4 p h k2
    omega
   ·have e2 := h4 p h k2
    omega
theorem info37 : (Tryz.prog.info? 37).map (fun i => (i.zero, i.size, i.bytes)) = some (some (.slice none 0 0), 1, 24) := by kernel_rfl
theorem bs183 (a b : Option Addr) (n c m d : Nat) (w : World) : (Instr.buildSlice 183 2 #[(0, .slice a n c), (1, .slice b m d)]).run Tryz.prog w = .ok (.slice (some ⟨w.heap.size, 0, none⟩) 2 2) (w.alloc (.cells #[.slice a n c, .slice b m d] 37)) := by
 obtain ⟨i0, hi, hz0, hz1, hz2⟩ := info_parts info37
 refine run_buildSlice w 183 37 2 _ _ i0 _ und183 hi hz0 (by rw [hz1]; omega) (by rw [hz1]; omega) ?_
 rw [hz1]
 kernel_rfl
theorem exec_bs183 {ev : Operand → Value} {q : Oper} {w : World} {x y : Operand} {a b : Option Addr} {n c m d : Nat} (ho : q.op = .buildSlice 183 2 #[(0, x), (1, y)]) (hx : ev x = .slice a n c) (hy : ev y = .slice b m d) : (execOp ev q).run Tryz.prog w = .ok (.value (.slice (some ⟨w.heap.size, 0, none⟩) 2 2)) (w.alloc (.cells #[.slice a n c, .slice b m d] 37)) := by
 have hm : (#[((0 : Nat), x), (1, y)]).map (fun (i, x) => (i, ev x)) = #[(0, .slice a n c), (1, .slice b m d)] := by simp [hx, hy]
 unfold execOp
 simp only [ho, hm, Sem.run_bind, bs183 a b n c m d w, Result.andThen_ok]
 rfl
def TkP (l l2 : List La) (w : World) (e : Ending) (w' : World) : Prop :=
 ∃ ad k cap ts, e = .returned (.slice ad k cap) ∧ OwnG w' 96 2 w.heap.size ad k cap (cellsL ts) ∧ (ts.Pairwise fun a b => a.c < b.c) ∧ (∀ c, tkOf ts c = mtk (tkOf l c) (tkOf l2 c)) ∧ Below w.heap.size w w'
set_option maxRecDepth 100000 in
set_option maxHeartbeats 4000000 in
theorem mergeTicks_any {a b : Option Addr} {n c m d : Nat} {l l2 : List La} {w : World} (hl : LL w a n l) (hm : LL w b m l2) (hn : n + m < 900000) (h1 : l.Pairwise fun a b => a.c < b.c) (h2 : l2.Pairwise fun a b => a.c < b.c) : Calls Tryz.prog 58 #[.slice a n c, .slice b m d] w (TkP l l2 w) := by
 have hlen : l.length + l2.length = n + m := by rw [hl.len', hm.len']
 have HL := Lib.hid hl
 have HM := Lib.hid hm
 have H1 := Lib.hid h1
 have H2 := Lib.hid h2
 have HG := Lib.hid (Blk.new w 37 #[.slice a n c, .slice b m d])
 have HB0 := Lib.hid (below_one w (.cells #[.slice a n c, .slice b m d] 37))
 clear hl hm h1 h2
 go_enter Tryz.func58, Tryz.ntmps58
 go_wp2_with (refine wpList_run rfl (exec_bs183 rfl rfl rfl) ?_)
 generalize w.alloc (.cells #[.slice a n c, .slice b m d] 37) = w0 at HG HB0
 refine (concat_any HG.out (HL.out.below HB0.out) (HM.out.below HB0.out) hn).mono ?_
 rintro e w1 ⟨a1, cap1, rfl, ho1, hb1⟩
 have hk : (cellsL (l ++ l2)).length = n + m := by rw [cellsL_len, List.length_append, hlen]
 rw [hk] at ho1 ⊢
 have HO1 := Lib.hid ho1
 have HB1 : Hid (Below w.heap.size w w1) := Lib.hid (HB0.out.trans (hb1.mono HB0.out.size))
 have HW0 : Hid (w.heap.size ≤ w0.heap.size) := Lib.hid HB0.out.size
 have HAT : Hid (∀ k, At a1 k → w.heap.size ≤ k) := Lib.hid (fun k ⟨ad, had, e⟩ => by rw [e]; exact Nat.le_trans HW0.out (ho1.lt ad had).1)
 generalize hN : n + m = N at *
 clear ho1 hb1 hk HG HB0
 have HS := Lib.hid (sortL_any HO1.out (by omega))
 go_wp2_with fail
 refine HS.out.mono ?_
 rintro e w2 ⟨rfl, ts, hp, hso, ho2, hk2⟩
 have HO2 := Lib.hid ho2
 have HP := Lib.hid hp
 have HSO : Hid (SortedL ts) := Lib.hid hso
 have HTL : Hid (ts.length = N) := Lib.hid (by rw [hp.length_eq, List.length_append, hlen])
 have HB2 : Hid (Below w.heap.size w w2) := Lib.hid (HB1.out.trans (hk2.below HB1.out.size HAT.out))
 clear hp hso ho2 hk2 HS
 have HC := Lib.hid (compact_any HO2.out (by omega))
 go_wp2_with fail
 refine HC.out.mono ?_
 rintro e w3 ⟨rfl, ho3, hk3⟩
 have HE : Hid (TkP l l2 w (.returned (.slice a1 (compN ts N).length cap1)) w3) := Lib.hid ⟨a1, _, cap1, compN ts N, rfl, ho3.mono HW0.out, comp_up HSO.out N (by rw [HTL.out]; exact Nat.le_refl _), fun c => by
  rw [comp_tk ts c N (by rw [HTL.out]; exact Nat.le_refl _), List.take_of_length_le (by rw [HTL.out]; exact Nat.le_refl _)]
  exact tk_merge H1.out H2.out HP.out HSO.out c, HB2.out.trans (hk3.below HB2.out.size HAT.out)⟩
 generalize (compN ts N).length = M at HE
 clear ho3 hk3 HC
 go_wp2_with fail
 go_ret
 exact HE.out
end Go.Proofs.YtnekpgmgnepdoaaGreat
end
section
namespace Go.Proofs.YtnekpgmgnepdoaaGreat
open Go.RowKit
set_option maxRecDepth 100000 in
set_option maxHeartbeats 4000000 in
theorem insE_any {a : Option Addr} {n cap i p B : Nat} {vs : List (List Value)} {x : En} {w : World} (h : OwnG w 72 7 B a n cap vs) (h1 : ∀ v ∈ vs, ∀ u ∈ v, u.oneCell' = true) (hp : Blk w p 72 x.arr) (hne : ∀ ad, a = some ad → ad.block ≠ p) (hi : i ≤ n) (hn : n < 400000) (hB : B ≤ w.heap.size) :
  Calls Tryz.prog 92 #[.slice a n cap, .int .i64 (i : Int), .slice (some ⟨p, 0, none⟩) 1 1] w (InsP 72 7 w B a (vs.take i ++ x.cs :: vs.drop i)) := by
 have hlen := h.len
 have HLEN := Lib.hid hlen
 have HO := Lib.hid h
 have HP := Lib.hid hp
 have H1 := Lib.hid h1
 have HNE := Lib.hid hne
 by_cases hin : i = n
 ·subst hin
  have HF : Hid (∀ a3 cap3 w3, OwnG w3 72 7 B a3 (i + 1) cap3 (vs ++ [x.arr.toList]) → Kept (At a) w w3 → Lies w a a3 → InsP 72 7 w B a (vs.take i ++ x.cs :: vs.drop i) (.returned (.slice a3 (i + 1) cap3)) w3) := Lib.hid (fun a3 cap3 w3 ho hk hl => by
   rw [List.take_of_length_le (by omega), List.drop_of_length_le (by omega)]
   refine ⟨a3, cap3, by simp [hlen], ?_, hk, hl⟩
   have e1 : (vs ++ [x.cs]).length = i + 1 := by simp [hlen]
   rw [e1]
   exact ho)
  rcases h.rw' (by decide) with ⟨rfl, rfl, rfl⟩ | ⟨g, us, rfl, hrw, hcap, hBg, hcm⟩
  ·clear h h1 hp hne hlen HLEN
   go_enter Tryz.func92, Tryz.ntmps92
   go_wp2_with (at_builtin; refine wpList_appendG 36 72 7 24 info72 und36 rfl (by decide) (by decide) rfl rfl rfl rfl HO.out HP.out x.arr_size (by simpa using x.one_cs) (by omega) hB ?_; intro a3 cap3 w3 ho3 hk3 hl3)
   have HE := Lib.hid (HF.out a3 cap3 w3 ho3 hk3 hl3)
   clear ho3 hk3 hl3
   go_wp2_with fail
   go_ret
   exact HE.out
  ·clear h h1 hp hne hlen HLEN hrw
   by_cases hic : i = cap
   ·subst hic
    go_enter Tryz.func92, Tryz.ntmps92
    go_wp2_with (first | (refine wpList_run rfl (exec_sliceEnd und36 Tryz.sizeOf72 (i := i) rfl rfl rfl rfl) ?_) | (at_builtin; refine wpList_appendG 36 72 7 24 info72 und36 rfl (by decide) (by decide) rfl rfl rfl rfl HO.out HP.out x.arr_size (by simpa using x.one_cs) (by omega) hB ?_; intro a3 cap3 w3 ho3 hk3 hl3))
    have HE := Lib.hid (HF.out a3 cap3 w3 ho3 hk3 hl3)
    clear ho3 hk3 hl3
    go_wp2_with fail
    go_ret
    exact HE.out
   ·go_enter Tryz.func92, Tryz.ntmps92
    go_wp2_with (first | (refine wpList_run rfl (exec_sliceLo und36 Tryz.sizeOf72 (i := i) rfl rfl rfl rfl (by omega) (by omega) (by omega)) ?_) | (at_builtin; refine wpList_appendG 36 72 7 24 info72 und36 rfl (by decide) (by decide) rfl rfl rfl rfl HO.out HP.out x.arr_size (by simpa using x.one_cs) (by omega) hB ?_; intro a3 cap3 w3 ho3 hk3 hl3))
    have HE := Lib.hid (HF.out a3 cap3 w3 ho3 hk3 hl3)
    clear ho3 hk3 hl3
    go_wp2_with fail
    go_ret
    exact HE.out
 ·have hlt : i < n := by omega
  obtain ⟨g, us, rfl, hrw, hcap, hBg, hcm⟩ : ∃ g us, a = some ⟨g, 0, none⟩ ∧ Rw w 72 7 g (vs ++ us) ∧ n + us.length = cap ∧ B ≤ g ∧ cap ≤ maxLen := by
   rcases h.rw' (by decide) with ⟨_, h0, _⟩ | h
   ·omega
   ·exact h
  have HR := Lib.hid hrw
  have HGP : Hid (p ≠ g) := Lib.hid (fun e => HNE.out _ rfl e.symm)
  have HVE : Hid (∀ v ∈ vs, v.length = 7) := Lib.hid (fun v hv => hrw.each v (List.mem_append_left _ hv))
  have HAT : Hid (∀ j v, (vs.drop i)[j]? = some v → w.rangeAt g (0 + i * 7 + j * 7) v) := Lib.hid (fun j v hv => by
   rw [List.getElem?_drop] at hv
   have := hrw.at (i := i + j) (v := v) (by rw [List.getElem?_append_left (by have := (List.getElem?_eq_some_iff.1 hv).1; omega)]; exact hv)
   rw [show 0 + i * 7 + j * 7 = 0 + (i + j) * 7 by omega]
   exact this)
  have HPC : Hid (w.rangeAt p (0 + 0 * 7) x.cs) := Lib.hid (fun j u hu => by rw [hp.cell]; simpa using hu)
  have hdl : (vs.drop i).length = n - i := by simp [hlen]
  have HDL := Lib.hid hdl
  have HDE : Hid (∀ v ∈ vs.drop i, v.length = 7) := Lib.hid (fun v hv => HVE.out v (List.mem_of_mem_drop hv))
  have HD1 : Hid (∀ v ∈ vs.drop i, ∀ u ∈ v, u.oneCell' = true) := Lib.hid (fun v hv => h1 v (List.mem_of_mem_drop hv))
  have HCM := Lib.hid hcm
  have HBG := Lib.hid hBg
  have hne1 : ((i : Int) == (n : Int)) = false := by rw [beq_eq_false_iff_ne]; omega
  clear h h1 hp hne hlen hrw hcm hdl hBg HNE H1
  by_cases hroom : cap < n + 1
  ·have hd : decide ((cap : Int) < (n : Int) + 1) = true := by simp; omega
   go_enter Tryz.func92, Tryz.ntmps92
   go_upto_region 10 with (first | (refine wpList_run rfl (exec_sliceLo und36 Tryz.sizeOf72 (i := i) rfl rfl rfl rfl (by omega) (by omega) (by omega)) ?_) | (refine wpList_run rfl (exec_sliceHi und36 Tryz.sizeOf72 (i := i) rfl rfl rfl rfl (by omega) rfl) ?_) | (at_builtin; refine wpList_growZ (k := n + 1 - i) 36 72 7 24 info72 und36 rfl (by decide) (by decide) rfl rfl rfl rfl (by omega) HR.out (by have := HLEN.out; simp; omega) (by omega) (by omega) (by omega) ?_; intro h G w1 hrw hG1 hG2 hh hb))
   rw [show i + (n + 1 - i) = n + 1 by omega] at hG1 ⊢
   have HT : Hid ((vs ++ us).take i = vs.take i) := Lib.hid (List.take_append_of_le_length (by have := HLEN.out; omega))
   rw [HT.out] at hrw
   have HR1 := Lib.hid hrw
   have HB1 := Lib.hid hb
   have HG2 := Lib.hid hG2
   have HPC1 : Hid (w1.rangeAt p (0 + 0 * 7) x.cs) := Lib.hid (fun j u hu => below_at hb (HPC.out j u hu))
   have HAT1 : Hid (∀ j v, (vs.drop i)[j]? = some v → w1.rangeAt g (0 + i * 7 + j * 7) v) := Lib.hid (fun j v hv k u hu => below_at hb (HAT.out j v hv k u hu))
   have hgh : g < h := Nat.lt_of_lt_of_le HR.out.lt hh
   have HHH := Lib.hid hh
   clear hrw hb hG2 hh hd
   have hrl : (vs.take i ++ List.replicate (G - i) En.zero.cs).length = G := by have := HLEN.out; simp; omega
   have HRL := Lib.hid hrl
   clear hrl
   have hcp : ∀ ty off, off = 0 + i * 7 → (Builtin.copy_ #[36, 36] ty #[.slice (some ⟨h, off, none⟩) (n + 1 - i) (G - i), .slice (some ⟨p, 0, none⟩) 1 1]).run Tryz.prog w1 = .ok (goInt 1) (w1.setCells h (0 + i * 7) [x.cs].flatten) := fun ty off hoff => by
    subst hoff
    exact run_copyR w1 36 36 ty 72 7 und36 size72 h (0 + i * 7) (n + 1 - i) (G - i) p 0 1 1 [x.cs] (by simp only [List.length_singleton, Nat.min_def]; split <;> omega) (by simp [En.cs_len]) (fun j v hv => by
     cases j with
     | zero =>
          obtain rfl : x.cs = v := by simpa using hv
          exact HPC1.out
     | succ j => simp at hv) (by simpa using x.one_cs) (HR1.out.there (i := i) (k := 1) (by rw [HRL.out]; omega))
   have HCP := Lib.hid hcp
   clear hcp
   have HR2 : Hid (Rw (w1.setCells h (0 + i * 7) [x.cs].flatten) 72 7 h (overL (vs.take i ++ List.replicate (G - i) En.zero.cs) i [x.cs])) := Lib.hid (HR1.out.over (by simp [En.cs_len]) (by rw [HRL.out]; simp; omega))
   have HK2 : Hid (Kept (fun k => k = h) w1 (w1.setCells h (0 + i * 7) [x.cs].flatten)) := Lib.hid (Kept.setCells h _ _ _)
   go_upto_region 11 with (first | (refine wpList_run rfl (exec_sliceLo und36 Tryz.sizeOf72 (i := i) rfl rfl rfl rfl (by omega) (by omega) (by omega)) ?_) | (refine wpList_run rfl (exec_copy rfl rfl rfl (HCP.out _ _ (by omega))) ?_))
   generalize w1.setCells h (0 + i * 7) [x.cs].flatten = w2 at HR2 HK2
   have HAT2 : Hid (∀ j v, (vs.drop i)[j]? = some v → w2.rangeAt g (0 + i * 7 + j * 7) v) := Lib.hid (fun j v hv k u hu => HK2.out.at_ (HAT1.out j v hv k u hu) (by omega))
   have HOL : Hid ((overL (vs.take i ++ List.replicate (G - i) En.zero.cs) i [x.cs]).length = G) := Lib.hid (by rw [overL_length _ _ _ (by rw [HRL.out]; simp; omega), HRL.out])
   have HCP2 : Hid (∀ ty, (Builtin.copy_ #[36, 36] ty #[.slice (some ⟨h, 0 + (i + 1) * 7, none⟩) (n + 1 - (i + 1)) (G - (i + 1)), .slice (some ⟨g, 0 + i * 7, none⟩) (n - i) (cap - i)]).run Tryz.prog w2.drew = .ok (goInt (vs.drop i).length) (w2.drew.setCells h (0 + (i + 1) * 7) (vs.drop i).flatten)) := Lib.hid (fun ty =>
    run_copyR w2.drew 36 36 ty 72 7 und36 size72 h (0 + (i + 1) * 7) (n + 1 - (i + 1)) (G - (i + 1)) g (0 + i * 7) (n - i) (cap - i) (vs.drop i) (by rw [HDL.out]; simp only [Nat.min_def]; split <;> omega) HDE.out (fun j v hv => HAT2.out j v hv) HD1.out (HR2.out.there (i := i + 1) (k := (vs.drop i).length) (by rw [HOL.out, HDL.out]; omega)))
   have HR3 : Hid (Rw (w2.drew.setCells h (0 + (i + 1) * 7) (vs.drop i).flatten) 72 7 h (overL (overL (vs.take i ++ List.replicate (G - i) En.zero.cs) i [x.cs]) (i + 1) (vs.drop i))) := Lib.hid ((HR2.out.below (drew_below w2)).over HDE.out (by rw [HOL.out, HDL.out]; omega))
   have HK3 : Hid (Kept (fun k => k = h) w2 (w2.drew.setCells h (0 + (i + 1) * 7) (vs.drop i).flatten)) := Lib.hid ((Kept.drew _ w2).trans (Kept.setCells h _ _ _) (fun _ h => .inl h))
   refine wp_region_held_drew (S := fun _ => True) (by kernel_rfl) trivial (fun hS => ?_)
   refine held_tk 0 46 (.slice (some ⟨h, 0, none⟩) (n + 1) G) rfl rfl (by kernel_rfl) (fun _ _ _ h => h) (fun _ _ => rfl) trivial ?_
   simp only [Act.put, ap1, ap2, ap3]
   refine held_tk 1 47 (.int .i64 (i : Int)) rfl rfl (by kernel_rfl) (fun _ _ _ h => h) (fun _ _ => rfl) trivial ?_
   simp only [Act.put, ap1, ap2, ap3]
   refine held_tk 2 48 (.int .i64 1) rfl rfl (by kernel_rfl) (fun _ _ _ h => h) (fun _ _ => rfl) trivial ?_
   simp only [Act.put, ap1, ap2, ap3]
   refine held_tk 3 49 (.int .i64 ((i : Int) + 1)) rfl rfl (by kernel_rfl) (fun _ _ _ h => h) (fun _ _ => exec_addN rfl rfl rfl rfl (by omega) (by omega)) trivial ?_
   simp only [Act.put, ap1, ap2, ap3]
   refine held_tk 4 50 (.slice (some ⟨h, 0 + (i + 1) * 7, none⟩) (n + 1 - (i + 1)) (G - (i + 1))) rfl rfl (by kernel_rfl) (fun _ _ _ h => h) (fun _ _ => exec_sliceLo und36 Tryz.sizeOf72 (i := i + 1) rfl rfl rfl (by omega) (by omega) (by omega) (by omega)) trivial ?_
   simp only [Act.put, ap1, ap2, ap3]
   refine held_tk 5 51 (.slice (some ⟨g, 0, none⟩) n cap) rfl rfl (by kernel_rfl) (fun _ _ _ h => h) (fun _ _ => rfl) trivial ?_
   simp only [Act.put, ap1, ap2, ap3]
   refine held_tk 6 52 (.int .i64 (i : Int)) rfl rfl (by kernel_rfl) (fun _ _ _ h => h) (fun _ _ => rfl) trivial ?_
   simp only [Act.put, ap1, ap2, ap3]
   refine held_tk 7 53 (.slice (some ⟨g, 0 + i * 7, none⟩) (n - i) (cap - i)) rfl rfl (by kernel_rfl) (fun _ _ _ h => h) (fun _ _ => exec_sliceLo und36 Tryz.sizeOf72 (i := i) rfl rfl rfl rfl (by omega) (by omega) (by omega)) trivial ?_
   simp only [Act.put, ap1, ap2, ap3]
   refine held_exec 8 54 (goInt (vs.drop i).length) rfl rfl (by kernel_rfl) (by kernel_rfl) (exec_copy rfl rfl rfl (HCP2.out _)) trivial ?_
   simp only [Act.put, ap1, ap2, ap3]
   refine wpAnyH_done (by kernel_rfl) ?_ _
   generalize w2.drew.setCells h (0 + (i + 1) * 7) (vs.drop i).flatten = w3 at HR3 HK3
   have HE : Hid (InsP 72 7 w B (some ⟨g, 0, none⟩) (vs.take i ++ x.cs :: vs.drop i) (.returned (.slice (some ⟨h, 0, none⟩) (n + 1) G)) w3) := by
    have hl := HLEN.out
    have ho := HR3.out.own (B := B) (n := n + 1) (by have := HBG.out; omega) hG1 (by rw [overL_length _ _ _ (by rw [HOL.out, HDL.out]; omega), HOL.out]) HG2.out
    rw [ins_grow x.cs hl hlt (by simp; omega)] at ho
    refine Lib.hid ⟨some ⟨h, 0, none⟩, G, by rw [ins_len _ hl hi], by rw [ins_len _ hl hi]; exact ho, ?_, fun ad e => .inr (by cases e; exact HHH.out)⟩
    have hbb : Below w.heap.size w w3 := (HB1.out.trans (HK2.out.below HB1.out.size (fun k hk => by rw [hk]; exact HHH.out))).trans (HK3.out.below (Nat.le_trans HB1.out.size HK2.out.size) (fun k hk => by rw [hk]; exact HHH.out))
    exact .of_below hbb
   go_wp2_with fail
   go_ret
   exact HE.out
  ·have hd : decide ((cap : Int) < (n : Int) + 1) = false := by simp; omega
   have hul : (vs ++ us).length = cap := by have := HLEN.out; simp; omega
   have HUL := Lib.hid hul
   clear hul
   have HDS : Hid ((vs ++ us).flatten.toArray.size ≠ 0) := Lib.hid (by
    have := flat_len HR.out.each
    rw [HUL.out] at this
    rw [List.size_toArray, this]
    omega)
   go_enter Tryz.func92, Tryz.ntmps92
   go_upto_region 15 with (first | (refine wpList_run rfl (exec_sliceLo und36 Tryz.sizeOf72 (i := i) rfl rfl rfl rfl (by omega) (by omega) (by omega)) ?_) | (refine wpList_run rfl (exec_sliceLo und36 Tryz.sizeOf72 (i := i + 1) rfl rfl rfl (by omega) (by omega) (by omega) (by omega)) ?_) | (refine wpList_run rfl (exec_sliceHi und36 Tryz.sizeOf72 (i := n + 1) rfl rfl rfl (by omega) (by omega) rfl) ?_) | (refine wpList_run rfl (exec_overE rfl rfl rfl rfl HGP.out HP.out HR.out.blk HDS.out) ?_))
   have HCP2 : Hid (∀ ty, (Builtin.copy_ #[36, 36] ty #[.slice (some ⟨g, 0 + (i + 1) * 7, none⟩) (n + 1 - (i + 1)) (cap - (i + 1)), .slice (some ⟨g, 0 + i * 7, none⟩) (n + 1 - i) (cap - i)]).run Tryz.prog w.drew = .ok (goInt (vs.drop i).length) (w.drew.setCells g (0 + (i + 1) * 7) (vs.drop i).flatten)) := Lib.hid (fun ty =>
    run_copyR w.drew 36 36 ty 72 7 und36 size72 g (0 + (i + 1) * 7) (n + 1 - (i + 1)) (cap - (i + 1)) g (0 + i * 7) (n + 1 - i) (cap - i) (vs.drop i) (by rw [HDL.out]; simp only [Nat.min_def]; split <;> omega) HDE.out (fun j v hv => HAT.out j v hv) HD1.out (HR.out.there (i := i + 1) (k := (vs.drop i).length) (by rw [HUL.out, HDL.out]; omega)))
   have HR2 : Hid (Rw (w.drew.setCells g (0 + (i + 1) * 7) (vs.drop i).flatten) 72 7 g (overL (vs ++ us) (i + 1) (vs.drop i))) := Lib.hid ((HR.out.below (drew_below w)).over HDE.out (by rw [HUL.out, HDL.out]; omega))
   have HK2 : Hid (Kept (fun k => k = g) w (w.drew.setCells g (0 + (i + 1) * 7) (vs.drop i).flatten)) := Lib.hid ((Kept.drew _ w).trans (Kept.setCells g _ _ _) (fun _ h => .inl h))
   refine wp_region_held_drew (S := fun _ => True) (by kernel_rfl) trivial (fun hS => ?_)
   refine held_tk 0 69 (.slice (some ⟨g, 0, none⟩) (n + 1) cap) rfl rfl (by kernel_rfl) (fun _ _ _ h => h) (fun _ _ => rfl) trivial ?_
   simp only [Act.put, ap1, ap2, ap3]
   refine held_tk 1 70 (.int .i64 (i : Int)) rfl rfl (by kernel_rfl) (fun _ _ _ h => h) (fun _ _ => rfl) trivial ?_
   simp only [Act.put, ap1, ap2, ap3]
   refine held_tk 2 71 (.int .i64 1) rfl rfl (by kernel_rfl) (fun _ _ _ h => h) (fun _ _ => rfl) trivial ?_
   simp only [Act.put, ap1, ap2, ap3]
   refine held_tk 3 72 (.int .i64 ((i : Int) + 1)) rfl rfl (by kernel_rfl) (fun _ _ _ h => h) (fun _ _ => exec_addN rfl rfl rfl rfl (by omega) (by omega)) trivial ?_
   simp only [Act.put, ap1, ap2, ap3]
   refine held_tk 4 73 (.slice (some ⟨g, 0 + (i + 1) * 7, none⟩) (n + 1 - (i + 1)) (cap - (i + 1))) rfl rfl (by kernel_rfl) (fun _ _ _ h => h) (fun _ _ => exec_sliceLo und36 Tryz.sizeOf72 (i := i + 1) rfl rfl rfl (by omega) (by omega) (by omega) (by omega)) trivial ?_
   simp only [Act.put, ap1, ap2, ap3]
   refine held_tk 5 74 (.slice (some ⟨g, 0, none⟩) (n + 1) cap) rfl rfl (by kernel_rfl) (fun _ _ _ h => h) (fun _ _ => rfl) trivial ?_
   simp only [Act.put, ap1, ap2, ap3]
   refine held_tk 6 75 (.int .i64 (i : Int)) rfl rfl (by kernel_rfl) (fun _ _ _ h => h) (fun _ _ => rfl) trivial ?_
   simp only [Act.put, ap1, ap2, ap3]
   refine held_tk 7 76 (.slice (some ⟨g, 0 + i * 7, none⟩) (n + 1 - i) (cap - i)) rfl rfl (by kernel_rfl) (fun _ _ _ h => h) (fun _ _ => exec_sliceLo und36 Tryz.sizeOf72 (i := i) rfl rfl rfl rfl (by omega) (by omega) (by omega)) trivial ?_
   simp only [Act.put, ap1, ap2, ap3]
   refine held_exec 8 77 (goInt (vs.drop i).length) rfl rfl (by kernel_rfl) (by kernel_rfl) (exec_copy rfl rfl rfl (HCP2.out _)) trivial ?_
   simp only [Act.put, ap1, ap2, ap3]
   refine wpAnyH_done (by kernel_rfl) ?_ _
   generalize w.drew.setCells g (0 + (i + 1) * 7) (vs.drop i).flatten = w2 at HR2 HK2
   have HOL : Hid ((overL (vs ++ us) (i + 1) (vs.drop i)).length = cap) := Lib.hid (by rw [overL_length _ _ _ (by rw [HUL.out, HDL.out]; omega), HUL.out])
   have HPC2 : Hid (w2.rangeAt p (0 + 0 * 7) x.cs) := Lib.hid (fun j u hu => HK2.out.at_ (HPC.out j u hu) (fun e => HGP.out e))
   have hcp : ∀ ty off, off = 0 + i * 7 → (Builtin.copy_ #[36, 36] ty #[.slice (some ⟨g, off, none⟩) (n + 1 - i) (cap - i), .slice (some ⟨p, 0, none⟩) 1 1]).run Tryz.prog w2 = .ok (goInt 1) (w2.setCells g (0 + i * 7) [x.cs].flatten) := fun ty off hoff => by
    subst hoff
    exact run_copyR w2 36 36 ty 72 7 und36 size72 g (0 + i * 7) (n + 1 - i) (cap - i) p 0 1 1 [x.cs] (by simp only [List.length_singleton, Nat.min_def]; split <;> omega) (by simp [En.cs_len]) (fun j v hv => by
     cases j with
     | zero =>
          obtain rfl : x.cs = v := by simpa using hv
          exact HPC2.out
     | succ j => simp at hv) (by simpa using x.one_cs) (HR2.out.there (i := i) (k := 1) (by rw [HOL.out]; omega))
   have HCP := Lib.hid hcp
   clear hcp
   have HE : Hid (InsP 72 7 w B (some ⟨g, 0, none⟩) (vs.take i ++ x.cs :: vs.drop i) (.returned (.slice (some ⟨g, 0, none⟩) (n + 1) cap)) (w2.setCells g (0 + i * 7) [x.cs].flatten)) := by
    have hl := HLEN.out
    have ho := (HR2.out.over (us := [x.cs]) (i := i) (by simp [En.cs_len]) (by rw [HOL.out]; simp; omega)).own (B := B) (n := n + 1) HBG.out (by omega) (by rw [overL_length _ _ _ (by rw [HOL.out]; simp; omega), HOL.out]) HCM.out
    rw [ins_room x.cs hl hlt (by omega)] at ho
    refine Lib.hid ⟨some ⟨g, 0, none⟩, cap, by rw [ins_len _ hl hi], by rw [ins_len _ hl hi]; exact ho, kept_at (HK2.out.trans (Kept.setCells g _ _ _) (fun _ h => .inl h)), fun ad e => .inl ⟨ad, e, rfl⟩⟩
   go_wp2_with (first | (refine wpList_run rfl (exec_sliceLo und36 Tryz.sizeOf72 (i := i) rfl rfl rfl rfl (by omega) (by omega) (by omega)) ?_) | (refine wpList_run rfl (exec_copy rfl rfl rfl (HCP.out _ _ (by omega))) ?_))
   go_ret
   have h := HE.out
   rw [Nat.zero_add] at h
   exact h
end Go.Proofs.YtnekpgmgnepdoaaGreat
end
section
namespace Go.Proofs.YtnekpgmgnepdoaaGreat
open Go.RowKit
set_option maxRecDepth 100000 in
set_option maxHeartbeats 4000000 in
theorem insL_any {a : Option Addr} {n cap i p B : Nat} {vs : List (List Value)} {x : La} {w : World} (h : OwnG w 96 2 B a n cap vs) (h1 : ∀ v ∈ vs, ∀ u ∈ v, u.oneCell' = true) (hp : Blk w p 96 x.arr) (hne : ∀ ad, a = some ad → ad.block ≠ p) (hi : i ≤ n) (hn : n < 400000) (hB : B ≤ w.heap.size) :
  Calls Tryz.prog 94 #[.slice a n cap, .int .i64 (i : Int), .slice (some ⟨p, 0, none⟩) 1 1] w (InsP 96 2 w B a (vs.take i ++ x.cs :: vs.drop i)) := by
 have hlen := h.len
 have HLEN := Lib.hid hlen
 have HO := Lib.hid h
 have HP := Lib.hid hp
 have H1 := Lib.hid h1
 have HNE := Lib.hid hne
 by_cases hin : i = n
 ·subst hin
  have HF : Hid (∀ a3 cap3 w3, OwnG w3 96 2 B a3 (i + 1) cap3 (vs ++ [x.arr.toList]) → Kept (At a) w w3 → Lies w a a3 → InsP 96 2 w B a (vs.take i ++ x.cs :: vs.drop i) (.returned (.slice a3 (i + 1) cap3)) w3) := Lib.hid (fun a3 cap3 w3 ho hk hl => by
   rw [List.take_of_length_le (by omega), List.drop_of_length_le (by omega)]
   refine ⟨a3, cap3, by simp [hlen], ?_, hk, hl⟩
   have e1 : (vs ++ [x.cs]).length = i + 1 := by simp [hlen]
   rw [e1]
   exact ho)
  rcases h.rw' (by decide) with ⟨rfl, rfl, rfl⟩ | ⟨g, us, rfl, hrw, hcap, hBg, hcm⟩
  ·clear h h1 hp hne hlen HLEN
   go_enter Tryz.func94, Tryz.ntmps94
   go_wp2_with (at_builtin; refine wpList_appendG 37 96 2 8 info96 und37 rfl (by decide) (by decide) rfl rfl rfl rfl HO.out HP.out x.arr_size (by simpa using x.one_cs) (by omega) hB ?_; intro a3 cap3 w3 ho3 hk3 hl3)
   have HE := Lib.hid (HF.out a3 cap3 w3 ho3 hk3 hl3)
   clear ho3 hk3 hl3
   go_wp2_with fail
   go_ret
   exact HE.out
  ·clear h h1 hp hne hlen HLEN hrw
   by_cases hic : i = cap
   ·subst hic
    go_enter Tryz.func94, Tryz.ntmps94
    go_wp2_with (first | (refine wpList_run rfl (exec_sliceEnd und37 Tryz.sizeOf96 (i := i) rfl rfl rfl rfl) ?_) | (at_builtin; refine wpList_appendG 37 96 2 8 info96 und37 rfl (by decide) (by decide) rfl rfl rfl rfl HO.out HP.out x.arr_size (by simpa using x.one_cs) (by omega) hB ?_; intro a3 cap3 w3 ho3 hk3 hl3))
    have HE := Lib.hid (HF.out a3 cap3 w3 ho3 hk3 hl3)
    clear ho3 hk3 hl3
    go_wp2_with fail
    go_ret
    exact HE.out
   ·go_enter Tryz.func94, Tryz.ntmps94
    go_wp2_with (first | (refine wpList_run rfl (exec_sliceLo und37 Tryz.sizeOf96 (i := i) rfl rfl rfl rfl (by omega) (by omega) (by omega)) ?_) | (at_builtin; refine wpList_appendG 37 96 2 8 info96 und37 rfl (by decide) (by decide) rfl rfl rfl rfl HO.out HP.out x.arr_size (by simpa using x.one_cs) (by omega) hB ?_; intro a3 cap3 w3 ho3 hk3 hl3))
    have HE := Lib.hid (HF.out a3 cap3 w3 ho3 hk3 hl3)
    clear ho3 hk3 hl3
    go_wp2_with fail
    go_ret
    exact HE.out
 ·have hlt : i < n := by omega
  obtain ⟨g, us, rfl, hrw, hcap, hBg, hcm⟩ : ∃ g us, a = some ⟨g, 0, none⟩ ∧ Rw w 96 2 g (vs ++ us) ∧ n + us.length = cap ∧ B ≤ g ∧ cap ≤ maxLen := by
   rcases h.rw' (by decide) with ⟨_, h0, _⟩ | h
   ·omega
   ·exact h
  have HR := Lib.hid hrw
  have HGP : Hid (p ≠ g) := Lib.hid (fun e => HNE.out _ rfl e.symm)
  have HVE : Hid (∀ v ∈ vs, v.length = 2) := Lib.hid (fun v hv => hrw.each v (List.mem_append_left _ hv))
  have HAT : Hid (∀ j v, (vs.drop i)[j]? = some v → w.rangeAt g (0 + i * 2 + j * 2) v) := Lib.hid (fun j v hv => by
   rw [List.getElem?_drop] at hv
   have := hrw.at (i := i + j) (v := v) (by rw [List.getElem?_append_left (by have := (List.getElem?_eq_some_iff.1 hv).1; omega)]; exact hv)
   rw [show 0 + i * 2 + j * 2 = 0 + (i + j) * 2 by omega]
   exact this)
  have HPC : Hid (w.rangeAt p (0 + 0 * 2) x.cs) := Lib.hid (fun j u hu => by rw [hp.cell]; simpa using hu)
  have hdl : (vs.drop i).length = n - i := by simp [hlen]
  have HDL := Lib.hid hdl
  have HDE : Hid (∀ v ∈ vs.drop i, v.length = 2) := Lib.hid (fun v hv => HVE.out v (List.mem_of_mem_drop hv))
  have HD1 : Hid (∀ v ∈ vs.drop i, ∀ u ∈ v, u.oneCell' = true) := Lib.hid (fun v hv => h1 v (List.mem_of_mem_drop hv))
  have HCM := Lib.hid hcm
  have HBG := Lib.hid hBg
  have hne1 : ((i : Int) == (n : Int)) = false := by rw [beq_eq_false_iff_ne]; omega
  clear h h1 hp hne hlen hrw hcm hdl hBg HNE H1
  by_cases hroom : cap < n + 1
  ·have hd : decide ((cap : Int) < (n : Int) + 1) = true := by simp; omega
   go_enter Tryz.func94, Tryz.ntmps94
   go_upto_region 10 with (first | (refine wpList_run rfl (exec_sliceLo und37 Tryz.sizeOf96 (i := i) rfl rfl rfl rfl (by omega) (by omega) (by omega)) ?_) | (refine wpList_run rfl (exec_sliceHi und37 Tryz.sizeOf96 (i := i) rfl rfl rfl rfl (by omega) rfl) ?_) | (at_builtin; refine wpList_growZ (k := n + 1 - i) 37 96 2 8 info96 und37 rfl (by decide) (by decide) rfl rfl rfl rfl (by omega) HR.out (by have := HLEN.out; simp; omega) (by omega) (by omega) (by omega) ?_; intro h G w1 hrw hG1 hG2 hh hb))
   rw [show i + (n + 1 - i) = n + 1 by omega] at hG1 ⊢
   have HT : Hid ((vs ++ us).take i = vs.take i) := Lib.hid (List.take_append_of_le_length (by have := HLEN.out; omega))
   rw [HT.out] at hrw
   have HR1 := Lib.hid hrw
   have HB1 := Lib.hid hb
   have HG2 := Lib.hid hG2
   have HPC1 : Hid (w1.rangeAt p (0 + 0 * 2) x.cs) := Lib.hid (fun j u hu => below_at hb (HPC.out j u hu))
   have HAT1 : Hid (∀ j v, (vs.drop i)[j]? = some v → w1.rangeAt g (0 + i * 2 + j * 2) v) := Lib.hid (fun j v hv k u hu => below_at hb (HAT.out j v hv k u hu))
   have hgh : g < h := Nat.lt_of_lt_of_le HR.out.lt hh
   have HHH := Lib.hid hh
   clear hrw hb hG2 hh hd
   have hrl : (vs.take i ++ List.replicate (G - i) La.zero.cs).length = G := by have := HLEN.out; simp; omega
   have HRL := Lib.hid hrl
   clear hrl
   have hcp : ∀ ty off, off = 0 + i * 2 → (Builtin.copy_ #[37, 37] ty #[.slice (some ⟨h, off, none⟩) (n + 1 - i) (G - i), .slice (some ⟨p, 0, none⟩) 1 1]).run Tryz.prog w1 = .ok (goInt 1) (w1.setCells h (0 + i * 2) [x.cs].flatten) := fun ty off hoff => by
    subst hoff
    exact run_copyR w1 37 37 ty 96 2 und37 size96 h (0 + i * 2) (n + 1 - i) (G - i) p 0 1 1 [x.cs] (by simp only [List.length_singleton, Nat.min_def]; split <;> omega) (by simp [La.cs_len]) (fun j v hv => by
     cases j with
     | zero =>
          obtain rfl : x.cs = v := by simpa using hv
          exact HPC1.out
     | succ j => simp at hv) (by simpa using x.one_cs) (HR1.out.there (i := i) (k := 1) (by rw [HRL.out]; omega))
   have HCP := Lib.hid hcp
   clear hcp
   have HR2 : Hid (Rw (w1.setCells h (0 + i * 2) [x.cs].flatten) 96 2 h (overL (vs.take i ++ List.replicate (G - i) La.zero.cs) i [x.cs])) := Lib.hid (HR1.out.over (by simp [La.cs_len]) (by rw [HRL.out]; simp; omega))
   have HK2 : Hid (Kept (fun k => k = h) w1 (w1.setCells h (0 + i * 2) [x.cs].flatten)) := Lib.hid (Kept.setCells h _ _ _)
   go_upto_region 11 with (first | (refine wpList_run rfl (exec_sliceLo und37 Tryz.sizeOf96 (i := i) rfl rfl rfl rfl (by omega) (by omega) (by omega)) ?_) | (refine wpList_run rfl (exec_copy rfl rfl rfl (HCP.out _ _ (by omega))) ?_))
   generalize w1.setCells h (0 + i * 2) [x.cs].flatten = w2 at HR2 HK2
   have HAT2 : Hid (∀ j v, (vs.drop i)[j]? = some v → w2.rangeAt g (0 + i * 2 + j * 2) v) := Lib.hid (fun j v hv k u hu => HK2.out.at_ (HAT1.out j v hv k u hu) (by omega))
   have HOL : Hid ((overL (vs.take i ++ List.replicate (G - i) La.zero.cs) i [x.cs]).length = G) := Lib.hid (by rw [overL_length _ _ _ (by rw [HRL.out]; simp; omega), HRL.out])
   have HCP2 : Hid (∀ ty, (Builtin.copy_ #[37, 37] ty #[.slice (some ⟨h, 0 + (i + 1) * 2, none⟩) (n + 1 - (i + 1)) (G - (i + 1)), .slice (some ⟨g, 0 + i * 2, none⟩) (n - i) (cap - i)]).run Tryz.prog w2.drew = .ok (goInt (vs.drop i).length) (w2.drew.setCells h (0 + (i + 1) * 2) (vs.drop i).flatten)) := Lib.hid (fun ty =>
    run_copyR w2.drew 37 37 ty 96 2 und37 size96 h (0 + (i + 1) * 2) (n + 1 - (i + 1)) (G - (i + 1)) g (0 + i * 2) (n - i) (cap - i) (vs.drop i) (by rw [HDL.out]; simp only [Nat.min_def]; split <;> omega) HDE.out (fun j v hv => HAT2.out j v hv) HD1.out (HR2.out.there (i := i + 1) (k := (vs.drop i).length) (by rw [HOL.out, HDL.out]; omega)))
   have HR3 : Hid (Rw (w2.drew.setCells h (0 + (i + 1) * 2) (vs.drop i).flatten) 96 2 h (overL (overL (vs.take i ++ List.replicate (G - i) La.zero.cs) i [x.cs]) (i + 1) (vs.drop i))) := Lib.hid ((HR2.out.below (drew_below w2)).over HDE.out (by rw [HOL.out, HDL.out]; omega))
   have HK3 : Hid (Kept (fun k => k = h) w2 (w2.drew.setCells h (0 + (i + 1) * 2) (vs.drop i).flatten)) := Lib.hid ((Kept.drew _ w2).trans (Kept.setCells h _ _ _) (fun _ h => .inl h))
   refine wp_region_held_drew (S := fun _ => True) (by kernel_rfl) trivial (fun hS => ?_)
   refine held_tk 0 46 (.slice (some ⟨h, 0, none⟩) (n + 1) G) rfl rfl (by kernel_rfl) (fun _ _ _ h => h) (fun _ _ => rfl) trivial ?_
   simp only [Act.put, ap1, ap2, ap3]
   refine held_tk 1 47 (.int .i64 (i : Int)) rfl rfl (by kernel_rfl) (fun _ _ _ h => h) (fun _ _ => rfl) trivial ?_
   simp only [Act.put, ap1, ap2, ap3]
   refine held_tk 2 48 (.int .i64 1) rfl rfl (by kernel_rfl) (fun _ _ _ h => h) (fun _ _ => rfl) trivial ?_
   simp only [Act.put, ap1, ap2, ap3]
   refine held_tk 3 49 (.int .i64 ((i : Int) + 1)) rfl rfl (by kernel_rfl) (fun _ _ _ h => h) (fun _ _ => exec_addN rfl rfl rfl rfl (by omega) (by omega)) trivial ?_
   simp only [Act.put, ap1, ap2, ap3]
   refine held_tk 4 50 (.slice (some ⟨h, 0 + (i + 1) * 2, none⟩) (n + 1 - (i + 1)) (G - (i + 1))) rfl rfl (by kernel_rfl) (fun _ _ _ h => h) (fun _ _ => exec_sliceLo und37 Tryz.sizeOf96 (i := i + 1) rfl rfl rfl (by omega) (by omega) (by omega) (by omega)) trivial ?_
   simp only [Act.put, ap1, ap2, ap3]
   refine held_tk 5 51 (.slice (some ⟨g, 0, none⟩) n cap) rfl rfl (by kernel_rfl) (fun _ _ _ h => h) (fun _ _ => rfl) trivial ?_
   simp only [Act.put, ap1, ap2, ap3]
   refine held_tk 6 52 (.int .i64 (i : Int)) rfl rfl (by kernel_rfl) (fun _ _ _ h => h) (fun _ _ => rfl) trivial ?_
   simp only [Act.put, ap1, ap2, ap3]
   refine held_tk 7 53 (.slice (some ⟨g, 0 + i * 2, none⟩) (n - i) (cap - i)) rfl rfl (by kernel_rfl) (fun _ _ _ h => h) (fun _ _ => exec_sliceLo und37 Tryz.sizeOf96 (i := i) rfl rfl rfl rfl (by omega) (by omega) (by omega)) trivial ?_
   simp only [Act.put, ap1, ap2, ap3]
   refine held_exec 8 54 (goInt (vs.drop i).length) rfl rfl (by kernel_rfl) (by kernel_rfl) (exec_copy rfl rfl rfl (HCP2.out _)) trivial ?_
   simp only [Act.put, ap1, ap2, ap3]
   refine wpAnyH_done (by kernel_rfl) ?_ _
   generalize w2.drew.setCells h (0 + (i + 1) * 2) (vs.drop i).flatten = w3 at HR3 HK3
   have HE : Hid (InsP 96 2 w B (some ⟨g, 0, none⟩) (vs.take i ++ x.cs :: vs.drop i) (.returned (.slice (some ⟨h, 0, none⟩) (n + 1) G)) w3) := by
    have hl := HLEN.out
    have ho := HR3.out.own (B := B) (n := n + 1) (by have := HBG.out; omega) hG1 (by rw [overL_length _ _ _ (by rw [HOL.out, HDL.out]; omega), HOL.out]) HG2.out
    rw [ins_grow x.cs hl hlt (by simp; omega)] at ho
    refine Lib.hid ⟨some ⟨h, 0, none⟩, G, by rw [ins_len _ hl hi], by rw [ins_len _ hl hi]; exact ho, ?_, fun ad e => .inr (by cases e; exact HHH.out)⟩
    have hbb : Below w.heap.size w w3 := (HB1.out.trans (HK2.out.below HB1.out.size (fun k hk => by rw [hk]; exact HHH.out))).trans (HK3.out.below (Nat.le_trans HB1.out.size HK2.out.size) (fun k hk => by rw [hk]; exact HHH.out))
    exact .of_below hbb
   go_wp2_with fail
   go_ret
   exact HE.out
  ·have hd : decide ((cap : Int) < (n : Int) + 1) = false := by simp; omega
   have hul : (vs ++ us).length = cap := by have := HLEN.out; simp; omega
   have HUL := Lib.hid hul
   clear hul
   have HDS : Hid ((vs ++ us).flatten.toArray.size ≠ 0) := Lib.hid (by
    have := flat_len HR.out.each
    rw [HUL.out] at this
    rw [List.size_toArray, this]
    omega)
   go_enter Tryz.func94, Tryz.ntmps94
   go_upto_region 15 with (first | (refine wpList_run rfl (exec_sliceLo und37 Tryz.sizeOf96 (i := i) rfl rfl rfl rfl (by omega) (by omega) (by omega)) ?_) | (refine wpList_run rfl (exec_sliceLo und37 Tryz.sizeOf96 (i := i + 1) rfl rfl rfl (by omega) (by omega) (by omega) (by omega)) ?_) | (refine wpList_run rfl (exec_sliceHi und37 Tryz.sizeOf96 (i := n + 1) rfl rfl rfl (by omega) (by omega) rfl) ?_) | (refine wpList_run rfl (exec_overL rfl rfl rfl rfl HGP.out HP.out HR.out.blk HDS.out) ?_))
   have HCP2 : Hid (∀ ty, (Builtin.copy_ #[37, 37] ty #[.slice (some ⟨g, 0 + (i + 1) * 2, none⟩) (n + 1 - (i + 1)) (cap - (i + 1)), .slice (some ⟨g, 0 + i * 2, none⟩) (n + 1 - i) (cap - i)]).run Tryz.prog w.drew = .ok (goInt (vs.drop i).length) (w.drew.setCells g (0 + (i + 1) * 2) (vs.drop i).flatten)) := Lib.hid (fun ty =>
    run_copyR w.drew 37 37 ty 96 2 und37 size96 g (0 + (i + 1) * 2) (n + 1 - (i + 1)) (cap - (i + 1)) g (0 + i * 2) (n + 1 - i) (cap - i) (vs.drop i) (by rw [HDL.out]; simp only [Nat.min_def]; split <;> omega) HDE.out (fun j v hv => HAT.out j v hv) HD1.out (HR.out.there (i := i + 1) (k := (vs.drop i).length) (by rw [HUL.out, HDL.out]; omega)))
   have HR2 : Hid (Rw (w.drew.setCells g (0 + (i + 1) * 2) (vs.drop i).flatten) 96 2 g (overL (vs ++ us) (i + 1) (vs.drop i))) := Lib.hid ((HR.out.below (drew_below w)).over HDE.out (by rw [HUL.out, HDL.out]; omega))
   have HK2 : Hid (Kept (fun k => k = g) w (w.drew.setCells g (0 + (i + 1) * 2) (vs.drop i).flatten)) := Lib.hid ((Kept.drew _ w).trans (Kept.setCells g _ _ _) (fun _ h => .inl h))
   refine wp_region_held_drew (S := fun _ => True) (by kernel_rfl) trivial (fun hS => ?_)
   refine held_tk 0 69 (.slice (some ⟨g, 0, none⟩) (n + 1) cap) rfl rfl (by kernel_rfl) (fun _ _ _ h => h) (fun _ _ => rfl) trivial ?_
   simp only [Act.put, ap1, ap2, ap3]
   refine held_tk 1 70 (.int .i64 (i : Int)) rfl rfl (by kernel_rfl) (fun _ _ _ h => h) (fun _ _ => rfl) trivial ?_
   simp only [Act.put, ap1, ap2, ap3]
   refine held_tk 2 71 (.int .i64 1) rfl rfl (by kernel_rfl) (fun _ _ _ h => h) (fun _ _ => rfl) trivial ?_
   simp only [Act.put, ap1, ap2, ap3]
   refine held_tk 3 72 (.int .i64 ((i : Int) + 1)) rfl rfl (by kernel_rfl) (fun _ _ _ h => h) (fun _ _ => exec_addN rfl rfl rfl rfl (by omega) (by omega)) trivial ?_
   simp only [Act.put, ap1, ap2, ap3]
   refine held_tk 4 73 (.slice (some ⟨g, 0 + (i + 1) * 2, none⟩) (n + 1 - (i + 1)) (cap - (i + 1))) rfl rfl (by kernel_rfl) (fun _ _ _ h => h) (fun _ _ => exec_sliceLo und37 Tryz.sizeOf96 (i := i + 1) rfl rfl rfl (by omega) (by omega) (by omega) (by omega)) trivial ?_
   simp only [Act.put, ap1, ap2, ap3]
   refine held_tk 5 74 (.slice (some ⟨g, 0, none⟩) (n + 1) cap) rfl rfl (by kernel_rfl) (fun _ _ _ h => h) (fun _ _ => rfl) trivial ?_
   simp only [Act.put, ap1, ap2, ap3]
   refine held_tk 6 75 (.int .i64 (i : Int)) rfl rfl (by kernel_rfl) (fun _ _ _ h => h) (fun _ _ => rfl) trivial ?_
   simp only [Act.put, ap1, ap2, ap3]
   refine held_tk 7 76 (.slice (some ⟨g, 0 + i * 2, none⟩) (n + 1 - i) (cap - i)) rfl rfl (by kernel_rfl) (fun _ _ _ h => h) (fun _ _ => exec_sliceLo und37 Tryz.sizeOf96 (i := i) rfl rfl rfl rfl (by omega) (by omega) (by omega)) trivial ?_
   simp only [Act.put, ap1, ap2, ap3]
   refine held_exec 8 77 (goInt (vs.drop i).length) rfl rfl (by kernel_rfl) (by kernel_rfl) (exec_copy rfl rfl rfl (HCP2.out _)) trivial ?_
   simp only [Act.put, ap1, ap2, ap3]
   refine wpAnyH_done (by kernel_rfl) ?_ _
   generalize w.drew.setCells g (0 + (i + 1) * 2) (vs.drop i).flatten = w2 at HR2 HK2
   have HOL : Hid ((overL (vs ++ us) (i + 1) (vs.drop i)).length = cap) := Lib.hid (by rw [overL_length _ _ _ (by rw [HUL.out, HDL.out]; omega), HUL.out])
   have HPC2 : Hid (w2.rangeAt p (0 + 0 * 2) x.cs) := Lib.hid (fun j u hu => HK2.out.at_ (HPC.out j u hu) (fun e => HGP.out e))
   have hcp : ∀ ty off, off = 0 + i * 2 → (Builtin.copy_ #[37, 37] ty #[.slice (some ⟨g, off, none⟩) (n + 1 - i) (cap - i), .slice (some ⟨p, 0, none⟩) 1 1]).run Tryz.prog w2 = .ok (goInt 1) (w2.setCells g (0 + i * 2) [x.cs].flatten) := fun ty off hoff => by
    subst hoff
    exact run_copyR w2 37 37 ty 96 2 und37 size96 g (0 + i * 2) (n + 1 - i) (cap - i) p 0 1 1 [x.cs] (by simp only [List.length_singleton, Nat.min_def]; split <;> omega) (by simp [La.cs_len]) (fun j v hv => by
     cases j with
     | zero =>
          obtain rfl : x.cs = v := by simpa using hv
          exact HPC2.out
     | succ j => simp at hv) (by simpa using x.one_cs) (HR2.out.there (i := i) (k := 1) (by rw [HOL.out]; omega))
   have HCP := Lib.hid hcp
   clear hcp
   have HE : Hid (InsP 96 2 w B (some ⟨g, 0, none⟩) (vs.take i ++ x.cs :: vs.drop i) (.returned (.slice (some ⟨g, 0, none⟩) (n + 1) cap)) (w2.setCells g (0 + i * 2) [x.cs].flatten)) := by
    have hl := HLEN.out
    have ho := (HR2.out.over (us := [x.cs]) (i := i) (by simp [La.cs_len]) (by rw [HOL.out]; simp; omega)).own (B := B) (n := n + 1) HBG.out (by omega) (by rw [overL_length _ _ _ (by rw [HOL.out]; simp; omega), HOL.out]) HCM.out
    rw [ins_room x.cs hl hlt (by omega)] at ho
    refine Lib.hid ⟨some ⟨g, 0, none⟩, cap, by rw [ins_len _ hl hi], by rw [ins_len _ hl hi]; exact ho, kept_at (HK2.out.trans (Kept.setCells g _ _ _) (fun _ h => .inl h)), fun ad e => .inl ⟨ad, e, rfl⟩⟩
   go_wp2_with (first | (refine wpList_run rfl (exec_sliceLo und37 Tryz.sizeOf96 (i := i) rfl rfl rfl rfl (by omega) (by omega) (by omega)) ?_) | (refine wpList_run rfl (exec_copy rfl rfl rfl (HCP.out _ _ (by omega))) ?_))
   go_ret
   have h := HE.out
   rw [Nat.zero_add] at h
   exact h
end Go.Proofs.YtnekpgmgnepdoaaGreat
end
section
namespace Go.Proofs.YtnekpgmgnepdoaaGreat
open Go.RowKit
theorem flat_set1 {size : Nat} : ∀ {vs : List (List Value)} {k j : Nat} {v : List Value} {u : Value}, (∀ v ∈ vs, v.length = size) → vs[k]? = some v → j < size → vs.flatten.set (k * size + j) u = (vs.set k (v.set j u)).flatten
 | [], k, _, _, _, _, h, _ => by simp at h
 | x :: vs, 0, j, v, u, hv, h, hj => by
  obtain rfl : x = v := by simpa using h
  have hx := hv x List.mem_cons_self
  rw [List.flatten_cons, List.set_cons_zero, List.flatten_cons, Nat.zero_mul, Nat.zero_add, List.set_append_left _ _ (by omega)]
 | x :: vs, k + 1, j, v, u, hv, h, hj => by
  have hx := hv x List.mem_cons_self
  rw [List.flatten_cons, List.set_cons_succ, List.flatten_cons, List.set_append_right _ _ (by rw [hx, Nat.add_mul]; omega), hx, show (k + 1) * size + j - size = k * size + j by rw [Nat.add_mul]; omega, flat_set1 (fun v hv' => hv v (List.mem_cons_of_mem _ hv')) (by simpa using h) hj]
theorem Rw.set1 {W : World} {e size g : Nat} {vs : List (List Value)} (h : Rw W e size g vs) {k j : Nat} {v : List Value} {u : Value} (hv : vs[k]? = some v) (hj : j < size) : Rw (W.setCell ⟨g, 0 + k * size + j, none⟩ u) e size g (vs.set k (v.set j u)) := by
 refine ⟨?_, fun x hx => ?_⟩
 ·have := h.blk.set (0 + k * size + j) u
  rw [Nat.zero_add] at this ⊢
  rw [← flat_set1 h.each hv hj]
  simpa using this
 ·rcases List.mem_or_eq_of_mem_set hx with hx | rfl
  ·exact h.each x hx
  ·rw [List.length_set]; exact h.each v (List.mem_of_getElem? hv)
theorem exec_max {ev : Operand → Value} {q : Oper} {w : World} {x y : Operand} {a b : Nat} (ho : q.op = .call { callee := .builtin .max, args := #[x, y], argTypes := #[22, 22] }) (hx : ev x = .int .u32 (a : Int)) (hy : ev y = .int .u32 (b : Int)) : (execOp ev q).run Tryz.prog w = .ok (.value (.int .u32 ((max a b : Nat) : Int))) w := by
 have e : ((max a b : Nat) : Int) = max (a : Int) (b : Int) := by omega
 rw [e]
 unfold execOp
 simp only [ho]
 go_simp
theorem exec_bldL {ev : Operand → Value} {q : Oper} {w : World} {x y : Operand} {t : La} (ho : q.op = .build 96 #[(0, x), (1, y)]) (hx : ev x = .int .u16 (t.c : Int)) (hy : ev y = .int .u32 (t.t : Int)) : (execOp ev q).run Tryz.prog w = .ok (.value (.agg t.arr)) w := by
 have hm : (#[((0 : Nat), x), (1, y)]).map (fun (i, x) => (i, ev x)) = #[(0, .int .u16 (t.c : Int)), (1, .int .u32 (t.t : Int))] := by simp [hx, hy]
 have hb : (Instr.build 96 #[(0, .int .u16 (t.c : Int)), (1, .int .u32 (t.t : Int))]).run Tryz.prog w = .ok (.agg t.arr) w := run_build w 96 _ _ (by kernel_rfl)
 unfold execOp
 simp only [ho, hm, Sem.run_bind, hb, Result.andThen_ok]
 rfl
theorem exec_st22 {ev : Operand → Value} {q : Oper} {w : World} {x y : Operand} {g o t n : Nat} {cs : Array Value} (ho : q.op = .store 22 x y) (hx : ev x = .pointer (some ⟨g, o, none⟩)) (hy : ev y = .int .u32 (n : Int)) (h : Blk w g t cs) (hlt : o < cs.size) : (execOp ev q).run Tryz.prog w = .ok .skip (w.setCell ⟨g, o, none⟩ (.int .u32 (n : Int))) := by
 have hc : w.cell? ⟨g, o, none⟩ = some cs[o] := by rw [h.cell]; exact Array.getElem?_eq_getElem hlt
 have hf : w.frozen? ⟨g, o, none⟩ = false := h.frozen o
 have hu := Tryz.underlying22
 generalize cs[o] = old at hc
 unfold execOp
 simp only [ho, hx, hy]
 go_simp
theorem cells_take (l : List La) (k : Nat) (x : La) : (cellsL l).take k ++ x.cs :: (cellsL l).drop k = cellsL (l.take k ++ x :: l.drop k) := by simp [cellsL]
theorem cells_takeE (l : List En) (k : Nat) (x : En) : (cellsE l).take k ++ x.cs :: (cellsE l).drop k = cellsE (l.take k ++ x :: l.drop k) := by simp [cellsE]
theorem tkIx_le (l : List La) (c : Nat) : tkIx l c ≤ l.length := List.countP_le_length
set_option maxRecDepth 100000 in
set_option maxHeartbeats 4000000 in
theorem applyTick_any {a : Option Addr} {n cap : Nat} {l : List La} {w : World} (hl : LL w a n l) (hn : n < 300000) (hup : l.Pairwise fun a b => a.c < b.c) (o : O) : Calls Tryz.prog 43 #[.slice a n cap, .agg o.arr] w (OwnsP 96 2 (cellsL (ticked (tickO o) l)) w) := by
 have HL := Lib.hid hl
 have hlen := hl.len'
 have HLEN := Lib.hid hlen
 have HUP := Lib.hid hup
 have hkl := tkIx_le l o.c
 have hb1 := fun (o : O) w => box33 o w
 have HP := Lib.hid (ow_new w o)
 clear hl hup
 go_enter Tryz.func43, Tryz.ntmps43
 go_wp2_with fail
 clear hb1
 generalize w.alloc (.cells o.arr 33) = w0 at HP
 refine (cloneL_any (cap := cap) (HL.out.below HP.out.old) (by omega)).mono ?_
 rintro e w1 ⟨a1, cap1, rfl, ho1, hb⟩
 rw [show (cellsL l).length = n by simp [cellsL, hlen]] at ho1 ⊢
 have HP1 := Lib.hid (HP.out.below hb)
 have HO1 := Lib.hid ho1
 have hB : w.heap.size ≤ w0.heap.size := HP.out.old.size
 have HB := Lib.hid hB
 have HPW : Hid (w.heap.size < w0.heap.size) := Lib.hid HP.out.one.lt
 obtain ⟨p, hp⟩ : ∃ p, w.heap.size = p := ⟨_, rfl⟩
 have HPP := Lib.hid hp
 have HOP : Hid (Blk w1 p 33 o.arr) := Lib.hid (by rw [← hp]; exact HP1.out.one)
 have HOLD := Lib.hid HP1.out.old
 have HWS : Hid (w0.heap.size ≤ w1.heap.size) := Lib.hid hb.size
 rw [hp]
 clear ho1 hb hB hp HP HP1 HL hlen
 have c3 := oc3 HOP.out
 go_wp2_with fail
 clear c3
 refine (tickIndex_any HO1.out.gl (by omega) HUP.out o.c).mono ?_
 rintro e w2 ⟨rfl, hg⟩
 have HO2 := Lib.hid (HO1.out.below hg.below)
 have HOP2 := Lib.hid (HOP.out.grew hg)
 have HB2 : Hid (Below w.heap.size w w2) := Lib.hid (HOLD.out.trans (hg.below.mono HOLD.out.size))
 have HSZ : Hid (w0.heap.size ≤ w2.heap.size) := Lib.hid (by
  rcases HO2.out.row.2 with h | ⟨g, c, cur, hv, hgB, hgb, _⟩
  ·have h1 := HOP2.out.lt
   have h2 := hg.below.size
   exact Nat.le_trans HWS.out h2
  ·have := (Array.getElem?_eq_some_iff.1 hgb).1; omega)
 clear hg HO1 HOP HOLD
 obtain ⟨k, hk⟩ : ∃ k, tkIx l o.c = k := ⟨_, rfl⟩
 have HK := Lib.hid hk
 rw [hk] at hkl
 rw [hk]
 have hkn' : k ≤ n := by have := HLEN.out; omega
 clear hk hkl
 cases hf : (tkOf l o.c).isSome
 ·have HF : Hid (∀ y ∈ l, y.c ≠ (tickO o).c) := Lib.hid (fun y hy e => by
   have := (tkOf_some (l := l) (c := o.c)).2 ⟨y, hy, e⟩
   rw [hf] at this
   cases this)
  have HT : Hid ((cellsL l).take k ++ (tickO o).cs :: (cellsL l).drop k = cellsL (ticked (tickO o) l)) := Lib.hid (by
   rw [cells_take, ticked_new HUP.out HF.out (k := k) HK.out])
  clear hf
  have c3 := oc3 HOP2.out
  have c6 := oc6 HOP2.out
  go_wp2_with (first | (refine wpList_run rfl (exec_bldL (t := tickO o) rfl rfl rfl) ?_) | (refine wpList_run rfl (exec_bs96 (p := tickO o) rfl rfl) ?_))
  refine (insL_any (B := w0.heap.size) (x := tickO o) (HO2.out.below (below_one w2 _)) (cellsL_one l) (Blk.new w2 96 (tickO o).arr) (fun ad e => Nat.ne_of_lt (HO2.out.lt ad e).2) hkn' (by omega) (by have := HSZ.out; simp; omega)).mono ?_
  rintro e w3 ⟨a3, cap3, rfl, ho3, hk3, hl3⟩
  rw [HT.out] at ho3 ⊢
  have HE : Hid (OwnsP 96 2 (cellsL (ticked (tickO o) l)) w (.returned (.slice a3 (cellsL (ticked (tickO o) l)).length cap3)) w3) := Lib.hid ⟨a3, cap3, rfl, ho3.mono HB.out, by
   have h1 : Below w.heap.size w (w2.alloc (.cells (tickO o).arr 96)) := HB2.out.trans ((below_one w2 _).mono HB2.out.size)
   exact h1.trans (hk3.below h1.size (fun j ⟨ad, had, e⟩ => by rw [e]; exact Nat.le_trans HB.out (HO2.out.lt ad had).1))⟩
  generalize (cellsL (ticked (tickO o) l)).length = N at HE
  clear ho3 hk3 hl3 c3 c6
  go_wp2_with fail
  go_ret
  exact HE.out
 ·have hex : ∃ y ∈ l, y.c = (tickO o).c := (tkOf_some (l := l) (c := o.c)).1 hf
  obtain ⟨y, hy, hyc, hset⟩ := ticked_old (x := tickO o) HUP.out hex (k := k) HK.out
  have hkn : k < n := by have := (List.getElem?_eq_some_iff.1 hy).1; have := HLEN.out; omega
  obtain ⟨g, us, rfl, hrw, hcap, hBg, hcm⟩ : ∃ g us, a1 = some ⟨g, 0, none⟩ ∧ Rw w2 96 2 g (cellsL l ++ us) ∧ n + us.length = cap1 ∧ w0.heap.size ≤ g ∧ cap1 ≤ maxLen := by
   rcases HO2.out.rw' (by decide) with ⟨_, h0, _⟩ | h
   ·omega
   ·exact h
  have hat : (cellsL l ++ us)[k]? = some y.cs := by
   rw [List.getElem?_append_left (by simp [cellsL]; have := HLEN.out; omega)]
   simp [cellsL, hy]
  have HC : Hid (w2.cell? ⟨g, 0 + k * 2 + 1, none⟩ = some (.int .u32 (y.t : Int))) := Lib.hid (hrw.at hat 1 _ rfl)
  have HR2 : Hid (Rw (w2.drew.setCell ⟨g, 0 + k * 2 + 1, none⟩ (.int .u32 ((max y.t o.t : Nat) : Int))) 96 2 g ((cellsL l ++ us).set k (y.cs.set 1 (.int .u32 ((max y.t o.t : Nat) : Int))))) := Lib.hid ((hrw.below (drew_below w2)).set1 hat (by decide))
  have HS : Hid ((((cellsL l ++ us).set k (y.cs.set 1 (.int .u32 ((max y.t o.t : Nat) : Int)))).take n) = cellsL (ticked (tickO o) l)) := Lib.hid (by
   rw [← hset ⟨o.c, max y.t o.t, o.hc, by have := y.ht; have := o.ht; omega⟩ rfl rfl]
   rw [List.set_append_left _ _ (by simp [cellsL]; have := HLEN.out; omega), List.take_append_of_le_length (by simp [cellsL]; have := HLEN.out; omega), List.take_of_length_le (by simp [cellsL]; have := HLEN.out; omega)]
   unfold cellsL
   rw [List.map_set]
   congr 1
   show [Value.int .u16 (y.c : Int), Value.int .u32 ((max y.t o.t : Nat) : Int)] = [Value.int .u16 (o.c : Int), Value.int .u32 ((max y.t o.t : Nat) : Int)]
   rw [show y.c = o.c from hyc])
  have HRW := Lib.hid hrw
  have HLT : Hid (0 + k * 2 + 1 < (cellsL l ++ us).flatten.toArray.size) := Lib.hid (by
   have := flat_len hrw.each
   have h2 := HLEN.out
   rw [List.size_toArray, this]
   simp [cellsL]
   omega)
  have HBG := Lib.hid (show n + us.length = cap1 ∧ w0.heap.size ≤ g ∧ cap1 ≤ maxLen from ⟨hcap, hBg, hcm⟩)
  have HNE : Hid (¬ p = g) := Lib.hid (by have := HPP.out; have := HPW.out; omega)
  have yt := y.ht
  clear hf hex hset hy hyc hat hrw hcap hBg hcm
  have HE : Hid (OwnsP 96 2 (cellsL (ticked (tickO o) l)) w (.returned (.slice (some ⟨g, 0, none⟩) n cap1)) (w2.drew.setCell ⟨g, 0 + k * 2 + 1, none⟩ (.int .u32 ((max y.t o.t : Nat) : Int)))) := by
   obtain ⟨h1, h2, h3⟩ := HBG.out
   have hl := HLEN.out
   have ho := HR2.out.own (B := w.heap.size) (n := n) (Nat.le_trans HB.out h2) (by omega) (by simp [cellsL]; omega) h3
   rw [HS.out] at ho
   have hlen2 : (cellsL (ticked (tickO o) l)).length = n := by have := ho.len; exact this
   exact Lib.hid ⟨_, cap1, by rw [hlen2], by rw [hlen2]; exact ho, (HB2.out.drew).trans ((Kept.setCell w2.drew ⟨g, 0 + k * 2 + 1, none⟩ _).below HB2.out.size (fun j e => by rw [e]; exact Nat.le_trans HB.out h2))⟩
  go_wp2_with fail
  refine wp_region_held_drew (S := fun w' => Blk w' p 33 o.arr) (by kernel_rfl) (HOP2.out.below (drew_below _)) (fun hS => ?_)
  refine held_tk 0 28 (.slice (some ⟨g, 0, none⟩) n cap1) rfl rfl (by kernel_rfl) (fun _ _ _ h => h) (fun _ _ => rfl) hS ?_
  simp only [Act.put, ap1, ap2, ap3]
  refine held_tk 1 29 (.int .i64 (k : Int)) rfl rfl (by kernel_rfl) (fun _ _ _ h => h) (fun _ _ => rfl) hS ?_
  simp only [Act.put, ap1, ap2, ap3]
  refine held_tk 2 30 (.slice (some ⟨g, 0, none⟩) n cap1) rfl rfl (by kernel_rfl) (fun _ _ _ h => h) (fun _ _ => rfl) hS ?_
  simp only [Act.put, ap1, ap2, ap3]
  refine held_tk 3 31 (.int .i64 (k : Int)) rfl rfl (by kernel_rfl) (fun _ _ _ h => h) (fun _ _ => rfl) hS ?_
  simp only [Act.put, ap1, ap2, ap3]
  refine held_tk 4 32 (.pointer (some ⟨g, 0 + k * 2, none⟩)) rfl rfl (by kernel_rfl) (fun _ _ _ h => h) (fun _ _ => exec_idx96 (i := k) rfl rfl rfl rfl hkn) hS ?_
  simp only [Act.put, ap1, ap2, ap3]
  refine held_tk 5 33 (.pointer (some ⟨g, 0 + k * 2 + 1, none⟩)) rfl rfl (by kernel_rfl) (fun _ _ _ h => h) (fun _ _ => (by kernel_rfl)) hS ?_
  simp only [Act.put, ap1, ap2, ap3]
  refine held_tk 7 35 (.pointer (some ⟨p, 6, none⟩)) rfl rfl (by kernel_rfl) (fun _ _ _ h => h) (fun _ _ => (by kernel_rfl)) hS ?_
  simp only [Act.put, ap1, ap2, ap3]
  refine held_tk 8 36 (.int .u32 (o.t : Int)) rfl rfl (by kernel_rfl) (fun _ _ _ h => h) (fun _ h => exec_cell rfl rfl (load_cell (by kernel_rfl) (oc6 h))) hS ?_
  simp only [Act.put, ap1, ap2, ap3]
  refine held_exec 6 34 (.int .u32 (y.t : Int)) rfl rfl (by kernel_rfl) (by kernel_rfl) (exec_cell rfl rfl (load_cell (by kernel_rfl) HC.out)) hS ?_
  simp only [Act.put, ap1, ap2, ap3]
  refine held_tk 9 37 (.int .u32 ((max y.t o.t : Nat) : Int)) rfl rfl (by kernel_rfl) (fun _ _ _ h => h) (fun _ _ => exec_max rfl rfl rfl) hS ?_
  simp only [Act.put, ap1, ap2, ap3]
  refine held_tk 10 38 (.pointer (some ⟨g, 0 + k * 2, none⟩)) rfl rfl (by kernel_rfl) (fun _ _ _ h => h) (fun _ _ => exec_idx96 (i := k) rfl rfl rfl rfl hkn) hS ?_
  simp only [Act.put, ap1, ap2, ap3]
  refine held_tk 11 39 (.pointer (some ⟨g, 0 + k * 2 + 1, none⟩)) rfl rfl (by kernel_rfl) (fun _ _ _ h => h) (fun _ _ => (by kernel_rfl)) hS ?_
  simp only [Act.put, ap1, ap2, ap3]
  refine held_void 12 rfl rfl (by kernel_rfl) (by kernel_rfl) (exec_st22 rfl rfl rfl (HRW.out.below (drew_below w2)).blk HLT.out) (hS.kept (Kept.setCell w2.drew ⟨g, 0 + k * 2 + 1, none⟩ _) HNE.out) ?_
  clear hS
  generalize w2.drew.setCell ⟨g, 0 + k * 2 + 1, none⟩ (.int .u32 ((max y.t o.t : Nat) : Int)) = w4 at HE
  refine wpAnyH_done (by kernel_rfl) ?_ _
  go_wp2_with fail
  go_ret
  exact HE.out
end Go.Proofs.YtnekpgmgnepdoaaGreat
end
