import Derived.Test.YtnekpgmgnepdoaaGreatZau
section
namespace Go.Proofs.YtnekpgmgnepdoaaGreat
open Go.ChangeShapes Go.WideShapes Go.ChangeAt Go.RowKit Go.Joins
theorem cells67' : Tryz.prog.cellsOf 67 = 1 := by kernel_rfl
theorem cells93' : Tryz.prog.cellsOf 93 = 7 := by kernel_rfl
theorem cells95' : Tryz.prog.cellsOf 95 = 2 := by kernel_rfl
theorem cells25' : Tryz.prog.cellsOf 25 = 1 := by kernel_rfl
theorem cells26' : Tryz.prog.cellsOf 26 = 1 := by kernel_rfl
theorem cells28' : Tryz.prog.cellsOf 28 = 18 := by kernel_rfl
theorem choose_es {W : World} {x : Addr} : ∀ {n : Nat}, (∀ i, i < n → ∃ p : En, ∀ j u, p.cs[j]? = some u → W.cell? (x.add (i * 7 + j)) = some u) → ∃ l : List En, l.length = n ∧ ∀ i p, l[i]? = some p → ∀ j u, p.cs[j]? = some u → W.cell? (x.add (i * 7 + j)) = some u
 | 0, _ => ⟨[], rfl, fun i p h => by simp at h⟩
 | n + 1, h => by
  obtain ⟨l, hl, hp⟩ := choose_es (n := n) fun i hi => h i (by omega)
  obtain ⟨p, hpp⟩ := h n (by omega)
  refine ⟨l ++ [p], by simp [hl], fun i q hq => ?_⟩
  by_cases hi : i < n
  ·rw [List.getElem?_append_left (by omega)] at hq
   exact hp i q hq
  ·have hlt := (List.getElem?_eq_some_iff.1 hq).1
   simp only [List.length_append, List.length_cons, List.length_nil] at hlt
   obtain rfl : i = n := by omega
   rw [List.getElem?_append_right (by omega), hl, Nat.sub_self] at hq
   obtain rfl := Option.some.inj hq
   exact hpp
theorem choose_ts {W : World} {x : Addr} : ∀ {n : Nat}, (∀ i, i < n → ∃ p : La, ∀ j u, p.cs[j]? = some u → W.cell? (x.add (i * 2 + j)) = some u) → ∃ l : List La, l.length = n ∧ ∀ i p, l[i]? = some p → ∀ j u, p.cs[j]? = some u → W.cell? (x.add (i * 2 + j)) = some u
 | 0, _ => ⟨[], rfl, fun i p h => by simp at h⟩
 | n + 1, h => by
  obtain ⟨l, hl, hp⟩ := choose_ts (n := n) fun i hi => h i (by omega)
  obtain ⟨p, hpp⟩ := h n (by omega)
  refine ⟨l ++ [p], by simp [hl], fun i q hq => ?_⟩
  by_cases hi : i < n
  ·rw [List.getElem?_append_left (by omega)] at hq
   exact hp i q hq
  ·have hlt := (List.getElem?_eq_some_iff.1 hq).1
   simp only [List.length_append, List.length_cons, List.length_nil] at hlt
   obtain rfl : i = n := by omega
   rw [List.getElem?_append_right (by omega), hl, Nat.sub_self] at hq
   obtain rfl := Option.some.inj hq
   exact hpp
section
variable {H : Type} {enc : TypeId × Value → H} {W : World}
theorem u64_cell {fuel : Nat} {c : Value} {x : DataW H × List MemPlace} (h : DataW.trod enc Tryz.prog W 0 (fun _ => true) true fuel 67 [c] = some x) : ∃ n : Nat, n < 18446744073709551616 ∧ c = .int .u64 (n : Int) := by
 obtain ⟨z, e, _, w⟩ := DataW.trod_int Tryz.underlying67 h
 have b := bounds_u64 w
 simp only [List.cons.injEq, and_true] at e
 subst e
 obtain ⟨n, rfl⟩ := Int.eq_ofNat_of_zero_le b.1
 exact ⟨n, by omega, rfl⟩
set_option maxRecDepth 100000 in
theorem es_cells {fuel : Nat} {l : List Value} {x : DataW H × List MemPlace} (hl : l.length = 7) (hf0 : DataW.trod enc Tryz.prog W 0 (fun _ => true) true fuel 93 l = some x) : ∃ a : En, l = a.cs := by
 obtain ⟨ys, n, _, _, hlen, hyl, hf⟩ := DataW.trod_struct Tryz.underlying93 hf0
 have hyl2 : ys.length = 6 := hyl
 clear hf0 hlen hyl
 match l, hl, ys, hyl2 with
 | [c0, c1, c2, c3, c4, c5, c6], _, [y0, y1, y2, y3, y4, y5], _ =>
  have h0 : DataW.trod enc Tryz.prog W 0 (fun _ => true) true n 31 [c0] = some y0 := by
   have := hf 0 _ rfl
   simpa [cells31', Value.cells] using this
  have h1 : DataW.trod enc Tryz.prog W 0 (fun _ => true) true n 31 [c1] = some y1 := by
   have := hf 1 _ rfl
   simpa [cells31', Value.cells] using this
  have h2 : DataW.trod enc Tryz.prog W 0 (fun _ => true) true n 31 [c2] = some y2 := by
   have := hf 2 _ rfl
   simpa [cells31', Value.cells] using this
  have h3 : DataW.trod enc Tryz.prog W 0 (fun _ => true) true n 5 [c3] = some y3 := by
   have := hf 3 _ rfl
   simpa [cells5', Value.cells] using this
  have h4 : DataW.trod enc Tryz.prog W 0 (fun _ => true) true n 30 [c4, c5] = some y4 := by
   have := hf 4 _ rfl
   simpa [cells30', Value.cells] using this
  have h5 : DataW.trod enc Tryz.prog W 0 (fun _ => true) true n 67 [c6] = some y5 := by
   have := hf 5 _ rfl
   simpa [cells67', Value.cells] using this
  obtain ⟨x0, l0, rfl⟩ := u16_cell h0
  obtain ⟨x1, l1, rfl⟩ := u16_cell h1
  obtain ⟨x2, l2, rfl⟩ := u16_cell h2
  obtain ⟨x3, l3, rfl⟩ := u8_cell h3
  obtain ⟨x4, x5, l4, l5, rfl, rfl⟩ := dot_cells h4
  obtain ⟨x6, l6, rfl⟩ := u64_cell h5
  exact ⟨⟨x0, x1, x2, x3, x4, x5, x6, l0, l1, l2, l3, l4, l5, l6⟩, rfl⟩
set_option maxRecDepth 100000 in
theorem ts_cells {fuel : Nat} {l : List Value} {x : DataW H × List MemPlace} (hl : l.length = 2) (hf0 : DataW.trod enc Tryz.prog W 0 (fun _ => true) true fuel 95 l = some x) : ∃ a : La, l = a.cs := by
 obtain ⟨ys, n, _, _, hlen, hyl, hf⟩ := DataW.trod_struct Tryz.underlying95 hf0
 have hyl2 : ys.length = 2 := hyl
 clear hf0 hlen hyl
 match l, hl, ys, hyl2 with
 | [c0, c1], _, [y0, y1], _ =>
  have h0 : DataW.trod enc Tryz.prog W 0 (fun _ => true) true n 31 [c0] = some y0 := by
   have := hf 0 _ rfl
   simpa [cells31', Value.cells] using this
  have h1 : DataW.trod enc Tryz.prog W 0 (fun _ => true) true n 22 [c1] = some y1 := by
   have := hf 1 _ rfl
   simpa [cells22', Value.cells] using this
  obtain ⟨x0, l0, rfl⟩ := u16_cell h0
  obtain ⟨x1, l1, rfl⟩ := u32_cell h1
  exact ⟨⟨x0, x1, l0, l1⟩, rfl⟩
end
theorem es_of {H : Type} {enc : TypeId × Value → H} {W : World} {fuel : Nat} {v : Value} {y : DataW H × List MemPlace} (hf : DataW.trod enc Tryz.prog W 0 (fun _ => true) true fuel 25 [v] = some y) :
  ∃ a len cap l, v = .slice a len cap ∧ len ≤ maxLen ∧ EL W a len l := by
 rcases Go.Deep.open_slice Tryz.underlying25 hf with ⟨hcs, _⟩ | ⟨x, l, c, m, n, D, Pl, hcs, _, hl, hm, hmm, _, hi⟩
 ·simp at hcs
  subst hcs
  exact ⟨none, 0, 0, [], rfl, Nat.zero_le _, rfl, .inl rfl⟩
 ·simp at hcs
  subst hcs
  simp at hmm
  have hall : ∀ i, i < l → ∃ q : En, ∀ j u, q.cs[j]? = some u → W.cell? (x.add (i * 7 + j)) = some u := by
   intro i hil
   obtain ⟨cs', hc, ht⟩ := hi i (by omega)
   rw [cells93'] at hc
   obtain ⟨_, hcl, hat⟩ := World.cells?_some hc
   obtain ⟨q, rfl⟩ := es_cells (by simpa using hcl) ht
   refine ⟨q, fun j u hu => ?_⟩
   have hj : j < 7 := by rw [← q.cs_len]; exact (List.getElem?_eq_some_iff.1 hu).1
   have := hat j hj
   rw [Go.Deep.add_add] at this
   rw [this]
   simpa using hu
  obtain ⟨xs, hxl, hxs⟩ := choose_es hall
  refine ⟨some x, l, c, xs, rfl, by omega, by simp [cellsE, hxl], ?_⟩
  by_cases h0 : l = 0
  ·exact .inl h0
  ·obtain ⟨b, off, spot⟩ := x
   have hspot : spot = none := by
    have hl0 : 0 < xs.length := by omega
    have := hxs 0 _ (List.getElem?_eq_getElem hl0) 0 _ rfl
    simpa [Addr.add] using World.cell?_spot this
   subst hspot
   refine .inr ⟨b, off, rfl, fun i v hv j u hu => ?_⟩
   obtain ⟨q, hq, rfl⟩ : ∃ q, xs[i]? = some q ∧ q.cs = v := by simpa [cellsE] using hv
   have := hxs i q hq j u hu
   rw [Addr.add_mid, ← Nat.add_assoc] at this
   exact this
theorem ts_of {H : Type} {enc : TypeId × Value → H} {W : World} {fuel : Nat} {v : Value} {y : DataW H × List MemPlace} (hf : DataW.trod enc Tryz.prog W 0 (fun _ => true) true fuel 26 [v] = some y) :
  ∃ a len cap l, v = .slice a len cap ∧ len ≤ maxLen ∧ LL W a len l := by
 rcases Go.Deep.open_slice Tryz.underlying26 hf with ⟨hcs, _⟩ | ⟨x, l, c, m, n, D, Pl, hcs, _, hl, hm, hmm, _, hi⟩
 ·simp at hcs
  subst hcs
  exact ⟨none, 0, 0, [], rfl, Nat.zero_le _, rfl, .inl rfl⟩
 ·simp at hcs
  subst hcs
  simp at hmm
  have hall : ∀ i, i < l → ∃ q : La, ∀ j u, q.cs[j]? = some u → W.cell? (x.add (i * 2 + j)) = some u := by
   intro i hil
   obtain ⟨cs', hc, ht⟩ := hi i (by omega)
   rw [cells95'] at hc
   obtain ⟨_, hcl, hat⟩ := World.cells?_some hc
   obtain ⟨q, rfl⟩ := ts_cells (by simpa using hcl) ht
   refine ⟨q, fun j u hu => ?_⟩
   have hj : j < 2 := by rw [← q.cs_len]; exact (List.getElem?_eq_some_iff.1 hu).1
   have := hat j hj
   rw [Go.Deep.add_add] at this
   rw [this]
   simpa using hu
  obtain ⟨xs, hxl, hxs⟩ := choose_ts hall
  refine ⟨some x, l, c, xs, rfl, by omega, by simp [cellsL, hxl], ?_⟩
  by_cases h0 : l = 0
  ·exact .inl h0
  ·obtain ⟨b, off, spot⟩ := x
   have hspot : spot = none := by
    have hl0 : 0 < xs.length := by omega
    have := hxs 0 _ (List.getElem?_eq_getElem hl0) 0 _ rfl
    simpa [Addr.add] using World.cell?_spot this
   subst hspot
   refine .inr ⟨b, off, rfl, fun i v hv j u hu => ?_⟩
   obtain ⟨q, hq, rfl⟩ : ∃ q, xs[i]? = some q ∧ q.cs = v := by simpa [cellsL] using hv
   have := hxs i q hq j u hu
   rw [Addr.add_mid, ← Nat.add_assoc] at this
   exact this
set_option maxRecDepth 100000 in
theorem okWide_st {W : World} {r : Reach} {b : Nat} {v : Value} (h : Value.okWide Tryz.prog W r b 28 v) : ∃ cs, v = .agg cs ∧ cs.size = 18 := by
 simp only [Value.okWide, Tryz.underlying28] at h
 obtain ⟨cs, h1, h2, _⟩ := h
 exact ⟨cs, h1, h2.trans cells28'⟩
set_option maxRecDepth 100000 in
theorem sta_of {H : Type} {enc : TypeId × Value → H} {W : World} {r : Reach} {base : Nat} {v : Value} {d : DataW H} {p : List MemPlace} (hv : Value.okWide Tryz.prog W r base 28 v)
  (h : DataW.Trod enc Tryz.prog W 0 (fun _ => true) true 28 v d p) : ∃ (s : Sta) (a b : Option Addr) (n c m d : Nat), v = .agg (sv s.v a n c b m d) ∧ n ≤ maxLen ∧ m ≤ maxLen ∧ SL W s a n b m := by
 obtain ⟨cs, rfl, hs⟩ := okWide_st hv
 obtain ⟨fuel, hf0⟩ := h
 obtain ⟨ys, n, _, _, hlen, hyl, hf⟩ := DataW.trod_struct Tryz.underlying28 hf0
 obtain ⟨l, rfl⟩ : ∃ l : List Value, cs = l.toArray := ⟨cs.toList, by simp⟩
 have hl : l.length = 18 := by simpa using hs
 have hyl2 : ys.length = 3 := hyl
 clear hf0 hlen hyl hs hv
 match l, hl, ys, hyl2 with
 | [c0, c1, c2, c3, c4, c5, c6, c7, c8, c9, c10, c11, c12, c13, c14, c15, c16, c17], _, [y0, y1, y2], _ =>
  have h0 : DataW.trod enc Tryz.prog W 0 (fun _ => true) true n 24 [c0, c1, c2, c3, c4, c5, c6, c7, c8, c9, c10, c11, c12, c13, c14, c15] = some y0 := by
   have := hf 0 _ rfl
   simpa [cells24', Value.cells] using this
  have h1 : DataW.trod enc Tryz.prog W 0 (fun _ => true) true n 25 [c16] = some y1 := by
   have := hf 1 _ rfl
   simpa [cells25', Value.cells] using this
  have h2 : DataW.trod enc Tryz.prog W 0 (fun _ => true) true n 26 [c17] = some y2 := by
   have := hf 2 _ rfl
   simpa [cells26', Value.cells] using this
  obtain ⟨x, hx⟩ := vec_cells rfl h0
  obtain ⟨a, ln, cap, es, rfl, hle, hes⟩ := es_of h1
  obtain ⟨b, lm, cap2, ts, rfl, hlt, hts⟩ := ts_of h2
  refine ⟨⟨x, es, ts⟩, a, b, ln, cap, lm, cap2, ?_, hle, hlt, hes, hts⟩
  unfold sv stA stC
  rw [← hx]
  rfl
end Go.Proofs.YtnekpgmgnepdoaaGreat
end
section
namespace Go.Proofs.YtnekpgmgnepdoaaGreat
open Go.RowKit
set_option maxHeartbeats 1000000 in
theorem fewl_any {s : Sta} {a b : Option Addr} {n c m d : Nat} {w : World} (hn : n < 9223372036854775808) (hm : m < 9223372036854775808) : Calls Tryz.prog 13 #[.agg (sv s.v a n c b m d)] w (Says (.bool (decide (n ≤ 60) && decide (m ≤ 60))) w) := by
 have hb1 := fun (v : V) x y w => box28 v x y w
 have HP0 := Lib.hid (bo_new w 28 (sv s.v a n c b m d))
 go_enter Tryz.func13, Tryz.ntmps13
 go_upto_region 1 with fail
 clear hb1
 generalize w.alloc (.cells (sv s.v a n c b m d) 28) = w0 at HP0
 have c16 := stc16 HP0.out.one
 have c17 := stc17 HP0.out.one
 by_cases h1 : n ≤ 60
 ·have q1 : decide ((n : Int) ≤ 60) = true := by simp; omega
  by_cases h2 : m ≤ 60
  ·have q2 : decide ((m : Int) ≤ 60) = true := by simp; omega
   have HE : Hid ((decide (n ≤ 60) && decide (m ≤ 60)) = true) := Lib.hid (by simp [h1, h2])
   clear h1 h2
   go_wp2_with fail
   go_ret
   exact ⟨ret_bool HE.out.symm, HP0.out.old⟩
  ·have q2 : decide ((m : Int) ≤ 60) = false := by simp; omega
   have HE : Hid ((decide (n ≤ 60) && decide (m ≤ 60)) = false) := Lib.hid (by simp [h2])
   clear h1 h2
   go_wp2_with fail
   go_ret
   exact ⟨ret_bool HE.out.symm, HP0.out.old⟩
 ·have q1 : decide ((n : Int) ≤ 60) = false := by simp; omega
  have HE : Hid ((decide (n ≤ 60) && decide (m ≤ 60)) = false) := Lib.hid (by simp [h1])
  clear h1
  go_wp2_with fail
  go_ret
  exact ⟨ret_bool HE.out.symm, HP0.out.old⟩
end Go.Proofs.YtnekpgmgnepdoaaGreat
end
