/- What every law of this seat uses: bytes, a key and a page that came in. -/
import Derived.Test.YtcgbkfnjohbglaaDoorEa
import Derived.Test.YtcgbkfnjohbglaaDoorDoor
import Derived.ProofKit
import Derived.OpenShut
import Derived.ChangeOld
import Derived.ChangeSame
import Derived.Below
import Derived.Lib.SmallJoins
import Derived.Deep.Slices
import Derived.Deep.Fields
import Derived.Test.YtcgbkfnjohbglaaDoorPb
namespace Go.Proofs.YtcgbkfnjohbglaaDoor
open Go.ChangeShapes Go.WideShapes Go.ChangeAt Go.RowKit Go.Joins Go.Deep

structure In (w : World) (a : Option Addr) (len cap : Nat) (bs : List Nat) : Prop where
  row : Row w a len bs
  nil : a = none → len = 0 ∧ cap = 0
  le : len ≤ cap
  max : len ≤ 9223372036854775807
theorem In.below {w w' : World} {a : Option Addr} {len cap : Nat} {bs : List Nat} (h : In w a len cap bs) (hb : Below w.heap.size w w') : In w' a len cap bs := ⟨h.row.below hb, h.nil, h.le, h.max⟩
theorem in_of {H : Type} {enc : TypeId × Value → H} {W : World} {a : Option Addr} {len cap : Nat} {d : DataW H} {p : List MemPlace}
    (h : DataW.Trod enc Tryd.prog W 0 (fun _ => true) true 48 (.slice a len cap) d p) : ∃ bs, In W a len cap bs := by
  obtain ⟨h1, h2, bs, h3⟩ := row_of h
  refine ⟨bs, h3, fun ha => ?_, ?_, by unfold maxLen at h1; omega⟩
  · rcases h2 with ⟨_, h4, h5⟩ | ⟨x, hx, _⟩
    · exact ⟨h4, h5⟩
    · rw [ha] at hx; cases hx
  · rcases h2 with ⟨_, rfl, rfl⟩ | ⟨x, _, h4, _⟩
    · exact Nat.le_refl _
    · exact h4

theorem cells26' : Tryd.prog.cellsOf 26 = 4 := by kernel_rfl
theorem cells32' : Tryd.prog.cellsOf 32 = 3 := by kernel_rfl
theorem cells67' : Tryd.prog.cellsOf 67 = 2 := by kernel_rfl
theorem cells30' : Tryd.prog.cellsOf 30 = 2 := by kernel_rfl
theorem cells28' : Tryd.prog.cellsOf 28 = 1 := by kernel_rfl
theorem cells27' : Tryd.prog.cellsOf 27 = 1 := by kernel_rfl
theorem cells5' : Tryd.prog.cellsOf 5 = 1 := by kernel_rfl
theorem cells4' : Tryd.prog.cellsOf 4 = 1 := by kernel_rfl
theorem cells22' : Tryd.prog.cellsOf 22 = 1 := by kernel_rfl
theorem cells23' : Tryd.prog.cellsOf 23 = 1 := by kernel_rfl
theorem cells24' : Tryd.prog.cellsOf 24 = 1 := by kernel_rfl
section
variable {H : Type} {enc : TypeId × Value → H} {W : World}
theorem u8_cell {fuel : Nat} {c : Value} {x : DataW H × List MemPlace} (h : DataW.trod enc Tryd.prog W 0 (fun _ => true) true fuel 5 [c] = some x) : ∃ n : Nat, n < 256 ∧ c = .int .u8 (n : Int) := by
  obtain ⟨z, e, _, w⟩ := DataW.trod_int Tryd.underlying5 h
  have b := bounds_u8 w
  simp only [List.cons.injEq, and_true] at e
  subst e
  obtain ⟨n, rfl⟩ := Int.eq_ofNat_of_zero_le b.1
  exact ⟨n, by omega, rfl⟩
theorem u32_cell {fuel : Nat} {c : Value} {x : DataW H × List MemPlace} (h : DataW.trod enc Tryd.prog W 0 (fun _ => true) true fuel 28 [c] = some x) : ∃ n : Nat, n < 4294967296 ∧ c = .int .u32 (n : Int) := by
  obtain ⟨z, e, _, w⟩ := DataW.trod_int Tryd.underlying28 h
  have b := bounds_u32 w
  simp only [List.cons.injEq, and_true] at e
  subst e
  obtain ⟨n, rfl⟩ := Int.eq_ofNat_of_zero_le b.1
  exact ⟨n, by omega, rfl⟩
theorem u16_cell {fuel : Nat} {c : Value} {x : DataW H × List MemPlace} (h : DataW.trod enc Tryd.prog W 0 (fun _ => true) true fuel 27 [c] = some x) : ∃ n : Nat, n < 65536 ∧ c = .int .u16 (n : Int) := by
  obtain ⟨z, e, _, w⟩ := DataW.trod_int Tryd.underlying27 h
  have b := bounds_u16 w
  simp only [List.cons.injEq, and_true] at e
  subst e
  obtain ⟨n, rfl⟩ := Int.eq_ofNat_of_zero_le b.1
  exact ⟨n, by omega, rfl⟩
set_option maxRecDepth 100000 in
theorem dot_cells {fuel : Nat} {c0 c1 : Value} {x : DataW H × List MemPlace} (h : DataW.trod enc Tryd.prog W 0 (fun _ => true) true fuel 30 [c0, c1] = some x) :
    ∃ r s : Nat, r < 256 ∧ s < 4294967296 ∧ c0 = .int .u8 (r : Int) ∧ c1 = .int .u32 (s : Int) := by
  obtain ⟨ys, n, _, _, hlen, hyl, hf⟩ := DataW.trod_struct Tryd.underlying30 h
  have hyl2 : ys.length = 2 := hyl
  match ys, hyl2 with
  | [y0, y1], _ =>
    have h0 : DataW.trod enc Tryd.prog W 0 (fun _ => true) true n 5 [c0] = some y0 := by
      have := hf 0 _ rfl
      simpa [cells5', Value.cells] using this
    have h1 : DataW.trod enc Tryd.prog W 0 (fun _ => true) true n 28 [c1] = some y1 := by
      have := hf 1 _ rfl
      simpa [cells28', Value.cells] using this
    obtain ⟨r, hr, e0⟩ := u8_cell h0
    obtain ⟨s, hs, e1⟩ := u32_cell h1
    exact ⟨r, s, hr, hs, e0, e1⟩
set_option maxRecDepth 100000 in
theorem key_cells {fuel : Nat} {l : List Value} {x : DataW H × List MemPlace} (hl : l.length = 3) (hf0 : DataW.trod enc Tryd.prog W 0 (fun _ => true) true fuel 32 l = some x) : ∃ a : Ky, l = a.cs := by
  obtain ⟨ys, n, _, _, hlen, hyl, hf⟩ := DataW.trod_struct Tryd.underlying32 hf0
  have hyl2 : ys.length = 2 := hyl
  clear hf0 hlen hyl
  match l, hl, ys, hyl2 with
  | [c0, c1, c2], _, [y0, y1], _ =>
    have h0 : DataW.trod enc Tryd.prog W 0 (fun _ => true) true n 27 [c0] = some y0 := by
      have := hf 0 _ rfl
      simpa [cells27', Value.cells] using this
    have h1 : DataW.trod enc Tryd.prog W 0 (fun _ => true) true n 30 [c1, c2] = some y1 := by
      have := hf 1 _ rfl
      simpa [cells30', Value.cells] using this
    obtain ⟨x0, l0, rfl⟩ := u16_cell h0
    obtain ⟨x1, x2, l1, l2, rfl, rfl⟩ := dot_cells h1
    exact ⟨⟨x0, x1, x2, l0, l1, l2⟩, rfl⟩
set_option maxRecDepth 100000 in
theorem loc_cells {fuel : Nat} {l : List Value} {x : DataW H × List MemPlace} (hl : l.length = 2) (hf0 : DataW.trod enc Tryd.prog W 0 (fun _ => true) true fuel 67 l = some x) : ∃ a : Lo, l = a.cs := by
  obtain ⟨ys, n, _, _, hlen, hyl, hf⟩ := DataW.trod_struct Tryd.underlying67 hf0
  have hyl2 : ys.length = 2 := hyl
  clear hf0 hlen hyl
  match l, hl, ys, hyl2 with
  | [c0, c1], _, [y0, y1], _ =>
    have h0 : DataW.trod enc Tryd.prog W 0 (fun _ => true) true n 28 [c0] = some y0 := by
      have := hf 0 _ rfl
      simpa [cells28', Value.cells] using this
    have h1 : DataW.trod enc Tryd.prog W 0 (fun _ => true) true n 28 [c1] = some y1 := by
      have := hf 1 _ rfl
      simpa [cells28', Value.cells] using this
    obtain ⟨x0, l0, rfl⟩ := u32_cell h0
    obtain ⟨x1, l1, rfl⟩ := u32_cell h1
    exact ⟨⟨x0, x1, l0, l1⟩, rfl⟩
theorem kid_cells {fuel : Nat} {l : List Value} {x : DataW H × List MemPlace} (hl : l.length = 1) (hf0 : DataW.trod enc Tryd.prog W 0 (fun _ => true) true fuel 28 l = some x) : ∃ a : Kd, l = a.cs := by
  match l, hl with
  | [c0], _ =>
    obtain ⟨x0, l0, rfl⟩ := u32_cell hf0
    exact ⟨⟨x0, l0⟩, rfl⟩
end
theorem choose_ks {W : World} {x : Addr} : ∀ {n : Nat}, (∀ i, i < n → ∃ p : Ky, ∀ j u, p.cs[j]? = some u → W.cell? (x.add (i * 3 + j)) = some u) → ∃ l : List Ky, l.length = n ∧ ∀ i p, l[i]? = some p → ∀ j u, p.cs[j]? = some u → W.cell? (x.add (i * 3 + j)) = some u
  | 0, _ => ⟨[], rfl, fun i p h => by simp at h⟩
  | n + 1, h => by
    obtain ⟨l, hl, hp⟩ := choose_ks (n := n) fun i hi => h i (by omega)
    obtain ⟨p, hpp⟩ := h n (by omega)
    refine ⟨l ++ [p], by simp [hl], fun i q hq => ?_⟩
    by_cases hi : i < n
    · rw [List.getElem?_append_left (by omega)] at hq
      exact hp i q hq
    · have hlt := (List.getElem?_eq_some_iff.1 hq).1
      simp only [List.length_append, List.length_cons, List.length_nil] at hlt
      obtain rfl : i = n := by omega
      rw [List.getElem?_append_right (by omega), hl, Nat.sub_self] at hq
      obtain rfl := Option.some.inj hq
      exact hpp
/-- A slice of such that came in. -/
theorem ks_of {H : Type} {enc : TypeId × Value → H} {W : World} {fuel : Nat} {v : Value} {y : DataW H × List MemPlace} (hf : DataW.trod enc Tryd.prog W 0 (fun _ => true) true fuel 22 [v] = some y) :
    ∃ a len cap l, v = .slice a len cap ∧ len ≤ maxLen ∧ KL W a len l := by
  rcases Go.Deep.open_slice Tryd.underlying22 hf with ⟨hcs, _⟩ | ⟨x, l, c, m, n, D, Pl, hcs, _, hl, hm, hmm, _, hi⟩
  · simp at hcs
    subst hcs
    exact ⟨none, 0, 0, [], rfl, Nat.zero_le _, rfl, .inl rfl⟩
  · simp at hcs
    subst hcs
    simp at hmm
    have hall : ∀ i, i < l → ∃ q : Ky, ∀ j u, q.cs[j]? = some u → W.cell? (x.add (i * 3 + j)) = some u := by
      intro i hil
      obtain ⟨cs', hc, ht⟩ := hi i (by omega)
      rw [cells32'] at hc
      obtain ⟨_, hcl, hat⟩ := World.cells?_some hc
      obtain ⟨q, rfl⟩ := key_cells (by simpa using hcl) ht
      refine ⟨q, fun j u hu => ?_⟩
      have hj : j < 3 := by have := (List.getElem?_eq_some_iff.1 hu).1; exact this
      have := hat j hj
      rw [Go.Deep.add_add] at this
      rw [this]
      simpa using hu
    obtain ⟨xs, hxl, hxs⟩ := choose_ks hall
    refine ⟨some x, l, c, xs, rfl, by omega, by simp [cellsK, hxl], ?_⟩
    by_cases h0 : l = 0
    · exact .inl h0
    · obtain ⟨b, off, spot⟩ := x
      have hspot : spot = none := by
        have hl0 : 0 < xs.length := by omega
        have := hxs 0 _ (List.getElem?_eq_getElem hl0) 0 _ rfl
        simpa [Addr.add] using World.cell?_spot this
      subst hspot
      refine .inr ⟨b, off, rfl, fun i v hv j u hu => ?_⟩
      obtain ⟨q, hq, rfl⟩ : ∃ q, xs[i]? = some q ∧ q.cs = v := by simpa [cellsK] using hv
      have := hxs i q hq j u hu
      rw [Addr.add_mid, ← Nat.add_assoc] at this
      exact this
theorem choose_ls {W : World} {x : Addr} : ∀ {n : Nat}, (∀ i, i < n → ∃ p : Lo, ∀ j u, p.cs[j]? = some u → W.cell? (x.add (i * 2 + j)) = some u) → ∃ l : List Lo, l.length = n ∧ ∀ i p, l[i]? = some p → ∀ j u, p.cs[j]? = some u → W.cell? (x.add (i * 2 + j)) = some u
  | 0, _ => ⟨[], rfl, fun i p h => by simp at h⟩
  | n + 1, h => by
    obtain ⟨l, hl, hp⟩ := choose_ls (n := n) fun i hi => h i (by omega)
    obtain ⟨p, hpp⟩ := h n (by omega)
    refine ⟨l ++ [p], by simp [hl], fun i q hq => ?_⟩
    by_cases hi : i < n
    · rw [List.getElem?_append_left (by omega)] at hq
      exact hp i q hq
    · have hlt := (List.getElem?_eq_some_iff.1 hq).1
      simp only [List.length_append, List.length_cons, List.length_nil] at hlt
      obtain rfl : i = n := by omega
      rw [List.getElem?_append_right (by omega), hl, Nat.sub_self] at hq
      obtain rfl := Option.some.inj hq
      exact hpp
/-- A slice of such that came in. -/
theorem ls_of {H : Type} {enc : TypeId × Value → H} {W : World} {fuel : Nat} {v : Value} {y : DataW H × List MemPlace} (hf : DataW.trod enc Tryd.prog W 0 (fun _ => true) true fuel 23 [v] = some y) :
    ∃ a len cap l, v = .slice a len cap ∧ len ≤ maxLen ∧ LL W a len l := by
  rcases Go.Deep.open_slice Tryd.underlying23 hf with ⟨hcs, _⟩ | ⟨x, l, c, m, n, D, Pl, hcs, _, hl, hm, hmm, _, hi⟩
  · simp at hcs
    subst hcs
    exact ⟨none, 0, 0, [], rfl, Nat.zero_le _, rfl, .inl rfl⟩
  · simp at hcs
    subst hcs
    simp at hmm
    have hall : ∀ i, i < l → ∃ q : Lo, ∀ j u, q.cs[j]? = some u → W.cell? (x.add (i * 2 + j)) = some u := by
      intro i hil
      obtain ⟨cs', hc, ht⟩ := hi i (by omega)
      rw [cells67'] at hc
      obtain ⟨_, hcl, hat⟩ := World.cells?_some hc
      obtain ⟨q, rfl⟩ := loc_cells (by simpa using hcl) ht
      refine ⟨q, fun j u hu => ?_⟩
      have hj : j < 2 := by have := (List.getElem?_eq_some_iff.1 hu).1; exact this
      have := hat j hj
      rw [Go.Deep.add_add] at this
      rw [this]
      simpa using hu
    obtain ⟨xs, hxl, hxs⟩ := choose_ls hall
    refine ⟨some x, l, c, xs, rfl, by omega, by simp [cellsL, hxl], ?_⟩
    by_cases h0 : l = 0
    · exact .inl h0
    · obtain ⟨b, off, spot⟩ := x
      have hspot : spot = none := by
        have hl0 : 0 < xs.length := by omega
        have := hxs 0 _ (List.getElem?_eq_getElem hl0) 0 _ rfl
        simpa [Addr.add] using World.cell?_spot this
      subst hspot
      refine .inr ⟨b, off, rfl, fun i v hv j u hu => ?_⟩
      obtain ⟨q, hq, rfl⟩ : ∃ q, xs[i]? = some q ∧ q.cs = v := by simpa [cellsL] using hv
      have := hxs i q hq j u hu
      rw [Addr.add_mid, ← Nat.add_assoc] at this
      exact this
theorem choose_ds {W : World} {x : Addr} : ∀ {n : Nat}, (∀ i, i < n → ∃ p : Kd, ∀ j u, p.cs[j]? = some u → W.cell? (x.add (i * 1 + j)) = some u) → ∃ l : List Kd, l.length = n ∧ ∀ i p, l[i]? = some p → ∀ j u, p.cs[j]? = some u → W.cell? (x.add (i * 1 + j)) = some u
  | 0, _ => ⟨[], rfl, fun i p h => by simp at h⟩
  | n + 1, h => by
    obtain ⟨l, hl, hp⟩ := choose_ds (n := n) fun i hi => h i (by omega)
    obtain ⟨p, hpp⟩ := h n (by omega)
    refine ⟨l ++ [p], by simp [hl], fun i q hq => ?_⟩
    by_cases hi : i < n
    · rw [List.getElem?_append_left (by omega)] at hq
      exact hp i q hq
    · have hlt := (List.getElem?_eq_some_iff.1 hq).1
      simp only [List.length_append, List.length_cons, List.length_nil] at hlt
      obtain rfl : i = n := by omega
      rw [List.getElem?_append_right (by omega), hl, Nat.sub_self] at hq
      obtain rfl := Option.some.inj hq
      exact hpp
/-- A slice of such that came in. -/
theorem ds_of {H : Type} {enc : TypeId × Value → H} {W : World} {fuel : Nat} {v : Value} {y : DataW H × List MemPlace} (hf : DataW.trod enc Tryd.prog W 0 (fun _ => true) true fuel 24 [v] = some y) :
    ∃ a len cap l, v = .slice a len cap ∧ len ≤ maxLen ∧ DL W a len l := by
  rcases Go.Deep.open_slice Tryd.underlying24 hf with ⟨hcs, _⟩ | ⟨x, l, c, m, n, D, Pl, hcs, _, hl, hm, hmm, _, hi⟩
  · simp at hcs
    subst hcs
    exact ⟨none, 0, 0, [], rfl, Nat.zero_le _, rfl, .inl rfl⟩
  · simp at hcs
    subst hcs
    simp at hmm
    have hall : ∀ i, i < l → ∃ q : Kd, ∀ j u, q.cs[j]? = some u → W.cell? (x.add (i * 1 + j)) = some u := by
      intro i hil
      obtain ⟨cs', hc, ht⟩ := hi i (by omega)
      rw [cells28'] at hc
      obtain ⟨_, hcl, hat⟩ := World.cells?_some hc
      obtain ⟨q, rfl⟩ := kid_cells (by simpa using hcl) ht
      refine ⟨q, fun j u hu => ?_⟩
      have hj : j < 1 := by have := (List.getElem?_eq_some_iff.1 hu).1; exact this
      have := hat j hj
      rw [Go.Deep.add_add] at this
      rw [this]
      simpa using hu
    obtain ⟨xs, hxl, hxs⟩ := choose_ds hall
    refine ⟨some x, l, c, xs, rfl, by omega, by simp [cellsD, hxl], ?_⟩
    by_cases h0 : l = 0
    · exact .inl h0
    · obtain ⟨b, off, spot⟩ := x
      have hspot : spot = none := by
        have hl0 : 0 < xs.length := by omega
        have := hxs 0 _ (List.getElem?_eq_getElem hl0) 0 _ rfl
        simpa [Addr.add] using World.cell?_spot this
      subst hspot
      refine .inr ⟨b, off, rfl, fun i v hv j u hu => ?_⟩
      obtain ⟨q, hq, rfl⟩ : ∃ q, xs[i]? = some q ∧ q.cs = v := by simpa [cellsD] using hv
      have := hxs i q hq j u hu
      rw [Addr.add_mid, ← Nat.add_assoc] at this
      exact this

set_option maxRecDepth 100000 in
theorem okWide_pg {W : World} {r : Reach} {b : Nat} {v : Value} (h : Value.okWide Tryd.prog W r b 26 v) : ∃ cs, v = .agg cs ∧ cs.size = 4 := by
  simp only [Value.okWide, Tryd.underlying26] at h
  obtain ⟨cs, h1, h2, _⟩ := h
  exact ⟨cs, h1, h2.trans cells26'⟩
set_option maxRecDepth 100000 in
theorem okWide_ky {W : World} {r : Reach} {b : Nat} {v : Value} (h : Value.okWide Tryd.prog W r b 32 v) : ∃ cs, v = .agg cs ∧ cs.size = 3 := by
  simp only [Value.okWide, Tryd.underlying32] at h
  obtain ⟨cs, h1, h2, _⟩ := h
  exact ⟨cs, h1, h2.trans cells32'⟩
set_option maxRecDepth 100000 in
/-- A key that came in. -/
theorem key_of {H : Type} {enc : TypeId × Value → H} {W : World} {r : Reach} {base : Nat} {v : Value} {d : DataW H} {p : List MemPlace} (hv : Value.okWide Tryd.prog W r base 32 v)
    (h : DataW.Trod enc Tryd.prog W 0 (fun _ => true) true 32 v d p) : ∃ k : Ky, v = .agg k.arr := by
  obtain ⟨cs, rfl, hs⟩ := okWide_ky hv
  obtain ⟨fuel, hf⟩ := h
  obtain ⟨a, ha⟩ := key_cells (by simpa [Value.cells] using hs) hf
  exact ⟨a, congrArg Value.agg (by rw [← Array.toArray_toList (xs := cs)]; exact congrArg List.toArray ha)⟩
set_option maxRecDepth 100000 in
/-- A page that came in. -/
theorem page_of {H : Type} {enc : TypeId × Value → H} {W : World} {r : Reach} {base : Nat} {v : Value} {d : DataW H} {p : List MemPlace} (hv : Value.okWide Tryd.prog W r base 26 v)
    (h : DataW.Trod enc Tryd.prog W 0 (fun _ => true) true 26 v d p) : ∃ (P : Pg) (a1 : Option Addr) (n1 c1 : Nat) (a2 : Option Addr) (n2 c2 : Nat) (a3 : Option Addr) (n3 c3 : Nat), v = .agg (pgA P.leaf a1 n1 c1 a2 n2 c2 a3 n3 c3) ∧ n1 ≤ maxLen ∧ n2 ≤ maxLen ∧ n3 ≤ maxLen ∧ PV W P a1 n1 a2 n2 a3 n3 := by
  obtain ⟨cs, rfl, hs⟩ := okWide_pg hv
  obtain ⟨fuel, hf0⟩ := h
  obtain ⟨ys, n, _, _, hlen, hyl, hf⟩ := DataW.trod_struct Tryd.underlying26 hf0
  obtain ⟨l, rfl⟩ : ∃ l : List Value, cs = l.toArray := ⟨cs.toList, by simp⟩
  have hl : l.length = 4 := by simpa using hs
  have hyl2 : ys.length = 4 := hyl
  clear hf0 hlen hyl hs hv
  match l, hl, ys, hyl2 with
  | [e0, e1, e2, e3], _, [y0, y1, y2, y3], _ =>
    have h0 : DataW.trod enc Tryd.prog W 0 (fun _ => true) true n 4 [e0] = some y0 := by
      have := hf 0 _ rfl
      simpa [cells4', Value.cells] using this
    have h1 : DataW.trod enc Tryd.prog W 0 (fun _ => true) true n 22 [e1] = some y1 := by
      have := hf 1 _ rfl
      simpa [cells22', Value.cells] using this
    have h2 : DataW.trod enc Tryd.prog W 0 (fun _ => true) true n 23 [e2] = some y2 := by
      have := hf 2 _ rfl
      simpa [cells23', Value.cells] using this
    have h3 : DataW.trod enc Tryd.prog W 0 (fun _ => true) true n 24 [e3] = some y3 := by
      have := hf 3 _ rfl
      simpa [cells24', Value.cells] using this
    obtain ⟨lf, hb, _⟩ := DataW.trod_bool Tryd.underlying4 h0
    obtain ⟨a1, n1, c1, ks, rfl, hk, hks⟩ := ks_of h1
    obtain ⟨a2, n2, c2, ls, rfl, hl2, hls⟩ := ls_of h2
    obtain ⟨a3, n3, c3, ds, rfl, hd, hds⟩ := ds_of h3
    simp only [List.cons.injEq, and_true] at hb
    subst hb
    exact ⟨⟨lf, ks, ls, ds⟩, a1, n1, c1, a2, n2, c2, a3, n3, c3, rfl, hk, hl2, hd, hks, hls, hds⟩

end Go.Proofs.YtcgbkfnjohbglaaDoor
