/- What every law of this seat uses: an operation and a vector that came in.  -/
import Derived.Test.YtfnaccmgmocolaaDoorOl
import Derived.Test.YtfnaccmgmocolaaDoorDoor
import Derived.ProofKit
import Derived.OpenShut
import Derived.ChangeOld
import Derived.ChangeSame
import Derived.Below
import Derived.Lib.SmallJoins
import Derived.Deep.Slices
import Derived.Deep.Fields
namespace Go.Proofs.YtfnaccmgmocolaaDoor
open Go.ChangeShapes Go.WideShapes Go.ChangeAt Go.RowKit Go.Joins


theorem cells27' : Tryd.prog.cellsOf 27 = 16 := by kernel_rfl
theorem cells29' : Tryd.prog.cellsOf 29 = 23 := by kernel_rfl
theorem cells24' : Tryd.prog.cellsOf 24 = 2 := by kernel_rfl
theorem cells22' : Tryd.prog.cellsOf 22 = 1 := by kernel_rfl
theorem cells25' : Tryd.prog.cellsOf 25 = 1 := by kernel_rfl
theorem cells5' : Tryd.prog.cellsOf 5 = 1 := by kernel_rfl

set_option maxRecDepth 100000 in
theorem okWide_vec {W : World} {r : Reach} {b : Nat} {v : Value} (h : Value.okWide Tryd.prog W r b 27 v) : ∃ cs, v = .agg cs ∧ cs.size = 16 := by
  simp only [Value.okWide, und27] at h
  obtain ⟨cs, h1, h2, _⟩ := h
  exact ⟨cs, h1, h2.trans cells27'⟩
set_option maxRecDepth 100000 in
theorem okWide_op {W : World} {r : Reach} {b : Nat} {v : Value} (h : Value.okWide Tryd.prog W r b 29 v) : ∃ cs, v = .agg cs ∧ cs.size = 23 := by
  simp only [Value.okWide, Tryd.underlying29] at h
  obtain ⟨cs, h1, h2, _⟩ := h
  exact ⟨cs, h1, h2.trans cells29'⟩

/-- The number in a cell. -/
def numOf : Value → Nat
  | .int _ z => z.toNat
  | _ => 0

section
variable {H : Type} {enc : TypeId × Value → H} {W : World}
/-- The cells of a vector that can be read. -/
theorem vec_cells {fuel : Nat} {cs : List Value} {x : DataW H × List MemPlace} (hs : cs.length = 16) (hf : DataW.trod enc Tryd.prog W 0 (fun _ => true) true fuel 27 cs = some x) : ∃ a : V, cs = a.cs := by
  cases fuel with
  | zero => simp [DataW.trod] at hf
  | succ n =>
    unfold DataW.trod at hf
    rw [und27] at hf
    simp only [cells22', cells27', Nat.mul_one] at hf
    rw [if_pos hs] at hf
    · simp only [Option.map_eq_some_iff] at hf
      obtain ⟨xs, hx, _⟩ := hf
      have hcell : ∀ i, i < 16 → ∃ z : Nat, z < 4294967296 ∧ cs[i]? = some (.int .u32 (z : Int)) := by
        intro i hi
        have hg := mapM_some_get hx i i (by simp [hi])
        have hxl : i < xs.length := by
          have := mapM_some_length hx
          simp at this
          omega
        rw [List.getElem?_eq_getElem hxl] at hg
        obtain ⟨z, hz, _, hw⟩ := DataW.trod_int Tryd.underlying22 hg
        have hb := bounds_u32 hw
        have hl : i < cs.length := by rw [hs]; exact hi
        rw [List.drop_eq_getElem_cons hl] at hz
        simp only [List.take_succ_cons, List.take_zero, List.cons.injEq, and_true] at hz
        refine ⟨z.toNat, by omega, ?_⟩
        rw [show ((z.toNat : Nat) : Int) = z by omega, ← hz]
        simp [hl]
      refine ⟨V.of fun i => numOf (cs[i]?.getD undef), ?_⟩
      apply List.ext_getElem?
      intro i
      by_cases hi : i < 16
      · obtain ⟨z, hz, hc⟩ := hcell i hi
        rw [V.cs_at _ hi, V.of_at _ hi (by rw [hc]; simpa [numOf] using hz), hc]
        simp [numOf]
      · rw [List.getElem?_eq_none (by omega), List.getElem?_eq_none (by rw [V.cs_len]; omega)]
theorem u8_cell {fuel : Nat} {c : Value} {x : DataW H × List MemPlace} (h : DataW.trod enc Tryd.prog W 0 (fun _ => true) true fuel 5 [c] = some x) : ∃ n : Nat, n < 256 ∧ c = .int .u8 (n : Int) := by
  obtain ⟨z, e, _, w⟩ := DataW.trod_int Tryd.underlying5 h
  have b := bounds_u8 w
  simp only [List.cons.injEq, and_true] at e
  subst e
  obtain ⟨n, rfl⟩ := Int.eq_ofNat_of_zero_le b.1
  exact ⟨n, by omega, rfl⟩
theorem u32_cell {fuel : Nat} {c : Value} {x : DataW H × List MemPlace} (h : DataW.trod enc Tryd.prog W 0 (fun _ => true) true fuel 22 [c] = some x) : ∃ n : Nat, n < 4294967296 ∧ c = .int .u32 (n : Int) := by
  obtain ⟨z, e, _, w⟩ := DataW.trod_int Tryd.underlying22 h
  have b := bounds_u32 w
  simp only [List.cons.injEq, and_true] at e
  subst e
  obtain ⟨n, rfl⟩ := Int.eq_ofNat_of_zero_le b.1
  exact ⟨n, by omega, rfl⟩
theorem u16_cell {fuel : Nat} {c : Value} {x : DataW H × List MemPlace} (h : DataW.trod enc Tryd.prog W 0 (fun _ => true) true fuel 25 [c] = some x) : ∃ n : Nat, n < 65536 ∧ c = .int .u16 (n : Int) := by
  obtain ⟨z, e, _, w⟩ := DataW.trod_int Tryd.underlying25 h
  have b := bounds_u16 w
  simp only [List.cons.injEq, and_true] at e
  subst e
  obtain ⟨n, rfl⟩ := Int.eq_ofNat_of_zero_le b.1
  exact ⟨n, by omega, rfl⟩
theorem dot_cells {fuel : Nat} {c0 c1 : Value} {x : DataW H × List MemPlace} (h : DataW.trod enc Tryd.prog W 0 (fun _ => true) true fuel 24 [c0, c1] = some x) :
    ∃ r s : Nat, r < 256 ∧ s < 4294967296 ∧ c0 = .int .u8 (r : Int) ∧ c1 = .int .u32 (s : Int) := by
  obtain ⟨ys, n, _, _, hlen, hyl, hf⟩ := DataW.trod_struct Tryd.underlying24 h
  have hyl2 : ys.length = 2 := hyl
  match ys, hyl2 with
  | [y0, y1], _ =>
    have h0 : DataW.trod enc Tryd.prog W 0 (fun _ => true) true n 5 [c0] = some y0 := by
      have := hf 0 _ rfl
      simpa [cells5', Value.cells] using this
    have h1 : DataW.trod enc Tryd.prog W 0 (fun _ => true) true n 22 [c1] = some y1 := by
      have := hf 1 _ rfl
      simpa [cells22', Value.cells] using this
    obtain ⟨r, hr, e0⟩ := u8_cell h0
    obtain ⟨s, hs, e1⟩ := u32_cell h1
    exact ⟨r, s, hr, hs, e0, e1⟩

set_option maxRecDepth 100000 in
/-- A vector that came in. -/
theorem vec_of {r : Reach} {b : Nat} {v : Value} {d : DataW H} {p : List MemPlace} (hv : Value.okWide Tryd.prog W r b 27 v)
    (h : DataW.Trod enc Tryd.prog W 0 (fun _ => true) true 27 v d p) : ∃ a : V, v = .agg a.arr := by
  obtain ⟨cs, rfl, hs⟩ := okWide_vec hv
  obtain ⟨fuel, hf⟩ := h
  obtain ⟨a, ha⟩ := vec_cells (by simpa [Value.cells] using hs) hf
  exact ⟨a, congrArg Value.agg (by rw [← Array.toArray_toList (xs := cs)]; exact congrArg List.toArray ha)⟩

set_option maxRecDepth 100000 in
/-- An operation that came in. -/
theorem op_of {r : Reach} {b : Nat} {v : Value} {d : DataW H} {p : List MemPlace} (hv : Value.okWide Tryd.prog W r b 29 v)
    (h : DataW.Trod enc Tryd.prog W 0 (fun _ => true) true 29 v d p) : ∃ a : O, v = .agg a.arr := by
  obtain ⟨cs, rfl, hs⟩ := okWide_op hv
  obtain ⟨fuel, hf0⟩ := h
  obtain ⟨ys, n, _, _, hlen, hyl, hf⟩ := DataW.trod_struct Tryd.underlying29 hf0
  obtain ⟨l, rfl⟩ : ∃ l : List Value, cs = l.toArray := ⟨cs.toList, by simp⟩
  have hl : l.length = 23 := by simpa using hs
  have hyl2 : ys.length = 7 := hyl
  clear hf0 hlen hyl hs hv
  match l, hl, ys, hyl2 with
  | [c0, c1, c2, c3, c4, c5, c6, c7, c8, c9, c10, c11, c12, c13, c14, c15, c16, c17, c18, c19, c20, c21, c41], _, [y0, y1, y2, y3, y4, y5, y6], _ =>
    have h0 : DataW.trod enc Tryd.prog W 0 (fun _ => true) true n 24 [c0, c1] = some y0 := by
      have := hf 0 _ rfl
      simpa [cells24', Value.cells] using this
    have h1 : DataW.trod enc Tryd.prog W 0 (fun _ => true) true n 5 [c2] = some y1 := by
      have := hf 1 _ rfl
      simpa [cells5', Value.cells] using this
    have h2 : DataW.trod enc Tryd.prog W 0 (fun _ => true) true n 25 [c3] = some y2 := by
      have := hf 2 _ rfl
      simpa [cells25', Value.cells] using this
    have h3 : DataW.trod enc Tryd.prog W 0 (fun _ => true) true n 25 [c4] = some y3 := by
      have := hf 3 _ rfl
      simpa [cells25', Value.cells] using this
    have h4 : DataW.trod enc Tryd.prog W 0 (fun _ => true) true n 25 [c5] = some y4 := by
      have := hf 4 _ rfl
      simpa [cells25', Value.cells] using this
    have h5 : DataW.trod enc Tryd.prog W 0 (fun _ => true) true n 22 [c6] = some y5 := by
      have := hf 5 _ rfl
      simpa [cells22', Value.cells] using this
    have h6 : DataW.trod enc Tryd.prog W 0 (fun _ => true) true n 27 [c7, c8, c9, c10, c11, c12, c13, c14, c15, c16, c17, c18, c19, c20, c21, c41] = some y6 := by
      have := hf 6 _ rfl
      simpa [cells27', Value.cells] using this
    obtain ⟨x0, x1, l0, l1, rfl, rfl⟩ := dot_cells h0
    obtain ⟨x2, l2, rfl⟩ := u8_cell h1
    obtain ⟨x3, l3, rfl⟩ := u16_cell h2
    obtain ⟨x4, l4, rfl⟩ := u16_cell h3
    obtain ⟨x5, l5, rfl⟩ := u16_cell h4
    obtain ⟨x6, l6, rfl⟩ := u32_cell h5
    obtain ⟨v, hv⟩ := vec_cells rfl h6
    refine ⟨⟨x0, x1, x2, x3, x4, x5, x6, v, l0, l1, l2, l3, l4, l5, l6⟩, ?_⟩
    unfold O.arr O.cs O.hd
    rw [← hv]
    rfl
end

set_option maxRecDepth 100000 in
theorem choose_ops {W : World} {x : Addr} : ∀ {n : Nat}, (∀ i, i < n → ∃ p : O, ∀ j u, p.cs[j]? = some u → W.cell? (x.add (i * 23 + j)) = some u) → ∃ l : List O, l.length = n ∧ ∀ i p, l[i]? = some p → ∀ j u, p.cs[j]? = some u → W.cell? (x.add (i * 23 + j)) = some u
  | 0, _ => ⟨[], rfl, fun i p h => by simp at h⟩
  | n + 1, h => by
    obtain ⟨l, hl, hp⟩ := choose_ops (n := n) fun i hi => h i (by omega)
    obtain ⟨p, hpp⟩ := h n (by omega)
    refine ⟨l ++ [p], by simp [hl], fun i q hq => ?_⟩
    by_cases hi : i < n
    · rw [List.getElem?_append_left (by omega)] at hq
      exact hp i q hq
    · have hlt := (List.getElem?_eq_some_iff.1 hq).1
      simp only [List.length_append, List.length_cons, List.length_nil] at hlt
      obtain rfl : i = n := by omega
      rw [List.getElem?_append_right (by omega), hl, Nat.sub_self] at hq
      obtain rfl := Option.some.inj hq
      exact hpp
set_option maxRecDepth 100000 in
/-- The cells of an operation. -/
theorem op_cells {H : Type} {enc : TypeId × Value → H} {W : World} {fuel : Nat} {l : List Value} {x : DataW H × List MemPlace} (hl : l.length = 23) (hf0 : DataW.trod enc Tryd.prog W 0 (fun _ => true) true fuel 29 l = some x) : ∃ a : O, l = a.cs := by
  obtain ⟨ys, n, _, _, hlen, hyl, hf⟩ := DataW.trod_struct Tryd.underlying29 hf0
  have hyl2 : ys.length = 7 := hyl
  clear hf0 hlen hyl
  match l, hl, ys, hyl2 with
  | [c0, c1, c2, c3, c4, c5, c6, c7, c8, c9, c10, c11, c12, c13, c14, c15, c16, c17, c18, c19, c20, c21, c41], _, [y0, y1, y2, y3, y4, y5, y6], _ =>
    have h0 : DataW.trod enc Tryd.prog W 0 (fun _ => true) true n 24 [c0, c1] = some y0 := by
      have := hf 0 _ rfl
      simpa [cells24', Value.cells] using this
    have h1 : DataW.trod enc Tryd.prog W 0 (fun _ => true) true n 5 [c2] = some y1 := by
      have := hf 1 _ rfl
      simpa [cells5', Value.cells] using this
    have h2 : DataW.trod enc Tryd.prog W 0 (fun _ => true) true n 25 [c3] = some y2 := by
      have := hf 2 _ rfl
      simpa [cells25', Value.cells] using this
    have h3 : DataW.trod enc Tryd.prog W 0 (fun _ => true) true n 25 [c4] = some y3 := by
      have := hf 3 _ rfl
      simpa [cells25', Value.cells] using this
    have h4 : DataW.trod enc Tryd.prog W 0 (fun _ => true) true n 25 [c5] = some y4 := by
      have := hf 4 _ rfl
      simpa [cells25', Value.cells] using this
    have h5 : DataW.trod enc Tryd.prog W 0 (fun _ => true) true n 22 [c6] = some y5 := by
      have := hf 5 _ rfl
      simpa [cells22', Value.cells] using this
    have h6 : DataW.trod enc Tryd.prog W 0 (fun _ => true) true n 27 [c7, c8, c9, c10, c11, c12, c13, c14, c15, c16, c17, c18, c19, c20, c21, c41] = some y6 := by
      have := hf 6 _ rfl
      simpa [cells27', Value.cells] using this
    obtain ⟨x0, x1, l0, l1, rfl, rfl⟩ := dot_cells h0
    obtain ⟨x2, l2, rfl⟩ := u8_cell h1
    obtain ⟨x3, l3, rfl⟩ := u16_cell h2
    obtain ⟨x4, l4, rfl⟩ := u16_cell h3
    obtain ⟨x5, l5, rfl⟩ := u16_cell h4
    obtain ⟨x6, l6, rfl⟩ := u32_cell h5
    obtain ⟨v, hv⟩ := vec_cells rfl h6
    refine ⟨⟨x0, x1, x2, x3, x4, x5, x6, v, l0, l1, l2, l3, l4, l5, l6⟩, ?_⟩
    unfold O.cs O.hd
    rw [← hv]
    rfl
/-- A slice of operations that came in. -/
theorem ops_of {H : Type} {enc : TypeId × Value → H} {W : World} {a : Option Addr} {len cap : Nat} {d : DataW H} {p : List MemPlace}
    (h : DataW.Trod enc Tryd.prog W 0 (fun _ => true) true 41 (.slice a len cap) d p) : len ≤ maxLen ∧ ∃ l, OL W a len l := by
  obtain ⟨fuel, hf⟩ := h
  rcases Go.Deep.open_slice Tryd.underlying41 hf with ⟨hcs, _⟩ | ⟨x, l, c, m, n, D, Pl, hcs, _, hl, hm, hmm, _, hi⟩
  · simp [Value.cells] at hcs
    obtain ⟨rfl, rfl, rfl⟩ := hcs
    exact ⟨Nat.zero_le _, [], rfl, .inl rfl⟩
  · simp [Value.cells] at hcs
    obtain ⟨rfl, rfl, rfl⟩ := hcs
    simp at hmm
    have hall : ∀ i, i < len → ∃ q : O, ∀ j u, q.cs[j]? = some u → W.cell? (x.add (i * 23 + j)) = some u := by
      intro i hil
      obtain ⟨cs', hc, ht⟩ := hi i (by omega)
      rw [cells29'] at hc
      obtain ⟨_, hcl, hat⟩ := World.cells?_some hc
      obtain ⟨q, rfl⟩ := op_cells (by simpa using hcl) ht
      refine ⟨q, fun j u hu => ?_⟩
      have hj : j < 23 := by rw [← q.cs_len]; exact (List.getElem?_eq_some_iff.1 hu).1
      have := hat j hj
      rw [Go.Deep.add_add] at this
      rw [this]
      simpa using hu
    obtain ⟨xs, hxl, hxs⟩ := choose_ops hall
    refine ⟨by omega, xs, by simp [cellsO, hxl], ?_⟩
    by_cases h0 : len = 0
    · exact .inl h0
    · obtain ⟨b, off, spot⟩ := x
      have hspot : spot = none := by
        have hl0 : 0 < xs.length := by omega
        have := hxs 0 _ (List.getElem?_eq_getElem hl0) 0 _ rfl
        simpa [Addr.add] using World.cell?_spot this
      subst hspot
      refine .inr ⟨b, off, rfl, fun i v hv j u hu => ?_⟩
      obtain ⟨q, hq, rfl⟩ : ∃ q, xs[i]? = some q ∧ q.cs = v := by simpa [cellsO] using hv
      have := hxs i q hq j u hu
      rw [Addr.add_mid, ← Nat.add_assoc] at this
      exact this

end Go.Proofs.YtfnaccmgmocolaaDoor

namespace Go.Proofs.YtfnaccmgmocolaaDoor
open Go.ChangeShapes Go.WideShapes Go.ChangeAt Go.RowKit Go.Deep

/-- A slice of bytes that came in. -/
structure In (w : World) (a : Option Addr) (len cap : Nat) (bs : List Nat) : Prop where
  row : Row w a len bs
  nil : a = none → len = 0 ∧ cap = 0
  le : len ≤ cap
  max : len ≤ 9223372036854775807

theorem In.below {w w' : World} {a : Option Addr} {len cap : Nat} {bs : List Nat} (h : In w a len cap bs) (hb : Below w.heap.size w w') : In w' a len cap bs := ⟨h.row.below hb, h.nil, h.le, h.max⟩

theorem in_of {H : Type} {enc : TypeId × Value → H} {W : World} {a : Option Addr} {len cap : Nat} {d : DataW H} {p : List MemPlace}
    (h : DataW.Trod enc Tryd.prog W 0 (fun _ => true) true 31 (.slice a len cap) d p) : ∃ bs, In W a len cap bs := by
  obtain ⟨h1, h2, bs, h3⟩ := row_of h
  refine ⟨bs, h3, fun ha => ?_, ?_, by unfold maxLen at h1; omega⟩
  · rcases h2 with ⟨_, h4, h5⟩ | ⟨x, hx, _⟩
    · exact ⟨h4, h5⟩
    · rw [ha] at hx; cases hx
  · rcases h2 with ⟨_, rfl, rfl⟩ | ⟨x, _, h4, _⟩
    · exact Nat.le_refl _
    · exact h4

end Go.Proofs.YtfnaccmgmocolaaDoor
