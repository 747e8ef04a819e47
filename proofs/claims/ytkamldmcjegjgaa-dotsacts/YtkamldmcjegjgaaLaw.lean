/- What every law of this seat uses: a vector, a dot and a slice of dots that came in. -/
import Derived.Test.YtkamldmcjegjgaaAlive
import Derived.ProofKit
import Derived.OpenShut
import Derived.ChangeOld
import Derived.ChangeSame
import Derived.Below
import Derived.Lib.SmallJoins
import Derived.Deep.Slices
import Derived.Deep.Fields
namespace Go.Proofs.Ytkamldmcjegjgaa
open Go.ChangeShapes Go.WideShapes Go.ChangeAt Go.RowKit Go.Joins

theorem own : ownKnob Try.prog.godebug = none := by kernel_rfl
theorem laidOut : laidOutB Try.prog = true := by kernel_rfl
theorem cells24' : Try.prog.cellsOf 24 = 16 := by kernel_rfl

theorem okWide_vec {W : World} {r : Reach} {b : Nat} {v : Value} (h : Value.okWide Try.prog W r b 24 v) : ∃ cs, v = .agg cs ∧ cs.size = 16 := by
  simp only [Value.okWide, und24] at h
  obtain ⟨cs, h1, h2, _⟩ := h
  exact ⟨cs, h1, h2.trans cells24'⟩

/-- The number in a cell. -/
def numOf : Value → Nat
  | .int _ z => z.toNat
  | _ => 0

/-- A vector that came in. -/
theorem vec_of {H : Type} {enc : TypeId × Value → H} {W : World} {r : Reach} {b : Nat} {v : Value} {d : DataW H} {p : List MemPlace} (hv : Value.okWide Try.prog W r b 24 v)
    (h : DataW.Trod enc Try.prog W 0 (fun _ => true) true 24 v d p) : ∃ a : V, v = .agg a.arr := by
  obtain ⟨cs, rfl, hs⟩ := okWide_vec hv
  obtain ⟨fuel, hf⟩ := h
  cases fuel with
  | zero => simp [DataW.trod] at hf
  | succ n =>
    unfold DataW.trod at hf
    rw [und24] at hf
    simp only [Value.cells, cells22, cells24', Nat.mul_one] at hf
    split at hf
    · simp only [Option.map_eq_some_iff] at hf
      obtain ⟨xs, hx, _⟩ := hf
      have hcell : ∀ i, i < 16 → ∃ z : Nat, z < 4294967296 ∧ cs[i]? = some (.int .u32 (z : Int)) := by
        intro i hi
        have hg := mapM_some_get hx i i (by simp [hi])
        have hxl : i < xs.length := by
          have := mapM_some_length hx
          simp at this
          omega
        rw [List.getElem?_eq_getElem hxl] at hg
        obtain ⟨z, hz, _, hw⟩ := DataW.trod_int Try.underlying22 hg
        have hb := bounds_u32 hw
        have hl : i < cs.toList.length := by simp [hs]; exact hi
        rw [List.drop_eq_getElem_cons hl] at hz
        simp only [List.take_succ_cons, List.take_zero, List.cons.injEq, and_true] at hz
        refine ⟨z.toNat, by omega, ?_⟩
        rw [show ((z.toNat : Nat) : Int) = z by omega, ← hz]
        have hl' : i < cs.size := by rw [hs]; exact hi
        simp [hl']
      refine ⟨V.of fun i => numOf (cs[i]?.getD undef), congrArg Value.agg (V.arr_ext hs fun i hi => ?_)⟩
      obtain ⟨z, hz, hc⟩ := hcell i hi
      rw [V.of_at _ hi (by rw [hc]; simpa [numOf] using hz), hc]
      simp [numOf]
    · cases hf

/-- A dot that came in. -/
theorem dot_of {H : Type} {enc : TypeId × Value → H} {W : World} {r : Reach} {b : Nat} {v : Value} {d : DataW H} {p : List MemPlace} (hv : Value.okWide Try.prog W r b 34 v)
    (h : DataW.Trod enc Try.prog W 0 (fun _ => true) true 34 v d p) : ∃ x y : Nat, x < 256 ∧ y < 4294967296 ∧ v = dotV x y := by
  obtain ⟨c0, c1, y0, y1, m, rfl, _, _, hy0, hy1⟩ := open_agg2 Try.underlying34 (by kernel_rfl) (by kernel_rfl) hv h
  obtain ⟨z0, e0, _, w0⟩ := DataW.trod_int Try.underlying5 hy0
  obtain ⟨z1, e1, _, w1⟩ := DataW.trod_int Try.underlying22 hy1
  have b0 := bounds_u8 w0
  have b1 := bounds_u32 w1
  simp only [List.cons.injEq, and_true] at e0 e1
  subst e0 e1
  obtain ⟨n0, rfl⟩ := Int.eq_ofNat_of_zero_le b0.1
  obtain ⟨n1, rfl⟩ := Int.eq_ofNat_of_zero_le b1.1
  exact ⟨n0, n1, by omega, by omega, rfl⟩

theorem choose_dots {n : Nat} {P : Nat → Dt → Prop} (h : ∀ i, i < n → ∃ x, P i x) : ∃ l : List Dt, l.length = n ∧ ∀ i x, l[i]? = some x → P i x := by
  have : ∀ i, ∃ x, i < n → P i x := fun i => by
    by_cases hi : i < n
    · obtain ⟨x, hx⟩ := h i hi
      exact ⟨x, fun _ => hx⟩
    · exact ⟨(0, 0), fun h => absurd h hi⟩
  refine ⟨(List.range n).map fun i => (this i).choose, by simp, fun i x hx => ?_⟩
  have hi : i < n := by
    have := (List.getElem?_eq_some_iff.1 hx).1
    simpa using this
  simp only [List.getElem?_map, List.getElem?_range hi, Option.map_some, Option.some.injEq] at hx
  rw [← hx]
  exact (this i).choose_spec hi

/-- One dot that can be read: its cells. -/
theorem dot_cells {H : Type} {enc : TypeId × Value → H} {W : World} {fuel : Nat} {cs : List Value} {x : DataW H × List MemPlace} (h : DataW.trod enc Try.prog W 0 (fun _ => true) true fuel 34 cs = some x) :
    ∃ d : Dt, Raw d ∧ cs = [.int .u8 (d.1 : Int), .int .u32 (d.2 : Int)] := by
  obtain ⟨ys, n, _, _, hlen, hyl, hf⟩ := DataW.trod_struct Try.underlying34 h
  rw [cells34] at hlen
  match cs, hlen with
  | [c0, c1], _ =>
    have hyl2 : ys.length = 2 := hyl
    match ys, hyl2 with
    | [y0, y1], _ =>
      have h0 : DataW.trod enc Try.prog W 0 (fun _ => true) true n 5 [c0] = some y0 := by
        have := hf 0 _ rfl
        simpa [cells5] using this
      have h1 : DataW.trod enc Try.prog W 0 (fun _ => true) true n 22 [c1] = some y1 := by
        have := hf 1 _ rfl
        simpa [cells22] using this
      obtain ⟨z0, e0, _, w0⟩ := DataW.trod_int Try.underlying5 h0
      obtain ⟨z1, e1, _, w1⟩ := DataW.trod_int Try.underlying22 h1
      have b0 := bounds_u8 w0
      have b1 := bounds_u32 w1
      simp only [List.cons.injEq, and_true] at e0 e1
      subst e0 e1
      obtain ⟨n0, rfl⟩ := Int.eq_ofNat_of_zero_le b0.1
      obtain ⟨n1, rfl⟩ := Int.eq_ofNat_of_zero_le b1.1
      exact ⟨(n0, n1), ⟨by simp only; omega, by simp only; omega⟩, rfl⟩

/-- A slice of dots that came in. -/
theorem dots_of {H : Type} {enc : TypeId × Value → H} {W : World} {a : Option Addr} {len cap : Nat} {d : DataW H} {p : List MemPlace}
    (h : DataW.Trod enc Try.prog W 0 (fun _ => true) true 25 (.slice a len cap) d p) : len ≤ maxLen ∧ ∃ l, DL W a len l := by
  obtain ⟨fuel, hf⟩ := h
  rcases Go.Deep.open_slice Try.underlying25 hf with ⟨hcs, _⟩ | ⟨x, l, c, m, n, D, Pl, hcs, _, hl, hm, hmm, _, hi⟩
  · simp [Value.cells] at hcs
    obtain ⟨rfl, rfl, rfl⟩ := hcs
    exact ⟨Nat.zero_le _, [], rfl, by simp, .inl rfl⟩
  · simp [Value.cells] at hcs
    obtain ⟨rfl, rfl, rfl⟩ := hcs
    simp at hmm
    have hall : ∀ i, i < len → ∃ v : Dt, Raw v ∧ W.cell? (x.add (i * 2)) = some (.int .u8 (v.1 : Int)) ∧ W.cell? (x.add (i * 2 + 1)) = some (.int .u32 (v.2 : Int)) := by
      intro i hil
      obtain ⟨cs', hc, ht⟩ := hi i (by omega)
      rw [cells34] at hc
      obtain ⟨_, _, hat⟩ := World.cells?_some hc
      obtain ⟨v, hv, rfl⟩ := dot_cells ht
      refine ⟨v, hv, ?_, ?_⟩
      · have := hat 0 (by omega); rw [Go.Deep.add_add] at this; simpa using this
      · have := hat 1 (by omega); rw [Go.Deep.add_add] at this; simpa using this
    obtain ⟨xs, hxl, hxs⟩ := choose_dots hall
    refine ⟨by omega, xs, hxl, fun y hy => ?_, ?_⟩
    · obtain ⟨i, hi⟩ := List.getElem?_of_mem hy
      exact (hxs i y hi).1
    · by_cases h0 : len = 0
      · exact .inl h0
      · obtain ⟨b, off, spot⟩ := x
        have hspot : spot = none := by
          have hl0 : 0 < xs.length := by omega
          have := (hxs 0 _ (List.getElem?_eq_getElem hl0)).2.1
          simpa [Addr.add] using World.cell?_spot this
        subst hspot
        refine .inr ⟨b, off, rfl, fun i y hy => ?_⟩
        have := (hxs i y hy).2
        rw [Addr.add_mid, Addr.add_mid, ← Nat.add_assoc] at this
        exact this

theorem right_top {v : V} (h : V.rightB v 16 = true) : ∀ r, r < 16 → v.at_ r ≤ 1048576 := by
  simp only [V.rightB, Bool.and_eq_true] at h
  exact fun r hr => ((V.rightTo_iff v 16 16).1 h.2 r hr).1
theorem right_norm {v : V} (h : V.rightB v 16 = true) : Norm v [] := ⟨by simp [Srt], right_top h, by simp⟩

section
variable {ev : Operand → Value} {o : Oper} {w : World}
theorem exec_len25 {x : Operand} {a : Option Addr} {n cap : Nat} (ho : o.op = .call { callee := .builtin .len, args := #[x], argTypes := #[25] }) (hx : ev x = .slice a n cap) : (execOp ev o).run Try.prog w = .ok (.value (.int .i64 (n : Int))) w := by
  unfold execOp
  simp only [ho]
  go_simp
end

end Go.Proofs.Ytkamldmcjegjgaa
