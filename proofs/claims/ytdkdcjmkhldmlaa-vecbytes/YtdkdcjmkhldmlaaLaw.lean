/- What every law of this seat uses: a vector, and a dot, that came in; and 'alive' at the beginning. -/
import Derived.Test.YtdkdcjmkhldmlaaAlive
import Derived.Lib.SmallJoins
namespace Go.Proofs.Ytdkdcjmkhldmlaa
open Go.ChangeShapes Go.WideShapes Go.ChangeAt Go.RowKit Go.Joins

theorem cells24' : Try.prog.cellsOf 24 = 16 := by kernel_rfl
theorem cells22 : Try.prog.cellsOf 22 = 1 := by kernel_rfl

theorem okWide_vec {W : World} {r : Reach} {b : Nat} {v : Value} (h : Value.okWide Try.prog W r b 24 v) : ∃ cs, v = .agg cs ∧ cs.size = 16 := by
  simp only [Value.okWide, und24] at h
  obtain ⟨cs, h1, h2, _⟩ := h
  exact ⟨cs, h1, h2.trans cells24'⟩

/-- The number in a cell. -/
def numOf : Value → Nat
  | .int _ z => z.toNat
  | _ => 0

/-- A vector that came in. -/
theorem vec_of {H : Type} {enc : TypeId × Value → H} {W : World} {r : Reach} {b : Nat} {v : Value} {d : DataW H} {p : List MemPlace} (hv : Value.okWide Try.prog W r b 24 v)
    (h : DataW.Trod enc Try.prog W 0 (fun _ => true) true 24 v d p) : ∃ a : V, v = .agg a.arr := by
  obtain ⟨cs, rfl, hs⟩ := okWide_vec hv
  obtain ⟨fuel, hf⟩ := h
  cases fuel with
  | zero => simp [DataW.trod] at hf
  | succ n =>
    unfold DataW.trod at hf
    rw [und24] at hf
    simp only [Value.cells, cells22, cells24', Nat.mul_one] at hf
    split at hf
    · simp only [Option.map_eq_some_iff] at hf
      obtain ⟨xs, hx, _⟩ := hf
      have hcell : ∀ i, i < 16 → ∃ z : Nat, z < 4294967296 ∧ cs[i]? = some (.int .u32 (z : Int)) := by
        intro i hi
        have hg := mapM_some_get hx i i (by simp [hi])
        have hxl : i < xs.length := by
          have := mapM_some_length hx
          simp at this
          omega
        rw [List.getElem?_eq_getElem hxl] at hg
        obtain ⟨z, hz, _, hw⟩ := DataW.trod_int Try.underlying22 hg
        have hb := bounds_u32 hw
        have hl : i < cs.toList.length := by simp [hs]; exact hi
        rw [List.drop_eq_getElem_cons hl] at hz
        simp only [List.take_succ_cons, List.take_zero, List.cons.injEq, and_true] at hz
        refine ⟨z.toNat, by omega, ?_⟩
        rw [show ((z.toNat : Nat) : Int) = z by omega, ← hz]
        have hl' : i < cs.size := by rw [hs]; exact hi
        simp [hl']
      refine ⟨V.of fun i => numOf (cs[i]?.getD undef), congrArg Value.agg (V.arr_ext hs fun i hi => ?_)⟩
      obtain ⟨z, hz, hc⟩ := hcell i hi
      rw [V.of_at _ hi (by rw [hc]; simpa [numOf] using hz), hc]
      simp [numOf]
    · cases hf

/-- A dot that came in. -/
theorem dot_of {H : Type} {enc : TypeId × Value → H} {W : World} {r : Reach} {b : Nat} {v : Value} {d : DataW H} {p : List MemPlace} (hv : Value.okWide Try.prog W r b 34 v)
    (h : DataW.Trod enc Try.prog W 0 (fun _ => true) true 34 v d p) : ∃ x y : Nat, x < 256 ∧ y < 4294967296 ∧ v = dotV x y := by
  obtain ⟨c0, c1, y0, y1, m, rfl, _, _, hy0, hy1⟩ := open_agg2 Try.underlying34 (by kernel_rfl) (by kernel_rfl) hv h
  obtain ⟨z0, e0, _, w0⟩ := DataW.trod_int Try.underlying5 hy0
  obtain ⟨z1, e1, _, w1⟩ := DataW.trod_int Try.underlying22 hy1
  have b0 := bounds_u8 w0
  have b1 := bounds_u32 w1
  simp only [List.cons.injEq, and_true] at e0 e1
  subst e0 e1
  obtain ⟨n0, rfl⟩ := Int.eq_ofNat_of_zero_le b0.1
  obtain ⟨n1, rfl⟩ := Int.eq_ofNat_of_zero_le b1.1
  exact ⟨n0, n1, by omega, by omega, rfl⟩

theorem exec_add {ev : Operand → Value} {o : Oper} {x y : Operand} {u t : TypeId} {a b : Nat} {w : World} (ho : o.op = .binOp .add u x y t) (hx : ev x = .int .u64 (a : Int)) (hy : ev y = .int .u64 (b : Int)) (hr : a + b < 18446744073709551616) : (execOp ev o).run Try.prog w = .ok (.value (.int .u64 ((a + b : Nat) : Int))) w := by
  have e : IntKind.u64.wrap ((a : Int) + (b : Int)) = ((a + b : Nat) : Int) := by rw [IntKind.wrap_u64]; omega
  unfold execOp
  simp [ho, hx, hy, eqGuard, binOp, Op.intArith, e]

theorem wpList_zero24 {ops : Array Oper} {rest : List Oper} {o : Oper} {act : Act} {Q : Exit → Act → World → Prop} {W : World} {z : V} (hz : V.zero = z) (hw : Region.wanted o (yielded ops act.tmps) = true) (ho : o.op = .build 24 #[])
    (k : wpList Try.prog ops Q rest (act.put o.dst (.agg z.arr)) W) : wpList Try.prog ops Q (o :: rest) act W :=
  BigFrame.wpList_want hw fun K hK => by
    subst hz
    have h1 : (#[] : Array (Nat × Operand)).map (fun (i, x) => (i, act.eval x)) = #[] := by simp
    unfold Oper.wp execOp
    simp only [ho, h1, Sem.run_bind, build24, Result.andThen_ok]
    exact hK _ _ k

end Go.Proofs.Ytdkdcjmkhldmlaa
