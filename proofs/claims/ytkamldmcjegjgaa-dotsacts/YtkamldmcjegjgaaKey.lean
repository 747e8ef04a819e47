/- Dots as keys of a map: what a dot reads as, and that two dots read alike only if they are one. -/
import Derived.Test.YtkamldmcjegjgaaDs
import Derived.Test.YtkamldmcjegjgaaDot
import Derived.Maps.RangeWalk
import Derived.Maps.Ext
import Derived.Maps.OwnOps
import Derived.Maps.OwnSet
import Derived.DeepKeys4
namespace Go.Proofs.Ytkamldmcjegjgaa
open Go.RowKit Go.Maps

theorem law34 : Keyed Try.prog 34 := Keyed.of_law (deep_law_laid (m := 50) (by kernel_rfl) (by omega) (of_decide_eq_true (by kernel_rfl)) (by kernel_rfl) (by kernel_rfl))

/-- A dot as a value. -/
abbrev Dt.val (x : Dt) : Value := dotV x.1 x.2

/-- Within its fields. -/
def Raw (x : Dt) : Prop := x.1 < 256 ∧ x.2 < 4294967296

/-- What it reads as. -/
def kd (x : Dt) : Lit := .string (keyBytes [.int .u8 (x.1 : Int), .int .u32 (x.2 : Int)])

theorem types_size : Try.prog.types.size = 109 := by kernel_rfl
theorem key_type34 : Try.prog.keyType 34 = true := by kernel_rfl
theorem cells34 : Try.prog.cellsOf 34 = 2 := by kernel_rfl
theorem cells5 : Try.prog.cellsOf 5 = 1 := by kernel_rfl
theorem cells22 : Try.prog.cellsOf 22 = 1 := by kernel_rfl

theorem wf8 {r : Nat} (h : r < 256) : (Lit.int .u8 (r : Int)).wf = true := by
  simp [Lit.wf, IntKind.min, IntKind.max, IntKind.bits, IntKind.signed]; omega
theorem wf32 {s : Nat} (h : s < 4294967296) : (Lit.int .u32 (s : Int)).wf = true := by
  simp [Lit.wf, IntKind.min, IntKind.max, IntKind.bits, IntKind.signed]; omega

theorem lits34 (d : Nat) (a b : Value) : Try.prog.keyLits (d + 2) 34 [a, b] = (Try.prog.keyLits (d + 1) 5 [a]).bind fun la => (Try.prog.keyLits (d + 1) 22 [b]).map fun lb => la ++ lb := by
  conv => lhs; unfold Program.keyLits
  simp only [Try.underlying34, cells34]
  simp [cells5, cells22]
  cases Try.prog.keyLits (d + 1) 5 [a] <;> cases Try.prog.keyLits (d + 1) 22 [b] <;> simp
theorem lits_int {d : Nat} {t : TypeId} {k : IntKind} (hu : Try.prog.underlying t = some (.int k)) {n : Int} (hw : (Lit.int k n).wf = true) : Try.prog.keyLits (d + 1) t [.int k n] = some [.int k n] := by
  unfold Program.keyLits
  simp [hu, hw]

theorem key34 (x : Dt) (h : Raw x) : keyOf Try.prog 34 x.val = some (kd x) := by
  have hl : ∀ d, Try.prog.keyLits (d + 2) 34 [.int .u8 (x.1 : Int), .int .u32 (x.2 : Int)] = some [.int .u8 (x.1 : Int), .int .u32 (x.2 : Int)] := fun d => by
    rw [lits34, lits_int Try.underlying5 (wf8 h.1), lits_int Try.underlying22 (wf32 h.2)]
    rfl
  have hf : Value.formed Try.prog 34 x.val = true := by simp [Value.formed, Try.underlying34, cells34]
  have e : Try.prog.types.size + 1 = 108 + 2 := by rw [types_size]
  unfold keyOf
  simp only [Try.underlying34]
  rw [key_type34, hf, e]
  simp only [Value.cells]
  rw [hl]
  rfl

theorem kd_inj {x y : Dt} (hx : Raw x) (hy : Raw y) (h : kd x = kd y) : x = y := by
  have h1 := key34 x hx
  rw [h] at h1
  have := law34.inj h1 (key34 y hy)
  simp only [Value.agg.injEq, Array.mk.injEq, List.cons.injEq, Value.int.injEq, true_and, and_true, Int.natCast_inj] at this
  exact Prod.ext this.1 this.2

theorem int_of {P : Program} {d : Nat} {t : TypeId} {k : IntKind} (hu : P.underlying t = some (.int k)) {v : Value} {l : List Lit} (h : P.keyLits (d + 1) t [v] = some l) : ∃ n : Int, v = .int k n ∧ (Lit.int k n).wf = true ∧ l = [.int k n] := by
  unfold Program.keyLits at h
  rw [hu] at h
  cases v <;> simp at h
  obtain ⟨⟨rfl, h2⟩, rfl⟩ := h
  exact ⟨_, rfl, h2, rfl⟩

theorem nat_of {k : IntKind} {n : Int} (hw : (Lit.int k n).wf = true) (hk : k.min = 0) : ∃ m : Nat, n = (m : Int) := by
  simp [Lit.wf, hk] at hw
  exact ⟨n.toNat, by omega⟩

theorem key34_inv {v : Value} {kl : Lit} (h : keyOf Try.prog 34 v = some kl) : ∃ x : Dt, v = x.val ∧ Raw x ∧ kl = kd x := by
  have e : Try.prog.types.size + 1 = 108 + 2 := by rw [types_size]
  unfold keyOf at h
  simp only [Try.underlying34] at h
  split at h
  · rename_i hc
    rw [key_type34, Bool.true_and] at hc
    cases v <;> simp [Value.formed, Try.underlying34] at hc
    rename_i cs
    rw [cells34] at hc
    obtain ⟨a, b, hcs⟩ : ∃ a b, cs.toList = [a, b] := by
      have hl : cs.toList.length = 2 := by simpa using hc
      match h2 : cs.toList, hl with
      | [a, b], _ => exact ⟨a, b, rfl⟩
    obtain rfl : cs = #[a, b] := by rw [← Array.toList_inj]; exact hcs
    rw [e] at h
    simp only [Value.cells] at h
    rw [lits34] at h
    cases h5 : Try.prog.keyLits (108 + 1) 5 [a] with
    | none => rw [h5] at h; cases h
    | some la =>
      cases h22 : Try.prog.keyLits (108 + 1) 22 [b] with
      | none => rw [h5, h22] at h; cases h
      | some lb =>
        rw [h5, h22] at h
        obtain ⟨n, rfl, hn, rfl⟩ := int_of Try.underlying5 h5
        obtain ⟨m, rfl, hm, rfl⟩ := int_of Try.underlying22 h22
        obtain ⟨n, rfl⟩ := nat_of hn (by kernel_rfl)
        obtain ⟨m, rfl⟩ := nat_of hm (by kernel_rfl)
        refine ⟨(n, m), rfl, ⟨?_, ?_⟩, ?_⟩
        · simp [Lit.wf, IntKind.min, IntKind.max, IntKind.bits, IntKind.signed] at hn; simp only; omega
        · simp [Lit.wf, IntKind.min, IntKind.max, IntKind.bits, IntKind.signed] at hm; simp only; omega
        · exact (Option.some.inj h).symm
  · cases h

end Go.Proofs.Ytkamldmcjegjgaa
