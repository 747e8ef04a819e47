/- Aims and dots as keys of maps: what they read as. -/
import Derived.Test.YtmibfbbkjejkmaaMa
import Derived.Test.YtmibfbbkjejkmaaFc
namespace Go.Proofs.Ytmibfbbkjejkmaa
open Go.RowKit Go.Maps Fold

theorem types_size : Try.prog.types.size = 129 := by kernel_rfl
theorem lits_int {d : Nat} {t : TypeId} {k : IntKind} (hu : Try.prog.underlying t = some (.int k)) {n : Int} (hw : (Lit.int k n).wf = true) : Try.prog.keyLits (d + 1) t [.int k n] = some [.int k n] := by
  unfold Program.keyLits
  simp [hu, hw]
theorem wf8 {r : Nat} (h : r < 256) : (Lit.int .u8 (r : Int)).wf = true := by
  simp [Lit.wf, IntKind.min, IntKind.max, IntKind.bits, IntKind.signed]; omega
theorem wf16b {x : Nat} (h : x < 65536) : (Lit.int .u16 (x : Int)).wf = true := by
  simp [Lit.wf, IntKind.min, IntKind.max, IntKind.bits, IntKind.signed]; omega
theorem wf32 {s : Nat} (h : s < 4294967296) : (Lit.int .u32 (s : Int)).wf = true := by
  simp [Lit.wf, IntKind.min, IntKind.max, IntKind.bits, IntKind.signed]; omega
theorem cells38k : Try.prog.cellsOf 38 = 2 := by kernel_rfl
theorem cells5k : Try.prog.cellsOf 5 = 1 := by kernel_rfl
theorem cells23k : Try.prog.cellsOf 23 = 1 := by kernel_rfl
theorem cells34k : Try.prog.cellsOf 34 = 1 := by kernel_rfl
theorem cells88k : Try.prog.cellsOf 88 = 3 := by kernel_rfl

/-! Dots. -/
theorem law38 : Keyed Try.prog 38 := Keyed.of_law (deep_law_laid (m := 50) (by kernel_rfl) (by omega) (of_decide_eq_true (by kernel_rfl)) (by kernel_rfl) (by kernel_rfl))
theorem key_type38 : Try.prog.keyType 38 = true := by kernel_rfl
def kd (r s : Nat) : Lit := .string (keyBytes [.int .u8 (r : Int), .int .u32 (s : Int)])
theorem lits38 (d : Nat) (a b : Value) : Try.prog.keyLits (d + 2) 38 [a, b] = (Try.prog.keyLits (d + 1) 5 [a]).bind fun la => (Try.prog.keyLits (d + 1) 23 [b]).map fun lb => la ++ lb := by
  conv => lhs; unfold Program.keyLits
  simp only [Try.underlying38, cells38k]
  simp [cells5k, cells23k]
  cases Try.prog.keyLits (d + 1) 5 [a] <;> cases Try.prog.keyLits (d + 1) 23 [b] <;> simp
theorem key38 {r s : Nat} (hr : r < 256) (hs : s < 4294967296) : keyOf Try.prog 38 (dotV r s) = some (kd r s) := by
  have hl : ∀ d, Try.prog.keyLits (d + 2) 38 [.int .u8 (r : Int), .int .u32 (s : Int)] = some [.int .u8 (r : Int), .int .u32 (s : Int)] := fun d => by
    rw [lits38, lits_int Try.underlying5 (wf8 hr), lits_int Try.underlying23 (wf32 hs)]
    rfl
  have hf : Value.formed Try.prog 38 (dotV r s) = true := by simp [Value.formed, Try.underlying38, cells38k]
  have e : Try.prog.types.size + 1 = 128 + 2 := by rw [types_size]
  unfold keyOf
  simp only [Try.underlying38]
  rw [key_type38, hf, e]
  simp only [Value.cells]
  rw [hl]
  rfl
theorem kd_inj {r s r' s' : Nat} (h1 : r < 256) (h2 : s < 4294967296) (h3 : r' < 256) (h4 : s' < 4294967296) (h : kd r s = kd r' s') : r = r' ∧ s = s' := by
  have e1 := key38 h1 h2
  rw [h] at e1
  have := law38.inj e1 (key38 h3 h4)
  simp only [Value.agg.injEq, Array.mk.injEq, List.cons.injEq, Value.int.injEq, true_and, and_true, Int.natCast_inj] at this
  exact this

/-! Aims. -/
theorem law88 : Keyed Try.prog 88 := Keyed.of_law (deep_law_laid (m := 50) (by kernel_rfl) (by omega) (of_decide_eq_true (by kernel_rfl)) (by kernel_rfl) (by kernel_rfl))
theorem key_type88 : Try.prog.keyType 88 = true := by kernel_rfl
abbrev aimV (a : Aim) : Value := .agg #[.int .u8 (a.1 : Int), .int .u16 (a.2.1 : Int), .int .u16 (a.2.2 : Int)]
def RawA (a : Aim) : Prop := a.1 < 256 ∧ a.2.1 < 65536 ∧ a.2.2 < 65536
def ka (a : Aim) : Lit := .string (keyBytes [.int .u8 (a.1 : Int), .int .u16 (a.2.1 : Int), .int .u16 (a.2.2 : Int)])
theorem lits88 (d : Nat) (a b c : Value) : Try.prog.keyLits (d + 2) 88 [a, b, c] = (Try.prog.keyLits (d + 1) 5 [a]).bind fun la => (Try.prog.keyLits (d + 1) 34 [b]).bind fun lb => (Try.prog.keyLits (d + 1) 34 [c]).map fun lc => la ++ (lb ++ lc) := by
  conv => lhs; unfold Program.keyLits
  simp only [Try.underlying88, cells88k]
  simp [cells5k, cells34k]
  cases Try.prog.keyLits (d + 1) 5 [a] <;> cases Try.prog.keyLits (d + 1) 34 [b] <;> cases Try.prog.keyLits (d + 1) 34 [c] <;> simp
theorem key88 {a : Aim} (h : RawA a) : keyOf Try.prog 88 (aimV a) = some (ka a) := by
  have hl : ∀ d, Try.prog.keyLits (d + 2) 88 [.int .u8 (a.1 : Int), .int .u16 (a.2.1 : Int), .int .u16 (a.2.2 : Int)] = some [.int .u8 (a.1 : Int), .int .u16 (a.2.1 : Int), .int .u16 (a.2.2 : Int)] := fun d => by
    rw [lits88, lits_int Try.underlying5 (wf8 h.1), lits_int Try.underlying34 (wf16b h.2.1), lits_int Try.underlying34 (wf16b h.2.2)]
    rfl
  have hf : Value.formed Try.prog 88 (aimV a) = true := by simp [Value.formed, Try.underlying88, cells88k]
  have e : Try.prog.types.size + 1 = 128 + 2 := by rw [types_size]
  unfold keyOf
  simp only [Try.underlying88]
  rw [key_type88, hf, e]
  simp only [Value.cells]
  rw [hl]
  rfl
theorem ka_inj {a b : Aim} (h1 : RawA a) (h2 : RawA b) (h : ka a = ka b) : a = b := by
  have e1 := key88 h1
  rw [h] at e1
  have := law88.inj e1 (key88 h2)
  simp only [Value.agg.injEq, Array.mk.injEq, List.cons.injEq, Value.int.injEq, true_and, and_true, Int.natCast_inj] at this
  exact Prod.ext this.1 (Prod.ext this.2.1 this.2.2)
theorem und74 : Try.prog.underlying 74 = some (.map 88 40) := Try.underlying74
theorem und57 : Try.prog.underlying 57 = some (.map 38 59) := Try.underlying57
theorem zero40 (w : World) : (zeroValue 40).run Try.prog w = .ok (.agg O.zero.arr) w := by rw [zero_oarr]; exact Try.zeroValue40 w
theorem zero59 (w : World) : (zeroValue 59).run Try.prog w = .ok (.agg #[]) w := Try.zeroValue59 w

end Go.Proofs.Ytmibfbbkjejkmaa
