/- A set in a law: the set, the vector it began with, and the dots that came in. -/
import Derived.Test.YtkamldmcjegjgaaLaw
namespace Go.Proofs.Ytkamldmcjegjgaa
open Go.RowKit

theorem Blk.ne {w : World} {g p : Nat} {t t' : TypeId} {cs cs' : Array Value} (h : Blk w g t cs) (k : Blk w p t' cs') (ht : t ≠ t') : g ≠ p := by
  rintro rfl
  unfold Blk at h k
  rw [h] at k
  cases k
  exact ht rfl

/-- The blocks of a set. -/
def PM (p m : Nat) (k : Nat) : Prop := k = p ∨ k = m

/-- The set, its beginning, and what came in. -/
structure Sb (w W : World) (p m : Nat) (v c : V) (L : List Dt) (a : Option Addr) (n : Nat) (l : List Dt) (k : Nat) : Prop where
  grp : Grp W p m c L
  one : Blk W w.heap.size 24 v.arr
  arg : DL W a n l
  nm : Norm c L
  len : L.length ≤ k
  vin : ∀ x, V.hasB v x.1 x.2 = true → In c L x
  top : ∀ r, r < 16 → v.at_ r ≤ 1048576
  pm : w.heap.size < p ∧ w.heap.size < m
  alt : ∀ ad, a = some ad → n ≠ 0 → ad.block < w.heap.size
  old : Below w.heap.size w W
section
variable {w W W' : World} {p m : Nat} {v c : V} {L : List Dt} {a : Option Addr} {n : Nat} {l : List Dt} {k : Nat}
theorem Sb.below (h : Sb w W p m v c L a n l k) (hb : Below W.heap.size W W') : Sb w W' p m v c L a n l k :=
  ⟨h.grp.below hb, h.one.below hb, h.arg.below hb, h.nm, h.len, h.vin, h.top, h.pm, h.alt, h.old.trans (hb.mono h.old.size)⟩
theorem Sb.drew (h : Sb w W p m v c L a n l k) : Sb w W.drew p m v c L a n l k :=
  ⟨h.grp.drew, h.one, h.arg.drew, h.nm, h.len, h.vin, h.top, h.pm, h.alt, h.old.drew⟩
theorem Sb.succ (h : Sb w W p m v c L a n l k) : Sb w W p m v c L a n l (k + 1) :=
  ⟨h.grp, h.one, h.arg, h.nm, by have := h.len; omega, h.vin, h.top, h.pm, h.alt, h.old⟩
theorem Sb.kept (h : Sb w W p m v c L a n l k) {S : Nat → Prop} (hk : Kept S W W') (hS : ∀ i, S i → w.heap.size < i) (hp : ¬ S p) (hm : ¬ S m) : Sb w W' p m v c L a n l k :=
  ⟨h.grp.kept hk hp hm, h.one.kept hk (fun hh => by have := hS _ hh; omega), h.arg.keep hk (fun ad had hn hh => by have := hS _ hh; have := h.alt ad had hn; omega), h.nm, h.len, h.vin, h.top, h.pm, h.alt, h.old.trans (hk.below h.old.size (fun i hi => by have := hS i hi; omega))⟩
theorem Sb.add (h : Sb w W p m v c L a n l k) {x : Dt} {c' : V} {L' : List Dt} (ha : AddR c L x c' L') (hg : Grp W' p m c' L') (hk : Kept (fun k => k = p ∨ k = m) W W') : Sb w W' p m v c' L' a n l (k + 1) := by
  have hpm := h.pm
  refine ⟨hg, h.one.kept hk (by omega), h.arg.keep hk (fun ad had hn => by have := h.alt ad had hn; omega), ha.norm h.nm, by have := ha.len; have := h.len; omega, fun x hx => ha.old (h.vin x hx), h.top, h.pm, h.alt, h.old.trans (hk.below h.old.size (fun i hi => by omega))⟩
theorem Sb.belowV (h : Sb w W p m v c L a n l k) : V.belowB v c = true :=
  belowB_of v c fun i hi => below_of (M := []) h.nm h.top (fun x hx => h.vin x (by rcases hx with hx | hx; exact hx; simp at hx)) hi
end
theorem sb_new {w W W' : World} {p m : Nat} {v : V} {a : Option Addr} {n : Nat} {l : List Dt} (ho : Blk W w.heap.size 24 v.arr) (ha : DL w a n l) (hb0 : Below w.heap.size w W) (hr : V.rightB v 16 = true) (hg : Grp W' p m v []) (hp : W.heap.size ≤ p) (hm : W.heap.size ≤ m) (hb : Below W.heap.size W W') : Sb w W' p m v v [] a n l 0 :=
  ⟨hg, ho.below hb, (ha.below hb0).below hb, right_norm hr, Nat.le_refl _, fun x hx => .inl hx, right_top hr, by have := ho.lt; omega, ha.lt, hb0.trans (hb.mono hb0.size)⟩

section
variable {ev : Operand → Value} {o : Oper} {w : World}
theorem exec_u64 {x : Operand} {k : Nat} (ho : o.op = .convert 3 49 x) (hx : ev x = .int .i64 (k : Int)) (hk : k < 18446744073709551616) : (execOp ev o).run Try.prog w = .ok (.value (.int .u64 (k : Int))) w := by
  have hw : IntKind.u64.wrap (k : Int) = (k : Int) := by rw [IntKind.wrap_u64]; omega
  unfold execOp
  simp only [ho, hx]
  go_simp
theorem exec_add49 {x y : Operand} {t : TypeId} {a b : Nat} (ho : o.op = .binOp .add 49 x y t) (hx : ev x = .int .u64 (a : Int)) (hy : ev y = .int .u64 (b : Int)) (hr : a + b < 18446744073709551616) : (execOp ev o).run Try.prog w = .ok (.value (.int .u64 ((a + b : Nat) : Int))) w := by
  have e : IntKind.u64.wrap ((a : Int) + (b : Int)) = ((a + b : Nat) : Int) := by rw [IntKind.wrap_u64]; omega
  unfold execOp
  simp [ho, hx, hy, eqGuard, binOp, Op.intArith, e]
end

end Go.Proofs.Ytkamldmcjegjgaa
