import Derived.Test.YtnekpgmgnepdoaaGreatRows
import Derived.WalkKit
import Derived.WalkSpells
import Derived.WalkLawsBesides
import Derived.Lib.Hide
import Derived.Below
import Derived.Deep.AppendLies
import Derived.Deep.RegionWith
import Derived.Deep.WholeRow
import Derived.Deep.MidRow
import Derived.ChangeKeysEq
import Derived.Laws.ResultCell
import Derived.Deep.RegionHeld3
import Derived.StillTailTactics
section
namespace Go.Proofs.YtnekpgmgnepdoaaGreat
theorem ap1 {α : Type} (xs : List α) (i : Nat) (a : α) : xs.toArray.setIfInBounds i a = (xs.set i a).toArray := by simp
theorem ap2 {α : Type} (x y : α) (xs : List α) : (x :: xs).set 0 y = y :: xs := rfl
theorem ap3 {α : Type} (x y : α) (xs : List α) (n : Nat) : (x :: xs).set (n + 1) y = x :: xs.set n y := rfl
def V : Type := { l : List Nat // l.length = 16 ∧ ∀ x ∈ l, x < 4294967296 }
instance : DecidableEq V := inferInstanceAs (DecidableEq { l : List Nat // l.length = 16 ∧ ∀ x ∈ l, x < 4294967296 })
namespace V
def at_ (v : V) (i : Nat) : Nat := v.1.getD i 0
theorem lt (v : V) (i : Nat) : v.at_ i < 4294967296 := by
 unfold at_
 by_cases h : i < v.1.length
 ·have : v.1.getD i 0 = v.1[i] := by simp [List.getD, h]
  rw [this]
  exact v.2.2 _ (List.getElem_mem h)
 ·have : v.1.getD i 0 = 0 := by simp [List.getD, h]
  omega
def of (f : Nat → Nat) : V := ⟨(List.range 16).map fun i => f i % 4294967296, by simp, by
 intro x hx
 obtain ⟨i, _, rfl⟩ := List.mem_map.1 hx
 exact Nat.mod_lt _ (by omega)⟩
theorem of_at (f : Nat → Nat) {i : Nat} (h : i < 16) (hf : f i < 4294967296) : (of f).at_ i = f i := by
 show ((List.range 16).map fun i => f i % 4294967296).getD i 0 = f i
 simp [List.getD, h, Nat.mod_eq_of_lt hf]
theorem ext {a b : V} (h : ∀ i, i < 16 → a.at_ i = b.at_ i) : a = b := by
 apply Subtype.ext
 apply List.ext_getElem (by rw [a.2.1, b.2.1])
 intro i h1 h2
 have := h i (by rw [a.2.1] at h1; exact h1)
 simpa [at_, List.getD, h1, h2] using this
def join (a b : V) : V := of fun i => max (a.at_ i) (b.at_ i)
def put (v : V) (r s : Nat) : V := of fun i => if i = r then s else v.at_ i
def zero : V := of fun _ => 0
theorem join_at (a b : V) {i : Nat} (h : i < 16) : (join a b).at_ i = max (a.at_ i) (b.at_ i) :=
 of_at _ h (by have := a.lt i; have := b.lt i; omega)
theorem put_at (v : V) (r s : Nat) {i : Nat} (h : i < 16) (hs : s < 4294967296) : (put v r s).at_ i = if i = r then s else v.at_ i :=
 of_at _ h (by have := v.lt i; split <;> omega)
theorem zero_at (i : Nat) : zero.at_ i = 0 := by
 by_cases h : i < 16
 ·exact of_at _ h (by omega)
 ·show zero.1.getD i 0 = 0
  have : ¬ i < zero.1.length := by rw [zero.2.1]; exact h
  simp [List.getD, this]
def joinTo (a b : V) (k : Nat) : V := of fun i => if i < k then max (a.at_ i) (b.at_ i) else a.at_ i
theorem joinTo_at (a b : V) (k : Nat) {i : Nat} (h : i < 16) : (joinTo a b k).at_ i = if i < k then max (a.at_ i) (b.at_ i) else a.at_ i :=
 of_at _ h (by have := a.lt i; have := b.lt i; split <;> omega)
theorem joinTo_zero (a b : V) : joinTo a b 0 = a := ext fun i h => by rw [joinTo_at a b 0 h]; simp
theorem joinTo_all (a b : V) : joinTo a b 16 = join a b := ext fun i h => by rw [joinTo_at a b 16 h, join_at a b h, if_pos h]
theorem joinTo_succ (a b : V) {k : Nat} (hk : k < 16) : joinTo a b (k + 1) = put (joinTo a b k) k (max (a.at_ k) (b.at_ k)) := ext fun i h => by
 have h1 := a.lt k
 have h2 := b.lt k
 rw [joinTo_at a b _ h, put_at _ _ _ h (by omega), joinTo_at a b _ h]
 by_cases e : i = k
 ·subst e; simp
 ·by_cases e2 : i < k
  ·rw [if_pos (by omega), if_neg e, if_pos e2]
  ·rw [if_neg (by omega), if_neg e, if_neg e2]
theorem joinTo_here (a b : V) {k : Nat} (hk : k < 16) : (joinTo a b k).at_ k = a.at_ k := by rw [joinTo_at a b k hk]; simp
def eqB (a b : V) : Bool := decide (a = b)
def belowB (a b : V) : Bool := (List.range 16).all fun i => decide (a.at_ i ≤ b.at_ i)
theorem belowB_iff (a b : V) : belowB a b = true ↔ ∀ i, i < 16 → a.at_ i ≤ b.at_ i := by simp [belowB]
theorem eqB_iff (a b : V) : eqB a b = true ↔ a = b := by simp [eqB]
theorem join_eq_iff (a b : V) : join a b = b ↔ belowB a b = true := by
 rw [belowB_iff]
 constructor
 ·intro h i hi
  have := congrArg (fun v => v.at_ i) h
  simp only [join_at a b hi] at this
  omega
 ·intro h
  exact ext fun i hi => by rw [join_at a b hi]; have := h i hi; omega
theorem below_join (a b : V) : eqB (join a b) b = belowB a b := by
 rw [Bool.eq_iff_iff, eqB_iff]; exact join_eq_iff a b
def sumTo (v : V) : Nat → Nat
 | 0 => 0
 | k + 1 => sumTo v k + v.at_ k
def sum (v : V) : Nat := sumTo v 16
theorem sumTo_lt (v : V) : ∀ k, sumTo v k ≤ k * 4294967295
 | 0 => by simp [sumTo]
 | k + 1 => by have := sumTo_lt v k; have := v.lt k; simp only [sumTo]; omega
theorem sum_lt (v : V) : sum v ≤ 68719476720 := sumTo_lt v 16
def rightTo (v : V) (n : Int) (k : Nat) : Bool := (List.range k).all fun i => decide (v.at_ i ≤ 1048576 ∧ (n ≤ (i : Int) → v.at_ i = 0))
theorem rightTo_iff (v : V) (n : Int) (k : Nat) : rightTo v n k = true ↔ ∀ i, i < k → v.at_ i ≤ 1048576 ∧ (n ≤ (i : Int) → v.at_ i = 0) := by
 simp only [rightTo, List.all_eq_true, List.mem_range, decide_eq_true_eq]
def rightB (v : V) (n : Int) : Bool := decide (1 ≤ n ∧ n ≤ 16) && rightTo v n 16
theorem rightTo_succ (v : V) (n : Int) (k : Nat) (h : rightTo v n k = true) (h1 : v.at_ k ≤ 1048576) (h2 : n ≤ (k : Int) → v.at_ k = 0) : rightTo v n (k + 1) = true := by
 rw [rightTo_iff] at h ⊢
 intro i hi
 by_cases e : i = k
 ·subst e; exact ⟨h1, h2⟩
 ·exact h i (by omega)
theorem rightTo_not (v : V) (n : Int) {k : Nat} (hk : k < 16) (h : 1048576 < v.at_ k ∨ (n ≤ (k : Int) ∧ v.at_ k ≠ 0)) : rightTo v n 16 = false := by
 rw [← Bool.not_eq_true, rightTo_iff]
 intro hh
 have := hh k hk
 rcases h with h | ⟨h1, h2⟩
 ·omega
 ·exact h2 (this.2 h1)
theorem rightTo_zero (v : V) (n : Int) : rightTo v n 0 = true := by simp [rightTo]
def dotB (r s : Nat) : Bool := decide (r < 16 ∧ 1 ≤ s ∧ s ≤ 1048576)
def hasB (v : V) (r s : Nat) : Bool := dotB r s && decide (s ≤ v.at_ r)
def nextE (v : V) (r s : Nat) : Nat := if dotB r s = true then (if hasB v r s = true then 8 else if 1 < s - v.at_ r then 9 else 0) else 2
def nextV (v : V) (r s : Nat) : V := if nextE v r s = 0 then put v r s else zero
end V
end Go.Proofs.YtnekpgmgnepdoaaGreat
end
section
namespace Go.Proofs.YtnekpgmgnepdoaaGreat
structure O where
 r : Nat
 s : Nat
 k : Nat
 c : Nat
 i : Nat
 q : Nat
 t : Nat
 v : V
 hr : r < 256
 hs : s < 4294967296
 hk : k < 256
 hc : c < 65536
 hi : i < 65536
 hq : q < 65536
 ht : t < 4294967296
namespace O
def zero : O := ⟨0, 0, 0, 0, 0, 0, 0, V.zero, by omega, by omega, by omega, by omega, by omega, by omega, by omega⟩
def kindB (o : O) : Bool := decide ((o.k = 1 ∧ 1 ≤ o.q) ∨ o.k = 2 ∨ (o.k = 3 ∧ o.q = 0) ∨ ((o.k = 4 ∨ o.k = 5) ∧ o.i = 0 ∧ o.q = 0))
def rightB (o : O) (n : Int) : Bool := decide (V.dotB o.r o.s = true ∧ o.v.at_ o.r + 1 = o.s ∧ (o.r : Int) < n ∧ V.rightB o.v n = true ∧ o.t ≤ 1073741824 ∧ o.kindB = true)
def count (o : O) : Nat := V.sum o.v + 1
def lessB (a b : O) : Bool := decide (a.count < b.count ∨ (a.count = b.count ∧ (a.r < b.r ∨ (a.r = b.r ∧ a.s < b.s))))
def laysB (o : O) : Bool := decide (o.k = 1 ∨ o.k = 2 ∨ o.k = 4)
def endsB (o e : O) : Bool := decide (e.laysB = true ∧ o.c = e.c ∧ V.hasB o.v e.r e.s = true ∧ (o.k = 5 ∨ ((o.k = 3 ∨ o.k = 2) ∧ e.k ≠ 4 ∧ o.i = e.i)))
def readyE (v : V) (o : O) : Nat := if o.rightB 16 = true then (if V.hasB v o.r o.s = true then 8 else if V.belowB o.v v = true then 0 else 9) else 2
theorem count_lt (o : O) : o.count ≤ 68719476721 := by have := V.sum_lt o.v; unfold count; omega
theorem right_iff (o : O) (n : Int) : o.rightB n = true ↔ V.dotB o.r o.s = true ∧ o.v.at_ o.r + 1 = o.s ∧ (o.r : Int) < n ∧ V.rightB o.v n = true ∧ o.t ≤ 1073741824 ∧ o.kindB = true := by
 unfold rightB; rw [decide_eq_true_eq]
theorem right_no {o : O} {n : Int} (h : ¬ (V.dotB o.r o.s = true ∧ o.v.at_ o.r + 1 = o.s ∧ (o.r : Int) < n ∧ V.rightB o.v n = true ∧ o.t ≤ 1073741824 ∧ o.kindB = true)) : o.rightB n = false := by
 rw [← Bool.not_eq_true, right_iff]; exact h
theorem next_zero (v : V) (r s : Nat) : V.nextE v r s = 0 ↔ V.dotB r s = true ∧ v.at_ r + 1 = s := by
 unfold V.nextE V.hasB
 cases h : V.dotB r s
 ·simp
 ·have hd : 1 ≤ s := by
   have : r < 16 ∧ 1 ≤ s ∧ s ≤ 1048576 := by simpa [V.dotB] using h
   omega
  simp only [if_true, Bool.true_and, decide_eq_true_eq, true_and]
  split
  ·omega
  ·split <;> omega
end O
end Go.Proofs.YtnekpgmgnepdoaaGreat
end
section
namespace Go.Proofs.YtnekpgmgnepdoaaGreat
open Go.RowKit
structure Kept (S : Nat → Prop) (w w' : World) : Prop where
 os : w'.os = w.os
 tape : w'.tape = w.tape
 output : w'.output = w.output
 size : w.heap.size ≤ w'.heap.size
 block : ∀ k, k < w.heap.size → ¬ S k → w'.heap[k]? = w.heap[k]?
theorem Kept.refl (S : Nat → Prop) (w : World) : Kept S w w := ⟨rfl, rfl, rfl, Nat.le_refl _, fun _ _ _ => rfl⟩
theorem Kept.trans {S T : Nat → Prop} {a b c : World} (h : Kept S a b) (k : Kept T b c) (hT : ∀ i, T i → S i ∨ a.heap.size ≤ i) : Kept S a c :=
 ⟨k.os.trans h.os, k.tape.trans h.tape, k.output.trans h.output, Nat.le_trans h.size k.size, fun i hi hs =>
  (k.block i (Nat.lt_of_lt_of_le hi h.size) (fun ht => by rcases hT i ht with h1 | h1; exact hs h1; omega)).trans (h.block i hi hs)⟩
theorem Kept.mono {S T : Nat → Prop} {w w' : World} (h : Kept S w w') (hS : ∀ k, S k → T k) : Kept T w w' :=
 ⟨h.os, h.tape, h.output, h.size, fun k hk hn => h.block k hk (fun hs => hn (hS k hs))⟩
theorem Kept.of_below {S : Nat → Prop} {w w' : World} (h : Below w.heap.size w w') : Kept S w w' :=
 ⟨h.os, h.tape, h.output, h.size, fun k hk _ => h.block k hk⟩
theorem Kept.below {S : Nat → Prop} {w w' : World} {B : Nat} (h : Kept S w w') (hB : B ≤ w.heap.size) (hS : ∀ k, S k → B ≤ k) : Below B w w' :=
 ⟨h.os, h.tape, h.output, h.size, fun k hk => h.block k (by omega) (fun hs => by have := hS k hs; omega)⟩
theorem Kept.none {w w' : World} (h : Kept (fun _ => False) w w') : Below w.heap.size w w' := h.below (Nat.le_refl _) (fun _ h => h.elim)
theorem Kept.setCell (w : World) (p : Addr) (u : Value) : Kept (fun k => k = p.block) w (w.setCell p u) :=
 ⟨rfl, rfl, rfl, by simp [World.setCell], fun k _ hn => Below.heap_setCell _ _ _ _ hn⟩
theorem Kept.alloc (S : Nat → Prop) (w : World) (o : Obj) : Kept S w (w.alloc o) :=
 .of_below ((Below.refl _ _).alloc (Nat.le_refl _) _)
theorem Kept.drew (S : Nat → Prop) (w : World) : Kept S w w.drew := ⟨rfl, rfl, rfl, Nat.le_refl _, fun _ _ _ => rfl⟩
def Blk (w : World) (g : Nat) (t : TypeId) (cs : Array Value) : Prop := w.heap[g]? = some (.cells cs t (0, 0))
theorem Blk.lt {w : World} {g : Nat} {t : TypeId} {cs : Array Value} (h : Blk w g t cs) : g < w.heap.size := (Array.getElem?_eq_some_iff.1 h).1
theorem Blk.cell {w : World} {g : Nat} {t : TypeId} {cs : Array Value} (h : Blk w g t cs) (i : Nat) : w.cell? ⟨g, i, none⟩ = cs[i]? := cell_of_row w g i cs t (0, 0) h
theorem Blk.frozen {w : World} {g : Nat} {t : TypeId} {cs : Array Value} (h : Blk w g t cs) (i : Nat) : w.frozen? ⟨g, i, none⟩ = false := by
 unfold Blk at h
 simp [World.frozen?, h]
theorem Blk.kept {S : Nat → Prop} {w w' : World} {g : Nat} {t : TypeId} {cs : Array Value} (h : Blk w g t cs) (k : Kept S w w') (hn : ¬ S g) : Blk w' g t cs := (k.block g h.lt hn).trans h
theorem Blk.below {w w' : World} {g : Nat} {t : TypeId} {cs : Array Value} (h : Blk w g t cs) (k : Below w.heap.size w w') : Blk w' g t cs := (k.block g h.lt).trans h
theorem Blk.new (w : World) (t : TypeId) (cs : Array Value) : Blk (w.alloc (.cells cs t)) w.heap.size t cs := heap_alloc_new w _
theorem Blk.set {w : World} {g : Nat} {t : TypeId} {cs : Array Value} (h : Blk w g t cs) (i : Nat) (u : Value) : Blk (w.setCell ⟨g, i, none⟩ u) g t (cs.setIfInBounds i u) := by
 unfold Blk at h ⊢
 simp [World.setCell, Array.getElem?_modify, h]
theorem ret_int {k : IntKind} {a b : Int} (h : a = b) : Ending.returned (.int k a) = .returned (.int k b) := by rw [h]
theorem ret_bool {a b : Bool} (h : a = b) : Ending.returned (.bool a) = .returned (.bool b) := by rw [h]
end Go.Proofs.YtnekpgmgnepdoaaGreat
end
section
namespace Go.Proofs.YtnekpgmgnepdoaaGreat
open Go.RowKit
def V.cs (v : V) : List Value := v.1.map fun n => Value.int .u32 ((n : Nat) : Int)
abbrev V.arr (v : V) : Array Value := v.cs.toArray
theorem V.cs_len (v : V) : v.cs.length = 16 := by simp [V.cs, v.2.1]
theorem V.arr_size (v : V) : v.arr.size = 16 := by simp [V.cs, v.2.1]
theorem V.cs_at (v : V) {i : Nat} (h : i < 16) : v.cs[i]? = some (.int .u32 (v.at_ i : Int)) := by
 have hl : i < v.1.length := by rw [v.2.1]; exact h
 simp [V.cs, V.at_, List.getD, hl]
theorem V.arr_at (v : V) {i : Nat} (h : i < 16) : v.arr[i]? = some (.int .u32 (v.at_ i : Int)) := by
 rw [← v.cs_at h]; simp
theorem V.arr_one (v : V) : v.arr.all (·.oneCell') = true := by
 refine all_oneCell_toArray fun u hu => ?_
 obtain ⟨n, _, rfl⟩ := List.mem_map.1 hu
 rfl
theorem V.arr_ext {v : V} {c : Array Value} (hs : c.size = 16) (h : ∀ i, i < 16 → c[i]? = some (.int .u32 (v.at_ i : Int))) : c = v.arr := by
 apply Array.ext_getElem?
 intro i
 by_cases hi : i < 16
 ·rw [h i hi, v.arr_at hi]
 ·rw [Array.getElem?_eq_none (by omega), Array.getElem?_eq_none (by rw [v.arr_size]; omega)]
theorem V.arr_put (v : V) {i s : Nat} (_hi : i < 16) (hs : s < 4294967296) : v.arr.setIfInBounds i (.int .u32 (s : Int)) = (v.put i s).arr := by
 refine V.arr_ext (by simp [v.cs_len]) fun j hj => ?_
 rw [V.put_at v i s hj hs, Array.getElem?_setIfInBounds]
 by_cases e : i = j
 ·subst e; simp [v.cs_len, hj]
 ·rw [if_neg e, if_neg (fun h => e h.symm), v.arr_at hj]
theorem zero_arr : V.zero.arr = #[.int .u32 0, .int .u32 0, .int .u32 0, .int .u32 0, .int .u32 0, .int .u32 0, .int .u32 0, .int .u32 0, .int .u32 0, .int .u32 0, .int .u32 0, .int .u32 0, .int .u32 0, .int .u32 0, .int .u32 0, .int .u32 0] := by kernel_rfl
theorem info24 : (Tryz.prog.info? 24).map (fun i => (i.zero, i.size)) = some (some (.agg #[.int .u32 0, .int .u32 0, .int .u32 0, .int .u32 0, .int .u32 0, .int .u32 0, .int .u32 0, .int .u32 0, .int .u32 0, .int .u32 0, .int .u32 0, .int .u32 0, .int .u32 0, .int .u32 0, .int .u32 0, .int .u32 0]), 16) := by kernel_rfl
theorem und24 : Tryz.prog.underlying 24 = some (.array 16 22) := by kernel_rfl
theorem size24 : (Tryz.prog.info? 24).map (·.size) = some 16 := (zero_of_info info24).2
theorem box24 (v : V) (w : World) : (Instr.box 24 (.agg v.arr)).run Tryz.prog w = .ok (.pointer (some ⟨w.heap.size, 0, none⟩)) (w.alloc (.cells v.arr 24)) := by
 simp [Instr.box, newVar, newRow, Value.cells, go_sem]
theorem alloc24 (w : World) : (Instr.alloc 24 true (.tuple #[])).run Tryz.prog w = .ok (.pointer (some ⟨w.heap.size, 0, none⟩)) (w.alloc (.cells V.zero.arr 24)) := by
 simp only [Instr.alloc, Sem.run_bind, (zero_of_info info24).1, Result.andThen_ok, zero_arr]
 simp [newVar, newRow, Value.cells, go_sem]
theorem load24 {w : World} {g : Nat} {v : V} (h : Blk w g 24 v.arr) : (Instr.loadAt 24 (.pointer (some ⟨g, 0, none⟩))).run Tryz.prog w = .ok (.agg v.arr) w := by
 have hi : (Tryz.prog.info? 24).map (·.size) = some v.arr.size := by rw [v.arr_size]; exact size24
 simp only [Instr.loadAt, Instr.sureAddr, Sem.run_bind, Sem.run_pure, Result.andThen]
 exact run_loadVar_row _ _ 24 24 v.arr (0, 0) _ h und24 rfl hi
theorem store24 {w : World} {g : Nat} {v u : V} (h : Blk w g 24 v.arr) : (Instr.storeAt 24 (.pointer (some ⟨g, 0, none⟩)) (.agg u.arr)).run Tryz.prog w = .ok () (w.setRow g u.arr) := by
 have hi : (Tryz.prog.info? 24).map (·.size) = some u.arr.size := by rw [u.arr_size]; exact size24
 simp only [Instr.storeAt, Instr.sureAddr, Sem.run_bind, Sem.run_pure, Result.andThen]
 exact run_storeVar_row _ _ 24 24 v.arr u.arr h hi (by rw [v.arr_size, u.arr_size]) u.arr_one
theorem eq_items (d : Nat) (a b : V) (w : World) : ∀ (is : List Nat), (∀ i ∈ is, i < 16) →
  (Op.eqItems (d + 1) 22 1 a.arr b.arr is).run Tryz.prog w = .ok (is.all fun i => decide (a.at_ i = b.at_ i)) w
 | [], _ => by simp [Op.eqItems]
 | i :: is, h => by
  have hi := h i List.mem_cons_self
  have hp : ∀ v : V, (part 22 v.arr (i * 1)).run Tryz.prog w = .ok (.int .u32 (v.at_ i : Int)) w := by
   intro v
   rw [Nat.mul_one]
   have hn : (isAgg 22).run Tryz.prog w = .ok false w := by kernel_rfl
   simp [part, Sem.run_bind, hn, v.cs_at hi]
  have he := run_equalIn_int (P := Tryz.prog) w d 22 .u32 .u32 (a.at_ i : Int) (b.at_ i : Int) (by kernel_rfl)
  simp only [Op.eqItems, Sem.run_bind, hp, Result.andThen_ok, he, Sem.run_ite]
  have ih := eq_items d a b w is (fun j hj => h j (List.mem_cons_of_mem _ hj))
  by_cases e : a.at_ i = b.at_ i
  ·simp [e, ih]
  ·have : ((a.at_ i : Int) == (b.at_ i : Int)) = false := by simp; omega
   simp [e, this]
theorem all_eq (a b : V) : ((List.range 16).all fun i => decide (a.at_ i = b.at_ i)) = V.eqB a b := by
 rw [Bool.eq_iff_iff, V.eqB_iff]
 simp only [List.all_eq_true, List.mem_range, decide_eq_true_eq]
 exact ⟨fun h => V.ext h, fun h i _ => by rw [h]⟩
theorem equal24 (a b : V) (w : World) : (Op.equalIn 10000 24 (.agg a.arr) (.agg b.arr)).run Tryz.prog w = .ok (V.eqB a b) w := by
 obtain ⟨i, hi⟩ : ∃ i, Tryz.prog.info? 22 = some i := Option.isSome_iff_exists.1 (by kernel_rfl)
 rw [run_equalIn_array w 9999 a.arr b.arr und24 hi, show Tryz.prog.cellsOf 22 = 1 by kernel_rfl, eq_items 9998 a b w _ (fun i hi => List.mem_range.1 hi), all_eq]
theorem eql24 (a b : V) (w : World) : (binOp .eql 24 (.agg a.arr) (.agg b.arr)).run Tryz.prog w = .ok (.bool (V.eqB a b)) w := by
 rw [run_eql_struct, equal24]; rfl
theorem guard24 (op : BinOp) (x y : Operand) (a b : V) (w : World) : (eqGuard op 24 x y (.agg a.arr) (.agg b.arr)).run Tryz.prog w = .ok () w := run_eqGuard_agg w op 24 x y _ _ (by kernel_rfl)
theorem index24 (v : V) (k : IntKind) (i : Nat) (w : World) (h : i < 16) : (Instr.index 24 (.agg v.arr) (.int k (i : Int))).run Tryz.prog w = .ok (.int .u32 (v.at_ i : Int)) w := by
 have hz : (sizeOf 22).run Tryz.prog w = .ok 1 w := by kernel_rfl
 simp [Instr.index, asIntOf, Sem.run_bind, run_underlying und24, Sem.run_ite, h, hz, part, v.cs_at h]
theorem Blk.row {w : World} {g : Nat} {t : TypeId} {cs ds : Array Value} (h : Blk w g t cs) : Blk (w.setRow g ds) g t ds := by
 unfold Blk at h ⊢
 simp [World.setRow, Array.getElem?_modify, h]
theorem Kept.setRow (w : World) (g : Nat) (ds : Array Value) : Kept (fun k => k = g) w (w.setRow g ds) :=
 ⟨rfl, rfl, rfl, by simp [World.setRow], fun k _ hn => by
  simp only [World.setRow, Array.getElem?_modify]
  rw [if_neg (fun e => hn e.symm)]⟩
theorem wpList_load24 {ops : Array Oper} {rest : List Oper} {o : Oper} {act : Act} {Q : Exit → Act → World → Prop} {W : World} {g : Nat} {v : V} (hgd : o.guard = none) {x : Operand} (ho : o.op = .load 24 x) (hx : act.eval x = .pointer (some ⟨g, 0, none⟩)) (h : Blk W g 24 v.arr)
  (k : wpList Tryz.prog ops Q rest (act.put o.dst (.agg v.arr)) W) : wpList Tryz.prog ops Q (o :: rest) act W :=
 wpList_plain hgd fun _ hK => by
  unfold Oper.wp execOp
  simp only [ho, hx, Sem.run_bind, load24 h, Result.andThen_ok]
  exact hK _ _ k
theorem wpList_store24 {ops : Array Oper} {rest : List Oper} {o : Oper} {act : Act} {Q : Exit → Act → World → Prop} {W : World} {g : Nat} {v u : V} (hgd : o.guard = none) {x y : Operand} (ho : o.op = .store 24 x y) (hx : act.eval x = .pointer (some ⟨g, 0, none⟩)) (hy : act.eval y = .agg u.arr) (h : Blk W g 24 v.arr)
  (k : wpList Tryz.prog ops Q rest (act.put o.dst undef) (W.setRow g u.arr)) : wpList Tryz.prog ops Q (o :: rest) act W :=
 wpList_plain hgd fun _ hK => by
  unfold Oper.wp execOp
  simp only [ho, hx, hy, Sem.run_bind, store24 (u := u) h, Result.andThen_ok]
  exact hK _ _ k
theorem loadVar24 {w : World} {g : Nat} {v : V} (h : Blk w g 24 v.arr) : (loadVar 24 ⟨g, 0, none⟩).run Tryz.prog w = .ok (.agg v.arr) w := by
 have hi : (Tryz.prog.info? 24).map (·.size) = some v.arr.size := by rw [v.arr_size]; exact size24
 exact run_loadVar_row _ _ 24 24 v.arr (0, 0) _ h und24 rfl hi
theorem ret24 {fn : Func} {t : Tmp} (h : fn.results = #[.cell t 24]) {tmps : Array Value} {w : World} {g : Nat} {v : V} (hx : tmps.getD t undef = .pointer (some ⟨g, 0, none⟩)) (hb : Blk w g 24 v.arr) :
  (results fn tmps).run Tryz.prog w = .ok (.agg v.arr) w := by
 have hx' : tmps[t]?.getD undef = .pointer (some ⟨g, 0, none⟩) := by rw [← hx]; simp [Array.getD_eq_getD_getElem?]
 simp only [results, h]
 simp [hx', asAddr, loadVar24 hb]
theorem ret24_two {fn : Func} {t s : Tmp} (h : fn.results = #[.cell t 24, .tmp s]) {tmps : Array Value} {w : World} {g : Nat} {v : V} {y : Value} (hx : tmps.getD t undef = .pointer (some ⟨g, 0, none⟩)) (hy : tmps.getD s undef = y) (hb : Blk w g 24 v.arr) :
  (results fn tmps).run Tryz.prog w = .ok (.tuple #[.agg v.arr, y]) w := by
 rw [results_cell_tmp h, hx, hy]
 simp [Result.andThen, asAddr, loadVar24 hb]
theorem Kept.at_ {S : Nat → Prop} {w w' : World} (k : Kept S w w') {b o : Nat} {v : Value} (h : w.cell? ⟨b, o, Option.none⟩ = some v) (hn : ¬ S b) : w'.cell? ⟨b, o, Option.none⟩ = some v :=
 (World.cell?_of_block (w := w) (w' := w') (a := ⟨b, o, Option.none⟩) (k.block b (block_lt_of_cell h) hn)).trans h
theorem below_at {w w' : World} (k : Below w.heap.size w w') {b o : Nat} {v : Value} (h : w.cell? ⟨b, o, none⟩ = some v) : w'.cell? ⟨b, o, none⟩ = some v :=
 (k.cell (p := ⟨b, o, none⟩) (block_lt_of_cell h)).trans h
theorem below_two' (w : World) (o o' : Obj) : Below w.heap.size w ((w.alloc o).alloc o') := ((Below.refl _ _).alloc (Nat.le_refl _) _).alloc (by simp) _
end Go.Proofs.YtnekpgmgnepdoaaGreat
end
section
namespace Go.Proofs.YtnekpgmgnepdoaaGreat
open Go.RowKit
def Gives (v : V) (w : World) (e : Ending) (w' : World) : Prop := e = .returned (.agg v.arr) ∧ Below w.heap.size w w'
theorem max_cast (x y : Nat) : (if (x : Int) < (y : Int) then (y : Int) else (x : Int)) = ((max x y : Nat) : Int) := by split <;> omega
structure Three (w W : World) (x b : V) : Prop where
 one : Blk W w.heap.size 24 x.arr
 two : Blk W (w.heap.size + 1) 24 b.arr
 ans : Blk W (w.heap.size + 2) 24 V.zero.arr
 old : Below w.heap.size w W
theorem three_new (w : World) (a b : V) : Three w (((w.alloc (.cells a.arr 24)).alloc (.cells b.arr 24)).alloc (.cells V.zero.arr 24)) a b := by
 have h1 := Blk.new w 24 a.arr
 have h2 := Blk.new (w.alloc (.cells a.arr 24)) 24 b.arr
 have h3 := Blk.new ((w.alloc (.cells a.arr 24)).alloc (.cells b.arr 24)) 24 V.zero.arr
 have k2 := Kept.alloc (fun _ => False) (w.alloc (.cells a.arr 24)) (.cells b.arr 24)
 have k3 := Kept.alloc (fun _ => False) ((w.alloc (.cells a.arr 24)).alloc (.cells b.arr 24)) (.cells V.zero.arr 24)
 simp only [World.size_alloc] at h2 h3
 exact ⟨(h1.kept k2 (fun h => h)).kept k3 (fun h => h), h2.kept k3 (fun h => h), h3, (below_two' _ _ _).alloc (by simp; omega) _⟩
theorem Three.put {w W : World} {x b : V} (h : Three w W x b) {k s : Nat} (hk : k < 16) (hs : s < 4294967296) : Three w (W.setCell ⟨w.heap.size, k, none⟩ (.int .u32 (s : Int))) (x.put k s) b := by
 have k1 := Kept.setCell W ⟨w.heap.size, k, none⟩ (.int .u32 (s : Int))
 refine ⟨?_, h.two.kept k1 (by simp), h.ans.kept k1 (by simp), h.old.setCell (by simp) _⟩
 have := h.one.set k (.int .u32 (s : Int))
 rwa [V.arr_put x hk hs] at this
theorem Three.drew {w W : World} {x b : V} (h : Three w W x b) : Three w W.drew x b := ⟨h.one, h.two, h.ans, h.old.drew⟩
theorem Three.ret {w W : World} {x b : V} (h : Three w W x b) {ds : Array Value} : Below w.heap.size w (W.setRow (w.heap.size + 1 + 1) ds) :=
 ((Kept.of_below (S := fun k => k = w.heap.size + 1 + 1) h.old).trans (Kept.setRow _ _ _) (fun _ h => .inl h)).below (Nat.le_refl _) (fun k hk => by omega)
set_option maxRecDepth 100000 in
set_option maxHeartbeats 1000000 in
theorem join_any (a b : V) (w : World) : Calls Tryz.prog 57 #[.agg a.arr, .agg b.arr] w (Gives (V.join a b) w) := by
 have hb1 := fun (v : V) (w : World) => box24 v w
 have ha1 := fun (w : World) => alloc24 w
 go_enter Tryz.func57, Tryz.ntmps57
 go_wp2_with fail
 clear hb1 ha1
 have HT := Lib.hid (three_new w a b)
 rw [← zero_arr]
 generalize ((w.alloc (.cells a.arr 24)).alloc (.cells b.arr 24)).alloc (.cells V.zero.arr 24) = W at HT
 go_loopw [6] (fun i wr => ∃ k : Nat, k ≤ 16 ∧ i = .int .i64 (k : Int) ∧ Hid (Three w wr (V.joinTo a b k) b)) (fun i _ => 16 - (intOf i).toNat)
 case atStart => exact ⟨0, by omega, rfl, Lib.hid (by rw [V.joinTo_zero]; exact HT.out)⟩
 case round =>
  obtain ⟨k, hk, rfl, HR⟩ := hrel
  by_cases hlt : k < 16
  ·have c1 : wr.cell? ⟨w.heap.size, k, none⟩ = some (.int .u32 (a.at_ k : Int)) := by rw [HR.out.one.cell, V.arr_at _ hlt, V.joinTo_here a b hlt]
   have c2 : wr.cell? ⟨w.heap.size + 1, k, none⟩ = some (.int .u32 (b.at_ k : Int)) := by rw [HR.out.two.cell, V.arr_at _ hlt]
   have f1 : wr.frozen? ⟨w.heap.size, k, none⟩ = false := HR.out.one.frozen k
   have l1 := a.lt k
   have l2 := b.lt k
   generalize hx : a.at_ k = x at c1 l1
   generalize hy : b.at_ k = y at c2 l2
   have HX := Lib.hid hx
   have HY := Lib.hid hy
   have hm := max_cast x y
   clear hx hy
   go_wp2_with fail
   go_still_tail 9, (by kernel_rfl)
   go_wp2_with fail
   go_roundw
   case rel =>
    refine ⟨k + 1, by omega, by go_num, Lib.hid ?_⟩
    have := HR.out.put (s := max x y) hlt (by omega)
    rw [V.joinTo_succ a b hlt, HX.out, HY.out]
    rw [← max_cast] at this
    simpa using this.drew
   case measure => simp [intOf]; omega
  ·obtain rfl : k = 16 := by omega
   go_wp2_with (first | (refine wpList_load24 rfl rfl rfl HR.out.one ?_) | (refine wpList_store24 rfl rfl rfl rfl HR.out.ans ?_))
   exact bodyPost_ret (ret24 rfl rfl (Blk.row HR.out.ans)) rfl ⟨by rw [V.joinTo_all], HR.out.ret⟩
end Go.Proofs.YtnekpgmgnepdoaaGreat
end
section
namespace Go.Proofs.YtnekpgmgnepdoaaGreat
open Go.RowKit
def Says (v : Value) (w : World) (e : Ending) (w' : World) : Prop := e = .returned v ∧ Below w.heap.size w w'
section
variable {ops : Array Oper} {Q : Exit → Act → World → Prop} {S : World → Prop} {fuel : Nat} {listed : Array Bool} {a : Act} {w : World}
theorem held_take (i : Nat) (d : Tmp) {oi : Oper} (v : Value) (hd : oi.dst = some d) (hi : ops[i]? = some oi) (hs : Region.noSelect ops = true) (hf : Region.free .any ops listed i = true) (hr : (Region.ready .any ops listed).contains i = true)
  (hQ : ∀ c a w, Q (.panic c) (a.put (some d) v) w → Q (.panic c) a w) (hw : Region.wanted oi (yielded ops a.tmps) = true) (hy : ∀ w, S w → (execOp a.eval oi).run Tryz.prog w = .ok (.value v) w) (hS : S w)
  (h : wpAnyH Tryz.prog .any ops Q S fuel (listed.setIfInBounds i true) (a.put (some d) v) w) : wpAnyH Tryz.prog .any ops Q S (fuel + 1) listed a w :=
 wpAnyH_take hi hs hf hr (by rw [hd]; exact hQ) (.inl ⟨hw, hy⟩) hS (by rw [hd]; exact h)
theorem held_skip (i : Nat) (d : Tmp) {oi : Oper} (hd : oi.dst = some d) (hi : ops[i]? = some oi) (hs : Region.noSelect ops = true) (hf : Region.free .any ops listed i = true) (hr : (Region.ready .any ops listed).contains i = true)
  (hQ : ∀ c a w, Q (.panic c) (a.put (some d) undef) w → Q (.panic c) a w) (hw : Region.wanted oi (yielded ops a.tmps) = false) (hS : S w)
  (h : wpAnyH Tryz.prog .any ops Q S fuel (listed.setIfInBounds i true) (a.put (some d) undef) w) : wpAnyH Tryz.prog .any ops Q S (fuel + 1) listed a w :=
 wpAnyH_take hi hs hf hr (by rw [hd]; exact hQ) (.inr ⟨hw, rfl⟩) hS (by rw [hd]; exact h)
def okT (ops : Array Oper) (listed : Array Bool) (i : Nat) (oi : Oper) (tmps : Array Value) (b : Bool) : Bool :=
 Region.noSelect ops && Region.free .any ops listed i && (Region.ready .any ops listed).contains i && (Region.wanted oi (yielded ops tmps) == b)
theorem okT_iff {ops : Array Oper} {listed : Array Bool} {i : Nat} {oi : Oper} {tmps : Array Value} {b : Bool} (h : okT ops listed i oi tmps b = true) : Region.noSelect ops = true ∧ Region.free .any ops listed i = true ∧ (Region.ready .any ops listed).contains i = true ∧ Region.wanted oi (yielded ops tmps) = b := by
 unfold okT at h
 simpa only [Bool.and_eq_true, beq_iff_eq, and_assoc] using h
theorem held_tk (i : Nat) (d : Tmp) {oi : Oper} (v : Value) (hd : oi.dst = some d) (hi : ops[i]? = some oi) (hk : okT ops listed i oi a.tmps true = true)
 (hQ : ∀ c a w, Q (.panic c) (a.put (some d) v) w → Q (.panic c) a w) (hy : ∀ w, S w → (execOp a.eval oi).run Tryz.prog w = .ok (.value v) w) (hS : S w)
 (h : wpAnyH Tryz.prog .any ops Q S fuel (listed.setIfInBounds i true) (a.put (some d) v) w) : wpAnyH Tryz.prog .any ops Q S (fuel + 1) listed a w :=
 held_take i d v hd hi (okT_iff hk).1 (okT_iff hk).2.1 (okT_iff hk).2.2.1 hQ (okT_iff hk).2.2.2 hy hS h
theorem held_sk (i : Nat) (d : Tmp) {oi : Oper} (hd : oi.dst = some d) (hi : ops[i]? = some oi) (hk : okT ops listed i oi a.tmps false = true)
 (hQ : ∀ c a w, Q (.panic c) (a.put (some d) undef) w → Q (.panic c) a w) (hS : S w)
 (h : wpAnyH Tryz.prog .any ops Q S fuel (listed.setIfInBounds i true) (a.put (some d) undef) w) : wpAnyH Tryz.prog .any ops Q S (fuel + 1) listed a w :=
 held_skip i d hd hi (okT_iff hk).1 (okT_iff hk).2.1 (okT_iff hk).2.2.1 hQ (okT_iff hk).2.2.2 hS h
theorem held_call (i : Nat) (d : Tmp) {oi : Oper} (f : FuncId) (args : Array Value) (v : Value) (hd : oi.dst = some d) (hr : Region.ready .any ops listed = [i]) (hi : ops[i]? = some oi) (hw : Region.wanted oi (yielded ops a.tmps) = true)
  (hrun : (execOp a.eval oi).run Tryz.prog w = .ok (.enter f args) w) (hc : Calls Tryz.prog f args w (Says v w)) (hm : ∀ w', S w → Below w.heap.size w w' → S w') (hS : S w)
  (h : ∀ w', S w' → wpAnyH Tryz.prog .any ops Q S fuel (listed.setIfInBounds i true) (a.put (some d) v) w') : wpAnyH Tryz.prog .any ops Q S (fuel + 1) listed a w := by
 refine wpAnyH_ready (rs := [i]) hr (by simp) (AllReadyH.cons hi (fun K hK => ?_) AllReadyH.nil)
 rw [if_pos hw]
 unfold Oper.wp
 rw [hrun, Oper.upon_enter]
 refine hc.mono fun e w' hh => ?_
 obtain ⟨rfl, hb⟩ := hh
 exact hK.out _ _ (hm w' hS hb) (fun hS' => by rw [hd]; exact h w' hS')
end
theorem exec_load24 {ev : Operand → Value} {o : Oper} {x : Operand} {g : Nat} {v : V} {w : World} (ho : o.op = .load 24 x) (hx : ev x = .pointer (some ⟨g, 0, none⟩)) (h : Blk w g 24 v.arr) : (execOp ev o).run Tryz.prog w = .ok (.value (.agg v.arr)) w := by
 unfold execOp
 simp only [ho, hx, Sem.run_bind, load24 h, Result.andThen_ok]
 rfl
theorem exec_eql24 {ev : Operand → Value} {o : Oper} {x y : Operand} {t : TypeId} {a b : V} {w : World} {r : Bool} (ho : o.op = .binOp .eql 24 x y t) (hx : ev x = .agg a.arr) (hy : ev y = .agg b.arr) (hr : V.eqB a b = r) : (execOp ev o).run Tryz.prog w = .ok (.value (.bool r)) w := by
 unfold execOp
 simp only [ho, hx, hy, Sem.run_bind, guard24, eql24, Result.andThen_ok, hr]
 rfl
theorem exec_eqlI {ev : Operand → Value} {o : Oper} {x y : Operand} {u t : TypeId} {k : IntKind} {a b : Int} {r : Bool} {w : World} (_hu : True) (ho : o.op = .binOp .eql u x y t) (hx : ev x = .int k a) (hy : ev y = .int k b) (hr : (a == b) = r) : (execOp ev o).run Tryz.prog w = .ok (.value (.bool r)) w := by
 subst hr
 unfold execOp
 simp [ho, hx, hy, eqGuard, binOp, Op.intCmp]
theorem exec_neqI {ev : Operand → Value} {o : Oper} {x y : Operand} {u t : TypeId} {k : IntKind} {a b : Int} {r : Bool} {w : World} (_hu : True) (ho : o.op = .binOp .neq u x y t) (hx : ev x = .int k a) (hy : ev y = .int k b) (hr : (a != b) = r) : (execOp ev o).run Tryz.prog w = .ok (.value (.bool r)) w := by
 subst hr
 unfold execOp
 simp [ho, hx, hy, eqGuard, binOp, Op.intCmp]
theorem exec_load30 {ev : Operand → Value} {o : Oper} {x : Operand} {g : Nat} {r s : Value} {w : World} (ho : o.op = .load 30 x) (hx : ev x = .pointer (some ⟨g, 0, none⟩)) (h : Blk w g 30 #[r, s]) : (execOp ev o).run Tryz.prog w = .ok (.value (.agg #[r, s])) w := by
 have hl := run_loadVar_mid (P := Tryz.prog) w g 0 30 [r, s] _ (by
  intro j u hu
  rw [Nat.zero_add, h.cell]
  simpa using hu) Tryz.underlying30 rfl (by kernel_rfl)
 unfold execOp
 simp only [ho, hx, Instr.loadAt, Instr.sureAddr, Sem.run_bind, Sem.run_pure, Result.andThen_ok, hl]
structure Two (w W : World) (a b : V) : Prop where
 one : Blk W w.heap.size 24 a.arr
 two : Blk W (w.heap.size + 1) 24 b.arr
 old : Below w.heap.size w W
theorem two_new (w : World) (a b : V) : Two w ((w.alloc (.cells a.arr 24)).alloc (.cells b.arr 24)) a b := by
 have h1 := Blk.new w 24 a.arr
 have h2 := Blk.new (w.alloc (.cells a.arr 24)) 24 b.arr
 have k2 := Kept.alloc (fun _ => False) (w.alloc (.cells a.arr 24)) (.cells b.arr 24)
 simp only [World.size_alloc] at h2
 exact ⟨h1.kept k2 (fun h => h), h2, below_two' _ _ _⟩
theorem Two.below {w W W' : World} {a b : V} (h : Two w W a b) (hb : Below W.heap.size W W') : Two w W' a b :=
 ⟨h.one.below hb, h.two.below hb, h.old.trans (hb.mono h.old.size)⟩
theorem Two.drew {w W : World} {a b : V} (h : Two w W a b) : Two w W.drew a b := ⟨h.one, h.two, h.old.drew⟩
end Go.Proofs.YtnekpgmgnepdoaaGreat
end
section
namespace Go.Proofs.YtnekpgmgnepdoaaGreat
open Go.RowKit
theorem belowB_of (a b : V) (h : ∀ i, i < 16 → a.at_ i ≤ b.at_ i) : V.belowB a b = true := (V.belowB_iff a b).2 h
theorem belowB_not (a b : V) {k : Nat} (hk : k < 16) (h : b.at_ k < a.at_ k) : V.belowB a b = false := by
 rw [← Bool.not_eq_true, V.belowB_iff]
 intro hh
 have := hh k hk
 omega
set_option maxHeartbeats 1000000 in
theorem rbelow_any (a b : V) (w : World) : Calls Tryz.prog 68 #[.agg a.arr, .agg b.arr] w (Says (.bool (V.belowB a b)) w) := by
 have hb1 := fun (v : V) (w : World) => box24 v w
 go_enter Tryz.func68, Tryz.ntmps68
 go_wp2_with fail
 clear hb1
 have HT := Lib.hid (two_new w a b)
 generalize (w.alloc (.cells a.arr 24)).alloc (.cells b.arr 24) = W at HT
 go_loopw [5] (fun i wr => ∃ k : Nat, k ≤ 16 ∧ i = .int .i64 (k : Int) ∧ Hid (Two w wr a b) ∧ Hid (∀ i, i < k → a.at_ i ≤ b.at_ i)) (fun i _ => 16 - (intOf i).toNat)
 case atStart => exact ⟨0, by omega, rfl, HT, Lib.hid (fun i h => by omega)⟩
 case round =>
  obtain ⟨k, hk, rfl, HR, HB⟩ := hrel
  by_cases hlt : k < 16
  ·have c1 : wr.cell? ⟨w.heap.size, k, none⟩ = some (.int .u32 (a.at_ k : Int)) := by rw [HR.out.one.cell, V.arr_at _ hlt]
   have c2 : wr.cell? ⟨w.heap.size + 1, k, none⟩ = some (.int .u32 (b.at_ k : Int)) := by rw [HR.out.two.cell, V.arr_at _ hlt]
   have l1 := a.lt k
   have l2 := b.lt k
   by_cases hle : a.at_ k ≤ b.at_ k
   ·have HB2 : Hid (∀ i, i < k + 1 → a.at_ i ≤ b.at_ i) := Lib.hid (fun i h => by
     by_cases e : i = k
     ·subst e; exact hle
     ·exact HB.out i (by omega))
    generalize a.at_ k = x at c1 l1 hle
    generalize b.at_ k = y at c2 l2 hle
    go_wp2_with fail
    go_region_held3 (fun w' => w'.cell? ⟨w.heap.size, k, none⟩ = some (.int .u32 (x : Int)) ∧ w'.cell? ⟨w.heap.size + 1, k, none⟩ = some (.int .u32 (y : Int))) (exact ⟨c1, c2⟩) (fail)
    go_wp2_with fail
    go_roundw
    case rel => exact ⟨k + 1, by omega, by go_num, Lib.hid HR.out.drew, HB2⟩
    case measure => simp [intOf]; omega
   ·have HN := Lib.hid (belowB_not a b hlt (by omega))
    generalize a.at_ k = x at c1 l1 hle
    generalize b.at_ k = y at c2 l2 hle
    go_wp2_with fail
    go_region_held3 (fun w' => w'.cell? ⟨w.heap.size, k, none⟩ = some (.int .u32 (x : Int)) ∧ w'.cell? ⟨w.heap.size + 1, k, none⟩ = some (.int .u32 (y : Int))) (exact ⟨c1, c2⟩) (fail)
    go_wp2_with fail
    go_ret
    exact ⟨ret_bool HN.out.symm, HR.out.old.drew⟩
  ·obtain rfl : k = 16 := by omega
   go_wp2_with fail
   go_ret
   exact ⟨ret_bool (belowB_of a b HB.out).symm, HR.out.old⟩
theorem below_one (w : World) (o : Obj) : Below w.heap.size w (w.alloc o) := (Below.refl _ _).alloc (Nat.le_refl _) _
set_option maxHeartbeats 1000000 in
theorem sum_any (v : V) (w : World) : Calls Tryz.prog 125 #[.agg v.arr] w (Says (.int .u64 (V.sum v : Int)) w) := by
 have hb1 := fun (v : V) (w : World) => box24 v w
 have hix := fun (i : Nat) (w : World) (h : i < 16) => index24 v .i64 i w h
 go_enter Tryz.func125, Tryz.ntmps125
 go_wp2_with ((refine wpList_load24 rfl rfl rfl (Blk.new w 24 v.arr) ?_))
 clear hb1
 have HO := Lib.hid (below_one w (.cells v.arr 24))
 generalize w.alloc (.cells v.arr 24) = W at HO
 go_loop [3, 7] (fun s i => ∃ k m : Nat, k ≤ 16 ∧ i = .int .i64 (k : Int) ∧ s = .int .u64 (m : Int) ∧ m ≤ k * 4294967295 ∧ Hid (V.sumTo v k = m)) (fun _ i => 16 - (intOf i).toNat)
 case atStart => exact ⟨0, 0, by omega, rfl, rfl, by omega, Lib.hid rfl⟩
 case round =>
  obtain ⟨k, m, hk, rfl, rfl, hm, HR⟩ := hrel
  by_cases hlt : k < 16
  ·have hix' := fun w => hix k w hlt
   have l1 := v.lt k
   have HR2 : Hid (V.sumTo v (k + 1) = m + v.at_ k) := Lib.hid (by rw [V.sumTo, HR.out])
   clear hix
   generalize v.at_ k = x at hix' l1 HR2
   go_wp2_with fail
   go_round
   case rel => exact ⟨k + 1, m + x, by omega, by go_num, by go_num, by omega, HR2⟩
   case measure => simp [intOf]; omega
  ·obtain rfl : k = 16 := by omega
   clear hix
   go_wp2_with fail
   go_ret
   exact ⟨ret_int (by rw [V.sum, HR.out]), HO.out⟩
set_option maxHeartbeats 1000000 in
theorem valid_any (r s : Nat) (w : World) (hr : r < 256) (hs : s < 4294967296) : Calls Tryz.prog 83 #[.agg #[.int .u8 (r : Int), .int .u32 (s : Int)]] w (Says (.bool (V.dotB r s)) w) := by
 by_cases g1 : r < 16
 ·by_cases g2 : 1 ≤ s
  ·by_cases g3 : s ≤ 1048576
   all_goals
    go_enter Tryz.func83, Tryz.ntmps83
    go_wp2_with fail
    go_ret
    exact ⟨ret_bool (by rw [Bool.eq_iff_iff]; simp [V.dotB]; omega), below_one _ _⟩
  ·go_enter Tryz.func83, Tryz.ntmps83
   go_wp2_with fail
   go_ret
   exact ⟨ret_bool (by simp [V.dotB]; omega), below_one _ _⟩
 ·go_enter Tryz.func83, Tryz.ntmps83
  go_wp2_with fail
  go_ret
  exact ⟨ret_bool (by simp [V.dotB]; omega), below_one _ _⟩
set_option maxHeartbeats 1000000 in
theorem rdot_any (r s : Nat) (w : World) (hr : r < 256) (hs : s < 4294967296) : Calls Tryz.prog 77 #[.agg #[.int .u8 (r : Int), .int .u32 (s : Int)]] w (Says (.bool (V.dotB r s)) w) := by
 by_cases g1 : r < 16
 ·by_cases g2 : 1 ≤ s
  ·by_cases g3 : s ≤ 1048576
   all_goals
    go_enter Tryz.func77, Tryz.ntmps77
    go_wp2_with fail
    go_ret
    exact ⟨ret_bool (by rw [Bool.eq_iff_iff]; simp [V.dotB]; omega), below_one _ _⟩
  ·go_enter Tryz.func77, Tryz.ntmps77
   go_wp2_with fail
   go_ret
   exact ⟨ret_bool (by simp [V.dotB]; omega), below_one _ _⟩
 ·go_enter Tryz.func77, Tryz.ntmps77
  go_wp2_with fail
  go_ret
  exact ⟨ret_bool (by simp [V.dotB]; omega), below_one _ _⟩
end Go.Proofs.YtnekpgmgnepdoaaGreat
end
section
namespace Go.Proofs.YtnekpgmgnepdoaaGreat
open Go.RowKit
abbrev dotV (r s : Nat) : Value := .agg #[.int .u8 (r : Int), .int .u32 (s : Int)]
structure VDot (w W : World) (v : V) (r s : Nat) : Prop where
 one : Blk W w.heap.size 24 v.arr
 dot : Blk W (w.heap.size + 1) 30 #[.int .u8 (r : Int), .int .u32 (s : Int)]
 old : Below w.heap.size w W
theorem vdot_new (w : World) (v : V) (r s : Nat) : VDot w ((w.alloc (.cells v.arr 24)).alloc (.cells #[.int .u8 (r : Int), .int .u32 (s : Int)] 30)) v r s := by
 have h1 := Blk.new w 24 v.arr
 have h2 := Blk.new (w.alloc (.cells v.arr 24)) 30 #[.int .u8 (r : Int), .int .u32 (s : Int)]
 have k2 := Kept.alloc (fun _ => False) (w.alloc (.cells v.arr 24)) (.cells #[.int .u8 (r : Int), .int .u32 (s : Int)] 30)
 simp only [World.size_alloc] at h2
 exact ⟨h1.kept k2 (fun h => h), h2, below_two' _ _ _⟩
theorem VDot.below {w W W' : World} {v : V} {r s : Nat} (h : VDot w W v r s) (hb : Below W.heap.size W W') : VDot w W' v r s :=
 ⟨h.one.below hb, h.dot.below hb, h.old.trans (hb.mono h.old.size)⟩
theorem VDot.drew {w W : World} {v : V} {r s : Nat} (h : VDot w W v r s) : VDot w W.drew v r s := ⟨h.one, h.dot, h.old.drew⟩
theorem VDot.rep {w W : World} {v : V} {r s : Nat} (h : VDot w W v r s) : W.cell? ⟨w.heap.size + 1, 0, none⟩ = some (.int .u8 (r : Int)) := h.dot.cell 0
theorem VDot.seq {w W : World} {v : V} {r s : Nat} (h : VDot w W v r s) : W.cell? ⟨w.heap.size + 1, 1, none⟩ = some (.int .u32 (s : Int)) := h.dot.cell 1
theorem VDot.num {w W : World} {v : V} {r s : Nat} (h : VDot w W v r s) (hr : r < 16) : W.cell? ⟨w.heap.size, r, none⟩ = some (.int .u32 (v.at_ r : Int)) := by rw [h.one.cell, V.arr_at _ hr]
theorem dotB_lt {r s : Nat} (h : V.dotB r s = true) : r < 16 ∧ 1 ≤ s ∧ s ≤ 1048576 := by simpa [V.dotB] using h
set_option maxHeartbeats 1000000 in
theorem has_any (v : V) (r s : Nat) (w : World) (hr : r < 256) (hs : s < 4294967296) : Calls Tryz.prog 81 #[.agg v.arr, dotV r s] w (Says (.bool (V.hasB v r s)) w) := by
 have hb1 := fun (v : V) (w : World) => box24 v w
 have HT := Lib.hid (vdot_new w v r s)
 have HC := Lib.hid (fun w => valid_any r s w hr hs)
 cases hd : V.dotB r s
 ·rw [hd] at HC
  have HE : Hid (V.hasB v r s = false) := Lib.hid (by simp [V.hasB, hd])
  clear hd
  go_enter Tryz.func81, Tryz.ntmps81
  go_wp2_with fail
  clear hb1
  generalize (w.alloc (.cells v.arr 24)).alloc (.cells #[.int .u8 (r : Int), .int .u32 (s : Int)] 30) = W at HT
  refine wp_region_held_drew (S := fun w' => VDot w w' v r s) (by kernel_rfl) HT.out.drew (fun hS => ?_)
  refine held_tk 0 5 (dotV r s) rfl rfl (by kernel_rfl) (fun _ _ _ h => h) (fun _ h => exec_load30 rfl rfl h.dot) hS ?_
  simp only [Act.put, ap1, ap2, ap3]
  refine held_call 1 6 83 #[(dotV r s)] (.bool false) rfl (by kernel_rfl) rfl (by kernel_rfl) (by kernel_rfl) (HC.out _) (fun _ h hb => h.below hb) hS (fun w101 hS => ?_)
  simp only [Act.put, ap1, ap2, ap3]
  refine held_tk 2 7 (.bool false) rfl rfl (by kernel_rfl) (fun _ _ _ h => h) (fun _ _ => rfl) hS ?_
  simp only [Act.put, ap1, ap2, ap3]
  refine held_sk 3 8 rfl rfl (by kernel_rfl) (fun _ _ _ h => h) hS ?_
  simp only [Act.put, ap1, ap2, ap3]
  refine held_sk 4 9 rfl rfl (by kernel_rfl) (fun _ _ _ h => h) hS ?_
  simp only [Act.put, ap1, ap2, ap3]
  refine held_sk 5 10 rfl rfl (by kernel_rfl) (fun _ _ _ h => h) hS ?_
  simp only [Act.put, ap1, ap2, ap3]
  refine held_sk 6 11 rfl rfl (by kernel_rfl) (fun _ _ _ h => h) hS ?_
  simp only [Act.put, ap1, ap2, ap3]
  refine held_sk 7 12 rfl rfl (by kernel_rfl) (fun _ _ _ h => h) hS ?_
  simp only [Act.put, ap1, ap2, ap3]
  refine held_sk 8 13 rfl rfl (by kernel_rfl) (fun _ _ _ h => h) hS ?_
  simp only [Act.put, ap1, ap2, ap3]
  refine held_sk 9 14 rfl rfl (by kernel_rfl) (fun _ _ _ h => h) hS ?_
  simp only [Act.put, ap1, ap2, ap3]
  refine held_tk 10 15 (.bool false) rfl rfl (by kernel_rfl) (fun _ _ _ h => h) (fun _ _ => rfl) hS ?_
  simp only [Act.put, ap1, ap2, ap3]
  refine held_tk 11 4 (.bool false) rfl rfl (by kernel_rfl) (fun _ _ _ h => h) (fun _ _ => rfl) hS ?_
  simp only [Act.put, ap1, ap2, ap3]
  refine wpAnyH_done (by kernel_rfl) ?_ _
  go_wp2_with fail
  go_ret
  exact ⟨ret_bool HE.out.symm, hS.old⟩
 ·rw [hd] at HC
  have HE : Hid (V.hasB v r s = decide (s ≤ v.at_ r)) := Lib.hid (by simp [V.hasB, hd])
  obtain ⟨hr1, hs1, hs2⟩ := dotB_lt hd
  have hr2 : (r : Int) < 16 := by omega
  clear hd
  go_enter Tryz.func81, Tryz.ntmps81
  go_wp2_with fail
  clear hb1
  generalize (w.alloc (.cells v.arr 24)).alloc (.cells #[.int .u8 (r : Int), .int .u32 (s : Int)] 30) = W at HT
  have c1 := HT.out.rep
  have c2 := HT.out.seq
  have c3 := HT.out.num hr1
  have l1 := v.lt r
  generalize hx : v.at_ r = x at c3 l1 HE
  have HX := Lib.hid hx
  clear hx
  go_region_held3 (fun w' => w'.cell? ⟨w.heap.size + 1, 0, none⟩ = some (.int .u8 (r : Int)) ∧ w'.cell? ⟨w.heap.size + 1, 1, none⟩ = some (.int .u32 (s : Int)) ∧ w'.cell? ⟨w.heap.size, r, none⟩ = some (.int .u32 (x : Int))) (first | exact ⟨c1, c2, c3⟩ | exact ⟨k1, k2, k3⟩) (first
   | (go_at_call 83; refine (HC.out _).mono ?_; rintro e w2 ⟨rfl, hb2⟩; have HT2 := Lib.hid (HT.out.drew.below hb2); have k1 := HT2.out.rep; have k2 := HT2.out.seq; have k3 := HT2.out.num hr1; rw [HX.out] at k3; clear hb2))
  go_wp2_with fail
  go_ret
  exact ⟨ret_bool (by rw [HE.out]), HT2.out.old⟩
set_option maxHeartbeats 1000000 in
theorem rhas_any (v : V) (r s : Nat) (w : World) (hr : r < 256) (hs : s < 4294967296) : Calls Tryz.prog 60 #[.agg v.arr, dotV r s] w (Says (.bool (V.hasB v r s)) w) := by
 have hb1 := fun (v : V) (w : World) => box24 v w
 have HT := Lib.hid (vdot_new w v r s)
 have HC := Lib.hid (fun w => rdot_any r s w hr hs)
 cases hd : V.dotB r s
 ·rw [hd] at HC
  have HE : Hid (V.hasB v r s = false) := Lib.hid (by simp [V.hasB, hd])
  clear hd
  go_enter Tryz.func60, Tryz.ntmps60
  go_wp2_with fail
  clear hb1
  generalize (w.alloc (.cells v.arr 24)).alloc (.cells #[.int .u8 (r : Int), .int .u32 (s : Int)] 30) = W at HT
  refine wp_region_held_drew (S := fun w' => VDot w w' v r s) (by kernel_rfl) HT.out.drew (fun hS => ?_)
  refine held_tk 0 5 (dotV r s) rfl rfl (by kernel_rfl) (fun _ _ _ h => h) (fun _ h => exec_load30 rfl rfl h.dot) hS ?_
  simp only [Act.put, ap1, ap2, ap3]
  refine held_call 1 6 77 #[(dotV r s)] (.bool false) rfl (by kernel_rfl) rfl (by kernel_rfl) (by kernel_rfl) (HC.out _) (fun _ h hb => h.below hb) hS (fun w101 hS => ?_)
  simp only [Act.put, ap1, ap2, ap3]
  refine held_tk 2 7 (.bool false) rfl rfl (by kernel_rfl) (fun _ _ _ h => h) (fun _ _ => rfl) hS ?_
  simp only [Act.put, ap1, ap2, ap3]
  refine held_sk 3 8 rfl rfl (by kernel_rfl) (fun _ _ _ h => h) hS ?_
  simp only [Act.put, ap1, ap2, ap3]
  refine held_sk 4 9 rfl rfl (by kernel_rfl) (fun _ _ _ h => h) hS ?_
  simp only [Act.put, ap1, ap2, ap3]
  refine held_sk 5 10 rfl rfl (by kernel_rfl) (fun _ _ _ h => h) hS ?_
  simp only [Act.put, ap1, ap2, ap3]
  refine held_sk 6 11 rfl rfl (by kernel_rfl) (fun _ _ _ h => h) hS ?_
  simp only [Act.put, ap1, ap2, ap3]
  refine held_sk 7 12 rfl rfl (by kernel_rfl) (fun _ _ _ h => h) hS ?_
  simp only [Act.put, ap1, ap2, ap3]
  refine held_sk 8 13 rfl rfl (by kernel_rfl) (fun _ _ _ h => h) hS ?_
  simp only [Act.put, ap1, ap2, ap3]
  refine held_sk 9 14 rfl rfl (by kernel_rfl) (fun _ _ _ h => h) hS ?_
  simp only [Act.put, ap1, ap2, ap3]
  refine held_tk 10 15 (.bool false) rfl rfl (by kernel_rfl) (fun _ _ _ h => h) (fun _ _ => rfl) hS ?_
  simp only [Act.put, ap1, ap2, ap3]
  refine held_tk 11 4 (.bool false) rfl rfl (by kernel_rfl) (fun _ _ _ h => h) (fun _ _ => rfl) hS ?_
  simp only [Act.put, ap1, ap2, ap3]
  refine wpAnyH_done (by kernel_rfl) ?_ _
  go_wp2_with fail
  go_ret
  exact ⟨ret_bool HE.out.symm, hS.old⟩
 ·rw [hd] at HC
  have HE : Hid (V.hasB v r s = decide (s ≤ v.at_ r)) := Lib.hid (by simp [V.hasB, hd])
  obtain ⟨hr1, hs1, hs2⟩ := dotB_lt hd
  have hr2 : (r : Int) < 16 := by omega
  clear hd
  go_enter Tryz.func60, Tryz.ntmps60
  go_wp2_with fail
  clear hb1
  generalize (w.alloc (.cells v.arr 24)).alloc (.cells #[.int .u8 (r : Int), .int .u32 (s : Int)] 30) = W at HT
  have c1 := HT.out.rep
  have c2 := HT.out.seq
  have c3 := HT.out.num hr1
  have l1 := v.lt r
  generalize hx : v.at_ r = x at c3 l1 HE
  have HX := Lib.hid hx
  clear hx
  go_region_held3 (fun w' => w'.cell? ⟨w.heap.size + 1, 0, none⟩ = some (.int .u8 (r : Int)) ∧ w'.cell? ⟨w.heap.size + 1, 1, none⟩ = some (.int .u32 (s : Int)) ∧ w'.cell? ⟨w.heap.size, r, none⟩ = some (.int .u32 (x : Int))) (first | exact ⟨c1, c2, c3⟩ | exact ⟨k1, k2, k3⟩) (first
   | (go_at_call 77; refine (HC.out _).mono ?_; rintro e w2 ⟨rfl, hb2⟩; have HT2 := Lib.hid (HT.out.drew.below hb2); have k1 := HT2.out.rep; have k2 := HT2.out.seq; have k3 := HT2.out.num hr1; rw [HX.out] at k3; clear hb2))
  go_wp2_with fail
  go_ret
  exact ⟨ret_bool (by rw [HE.out]), HT2.out.old⟩
structure Trio (w W : World) (v : V) (r s : Nat) : Prop where
 one : Blk W w.heap.size 24 v.arr
 dot : Blk W (w.heap.size + 1) 30 #[.int .u8 (r : Int), .int .u32 (s : Int)]
 ans : Blk W (w.heap.size + 2) 24 V.zero.arr
 old : Below w.heap.size w W
theorem trio_new (w : World) (v : V) (r s : Nat) : Trio w (((w.alloc (.cells v.arr 24)).alloc (.cells #[.int .u8 (r : Int), .int .u32 (s : Int)] 30)).alloc (.cells V.zero.arr 24)) v r s := by
 have h := vdot_new w v r s
 have h3 := Blk.new ((w.alloc (.cells v.arr 24)).alloc (.cells #[.int .u8 (r : Int), .int .u32 (s : Int)] 30)) 24 V.zero.arr
 have k3 := Kept.alloc (fun _ => False) ((w.alloc (.cells v.arr 24)).alloc (.cells #[.int .u8 (r : Int), .int .u32 (s : Int)] 30)) (.cells V.zero.arr 24)
 simp only [World.size_alloc] at h3
 exact ⟨h.one.kept k3 (fun h => h), h.dot.kept k3 (fun h => h), h3, h.old.alloc (by simp; omega) _⟩
theorem Trio.below {w W W' : World} {v : V} {r s : Nat} (h : Trio w W v r s) (hb : Below W.heap.size W W') : Trio w W' v r s :=
 ⟨h.one.below hb, h.dot.below hb, h.ans.below hb, h.old.trans (hb.mono h.old.size)⟩
theorem Trio.drew {w W : World} {v : V} {r s : Nat} (h : Trio w W v r s) : Trio w W.drew v r s := ⟨h.one, h.dot, h.ans, h.old.drew⟩
theorem Trio.rep {w W : World} {v : V} {r s : Nat} (h : Trio w W v r s) : W.cell? ⟨w.heap.size + 1, 0, none⟩ = some (.int .u8 (r : Int)) := h.dot.cell 0
theorem Trio.seq {w W : World} {v : V} {r s : Nat} (h : Trio w W v r s) : W.cell? ⟨w.heap.size + 1, 1, none⟩ = some (.int .u32 (s : Int)) := h.dot.cell 1
theorem Trio.num {w W : World} {v : V} {r s : Nat} (h : Trio w W v r s) (hr : r < 16) : W.cell? ⟨w.heap.size, r, none⟩ = some (.int .u32 (v.at_ r : Int)) := by rw [h.one.cell, V.arr_at _ hr]
theorem Trio.ret {w W : World} {v : V} {r s : Nat} (h : Trio w W v r s) {ds : Array Value} : Below w.heap.size w (W.setRow (w.heap.size + 1 + 1) ds) :=
 ((Kept.of_below (S := fun k => k = w.heap.size + 1 + 1) h.old).trans (Kept.setRow _ _ _) (fun _ h => .inl h)).below (Nat.le_refl _) (fun k hk => by omega)
theorem Trio.put {w W : World} {v : V} {r s : Nat} (h : Trio w W v r s) {k u : Nat} (hk : k < 16) (hu : u < 4294967296) : Trio w (W.setCell ⟨w.heap.size, k, none⟩ (.int .u32 (u : Int))) (v.put k u) r s := by
 have k1 := Kept.setCell W ⟨w.heap.size, k, none⟩ (.int .u32 (u : Int))
 refine ⟨?_, h.dot.kept k1 (by simp), h.ans.kept k1 (by simp), h.old.setCell (by simp) _⟩
 have := h.one.set k (.int .u32 (u : Int))
 rwa [V.arr_put v hk hu] at this
def Both (v : V) (e : Nat) : World → Ending → World → Prop := Says (.tuple #[.agg v.arr, .int .i64 (e : Int)])
theorem next_arg {v : V} {r s : Nat} (h : V.dotB r s = false) : V.nextE v r s = 2 ∧ V.nextV v r s = V.zero := by simp [V.nextV, V.nextE, h]
theorem next_have {v : V} {r s : Nat} (h : V.dotB r s = true) (h1 : V.hasB v r s = true) : V.nextE v r s = 8 ∧ V.nextV v r s = V.zero := by simp [V.nextV, V.nextE, h, h1]
theorem next_gap {v : V} {r s : Nat} (h : V.dotB r s = true) (h1 : V.hasB v r s = false) (h2 : 1 < s - v.at_ r) : V.nextE v r s = 9 ∧ V.nextV v r s = V.zero := by simp [V.nextV, V.nextE, h, h1, h2]
theorem next_ok {v : V} {r s : Nat} (h : V.dotB r s = true) (h1 : V.hasB v r s = false) (h2 : ¬ 1 < s - v.at_ r) : V.nextE v r s = 0 ∧ V.nextV v r s = V.put v r s := by simp [V.nextV, V.nextE, h, h1, h2]
theorem both_of {v : V} {r s e : Nat} {u : V} {w w' : World} (h : V.nextE v r s = e ∧ V.nextV v r s = u) (hb : Below w.heap.size w w') : Both (V.nextV v r s) (V.nextE v r s) w (.returned (.tuple #[.agg u.arr, .int .i64 (e : Int)])) w' := ⟨by rw [h.1, h.2], hb⟩
theorem wrap_sub (s x : Nat) (hs : s < 4294967296) (hx : x ≤ s) : IntKind.u32.wrap ((s : Int) - (x : Int)) = (s : Int) - (x : Int) := by
 rw [IntKind.wrap_u32]
 omega
set_option maxHeartbeats 1000000 in
theorem next_any (v : V) (r s : Nat) (w : World) (hr : r < 256) (hs : s < 4294967296) : Calls Tryz.prog 41 #[.agg v.arr, dotV r s] w (Both (V.nextV v r s) (V.nextE v r s) w) := by
 have hb1 := fun (v : V) (w : World) => box24 v w
 have HT := Lib.hid (trio_new w v r s)
 have HC := Lib.hid (fun w => valid_any r s w hr hs)
 have HH := Lib.hid (fun w => has_any v r s w hr hs)
 cases hd : V.dotB r s
 ·rw [hd] at HC
  have HE := Lib.hid (next_arg (v := v) hd)
  clear hd
  go_enter Tryz.func41, Tryz.ntmps41
  go_wp2_with fail
  clear hb1
  rw [← zero_arr]
  generalize ((w.alloc (.cells v.arr 24)).alloc (.cells #[.int .u8 (r : Int), .int .u32 (s : Int)] 30)).alloc (.cells V.zero.arr 24) = W at HT
  refine (HC.out _).mono ?_
  rintro e w1 ⟨rfl, hb⟩
  have HT1 := Lib.hid (HT.out.below hb)
  clear hb
  go_wp2_with (first | (refine wpList_load24 rfl rfl rfl HT1.out.one ?_) | (refine wpList_store24 (u := V.zero) rfl rfl rfl (congrArg Value.agg zero_arr.symm) HT1.out.ans ?_) | (refine wpList_store24 (u := V.zero) rfl rfl rfl rfl HT1.out.ans ?_))
  exact bodyPost_ret (ret24_two (t := 4) (s := 5) (y := .int .i64 2) rfl rfl rfl (Blk.row HT1.out.ans)) rfl (both_of HE.out HT1.out.ret)
 ·cases hh : V.hasB v r s
  ·have hx : s > v.at_ r := by simp [V.hasB, hd] at hh; exact hh
   obtain ⟨hr1, hs1, hs2⟩ := dotB_lt hd
   have hr2 : (r : Int) < 16 := by omega
   by_cases hgap : 1 < s - v.at_ r
   ·have HE := Lib.hid (next_gap hd hh hgap)
    rw [hd] at HC
    rw [hh] at HH
    clear hd hh
    go_enter Tryz.func41, Tryz.ntmps41
    go_wp2_with fail
    clear hb1
    rw [← zero_arr]
    generalize ((w.alloc (.cells v.arr 24)).alloc (.cells #[.int .u8 (r : Int), .int .u32 (s : Int)] 30)).alloc (.cells V.zero.arr 24) = W at HT
    refine (HC.out _).mono ?_
    rintro e w1 ⟨rfl, hb⟩
    have HT1 := Lib.hid (HT.out.below hb)
    have c1 := HT1.out.rep
    have c2 := HT1.out.seq
    clear hb
    go_wp2_with (first | (refine wpList_load24 rfl rfl rfl HT1.out.one ?_) | (refine wpList_store24 (u := V.zero) rfl rfl rfl (congrArg Value.agg zero_arr.symm) HT1.out.ans ?_) | (refine wpList_store24 (u := V.zero) rfl rfl rfl rfl HT1.out.ans ?_))
    refine (HH.out _).mono ?_
    rintro e w2 ⟨rfl, hb⟩
    have HT2 := Lib.hid (HT1.out.below hb)
    clear hb c1 c2
    have c1 := HT2.out.rep
    have c2 := HT2.out.seq
    have c3 := HT2.out.num hr1
    have l1 := v.lt r
    generalize v.at_ r = x at c3 l1 hx hgap
    have hg1 : (1 : Int) < (s : Int) - (x : Int) := by omega
    have hwr := wrap_sub s x hs (by omega)
    go_wp2_with fail
    go_region_held3 (fun w' => w'.cell? ⟨w.heap.size + 1, 0, none⟩ = some (.int .u8 (r : Int)) ∧ w'.cell? ⟨w.heap.size + 1, 1, none⟩ = some (.int .u32 (s : Int)) ∧ w'.cell? ⟨w.heap.size, r, none⟩ = some (.int .u32 (x : Int))) (exact ⟨c1, c2, c3⟩) (fail)
    have HT3 := Lib.hid HT2.out.drew
    clear c1 c2 c3
    go_wp2_with (first | (refine wpList_load24 rfl rfl rfl HT3.out.one ?_) | (refine wpList_store24 (u := V.zero) rfl rfl rfl (congrArg Value.agg zero_arr.symm) HT3.out.ans ?_) | (refine wpList_store24 (u := V.zero) rfl rfl rfl rfl HT3.out.ans ?_))
    exact bodyPost_ret (ret24_two (t := 4) (s := 5) (y := .int .i64 9) rfl rfl rfl (Blk.row HT3.out.ans)) rfl (both_of HE.out HT3.out.ret)
   ·have HE := Lib.hid (next_ok hd hh hgap)
    rw [hd] at HC
    rw [hh] at HH
    clear hd hh
    go_enter Tryz.func41, Tryz.ntmps41
    go_wp2_with fail
    clear hb1
    rw [← zero_arr]
    generalize ((w.alloc (.cells v.arr 24)).alloc (.cells #[.int .u8 (r : Int), .int .u32 (s : Int)] 30)).alloc (.cells V.zero.arr 24) = W at HT
    refine (HC.out _).mono ?_
    rintro e w1 ⟨rfl, hb⟩
    have HT1 := Lib.hid (HT.out.below hb)
    have c1 := HT1.out.rep
    have c2 := HT1.out.seq
    clear hb
    go_wp2_with (first | (refine wpList_load24 rfl rfl rfl HT1.out.one ?_) | (refine wpList_store24 (u := V.zero) rfl rfl rfl (congrArg Value.agg zero_arr.symm) HT1.out.ans ?_) | (refine wpList_store24 (u := V.zero) rfl rfl rfl rfl HT1.out.ans ?_))
    refine (HH.out _).mono ?_
    rintro e w2 ⟨rfl, hb⟩
    have HT2 := Lib.hid (HT1.out.below hb)
    clear hb c1 c2
    have c1 := HT2.out.rep
    have c2 := HT2.out.seq
    have c3 := HT2.out.num hr1
    have f1 := HT2.out.one.frozen r
    have l1 := v.lt r
    generalize v.at_ r = x at c3 l1 hx hgap
    have hg1 : (s : Int) - (x : Int) ≤ 1 := by omega
    have hwr := wrap_sub s x hs (by omega)
    go_wp2_with fail
    go_region_held3 (fun w' => w'.cell? ⟨w.heap.size + 1, 0, none⟩ = some (.int .u8 (r : Int)) ∧ w'.cell? ⟨w.heap.size + 1, 1, none⟩ = some (.int .u32 (s : Int)) ∧ w'.cell? ⟨w.heap.size, r, none⟩ = some (.int .u32 (x : Int))) (exact ⟨c1, c2, c3⟩) (fail)
    have HT3 := Lib.hid (HT2.out.drew.put hr1 hs)
    go_wp2_with (first | (refine wpList_load24 rfl rfl rfl HT3.out.one ?_) | (refine wpList_store24 rfl rfl rfl rfl HT3.out.ans ?_))
    exact bodyPost_ret (ret24_two (t := 4) (s := 5) (y := .int .i64 0) rfl rfl rfl (Blk.row HT3.out.ans)) rfl (both_of HE.out HT3.out.ret)
  ·have HE := Lib.hid (next_have hd hh)
   rw [hd] at HC
   rw [hh] at HH
   clear hd hh
   go_enter Tryz.func41, Tryz.ntmps41
   go_wp2_with fail
   clear hb1
   rw [← zero_arr]
   generalize ((w.alloc (.cells v.arr 24)).alloc (.cells #[.int .u8 (r : Int), .int .u32 (s : Int)] 30)).alloc (.cells V.zero.arr 24) = W at HT
   refine (HC.out _).mono ?_
   rintro e w1 ⟨rfl, hb⟩
   have HT1 := Lib.hid (HT.out.below hb)
   have c1 := HT1.out.rep
   have c2 := HT1.out.seq
   clear hb
   go_wp2_with (first | (refine wpList_load24 rfl rfl rfl HT1.out.one ?_) | (refine wpList_store24 (u := V.zero) rfl rfl rfl (congrArg Value.agg zero_arr.symm) HT1.out.ans ?_) | (refine wpList_store24 (u := V.zero) rfl rfl rfl rfl HT1.out.ans ?_))
   refine (HH.out _).mono ?_
   rintro e w2 ⟨rfl, hb⟩
   have HT2 := Lib.hid (HT1.out.below hb)
   clear hb c1 c2
   go_wp2_with (first | (refine wpList_load24 rfl rfl rfl HT2.out.one ?_) | (refine wpList_store24 (u := V.zero) rfl rfl rfl (congrArg Value.agg zero_arr.symm) HT2.out.ans ?_) | (refine wpList_store24 (u := V.zero) rfl rfl rfl rfl HT2.out.ans ?_))
   exact bodyPost_ret (ret24_two (t := 4) (s := 5) (y := .int .i64 8) rfl rfl rfl (Blk.row HT2.out.ans)) rfl (both_of HE.out HT2.out.ret)
end Go.Proofs.YtnekpgmgnepdoaaGreat
end
