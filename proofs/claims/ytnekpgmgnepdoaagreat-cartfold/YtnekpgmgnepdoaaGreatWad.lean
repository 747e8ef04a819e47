import Derived.Deep.Upon
import Derived.Lib.AppendZerosOnto
import Derived.Lib.Overlaps
import Derived.Laws.NewBlocks
import Derived.Sort.AssemblyPlain
import Derived.CellFam
import Derived.BigGuard
import Derived.BigCall
import Derived.BigRegion
import Derived.Deep.Draws
import Derived.Deep.QuietTactic
import Derived.BigQuiet
import Derived.IntWalk
import Derived.Lib.Walk
import Derived.Lib.BitFns
import Derived.Test.YtnekpgmgnepdoaaGreatWac
section
namespace Go.Proofs.YtnekpgmgnepdoaaGreat
open Go.RowKit
theorem flat_at {w : World} {b off size : Nat} : ∀ {vs : List (List Value)} {k : Nat}, (∀ v ∈ vs, v.length = size) → (∀ i v, vs[i]? = some v → w.rangeAt b (off + (k + i) * size) v) → ∀ j u, vs.flatten[j]? = some u → w.cell? ⟨b, off + k * size + j, none⟩ = some u
 | [], _, _, _, j, u, h => by simp at h
 | v :: vs, k, hv, hc, j, u, h => by
  have hvl := hv v List.mem_cons_self
  rw [List.flatten_cons] at h
  by_cases hj : j < size
  ·rw [List.getElem?_append_left (by omega)] at h
   have := hc 0 v rfl j u h
   rw [Nat.add_zero] at this
   exact this
  ·rw [List.getElem?_append_right (by omega), hvl] at h
   have ih := flat_at (vs := vs) (k := k + 1) (fun x hx => hv x (List.mem_cons_of_mem _ hx)) (fun i x hx => by
    have := hc (i + 1) x (by simpa using hx)
    rw [show k + 1 + i = k + (i + 1) by omega]
    exact this) (j - size) u h
   rw [show off + (k + 1) * size + (j - size) = off + k * size + j by rw [Nat.add_mul]; omega] at ih
   exact ih
theorem flat_at0 {w : World} {b off size : Nat} {vs : List (List Value)} (hv : ∀ v ∈ vs, v.length = size) (hc : ∀ i v, vs[i]? = some v → w.rangeAt b (off + i * size) v) : ∀ j u, vs.flatten[j]? = some u → w.cell? ⟨b, off + j, none⟩ = some u := fun j u h => by
 have := flat_at (w := w) (b := b) (off := off) (k := 0) hv (fun i v h => by rw [Nat.zero_add]; exact hc i v h) j u h
 simpa using this
theorem flat_one {vs : List (List Value)} (h : ∀ v ∈ vs, ∀ u ∈ v, u.oneCell' = true) : ∀ u ∈ vs.flatten, u.oneCell' = true := fun u hu => by
 obtain ⟨v, hv, h2⟩ := List.mem_flatten.1 hu
 exact h v hv u h2
theorem cellsE_one (l : List En) : ∀ v ∈ cellsE l, ∀ u ∈ v, u.oneCell' = true := by
 intro v hv
 obtain ⟨x, _, rfl⟩ := List.mem_map.1 hv
 exact x.one_cs
theorem cellsL_one (l : List La) : ∀ v ∈ cellsL l, ∀ u ∈ v, u.oneCell' = true := by
 intro v hv
 obtain ⟨x, _, rfl⟩ := List.mem_map.1 hv
 exact x.one_cs
section
variable {ops : Array Oper} {rest : List Oper} {o : Oper} {act : Act} {Q : Exit → Act → World → Prop} {W : World}
theorem wpList_appendR (t e size bytes : Nat) {z : Value} (hinfo : (Tryz.prog.info? e).map (fun i => (i.zero, i.size, i.bytes)) = some (some z, size, bytes)) (ht : Tryz.prog.underlying t = some (.slice e)) (hzs : z.cells.size = size) (hsz : 0 < size) (hby : bytes ≤ 1000)
  {x y : Operand} {B n cap m c : Nat} {a b : Option Addr} {vs us : List (List Value)} (hgd : o.guard = none) (ho : o.op = .call { callee := .builtin .append, args := #[x, y], argTypes := #[t, t] })
  (hx : act.eval x = .slice a n cap) (hy : act.eval y = .slice b m c) (hown : OwnG W e size B a n cap vs) (hsrc : GL W size b m us) (hu : ∀ v ∈ us, v.length = size) (h1 : ∀ v ∈ us, ∀ u ∈ v, u.oneCell' = true) (hn : n + m < 1000000) (hB : B ≤ W.heap.size)
  (k : ∀ a' cap' w', OwnG w' e size B a' (n + m) cap' (vs ++ us) → Kept (At a) W w' → Lies W a a' → wpList Tryz.prog ops Q rest (act.put o.dst (.slice a' (n + m) cap')) w') : wpList Tryz.prog ops Q (o :: rest) act W := by
 obtain ⟨i0, hi, hz0, hz1, hz2⟩ := info_parts hinfo
 have hlen := hsrc.len
 by_cases h0 : m = 0
 ·subst h0
  obtain rfl : us = [] := List.eq_nil_of_length_eq_zero hlen
  have hle : n ≤ cap := by
   rcases hown.row.2 with ⟨h0, hn⟩ | ⟨g, cap', cur, hv, hB, hg, hnc, _⟩
   ·cases h0; omega
   ·cases hv; exact hnc
  have hs : Src Tryz.prog i0.size t (.slice b 0 c) 0 [] W := by
   cases b with
   | none => exact Src.ofNil W ht c
   | some ad => exact Src.ofSlice W ht ad 0 c [] (by simp) (by simp) (by simp)
  have hr := run_append_nothing (P := Tryz.prog) W t t o.type e i0 ht hi a n cap hle _ hs
  refine Lib.wpList_append_run W hgd x y t t ho _ _ hx hy _ _ hr ?_
  have := k a cap W (by rw [List.append_nil]; exact hown) (Kept.refl _ _) (fun ad h => .inl ⟨ad, h, rfl⟩)
  exact this
 ·rcases hsrc.cells with h | ⟨b', off, rfl, hc⟩
  ·exact absurd h h0
  have hnb : (n + m) * bytes ≤ 140737488355328 := by
   have : (n + m) * bytes ≤ 1000000 * 1000 := Nat.mul_le_mul (by omega) hby
   omega
  refine wpList_append_lies W hgd x y t ho B e i0 _ size bytes ht hi hz0 hz1 hz2 hzs hsz (.slice a n cap) n vs.flatten hx hown.row ⟨b', off, none⟩ m c us.flatten hy (by rw [flat_len hu, hlen])
   (fun j u hj => by rw [Addr.add_mid]; exact flat_at0 hu hc j u hj) (flat_one h1) (by omega) (by unfold maxLen; omega) hnb hB _ rfl ?_
  intro g' cap' w' h1' h2 h3 h4
  refine k _ _ _ ⟨by rw [List.flatten_append]; exact h1', ?_, by simp [hown.len, hlen]⟩ ⟨h2.os, h2.tape, h2.output, h2.size, fun k hk hn => h2.block k hk (fun e => hn ?_)⟩ ?_
  ·intro v hv
   rcases List.mem_append.1 hv with hv | hv
   ·exact hown.each v hv
   ·exact hu v hv
  ·cases a with
   | none => simp [Value.ownBlock] at e
   | some ad => exact ⟨ad, rfl, by simpa [Value.ownBlock] using e⟩
  ·rintro ad rfl2
   obtain rfl := Option.some.inj rfl2
   rcases h3 with h3 | h3
   ·cases a with
    | none => simp [Value.ownBlock] at h3
    | some ad => exact .inl ⟨ad, rfl, by simpa [Value.ownBlock] using h3.symm⟩
   ·exact .inr (by simp [h3])
end
theorem run_copyR (w : World) (t t' ty e size : Nat) (hu : Tryz.prog.underlying t = some (.slice e)) (hz : (Tryz.prog.info? e).map (·.size) = some size) (g o dLen dCap b off sLen sCap : Nat) (us : List (List Value)) (hn : us.length = Nat.min sLen dLen) (he : ∀ v ∈ us, v.length = size)
  (hsrc : ∀ i v, us[i]? = some v → w.rangeAt b (off + i * size) v) (h1 : ∀ v ∈ us, ∀ u ∈ v, u.oneCell' = true) (hth : w.there g o (us.length * size)) :
  (Builtin.copy_ #[t, t'] ty #[.slice (some ⟨g, o, none⟩) dLen dCap, .slice (some ⟨b, off, none⟩) sLen sCap]).run Tryz.prog w = .ok (goInt us.length) (w.setCells g o us.flatten) := by
 have hfl := flat_len he
 have hl := run_loadCells_list (P := Tryz.prog) w ⟨b, off, none⟩ us.flatten (fun j v hj => by rw [Addr.add_mid]; exact flat_at0 he hsrc j v hj)
 have hst := run_storeCells_cells (P := Tryz.prog) g o us.flatten 0 w (by rw [hfl]; simpa using fun j hj => (hth j hj).1) (by rw [hfl]; simpa using fun j hj => (hth j hj).2) (flat_one h1)
 cases hq : Tryz.prog.info? e with
 | none => simp [hq] at hz
 | some i =>
  have hi : i.size = size := by simpa [hq] using hz
  rw [hfl] at hl
  simp [Builtin.copy_, run_underlying hu, Builtin.lenOf, Builtin.firstCells, sizeOf, typeInfo, hq, hi, ← hn, hl]
  simpa using congrArg (fun r => r.andThen fun _ w => .ok (goInt us.length) w) hst
theorem run_clearR (w : World) (t ty e size : Nat) (zs : List Value) (ht : Tryz.prog.underlying t = some (.slice e)) (hz : (zeroValue e).run Tryz.prog w = .ok (.agg zs.toArray) w) (hs : zs.length = size) (hs0 : 0 < size) (h1 : ∀ u ∈ zs, u.oneCell' = true) (g o n c : Nat) (hth : w.there g o (n * size)) :
  (Builtin.clear_ #[t] ty #[.slice (some ⟨g, o, none⟩) n c]).run Tryz.prog w = .ok (.tuple #[]) (w.setCells g o (List.replicate n zs).flatten) := by
 have he : ∀ v ∈ List.replicate n zs, v.length = size := fun v hv => by rw [List.eq_of_mem_replicate hv, hs]
 have hfl := flat_len he
 rw [List.length_replicate] at hfl
 have hzc : (Builtin.zeroCells (Value.agg zs.toArray).cells n).toList = (List.replicate n zs).flatten := by
  have hsz : (Value.agg zs.toArray).cells.size = size := by simp [Value.cells, hs]
  apply List.ext_getElem?
  intro j
  by_cases hj : j < n * size
  ·have hd : j / size < n := by rw [Nat.div_lt_iff_lt_mul hs0]; exact hj
   have hm : j % size < size := Nat.mod_lt _ hs0
   have e1 := flatten_get he (i := j / size) (v := zs) (by simp [hd]) (j := j % size) (u := zs[j % size]'(by omega)) (by simp [hs, hm])
   rw [show j / size * size + j % size = j by rw [Nat.mul_comm]; exact Nat.div_add_mod j size] at e1
   rw [e1]
   simp only [Builtin.zeroCells, hsz, Array.getElem?_toList, Array.getElem?_map, Array.getElem?_range, Nat.mul_comm n size]
   rw [Nat.mul_comm] at hj
   simp [Value.cells, hs, hm, hj]
  ·have hl1 : (Builtin.zeroCells (Value.agg zs.toArray).cells n).toList.length = n * size := by simp [Builtin.zeroCells, hsz, Nat.mul_comm]
   rw [List.getElem?_eq_none (by rw [hl1]; omega), List.getElem?_eq_none (by rw [hfl]; omega)]
 have hst := run_storeCells_cells (P := Tryz.prog) g o (List.replicate n zs).flatten 0 w (by rw [hfl]; simpa using fun j hj => (hth j hj).1) (by rw [hfl]; simpa using fun j hj => (hth j hj).2) (flat_one fun v hv => by rw [List.eq_of_mem_replicate hv]; exact h1)
 simp only [Nat.add_zero] at hst
 cases n with
 | zero => simp [Builtin.clear_, run_underlying ht, World.setCells]
 | succ n => simp [Builtin.clear_, run_underlying ht, hz, hzc, hst]
section
variable {ev : Operand → Value} {q : Oper} {w : World}
theorem exec_sliceLo {t e size : Nat} (ht : Tryz.prog.underlying t = some (.slice e)) (hz : ∀ w, (Go.sizeOf e).run Tryz.prog w = .ok size w) {x y : Operand} {g off i n cap : Nat} {z : Int} (ho : q.op = .slice t x (some y) none none) (hx : ev x = .slice (some ⟨g, off, none⟩) n cap) (hy : ev y = .int .i64 z) (hzi : z = (i : Int)) (hi : i ≤ n) (hc : n ≤ cap) (hlt : i < cap) : (execOp ev q).run Tryz.prog w = .ok (.value (.slice (some ⟨g, off + i * size, none⟩) (n - i) (cap - i))) w := by
 subst hzi
 have hne : ¬ cap = i := by omega
 have h1 : (i : Int) ≤ (n : Int) := by omega
 have h2 : (n : Int) ≤ (cap : Int) := by omega
 unfold execOp
 simp only [ho, hx, hy, Option.map_some, Option.map_none]
 go_simp
theorem exec_sliceHi {t e size : Nat} (ht : Tryz.prog.underlying t = some (.slice e)) (hz : ∀ w, (Go.sizeOf e).run Tryz.prog w = .ok size w) {x y : Operand} {a : Option Addr} {i n cap : Nat} {z : Int} (ho : q.op = .slice t x none (some y) none) (hx : ev x = .slice a n cap) (hy : ev y = .int .i64 z) (hzi : z = (i : Int)) (hi : i ≤ cap) (ha : a.isSome = true) : (execOp ev q).run Tryz.prog w = .ok (.value (.slice a i cap)) w := by
 subst hzi
 obtain ⟨⟨g, off, sp⟩, rfl⟩ := Option.isSome_iff_exists.1 ha
 have h2 : (i : Int) ≤ (cap : Int) := by omega
 unfold execOp
 simp only [ho, hx, hy, Option.map_some, Option.map_none]
 go_simp
theorem exec_copy {t t' : Nat} {x y : Operand} {v u v' : Value} {w' : World} (ho : q.op = .call { callee := .builtin .copy, args := #[x, y], argTypes := #[t, t'] }) (hx : ev x = v) (hy : ev y = u) (hr : (Builtin.copy_ #[t, t'] q.type #[v, u]).run Tryz.prog w = .ok v' w') : (execOp ev q).run Tryz.prog w = .ok (.value v') w' := by
 unfold execOp
 simp only [ho, resolve, invoke, builtin, Sem.run_bind, Sem.run_pure, Result.andThen_ok, List.map_toArray, List.map_cons, List.map_nil, hx, hy, hr]
theorem exec_clear {t : Nat} {x : Operand} {v v' : Value} {w' : World} (ho : q.op = .call { callee := .builtin .clear, args := #[x], argTypes := #[t] }) (hx : ev x = v) (hr : (Builtin.clear_ #[t] q.type #[v]).run Tryz.prog w = .ok v' w') : (execOp ev q).run Tryz.prog w = .ok (.value v') w' := by
 unfold execOp
 simp only [ho, resolve, invoke, builtin, Sem.run_bind, Sem.run_pure, Result.andThen_ok, List.map_toArray, List.map_cons, List.map_nil, hx, hr]
end
end Go.Proofs.YtnekpgmgnepdoaaGreat
end
section
namespace Go.Proofs.YtnekpgmgnepdoaaGreat
open Go.RowKit
open Go.Sort (swp ltInt)
def numI : Value → Int
 | .int _ z => z
 | _ => 0
def encU (d : Array Int) : Array Value := d.map fun n => Value.int .u16 n
structure Sr (w W : World) (b o : Nat) (r : Array Value) (d : Array Int) : Prop where
 zero : o = 0
 blk : Blk W b 31 (encU d ++ r)
 kept : Kept (fun k => k = b) w W
theorem encU_size (d : Array Int) : (encU d).size = d.size := by simp [encU]
theorem encU_at (d : Array Int) (r : Array Value) {i : Nat} (h : i < d.size) : (encU d ++ r)[i]? = some (.int .u16 d[i]!) := by
 rw [Array.getElem?_append_left (by rw [encU_size]; exact h)]
 simp [encU, h]
theorem encU_set (d : Array Int) (r : Array Value) {i : Nat} (h : i < d.size) (x : Int) : (encU d ++ r).setIfInBounds i (.int .u16 x) = encU (d.setIfInBounds i x) ++ r := by
 apply Array.ext_getElem?
 intro k
 by_cases hk : i = k
 ·subst hk
  rw [encU_at _ _ (by simpa using h), Array.getElem?_setIfInBounds, if_pos rfl, if_pos (by simp [encU_size]; omega)]
  simp [h]
 ·rw [Array.getElem?_setIfInBounds, if_neg hk]
  by_cases hs : k < d.size
  ·rw [encU_at _ _ hs, encU_at _ _ (by simpa using hs)]
   simp [hs, hk]
  ·rw [Array.getElem?_append_right (by rw [encU_size]; omega), Array.getElem?_append_right (by rw [encU_size]; simp; omega)]
   simp [encU_size]
theorem Sr.cell {w W : World} {b o : Nat} {r : Array Value} {d : Array Int} (h : Sr w W b o r d) {i : Nat} (hi : i < d.size) : W.cell? ⟨b, o + i, none⟩ = some (.int .u16 d[i]!) := by
 rw [h.zero, Nat.zero_add, h.blk.cell, encU_at _ _ hi]
theorem Sr.frozen {w W : World} {b o : Nat} {r : Array Value} {d : Array Int} (h : Sr w W b o r d) (i : Nat) : W.frozen? ⟨b, o + i, none⟩ = false := h.blk.frozen _
theorem Sr.set {w W : World} {b o : Nat} {r : Array Value} {d : Array Int} (h : Sr w W b o r d) {i : Nat} (hi : i < d.size) (x : Int) : Sr w (W.setCell ⟨b, o + i, none⟩ (.int .u16 x)) b o r (d.setIfInBounds i x) := by
 refine ⟨h.zero, ?_, h.kept.trans (Kept.setCell W _ _) (fun k hk => .inl hk)⟩
 rw [← encU_set d r hi, h.zero, Nat.zero_add]
 exact h.blk.set i _
theorem Sr.drawn {w W : World} {b o : Nat} {r : Array Value} {d : Array Int} (h : Sr w W b o r d) (q : Nat) : Sr w (W.drewN q) b o r d := ⟨h.zero, h.blk, h.kept.os, h.kept.tape, h.kept.output, h.kept.size, h.kept.block⟩
theorem Sr.swap {w W : World} {b o : Nat} {r : Array Value} {d : Array Int} (h : Sr w W b o r d) {i j : Nat} (hi : i < d.size) (hj : j < d.size) (q : Nat) {x y : Int} (hx : x = d[j]!) (hy : y = d[i]!) :
  Sr w (((W.drewN q).setCell ⟨b, o + i, none⟩ (.int .u16 x)).setCell ⟨b, o + j, none⟩ (.int .u16 y)) b o r (swp d i j) := by
 subst hx hy
 exact ((h.drawn q).set hi _).set (by simpa using hj) _
theorem Sr.start {w : World} {b o : Nat} {r : Array Value} {d : Array Int} (h0 : o = 0) (h : Blk w b 31 (encU d ++ r)) : Sr w w b o r d := ⟨h0, h, Kept.refl _ _⟩
theorem less16 (x y : Int) (w : World) : Calls Tryz.prog 172 #[.int .u16 x, .int .u16 y] w fun e w' => e = .returned (.bool (ltInt x y)) ∧ w = w' := by
 unfold ltInt
 go_enter Tryz.func172, Tryz.ntmps172
 go_wp2
 go_ret
 exact ⟨rfl, rfl⟩
theorem less16' (x y : Int) (w : World) : Calls Tryz.prog 172 #[.int .u16 x, .int .u16 y] w fun e w' => e = .returned (.bool (ltInt x y)) ∧ w' = w := (less16 x y w).mono fun _ _ h => ⟨h.1, h.2.symm⟩
end Go.Proofs.YtnekpgmgnepdoaaGreat
end
section
namespace Go.Proofs.YtnekpgmgnepdoaaGreat
open Go.RowKit
open Go.Sort (swp ltInt insInner insOuter insertionSort size_swp)
theorem inner_step {a j : Nat} {d : Array Int} (hj : a < j) (hl : ltInt d[j]! d[j - 1]! = true) : insInner ltInt a j d = insInner ltInt a (j - 1) (swp d j (j - 1)) := by
 cases j with
 | zero => omega
 | succ k =>
  have hl' : ltInt d[k + 1]! d[k]! = true := hl
  rw [insInner, if_pos (by simp [hl', hj])]
  rfl
theorem inner_end {a j : Nat} {d : Array Int} (h : ¬ a < j ∨ ltInt d[j]! d[j - 1]! = false) : insInner ltInt a j d = d := by
 cases j with
 | zero => rw [insInner]
 | succ k =>
  rw [insInner, if_neg]
  rcases h with h | h
  ·simp; omega
  ·have h' : ltInt d[k + 1]! d[k]! = false := h
   simp [h']
theorem outer_step {a b i : Nat} {d : Array Int} (h : i < b) : insOuter ltInt a b i d = insOuter ltInt a b (i + 1) (insInner ltInt a i d) := by
 conv => lhs; unfold insOuter
 rw [if_pos h]
theorem outer_end {a b i : Nat} {d : Array Int} (h : ¬ i < b) : insOuter ltInt a b i d = d := by
 unfold insOuter
 rw [if_neg h]
def InsO (w : World) (g o : Nat) (r : Array Value) (d : Array Int) (a b : Nat) (v : Value) (W : World) : Prop :=
 ∃ (i : Nat) (x : Array Int), v = .int .i64 (i : Int) ∧ a < i ∧ i ≤ b + 1 ∧ x.size = d.size ∧ Sr w W g o r x ∧ insOuter ltInt a b i x = insertionSort ltInt d a b
def InsI (w : World) (g o : Nat) (r : Array Value) (d x : Array Int) (a i : Nat) (v : Value) (W : World) : Prop :=
 ∃ (j : Nat) (y : Array Int), v = .int .i64 (j : Int) ∧ a ≤ j ∧ j ≤ i ∧ y.size = d.size ∧ Sr w W g o r y ∧ insInner ltInt a j y = insInner ltInt a i x
set_option maxHeartbeats 1000000 in
theorem insert16 {w W : World} {g o cap : Nat} {r : Array Value} {d : Array Int} (hs : Sr w W g o r d) (a b : Nat) (hab : a ≤ b) (hb : b ≤ d.size) (hsz : d.size < 1000000) :
  Calls Tryz.prog 166 #[.slice (some ⟨g, o, none⟩) d.size cap, .int .i64 (a : Int), .int .i64 (b : Int)] W fun e W' => e = .returned (.tuple #[]) ∧ Sr w W' g o r (insertionSort ltInt d a b) := by
 have HS := Lib.hid hs
 clear hs
 go_enter Tryz.func166, Tryz.ntmps166
 go_wp2
 go_loopw [6] (InsO w g o r d a b) (fun v _ => b + 1 - (numI v).toNat)
 case atStart => exact ⟨a + 1, d, by go_num, by omega, by omega, rfl, HS.out, rfl⟩
 case round =>
  obtain ⟨i, x, rfl, hai, hib, hx, hsx, ho⟩ := hrel
  have HO := Lib.hid ho
  have HX := Lib.hid hsx
  clear ho hsx
  by_cases hlt : i < b
  ·go_wp2
   go_loopw [7] (InsI w g o r d x a i) (fun v _ => (numI v).toNat)
   case atStart => exact ⟨i, x, rfl, by omega, Nat.le_refl _, hx, HX.out, rfl⟩
   case round =>
    obtain ⟨j, y, rfl, haj, hji, hy, hsy, hi⟩ := hrel
    obtain ⟨G, hG⟩ : ∃ G : Nat → Int, ∀ t, G t = y[t]! := ⟨fun t => y[t]!, fun _ => rfl⟩
    have hcw : ∀ t, t < d.size → wr.cell? ⟨g, o + t, none⟩ = some (.int .u16 (G t)) := fun t ht => by rw [hG]; exact hsy.cell (by omega)
    have hfw : ∀ t, t < d.size → wr.frozen? ⟨g, o + t, none⟩ = false := fun t _ => hsy.frozen t
    have HY := Lib.hid hsy
    have HI := Lib.hid hi
    have HG := Lib.hid hG
    clear hsy hi hG
    have OUT : Hid ((¬ a < j ∨ ltInt y[j]! y[j - 1]! = false) → ∀ q, InsO w g o r d a b (.int .i64 ((i : Int) + 1)) (wr.drewN q)) := Lib.hid fun h q =>
     ⟨i + 1, y, by go_num, by omega, by omega, hy, HY.out.drawn q, by rw [← HO.out, outer_step hlt, ← HI.out, inner_end h]⟩
    by_cases hja : a < j
    ·have hn1 : j < d.size := by omega
     have hn2 : j - 1 < d.size := by omega
     have hn3 : (0 : Int) ≤ (j : Int) - 1 := by omega
     go_wp2
     go_quiet (first | (go_at_call 172; refine Calls.quiet_of_same (less16' _ _ _)))
     go_wp2
     ·have hl : ltInt (G j) (G (j - 1)) = true := by assumption
      go_region
      all_goals go_wp2
      go_roundw
      case rel => exact ⟨j - 1, swp y j (j - 1), by congr 1; omega, by omega, by omega, by rw [size_swp]; exact hy, HY.out.swap (by omega) (by omega) (nq + 1) (HG.out _) (HG.out _), by rw [← HI.out, inner_step hja (by rw [← HG.out, ← HG.out]; exact hl)]⟩
      case measure => simp [numI]; omega
     ·have hl : ltInt (G j) (G (j - 1)) = false := by assumption
      go_roundw
      case rel => exact OUT.out (.inr (by rw [← HG.out, ← HG.out]; exact hl)) nq
      case measure => simp [numI]; omega
    ·go_wp2
     go_quiet (first | (go_at_call 172; refine Calls.quiet_of_same (less16' _ _ _)))
     go_wp2
     go_roundw
     case rel => exact OUT.out (.inl hja) nq
     case measure => simp [numI]; omega
  ·go_wp2
   go_end0
   exact ⟨rfl, by rw [← HO.out, outer_end hlt]; exact HX.out⟩
end Go.Proofs.YtnekpgmgnepdoaaGreat
end
section
namespace Go.Proofs.YtnekpgmgnepdoaaGreat
open Go.RowKit
open Go.Sort (swp ltInt siftDown heapBuild heapPop heapSort reverseLoop reverseRange size_swp)
theorem wrap_ok {z : Int} (h0 : 0 ≤ z) (h1 : z < 1000000000) : IntKind.i64.wrap z = z := IntWalk.i64_in _ (by omega)
theorem sift_end {hi f root : Nat} {d : Array Int} (h : ¬ 2 * root + 1 < hi) : siftDown ltInt hi f root d = d := by
 unfold siftDown
 rw [dif_pos (by omega)]
def ChildAt (d : Array Int) (hi f root c : Nat) : Prop :=
 2 * root + 1 < hi ∧ ((c = 2 * root + 1 ∧ (¬ 2 * root + 2 < hi ∨ ltInt d[f + (2 * root + 1)]! d[f + (2 * root + 2)]! = false)) ∨ (c = 2 * root + 2 ∧ 2 * root + 2 < hi ∧ ltInt d[f + (2 * root + 1)]! d[f + (2 * root + 2)]! = true))
theorem sift_step {hi f root c : Nat} {d : Array Int} (h : ChildAt d hi f root c) : siftDown ltInt hi f root d = if ltInt d[f + root]! d[f + c]! = true then siftDown ltInt hi f c (swp d (f + root) (f + c)) else d := by
 obtain ⟨h0, h⟩ := h
 conv => lhs; unfold siftDown
 rw [dif_neg (by omega)]
 rcases h with ⟨rfl, h⟩ | ⟨rfl, h1, h2⟩
 ·rw [if_neg]
  ·cases ltInt d[f + root]! d[f + (2 * root + 1)]! <;> simp
  ·rcases h with h | h
   ·simp; omega
   ·rw [show f + (2 * root + 1) + 1 = f + (2 * root + 2) by omega]; simp [h]
 ·rw [if_pos, dif_pos h1]
  ·cases ltInt d[f + root]! d[f + (2 * root + 2)]! <;> simp
  ·rw [show f + (2 * root + 1) + 1 = f + (2 * root + 2) by omega]; simp [h2]; omega
def SiftR (w : World) (g o : Nat) (r : Array Value) (d : Array Int) (hi f lo : Nat) (v : Value) (W : World) : Prop :=
 ∃ (k : Nat) (x : Array Int), v = .int .i64 (k : Int) ∧ k ≤ hi ∧ x.size = d.size ∧ Sr w W g o r x ∧ siftDown ltInt hi f k x = siftDown ltInt hi f lo d
set_option maxRecDepth 100000 in
set_option maxHeartbeats 2000000 in
theorem sift16 {w W : World} {g o cap : Nat} {r : Array Value} {d : Array Int} (hs : Sr w W g o r d) (lo hi f : Nat) (hlo : lo ≤ hi) (hf : f + hi ≤ d.size) (hsz : d.size < 1000000) :
  Calls Tryz.prog 195 #[.slice (some ⟨g, o, none⟩) d.size cap, .int .i64 (lo : Int), .int .i64 (hi : Int), .int .i64 (f : Int)] W fun e W' => e = .returned (.tuple #[]) ∧ Sr w W' g o r (siftDown ltInt hi f lo d) := by
 have HS := Lib.hid hs
 clear hs
 go_enter Tryz.func195, Tryz.ntmps195
 go_wp2
 go_loopw [8] (SiftR w g o r d hi f lo) (fun v _ => hi - (numI v).toNat)
 case atStart => exact ⟨lo, d, rfl, hlo, rfl, HS.out, rfl⟩
 case round =>
  obtain ⟨k, x, rfl, hk, hx, hsx, ho⟩ := hrel
  have HO := Lib.hid ho
  have HX := Lib.hid hsx
  obtain ⟨G, hG⟩ : ∃ G : Nat → Int, ∀ t, G t = x[t]! := ⟨fun t => x[t]!, fun _ => rfl⟩
  have hcw : ∀ t, t < d.size → wr.cell? ⟨g, o + t, none⟩ = some (.int .u16 (G t)) := fun t ht => by rw [hG]; exact hsx.cell (by omega)
  have hfw : ∀ t, t < d.size → wr.frozen? ⟨g, o + t, none⟩ = false := fun t _ => hsx.frozen t
  have HG := Lib.hid hG
  clear ho hsx hG
  by_cases h1 : 2 * k + 1 < hi
  ·have hn1 : f + (2 * k + 1) < d.size := by omega
   have hn0 : f + k < d.size := by omega
   have e0 : IntKind.i64.wrap ((f : Int) + (k : Int)) = (f : Int) + (k : Int) := wrap_ok (by omega) (by omega)
   have e1 : IntKind.i64.wrap (2 * (k : Int) + 1 + 1) = 2 * (k : Int) + 1 + 1 := wrap_ok (by omega) (by omega)
   have e2 : IntKind.i64.wrap ((f : Int) + (2 * (k : Int) + 1)) = (f : Int) + (2 * (k : Int) + 1) := wrap_ok (by omega) (by omega)
   have e3 : IntKind.i64.wrap ((f : Int) + (2 * (k : Int) + 1) + 1) = (f : Int) + (2 * (k : Int) + 1) + 1 := wrap_ok (by omega) (by omega)
   have e4 : IntKind.i64.wrap ((f : Int) + (2 * (k : Int) + 1 + 1)) = (f : Int) + (2 * (k : Int) + 1 + 1) := wrap_ok (by omega) (by omega)
   have p0 : (0 : Int) ≤ (f : Int) + (k : Int) := by omega
   have p2 : (0 : Int) ≤ (f : Int) + (2 * (k : Int) + 1) := by omega
   have p3 : (0 : Int) ≤ (f : Int) + (2 * (k : Int) + 1) + 1 := by omega
   have p4 : (0 : Int) ≤ (f : Int) + (2 * (k : Int) + 1 + 1) := by omega
   have q0 : ((f : Int) + (k : Int)).toNat = f + k := by omega
   have q2 : ((f : Int) + (2 * (k : Int) + 1)).toNat = f + (2 * k + 1) := by omega
   have q3 : ((f : Int) + (2 * (k : Int) + 1) + 1).toNat = f + (2 * k + 2) := by omega
   have q4 : ((f : Int) + (2 * (k : Int) + 1 + 1)).toNat = f + (2 * k + 2) := by omega
   by_cases h2 : 2 * k + 2 < hi
   ·have hn2 : f + (2 * k + 1) + 1 < d.size := by omega
    have hn3 : f + (2 * k + 2) < d.size := by omega
    have e5 : decide (2 * (k : Int) + 1 + 1 < (hi : Int)) = true := by simp; omega
    cases hl : ltInt (G (f + (2 * k + 1))) (G (f + (2 * k + 2)))
    ·have HC : Hid (ChildAt x hi f k (2 * k + 1)) := Lib.hid ⟨h1, .inl ⟨rfl, .inr (by rw [← HG.out, ← HG.out]; exact hl)⟩⟩
     go_wp2
     go_quiet (first | (go_at_call 172; refine Calls.quiet_of_same (less16' _ _ _)))
     have HX2 := Lib.hid (HX.out.drawn nq)
     have hcw2 : ∀ t, t < d.size → (wr.drewN nq).cell? ⟨g, o + t, none⟩ = some (.int .u16 (G t)) := hcw
     have hfw2 : ∀ t, t < d.size → (wr.drewN nq).frozen? ⟨g, o + t, none⟩ = false := hfw
     clear hcw hfw HX
     generalize wr.drewN nq = wr2 at HX2 hcw2 hfw2
     clear nq
     cases hl2 : ltInt (G (f + k)) (G (f + (2 * k + 1)))
     ·go_wp2
      go_quiet (first | (go_at_call 172; refine Calls.quiet_of_same (less16' _ _ _)))
      go_wp2
      exact bodyPost_ret (results_none rfl _ _ _) rfl ⟨rfl, by rw [← HO.out, sift_step HC.out, if_neg (by rw [← HG.out, ← HG.out, hl2]; simp)]; exact HX2.out.drawn nq⟩
     ·go_wp2
      go_quiet (first | (go_at_call 172; refine Calls.quiet_of_same (less16' _ _ _)))
      go_wp2
      go_region
      all_goals go_wp2
      go_roundw
      case rel => exact ⟨(2 * k + 1), swp x (f + k) (f + (2 * k + 1)), by congr 1, by omega, by rw [size_swp]; exact hx, HX2.out.swap (by omega) (by omega) (nq + 1) (HG.out _) (HG.out _), by rw [← HO.out, sift_step HC.out, if_pos (by rw [← HG.out, ← HG.out]; exact hl2)]⟩
      case measure => simp [numI]; omega
    ·have HC : Hid (ChildAt x hi f k (2 * k + 2)) := Lib.hid ⟨h1, .inr ⟨rfl, h2, by rw [← HG.out, ← HG.out]; exact hl⟩⟩
     go_wp2
     go_quiet (first | (go_at_call 172; refine Calls.quiet_of_same (less16' _ _ _)))
     have HX2 := Lib.hid (HX.out.drawn nq)
     have hcw2 : ∀ t, t < d.size → (wr.drewN nq).cell? ⟨g, o + t, none⟩ = some (.int .u16 (G t)) := hcw
     have hfw2 : ∀ t, t < d.size → (wr.drewN nq).frozen? ⟨g, o + t, none⟩ = false := hfw
     clear hcw hfw HX
     generalize wr.drewN nq = wr2 at HX2 hcw2 hfw2
     clear nq
     cases hl2 : ltInt (G (f + k)) (G (f + (2 * k + 2)))
     ·go_wp2
      go_quiet (first | (go_at_call 172; refine Calls.quiet_of_same (less16' _ _ _)))
      go_wp2
      exact bodyPost_ret (results_none rfl _ _ _) rfl ⟨rfl, by rw [← HO.out, sift_step HC.out, if_neg (by rw [← HG.out, ← HG.out, hl2]; simp)]; exact HX2.out.drawn nq⟩
     ·go_wp2
      go_quiet (first | (go_at_call 172; refine Calls.quiet_of_same (less16' _ _ _)))
      go_wp2
      go_region
      all_goals go_wp2
      go_roundw
      case rel => exact ⟨(2 * k + 2), swp x (f + k) (f + (2 * k + 2)), by congr 1, by omega, by rw [size_swp]; exact hx, HX2.out.swap (by omega) (by omega) (nq + 1) (HG.out _) (HG.out _), by rw [← HO.out, sift_step HC.out, if_pos (by rw [← HG.out, ← HG.out]; exact hl2)]⟩
      case measure => simp [numI]; omega
   ·have e5 : decide (2 * (k : Int) + 1 + 1 < (hi : Int)) = false := by simp; omega
    have HC : Hid (ChildAt x hi f k (2 * k + 1)) := Lib.hid ⟨h1, .inl ⟨rfl, .inl h2⟩⟩
    go_wp2
    go_quiet (first | (go_at_call 172; refine Calls.quiet_of_same (less16' _ _ _)))
    have HX2 := Lib.hid (HX.out.drawn nq)
    have hcw2 : ∀ t, t < d.size → (wr.drewN nq).cell? ⟨g, o + t, none⟩ = some (.int .u16 (G t)) := hcw
    have hfw2 : ∀ t, t < d.size → (wr.drewN nq).frozen? ⟨g, o + t, none⟩ = false := hfw
    clear hcw hfw HX
    generalize wr.drewN nq = wr2 at HX2 hcw2 hfw2
    clear nq
    cases hl2 : ltInt (G (f + k)) (G (f + (2 * k + 1)))
    ·go_wp2
     go_quiet (first | (go_at_call 172; refine Calls.quiet_of_same (less16' _ _ _)))
     go_wp2
     exact bodyPost_ret (results_none rfl _ _ _) rfl ⟨rfl, by rw [← HO.out, sift_step HC.out, if_neg (by rw [← HG.out, ← HG.out, hl2]; simp)]; exact HX2.out.drawn nq⟩
    ·go_wp2
     go_quiet (first | (go_at_call 172; refine Calls.quiet_of_same (less16' _ _ _)))
     go_wp2
     go_region
     all_goals go_wp2
     go_roundw
     case rel => exact ⟨(2 * k + 1), swp x (f + k) (f + (2 * k + 1)), by congr 1, by omega, by rw [size_swp]; exact hx, HX2.out.swap (by omega) (by omega) (nq + 1) (HG.out _) (HG.out _), by rw [← HO.out, sift_step HC.out, if_pos (by rw [← HG.out, ← HG.out]; exact hl2)]⟩
     case measure => simp [numI]; omega
  ·go_wp2
   go_end0
   exact ⟨rfl, by rw [← HO.out, sift_end h1]; exact HX.out⟩
end Go.Proofs.YtnekpgmgnepdoaaGreat
end
section
namespace Go.Proofs.YtnekpgmgnepdoaaGreat
open Go.RowKit
open Go.Sort (swp ltInt size_swp)
section
variable {ops : Array Oper} {Q : Exit → Act → World → Prop} {S : World → Prop} {fuel : Nat} {listed : Array Bool} {a : Act} {w : World}
theorem held_two (i j : Nat) (di dj : Tmp) {oi oj : Oper} (vi vj : Value) (hij : i ≠ j) (hd : di ≠ dj) (hdi : oi.dst = some di) (hdj : oj.dst = some dj) (hi : ops[i]? = some oi) (hj : ops[j]? = some oj)
  (hr : Region.ready .any ops listed = [i, j]) (hr1 : Region.ready .any ops (listed.setIfInBounds i true) = [j]) (hr2 : Region.ready .any ops (listed.setIfInBounds j true) = [i])
  (hwi : Region.wanted oi (yielded ops a.tmps) = true) (hwj : Region.wanted oj (yielded ops a.tmps) = true) (hwi2 : Region.wanted oi (yielded ops (a.put (some dj) vj).tmps) = true) (hwj2 : Region.wanted oj (yielded ops (a.put (some di) vi).tmps) = true)
  (hyi : (execOp a.eval oi).run Tryz.prog w = .ok (.value vi) w) (hyj : (execOp a.eval oj).run Tryz.prog w = .ok (.value vj) w)
  (hyi2 : (execOp (a.put (some dj) vj).eval oi).run Tryz.prog w = .ok (.value vi) w) (hyj2 : (execOp (a.put (some di) vi).eval oj).run Tryz.prog w = .ok (.value vj) w) (hS : S w)
  (h : wpAnyH Tryz.prog .any ops Q S fuel ((listed.setIfInBounds i true).setIfInBounds j true) ((a.put (some di) vi).put (some dj) vj) w) : wpAnyH Tryz.prog .any ops Q S (fuel + 2) listed a w := by
 refine wpAnyH_ready (rs := [i, j]) hr (by simp) (AllReadyH.cons hi (fun K hK => ?_) (AllReadyH.cons hj (fun K hK => ?_) AllReadyH.nil))
 ·rw [if_pos hwi]
  unfold Oper.wp
  rw [hyi]
  refine hK.out _ _ hS (fun _ => ?_)
  rw [hdi]
  exact held_exec j dj vj hdj hj hr1 hwj2 hyj2 hS h
 ·rw [if_pos hwj]
  unfold Oper.wp
  rw [hyj]
  refine hK.out _ _ hS (fun _ => ?_)
  rw [hdj]
  refine held_exec i di vi hdi hi hr2 hwi2 hyi2 hS ?_
  rw [Array.setIfInBounds_comm _ _ (Ne.symm hij), Act.put_comm a vj vi (fun d h1 h2 => hd (by cases h1; cases h2; rfl))]
  exact h
end
section
variable {ev : Operand → Value} {q : Oper} {w : World}
theorem exec_idx16 {x y : Operand} {g o n cap i : Nat} {z : Int} (ho : q.op = .indexAddr 59 x y) (hx : ev x = .slice (some ⟨g, o, none⟩) n cap) (hy : ev y = .int .i64 z) (hz : z = (i : Int)) (hi : i < n) : (execOp ev q).run Tryz.prog w = .ok (.value (.pointer (some ⟨g, o + i, none⟩))) w := by
 subst hz
 have u59 := Tryz.underlying59
 unfold execOp
 simp only [ho, hx, hy]
 go_simp
theorem exec_ld16 {w0 : World} {r : Array Value} {d : Array Int} {x : Operand} {g o i : Nat} {z : Int} (ho : q.op = .load 31 x) (hx : ev x = .pointer (some ⟨g, o + i, none⟩)) (h : Sr w0 w g o r d) (hi : i < d.size) (hz : d[i]! = z) : (execOp ev q).run Tryz.prog w = .ok (.value (.int .u16 z)) w := by
 subst hz
 have c := h.cell hi
 unfold execOp
 simp only [ho, hx]
 go_simp
theorem exec_st16 {w0 : World} {r : Array Value} {d : Array Int} {x y : Operand} {g o i : Nat} {z : Int} (ho : q.op = .store 31 x y) (hx : ev x = .pointer (some ⟨g, o + i, none⟩)) (hy : ev y = .int .u16 z) (h : Sr w0 w g o r d) (hi : i < d.size) : (execOp ev q).run Tryz.prog w = .ok .skip (w.setCell ⟨g, o + i, none⟩ (.int .u16 z)) := by
 have c := h.cell hi
 have f := h.frozen i
 unfold execOp
 simp only [ho, hx, hy]
 go_simp
theorem exec_addN {x y : Operand} {a b c : Int} (ho : q.op = .binOp .add 3 x y 3) (hx : ev x = .int .i64 a) (hy : ev y = .int .i64 b) (hc : a + b = c) (h0 : 0 ≤ c) (h1 : c < 1000000000) : (execOp ev q).run Tryz.prog w = .ok (.value (.int .i64 c)) w := by
 have e : IntKind.i64.wrap (a + b) = c := by rw [hc]; exact wrap_ok h0 h1
 unfold execOp
 simp [ho, hx, hy, eqGuard, binOp, Op.intArith, e]
theorem exec_subN {x y : Operand} {a b c : Int} (ho : q.op = .binOp .sub 3 x y 3) (hx : ev x = .int .i64 a) (hy : ev y = .int .i64 b) (hc : a - b = c) (h0 : 0 ≤ c) (h1 : c < 1000000000) : (execOp ev q).run Tryz.prog w = .ok (.value (.int .i64 c)) w := by
 have e : IntKind.i64.wrap (a - b) = c := by rw [hc]; exact wrap_ok h0 h1
 unfold execOp
 simp [ho, hx, hy, eqGuard, binOp, Op.intArith, e]
end
theorem Sr.swapd {w W : World} {b o : Nat} {r : Array Value} {d : Array Int} (h : Sr w W b o r d) {i j : Nat} (hi : i < d.size) (hj : j < d.size) :
  Sr w ((W.drew.setCell ⟨b, o + i, none⟩ (.int .u16 d[j]!)).setCell ⟨b, o + j, none⟩ (.int .u16 d[i]!)) b o r (swp d i j) := h.swap hi hj 1 rfl rfl
end Go.Proofs.YtnekpgmgnepdoaaGreat
end
section
namespace Go.Proofs.YtnekpgmgnepdoaaGreat
open Go.RowKit
open Go.Sort (swp ltInt siftDown heapBuild heapPop heapSort reverseLoop reverseRange size_swp)
def HeapB (w : World) (g o : Nat) (r : Array Value) (d : Array Int) (hi f : Nat) (v : Value) (W : World) : Prop :=
 ∃ (k : Nat) (z : Int) (x : Array Int), v = .int .i64 z ∧ Hid (z = (k : Int) - 1) ∧ k ≤ (hi - 1) / 2 + 1 ∧ x.size = d.size ∧ Sr w W g o r x ∧ heapBuild ltInt hi f k x = heapBuild ltInt hi f ((hi - 1) / 2 + 1) d
def HeapP (w : World) (g o : Nat) (r : Array Value) (d : Array Int) (hi f : Nat) (v : Value) (W : World) : Prop :=
 ∃ (k : Nat) (z : Int) (x : Array Int), v = .int .i64 z ∧ Hid (z = (k : Int) - 1) ∧ k ≤ hi ∧ x.size = d.size ∧ Sr w W g o r x ∧ heapPop ltInt f k x = heapSort ltInt d f (f + hi)
theorem sift_size {hi f : Nat} : ∀ (n root : Nat) (d : Array Int), hi - root ≤ n → (siftDown ltInt hi f root d).size = d.size
 | 0, root, d, h => by rw [sift_end (by omega)]
 | n + 1, root, d, h => by
  by_cases h1 : 2 * root + 1 < hi
  ·have hc : ∃ c, ChildAt d hi f root c ∧ root < c := by
    by_cases h2 : 2 * root + 2 < hi
    ·cases hl : ltInt d[f + (2 * root + 1)]! d[f + (2 * root + 2)]!
     ·exact ⟨_, ⟨h1, .inl ⟨rfl, .inr hl⟩⟩, by omega⟩
     ·exact ⟨_, ⟨h1, .inr ⟨rfl, h2, hl⟩⟩, by omega⟩
    ·exact ⟨_, ⟨h1, .inl ⟨rfl, .inl h2⟩⟩, by omega⟩
   obtain ⟨c, hc, hlt⟩ := hc
   rw [sift_step hc]
   split
   ·rw [sift_size n c _ (by omega), size_swp]
   ·rfl
  ·rw [sift_end h1]
set_option maxRecDepth 100000 in
set_option maxHeartbeats 2000000 in
theorem heap16 {w W : World} {g o cap : Nat} {r : Array Value} {d : Array Int} (hs : Sr w W g o r d) (f hi : Nat) (h1 : 1 ≤ hi) (hf : f + hi ≤ d.size) (hsz : d.size < 1000000) :
  Calls Tryz.prog 167 #[.slice (some ⟨g, o, none⟩) d.size cap, .int .i64 (f : Int), .int .i64 ((f : Int) + (hi : Int))] W fun e W' => e = .returned (.tuple #[]) ∧ Sr w W' g o r (heapSort ltInt d f (f + hi)) := by
 have HS := Lib.hid hs
 clear hs
 have e1 : (f : Int) + (hi : Int) - (f : Int) = (hi : Int) := by omega
 have HE1 := Lib.hid e1
 clear e1
 obtain ⟨m, hm⟩ : ∃ m : Nat, ((hi : Int) - 1) / 2 = (m : Int) ∧ m = (hi - 1) / 2 := ⟨(hi - 1) / 2, by omega, rfl⟩
 have HM := Lib.hid hm
 clear hm
 go_enter Tryz.func167, Tryz.ntmps167
 go_wp2
 rw [HE1.out, HM.out.1]
 go_loopw [9] (HeapB w g o r d hi f) (fun v _ => (numI v + 1).toNat)
 case atStart => exact ⟨m + 1, (m : Int), d, rfl, Lib.hid (by omega), by rw [HM.out.2]; exact Nat.le_refl _, rfl, HS.out, by rw [HM.out.2]⟩
 case round =>
  obtain ⟨k, z, x, rfl, HZ, hk, hx, hsx, ho⟩ := hrel
  have HO := Lib.hid ho
  have HX := Lib.hid hsx
  clear ho hsx
  cases k with
  | succ j =>
   obtain rfl : z = (j : Int) := by have := HZ.out; omega
   clear HZ
   go_wp2_with fail
   rw [← hx]
   refine (sift16 HX.out j hi f (by omega) (by omega) (by omega)).mono ?_
   rintro e W2 ⟨rfl, h2⟩
   have H2 := Lib.hid h2
   clear h2
   rw [hx]
   go_wp2_with fail
   go_roundw
   case rel => exact ⟨j, _, _, rfl, Lib.hid rfl, by omega, by rw [sift_size _ _ _ (Nat.le_refl _)]; exact hx, H2.out, by rw [← HO.out, heapBuild]⟩
   case measure => simp [numI]
  | zero =>
   obtain rfl : z = -1 := by have := HZ.out; omega
   clear HZ
   have HO2 : Hid (x = heapBuild ltInt hi f ((hi - 1) / 2 + 1) d) := Lib.hid (by rw [← HO.out, heapBuild])
   clear HO
   go_wp2
   go_loopw [10] (HeapP w g o r d hi f) (fun v _ => (numI v + 1).toNat)
   case atStart => exact ⟨hi, (hi : Int) - 1, x, rfl, Lib.hid rfl, Nat.le_refl _, hx, HX.out, by unfold heapSort; rw [Nat.add_sub_cancel_left, ← HO2.out]⟩
   case round =>
    obtain ⟨k, z, y, rfl, HZ, hk, hy, hsy, ho⟩ := hrel
    have HO := Lib.hid ho
    have HY := Lib.hid hsy
    cases k with
    | succ j =>
     obtain rfl : z = (j : Int) := by have := HZ.out; omega
     clear HZ
     clear ho hsy
     go_wp2_with fail
     refine wp_region_held_drew (S := fun _ => True) (by kernel_rfl) trivial (fun hS => ?_)
     refine held_tk 0 33 (.slice (some ⟨g, o, none⟩) d.size cap) rfl rfl (by kernel_rfl) (fun _ _ _ h => h) (fun _ _ => rfl) trivial ?_
     simp only [Act.put, ap1, ap2, ap3]
     refine held_tk 1 34 (.int .i64 (f : Int)) rfl rfl (by kernel_rfl) (fun _ _ _ h => h) (fun _ _ => rfl) trivial ?_
     simp only [Act.put, ap1, ap2, ap3]
     refine held_tk 2 35 (.slice (some ⟨g, o, none⟩) d.size cap) rfl rfl (by kernel_rfl) (fun _ _ _ h => h) (fun _ _ => rfl) trivial ?_
     simp only [Act.put, ap1, ap2, ap3]
     refine held_tk 3 36 (.int .i64 (f : Int)) rfl rfl (by kernel_rfl) (fun _ _ _ h => h) (fun _ _ => rfl) trivial ?_
     simp only [Act.put, ap1, ap2, ap3]
     refine held_tk 4 37 (.int .i64 (j : Int)) rfl rfl (by kernel_rfl) (fun _ _ _ h => h) (fun _ _ => rfl) trivial ?_
     simp only [Act.put, ap1, ap2, ap3]
     refine held_tk 5 38 (.int .i64 ((f : Int) + (j : Int))) rfl rfl (by kernel_rfl) (fun _ _ _ h => h) (fun _ _ => exec_addN rfl rfl rfl (by omega) (by omega) (by omega)) trivial ?_
     simp only [Act.put, ap1, ap2, ap3]
     refine held_tk 6 39 (.slice (some ⟨g, o, none⟩) d.size cap) rfl rfl (by kernel_rfl) (fun _ _ _ h => h) (fun _ _ => rfl) trivial ?_
     simp only [Act.put, ap1, ap2, ap3]
     refine held_tk 7 40 (.int .i64 (f : Int)) rfl rfl (by kernel_rfl) (fun _ _ _ h => h) (fun _ _ => rfl) trivial ?_
     simp only [Act.put, ap1, ap2, ap3]
     refine held_tk 8 41 (.int .i64 (j : Int)) rfl rfl (by kernel_rfl) (fun _ _ _ h => h) (fun _ _ => rfl) trivial ?_
     simp only [Act.put, ap1, ap2, ap3]
     refine held_tk 9 42 (.int .i64 ((f : Int) + (j : Int))) rfl rfl (by kernel_rfl) (fun _ _ _ h => h) (fun _ _ => exec_addN rfl rfl rfl (by omega) (by omega) (by omega)) trivial ?_
     simp only [Act.put, ap1, ap2, ap3]
     refine held_tk 10 43 (.pointer (some ⟨g, o + (f + j), none⟩)) rfl rfl (by kernel_rfl) (fun _ _ _ h => h) (fun _ _ => exec_idx16 (i := (f + j)) rfl rfl rfl (by omega) (by omega)) trivial ?_
     simp only [Act.put, ap1, ap2, ap3]
     refine held_tk 12 45 (.slice (some ⟨g, o, none⟩) d.size cap) rfl rfl (by kernel_rfl) (fun _ _ _ h => h) (fun _ _ => rfl) trivial ?_
     simp only [Act.put, ap1, ap2, ap3]
     refine held_tk 13 46 (.int .i64 (f : Int)) rfl rfl (by kernel_rfl) (fun _ _ _ h => h) (fun _ _ => rfl) trivial ?_
     simp only [Act.put, ap1, ap2, ap3]
     refine held_tk 14 47 (.pointer (some ⟨g, o + f, none⟩)) rfl rfl (by kernel_rfl) (fun _ _ _ h => h) (fun _ _ => exec_idx16 (i := f) rfl rfl rfl (by omega) (by omega)) trivial ?_
     simp only [Act.put, ap1, ap2, ap3]
     refine held_two 11 15 44 48 (.int .u16 y[(f + j)]!) (.int .u16 y[f]!) (by decide) (by decide) rfl rfl rfl rfl (by kernel_rfl) (by kernel_rfl) (by kernel_rfl) (by kernel_rfl) (by kernel_rfl) (by kernel_rfl) (by kernel_rfl) (exec_ld16 rfl rfl (HY.out.drawn 1) (by omega) rfl) (exec_ld16 rfl rfl (HY.out.drawn 1) (by omega) rfl) (exec_ld16 rfl rfl (HY.out.drawn 1) (by omega) rfl) (exec_ld16 rfl rfl (HY.out.drawn 1) (by omega) rfl) trivial ?_
     simp only [Act.put, ap1, ap2, ap3]
     refine held_exec 16 49 (.pointer (some ⟨g, o + f, none⟩)) rfl rfl (by kernel_rfl) (by kernel_rfl) (exec_idx16 (i := f) rfl rfl rfl (by omega) (by omega)) trivial ?_
     simp only [Act.put, ap1, ap2, ap3]
     refine held_void 17 rfl rfl (by kernel_rfl) (by kernel_rfl) (exec_st16 rfl rfl rfl (HY.out.drawn 1) (by omega)) trivial ?_
     refine held_exec 18 50 (.pointer (some ⟨g, o + (f + j), none⟩)) rfl rfl (by kernel_rfl) (by kernel_rfl) (exec_idx16 (i := (f + j)) rfl rfl rfl (by omega) (by omega)) trivial ?_
     simp only [Act.put, ap1, ap2, ap3]
     refine held_void 19 rfl rfl (by kernel_rfl) (by kernel_rfl) (exec_st16 rfl rfl rfl ((HY.out.drawn 1).set (by omega) _) (by simp; omega)) trivial ?_
     refine wpAnyH_done (by kernel_rfl) ?_ _
     have HN := Lib.hid (HY.out.swapd (i := f) (j := (f + j)) (by omega) (by omega))
     generalize (wr.drew.setCell ⟨g, o + f, none⟩ (.int .u16 y[(f + j)]!)).setCell ⟨g, o + (f + j), none⟩ (.int .u16 y[f]!) = wn at HN
     have hz : (swp y f (f + j)).size = d.size := by rw [size_swp]; exact hy
     go_wp2_with fail
     rw [← hz]
     refine (sift16 HN.out 0 j f (by omega) (by omega) (by omega)).mono ?_
     rintro e W2 ⟨rfl, h2⟩
     have H2 := Lib.hid h2
     clear h2
     rw [hz]
     go_wp2_with fail
     go_roundw
     case rel => exact ⟨j, _, _, rfl, Lib.hid rfl, by omega, by rw [sift_size _ _ _ (Nat.le_refl _)]; exact hz, H2.out, by rw [← HO.out, heapPop]⟩
     case measure => simp [numI]
    | zero =>
     obtain rfl : z = -1 := by have := HZ.out; omega
     clear HZ
     go_wp2
     go_end0
     exact ⟨rfl, by rw [← HO.out, heapPop]; exact HY.out⟩
end Go.Proofs.YtnekpgmgnepdoaaGreat
end
section
namespace Go.Proofs.YtnekpgmgnepdoaaGreat
open Go.RowKit
open Go.Sort (swp ltInt size_swp)
theorem bit_le : ∀ n : Fin 256, Lib.bitLen n.val ≤ 8 ∧ (1 ≤ n.val → 2 ^ Lib.bitLen n.val ≤ 2 * n.val) := by decide +kernel
theorem exec_len8 {ev : Operand → Value} {q : Oper} {w : World} {x y : Operand} {s : ByteArray} {n : Nat} (ho : q.op = .index 9 x y) (hx : ev x = .string s) (hs : s = Lib.len8tab) (hy : ev y = .int .u8 (n : Int)) (hn : n < 256) : (execOp ev q).run Tryz.prog w = .ok (.value (.int .u8 (Lib.bitLen n : Int))) w := by
 subst hs
 have h := Lib.run_index_len8tab (P := Tryz.prog) (w := w) 9 .u8 (n : Int) Tryz.underlying9 (by omega) (by omega)
 rw [Lib.len8_of (n : Int) (by omega) (by omega), Int.toNat_natCast] at h
 unfold execOp
 simp only [ho, hx, hy, Sem.run_bind, h, Result.andThen_ok]
 rfl
set_option maxRecDepth 100000 in
set_option maxHeartbeats 1000000 in
theorem len64_x (n : Nat) (x : Int) (w : World) (hn : n < 256) (hx : Hid (x = (n : Int))) (h0 : 0 ≤ x) (h1 : x < 256) : Calls Tryz.prog 156 #[.int .u64 x] w fun e w' => e = .returned (.int .i64 (Lib.bitLen n : Int)) ∧ w = w' := by
 have hl := (bit_le ⟨n, hn⟩).1
 simp only at hl
 generalize hm : Lib.bitLen n = m at hl
 have HM := Lib.hid hm
 clear hm
 go_enter Tryz.func156, Tryz.ntmps156
 generalize hs : ByteArray.mk _ = tab
 have hs2 : tab = Lib.len8tab := hs.symm.trans (by kernel_rfl)
 clear hs
 have HS := Lib.hid hs2
 clear hs2
 go_wp2_with (refine wpList_run rfl (exec_len8 (n := n) rfl rfl HS.out (congrArg (Value.int .u8) hx.out) hn) ?_)
 go_ret
 refine ⟨ret_int ?_, rfl⟩
 rw [HM.out]
 unfold wrap64
 omega
set_option maxRecDepth 100000 in
theorem len_x (n : Nat) (x : Int) (w : World) (hn : n < 256) (hx : Hid (x = (n : Int))) (h0 : 0 ≤ x) (h1 : x < 256) : Calls Tryz.prog 135 #[.int .u64 x] w fun e w' => e = .returned (.int .i64 (Lib.bitLen n : Int)) ∧ w = w' := by
 go_enter Tryz.func135, Tryz.ntmps135
 go_wp2_with fail
 refine (len64_x n x w hn hx h0 h1).mono ?_
 rintro e w' ⟨rfl, rfl⟩
 go_wp2_with fail
 go_ret
 exact ⟨rfl, rfl⟩
def Pow2 (n : Nat) (w : World) (e : Ending) (w' : World) : Prop := ∃ m : Nat, 1 ≤ m ∧ m ≤ 2 * n ∧ e = .returned (.int .u64 (m : Int)) ∧ w = w'
set_option maxRecDepth 100000 in
theorem pow_x (n : Nat) (x : Int) (w : World) (hn : n < 256) (hn1 : 1 ≤ n) (hx : Hid (x = (n : Int))) (h0 : 0 ≤ x) (h1 : x < 256) : Calls Tryz.prog 188 #[.int .i64 x] w (Pow2 n w) := by
 have hb := bit_le ⟨n, hn⟩
 simp only at hb
 have HB := Lib.hid hb
 clear hb
 go_enter Tryz.func188, Tryz.ntmps188
 go_wp2_with fail
 refine (len_x n x w hn hx h0 h1).mono ?_
 rintro e w' ⟨rfl, rfl⟩
 generalize hm : Lib.bitLen n = m
 rw [hm] at HB
 clear hm
 have hm8 : m ≤ 8 := HB.out.1
 have HP : Hid (2 ^ m ≤ 2 * n) := Lib.hid (HB.out.2 hn1)
 clear HB
 go_wp2_with fail
 go_ret
 refine ⟨2 ^ m, Nat.one_le_two_pow, HP.out, ret_int ?_, rfl⟩
 have hc : m = 0 ∨ m = 1 ∨ m = 2 ∨ m = 3 ∨ m = 4 ∨ m = 5 ∨ m = 6 ∨ m = 7 ∨ m = 8 := by omega
 rcases hc with rfl | rfl | rfl | rfl | rfl | rfl | rfl | rfl | rfl <;> decide
structure Bx (w W : World) (p : Nat) (t : TypeId) (v : Value) : Prop where
 blk : Blk W p t #[v]
 kept : Kept (fun k => k = p) w W
theorem Bx.cell {w W : World} {p : Nat} {t : TypeId} {v : Value} (h : Bx w W p t v) : W.cell? ⟨p, 0, none⟩ = some v := by rw [h.blk.cell]; rfl
theorem Bx.frozen {w W : World} {p : Nat} {t : TypeId} {v : Value} (h : Bx w W p t v) : W.frozen? ⟨p, 0, none⟩ = false := h.blk.frozen 0
theorem Bx.set {w W : World} {p : Nat} {t : TypeId} {v : Value} (h : Bx w W p t v) (u : Value) : Bx w (W.setCell ⟨p, 0, none⟩ u) p t u := ⟨h.blk.set 0 u, h.kept.trans (Kept.setCell W _ _) (fun _ hk => .inl hk)⟩
theorem Bx.drawn {w W : World} {p : Nat} {t : TypeId} {v : Value} (h : Bx w W p t v) (q : Nat) : Bx w (W.drewN q) p t v := ⟨h.blk, h.kept.os, h.kept.tape, h.kept.output, h.kept.size, h.kept.block⟩
theorem Bx.drew {w W : World} {p : Nat} {t : TypeId} {v : Value} (h : Bx w W p t v) : Bx w W.drew p t v := h.drawn 1
def Nexts (w : World) (p : Nat) (e : Ending) (W' : World) : Prop := ∃ z : Int, e = .returned (.int .u64 z) ∧ Bx w W' p 225 (.int .u64 z)
set_option maxRecDepth 100000 in
set_option maxHeartbeats 1000000 in
theorem next_x {w W : World} {p : Nat} {z : Int} (h : Bx w W p 225 (.int .u64 z)) : Calls Tryz.prog 189 #[.pointer (some ⟨p, 0, none⟩)] W (Nexts w p) := by
 have hc := h.cell
 have hf := h.frozen
 have H := Lib.hid h
 clear h
 go_enter Tryz.func189, Tryz.ntmps189
 go_wp2_with fail
 go_region
 all_goals go_wp2_with fail
 generalize bits BinOp.xor IntKind.u64 _ _ = z1
 have H1 := Lib.hid (H.out.set (.int .u64 z1)).drew
 clear H hc hf
 generalize (W.setCell ⟨p, 0, none⟩ (.int .u64 z1)).drew = W1 at H1
 have hc := H1.out.cell
 have hf := H1.out.frozen
 go_region
 all_goals go_wp2_with fail
 generalize bits BinOp.xor IntKind.u64 _ _ = z2
 have H2 := Lib.hid (H1.out.set (.int .u64 z2)).drew
 clear H1 hc hf
 generalize (W1.setCell ⟨p, 0, none⟩ (.int .u64 z2)).drew = W2 at H2
 have hc := H2.out.cell
 have hf := H2.out.frozen
 go_region
 all_goals go_wp2_with fail
 generalize bits BinOp.xor IntKind.u64 _ _ = z3
 have H3 := Lib.hid (H2.out.set (.int .u64 z3)).drew
 go_ret
 exact ⟨_, rfl, H3.out⟩
def Ord2 (w : World) (p a b : Nat) (s : Nat) (e : Ending) (W' : World) : Prop :=
 ∃ x y s' : Nat, e = .returned (.tuple #[.int .i64 (x : Int), .int .i64 (y : Int)]) ∧ ((x = a ∧ y = b) ∨ (x = b ∧ y = a)) ∧ s' ≤ s + 1 ∧ Bx w W' p 3 (.int .i64 (s' : Int))
structure Md (w W : World) (g o : Nat) (d : Array Int) (p : Nat) (s : Nat) : Prop where
 rd : ∀ t, t < d.size → W.cell? ⟨g, o + t, none⟩ = some (.int .u16 d[t]!)
 ne : g ≠ p
 bx : Bx w W p 3 (.int .i64 (s : Int))
theorem Md.next {w W W' : World} {g o p s s' : Nat} {d : Array Int} (h : Md w W g o d p s) (hb : Bx W W' p 3 (.int .i64 (s' : Int))) : Md w W' g o d p s' :=
 ⟨fun t ht => hb.kept.at_ (h.rd t ht) h.ne, h.ne, hb.blk, h.bx.kept.trans hb.kept (fun _ hk => .inl hk)⟩
set_option maxRecDepth 100000 in
set_option maxHeartbeats 1000000 in
theorem order16 {w W : World} {g o cap p s : Nat} {d : Array Int} (h : Md w W g o d p s) (a b : Nat) (ha : a < d.size) (hb : b < d.size) (hs : s < 1000) (_hsz : d.size < 1000000) :
  Calls Tryz.prog 203 #[.slice (some ⟨g, o, none⟩) d.size cap, .int .i64 (a : Int), .int .i64 (b : Int), .pointer (some ⟨p, 0, none⟩)] W (Ord2 W p a b s) := by
 obtain ⟨G, hG⟩ : ∃ G : Nat → Int, ∀ t, G t = d[t]! := ⟨fun t => d[t]!, fun _ => rfl⟩
 have hcw : ∀ t, t < d.size → W.cell? ⟨g, o + t, none⟩ = some (.int .u16 (G t)) := fun t ht => by rw [hG]; exact h.rd t ht
 have hB : Bx W W p 3 (.int .i64 (s : Int)) := ⟨h.bx.blk, Kept.refl _ _⟩
 have HB := Lib.hid hB
 clear h hB hG
 cases hl : ltInt (G b) (G a)
 ·go_enter Tryz.func203, Tryz.ntmps203
  go_wp2_with fail
  go_quiet (first | (go_at_call 172; refine Calls.quiet_of_same (less16' _ _ _)))
  rw [hl]
  go_wp2_with fail
  exact bodyPost_ret (v := .tuple #[.int .i64 (a : Int), .int .i64 (b : Int)]) (by simp [results, Tryz.results203, go_sem]) rfl ⟨a, b, s, rfl, .inl ⟨rfl, rfl⟩, by omega, HB.out.drawn nq⟩
 ·go_enter Tryz.func203, Tryz.ntmps203
  go_wp2_with fail
  go_quiet (first | (go_at_call 172; refine Calls.quiet_of_same (less16' _ _ _)))
  rw [hl]
  have H2 := Lib.hid (HB.out.drawn nq)
  clear HB hcw
  generalize W.drewN nq = W2 at H2
  have hc := H2.out.cell
  have hf := H2.out.frozen
  go_wp2_with fail
  exact bodyPost_ret (v := .tuple #[.int .i64 (b : Int), .int .i64 (a : Int)]) (by simp [results, Tryz.results203, go_sem]) rfl ⟨b, a, s + 1, rfl, .inr ⟨rfl, rfl⟩, by omega, H2.out.set _⟩
def Med (w : World) (p a b c s : Nat) (e : Ending) (W' : World) : Prop :=
 ∃ x s' : Nat, e = .returned (.int .i64 (x : Int)) ∧ (x = a ∨ x = b ∨ x = c) ∧ s' ≤ s + 3 ∧ Bx w W' p 3 (.int .i64 (s' : Int))
set_option maxRecDepth 100000 in
set_option maxHeartbeats 1000000 in
theorem median16 {W : World} {g o cap p s : Nat} {d : Array Int} (h : Md W W g o d p s) (a b c : Nat) (ha : a < d.size) (hb : b < d.size) (hc : c < d.size) (hs : s < 900) (hsz : d.size < 1000000) :
  Calls Tryz.prog 197 #[.slice (some ⟨g, o, none⟩) d.size cap, .int .i64 (a : Int), .int .i64 (b : Int), .int .i64 (c : Int), .pointer (some ⟨p, 0, none⟩)] W (Med W p a b c s) := by
 have H := Lib.hid h
 clear h
 go_enter Tryz.func197, Tryz.ntmps197
 go_wp2_with fail
 refine (order16 H.out a b ha hb (by omega) hsz).mono ?_
 rintro e W1 ⟨x1, y1, s1, rfl, hx1, hs1, hb1⟩
 have H1 := Lib.hid (H.out.next hb1)
 clear hb1
 go_wp2_with fail
 refine (order16 H1.out y1 c (by omega) hc (by omega) hsz).mono ?_
 rintro e W2 ⟨x2, y2, s2, rfl, hx2, hs2, hb2⟩
 have H2 := Lib.hid (H1.out.next hb2)
 clear hb2
 go_wp2_with fail
 refine (order16 H2.out x1 x2 (by omega) (by omega) (by omega) hsz).mono ?_
 rintro e W3 ⟨x3, y3, s3, rfl, hx3, hs3, hb3⟩
 have H3 := Lib.hid (H2.out.next hb3)
 clear hb3
 go_wp2_with fail
 go_ret
 exact ⟨y3, s3, rfl, by omega, by omega, H3.out.bx⟩
end Go.Proofs.YtnekpgmgnepdoaaGreat
end
