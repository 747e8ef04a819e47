import Derived.Test.YtnekpgmgnepdoaaGreatZbg
import Derived.Test.YtnekpgmgnepdoaaGreatXac
section
namespace Go.Proofs.YtnekpgmgnepdoaaGreat
open Go.RowKit
theorem choose_ops {W : World} {x : Addr} : ∀ {n : Nat}, (∀ i, i < n → ∃ p : O, ∀ j u, p.cs[j]? = some u → W.cell? (x.add (i * 23 + j)) = some u) → ∃ l : List O, l.length = n ∧ ∀ i p, l[i]? = some p → ∀ j u, p.cs[j]? = some u → W.cell? (x.add (i * 23 + j)) = some u
 | 0, _ => ⟨[], rfl, fun i p h => by simp at h⟩
 | n + 1, h => by
  obtain ⟨l, hl, hp⟩ := choose_ops (n := n) fun i hi => h i (by omega)
  obtain ⟨p, hpp⟩ := h n (by omega)
  refine ⟨l ++ [p], by simp [hl], fun i q hq => ?_⟩
  by_cases hi : i < n
  ·rw [List.getElem?_append_left (by omega)] at hq
   exact hp i q hq
  ·have hlt := (List.getElem?_eq_some_iff.1 hq).1
   simp only [List.length_append, List.length_cons, List.length_nil] at hlt
   obtain rfl : i = n := by omega
   rw [List.getElem?_append_right (by omega), hl, Nat.sub_self] at hq
   obtain rfl := Option.some.inj hq
   exact hpp
theorem ops_of {H : Type} {enc : TypeId × Value → H} {W : World} {a : Option Addr} {len cap : Nat} {d : DataW H} {p : List MemPlace}
  (h : DataW.Trod enc Tryz.prog W 0 (fun _ => true) true 63 (.slice a len cap) d p) : len ≤ maxLen ∧ ∃ l, OL W a len l := by
 obtain ⟨fuel, hf⟩ := h
 rcases Go.Deep.open_slice Tryz.underlying63 hf with ⟨hcs, _⟩ | ⟨x, l, c, m, n, D, Pl, hcs, _, hl, hm, hmm, _, hi⟩
 ·simp [Value.cells] at hcs
  obtain ⟨rfl, rfl, rfl⟩ := hcs
  exact ⟨Nat.zero_le _, [], rfl, .inl rfl⟩
 ·simp [Value.cells] at hcs
  obtain ⟨rfl, rfl, rfl⟩ := hcs
  simp at hmm
  have hall : ∀ i, i < len → ∃ q : O, ∀ j u, q.cs[j]? = some u → W.cell? (x.add (i * 23 + j)) = some u := by
   intro i hil
   obtain ⟨cs', hc, ht⟩ := hi i (by omega)
   rw [cells33'] at hc
   obtain ⟨_, hcl, hat⟩ := World.cells?_some hc
   obtain ⟨q, rfl⟩ := op_cells (by simpa using hcl) ht
   refine ⟨q, fun j u hu => ?_⟩
   have hj : j < 23 := by rw [← q.cs_len]; exact (List.getElem?_eq_some_iff.1 hu).1
   have := hat j hj
   rw [Go.Deep.add_add] at this
   rw [this]
   simpa using hu
  obtain ⟨xs, hxl, hxs⟩ := choose_ops hall
  refine ⟨by omega, xs, by simp [cellsO, hxl], ?_⟩
  by_cases h0 : len = 0
  ·exact .inl h0
  ·obtain ⟨b, off, spot⟩ := x
   have hspot : spot = none := by
    have hl0 : 0 < xs.length := by omega
    have := hxs 0 _ (List.getElem?_eq_getElem hl0) 0 _ rfl
    simpa [Addr.add] using World.cell?_spot this
   subst hspot
   refine .inr ⟨b, off, rfl, fun i v hv j u hu => ?_⟩
   obtain ⟨q, hq, rfl⟩ : ∃ q, xs[i]? = some q ∧ q.cs = v := by simpa [cellsO] using hv
   have := hxs i q hq j u hu
   rw [Addr.add_mid, ← Nat.add_assoc] at this
   exact this
theorem ops_cap {H : Type} {enc : TypeId × Value → H} {W : World} {a : Option Addr} {len cap : Nat} {d : DataW H} {p : List MemPlace}
  (h : DataW.Trod enc Tryz.prog W 0 (fun _ => true) true 63 (.slice a len cap) d p) : len ≤ cap := by
 obtain ⟨fuel, hf⟩ := h
 rcases Go.Deep.open_slice Tryz.underlying63 hf with ⟨hcs, _⟩ | ⟨x, l, c, m, n, D, Pl, hcs, _, hl, hm, hmm, _, hi⟩
 ·simp [Value.cells] at hcs
  obtain ⟨rfl, rfl, rfl⟩ := hcs
  exact Nat.le_refl _
 ·simp [Value.cells] at hcs
  obtain ⟨rfl, rfl, rfl⟩ := hcs
  exact hl
end Go.Proofs.YtnekpgmgnepdoaaGreat
end
section
namespace Go.Proofs.YtnekpgmgnepdoaaGreat
open Go.RowKit
section
variable {ev : Operand → Value} {q : Oper} {w : World}
theorem exec_idxL {x y : Operand} {b off n cap i : Nat} {z : Int} (ho : q.op = .indexAddr 53 x y) (hx : ev x = .slice (some ⟨b, off, none⟩) n cap) (hy : ev y = .int .i64 z) (hz : z = (i : Int)) (hi : i < n) : (execOp ev q).run Tryz.prog w = .ok (.value (.pointer (some ⟨b, off + i * 2, none⟩))) w := by
 subst hz
 have u28 := und53
 unfold execOp
 simp only [ho, hx, hy]
 go_simp
end
abbrev vw (c : Nat) (a : Option Addr) (n cap : Nat) (o : Bool) (t : Nat) : Array Value := #[.int .u16 (c : Int), .slice a n cap, .bool o, .int .u32 (t : Int)]
def ln (x : Nat × Nat) : List Value := [.int .u16 (x.1 : Int), .int .u32 (x.2 : Int)]
section
variable {ev : Operand → Value} {q : Oper} {w : World}
theorem exec_ld86 {x : Operand} {b off i n : Nat} (ho : q.op = .load 86 x) (hx : ev x = .pointer (some ⟨b, off, none⟩)) (h : w.rangeAt b off (ln (i, n))) : (execOp ev q).run Tryz.prog w = .ok (.value (.agg #[.int .u16 (i : Int), .int .u32 (n : Int)])) w := by
 have hl := run_loadVar_mid (P := Tryz.prog) w b off 86 (ln (i, n)) _ h Tryz.underlying86 rfl (by kernel_rfl)
 refine exec_cell ho hx ?_
 simp only [Instr.loadAt, Instr.sureAddr, Sem.run_bind, Sem.run_pure, Result.andThen_ok, hl]
 rfl
theorem exec_neq86 {x y : Operand} {i n : Nat} (ho : q.op = .binOp .neq 86 x y 86) (hx : ev x = .agg #[.int .u16 (i : Int), .int .u32 (n : Int)]) (hy : ev y = .agg #[.int .u16 (i : Int), .int .u32 (n : Int)]) : (execOp ev q).run Tryz.prog w = .ok (.value (.bool false)) w := by
 unfold execOp
 simp only [ho, hx, hy]
 go_simp
end
end Go.Proofs.YtnekpgmgnepdoaaGreat
end
section
namespace Go.Proofs.YtnekpgmgnepdoaaGreat
open Go.RowKit
def lv (n : Nat) : V := V.zero.put 0 n
theorem build_lv (n : Nat) (hn : n < 4294967296) (w : World) : (Instr.build 24 #[(0, .int .u32 (n : Int))]).run Tryz.prog w = .ok (.agg (lv n).arr) w := by
 rw [lv, ← V.arr_put V.zero (by omega) hn, zero_arr]
 kernel_rfl
def opA : O := ⟨0, 1, 1, 3, 4, 2, 5, V.zero, by omega, by omega, by omega, by omega, by omega, by omega, by omega⟩
def opB (v : V) : O := ⟨0, 2, 3, 3, 4, 0, 6, v, by omega, by omega, by omega, by omega, by omega, by omega, by omega⟩
theorem build_A (w : World) : (Instr.build 33 #[(0, dotV 0 1), (1, .int .u8 1), (2, .int .u16 3), (3, .int .u16 4), (4, .int .u16 2), (5, .int .u32 5)]).run Tryz.prog w = .ok (.agg opA.arr) w := by
 refine run_build w 33 _ _ ?_
 kernel_rfl
theorem build_B (v : V) (w : World) : (Instr.build 33 #[(0, dotV 0 2), (1, .int .u8 3), (2, .int .u16 3), (3, .int .u16 4), (5, .int .u32 6), (6, .agg v.arr)]).run Tryz.prog w = .ok (.agg (opB v).arr) w := by
 refine run_build w 33 _ _ ?_
 obtain ⟨x0, x1, x2, x3, x4, x5, x6, x7, x8, x9, y0, y1, y2, y3, y4, y5, hv⟩ := sixteen v
 unfold O.arr O.cs O.hd opB V.arr V.cs
 simp only
 rw [hv]
 kernel_rfl
section
variable {ev : Operand → Value} {o : Oper} {w : World}
theorem exec_lv {x : Operand} {n : Nat} {z : V} (hz : lv n = z) (hn : n < 4294967296) (ho : o.op = .build 24 #[(0, x)]) (hx : ev x = .int .u32 (n : Int)) : (execOp ev o).run Tryz.prog w = .ok (.value (.agg z.arr)) w := by
 subst hz
 have hm : (#[((0 : Nat), x)]).map (fun (i, x) => (i, ev x)) = #[(0, .int .u32 (n : Int))] := by simp [hx]
 unfold execOp
 simp only [ho, hm, Sem.run_bind, build_lv n hn w, Result.andThen_ok]
 rfl
theorem exec_A {x0 x1 x2 x3 x4 x5 : Operand} {a : O} (ha : opA = a) (ho : o.op = .build 33 #[(0, x0), (1, x1), (2, x2), (3, x3), (4, x4), (5, x5)]) (h0 : ev x0 = dotV 0 1) (h1 : ev x1 = .int .u8 1) (h2 : ev x2 = .int .u16 3) (h3 : ev x3 = .int .u16 4) (h4 : ev x4 = .int .u16 2) (h5 : ev x5 = .int .u32 5) : (execOp ev o).run Tryz.prog w = .ok (.value (.agg a.arr)) w := by
 subst ha
 have hm : (#[((0 : Nat), x0), (1, x1), (2, x2), (3, x3), (4, x4), (5, x5)]).map (fun (i, x) => (i, ev x)) = #[(0, dotV 0 1), (1, .int .u8 1), (2, .int .u16 3), (3, .int .u16 4), (4, .int .u16 2), (5, .int .u32 5)] := by simp [h0, h1, h2, h3, h4, h5]
 unfold execOp
 simp only [ho, hm, Sem.run_bind, build_A w, Result.andThen_ok]
 rfl
theorem exec_B {x0 x1 x2 x3 x5 x6 : Operand} {v : V} {a : O} (ha : opB v = a) (ho : o.op = .build 33 #[(0, x0), (1, x1), (2, x2), (3, x3), (5, x5), (6, x6)]) (h0 : ev x0 = dotV 0 2) (h1 : ev x1 = .int .u8 3) (h2 : ev x2 = .int .u16 3) (h3 : ev x3 = .int .u16 4) (h5 : ev x5 = .int .u32 6) (h6 : ev x6 = .agg v.arr) : (execOp ev o).run Tryz.prog w = .ok (.value (.agg a.arr)) w := by
 subst ha
 have hm : (#[((0 : Nat), x0), (1, x1), (2, x2), (3, x3), (5, x5), (6, x6)]).map (fun (i, x) => (i, ev x)) = #[(0, dotV 0 2), (1, .int .u8 3), (2, .int .u16 3), (3, .int .u16 4), (5, .int .u32 6), (6, .agg v.arr)] := by simp [h0, h1, h2, h3, h5, h6]
 unfold execOp
 simp only [ho, hm, Sem.run_bind, build_B v w, Result.andThen_ok]
 rfl
theorem exec_fldTk {x : Operand} {c t : Nat} {s : Value} {b : Bool} (ho : o.op = .field 55 x 3) (hx : ev x = .agg (viewV c s b t)) : (execOp ev o).run Tryz.prog w = .ok (.value (.int .u32 (t : Int))) w := by
 have hf : (Instr.field 55 (.agg (viewV c s b t)) 3).run Tryz.prog w = .ok (.int .u32 (t : Int)) w := by unfold viewV; kernel_rfl
 unfold execOp
 simp only [ho, hx, Sem.run_bind, hf, Result.andThen_ok]
 rfl
end
def sA : Sta := applyS Sta.zero opA
def sB : Sta := applyS sA (opB (lv 1))
theorem citems_one {c : Nat} {e : En} {its : List Nat} (h : CItems c [e] its) (hc : e.c = c) (hk : e.k ≠ 4) : its = [e.i] := by
 have hcam : ∀ i, (camTo c [e] [e].length i).isSome = true ↔ e.i = i := fun i => by
  show (camStep c i none e).isSome = true ↔ _
  unfold camStep
  by_cases hi : e.i = i
  ·rw [if_pos ⟨hc, hk, hi⟩]; simp [hi]
  ·rw [if_neg (fun hh => hi hh.2.2)]; simp [hi]
 have hall : ∀ x ∈ its, x = e.i := fun x hx => ((hcam x).1 ((h.mem x).1 hx).2).symm
 have hm : e.i ∈ its := (h.mem e.i).2 ⟨e.hi, (hcam _).2 rfl⟩
 have hup := h.up
 match its, hm, hall, hup with
 | [x], _, hall, _ => rw [hall x (by simp)]
 | x :: y :: t, _, hall, hup =>
  have h1 := hall x (by simp)
  have h2 := hall y (by simp)
  have := (List.pairwise_cons.1 hup).1 y (by simp)
  omega
theorem right_zero : Sta.zero.Right := ⟨by decide, ⟨by simp [Sta.zero], by simp [Sta.zero]⟩, by simp [Sta.zero], by simp [Sta.zero], by simp [Sta.zero]⟩
theorem right_A : sA.Right := ⟨by decide, ⟨by decide, by decide⟩, by decide, by decide, by decide⟩
theorem right_B : sB.Right := ⟨by decide, ⟨by decide, by decide⟩, by decide, by decide, by decide⟩
structure Facts (z a b : Sta) (o1 o2 : O) : Prop where
 e1 : appE z o1 = 0
 s1 : appS z o1 = a
 e2 : appE a o2 = 0
 s2 : appS a o2 = b
 zn : z.es = [] ∧ z.ts = [] ∧ z.v = V.zero
 ra : a.Right
 rb : b.Right
 la : a.es.length = 1 ∧ a.ts.length = 1
 lb : b.es.length = 0 ∧ b.ts.length = 1
 vb : V.eqB b.v (lv 2) = true
 mg : ∀ er m, MgA a b er m → er = 0 ∧ m.es = []
 va : ∀ its, CItems 3 a.es its → its = [4] ∧ cqtyAt 3 a.es 4 = 2
 tb : (tkOf b.ts 3).getD 0 = 6
theorem facts : Facts Sta.zero sA sB opA (opB (lv 1)) := by
 have hA : appE Sta.zero opA = 0 := by unfold appE; rw [if_pos right_zero]; decide
 have hB : appE sA (opB (lv 1)) = 0 := by unfold appE; rw [if_pos right_A]; decide
 refine ⟨hA, by unfold appS; rw [if_pos hA]; rfl, hB, by unfold appS; rw [if_pos hB]; rfl, ⟨rfl, rfl, rfl⟩, right_A, right_B, ⟨by decide, by decide⟩, ⟨by decide, by decide⟩, by decide, ?_, ?_, by decide⟩
 ·intro er m h
  cases h with
  | ok h1 h2 hc hm =>
   refine ⟨rfl, List.eq_nil_iff_forall_not_mem.2 fun e he => ?_⟩
   have h3 : bothE sA sB = [] := by decide
   have := (hm.mem e).1 he
   rw [h3] at this
   simp at this
  | clash h1 h2 hc =>
   obtain ⟨x, hx, y, hy, _⟩ := hc
   have h3 : sB.es = [] := by decide
   rw [h3] at hy
   simp at hy
  | not h => exact absurd ⟨right_A, right_B⟩ h
 ·intro its h
  have h3 : sA.es = [En.made opA] := by decide
  rw [h3] at h ⊢
  exact ⟨citems_one h rfl (by decide), by decide⟩
end Go.Proofs.YtnekpgmgnepdoaaGreat
end
section
namespace Go.Proofs.YtnekpgmgnepdoaaGreat
open Go.RowKit
theorem exec_lenS {ev : Operand → Value} {o : Oper} {w : World} {x : Operand} {t : TypeId} {a : Option Addr} {n cap : Nat} (hu : ∃ e, Tryz.prog.underlying t = some (.slice e)) (ho : o.op = .call { callee := .builtin .len, args := #[x], argTypes := #[t] }) (hx : ev x = .slice a n cap) : (execOp ev o).run Tryz.prog w = .ok (.value (.int .i64 (n : Int))) w := by
 obtain ⟨e, hu⟩ := hu
 unfold execOp
 simp only [ho]
 simp [hx, hu, go_sem]
end Go.Proofs.YtnekpgmgnepdoaaGreat
end
section
namespace Go.Proofs.YtnekpgmgnepdoaaGreat
open Go.RowKit
theorem sorted_one : ∀ {a b : List Nat}, a.Pairwise (· < ·) → b.Pairwise (· < ·) → (∀ x, x ∈ a ↔ x ∈ b) → a = b
 | [], [], _, _, _ => rfl
 | [], y :: b, _, _, h => by have := (h y).2 (by simp); simp at this
 | x :: a, [], _, _, h => by have := (h x).1 (by simp); simp at this
 | x :: a, y :: b, ha, hb, h => by
  have ha' := List.pairwise_cons.1 ha
  have hb' := List.pairwise_cons.1 hb
  have e : x = y := by
   have h1 := (h x).1 (by simp)
   have h2 := (h y).2 (by simp)
   rcases List.mem_cons.1 h1 with e | h1
   ·exact e
   ·rcases List.mem_cons.1 h2 with e | h2
    ·exact e.symm
    ·have := ha'.1 y h2
     have := hb'.1 x h1
     omega
  subst e
  congr 1
  refine sorted_one ha'.2 hb'.2 fun z => ?_
  constructor
  ·intro hz
   rcases List.mem_cons.1 ((h z).1 (List.mem_cons_of_mem _ hz)) with e | hz2
   ·have := ha'.1 z hz; omega
   ·exact hz2
  ·intro hz
   rcases List.mem_cons.1 ((h z).2 (List.mem_cons_of_mem _ hz)) with e | hz2
   ·have := hb'.1 z hz; omega
   ·exact hz2
inductive Seen (s : Sta) (c : Nat) : List (Nat × Nat) → Bool → Nat → Prop where
 | yes (h : s.Right) (its : List Nat) (hi : CItems c s.es its) : Seen s c (its.map fun i => (i, cqtyAt c s.es i)) (coutTo c s.es s.es.length) ((tkOf s.ts c).getD 0)
 | no (h : ¬ s.Right) : Seen s c [] false 0
theorem Seen.short {s : Sta} {c : Nat} {l : List (Nat × Nat)} {o : Bool} {t : Nat} (h : Seen s c l o t) : l.length < 1000000 := by
 cases h with
 | yes h its hi =>
  have h1 : its.Nodup := List.nodup_iff_pairwise_ne.2 (hi.up.imp fun h => by omega)
  have := nodup_len (l2 := List.range 65536) h1 (fun x hx => List.mem_range.2 ((hi.mem x).1 hx).1)
  simp at this
  simp only [List.length_map]
  omega
 | no h => simp
def SeenP (s : Sta) (c : Nat) (w : World) (e : Ending) (w' : World) : Prop :=
 ∃ ls o t a cap, e = .returned (.agg (vw c a ls.length cap o t)) ∧ Seen s c ls o t ∧ GL w' 2 a ls.length (ls.map ln) ∧ Below w.heap.size w w'
theorem seenP {s : Sta} {c : Nat} {w : World} {e : Ending} {w' : World} (h : CViewP s c w e w') : SeenP s c w e w' := by
 rcases h with ⟨hr, its, a, cap, hi, rfl, ho, hb⟩ | ⟨hr, rfl, hb⟩
 ·refine ⟨its.map fun i => (i, cqtyAt c s.es i), _, _, a, cap, ?_, .yes hr its hi, ?_, hb⟩
  ·rw [List.length_map]; rfl
  ·rw [List.length_map, List.map_map]; exact ho.gl
 ·exact ⟨[], false, 0, none, 0, rfl, .no hr, GL.nil _ _ _, hb⟩
theorem view_seen {f : Nat} {args : Array Value} {s : Sta} {c : Nat} {w : World} (h : Calls Tryz.prog f args w (CViewP s c w)) : Calls Tryz.prog f args w (SeenP s c w) := h.mono fun _ _ => seenP
end Go.Proofs.YtnekpgmgnepdoaaGreat
end
section
namespace Go.Proofs.YtnekpgmgnepdoaaGreat
open Go.RowKit
theorem sumTo_put {v : V} {r q : Nat} (hr : r < 16) (hq : v.at_ r + 1 = q) (hq2 : q < 4294967296) : ∀ k, k ≤ 16 → V.sumTo (V.put v r q) k = V.sumTo v k + if r < k then 1 else 0
 | 0, _ => by simp [V.sumTo]
 | k + 1, hk => by
  have ih := sumTo_put hr hq hq2 k (by omega)
  simp only [V.sumTo]
  rw [ih, V.put_at v r q (by omega) hq2]
  by_cases e : k = r
  ·subst e; simp; omega
  ·rw [if_neg e]
   by_cases h : r < k
   ·rw [if_pos h, if_pos (by omega)]; omega
   ·rw [if_neg h, if_neg (by omega)]; omega
theorem sum_run : ∀ {l : List O} {s : Sta}, Runs s.v l → V.sum (stOf s l).v = V.sum s.v + l.length
 | [], _, _ => rfl
 | o :: l, s, h => by
  have R := rdy h.1
  have ih := sum_run (l := l) (s := applyS s o) h.2
  have e : V.sum (applyS s o).v = V.sum s.v + 1 := by
   have := sumTo_put R.r R.now o.hs 16 (Nat.le_refl _)
   rw [if_pos R.r] at this
   exact this
  show V.sum (stOf (applyS s o) l).v = _
  rw [ih, e, List.length_cons]
  omega
theorem at_le_sum (v : V) : ∀ {k i : Nat}, i < k → v.at_ i ≤ V.sumTo v k
 | 0, _, h => by omega
 | k + 1, i, h => by
  simp only [V.sumTo]
  by_cases e : i = k
  ·subst e; omega
  ·have := at_le_sum v (k := k) (i := i) (by omega); omega
theorem sum_zero : V.sum V.zero = 0 := by decide
theorem sum_st {l : List O} (h : Runs V.zero l) : V.sum (stOf Sta.zero l).v = l.length := by
 have := sum_run (s := Sta.zero) h
 rw [show V.sum Sta.zero.v = 0 from sum_zero] at this
 omega
theorem foldl_filter {α β : Type} {f : β → α → β} {p : α → Bool} : ∀ {l : List α} {a : β}, (∀ e ∈ l, p e = false → ∀ a, f a e = a) → (l.filter p).foldl f a = l.foldl f a
 | [], _, _ => rfl
 | e :: l, a, h => by
  cases hp : p e
  ·rw [List.filter_cons_of_neg (by simp [hp]), List.foldl_cons, h e (by simp) hp, foldl_filter fun x hx => h x (List.mem_cons_of_mem _ hx)]
  ·rw [List.filter_cons_of_pos hp, List.foldl_cons, List.foldl_cons, foldl_filter fun x hx => h x (List.mem_cons_of_mem _ hx)]
theorem cam_all (c : Nat) (L : List En) (i : Nat) : camTo c L L.length i = L.foldl (camStep c i) none := by unfold camTo; rw [List.take_length]
theorem cout_all (c : Nat) (L : List En) : coutTo c L L.length = L.any fun e => decide (e.c = c ∧ e.k = 4) := by unfold coutTo; rw [List.take_length]
theorem cs_at (v : V) {i : Nat} (hi : i < 16) : v.cs[i]? = some (.int .u32 (v.at_ i : Int)) := by
 have h1 : v.1[i]? = some (v.at_ i) := by
  have h2 : i < v.1.length := by rw [v.2.1]; exact hi
  rw [List.getElem?_eq_getElem h2]
  unfold V.at_
  simp [List.getD, h2]
 unfold V.cs
 rw [List.getElem?_map, h1]
 rfl
theorem stc_at {W : World} {g t i : Nat} {v : V} {x y : Value} (h : Blk W g t (stA v x y)) (hi : i < 16) : W.cell? ⟨g, i, none⟩ = some (.int .u32 (v.at_ i : Int)) := by
 rw [h.cell, List.getElem?_toArray, stC, List.getElem?_append_left (by rw [v.cs_len]; exact hi), cs_at v hi]
section
variable {ev : Operand → Value} {o : Oper} {w : World}
theorem exec_idx24c {x y : Operand} {b j : Nat} (ho : o.op = .indexAddr 24 x y) (hx : ev x = .pointer (some ⟨b, 0, none⟩)) (hy : ev y = .int .i64 (j : Int)) (hj : j < 16) : (execOp ev o).run Tryz.prog w = .ok (.value (.pointer (some ⟨b, j, none⟩))) w := by
 unfold execOp
 have h2 : (j : Int) < 16 := by omega
 have h0 : (0 : Int) ≤ (j : Int) := by omega
 have hu := und24
 have hz : (Go.sizeOf 22).run Tryz.prog w = .ok 1 w := by kernel_rfl
 simp only [ho, hx, hy]
 go_simp
end
end Go.Proofs.YtnekpgmgnepdoaaGreat
end
section
namespace Go.Proofs.YtnekpgmgnepdoaaGreat
open Go.RowKit
structure Av (w W : World) (a b : Sta) (p1 p2 : Nat) (a1 : Option Addr) (c1 : Nat) (b1 : Option Addr) (d1 : Nat) (a2 : Option Addr) (c2 : Nat) (b2 : Option Addr) (d2 : Nat) : Prop where
 k1 : Blk W p1 39 (sv a.v a1 1 c1 b1 1 d1)
 k2 : Blk W p2 39 (sv b.v a2 0 c2 b2 1 d2)
 la : SL W a a1 1 b1 1
 lb : SL W b a2 0 b2 1
 old : Below w.heap.size w W
theorem Av.below {w W W' : World} {a b : Sta} {p1 p2 : Nat} {a1 : Option Addr} {c1 : Nat} {b1 : Option Addr} {d1 : Nat} {a2 : Option Addr} {c2 : Nat} {b2 : Option Addr} {d2 : Nat} (h : Av w W a b p1 p2 a1 c1 b1 d1 a2 c2 b2 d2) (hb : Below W.heap.size W W') : Av w W' a b p1 p2 a1 c1 b1 d1 a2 c2 b2 d2 := ⟨h.k1.below hb, h.k2.below hb, h.la.below hb, h.lb.below hb, h.old.trans (hb.mono h.old.size)⟩
theorem wpList_stop55s {ops : Array Oper} {rest : List Oper} {o : Oper} {act : Act} {Q : Exit → Act → World → Prop} {W : World} {x y : Operand} (_ho : o.op = .store 55 x y) (k : Halt_ (wpList Tryz.prog ops Q (o :: rest) act W)) : wpList Tryz.prog ops Q (o :: rest) act W := k.out
set_option maxRecDepth 100000 in
set_option maxHeartbeats 8000000 in
theorem alive_any (w : World) : Calls Tryz.prog 12 #[] w (Says (.bool true) w) := by
 obtain ⟨z, hz⟩ : ∃ z, V.zero = z := ⟨_, rfl⟩
 have HF0 := Lib.hid facts
 obtain ⟨z1, h1⟩ : ∃ z, lv 1 = z := ⟨_, rfl⟩
 obtain ⟨z2, h2⟩ : ∃ z, lv 2 = z := ⟨_, rfl⟩
 rw [h1] at HF0
 obtain ⟨o1, ho1⟩ : ∃ o, opA = o := ⟨_, rfl⟩
 obtain ⟨o2, ho2⟩ : ∃ o, opB z1 = o := ⟨_, rfl⟩
 obtain ⟨s0, hs0⟩ : ∃ s, Sta.zero = s := ⟨_, rfl⟩
 obtain ⟨a, ha⟩ : ∃ s, sA = s := ⟨_, rfl⟩
 obtain ⟨b, hb⟩ : ∃ s, sB = s := ⟨_, rfl⟩
 rw [ho1, ho2, hs0, ha, hb] at HF0
 have HF : Hid (Facts s0 a b o1 o2) := HF0
 have hev : V.eqB b.v z2 = true := by rw [← h2]; exact HF.out.vb
 have HEV := Lib.hid hev
 have HZ := Lib.hid hz
 have H1 := Lib.hid h1
 have H2 := Lib.hid h2
 have HO1 := Lib.hid ho1
 have HO2 := Lib.hid ho2
 have HZV : Hid (s0.v = z) := Lib.hid (HF.out.zn.2.2.trans hz)
 clear hz h1 h2 ho1 ho2 hs0 ha hb HF0 hev
 go_enter Tryz.func12, Tryz.ntmps12
 go_wp2_with (first | (refine wpList_run rfl (exec_build39z HZ.out rfl) ?_) | (refine wpList_run rfl (exec_A HO1.out rfl rfl rfl rfl rfl rfl rfl) ?_))
 have hs0 : SL w s0 none 0 none 0 := ⟨by rw [HF.out.zn.1]; exact GL.nil _ _ _, by rw [HF.out.zn.2.1]; exact GL.nil _ _ _⟩
 rw [← stA_zero, HZ.out, ← HZV.out]
 refine (apply_any hs0 (by omega) (by omega) o1).mono ?_
 rw [HF.out.e1, HF.out.s1]
 rintro e w1 ⟨a1, n1, c1, b1, m1, d1, rfl, hE, hT, hb⟩
 obtain rfl : n1 = 1 := by rw [← HF.out.la.1]; exact (EL.len' hE.gl).symm
 obtain rfl : m1 = 1 := by rw [← HF.out.la.2]; exact (LL.len' hT.gl).symm
 have HA1 : Hid (SL w1 a a1 1 b1 1) := Lib.hid ⟨hE.gl, hT.gl⟩
 have HB1 := Lib.hid hb
 clear hs0 hE hT hb
 go_wp2_with (first | (refine wpList_run rfl (exec_alloc39z HZ.out rfl) ?_) | (refine wpList_stop39 rfl ?_))
 refine ⟨?_⟩
 refine wpList_void rfl rfl (exec_store39 rfl rfl rfl (Blk.new w1 39 _)) ?_
 have hbo := bo_laid w1 39 (sv z none 0 0 none 0 0) (sv a.v a1 1 c1 b1 1 d1)
 have HA2 := Lib.hid (HA1.out.below hbo.old)
 have HB2 := Lib.hid (HB1.out.trans (hbo.old.mono HB1.out.size))
 have HK2 := Lib.hid hbo.one
 clear hbo HA1 HB1
 generalize (w1.alloc (.cells (sv z none 0 0 none 0 0) 39)).setRow w1.heap.size (sv a.v a1 1 c1 b1 1 d1) = w2 at HA2 HB2 HK2 ⊢
 generalize w1.heap.size = p1 at HK2 ⊢
 go_wp2_with (first | (refine wpList_run rfl (exec_load39 rfl rfl HK2.out) ?_) | (refine wpList_run rfl (exec_lv H1.out (by omega) rfl rfl) ?_) | (refine wpList_run rfl (exec_B HO2.out rfl rfl rfl rfl rfl rfl rfl) ?_))
 refine (apply_any HA2.out (by omega) (by omega) o2).mono ?_
 rw [HF.out.e2, HF.out.s2]
 rintro e w3 ⟨a2, n2, c2, b2, m2, d2, rfl, hE, hT, hb⟩
 obtain rfl : n2 = 0 := by rw [← HF.out.lb.1]; exact (EL.len' hE.gl).symm
 obtain rfl : m2 = 1 := by rw [← HF.out.lb.2]; exact (LL.len' hT.gl).symm
 have HA3 := Lib.hid (HA2.out.below hb)
 have HB3 : Hid (SL w3 b a2 0 b2 1) := Lib.hid ⟨hE.gl, hT.gl⟩
 have HC3 := Lib.hid (HB2.out.trans (hb.mono HB2.out.size))
 have HK3 := Lib.hid (HK2.out.below hb)
 clear hE hT hb HA2 HB2 HK2
 go_wp2_with (first | (refine wpList_run rfl (exec_alloc39z HZ.out rfl) ?_) | (refine wpList_stop39 rfl ?_))
 refine ⟨?_⟩
 refine wpList_void rfl rfl (exec_store39 rfl rfl rfl (Blk.new w3 39 _)) ?_
 have hbo := bo_laid w3 39 (sv z none 0 0 none 0 0) (sv b.v a2 0 c2 b2 1 d2)
 have H4 : Hid (Av w ((w3.alloc (.cells (sv z none 0 0 none 0 0) 39)).setRow w3.heap.size (sv b.v a2 0 c2 b2 1 d2)) a b p1 w3.heap.size a1 c1 b1 d1 a2 c2 b2 d2) := Lib.hid ⟨HK3.out.below hbo.old, hbo.one, HA3.out.below hbo.old, HB3.out.below hbo.old, HC3.out.trans (hbo.old.mono HC3.out.size)⟩
 clear hbo HA3 HB3 HC3 HK3
 generalize (w3.alloc (.cells (sv z none 0 0 none 0 0) 39)).setRow w3.heap.size (sv b.v a2 0 c2 b2 1 d2) = w4 at H4 ⊢
 generalize w3.heap.size = p2 at H4 ⊢
 go_wp2_with (first | (refine wpList_run rfl (exec_load39 rfl rfl H4.out.k1) ?_) | (refine wpList_run rfl (exec_load39 rfl rfl H4.out.k2) ?_))
 refine (merge_any H4.out.la H4.out.lb (by omega) (by omega) (by omega) (by omega)).mono ?_
 rintro e w5 ⟨er, mm, hM, a3, n3, c3, b3, m3, d3, rfl, hE, hT, hb⟩
 obtain ⟨rfl, hmm⟩ := HF.out.mg _ _ hM
 obtain rfl : n3 = 0 := by have := EL.len' hE.gl; rw [hmm] at this; exact this.symm
 have H5 := Lib.hid (H4.out.below hb)
 clear hM hmm hE hT hb H4
 go_wp2_with (first | (refine wpList_run rfl (exec_alloc39z HZ.out rfl) ?_) | (refine wpList_stop39 rfl ?_))
 refine ⟨?_⟩
 refine wpList_void rfl rfl (exec_store39 rfl rfl rfl (Blk.new w5 39 _)) ?_
 have hbo := bo_laid w5 39 (sv z none 0 0 none 0 0) (sv mm.v a3 0 c3 b3 m3 d3)
 have H6 := Lib.hid (H5.out.below hbo.old)
 have HK6 := Lib.hid hbo.one
 clear hbo H5
 generalize (w5.alloc (.cells (sv z none 0 0 none 0 0) 39)).setRow w5.heap.size (sv mm.v a3 0 c3 b3 m3 d3) = w6 at H6 HK6 ⊢
 generalize w5.heap.size = p3 at HK6 ⊢
 have hM6 := Lib.hid (stc16 HK6.out)
 clear HK6
 go_wp2_with (refine wpList_run rfl (exec_load39 rfl rfl H6.out.k1) ?_)
 refine (view_any H6.out.la (by omega) (by omega) 3 (by omega)).mono ?_
 rintro e w7 hv
 rcases hv with ⟨_, its, av, cap, hit, rfl, hL, hb⟩ | ⟨hno, _⟩
 case inr => exact absurd HF.out.ra hno
 obtain ⟨rfl, hq⟩ := HF.out.va its hit
 obtain ⟨g, off, rfl, hc⟩ : ∃ g off, av = some ⟨g, off, none⟩ ∧ w7.cell? ⟨g, off + 1, none⟩ = some (.int .u32 2) := by
  rcases hL.gl.cells with h0 | ⟨g, o, rfl, hc⟩
  ·cases h0
  ·have h1 := hc 0 (clineCs 3 a.es 4) rfl
   rw [Nat.zero_mul, Nat.add_zero] at h1
   have e1 := h1 1 (.int .u32 (cqtyAt 3 a.es 4 : Int)) rfl
   rw [hq] at e1
   exact ⟨g, o, rfl, e1⟩
 have H7 := Lib.hid (H6.out.below hb)
 have hM7 := Lib.hid (below_at hb hM6.out)
 have HC7 := Lib.hid hc
 clear hit hq hL hb hc H6 hM6
 generalize coutTo 3 a.es a.es.length = ou
 generalize (tkOf a.ts 3).getD 0 = tk
 go_wp2_with (refine wpList_stop55s rfl ?_)
 refine ⟨?_⟩
 refine wpList_void rfl rfl (exec_store55 (c := 0) (v := .slice none 0 0) (o := false) (t := 0) (c2 := 3) (t2 := tk) rfl rfl rfl (Blk.new w7 55 _)) ?_
 have hbo := bo_laid w7 55 #[.int .u16 0, .slice none 0 0, .bool false, .int .u32 0] (viewV 3 (.slice (some ⟨g, off, none⟩) 1 cap) ou tk)
 have H8 := Lib.hid (H7.out.below hbo.old)
 have e3 := below_at hbo.old hM7.out
 have e5 := below_at hbo.old HC7.out
 have HV8 := Lib.hid hbo.one
 clear hbo H7 hM7 HC7
 generalize (w7.alloc (.cells #[.int .u16 0, .slice none 0 0, .bool false, .int .u32 0] 55)).setRow w7.heap.size (viewV 3 (.slice (some ⟨g, off, none⟩) 1 cap) ou tk) = w8 at H8 HV8 e3 e5 ⊢
 generalize w7.heap.size = pv at HV8 ⊢
 have e1 := stc16 H8.out.k1
 have e2 := stc16 H8.out.k2
 have e4 : w8.cell? ⟨pv, 1, none⟩ = some (.slice (some ⟨g, off, none⟩) 1 cap) := by rw [HV8.out.cell]; rfl
 clear HV8
 go_upto_region 5 with fail
 repeat (first | (refine wpList_runW (exec_stV (v := b.v) rfl rfl H8.out.k2) (by kernel_rfl) ?_) | (refine wpList_runW (exec_lv H2.out (by omega) rfl rfl) (by kernel_rfl) ?_) | (refine wpList_runW (exec_eql24 (a := b.v) (b := z2) rfl rfl rfl HEV.out) (by kernel_rfl) ?_) | (refine wpList_runW (exec_load39 rfl rfl H8.out.k2) (by kernel_rfl) ?_) | go_values | go_skip | go_guarded | go_step | go_upon | go_back)
 clear e1 e2 e3 e4 e5
 refine (view_any H8.out.lb (by omega) (by omega) 3 (by omega)).mono ?_
 rintro e w9 hv
 rcases hv with ⟨_, its2, av2, cap2, _, rfl, _, hb⟩ | ⟨hno, _⟩
 case inr => exact absurd HF.out.rb hno
 have H9 := Lib.hid (H8.out.below hb)
 clear hb H8
 rw [HF.out.tb]
 generalize coutTo 3 b.es b.es.length = ou2
 generalize its2.length = n9
 dsimp only
 repeat (first | (refine wpList_runW (exec_fldTk (c := 3) (s := .slice av2 n9 cap2) (b := ou2) (t := 6) rfl rfl) (by kernel_rfl) ?_) | (refine wpList_runW (exec_load39 rfl rfl H9.out.k1) (by kernel_rfl) ?_) | go_values | go_skip | go_guarded | go_step | go_upon | go_back)
 refine (right_any' H9.out.la (by omega) (by omega)).mono ?_
 rintro e w10 ⟨r, rfl, hr, hb⟩
 obtain rfl : r = true := hr.2 HF.out.ra
 have H10 := Lib.hid (H9.out.below hb)
 clear hr hb H9
 dsimp only
 repeat (first | (refine wpList_runW (exec_load39 rfl rfl H10.out.k2) (by kernel_rfl) ?_) | go_values | go_skip | go_guarded | go_step | go_upon | go_back)
 refine (carts_any H10.out.lb (by omega) (by omega)).mono ?_
 rintro e w11 ⟨l, al, cl, rfl, _, hl, hb⟩
 have hl1 : l.length = 1 := by
  rcases hl with ⟨_, rfl⟩ | ⟨hno, _⟩
  ·rw [List.length_map]; exact HF.out.lb.2
  ·exact absurd HF.out.rb hno
 have H11 := Lib.hid (H10.out.below hb)
 clear hl hb H10
 rw [hl1]
 clear hl1
 go_wp2_with fail
 go_ret
 exact ⟨rfl, H11.out.old⟩
end Go.Proofs.YtnekpgmgnepdoaaGreat
end
