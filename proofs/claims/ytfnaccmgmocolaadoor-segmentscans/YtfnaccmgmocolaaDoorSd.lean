/- What a segment tells, as a block of its own, and the walk of take. -/
import Derived.Test.YtfnaccmgmocolaaDoorSb
import Derived.Test.YtfnaccmgmocolaaDoorBs
import Derived.Deep.DeepCutAuto
namespace Go.Proofs.YtfnaccmgmocolaaDoor
open Go.RowKit

/-- The five cells of what a segment tells. -/
abbrev infoV (id : Nat) (v1 v2 : Value) (s : Bool) (u : Nat) : Array Value := #[.int .u32 (id : Int), v1, v2, .bool s, .int .i64 (u : Int)]
theorem drew_below (w : World) : Below w.heap.size w w.drew := (Below.refl _ _).drew
def cellsN (es : List Nat) : List (List Value) := es.map fun n => [Value.int .i64 ((n : Nat) : Int)]
theorem cellsN_snoc (es : List Nat) (e : Nat) : cellsN (es ++ [e]) = cellsN es ++ [[Value.int .i64 (e : Int)]] := by simp [cellsN]
theorem cellsO_snoc (l : List O) (o : O) : cellsO (l ++ [o]) = cellsO l ++ [o.cs] := by simp [cellsO]

structure Inf (W : World) (g id n1 n2 : Nat) (ops : List O) (ats : List Nat) (s : Bool) (u : Nat) (a1 : Option Addr) (c1 : Nat) (a2 : Option Addr) (c2 : Nat) : Prop where
  blk : Blk W g 44 (infoV id (.slice a1 n1 c1) (.slice a2 n2 c2) s u)
  ops : OwnG W 29 23 (g + 1) a1 n1 c1 (cellsO ops)
  ats : OwnG W 3 1 (g + 1) a2 n2 c2 (cellsN ats)

section
variable {W W' w9 : World} {g id n1 n2 : Nat} {ops : List O} {ats : List Nat} {s : Bool} {u : Nat} {a1 a2 : Option Addr} {c1 c2 : Nat}
theorem Inf.below (h : Inf W g id n1 n2 ops ats s u a1 c1 a2 c2) (hb : Below W.heap.size W W') : Inf W' g id n1 n2 ops ats s u a1 c1 a2 c2 := ⟨h.blk.below hb, h.ops.below hb, h.ats.below hb⟩
theorem Inf.len (h : Inf W g id n1 n2 ops ats s u a1 c1 a2 c2) : ops.length = n1 ∧ ats.length = n2 := by
  have h1 := h.ops.len
  have h2 := h.ats.len
  simp only [cellsO, cellsN, List.length_map] at h1 h2
  exact ⟨h1, h2⟩
theorem Inf.apart (h : Inf W g id n1 n2 ops ats s u a1 c1 a2 c2) : ∀ i, At a1 i → ¬ At a2 i := kinds_apart h.ops.row h.ats.row (by decide)
theorem Inf.at1 (h : Inf W g id n1 n2 ops ats s u a1 c1 a2 c2) : ∀ i, At a1 i → g + 1 ≤ i ∧ i < W.heap.size := fun i ⟨ad, e1, e2⟩ => by rw [e2]; exact h.ops.lt ad e1
theorem Inf.at2 (h : Inf W g id n1 n2 ops ats s u a1 c1 a2 c2) : ∀ i, At a2 i → g + 1 ≤ i ∧ i < W.heap.size := fun i ⟨ad, e1, e2⟩ => by rw [e2]; exact h.ats.lt ad e1
theorem Inf.drew (h : Inf W g id n1 n2 ops ats s u a1 c1 a2 c2) : Inf W.drew g id n1 n2 ops ats s u a1 c1 a2 c2 := h.below (drew_below W)
/-- One operation more. -/
theorem Inf.push1 (h : Inf W g id n1 n2 ops ats s u a1 c1 a2 c2) {x : O} {a' : Option Addr} {c' : Nat} (ho : OwnG w9 29 23 (g + 1) a' (n1 + 1) c' (cellsO ops ++ [x.arr.toList])) (hk : Kept (At a1) W w9) :
    Inf (w9.setCell ⟨g, 1, none⟩ (.slice a' (n1 + 1) c')) g id (n1 + 1) n2 (ops ++ [x]) ats s u a' c' a2 c2 := by
  have hks : Kept (fun i => i = g) w9 (w9.setCell ⟨g, 1, none⟩ (.slice a' (n1 + 1) c')) := Kept.setCell w9 ⟨g, 1, none⟩ _
  refine ⟨?_, ?_, ?_⟩
  · have := (h.blk.kept hk (fun e => by have := h.at1 g e; omega)).set 1 (.slice a' (n1 + 1) c')
    simpa using this
  · rw [cellsO_snoc]
    have e : x.arr.toList = x.cs := by simp
    rw [e] at ho
    exact ho.keep hks (fun ad ha e => by have := (ho.lt ad ha).1; omega)
  · exact (h.ats.keep hk (fun ad ha e => h.apart _ e ⟨ad, ha, rfl⟩)).keep hks (fun ad ha e => by have := (h.ats.lt ad ha).1; omega)
/-- One place more. -/
theorem Inf.push2 (h : Inf W g id n1 n2 ops ats s u a1 c1 a2 c2) {x : Nat} {a' : Option Addr} {c' : Nat} (ho : OwnG w9 3 1 (g + 1) a' (n2 + 1) c' (cellsN ats ++ [[Value.int .i64 (x : Int)]])) (hk : Kept (At a2) W w9) :
    Inf (w9.setCell ⟨g, 2, none⟩ (.slice a' (n2 + 1) c')) g id n1 (n2 + 1) ops (ats ++ [x]) s u a1 c1 a' c' := by
  have hks : Kept (fun i => i = g) w9 (w9.setCell ⟨g, 2, none⟩ (.slice a' (n2 + 1) c')) := Kept.setCell w9 ⟨g, 2, none⟩ _
  refine ⟨?_, ?_, ?_⟩
  · have := (h.blk.kept hk (fun e => by have := h.at2 g e; omega)).set 2 (.slice a' (n2 + 1) c')
    simpa using this
  · exact (h.ops.keep hk (fun ad ha e => h.apart _ ⟨ad, ha, rfl⟩ e)).keep hks (fun ad ha e => by have := (h.ops.lt ad ha).1; omega)
  · rw [cellsN_snoc]
    exact ho.keep hks (fun ad ha e => by have := (ho.lt ad ha).1; omega)
theorem Inf.seal3 (h : Inf W g id n1 n2 ops ats s u a1 c1 a2 c2) (b : Bool) : Inf (W.setCell ⟨g, 3, none⟩ (.bool b)) g id n1 n2 ops ats b u a1 c1 a2 c2 := by
  have hks : Kept (fun i => i = g) W (W.setCell ⟨g, 3, none⟩ (.bool b)) := Kept.setCell W ⟨g, 3, none⟩ _
  refine ⟨?_, h.ops.keep hks (fun ad ha e => by have := (h.ops.lt ad ha).1; omega), h.ats.keep hks (fun ad ha e => by have := (h.ats.lt ad ha).1; omega)⟩
  have := h.blk.set 3 (.bool b)
  simpa using this
theorem Inf.use4 (h : Inf W g id n1 n2 ops ats s u a1 c1 a2 c2) (k : Nat) : Inf (W.setCell ⟨g, 4, none⟩ (.int .i64 (k : Int))) g id n1 n2 ops ats s k a1 c1 a2 c2 := by
  have hks : Kept (fun i => i = g) W (W.setCell ⟨g, 4, none⟩ (.int .i64 (k : Int))) := Kept.setCell W ⟨g, 4, none⟩ _
  refine ⟨?_, h.ops.keep hks (fun ad ha e => by have := (h.ops.lt ad ha).1; omega), h.ats.keep hks (fun ad ha e => by have := (h.ats.lt ad ha).1; omega)⟩
  have := h.blk.set 4 (.int .i64 (k : Int))
  simpa using this
theorem Inf.cells (h : Inf W g id n1 n2 ops ats s u a1 c1 a2 c2) : W.cell? ⟨g, 0, none⟩ = some (.int .u32 (id : Int)) ∧ W.cell? ⟨g, 1, none⟩ = some (.slice a1 n1 c1) ∧ W.cell? ⟨g, 2, none⟩ = some (.slice a2 n2 c2) ∧ W.cell? ⟨g, 3, none⟩ = some (.bool s) ∧ W.cell? ⟨g, 4, none⟩ = some (.int .i64 (u : Int)) := by
  refine ⟨?_, ?_, ?_, ?_, ?_⟩ <;> (rw [h.blk.cell]; rfl)
end

/-! Words for the drawn regions. -/
theorem und42n : Tryd.prog.underlying 42 = some (.slice 3) := Tryd.underlying42
section
variable {ev : Operand → Value} {q : Oper} {w : World}
theorem exec_stS (t : TypeId) (hst : ∀ (w : World) (p : Addr) (a : Option Addr) (n cap : Nat) (old : Value), w.cell? p = some old → w.frozen? p = false → (Instr.storeAt t (.pointer (some p)) (.slice a n cap)).run Tryd.prog w = .ok () (w.setCell p (.slice a n cap)))
    {x y : Operand} {g o : Nat} {a : Option Addr} {n cap : Nat} {t2 : TypeId} {cs : Array Value} (ho : q.op = .store t x y) (hx : ev x = .pointer (some ⟨g, o, none⟩)) (hy : ev y = .slice a n cap) (h : Blk w g t2 cs) (hlt : o < cs.size) : (execOp ev q).run Tryd.prog w = .ok .skip (w.setCell ⟨g, o, none⟩ (.slice a n cap)) := by
  have hc : w.cell? ⟨g, o, none⟩ = some cs[o] := by rw [h.cell]; exact Array.getElem?_eq_getElem hlt
  unfold execOp
  simp only [ho, hx, hy, Sem.run_bind, hst w _ a n cap _ hc (h.frozen o), Result.andThen_ok]
  rfl
theorem st41 (w : World) (p : Addr) (a : Option Addr) (n cap : Nat) (old : Value) (hc : w.cell? p = some old) (hf : w.frozen? p = false) : (Instr.storeAt 41 (.pointer (some p)) (.slice a n cap)).run Tryd.prog w = .ok () (w.setCell p (.slice a n cap)) := by
  have u := Tryd.underlying41
  go_simp
theorem st42 (w : World) (p : Addr) (a : Option Addr) (n cap : Nat) (old : Value) (hc : w.cell? p = some old) (hf : w.frozen? p = false) : (Instr.storeAt 42 (.pointer (some p)) (.slice a n cap)).run Tryd.prog w = .ok () (w.setCell p (.slice a n cap)) := by
  have u := Tryd.underlying42
  go_simp
theorem exec_bsN {x : Operand} {n : Nat} (ho : q.op = .buildSlice 42 1 #[(0, x)]) (hx : ev x = .int .i64 (n : Int)) : (execOp ev q).run Tryd.prog w = .ok (.value (.slice (some ⟨w.heap.size, 0, none⟩) 1 1)) (w.alloc (.cells #[.int .i64 (n : Int)] 3)) := by
  have hm : (#[((0 : Nat), x)]).map (fun (i, x) => (i, ev x)) = #[(0, Value.int .i64 (n : Int))] := by simp [hx]
  obtain ⟨i0, hi, hz0, hz1, hz2⟩ := info_parts info3
  have hb : (Instr.buildSlice 42 1 #[(0, Value.int .i64 (n : Int))]).run Tryd.prog w = .ok (.slice (some ⟨w.heap.size, 0, none⟩) 1 1) (w.alloc (.cells #[.int .i64 (n : Int)] 3)) := by
    refine run_buildSlice w 42 3 1 _ _ i0 _ und42n hi hz0 (by rw [hz1]; omega) (by rw [hz1]; omega) ?_
    rw [hz1]
    kernel_rfl
  unfold execOp
  simp only [ho, hm, Sem.run_bind, hb, Result.andThen_ok]
  rfl
end
/-- One element appended in a region that draws its order. -/
theorem held_appendG {ops : Array Oper} {Q : Exit → Act → World → Prop} {S : World → Prop} {fuel : Nat} {listed : Array Bool} {act : Act} {W : World} (i : Nat) (d : Tmp) {o : Oper} (t e size bytes : Nat) {z : Value} (hinfo : (Tryd.prog.info? e).map (fun i => (i.zero, i.size, i.bytes)) = some (some z, size, bytes)) (ht : Tryd.prog.underlying t = some (.slice e)) (hzs : z.cells.size = size) (hsz : 0 < size) (hby : bytes ≤ 1000)
    {x y : Operand} {B n cap g : Nat} {a : Option Addr} {vs : List (List Value)} {cs : Array Value} (hd : o.dst = some d) (hi0 : ops[i]? = some o) (hr : Region.ready .any ops listed = [i]) (hw : Region.wanted o (yielded ops act.tmps) = true) (ho : o.op = .call { callee := .builtin .append, args := #[x, y], argTypes := #[t, t] })
    (hx : act.eval x = .slice a n cap) (hy : act.eval y = .slice (some ⟨g, 0, none⟩) 1 1) (hown : OwnG W e size B a n cap vs) (hg : Blk W g e cs) (hc : cs.size = size) (h1 : ∀ u ∈ cs.toList, u.oneCell' = true) (hn : n < 1000000000) (hB : B ≤ W.heap.size)
    (k : ∀ a' cap' w', OwnG w' e size B a' (n + 1) cap' (vs ++ [cs.toList]) → Kept (At a) W w' → Lies W a a' → S w' ∧ wpAnyH Tryd.prog .any ops Q S fuel (listed.setIfInBounds i true) (act.put (some d) (.slice a' (n + 1) cap')) w') : wpAnyH Tryd.prog .any ops Q S (fuel + 1) listed act W := by
  obtain ⟨i0, hi, hz0, hz1, hz2⟩ := info_parts hinfo
  have hnb : (n + 1) * bytes ≤ 140737488355328 := by
    have : (n + 1) * bytes ≤ 1000000000 * 1000 := Nat.mul_le_mul (by omega) hby
    omega
  refine wpAnyH_ready (rs := [i]) hr (by simp) (AllReadyH.cons hi0 (fun K hK => ?_) AllReadyH.nil)
  rw [if_pos hw]
  refine wp_append_lies W x y t ho B e i0 _ size bytes ht hi hz0 hz1 hz2 hzs hsz (.slice a n cap) n vs.flatten hx hown.row ⟨g, 0, none⟩ 1 1 cs.toList hy (by simp [hc])
    (World.news_of_block (cs := cs) (t := e) (fr := (0, 0)) hg) h1 (by omega) (by unfold maxLen; omega) hnb hB _ rfl ?_
  intro g' cap' w' h1' h2 h3 h4
  have hh := k _ cap' w' ⟨by simpa using h1', ?_, by simp [hown.len]⟩ ⟨h2.os, h2.tape, h2.output, h2.size, fun k hk hn => h2.block k hk (fun e => hn ?_)⟩ ?_
  · exact hK.out _ _ hh.1 (fun _ => by rw [hd]; exact hh.2)
  · intro v hv
    rcases List.mem_append.1 hv with hv | hv
    · exact hown.each v hv
    · obtain rfl : v = cs.toList := by simpa using hv
      simp [hc]
  · cases a with
    | none => simp [Value.ownBlock] at e
    | some ad => exact ⟨ad, rfl, by simpa [Value.ownBlock] using e⟩
  · rintro ad rfl2
    obtain rfl := Option.some.inj rfl2
    rcases h3 with h3 | h3
    · cases a with
      | none => simp [Value.ownBlock] at h3
      | some ad => exact .inl ⟨ad, rfl, by simpa [Value.ownBlock] using h3.symm⟩
    · exact .inr (by simp [h3])

/-- What take leaves. -/
def TakeP (g id : Nat) (s : Seg.St) (fs : List Nat) (w : World) (e : Ending) (w' : World) : Prop :=
  ∃ (t : Seg.St) (r : Bool) (a1 : Option Addr) (c1 : Nat) (a2 : Option Addr) (c2 : Nat), e = .returned (.bool r) ∧ ((r = true ∧ Seg.take s fs = some ⟨t.ops, t.ats, s.used + (Frm.fr fs).length, t.shut⟩) ∨ (r = false ∧ Seg.take s fs = none ∧ t = s)) ∧
    Inf w' g id t.ops.length t.ats.length t.ops t.ats t.shut s.used a1 c1 a2 c2 ∧ Below g w w'

theorem numP_some {k most n : Nat} {fs : List Nat} {w w' : World} {e : Ending} (h : Seg.num k most fs = some n) (hq : NumP k most fs w e w') : e = .returned (.tuple #[.int .u64 (n : Int), .bool true]) ∧ Below w.heap.size w w' := by
  unfold NumP at hq
  rw [h] at hq
  exact hq
theorem numP_none {k most : Nat} {fs : List Nat} {w w' : World} {e : Ending} (h : Seg.num k most fs = none) (hq : NumP k most fs w e w') : e = .returned (.tuple #[.int .u64 0, .bool false]) ∧ Below w.heap.size w w' := by
  unfold NumP at hq
  rw [h] at hq
  exact hq
theorem takeP_rec {g id n1 : Nat} {ops : List O} {ats : List Nat} {used : Nat} {fs : List Nat} {u : O} {a1 a2 : Option Addr} {c1 c2 : Nat} {w w' : World} (hn : ops.length = n1 ∧ ats.length = n1) (hop : Seg.opr fs = some u)
    (hI : Inf w' g id (n1 + 1) (n1 + 1) (ops ++ [u]) (ats ++ [used]) false used a1 c1 a2 c2) (hb : Below g w w') : TakeP g id ⟨ops, ats, used, false⟩ fs w (.returned (.bool true)) w' := by
  refine ⟨⟨ops ++ [u], ats ++ [used], used, false⟩, true, a1, c1, a2, c2, rfl, .inl ⟨rfl, ?_⟩, ?_, hb⟩
  · unfold Seg.take
    rw [hop]
  · have e1 : (ops ++ [u]).length = n1 + 1 := by simp [hn.1]
    have e2 : (ats ++ [used]).length = n1 + 1 := by simp [hn.2]
    rw [e1, e2]
    exact hI
theorem takeP_foot {g id n1 : Nat} {ops : List O} {ats : List Nat} {used : Nat} {fs : List Nat} {a1 a2 : Option Addr} {c1 c2 : Nat} {w w' : World} (hn : ops.length = n1 ∧ ats.length = n1) (hop : Seg.opr fs = none) (hm : Seg.num 3 4096 fs = some n1)
    (hI : Inf w' g id n1 n1 ops ats true used a1 c1 a2 c2) (hb : Below g w w') : TakeP g id ⟨ops, ats, used, false⟩ fs w (.returned (.bool true)) w' := by
  refine ⟨⟨ops, ats, used, true⟩, true, a1, c1, a2, c2, rfl, .inl ⟨rfl, ?_⟩, by rw [hn.1, hn.2]; exact hI, hb⟩
  unfold Seg.take
  rw [hop, hm]
  simp [hn.1]
theorem takeP_no {g id n1 : Nat} {ops : List O} {ats : List Nat} {used : Nat} {fs : List Nat} {a1 a2 : Option Addr} {c1 c2 : Nat} {w w' : World} (hn : ops.length = n1 ∧ ats.length = n1) (hop : Seg.opr fs = none) (hm : ∀ n, Seg.num 3 4096 fs = some n → n ≠ n1)
    (hI : Inf w' g id n1 n1 ops ats false used a1 c1 a2 c2) (hb : Below g w w') : TakeP g id ⟨ops, ats, used, false⟩ fs w (.returned (.bool false)) w' := by
  refine ⟨⟨ops, ats, used, false⟩, false, a1, c1, a2, c2, rfl, .inr ⟨rfl, ?_, rfl⟩, by rw [hn.1, hn.2]; exact hI, hb⟩
  unfold Seg.take
  rw [hop]
  cases h : Seg.num 3 4096 fs with
  | none => rfl
  | some n =>
    have := hm n h
    simp [hn.1, this]
theorem exec_ldI {ev : Operand → Value} {q : Oper} {w : World} {x : Operand} {p : Addr} {v : Value} (ho : q.op = .load 3 x) (hx : ev x = .pointer (some p)) (h : w.cell? p = some v) : (execOp ev q).run Tryd.prog w = .ok (.value v) w := exec_cell ho hx (load_cell (by kernel_rfl) h)

set_option maxHeartbeats 4000000 in
set_option maxRecDepth 100000 in
theorem stake_any (g id n1 : Nat) (ops : List O) (ats : List Nat) (used : Nat) (a1 : Option Addr) (c1 : Nat) (a2 : Option Addr) (c2 : Nat) (fa : Option Addr) (flen fcap : Nat) (fs : List Nat) (w : World) (hI : Inf w g id n1 n1 ops ats false used a1 c1 a2 c2) (hR : Row w fa flen fs) (hz : fa = none → flen = 0 ∧ fcap = 0) (hl : flen ≤ 100000) (hn : n1 < 1000000) :
    Calls Tryd.prog 34 #[.pointer (some ⟨g, 0, none⟩), .slice fa flen fcap] w (TakeP g id ⟨ops, ats, used, false⟩ fs w) := by
  obtain ⟨z, hz0⟩ : ∃ z, O.zero = z := ⟨_, rfl⟩
  have HZ := Lib.hid hz0
  have HREC := Lib.hid (recOf_any fa flen fcap fs w (by omega) hR hz)
  have HIN0 := Lib.hid hI
  have HRR := Lib.hid hR
  have HZZ := Lib.hid hz
  have HLN := Lib.hid hI.len
  clear hI hR hz hz0
  go_enter Tryd.func34, Tryd.ntmps34
  go_wp2_with fail
  refine HREC.out.mono ?_
  rintro e w1 ⟨u, ok, rfl, hop, hb1⟩
  have HOP := Lib.hid hop
  have HB1 := Lib.hid hb1
  clear hop hb1
  go_wp2_with (first | (refine wpList_run rfl (exec_alloc29z HZ.out rfl) ?_) | (refine wpList_stop29 rfl ?_))
  refine ⟨?_⟩
  refine wpList_void rfl rfl (exec_store29 (p := z) (u := u) rfl rfl rfl (Blk.new w1 29 z.arr)) ?_
  have hlo := olaid_old w1 z u
  have HU := Lib.hid (olaid_blk w1 z u)
  have HI := Lib.hid ((HIN0.out.below HB1.out).below hlo)
  have HB : Hid (Below g w ((w1.alloc (.cells z.arr 29)).setRow w1.heap.size u.arr)) := Lib.hid ((HB1.out.mono (Nat.le_of_lt HIN0.out.blk.lt)).trans (hlo.mono (Nat.le_trans (Nat.le_of_lt HIN0.out.blk.lt) HB1.out.size)))
  have HGE : Hid (∀ i, At a1 i → i < w1.heap.size) := Lib.hid (fun i e => ((HIN0.out.below HB1.out).at1 i e).2)
  have HGG : Hid (g < w1.heap.size) := Lib.hid ((HIN0.out.below HB1.out).blk.lt)
  have HRW := Lib.hid ((HRR.out.below HB1.out).below hlo)
  clear hlo
  generalize (w1.alloc (.cells z.arr 29)).setRow w1.heap.size u.arr = W at HU HI HB HRW
  generalize w1.heap.size = g5 at HU HGE HGG
  cases ok
  · have HOPN : Hid (Seg.opr fs = none) := Lib.hid HOP.out
    have HNM := Lib.hid (numOf_any fa flen fcap 3 4096 fs W (by omega) HRW.out HZZ.out (by omega) (by omega) (by omega))
    clear HOP HU HGE HGG HREC HIN0
    rcases Seg.num_two (k := 3) (most := 4096) fs with ⟨n, hn4, _, hsome⟩ | ⟨_, hnone⟩
    · have HS := Lib.hid hsome
      clear hsome
      go_wp2_with fail
      refine HNM.out.mono ?_
      intro e w2 hq
      obtain ⟨rfl, hb2⟩ := numP_some HS.out hq
      have HI2 := Lib.hid (HI.out.below hb2)
      have HB2 : Hid (Below g w w2) := Lib.hid (HB.out.trans (hb2.mono (Nat.le_of_lt HI.out.blk.lt)))
      have k1 := HI2.out.cells.2.1
      have k3 := HI2.out.cells.2.2.2.1
      have f3 : w2.frozen? ⟨g, 3, none⟩ = false := HI2.out.blk.frozen 3
      have HST := Lib.hid (fun b => HI2.out.seal3 b)
      have HBT : Hid (∀ b, Below g w (w2.setCell ⟨g, 3, none⟩ (.bool b))) := Lib.hid (fun b => HB2.out.trans ((Kept.setCell w2 ⟨g, 3, none⟩ (.bool b)).below (Nat.le_of_lt HI2.out.blk.lt) (fun i e => by rw [e]; exact Nat.le_refl _)))
      have hcv : IntKind.u64.wrap (n1 : Int) = (n1 : Int) := by rw [IntKind.wrap_u64]; omega
      clear hq hb2 HNM HI HB
      by_cases hnn : n = n1
      · subst hnn
        go_wp2_with fail
        go_ret
        exact takeP_foot HLN.out HOPN.out HS.out (HST.out true) (HBT.out true)
      · have hne : ((n : Int) == (n1 : Int)) = false := by simp; omega
        go_wp2_with fail
        go_ret
        exact takeP_no HLN.out HOPN.out (fun m hm => by have := Option.some.inj (hm.symm.trans HS.out); omega) (HST.out false) (HBT.out false)
    · have HS := Lib.hid hnone
      clear hnone
      go_wp2_with fail
      refine HNM.out.mono ?_
      intro e w2 hq
      obtain ⟨rfl, hb2⟩ := numP_none HS.out hq
      have HI2 := Lib.hid (HI.out.below hb2)
      have HB2 : Hid (Below g w w2) := Lib.hid (HB.out.trans (hb2.mono (Nat.le_of_lt HI.out.blk.lt)))
      have k3 := HI2.out.cells.2.2.2.1
      have f3 : w2.frozen? ⟨g, 3, none⟩ = false := HI2.out.blk.frozen 3
      have HST := Lib.hid (fun b => HI2.out.seal3 b)
      have HBT : Hid (∀ b, Below g w (w2.setCell ⟨g, 3, none⟩ (.bool b))) := Lib.hid (fun b => HB2.out.trans ((Kept.setCell w2 ⟨g, 3, none⟩ (.bool b)).below (Nat.le_of_lt HI2.out.blk.lt) (fun i e => by rw [e]; exact Nat.le_refl _)))
      clear hq hb2 HNM HI HB
      go_wp2_with fail
      go_ret
      exact takeP_no HLN.out HOPN.out (fun m hm => by rw [HS.out] at hm; cases hm) (HST.out false) (HBT.out false)
  · go_upto_region 11 with fail
    refine wp_region_held_drew (S := fun w' => Blk w' g5 29 u.arr) (by kernel_rfl) (HU.out.below (drew_below _)) (fun hS => ?_)
    refine held_take 0 15 (.pointer (some ⟨g, 0, none⟩)) rfl rfl (by kernel_rfl) (by kernel_rfl) (by kernel_rfl) (fun _ _ _ h => h) (by kernel_rfl) (fun _ _ => rfl) hS ?_
    simp only [Act.put, List.setIfInBounds_toArray, List.set_cons_zero, List.set_cons_succ]
    refine held_take 1 16 (.pointer (some ⟨g, 0, none⟩)) rfl rfl (by kernel_rfl) (by kernel_rfl) (by kernel_rfl) (fun _ _ _ h => h) (by kernel_rfl) (fun _ _ => rfl) hS ?_
    simp only [Act.put, List.setIfInBounds_toArray, List.set_cons_zero, List.set_cons_succ]
    refine held_take 2 17 (.pointer (some ⟨g, 0, none⟩)) rfl rfl (by kernel_rfl) (by kernel_rfl) (by kernel_rfl) (fun _ _ _ h => h) (by kernel_rfl) (fun _ _ => (by kernel_rfl)) hS ?_
    simp only [Act.put, List.setIfInBounds_toArray, List.set_cons_zero, List.set_cons_succ]
    refine held_take 3 18 (.pointer (some ⟨g, 1, none⟩)) rfl rfl (by kernel_rfl) (by kernel_rfl) (by kernel_rfl) (fun _ _ _ h => h) (by kernel_rfl) (fun _ _ => (by kernel_rfl)) hS ?_
    simp only [Act.put, List.setIfInBounds_toArray, List.set_cons_zero, List.set_cons_succ]
    refine held_take 5 20 (.agg u.arr) rfl rfl (by kernel_rfl) (by kernel_rfl) (by kernel_rfl) (fun _ _ _ h => h) (by kernel_rfl) (fun _ h => exec_load29 (p := u) rfl rfl h) hS ?_
    simp only [Act.put, List.setIfInBounds_toArray, List.set_cons_zero, List.set_cons_succ]
    have HID := Lib.hid HI.out.drew
    refine wpAnyH_ready (rs := [4, 6]) (by kernel_rfl) (by simp) (br_exec 4 19 (.slice a1 n1 c1) rfl rfl (by kernel_rfl) (exec_cell rfl rfl (load_cell (by kernel_rfl) HID.out.cells.2.1)) hS ?_ (br_exec 6 21 (.slice (some ⟨W.drew.heap.size, 0, none⟩) 1 1) rfl rfl (by kernel_rfl) (exec_bsO (p := u) rfl rfl) (hS.below (below_one _ _)) ?_ AllReadyH.nil))
    · simp only [Act.put, List.setIfInBounds_toArray, List.set_cons_zero, List.set_cons_succ]
      refine held_exec 6 21 (.slice (some ⟨W.drew.heap.size, 0, none⟩) 1 1) rfl rfl (by kernel_rfl) (by kernel_rfl) (exec_bsO (p := u) rfl rfl) (hS.below (below_one _ _)) ?_
      simp only [Act.put, List.setIfInBounds_toArray, List.set_cons_zero, List.set_cons_succ]
      have HIX := Lib.hid (HID.out.below (below_one W.drew (.cells u.arr 29)))
      have HUX := Lib.hid (HU.out.below ((drew_below W).trans ((below_one W.drew (.cells u.arr 29)).mono (Nat.le_refl _))))
      have HGB := Lib.hid (Blk.new W.drew 29 u.arr)
      have HBX : Hid (Below W.heap.size W (W.drew.alloc (.cells u.arr 29))) := Lib.hid ((drew_below W).trans ((below_one W.drew (.cells u.arr 29)).mono (Nat.le_refl _)))
      generalize W.drew.alloc (.cells u.arr 29) = wx at HIX HUX HGB HBX
      generalize W.drew.heap.size = g8 at HGB
      refine held_appendG 7 22 41 29 23 84 info29b und41 (by rw [show (Value.agg O.zero.arr).cells = O.zero.arr from rfl]; exact O.zero.arr_size) (by decide) (by decide) rfl rfl (by kernel_rfl) (by kernel_rfl) rfl rfl rfl HIX.out.ops HGB.out u.arr_size (by simpa using u.arr_one) (by omega) (Nat.le_of_lt_succ (Nat.lt_succ_of_le HIX.out.blk.lt)) (fun a9 c9 w9 ho9 hk9 hl9 => ?_)
      have hu9 : Blk w9 g5 29 u.arr := HUX.out.kept hk9 (fun e => by have := HGE.out _ e; omega)
      have hv9 := HIX.out.blk.kept hk9 (fun e => by have := HIX.out.at1 _ e; omega)
      have HIN := Lib.hid (HIX.out.push1 (x := u) ho9 hk9)
      have hks : Kept (fun i => i = g) w9 (w9.setCell ⟨g, 1, none⟩ (.slice a9 (n1 + 1) c9)) := Kept.setCell w9 ⟨g, 1, none⟩ _
      have HBN : Hid (Below g w (w9.setCell ⟨g, 1, none⟩ (.slice a9 (n1 + 1) c9))) := Lib.hid (by
        have h1 := HBX.out.mono (Nat.le_of_lt HI.out.blk.lt)
        have h2 := hk9.below (B := g) (Nat.le_of_lt HIX.out.blk.lt) (fun i e => by have := HIX.out.at1 i e; omega)
        have h3 := hks.below (B := g) (Nat.le_of_lt hv9.lt) (fun i e => by omega)
        exact HB.out.trans (h1.trans (h2.trans h3)))
      have hu10 : Blk (w9.setCell ⟨g, 1, none⟩ (.slice a9 (n1 + 1) c9)) g5 29 u.arr := hu9.kept hks (fun e => by have := HGG.out; omega)
      refine ⟨hu9, ?_⟩
      simp only [Act.put, List.setIfInBounds_toArray, List.set_cons_zero, List.set_cons_succ]
      refine held_exec 8 23 (.pointer (some ⟨g, 0, none⟩)) rfl rfl (by kernel_rfl) (by kernel_rfl) (by kernel_rfl) hu9 ?_
      simp only [Act.put, List.setIfInBounds_toArray, List.set_cons_zero, List.set_cons_succ]
      refine held_exec 9 24 (.pointer (some ⟨g, 1, none⟩)) rfl rfl (by kernel_rfl) (by kernel_rfl) (by kernel_rfl) hu9 ?_
      simp only [Act.put, List.setIfInBounds_toArray, List.set_cons_zero, List.set_cons_succ]
      refine held_void 10 rfl rfl (by kernel_rfl) (by kernel_rfl) (exec_stS 41 st41 rfl rfl rfl hv9 (by show 1 < 5; omega)) hu10 ?_
      clear hu9 hv9 hks hu10 ho9 hk9 hl9
      refine wpAnyH_done (by kernel_rfl) ?_ _
      generalize w9.setCell ⟨g, 1, none⟩ (.slice a9 (n1 + 1) c9) = W4 at HIN HBN
      clear HID HIX HUX HGB HBX
      go_upto_region 14 with fail
      have HC4 : Hid (W4.drew.cell? ⟨g, 4, none⟩ = some (.int .i64 (used : Int))) := Lib.hid HIN.out.drew.cells.2.2.2.2
      refine wp_region_held_drew (S := fun w' => w'.cell? ⟨g, 4, none⟩ = some (.int .i64 (used : Int))) (by kernel_rfl) HC4.out (fun hS => ?_)
      refine held_take 0 25 (.pointer (some ⟨g, 0, none⟩)) rfl rfl (by kernel_rfl) (by kernel_rfl) (by kernel_rfl) (fun _ _ _ h => h) (by kernel_rfl) (fun _ _ => rfl) hS ?_
      simp only [Act.put, List.setIfInBounds_toArray, List.set_cons_zero, List.set_cons_succ]
      refine held_take 1 26 (.pointer (some ⟨g, 0, none⟩)) rfl rfl (by kernel_rfl) (by kernel_rfl) (by kernel_rfl) (fun _ _ _ h => h) (by kernel_rfl) (fun _ _ => rfl) hS ?_
      simp only [Act.put, List.setIfInBounds_toArray, List.set_cons_zero, List.set_cons_succ]
      refine held_take 2 27 (.pointer (some ⟨g, 0, none⟩)) rfl rfl (by kernel_rfl) (by kernel_rfl) (by kernel_rfl) (fun _ _ _ h => h) (by kernel_rfl) (fun _ _ => (by kernel_rfl)) hS ?_
      simp only [Act.put, List.setIfInBounds_toArray, List.set_cons_zero, List.set_cons_succ]
      refine held_take 3 28 (.pointer (some ⟨g, 2, none⟩)) rfl rfl (by kernel_rfl) (by kernel_rfl) (by kernel_rfl) (fun _ _ _ h => h) (by kernel_rfl) (fun _ _ => (by kernel_rfl)) hS ?_
      simp only [Act.put, List.setIfInBounds_toArray, List.set_cons_zero, List.set_cons_succ]
      refine held_take 5 30 (.pointer (some ⟨g, 0, none⟩)) rfl rfl (by kernel_rfl) (by kernel_rfl) (by kernel_rfl) (fun _ _ _ h => h) (by kernel_rfl) (fun _ _ => rfl) hS ?_
      simp only [Act.put, List.setIfInBounds_toArray, List.set_cons_zero, List.set_cons_succ]
      refine held_take 6 31 (.pointer (some ⟨g, 0, none⟩)) rfl rfl (by kernel_rfl) (by kernel_rfl) (by kernel_rfl) (fun _ _ _ h => h) (by kernel_rfl) (fun _ _ => (by kernel_rfl)) hS ?_
      simp only [Act.put, List.setIfInBounds_toArray, List.set_cons_zero, List.set_cons_succ]
      refine held_take 7 32 (.pointer (some ⟨g, 4, none⟩)) rfl rfl (by kernel_rfl) (by kernel_rfl) (by kernel_rfl) (fun _ _ _ h => h) (by kernel_rfl) (fun _ _ => (by kernel_rfl)) hS ?_
      simp only [Act.put, List.setIfInBounds_toArray, List.set_cons_zero, List.set_cons_succ]
      refine held_take 8 33 (.int .i64 (used : Int)) rfl rfl (by kernel_rfl) (by kernel_rfl) (by kernel_rfl) (fun _ _ _ h => h) (by kernel_rfl) (fun _ h => exec_ldI rfl rfl h) hS ?_
      simp only [Act.put, List.setIfInBounds_toArray, List.set_cons_zero, List.set_cons_succ]
      have HID := Lib.hid HIN.out.drew
      refine wpAnyH_ready (rs := [4, 9]) (by kernel_rfl) (by simp) (br_exec 4 29 (.slice a2 n1 c2) rfl rfl (by kernel_rfl) (exec_cell rfl rfl (load_cell (by kernel_rfl) HID.out.cells.2.2.1)) hS ?_ (br_exec 9 34 (.slice (some ⟨W4.drew.heap.size, 0, none⟩) 1 1) rfl rfl (by kernel_rfl) (exec_bsN (n := used) rfl rfl) (below_at (below_one W4.drew _) hS) ?_ AllReadyH.nil))
      · simp only [Act.put, List.setIfInBounds_toArray, List.set_cons_zero, List.set_cons_succ]
        refine held_exec 9 34 (.slice (some ⟨W4.drew.heap.size, 0, none⟩) 1 1) rfl rfl (by kernel_rfl) (by kernel_rfl) (exec_bsN (n := used) rfl rfl) (below_at (below_one W4.drew _) hS) ?_
        simp only [Act.put, List.setIfInBounds_toArray, List.set_cons_zero, List.set_cons_succ]
        have HIX := Lib.hid (HID.out.below (below_one W4.drew (.cells #[.int .i64 (used : Int)] 3)))
        have HGB := Lib.hid (Blk.new W4.drew 3 #[.int .i64 (used : Int)])
        have HBX : Hid (Below W4.heap.size W4 (W4.drew.alloc (.cells #[.int .i64 (used : Int)] 3))) := Lib.hid ((drew_below W4).trans ((below_one W4.drew (.cells #[.int .i64 (used : Int)] 3)).mono (Nat.le_refl _)))
        generalize W4.drew.alloc (.cells #[.int .i64 (used : Int)] 3) = wx at HIX HGB HBX
        generalize W4.drew.heap.size = g8 at HGB
        refine held_appendG 10 35 42 3 1 8 info3 und42n rfl (by decide) (by decide) rfl rfl (by kernel_rfl) (by kernel_rfl) rfl rfl rfl HIX.out.ats HGB.out rfl (by intro v hv; simp only [List.mem_cons, List.not_mem_nil, or_false] at hv; subst hv; rfl) (by omega) HIX.out.blk.lt (fun a10 c10 w10 ho10 hk10 hl10 => ?_)
        have hv10 := HIX.out.blk.kept hk10 (fun e => by have := HIX.out.at2 _ e; omega)
        have hc10 : w10.cell? ⟨g, 4, none⟩ = some (.int .i64 (used : Int)) := by rw [hv10.cell]; rfl
        have HIN5 := Lib.hid (HIX.out.push2 (x := used) ho10 hk10)
        have hks : Kept (fun i => i = g) w10 (w10.setCell ⟨g, 2, none⟩ (.slice a10 (n1 + 1) c10)) := Kept.setCell w10 ⟨g, 2, none⟩ _
        have HBN5 : Hid (Below g w (w10.setCell ⟨g, 2, none⟩ (.slice a10 (n1 + 1) c10))) := Lib.hid (by
          have h1 := HBX.out.mono (Nat.le_of_lt HIN.out.blk.lt)
          have h2 := hk10.below (B := g) (Nat.le_of_lt HIX.out.blk.lt) (fun i e => by have := HIX.out.at2 i e; omega)
          have h3 := hks.below (B := g) (Nat.le_of_lt hv10.lt) (fun i e => by omega)
          exact HBN.out.trans (h1.trans (h2.trans h3)))
        refine ⟨hc10, ?_⟩
        simp only [Act.put, List.setIfInBounds_toArray, List.set_cons_zero, List.set_cons_succ]
        refine held_exec 11 36 (.pointer (some ⟨g, 0, none⟩)) rfl rfl (by kernel_rfl) (by kernel_rfl) (by kernel_rfl) hc10 ?_
        simp only [Act.put, List.setIfInBounds_toArray, List.set_cons_zero, List.set_cons_succ]
        refine held_exec 12 37 (.pointer (some ⟨g, 2, none⟩)) rfl rfl (by kernel_rfl) (by kernel_rfl) (by kernel_rfl) hc10 ?_
        simp only [Act.put, List.setIfInBounds_toArray, List.set_cons_zero, List.set_cons_succ]
        refine held_void 13 rfl rfl (by kernel_rfl) (by kernel_rfl) (exec_stS 42 st42 rfl rfl rfl hv10 (by show 2 < 5; omega)) HIN5.out.cells.2.2.2.2 ?_
        clear hv10 hc10 hks ho10 hk10 hl10
        refine wpAnyH_done (by kernel_rfl) ?_ _
        generalize w10.setCell ⟨g, 2, none⟩ (.slice a10 (n1 + 1) c10) = W5 at HIN5 HBN5
        go_wp2_with fail
        go_ret
        exact takeP_rec HLN.out HOP.out HIN5.out HBN5.out
      · simp only [Act.put, List.setIfInBounds_toArray, List.set_cons_zero, List.set_cons_succ]
        have HIX := Lib.hid (HID.out.below (below_one W4.drew (.cells #[.int .i64 (used : Int)] 3)))
        have HGB := Lib.hid (Blk.new W4.drew 3 #[.int .i64 (used : Int)])
        have HBX : Hid (Below W4.heap.size W4 (W4.drew.alloc (.cells #[.int .i64 (used : Int)] 3))) := Lib.hid ((drew_below W4).trans ((below_one W4.drew (.cells #[.int .i64 (used : Int)] 3)).mono (Nat.le_refl _)))
        refine held_exec 4 29 (.slice a2 n1 c2) rfl rfl (by kernel_rfl) (by kernel_rfl) (exec_cell rfl rfl (load_cell (by kernel_rfl) HIX.out.cells.2.2.1)) HIX.out.cells.2.2.2.2 ?_
        simp only [Act.put, List.setIfInBounds_toArray, List.set_cons_zero, List.set_cons_succ]
        generalize W4.drew.alloc (.cells #[.int .i64 (used : Int)] 3) = wx at HIX HGB HBX
        generalize W4.drew.heap.size = g8 at HGB
        refine held_appendG 10 35 42 3 1 8 info3 und42n rfl (by decide) (by decide) rfl rfl (by kernel_rfl) (by kernel_rfl) rfl rfl rfl HIX.out.ats HGB.out rfl (by intro v hv; simp only [List.mem_cons, List.not_mem_nil, or_false] at hv; subst hv; rfl) (by omega) HIX.out.blk.lt (fun a10 c10 w10 ho10 hk10 hl10 => ?_)
        have hv10 := HIX.out.blk.kept hk10 (fun e => by have := HIX.out.at2 _ e; omega)
        have hc10 : w10.cell? ⟨g, 4, none⟩ = some (.int .i64 (used : Int)) := by rw [hv10.cell]; rfl
        have HIN5 := Lib.hid (HIX.out.push2 (x := used) ho10 hk10)
        have hks : Kept (fun i => i = g) w10 (w10.setCell ⟨g, 2, none⟩ (.slice a10 (n1 + 1) c10)) := Kept.setCell w10 ⟨g, 2, none⟩ _
        have HBN5 : Hid (Below g w (w10.setCell ⟨g, 2, none⟩ (.slice a10 (n1 + 1) c10))) := Lib.hid (by
          have h1 := HBX.out.mono (Nat.le_of_lt HIN.out.blk.lt)
          have h2 := hk10.below (B := g) (Nat.le_of_lt HIX.out.blk.lt) (fun i e => by have := HIX.out.at2 i e; omega)
          have h3 := hks.below (B := g) (Nat.le_of_lt hv10.lt) (fun i e => by omega)
          exact HBN.out.trans (h1.trans (h2.trans h3)))
        refine ⟨hc10, ?_⟩
        simp only [Act.put, List.setIfInBounds_toArray, List.set_cons_zero, List.set_cons_succ]
        refine held_exec 11 36 (.pointer (some ⟨g, 0, none⟩)) rfl rfl (by kernel_rfl) (by kernel_rfl) (by kernel_rfl) hc10 ?_
        simp only [Act.put, List.setIfInBounds_toArray, List.set_cons_zero, List.set_cons_succ]
        refine held_exec 12 37 (.pointer (some ⟨g, 2, none⟩)) rfl rfl (by kernel_rfl) (by kernel_rfl) (by kernel_rfl) hc10 ?_
        simp only [Act.put, List.setIfInBounds_toArray, List.set_cons_zero, List.set_cons_succ]
        refine held_void 13 rfl rfl (by kernel_rfl) (by kernel_rfl) (exec_stS 42 st42 rfl rfl rfl hv10 (by show 2 < 5; omega)) HIN5.out.cells.2.2.2.2 ?_
        clear hv10 hc10 hks ho10 hk10 hl10
        refine wpAnyH_done (by kernel_rfl) ?_ _
        generalize w10.setCell ⟨g, 2, none⟩ (.slice a10 (n1 + 1) c10) = W5 at HIN5 HBN5
        go_wp2_with fail
        go_ret
        exact takeP_rec HLN.out HOP.out HIN5.out HBN5.out
    · simp only [Act.put, List.setIfInBounds_toArray, List.set_cons_zero, List.set_cons_succ]
      have HIX := Lib.hid (HID.out.below (below_one W.drew (.cells u.arr 29)))
      have HUX := Lib.hid (HU.out.below ((drew_below W).trans ((below_one W.drew (.cells u.arr 29)).mono (Nat.le_refl _))))
      have HGB := Lib.hid (Blk.new W.drew 29 u.arr)
      have HBX : Hid (Below W.heap.size W (W.drew.alloc (.cells u.arr 29))) := Lib.hid ((drew_below W).trans ((below_one W.drew (.cells u.arr 29)).mono (Nat.le_refl _)))
      refine held_exec 4 19 (.slice a1 n1 c1) rfl rfl (by kernel_rfl) (by kernel_rfl) (exec_cell rfl rfl (load_cell (by kernel_rfl) HIX.out.cells.2.1)) HUX.out ?_
      simp only [Act.put, List.setIfInBounds_toArray, List.set_cons_zero, List.set_cons_succ]
      generalize W.drew.alloc (.cells u.arr 29) = wx at HIX HUX HGB HBX
      generalize W.drew.heap.size = g8 at HGB
      refine held_appendG 7 22 41 29 23 84 info29b und41 (by rw [show (Value.agg O.zero.arr).cells = O.zero.arr from rfl]; exact O.zero.arr_size) (by decide) (by decide) rfl rfl (by kernel_rfl) (by kernel_rfl) rfl rfl rfl HIX.out.ops HGB.out u.arr_size (by simpa using u.arr_one) (by omega) (Nat.le_of_lt_succ (Nat.lt_succ_of_le HIX.out.blk.lt)) (fun a9 c9 w9 ho9 hk9 hl9 => ?_)
      have hu9 : Blk w9 g5 29 u.arr := HUX.out.kept hk9 (fun e => by have := HGE.out _ e; omega)
      have hv9 := HIX.out.blk.kept hk9 (fun e => by have := HIX.out.at1 _ e; omega)
      have HIN := Lib.hid (HIX.out.push1 (x := u) ho9 hk9)
      have hks : Kept (fun i => i = g) w9 (w9.setCell ⟨g, 1, none⟩ (.slice a9 (n1 + 1) c9)) := Kept.setCell w9 ⟨g, 1, none⟩ _
      have HBN : Hid (Below g w (w9.setCell ⟨g, 1, none⟩ (.slice a9 (n1 + 1) c9))) := Lib.hid (by
        have h1 := HBX.out.mono (Nat.le_of_lt HI.out.blk.lt)
        have h2 := hk9.below (B := g) (Nat.le_of_lt HIX.out.blk.lt) (fun i e => by have := HIX.out.at1 i e; omega)
        have h3 := hks.below (B := g) (Nat.le_of_lt hv9.lt) (fun i e => by omega)
        exact HB.out.trans (h1.trans (h2.trans h3)))
      have hu10 : Blk (w9.setCell ⟨g, 1, none⟩ (.slice a9 (n1 + 1) c9)) g5 29 u.arr := hu9.kept hks (fun e => by have := HGG.out; omega)
      refine ⟨hu9, ?_⟩
      simp only [Act.put, List.setIfInBounds_toArray, List.set_cons_zero, List.set_cons_succ]
      refine held_exec 8 23 (.pointer (some ⟨g, 0, none⟩)) rfl rfl (by kernel_rfl) (by kernel_rfl) (by kernel_rfl) hu9 ?_
      simp only [Act.put, List.setIfInBounds_toArray, List.set_cons_zero, List.set_cons_succ]
      refine held_exec 9 24 (.pointer (some ⟨g, 1, none⟩)) rfl rfl (by kernel_rfl) (by kernel_rfl) (by kernel_rfl) hu9 ?_
      simp only [Act.put, List.setIfInBounds_toArray, List.set_cons_zero, List.set_cons_succ]
      refine held_void 10 rfl rfl (by kernel_rfl) (by kernel_rfl) (exec_stS 41 st41 rfl rfl rfl hv9 (by show 1 < 5; omega)) hu10 ?_
      clear hu9 hv9 hks hu10 ho9 hk9 hl9
      refine wpAnyH_done (by kernel_rfl) ?_ _
      generalize w9.setCell ⟨g, 1, none⟩ (.slice a9 (n1 + 1) c9) = W4 at HIN HBN
      clear HID HIX HUX HGB HBX
      go_upto_region 14 with fail
      have HC4 : Hid (W4.drew.cell? ⟨g, 4, none⟩ = some (.int .i64 (used : Int))) := Lib.hid HIN.out.drew.cells.2.2.2.2
      refine wp_region_held_drew (S := fun w' => w'.cell? ⟨g, 4, none⟩ = some (.int .i64 (used : Int))) (by kernel_rfl) HC4.out (fun hS => ?_)
      refine held_take 0 25 (.pointer (some ⟨g, 0, none⟩)) rfl rfl (by kernel_rfl) (by kernel_rfl) (by kernel_rfl) (fun _ _ _ h => h) (by kernel_rfl) (fun _ _ => rfl) hS ?_
      simp only [Act.put, List.setIfInBounds_toArray, List.set_cons_zero, List.set_cons_succ]
      refine held_take 1 26 (.pointer (some ⟨g, 0, none⟩)) rfl rfl (by kernel_rfl) (by kernel_rfl) (by kernel_rfl) (fun _ _ _ h => h) (by kernel_rfl) (fun _ _ => rfl) hS ?_
      simp only [Act.put, List.setIfInBounds_toArray, List.set_cons_zero, List.set_cons_succ]
      refine held_take 2 27 (.pointer (some ⟨g, 0, none⟩)) rfl rfl (by kernel_rfl) (by kernel_rfl) (by kernel_rfl) (fun _ _ _ h => h) (by kernel_rfl) (fun _ _ => (by kernel_rfl)) hS ?_
      simp only [Act.put, List.setIfInBounds_toArray, List.set_cons_zero, List.set_cons_succ]
      refine held_take 3 28 (.pointer (some ⟨g, 2, none⟩)) rfl rfl (by kernel_rfl) (by kernel_rfl) (by kernel_rfl) (fun _ _ _ h => h) (by kernel_rfl) (fun _ _ => (by kernel_rfl)) hS ?_
      simp only [Act.put, List.setIfInBounds_toArray, List.set_cons_zero, List.set_cons_succ]
      refine held_take 5 30 (.pointer (some ⟨g, 0, none⟩)) rfl rfl (by kernel_rfl) (by kernel_rfl) (by kernel_rfl) (fun _ _ _ h => h) (by kernel_rfl) (fun _ _ => rfl) hS ?_
      simp only [Act.put, List.setIfInBounds_toArray, List.set_cons_zero, List.set_cons_succ]
      refine held_take 6 31 (.pointer (some ⟨g, 0, none⟩)) rfl rfl (by kernel_rfl) (by kernel_rfl) (by kernel_rfl) (fun _ _ _ h => h) (by kernel_rfl) (fun _ _ => (by kernel_rfl)) hS ?_
      simp only [Act.put, List.setIfInBounds_toArray, List.set_cons_zero, List.set_cons_succ]
      refine held_take 7 32 (.pointer (some ⟨g, 4, none⟩)) rfl rfl (by kernel_rfl) (by kernel_rfl) (by kernel_rfl) (fun _ _ _ h => h) (by kernel_rfl) (fun _ _ => (by kernel_rfl)) hS ?_
      simp only [Act.put, List.setIfInBounds_toArray, List.set_cons_zero, List.set_cons_succ]
      refine held_take 8 33 (.int .i64 (used : Int)) rfl rfl (by kernel_rfl) (by kernel_rfl) (by kernel_rfl) (fun _ _ _ h => h) (by kernel_rfl) (fun _ h => exec_ldI rfl rfl h) hS ?_
      simp only [Act.put, List.setIfInBounds_toArray, List.set_cons_zero, List.set_cons_succ]
      have HID := Lib.hid HIN.out.drew
      refine wpAnyH_ready (rs := [4, 9]) (by kernel_rfl) (by simp) (br_exec 4 29 (.slice a2 n1 c2) rfl rfl (by kernel_rfl) (exec_cell rfl rfl (load_cell (by kernel_rfl) HID.out.cells.2.2.1)) hS ?_ (br_exec 9 34 (.slice (some ⟨W4.drew.heap.size, 0, none⟩) 1 1) rfl rfl (by kernel_rfl) (exec_bsN (n := used) rfl rfl) (below_at (below_one W4.drew _) hS) ?_ AllReadyH.nil))
      · simp only [Act.put, List.setIfInBounds_toArray, List.set_cons_zero, List.set_cons_succ]
        refine held_exec 9 34 (.slice (some ⟨W4.drew.heap.size, 0, none⟩) 1 1) rfl rfl (by kernel_rfl) (by kernel_rfl) (exec_bsN (n := used) rfl rfl) (below_at (below_one W4.drew _) hS) ?_
        simp only [Act.put, List.setIfInBounds_toArray, List.set_cons_zero, List.set_cons_succ]
        have HIX := Lib.hid (HID.out.below (below_one W4.drew (.cells #[.int .i64 (used : Int)] 3)))
        have HGB := Lib.hid (Blk.new W4.drew 3 #[.int .i64 (used : Int)])
        have HBX : Hid (Below W4.heap.size W4 (W4.drew.alloc (.cells #[.int .i64 (used : Int)] 3))) := Lib.hid ((drew_below W4).trans ((below_one W4.drew (.cells #[.int .i64 (used : Int)] 3)).mono (Nat.le_refl _)))
        generalize W4.drew.alloc (.cells #[.int .i64 (used : Int)] 3) = wx at HIX HGB HBX
        generalize W4.drew.heap.size = g8 at HGB
        refine held_appendG 10 35 42 3 1 8 info3 und42n rfl (by decide) (by decide) rfl rfl (by kernel_rfl) (by kernel_rfl) rfl rfl rfl HIX.out.ats HGB.out rfl (by intro v hv; simp only [List.mem_cons, List.not_mem_nil, or_false] at hv; subst hv; rfl) (by omega) HIX.out.blk.lt (fun a10 c10 w10 ho10 hk10 hl10 => ?_)
        have hv10 := HIX.out.blk.kept hk10 (fun e => by have := HIX.out.at2 _ e; omega)
        have hc10 : w10.cell? ⟨g, 4, none⟩ = some (.int .i64 (used : Int)) := by rw [hv10.cell]; rfl
        have HIN5 := Lib.hid (HIX.out.push2 (x := used) ho10 hk10)
        have hks : Kept (fun i => i = g) w10 (w10.setCell ⟨g, 2, none⟩ (.slice a10 (n1 + 1) c10)) := Kept.setCell w10 ⟨g, 2, none⟩ _
        have HBN5 : Hid (Below g w (w10.setCell ⟨g, 2, none⟩ (.slice a10 (n1 + 1) c10))) := Lib.hid (by
          have h1 := HBX.out.mono (Nat.le_of_lt HIN.out.blk.lt)
          have h2 := hk10.below (B := g) (Nat.le_of_lt HIX.out.blk.lt) (fun i e => by have := HIX.out.at2 i e; omega)
          have h3 := hks.below (B := g) (Nat.le_of_lt hv10.lt) (fun i e => by omega)
          exact HBN.out.trans (h1.trans (h2.trans h3)))
        refine ⟨hc10, ?_⟩
        simp only [Act.put, List.setIfInBounds_toArray, List.set_cons_zero, List.set_cons_succ]
        refine held_exec 11 36 (.pointer (some ⟨g, 0, none⟩)) rfl rfl (by kernel_rfl) (by kernel_rfl) (by kernel_rfl) hc10 ?_
        simp only [Act.put, List.setIfInBounds_toArray, List.set_cons_zero, List.set_cons_succ]
        refine held_exec 12 37 (.pointer (some ⟨g, 2, none⟩)) rfl rfl (by kernel_rfl) (by kernel_rfl) (by kernel_rfl) hc10 ?_
        simp only [Act.put, List.setIfInBounds_toArray, List.set_cons_zero, List.set_cons_succ]
        refine held_void 13 rfl rfl (by kernel_rfl) (by kernel_rfl) (exec_stS 42 st42 rfl rfl rfl hv10 (by show 2 < 5; omega)) HIN5.out.cells.2.2.2.2 ?_
        clear hv10 hc10 hks ho10 hk10 hl10
        refine wpAnyH_done (by kernel_rfl) ?_ _
        generalize w10.setCell ⟨g, 2, none⟩ (.slice a10 (n1 + 1) c10) = W5 at HIN5 HBN5
        go_wp2_with fail
        go_ret
        exact takeP_rec HLN.out HOP.out HIN5.out HBN5.out
      · simp only [Act.put, List.setIfInBounds_toArray, List.set_cons_zero, List.set_cons_succ]
        have HIX := Lib.hid (HID.out.below (below_one W4.drew (.cells #[.int .i64 (used : Int)] 3)))
        have HGB := Lib.hid (Blk.new W4.drew 3 #[.int .i64 (used : Int)])
        have HBX : Hid (Below W4.heap.size W4 (W4.drew.alloc (.cells #[.int .i64 (used : Int)] 3))) := Lib.hid ((drew_below W4).trans ((below_one W4.drew (.cells #[.int .i64 (used : Int)] 3)).mono (Nat.le_refl _)))
        refine held_exec 4 29 (.slice a2 n1 c2) rfl rfl (by kernel_rfl) (by kernel_rfl) (exec_cell rfl rfl (load_cell (by kernel_rfl) HIX.out.cells.2.2.1)) HIX.out.cells.2.2.2.2 ?_
        simp only [Act.put, List.setIfInBounds_toArray, List.set_cons_zero, List.set_cons_succ]
        generalize W4.drew.alloc (.cells #[.int .i64 (used : Int)] 3) = wx at HIX HGB HBX
        generalize W4.drew.heap.size = g8 at HGB
        refine held_appendG 10 35 42 3 1 8 info3 und42n rfl (by decide) (by decide) rfl rfl (by kernel_rfl) (by kernel_rfl) rfl rfl rfl HIX.out.ats HGB.out rfl (by intro v hv; simp only [List.mem_cons, List.not_mem_nil, or_false] at hv; subst hv; rfl) (by omega) HIX.out.blk.lt (fun a10 c10 w10 ho10 hk10 hl10 => ?_)
        have hv10 := HIX.out.blk.kept hk10 (fun e => by have := HIX.out.at2 _ e; omega)
        have hc10 : w10.cell? ⟨g, 4, none⟩ = some (.int .i64 (used : Int)) := by rw [hv10.cell]; rfl
        have HIN5 := Lib.hid (HIX.out.push2 (x := used) ho10 hk10)
        have hks : Kept (fun i => i = g) w10 (w10.setCell ⟨g, 2, none⟩ (.slice a10 (n1 + 1) c10)) := Kept.setCell w10 ⟨g, 2, none⟩ _
        have HBN5 : Hid (Below g w (w10.setCell ⟨g, 2, none⟩ (.slice a10 (n1 + 1) c10))) := Lib.hid (by
          have h1 := HBX.out.mono (Nat.le_of_lt HIN.out.blk.lt)
          have h2 := hk10.below (B := g) (Nat.le_of_lt HIX.out.blk.lt) (fun i e => by have := HIX.out.at2 i e; omega)
          have h3 := hks.below (B := g) (Nat.le_of_lt hv10.lt) (fun i e => by omega)
          exact HBN.out.trans (h1.trans (h2.trans h3)))
        refine ⟨hc10, ?_⟩
        simp only [Act.put, List.setIfInBounds_toArray, List.set_cons_zero, List.set_cons_succ]
        refine held_exec 11 36 (.pointer (some ⟨g, 0, none⟩)) rfl rfl (by kernel_rfl) (by kernel_rfl) (by kernel_rfl) hc10 ?_
        simp only [Act.put, List.setIfInBounds_toArray, List.set_cons_zero, List.set_cons_succ]
        refine held_exec 12 37 (.pointer (some ⟨g, 2, none⟩)) rfl rfl (by kernel_rfl) (by kernel_rfl) (by kernel_rfl) hc10 ?_
        simp only [Act.put, List.setIfInBounds_toArray, List.set_cons_zero, List.set_cons_succ]
        refine held_void 13 rfl rfl (by kernel_rfl) (by kernel_rfl) (exec_stS 42 st42 rfl rfl rfl hv10 (by show 2 < 5; omega)) HIN5.out.cells.2.2.2.2 ?_
        clear hv10 hc10 hks ho10 hk10 hl10
        refine wpAnyH_done (by kernel_rfl) ?_ _
        generalize w10.setCell ⟨g, 2, none⟩ (.slice a10 (n1 + 1) c10) = W5 at HIN5 HBN5
        go_wp2_with fail
        go_ret
        exact takeP_rec HLN.out HOP.out HIN5.out HBN5.out

end Go.Proofs.YtfnaccmgmocolaaDoor
