/- What FoldAny needs: what is seen hangs on no order (plain lists); a map of counts with one more at a key; lists of operations that are copied, exchanged and turned. -/
import Derived.Test.YtmibfbbkjejkmaaApo
import Derived.Test.YtmibfbbkjejkmaaCt
import Derived.WideKeyEntry
import Derived.ArgAppend
import Derived.Deep.Upon
namespace Go.Proofs.Ytmibfbbkjejkmaa
open Go.RowKit Fold

/-- Live, of an item, and no Out. -/
def ofL (L : List O) (i : Nat) (o : O) : Bool := decide (o.i = i ∧ o.k ≠ 4) && liveB L o
theorem adds_snoc (b : O → Bool) (x : O) : ∀ l : List O, addsOf b (l ++ [x]) = addsOf b l + (if x.k = 1 ∧ b x = true then x.q else 0)
  | [] => by simp [addsOf]
  | o :: l => by
    rw [List.cons_append, addsOf, addsOf, adds_snoc b x l]
    omega
theorem best_snoc (b : O → Bool) (x : O) : ∀ (l : List O) (y : Option O), bestOf b y (l ++ [x]) = pick b (bestOf b y l) x
  | [], y => rfl
  | o :: l, y => by
    rw [List.cons_append, bestOf, bestOf, best_snoc b x l]
theorem ofL_iff {L : List O} {i : Nat} {o : O} : ofL L i o = true ↔ liveB L o = true ∧ o.k ≠ 4 ∧ o.i = i := by
  simp only [ofL, Bool.and_eq_true, decide_eq_true_eq]
  constructor
  · rintro ⟨⟨h1, h2⟩, h3⟩; exact ⟨h3, h2, h1⟩
  · rintro ⟨h3, h2, h1⟩; exact ⟨⟨h1, h2⟩, h3⟩
theorem live_kind {L : List O} {o : O} (h : liveB L o = true) : o.k = 1 ∨ o.k = 2 ∨ o.k = 4 := by
  simp only [liveB, Bool.and_eq_true] at h
  have := h.1
  simpa [O.laysB] using this
/-- What an amount holds. -/
structure Sum (L : List O) (i k : Nat) (a : Am) : Prop where
  n : a.n = addsOf (ofL L i) (L.take k) % 4294967296
  nob : bestOf (ofL L i) none (L.take k) = none → a.o = O.zero
  oneb : ∀ y, bestOf (ofL L i) none (L.take k) = some y → a.o = y ∧ y.k = 2
structure Sums (L : List O) (i k : Nat) : Prop where
  nil : amTo L k i = none → addsOf (ofL L i) (L.take k) = 0 ∧ bestOf (ofL L i) none (L.take k) = none ∧ ∀ o ∈ L.take k, ofL L i o = false
  one : ∀ a, amTo L k i = some a → Sum L i k a ∧ ∃ o ∈ L.take k, ofL L i o = true
theorem sum_zero (L : List O) (i k : Nat) (h1 : addsOf (ofL L i) (L.take k) = 0) (h2 : bestOf (ofL L i) none (L.take k) = none) : Sum L i k Am.zero :=
  ⟨by rw [h1]; rfl, fun _ => rfl, fun y h => by rw [h2] at h; cases h⟩
theorem sum_step {L : List O} {i k : Nat} {a : Am} {x : O} (h : Sum L i k a) (hx : L[k]? = some x) (hb : ofL L i x = true) : Sum L i (k + 1) (a.with x) := by
  have et : L.take (k + 1) = L.take k ++ [x] := by rw [List.take_add_one, hx]; rfl
  obtain ⟨hl, h4, _⟩ := ofL_iff.1 hb
  rcases live_kind hl with h1 | h2 | h3
  · have ew : (a.with x).n = (a.n + x.q) % 4294967296 ∧ (a.with x).o = a.o := by unfold Am.with; rw [if_pos h1]; exact ⟨rfl, rfl⟩
    have ep : pick (ofL L i) (bestOf (ofL L i) none (L.take k)) x = bestOf (ofL L i) none (L.take k) := by unfold pick; rw [if_neg (by omega)]
    refine ⟨?_, ?_, ?_⟩
    · rw [ew.1, et, adds_snoc, if_pos ⟨h1, hb⟩, h.n]; omega
    · rw [et, best_snoc, ep, ew.2]; exact h.nob
    · rw [et, best_snoc, ep, ew.2]; exact h.oneb
  · have en : ¬ x.k = 1 := by omega
    have ead : addsOf (ofL L i) (L.take (k + 1)) = addsOf (ofL L i) (L.take k) := by rw [et, adds_snoc, if_neg (by omega)]; omega
    have ep : pick (ofL L i) (bestOf (ofL L i) none (L.take k)) x = over (bestOf (ofL L i) none (L.take k)) x := by unfold pick; rw [if_pos ⟨h2, hb⟩]
    cases hbb : bestOf (ofL L i) none (L.take k) with
    | none =>
      have hz := h.nob hbb
      have hw : a.with x = ⟨a.n, x, a.hn⟩ := by
        unfold Am.with
        rw [if_neg en, if_pos (.inl (by rw [hz]; show (0 : Nat) ≠ 2; omega))]
      rw [hbb] at ep
      refine ⟨by rw [ead, hw]; exact h.n, fun hn => ?_, fun y hy => ?_⟩
      · rw [et, best_snoc, hbb, ep] at hn; cases hn
      · rw [et, best_snoc, hbb, ep] at hy
        obtain rfl : x = y := Option.some.inj hy
        rw [hw]
        exact ⟨rfl, h2⟩
    | some z =>
      obtain ⟨hz, hz2⟩ := h.oneb z hbb
      rw [hbb] at ep
      have eo : over (some z) x = if O.lessB z x = true then some x else some z := rfl
      by_cases hle : O.lessB z x = true
      · have hw : a.with x = ⟨a.n, x, a.hn⟩ := by
          unfold Am.with
          rw [if_neg en, if_pos (.inr (by rw [hz]; exact hle))]
        rw [eo, if_pos hle] at ep
        refine ⟨by rw [ead, hw]; exact h.n, fun hn => ?_, fun y hy => ?_⟩
        · rw [et, best_snoc, hbb, ep] at hn; cases hn
        · rw [et, best_snoc, hbb, ep] at hy
          obtain rfl : x = y := Option.some.inj hy
          rw [hw]
          exact ⟨rfl, h2⟩
      · have hw : a.with x = a := by
          unfold Am.with
          rw [if_neg en, if_neg (by rw [hz]; intro hh; rcases hh with hh | hh; exact hh hz2; exact hle hh)]
        rw [eo, if_neg hle] at ep
        refine ⟨by rw [ead, hw]; exact h.n, fun hn => ?_, fun y hy => ?_⟩
        · rw [et, best_snoc, hbb, ep] at hn; cases hn
        · rw [et, best_snoc, hbb, ep] at hy
          obtain rfl : z = y := Option.some.inj hy
          rw [hw]
          exact ⟨hz, hz2⟩
  · exact absurd h3 h4
theorem sums (L : List O) (i : Nat) : ∀ k, k ≤ L.length → Sums L i k
  | 0, _ => ⟨fun _ => ⟨rfl, rfl, fun o h => (by simp at h)⟩, fun a h => (by cases h)⟩
  | k + 1, hk => by
    have hx : L[k]? = some L[k] := List.getElem?_eq_getElem (by omega)
    have et : L.take (k + 1) = L.take k ++ [L[k]] := by rw [List.take_add_one, hx]; rfl
    have ih := sums L i k (by omega)
    have hs := amTo_succ hx i
    unfold amStep at hs
    by_cases hb : ofL L i L[k] = true
    · rw [if_pos (ofL_iff.1 hb)] at hs
      refine ⟨fun h => (by rw [hs] at h; cases h), fun a h => ?_⟩
      rw [hs] at h
      obtain rfl := Option.some.inj h
      refine ⟨sum_step ?_ hx hb, L[k], (by rw [et]; exact List.mem_append_right _ (List.mem_singleton.2 rfl)), hb⟩
      cases ha : amTo L k i with
      | none => exact sum_zero L i k (ih.nil ha).1 (ih.nil ha).2.1
      | some a => exact (ih.one a ha).1
    · rw [if_neg (fun hh => hb (ofL_iff.2 hh))] at hs
      have hbf : ofL L i L[k] = false := by simpa using hb
      have ea : addsOf (ofL L i) (L.take (k + 1)) = addsOf (ofL L i) (L.take k) := by rw [et, adds_snoc, if_neg (fun hh => hb hh.2)]; omega
      have eb : bestOf (ofL L i) none (L.take (k + 1)) = bestOf (ofL L i) none (L.take k) := by rw [et, best_snoc]; unfold pick; rw [if_neg (fun hh => hb hh.2)]
      refine ⟨fun h => ?_, fun a h => ?_⟩
      · rw [hs] at h
        obtain ⟨h1, h2, h3⟩ := ih.nil h
        refine ⟨by rw [ea]; exact h1, by rw [eb]; exact h2, fun o ho => ?_⟩
        rw [et] at ho
        rcases List.mem_append.1 ho with ho | ho
        · exact h3 o ho
        · obtain rfl : o = L[k] := by simpa using ho
          exact hbf
      · rw [hs] at h
        obtain ⟨h1, o, ho, h2⟩ := ih.one a h
        exact ⟨⟨(by rw [ea]; exact h1.n), (by rw [eb]; exact h1.nob), (by rw [eb]; exact h1.oneb)⟩, o, by rw [et]; exact List.mem_append_left _ ho, h2⟩
theorem qty_sum (L : List O) (i : Nat) : qtyAt L i = (addsOf (ofL L i) L + qtyOf (bestOf (ofL L i) none L)) % 4294967296 := by
  have h := sums L i L.length (Nat.le_refl _)
  have e : L.take L.length = L := List.take_of_length_le (Nat.le_refl _)
  unfold qtyAt
  cases ha : amTo L L.length i with
  | none =>
    obtain ⟨h1, h2, _⟩ := h.nil ha
    rw [e] at h1 h2
    rw [h1, h2]
    rfl
  | some a =>
    obtain ⟨h1, _⟩ := h.one a ha
    have hn := h1.n
    have h2 := h1.nob
    have h3 := h1.oneb
    rw [e] at hn h2 h3
    show (a.n + a.o.q) % 4294967296 = _
    cases hb : bestOf (ofL L i) none L with
    | none =>
      rw [h2 hb, hn]
      show (_ + 0) % 4294967296 = (_ + 0) % 4294967296
      omega
    | some y =>
      rw [(h3 y hb).1, hn]
      show (_ + y.q) % 4294967296 = (_ + y.q) % 4294967296
      omega
theorem some_iff (L : List O) (i : Nat) : (amTo L L.length i).isSome = true ↔ ∃ o ∈ L, ofL L i o = true := by
  have h := sums L i L.length (Nat.le_refl _)
  have e : L.take L.length = L := List.take_of_length_le (Nat.le_refl _)
  cases ha : amTo L L.length i with
  | none =>
    have h3 := (h.nil ha).2.2
    rw [e] at h3
    constructor
    · intro hh; cases hh
    · rintro ⟨o, ho, hh⟩
      rw [h3 o ho] at hh
      cases hh
  | some a =>
    have h3 := (h.one a ha).2
    rw [e] at h3
    exact ⟨fun _ => h3, fun _ => rfl⟩
section
variable {L M : List O}
theorem ofL_perm (h : L.Perm M) (i : Nat) : ofL L i = ofL M i := by
  funext o
  unfold ofL
  rw [live_perm h]
theorem qty_perm (h : L.Perm M) (hu : Unlike L) (i : Nat) : qtyAt L i = qtyAt M i := by
  rw [qty_sum, qty_sum, ofL_perm h, adds_perm h, best_unlike hu (fun o => h.mem_iff)]
theorem items_perm' (h : L.Perm M) {its : List Nat} (hi : Items L its) : Items M its := by
  refine ⟨hi.up, fun i => ?_⟩
  rw [hi.mem, some_iff, some_iff, ofL_perm h]
  constructor
  · rintro ⟨h1, o, ho, h2⟩; exact ⟨h1, o, h.mem_iff.1 ho, h2⟩
  · rintro ⟨h1, o, ho, h2⟩; exact ⟨h1, o, h.mem_iff.2 ho, h2⟩
theorem out_perm' (h : L.Perm M) : outTo L L.length = outTo M M.length := by
  unfold outTo
  rw [List.take_of_length_le (Nat.le_refl _), List.take_of_length_le (Nat.le_refl _)]
  have e : (fun x => liveB L x && decide (x.k = 4)) = fun x => liveB M x && decide (x.k = 4) := by
    funext x; rw [live_perm h]
  rw [e]
  exact any_perm h _
theorem tick_sub (hm : ∀ o, o ∈ L → o ∈ M) : tkTo L L.length ≤ tkTo M M.length := by
  rcases tick_in L L.length with h | ⟨o, ho, h⟩
  · omega
  · rw [← h]
    exact tick_ge _ (by rw [List.take_of_length_le (Nat.le_refl _)]; exact hm o ho)
theorem tick_perm' (h : L.Perm M) : tkTo L L.length = tkTo M M.length :=
  Nat.le_antisymm (tick_sub fun _ => h.mem_iff.1) (tick_sub fun _ => h.mem_iff.2)
theorem closed_perm (h : L.Perm M) (hc : Closed L) : Closed M := by
  refine ⟨fun o ho => hc.valid o (h.mem_iff.2 ho), ?_, fun o ho r s hh => ?_⟩
  · refine (h.pairwise_iff ?_).1 hc.unlike
    rintro a b hab ⟨e1, e2⟩
    exact hab ⟨e1.symm, e2.symm⟩
  · obtain ⟨p, hp, h2⟩ := hc.known o (h.mem_iff.2 ho) r s hh
    exact ⟨p, h.mem_iff.1 hp, h2⟩
theorem unlike_differ (h : Differ L) : Unlike L := by
  intro a ha b hb e
  induction L with
  | nil => cases ha
  | cons x L ih =>
    obtain ⟨h1, h2⟩ := List.pairwise_cons.1 h
    rcases List.mem_cons.1 ha with e1 | ha1
    · rcases List.mem_cons.1 hb with e2 | hb1
      · rw [e1, e2]
      · subst e1
        exact absurd e (h1 b hb1)
    · rcases List.mem_cons.1 hb with e2 | hb1
      · subst e2
        exact absurd ⟨e.1.symm, e.2.symm⟩ (h1 a ha1)
      · exact ih h2 ha1 hb1
end

open Go.Maps

theorem MpF.same {w w' : World} {k m n : Nat} {f : Lit → Option Value} (h : MpF w k m n f) (e : w'.heap[m]? = w.heap[m]?) : MpF w' k m n f := by
  obtain ⟨D, h⟩ := h
  obtain ⟨es, clock, hb, rest⟩ := h.own
  exact ⟨D, ⟨es, clock, e.trans hb, rest⟩, h.size, h.has, h.val⟩
theorem und36 : Try.prog.underlying 36 = some (.map 38 3) := Try.underlying36
theorem zero3 (w : World) : (zeroValue 3).run Try.prog w = .ok (.int .i64 0) w := Try.zeroValue3 w
theorem klaw38 : WideMaps.KeyLaw Try.prog 38 := deep_law_laid (m := 50) (by kernel_rfl) (by omega) (of_decide_eq_true (by kernel_rfl)) (by kernel_rfl) (by kernel_rfl)
theorem heap_block {w : World} {m : Nat} (o : Obj) (h : m < w.heap.size) : (ChangeMaps.setBlock w m o).heap[m]? = some o := by simp [ChangeMaps.setBlock, h]
theorem kept_block (w : World) (m : Nat) (o : Obj) : Kept (fun i => i = m) w (ChangeMaps.setBlock w m o) :=
  ⟨rfl, rfl, rfl, by simp [ChangeMaps.setBlock], fun k _ hn => by simp [ChangeMaps.setBlock, Ne.symm hn]⟩
set_option maxRecDepth 100000 in
theorem entry_run {w : World} {m n r s : Nat} {f : Lit → Option Value} (h : MpF w 38 m n f) (hn : n < 1000000) (hr : r < 256) (hs : s < 4294967296) :
    ∃ v0 st w1, (Instr.mapEntry 36 (.map (some m)) (dotV r s)).run Try.prog w = .ok (.tuple #[v0, goInt st]) w1 ∧ Kept (fun i => i = m) w w1 ∧
      (Instr.lookup 36 (.map (some m)) (dotV r s) false).run Try.prog w1 = .ok ((f (kd r s)).getD (.int .i64 0)) w1 ∧
      ∀ val, ∃ w3, (Instr.entryStore 36 (.map (some m)) (goInt st) val).run Try.prog w1 = .ok () w3 ∧ MpF w3 38 m (if (f (kd r s)).isSome then n else n + 1) (upd f (kd r s) val) ∧ Kept (fun i => i = m) w1 w3 := by
  have h0 := h
  have hlt := h.lt
  obtain ⟨D, hD⟩ := h
  obtain ⟨es, clock, hb, F, hle, _⟩ := hD.own
  have hkey := key38 hr hs
  obtain ⟨v0, st, es1, c1, hrun, _, hst⟩ := Go.WideElems.entry_then_store klaw38 und36 (fun u => zero3 u) hb F hkey
  refine ⟨v0, st, _, hrun, kept_block _ _ _, ?_, fun val => ?_⟩
  · rcases klaw38.find w hkey es.toList F.keys with ⟨h1, h2⟩ | ⟨j, e0, h1, h2, h3⟩
    · have e1 : (Instr.mapEntry 36 (.map (some m)) (dotV r s)).run Try.prog w = .ok (.tuple #[.int .i64 0, goInt clock]) (ChangeMaps.setBlock w m (.map (es.push ⟨dotV r s, .int .i64 0, clock⟩) (clock + 1))) := by
        simp [Instr.mapEntry, run_underlying und36, MapKept.run_getObj_map hb, klaw38.check w false hkey, h1, MapKept.run_setObj_map _ hb, Result.andThen, ChangeMaps.setBlock]
      have e2 : (Instr.mapUpdate 36 (.map (some m)) (dotV r s) (.int .i64 0)).run Try.prog w = .ok () (ChangeMaps.setBlock w m (.map (es.push ⟨dotV r s, .int .i64 0, clock⟩) (clock + 1))) := by
        simp [Instr.mapUpdate, run_underlying und36, MapKept.run_getObj_map hb, klaw38.check w false hkey, h1, MapKept.run_setObj_map _ hb, Result.andThen, ChangeMaps.setBlock]
      have e3 : (Instr.lookup 36 (.map (some m)) (dotV r s) false).run Try.prog w = .ok (.int .i64 0) w := by
        simp [Instr.lookup, run_underlying und36, MapKept.run_getObj_map hb, klaw38.check w es.isEmpty hkey, h1, Result.andThen]
      have e4 := h0.look law38 und36 (zero3 w) hkey
      have e5 : (f (kd r s)).getD (.int .i64 0) = .int .i64 0 := (Result.ok.inj (e3.symm.trans e4)).1.symm
      have e6 := (Result.ok.inj (hrun.symm.trans e1)).2
      obtain ⟨w2, hw2, hM, _⟩ := h0.put law38 und36 hn hkey (v := .int .i64 0)
      have e7 := (Result.ok.inj (e2.symm.trans hw2)).2
      rw [e5, e6]
      have hl := hM.look law38 und36 (zero3 w2) hkey
      rw [upd_same, ← e7] at hl
      exact hl
    · have hj : es[j]? = some e0 := by simpa using h2
      have hsame : es.modify j (fun e => { e with key := dotV r s }) = es := by
        apply Array.ext'
        rw [Array.toList_modify, Go.ChangeMaps.modify_eq_set _ _ _ _ h2]
        have : ({ e0 with key := dotV r s } : MapEntry) = e0 := by rw [← h3]
        rw [this]
        exact Go.WideElems.set_self _ _ _ h2
      have e1 : (Instr.mapEntry 36 (.map (some m)) (dotV r s)).run Try.prog w = .ok (.tuple #[e0.val, goInt e0.born]) (ChangeMaps.setBlock w m (.map es clock)) := by
        simp [Instr.mapEntry, run_underlying und36, MapKept.run_getObj_map hb, klaw38.check w false hkey, h1, hj, h3, klaw38.stays w hkey, hsame, MapKept.run_setObj_map _ hb, Result.andThen, ChangeMaps.setBlock]
      have e6 := (Result.ok.inj (hrun.symm.trans e1)).2
      rw [e6]
      exact (h0.same (by rw [heap_block _ hlt, hb])).look law38 und36 (zero3 _) hkey
  · obtain ⟨es', c', hs1, hs2⟩ := hst _ val (heap_block _ hlt)
    obtain ⟨w2, hw2, hM, _⟩ := h0.put law38 und36 hn hkey (v := val)
    have e7 := (Result.ok.inj (hs2.symm.trans hw2)).2
    rw [← e7] at hM
    exact ⟨_, hs1, hM.same (by rw [heap_block _ hlt, heap_block _ (by simpa [ChangeMaps.setBlock] using hlt)]), kept_block _ _ _⟩

section
variable {ev : Operand → Value} {q : Oper} {w w2 : World}
theorem exec_entry {x y : Operand} {m key v : Value} (ho : q.op = .mapEntry 36 x y) (hx : ev x = m) (hy : ev y = key) (h : (Instr.mapEntry 36 m key).run Try.prog w = .ok v w2) : (execOp ev q).run Try.prog w = .ok (.value v) w2 := by
  unfold execOp
  simp only [ho, hx, hy, Sem.run_bind, h, Result.andThen_ok]
  rfl
theorem exec_entst {x y z : Operand} {m st v : Value} (ho : q.op = .entryStore 36 x y z) (hx : ev x = m) (hy : ev y = st) (hz : ev z = v) (h : (Instr.entryStore 36 m st v).run Try.prog w = .ok () w2) : (execOp ev q).run Try.prog w = .ok .skip w2 := by
  unfold execOp
  simp only [ho, hx, hy, hz, Sem.run_bind, h, Result.andThen_ok]
  rfl
theorem exec_look36 {x y : Operand} {m key v : Value} (ho : q.op = .lookup 36 x y false) (hx : ev x = m) (hy : ev y = key) (h : (Instr.lookup 36 m key false).run Try.prog w = .ok v w) : (execOp ev q).run Try.prog w = .ok (.value v) w := by
  unfold execOp
  simp only [ho, hx, hy, Sem.run_bind, h, Result.andThen_ok]
  rfl
theorem exec_remN {x y : Operand} {a n : Nat} (ho : q.op = .binOp .rem 3 x y 3) (hx : ev x = .int .i64 (a : Int)) (hy : ev y = .int .i64 (n : Int)) (h0 : 0 < n) : (execOp ev q).run Try.prog w = .ok (.value (.int .i64 ((a % n : Nat) : Int))) w := by
  have hn1 : ¬ n = 0 := by omega
  have e2 : (a : Int).tmod (n : Int) = (a : Int) % (n : Int) := Int.tmod_eq_emod_of_nonneg (by omega)
  unfold execOp
  simp [ho, hx, hy, eqGuard, binOp, Op.intDiv, hn1, e2]
end
theorem wpList_copy {ops : Array Oper} {rest : List Oper} {o : Oper} {act : Act} {Q : Exit → Act → World → Prop} {W : World} {x y : Operand} {a : Option Addr} {n cap B : Nat} {l : List O} (hgd : o.guard = none) (ho : o.op = .call { callee := .builtin .append, args := #[x, y], argTypes := #[22, 22] })
    (hx : act.eval x = .slice none 0 0) (hy : act.eval y = .slice a n cap) (hl : OL W a n l) (hn : n < 1000000) (hB : B ≤ W.heap.size)
    (k : ∀ a' cap' w', OwnO w' B a' n cap' l → Below W.heap.size W w' → wpList Try.prog ops Q rest (act.put o.dst (.slice a' n cap')) w') : wpList Try.prog ops Q (o :: rest) act W :=
  wpList_plain hgd fun _ hK => wp_appendL ho hx hy hl hn hB (fun v w' ⟨a', cap', e, h1, h2⟩ => by subst e; exact hK _ _ (k a' cap' w' h1 h2))

/-- A list of operations in a block that may be written. -/
structure Mx (W : World) (g n : Nat) (l : List O) : Prop where
  ol : OL W (some ⟨g, 0, none⟩) n l
  th : W.there g 0 (n * 23)
theorem mx_of {W : World} {B n cap : Nat} {a : Option Addr} {l : List O} (h : OwnO W B a n cap l) (h0 : 0 < n) : ∃ g, a = some ⟨g, 0, none⟩ ∧ B ≤ g ∧ Mx W g n l ∧ n ≤ cap := by
  have hgl := h.gl
  rcases h.row.2 with ⟨_, hn⟩ | ⟨g, cap', cur, hv, hB, hg, hnc, hcm, hcs, htk⟩
  · omega
  · cases hv
    have hb : Blk W g 40 cur := hg
    exact ⟨g, rfl, hB, ⟨hgl, hb.there (by rw [hcs, Nat.zero_add]; exact Nat.mul_le_mul_right _ hnc)⟩, hnc⟩
theorem Mx.at {W : World} {g n j : Nat} {l : List O} (h : Mx W g n l) (hj : j < n) : ∃ x, l[j]? = some x ∧ W.rangeAt g (0 + j * 23) x.cs := by
  obtain ⟨b, off, x, e, hx, hr⟩ := OL.at h.ol hj
  simp only [Option.some.injEq, Addr.mk.injEq, and_true] at e
  obtain ⟨rfl, rfl⟩ := e
  exact ⟨x, hx, hr⟩
theorem Mx.there {W : World} {g n j : Nat} {l : List O} (h : Mx W g n l) (hj : j < n) : W.there g (0 + j * 23) 23 := fun t ht => by
  have : (j + 1) * 23 ≤ n * 23 := Nat.mul_le_mul_right _ hj
  rw [Nat.add_mul] at this
  have h2 := h.th (j * 23 + t) (by omega)
  rw [show 0 + j * 23 + t = 0 + (j * 23 + t) by omega]
  exact h2
theorem Mx.set {W : World} {g n j : Nat} {l : List O} (h : Mx W g n l) (hj : j < n) (x : O) : Mx (W.setCells g (0 + j * 23) x.cs) g n (l.set j x) := by
  have hlen := h.ol.len'
  refine ⟨⟨by simp [cellsO, hlen], .inr ⟨g, 0, rfl, fun i v hv => ?_⟩⟩, World.there_setCells h.th _ _ _⟩
  by_cases e : i = j
  · subst e
    obtain rfl : x.cs = v := by
      simp only [cellsO, List.getElem?_map] at hv
      rw [List.getElem?_set_self (by omega)] at hv
      simpa using hv
    exact World.rangeAt_setCells_same W g (0 + i * 23) x.cs (by rw [x.cs_len]; exact h.there hj)
  · have hv2 : (cellsO l)[i]? = some v := by
      simp only [cellsO, List.getElem?_map] at hv ⊢
      rw [List.getElem?_set_ne (Ne.symm e)] at hv
      exact hv
    have hvl := cellsO_each l v (List.mem_of_getElem? hv2)
    have hr : W.rangeAt g (0 + i * 23) v := by
      rcases h.ol.cells with h0 | ⟨b, off, e2, hc⟩
      · omega
      · simp only [Option.some.injEq, Addr.mk.injEq, and_true] at e2
        obtain ⟨rfl, rfl⟩ := e2
        exact hc i v hv2
    refine World.rangeAt_setCells_apart hr g (0 + j * 23) x.cs (.inr ?_)
    rw [hvl, x.cs_len]
    omega
theorem Mx.below {W W' : World} {g n : Nat} {l : List O} (h : Mx W g n l) (h0 : 0 < n) (hb : Below W.heap.size W W') : Mx W' g n l := by
  refine ⟨h.ol.below hb, fun j hj => ?_⟩
  have h2 := h.th j hj
  have hlt : g < W.heap.size := OL.inside h.ol rfl (by omega)
  have e := hb.block g hlt
  simp only [World.cell?, World.frozen?, e] at h2 ⊢
  exact h2
section
variable {ev : Operand → Value} {q : Oper} {w : World}
theorem exec_stO {x y : Operand} {g n j : Nat} {l : List O} {p : O} (ho : q.op = .store 40 x y) (hx : ev x = .pointer (some ⟨g, 0 + j * 23, none⟩)) (hy : ev y = .agg p.arr) (h : Mx w g n l) (hj : j < n) : (execOp ev q).run Try.prog w = .ok .skip (w.setCells g (0 + j * 23) p.cs) := by
  have hs := run_storeAt_mid (P := Try.prog) w g (0 + j * 23) 40 p.arr (by rw [p.arr_size]; exact h.there hj) (by rw [p.arr_size]; exact size40) p.arr_one
  unfold execOp
  simp only [ho, hx, hy, Sem.run_bind, hs, Result.andThen_ok]
  rfl
theorem exec_cut3 {x y z u : Operand} {g i n cap : Nat} (ho : q.op = .slice 22 x (some y) (some z) (some u)) (hx : ev x = .slice (some ⟨g, 0, none⟩) n cap) (hy : ev y = .int .i64 (i : Int)) (hz : ev z = .int .i64 (n : Int)) (hu : ev u = .int .i64 (n : Int)) (hi : i < n) (hc : n ≤ cap) : (execOp ev q).run Try.prog w = .ok (.value (.slice (some ⟨g, 0 + i * 23, none⟩) (n - i) (n - i))) w := by
  have u22 := und22
  have z40 : ∀ w, (Go.sizeOf 40).run Try.prog w = .ok 23 w := Try.sizeOf40
  have hne : ¬ n = i := by omega
  have h1 : (i : Int) ≤ (n : Int) := by omega
  have h2 : (n : Int) ≤ (cap : Int) := by omega
  unfold execOp
  simp only [ho, hx, hy, hz, hu, Option.map_some]
  go_simp
theorem exec_cutH {x z : Operand} {g i n cap : Nat} (ho : q.op = .slice 22 x none (some z) none) (hx : ev x = .slice (some ⟨g, 0, none⟩) n cap) (hz : ev z = .int .i64 (i : Int)) (hi : i < n) (hc : n ≤ cap) : (execOp ev q).run Try.prog w = .ok (.value (.slice (some ⟨g, 0, none⟩) i cap)) w := by
  have u22 := und22
  have z40 : ∀ w, (Go.sizeOf 40).run Try.prog w = .ok 23 w := Try.sizeOf40
  have hne : ¬ cap = 0 := by omega
  have h2 : (i : Int) ≤ (cap : Int) := by omega
  unfold execOp
  simp only [ho, hx, hz, Option.map_some, Option.map_none]
  go_simp
end
/-- The list from i on, and then its beginning. -/
theorem wp_turn {o : Oper} {act : Act} {W : World} {K : Act → World → Prop} {Q : Exit → Act → World → Prop} {x y : Operand} {g i n cap : Nat} {l : List O} (ho : o.op = .call { callee := .builtin .append, args := #[x, y], argTypes := #[22, 22] })
    (hx : act.eval x = .slice (some ⟨g, 0 + i * 23, none⟩) (n - i) (n - i)) (hy : act.eval y = .slice (some ⟨g, 0, none⟩) i cap) (hl : Mx W g n l) (hi : i < n) (hn : n < 1000000)
    (k : ∀ a' cap' w', OL w' a' n (l.drop i ++ l.take i) → Below W.heap.size W w' → K (act.put o.dst (.slice a' n cap')) w') : Oper.wp Try.prog o act W K Q := by
  obtain ⟨i0, hi0, hz0, hz1, hz2⟩ := info_parts info40b
  have hlen := hl.ol.len'
  have hc : ∀ j v, (cellsO l)[j]? = some v → W.rangeAt g (0 + j * 23) v := fun j v hv => by
    rcases hl.ol.cells with h | ⟨b', off', e, hcc⟩
    · omega
    · simp only [Option.some.injEq, Addr.mk.injEq, and_true] at e
      obtain ⟨rfl, rfl⟩ := e
      exact hcc j v hv
  by_cases h0 : i = 0
  · subst h0
    have hrun := run_append_nothing (P := Try.prog) W 22 22 o.type 40 i0 und22 hi0 (some ⟨g, 0 + 0 * 23, none⟩) (n - 0) (n - 0) (Nat.le_refl _) (.slice (some ⟨g, 0, none⟩) 0 cap) (Src.ofSlice (w := W) und22 ⟨g, 0, none⟩ 0 cap [] (by simp) (by simp) (by simp))
    have hh := k (some ⟨g, 0 + 0 * 23, none⟩) n W (by simpa using hl.ol) (Below.refl _ _)
    unfold Oper.wp execOp
    simp only [ho, resolve, invoke, builtin, Sem.run_bind, Sem.run_pure, Result.andThen_ok, List.map_toArray, List.map_cons, List.map_nil, hx, hy, hrun]
    exact hh
  · have e1 : cellsO (l.drop i) = (cellsO l).drop i := by simp [cellsO, List.map_drop]
    have e2 : cellsO (l.take i) = (cellsO l).take i := by simp [cellsO, List.map_take]
    have hold := flat_at (w := W) (b := g) (off := 0) (size := 23) (by omega) (k := i) (cellsO_each (l.drop i)) (fun j v hv => by
      rw [e1, List.getElem?_drop] at hv
      exact hc _ _ hv)
    have hnew := flat_at (w := W) (b := g) (off := 0) (size := 23) (by omega) (k := 0) (cellsO_each (l.take i)) (fun j v hv => by
      rw [e2] at hv
      have hj : j < i := by have := (List.getElem?_eq_some_iff.1 hv).1; simp at this; omega
      rw [List.getElem?_take_of_lt hj] at hv
      rw [show 0 + (0 + j) * 23 = 0 + j * 23 by omega]
      exact hc _ _ hv)
    obtain ⟨v', w', hrun, r1, r2⟩ := run_append_arg_grows (P := Try.prog) W 22 o.type 40 i0 _ 23 84 und22 hi0 hz0 hz1 hz2 rfl (by omega) ⟨g, 0 + i * 23, none⟩ (n - i) (n - i) (cellsO (l.drop i)).flatten (by rw [flat_len (cellsO_each _)]; simp [cellsO, hlen]) (fun j u hu => by rw [Addr.add_lit]; exact hold j u hu) ⟨g, 0, none⟩ i cap (cellsO (l.take i)).flatten (by rw [flat_len (cellsO_each _)]; simp [cellsO, hlen]; omega) (fun j u hu => by rw [Addr.add_lit]; have := hnew j u hu; rw [Nat.zero_mul, Nat.add_zero] at this; exact this) (by omega) (by unfold maxLen; omega) (by omega)
    have e3 : n - i + i = n := by omega
    rw [e3, ← List.flatten_append, show cellsO (l.drop i) ++ cellsO (l.take i) = cellsO (l.drop i ++ l.take i) by simp [cellsO]] at r1
    obtain ⟨a', cap', rfl⟩ : ∃ a' cap', v' = .slice a' n cap' := by
      rcases r1.2 with ⟨h1, h2⟩ | ⟨g', cap', cur, h1, _⟩
      · omega
      · exact ⟨_, _, h1⟩
    have hown : OwnO w' W.heap.size a' n cap' (l.drop i ++ l.take i) := ⟨r1, cellsO_each _, by simp [cellsO, hlen]; omega⟩
    unfold Oper.wp execOp
    simp only [ho, resolve, invoke, builtin, Sem.run_bind, Sem.run_pure, Result.andThen_ok, List.map_toArray, List.map_cons, List.map_nil, hx, hy, hrun]
    exact k a' cap' w' hown.gl ⟨r2.os, r2.tape, r2.output, r2.size, fun j hj => r2.block j hj (by simp)⟩
/-- An operation whatever its rule. -/
theorem held_wp {ops : Array Oper} {Q : Exit → Act → World → Prop} {S : World → Prop} {fuel : Nat} {listed : Array Bool} {a : Act} {w : World} (i : Nat) (d : Tmp) {oi : Oper} {R : Value → World → Prop} (hd : oi.dst = some d) (hi : ops[i]? = some oi) (hr : Region.ready .any ops listed = [i]) (hw : Region.wanted oi (yielded ops a.tmps) = true)
    (hwp : ∀ K : Act → World → Prop, (∀ v w', R v w' → K (a.put oi.dst v) w') → Oper.wp Try.prog oi a w K Q)
    (h : ∀ v w', R v w' → S w' ∧ wpAnyH Try.prog .any ops Q S fuel (listed.setIfInBounds i true) (a.put (some d) v) w') : wpAnyH Try.prog .any ops Q S (fuel + 1) listed a w := by
  refine wpAnyH_ready (rs := [i]) hr (by simp) (AllReadyH.cons hi (fun K hK => ?_) AllReadyH.nil)
  rw [if_pos hw]
  exact hwp K (fun v w' hR => hK.out _ _ (h v w' hR).1 (fun _ => by rw [hd]; exact (h v w' hR).2))

/-- Exchanged and turned, the same operations. -/
theorem turned_perm {l : List O} {i k : Nat} {x y : O} (hx : l[i]? = some x) (hy : l[k]? = some y) : ((((l.set i y).set k x)).drop i ++ ((l.set i y).set k x).take i).Perm l := by
  obtain ⟨h1, rfl⟩ := List.getElem?_eq_some_iff.1 hx
  obtain ⟨h2, rfl⟩ := List.getElem?_eq_some_iff.1 hy
  refine List.perm_append_comm.trans ?_
  rw [List.take_append_drop]
  exact List.set_set_perm h1 h2
theorem lines_perm {L M : List O} (h : L.Perm M) (hu : Unlike L) (its : List Nat) : its.map (lineCs M) = its.map (lineCs L) := by
  refine List.map_congr_left fun i _ => ?_
  unfold lineCs
  rw [qty_perm h hu]
theorem unlike_filter {l : List O} (h : Unlike l) (b : O → Bool) : Unlike (l.filter b) := fun a ha c hc e => h a (List.mem_filter.1 ha).1 c (List.mem_filter.1 hc).1 e
theorem und35 : Try.prog.underlying 35 = some (.array 2 5) := by kernel_rfl
theorem cells35a : Try.prog.cellsOf 35 = 2 := by kernel_rfl
set_option maxRecDepth 100000 in
theorem okWide_pair {W : World} {r : Reach} {b : Nat} {v : Value} (h : Value.okWide Try.prog W r b 35 v) : ∃ cs, v = .agg cs ∧ cs.size = 2 := by
  simp only [Value.okWide, und35] at h
  obtain ⟨cs, h1, h2, _⟩ := h
  exact ⟨cs, h1, h2.trans cells35a⟩
set_option maxRecDepth 100000 in
theorem pair_of {H : Type} {enc : TypeId × Value → H} {W : World} {r : Reach} {b : Nat} {v : Value} {d : DataW H} {p : List MemPlace} (hv : Value.okWide Try.prog W r b 35 v)
    (h : DataW.Trod enc Try.prog W 0 (fun _ => true) true 35 v d p) : ∃ x y : Nat, x < 256 ∧ y < 256 ∧ v = .agg #[.int .u8 (x : Int), .int .u8 (y : Int)] := by
  obtain ⟨cs, rfl, hs⟩ := okWide_pair hv
  obtain ⟨fuel, hf⟩ := h
  obtain ⟨l, rfl⟩ : ∃ l : List Value, cs = l.toArray := ⟨cs.toList, by simp⟩
  have hl : l.length = 2 := by simpa using hs
  obtain ⟨xs, m, _, _, _, hxl, hg⟩ := DataW.trod_array und35 hf
  match l, hl, xs, hxl with
  | [c0, c1], _, [y0, y1], _ =>
    have h0 : DataW.trod enc Try.prog W 0 (fun _ => true) true m 5 [c0] = some y0 := by
      have := hg 0 (by omega)
      simpa [cells5k, Value.cells] using this
    have h1 : DataW.trod enc Try.prog W 0 (fun _ => true) true m 5 [c1] = some y1 := by
      have := hg 1 (by omega)
      simpa [cells5k, Value.cells] using this
    obtain ⟨x, hx, rfl⟩ := u8_cell h0
    obtain ⟨y, hy, rfl⟩ := u8_cell h1
    exact ⟨x, y, hx, hy, rfl⟩
theorem box35 (x y : Nat) (w : World) : (Instr.box 35 (.agg #[.int .u8 (x : Int), .int .u8 (y : Int)])).run Try.prog w = .ok (.pointer (some ⟨w.heap.size, 0, none⟩)) (w.alloc (.cells #[.int .u8 (x : Int), .int .u8 (y : Int)] 35)) := by
  simp [Instr.box, newVar, newRow, Value.cells, go_sem]

section
variable {ev : Operand → Value} {q : Oper} {w : World}
theorem exec_conv8 {x : Operand} {n : Nat} (ho : q.op = .convert 5 3 x) (hx : ev x = .int .u8 (n : Int)) (hn : n < 256) : (execOp ev q).run Try.prog w = .ok (.value (.int .i64 (n : Int))) w := by
  have e : IntKind.i64.wrap (n : Int) = (n : Int) := by rw [IntKind.wrap_i64]; omega
  have h : (convert 5 3 (.int .u8 (n : Int))).run Try.prog w = .ok (.int .i64 (IntKind.i64.wrap (n : Int))) w := by kernel_rfl
  rw [e] at h
  unfold execOp
  simp only [ho, hx, Sem.run_bind, h, Result.andThen_ok]
  rfl
end

end Go.Proofs.Ytmibfbbkjejkmaa
