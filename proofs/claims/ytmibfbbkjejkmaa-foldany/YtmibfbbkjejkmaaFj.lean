/- Walks of valid, hasAll and Closed of fold. -/
import Derived.Test.YtmibfbbkjejkmaaFi
namespace Go.Proofs.Ytmibfbbkjejkmaa
open Go.RowKit Go.Maps Fold

theorem next_two (v : V) (r s : Nat) : decide (V.nextE v r s = 2) = !V.dotB r s := by
  unfold V.nextE
  cases h : V.dotB r s
  · simp
  · simp only [if_true]
    split
    · rfl
    · split <;> rfl
theorem exec_bldZ {ev : Operand → Value} {q : Oper} {w : World} {z : V} (hz : V.zero = z) (ho : q.op = .build 25 #[]) : (execOp ev q).run Try.prog w = .ok (.value (.agg z.arr)) w := by
  subst hz
  have hm : (#[] : Array (Nat × Operand)).map (fun (i, x) => (i, ev x)) = #[] := by simp
  have hb := build25 w
  unfold execOp
  simp only [ho, hm, Sem.run_bind, hb, Result.andThen_ok]
  rfl

set_option maxRecDepth 100000 in
set_option maxHeartbeats 1000000 in
theorem fvalid_any (r s : Nat) (w : World) (hr : r < 256) (hs : s < 4294967296) : Calls Try.prog 26 #[dotV r s] w (Says (.bool (V.dotB r s)) w) := by
  obtain ⟨z, hz⟩ : ∃ z, V.zero = z := ⟨_, rfl⟩
  have HZ := Lib.hid hz
  have HE : Hid (∀ v : V, decide (V.nextE v r s = 2) = !V.dotB r s) := Lib.hid (fun v => next_two v r s)
  clear hz
  go_enter Try.func26, Try.ntmps26
  go_wp2_with (refine wpList_run rfl (exec_bldZ HZ.out rfl) ?_)
  refine (next_any z r s _ hr hs).mono ?_
  rintro e w1 ⟨rfl, hb1⟩
  have HB1 : Hid (Below w.heap.size w w1) := Lib.hid ((below_one _ _).trans (hb1.mono (below_one w (.cells #[.int .u8 (r : Int), .int .u32 (s : Int)] 38)).size))
  have HE2 := Lib.hid (HE.out z)
  clear hb1 HE
  generalize V.nextV z r s = nv
  generalize V.nextE z r s = ne at HE2
  go_wp2_with (first | (refine wpList_alloc25 HZ.out rfl rfl ?_) | (refine wpList_stop rfl ?_))
  refine ⟨?_⟩
  refine wpList_void rfl rfl (exec_store25 (p := z) (u := nv) rfl rfl rfl (Blk.new w1 25 z.arr)) ?_
  have HB2 : Hid (Below w.heap.size w ((w1.alloc (.cells z.arr 25)).setRow w1.heap.size nv.arr)) := Lib.hid ((HB1.out.trans ((below_one w1 _).mono HB1.out.size)).trans ((Kept.setRow _ _ _).below (Nat.le_trans HB1.out.size (below_one w1 (.cells z.arr 25)).size) (fun j e => by rw [e]; exact HB1.out.size)))
  generalize (w1.alloc (.cells z.arr 25)).setRow w1.heap.size nv.arr = w2 at HB2
  go_wp2_with fail
  go_ret
  exact ⟨by have := HE2.out; cases h : V.dotB r s <;> rw [h] at this <;> simp at this <;> simp <;> omega, HB2.out⟩

/-- The number in a dot's block. -/
def seqOf (u : Value) (W : World) : Nat := match u with
  | .pointer (some a) => match W.cell? ⟨a.block, 1, none⟩ with
    | some (.int _ z) => z.toNat
    | _ => 0
  | _ => 0
theorem seq_blk {W : World} {p s : Nat} {a : Value} (h : Blk W p 38 #[a, .int .u32 (s : Int)]) : seqOf (.pointer (some ⟨p, 0, none⟩)) W = s := by
  have hc := h.cell 1
  unfold seqOf
  simp only [hc]
  simp
theorem exec_look57 {ev : Operand → Value} {q : Oper} {w : World} {x y : Operand} {m n r s : Nat} {f : Lit → Option Value} {b : Bool} (ho : q.op = .lookup 57 x y true) (hx : ev x = .map (some m)) (hy : ev y = dotV r s) (h : MpF w 38 m n f) (hr : r < 256) (hs : s < 4294967296) (hu : ∀ kl u, f kl = some u → u = .agg #[]) (hb : (f (kd r s)).isSome = b) : (execOp ev q).run Try.prog w = .ok (.value (.tuple #[.agg #[], .bool b])) w := by
  subst hb
  have hl := h.look_ok law38 und57 (zero59 w) (key38 hr hs)
  have e1 : (f (kd r s)).getD (.agg #[]) = .agg #[] := by
    cases hf : f (kd r s) with
    | none => rfl
    | some u => exact hu _ _ hf
  rw [e1] at hl
  unfold execOp
  simp only [ho, hx, hy, Sem.run_bind, hl, Result.andThen_ok]
  rfl
structure Ha (w W : World) (v : V) (m n : Nat) (f : Lit → Option Value) : Prop where
  box : Blk W w.heap.size 25 v.arr
  mp : MpF W 38 m n f
  old : Below w.heap.size w W
theorem Ha.below {w W W' : World} {v : V} {m n : Nat} {f : Lit → Option Value} (h : Ha w W v m n f) (hb : Below W.heap.size W W') : Ha w W' v m n f := ⟨h.box.below hb, h.mp.below hb, h.old.trans (hb.mono h.old.size)⟩
def inM (f : Lit → Option Value) (r s : Nat) : Prop := (f (kd r s)).isSome = true
def HaR (w : World) (v : V) (m n : Nat) (f : Lit → Option Value) (u : Value) (W : World) : Prop :=
  ∃ k : Nat, u = .int .i64 (k : Int) ∧ k ≤ 16 ∧ Hid (∀ r, r < k → ∀ s, V.hasB v r s = true → inM f r s) ∧ Hid (Ha w W v m n f)
def HiR (w : World) (v : V) (m n k : Nat) (f : Lit → Option Value) (u : Value) (W : World) : Prop :=
  ∃ p s : Nat, u = .pointer (some ⟨p, 0, none⟩) ∧ 1 ≤ s ∧ s ≤ 1048577 ∧ Hid (Blk W p 38 #[.int .u8 (k : Int), .int .u32 (s : Int)]) ∧ Hid (w.heap.size < p) ∧ Hid (∀ s', s' < s → V.hasB v k s' = true → inM f k s') ∧ Hid (Ha w W v m n f)
def SaysIff (P : Prop) (w : World) (e : Ending) (w' : World) : Prop := ∃ b : Bool, e = .returned (.bool b) ∧ (b = true ↔ P) ∧ Below w.heap.size w w'

set_option maxRecDepth 100000 in
set_option maxHeartbeats 1000000 in
theorem hasAll_any (v : V) {m n : Nat} {f : Lit → Option Value} {w : World} (hm : MpF w 38 m n f) (hu : ∀ kl u, f kl = some u → u = .agg #[]) : Calls Try.prog 28 #[.map (some m), .agg v.arr] w (SaysIff (∀ r s, V.hasB v r s = true → inM f r s) w) := by
  have hb1 := fun (v : V) (w : World) => box25 v w
  have HA : Hid (Ha w (w.alloc (.cells v.arr 25)) v m n f) := Lib.hid ⟨Blk.new _ _ _, hm.below (below_one _ _), below_one _ _⟩
  have HU := Lib.hid hu
  clear hm hu
  go_enter Try.func28, Try.ntmps28
  go_wp2_with fail
  clear hb1
  generalize w.alloc (.cells v.arr 25) = w0 at HA
  go_loopw [9] (HaR w v m n f) (fun u _ => 16 - (numI u).toNat)
  case atStart => exact ⟨0, rfl, by omega, Lib.hid (fun r h => by omega), HA⟩
  case round =>
    obtain ⟨k, rfl, hk, HF, HB⟩ := hrel
    clear HA
    by_cases hlt : k < 16
    · have HK : Hid (k < 256) := Lib.hid (by omega)
      go_wp2_with fail
      have HI0 : Hid (Blk (wr.alloc (.cells #[.int .u8 (k : Int), .int .u32 1] 38)) wr.heap.size 38 #[.int .u8 (k : Int), .int .u32 ((1 : Nat) : Int)]) := Lib.hid (Blk.new _ _ _)
      have HA0 : Hid (Ha w (wr.alloc (.cells #[.int .u8 (k : Int), .int .u32 1] 38)) v m n f) := Lib.hid (HB.out.below (below_one _ _))
      have HP0 : Hid (w.heap.size < wr.heap.size) := Lib.hid HB.out.box.lt
      generalize wr.alloc (.cells #[.int .u8 (k : Int), .int .u32 1] 38) = w1 at HI0 HA0
      generalize wr.heap.size = p0 at HI0 HP0
      clear HB
      have hdk : decide ((k : Int) < 16) = true := by simp; omega
      simp only [hdk]
      clear hdk
      go_loopw [6] (HiR w v m n k f) (fun u W => 1048578 - seqOf u W)
      case atStart => exact ⟨p0, 1, rfl, by omega, by omega, HI0, HP0, Lib.hid (fun s' h h2 => by obtain rfl : s' = 0 := (by omega); simp [V.hasB, V.dotB] at h2), HA0⟩
      case round =>
        obtain ⟨p, s, rfl, hs1, hs2, HD, HP, HF2, HA⟩ := hrel
        clear HI0 HA0 HP0
        go_wp2_with (first | (refine wpList_run rfl (exec_load25 (v := v) rfl rfl HA.out.box) ?_) | (refine wpList_run rfl (exec_load38 rfl rfl HD.out) ?_))
        refine (has_any v k s _ HK.out (by omega)).mono ?_
        rintro e w2 ⟨rfl, hb2⟩
        have HA2 := Lib.hid (HA.out.below hb2)
        have HD2 := Lib.hid (HD.out.below hb2)
        have HDR := HD
        clear hb2 HA HD
        cases hh : V.hasB v k s
        · have HF3 : Hid (∀ r, r < k + 1 → ∀ s, V.hasB v r s = true → inM f r s) := Lib.hid (fun r hr s' h' => by
            by_cases e : r = k
            · subst e
              refine HF2.out s' ?_ h'
              simp only [V.hasB, V.dotB, Bool.and_eq_true, decide_eq_true_eq, Bool.and_eq_false_iff, decide_eq_false_iff_not] at h' hh
              omega
            · exact HF.out r (by omega) s' h')
          clear hh
          go_wp2_with fail
          go_roundw
          case rel => exact ⟨k + 1, by go_num, by omega, HF3, HA2⟩
          case measure => simp [numI]; omega
        · have HH := Lib.hid hh
          have hs3 : s ≤ 1048576 := by
            simp only [V.hasB, V.dotB, Bool.and_eq_true, decide_eq_true_eq] at hh
            omega
          clear hh
          obtain ⟨b, hb⟩ : ∃ b, (f (kd k s)).isSome = b := ⟨_, rfl⟩
          have HBB := Lib.hid hb
          clear hb
          cases b
          · have HE : Hid (∀ W, Below w2.heap.size w2 W → SaysIff (∀ r s, V.hasB v r s = true → inM f r s) w (.returned (.bool false)) W) := Lib.hid (fun W hb => ⟨false, rfl, (by
              simp only [Bool.false_eq_true, false_iff]
              intro hall
              have := hall k s HH.out
              unfold inM at this
              rw [HBB.out] at this
              cases this), HA2.out.old.trans (hb.mono HA2.out.old.size)⟩)
            go_wp2_with (first | (refine wpList_run rfl (exec_load38 rfl rfl HD2.out) ?_) | (refine wpList_run rfl (exec_look57 rfl rfl rfl HA2.out.mp HK.out (by omega) HU.out HBB.out) ?_))
            go_ret
            exact HE.out _ (below_one _ _)
          · have HD3 := Lib.hid (HD2.out.below (below_one w2 (.cells #[] 59)))
            go_wp2_with (first | (refine wpList_run rfl (exec_load38 rfl rfl HD2.out) ?_) | (refine wpList_run rfl (exec_load38 rfl rfl HD3.out) ?_) | (refine wpList_run rfl (exec_look57 rfl rfl rfl HA2.out.mp HK.out (by omega) HU.out HBB.out) ?_))
            have HN : Hid (Blk ((w2.alloc (.cells #[] 59)).alloc (.cells #[.int .u8 (k : Int), .int .u32 ((s : Int) + 1)] 38)) (w2.heap.size + 1) 38 #[.int .u8 (k : Int), .int .u32 ((s + 1 : Nat) : Int)]) := Lib.hid (by
              have h := Blk.new (w2.alloc (.cells #[] 59)) 38 #[.int .u8 (k : Int), .int .u32 ((s : Int) + 1)]
              rw [World.size_alloc] at h
              rw [show ((s + 1 : Nat) : Int) = (s : Int) + 1 by omega]
              exact h)
            have HAN : Hid (Ha w ((w2.alloc (.cells #[] 59)).alloc (.cells #[.int .u8 (k : Int), .int .u32 ((s : Int) + 1)] 38)) v m n f) := Lib.hid (HA2.out.below (below_two' _ _ _))
            have HPN : Hid (w.heap.size < w2.heap.size + 1) := Lib.hid (by have := HA2.out.box.lt; omega)
            have HFN : Hid (∀ s', s' < s + 1 → V.hasB v k s' = true → inM f k s') := Lib.hid (fun s' h h2 => by
              by_cases e : s' = s
              · subst e; exact HBB.out
              · exact HF2.out s' (by omega) h2)
            go_roundw
            case rel => exact ⟨_, s + 1, rfl, by omega, by omega, HN, HPN, HFN, HAN⟩
            case measure =>
              have e1 := seq_blk HN.out
              have e2 := seq_blk HDR.out
              simp [e1, e2]
              omega
    · have hk16 : k = 16 := by omega
      have HE : Hid (SaysIff (∀ r s, V.hasB v r s = true → inM f r s) w (.returned (.bool true)) wr) := Lib.hid ⟨true, rfl, by simp only [true_iff]; exact fun r s h => HF.out r (by have := dotB_lt (by unfold V.hasB at h; exact (Bool.and_eq_true_iff.1 h).1); omega) s h, HB.out.old⟩
      go_wp2_with fail
      go_ret
      exact HE.out

/-- Where a list that is not empty lies. -/
theorem OL.inside {w : World} {a : Option Addr} {n : Nat} {l : List O} (h : OL w a n l) {ad : Addr} (e : a = some ad) (h0 : n ≠ 0) : ad.block < w.heap.size := by
  obtain ⟨b, off, x, ha, hx, hr⟩ := OL.at h (i := 0) (by omega)
  rw [ha] at e
  obtain rfl := Option.some.inj e
  have hc := hr 0 (.int .u8 (x.r : Int)) rfl
  by_cases hb : b < w.heap.size
  · exact hb
  · simp [World.cell?, Array.getElem?_eq_none (Nat.not_lt.1 hb)] at hc

/-! Closed. -/
theorem makeMap_hint (n : Int) (w : World) : (Instr.makeMap 57 (some (.int .i64 n))).run Try.prog w = .ok (.map (some w.heap.size)) (w.alloc (.map #[] 0)) := by
  unfold Instr.makeMap
  simp only [Sem.run_bind, run_underlying und57, Result.andThen_ok]
  rfl
def joinTo (l : List O) (k : Nat) : V := (l.take k).foldl (fun v o => V.join v o.v) V.zero
theorem joinTo_succ {l : List O} {k : Nat} {x : O} (hx : l[k]? = some x) : joinTo l (k + 1) = V.join (joinTo l k) x.v := by
  unfold joinTo; rw [List.take_add_one, hx, List.foldl_append]; rfl
def Differ (l : List O) : Prop := l.Pairwise fun a b => ¬ (a.r = b.r ∧ a.s = b.s)
structure Cs (W : World) (g m : Nat) (a : Option Addr) (l : List O) (k cnt : Nat) (f : Lit → Option Value) : Prop where
  vec : Blk W g 25 (joinTo l k).arr
  mp : MpF W 38 m cnt f
  cnt : cnt ≤ k ∧ (cnt = k ↔ Differ (l.take k))
  dom : ∀ r s, r < 256 → s < 4294967296 → ((f (kd r s)).isSome = true ↔ ∃ o ∈ l.take k, o.r = r ∧ o.s = s)
  unit : ∀ kl u, f kl = some u → u = .agg #[]
  valid : ∀ o ∈ l.take k, V.dotB o.r o.s = true
  ol : OL W a l.length l
  olt : ∀ ad, a = some ad → l.length ≠ 0 → ad.block < g
  apart : g < m
theorem Cs.below {W W' : World} {g m k cnt : Nat} {a : Option Addr} {l : List O} {f : Lit → Option Value} (h : Cs W g m a l k cnt f) (hb : Below W.heap.size W W') : Cs W' g m a l k cnt f :=
  ⟨h.vec.below hb, h.mp.below hb, h.cnt, h.dom, h.unit, h.valid, h.ol.below hb, h.olt, h.apart⟩
theorem Cs.step {W W' : World} {g m k cnt : Nat} {a : Option Addr} {l : List O} {f : Lit → Option Value} {x : O} (h : Cs W g m a l k cnt f) (hx : l[k]? = some x) (hd : V.dotB x.r x.s = true)
    (hv : Blk W' g 25 (joinTo l (k + 1)).arr) (hm : MpF W' 38 m (if (f (kd x.r x.s)).isSome then cnt else cnt + 1) (upd f (kd x.r x.s) (.agg #[]))) (ho : OL W' a l.length l) : Cs W' g m a l (k + 1) (if (f (kd x.r x.s)).isSome then cnt else cnt + 1) (upd f (kd x.r x.s) (.agg #[])) := by
  have et : l.take (k + 1) = l.take k ++ [x] := by rw [List.take_add_one, hx]; rfl
  have hdm := h.dom x.r x.s x.hr x.hs
  refine ⟨hv, hm, ?_, fun r s hr hs => ?_, fun kl u hu => ?_, fun o ho => ?_, ho, h.olt, h.apart⟩
  · have hc := h.cnt
    rw [et]
    have hp : Differ (l.take k ++ [x]) ↔ Differ (l.take k) ∧ ∀ o ∈ l.take k, ¬ (o.r = x.r ∧ o.s = x.s) := by
      unfold Differ
      rw [List.pairwise_append]
      simp
    cases hf : (f (kd x.r x.s)).isSome
    · have hno : ∀ o ∈ l.take k, ¬ (o.r = x.r ∧ o.s = x.s) := fun o ho e => by
        rw [hf] at hdm
        exact absurd (hdm.2 ⟨o, ho, e⟩) (by simp)
      rw [hp]
      simp only [Bool.false_eq_true, if_false]
      refine ⟨by omega, ⟨fun e => ⟨hc.2.1 (by omega), hno⟩, fun e => by have := hc.2.2 e.1; omega⟩⟩
    · rw [hf] at hdm
      obtain ⟨o, ho, e⟩ := hdm.1 rfl
      rw [hp]
      simp only [if_true]
      refine ⟨by omega, ⟨fun e => by omega, fun e2 => absurd e (e2.2 o ho)⟩⟩
  · rw [et]
    by_cases e : kd r s = kd x.r x.s
    · obtain ⟨rfl, rfl⟩ := kd_inj hr hs x.hr x.hs e
      rw [upd_same]
      simp
    · rw [upd_other _ _ e, h.dom r s hr hs]
      constructor
      · rintro ⟨o, ho, h2⟩
        exact ⟨o, List.mem_append_left _ ho, h2⟩
      · rintro ⟨o, ho, h2⟩
        rcases List.mem_append.1 ho with ho | ho
        · exact ⟨o, ho, h2⟩
        · obtain rfl : o = x := by simpa using ho
          exact absurd (by rw [h2.1, h2.2]) e
  · by_cases e : kl = kd x.r x.s
    · subst e
      rw [upd_same] at hu
      exact (Option.some.inj hu).symm
    · rw [upd_other _ _ e] at hu
      exact h.unit kl u hu
  · rw [et] at ho
    rcases List.mem_append.1 ho with ho | ho
    · exact h.valid o ho
    · obtain rfl : o = x := by simpa using ho
      exact hd
theorem joinTo_has (l : List O) (r s : Nat) (hd : V.dotB r s = true) : ∀ k, (V.hasB (joinTo l k) r s = true ↔ ∃ o ∈ l.take k, V.hasB o.v r s = true)
  | 0 => by
    have hs := dotB_lt hd
    have e : joinTo l 0 = V.zero := rfl
    rw [e]
    have h0 := V.zero_at r
    simp [V.hasB, h0]
    omega
  | k + 1 => by
    by_cases hk : k < l.length
    · have hx := List.getElem?_eq_getElem hk
      rw [joinTo_succ hx, List.take_add_one, hx]
      have ih := joinTo_has l r s hd k
      have hr := (dotB_lt hd).1
      have e : V.hasB (V.join (joinTo l k) l[k].v) r s = (V.hasB (joinTo l k) r s || V.hasB l[k].v r s) := by
        simp only [V.hasB, V.join_at _ _ hr, hd, Bool.true_and]
        rw [← Bool.decide_or]
        congr 1
        simp only [eq_iff_iff]
        omega
      rw [e, Bool.or_eq_true, ih]
      simp only [Option.toList_some, List.mem_append, List.mem_singleton]
      constructor
      · rintro (⟨o, ho, h⟩ | h)
        · exact ⟨o, .inl ho, h⟩
        · exact ⟨_, .inr rfl, h⟩
      · rintro ⟨o, ho | rfl, h⟩
        · exact .inl ⟨o, ho, h⟩
        · exact .inr h
    · have e : joinTo l (k + 1) = joinTo l k := by unfold joinTo; rw [List.take_of_length_le (by omega), List.take_of_length_le (by omega)]
      rw [e, joinTo_has l r s hd k, List.take_of_length_le (by omega), List.take_of_length_le (by omega)]
theorem closed_iff {W : World} {g m cnt : Nat} {a : Option Addr} {l : List O} {f : Lit → Option Value} (h : Cs W g m a l l.length cnt f) : Closed l ↔ cnt = l.length ∧ ∀ r s, V.hasB (joinTo l l.length) r s = true → inM f r s := by
  have hc := h.cnt.2
  have hv := h.valid
  have hd := h.dom
  rw [List.take_of_length_le (Nat.le_refl _)] at hc hv hd
  rw [hc]
  have hj := fun r s hd => joinTo_has l r s hd l.length
  rw [List.take_of_length_le (Nat.le_refl _)] at hj
  have hB : ∀ {v : V} {r s : Nat}, V.hasB v r s = true → V.dotB r s = true := fun h => by unfold V.hasB at h; exact (Bool.and_eq_true_iff.1 h).1
  constructor
  · intro hcl
    refine ⟨hcl.unlike, fun r s hh => ?_⟩
    obtain ⟨o, ho, h2⟩ := (hj r s (hB hh)).1 hh
    have hb := dotB_lt (hB hh)
    exact (hd r s (by omega) (by omega)).2 (hcl.known o ho r s h2)
  · rintro ⟨h1, h2⟩
    refine ⟨hv, h1, fun o ho r s hh => ?_⟩
    have hb := dotB_lt (hB hh)
    exact (hd r s (by omega) (by omega)).1 (h2 r s ((hj r s (hB hh)).2 ⟨o, ho, hh⟩))
def ClR (w : World) (g m : Nat) (a : Option Addr) (n : Nat) (l : List O) (u : Value) (W : World) : Prop :=
  ∃ (k cnt : Nat) (f : Lit → Option Value), u = .int .i64 (k : Int) ∧ k ≤ n ∧ Hid (Cs W g m a l k cnt f) ∧ Hid (Below w.heap.size w W)

set_option maxRecDepth 100000 in
set_option maxHeartbeats 2000000 in
theorem closed_any {a : Option Addr} {n cap : Nat} {l : List O} {w : World} (hl : OL w a n l) (hn : n < 1000000) : Calls Try.prog 16 #[.slice a n cap] w (SaysIff (Closed l) w) := by
  obtain ⟨zo, ho⟩ : ∃ z, O.zero = z := ⟨_, rfl⟩
  have HO := Lib.hid ho
  obtain ⟨z, hz⟩ : ∃ z, V.zero = z := ⟨_, rfl⟩
  have HZ := Lib.hid hz
  have HL := Lib.hid hl
  have HLEN := Lib.hid hl.len'
  have HLT : Hid (∀ ad, a = some ad → l.length ≠ 0 → ad.block < w.heap.size) := Lib.hid (fun ad e h0 => hl.inside e (by rw [← hl.len']; exact h0))
  have hmm := makeMap_hint
  clear ho hz hl
  go_enter Try.func16, Try.ntmps16
  go_wp2_with (refine wpList_alloc25 HZ.out rfl rfl ?_)
  clear hmm
  have HC : Hid (Cs ((w.alloc (.cells z.arr 25)).alloc (.map #[] 0)) w.heap.size (w.heap.size + 1) a l 0 0 (fun _ => none)) := Lib.hid (by
    have h1 := Blk.new w 25 z.arr
    have h2 := mpF_new (w.alloc (.cells z.arr 25)) 38
    rw [World.size_alloc] at h2
    exact ⟨by have e : joinTo l 0 = z := HZ.out
              rw [e]; exact h1.below (below_one _ _), h2, ⟨Nat.le_refl _, by simp [Differ]⟩, fun _ _ _ _ => by simp, fun _ _ h => (by cases h), fun o h => (by simp at h), by rw [HLEN.out]; exact HL.out.below (below_two' _ _ _), HLT.out, by omega⟩)
  have HB0 : Hid (Below w.heap.size w ((w.alloc (.cells z.arr 25)).alloc (.map #[] 0))) := Lib.hid (below_two' _ _ _)
  generalize (w.alloc (.cells z.arr 25)).alloc (.map #[] 0) = w0 at HC HB0
  obtain ⟨g, hg⟩ : ∃ g, w.heap.size = g := ⟨_, rfl⟩
  obtain ⟨m, hm⟩ : ∃ m, g + 1 = m := ⟨_, rfl⟩
  rw [hg, hm] at HC
  rw [hg, hm]
  have HG : Hid (w.heap.size = g ∧ g + 1 = m) := Lib.hid ⟨hg, hm⟩
  clear hg hm
  go_loopw [12] (ClR w g m a n l) (fun u _ => n - (numI u).toNat)
  case atStart => exact ⟨0, 0, _, rfl, Nat.zero_le _, HC, HB0⟩
  case round =>
    obtain ⟨k, cnt, f, rfl, hk, HS, HB⟩ := hrel
    clear HC HB0
    by_cases hlt : k < n
    · obtain ⟨b, off, x, rfl, hx, hr⟩ := OL.at HS.out.ol (by rw [HLEN.out]; exact hlt)
      have HX := Lib.hid hx
      have HR := Lib.hid hr
      clear hx hr
      go_wp2_with (first | (refine wpList_run rfl (exec_idxO (i := k) rfl rfl rfl rfl hlt) ?_) | (refine wpList_run rfl (exec_ldO rfl rfl HR.out) ?_) | (refine wpList_run rfl (exec_alloc40z HO.out rfl) ?_) | (refine wpList_stop40 rfl ?_))
      refine ⟨?_⟩
      refine wpList_void rfl rfl (exec_store40 (p := zo) (u := x) rfl rfl rfl (Blk.new wr 40 zo.arr)) ?_
      have H1 : Hid (Ow wr ((wr.alloc (.cells zo.arr 40)).setRow wr.heap.size x.arr) x) := Lib.hid ⟨olaid_blk wr zo x, olaid_old wr zo x⟩
      generalize (wr.alloc (.cells zo.arr 40)).setRow wr.heap.size x.arr = w1 at H1
      go_wp2_with (refine wpList_run rfl (exec_dot (p := x) rfl rfl H1.out.one) ?_)
      refine (fvalid_any x.r x.s _ x.hr x.hs).mono ?_
      rintro e w2 ⟨rfl, hb2⟩
      have H2 := Lib.hid (H1.out.below hb2)
      have HS2 := Lib.hid (HS.out.below H2.out.old)
      have HB2 : Hid (Below w.heap.size w w2) := Lib.hid (HB.out.trans (H2.out.old.mono HB.out.size))
      have HPM : Hid (¬ wr.heap.size = m) := Lib.hid (fun e => by have := HS.out.mp.lt; omega)
      have HPG : Hid (¬ wr.heap.size = g) := Lib.hid (fun e => by have := HS.out.vec.lt; omega)
      clear hb2 H1 HS HR
      cases hd : V.dotB x.r x.s
      · have HE : Hid (SaysIff (Closed l) w (.returned (.bool false)) w2) := Lib.hid ⟨false, rfl, (by
          simp only [Bool.false_eq_true, false_iff]
          intro hc
          have := hc.valid x (List.mem_of_getElem? HX.out)
          rw [hd] at this
          cases this), HB2.out⟩
        clear hd
        go_wp2_with fail
        go_ret
        exact HE.out
      · have HD := Lib.hid hd
        clear hd
        have HP2 := Lib.hid H2.out.one
        generalize wr.heap.size = p at HPM HPG HP2
        go_wp2_with (first | (refine wpList_run rfl (exec_dot (p := x) rfl rfl HP2.out) ?_) | (refine wpList_stopMU rfl ?_))
        refine ⟨?_⟩
        obtain ⟨w3, hrun, hmp3, hk3⟩ := HS2.out.mp.put law38 und57 (by have := HS2.out.cnt.1; omega) (v := .agg #[]) (key38 x.hr x.hs)
        refine wpList_void rfl rfl (exec_upd rfl rfl rfl rfl hrun) ?_
        have HP3 := Lib.hid (HP2.out.kept hk3 HPM.out)
        have HVC := Lib.hid (HS2.out.vec.kept hk3 (by have := HS2.out.apart; omega))
        have HMP := Lib.hid hmp3
        have HOL3 : Hid (OL w3 (some ⟨b, off, none⟩) l.length l) := Lib.hid (HS2.out.ol.keep hk3 (fun ad e h0 => by have := HS2.out.olt ad e h0; have := HS2.out.apart; omega))
        have HB3 : Hid (Below w.heap.size w w3) := Lib.hid (HB2.out.trans (hk3.below HB2.out.size (fun j e => by have := HG.out; omega)))
        clear hrun hmp3 hk3
        go_wp2_with (first | (refine wpList_run rfl (exec_load25 (v := joinTo l k) rfl rfl HVC.out) ?_) | (refine wpList_run rfl (exec_ctx (p := x) rfl rfl HP3.out) ?_))
        refine (join_any (joinTo l k) x.v _).mono ?_
        rintro e w4 ⟨rfl, hb4⟩
        have HVC4 := Lib.hid (HVC.out.below hb4)
        have HMP4 := Lib.hid (HMP.out.below hb4)
        have HOL4 := Lib.hid (HOL3.out.below hb4)
        have HB4 : Hid (Below w.heap.size w w4) := Lib.hid (HB3.out.trans (hb4.mono HB3.out.size))
        clear hb4 HVC HMP HOL3 HB3
        go_wp2_with (refine wpList_stop rfl ?_)
        refine ⟨?_⟩
        refine wpList_void rfl rfl (exec_store25 (p := joinTo l k) (u := V.join (joinTo l k) x.v) rfl rfl rfl HVC4.out) ?_
        have hk5 := Kept.setRow w4 g (V.join (joinTo l k) x.v).arr
        have HN := Lib.hid (HS2.out.step (W' := w4.setRow g (V.join (joinTo l k) x.v).arr) HX.out HD.out (by rw [joinTo_succ HX.out]; exact HVC4.out.row) (HMP4.out.kept hk5 (by have := HS2.out.apart; omega)) (HOL4.out.keep hk5 (fun ad e h0 => by have := HS2.out.olt ad e h0; omega)))
        have HBN : Hid (Below w.heap.size w (w4.setRow g (V.join (joinTo l k) x.v).arr)) := Lib.hid (HB4.out.trans (hk5.below HB4.out.size (fun j e => by have := HG.out; omega)))
        clear hk5
        generalize w4.setRow g (V.join (joinTo l k) x.v).arr = w5 at HN HBN
        go_wp2_with fail
        go_roundw
        case rel => exact ⟨k + 1, _, _, by go_num, hlt, HN, HBN⟩
        case measure => simp [numI]; omega
    · obtain rfl : k = n := by omega
      have hlen := fun (ty : TypeId) => HS.out.mp.len und57 ty
      by_cases hc : cnt = k
      · have hq : ((cnt : Int) == (k : Int)) = true := by simp; omega
        have HC2 := Lib.hid hc
        have HHA := Lib.hid (fun (W : World) (hm : MpF W 38 m cnt f) => hasAll_any (joinTo l k) hm HS.out.unit)
        clear hc
        go_wp2_with (first | (refine wpList_runW (exec_load25 (v := joinTo l k) rfl rfl HS.out.vec) (by kernel_rfl) ?_))
        refine (HHA.out _ HS.out.mp).mono ?_
        rintro e w6 ⟨b, rfl, hb, hb6⟩
        have HE : Hid (SaysIff (Closed l) w (.returned (.bool b)) w6) := Lib.hid ⟨b, rfl, by
          have h := HS.out
          rw [← HLEN.out] at h
          rw [closed_iff h, hb, HLEN.out]
          simp [HC2.out], HB.out.trans (hb6.mono HB.out.size)⟩
        clear hb hb6 HHA
        go_wp2_with fail
        go_ret
        exact HE.out
      · have hq : ((cnt : Int) == (k : Int)) = false := by simp; omega
        have HE : Hid (SaysIff (Closed l) w (.returned (.bool false)) wr) := Lib.hid ⟨false, rfl, by
          have h := HS.out
          rw [← HLEN.out] at h
          rw [closed_iff h, HLEN.out]
          simp [hc], HB.out⟩
        clear hc
        go_wp2_with fail
        go_ret
        exact HE.out

end Go.Proofs.Ytmibfbbkjejkmaa
