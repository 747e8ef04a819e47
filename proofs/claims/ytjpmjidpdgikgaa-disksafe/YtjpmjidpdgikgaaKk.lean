/- Acts that came in, one and a row of them; walk of few; bytes turned one by one. -/
import Derived.Test.YtjpmjidpdgikgaaKj
import Derived.Test.YtjpmjidpdgikgaaLift
import Derived.Deep.Slices
import Derived.Deep.Fields
import Derived.ChangeSame
import Derived.ChangeMaps5
namespace Go.Proofs.Ytjpmjidpdgikgaa
open Go.ChangeShapes Go.WideShapes Go.ChangeAt Go.RowKit Go.Deep Go.Maps

/-- Of what was answered the bytes from place j on are as they were. -/
def Left (x : List Nat) (b : Option Addr) (m j : Nat) (w : World) : Prop := ∀ i, j ≤ i → i < m → ∃ g, b = some ⟨g, 0, none⟩ ∧ w.cell? ⟨g, i, none⟩ = some (.int .u8 ((x.getD i 0 : Nat) : Int)) ∧ w.frozen? ⟨g, i, none⟩ = false

theorem left_start {w : World} {B : Nat} {b : Option Addr} {m d : Nat} {x : List Nat} (h : Own w B b m d x) (hx : ∀ c ∈ x, c < 256) : Left x b m 0 w := by
  intro i _ hi
  have hr := h.row hx
  obtain ⟨g, off, hb, hc⟩ := hr.cells.resolve_left (by omega)
  rcases h.2 with ⟨h', _⟩ | ⟨g', cap', cur, h', _, hg, _⟩
  · simp only [Value.slice.injEq] at h'
    omega
  · simp only [Value.slice.injEq, true_and] at h'
    obtain ⟨rfl, _⟩ := h'
    simp only [Option.some.injEq, Addr.mk.injEq, and_true] at hb
    obtain ⟨rfl, rfl⟩ := hb
    refine ⟨g', rfl, by simpa using hc i hi, ?_⟩
    simp [World.frozen?, hg]

theorem left_next {w : World} {g m j : Nat} {x : List Nat} (h : Left x (some ⟨g, 0, none⟩) m j w) (v : Value) : Left x (some ⟨g, 0, none⟩) m (j + 1) (w.setCell ⟨g, j, none⟩ v) := by
  intro i h1 h2
  obtain ⟨g', hb, hc, hf⟩ := h i (by omega) h2
  simp only [Option.some.injEq, Addr.mk.injEq, and_true] at hb
  subst hb
  refine ⟨g, rfl, ?_, by rw [World.frozen?_setCell]; exact hf⟩
  rw [World.cell?_setCell_other]
  · exact hc
  · intro e
    simp only [Addr.mk.injEq, and_true, true_and] at e
    omega


/-- A slice of bytes that came in. -/
structure In (w : World) (a : Option Addr) (len cap : Nat) (bs : List Nat) : Prop where
  row : Row w a len bs
  nil : a = none → len = 0 ∧ cap = 0
  le : len ≤ cap
  max : len ≤ 9223372036854775807
theorem In.below {w w' : World} {a : Option Addr} {len cap : Nat} {bs : List Nat} (h : In w a len cap bs) (hb : Below w.heap.size w w') : In w' a len cap bs := ⟨h.row.below hb, h.nil, h.le, h.max⟩
theorem In.keep {S : Nat → Prop} {w w' : World} {a : Option Addr} {len cap : Nat} {bs : List Nat} (h : In w a len cap bs) (k : Kept S w w') (hn : ∀ ad, a = some ad → len ≠ 0 → ¬ S ad.block) : In w' a len cap bs := ⟨h.row.keep k hn, h.nil, h.le, h.max⟩
theorem in_of {H : Type} {enc : TypeId × Value → H} {W : World} {a : Option Addr} {len cap : Nat} {d : DataW H} {p : List MemPlace}
    (h : DataW.Trod enc Try.prog W 0 (fun _ => true) true 23 (.slice a len cap) d p) : ∃ bs, In W a len cap bs := by
  obtain ⟨h1, h2, bs, h3⟩ := row_of h
  refine ⟨bs, h3, fun ha => ?_, ?_, by unfold maxLen at h1; omega⟩
  · rcases h2 with ⟨_, h4, h5⟩ | ⟨x, hx, _⟩
    · exact ⟨h4, h5⟩
    · rw [ha] at hx; cases hx
  · rcases h2 with ⟨_, rfl, rfl⟩ | ⟨x, _, h4, _⟩
    · exact Nat.le_refl _
    · exact h4
/-- An act that came in. -/
structure AV where
  k : Nat
  s : ByteArray
  r : ByteArray
  ba : Option Addr
  bl : Nat
  bc : Nat
  bs : List Nat
  ch : Nat
  ca : Option Addr
  cl : Nat
  cc : Nat
  cuts : List Nat
  n : Int
def AV.arr (x : AV) : Array Value := actA x.k x.s x.r x.ba x.bl x.bc (x.ch : Int) x.ca x.cl x.cc x.n
def AV.cs (x : AV) : List Value := [.int .u8 (x.k : Int), .string x.s, .string x.r, .slice x.ba x.bl x.bc, .int .u8 (x.ch : Int), .slice x.ca x.cl x.cc, .int .i64 x.n]
structure AV.Ok (x : AV) (w : World) : Prop where
  k : x.k < 256
  s : x.s.size ≤ maxLen
  r : x.r.size ≤ maxLen
  b : In w x.ba x.bl x.bc x.bs
  ch : x.ch < 256
  c : In w x.ca x.cl x.cc x.cuts
theorem AV.Ok.below {x : AV} {w w' : World} (h : x.Ok w) (hb : Below w.heap.size w w') : x.Ok w' := ⟨h.k, h.s, h.r, h.b.below hb, h.ch, h.c.below hb⟩
theorem AV.Ok.keep {S : Nat → Prop} {x : AV} {w w' : World} (h : x.Ok w) (k : Kept S w w') (hn : ∀ ad, x.ba = some ad → x.bl ≠ 0 → ¬ S ad.block) (hc : ∀ ad, x.ca = some ad → x.cl ≠ 0 → ¬ S ad.block) : x.Ok w' := ⟨h.k, h.s, h.r, h.b.keep k hn, h.ch, h.c.keep k hc⟩
def AV.few (x : AV) : Bool := decide (x.s.size ≤ 50) && (decide (x.r.size ≤ 50) && (decide (x.bl ≤ 1000) && decide (x.cl ≤ 50)))
theorem cells26' : Try.prog.cellsOf 26 = 7 := by kernel_rfl
theorem cells9' : Try.prog.cellsOf 9 = 1 := by kernel_rfl
theorem cells23' : Try.prog.cellsOf 23 = 1 := by kernel_rfl
theorem cells3' : Try.prog.cellsOf 3 = 1 := by kernel_rfl
theorem sl_of {H : Type} {enc : TypeId × Value → H} {W : World} {fuel : Nat} {c : Value} {y : DataW H × List MemPlace} (h : DataW.trod enc Try.prog W 0 (fun _ => true) true fuel 23 [c] = some y) : ∃ a l cp bs, c = .slice a l cp ∧ In W a l cp bs := by
  have hs : ∃ a l cp, c = .slice a l cp := by
    rcases DataW.trod_slice Try.underlying23 h with ⟨hc, _⟩ | ⟨a, l, cp, _, _, _, _, hc, _⟩
    · exact ⟨none, 0, 0, by simpa using hc⟩
    · exact ⟨some a, l, cp, by simpa using hc⟩
  obtain ⟨a, l, cp, rfl⟩ := hs
  obtain ⟨bs, hb⟩ := in_of (d := y.1) (p := y.2) ⟨fuel, h⟩
  exact ⟨a, l, cp, bs, rfl, hb⟩
set_option maxRecDepth 100000 in
/-- One act that can be read: its cells. -/
theorem act_of {H : Type} {enc : TypeId × Value → H} {W : World} {fuel : Nat} {cs : List Value} {x : DataW H × List MemPlace} (h : DataW.trod enc Try.prog W 0 (fun _ => true) true fuel 26 cs = some x) :
    ∃ v : AV, v.Ok W ∧ cs = v.cs := by
  obtain ⟨ys, n, _, _, hlen, hyl, hf⟩ := DataW.trod_struct Try.underlying26 h
  rw [cells26'] at hlen
  match cs, hlen with
  | [c0, c1, c2, c3, c4, c5, c6], _ =>
    have hyl3 : ys.length = 7 := hyl
    match ys, hyl3 with
    | [y0, y1, y2, y3, y4, y5, y6], _ =>
      have h0 : DataW.trod enc Try.prog W 0 (fun _ => true) true n 5 [c0] = some y0 := by
        have := hf 0 _ rfl
        simpa [cells5] using this
      have h1 : DataW.trod enc Try.prog W 0 (fun _ => true) true n 9 [c1] = some y1 := by
        have := hf 1 _ rfl
        simpa [cells9', cells5] using this
      have h2 : DataW.trod enc Try.prog W 0 (fun _ => true) true n 9 [c2] = some y2 := by
        have := hf 2 _ rfl
        simpa [cells9', cells5] using this
      have h3 : DataW.trod enc Try.prog W 0 (fun _ => true) true n 23 [c3] = some y3 := by
        have := hf 3 _ rfl
        simpa [cells9', cells5, cells23'] using this
      have h4 : DataW.trod enc Try.prog W 0 (fun _ => true) true n 5 [c4] = some y4 := by
        have := hf 4 _ rfl
        simpa [cells9', cells5, cells23'] using this
      have h5 : DataW.trod enc Try.prog W 0 (fun _ => true) true n 23 [c5] = some y5 := by
        have := hf 5 _ rfl
        simpa [cells9', cells5, cells23'] using this
      have h6 : DataW.trod enc Try.prog W 0 (fun _ => true) true n 3 [c6] = some y6 := by
        have := hf 6 _ rfl
        simpa [cells9', cells5, cells23', cells3'] using this
      obtain ⟨z0, e0, _, w0⟩ := DataW.trod_int Try.underlying5 h0
      obtain ⟨s1, e1, _, w1⟩ := DataW.trod_string Try.underlying9 h1
      obtain ⟨s2, e2, _, w2⟩ := DataW.trod_string Try.underlying9 h2
      obtain ⟨a3, l3, p3, bs3, rfl, i3⟩ := sl_of h3
      obtain ⟨z4, e4, _, w4⟩ := DataW.trod_int Try.underlying5 h4
      obtain ⟨a5, l5, p5, bs5, rfl, i5⟩ := sl_of h5
      obtain ⟨z6, e6, _, w6⟩ := DataW.trod_int Try.underlying3 h6
      have b0 := bounds_u8 w0
      have b4 := bounds_u8 w4
      simp at e0 e1 e2 e4 e6
      subst e0 e1 e2 e4 e6
      refine ⟨⟨z0.toNat, s1, s2, a3, l3, p3, bs3, z4.toNat, a5, l5, p5, bs5, z6⟩, ⟨by simp; omega, w1, w2, i3, by simp; omega, i5⟩, ?_⟩
      simp [AV.cs]; omega
theorem av_of {H : Type} {enc : TypeId × Value → H} {W : World} {r : Reach} {base : Nat} {v : Value} {d : DataW H} {p : List MemPlace} (hv : Value.okWide Try.prog W r base 26 v)
    (h : DataW.Trod enc Try.prog W 0 (fun _ => true) true 26 v d p) : ∃ x : AV, x.Ok W ∧ v = .agg x.arr := by
  simp only [Value.okWide, Try.underlying26] at hv
  obtain ⟨cs, rfl, hs, _⟩ := hv
  obtain ⟨fuel, hf⟩ := h
  obtain ⟨x, hx, he⟩ := act_of (by simpa [Value.cells] using hf)
  exact ⟨x, hx, congrArg Value.agg (by rw [← Array.toArray_toList (xs := cs), he]; rfl)⟩
/-- A row of acts. -/
structure AL (w : World) (a : Option Addr) (len : Nat) (xs : Nat → AV) : Prop where
  ok : ∀ i, i < len → (xs i).Ok w
  cells : len = 0 ∨ ∃ b off, a = some ⟨b, off, none⟩ ∧ ∀ i, i < len → w.rangeAt b (off + i * 7) (xs i).cs
theorem AL.below {w w' : World} {a : Option Addr} {len : Nat} {xs : Nat → AV} (h : AL w a len xs) (hb : Below w.heap.size w w') : AL w' a len xs := by
  refine ⟨fun i hi => (h.ok i hi).below hb, ?_⟩
  rcases h.cells with h0 | ⟨b, off, ha, hc⟩
  · exact .inl h0
  · exact .inr ⟨b, off, ha, fun i hi j u hu => below_at hb (hc i hi j u hu)⟩
theorem choose_acts {n : Nat} {P : Nat → AV → Prop} (h : ∀ i, i < n → ∃ x, P i x) : ∃ xs : Nat → AV, ∀ i, i < n → P i (xs i) := by
  have : ∀ i, ∃ x, i < n → P i x := fun i => by
    by_cases hi : i < n
    · obtain ⟨x, hx⟩ := h i hi
      exact ⟨x, fun _ => hx⟩
    · exact ⟨⟨0, ⟨#[]⟩, ⟨#[]⟩, none, 0, 0, [], 0, none, 0, 0, [], 0⟩, fun h => absurd h hi⟩
  exact ⟨fun i => (this i).choose, fun i hi => (this i).choose_spec hi⟩
theorem acts_of {H : Type} {enc : TypeId × Value → H} {W : World} {a : Option Addr} {len cap : Nat} {d : DataW H} {p : List MemPlace}
    (h : DataW.Trod enc Try.prog W 0 (fun _ => true) true 22 (.slice a len cap) d p) : len ≤ maxLen ∧ ∃ xs, AL W a len xs := by
  obtain ⟨fuel, hf⟩ := h
  rcases open_slice Try.underlying22 hf with ⟨hcs, _⟩ | ⟨x, l, c, m, n, D, Pl, hcs, _, hl, hm, hmm, _, hi⟩
  · simp [Value.cells] at hcs
    obtain ⟨rfl, rfl, rfl⟩ := hcs
    exact ⟨Nat.zero_le _, fun _ => ⟨0, ⟨#[]⟩, ⟨#[]⟩, none, 0, 0, [], 0, none, 0, 0, [], 0⟩, fun i hi => by omega, .inl rfl⟩
  · simp [Value.cells] at hcs
    obtain ⟨rfl, rfl, rfl⟩ := hcs
    simp at hmm
    have hall : ∀ i, i < len → ∃ v : AV, v.Ok W ∧ ∀ j u, v.cs[j]? = some u → W.cell? (x.add (i * 7 + j)) = some u := by
      intro i hil
      obtain ⟨cs', hc, ht⟩ := hi i (by omega)
      rw [cells26'] at hc
      obtain ⟨hcl, _, hat⟩ := World.cells?_some hc
      obtain ⟨v, hv, rfl⟩ := act_of ht
      refine ⟨v, hv, fun j u hu => ?_⟩
      have hj : j < 7 := (List.getElem?_eq_some_iff.1 hu).1
      have := hat j (by omega)
      rw [Go.Deep.add_add] at this
      rw [this]
      simp [hu]
    obtain ⟨xs, hxs⟩ := choose_acts hall
    refine ⟨by omega, xs, fun i hi => (hxs i hi).1, ?_⟩
    by_cases h0 : len = 0
    · exact .inl h0
    · obtain ⟨b, off, spot⟩ := x
      have hspot : spot = none := by
        have := (hxs 0 (by omega)).2 0 _ rfl
        simpa [Addr.add] using World.cell?_spot this
      subst hspot
      refine .inr ⟨b, off, rfl, fun i hi j u hu => ?_⟩
      have := (hxs i hi).2 j u hu
      rw [Addr.add_mid, ← Nat.add_assoc] at this
      exact this
theorem size26 : (Try.prog.info? 26).map (·.size) = some 7 := by kernel_rfl
theorem und26 : Try.prog.underlying 26 = some (.struct (Try.prog.fieldsOf 26)) := by kernel_rfl
theorem exec_ld26 {ev : Operand → Value} {q : Oper} {w : World} {x : Operand} {b off : Nat} {v : AV} (ho : q.op = .load 26 x) (hx : ev x = .pointer (some ⟨b, off, none⟩)) (h : w.rangeAt b off v.cs) : (execOp ev q).run Try.prog w = .ok (.value (.agg v.arr)) w := by
  have hl := run_loadVar_mid (P := Try.prog) w b off 26 v.cs _ h und26 rfl size26
  refine exec_cell ho hx ?_
  simp only [Instr.loadAt, Instr.sureAddr, Sem.run_bind, Sem.run_pure, Result.andThen_ok, hl]
  rfl
theorem exec_load26 {ev : Operand → Value} {q : Oper} {w : World} {x : Operand} {g : Nat} {v : AV} (ho : q.op = .load 26 x) (hx : ev x = .pointer (some ⟨g, 0, none⟩)) (h : Blk w g 26 v.arr) : (execOp ev q).run Try.prog w = .ok (.value (.agg v.arr)) w := by
  refine exec_cell ho hx ?_
  simp only [Instr.loadAt, Instr.sureAddr, Sem.run_bind, Sem.run_pure, Result.andThen]
  exact run_loadVar_row _ _ 26 26 _ (0, 0) _ h und26 rfl size26
set_option maxRecDepth 100000 in
set_option maxHeartbeats 2000000 in
theorem few_any (x : AV) (w : World) : Calls Try.prog 8 #[.agg x.arr] w (Says (.bool x.few) w) := by
  have H0 : Hid (Blk (w.alloc (.cells x.arr 26)) w.heap.size 26 x.arr) := Lib.hid (Blk.new w 26 _)
  have HB := Lib.hid (below_one w (.cells x.arr 26))
  have hsz : ∀ s : ByteArray, (s.size : Int) = ((s.size : Nat) : Int) := fun _ => rfl
  show Calls Try.prog 8 #[.agg #[.int .u8 (x.k : Int), .string x.s, .string x.r, .slice x.ba x.bl x.bc, .int .u8 (x.ch : Int), .slice x.ca x.cl x.cc, .int .i64 x.n]] w _
  go_enter Try.func8, Try.ntmps8
  go_upto_region 1 with fail
  try simp only [World.size_alloc, Act.put, List.setIfInBounds_toArray, List.set_cons_zero, List.set_cons_succ]
  have ea : (w.alloc (.cells #[.int .u8 (x.k : Int), .string x.s, .string x.r, .slice x.ba x.bl x.bc, .int .u8 (x.ch : Int), .slice x.ca x.cl x.cc, .int .i64 x.n] 26)) = w.alloc (.cells x.arr 26) := rfl
  rw [ea]
  clear ea hsz
  generalize w.alloc (.cells x.arr 26) = w0 at H0 HB ⊢
  generalize w.heap.size = g at H0 ⊢
  have u1 : w0.cell? ⟨g, 1, none⟩ = some (.string x.s) := H0.out.cell 1
  have u2 : w0.cell? ⟨g, 2, none⟩ = some (.string x.r) := H0.out.cell 2
  have u3 : w0.cell? ⟨g, 3, none⟩ = some (.slice x.ba x.bl x.bc) := H0.out.cell 3
  have u5 : w0.cell? ⟨g, 5, none⟩ = some (.slice x.ca x.cl x.cc) := H0.out.cell 5
  have HF : Hid (x.few = (decide (x.s.size ≤ 50) && (decide (x.r.size ≤ 50) && (decide (x.bl ≤ 1000) && decide (x.cl ≤ 50))))) := Lib.hid rfl
  by_cases h1 : x.s.size ≤ 50
  · have q1 : decide ((x.s.size : Int) ≤ 50) = true := by simp; omega
    by_cases h2 : x.r.size ≤ 50
    · have q2 : decide ((x.r.size : Int) ≤ 50) = true := by simp; omega
      by_cases h3 : x.bl ≤ 1000
      · have q3 : decide ((x.bl : Int) ≤ 1000) = true := by simp; omega
        by_cases h4 : x.cl ≤ 50
        · have q4 : decide ((x.cl : Int) ≤ 50) = true := by simp; omega
          go_wp2_with fail
          go_ret
          exact ⟨by rw [HF.out]; simp [h1, h2, h3, h4], HB.out⟩
        · have q4 : decide ((x.cl : Int) ≤ 50) = false := by simp; omega
          go_wp2_with fail
          go_ret
          exact ⟨by rw [HF.out]; simp [h4], HB.out⟩
      · have q3 : decide ((x.bl : Int) ≤ 1000) = false := by simp; omega
        go_wp2_with fail
        go_ret
        exact ⟨by rw [HF.out]; simp [h3], HB.out⟩
    · have q2 : decide ((x.r.size : Int) ≤ 50) = false := by simp; omega
      go_wp2_with fail
      go_ret
      exact ⟨by rw [HF.out]; simp [h2], HB.out⟩
  · have q1 : decide ((x.s.size : Int) ≤ 50) = false := by simp; omega
    go_wp2_with fail
    go_ret
    exact ⟨by rw [HF.out]; simp [h1], HB.out⟩
end Go.Proofs.Ytjpmjidpdgikgaa
