/- Walks of fields and Decode, the program's: what the fields of any bytes come to. -/
import Derived.Test.YtfnaccmgmocolaaDoorOn
namespace Go.Proofs.YtfnaccmgmocolaaDoor
open Go.RowKit

/-- The row of the first k numbers, the others 0. -/
def O.row (bs : List Nat) (k : Nat) : Array Value := ((List.range 7).map fun j => Value.int .u64 (((if j < k then O.x bs j else 0 : Nat)) : Int)).toArray
theorem O.row_at (bs : List Nat) (k : Nat) {j : Nat} (hj : j < 7) : (O.row bs k)[j]? = some (.int .u64 (((if j < k then O.x bs j else 0 : Nat)) : Int)) := by
  unfold O.row
  simp [hj]
theorem O.row_zero (bs : List Nat) : O.row bs 0 = #[.int .u64 0, .int .u64 0, .int .u64 0, .int .u64 0, .int .u64 0, .int .u64 0, .int .u64 0] := by
  unfold O.row
  rfl
theorem O.row_succ (bs : List Nat) {k : Nat} (hk : k < 7) : (O.row bs k).setIfInBounds k (.int .u64 (O.x bs k : Int)) = O.row bs (k + 1) := by
  apply Array.ext_getElem?
  intro j
  have hs : ∀ k, (O.row bs k).size = 7 := fun k => by simp [O.row]
  rw [Array.getElem?_setIfInBounds]
  by_cases hj : j < 7
  · rw [O.row_at bs (k + 1) hj]
    by_cases e : k = j
    · subst e; rw [if_pos rfl, if_pos (by rw [hs]; exact hj), if_pos (by omega)]
    · rw [if_neg e, O.row_at bs k hj]
      by_cases e2 : j < k
      · rw [if_pos e2, if_pos (by omega)]
      · rw [if_neg e2, if_neg (by omega)]
  · rw [Array.getElem?_eq_none (by rw [hs]; omega)]
    have e : ¬ k = j := by omega
    rw [if_neg e, Array.getElem?_eq_none (by rw [hs]; omega)]

/-- The greatest numbers of the fields. -/
abbrev lims : Array Value := #[.int .u64 255, .int .u64 4294967295, .int .u64 255, .int .u64 65535, .int .u64 65535, .int .u64 65535, .int .u64 4294967295]
theorem lims_at {k : Nat} (hk : k < 7) : lims[k]? = some (.int .u64 (O.most k : Int)) := by
  have : k = 0 ∨ k = 1 ∨ k = 2 ∨ k = 3 ∨ k = 4 ∨ k = 5 ∨ k = 6 := by omega
  rcases this with rfl | rfl | rfl | rfl | rfl | rfl | rfl <;> rfl
theorem most_lt {k : Nat} (hk : k < 7) : O.most k < 4294967296 := by
  have : k = 0 ∨ k = 1 ∨ k = 2 ∨ k = 3 ∨ k = 4 ∨ k = 5 ∨ k = 6 := by omega
  rcases this with rfl | rfl | rfl | rfl | rfl | rfl | rfl <;> simp [O.most]
theorem und140 : Tryd.prog.underlying 140 = some (.array 7 63) := by kernel_rfl
theorem index140 (k : Nat) (w : World) (h : k < 7) : (Instr.index 140 (.agg lims) (.int .i64 (k : Int))).run Tryd.prog w = .ok (.int .u64 (O.most k : Int)) w := by
  have hz : (Go.sizeOf 63).run Tryd.prog w = .ok 1 w := by kernel_rfl
  have hl := lims_at h
  generalize lims = l at hl ⊢
  simp [Instr.index, asIntOf, Sem.run_bind, run_underlying und140, Sem.run_ite, h, hz, part, hl]
section
variable {ev : Operand → Value} {o : Oper} {w : World}
theorem exec_alloc29z {z : O} (hz : O.zero = z) (ho : o.op = .alloc 29) : (execOp ev o).run Tryd.prog w = .ok (.value (.pointer (some ⟨w.heap.size, 0, none⟩))) (w.alloc (.cells z.arr 29)) := by
  subst hz
  exact exec_alloc29 ho
theorem exec_zero29z {z : O} (hz : O.zero = z) (ho : o.op = .build 29 #[]) : (execOp ev o).run Tryd.prog w = .ok (.value (.agg z.arr)) w := by
  subst hz
  exact exec_zero29 ho
theorem exec_alloc140 (bs : List Nat) (ho : o.op = .alloc 140) : (execOp ev o).run Tryd.prog w = .ok (.value (.pointer (some ⟨w.heap.size, 0, none⟩))) (w.alloc (.cells (O.row bs 0) 140)) := by
  have h : (Instr.alloc 140 true (.tuple #[])).run Tryd.prog w = .ok (.pointer (some ⟨w.heap.size, 0, none⟩)) (w.alloc (.cells (O.row bs 0) 140)) := by
    rw [O.row_zero]
    kernel_rfl
  unfold execOp
  simp only [ho, Sem.run_bind, h, Result.andThen_ok]
  rfl
theorem exec_index140 {x y : Operand} {k : Nat} (ho : o.op = .index 140 x y) (hx : ev x = .agg lims) (hy : ev y = .int .i64 (k : Int)) (hk : k < 7) : (execOp ev o).run Tryd.prog w = .ok (.value (.int .u64 (O.most k : Int))) w := by
  unfold execOp
  simp only [ho, hx, hy, Sem.run_bind, index140 k w hk, Result.andThen_ok]
  rfl
theorem exec_build29 {x0 x1 x2 x3 x4 x5 x6 : Operand} {p : O} (ho : o.op = .build 29 #[(0, x0), (1, x1), (2, x2), (3, x3), (4, x4), (5, x5), (6, x6)]) (h0 : ev x0 = dotV p.r p.s) (h1 : ev x1 = .int .u8 (p.k : Int)) (h2 : ev x2 = .int .u16 (p.c : Int)) (h3 : ev x3 = .int .u16 (p.i : Int)) (h4 : ev x4 = .int .u16 (p.q : Int)) (h5 : ev x5 = .int .u32 (p.t : Int)) (h6 : ev x6 = .agg p.v.arr) : (execOp ev o).run Tryd.prog w = .ok (.value (.agg p.arr)) w := by
  have hm : (#[((0 : Nat), x0), (1, x1), (2, x2), (3, x3), (4, x4), (5, x5), (6, x6)]).map (fun (i, x) => (i, ev x)) = #[(0, dotV p.r p.s), (1, .int .u8 (p.k : Int)), (2, .int .u16 (p.c : Int)), (3, .int .u16 (p.i : Int)), (4, .int .u16 (p.q : Int)), (5, .int .u32 (p.t : Int)), (6, .agg p.v.arr)] := by simp [h0, h1, h2, h3, h4, h5, h6]
  unfold execOp
  simp only [ho, hm, Sem.run_bind, build29 p w, Result.andThen_ok]
  rfl
end

theorem numB_le (er : Nat) (bs : List Nat) : (numB er bs).length ≤ bs.length := by
  unfold numB
  split
  · rw [List.length_drop]; omega
  · exact Nat.le_refl _
theorem bytX_le (er : Nat) (bs : List Nat) : (bytX er bs).length ≤ bs.length := by
  have := numB_le er bs
  unfold bytX
  split
  · rw [List.length_take]; omega
  · simp

/-- A reader, an answer and a row of numbers that a call made: of what was there only the reader has turned. -/
structure Fst (w W : World) (p : Nat) (u : O) (ns : Array Value) (er : Nat) (bs : List Nat) : Prop where
  rd : ∃ a len cap, Rd W p er a len cap bs
  ans : Blk W w.heap.size 29 u.arr
  nb : Blk W (w.heap.size + 1) 140 ns
  kept : Kept (fun k => k = p) w W
  lt : p < w.heap.size

theorem Fst.num {w W : World} {p : Nat} {u : O} {ns : Array Value} {er : Nat} {bs : List Nat} (h : Fst w W p u ns er bs) :
    Calls Tryd.prog 57 #[.pointer (some ⟨p, 0, none⟩)] W fun e w' => e = .returned (.tuple #[.int .u64 (numX er bs : Int), .int .i64 (numE er bs : Int)]) ∧ Fst w w' p u ns (numE er bs) (numB er bs) := by
  obtain ⟨a, len, cap, hr⟩ := h.rd
  refine (rnum_any p er a len cap bs W hr).mono fun e w' => ?_
  rintro ⟨a', len', cap', rfl, hr', hk⟩
  have := h.lt
  exact ⟨rfl, ⟨a', len', cap', hr'⟩, h.ans.kept hk (by omega), h.nb.kept hk (by omega), h.kept.trans hk (fun _ h => .inl h), h.lt⟩
theorem Fst.byt {w W : World} {p : Nat} {u : O} {ns : Array Value} {er : Nat} {bs : List Nat} (h : Fst w W p u ns er bs) :
    Calls Tryd.prog 81 #[.pointer (some ⟨p, 0, none⟩)] W fun e w' => ∃ b m d, e = .returned (.tuple #[.slice b m d, .int .i64 (bytE er bs : Int)]) ∧ Own w' W.heap.size b m d (bytX er bs) ∧ m ≤ 1000000 ∧ Fst w w' p u ns (bytE er bs) (bytB er bs) := by
  obtain ⟨a, len, cap, hr⟩ := h.rd
  refine (rbytes_any p er a len cap bs W hr).mono fun e w' => ?_
  rintro ⟨b, m, d, a', len', cap', rfl, ho, hr', hk⟩
  have := h.lt
  exact ⟨b, m, d, rfl, ho, by have := ho.len; have := bytX_le er bs; have := hr.row.size; have := hr.room; omega, ⟨a', len', cap', hr'⟩, h.ans.kept hk (by omega), h.nb.kept hk (by omega), h.kept.trans hk (fun _ h => .inl h), h.lt⟩
theorem Fst.put {w W : World} {p : Nat} {u : O} {ns : Array Value} {er : Nat} {bs : List Nat} (h : Fst w W p u ns er bs) (k : Nat) (v : Value) : Fst w (W.setCell ⟨w.heap.size + 1, k, none⟩ v) p u (ns.setIfInBounds k v) er bs := by
  obtain ⟨a, len, cap, hr⟩ := h.rd
  have hp := h.lt
  have hk := kept_cell W (w.heap.size + 1) k v
  exact ⟨⟨a, len, cap, hr.keep hk (by omega) (fun ad ha h0 => by have := hr.apart ad ha h0; omega)⟩, h.ans.kept hk (by omega), h.nb.set k v, h.kept.trans hk (fun i hi => .inr (by omega)), hp⟩
theorem Fst.row {w W : World} {p : Nat} {u : O} {ns : Array Value} {er : Nat} {bs : List Nat} (h : Fst w W p u ns er bs) (u' : O) : Fst w (W.setRow w.heap.size u'.arr) p u' ns er bs := by
  obtain ⟨a, len, cap, hr⟩ := h.rd
  have hp := h.lt
  have hk := Kept.setRow W w.heap.size u'.arr
  exact ⟨⟨a, len, cap, hr.keep hk (by omega) (fun ad ha h0 => by have := hr.apart ad ha h0; omega)⟩, h.ans.row, h.nb.kept hk (by omega), h.kept.trans hk (fun i hi => .inr (by omega)), hp⟩
theorem Fst.below {w W W' : World} {p : Nat} {u : O} {ns : Array Value} {er : Nat} {bs : List Nat} (h : Fst w W p u ns er bs) (hb : Below W.heap.size W W') : Fst w W' p u ns er bs := by
  obtain ⟨a, len, cap, hr⟩ := h.rd
  exact ⟨⟨a, len, cap, hr.below hb⟩, h.ans.below hb, h.nb.below hb, h.kept.trans (Kept.of_below (S := fun k => k = p) hb) (fun _ h => .inl h), h.lt⟩

/-- What fields leaves: where it says yes and nothing is left, the bytes are the operation's; and an operation's bytes come to it. -/
def Flds (p : Nat) (bs : List Nat) (w : World) (e : Ending) (w' : World) : Prop :=
  ∃ (u : O) (ok : Bool) (er : Nat) (r : List Nat) (a : Option Addr) (len cap : Nat), e = .returned (.tuple #[.agg u.arr, .bool ok]) ∧ Rd w' p er a len cap r ∧ Kept (fun k => k = p) w w' ∧
    (ok = true → er = 0 → r = [] → u.bytes = bs) ∧ (∀ v : O, v.bytes = bs → u = v ∧ ok = true ∧ er = 0 ∧ r = [])
theorem flds_no {p : Nat} {bs : List Nat} {w w' : World} {u : O} {ns : Array Value} {er : Nat} {r : List Nat} (h : Fst w w' p u ns er r) (hno : ∀ v : O, v.bytes ≠ bs) : Flds p bs w (.returned (.tuple #[.agg u.arr, .bool false])) w' := by
  obtain ⟨a, len, cap, hr⟩ := h.rd
  exact ⟨u, false, er, r, a, len, cap, rfl, hr, h.kept, (fun h => by cases h), fun v hv => absurd hv (hno v)⟩
theorem flds_end {p : Nat} {bs : List Nat} {w w' : World} {u : O} {ns : Array Value} (hs : ∀ c ∈ bs, c < 256) (hx : ∀ i, i < 7 → O.x bs i ≤ O.most i)
    (hu : O.of bs (decV (bytX (O.st bs 7).1 (O.st bs 7).2)) = u) (h : Fst w w' p u ns (bytE (O.st bs 7).1 (O.st bs 7).2) (bytB (O.st bs 7).1 (O.st bs 7).2)) : Flds p bs w (.returned (.tuple #[.agg u.arr, .bool (decide (decE (bytX (O.st bs 7).1 (O.st bs 7).2) = 0))])) w' := by
  obtain ⟨a, len, cap, hr⟩ := h.rd
  refine ⟨u, _, _, _, a, len, cap, rfl, hr, h.kept, fun h1 h2 h3 => ?_, fun v hv => ?_⟩
  · subst hu
    refine O.dec_ok hs hx h2 h3 ?_
    have h1 := of_decide_eq_true h1
    by_cases hex : ∃ v, V.bytes v = bytX (O.st bs 7).1 (O.st bs 7).2
    · obtain ⟨v, hv⟩ := hex
      rw [(dec_yes hv).2]
      exact hv
    · have := (dec_no (fun v hv => hex ⟨v, hv⟩)).1
      omega
  · obtain ⟨_, e2, e3, e4, e5⟩ := O.dec_bytes hv
    rw [e2] at hu ⊢
    simp only at hu ⊢
    rw [e3] at hu ⊢
    obtain ⟨d1, d2⟩ := dec_yes (rfl : V.bytes v.v = V.bytes v.v)
    rw [d2, O.of_bytes hv] at hu
    exact ⟨hu.symm, by rw [d1]; rfl, e4, e5⟩

/-- An operation of seven small numbers. -/
def mkO (x0 x1 x2 x3 x4 x5 x6 : Nat) (v : V) (l0 : x0 ≤ 255) (l1 : x1 ≤ 4294967295) (l2 : x2 ≤ 255) (l3 : x3 ≤ 65535) (l4 : x4 ≤ 65535) (l5 : x5 ≤ 65535) (l6 : x6 ≤ 4294967295) : O := ⟨x0, x1, x2, x3, x4, x5, x6, v, by omega, by omega, by omega, by omega, by omega, by omega, by omega⟩
theorem of_small {bs : List Nat} {v : V} {x0 x1 x2 x3 x4 x5 x6 : Nat} (h0 : O.x bs 0 = x0) (h1 : O.x bs 1 = x1) (h2 : O.x bs 2 = x2) (h3 : O.x bs 3 = x3) (h4 : O.x bs 4 = x4) (h5 : O.x bs 5 = x5) (h6 : O.x bs 6 = x6) (l0 : x0 ≤ 255) (l1 : x1 ≤ 4294967295) (l2 : x2 ≤ 255) (l3 : x3 ≤ 65535) (l4 : x4 ≤ 65535) (l5 : x5 ≤ 65535) (l6 : x6 ≤ 4294967295) : O.of bs v = mkO x0 x1 x2 x3 x4 x5 x6 v l0 l1 l2 l3 l4 l5 l6 := by
  refine O.ext' ?_ ?_ ?_ ?_ ?_ ?_ ?_ rfl
  · show O.x bs 0 % 256 = x0; rw [h0]; exact Nat.mod_eq_of_lt (by omega)
  · show O.x bs 1 % 4294967296 = x1; rw [h1]; exact Nat.mod_eq_of_lt (by omega)
  · show O.x bs 2 % 256 = x2; rw [h2]; exact Nat.mod_eq_of_lt (by omega)
  · show O.x bs 3 % 65536 = x3; rw [h3]; exact Nat.mod_eq_of_lt (by omega)
  · show O.x bs 4 % 65536 = x4; rw [h4]; exact Nat.mod_eq_of_lt (by omega)
  · show O.x bs 5 % 65536 = x5; rw [h5]; exact Nat.mod_eq_of_lt (by omega)
  · show O.x bs 6 % 4294967296 = x6; rw [h6]; exact Nat.mod_eq_of_lt (by omega)

set_option maxHeartbeats 4000000 in
set_option maxRecDepth 100000 in
theorem fields_any (p : Nat) (a : Option Addr) (len cap : Nat) (bs : List Nat) (w : World) (h : Rd w p 0 a len cap bs) : Calls Tryd.prog 90 #[.pointer (some ⟨p, 0, none⟩)] w (Flds p bs w) := by
  have HSM := Lib.hid h.row.small
  obtain ⟨z, hz⟩ : ∃ z, O.zero = z := ⟨_, rfl⟩
  have HZ := Lib.hid hz
  obtain ⟨zv, hzv⟩ : ∃ z, V.zero = z := ⟨_, rfl⟩
  have HZV := Lib.hid hzv
  have HS0 : Hid (Fst w ((w.alloc (.cells z.arr 29)).alloc (.cells (O.row bs 0) 140)) p z (O.row bs 0) 0 bs) := by
    have h2 := Blk.new (w.alloc (.cells z.arr 29)) 140 (O.row bs 0)
    simp only [World.size_alloc] at h2
    exact Lib.hid ⟨⟨a, len, cap, h.below (below_two' _ _ _)⟩, (Blk.new w 29 z.arr).below (below_one _ _), h2, .of_below (below_two' _ _ _), h.block.lt⟩
  clear hz hzv h
  go_enter Tryd.func90, Tryd.ntmps90
  go_wp2_with (first | (refine wpList_run rfl (exec_alloc29z HZ.out rfl) ?_) | (refine wpList_run rfl (exec_alloc140 bs rfl) ?_))
  generalize (w.alloc (.cells z.arr 29)).alloc (.cells (O.row bs 0) 140) = W at HS0
  go_loopw [12] (fun i wr => ∃ k : Nat, k ≤ 7 ∧ i = .int .i64 (k : Int) ∧ Hid (Fst w wr p z (O.row bs k) (O.st bs k).1 (O.st bs k).2) ∧ Hid (∀ i, i < k → O.x bs i ≤ O.most i)) (fun i _ => 7 - (intOf i).toNat)
  case atStart => exact ⟨0, by omega, rfl, HS0, Lib.hid (fun i h => by omega)⟩
  case round =>
    obtain ⟨k, hk, rfl, HR, HB⟩ := hrel
    by_cases hlt : k < 7
    · go_wp2_with (refine wpList_run rfl (exec_index140 rfl rfl rfl hlt) ?_)
      refine HR.out.num.mono ?_
      rintro e w2 ⟨rfl, h2⟩
      have HR2 : Hid (Fst w w2 p z (O.row bs k) (O.st bs (k + 1)).1 (O.st bs (k + 1)).2) := Lib.hid h2
      have HXL := Lib.hid (num_lt (er := (O.st bs k).1) (O.st_lt HSM.out k))
      have hml := most_lt hlt
      clear h2
      generalize hx : numX (O.st bs k).1 (O.st bs k).2 = x at HXL
      have HXA : Hid (O.x bs k = x) := Lib.hid hx
      clear hx
      generalize hm : O.most k = m at hml
      have HM := Lib.hid hm
      clear hm
      have f1 := HR2.out.nb.frozen k
      have c1 : w2.cell? ⟨w.heap.size + 1, k, none⟩ = some (.int .u64 0) := by rw [HR2.out.nb.cell, O.row_at bs k hlt]; simp
      have HR3 := Lib.hid (HR2.out.put k (.int .u64 (x : Int)))
      by_cases hbig : x ≤ m
      · have hbig' : (x : Int) ≤ (m : Int) := by omega
        go_wp2_with fail
        go_roundw
        case rel =>
          refine ⟨k + 1, by omega, by go_num, Lib.hid ?_, Lib.hid (fun i hi => ?_)⟩
          · rw [← O.row_succ bs hlt, HXA.out]
            exact HR3.out
          · by_cases e : i = k
            · subst e; rw [HXA.out, HM.out]; omega
            · exact HB.out i (by omega)
        case measure => simp [intOf]; omega
      · have hbig' : (m : Int) < (x : Int) := by omega
        go_wp2_with (first | (refine wpList_run rfl (exec_load29 (p := z) rfl rfl HR3.out.ans) ?_) | (refine wpList_stop29 rfl ?_))
        refine ⟨?_⟩
        refine wpList_void rfl rfl (exec_store29 (p := z) (u := z) rfl rfl rfl HR3.out.ans) ?_
        have HR4 := Lib.hid (HR3.out.row z)
        generalize (w2.setCell ⟨w.heap.size + 1, k, none⟩ (.int .u64 (x : Int))).setRow w.heap.size z.arr = w3 at HR4
        go_wp2_with fail
        refine bodyPost_ret (ret29_two (t := 2) (s := 3) (y := .bool false) rfl rfl rfl HR4.out.ans) rfl (flds_no HR4.out (fun v hv => ?_))
        obtain ⟨e1, _⟩ := O.dec_bytes hv
        have h1 := (e1 k hlt).1
        have h2 := O.most_of (u := v) hlt
        rw [HXA.out] at h1
        rw [HM.out] at h2
        omega
    · obtain rfl : k = 7 := by omega
      go_wp2_with fail
      refine HR.out.byt.mono ?_
      rintro e w2 ⟨b, m, d, rfl, hob, hml, h2⟩
      have HDC := Lib.hid (decode_any b m d _ w2 hml (hob.row (O.bytX_lt (O.st_lt HSM.out 7))) hob.cap.2.2)
      have HR2 := Lib.hid h2
      clear hob h2
      generalize hE : decE (bytX (O.st bs 7).1 (O.st bs 7).2) = E at HDC
      generalize hV : decV (bytX (O.st bs 7).1 (O.st bs 7).2) = v at HDC
      have HEE := Lib.hid hE
      have HVV := Lib.hid hV
      clear hE hV
      go_wp2_with fail
      refine HDC.out.mono ?_
      rintro e w3 ⟨rfl, hb⟩
      have HR3 := Lib.hid (HR2.out.below hb)
      clear hb HDC HR2
      go_wp2_with (first | (refine wpList_alloc27 HZV.out rfl rfl ?_) | (refine wpList_stop rfl ?_))
      refine ⟨?_⟩
      refine wpList_store27 rfl rfl rfl rfl (Blk.new w3 27 zv.arr) ?_
      have hlo := laid_old w3 zv v
      have HR4 := Lib.hid (HR3.out.below hlo)
      have HV4 := Lib.hid (laid_blk w3 zv v)
      clear hlo HR3
      generalize (w3.alloc (.cells zv.arr 27)).setRow w3.heap.size v.arr = w4 at HR4 HV4
      generalize w3.heap.size = q at HV4
      have n0 : w4.cell? ⟨w.heap.size + 1, 0, none⟩ = some (.int .u64 (O.x bs 0 : Int)) := by rw [HR4.out.nb.cell, O.row_at bs 7 (by omega)]; simp
      have l0 : O.x bs 0 ≤ 255 := HB.out 0 (by omega)
      have n1 : w4.cell? ⟨w.heap.size + 1, 1, none⟩ = some (.int .u64 (O.x bs 1 : Int)) := by rw [HR4.out.nb.cell, O.row_at bs 7 (by omega)]; simp
      have l1 : O.x bs 1 ≤ 4294967295 := HB.out 1 (by omega)
      have n2 : w4.cell? ⟨w.heap.size + 1, 2, none⟩ = some (.int .u64 (O.x bs 2 : Int)) := by rw [HR4.out.nb.cell, O.row_at bs 7 (by omega)]; simp
      have l2 : O.x bs 2 ≤ 255 := HB.out 2 (by omega)
      have n3 : w4.cell? ⟨w.heap.size + 1, 3, none⟩ = some (.int .u64 (O.x bs 3 : Int)) := by rw [HR4.out.nb.cell, O.row_at bs 7 (by omega)]; simp
      have l3 : O.x bs 3 ≤ 65535 := HB.out 3 (by omega)
      have n4 : w4.cell? ⟨w.heap.size + 1, 4, none⟩ = some (.int .u64 (O.x bs 4 : Int)) := by rw [HR4.out.nb.cell, O.row_at bs 7 (by omega)]; simp
      have l4 : O.x bs 4 ≤ 65535 := HB.out 4 (by omega)
      have n5 : w4.cell? ⟨w.heap.size + 1, 5, none⟩ = some (.int .u64 (O.x bs 5 : Int)) := by rw [HR4.out.nb.cell, O.row_at bs 7 (by omega)]; simp
      have l5 : O.x bs 5 ≤ 65535 := HB.out 5 (by omega)
      have n6 : w4.cell? ⟨w.heap.size + 1, 6, none⟩ = some (.int .u64 (O.x bs 6 : Int)) := by rw [HR4.out.nb.cell, O.row_at bs 7 (by omega)]; simp
      have l6 : O.x bs 6 ≤ 4294967295 := HB.out 6 (by omega)
      generalize hx0 : O.x bs 0 = x0 at n0 l0
      generalize hx1 : O.x bs 1 = x1 at n1 l1
      generalize hx2 : O.x bs 2 = x2 at n2 l2
      generalize hx3 : O.x bs 3 = x3 at n3 l3
      generalize hx4 : O.x bs 4 = x4 at n4 l4
      generalize hx5 : O.x bs 5 = x5 at n5 l5
      generalize hx6 : O.x bs 6 = x6 at n6 l6
      have HOF := Lib.hid (of_small (v := v) hx0 hx1 hx2 hx3 hx4 hx5 hx6 l0 l1 l2 l3 l4 l5 l6)
      clear hx0 hx1 hx2 hx3 hx4 hx5 hx6
      have k0 : (x0 : Int) ≤ 255 := by omega
      have k1 : (x1 : Int) ≤ 4294967295 := by omega
      have k2 : (x2 : Int) ≤ 255 := by omega
      have k3 : (x3 : Int) ≤ 65535 := by omega
      have k4 : (x4 : Int) ≤ 65535 := by omega
      have k5 : (x5 : Int) ≤ 65535 := by omega
      have k6 : (x6 : Int) ≤ 4294967295 := by omega
      go_wp2_with (first | (refine wpList_run rfl (exec_load27 rfl rfl HV4.out) ?_) | (refine wpList_run rfl (exec_build29 (p := (mkO x0 x1 x2 x3 x4 x5 x6 v l0 l1 l2 l3 l4 l5 l6)) rfl rfl rfl rfl rfl rfl rfl rfl) ?_) | (refine wpList_stop29 rfl ?_))
      refine ⟨?_⟩
      refine wpList_void rfl rfl (exec_store29 (p := z) (u := (mkO x0 x1 x2 x3 x4 x5 x6 v l0 l1 l2 l3 l4 l5 l6)) rfl rfl rfl HR4.out.ans) ?_
      have HR5 := Lib.hid (HR4.out.row (mkO x0 x1 x2 x3 x4 x5 x6 v l0 l1 l2 l3 l4 l5 l6))
      generalize (mkO x0 x1 x2 x3 x4 x5 x6 v l0 l1 l2 l3 l4 l5 l6) = u at HR5 HOF
      clear HR4
      generalize w4.setRow w.heap.size u.arr = w5 at HR5
      have gE : ((E : Int) == 0) = decide (E = 0) := by have := dec_eq E 0; simpa using this
      go_wp2_with (first | (refine wpList_run rfl (exec_load29 (p := u) rfl rfl HR5.out.ans) ?_) | (refine wpList_stop29 rfl ?_))
      refine ⟨?_⟩
      refine wpList_void rfl rfl (exec_store29 (p := u) (u := u) rfl rfl rfl HR5.out.ans) ?_
      have HR6 := Lib.hid (HR5.out.row u)
      generalize w5.setRow w.heap.size u.arr = w6 at HR6
      go_wp2_with fail
      have hfin := flds_end HSM.out HB.out (by rw [HVV.out]; exact HOF.out) HR6.out
      rw [HEE.out] at hfin
      exact bodyPost_ret (ret29_two (t := 2) (s := 3) (y := .bool (decide (E = 0))) rfl rfl rfl HR6.out.ans) rfl hfin

/-- What Decode answers. -/
def DecP (bs : List Nat) : World → Ending → World → Prop := Says (.tuple #[.agg (O.decO bs).arr, .int .i64 (O.decE bs : Int)])
theorem decP_of {bs : List Nat} {e : Nat} {u : O} {w w' : World} (h : O.decE bs = e ∧ O.decO bs = u) (hb : Below w.heap.size w w') : DecP bs w (.returned (.tuple #[.agg u.arr, .int .i64 (e : Int)])) w' := by
  unfold DecP
  rw [h.1, h.2]
  exact ⟨rfl, hb⟩

/-- What Decode has made: the answer's block, a reader, an operation. -/
structure Dso (w W : World) (p : Nat) (er : Nat) (r : List Nat) (q : Nat) (z u : O) : Prop where
  ans : Blk W w.heap.size 29 z.arr
  rd : ∃ a len cap, Rd W p er a len cap r
  op : Blk W q 29 u.arr
  old : Below w.heap.size w W
theorem Dso.below {w W W' : World} {p er q : Nat} {r : List Nat} {z u : O} (h : Dso w W p er r q z u) (hb : Below W.heap.size W W') : Dso w W' p er r q z u := by
  obtain ⟨a, len, cap, hr⟩ := h.rd
  exact ⟨h.ans.below hb, ⟨a, len, cap, hr.below hb⟩, h.op.below hb, h.old.trans (hb.mono h.old.size)⟩
theorem Dso.ret {w W : World} {p er q : Nat} {r : List Nat} {z u : O} (h : Dso w W p er r q z u) {ds : Array Value} : Below w.heap.size w (W.setRow w.heap.size ds) :=
  h.old.trans ((Kept.setRow W w.heap.size ds).below h.old.size (fun k hk => by omega))

set_option maxHeartbeats 4000000 in
theorem decode_op (a : Option Addr) (len cap : Nat) (bs : List Nat) (w : World) (hl : len ≤ 1000000) (hR : Row w a len bs) (hz : a = none → len = 0 ∧ cap = 0) : Calls Tryd.prog 82 #[.slice a len cap] w (DecP bs w) := by
  obtain ⟨z, hz0⟩ : ∃ z, O.zero = z := ⟨_, rfl⟩
  have HZ := Lib.hid hz0
  have hb0 := below_one w (.cells z.arr 29)
  have HRD := Lib.hid (read_any a len cap bs (w.alloc (.cells z.arr 29)) hl (hR.below hb0) hz)
  have HB0 := Lib.hid hb0
  have HA0 := Lib.hid (Blk.new w 29 z.arr)
  clear hR hz hz0 hb0
  go_enter Tryd.func82, Tryd.ntmps82
  go_wp2_with (refine wpList_run rfl (exec_alloc29z HZ.out rfl) ?_)
  generalize w.alloc (.cells z.arr 29) = W at HRD HB0 HA0
  refine HRD.out.mono ?_
  rintro e w1 ⟨p, ar, cr, rfl, hp, hrd, hb, _⟩
  have HR1 := Lib.hid hrd
  have HA1 := Lib.hid (HA0.out.below hb)
  have HB1 := Lib.hid (HB0.out.trans (hb.mono HB0.out.size))
  have HP : Hid (w.heap.size < p) := Lib.hid (Nat.lt_of_lt_of_le HA0.out.lt hp)
  clear hrd hb hp
  go_wp2_with fail
  refine (fields_any p ar bs.length cr bs w1 HR1.out).mono ?_
  rintro e w2 ⟨u, ok, er, r, a2, len2, cap2, rfl, hr2, hk2, hy, hn⟩
  have HR2 := Lib.hid hr2
  have HA2 := Lib.hid (HA1.out.kept hk2 (by have := HP.out; omega))
  have HB2 := Lib.hid (HB1.out.trans (hk2.below HB1.out.size (fun k hk => by have := HP.out; omega)))
  have HY := Lib.hid hy
  have HN := Lib.hid hn
  clear hr2 hk2 hy hn
  go_wp2_with (first | (refine wpList_run rfl (exec_alloc29z HZ.out rfl) ?_) | (refine wpList_stop29 rfl ?_))
  refine ⟨?_⟩
  refine wpList_void rfl rfl (exec_store29 (p := z) (u := u) rfl rfl rfl (Blk.new w2 29 z.arr)) ?_
  have hlo := olaid_old w2 z u
  have HD : Hid (Dso w ((w2.alloc (.cells z.arr 29)).setRow w2.heap.size u.arr) p er r w2.heap.size z u) := Lib.hid ⟨HA2.out.below hlo, ⟨_, _, _, HR2.out.below hlo⟩, olaid_blk w2 z u, HB2.out.trans (hlo.mono HB2.out.size)⟩
  clear hlo HA2 HB2 HR2
  generalize (w2.alloc (.cells z.arr 29)).setRow w2.heap.size u.arr = w3 at HD
  generalize w2.heap.size = q at HD
  cases ok
  · have HE := Lib.hid (O.dec_no (bs := bs) (fun v _ hv => by have := (HN.out v hv).2.1; cases this))
    go_wp2_with (first | (refine wpList_run rfl (exec_zero29z HZ.out rfl) ?_) | (refine wpList_stop29 rfl ?_))
    refine ⟨?_⟩
    refine wpList_void rfl rfl (exec_store29 (p := z) (u := z) rfl rfl rfl HD.out.ans) ?_
    go_wp2_with fail
    rw [HZ.out] at HE
    exact bodyPost_ret (ret29_two (t := 2) (s := 3) (y := .int .i64 5) rfl rfl rfl HD.out.ans.row) rfl (decP_of HE.out HD.out.ret)
  · obtain ⟨a3, len3, cap3, hr3⟩ := HD.out.rd
    have HDN := Lib.hid (done_any p er a3 len3 cap3 r w3 hr3)
    clear hr3
    cases hd : doneB er r
    · rw [hd] at HDN
      have HE := Lib.hid (O.dec_no (bs := bs) (fun v _ hv => by
        obtain ⟨_, _, h1, h2⟩ := HN.out v hv
        rw [h1, h2] at hd
        simp [doneB] at hd))
      clear hd
      go_wp2_with fail
      refine HDN.out.mono ?_
      rintro e w4 ⟨rfl, rfl⟩
      go_wp2_with (first | (refine wpList_run rfl (exec_zero29z HZ.out rfl) ?_) | (refine wpList_stop29 rfl ?_))
      refine ⟨?_⟩
      refine wpList_void rfl rfl (exec_store29 (p := z) (u := z) rfl rfl rfl HD.out.ans) ?_
      go_wp2_with fail
      rw [HZ.out] at HE
      exact bodyPost_ret (ret29_two (t := 2) (s := 3) (y := .int .i64 5) rfl rfl rfl HD.out.ans.row) rfl (decP_of HE.out HD.out.ret)
    · rw [hd] at HDN
      have hd' : er = 0 ∧ r = [] := by simpa [doneB, List.length_eq_zero_iff] using hd
      have HBY := Lib.hid (HY.out rfl hd'.1 hd'.2)
      have HRT := Lib.hid (fun w => right_op u 16 w (by omega) (by omega))
      clear hd hd'
      go_wp2_with fail
      refine HDN.out.mono ?_
      rintro e w4 ⟨rfl, rfl⟩
      go_wp2_with (refine wpList_runW (exec_load29 (p := u) rfl rfl HD.out.op) (by kernel_rfl) ?_)
      cases hr : u.rightB 16
      · have HE := Lib.hid (O.dec_no (bs := bs) (fun v hv1 hv => by
          have := (HN.out v hv).1
          rw [← this, hr] at hv1
          cases hv1))
        rw [hr] at HRT
        clear hr
        refine (HRT.out _).mono ?_
        rintro e w4 ⟨rfl, hb⟩
        have HD4 := Lib.hid (HD.out.below hb)
        clear hb
        go_wp2_with (first | (refine wpList_run rfl (exec_zero29z HZ.out rfl) ?_) | (refine wpList_stop29 rfl ?_))
        refine ⟨?_⟩
        refine wpList_void rfl rfl (exec_store29 (p := z) (u := z) rfl rfl rfl HD4.out.ans) ?_
        go_wp2_with fail
        rw [HZ.out] at HE
        exact bodyPost_ret (ret29_two (t := 2) (s := 3) (y := .int .i64 5) rfl rfl rfl HD4.out.ans.row) rfl (decP_of HE.out HD4.out.ret)
      · have HE := Lib.hid (O.dec_yes hr HBY.out)
        rw [hr] at HRT
        clear hr
        refine (HRT.out _).mono ?_
        rintro e w4 ⟨rfl, hb⟩
        have HD4 := Lib.hid (HD.out.below hb)
        clear hb
        go_wp2_with (first | (refine wpList_run rfl (exec_load29 (p := u) rfl rfl HD4.out.op) ?_) | (refine wpList_stop29 rfl ?_))
        refine ⟨?_⟩
        refine wpList_void rfl rfl (exec_store29 (p := z) (u := u) rfl rfl rfl HD4.out.ans) ?_
        go_wp2_with fail
        exact bodyPost_ret (ret29_two (t := 2) (s := 3) (y := .int .i64 0) rfl rfl rfl HD4.out.ans.row) rfl (decP_of HE.out HD4.out.ret)

end Go.Proofs.YtfnaccmgmocolaaDoor
