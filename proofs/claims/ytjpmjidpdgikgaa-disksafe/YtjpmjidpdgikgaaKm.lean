/- One file by a name of its own, from its making to what a crash leaves of it; texts as strings. -/
import Derived.Test.YtjpmjidpdgikgaaKl
namespace Go.Proofs.Ytjpmjidpdgikgaa
open Go.ChangeShapes Go.WideShapes Go.ChangeAt Go.RowKit Go.Deep Go.Maps

abbrev nM : ByteArray := ⟨#[116, 104, 101, 32, 111, 110, 101, 32, 116, 104, 97, 116, 32, 105, 115, 32, 115, 97, 102, 101]⟩
abbrev nO : ByteArray := ⟨#[97, 110, 111, 116, 104, 101, 114, 32, 111, 110, 101]⟩
section
variable {W w : World} {B p c : Nat} {s : Sta} {cs : List Chg}
/-- A name taken away, if it is one: then it is none. -/
theorem TD.rem (h : TD W w B p c s cs) (hc : c ≤ 200) {t : ByteArray} (ht : 1 ≤ t.size ∧ t.size ≤ 32) : Calls Try.prog 10 #[.pointer (some ⟨p, 0, none⟩), .string t] w (fun e w' => (∃ z : Int, e = .returned (.int .i64 z)) ∧ ∃ s' cs', TD W w' B p (c + 1) s' cs' ∧ s'.f1 (litS t) = none) := by
  rcases name_cases h.d t with hf | ⟨x, hx, hf⟩
  · refine (remove_none h.d.blk h.d.room h.d.mp1 (by omega) hf).mono ?_
    rintro e w' ⟨rfl, hb⟩
    exact ⟨⟨7, rfl⟩, s, cs, (h.below hb).next, hf⟩
  · refine (remove_some h.d.blk h.d.room h.d.mp1 h.d.pend h.d.hB (k1_lt h.d h.ok hc) (by omega) hf).mono ?_
    rintro e w' ⟨rfl, hn⟩
    obtain ⟨k', qa, qn, qc, hm⟩ := h.d.note (fun h0 => absurd rfl h0) hn
    exact ⟨⟨0, rfl⟩, _, _, h.mv hm (ok_chg h.ok hc ⟨ht.2, by decide⟩ (fun _ hx => hx) h.ok.n (Nat.le_succ _) h.ok.num (Nat.le_add_right _ _) (fun h0 => absurd rfl h0)), chF_gone (gone := t) (set := ⟨#[]⟩) (v := .pointer none) (fun e => by rw [e] at ht; exact absurd ht.1 (by decide))⟩
/-- A new file. -/
theorem TD.anew (h : TD W w B p c s cs) (hc : c ≤ 200) {t : ByteArray} (ht : 1 ≤ t.size ∧ t.size ≤ 32) (hf : s.f1 (litS t) = none) {ba : Option Addr} {bl bc : Nat} {bs : List Nat} (hr : In W ba bl bc bs) (hbl : bl ≤ 1000) :
    Calls Try.prog 11 #[.pointer (some ⟨p, 0, none⟩), .string t, .slice ba bl bc] w (fun e w' => e = .returned (.int .i64 0) ∧ ∃ s' cs' x, TD W w' B p (c + 1) s' cs' ∧ x ∈ s'.F ∧ s'.f1 (litS t) = some x.ptr ∧ x.bs = bs) := by
  have htot := h.ok.tot
  refine (app_new h.d h.ok hc ht hf (hr.row.below h.b) hr.nil hbl (fun ad ha h0 => h.far (hr.row.lt ad ha h0)) (by omega) (by omega)).mono ?_
  rintro e w' ⟨rfl, g, a, cap, k, qa, qn, qc, s', hm, ho, hs⟩
  refine ⟨rfl, s', _, ⟨g, s.n, a, cap, 0, bs⟩, h.mv hm ho, ?_, ?_, rfl⟩
  · rw [hs]; exact List.mem_append_right _ (List.mem_singleton.2 rfl)
  · rw [hs]; exact chF_hit (by omega)
/-- It is synced. -/
theorem TD.syn (h : TD W w B p c s cs) (_hc : c ≤ 200) {t : ByteArray} (ht : t.size ≤ 1000000) {x : Fi} (hx : x ∈ s.F) (hf : s.f1 (litS t) = some x.ptr) :
    Calls Try.prog 12 #[.pointer (some ⟨p, 0, none⟩), .string t] w (fun e w' => e = .returned (.int .i64 0) ∧ ∃ s' cs' x', TD W w' B p (c + 1) s' cs' ∧ x' ∈ s'.F ∧ s'.f1 (litS t) = some x'.ptr ∧ x'.bs = x.bs ∧ x'.dur = x.bs.length) := by
  refine (syn_old h.d h.ok ht hx hf).mono ?_
  rintro e w' ⟨rfl, s', hm, ho, hs⟩
  exact ⟨rfl, s', cs, { x with dur := x.bs.length }, h.mv hm ho, by rw [hs]; exact upF_mem hx rfl, by rw [hs]; exact hf, rfl, rfl⟩
/-- The names are made durable. -/
theorem TD.dir (h : TD W w B p c s cs) : Calls Try.prog 13 #[.pointer (some ⟨p, 0, none⟩)] w (fun e w' => e = .returned (.int .i64 0) ∧ ∃ s', TD W w' B p (c + 1) s' [] ∧ s'.F = s.F ∧ s'.f1 = s.f1 ∧ s'.f2 = s.f1) := by
  refine (syn_dir h.d h.ok).mono ?_
  rintro e w' ⟨rfl, m, s', hm, ho, hs⟩
  exact ⟨rfl, s', h.mv hm ho, by rw [hs], by rw [hs], by rw [hs]⟩
/-- More bytes for it. -/
theorem TD.more (h : TD W w B p c s cs) (hc : c ≤ 200) {t : ByteArray} (ht : 1 ≤ t.size ∧ t.size ≤ 32) {x : Fi} (hx : x ∈ s.F) (hf : s.f1 (litS t) = some x.ptr) {ba : Option Addr} {bl bc : Nat} {bs : List Nat} (hr : In W ba bl bc bs) (hbl : bl ≤ 1000) :
    Calls Try.prog 11 #[.pointer (some ⟨p, 0, none⟩), .string t, .slice ba bl bc] w (fun e w' => e = .returned (.int .i64 0) ∧ ∃ s' x', TD W w' B p (c + 1) s' cs ∧ x' ∈ s'.F ∧ x'.ptr = x.ptr ∧ x'.bs = x.bs ++ bs ∧ x'.dur = x.dur ∧ s'.f1 = s.f1 ∧ s'.f2 = s.f2 ∧ ∀ z ∈ s.F, z.g ≠ x.g → z ∈ s'.F) := by
  have htot := h.ok.tot
  refine (app_old h.d h.ok hc ht hx hf (hr.row.below h.b) hr.nil hbl (fun ad ha h0 => h.far (hr.row.lt ad ha h0)) (by omega) (by omega)).mono ?_
  rintro e w' ⟨rfl, a, cap, s', hm, ho, hs⟩
  exact ⟨rfl, s', { x with a := a, cap := cap, bs := x.bs ++ bs }, h.mv hm ho, by rw [hs]; exact upF_mem hx rfl, rfl, rfl, rfl, by rw [hs], by rw [hs], fun z hz hne => by rw [hs]; exact upF_other hz hne⟩
/-- More bytes for another one. -/
theorem TD.other (h : TD W w B p c s []) (hc : c ≤ 200) {t u : ByteArray} (ht : 1 ≤ t.size ∧ t.size ≤ 32) (hu : u ≠ t) {x : Fi} (hx : x ∈ s.F) (hf : s.f1 (litS u) = some x.ptr) {ba : Option Addr} {bl bc : Nat} {bs : List Nat} (hr : In W ba bl bc bs) (hbl : bl ≤ 1000) :
    Calls Try.prog 11 #[.pointer (some ⟨p, 0, none⟩), .string t, .slice ba bl bc] w (fun e w' => e = .returned (.int .i64 0) ∧ ∃ s' cs', TD W w' B p (c + 1) s' cs' ∧ x ∈ s'.F ∧ s'.f2 = s.f2 ∧ ∀ d ∈ cs', d.gone = ⟨#[]⟩ ∧ d.set = t) := by
  rcases name_cases h.d t with hn | ⟨y, hy, hfy⟩
  · have htot := h.ok.tot
    refine (app_new h.d h.ok hc ht hn (hr.row.below h.b) hr.nil hbl (fun ad ha h0 => h.far (hr.row.lt ad ha h0)) (by omega) (by omega)).mono ?_
    rintro e w' ⟨rfl, g, a, cap, k, qa, qn, qc, s', hm, ho, hs⟩
    exact ⟨rfl, s', _, h.mv hm ho, by rw [hs]; exact List.mem_append_left _ hx, by rw [hs], fun d hd => by rw [List.nil_append] at hd; rw [List.mem_singleton.1 hd]; exact ⟨rfl, rfl⟩⟩
  · refine (h.more hc ht hy hfy hr hbl).mono ?_
    rintro e w' ⟨rfl, s', _, hT, _, _, _, _, _, h2, hk⟩
    refine ⟨rfl, s', [], hT, hk x hx (fun e => hu ?_), h2, fun d hd => (by cases hd)⟩
    have hp : x.ptr = y.ptr := by unfold Fi.ptr; rw [e]
    exact litS_inj (h.ok.good.once _ _ _ hf (by rw [hfy, hp]))
/-- A crash: what is left of it. -/
theorem TD.crash (h : TD W w B p c s cs) (hc : c ≤ 200) {u t : ByteArray} (hu : u ≠ t) (hu0 : u ≠ ⟨#[]⟩) {x : Fi} (hx : x ∈ s.F) (hf : s.f2 (litS u) = some x.ptr) (hcs : ∀ d ∈ cs, d.gone = ⟨#[]⟩ ∧ d.set = t) (ch : Nat) (hch : ch < 256) {ca : Option Addr} {cl cc : Nat} {cuts : List Nat} (hr : In W ca cl cc cuts) :
    Calls Try.prog 14 #[.pointer (some ⟨p, 0, none⟩), .int .u8 (ch : Int), .slice ca cl cc] w (fun e w' => e = .returned (.int .i64 0) ∧ ∃ s' x' n, TD W w' B p (c + 1) s' [] ∧ x' ∈ s'.F ∧ s'.f1 (litS u) = some x'.ptr ∧ x'.bs = x.bs.take n ∧ x.dur ≤ n ∧ n ≤ x.bs.length) := by
  have hname : ∀ l : List Chg, (∀ d ∈ l, d.gone = ⟨#[]⟩ ∧ d.set = t) → ∀ f : Lit → Option Value, iterF f l (litS u) = f (litS u) := by
    intro l
    induction l with
    | nil => intro _ f; rfl
    | cons d l ih =>
      intro hd f
      obtain ⟨h1, h2⟩ := hd d List.mem_cons_self
      show iterF (chF f d.gone d.set (.pointer d.v)) l (litS u) = f (litS u)
      rw [ih (fun e he => hd e (List.mem_cons_of_mem _ he)), h1, h2, chF_miss hu hu0]
  refine (crash_any h.d h.ok (by omega) ch hch (hr.row.below h.b) (fun ad ha h0 => h.far (hr.row.lt ad ha h0))).mono ?_
  rintro e w' ⟨rfl, m1, m2, k, hm⟩
  have hj : ch % (cs.length + 1) ≤ cs.length := by have := Nat.mod_lt ch (show cs.length + 1 > 0 by omega); omega
  have hfu : iterF s.f2 (cs.take (ch % (cs.length + 1))) (litS u) = some x.ptr := by rw [hname _ (fun d hd => hcs d (List.mem_of_mem_take hd)), hf]
  have hd := h.d.fls.dur x hx
  refine ⟨rfl, _, x.cr cuts, x.dur + x.cut cuts, h.mv hm (ok_crash h.ok cuts hj), ?_, hfu, rfl, Nat.le_add_right _ _, x.cut_le cuts hd⟩
  exact List.mem_map.2 ⟨x, hx, by rw [if_pos ⟨u, hfu⟩]⟩
/-- Any crash. -/
theorem TD.crash0 (h : TD W w B p c s cs) (hc : c ≤ 200) : Calls Try.prog 14 #[.pointer (some ⟨p, 0, none⟩), .int .u8 0, .slice none 0 0] w (fun e w' => e = .returned (.int .i64 0) ∧ Below W.heap.size W w') := by
  refine (crash_any h.d h.ok (by omega) 0 (by omega) (row_nil w none) (fun ad ha => by cases ha) (cc := 0)).mono ?_
  rintro e w' ⟨rfl, m1, m2, k, hm⟩
  exact ⟨rfl, (h.mv hm (ok_crash h.ok [] (by simp))).b⟩
end
theorem strOf_size (l : List Nat) : (strOf l).size = l.length := by simp [strOf, strOfNums_size]
theorem strOf_add (l m : List Nat) : strOf l ++ strOf m = strOf (l ++ m) := by
  apply ByteArray.ext
  rw [ByteArray.data_append]
  simp [strOf, strOfNums]
theorem strOf_cut (l : List Nat) (n : Nat) : (strOf l).extract 0 n = strOf (l.take n) := by
  apply ByteArray.ext
  rw [ByteArray.data_extract]
  simp [strOf, strOfNums, List.map_take]
theorem add_str {l m : List Nat} {w : World} (hl : l.length ≤ 1000000) (hm : m.length ≤ 1000000) : (binOp .add 9 (.string (strOf l)) (.string (strOf m))).run Try.prog w = .ok (.string (strOf (l ++ m))) w := by
  rw [binOp_string_add, run_string_add_sum (P := Try.prog) (w := w) (strOf l) (strOf m) (by rw [strOf_size, strOf_size]; omega), strOf_add]
theorem exec_cutS {ev : Operand → Value} {o : Oper} {w : World} {x y : Operand} {l : List Nat} {n : Nat} (ho : o.op = .slice 9 x none (some y) none) (hx : ev x = .string (strOf l)) (hy : ev y = .int .i64 (n : Int)) (hn : n ≤ l.length) : (execOp ev o).run Try.prog w = .ok (.value (.string (strOf (l.take n)))) w := by
  have h := run_slice_string_h (P := Try.prog) w 9 (strOf l) Try.underlying9 .i64 (n : Int) (by omega) (by rw [strOf_size]; omega)
  rw [Int.toNat_natCast, strOf_cut] at h
  unfold execOp
  simp [ho, hx, hy, Instr.sliceAt, h]
theorem und24 : Try.prog.underlying 24 = some (.array 2 23) := Try.underlying24
set_option maxRecDepth 100000 in
/-- Two texts that came in. -/
theorem pair_of {H : Type} {enc : TypeId × Value → H} {W : World} {r : Reach} {b : Nat} {v : Value} {d : DataW H} {p : List MemPlace} (hv : Value.okWide Try.prog W r b 24 v)
    (h : DataW.Trod enc Try.prog W 0 (fun _ => true) true 24 v d p) : ∃ (a1 : Option Addr) (l1 c1 : Nat) (x1 : List Nat) (a2 : Option Addr) (l2 c2 : Nat) (x2 : List Nat), In W a1 l1 c1 x1 ∧ In W a2 l2 c2 x2 ∧ v = .agg #[.slice a1 l1 c1, .slice a2 l2 c2] := by
  obtain ⟨cs, rfl, hs⟩ : ∃ cs, v = .agg cs ∧ cs.size = 2 := by
    simp only [Value.okWide, Try.underlying24] at hv
    obtain ⟨cs, h1, h2, _⟩ := hv
    exact ⟨cs, h1, h2.trans (by kernel_rfl)⟩
  obtain ⟨fuel, hf⟩ := h
  obtain ⟨l, rfl⟩ : ∃ l : List Value, cs = l.toArray := ⟨cs.toList, by simp⟩
  have hl : l.length = 2 := by simpa using hs
  obtain ⟨xs, m, _, _, _, hxl, hg⟩ := DataW.trod_array und24 hf
  match l, hl, xs, hxl with
  | [c0, c1], _, [y0, y1], _ =>
    have h0 : DataW.trod enc Try.prog W 0 (fun _ => true) true m 23 [c0] = some y0 := by
      have := hg 0 (by omega)
      simpa [cells23', Value.cells] using this
    have h1 : DataW.trod enc Try.prog W 0 (fun _ => true) true m 23 [c1] = some y1 := by
      have := hg 1 (by omega)
      simpa [cells23', Value.cells] using this
    obtain ⟨a1, l1, p1, b1, rfl, i1⟩ := sl_of h0
    obtain ⟨a2, l2, p2, b2, rfl, i2⟩ := sl_of h1
    exact ⟨a1, l1, p1, b1, a2, l2, p2, b2, i1, i2, rfl⟩
end Go.Proofs.Ytjpmjidpdgikgaa
