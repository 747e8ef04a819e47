/- Walks of the program's reading of a frame's content: consume, numberOf, recordOf. -/
import Derived.Test.YtfnaccmgmocolaaDoorSa
namespace Go.Proofs.YtfnaccmgmocolaaDoor
open Go.RowKit

/-- Bytes do not lie in a block whose only cell is something else. -/
theorem row_apart {w : World} {a : Option Addr} {len : Nat} {bs : List Nat} {c t : Nat} {v : Value} (h : Row w a len bs) (hb : Blk w c t #[v]) (hv : ∀ n : Int, v ≠ .int .u8 n) : ∀ ad, a = some ad → len ≠ 0 → ad.block ≠ c := by
  rintro ad rfl h0 rfl
  rcases h.cells with hz | ⟨b, off, ha, hc⟩
  · exact h0 hz
  · obtain rfl := Option.some.inj ha
    have := hc 0 (by omega)
    rw [hb.cell] at this
    by_cases ho : off + 0 = 0
    · rw [ho] at this
      simp at this
      exact hv _ this
    · rw [Array.getElem?_eq_none (by simp; omega)] at this
      cases this

/-- A reader, and a cell of its own beside it. -/
structure RdC (w : World) (p er : Nat) (bs : List Nat) (c t : Nat) (v : Value) : Prop where
  rd : ∃ a len cap, Rd w p er a len cap bs
  cell : Blk w c t #[v]
  ne : c ≠ p

theorem RdC.put {w w' : World} {p er er' : Nat} {bs bs' : List Nat} {c t : Nat} {v u : Value} {a : Option Addr} {len cap : Nat} (h : RdC w p er bs c t v) (hv : ∀ n : Int, v ≠ .int .u8 n) (hr : Rd w' p er' a len cap bs') (hk : Kept (fun k => k = p) w w') :
    RdC (w'.setCell ⟨c, 0, none⟩ u) p er' bs' c t u ∧ Kept (fun k => k = p ∨ k = c) w (w'.setCell ⟨c, 0, none⟩ u) := by
  have hc := h.cell.kept hk h.ne
  have hset : Kept (fun k => k = c) w' (w'.setCell ⟨c, 0, none⟩ u) := Kept.setCell w' ⟨c, 0, none⟩ u
  refine ⟨⟨⟨a, len, cap, hr.keep hset (fun e => h.ne e.symm) (row_apart hr.row hc hv)⟩, ?_, h.ne⟩, (hk.mono (fun k hk => .inl hk)).trans hset (fun i hi => .inl (.inr hi))⟩
  have := hc.set 0 u
  simpa using this

set_option maxHeartbeats 1000000 in
theorem num1_any (p er c : Nat) (bs : List Nat) (z : Nat) (w : World) (h : RdC w p er bs c 63 (.int .u64 (z : Int))) :
    Calls Tryd.prog 56 #[.pointer (some ⟨p, 0, none⟩), .pointer (some ⟨c, 0, none⟩)] w fun e w' => e = .returned (.tuple #[]) ∧ RdC w' p (numE er bs) (numB er bs) c 63 (.int .u64 (numX er bs : Int)) ∧ Kept (fun k => k = p ∨ k = c) w w' := by
  obtain ⟨a, len, cap, hr⟩ := h.rd
  have HN := Lib.hid (rnum_any p er a len cap bs w hr)
  have H := Lib.hid h
  clear h hr
  generalize numX er bs = x at HN
  go_enter Tryd.func56, Tryd.ntmps56
  go_wp2_with fail
  refine HN.out.mono ?_
  rintro e w1 ⟨a1, len1, cap1, rfl, hr1, hk1⟩
  have hc1 := H.out.cell.kept hk1 H.out.ne
  have c1 : w1.cell? ⟨c, 0, none⟩ = some (.int .u64 (z : Int)) := by rw [hc1.cell]; rfl
  have f1 : w1.frozen? ⟨c, 0, none⟩ = false := hc1.frozen 0
  have HP := Lib.hid (H.out.put (u := .int .u64 (x : Int)) (fun n e => by cases e) hr1 hk1)
  clear hr1 hk1 hc1 HN
  go_wp2_with fail
  go_end0
  exact ⟨rfl, HP.out.1, HP.out.2⟩

set_option maxHeartbeats 1000000 in
theorem rec1r_any (p er c : Nat) (bs : List Nat) (z : Option Addr) (zm zd : Nat) (w : World) (h : RdC w p er bs c 31 (.slice z zm zd)) (hcl : c < w.heap.size) :
    Calls Tryd.prog 80 #[.pointer (some ⟨p, 0, none⟩), .pointer (some ⟨c, 0, none⟩)] w fun e w' => e = .returned (.tuple #[]) ∧ ∃ b m d, Own w' w.heap.size b m d (bytX er bs) ∧ RdC w' p (bytE er bs) (bytB er bs) c 31 (.slice b m d) ∧ Kept (fun k => k = p ∨ k = c) w w' := by
  obtain ⟨a, len, cap, hr⟩ := h.rd
  have HN := Lib.hid (rbytes_any p er a len cap bs w hr)
  have H := Lib.hid h
  clear h hr
  go_enter Tryd.func80, Tryd.ntmps80
  go_wp2_with fail
  refine HN.out.mono ?_
  rintro e w1 ⟨b, m, d, a1, len1, cap1, rfl, ho1, hr1, hk1⟩
  have hc1 := H.out.cell.kept hk1 H.out.ne
  have c1 : w1.cell? ⟨c, 0, none⟩ = some (.slice z zm zd) := by rw [hc1.cell]; rfl
  have f1 : w1.frozen? ⟨c, 0, none⟩ = false := hc1.frozen 0
  have HP := Lib.hid (H.out.put (u := .slice b m d) (fun n e => by cases e) hr1 hk1)
  have HO := Lib.hid (ho1.keep (Kept.setCell w1 ⟨c, 0, none⟩ (.slice b m d)) (fun ad ha e => by have := (ho1.lt ad ha).1; simp only at e; omega))
  clear hr1 hk1 hc1 HN ho1
  go_wp2_with fail
  go_end0
  exact ⟨rfl, b, m, d, HO.out, HP.out.1, HP.out.2⟩

/-- What consume leaves in the cell of the function that is handed over. -/
def ConsN (k c : Nat) (fs : List Nat) (w : World) (e : Ending) (w' : World) : Prop :=
  ∃ z : Nat, e = .returned (.bool (Seg.pairD k fs)) ∧ Blk w' c 63 #[.int .u64 (z : Int)] ∧ (Seg.pairD k fs = true → z = Seg.pairN fs) ∧ Kept (fun i => i = c) w w'
def ConsR (c : Nat) (fs : List Nat) (w : World) (e : Ending) (w' : World) : Prop :=
  ∃ b m d, e = .returned (.bool (Seg.recD fs)) ∧ Blk w' c 31 #[.slice b m d] ∧ (Seg.recD fs = true → Own w' w.heap.size b m d (Seg.recN fs)) ∧ Kept (fun i => i = c) w w'

set_option maxHeartbeats 2000000 in
theorem consN_any (a : Option Addr) (len cap k c : Nat) (fs : List Nat) (w : World) (hl : len ≤ 1000000) (hR : Row w a len fs) (hz : a = none → len = 0 ∧ cap = 0) (hc : Blk w c 63 #[.int .u64 ((0 : Nat) : Int)]) (hk : k < 100) :
    Calls Tryd.prog 55 #[.slice a len cap, .int .u64 (k : Int), .func (.func 56) #[] #[.pointer (some ⟨c, 0, none⟩)]] w (ConsN k c fs w) := by
  have HRD := Lib.hid (read_any a len cap fs w hl hR hz)
  have HC := Lib.hid hc
  have hx := num_lt (er := 0) hR.small
  clear hR hz hc
  go_enter Tryd.func55, Tryd.ntmps55
  go_wp2_with fail
  refine HRD.out.mono ?_
  rintro e w1 ⟨p, a1, cap1, rfl, hp, hr1, hb1, _⟩
  have hne : c ≠ p := by have := HC.out.lt; omega
  have HP1 : Hid (RdC w1 p 0 fs c 63 (.int .u64 ((0 : Nat) : Int))) := Lib.hid ⟨⟨_, _, _, hr1⟩, HC.out.below hb1, hne⟩
  have HN := Lib.hid (rnum_any p 0 a1 fs.length cap1 fs w1 hr1)
  have HB1 := Lib.hid hb1
  have HPG := Lib.hid hp
  clear hr1 hb1 hp HRD
  generalize hxx : numX 0 fs = x at hx HN
  go_wp2_with fail
  refine HN.out.mono ?_
  rintro e w2 ⟨a2, len2, cap2, rfl, hr2, hk2⟩
  have HP2 : Hid (RdC w2 p (numE 0 fs) (numB 0 fs) c 63 (.int .u64 ((0 : Nat) : Int))) := Lib.hid ⟨⟨_, _, _, hr2⟩, HP1.out.cell.kept hk2 hne, hne⟩
  have HB2 : Hid (Below w.heap.size w w2) := Lib.hid (HB1.out.trans (hk2.below HB1.out.size (fun i hi => by rw [hi]; exact HPG.out)))
  have HXX := Lib.hid hxx
  clear hr2 hk2 HN HP1 HB1 hxx
  by_cases hq : x = k
  · have HQ := Lib.hid hq
    subst hq
    have HCL := Lib.hid (num1_any p (numE 0 fs) c (numB 0 fs) 0 w2 HP2.out)
    go_wp2_with (go_at_call 56; refine HCL.out.mono ?_; rintro e w3 ⟨rfl, hp3, hk3⟩; have HP3 := Lib.hid hp3; have HK3 := Lib.hid hk3; clear hp3 hk3)
    clear HCL
    obtain ⟨a3, len3, cap3, hr3⟩ := HP3.out.rd
    have HD := Lib.hid (done_any p _ a3 len3 cap3 _ w3 hr3)
    clear hr3
    generalize hdd : doneB (numE (numE 0 fs) (numB 0 fs)) (numB (numE 0 fs) (numB 0 fs)) = dd at HD
    have HDD := Lib.hid hdd
    clear hdd HP2
    go_wp2_with fail
    refine HD.out.mono ?_
    rintro e w4 ⟨rfl, rfl⟩
    go_wp2_with fail
    go_ret
    have e1 : Seg.pairD x fs = dd := by
      unfold Seg.pairD
      rw [HXX.out, HDD.out]
      simp
    have hk4 : Kept (fun i => i = c) w w3 := (Kept.of_below HB2.out).trans HK3.out (fun i hi => by
      rcases hi with hi | hi
      · exact .inr (by rw [hi]; exact HPG.out)
      · exact .inl hi)
    exact ⟨_, by rw [e1]; rfl, HP3.out.cell, fun _ => rfl, hk4⟩
  · have HQ := Lib.hid hq
    have hq2 : ((x : Int) != (k : Int)) = true := by simp; omega
    clear hq
    go_wp2_with fail
    go_ret
    have e1 : Seg.pairD k fs = false := by
      unfold Seg.pairD
      rw [HXX.out]
      simp [HQ.out]
    exact ⟨0, by rw [e1]; rfl, HP2.out.cell, (fun h => by rw [e1] at h; cases h), Kept.of_below HB2.out⟩

set_option maxHeartbeats 2000000 in
theorem consR_any (a : Option Addr) (len cap c : Nat) (fs : List Nat) (w : World) (hl : len ≤ 1000000) (hR : Row w a len fs) (hz : a = none → len = 0 ∧ cap = 0) (hc : Blk w c 31 #[.slice none 0 0]) :
    Calls Tryd.prog 55 #[.slice a len cap, .int .u64 2, .func (.func 80) #[] #[.pointer (some ⟨c, 0, none⟩)]] w (ConsR c fs w) := by
  have HRD := Lib.hid (read_any a len cap fs w hl hR hz)
  have HC := Lib.hid hc
  have hx := num_lt (er := 0) hR.small
  clear hR hz hc
  go_enter Tryd.func55, Tryd.ntmps55
  go_wp2_with fail
  refine HRD.out.mono ?_
  rintro e w1 ⟨p, a1, cap1, rfl, hp, hr1, hb1, _⟩
  have hne : c ≠ p := by have := HC.out.lt; omega
  have HP1 : Hid (RdC w1 p 0 fs c 31 (.slice none 0 0)) := Lib.hid ⟨⟨_, _, _, hr1⟩, HC.out.below hb1, hne⟩
  have HN := Lib.hid (rnum_any p 0 a1 fs.length cap1 fs w1 hr1)
  have HB1 := Lib.hid hb1
  have HPG := Lib.hid hp
  clear hr1 hb1 hp HRD
  generalize hxx : numX 0 fs = x at hx HN
  go_wp2_with fail
  refine HN.out.mono ?_
  rintro e w2 ⟨a2, len2, cap2, rfl, hr2, hk2⟩
  have HP2 : Hid (RdC w2 p (numE 0 fs) (numB 0 fs) c 31 (.slice none 0 0)) := Lib.hid ⟨⟨_, _, _, hr2⟩, HP1.out.cell.kept hk2 hne, hne⟩
  have HB2 : Hid (Below w.heap.size w w2) := Lib.hid (HB1.out.trans (hk2.below HB1.out.size (fun i hi => by rw [hi]; exact HPG.out)))
  have HXX := Lib.hid hxx
  clear hr2 hk2 HN HP1 HB1 hxx
  by_cases hq : x = 2
  · have HQ := Lib.hid hq
    subst hq
    have HCL := Lib.hid (rec1r_any p (numE 0 fs) c (numB 0 fs) none 0 0 w2 HP2.out HP2.out.cell.lt)
    go_wp2_with (go_at_call 80; refine HCL.out.mono ?_; rintro e w3 ⟨rfl, b, m, d, ho3, hp3, hk3⟩; have HO3 := Lib.hid ho3; have HP3 := Lib.hid hp3; have HK3 := Lib.hid hk3; clear ho3 hp3 hk3)
    clear HCL
    obtain ⟨a3, len3, cap3, hr3⟩ := HP3.out.rd
    have HD := Lib.hid (done_any p _ a3 len3 cap3 _ w3 hr3)
    clear hr3
    generalize hdd : doneB (bytE (numE 0 fs) (numB 0 fs)) (bytB (numE 0 fs) (numB 0 fs)) = dd at HD
    have HDD := Lib.hid hdd
    clear hdd HP2
    go_wp2_with fail
    refine HD.out.mono ?_
    rintro e w4 ⟨rfl, rfl⟩
    go_wp2_with fail
    go_ret
    have e1 : Seg.recD fs = dd := by
      unfold Seg.recD
      rw [HXX.out, HDD.out]
      simp
    have hk4 : Kept (fun i => i = c) w w3 := (Kept.of_below HB2.out).trans HK3.out (fun i hi => by
      rcases hi with hi | hi
      · exact .inr (by rw [hi]; exact HPG.out)
      · exact .inl hi)
    exact ⟨b, m, d, by rw [e1]; rfl, HP3.out.cell, fun _ => HO3.out.mono HB2.out.size, hk4⟩
  · have HQ := Lib.hid hq
    have hq2 : ((x : Int) != 2) = true := by simp; omega
    clear hq
    go_wp2_with fail
    go_ret
    have e1 : Seg.recD fs = false := by
      unfold Seg.recD
      rw [HXX.out]
      simp [HQ.out]
    exact ⟨none, 0, 0, by rw [e1]; rfl, HP2.out.cell, (fun h => by rw [e1] at h; cases h), Kept.of_below HB2.out⟩

/-- What numberOf answers. -/
def NumP (k most : Nat) (fs : List Nat) (w : World) (e : Ending) (w' : World) : Prop :=
  e = .returned (.tuple #[.int .u64 (((Seg.num k most fs).getD 0 : Nat) : Int), .bool (Seg.num k most fs).isSome]) ∧ Below w.heap.size w w'
theorem numP_no {k most : Nat} {fs : List Nat} {w w' : World} (h : Seg.num k most fs = none) (hb : Below w.heap.size w w') : NumP k most fs w (.returned (.tuple #[.int .u64 0, .bool false])) w' := by
  unfold NumP
  rw [h]
  exact ⟨rfl, hb⟩
theorem numP_yes {k most n : Nat} {fs : List Nat} {w w' : World} (h : Seg.num k most fs = some n) (hb : Below w.heap.size w w') : NumP k most fs w (.returned (.tuple #[.int .u64 (n : Int), .bool true])) w' := by
  unfold NumP
  rw [h]
  exact ⟨rfl, hb⟩
theorem cell_of {w : World} {g t : Nat} {v : Value} (h : Blk w g t #[v]) : w.cell? ⟨g, 0, none⟩ = some v := by rw [h.cell]; rfl
theorem below_cell {w w' : World} {x : Value} {t : Nat} (h : Kept (fun i => i = w.heap.size) (w.alloc (.cells #[x] t)) w') : Below w.heap.size w w' :=
  Below.trans ((Below.refl _ _).alloc (Nat.le_refl _) _) (h.below (by simp) (fun i hi => by rw [hi]; exact Nat.le_refl _))

theorem ret63_two {fn : Func} {t s : Tmp} (h : fn.results = #[.cell t 63, .tmp s]) {tmps : Array Value} {w : World} {g : Nat} {x y : Value} (hx : tmps.getD t undef = .pointer (some ⟨g, 0, none⟩)) (hy : tmps.getD s undef = y) (hc : w.cell? ⟨g, 0, none⟩ = some x) :
    (results fn tmps).run Tryd.prog w = .ok (.tuple #[x, y]) w := by
  rw [results_cell_tmp h, hx, hy]
  simp [Result.andThen, asAddr, go_sem, hc]
theorem set_cell {w : World} {g t : Nat} {v : Value} (h : Blk w g t #[v]) (u : Value) : (w.setCell ⟨g, 0, none⟩ u).cell? ⟨g, 0, none⟩ = some u := by
  rw [(h.set 0 u).cell]; rfl

set_option maxHeartbeats 2000000 in
theorem numOf_any (a : Option Addr) (len cap k most : Nat) (fs : List Nat) (w : World) (hl : len ≤ 1000000) (hR : Row w a len fs) (hz : a = none → len = 0 ∧ cap = 0) (hk0 : k ≠ 0) (hk : k < 100) (hm : most < 4294967296) :
    Calls Tryd.prog 33 #[.slice a len cap, .int .u64 (k : Int), .int .u64 (most : Int)] w (NumP k most fs w) := by
  have hal : Below w.heap.size w (w.alloc (.cells #[.int .u64 0] 63)) := (Below.refl _ _).alloc (Nat.le_refl _) _
  have HC := Lib.hid (consN_any a len cap k w.heap.size fs (w.alloc (.cells #[.int .u64 0] 63)) hl (hR.below hal) hz (Blk.new w 63 #[.int .u64 0]) hk)
  have hnum := Seg.num_pair (k := k) (most := most) fs hk0 (by omega) (by omega) hR.small
  have hlt := num_lt (er := numE 0 fs) (numB_lt (er := 0) hR.small)
  have HNUM := Lib.hid hnum
  clear hR hz hal hnum
  go_enter Tryd.func33, Tryd.ntmps33
  go_wp2_with fail
  refine HC.out.mono ?_
  rintro e w1 ⟨z, rfl, hb1, hz1, hk1⟩
  have c1 := cell_of hb1
  have f1 : w1.frozen? ⟨w.heap.size, 0, none⟩ = false := hb1.frozen 0
  have hold := below_cell hk1
  have HOLD := Lib.hid hold
  have HST : Hid (∀ u, Below w.heap.size w (w1.setCell ⟨w.heap.size, 0, none⟩ u)) := Lib.hid (fun u => hold.trans ((Kept.setCell w1 ⟨w.heap.size, 0, none⟩ u).below hold.size (fun i hi => by rw [hi]; exact Nat.le_refl _)))
  have HSC := Lib.hid (fun u => set_cell hb1 u)
  cases hd : Seg.pairD k fs
  · rw [hd] at HNUM
    have HN : Hid (Seg.num k most fs = none) := Lib.hid (by rw [HNUM.out]; simp)
    clear HC hb1 hz1 hk1 hold hd HNUM hlt
    go_wp2_with fail
    exact bodyPost_ret (ret63_two (t := 6) (s := 7) (y := .bool false) rfl rfl rfl (HSC.out _)) rfl (numP_no HN.out (HST.out _))
  · have hzz := hz1 hd
    subst hzz
    change Seg.pairN fs < 18446744073709551616 at hlt
    rw [hd] at HNUM
    generalize Seg.pairN fs = z at *
    by_cases hle : z ≤ most
    · have HN : Hid (Seg.num k most fs = some z) := Lib.hid (by rw [HNUM.out]; simp [hle])
      clear HC hb1 hz1 hk1 hold hd HNUM
      go_wp2_with fail
      exact bodyPost_ret (ret63_two (t := 6) (s := 7) (y := .bool true) rfl rfl rfl (HSC.out _)) rfl (numP_yes HN.out (HST.out _))
    · have HN : Hid (Seg.num k most fs = none) := Lib.hid (by rw [HNUM.out]; simp [hle])
      clear HC hb1 hz1 hk1 hold hd HNUM
      go_wp2_with fail
      exact bodyPost_ret (ret63_two (t := 6) (s := 7) (y := .bool false) rfl rfl rfl (HSC.out _)) rfl (numP_no HN.out (HST.out _))

/-- What recordOf answers. -/
def OpP (fs : List Nat) (w : World) (e : Ending) (w' : World) : Prop :=
  ∃ (u : O) (ok : Bool), e = .returned (.tuple #[.agg u.arr, .bool ok]) ∧ Seg.opr fs = (if ok = true then some u else none) ∧ Below w.heap.size w w'

/-- The block of an answer that is an operation. -/
structure An (w W : World) (z : O) : Prop where
  ans : Blk W w.heap.size 29 z.arr
  old : Below w.heap.size w W
theorem An.ret {w W : World} {z : O} (h : An w W z) {ds : Array Value} : Below w.heap.size w (W.setRow w.heap.size ds) :=
  ((Kept.of_below (S := fun k => k = w.heap.size) h.old).trans (Kept.setRow _ _ _) (fun _ h => .inl h)).below (Nat.le_refl _) (fun k hk => by omega)

set_option maxHeartbeats 2000000 in
set_option maxRecDepth 100000 in
theorem recOf_any (a : Option Addr) (len cap : Nat) (fs : List Nat) (w : World) (hl : len ≤ 1000000) (hR : Row w a len fs) (hz : a = none → len = 0 ∧ cap = 0) :
    Calls Tryd.prog 58 #[.slice a len cap] w (OpP fs w) := by
  obtain ⟨z, hz0⟩ : ∃ z, O.zero = z := ⟨_, rfl⟩
  have hal : Below w.heap.size w ((w.alloc (.cells z.arr 29)).alloc (.cells #[.slice none 0 0] 31)) := below_two' _ _ _
  have HAN : Hid (An w ((w.alloc (.cells z.arr 29)).alloc (.cells #[.slice none 0 0] 31)) z) := Lib.hid ⟨(Blk.new w 29 z.arr).below (((Below.refl _ _).alloc (Nat.le_refl _) _)), hal⟩
  have hc := Blk.new (w.alloc (.cells z.arr 29)) 31 #[.slice none 0 0]
  have HC := Lib.hid (consR_any a len cap (w.alloc (.cells z.arr 29)).heap.size fs _ hl (hR.below hal) hz hc)
  have hop := Seg.opr_rec fs hR.small
  have hlen : fs.length ≤ 1000000 := by rw [hR.size]; exact hl
  simp only [World.size_alloc] at HC
  have HZ := Lib.hid hz0
  have HSM := Lib.hid hR.small
  clear hR hz hal hc
  go_enter Tryd.func58, Tryd.ntmps58
  go_wp2_with (refine wpList_run rfl (exec_alloc29z hz0 rfl) ?_)
  refine HC.out.mono ?_
  rintro e w1 ⟨b, m, d, rfl, hb1, ho1, hk1⟩
  have HA1 : Hid (An w w1 z) := Lib.hid ⟨HAN.out.ans.kept hk1 (by omega), HAN.out.old.trans (hk1.below HAN.out.old.size (fun i hi => by rw [hi]; omega))⟩
  have c1 := cell_of hb1
  clear HC HAN hz0 hk1 hb1
  cases hd : Seg.recD fs
  · rw [hd] at hop
    have HOP := Lib.hid hop
    clear ho1 hd hop
    go_wp2_with (first | (refine wpList_run rfl (exec_load29 (p := z) rfl rfl HA1.out.ans) ?_) | (refine wpList_stop29 rfl ?_))
    refine ⟨?_⟩
    refine wpList_void rfl rfl (exec_store29 (p := z) (u := z) rfl rfl rfl HA1.out.ans) ?_
    go_wp2_with fail
    exact bodyPost_ret (ret29_two (t := 2) (s := 3) (y := .bool false) rfl rfl rfl HA1.out.ans.row) rfl ⟨z, false, rfl, by rw [HOP.out]; simp, HA1.out.ret⟩
  · have ho := ho1 hd
    rw [hd] at hop
    have hml : m ≤ 1000000 := by
      have h1 := ho.len
      have h2 := bytX_le (numE 0 fs) (numB 0 fs)
      have h3 := numB_le 0 fs
      unfold Seg.recN at h1
      omega
    obtain ⟨x, hx⟩ : ∃ x, O.decO (Seg.recN fs) = x := ⟨_, rfl⟩
    obtain ⟨er, her⟩ : ∃ er, O.decE (Seg.recN fs) = er := ⟨_, rfl⟩
    have hsm : ∀ c ∈ Seg.recN fs, c < 256 := fun c hc => by
      have e := Seg.rec_yes HSM.out hd
      exact HSM.out c (by rw [e]; exact List.mem_append_right _ (List.mem_append_right _ hc))
    have HD := Lib.hid (decode_op b m d (Seg.recN fs) w1 hml (ho.row hsm) ho.cap.2.2)
    rw [hx, her] at hop
    unfold DecP at HD
    rw [hx, her] at HD
    have HOP := Lib.hid hop
    clear ho1 ho hd hop hsm hx her
    go_wp2_with (first | (refine wpList_stop29 rfl ?_))
    refine HD.out.mono ?_
    rintro e w2 ⟨rfl, hb2⟩
    have HA2 : Hid (An w w2 z) := Lib.hid ⟨HA1.out.ans.below hb2, HA1.out.old.trans (hb2.mono HA1.out.old.size)⟩
    clear hb2 HD HA1 c1
    go_wp2_with (first | (refine wpList_stop29 rfl ?_))
    refine ⟨?_⟩
    refine wpList_void rfl rfl (exec_store29 (p := z) (u := x) rfl rfl rfl HA2.out.ans) ?_
    have HA3 : Hid (An w (w2.setRow w.heap.size x.arr) x) := Lib.hid ⟨HA2.out.ans.row, HA2.out.ret⟩
    generalize w2.setRow w.heap.size x.arr = w3 at HA3
    go_wp2_with (first | (refine wpList_run rfl (exec_load29 (p := x) rfl rfl HA3.out.ans) ?_) | (refine wpList_stop29 rfl ?_))
    refine ⟨?_⟩
    refine wpList_void rfl rfl (exec_store29 (p := x) (u := x) rfl rfl rfl HA3.out.ans) ?_
    go_wp2_with fail
    exact bodyPost_ret (ret29_two (t := 2) (s := 3) (y := .bool ((er : Int) == 0)) rfl rfl rfl HA3.out.ans.row) rfl ⟨x, (er : Int) == 0, rfl, by rw [HOP.out]; simp, HA3.out.ret⟩

end Go.Proofs.YtfnaccmgmocolaaDoor
