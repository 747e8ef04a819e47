/- Walks of the document's reading of a frame's content: second, operation. -/
import Derived.Test.YtfnaccmgmocolaaDoorOq
import Derived.Deep.DeepCutAuto
namespace Go.Proofs.YtfnaccmgmocolaaDoor
open Go.RowKit

namespace Seg
theorem pairD_no1 {k : Nat} {fs : List Nat} (hk : k ≠ 0) (hs : ∀ c ∈ fs, c < 256) (h : numE 0 fs ≠ 0) : pairD k fs = false := by
  have := num_zero hs h
  unfold pairD
  rw [decide_eq_false_iff_not]
  rintro ⟨h1, _⟩
  omega
theorem pairD_no2 {k : Nat} {fs : List Nat} (h : numE (numE 0 fs) (numB 0 fs) ≠ 0) : pairD k fs = false := by
  unfold pairD
  rw [decide_eq_false_iff_not]
  rintro ⟨_, h2⟩
  exact h ((done_iff _ _).1 h2).1
theorem pairD_no3 {k : Nat} {fs : List Nat} (h : numX 0 fs ≠ k) : pairD k fs = false := by
  unfold pairD
  rw [decide_eq_false_iff_not]
  rintro ⟨h1, _⟩
  exact h h1
theorem pairD_last {k : Nat} {fs : List Nat} (h : numX 0 fs = k) : pairD k fs = doneB (numE (numE 0 fs) (numB 0 fs)) (numB (numE 0 fs) (numB 0 fs)) := by
  unfold pairD
  rw [Bool.eq_iff_iff]
  simp [h]
theorem opr_no {fs : List Nat} (hs : ∀ c ∈ fs, c < 256) (h : ¬ (recD fs = true ∧ O.decE (recN fs) = 0)) : opr fs = none := by
  rw [opr_rec fs hs, if_neg h]
theorem recD_iff (fs : List Nat) : recD fs = true ↔ numX 0 fs = 2 ∧ bytE (numE 0 fs) (numB 0 fs) = 0 ∧ bytB (numE 0 fs) (numB 0 fs) = [] := by
  unfold recD
  rw [decide_eq_true_eq, done_iff]
theorem opr_same {fs : List Nat} {u : O} (hr : u.rightB 16 = true) (hu : u.bytes = recN fs) : opr fs = if fs = recB u then some u else none := by
  by_cases h : fs = recB u
  · rw [if_pos h]
    exact opr_some hr h
  · rw [if_neg h]
    refine opr_none fun o _ e => h ?_
    have := (rec_fwd o).2
    rw [← e, ← hu] at this
    rw [O.bytes_inj this]
    exact e
end Seg

theorem exec_load101 {ev : Operand → Value} {q : Oper} {w : World} {x : Operand} {g : Nat} {u v : Value} (ho : q.op = .load 101 x) (hx : ev x = .pointer (some ⟨g, 0, none⟩)) (h : Blk w g 101 #[u, v]) : (execOp ev q).run Tryd.prog w = .ok (.value (.agg #[u, v])) w := exec_cell ho hx (load101 h)

set_option maxHeartbeats 4000000 in
set_option maxRecDepth 100000 in
theorem second_any (a : Option Addr) (len cap k : Nat) (K : Int) (hK : K = (k : Int)) (fs : List Nat) (w : World) (hl : len ≤ 1000000) (hR : Row w a len fs) (hz : a = none → len = 0 ∧ cap = 0) (hc : len ≤ cap) (hk0 : k ≠ 0) (hk : k < 100) :
    Calls Tryd.prog 35 #[.slice a len cap, .int .u64 K] w (Says (.tuple #[.int .u64 (Seg.pairN fs : Int), .bool (Seg.pairD k fs)]) w) := by
  subst hK
  have HS1 : Hid (Sub w a len cap fs w.heap.size) := Lib.hid ⟨hR, hc, hz, hl, hR.lt⟩
  have hsm := hR.small
  have HN1 := Lib.hid (refnum_any 0 a len cap fs w.heap.size w (Nat.le_refl _) HS1.out)
  have HF1 := Lib.hid (fun h => Seg.pairD_no1 (k := k) hk0 hsm h)
  have HF2 := Lib.hid (fun h => Seg.pairD_no2 (k := k) (fs := fs) h)
  have HF3 := Lib.hid (fun h => Seg.pairD_no3 (k := k) (fs := fs) h)
  have HF4 := Lib.hid (fun h => Seg.pairD_last (k := k) (fs := fs) h)
  have HPN : Hid (Seg.pairN fs = numX (numE 0 fs) (numB 0 fs)) := Lib.hid rfl
  generalize Seg.pairD k fs = P at *
  generalize Seg.pairN fs = PN at *
  generalize numX 0 fs = X at *
  generalize numE 0 fs = e1 at *
  generalize numB 0 fs = bs1 at *
  have HNN := Lib.hid (fun B W (hB : B ≤ W.heap.size) (a1 : Option Addr) (n1 c1 : Nat) (h : Sub W a1 n1 c1 bs1 B) => refnum_any e1 a1 n1 c1 bs1 B W hB h)
  generalize numX e1 bs1 = x2 at *
  generalize numE e1 bs1 = e2 at *
  generalize numB e1 bs1 = bs2 at *
  obtain rfl : PN = x2 := HPN.out
  clear hR hz hc HS1 hsm HPN
  go_enter Tryd.func35, Tryd.ntmps35
  go_wp2_with fail
  refine HN1.out.mono ?_
  rintro e w1 ⟨a1, n1, c1, rfl, hs1, hb1⟩
  have HSB1 := Lib.hid hs1
  have HB1 := Lib.hid hb1
  clear hs1 hb1 HN1
  go_wp2_with (refine wpList_stop101 rfl ?_)
  refine ⟨?_⟩
  refine wpList_store101 rfl rfl rfl rfl (Blk.new w1 101 _) ?_
  obtain ⟨hl1, hl2⟩ := laid101 w1 (.slice a1 n1 c1) (.int .i64 (e1 : Int)) (.slice none 0 0) (.int .i64 0)
  have HSB2 := Lib.hid (HSB1.out.below (hl2.mono HB1.out.size))
  have HBL2 := Lib.hid hl1
  have HB2 := Lib.hid (HB1.out.trans (hl2.mono HB1.out.size))
  clear hl1 hl2 HSB1 HB1
  generalize (w1.alloc (.cells #[.slice none 0 0, .int .i64 0] 101)).setRow w1.heap.size #[.slice a1 n1 c1, .int .i64 (e1 : Int)] = w2 at HSB2 HBL2 HB2
  generalize w1.heap.size = g6 at HBL2
  have HN2 := Lib.hid (HNN.out w.heap.size w2 HB2.out.size a1 n1 c1 HSB2.out)
  go_wp2_with (refine wpList_load101 rfl rfl rfl HBL2.out ?_)
  refine HN2.out.mono ?_
  rintro e w3 ⟨a2, n2, c2, rfl, hs2, hb3⟩
  have HSB3 := Lib.hid hs2
  have HB3 := Lib.hid (HB2.out.trans (hb3.mono HB2.out.size))
  clear hs2 hb3 HN2 HBL2
  go_wp2_with (refine wpList_stop101 rfl ?_)
  refine ⟨?_⟩
  refine wpList_store101 rfl rfl rfl rfl (Blk.new w3 101 _) ?_
  obtain ⟨hl1, hl2⟩ := laid101 w3 (.slice a2 n2 c2) (.int .i64 (e2 : Int)) (.slice none 0 0) (.int .i64 0)
  have HSB4 := Lib.hid (HSB3.out.below (hl2.mono HB3.out.size))
  have HBL4 := Lib.hid hl1
  have HB4 := Lib.hid (HB3.out.trans (hl2.mono HB3.out.size))
  clear hl1 hl2 HSB3 HB3 HSB2 HB2
  generalize (w3.alloc (.cells #[.slice none 0 0, .int .i64 0] 101)).setRow w3.heap.size #[.slice a2 n2 c2, .int .i64 (e2 : Int)] = w4 at HSB4 HBL4 HB4
  generalize w3.heap.size = g9 at HBL4
  have HL4 := Lib.hid HSB4.out.row.size
  by_cases he1 : e1 = 0
  · subst he1
    by_cases he2 : e2 = 0
    · subst he2
      by_cases hx : X = k
      · have HP := Lib.hid (HF4.out hx)
        subst hx
        have HD := Lib.hid (refdone_any 0 a2 n2 c2 bs2 w4 HL4.out)
        generalize doneB 0 bs2 = dd at HP HD
        go_wp2_with (refine wpList_runW (exec_load101 rfl rfl HBL4.out) (by kernel_rfl) ?_)
        refine HD.out.mono ?_
        rintro e w5 ⟨rfl, rfl⟩
        go_wp2_with fail
        go_ret2
        exact ⟨by rw [HP.out]; rfl, HB4.out.trans ((below_one w4 _).mono HB4.out.size)⟩
      · have HP := Lib.hid (HF3.out hx)
        have hxx : ((X : Int) == (k : Int)) = false := by simp; omega
        clear hx
        go_wp2_with fail
        go_ret2
        exact ⟨by rw [HP.out]; rfl, HB4.out⟩
    · have HP := Lib.hid (HF2.out he2)
      have hee : ((e2 : Int) == 0) = false := by simp; omega
      clear he2
      go_wp2_with fail
      go_ret2
      exact ⟨by rw [HP.out]; rfl, HB4.out⟩
  · have HP := Lib.hid (HF1.out he1)
    have hee : ((e1 : Int) == 0) = false := by simp; omega
    clear he1
    go_wp2_with fail
    go_ret2
    exact ⟨by rw [HP.out]; rfl, HB4.out⟩

/-- What the document's operation reads at its end. -/
structure Ro (W : World) (a : Option Addr) (len : Nat) (fs : List Nat) (xa : Option Addr) (xl : Nat) (xs : List Nat) (g10 : Nat) (u : O) : Prop where
  fs : Row W a len fs
  xs : Row W xa xl xs
  u : Blk W g10 29 u.arr
theorem Ro.below {W W' : World} {a xa : Option Addr} {len xl g10 : Nat} {fs xs : List Nat} {u : O} (h : Ro W a len fs xa xl xs g10 u) (hb : Below W.heap.size W W') : Ro W' a len fs xa xl xs g10 u := ⟨h.fs.below hb, h.xs.below hb, h.u.below hb⟩

theorem Ro.put {W : World} {a xa : Option Addr} {len xl g10 B : Nat} {fs xs : List Nat} {u : O} {ds : Array Value} (h : Ro W a len fs xa xl xs g10 u) (h1 : ∀ ad, a = some ad → len ≠ 0 → ad.block ≠ B) (h2 : ∀ ad, xa = some ad → xl ≠ 0 → ad.block ≠ B) (h3 : g10 ≠ B) : Ro (W.setRow B ds) a len fs xa xl xs g10 u := by
  have hk := Kept.setRow W B ds
  exact ⟨h.fs.keep hk h1, h.xs.keep hk h2, h.u.kept hk h3⟩

set_option maxHeartbeats 8000000 in
set_option maxRecDepth 100000 in
theorem roper_any (a : Option Addr) (len cap : Nat) (fs : List Nat) (w : World) (hl : len ≤ 1000000) (hR : Row w a len fs) (hz : a = none → len = 0 ∧ cap = 0) (hc : len ≤ cap) :
    Calls Tryd.prog 36 #[.slice a len cap] w (OpP fs w) := by
  obtain ⟨z, hz0⟩ : ∃ z, O.zero = z := ⟨_, rfl⟩
  have HZ := Lib.hid hz0
  have hal := below_one w (.cells z.arr 29)
  have HAN0 : Hid (An w (w.alloc (.cells z.arr 29)) z) := Lib.hid ⟨Blk.new w 29 z.arr, hal⟩
  have HS1 : Hid (Sub (w.alloc (.cells z.arr 29)) a len cap fs w.heap.size) := Lib.hid ⟨hR.below hal, hc, hz, hl, hR.lt⟩
  have hsm := hR.small
  have HN1 := Lib.hid (refnum_any 0 a len cap fs w.heap.size (w.alloc (.cells z.arr 29)) hal.size HS1.out)
  have HFS := Lib.hid hR
  have HSM := Lib.hid hsm
  have hno := fun h => Seg.opr_no (fs := fs) hsm h
  have HF1 : Hid (numE 0 fs ≠ 0 → Seg.opr fs = none) := Lib.hid (fun h => hno (fun h2 => by have := (Seg.recD_iff fs).1 h2.1; have h3 := num_zero hsm h; omega))
  have HF2 : Hid (bytE (numE 0 fs) (numB 0 fs) ≠ 0 → Seg.opr fs = none) := Lib.hid (fun h => hno (fun h2 => h ((Seg.recD_iff fs).1 h2.1).2.1))
  have HF3 : Hid (numX 0 fs ≠ 2 → Seg.opr fs = none) := Lib.hid (fun h => hno (fun h2 => h ((Seg.recD_iff fs).1 h2.1).1))
  have HF5 : Hid (O.decE (bytX (numE 0 fs) (numB 0 fs)) ≠ 0 → Seg.opr fs = none) := Lib.hid (fun h => hno (fun h2 => h h2.2))
  have HF6 : Hid (O.decE (bytX (numE 0 fs) (numB 0 fs)) = 0 → (O.decO (bytX (numE 0 fs) (numB 0 fs))).rightB 16 = true ∧ Seg.opr fs = if fs = Seg.recB (O.decO (bytX (numE 0 fs) (numB 0 fs))) then some (O.decO (bytX (numE 0 fs) (numB 0 fs))) else none) := Lib.hid (fun h => by
    rcases O.dec_two (bytX (numE 0 fs) (numB 0 fs)) with ⟨_, hr, hb⟩ | ⟨h5, _⟩
    · exact ⟨hr, Seg.opr_same hr hb⟩
    · omega)
  have HOP : Hid (∀ (u : O) (ok : Bool) w', Seg.opr fs = (if ok = true then some u else none) → Below w.heap.size w w' → OpP fs w (.returned (.tuple #[.agg u.arr, .bool ok])) w') := Lib.hid (fun u ok w' h1 h2 => ⟨u, ok, rfl, h1, h2⟩)
  generalize Seg.opr fs = P at *
  generalize numX 0 fs = X at *
  generalize numE 0 fs = e1 at *
  generalize numB 0 fs = bs1 at *
  have HNN := Lib.hid (fun B W (hB : B ≤ W.heap.size) (a1 : Option Addr) (n1 c1 : Nat) (h : Sub W a1 n1 c1 bs1 B) => refbytes2_any e1 a1 n1 c1 bs1 B W hB h)
  generalize bytX e1 bs1 = c at *
  generalize bytE e1 bs1 = f at *
  generalize bytB e1 bs1 = bs2 at *
  have HDC := Lib.hid (fun (b : Option Addr) (m d B : Nat) W (h : Sub W b m d c B) => rdecode_op b m d c W h.room h.row h.le h.nil)
  unfold DecP at HDC
  generalize O.decO c = u at *
  generalize O.decE c = g at *
  clear hR hz hc HS1 hsm hno hal hz0
  go_enter Tryd.func36, Tryd.ntmps36
  go_wp2_with (refine wpList_run rfl (exec_alloc29z HZ.out rfl) ?_)
  generalize w.alloc (.cells z.arr 29) = w0 at HAN0 HN1 ⊢
  refine HN1.out.mono ?_
  rintro e w1 ⟨a1, n1, c1, rfl, hs1, hb1⟩
  have HSB1 := Lib.hid hs1
  have HAN1 : Hid (An w w1 z) := Lib.hid ⟨HAN0.out.ans.below hb1, HAN0.out.old.trans (hb1.mono HAN0.out.old.size)⟩
  clear hs1 hb1 HN1 HAN0
  go_wp2_with (refine wpList_stop101 rfl ?_)
  refine ⟨?_⟩
  refine wpList_store101 rfl rfl rfl rfl (Blk.new w1 101 _) ?_
  obtain ⟨hl1, hl2⟩ := laid101 w1 (.slice a1 n1 c1) (.int .i64 (e1 : Int)) (.slice none 0 0) (.int .i64 0)
  have HSB2 := Lib.hid (HSB1.out.below (hl2.mono HAN1.out.old.size))
  have HBL2 := Lib.hid hl1
  have HAN2 : Hid (An w _ z) := Lib.hid ⟨HAN1.out.ans.below hl2, HAN1.out.old.trans (hl2.mono HAN1.out.old.size)⟩
  clear hl1 hl2 HSB1 HAN1
  generalize (w1.alloc (.cells #[.slice none 0 0, .int .i64 0] 101)).setRow w1.heap.size #[.slice a1 n1 c1, .int .i64 (e1 : Int)] = w2 at HSB2 HBL2 HAN2
  generalize w1.heap.size = g6 at HBL2
  have HN2 := Lib.hid (HNN.out w.heap.size w2 HAN2.out.old.size a1 n1 c1 HSB2.out)
  go_wp2_with (refine wpList_load101 rfl rfl rfl HBL2.out ?_)
  refine HN2.out.mono ?_
  rintro e w3 ⟨a2, n2, c2, b, m, d, rfl, -, hsb, hb3⟩
  have HSB3 := Lib.hid hsb
  have HAN3 : Hid (An w w3 z) := Lib.hid ⟨HAN2.out.ans.below hb3, HAN2.out.old.trans (hb3.mono HAN2.out.old.size)⟩
  clear hsb hb3 HN2 HBL2 HSB2 HAN2
  go_wp2_with (refine wpList_stop101 rfl ?_)
  refine ⟨?_⟩
  refine wpList_store101 rfl rfl rfl rfl (Blk.new w3 101 _) ?_
  obtain ⟨hl1, hl2⟩ := laid101 w3 (.slice a2 n2 c2) (.int .i64 (f : Int)) (.slice none 0 0) (.int .i64 0)
  have HSB4 := Lib.hid (HSB3.out.below (hl2.mono HAN3.out.old.size))
  have HAN4 : Hid (An w _ z) := Lib.hid ⟨HAN3.out.ans.below hl2, HAN3.out.old.trans (hl2.mono HAN3.out.old.size)⟩
  clear hl1 hl2 HSB3 HAN3
  generalize (w3.alloc (.cells #[.slice none 0 0, .int .i64 0] 101)).setRow w3.heap.size #[.slice a2 n2 c2, .int .i64 (f : Int)] = w4 at HSB4 HAN4
  by_cases hbad : e1 ≠ 0 ∨ f ≠ 0 ∨ X ≠ 2
  · have HN : Hid (P = none) := Lib.hid (by
      rcases hbad with h | h | h
      · exact HF1.out h
      · exact HF2.out h
      · exact HF3.out h)
    rcases Decidable.em (e1 = 0) with he | he
    · rcases Decidable.em (f = 0) with hf | hf
      · have hx2 : ((X : Int) != 2) = true := by
          rcases hbad with h | h | h
          · exact absurd he h
          · exact absurd hf h
          · simp; omega
        subst he hf
        clear hbad
        go_wp2_with (first | (refine wpList_run rfl (exec_zero29z HZ.out rfl) ?_) | (refine wpList_stop29 rfl ?_))
        refine ⟨?_⟩
        refine wpList_void rfl rfl (exec_store29 (p := z) (u := z) rfl rfl rfl HAN4.out.ans) ?_
        go_wp2_with fail
        exact bodyPost_ret (ret29_two (t := 2) (s := 3) (y := .bool false) rfl rfl rfl HAN4.out.ans.row) rfl (HOP.out z false _ (by rw [HN.out]; simp) HAN4.out.ret)
      · have hf2 : ((f : Int) != 0) = true := by simp; omega
        subst he
        clear hbad hf
        go_wp2_with (first | (refine wpList_run rfl (exec_zero29z HZ.out rfl) ?_) | (refine wpList_stop29 rfl ?_))
        refine ⟨?_⟩
        refine wpList_void rfl rfl (exec_store29 (p := z) (u := z) rfl rfl rfl HAN4.out.ans) ?_
        go_wp2_with fail
        exact bodyPost_ret (ret29_two (t := 2) (s := 3) (y := .bool false) rfl rfl rfl HAN4.out.ans.row) rfl (HOP.out z false _ (by rw [HN.out]; simp) HAN4.out.ret)
    · have he2 : ((e1 : Int) != 0) = true := by simp; omega
      clear hbad he
      go_wp2_with (first | (refine wpList_run rfl (exec_zero29z HZ.out rfl) ?_) | (refine wpList_stop29 rfl ?_))
      refine ⟨?_⟩
      refine wpList_void rfl rfl (exec_store29 (p := z) (u := z) rfl rfl rfl HAN4.out.ans) ?_
      go_wp2_with fail
      exact bodyPost_ret (ret29_two (t := 2) (s := 3) (y := .bool false) rfl rfl rfl HAN4.out.ans.row) rfl (HOP.out z false _ (by rw [HN.out]; simp) HAN4.out.ret)
  have hall : e1 = 0 ∧ f = 0 ∧ X = 2 := by omega
  obtain ⟨rfl, rfl, rfl⟩ := hall
  clear hbad HF1 HF2 HF3
  go_wp2_with fail
  refine (HDC.out b m d w.heap.size w4 HSB4.out).mono ?_
  rintro e w5 ⟨rfl, hb5⟩
  have HAN5 : Hid (An w w5 z) := Lib.hid ⟨HAN4.out.ans.below hb5, HAN4.out.old.trans (hb5.mono HAN4.out.old.size)⟩
  clear hb5 HDC HNN HSB4 HAN4
  go_wp2_with (first | (refine wpList_run rfl (exec_alloc29z HZ.out rfl) ?_) | (refine wpList_stop29 rfl ?_))
  refine ⟨?_⟩
  refine wpList_void rfl rfl (exec_store29 (p := z) (u := u) rfl rfl rfl (Blk.new w5 29 z.arr)) ?_
  have hg10 := HAN5.out.ans.lt
  have hlo := olaid_old w5 z u
  have HU6 := Lib.hid (olaid_blk w5 z u)
  have HAN6 : Hid (An w _ z) := Lib.hid ⟨HAN5.out.ans.below hlo, HAN5.out.old.trans (hlo.mono HAN5.out.old.size)⟩
  clear hlo HAN5
  generalize (w5.alloc (.cells z.arr 29)).setRow w5.heap.size u.arr = w6 at HU6 HAN6
  generalize w5.heap.size = g10 at HU6 hg10
  go_wp2_with (refine wpList_run rfl (exec_load29 (p := u) rfl rfl HU6.out) ?_)
  refine (rrec_any u w6).mono ?_
  rintro e w7 ⟨xa, xl, xc, rfl, hox, hb7⟩
  have HAN7 : Hid (An w w7 z) := Lib.hid ⟨HAN6.out.ans.below hb7, HAN6.out.old.trans (hb7.mono HAN6.out.old.size)⟩
  have HU7 := Lib.hid (HU6.out.below hb7)
  have HF7 := Lib.hid (HFS.out.below HAN7.out.old)
  have HA1 : Hid (∀ ad, a = some ad → len ≠ 0 → ad.block ≠ w.heap.size) := Lib.hid (fun ad ha h0 e => by have := HFS.out.lt ad ha h0; omega)
  have HA2 : Hid (∀ ad, xa = some ad → xl ≠ 0 → ad.block ≠ w.heap.size) := Lib.hid (fun ad ha _ e => by have h1 := (hox.lt ad ha).1; have h2 := HAN6.out.ans.lt; omega)
  have HAND : Hid (An w w7.drew z) := Lib.hid ⟨HAN7.out.ans.below (drew_below w7), HAN7.out.old.trans ((drew_below w7).mono HAN7.out.old.size)⟩
  by_cases hg : g = 0
  · subst hg
    obtain ⟨hr, hop⟩ := HF6.out rfl
    rw [hr]
    rw [if_pos hr] at hox
    have HXR := Lib.hid (hox.row (Seg.rec_lt u))
    have HOX := Lib.hid hop
    clear hox hb7 hr hop HF5 HF6
    by_cases hsame : fs = Seg.recB u
    · have HE : Hid (P = some u) := Lib.hid (by rw [HOX.out, if_pos hsame])
      rw [← hsame] at HXR
      clear hsame HOX
      go_wp2_with fail
      go_upto_region 15 with fail
      refine wp_region_held_drew (S := fun w' => Ro w' a len fs xa xl fs g10 u) (by kernel_rfl) (Ro.below (W := w7) ⟨HF7.out, HXR.out, HU7.out⟩ (drew_below _)) (fun hS => ?_)
      refine held_take 0 48 (.agg u.arr) rfl rfl (by kernel_rfl) (by kernel_rfl) (by kernel_rfl) (fun _ _ _ h => h) (by kernel_rfl) (fun _ h => exec_load29 (p := u) rfl rfl h.u) hS ?_
      simp only [Act.put, List.setIfInBounds_toArray, List.set_cons_zero, List.set_cons_succ]
      refine held_take 1 49 (.int .i64 0) rfl rfl (by kernel_rfl) (by kernel_rfl) (by kernel_rfl) (fun _ _ _ h => h) (by kernel_rfl) (fun _ _ => rfl) hS ?_
      simp only [Act.put, List.setIfInBounds_toArray, List.set_cons_zero, List.set_cons_succ]
      refine held_take 2 50 (.bool true) rfl rfl (by kernel_rfl) (by kernel_rfl) (by kernel_rfl) (fun _ _ _ h => h) (by kernel_rfl) (fun _ _ => exec_eqlI trivial rfl rfl rfl (by simp)) hS ?_
      simp only [Act.put, List.setIfInBounds_toArray, List.set_cons_zero, List.set_cons_succ]
      refine held_take 3 51 (.bool true) rfl rfl (by kernel_rfl) (by kernel_rfl) (by kernel_rfl) (fun _ _ _ h => h) (by kernel_rfl) (fun _ _ => rfl) hS ?_
      simp only [Act.put, List.setIfInBounds_toArray, List.set_cons_zero, List.set_cons_succ]
      refine held_take 4 52 (.bool true) rfl rfl (by kernel_rfl) (by kernel_rfl) (by kernel_rfl) (fun _ _ _ h => h) (by kernel_rfl) (fun _ _ => rfl) hS ?_
      simp only [Act.put, List.setIfInBounds_toArray, List.set_cons_zero, List.set_cons_succ]
      refine held_take 5 53 (.bool true) rfl rfl (by kernel_rfl) (by kernel_rfl) (by kernel_rfl) (fun _ _ _ h => h) (by kernel_rfl) (fun _ _ => rfl) hS ?_
      simp only [Act.put, List.setIfInBounds_toArray, List.set_cons_zero, List.set_cons_succ]
      refine held_take 6 54 (.bool true) rfl rfl (by kernel_rfl) (by kernel_rfl) (by kernel_rfl) (fun _ _ _ h => h) (by kernel_rfl) (fun _ _ => rfl) hS ?_
      simp only [Act.put, List.setIfInBounds_toArray, List.set_cons_zero, List.set_cons_succ]
      refine held_take 7 55 (.slice xa xl xc) rfl rfl (by kernel_rfl) (by kernel_rfl) (by kernel_rfl) (fun _ _ _ h => h) (by kernel_rfl) (fun _ _ => rfl) hS ?_
      simp only [Act.put, List.setIfInBounds_toArray, List.set_cons_zero, List.set_cons_succ]
      refine held_take 8 56 (.string (strOf fs)) rfl rfl (by kernel_rfl) (by kernel_rfl) (by kernel_rfl) (fun _ _ _ h => h) (by kernel_rfl) (fun _ h => exec_str rfl rfl (conv_any (cap := xc) h.xs)) hS ?_
      simp only [Act.put, List.setIfInBounds_toArray, List.set_cons_zero, List.set_cons_succ]
      refine held_take 9 57 (.slice a len cap) rfl rfl (by kernel_rfl) (by kernel_rfl) (by kernel_rfl) (fun _ _ _ h => h) (by kernel_rfl) (fun _ _ => rfl) hS ?_
      simp only [Act.put, List.setIfInBounds_toArray, List.set_cons_zero, List.set_cons_succ]
      refine held_take 10 58 (.string (strOf fs)) rfl rfl (by kernel_rfl) (by kernel_rfl) (by kernel_rfl) (fun _ _ _ h => h) (by kernel_rfl) (fun _ h => exec_str rfl rfl (conv_any (cap := cap) h.fs)) hS ?_
      simp only [Act.put, List.setIfInBounds_toArray, List.set_cons_zero, List.set_cons_succ]
      refine held_take 11 59 (.bool true) rfl rfl (by kernel_rfl) (by kernel_rfl) (by kernel_rfl) (fun _ _ _ h => h) (by kernel_rfl) (fun _ _ => exec_eqlS rfl rfl rfl (by simp)) hS ?_
      simp only [Act.put, List.setIfInBounds_toArray, List.set_cons_zero, List.set_cons_succ]
      refine held_take 12 60 (.bool true) rfl rfl (by kernel_rfl) (by kernel_rfl) (by kernel_rfl) (fun _ _ _ h => h) (by kernel_rfl) (fun _ _ => rfl) hS ?_
      simp only [Act.put, List.setIfInBounds_toArray, List.set_cons_zero, List.set_cons_succ]
      have hS2 := hS.put (B := w.heap.size) (ds := u.arr) HA1.out HA2.out (by omega)
      refine held_void 13 rfl rfl (by kernel_rfl) (by kernel_rfl) (exec_store29 (p := z) (u := u) rfl rfl rfl (HAN7.out.ans.below (drew_below w7))) hS2 ?_
      refine held_exec 14 3 (.bool true) rfl rfl (by kernel_rfl) (by kernel_rfl) (by kernel_rfl) hS2 ?_
      simp only [Act.put, List.setIfInBounds_toArray, List.set_cons_zero, List.set_cons_succ]
      refine wpAnyH_done (by kernel_rfl) ?_ _
      go_wp2_with fail
      exact bodyPost_ret (ret29_two (t := 2) (s := 3) (y := .bool true) rfl rfl rfl HAND.out.ans.row) rfl (HOP.out u true _ (by rw [HE.out]; simp) HAND.out.ret)
    · have HE : Hid (P = none) := Lib.hid (by rw [HOX.out, if_neg hsame])
      have HNE := Lib.hid (str_neF (Seg.rec_lt u) HSM.out (fun e => hsame e.symm))
      clear hsame HOX
      go_wp2_with fail
      go_upto_region 15 with fail
      refine wp_region_held_drew (S := fun w' => Ro w' a len fs xa xl (Seg.recB u) g10 u) (by kernel_rfl) (Ro.below (W := w7) ⟨HF7.out, HXR.out, HU7.out⟩ (drew_below _)) (fun hS => ?_)
      refine held_take 0 48 (.agg u.arr) rfl rfl (by kernel_rfl) (by kernel_rfl) (by kernel_rfl) (fun _ _ _ h => h) (by kernel_rfl) (fun _ h => exec_load29 (p := u) rfl rfl h.u) hS ?_
      simp only [Act.put, List.setIfInBounds_toArray, List.set_cons_zero, List.set_cons_succ]
      refine held_take 1 49 (.int .i64 0) rfl rfl (by kernel_rfl) (by kernel_rfl) (by kernel_rfl) (fun _ _ _ h => h) (by kernel_rfl) (fun _ _ => rfl) hS ?_
      simp only [Act.put, List.setIfInBounds_toArray, List.set_cons_zero, List.set_cons_succ]
      refine held_take 2 50 (.bool true) rfl rfl (by kernel_rfl) (by kernel_rfl) (by kernel_rfl) (fun _ _ _ h => h) (by kernel_rfl) (fun _ _ => exec_eqlI trivial rfl rfl rfl (by simp)) hS ?_
      simp only [Act.put, List.setIfInBounds_toArray, List.set_cons_zero, List.set_cons_succ]
      refine held_take 3 51 (.bool true) rfl rfl (by kernel_rfl) (by kernel_rfl) (by kernel_rfl) (fun _ _ _ h => h) (by kernel_rfl) (fun _ _ => rfl) hS ?_
      simp only [Act.put, List.setIfInBounds_toArray, List.set_cons_zero, List.set_cons_succ]
      refine held_take 4 52 (.bool true) rfl rfl (by kernel_rfl) (by kernel_rfl) (by kernel_rfl) (fun _ _ _ h => h) (by kernel_rfl) (fun _ _ => rfl) hS ?_
      simp only [Act.put, List.setIfInBounds_toArray, List.set_cons_zero, List.set_cons_succ]
      refine held_take 5 53 (.bool true) rfl rfl (by kernel_rfl) (by kernel_rfl) (by kernel_rfl) (fun _ _ _ h => h) (by kernel_rfl) (fun _ _ => rfl) hS ?_
      simp only [Act.put, List.setIfInBounds_toArray, List.set_cons_zero, List.set_cons_succ]
      refine held_take 6 54 (.bool true) rfl rfl (by kernel_rfl) (by kernel_rfl) (by kernel_rfl) (fun _ _ _ h => h) (by kernel_rfl) (fun _ _ => rfl) hS ?_
      simp only [Act.put, List.setIfInBounds_toArray, List.set_cons_zero, List.set_cons_succ]
      refine held_take 7 55 (.slice xa xl xc) rfl rfl (by kernel_rfl) (by kernel_rfl) (by kernel_rfl) (fun _ _ _ h => h) (by kernel_rfl) (fun _ _ => rfl) hS ?_
      simp only [Act.put, List.setIfInBounds_toArray, List.set_cons_zero, List.set_cons_succ]
      refine held_take 8 56 (.string (strOf (Seg.recB u))) rfl rfl (by kernel_rfl) (by kernel_rfl) (by kernel_rfl) (fun _ _ _ h => h) (by kernel_rfl) (fun _ h => exec_str rfl rfl (conv_any (cap := xc) h.xs)) hS ?_
      simp only [Act.put, List.setIfInBounds_toArray, List.set_cons_zero, List.set_cons_succ]
      refine held_take 9 57 (.slice a len cap) rfl rfl (by kernel_rfl) (by kernel_rfl) (by kernel_rfl) (fun _ _ _ h => h) (by kernel_rfl) (fun _ _ => rfl) hS ?_
      simp only [Act.put, List.setIfInBounds_toArray, List.set_cons_zero, List.set_cons_succ]
      refine held_take 10 58 (.string (strOf fs)) rfl rfl (by kernel_rfl) (by kernel_rfl) (by kernel_rfl) (fun _ _ _ h => h) (by kernel_rfl) (fun _ h => exec_str rfl rfl (conv_any (cap := cap) h.fs)) hS ?_
      simp only [Act.put, List.setIfInBounds_toArray, List.set_cons_zero, List.set_cons_succ]
      refine held_take 11 59 (.bool false) rfl rfl (by kernel_rfl) (by kernel_rfl) (by kernel_rfl) (fun _ _ _ h => h) (by kernel_rfl) (fun _ _ => exec_eqlS rfl rfl rfl HNE.out) hS ?_
      simp only [Act.put, List.setIfInBounds_toArray, List.set_cons_zero, List.set_cons_succ]
      refine held_take 12 60 (.bool false) rfl rfl (by kernel_rfl) (by kernel_rfl) (by kernel_rfl) (fun _ _ _ h => h) (by kernel_rfl) (fun _ _ => rfl) hS ?_
      simp only [Act.put, List.setIfInBounds_toArray, List.set_cons_zero, List.set_cons_succ]
      have hS2 := hS.put (B := w.heap.size) (ds := u.arr) HA1.out HA2.out (by omega)
      refine held_void 13 rfl rfl (by kernel_rfl) (by kernel_rfl) (exec_store29 (p := z) (u := u) rfl rfl rfl (HAN7.out.ans.below (drew_below w7))) hS2 ?_
      refine held_exec 14 3 (.bool false) rfl rfl (by kernel_rfl) (by kernel_rfl) (by kernel_rfl) hS2 ?_
      simp only [Act.put, List.setIfInBounds_toArray, List.set_cons_zero, List.set_cons_succ]
      refine wpAnyH_done (by kernel_rfl) ?_ _
      go_wp2_with fail
      exact bodyPost_ret (ret29_two (t := 2) (s := 3) (y := .bool false) rfl rfl rfl HAND.out.ans.row) rfl (HOP.out u false _ (by rw [HE.out]; simp) HAND.out.ret)
  · have HE : Hid (P = none) := Lib.hid (HF5.out hg)
    have hgg : ((g : Int) == 0) = false := by simp; omega
    have hxs : ∀ c ∈ (if u.rightB 16 = true then Seg.recB u else []), c < 256 := by
      split
      · exact Seg.rec_lt u
      · simp
    generalize (if u.rightB 16 = true then Seg.recB u else []) = xs at hox hxs
    have HXR := Lib.hid (hox.row hxs)
    generalize u.rightB 16 = rb
    clear hox hb7 HF5 HF6 hg
    go_wp2_with fail
    go_upto_region 15 with fail
    refine wp_region_held_drew (S := fun w' => Ro w' a len fs xa xl xs g10 u) (by kernel_rfl) (Ro.below (W := w7) ⟨HF7.out, HXR.out, HU7.out⟩ (drew_below _)) (fun hS => ?_)
    refine held_take 0 48 (.agg u.arr) rfl rfl (by kernel_rfl) (by kernel_rfl) (by kernel_rfl) (fun _ _ _ h => h) (by kernel_rfl) (fun _ h => exec_load29 (p := u) rfl rfl h.u) hS ?_
    simp only [Act.put, List.setIfInBounds_toArray, List.set_cons_zero, List.set_cons_succ]
    refine held_take 1 49 (.int .i64 (g : Int)) rfl rfl (by kernel_rfl) (by kernel_rfl) (by kernel_rfl) (fun _ _ _ h => h) (by kernel_rfl) (fun _ _ => rfl) hS ?_
    simp only [Act.put, List.setIfInBounds_toArray, List.set_cons_zero, List.set_cons_succ]
    refine held_take 2 50 (.bool false) rfl rfl (by kernel_rfl) (by kernel_rfl) (by kernel_rfl) (fun _ _ _ h => h) (by kernel_rfl) (fun _ _ => exec_eqlI trivial rfl rfl rfl hgg) hS ?_
    simp only [Act.put, List.setIfInBounds_toArray, List.set_cons_zero, List.set_cons_succ]
    refine held_take 3 51 (.bool false) rfl rfl (by kernel_rfl) (by kernel_rfl) (by kernel_rfl) (fun _ _ _ h => h) (by kernel_rfl) (fun _ _ => rfl) hS ?_
    simp only [Act.put, List.setIfInBounds_toArray, List.set_cons_zero, List.set_cons_succ]
    refine held_skip 4 52 rfl rfl (by kernel_rfl) (by kernel_rfl) (by kernel_rfl) (fun _ _ _ h => h) (by kernel_rfl) hS ?_
    simp only [Act.put, List.setIfInBounds_toArray, List.set_cons_zero, List.set_cons_succ]
    refine held_take 5 53 (.bool false) rfl rfl (by kernel_rfl) (by kernel_rfl) (by kernel_rfl) (fun _ _ _ h => h) (by kernel_rfl) (fun _ _ => rfl) hS ?_
    simp only [Act.put, List.setIfInBounds_toArray, List.set_cons_zero, List.set_cons_succ]
    refine held_take 6 54 (.bool false) rfl rfl (by kernel_rfl) (by kernel_rfl) (by kernel_rfl) (fun _ _ _ h => h) (by kernel_rfl) (fun _ _ => rfl) hS ?_
    simp only [Act.put, List.setIfInBounds_toArray, List.set_cons_zero, List.set_cons_succ]
    refine held_skip 7 55 rfl rfl (by kernel_rfl) (by kernel_rfl) (by kernel_rfl) (fun _ _ _ h => h) (by kernel_rfl) hS ?_
    simp only [Act.put, List.setIfInBounds_toArray, List.set_cons_zero, List.set_cons_succ]
    refine held_skip 8 56 rfl rfl (by kernel_rfl) (by kernel_rfl) (by kernel_rfl) (fun _ _ _ h => h) (by kernel_rfl) hS ?_
    simp only [Act.put, List.setIfInBounds_toArray, List.set_cons_zero, List.set_cons_succ]
    refine held_skip 9 57 rfl rfl (by kernel_rfl) (by kernel_rfl) (by kernel_rfl) (fun _ _ _ h => h) (by kernel_rfl) hS ?_
    simp only [Act.put, List.setIfInBounds_toArray, List.set_cons_zero, List.set_cons_succ]
    refine held_skip 10 58 rfl rfl (by kernel_rfl) (by kernel_rfl) (by kernel_rfl) (fun _ _ _ h => h) (by kernel_rfl) hS ?_
    simp only [Act.put, List.setIfInBounds_toArray, List.set_cons_zero, List.set_cons_succ]
    refine held_skip 11 59 rfl rfl (by kernel_rfl) (by kernel_rfl) (by kernel_rfl) (fun _ _ _ h => h) (by kernel_rfl) hS ?_
    simp only [Act.put, List.setIfInBounds_toArray, List.set_cons_zero, List.set_cons_succ]
    refine held_take 12 60 (.bool false) rfl rfl (by kernel_rfl) (by kernel_rfl) (by kernel_rfl) (fun _ _ _ h => h) (by kernel_rfl) (fun _ _ => rfl) hS ?_
    simp only [Act.put, List.setIfInBounds_toArray, List.set_cons_zero, List.set_cons_succ]
    have hS2 := hS.put (B := w.heap.size) (ds := u.arr) HA1.out HA2.out (by omega)
    refine held_void 13 rfl rfl (by kernel_rfl) (by kernel_rfl) (exec_store29 (p := z) (u := u) rfl rfl rfl (HAN7.out.ans.below (drew_below w7))) hS2 ?_
    refine held_exec 14 3 (.bool false) rfl rfl (by kernel_rfl) (by kernel_rfl) (by kernel_rfl) hS2 ?_
    simp only [Act.put, List.setIfInBounds_toArray, List.set_cons_zero, List.set_cons_succ]
    refine wpAnyH_done (by kernel_rfl) ?_ _
    go_wp2_with fail
    exact bodyPost_ret (ret29_two (t := 2) (s := 3) (y := .bool false) rfl rfl rfl HAND.out.ans.row) rfl (HOP.out u false _ (by rw [HE.out]; simp) HAND.out.ret)

end Go.Proofs.YtfnaccmgmocolaaDoor
