/- Walk of Live of fold. -/
import Derived.Test.YtmibfbbkjejkmaaFe
import Derived.Deep.OwnRows
namespace Go.Proofs.Ytmibfbbkjejkmaa
open Go.RowKit Go.Maps Fold

def bools (l : List Bool) : List (List Value) := l.map fun b => [.bool b]
/-- Yes or no for each, in a slice of the call's own. -/
def BoolsP (l : List Bool) (w : World) (e : Ending) (w' : World) : Prop := ∃ g, e = .returned (.slice (some ⟨g, 0, none⟩) l.length l.length) ∧ Blk w' g 4 (l.map Value.bool).toArray ∧ w.heap.size ≤ g ∧ Below w.heap.size w w'
theorem info4 : (Try.prog.info? 4).map (fun i => (i.zero, i.size, i.bytes)) = some (some (.bool false), 1, 1) := by kernel_rfl
theorem und53 : Try.prog.underlying 53 = some (.slice 4) := Try.underlying53

/-- What is written so far. -/
def livesTo (l : List O) (k : Nat) : List Value := ((l.take k).map fun o => Value.bool (liveB l o)) ++ List.replicate (l.length - k) (.bool false)
theorem lives_len (l : List O) {k : Nat} (h : k ≤ l.length) : (livesTo l k).length = l.length := by simp [livesTo]; omega
theorem lives_set {l : List O} {k : Nat} {x : O} (hx : l[k]? = some x) : (livesTo l k).toArray.setIfInBounds k (.bool (liveB l x)) = (livesTo l (k + 1)).toArray := by
  have hk : k < l.length := (List.getElem?_eq_some_iff.1 hx).1
  have e1 : (l.take k).length = k := by simp; omega
  simp only [List.setIfInBounds_toArray]
  congr 1
  unfold livesTo
  rw [List.set_append_right _ _ (by simp; omega), List.take_add_one, hx]
  simp only [List.length_map, e1, Nat.sub_self, Option.toList_some, List.map_append, List.map_cons, List.map_nil, List.append_assoc]
  congr 1
  rw [show l.length - k = (l.length - (k + 1)) + 1 by omega, List.replicate_succ]
  rfl
theorem lives_all (l : List O) : livesTo l l.length = (l.map (liveB l)).map Value.bool := by
  simp [livesTo]

structure Lv (W : World) (g m : Nat) (l : List O) (k c : Nat) (f : Lit → Option Value) : Prop where
  row : Blk W g 4 (livesTo l k).toArray
  mp : EndM W m l c f
def LivR (w : World) (l : List O) (n g m c : Nat) (f : Lit → Option Value) (u : Value) (W : World) : Prop :=
  ∃ k : Nat, u = .int .i64 (k : Int) ∧ k ≤ n ∧ Hid (Lv W g m l k c f) ∧ Hid (Below w.heap.size w W)

section
variable {ev : Operand → Value} {q : Oper} {w : World}
theorem exec_idxB {x y : Operand} {g n cap i : Nat} {z : Int} (ho : q.op = .indexAddr 53 x y) (hx : ev x = .slice (some ⟨g, 0, none⟩) n cap) (hy : ev y = .int .i64 z) (hz : z = (i : Int)) (hi : i < n) : (execOp ev q).run Try.prog w = .ok (.value (.pointer (some ⟨g, i, none⟩))) w := by
  subst hz
  have u53 := und53
  unfold execOp
  simp only [ho, hx, hy]
  go_simp
theorem made_rep (n : Nat) (z : Value) : madeCells #[z] n = Array.replicate n z := by
  apply Array.ext_getElem?
  intro i
  unfold madeCells
  by_cases hi : i < n
  · simp [hi, Nat.mod_one]
  · simp [hi]
theorem exec_mkB {x y : Operand} {n : Nat} (ho : q.op = .makeSlice 53 x y) (hx : ev x = .int .i64 (n : Int)) (hy : ev y = .int .i64 (n : Int)) (hn : n < 1000000) : (execOp ev q).run Try.prog w = .ok (.value (.slice (some ⟨w.heap.size, 0, none⟩) n n)) (w.alloc (.cells (Array.replicate n (.bool false)) 4)) := by
  have hm := run_make_row' (P := Try.prog) 53 4 (.bool false) 1 und53 info4 rfl .i64 .i64 n (by omega) (by omega) w
  rw [made_rep] at hm
  unfold execOp
  simp only [ho, hx, hy, Sem.run_bind, hm, Result.andThen_ok]
  rfl
end

set_option maxRecDepth 100000 in
set_option maxHeartbeats 2000000 in
theorem live_any {a : Option Addr} {n cap : Nat} {l : List O} {w : World} (hl : OL w a n l) (hn : n < 1000000) : Calls Try.prog 22 #[.slice a n cap] w (BoolsP (l.map (liveB l)) w) := by
  obtain ⟨zo, ho⟩ : ∃ z, O.zero = z := ⟨_, rfl⟩
  have HO := Lib.hid ho
  have HL := Lib.hid hl
  have HLEN := Lib.hid hl.len'
  have HED := Lib.hid (enders_any (cap := cap) hl hn)
  clear ho hl
  go_enter Try.func22, Try.ntmps22
  go_wp2_with fail
  refine HED.out.mono ?_
  rintro e w1 ⟨m, c, f, rfl, hem, hgm, hb1⟩
  have HM1 := Lib.hid hem
  have HGM := Lib.hid hgm
  have HB1 := Lib.hid hb1
  clear hem hgm hb1 HED
  go_wp2_with (refine wpList_run rfl (exec_mkB (n := n) rfl rfl rfl hn) ?_)
  have HM2 : Hid (Lv (w1.alloc (.cells (Array.replicate n (.bool false)) 4)) w1.heap.size m l 0 c f) := Lib.hid ⟨by
    have e : (livesTo l 0).toArray = Array.replicate n (.bool false) := by simp [livesTo, HLEN.out]
    rw [e]
    exact Blk.new w1 4 _, HM1.out.below (below_one w1 _)⟩
  have HB2 : Hid (Below w.heap.size w (w1.alloc (.cells (Array.replicate n (.bool false)) 4))) := Lib.hid (HB1.out.trans ((below_one w1 _).mono HB1.out.size))
  have HG : Hid (w.heap.size ≤ w1.heap.size) := Lib.hid HB1.out.size
  have HGM2 : Hid (¬ m = w1.heap.size) := Lib.hid (fun e => by have := HM1.out.mp.lt; omega)
  generalize w1.alloc (.cells (Array.replicate n (.bool false)) 4) = w2 at HM2 HB2
  generalize w1.heap.size = g at HM2 HG HGM2
  clear HM1 HB1
  go_loopw [14] (LivR w l n g m c f) (fun u _ => n - (numI u).toNat)
  case atStart => exact ⟨0, rfl, Nat.zero_le _, HM2, HB2⟩
  case round =>
    obtain ⟨k, rfl, hk, HM, HB⟩ := hrel
    clear HM2 HB2
    by_cases hlt : k < n
    · obtain ⟨b, off, x, rfl, hx, hr⟩ := OL.at (HL.out.below HB.out) hlt
      have HX := Lib.hid hx
      have HR := Lib.hid hr
      clear hx hr
      go_wp2_with (first | (refine wpList_run rfl (exec_idxO (i := k) rfl rfl rfl rfl hlt) ?_) | (refine wpList_run rfl (exec_ldO rfl rfl HR.out) ?_) | (refine wpList_run rfl (exec_alloc40z HO.out rfl) ?_) | (refine wpList_stop40 rfl ?_))
      refine ⟨?_⟩
      refine wpList_void rfl rfl (exec_store40 (p := zo) (u := x) rfl rfl rfl (Blk.new wr 40 zo.arr)) ?_
      have H1 : Hid (Ow wr ((wr.alloc (.cells zo.arr 40)).setRow wr.heap.size x.arr) x) := Lib.hid ⟨olaid_blk wr zo x, olaid_old wr zo x⟩
      generalize (wr.alloc (.cells zo.arr 40)).setRow wr.heap.size x.arr = w3 at H1
      go_wp2_with (refine wpList_run rfl (exec_load40 (p := x) rfl rfl H1.out.one) ?_)
      refine (fmakes_any x _).mono ?_
      rintro e w4 ⟨rfl, hb4⟩
      have H4 := Lib.hid (H1.out.below hb4)
      have HM4 : Hid (EndM w4 m l c f) := Lib.hid ((HM.out.mp.below H1.out.old).below hb4)
      clear hb4 H1
      cases hm : x.laysB
      · have HLV : Hid (liveB l x = false) := Lib.hid (by rw [live_eq, hm]; rfl)
        clear hm
        have HRW := Lib.hid (HM.out.row.below H4.out.old)
        have hcell : w4.cell? ⟨g, k, none⟩ = some (((livesTo l k)[k]?).getD undef) := by
          rw [HRW.out.cell]
          have := lives_len l (k := k) (by rw [HLEN.out]; omega)
          have hk2 : k < (livesTo l k).length := by rw [this, HLEN.out]; exact hlt
          simp [hk2]
        have hfrz : w4.frozen? ⟨g, k, none⟩ = false := HRW.out.frozen k
        generalize ((livesTo l k)[k]?).getD undef = old at hcell
        go_wp2_with (refine wpList_run rfl (exec_idxB (i := k) rfl rfl rfl rfl hlt) ?_)
        have hks := Kept.setCell w4 ⟨g, k, none⟩ (.bool false)
        have HN : Hid (Lv (w4.setCell ⟨g, k, none⟩ (.bool false)) g m l (k + 1) c f) := Lib.hid ⟨by
          have h := HRW.out.set k (.bool (liveB l x))
          rw [lives_set HX.out] at h
          rw [HLV.out] at h
          exact h, ((HM.out.mp.below H4.out.old).kept hks HGM2.out)⟩
        have HBN : Hid (Below w.heap.size w (w4.setCell ⟨g, k, none⟩ (.bool false))) := Lib.hid ((HB.out.trans (H4.out.old.mono HB.out.size)).trans (hks.below (Nat.le_trans HB.out.size H4.out.old.size) (fun j e => by rw [e]; exact HG.out)))
        clear hks
        go_roundw
        case rel => exact ⟨k + 1, by go_num, hlt, HN, HBN⟩
        case measure => simp [numI]; omega
      · have HEN := Lib.hid (fun w (h : EndM w m l c f) => ended_any h x)
        have HLV : Hid (liveB l x = !(l.any fun o => O.endsB o x)) := Lib.hid (by rw [live_eq, hm]; rfl)
        clear hm
        go_wp2_with (refine wpList_runW (exec_load40 (p := x) rfl rfl H4.out.one) (by kernel_rfl) ?_)
        refine (HEN.out _ HM4.out).mono ?_
        rintro e w5 ⟨rfl, hb5⟩
        have H5 := Lib.hid (H4.out.below hb5)
        clear H4 HM4 hb5
        have H4 := H5
        clear H5
        generalize hbb : (l.any fun o => O.endsB o x) = bb at HLV
        clear hbb
        have HRW := Lib.hid (HM.out.row.below H4.out.old)
        have hcell : w5.cell? ⟨g, k, none⟩ = some (((livesTo l k)[k]?).getD undef) := by
          rw [HRW.out.cell]
          have := lives_len l (k := k) (by rw [HLEN.out]; omega)
          have hk2 : k < (livesTo l k).length := by rw [this, HLEN.out]; exact hlt
          simp [hk2]
        have hfrz : w5.frozen? ⟨g, k, none⟩ = false := HRW.out.frozen k
        generalize ((livesTo l k)[k]?).getD undef = old at hcell
        go_wp2_with (refine wpList_run rfl (exec_idxB (i := k) rfl rfl rfl rfl hlt) ?_)
        have hks := Kept.setCell w5 ⟨g, k, none⟩ (.bool (!bb))
        have HN : Hid (Lv (w5.setCell ⟨g, k, none⟩ (.bool (!bb))) g m l (k + 1) c f) := Lib.hid ⟨by
          have h := HRW.out.set k (.bool (liveB l x))
          rw [lives_set HX.out] at h
          rw [HLV.out] at h
          exact h, ((HM.out.mp.below H4.out.old).kept hks HGM2.out)⟩
        have HBN : Hid (Below w.heap.size w (w5.setCell ⟨g, k, none⟩ (.bool (!bb)))) := Lib.hid ((HB.out.trans (H4.out.old.mono HB.out.size)).trans (hks.below (Nat.le_trans HB.out.size H4.out.old.size) (fun j e => by rw [e]; exact HG.out)))
        clear hks
        go_roundw
        case rel => exact ⟨k + 1, by go_num, hlt, HN, HBN⟩
        case measure => simp [numI]; omega
    · obtain rfl : k = n := by omega
      have HE : Hid (BoolsP (l.map (liveB l)) w (.returned (.slice (some ⟨g, 0, none⟩) k k)) wr) := Lib.hid ⟨g, by simp [HLEN.out], by
        have h := HM.out.row
        rw [← HLEN.out, lives_all] at h
        exact h, HG.out, HB.out⟩
      go_wp2_with fail
      go_ret
      exact HE.out

end Go.Proofs.Ytmibfbbkjejkmaa
