/- FoldTicks: the tick that is seen is that of some operation for the cart, and none is greater; the lines' items are in increasing order. -/
import Derived.Test.YtmibfbbkjejkmaaLn
import Derived.Test.YtmibfbbkjejkmaaRows
namespace Go.Proofs.Ytmibfbbkjejkmaa
open Go.ChangeShapes Go.WideShapes Go.ChangeAt Go.RowKit Fold

namespace FoldTicks
structure Tk (w W : World) (g c t : Nat) (o : Bool) (a al : Option Addr) (n nk cap2 : Nat) (l L : List O) (its : List Nat) : Prop where
  view : Blk W g 44 #[.int .u16 (c : Int), .slice a nk cap2, .bool o, .int .u32 (t : Int)]
  own : OwnG W 51 2 w.heap.size a nk cap2 (its.map (lineCs L))
  ol : OL W al n l
  old : Below w.heap.size w W
theorem Tk.below {w W W' : World} {g c t n nk cap2 : Nat} {o : Bool} {a al : Option Addr} {l L : List O} {its : List Nat} (h : Tk w W g c t o a al n nk cap2 l L its) (hb : Below W.heap.size W W') : Tk w W' g c t o a al n nk cap2 l L its :=
  ⟨h.view.below hb, h.own.below hb, h.ol.below hb, h.old.trans (hb.mono h.old.size)⟩
def Found (l : List O) (c t k : Nat) : Prop := t = 0 ∨ ∃ o ∈ l.take k, o.c = c ∧ o.t = t
def R (w : World) (g c t : Nat) (o : Bool) (a al : Option Addr) (n nk cap2 : Nat) (l L : List O) (its : List Nat) (u i : Value) (W : World) : Prop :=
  ∃ (k : Nat) (fd : Bool), u = .bool fd ∧ i = .int .i64 (k : Int) ∧ k ≤ n ∧ Hid (fd = true ↔ Found l c t k) ∧ Hid (Tk w W g c t o a al n nk cap2 l L its)
def R2 (w : World) (g c t : Nat) (o : Bool) (a al : Option Addr) (n nk cap2 : Nat) (l L : List O) (its : List Nat) (i : Value) (W : World) : Prop :=
  ∃ j : Nat, i = .int .i64 (j : Int) ∧ 1 ≤ j ∧ j ≤ nk + 1 ∧ Hid (Tk w W g c t o a al n nk cap2 l L its)
theorem found_yes {l : List O} {c t k : Nat} {x : O} {fd : Bool} (h : fd = true ↔ Found l c t k) (hx : l[k]? = some x) (hc : x.c = c) : (fd || ((x.t : Int) == (t : Int))) = true ↔ Found l c t (k + 1) := by
  unfold Found at h ⊢
  rw [Bool.or_eq_true, h, List.take_add_one, hx]
  simp only [Option.toList_some, List.mem_append, List.mem_singleton, beq_iff_eq]
  constructor
  · rintro ((h | ⟨o, ho, h⟩) | h)
    · exact .inl h
    · exact .inr ⟨o, .inl ho, h⟩
    · exact .inr ⟨x, .inr rfl, hc, by omega⟩
  · rintro (h | ⟨o, ho | rfl, h⟩)
    · exact .inl (.inl h)
    · exact .inl (.inr ⟨o, ho, h⟩)
    · exact .inr (by omega)
theorem found_no {l : List O} {c t k : Nat} {x : O} {fd : Bool} (h : fd = true ↔ Found l c t k) (hx : l[k]? = some x) (hc : ¬ x.c = c) : fd = true ↔ Found l c t (k + 1) := by
  unfold Found at h ⊢
  rw [h, List.take_add_one, hx]
  simp only [Option.toList_some, List.mem_append, List.mem_singleton]
  constructor
  · rintro (h | ⟨o, ho, h⟩)
    · exact .inl h
    · exact .inr ⟨o, .inl ho, h⟩
  · rintro (h | ⟨o, ho | rfl, h⟩)
    · exact .inl h
    · exact .inr ⟨o, ho, h⟩
    · exact absurd h.1 hc
set_option maxHeartbeats 8000000 in
set_option maxRecDepth 100000 in
theorem walk (a : Option Addr) (n cap : Nat) (l : List O) (c : Nat) (w : World) (hlen : n ≤ maxLen) (hl : OL w a n l) (_hc : c < 65536) : Calls Try.prog 8 #[.slice a n cap, .int .u16 (c : Int)] w (Says (.bool true) w) := by
  obtain ⟨zo, ho⟩ : ∃ z, O.zero = z := ⟨_, rfl⟩
  have HO := Lib.hid ho
  have HL := Lib.hid hl
  have hlen2 : n ≤ 9223372036854775807 := by unfold maxLen at hlen; omega
  have HLEN := Lib.hid (OL.len' hl)
  clear hl ho hlen
  go_enter Try.func8, Try.ntmps8
  go_wp2_with fail
  refine (alive_any _).mono ?_
  rintro e w1 ⟨rfl, hb⟩
  have HL1 := Lib.hid (HL.out.below hb)
  have HB1 := Lib.hid hb
  clear hb HL
  by_cases hgt : 40 < n
  · go_wp2_with fail
    go_ret
    exact ⟨rfl, HB1.out⟩
  go_wp2_with fail
  refine (view_any HL1.out (by omega) c).mono ?_
  rintro e w2 ⟨its, a2, cap2, hit, rfl, hown, hb⟩
  have HI := Lib.hid hit
  obtain ⟨nk, hnk⟩ : ∃ nk, its.length = nk := ⟨_, rfl⟩
  have HNK := Lib.hid hnk
  have hnk50 : nk < 65537 := by
    rw [← hnk]
    have h1 : its.Nodup := List.nodup_iff_pairwise_ne.2 (hit.up.imp fun h => by omega)
    have := h1.length_le_of_subset (l₂ := List.range 65536) (fun x hx => List.mem_range.2 ((hit.mem x).1 hx).1)
    simp at this
    omega
  rw [hnk] at hown ⊢
  obtain ⟨t, ht⟩ : ∃ t, tkTo (l.filter fun o => decide (o.c = c)) (l.filter fun o => decide (o.c = c)).length = t := ⟨_, rfl⟩
  have HGE : Hid (∀ o ∈ l, o.c = c → o.t ≤ t) := Lib.hid (fun o ho hc => by
    rw [← ht]
    exact tick_ge _ (by rw [List.take_of_length_le (Nat.le_refl _)]; exact List.mem_filter.2 ⟨ho, decide_eq_true hc⟩))
  have HIN : Hid (Found l c t n) := Lib.hid (by
    rw [← ht]
    rcases tick_in (l.filter fun o => decide (o.c = c)) (l.filter fun o => decide (o.c = c)).length with h | ⟨o, ho, h⟩
    · exact .inl h
    · have h2 := List.mem_filter.1 ho
      exact .inr ⟨o, by rw [List.take_of_length_le (by rw [HLEN.out]; exact Nat.le_refl _)]; exact h2.1, of_decide_eq_true h2.2, h⟩)
  rw [ht]
  generalize outTo (l.filter fun o => decide (o.c = c)) (l.filter fun o => decide (o.c = c)).length = out
  have htl : t < 4294967296 := by rw [← ht]; exact tkTo_lt _ _
  clear ht hnk hit
  generalize (l.filter fun o => decide (o.c = c)) = L at hown
  unfold viewV
  have HT : Hid (Tk w (w2.alloc (.cells #[.int .u16 (c : Int), .slice a2 nk cap2, .bool out, .int .u32 (t : Int)] 44)) w2.heap.size c t out a2 a n nk cap2 l L its) := Lib.hid ⟨Blk.new _ _ _, (hown.mono HB1.out.size).below (below_one _ _), (HL1.out.below hb).below (below_one _ _), (HB1.out.trans (hb.mono HB1.out.size)).trans ((below_one w2 _).mono (Nat.le_trans HB1.out.size hb.size))⟩
  clear hown hb HL1 HB1
  go_wp2_with fail
  generalize w2.alloc (.cells #[.int .u16 (c : Int), .slice a2 nk cap2, .bool out, .int .u32 (t : Int)] 44) = w3 at HT
  obtain ⟨g, hg⟩ : ∃ g, w2.heap.size = g := ⟨_, rfl⟩
  rw [hg] at HT
  rw [hg]
  clear hg
  go_loopw [6, 23] (R w g c t out a2 a n nk cap2 l L its) (fun _ i _ => n - (numI i).toNat)
  case atStart => exact ⟨0, _, rfl, rfl, Nat.zero_le _, Lib.hid (by unfold Found; simp), HT⟩
  case round =>
    obtain ⟨k, fd, rfl, rfl, hk, HF, HS⟩ := hrel
    clear HT
    by_cases hlt : k < n
    · obtain ⟨b, off, x, rfl, hx, hr⟩ := OL.at HS.out.ol hlt
      have HX := Lib.hid hx
      have HR := Lib.hid hr
      clear hx hr
      go_wp2_with (first | (refine wpList_run rfl (exec_idxO (i := k) rfl rfl rfl rfl hlt) ?_) | (refine wpList_run rfl (exec_ldO rfl rfl HR.out) ?_) | (refine wpList_run rfl (exec_alloc40z HO.out rfl) ?_) | (refine wpList_stop40 rfl ?_))
      refine ⟨?_⟩
      refine wpList_void rfl rfl (exec_store40 (p := zo) (u := x) rfl rfl rfl (Blk.new wr 40 zo.arr)) ?_
      have H1 : Hid (Ow wr ((wr.alloc (.cells zo.arr 40)).setRow wr.heap.size x.arr) x) := Lib.hid ⟨olaid_blk wr zo x, olaid_old wr zo x⟩
      generalize (wr.alloc (.cells zo.arr 40)).setRow wr.heap.size x.arr = w4 at H1
      have HS4 := Lib.hid (HS.out.below H1.out.old)
      have c3 := oc3 H1.out.one
      by_cases hc : x.c = c
      · have hq : ((x.c : Int) != (c : Int)) = false := by simp; omega
        have c6 := oc6 H1.out.one
        have cv : w4.cell? ⟨g, 3, none⟩ = some (.int .u32 (t : Int)) := by rw [HS4.out.view.cell]; rfl
        have hle : ¬ (t : Int) < (x.t : Int) := by have := HGE.out x (List.mem_of_getElem? HX.out) hc; omega
        have HFY := Lib.hid (found_yes HF.out HX.out hc)
        clear hc
        cases fd
        · go_wp2_with fail
          go_roundw
          case rel => exact ⟨k + 1, _, rfl, by go_num, hlt, HFY, HS4⟩
          case measure => simp [numI]; omega
        · go_wp2_with fail
          go_roundw
          case rel => exact ⟨k + 1, true, rfl, by go_num, hlt, Lib.hid (by simpa using HFY.out), HS4⟩
          case measure => simp [numI]; omega
      · have hq : ((x.c : Int) != (c : Int)) = true := by simp; omega
        have HFN := Lib.hid (found_no HF.out HX.out hc)
        clear hc
        go_wp2_with fail
        go_roundw
        case rel => exact ⟨k + 1, fd, rfl, by go_num, hlt, HFN, HS4⟩
        case measure => simp [numI]; omega
    · obtain rfl : k = n := by omega
      obtain rfl : fd = true := HF.out.2 HIN.out
      have HS0 := HS
      clear HS
      go_wp2_with fail
      go_loopw [9] (R2 w g c t out a2 a k nk cap2 l L its) (fun i _ => nk + 1 - (numI i).toNat)
      case atStart => exact ⟨1, rfl, by omega, by omega, HS0⟩
      case round =>
        obtain ⟨j, rfl, hj1, hj2, HS⟩ := hrel
        clear HS0
        have cl : wr.cell? ⟨g, 1, none⟩ = some (.slice a2 nk cap2) := by rw [HS.out.view.cell]; rfl
        by_cases hlt2 : j < nk
        · have hjn : j < its.length := by rw [HNK.out]; exact hlt2
          obtain ⟨i1, hi1⟩ : ∃ i, its[j]? = some i := ⟨_, List.getElem?_eq_getElem hjn⟩
          obtain ⟨i0, hi0⟩ : ∃ i, its[j - 1]? = some i := ⟨_, List.getElem?_eq_getElem (by omega)⟩
          obtain ⟨b, off, e1, l1, _⟩ := line_at HS.out.own hi1
          obtain ⟨b', off', e2, l0, _⟩ := line_at HS.out.own hi0
          subst e1
          simp only [Option.some.injEq, Addr.mk.injEq, and_true] at e2
          obtain ⟨rfl, rfl⟩ := e2
          have HGE : Hid (decide ((i1 : Int) ≤ (i0 : Int)) = false) := Lib.hid (by
            have h1 := (List.getElem?_eq_some_iff.1 hi1).2
            have h0 := (List.getElem?_eq_some_iff.1 hi0).2
            have := List.pairwise_iff_getElem.1 HI.out.up (j - 1) j (by omega) hjn (by omega)
            simp
            omega)
          have HC1 := Lib.hid l1
          have HC0 := Lib.hid l0
          have HCL := Lib.hid cl
          clear hi1 hi0 l1 l0 hjn
          go_upto_region 18 with fail
          clear cl
          refine wp_region_held_drew (S := fun w' => w'.cell? ⟨g, 1, none⟩ = some (.slice (some ⟨b, off, none⟩) nk cap2) ∧ w'.cell? ⟨b, off + (j - 1) * 2, none⟩ = some (.int .u16 (i0 : Int)) ∧ w'.cell? ⟨b, off + j * 2, none⟩ = some (.int .u16 (i1 : Int))) (by kernel_rfl) ⟨HCL.out, HC0.out, HC1.out⟩ (fun hS => ?_)
          refine held_take 0 52 (.pointer (some ⟨g, 1, none⟩)) rfl rfl (by kernel_rfl) (by kernel_rfl) (by kernel_rfl) (fun _ _ _ h => h) (by kernel_rfl) (fun _ _ => (by kernel_rfl)) hS ?_
          simp only [Act.put, List.setIfInBounds_toArray, List.set_cons_zero, List.set_cons_succ]
          refine held_take 1 53 (.slice (some ⟨b, off, none⟩) nk cap2) rfl rfl (by kernel_rfl) (by kernel_rfl) (by kernel_rfl) (fun _ _ _ h => h) (by kernel_rfl) (fun _ h => exec_cell rfl rfl (load_cell (by kernel_rfl) h.1)) hS ?_
          simp only [Act.put, List.setIfInBounds_toArray, List.set_cons_zero, List.set_cons_succ]
          refine held_take 2 54 (.int .i64 (j : Int)) rfl rfl (by kernel_rfl) (by kernel_rfl) (by kernel_rfl) (fun _ _ _ h => h) (by kernel_rfl) (fun _ _ => rfl) hS ?_
          simp only [Act.put, List.setIfInBounds_toArray, List.set_cons_zero, List.set_cons_succ]
          refine held_take 3 55 (.int .i64 ((j - 1 : Nat) : Int)) rfl rfl (by kernel_rfl) (by kernel_rfl) (by kernel_rfl) (fun _ _ _ h => h) (by kernel_rfl) (fun _ _ => exec_predL rfl rfl rfl hj1 (by omega)) hS ?_
          simp only [Act.put, List.setIfInBounds_toArray, List.set_cons_zero, List.set_cons_succ]
          refine held_take 4 56 (.pointer (some ⟨b, off + (j - 1) * 2, none⟩)) rfl rfl (by kernel_rfl) (by kernel_rfl) (by kernel_rfl) (fun _ _ _ h => h) (by kernel_rfl) (fun _ _ => exec_idxL (i := j - 1) rfl rfl rfl rfl (by omega)) hS ?_
          simp only [Act.put, List.setIfInBounds_toArray, List.set_cons_zero, List.set_cons_succ]
          refine held_take 5 57 (.pointer (some ⟨b, off + (j - 1) * 2, none⟩)) rfl rfl (by kernel_rfl) (by kernel_rfl) (by kernel_rfl) (fun _ _ _ h => h) (by kernel_rfl) (fun _ _ => (by kernel_rfl)) hS ?_
          simp only [Act.put, List.setIfInBounds_toArray, List.set_cons_zero, List.set_cons_succ]
          refine held_take 6 58 (.int .u16 (i0 : Int)) rfl rfl (by kernel_rfl) (by kernel_rfl) (by kernel_rfl) (fun _ _ _ h => h) (by kernel_rfl) (fun _ h => exec_cell rfl rfl (load_cell (by kernel_rfl) h.2.1)) hS ?_
          simp only [Act.put, List.setIfInBounds_toArray, List.set_cons_zero, List.set_cons_succ]
          refine held_take 7 59 (.pointer (some ⟨g, 1, none⟩)) rfl rfl (by kernel_rfl) (by kernel_rfl) (by kernel_rfl) (fun _ _ _ h => h) (by kernel_rfl) (fun _ _ => (by kernel_rfl)) hS ?_
          simp only [Act.put, List.setIfInBounds_toArray, List.set_cons_zero, List.set_cons_succ]
          refine held_take 8 60 (.slice (some ⟨b, off, none⟩) nk cap2) rfl rfl (by kernel_rfl) (by kernel_rfl) (by kernel_rfl) (fun _ _ _ h => h) (by kernel_rfl) (fun _ h => exec_cell rfl rfl (load_cell (by kernel_rfl) h.1)) hS ?_
          simp only [Act.put, List.setIfInBounds_toArray, List.set_cons_zero, List.set_cons_succ]
          refine held_take 9 61 (.int .i64 (j : Int)) rfl rfl (by kernel_rfl) (by kernel_rfl) (by kernel_rfl) (fun _ _ _ h => h) (by kernel_rfl) (fun _ _ => rfl) hS ?_
          simp only [Act.put, List.setIfInBounds_toArray, List.set_cons_zero, List.set_cons_succ]
          refine held_take 10 62 (.pointer (some ⟨b, off + j * 2, none⟩)) rfl rfl (by kernel_rfl) (by kernel_rfl) (by kernel_rfl) (fun _ _ _ h => h) (by kernel_rfl) (fun _ _ => exec_idxL (i := j) rfl rfl rfl rfl hlt2) hS ?_
          simp only [Act.put, List.setIfInBounds_toArray, List.set_cons_zero, List.set_cons_succ]
          refine held_take 11 63 (.pointer (some ⟨b, off + j * 2, none⟩)) rfl rfl (by kernel_rfl) (by kernel_rfl) (by kernel_rfl) (fun _ _ _ h => h) (by kernel_rfl) (fun _ _ => (by kernel_rfl)) hS ?_
          simp only [Act.put, List.setIfInBounds_toArray, List.set_cons_zero, List.set_cons_succ]
          refine held_take 12 64 (.int .u16 (i1 : Int)) rfl rfl (by kernel_rfl) (by kernel_rfl) (by kernel_rfl) (fun _ _ _ h => h) (by kernel_rfl) (fun _ h => exec_cell rfl rfl (load_cell (by kernel_rfl) h.2.2)) hS ?_
          simp only [Act.put, List.setIfInBounds_toArray, List.set_cons_zero, List.set_cons_succ]
          refine held_take 13 65 (.bool false) rfl rfl (by kernel_rfl) (by kernel_rfl) (by kernel_rfl) (fun _ _ _ h => h) (by kernel_rfl) (fun _ _ => exec_geqI rfl rfl rfl HGE.out) hS ?_
          simp only [Act.put, List.setIfInBounds_toArray, List.set_cons_zero, List.set_cons_succ]
          refine wpAnyH_done (by kernel_rfl) ?_ _
          have HSN := Lib.hid (HS.out.below (drew_below wr))
          clear hS
          go_wp2_with fail
          go_roundw
          case rel => exact ⟨j + 1, by go_num, by omega, by omega, HSN⟩
          case measure => simp [numI]; omega
        · go_wp2_with fail
          go_ret
          exact ⟨rfl, HS.out.old⟩

set_option maxRecDepth 100000 in
theorem lifted (os : Os) (started : os.Started) (H : Type) (enc : TypeId × Value → H) :
    ReturnsInHanded {} Try.checked os 8 .any (Rows.foldTicksSpec.pre6 enc Try.prog Try.f8 Rows.foldTicksRow.domain false) (Rows.foldTicksSpec.post enc Try.prog Try.f8 false true false false) := by
  refine returnsInHanded_of_change (C := Try.checked) own started (by kernel_rfl) Try.func8
    (ChangeSpec.witness6 (enc := enc) (C := Try.checked) false ⟨#[], #[.slice none 0 0, .int .u16 0], []⟩ 8 (by kernel_rfl) (by kernel_rfl) (by kernel_rfl) (by kernel_rfl)) ?_
  intro W base args ds gs before hval0 hW hcnd _
  have hval : ∀ (j : Nat) t v, Try.f8.params[j]? = some t → args[j]? = some v → Value.okWide Try.prog W .any base t v := hval0
  have hW' := hW
  obtain ⟨p, q, hA0, hV, rfl, hfz, hnd⟩ := hW
  have hA : DataW.TrodAll enc Try.prog W 0 (fun _ => true) true Try.f8.params.toList args.toList ds p := hA0
  rw [Try.params8] at hA hval
  obtain ⟨v0, v1, d0, d1, p0, p1, rfl, rfl, rfl, h0, h1⟩ := trodAll_two hA
  obtain ⟨rfl, rfl⟩ := trodVars_none hV
  have lt0 : ∀ x ∈ p0, x.block < W.heap.size := by obtain ⟨m, hm⟩ := h0; exact DataW.trod_lt m _ _ _ hm
  obtain ⟨ab, nb, cb, rfl⟩ := okWide_slice Try.underlying22 (hval 0 22 v0 rfl rfl)
  obtain ⟨hl0, l0, hR0⟩ := ops_of h0
  obtain ⟨a1, rfl, rfl, rfl, w1⟩ := open_int Try.underlying34 (hval 1 34 v1 rfl rfl) h1
  have c1 := bounds_u16 w1
  obtain ⟨a1, rfl⟩ := Int.eq_ofNat_of_zero_le c1.1
  clear hA0 hval0
  refine (walk ab nb cb l0 a1 W hl0 hR0 (by omega)).mono fun e W' ⟨he, bel⟩ => ?_
  subst he
  exact ⟨_, rfl, _, _, _, [], _, [], hW', trodAll_mk1 (shut_bool Try.underlying4 _), trodAll_mk2 (Below.trod laidOut (by kernel_rfl) (of_decide_eq_true (by kernel_rfl)) h0 bel lt0) (shut_int Try.underlying34 w1), rfl, bel.frame _, fun h => by cases h⟩
end FoldTicks

theorem foldTicks_proved : Rows.FoldTicksSaid :=
  OpenClaim.holds_of_wide 8 Try.f8 rfl rfl rfl rfl rfl rfl rfl ⟨rfl, rfl, rfl, rfl, rfl⟩ rfl rfl rfl rfl rfl (by kernel_rfl) Try.func8 (by kernel_rfl)
    (of_decide_eq_true (by kernel_rfl)) (by unfold Func.isWrapper; first | (rw [if_pos (by decide +kernel)]; kernel_rfl) | (rw [if_neg (by decide +kernel)]; exact ⟨rfl, rfl⟩))
    (fun os started H enc _ => FoldTicks.lifted os started H enc)
#print axioms foldTicks_proved
end Go.Proofs.Ytmibfbbkjejkmaa
