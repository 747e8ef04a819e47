/- Walks of the two partitions over uint16 numbers. -/
import Derived.Test.YtmibfbbkjejkmaaTb
import Derived.Deep.DeepCutAuto
namespace Go.Proofs.Ytmibfbbkjejkmaa
open Go.RowKit
open Go.Sort (swp ltInt size_swp PermIn SortedIn)

def lwL (p y : Int) : Bool := ltInt y p
def lwE (p y : Int) : Bool := !ltInt p y
def Up (w : World) (g o : Nat) (r : Array Value) (d x : Array Int) (lw : Int → Bool) (p : Int) (a b j i0 : Nat) (v : Value) (W : World) : Prop :=
  ∃ i : Nat, v = .int .i64 (i : Int) ∧ i0 ≤ i ∧ PInv lw p d x a b i j ∧ Sr w W g o r x
def Dn (w : World) (g o : Nat) (r : Array Value) (d x : Array Int) (lw : Int → Bool) (p : Int) (a b i j0 : Nat) (v : Value) (W : World) : Prop :=
  ∃ j : Nat, v = .int .i64 (j : Int) ∧ j ≤ j0 ∧ PInv lw p d x a b i j ∧ Sr w W g o r x
def Both2 (w : World) (g o : Nat) (r : Array Value) (d : Array Int) (lw : Int → Bool) (p : Int) (a b : Nat) (v u : Value) (W : World) : Prop :=
  ∃ (i j : Nat) (x : Array Int), v = .int .i64 (i : Int) ∧ u = .int .i64 (j : Int) ∧ PInv lw p d x a b i j ∧ Sr w W g o r x
def CutC (w : World) (g o : Nat) (r : Array Value) (x : Array Int) (t : Bool) (c : Value) (W : World) : Prop := c = .bool t ∧ Hid (Sr w W g o r x)
theorem cut_no {i j : Nat} {l u : Bool} (h : (decide (i ≤ j) && (l == u)) = false) : ¬ i ≤ j ∨ l = !u := by
  cases l <;> cases u <;> simp_all
theorem cut_yes {i j : Nat} {l u : Bool} (h : (decide (i ≤ j) && (l == u)) = true) : i ≤ j ∧ l = u := by
  simpa using h

def PartE (w : World) (g o : Nat) (r : Array Value) (d : Array Int) (a b : Nat) (p : Int) (e : Ending) (W' : World) : Prop :=
  ∃ (m : Nat) (x : Array Int), e = .returned (.int .i64 (m : Int)) ∧ PartEq d x a b m p ∧ Sr w W' g o r x
def PartL (w : World) (g o : Nat) (r : Array Value) (d : Array Int) (a b : Nat) (e : Ending) (W' : World) : Prop :=
  ∃ (m : Nat) (q : Bool) (x : Array Int), e = .returned (.tuple #[.int .i64 (m : Int), .bool q]) ∧ Parted d x a b m ∧ Sr w W' g o r x

set_option maxRecDepth 100000 in
set_option maxHeartbeats 8000000 in
theorem parteq16 {w W : World} {g o cap : Nat} {r : Array Value} {d : Array Int} (hs : Sr w W g o r d) (a b pv : Nat) (p : Int) (hpv : Hid (d[pv]! = p)) (h1 : a ≤ pv) (h2 : pv < b) (hb : b ≤ d.size) (hsz : d.size < 1000000) :
    Calls Try.prog 55 #[.slice (some ⟨g, o, none⟩) d.size cap, .int .i64 (a : Int), .int .i64 (b : Int), .int .i64 (pv : Int)] W (PartE w g o r d a b p) := by
  have HS := Lib.hid hs
  have HP0 : Hid (PInv (lwE p) p d (swp d a pv) a b (a + 1) (b - 1)) := Lib.hid (by have := PInv.start (lwE d[pv]!) h1 h2 hb; rw [hpv.out] at this; exact this)
  clear hs
  go_enter Try.func55, Try.ntmps55
  go_wp2_with fail
  refine wp_region_held_drew (S := fun _ => True) (by kernel_rfl) trivial (fun hS => ?_)
  refine held_take 0 11 (.slice (some ⟨g, o, none⟩) d.size cap) rfl rfl (by kernel_rfl) (by kernel_rfl) (by kernel_rfl) (fun _ _ _ h => h) (by kernel_rfl) (fun _ _ => rfl) trivial ?_
  simp only [Act.put, List.setIfInBounds_toArray, List.set_cons_zero, List.set_cons_succ]
  refine held_take 1 12 (.int .i64 (a : Int)) rfl rfl (by kernel_rfl) (by kernel_rfl) (by kernel_rfl) (fun _ _ _ h => h) (by kernel_rfl) (fun _ _ => rfl) trivial ?_
  simp only [Act.put, List.setIfInBounds_toArray, List.set_cons_zero, List.set_cons_succ]
  refine held_take 2 13 (.slice (some ⟨g, o, none⟩) d.size cap) rfl rfl (by kernel_rfl) (by kernel_rfl) (by kernel_rfl) (fun _ _ _ h => h) (by kernel_rfl) (fun _ _ => rfl) trivial ?_
  simp only [Act.put, List.setIfInBounds_toArray, List.set_cons_zero, List.set_cons_succ]
  refine held_take 3 14 (.int .i64 (pv : Int)) rfl rfl (by kernel_rfl) (by kernel_rfl) (by kernel_rfl) (fun _ _ _ h => h) (by kernel_rfl) (fun _ _ => rfl) trivial ?_
  simp only [Act.put, List.setIfInBounds_toArray, List.set_cons_zero, List.set_cons_succ]
  refine held_take 4 15 (.slice (some ⟨g, o, none⟩) d.size cap) rfl rfl (by kernel_rfl) (by kernel_rfl) (by kernel_rfl) (fun _ _ _ h => h) (by kernel_rfl) (fun _ _ => rfl) trivial ?_
  simp only [Act.put, List.setIfInBounds_toArray, List.set_cons_zero, List.set_cons_succ]
  refine held_take 5 16 (.int .i64 (pv : Int)) rfl rfl (by kernel_rfl) (by kernel_rfl) (by kernel_rfl) (fun _ _ _ h => h) (by kernel_rfl) (fun _ _ => rfl) trivial ?_
  simp only [Act.put, List.setIfInBounds_toArray, List.set_cons_zero, List.set_cons_succ]
  refine held_take 6 17 (.pointer (some ⟨g, o + pv, none⟩)) rfl rfl (by kernel_rfl) (by kernel_rfl) (by kernel_rfl) (fun _ _ _ h => h) (by kernel_rfl) (fun _ _ => exec_idx16 (i := pv) rfl rfl rfl (by omega) (by omega)) trivial ?_
  simp only [Act.put, List.setIfInBounds_toArray, List.set_cons_zero, List.set_cons_succ]
  refine held_take 8 19 (.slice (some ⟨g, o, none⟩) d.size cap) rfl rfl (by kernel_rfl) (by kernel_rfl) (by kernel_rfl) (fun _ _ _ h => h) (by kernel_rfl) (fun _ _ => rfl) trivial ?_
  simp only [Act.put, List.setIfInBounds_toArray, List.set_cons_zero, List.set_cons_succ]
  refine held_take 9 20 (.int .i64 (a : Int)) rfl rfl (by kernel_rfl) (by kernel_rfl) (by kernel_rfl) (fun _ _ _ h => h) (by kernel_rfl) (fun _ _ => rfl) trivial ?_
  simp only [Act.put, List.setIfInBounds_toArray, List.set_cons_zero, List.set_cons_succ]
  refine held_take 10 21 (.pointer (some ⟨g, o + a, none⟩)) rfl rfl (by kernel_rfl) (by kernel_rfl) (by kernel_rfl) (fun _ _ _ h => h) (by kernel_rfl) (fun _ _ => exec_idx16 (i := a) rfl rfl rfl (by omega) (by omega)) trivial ?_
  simp only [Act.put, List.setIfInBounds_toArray, List.set_cons_zero, List.set_cons_succ]
  refine held_two 7 11 18 22 (.int .u16 d[pv]!) (.int .u16 d[a]!) (by decide) (by decide) rfl rfl rfl rfl (by kernel_rfl) (by kernel_rfl) (by kernel_rfl) (by kernel_rfl) (by kernel_rfl) (by kernel_rfl) (by kernel_rfl) (exec_ld16 rfl rfl (HS.out.drawn 1) (by omega) rfl) (exec_ld16 rfl rfl (HS.out.drawn 1) (by omega) rfl) (exec_ld16 rfl rfl (HS.out.drawn 1) (by omega) rfl) (exec_ld16 rfl rfl (HS.out.drawn 1) (by omega) rfl) trivial ?_
  simp only [Act.put, List.setIfInBounds_toArray, List.set_cons_zero, List.set_cons_succ]
  refine held_exec 12 23 (.pointer (some ⟨g, o + a, none⟩)) rfl rfl (by kernel_rfl) (by kernel_rfl) (exec_idx16 (i := a) rfl rfl rfl (by omega) (by omega)) trivial ?_
  simp only [Act.put, List.setIfInBounds_toArray, List.set_cons_zero, List.set_cons_succ]
  refine held_void 13 rfl rfl (by kernel_rfl) (by kernel_rfl) (exec_st16 rfl rfl rfl (HS.out.drawn 1) (by omega)) trivial ?_
  refine held_exec 14 24 (.pointer (some ⟨g, o + pv, none⟩)) rfl rfl (by kernel_rfl) (by kernel_rfl) (exec_idx16 (i := pv) rfl rfl rfl (by omega) (by omega)) trivial ?_
  simp only [Act.put, List.setIfInBounds_toArray, List.set_cons_zero, List.set_cons_succ]
  refine held_void 15 rfl rfl (by kernel_rfl) (by kernel_rfl) (exec_st16 rfl rfl rfl ((HS.out.drawn 1).set (by omega) _) (by simp; omega)) trivial ?_
  refine wpAnyH_done (by kernel_rfl) ?_ _
  have HN := Lib.hid (HS.out.swapd (i := a) (j := pv) (by omega) (by omega))
  generalize (W.drew.setCell ⟨g, o + a, none⟩ (.int .u16 d[pv]!)).setCell ⟨g, o + pv, none⟩ (.int .u16 d[a]!) = W1 at HN
  go_wp2_with fail
  go_loopw [9, 10] (Both2 w g o r d (lwE p) p a b) (fun v u _ => (numI u + 1 - numI v).toNat)
  case atStart => exact ⟨a + 1, b - 1, _, by go_num, by congr 1; omega, HP0.out, HN.out⟩
  case round =>
    obtain ⟨i0, j0, x, rfl, rfl, hp0, hsx0⟩ := hrel
    have HP := Lib.hid hp0
    have HX := Lib.hid hsx0
    clear hp0 hsx0
    obtain ⟨G, hG⟩ : ∃ G : Nat → Int, ∀ t, G t = x[t]! := ⟨fun t => x[t]!, fun _ => rfl⟩
    have HG := Lib.hid hG
    clear hG
    go_wp2_with fail
    go_loopw [9] (Up w g o r d x (lwE p) p a b j0 i0) (fun v _ => b + 1 - (numI v).toNat)
    case atStart => exact ⟨_, rfl, Nat.le_refl _, HP.out, HX.out⟩
    case round =>
      obtain ⟨i, rfl, hmvi, hp, hsx⟩ := hrel
      have ha1 := hp.ai
      have ha2 := hp.ij
      have ha3 := hp.jb
      have ha4 := hp.fits
      have hcw : ∀ t, t < d.size → wr.cell? ⟨g, o + t, none⟩ = some (.int .u16 (G t)) := fun t ht => by rw [HG.out]; exact hsx.cell (by rw [hp.size]; exact ht)
      have HP := Lib.hid hp
      have HX := Lib.hid hsx
      clear hp hsx
      obtain ⟨t, ht⟩ : ∃ t : Bool, (decide (i ≤ j0) && (lwE p x[i]! == true)) = t := ⟨_, rfl⟩
      have HT := Lib.hid ht
      have HW : Hid (lwE p x[i]! = !ltInt (G a) (G i)) := Lib.hid (by unfold lwE; rw [← HP.out.piv, ← HG.out, ← HG.out])
      clear ht
      go_upto_region 3 with fail
      go_cut [43] (CutC w g o r x t)
      case first =>
        have hn1 : a < d.size := by omega
        by_cases hij : i ≤ j0
        · have hn2 : i < d.size := by omega
          cases hl : ltInt (G a) (G i)
          · go_quiet (first | (go_at_call 54; refine Calls.quiet_of_same (less16' _ _ _)))
            rw [hl]
            go_wp2
            go_meet
            exact ⟨congrArg Value.bool (by rw [← HT.out, HW.out, hl]; simp [hij]), Lib.hid (HX.out.drawn nq)⟩
          · go_quiet (first | (go_at_call 54; refine Calls.quiet_of_same (less16' _ _ _)))
            rw [hl]
            go_wp2
            go_meet
            exact ⟨congrArg Value.bool (by rw [← HT.out, HW.out, hl]; simp [hij]), Lib.hid (HX.out.drawn nq)⟩
        · go_quiet (first | (go_at_call 54; refine Calls.quiet_of_same (less16' _ _ _)))
          go_wp2
          go_meet
          exact ⟨congrArg Value.bool (by rw [← HT.out]; simp [hij]), Lib.hid (HX.out.drawn nq)⟩
      case rest =>
        obtain ⟨rfl, HX2⟩ := hcut
        clear HX hcw
        have HX := HX2
        clear HX2
        cases t
        · have HFi : Hid (¬ i ≤ j0 ∨ lwE p x[i]! = false) := Lib.hid (cut_no HT.out)
          clear HT HW
          go_wp2_with fail
          go_loopw [10] (Dn w g o r d x (lwE p) p a b i j0) (fun v _ => (numI v).toNat)
          case atStart => exact ⟨_, rfl, Nat.le_refl _, HP.out, HX.out⟩
          case round =>
            obtain ⟨j, rfl, hmvj, hp, hsx⟩ := hrel
            have ha1 := hp.ai
            have ha2 := hp.ij
            have ha3 := hp.jb
            have ha4 := hp.fits
            have hcw : ∀ t, t < d.size → wr.cell? ⟨g, o + t, none⟩ = some (.int .u16 (G t)) := fun t ht => by rw [HG.out]; exact hsx.cell (by rw [hp.size]; exact ht)
            have HP := Lib.hid hp
            have HX := Lib.hid hsx
            clear hp hsx
            obtain ⟨t, ht⟩ : ∃ t : Bool, (decide (i ≤ j) && (lwE p x[j]! == false)) = t := ⟨_, rfl⟩
            have HT := Lib.hid ht
            have HW : Hid (lwE p x[j]! = !ltInt (G a) (G j)) := Lib.hid (by unfold lwE; rw [← HP.out.piv, ← HG.out, ← HG.out])
            clear ht
            go_upto_region 5 with fail
            go_cut [59] (CutC w g o r x t)
            case first =>
              have hn1 : a < d.size := by omega
              by_cases hij : i ≤ j
              · have hn2 : j < d.size := by omega
                cases hl : ltInt (G a) (G j)
                · go_quiet (first | (go_at_call 54; refine Calls.quiet_of_same (less16' _ _ _)))
                  rw [hl]
                  go_wp2
                  go_meet
                  exact ⟨congrArg Value.bool (by rw [← HT.out, HW.out, hl]; simp [hij]), Lib.hid (HX.out.drawn nq)⟩
                · go_quiet (first | (go_at_call 54; refine Calls.quiet_of_same (less16' _ _ _)))
                  rw [hl]
                  go_wp2
                  go_meet
                  exact ⟨congrArg Value.bool (by rw [← HT.out, HW.out, hl]; simp [hij]), Lib.hid (HX.out.drawn nq)⟩
              · go_quiet (first | (go_at_call 54; refine Calls.quiet_of_same (less16' _ _ _)))
                go_wp2
                go_meet
                exact ⟨congrArg Value.bool (by rw [← HT.out]; simp [hij]), Lib.hid (HX.out.drawn nq)⟩
            case rest =>
              obtain ⟨rfl, HX2⟩ := hcut
              clear HX hcw
              have HX := HX2
              clear HX2
              cases t
              · have HFj : Hid (¬ i ≤ j ∨ lwE p x[j]! = true) := Lib.hid (cut_no HT.out)
                clear HT HW
                have hb1 := HP.out.ai
                have hb2 := HP.out.ij
                have hb3 := HP.out.jb
                have hb4 := HP.out.fits
                have hb5 := HP.out.size
                by_cases hfin : j < i
                · have hd : decide ((j : Int) < (i : Int)) = true := by simp; omega
                  go_wp2_with fail
                  go_ret
                  exact ⟨i, x, rfl, HP.out.ends hfin, HX.out⟩
                · have hd : decide ((j : Int) < (i : Int)) = false := by simp; omega
                  have hdi : i ≤ j := by omega
                  have HI := Lib.hid (HFi.out.resolve_left (by omega))
                  have HJ := Lib.hid (HFj.out.resolve_left (by omega))
                  go_wp2_with fail
                  refine wp_region_held_drew (S := fun _ => True) (by kernel_rfl) trivial (fun hS => ?_)
                  refine held_take 0 65 (.slice (some ⟨g, o, none⟩) d.size cap) rfl rfl (by kernel_rfl) (by kernel_rfl) (by kernel_rfl) (fun _ _ _ h => h) (by kernel_rfl) (fun _ _ => rfl) trivial ?_
                  simp only [Act.put, List.setIfInBounds_toArray, List.set_cons_zero, List.set_cons_succ]
                  refine held_take 1 66 (.int .i64 (i : Int)) rfl rfl (by kernel_rfl) (by kernel_rfl) (by kernel_rfl) (fun _ _ _ h => h) (by kernel_rfl) (fun _ _ => rfl) trivial ?_
                  simp only [Act.put, List.setIfInBounds_toArray, List.set_cons_zero, List.set_cons_succ]
                  refine held_take 2 67 (.slice (some ⟨g, o, none⟩) d.size cap) rfl rfl (by kernel_rfl) (by kernel_rfl) (by kernel_rfl) (fun _ _ _ h => h) (by kernel_rfl) (fun _ _ => rfl) trivial ?_
                  simp only [Act.put, List.setIfInBounds_toArray, List.set_cons_zero, List.set_cons_succ]
                  refine held_take 3 68 (.int .i64 (j : Int)) rfl rfl (by kernel_rfl) (by kernel_rfl) (by kernel_rfl) (fun _ _ _ h => h) (by kernel_rfl) (fun _ _ => rfl) trivial ?_
                  simp only [Act.put, List.setIfInBounds_toArray, List.set_cons_zero, List.set_cons_succ]
                  refine held_take 4 69 (.slice (some ⟨g, o, none⟩) d.size cap) rfl rfl (by kernel_rfl) (by kernel_rfl) (by kernel_rfl) (fun _ _ _ h => h) (by kernel_rfl) (fun _ _ => rfl) trivial ?_
                  simp only [Act.put, List.setIfInBounds_toArray, List.set_cons_zero, List.set_cons_succ]
                  refine held_take 5 70 (.int .i64 (j : Int)) rfl rfl (by kernel_rfl) (by kernel_rfl) (by kernel_rfl) (fun _ _ _ h => h) (by kernel_rfl) (fun _ _ => rfl) trivial ?_
                  simp only [Act.put, List.setIfInBounds_toArray, List.set_cons_zero, List.set_cons_succ]
                  refine held_take 6 71 (.pointer (some ⟨g, o + j, none⟩)) rfl rfl (by kernel_rfl) (by kernel_rfl) (by kernel_rfl) (fun _ _ _ h => h) (by kernel_rfl) (fun _ _ => exec_idx16 (i := j) rfl rfl rfl (by omega) (by omega)) trivial ?_
                  simp only [Act.put, List.setIfInBounds_toArray, List.set_cons_zero, List.set_cons_succ]
                  refine held_take 8 73 (.slice (some ⟨g, o, none⟩) d.size cap) rfl rfl (by kernel_rfl) (by kernel_rfl) (by kernel_rfl) (fun _ _ _ h => h) (by kernel_rfl) (fun _ _ => rfl) trivial ?_
                  simp only [Act.put, List.setIfInBounds_toArray, List.set_cons_zero, List.set_cons_succ]
                  refine held_take 9 74 (.int .i64 (i : Int)) rfl rfl (by kernel_rfl) (by kernel_rfl) (by kernel_rfl) (fun _ _ _ h => h) (by kernel_rfl) (fun _ _ => rfl) trivial ?_
                  simp only [Act.put, List.setIfInBounds_toArray, List.set_cons_zero, List.set_cons_succ]
                  refine held_take 10 75 (.pointer (some ⟨g, o + i, none⟩)) rfl rfl (by kernel_rfl) (by kernel_rfl) (by kernel_rfl) (fun _ _ _ h => h) (by kernel_rfl) (fun _ _ => exec_idx16 (i := i) rfl rfl rfl (by omega) (by omega)) trivial ?_
                  simp only [Act.put, List.setIfInBounds_toArray, List.set_cons_zero, List.set_cons_succ]
                  refine held_two 7 11 72 76 (.int .u16 x[j]!) (.int .u16 x[i]!) (by decide) (by decide) rfl rfl rfl rfl (by kernel_rfl) (by kernel_rfl) (by kernel_rfl) (by kernel_rfl) (by kernel_rfl) (by kernel_rfl) (by kernel_rfl) (exec_ld16 rfl rfl (HX.out.drawn 1) (by omega) rfl) (exec_ld16 rfl rfl (HX.out.drawn 1) (by omega) rfl) (exec_ld16 rfl rfl (HX.out.drawn 1) (by omega) rfl) (exec_ld16 rfl rfl (HX.out.drawn 1) (by omega) rfl) trivial ?_
                  simp only [Act.put, List.setIfInBounds_toArray, List.set_cons_zero, List.set_cons_succ]
                  refine held_exec 12 77 (.pointer (some ⟨g, o + i, none⟩)) rfl rfl (by kernel_rfl) (by kernel_rfl) (exec_idx16 (i := i) rfl rfl rfl (by omega) (by omega)) trivial ?_
                  simp only [Act.put, List.setIfInBounds_toArray, List.set_cons_zero, List.set_cons_succ]
                  refine held_void 13 rfl rfl (by kernel_rfl) (by kernel_rfl) (exec_st16 rfl rfl rfl (HX.out.drawn 1) (by omega)) trivial ?_
                  refine held_exec 14 78 (.pointer (some ⟨g, o + j, none⟩)) rfl rfl (by kernel_rfl) (by kernel_rfl) (exec_idx16 (i := j) rfl rfl rfl (by omega) (by omega)) trivial ?_
                  simp only [Act.put, List.setIfInBounds_toArray, List.set_cons_zero, List.set_cons_succ]
                  refine held_void 15 rfl rfl (by kernel_rfl) (by kernel_rfl) (exec_st16 rfl rfl rfl ((HX.out.drawn 1).set (by omega) _) (by simp; omega)) trivial ?_
                  refine wpAnyH_done (by kernel_rfl) ?_ _
                  have HN := Lib.hid (HX.out.swapd (i := i) (j := j) (by omega) (by omega))
                  generalize (wc.drew.setCell ⟨g, o + i, none⟩ (.int .u16 x[j]!)).setCell ⟨g, o + j, none⟩ (.int .u16 x[i]!) = W4 at HN
                  have HQ := Lib.hid (HP.out.swap hdi HI.out HJ.out)
                  go_wp2_with fail
                  go_roundw
                  case rel => exact ⟨i + 1, j - 1, swp x i j, by first | rfl | go_num | (congr 1; omega), by first | rfl | go_num | (congr 1; omega), HQ.out, HN.out⟩
                  case measure => simp [numI]; omega
              · have hc := cut_yes HT.out
                clear HT HW
                go_wp2
                go_roundw
                case rel => exact ⟨j - 1, by congr 1; omega, by omega, HP.out.down hc.1 hc.2, HX.out⟩
                case measure => simp [numI]; omega
        · have hc := cut_yes HT.out
          clear HT HW
          go_wp2
          go_roundw
          case rel => exact ⟨i + 1, by go_num, by omega, HP.out.up hc.1 hc.2, HX.out⟩
          case measure => simp [numI]; omega

set_option maxRecDepth 100000 in
set_option maxHeartbeats 16000000 in
theorem part16 {w W : World} {g o cap : Nat} {r : Array Value} {d : Array Int} (hs : Sr w W g o r d) (a b pv : Nat) (h1 : a ≤ pv) (h2 : pv < b) (hb : b ≤ d.size) (hsz : d.size < 1000000) :
    Calls Try.prog 56 #[.slice (some ⟨g, o, none⟩) d.size cap, .int .i64 (a : Int), .int .i64 (b : Int), .int .i64 (pv : Int)] W (PartL w g o r d a b) := by
  have HS := Lib.hid hs
  obtain ⟨p, hpv⟩ : ∃ p, d[pv]! = p := ⟨_, rfl⟩
  obtain ⟨i0, hi0⟩ : ∃ i0, a + 1 = i0 := ⟨_, rfl⟩
  obtain ⟨j0, hj0⟩ : ∃ j0, b - 1 = j0 := ⟨_, rfl⟩
  obtain ⟨x, hx0⟩ : ∃ x, swp d a pv = x := ⟨_, rfl⟩
  have HP0 : Hid (PInv (lwL p) p d x a b i0 j0) := Lib.hid (by have := PInv.start (lwL d[pv]!) h1 h2 hb; rw [hpv, hi0, hj0, hx0] at this; exact this)
  have hi1 : a + 1 ≤ i0 := by omega
  have hi2 : i0 ≤ a + 1 := by omega
  have hj1 : b ≤ j0 + 1 := by omega
  have hj2 : j0 + 1 ≤ b := by omega
  have HX0 := Lib.hid hx0
  clear hs hpv hi0 hj0 hx0
  go_enter Try.func56, Try.ntmps56
  go_wp2_with fail
  refine wp_region_held_drew (S := fun _ => True) (by kernel_rfl) trivial (fun hS => ?_)
  refine held_take 0 12 (.slice (some ⟨g, o, none⟩) d.size cap) rfl rfl (by kernel_rfl) (by kernel_rfl) (by kernel_rfl) (fun _ _ _ h => h) (by kernel_rfl) (fun _ _ => rfl) trivial ?_
  simp only [Act.put, List.setIfInBounds_toArray, List.set_cons_zero, List.set_cons_succ]
  refine held_take 1 13 (.int .i64 (a : Int)) rfl rfl (by kernel_rfl) (by kernel_rfl) (by kernel_rfl) (fun _ _ _ h => h) (by kernel_rfl) (fun _ _ => rfl) trivial ?_
  simp only [Act.put, List.setIfInBounds_toArray, List.set_cons_zero, List.set_cons_succ]
  refine held_take 2 14 (.slice (some ⟨g, o, none⟩) d.size cap) rfl rfl (by kernel_rfl) (by kernel_rfl) (by kernel_rfl) (fun _ _ _ h => h) (by kernel_rfl) (fun _ _ => rfl) trivial ?_
  simp only [Act.put, List.setIfInBounds_toArray, List.set_cons_zero, List.set_cons_succ]
  refine held_take 3 15 (.int .i64 (pv : Int)) rfl rfl (by kernel_rfl) (by kernel_rfl) (by kernel_rfl) (fun _ _ _ h => h) (by kernel_rfl) (fun _ _ => rfl) trivial ?_
  simp only [Act.put, List.setIfInBounds_toArray, List.set_cons_zero, List.set_cons_succ]
  refine held_take 4 16 (.slice (some ⟨g, o, none⟩) d.size cap) rfl rfl (by kernel_rfl) (by kernel_rfl) (by kernel_rfl) (fun _ _ _ h => h) (by kernel_rfl) (fun _ _ => rfl) trivial ?_
  simp only [Act.put, List.setIfInBounds_toArray, List.set_cons_zero, List.set_cons_succ]
  refine held_take 5 17 (.int .i64 (pv : Int)) rfl rfl (by kernel_rfl) (by kernel_rfl) (by kernel_rfl) (fun _ _ _ h => h) (by kernel_rfl) (fun _ _ => rfl) trivial ?_
  simp only [Act.put, List.setIfInBounds_toArray, List.set_cons_zero, List.set_cons_succ]
  refine held_take 6 18 (.pointer (some ⟨g, o + pv, none⟩)) rfl rfl (by kernel_rfl) (by kernel_rfl) (by kernel_rfl) (fun _ _ _ h => h) (by kernel_rfl) (fun _ _ => exec_idx16 (i := pv) rfl rfl rfl (by omega) (by omega)) trivial ?_
  simp only [Act.put, List.setIfInBounds_toArray, List.set_cons_zero, List.set_cons_succ]
  refine held_take 8 20 (.slice (some ⟨g, o, none⟩) d.size cap) rfl rfl (by kernel_rfl) (by kernel_rfl) (by kernel_rfl) (fun _ _ _ h => h) (by kernel_rfl) (fun _ _ => rfl) trivial ?_
  simp only [Act.put, List.setIfInBounds_toArray, List.set_cons_zero, List.set_cons_succ]
  refine held_take 9 21 (.int .i64 (a : Int)) rfl rfl (by kernel_rfl) (by kernel_rfl) (by kernel_rfl) (fun _ _ _ h => h) (by kernel_rfl) (fun _ _ => rfl) trivial ?_
  simp only [Act.put, List.setIfInBounds_toArray, List.set_cons_zero, List.set_cons_succ]
  refine held_take 10 22 (.pointer (some ⟨g, o + a, none⟩)) rfl rfl (by kernel_rfl) (by kernel_rfl) (by kernel_rfl) (fun _ _ _ h => h) (by kernel_rfl) (fun _ _ => exec_idx16 (i := a) rfl rfl rfl (by omega) (by omega)) trivial ?_
  simp only [Act.put, List.setIfInBounds_toArray, List.set_cons_zero, List.set_cons_succ]
  refine held_two 7 11 19 23 (.int .u16 d[pv]!) (.int .u16 d[a]!) (by decide) (by decide) rfl rfl rfl rfl (by kernel_rfl) (by kernel_rfl) (by kernel_rfl) (by kernel_rfl) (by kernel_rfl) (by kernel_rfl) (by kernel_rfl) (exec_ld16 rfl rfl (HS.out.drawn 1) (by omega) rfl) (exec_ld16 rfl rfl (HS.out.drawn 1) (by omega) rfl) (exec_ld16 rfl rfl (HS.out.drawn 1) (by omega) rfl) (exec_ld16 rfl rfl (HS.out.drawn 1) (by omega) rfl) trivial ?_
  simp only [Act.put, List.setIfInBounds_toArray, List.set_cons_zero, List.set_cons_succ]
  refine held_exec 12 24 (.pointer (some ⟨g, o + a, none⟩)) rfl rfl (by kernel_rfl) (by kernel_rfl) (exec_idx16 (i := a) rfl rfl rfl (by omega) (by omega)) trivial ?_
  simp only [Act.put, List.setIfInBounds_toArray, List.set_cons_zero, List.set_cons_succ]
  refine held_void 13 rfl rfl (by kernel_rfl) (by kernel_rfl) (exec_st16 rfl rfl rfl (HS.out.drawn 1) (by omega)) trivial ?_
  refine held_exec 14 25 (.pointer (some ⟨g, o + pv, none⟩)) rfl rfl (by kernel_rfl) (by kernel_rfl) (exec_idx16 (i := pv) rfl rfl rfl (by omega) (by omega)) trivial ?_
  simp only [Act.put, List.setIfInBounds_toArray, List.set_cons_zero, List.set_cons_succ]
  refine held_void 15 rfl rfl (by kernel_rfl) (by kernel_rfl) (exec_st16 rfl rfl rfl ((HS.out.drawn 1).set (by omega) _) (by simp; omega)) trivial ?_
  refine wpAnyH_done (by kernel_rfl) ?_ _
  have HN := Lib.hid (HS.out.swapd (i := a) (j := pv) (by omega) (by omega))
  generalize (W.drew.setCell ⟨g, o + a, none⟩ (.int .u16 d[pv]!)).setCell ⟨g, o + pv, none⟩ (.int .u16 d[a]!) = W1 at HN
  rw [HX0.out] at HN
  have HX := HN
  have HP := HP0
  clear HN HP0
  obtain ⟨G, hG⟩ : ∃ G : Nat → Int, ∀ t, G t = x[t]! := ⟨fun t => x[t]!, fun _ => rfl⟩
  have HG := Lib.hid hG
  clear hG
  go_wp2_with fail
  rw [show ((b : Int) - 1) = (j0 : Int) by omega, show ((a : Int) + 1) = (i0 : Int) by omega]
  go_loopw [10] (Up w g o r d x (lwL p) p a b j0 i0) (fun v _ => b + 1 - (numI v).toNat)
  case atStart => exact ⟨_, rfl, Nat.le_refl _, HP.out, HX.out⟩
  case round =>
    obtain ⟨i, rfl, hmvi, hp, hsx⟩ := hrel
    have ha1 := hp.ai
    have ha2 := hp.ij
    have ha3 := hp.jb
    have ha4 := hp.fits
    have hcw : ∀ t, t < d.size → wr.cell? ⟨g, o + t, none⟩ = some (.int .u16 (G t)) := fun t ht => by rw [HG.out]; exact hsx.cell (by rw [hp.size]; exact ht)
    have HP := Lib.hid hp
    have HX := Lib.hid hsx
    clear hp hsx
    obtain ⟨t, ht⟩ : ∃ t : Bool, (decide (i ≤ j0) && (lwL p x[i]! == true)) = t := ⟨_, rfl⟩
    have HT := Lib.hid ht
    have HW : Hid (lwL p x[i]! = ltInt (G i) (G a)) := Lib.hid (by unfold lwL; rw [← HP.out.piv, ← HG.out, ← HG.out])
    clear ht
    go_upto_region 3 with fail
    go_cut [43] (CutC w g o r x t)
    case first =>
      have hn1 : a < d.size := by omega
      by_cases hij : i ≤ j0
      · have hn2 : i < d.size := by omega
        cases hl : ltInt (G i) (G a)
        · go_quiet (first | (go_at_call 54; refine Calls.quiet_of_same (less16' _ _ _)))
          rw [hl]
          go_wp2
          go_meet
          exact ⟨congrArg Value.bool (by rw [← HT.out, HW.out, hl]; simp [hij]), Lib.hid (HX.out.drawn nq)⟩
        · go_quiet (first | (go_at_call 54; refine Calls.quiet_of_same (less16' _ _ _)))
          rw [hl]
          go_wp2
          go_meet
          exact ⟨congrArg Value.bool (by rw [← HT.out, HW.out, hl]; simp [hij]), Lib.hid (HX.out.drawn nq)⟩
      · go_quiet (first | (go_at_call 54; refine Calls.quiet_of_same (less16' _ _ _)))
        go_wp2
        go_meet
        exact ⟨congrArg Value.bool (by rw [← HT.out]; simp [hij]), Lib.hid (HX.out.drawn nq)⟩
    case rest =>
      obtain ⟨rfl, HX2⟩ := hcut
      clear HX hcw
      have HX := HX2
      clear HX2
      cases t
      · have HFi : Hid (¬ i ≤ j0 ∨ lwL p x[i]! = false) := Lib.hid (cut_no HT.out)
        clear HT HW
        go_wp2_with fail
        go_loopw [11] (Dn w g o r d x (lwL p) p a b i j0) (fun v _ => (numI v).toNat)
        case atStart => exact ⟨_, rfl, Nat.le_refl _, HP.out, HX.out⟩
        case round =>
          obtain ⟨j, rfl, hmvj, hp, hsx⟩ := hrel
          have ha1 := hp.ai
          have ha2 := hp.ij
          have ha3 := hp.jb
          have ha4 := hp.fits
          have hcw : ∀ t, t < d.size → wr.cell? ⟨g, o + t, none⟩ = some (.int .u16 (G t)) := fun t ht => by rw [HG.out]; exact hsx.cell (by rw [hp.size]; exact ht)
          have HP := Lib.hid hp
          have HX := Lib.hid hsx
          clear hp hsx
          obtain ⟨t, ht⟩ : ∃ t : Bool, (decide (i ≤ j) && (lwL p x[j]! == false)) = t := ⟨_, rfl⟩
          have HT := Lib.hid ht
          have HW : Hid (lwL p x[j]! = ltInt (G j) (G a)) := Lib.hid (by unfold lwL; rw [← HP.out.piv, ← HG.out, ← HG.out])
          clear ht
          go_upto_region 5 with fail
          go_cut [60] (CutC w g o r x t)
          case first =>
            have hn1 : a < d.size := by omega
            by_cases hij : i ≤ j
            · have hn2 : j < d.size := by omega
              cases hl : ltInt (G j) (G a)
              · go_quiet (first | (go_at_call 54; refine Calls.quiet_of_same (less16' _ _ _)))
                rw [hl]
                go_wp2
                go_meet
                exact ⟨congrArg Value.bool (by rw [← HT.out, HW.out, hl]; simp [hij]), Lib.hid (HX.out.drawn nq)⟩
              · go_quiet (first | (go_at_call 54; refine Calls.quiet_of_same (less16' _ _ _)))
                rw [hl]
                go_wp2
                go_meet
                exact ⟨congrArg Value.bool (by rw [← HT.out, HW.out, hl]; simp [hij]), Lib.hid (HX.out.drawn nq)⟩
            · go_quiet (first | (go_at_call 54; refine Calls.quiet_of_same (less16' _ _ _)))
              go_wp2
              go_meet
              exact ⟨congrArg Value.bool (by rw [← HT.out]; simp [hij]), Lib.hid (HX.out.drawn nq)⟩
          case rest =>
            obtain ⟨rfl, HX2⟩ := hcut
            clear HX hcw
            have HX := HX2
            clear HX2
            cases t
            · have HFj : Hid (¬ i ≤ j ∨ lwL p x[j]! = true) := Lib.hid (cut_no HT.out)
              clear HT HW
              have hb1 := HP.out.ai
              have hb2 := HP.out.ij
              have hb3 := HP.out.jb
              have hb4 := HP.out.fits
              have hb5 := HP.out.size
              by_cases hfin : j < i
              · have hd : decide ((j : Int) < (i : Int)) = true := by simp; omega
                go_wp2_with fail
                refine wp_region_held_drew (S := fun _ => True) (by kernel_rfl) trivial (fun hS => ?_)
                refine held_take 0 66 (.slice (some ⟨g, o, none⟩) d.size cap) rfl rfl (by kernel_rfl) (by kernel_rfl) (by kernel_rfl) (fun _ _ _ h => h) (by kernel_rfl) (fun _ _ => rfl) trivial ?_
                simp only [Act.put, List.setIfInBounds_toArray, List.set_cons_zero, List.set_cons_succ]
                refine held_take 1 67 (.int .i64 (j : Int)) rfl rfl (by kernel_rfl) (by kernel_rfl) (by kernel_rfl) (fun _ _ _ h => h) (by kernel_rfl) (fun _ _ => rfl) trivial ?_
                simp only [Act.put, List.setIfInBounds_toArray, List.set_cons_zero, List.set_cons_succ]
                refine held_take 2 68 (.slice (some ⟨g, o, none⟩) d.size cap) rfl rfl (by kernel_rfl) (by kernel_rfl) (by kernel_rfl) (fun _ _ _ h => h) (by kernel_rfl) (fun _ _ => rfl) trivial ?_
                simp only [Act.put, List.setIfInBounds_toArray, List.set_cons_zero, List.set_cons_succ]
                refine held_take 3 69 (.int .i64 (a : Int)) rfl rfl (by kernel_rfl) (by kernel_rfl) (by kernel_rfl) (fun _ _ _ h => h) (by kernel_rfl) (fun _ _ => rfl) trivial ?_
                simp only [Act.put, List.setIfInBounds_toArray, List.set_cons_zero, List.set_cons_succ]
                refine held_take 4 70 (.slice (some ⟨g, o, none⟩) d.size cap) rfl rfl (by kernel_rfl) (by kernel_rfl) (by kernel_rfl) (fun _ _ _ h => h) (by kernel_rfl) (fun _ _ => rfl) trivial ?_
                simp only [Act.put, List.setIfInBounds_toArray, List.set_cons_zero, List.set_cons_succ]
                refine held_take 5 71 (.int .i64 (a : Int)) rfl rfl (by kernel_rfl) (by kernel_rfl) (by kernel_rfl) (fun _ _ _ h => h) (by kernel_rfl) (fun _ _ => rfl) trivial ?_
                simp only [Act.put, List.setIfInBounds_toArray, List.set_cons_zero, List.set_cons_succ]
                refine held_take 6 72 (.pointer (some ⟨g, o + a, none⟩)) rfl rfl (by kernel_rfl) (by kernel_rfl) (by kernel_rfl) (fun _ _ _ h => h) (by kernel_rfl) (fun _ _ => exec_idx16 (i := a) rfl rfl rfl (by omega) (by omega)) trivial ?_
                simp only [Act.put, List.setIfInBounds_toArray, List.set_cons_zero, List.set_cons_succ]
                refine held_take 8 74 (.slice (some ⟨g, o, none⟩) d.size cap) rfl rfl (by kernel_rfl) (by kernel_rfl) (by kernel_rfl) (fun _ _ _ h => h) (by kernel_rfl) (fun _ _ => rfl) trivial ?_
                simp only [Act.put, List.setIfInBounds_toArray, List.set_cons_zero, List.set_cons_succ]
                refine held_take 9 75 (.int .i64 (j : Int)) rfl rfl (by kernel_rfl) (by kernel_rfl) (by kernel_rfl) (fun _ _ _ h => h) (by kernel_rfl) (fun _ _ => rfl) trivial ?_
                simp only [Act.put, List.setIfInBounds_toArray, List.set_cons_zero, List.set_cons_succ]
                refine held_take 10 76 (.pointer (some ⟨g, o + j, none⟩)) rfl rfl (by kernel_rfl) (by kernel_rfl) (by kernel_rfl) (fun _ _ _ h => h) (by kernel_rfl) (fun _ _ => exec_idx16 (i := j) rfl rfl rfl (by omega) (by omega)) trivial ?_
                simp only [Act.put, List.setIfInBounds_toArray, List.set_cons_zero, List.set_cons_succ]
                refine held_two 7 11 73 77 (.int .u16 x[a]!) (.int .u16 x[j]!) (by decide) (by decide) rfl rfl rfl rfl (by kernel_rfl) (by kernel_rfl) (by kernel_rfl) (by kernel_rfl) (by kernel_rfl) (by kernel_rfl) (by kernel_rfl) (exec_ld16 rfl rfl (HX.out.drawn 1) (by omega) rfl) (exec_ld16 rfl rfl (HX.out.drawn 1) (by omega) rfl) (exec_ld16 rfl rfl (HX.out.drawn 1) (by omega) rfl) (exec_ld16 rfl rfl (HX.out.drawn 1) (by omega) rfl) trivial ?_
                simp only [Act.put, List.setIfInBounds_toArray, List.set_cons_zero, List.set_cons_succ]
                refine held_exec 12 78 (.pointer (some ⟨g, o + j, none⟩)) rfl rfl (by kernel_rfl) (by kernel_rfl) (exec_idx16 (i := j) rfl rfl rfl (by omega) (by omega)) trivial ?_
                simp only [Act.put, List.setIfInBounds_toArray, List.set_cons_zero, List.set_cons_succ]
                refine held_void 13 rfl rfl (by kernel_rfl) (by kernel_rfl) (exec_st16 rfl rfl rfl (HX.out.drawn 1) (by omega)) trivial ?_
                refine held_exec 14 79 (.pointer (some ⟨g, o + a, none⟩)) rfl rfl (by kernel_rfl) (by kernel_rfl) (exec_idx16 (i := a) rfl rfl rfl (by omega) (by omega)) trivial ?_
                simp only [Act.put, List.setIfInBounds_toArray, List.set_cons_zero, List.set_cons_succ]
                refine held_void 15 rfl rfl (by kernel_rfl) (by kernel_rfl) (exec_st16 rfl rfl rfl ((HX.out.drawn 1).set (by omega) _) (by simp; omega)) trivial ?_
                refine wpAnyH_done (by kernel_rfl) ?_ _
                have HN := Lib.hid (HX.out.swapd (i := j) (j := a) (by omega) (by omega))
                generalize (wc.drew.setCell ⟨g, o + j, none⟩ (.int .u16 x[a]!)).setCell ⟨g, o + a, none⟩ (.int .u16 x[j]!) = W4 at HN
                have hz : (swp x j a).size = d.size := by rw [size_swp]; exact hb5
                go_wp2_with fail
                exact bodyPost_ret (v := .tuple #[.int .i64 (j : Int), .bool true]) (by simp [results, Try.results56, go_sem]) rfl ⟨j, true, swp x j a, rfl, HP.out.final hfin, HN.out⟩
              · have hd : decide ((j : Int) < (i : Int)) = false := by simp; omega
                have hdi : i ≤ j := by omega
                have HI := Lib.hid (HFi.out.resolve_left (by omega))
                have HJ := Lib.hid (HFj.out.resolve_left (by omega))
                go_wp2_with fail
                refine wp_region_held_drew (S := fun _ => True) (by kernel_rfl) trivial (fun hS => ?_)
                refine held_take 0 81 (.slice (some ⟨g, o, none⟩) d.size cap) rfl rfl (by kernel_rfl) (by kernel_rfl) (by kernel_rfl) (fun _ _ _ h => h) (by kernel_rfl) (fun _ _ => rfl) trivial ?_
                simp only [Act.put, List.setIfInBounds_toArray, List.set_cons_zero, List.set_cons_succ]
                refine held_take 1 82 (.int .i64 (i : Int)) rfl rfl (by kernel_rfl) (by kernel_rfl) (by kernel_rfl) (fun _ _ _ h => h) (by kernel_rfl) (fun _ _ => rfl) trivial ?_
                simp only [Act.put, List.setIfInBounds_toArray, List.set_cons_zero, List.set_cons_succ]
                refine held_take 2 83 (.slice (some ⟨g, o, none⟩) d.size cap) rfl rfl (by kernel_rfl) (by kernel_rfl) (by kernel_rfl) (fun _ _ _ h => h) (by kernel_rfl) (fun _ _ => rfl) trivial ?_
                simp only [Act.put, List.setIfInBounds_toArray, List.set_cons_zero, List.set_cons_succ]
                refine held_take 3 84 (.int .i64 (j : Int)) rfl rfl (by kernel_rfl) (by kernel_rfl) (by kernel_rfl) (fun _ _ _ h => h) (by kernel_rfl) (fun _ _ => rfl) trivial ?_
                simp only [Act.put, List.setIfInBounds_toArray, List.set_cons_zero, List.set_cons_succ]
                refine held_take 4 85 (.slice (some ⟨g, o, none⟩) d.size cap) rfl rfl (by kernel_rfl) (by kernel_rfl) (by kernel_rfl) (fun _ _ _ h => h) (by kernel_rfl) (fun _ _ => rfl) trivial ?_
                simp only [Act.put, List.setIfInBounds_toArray, List.set_cons_zero, List.set_cons_succ]
                refine held_take 5 86 (.int .i64 (j : Int)) rfl rfl (by kernel_rfl) (by kernel_rfl) (by kernel_rfl) (fun _ _ _ h => h) (by kernel_rfl) (fun _ _ => rfl) trivial ?_
                simp only [Act.put, List.setIfInBounds_toArray, List.set_cons_zero, List.set_cons_succ]
                refine held_take 6 87 (.pointer (some ⟨g, o + j, none⟩)) rfl rfl (by kernel_rfl) (by kernel_rfl) (by kernel_rfl) (fun _ _ _ h => h) (by kernel_rfl) (fun _ _ => exec_idx16 (i := j) rfl rfl rfl (by omega) (by omega)) trivial ?_
                simp only [Act.put, List.setIfInBounds_toArray, List.set_cons_zero, List.set_cons_succ]
                refine held_take 8 89 (.slice (some ⟨g, o, none⟩) d.size cap) rfl rfl (by kernel_rfl) (by kernel_rfl) (by kernel_rfl) (fun _ _ _ h => h) (by kernel_rfl) (fun _ _ => rfl) trivial ?_
                simp only [Act.put, List.setIfInBounds_toArray, List.set_cons_zero, List.set_cons_succ]
                refine held_take 9 90 (.int .i64 (i : Int)) rfl rfl (by kernel_rfl) (by kernel_rfl) (by kernel_rfl) (fun _ _ _ h => h) (by kernel_rfl) (fun _ _ => rfl) trivial ?_
                simp only [Act.put, List.setIfInBounds_toArray, List.set_cons_zero, List.set_cons_succ]
                refine held_take 10 91 (.pointer (some ⟨g, o + i, none⟩)) rfl rfl (by kernel_rfl) (by kernel_rfl) (by kernel_rfl) (fun _ _ _ h => h) (by kernel_rfl) (fun _ _ => exec_idx16 (i := i) rfl rfl rfl (by omega) (by omega)) trivial ?_
                simp only [Act.put, List.setIfInBounds_toArray, List.set_cons_zero, List.set_cons_succ]
                refine held_two 7 11 88 92 (.int .u16 x[j]!) (.int .u16 x[i]!) (by decide) (by decide) rfl rfl rfl rfl (by kernel_rfl) (by kernel_rfl) (by kernel_rfl) (by kernel_rfl) (by kernel_rfl) (by kernel_rfl) (by kernel_rfl) (exec_ld16 rfl rfl (HX.out.drawn 1) (by omega) rfl) (exec_ld16 rfl rfl (HX.out.drawn 1) (by omega) rfl) (exec_ld16 rfl rfl (HX.out.drawn 1) (by omega) rfl) (exec_ld16 rfl rfl (HX.out.drawn 1) (by omega) rfl) trivial ?_
                simp only [Act.put, List.setIfInBounds_toArray, List.set_cons_zero, List.set_cons_succ]
                refine held_exec 12 93 (.pointer (some ⟨g, o + i, none⟩)) rfl rfl (by kernel_rfl) (by kernel_rfl) (exec_idx16 (i := i) rfl rfl rfl (by omega) (by omega)) trivial ?_
                simp only [Act.put, List.setIfInBounds_toArray, List.set_cons_zero, List.set_cons_succ]
                refine held_void 13 rfl rfl (by kernel_rfl) (by kernel_rfl) (exec_st16 rfl rfl rfl (HX.out.drawn 1) (by omega)) trivial ?_
                refine held_exec 14 94 (.pointer (some ⟨g, o + j, none⟩)) rfl rfl (by kernel_rfl) (by kernel_rfl) (exec_idx16 (i := j) rfl rfl rfl (by omega) (by omega)) trivial ?_
                simp only [Act.put, List.setIfInBounds_toArray, List.set_cons_zero, List.set_cons_succ]
                refine held_void 15 rfl rfl (by kernel_rfl) (by kernel_rfl) (exec_st16 rfl rfl rfl ((HX.out.drawn 1).set (by omega) _) (by simp; omega)) trivial ?_
                refine wpAnyH_done (by kernel_rfl) ?_ _
                have HN := Lib.hid (HX.out.swapd (i := i) (j := j) (by omega) (by omega))
                generalize (wc.drew.setCell ⟨g, o + i, none⟩ (.int .u16 x[j]!)).setCell ⟨g, o + j, none⟩ (.int .u16 x[i]!) = W4 at HN
                have HQ := Lib.hid (HP.out.swap hdi HI.out HJ.out)
                have HS4 := HN
                clear HFi HFj HI HJ hd HP HX hb5 HN
                go_wp2_with fail
                go_loopw [10, 11] (Both2 w g o r d (lwL p) p a b) (fun v u _ => (numI u + 1 - numI v).toNat)
                case atStart => exact ⟨i + 1, j - 1, swp x i j, by first | rfl | go_num | (congr 1; omega), by first | rfl | go_num | (congr 1; omega), HQ.out, HS4.out⟩
                case round =>
                  clear HG
                  clear G
                  obtain ⟨i0, j0, x, rfl, rfl, hp0, hsx0⟩ := hrel
                  have HP := Lib.hid hp0
                  have HX := Lib.hid hsx0
                  clear hp0 hsx0
                  obtain ⟨G, hG⟩ : ∃ G : Nat → Int, ∀ t, G t = x[t]! := ⟨fun t => x[t]!, fun _ => rfl⟩
                  have HG := Lib.hid hG
                  clear hG
                  go_wp2_with fail
                  go_loopw [10] (Up w g o r d x (lwL p) p a b j0 i0) (fun v _ => b + 1 - (numI v).toNat)
                  case atStart => exact ⟨_, rfl, Nat.le_refl _, HP.out, HX.out⟩
                  case round =>
                    obtain ⟨i, rfl, hmvi, hp, hsx⟩ := hrel
                    have ha1 := hp.ai
                    have ha2 := hp.ij
                    have ha3 := hp.jb
                    have ha4 := hp.fits
                    have hcw : ∀ t, t < d.size → wr.cell? ⟨g, o + t, none⟩ = some (.int .u16 (G t)) := fun t ht => by rw [HG.out]; exact hsx.cell (by rw [hp.size]; exact ht)
                    have HP := Lib.hid hp
                    have HX := Lib.hid hsx
                    clear hp hsx
                    obtain ⟨t, ht⟩ : ∃ t : Bool, (decide (i ≤ j0) && (lwL p x[i]! == true)) = t := ⟨_, rfl⟩
                    have HT := Lib.hid ht
                    have HW : Hid (lwL p x[i]! = ltInt (G i) (G a)) := Lib.hid (by unfold lwL; rw [← HP.out.piv, ← HG.out, ← HG.out])
                    clear ht
                    go_upto_region 13 with fail
                    go_cut [112] (CutC w g o r x t)
                    case first =>
                      have hn1 : a < d.size := by omega
                      by_cases hij : i ≤ j0
                      · have hn2 : i < d.size := by omega
                        cases hl : ltInt (G i) (G a)
                        · go_quiet (first | (go_at_call 54; refine Calls.quiet_of_same (less16' _ _ _)))
                          rw [hl]
                          go_wp2
                          go_meet
                          exact ⟨congrArg Value.bool (by rw [← HT.out, HW.out, hl]; simp [hij]), Lib.hid (HX.out.drawn nq)⟩
                        · go_quiet (first | (go_at_call 54; refine Calls.quiet_of_same (less16' _ _ _)))
                          rw [hl]
                          go_wp2
                          go_meet
                          exact ⟨congrArg Value.bool (by rw [← HT.out, HW.out, hl]; simp [hij]), Lib.hid (HX.out.drawn nq)⟩
                      · go_quiet (first | (go_at_call 54; refine Calls.quiet_of_same (less16' _ _ _)))
                        go_wp2
                        go_meet
                        exact ⟨congrArg Value.bool (by rw [← HT.out]; simp [hij]), Lib.hid (HX.out.drawn nq)⟩
                    case rest =>
                      obtain ⟨rfl, HX2⟩ := hcut
                      clear HX hcw
                      have HX := HX2
                      clear HX2
                      cases t
                      · have HFi : Hid (¬ i ≤ j0 ∨ lwL p x[i]! = false) := Lib.hid (cut_no HT.out)
                        clear HT HW
                        go_wp2_with fail
                        go_loopw [11] (Dn w g o r d x (lwL p) p a b i j0) (fun v _ => (numI v).toNat)
                        case atStart => exact ⟨_, rfl, Nat.le_refl _, HP.out, HX.out⟩
                        case round =>
                          obtain ⟨j, rfl, hmvj, hp, hsx⟩ := hrel
                          have ha1 := hp.ai
                          have ha2 := hp.ij
                          have ha3 := hp.jb
                          have ha4 := hp.fits
                          have hcw : ∀ t, t < d.size → wr.cell? ⟨g, o + t, none⟩ = some (.int .u16 (G t)) := fun t ht => by rw [HG.out]; exact hsx.cell (by rw [hp.size]; exact ht)
                          have HP := Lib.hid hp
                          have HX := Lib.hid hsx
                          clear hp hsx
                          obtain ⟨t, ht⟩ : ∃ t : Bool, (decide (i ≤ j) && (lwL p x[j]! == false)) = t := ⟨_, rfl⟩
                          have HT := Lib.hid ht
                          have HW : Hid (lwL p x[j]! = ltInt (G j) (G a)) := Lib.hid (by unfold lwL; rw [← HP.out.piv, ← HG.out, ← HG.out])
                          clear ht
                          go_upto_region 15 with fail
                          go_cut [129] (CutC w g o r x t)
                          case first =>
                            have hn1 : a < d.size := by omega
                            by_cases hij : i ≤ j
                            · have hn2 : j < d.size := by omega
                              cases hl : ltInt (G j) (G a)
                              · go_quiet (first | (go_at_call 54; refine Calls.quiet_of_same (less16' _ _ _)))
                                rw [hl]
                                go_wp2
                                go_meet
                                exact ⟨congrArg Value.bool (by rw [← HT.out, HW.out, hl]; simp [hij]), Lib.hid (HX.out.drawn nq)⟩
                              · go_quiet (first | (go_at_call 54; refine Calls.quiet_of_same (less16' _ _ _)))
                                rw [hl]
                                go_wp2
                                go_meet
                                exact ⟨congrArg Value.bool (by rw [← HT.out, HW.out, hl]; simp [hij]), Lib.hid (HX.out.drawn nq)⟩
                            · go_quiet (first | (go_at_call 54; refine Calls.quiet_of_same (less16' _ _ _)))
                              go_wp2
                              go_meet
                              exact ⟨congrArg Value.bool (by rw [← HT.out]; simp [hij]), Lib.hid (HX.out.drawn nq)⟩
                          case rest =>
                            obtain ⟨rfl, HX2⟩ := hcut
                            clear HX hcw
                            have HX := HX2
                            clear HX2
                            cases t
                            · have HFj : Hid (¬ i ≤ j ∨ lwL p x[j]! = true) := Lib.hid (cut_no HT.out)
                              clear HT HW
                              have hb1 := HP.out.ai
                              have hb2 := HP.out.ij
                              have hb3 := HP.out.jb
                              have hb4 := HP.out.fits
                              have hb5 := HP.out.size
                              by_cases hfin : j < i
                              · have hd : decide ((j : Int) < (i : Int)) = true := by simp; omega
                                go_wp2_with fail
                                refine wp_region_held_drew (S := fun _ => True) (by kernel_rfl) trivial (fun hS => ?_)
                                refine held_take 0 153 (.slice (some ⟨g, o, none⟩) d.size cap) rfl rfl (by kernel_rfl) (by kernel_rfl) (by kernel_rfl) (fun _ _ _ h => h) (by kernel_rfl) (fun _ _ => rfl) trivial ?_
                                simp only [Act.put, List.setIfInBounds_toArray, List.set_cons_zero, List.set_cons_succ]
                                refine held_take 1 154 (.int .i64 (j : Int)) rfl rfl (by kernel_rfl) (by kernel_rfl) (by kernel_rfl) (fun _ _ _ h => h) (by kernel_rfl) (fun _ _ => rfl) trivial ?_
                                simp only [Act.put, List.setIfInBounds_toArray, List.set_cons_zero, List.set_cons_succ]
                                refine held_take 2 155 (.slice (some ⟨g, o, none⟩) d.size cap) rfl rfl (by kernel_rfl) (by kernel_rfl) (by kernel_rfl) (fun _ _ _ h => h) (by kernel_rfl) (fun _ _ => rfl) trivial ?_
                                simp only [Act.put, List.setIfInBounds_toArray, List.set_cons_zero, List.set_cons_succ]
                                refine held_take 3 156 (.int .i64 (a : Int)) rfl rfl (by kernel_rfl) (by kernel_rfl) (by kernel_rfl) (fun _ _ _ h => h) (by kernel_rfl) (fun _ _ => rfl) trivial ?_
                                simp only [Act.put, List.setIfInBounds_toArray, List.set_cons_zero, List.set_cons_succ]
                                refine held_take 4 157 (.slice (some ⟨g, o, none⟩) d.size cap) rfl rfl (by kernel_rfl) (by kernel_rfl) (by kernel_rfl) (fun _ _ _ h => h) (by kernel_rfl) (fun _ _ => rfl) trivial ?_
                                simp only [Act.put, List.setIfInBounds_toArray, List.set_cons_zero, List.set_cons_succ]
                                refine held_take 5 158 (.int .i64 (a : Int)) rfl rfl (by kernel_rfl) (by kernel_rfl) (by kernel_rfl) (fun _ _ _ h => h) (by kernel_rfl) (fun _ _ => rfl) trivial ?_
                                simp only [Act.put, List.setIfInBounds_toArray, List.set_cons_zero, List.set_cons_succ]
                                refine held_take 6 159 (.pointer (some ⟨g, o + a, none⟩)) rfl rfl (by kernel_rfl) (by kernel_rfl) (by kernel_rfl) (fun _ _ _ h => h) (by kernel_rfl) (fun _ _ => exec_idx16 (i := a) rfl rfl rfl (by omega) (by omega)) trivial ?_
                                simp only [Act.put, List.setIfInBounds_toArray, List.set_cons_zero, List.set_cons_succ]
                                refine held_take 8 161 (.slice (some ⟨g, o, none⟩) d.size cap) rfl rfl (by kernel_rfl) (by kernel_rfl) (by kernel_rfl) (fun _ _ _ h => h) (by kernel_rfl) (fun _ _ => rfl) trivial ?_
                                simp only [Act.put, List.setIfInBounds_toArray, List.set_cons_zero, List.set_cons_succ]
                                refine held_take 9 162 (.int .i64 (j : Int)) rfl rfl (by kernel_rfl) (by kernel_rfl) (by kernel_rfl) (fun _ _ _ h => h) (by kernel_rfl) (fun _ _ => rfl) trivial ?_
                                simp only [Act.put, List.setIfInBounds_toArray, List.set_cons_zero, List.set_cons_succ]
                                refine held_take 10 163 (.pointer (some ⟨g, o + j, none⟩)) rfl rfl (by kernel_rfl) (by kernel_rfl) (by kernel_rfl) (fun _ _ _ h => h) (by kernel_rfl) (fun _ _ => exec_idx16 (i := j) rfl rfl rfl (by omega) (by omega)) trivial ?_
                                simp only [Act.put, List.setIfInBounds_toArray, List.set_cons_zero, List.set_cons_succ]
                                refine held_two 7 11 160 164 (.int .u16 x[a]!) (.int .u16 x[j]!) (by decide) (by decide) rfl rfl rfl rfl (by kernel_rfl) (by kernel_rfl) (by kernel_rfl) (by kernel_rfl) (by kernel_rfl) (by kernel_rfl) (by kernel_rfl) (exec_ld16 rfl rfl (HX.out.drawn 1) (by omega) rfl) (exec_ld16 rfl rfl (HX.out.drawn 1) (by omega) rfl) (exec_ld16 rfl rfl (HX.out.drawn 1) (by omega) rfl) (exec_ld16 rfl rfl (HX.out.drawn 1) (by omega) rfl) trivial ?_
                                simp only [Act.put, List.setIfInBounds_toArray, List.set_cons_zero, List.set_cons_succ]
                                refine held_exec 12 165 (.pointer (some ⟨g, o + j, none⟩)) rfl rfl (by kernel_rfl) (by kernel_rfl) (exec_idx16 (i := j) rfl rfl rfl (by omega) (by omega)) trivial ?_
                                simp only [Act.put, List.setIfInBounds_toArray, List.set_cons_zero, List.set_cons_succ]
                                refine held_void 13 rfl rfl (by kernel_rfl) (by kernel_rfl) (exec_st16 rfl rfl rfl (HX.out.drawn 1) (by omega)) trivial ?_
                                refine held_exec 14 166 (.pointer (some ⟨g, o + a, none⟩)) rfl rfl (by kernel_rfl) (by kernel_rfl) (exec_idx16 (i := a) rfl rfl rfl (by omega) (by omega)) trivial ?_
                                simp only [Act.put, List.setIfInBounds_toArray, List.set_cons_zero, List.set_cons_succ]
                                refine held_void 15 rfl rfl (by kernel_rfl) (by kernel_rfl) (exec_st16 rfl rfl rfl ((HX.out.drawn 1).set (by omega) _) (by simp; omega)) trivial ?_
                                refine wpAnyH_done (by kernel_rfl) ?_ _
                                have HN := Lib.hid (HX.out.swapd (i := j) (j := a) (by omega) (by omega))
                                generalize (wc.drew.setCell ⟨g, o + j, none⟩ (.int .u16 x[a]!)).setCell ⟨g, o + a, none⟩ (.int .u16 x[j]!) = W4 at HN
                                have hz : (swp x j a).size = d.size := by rw [size_swp]; exact hb5
                                go_wp2_with fail
                                exact bodyPost_ret (v := .tuple #[.int .i64 (j : Int), .bool false]) (by simp [results, Try.results56, go_sem]) rfl ⟨j, false, swp x j a, rfl, HP.out.final hfin, HN.out⟩
                              · have hd : decide ((j : Int) < (i : Int)) = false := by simp; omega
                                have hdi : i ≤ j := by omega
                                have HI := Lib.hid (HFi.out.resolve_left (by omega))
                                have HJ := Lib.hid (HFj.out.resolve_left (by omega))
                                go_wp2_with fail
                                refine wp_region_held_drew (S := fun _ => True) (by kernel_rfl) trivial (fun hS => ?_)
                                refine held_take 0 135 (.slice (some ⟨g, o, none⟩) d.size cap) rfl rfl (by kernel_rfl) (by kernel_rfl) (by kernel_rfl) (fun _ _ _ h => h) (by kernel_rfl) (fun _ _ => rfl) trivial ?_
                                simp only [Act.put, List.setIfInBounds_toArray, List.set_cons_zero, List.set_cons_succ]
                                refine held_take 1 136 (.int .i64 (i : Int)) rfl rfl (by kernel_rfl) (by kernel_rfl) (by kernel_rfl) (fun _ _ _ h => h) (by kernel_rfl) (fun _ _ => rfl) trivial ?_
                                simp only [Act.put, List.setIfInBounds_toArray, List.set_cons_zero, List.set_cons_succ]
                                refine held_take 2 137 (.slice (some ⟨g, o, none⟩) d.size cap) rfl rfl (by kernel_rfl) (by kernel_rfl) (by kernel_rfl) (fun _ _ _ h => h) (by kernel_rfl) (fun _ _ => rfl) trivial ?_
                                simp only [Act.put, List.setIfInBounds_toArray, List.set_cons_zero, List.set_cons_succ]
                                refine held_take 3 138 (.int .i64 (j : Int)) rfl rfl (by kernel_rfl) (by kernel_rfl) (by kernel_rfl) (fun _ _ _ h => h) (by kernel_rfl) (fun _ _ => rfl) trivial ?_
                                simp only [Act.put, List.setIfInBounds_toArray, List.set_cons_zero, List.set_cons_succ]
                                refine held_take 4 139 (.slice (some ⟨g, o, none⟩) d.size cap) rfl rfl (by kernel_rfl) (by kernel_rfl) (by kernel_rfl) (fun _ _ _ h => h) (by kernel_rfl) (fun _ _ => rfl) trivial ?_
                                simp only [Act.put, List.setIfInBounds_toArray, List.set_cons_zero, List.set_cons_succ]
                                refine held_take 5 140 (.int .i64 (j : Int)) rfl rfl (by kernel_rfl) (by kernel_rfl) (by kernel_rfl) (fun _ _ _ h => h) (by kernel_rfl) (fun _ _ => rfl) trivial ?_
                                simp only [Act.put, List.setIfInBounds_toArray, List.set_cons_zero, List.set_cons_succ]
                                refine held_take 6 141 (.pointer (some ⟨g, o + j, none⟩)) rfl rfl (by kernel_rfl) (by kernel_rfl) (by kernel_rfl) (fun _ _ _ h => h) (by kernel_rfl) (fun _ _ => exec_idx16 (i := j) rfl rfl rfl (by omega) (by omega)) trivial ?_
                                simp only [Act.put, List.setIfInBounds_toArray, List.set_cons_zero, List.set_cons_succ]
                                refine held_take 8 143 (.slice (some ⟨g, o, none⟩) d.size cap) rfl rfl (by kernel_rfl) (by kernel_rfl) (by kernel_rfl) (fun _ _ _ h => h) (by kernel_rfl) (fun _ _ => rfl) trivial ?_
                                simp only [Act.put, List.setIfInBounds_toArray, List.set_cons_zero, List.set_cons_succ]
                                refine held_take 9 144 (.int .i64 (i : Int)) rfl rfl (by kernel_rfl) (by kernel_rfl) (by kernel_rfl) (fun _ _ _ h => h) (by kernel_rfl) (fun _ _ => rfl) trivial ?_
                                simp only [Act.put, List.setIfInBounds_toArray, List.set_cons_zero, List.set_cons_succ]
                                refine held_take 10 145 (.pointer (some ⟨g, o + i, none⟩)) rfl rfl (by kernel_rfl) (by kernel_rfl) (by kernel_rfl) (fun _ _ _ h => h) (by kernel_rfl) (fun _ _ => exec_idx16 (i := i) rfl rfl rfl (by omega) (by omega)) trivial ?_
                                simp only [Act.put, List.setIfInBounds_toArray, List.set_cons_zero, List.set_cons_succ]
                                refine held_two 7 11 142 146 (.int .u16 x[j]!) (.int .u16 x[i]!) (by decide) (by decide) rfl rfl rfl rfl (by kernel_rfl) (by kernel_rfl) (by kernel_rfl) (by kernel_rfl) (by kernel_rfl) (by kernel_rfl) (by kernel_rfl) (exec_ld16 rfl rfl (HX.out.drawn 1) (by omega) rfl) (exec_ld16 rfl rfl (HX.out.drawn 1) (by omega) rfl) (exec_ld16 rfl rfl (HX.out.drawn 1) (by omega) rfl) (exec_ld16 rfl rfl (HX.out.drawn 1) (by omega) rfl) trivial ?_
                                simp only [Act.put, List.setIfInBounds_toArray, List.set_cons_zero, List.set_cons_succ]
                                refine held_exec 12 147 (.pointer (some ⟨g, o + i, none⟩)) rfl rfl (by kernel_rfl) (by kernel_rfl) (exec_idx16 (i := i) rfl rfl rfl (by omega) (by omega)) trivial ?_
                                simp only [Act.put, List.setIfInBounds_toArray, List.set_cons_zero, List.set_cons_succ]
                                refine held_void 13 rfl rfl (by kernel_rfl) (by kernel_rfl) (exec_st16 rfl rfl rfl (HX.out.drawn 1) (by omega)) trivial ?_
                                refine held_exec 14 148 (.pointer (some ⟨g, o + j, none⟩)) rfl rfl (by kernel_rfl) (by kernel_rfl) (exec_idx16 (i := j) rfl rfl rfl (by omega) (by omega)) trivial ?_
                                simp only [Act.put, List.setIfInBounds_toArray, List.set_cons_zero, List.set_cons_succ]
                                refine held_void 15 rfl rfl (by kernel_rfl) (by kernel_rfl) (exec_st16 rfl rfl rfl ((HX.out.drawn 1).set (by omega) _) (by simp; omega)) trivial ?_
                                refine wpAnyH_done (by kernel_rfl) ?_ _
                                have HN := Lib.hid (HX.out.swapd (i := i) (j := j) (by omega) (by omega))
                                generalize (wc.drew.setCell ⟨g, o + i, none⟩ (.int .u16 x[j]!)).setCell ⟨g, o + j, none⟩ (.int .u16 x[i]!) = W4 at HN
                                have HQ := Lib.hid (HP.out.swap hdi HI.out HJ.out)
                                go_wp2_with fail
                                go_roundw
                                case rel => exact ⟨i + 1, j - 1, swp x i j, by first | rfl | go_num | (congr 1; omega), by first | rfl | go_num | (congr 1; omega), HQ.out, HN.out⟩
                                case measure => simp [numI]; omega
                            · have hc := cut_yes HT.out
                              clear HT HW
                              go_wp2
                              go_roundw
                              case rel => exact ⟨j - 1, by congr 1; omega, by omega, HP.out.down hc.1 hc.2, HX.out⟩
                              case measure => simp [numI]; omega
                      · have hc := cut_yes HT.out
                        clear HT HW
                        go_wp2
                        go_roundw
                        case rel => exact ⟨i + 1, by go_num, by omega, HP.out.up hc.1 hc.2, HX.out⟩
                        case measure => simp [numI]; omega
            · have hc := cut_yes HT.out
              clear HT HW
              go_wp2
              go_roundw
              case rel => exact ⟨j - 1, by congr 1; omega, by omega, HP.out.down hc.1 hc.2, HX.out⟩
              case measure => simp [numI]; omega
      · have hc := cut_yes HT.out
        clear HT HW
        go_wp2
        go_roundw
        case rel => exact ⟨i + 1, by go_num, by omega, HP.out.up hc.1 hc.2, HX.out⟩
        case measure => simp [numI]; omega

end Go.Proofs.Ytmibfbbkjejkmaa
