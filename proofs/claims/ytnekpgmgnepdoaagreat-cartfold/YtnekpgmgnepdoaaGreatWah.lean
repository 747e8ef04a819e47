import Derived.Sort.LotD2
import Derived.Test.YtnekpgmgnepdoaaGreatWag
section
namespace Go.Proofs.YtnekpgmgnepdoaaGreat
open Go.RowKit
open Go.Sort (swp ltInt size_swp PermIn SortedIn)
def lwL (p y : Int) : Bool := ltInt y p
def lwE (p y : Int) : Bool := !ltInt p y
def Up (w : World) (g o : Nat) (r : Array Value) (d x : Array Int) (lw : Int → Bool) (p : Int) (a b j i0 : Nat) (v : Value) (W : World) : Prop :=
 ∃ i : Nat, v = .int .i64 (i : Int) ∧ i0 ≤ i ∧ PInv lw p d x a b i j ∧ Sr w W g o r x
def Dn (w : World) (g o : Nat) (r : Array Value) (d x : Array Int) (lw : Int → Bool) (p : Int) (a b i j0 : Nat) (v : Value) (W : World) : Prop :=
 ∃ j : Nat, v = .int .i64 (j : Int) ∧ j ≤ j0 ∧ PInv lw p d x a b i j ∧ Sr w W g o r x
def Both2 (w : World) (g o : Nat) (r : Array Value) (d : Array Int) (lw : Int → Bool) (p : Int) (a b : Nat) (v u : Value) (W : World) : Prop :=
 ∃ (i j : Nat) (x : Array Int), v = .int .i64 (i : Int) ∧ u = .int .i64 (j : Int) ∧ PInv lw p d x a b i j ∧ Sr w W g o r x
def CutC (w : World) (g o : Nat) (r : Array Value) (x : Array Int) (t : Bool) (c : Value) (W : World) : Prop := c = .bool t ∧ Hid (Sr w W g o r x)
theorem cut_no {i j : Nat} {l u : Bool} (h : (decide (i ≤ j) && (l == u)) = false) : ¬ i ≤ j ∨ l = !u := by
 cases l <;> cases u <;> simp_all
theorem cut_yes {i j : Nat} {l u : Bool} (h : (decide (i ≤ j) && (l == u)) = true) : i ≤ j ∧ l = u := by
 simpa using h
def PartE (w : World) (g o : Nat) (r : Array Value) (d : Array Int) (a b : Nat) (p : Int) (e : Ending) (W' : World) : Prop :=
 ∃ (m : Nat) (x : Array Int), e = .returned (.int .i64 (m : Int)) ∧ PartEq d x a b m p ∧ Sr w W' g o r x
def PartL (w : World) (g o : Nat) (r : Array Value) (d : Array Int) (a b : Nat) (e : Ending) (W' : World) : Prop :=
 ∃ (m : Nat) (q : Bool) (x : Array Int), e = .returned (.tuple #[.int .i64 (m : Int), .bool q]) ∧ Parted d x a b m ∧ Sr w W' g o r x
set_option maxRecDepth 100000 in
set_option maxHeartbeats 8000000 in
theorem parteq16 {w W : World} {g o cap : Nat} {r : Array Value} {d : Array Int} (hs : Sr w W g o r d) (a b pv : Nat) (p : Int) (hpv : Hid (d[pv]! = p)) (h1 : a ≤ pv) (h2 : pv < b) (hb : b ≤ d.size) (hsz : d.size < 1000000) :
  Calls Tryz.prog 173 #[.slice (some ⟨g, o, none⟩) d.size cap, .int .i64 (a : Int), .int .i64 (b : Int), .int .i64 (pv : Int)] W (PartE w g o r d a b p) := by
 have HS := Lib.hid hs
 have HP0 : Hid (PInv (lwE p) p d (swp d a pv) a b (a + 1) (b - 1)) := Lib.hid (by have := PInv.start (lwE d[pv]!) h1 h2 hb; rw [hpv.out] at this; exact this)
 clear hs
 go_enter Tryz.func173, Tryz.ntmps173
 go_wp2_with fail
 refine wp_region_held_drew (S := fun _ => True) (by kernel_rfl) trivial (fun hS => ?_)
 refine held_tk 0 11 (.slice (some ⟨g, o, none⟩) d.size cap) rfl rfl (by kernel_rfl) (fun _ _ _ h => h) (fun _ _ => rfl) trivial ?_
 simp only [Act.put, ap1, ap2, ap3]
 refine held_tk 1 12 (.int .i64 (a : Int)) rfl rfl (by kernel_rfl) (fun _ _ _ h => h) (fun _ _ => rfl) trivial ?_
 simp only [Act.put, ap1, ap2, ap3]
 refine held_tk 2 13 (.slice (some ⟨g, o, none⟩) d.size cap) rfl rfl (by kernel_rfl) (fun _ _ _ h => h) (fun _ _ => rfl) trivial ?_
 simp only [Act.put, ap1, ap2, ap3]
 refine held_tk 3 14 (.int .i64 (pv : Int)) rfl rfl (by kernel_rfl) (fun _ _ _ h => h) (fun _ _ => rfl) trivial ?_
 simp only [Act.put, ap1, ap2, ap3]
 refine held_tk 4 15 (.slice (some ⟨g, o, none⟩) d.size cap) rfl rfl (by kernel_rfl) (fun _ _ _ h => h) (fun _ _ => rfl) trivial ?_
 simp only [Act.put, ap1, ap2, ap3]
 refine held_tk 5 16 (.int .i64 (pv : Int)) rfl rfl (by kernel_rfl) (fun _ _ _ h => h) (fun _ _ => rfl) trivial ?_
 simp only [Act.put, ap1, ap2, ap3]
 refine held_tk 6 17 (.pointer (some ⟨g, o + pv, none⟩)) rfl rfl (by kernel_rfl) (fun _ _ _ h => h) (fun _ _ => exec_idx16 (i := pv) rfl rfl rfl (by omega) (by omega)) trivial ?_
 simp only [Act.put, ap1, ap2, ap3]
 refine held_tk 8 19 (.slice (some ⟨g, o, none⟩) d.size cap) rfl rfl (by kernel_rfl) (fun _ _ _ h => h) (fun _ _ => rfl) trivial ?_
 simp only [Act.put, ap1, ap2, ap3]
 refine held_tk 9 20 (.int .i64 (a : Int)) rfl rfl (by kernel_rfl) (fun _ _ _ h => h) (fun _ _ => rfl) trivial ?_
 simp only [Act.put, ap1, ap2, ap3]
 refine held_tk 10 21 (.pointer (some ⟨g, o + a, none⟩)) rfl rfl (by kernel_rfl) (fun _ _ _ h => h) (fun _ _ => exec_idx16 (i := a) rfl rfl rfl (by omega) (by omega)) trivial ?_
 simp only [Act.put, ap1, ap2, ap3]
 refine held_two 7 11 18 22 (.int .u16 d[pv]!) (.int .u16 d[a]!) (by decide) (by decide) rfl rfl rfl rfl (by kernel_rfl) (by kernel_rfl) (by kernel_rfl) (by kernel_rfl) (by kernel_rfl) (by kernel_rfl) (by kernel_rfl) (exec_ld16 rfl rfl (HS.out.drawn 1) (by omega) rfl) (exec_ld16 rfl rfl (HS.out.drawn 1) (by omega) rfl) (exec_ld16 rfl rfl (HS.out.drawn 1) (by omega) rfl) (exec_ld16 rfl rfl (HS.out.drawn 1) (by omega) rfl) trivial ?_
 simp only [Act.put, ap1, ap2, ap3]
 refine held_exec 12 23 (.pointer (some ⟨g, o + a, none⟩)) rfl rfl (by kernel_rfl) (by kernel_rfl) (exec_idx16 (i := a) rfl rfl rfl (by omega) (by omega)) trivial ?_
 simp only [Act.put, ap1, ap2, ap3]
 refine held_void 13 rfl rfl (by kernel_rfl) (by kernel_rfl) (exec_st16 rfl rfl rfl (HS.out.drawn 1) (by omega)) trivial ?_
 refine held_exec 14 24 (.pointer (some ⟨g, o + pv, none⟩)) rfl rfl (by kernel_rfl) (by kernel_rfl) (exec_idx16 (i := pv) rfl rfl rfl (by omega) (by omega)) trivial ?_
 simp only [Act.put, ap1, ap2, ap3]
 refine held_void 15 rfl rfl (by kernel_rfl) (by kernel_rfl) (exec_st16 rfl rfl rfl ((HS.out.drawn 1).set (by omega) _) (by simp; omega)) trivial ?_
 refine wpAnyH_done (by kernel_rfl) ?_ _
 have HN := Lib.hid (HS.out.swapd (i := a) (j := pv) (by omega) (by omega))
 generalize (W.drew.setCell ⟨g, o + a, none⟩ (.int .u16 d[pv]!)).setCell ⟨g, o + pv, none⟩ (.int .u16 d[a]!) = W1 at HN
 go_wp2_with fail
 go_loopw [9, 10] (Both2 w g o r d (lwE p) p a b) (fun v u _ => (numI u + 1 - numI v).toNat)
 case atStart => exact ⟨a + 1, b - 1, _, by go_num, by congr 1; omega, HP0.out, HN.out⟩
 case round =>
  obtain ⟨i0, j0, x, rfl, rfl, hp0, hsx0⟩ := hrel
  have HP := Lib.hid hp0
  have HX := Lib.hid hsx0
  clear hp0 hsx0
  obtain ⟨G, hG⟩ : ∃ G : Nat → Int, ∀ t, G t = x[t]! := ⟨fun t => x[t]!, fun _ => rfl⟩
  have HG := Lib.hid hG
  clear hG
  go_wp2_with fail
  go_loopw [9] (Up w g o r d x (lwE p) p a b j0 i0) (fun v _ => b + 1 - (numI v).toNat)
  case atStart => exact ⟨_, rfl, Nat.le_refl _, HP.out, HX.out⟩
  case round =>
   obtain ⟨i, rfl, hmvi, hp, hsx⟩ := hrel
   have ha1 := hp.ai
   have ha2 := hp.ij
   have ha3 := hp.jb
   have ha4 := hp.fits
   have hcw : ∀ t, t < d.size → wr.cell? ⟨g, o + t, none⟩ = some (.int .u16 (G t)) := fun t ht => by rw [HG.out]; exact hsx.cell (by rw [hp.size]; exact ht)
   have HP := Lib.hid hp
   have HX := Lib.hid hsx
   clear hp hsx
   obtain ⟨t, ht⟩ : ∃ t : Bool, (decide (i ≤ j0) && (lwE p x[i]! == true)) = t := ⟨_, rfl⟩
   have HT := Lib.hid ht
   have HW : Hid (lwE p x[i]! = !ltInt (G a) (G i)) := Lib.hid (by unfold lwE; rw [← HP.out.piv, ← HG.out, ← HG.out])
   clear ht
   go_upto_region 3 with fail
   go_cut [43] (CutC w g o r x t)
   case first =>
    have hn1 : a < d.size := by omega
    by_cases hij : i ≤ j0
    ·have hn2 : i < d.size := by omega
     cases hl : ltInt (G a) (G i)
     ·go_quiet (first | (go_at_call 172; refine Calls.quiet_of_same (less16' _ _ _)))
      rw [hl]
      go_wp2
      go_meet
      exact ⟨congrArg Value.bool (by rw [← HT.out, HW.out, hl]; simp [hij]), Lib.hid (HX.out.drawn nq)⟩
     ·go_quiet (first | (go_at_call 172; refine Calls.quiet_of_same (less16' _ _ _)))
      rw [hl]
      go_wp2
      go_meet
      exact ⟨congrArg Value.bool (by rw [← HT.out, HW.out, hl]; simp [hij]), Lib.hid (HX.out.drawn nq)⟩
    ·go_quiet (first | (go_at_call 172; refine Calls.quiet_of_same (less16' _ _ _)))
     go_wp2
     go_meet
     exact ⟨congrArg Value.bool (by rw [← HT.out]; simp [hij]), Lib.hid (HX.out.drawn nq)⟩
   case rest =>
    obtain ⟨rfl, HX2⟩ := hcut
    clear HX hcw
    have HX := HX2
    clear HX2
    cases t
    ·have HFi : Hid (¬ i ≤ j0 ∨ lwE p x[i]! = false) := Lib.hid (cut_no HT.out)
     clear HT HW
     go_wp2_with fail
     go_loopw [10] (Dn w g o r d x (lwE p) p a b i j0) (fun v _ => (numI v).toNat)
     case atStart => exact ⟨_, rfl, Nat.le_refl _, HP.out, HX.out⟩
     case round =>
      obtain ⟨j, rfl, hmvj, hp, hsx⟩ := hrel
      have ha1 := hp.ai
      have ha2 := hp.ij
      have ha3 := hp.jb
      have ha4 := hp.fits
      have hcw : ∀ t, t < d.size → wr.cell? ⟨g, o + t, none⟩ = some (.int .u16 (G t)) := fun t ht => by rw [HG.out]; exact hsx.cell (by rw [hp.size]; exact ht)
      have HP := Lib.hid hp
      have HX := Lib.hid hsx
      clear hp hsx
      obtain ⟨t, ht⟩ : ∃ t : Bool, (decide (i ≤ j) && (lwE p x[j]! == false)) = t := ⟨_, rfl⟩
      have HT := Lib.hid ht
      have HW : Hid (lwE p x[j]! = !ltInt (G a) (G j)) := Lib.hid (by unfold lwE; rw [← HP.out.piv, ← HG.out, ← HG.out])
      clear ht
      go_upto_region 5 with fail
      go_cut [59] (CutC w g o r x t)
      case first =>
       have hn1 : a < d.size := by omega
       by_cases hij : i ≤ j
       ·have hn2 : j < d.size := by omega
        cases hl : ltInt (G a) (G j)
        ·go_quiet (first | (go_at_call 172; refine Calls.quiet_of_same (less16' _ _ _)))
         rw [hl]
         go_wp2
         go_meet
         exact ⟨congrArg Value.bool (by rw [← HT.out, HW.out, hl]; simp [hij]), Lib.hid (HX.out.drawn nq)⟩
        ·go_quiet (first | (go_at_call 172; refine Calls.quiet_of_same (less16' _ _ _)))
         rw [hl]
         go_wp2
         go_meet
         exact ⟨congrArg Value.bool (by rw [← HT.out, HW.out, hl]; simp [hij]), Lib.hid (HX.out.drawn nq)⟩
       ·go_quiet (first | (go_at_call 172; refine Calls.quiet_of_same (less16' _ _ _)))
        go_wp2
        go_meet
        exact ⟨congrArg Value.bool (by rw [← HT.out]; simp [hij]), Lib.hid (HX.out.drawn nq)⟩
      case rest =>
       obtain ⟨rfl, HX2⟩ := hcut
       clear HX hcw
       have HX := HX2
       clear HX2
       cases t
       ·have HFj : Hid (¬ i ≤ j ∨ lwE p x[j]! = true) := Lib.hid (cut_no HT.out)
        clear HT HW
        have hb1 := HP.out.ai
        have hb2 := HP.out.ij
        have hb3 := HP.out.jb
        have hb4 := HP.out.fits
        have hb5 := HP.out.size
        by_cases hfin : j < i
        ·have hd : decide ((j : Int) < (i : Int)) = true := by simp; omega
         go_wp2_with fail
         go_ret
         exact ⟨i, x, rfl, HP.out.ends hfin, HX.out⟩
        ·have hd : decide ((j : Int) < (i : Int)) = false := by simp; omega
         have hdi : i ≤ j := by omega
         have HI := Lib.hid (HFi.out.resolve_left (by omega))
         have HJ := Lib.hid (HFj.out.resolve_left (by omega))
         go_wp2_with fail
         refine wp_region_held_drew (S := fun _ => True) (by kernel_rfl) trivial (fun hS => ?_)
         refine held_tk 0 65 (.slice (some ⟨g, o, none⟩) d.size cap) rfl rfl (by kernel_rfl) (fun _ _ _ h => h) (fun _ _ => rfl) trivial ?_
         simp only [Act.put, ap1, ap2, ap3]
         refine held_tk 1 66 (.int .i64 (i : Int)) rfl rfl (by kernel_rfl) (fun _ _ _ h => h) (fun _ _ => rfl) trivial ?_
         simp only [Act.put, ap1, ap2, ap3]
         refine held_tk 2 67 (.slice (some ⟨g, o, none⟩) d.size cap) rfl rfl (by kernel_rfl) (fun _ _ _ h => h) (fun _ _ => rfl) trivial ?_
         simp only [Act.put, ap1, ap2, ap3]
         refine held_tk 3 68 (.int .i64 (j : Int)) rfl rfl (by kernel_rfl) (fun _ _ _ h => h) (fun _ _ => rfl) trivial ?_
         simp only [Act.put, ap1, ap2, ap3]
         refine held_tk 4 69 (.slice (some ⟨g, o, none⟩) d.size cap) rfl rfl (by kernel_rfl) (fun _ _ _ h => h) (fun _ _ => rfl) trivial ?_
         simp only [Act.put, ap1, ap2, ap3]
         refine held_tk 5 70 (.int .i64 (j : Int)) rfl rfl (by kernel_rfl) (fun _ _ _ h => h) (fun _ _ => rfl) trivial ?_
         simp only [Act.put, ap1, ap2, ap3]
         refine held_tk 6 71 (.pointer (some ⟨g, o + j, none⟩)) rfl rfl (by kernel_rfl) (fun _ _ _ h => h) (fun _ _ => exec_idx16 (i := j) rfl rfl rfl (by omega) (by omega)) trivial ?_
         simp only [Act.put, ap1, ap2, ap3]
         refine held_tk 8 73 (.slice (some ⟨g, o, none⟩) d.size cap) rfl rfl (by kernel_rfl) (fun _ _ _ h => h) (fun _ _ => rfl) trivial ?_
         simp only [Act.put, ap1, ap2, ap3]
         refine held_tk 9 74 (.int .i64 (i : Int)) rfl rfl (by kernel_rfl) (fun _ _ _ h => h) (fun _ _ => rfl) trivial ?_
         simp only [Act.put, ap1, ap2, ap3]
         refine held_tk 10 75 (.pointer (some ⟨g, o + i, none⟩)) rfl rfl (by kernel_rfl) (fun _ _ _ h => h) (fun _ _ => exec_idx16 (i := i) rfl rfl rfl (by omega) (by omega)) trivial ?_
         simp only [Act.put, ap1, ap2, ap3]
         refine held_two 7 11 72 76 (.int .u16 x[j]!) (.int .u16 x[i]!) (by decide) (by decide) rfl rfl rfl rfl (by kernel_rfl) (by kernel_rfl) (by kernel_rfl) (by kernel_rfl) (by kernel_rfl) (by kernel_rfl) (by kernel_rfl) (exec_ld16 rfl rfl (HX.out.drawn 1) (by omega) rfl) (exec_ld16 rfl rfl (HX.out.drawn 1) (by omega) rfl) (exec_ld16 rfl rfl (HX.out.drawn 1) (by omega) rfl) (exec_ld16 rfl rfl (HX.out.drawn 1) (by omega) rfl) trivial ?_
         simp only [Act.put, ap1, ap2, ap3]
         refine held_exec 12 77 (.pointer (some ⟨g, o + i, none⟩)) rfl rfl (by kernel_rfl) (by kernel_rfl) (exec_idx16 (i := i) rfl rfl rfl (by omega) (by omega)) trivial ?_
         simp only [Act.put, ap1, ap2, ap3]
         refine held_void 13 rfl rfl (by kernel_rfl) (by kernel_rfl) (exec_st16 rfl rfl rfl (HX.out.drawn 1) (by omega)) trivial ?_
         refine held_exec 14 78 (.pointer (some ⟨g, o + j, none⟩)) rfl rfl (by kernel_rfl) (by kernel_rfl) (exec_idx16 (i := j) rfl rfl rfl (by omega) (by omega)) trivial ?_
         simp only [Act.put, ap1, ap2, ap3]
         refine held_void 15 rfl rfl (by kernel_rfl) (by kernel_rfl) (exec_st16 rfl rfl rfl ((HX.out.drawn 1).set (by omega) _) (by simp; omega)) trivial ?_
         refine wpAnyH_done (by kernel_rfl) ?_ _
         have HN := Lib.hid (HX.out.swapd (i := i) (j := j) (by omega) (by omega))
         generalize (wc.drew.setCell ⟨g, o + i, none⟩ (.int .u16 x[j]!)).setCell ⟨g, o + j, none⟩ (.int .u16 x[i]!) = W4 at HN
         have HQ := Lib.hid (HP.out.swap hdi HI.out HJ.out)
         go_wp2_with fail
         go_roundw
         case rel => exact ⟨i + 1, j - 1, swp x i j, by first | rfl | go_num | (congr 1; omega), by first | rfl | go_num | (congr 1; omega), HQ.out, HN.out⟩
         case measure => simp [numI]; omega
       ·have hc := cut_yes HT.out
        clear HT HW
        go_wp2
        go_roundw
        case rel => exact ⟨j - 1, by congr 1; omega, by omega, HP.out.down hc.1 hc.2, HX.out⟩
        case measure => simp [numI]; omega
    ·have hc := cut_yes HT.out
     clear HT HW
     go_wp2
     go_roundw
     case rel => exact ⟨i + 1, by go_num, by omega, HP.out.up hc.1 hc.2, HX.out⟩
     case measure => simp [numI]; omega
set_option maxRecDepth 100000 in
set_option maxHeartbeats 16000000 in
theorem part16 {w W : World} {g o cap : Nat} {r : Array Value} {d : Array Int} (hs : Sr w W g o r d) (a b pv : Nat) (h1 : a ≤ pv) (h2 : pv < b) (hb : b ≤ d.size) (hsz : d.size < 1000000) :
  Calls Tryz.prog 174 #[.slice (some ⟨g, o, none⟩) d.size cap, .int .i64 (a : Int), .int .i64 (b : Int), .int .i64 (pv : Int)] W (PartL w g o r d a b) := by
 have HS := Lib.hid hs
 obtain ⟨p, hpv⟩ : ∃ p, d[pv]! = p := ⟨_, rfl⟩
 obtain ⟨i0, hi0⟩ : ∃ i0, a + 1 = i0 := ⟨_, rfl⟩
 obtain ⟨j0, hj0⟩ : ∃ j0, b - 1 = j0 := ⟨_, rfl⟩
 obtain ⟨x, hx0⟩ : ∃ x, swp d a pv = x := ⟨_, rfl⟩
 have HP0 : Hid (PInv (lwL p) p d x a b i0 j0) := Lib.hid (by have := PInv.start (lwL d[pv]!) h1 h2 hb; rw [hpv, hi0, hj0, hx0] at this; exact this)
 have hi1 : a + 1 ≤ i0 := by omega
 have hi2 : i0 ≤ a + 1 := by omega
 have hj1 : b ≤ j0 + 1 := by omega
 have hj2 : j0 + 1 ≤ b := by omega
 have HX0 := Lib.hid hx0
 clear hs hpv hi0 hj0 hx0
 go_enter Tryz.func174, Tryz.ntmps174
 go_wp2_with fail
 refine wp_region_held_drew (S := fun _ => True) (by kernel_rfl) trivial (fun hS => ?_)
 refine held_tk 0 12 (.slice (some ⟨g, o, none⟩) d.size cap) rfl rfl (by kernel_rfl) (fun _ _ _ h => h) (fun _ _ => rfl) trivial ?_
 simp only [Act.put, ap1, ap2, ap3]
 refine held_tk 1 13 (.int .i64 (a : Int)) rfl rfl (by kernel_rfl) (fun _ _ _ h => h) (fun _ _ => rfl) trivial ?_
 simp only [Act.put, ap1, ap2, ap3]
 refine held_tk 2 14 (.slice (some ⟨g, o, none⟩) d.size cap) rfl rfl (by kernel_rfl) (fun _ _ _ h => h) (fun _ _ => rfl) trivial ?_
 simp only [Act.put, ap1, ap2, ap3]
 refine held_tk 3 15 (.int .i64 (pv : Int)) rfl rfl (by kernel_rfl) (fun _ _ _ h => h) (fun _ _ => rfl) trivial ?_
 simp only [Act.put, ap1, ap2, ap3]
 refine held_tk 4 16 (.slice (some ⟨g, o, none⟩) d.size cap) rfl rfl (by kernel_rfl) (fun _ _ _ h => h) (fun _ _ => rfl) trivial ?_
 simp only [Act.put, ap1, ap2, ap3]
 refine held_tk 5 17 (.int .i64 (pv : Int)) rfl rfl (by kernel_rfl) (fun _ _ _ h => h) (fun _ _ => rfl) trivial ?_
 simp only [Act.put, ap1, ap2, ap3]
 refine held_tk 6 18 (.pointer (some ⟨g, o + pv, none⟩)) rfl rfl (by kernel_rfl) (fun _ _ _ h => h) (fun _ _ => exec_idx16 (i := pv) rfl rfl rfl (by omega) (by omega)) trivial ?_
 simp only [Act.put, ap1, ap2, ap3]
 refine held_tk 8 20 (.slice (some ⟨g, o, none⟩) d.size cap) rfl rfl (by kernel_rfl) (fun _ _ _ h => h) (fun _ _ => rfl) trivial ?_
 simp only [Act.put, ap1, ap2, ap3]
 refine held_tk 9 21 (.int .i64 (a : Int)) rfl rfl (by kernel_rfl) (fun _ _ _ h => h) (fun _ _ => rfl) trivial ?_
 simp only [Act.put, ap1, ap2, ap3]
 refine held_tk 10 22 (.pointer (some ⟨g, o + a, none⟩)) rfl rfl (by kernel_rfl) (fun _ _ _ h => h) (fun _ _ => exec_idx16 (i := a) rfl rfl rfl (by omega) (by omega)) trivial ?_
 simp only [Act.put, ap1, ap2, ap3]
 refine held_two 7 11 19 23 (.int .u16 d[pv]!) (.int .u16 d[a]!) (by decide) (by decide) rfl rfl rfl rfl (by kernel_rfl) (by kernel_rfl) (by kernel_rfl) (by kernel_rfl) (by kernel_rfl) (by kernel_rfl) (by kernel_rfl) (exec_ld16 rfl rfl (HS.out.drawn 1) (by omega) rfl) (exec_ld16 rfl rfl (HS.out.drawn 1) (by omega) rfl) (exec_ld16 rfl rfl (HS.out.drawn 1) (by omega) rfl) (exec_ld16 rfl rfl (HS.out.drawn 1) (by omega) rfl) trivial ?_
 simp only [Act.put, ap1, ap2, ap3]
 refine held_exec 12 24 (.pointer (some ⟨g, o + a, none⟩)) rfl rfl (by kernel_rfl) (by kernel_rfl) (exec_idx16 (i := a) rfl rfl rfl (by omega) (by omega)) trivial ?_
 simp only [Act.put, ap1, ap2, ap3]
 refine held_void 13 rfl rfl (by kernel_rfl) (by kernel_rfl) (exec_st16 rfl rfl rfl (HS.out.drawn 1) (by omega)) trivial ?_
 refine held_exec 14 25 (.pointer (some ⟨g, o + pv, none⟩)) rfl rfl (by kernel_rfl) (by kernel_rfl) (exec_idx16 (i := pv) rfl rfl rfl (by omega) (by omega)) trivial ?_
 simp only [Act.put, ap1, ap2, ap3]
 refine held_void 15 rfl rfl (by kernel_rfl) (by kernel_rfl) (exec_st16 rfl rfl rfl ((HS.out.drawn 1).set (by omega) _) (by simp; omega)) trivial ?_
 refine wpAnyH_done (by kernel_rfl) ?_ _
 have HN := Lib.hid (HS.out.swapd (i := a) (j := pv) (by omega) (by omega))
 generalize (W.drew.setCell ⟨g, o + a, none⟩ (.int .u16 d[pv]!)).setCell ⟨g, o + pv, none⟩ (.int .u16 d[a]!) = W1 at HN
 rw [HX0.out] at HN
 have HX := HN
 have HP := HP0
 clear HN HP0
 obtain ⟨G, hG⟩ : ∃ G : Nat → Int, ∀ t, G t = x[t]! := ⟨fun t => x[t]!, fun _ => rfl⟩
 have HG := Lib.hid hG
 clear hG
 go_wp2_with fail
 rw [show ((b : Int) - 1) = (j0 : Int) by omega, show ((a : Int) + 1) = (i0 : Int) by omega]
 go_loopw [10] (Up w g o r d x (lwL p) p a b j0 i0) (fun v _ => b + 1 - (numI v).toNat)
 case atStart => exact ⟨_, rfl, Nat.le_refl _, HP.out, HX.out⟩
 case round =>
  obtain ⟨i, rfl, hmvi, hp, hsx⟩ := hrel
  have ha1 := hp.ai
  have ha2 := hp.ij
  have ha3 := hp.jb
  have ha4 := hp.fits
  have hcw : ∀ t, t < d.size → wr.cell? ⟨g, o + t, none⟩ = some (.int .u16 (G t)) := fun t ht => by rw [HG.out]; exact hsx.cell (by rw [hp.size]; exact ht)
  have HP := Lib.hid hp
  have HX := Lib.hid hsx
  clear hp hsx
  obtain ⟨t, ht⟩ : ∃ t : Bool, (decide (i ≤ j0) && (lwL p x[i]! == true)) = t := ⟨_, rfl⟩
  have HT := Lib.hid ht
  have HW : Hid (lwL p x[i]! = ltInt (G i) (G a)) := Lib.hid (by unfold lwL; rw [← HP.out.piv, ← HG.out, ← HG.out])
  clear ht
  go_upto_region 3 with fail
  go_cut [43] (CutC w g o r x t)
  case first =>
   have hn1 : a < d.size := by omega
   by_cases hij : i ≤ j0
   ·have hn2 : i < d.size := by omega
    cases hl : ltInt (G i) (G a)
    ·go_quiet (first | (go_at_call 172; refine Calls.quiet_of_same (less16' _ _ _)))
     rw [hl]
     go_wp2
     go_meet
     exact ⟨congrArg Value.bool (by rw [← HT.out, HW.out, hl]; simp [hij]), Lib.hid (HX.out.drawn nq)⟩
    ·go_quiet (first | (go_at_call 172; refine Calls.quiet_of_same (less16' _ _ _)))
     rw [hl]
     go_wp2
     go_meet
     exact ⟨congrArg Value.bool (by rw [← HT.out, HW.out, hl]; simp [hij]), Lib.hid (HX.out.drawn nq)⟩
   ·go_quiet (first | (go_at_call 172; refine Calls.quiet_of_same (less16' _ _ _)))
    go_wp2
    go_meet
    exact ⟨congrArg Value.bool (by rw [← HT.out]; simp [hij]), Lib.hid (HX.out.drawn nq)⟩
  case rest =>
   obtain ⟨rfl, HX2⟩ := hcut
   clear HX hcw
   have HX := HX2
   clear HX2
   cases t
   ·have HFi : Hid (¬ i ≤ j0 ∨ lwL p x[i]! = false) := Lib.hid (cut_no HT.out)
    clear HT HW
    go_wp2_with fail
    go_loopw [11] (Dn w g o r d x (lwL p) p a b i j0) (fun v _ => (numI v).toNat)
    case atStart => exact ⟨_, rfl, Nat.le_refl _, HP.out, HX.out⟩
    case round =>
     obtain ⟨j, rfl, hmvj, hp, hsx⟩ := hrel
     have ha1 := hp.ai
     have ha2 := hp.ij
     have ha3 := hp.jb
     have ha4 := hp.fits
     have hcw : ∀ t, t < d.size → wr.cell? ⟨g, o + t, none⟩ = some (.int .u16 (G t)) := fun t ht => by rw [HG.out]; exact hsx.cell (by rw [hp.size]; exact ht)
     have HP := Lib.hid hp
     have HX := Lib.hid hsx
     clear hp hsx
     obtain ⟨t, ht⟩ : ∃ t : Bool, (decide (i ≤ j) && (lwL p x[j]! == false)) = t := ⟨_, rfl⟩
     have HT := Lib.hid ht
     have HW : Hid (lwL p x[j]! = ltInt (G j) (G a)) := Lib.hid (by unfold lwL; rw [← HP.out.piv, ← HG.out, ← HG.out])
     clear ht
     go_upto_region 5 with fail
     go_cut [60] (CutC w g o r x t)
     case first =>
      have hn1 : a < d.size := by omega
      by_cases hij : i ≤ j
      ·have hn2 : j < d.size := by omega
       cases hl : ltInt (G j) (G a)
       ·go_quiet (first | (go_at_call 172; refine Calls.quiet_of_same (less16' _ _ _)))
        rw [hl]
        go_wp2
        go_meet
        exact ⟨congrArg Value.bool (by rw [← HT.out, HW.out, hl]; simp [hij]), Lib.hid (HX.out.drawn nq)⟩
       ·go_quiet (first | (go_at_call 172; refine Calls.quiet_of_same (less16' _ _ _)))
        rw [hl]
        go_wp2
        go_meet
        exact ⟨congrArg Value.bool (by rw [← HT.out, HW.out, hl]; simp [hij]), Lib.hid (HX.out.drawn nq)⟩
      ·go_quiet (first | (go_at_call 172; refine Calls.quiet_of_same (less16' _ _ _)))
       go_wp2
       go_meet
       exact ⟨congrArg Value.bool (by rw [← HT.out]; simp [hij]), Lib.hid (HX.out.drawn nq)⟩
     case rest =>
      obtain ⟨rfl, HX2⟩ := hcut
      clear HX hcw
      have HX := HX2
      clear HX2
      cases t
      ·have HFj : Hid (¬ i ≤ j ∨ lwL p x[j]! = true) := Lib.hid (cut_no HT.out)
       clear HT HW
       have hb1 := HP.out.ai
       have hb2 := HP.out.ij
       have hb3 := HP.out.jb
       have hb4 := HP.out.fits
       have hb5 := HP.out.size
       by_cases hfin : j < i
       ·have hd : decide ((j : Int) < (i : Int)) = true := by simp; omega
        go_wp2_with fail
        refine wp_region_held_drew (S := fun _ => True) (by kernel_rfl) trivial (fun hS => ?_)
        refine held_tk 0 66 (.slice (some ⟨g, o, none⟩) d.size cap) rfl rfl (by kernel_rfl) (fun _ _ _ h => h) (fun _ _ => rfl) trivial ?_
        simp only [Act.put, ap1, ap2, ap3]
        refine held_tk 1 67 (.int .i64 (j : Int)) rfl rfl (by kernel_rfl) (fun _ _ _ h => h) (fun _ _ => rfl) trivial ?_
        simp only [Act.put, ap1, ap2, ap3]
        refine held_tk 2 68 (.slice (some ⟨g, o, none⟩) d.size cap) rfl rfl (by kernel_rfl) (fun _ _ _ h => h) (fun _ _ => rfl) trivial ?_
        simp only [Act.put, ap1, ap2, ap3]
        refine held_tk 3 69 (.int .i64 (a : Int)) rfl rfl (by kernel_rfl) (fun _ _ _ h => h) (fun _ _ => rfl) trivial ?_
        simp only [Act.put, ap1, ap2, ap3]
        refine held_tk 4 70 (.slice (some ⟨g, o, none⟩) d.size cap) rfl rfl (by kernel_rfl) (fun _ _ _ h => h) (fun _ _ => rfl) trivial ?_
        simp only [Act.put, ap1, ap2, ap3]
        refine held_tk 5 71 (.int .i64 (a : Int)) rfl rfl (by kernel_rfl) (fun _ _ _ h => h) (fun _ _ => rfl) trivial ?_
        simp only [Act.put, ap1, ap2, ap3]
        refine held_tk 6 72 (.pointer (some ⟨g, o + a, none⟩)) rfl rfl (by kernel_rfl) (fun _ _ _ h => h) (fun _ _ => exec_idx16 (i := a) rfl rfl rfl (by omega) (by omega)) trivial ?_
        simp only [Act.put, ap1, ap2, ap3]
        refine held_tk 8 74 (.slice (some ⟨g, o, none⟩) d.size cap) rfl rfl (by kernel_rfl) (fun _ _ _ h => h) (fun _ _ => rfl) trivial ?_
        simp only [Act.put, ap1, ap2, ap3]
        refine held_tk 9 75 (.int .i64 (j : Int)) rfl rfl (by kernel_rfl) (fun _ _ _ h => h) (fun _ _ => rfl) trivial ?_
        simp only [Act.put, ap1, ap2, ap3]
        refine held_tk 10 76 (.pointer (some ⟨g, o + j, none⟩)) rfl rfl (by kernel_rfl) (fun _ _ _ h => h) (fun _ _ => exec_idx16 (i := j) rfl rfl rfl (by omega) (by omega)) trivial ?_
        simp only [Act.put, ap1, ap2, ap3]
        refine held_two 7 11 73 77 (.int .u16 x[a]!) (.int .u16 x[j]!) (by decide) (by decide) rfl rfl rfl rfl (by kernel_rfl) (by kernel_rfl) (by kernel_rfl) (by kernel_rfl) (by kernel_rfl) (by kernel_rfl) (by kernel_rfl) (exec_ld16 rfl rfl (HX.out.drawn 1) (by omega) rfl) (exec_ld16 rfl rfl (HX.out.drawn 1) (by omega) rfl) (exec_ld16 rfl rfl (HX.out.drawn 1) (by omega) rfl) (exec_ld16 rfl rfl (HX.out.drawn 1) (by omega) rfl) trivial ?_
        simp only [Act.put, ap1, ap2, ap3]
        refine held_exec 12 78 (.pointer (some ⟨g, o + j, none⟩)) rfl rfl (by kernel_rfl) (by kernel_rfl) (exec_idx16 (i := j) rfl rfl rfl (by omega) (by omega)) trivial ?_
        simp only [Act.put, ap1, ap2, ap3]
        refine held_void 13 rfl rfl (by kernel_rfl) (by kernel_rfl) (exec_st16 rfl rfl rfl (HX.out.drawn 1) (by omega)) trivial ?_
        refine held_exec 14 79 (.pointer (some ⟨g, o + a, none⟩)) rfl rfl (by kernel_rfl) (by kernel_rfl) (exec_idx16 (i := a) rfl rfl rfl (by omega) (by omega)) trivial ?_
        simp only [Act.put, ap1, ap2, ap3]
        refine held_void 15 rfl rfl (by kernel_rfl) (by kernel_rfl) (exec_st16 rfl rfl rfl ((HX.out.drawn 1).set (by omega) _) (by simp; omega)) trivial ?_
        refine wpAnyH_done (by kernel_rfl) ?_ _
        have HN := Lib.hid (HX.out.swapd (i := j) (j := a) (by omega) (by omega))
        generalize (wc.drew.setCell ⟨g, o + j, none⟩ (.int .u16 x[a]!)).setCell ⟨g, o + a, none⟩ (.int .u16 x[j]!) = W4 at HN
        have hz : (swp x j a).size = d.size := by rw [size_swp]; exact hb5
        go_wp2_with fail
        exact bodyPost_ret (v := .tuple #[.int .i64 (j : Int), .bool true]) (by simp [results, Tryz.results174, go_sem]) rfl ⟨j, true, swp x j a, rfl, HP.out.final hfin, HN.out⟩
       ·have hd : decide ((j : Int) < (i : Int)) = false := by simp; omega
        have hdi : i ≤ j := by omega
        have HI := Lib.hid (HFi.out.resolve_left (by omega))
        have HJ := Lib.hid (HFj.out.resolve_left (by omega))
        go_wp2_with fail
        refine wp_region_held_drew (S := fun _ => True) (by kernel_rfl) trivial (fun hS => ?_)
        refine held_tk 0 81 (.slice (some ⟨g, o, none⟩) d.size cap) rfl rfl (by kernel_rfl) (fun _ _ _ h => h) (fun _ _ => rfl) trivial ?_
        simp only [Act.put, ap1, ap2, ap3]
        refine held_tk 1 82 (.int .i64 (i : Int)) rfl rfl (by kernel_rfl) (fun _ _ _ h => h) (fun _ _ => rfl) trivial ?_
        simp only [Act.put, ap1, ap2, ap3]
        refine held_tk 2 83 (.slice (some ⟨g, o, none⟩) d.size cap) rfl rfl (by kernel_rfl) (fun _ _ _ h => h) (fun _ _ => rfl) trivial ?_
        simp only [Act.put, ap1, ap2, ap3]
        refine held_tk 3 84 (.int .i64 (j : Int)) rfl rfl (by kernel_rfl) (fun _ _ _ h => h) (fun _ _ => rfl) trivial ?_
        simp only [Act.put, ap1, ap2, ap3]
        refine held_tk 4 85 (.slice (some ⟨g, o, none⟩) d.size cap) rfl rfl (by kernel_rfl) (fun _ _ _ h => h) (fun _ _ => rfl) trivial ?_
        simp only [Act.put, ap1, ap2, ap3]
        refine held_tk 5 86 (.int .i64 (j : Int)) rfl rfl (by kernel_rfl) (fun _ _ _ h => h) (fun _ _ => rfl) trivial ?_
        simp only [Act.put, ap1, ap2, ap3]
        refine held_tk 6 87 (.pointer (some ⟨g, o + j, none⟩)) rfl rfl (by kernel_rfl) (fun _ _ _ h => h) (fun _ _ => exec_idx16 (i := j) rfl rfl rfl (by omega) (by omega)) trivial ?_
        simp only [Act.put, ap1, ap2, ap3]
        refine held_tk 8 89 (.slice (some ⟨g, o, none⟩) d.size cap) rfl rfl (by kernel_rfl) (fun _ _ _ h => h) (fun _ _ => rfl) trivial ?_
        simp only [Act.put, ap1, ap2, ap3]
        refine held_tk 9 90 (.int .i64 (i : Int)) rfl rfl (by kernel_rfl) (fun _ _ _ h => h) (fun _ _ => rfl) trivial ?_
        simp only [Act.put, ap1, ap2, ap3]
        refine held_tk 10 91 (.pointer (some ⟨g, o + i, none⟩)) rfl rfl (by kernel_rfl) (fun _ _ _ h => h) (fun _ _ => exec_idx16 (i := i) rfl rfl rfl (by omega) (by omega)) trivial ?_
        simp only [Act.put, ap1, ap2, ap3]
        refine held_two 7 11 88 92 (.int .u16 x[j]!) (.int .u16 x[i]!) (by decide) (by decide) rfl rfl rfl rfl (by kernel_rfl) (by kernel_rfl) (by kernel_rfl) (by kernel_rfl) (by kernel_rfl) (by kernel_rfl) (by kernel_rfl) (exec_ld16 rfl rfl (HX.out.drawn 1) (by omega) rfl) (exec_ld16 rfl rfl (HX.out.drawn 1) (by omega) rfl) (exec_ld16 rfl rfl (HX.out.drawn 1) (by omega) rfl) (exec_ld16 rfl rfl (HX.out.drawn 1) (by omega) rfl) trivial ?_
        simp only [Act.put, ap1, ap2, ap3]
        refine held_exec 12 93 (.pointer (some ⟨g, o + i, none⟩)) rfl rfl (by kernel_rfl) (by kernel_rfl) (exec_idx16 (i := i) rfl rfl rfl (by omega) (by omega)) trivial ?_
        simp only [Act.put, ap1, ap2, ap3]
        refine held_void 13 rfl rfl (by kernel_rfl) (by kernel_rfl) (exec_st16 rfl rfl rfl (HX.out.drawn 1) (by omega)) trivial ?_
        refine held_exec 14 94 (.pointer (some ⟨g, o + j, none⟩)) rfl rfl (by kernel_rfl) (by kernel_rfl) (exec_idx16 (i := j) rfl rfl rfl (by omega) (by omega)) trivial ?_
        simp only [Act.put, ap1, ap2, ap3]
        refine held_void 15 rfl rfl (by kernel_rfl) (by kernel_rfl) (exec_st16 rfl rfl rfl ((HX.out.drawn 1).set (by omega) _) (by simp; omega)) trivial ?_
        refine wpAnyH_done (by kernel_rfl) ?_ _
        have HN := Lib.hid (HX.out.swapd (i := i) (j := j) (by omega) (by omega))
        generalize (wc.drew.setCell ⟨g, o + i, none⟩ (.int .u16 x[j]!)).setCell ⟨g, o + j, none⟩ (.int .u16 x[i]!) = W4 at HN
        have HQ := Lib.hid (HP.out.swap hdi HI.out HJ.out)
        have HS4 := HN
        clear HFi HFj HI HJ hd HP HX hb5 HN
        go_wp2_with fail
        go_loopw [10, 11] (Both2 w g o r d (lwL p) p a b) (fun v u _ => (numI u + 1 - numI v).toNat)
        case atStart => exact ⟨i + 1, j - 1, swp x i j, by first | rfl | go_num | (congr 1; omega), by first | rfl | go_num | (congr 1; omega), HQ.out, HS4.out⟩
        case round =>
         clear HG
         clear G
         obtain ⟨i0, j0, x, rfl, rfl, hp0, hsx0⟩ := hrel
         have HP := Lib.hid hp0
         have HX := Lib.hid hsx0
         clear hp0 hsx0
         obtain ⟨G, hG⟩ : ∃ G : Nat → Int, ∀ t, G t = x[t]! := ⟨fun t => x[t]!, fun _ => rfl⟩
         have HG := Lib.hid hG
         clear hG
         go_wp2_with fail
         go_loopw [10] (Up w g o r d x (lwL p) p a b j0 i0) (fun v _ => b + 1 - (numI v).toNat)
         case atStart => exact ⟨_, rfl, Nat.le_refl _, HP.out, HX.out⟩
         case round =>
          obtain ⟨i, rfl, hmvi, hp, hsx⟩ := hrel
          have ha1 := hp.ai
          have ha2 := hp.ij
          have ha3 := hp.jb
          have ha4 := hp.fits
          have hcw : ∀ t, t < d.size → wr.cell? ⟨g, o + t, none⟩ = some (.int .u16 (G t)) := fun t ht => by rw [HG.out]; exact hsx.cell (by rw [hp.size]; exact ht)
          have HP := Lib.hid hp
          have HX := Lib.hid hsx
          clear hp hsx
          obtain ⟨t, ht⟩ : ∃ t : Bool, (decide (i ≤ j0) && (lwL p x[i]! == true)) = t := ⟨_, rfl⟩
          have HT := Lib.hid ht
          have HW : Hid (lwL p x[i]! = ltInt (G i) (G a)) := Lib.hid (by unfold lwL; rw [← HP.out.piv, ← HG.out, ← HG.out])
          clear ht
          go_upto_region 13 with fail
          go_cut [112] (CutC w g o r x t)
          case first =>
           have hn1 : a < d.size := by omega
           by_cases hij : i ≤ j0
           ·have hn2 : i < d.size := by omega
            cases hl : ltInt (G i) (G a)
            ·go_quiet (first | (go_at_call 172; refine Calls.quiet_of_same (less16' _ _ _)))
             rw [hl]
             go_wp2
             go_meet
             exact ⟨congrArg Value.bool (by rw [← HT.out, HW.out, hl]; simp [hij]), Lib.hid (HX.out.drawn nq)⟩
            ·go_quiet (first | (go_at_call 172; refine Calls.quiet_of_same (less16' _ _ _)))
             rw [hl]
             go_wp2
             go_meet
             exact ⟨congrArg Value.bool (by rw [← HT.out, HW.out, hl]; simp [hij]), Lib.hid (HX.out.drawn nq)⟩
           ·go_quiet (first | (go_at_call 172; refine Calls.quiet_of_same (less16' _ _ _)))
            go_wp2
            go_meet
            exact ⟨congrArg Value.bool (by rw [← HT.out]; simp [hij]), Lib.hid (HX.out.drawn nq)⟩
          case rest =>
           obtain ⟨rfl, HX2⟩ := hcut
           clear HX hcw
           have HX := HX2
           clear HX2
           cases t
           ·have HFi : Hid (¬ i ≤ j0 ∨ lwL p x[i]! = false) := Lib.hid (cut_no HT.out)
            clear HT HW
            go_wp2_with fail
            go_loopw [11] (Dn w g o r d x (lwL p) p a b i j0) (fun v _ => (numI v).toNat)
            case atStart => exact ⟨_, rfl, Nat.le_refl _, HP.out, HX.out⟩
            case round =>
             obtain ⟨j, rfl, hmvj, hp, hsx⟩ := hrel
             have ha1 := hp.ai
             have ha2 := hp.ij
             have ha3 := hp.jb
             have ha4 := hp.fits
             have hcw : ∀ t, t < d.size → wr.cell? ⟨g, o + t, none⟩ = some (.int .u16 (G t)) := fun t ht => by rw [HG.out]; exact hsx.cell (by rw [hp.size]; exact ht)
             have HP := Lib.hid hp
             have HX := Lib.hid hsx
             clear hp hsx
             obtain ⟨t, ht⟩ : ∃ t : Bool, (decide (i ≤ j) && (lwL p x[j]! == false)) = t := ⟨_, rfl⟩
             have HT := Lib.hid ht
             have HW : Hid (lwL p x[j]! = ltInt (G j) (G a)) := Lib.hid (by unfold lwL; rw [← HP.out.piv, ← HG.out, ← HG.out])
             clear ht
             go_upto_region 15 with fail
             go_cut [129] (CutC w g o r x t)
             case first =>
              have hn1 : a < d.size := by omega
              by_cases hij : i ≤ j
              ·have hn2 : j < d.size := by omega
               cases hl : ltInt (G j) (G a)
               ·go_quiet (first | (go_at_call 172; refine Calls.quiet_of_same (less16' _ _ _)))
                rw [hl]
                go_wp2
                go_meet
                exact ⟨congrArg Value.bool (by rw [← HT.out, HW.out, hl]; simp [hij]), Lib.hid (HX.out.drawn nq)⟩
               ·go_quiet (first | (go_at_call 172; refine Calls.quiet_of_same (less16' _ _ _)))
                rw [hl]
                go_wp2
                go_meet
                exact ⟨congrArg Value.bool (by rw [← HT.out, HW.out, hl]; simp [hij]), Lib.hid (HX.out.drawn nq)⟩
              ·go_quiet (first | (go_at_call 172; refine Calls.quiet_of_same (less16' _ _ _)))
               go_wp2
               go_meet
               exact ⟨congrArg Value.bool (by rw [← HT.out]; simp [hij]), Lib.hid (HX.out.drawn nq)⟩
             case rest =>
              obtain ⟨rfl, HX2⟩ := hcut
              clear HX hcw
              have HX := HX2
              clear HX2
              cases t
              ·have HFj : Hid (¬ i ≤ j ∨ lwL p x[j]! = true) := Lib.hid (cut_no HT.out)
               clear HT HW
               have hb1 := HP.out.ai
               have hb2 := HP.out.ij
               have hb3 := HP.out.jb
               have hb4 := HP.out.fits
               have hb5 := HP.out.size
               by_cases hfin : j < i
               ·have hd : decide ((j : Int) < (i : Int)) = true := by simp; omega
                go_wp2_with fail
                refine wp_region_held_drew (S := fun _ => True) (by kernel_rfl) trivial (fun hS => ?_)
                refine held_tk 0 153 (.slice (some ⟨g, o, none⟩) d.size cap) rfl rfl (by kernel_rfl) (fun _ _ _ h => h) (fun _ _ => rfl) trivial ?_
                simp only [Act.put, ap1, ap2, ap3]
                refine held_tk 1 154 (.int .i64 (j : Int)) rfl rfl (by kernel_rfl) (fun _ _ _ h => h) (fun _ _ => rfl) trivial ?_
                simp only [Act.put, ap1, ap2, ap3]
                refine held_tk 2 155 (.slice (some ⟨g, o, none⟩) d.size cap) rfl rfl (by kernel_rfl) (fun _ _ _ h => h) (fun _ _ => rfl) trivial ?_
                simp only [Act.put, ap1, ap2, ap3]
                refine held_tk 3 156 (.int .i64 (a : Int)) rfl rfl (by kernel_rfl) (fun _ _ _ h => h) (fun _ _ => rfl) trivial ?_
                simp only [Act.put, ap1, ap2, ap3]
                refine held_tk 4 157 (.slice (some ⟨g, o, none⟩) d.size cap) rfl rfl (by kernel_rfl) (fun _ _ _ h => h) (fun _ _ => rfl) trivial ?_
                simp only [Act.put, ap1, ap2, ap3]
                refine held_tk 5 158 (.int .i64 (a : Int)) rfl rfl (by kernel_rfl) (fun _ _ _ h => h) (fun _ _ => rfl) trivial ?_
                simp only [Act.put, ap1, ap2, ap3]
                refine held_tk 6 159 (.pointer (some ⟨g, o + a, none⟩)) rfl rfl (by kernel_rfl) (fun _ _ _ h => h) (fun _ _ => exec_idx16 (i := a) rfl rfl rfl (by omega) (by omega)) trivial ?_
                simp only [Act.put, ap1, ap2, ap3]
                refine held_tk 8 161 (.slice (some ⟨g, o, none⟩) d.size cap) rfl rfl (by kernel_rfl) (fun _ _ _ h => h) (fun _ _ => rfl) trivial ?_
                simp only [Act.put, ap1, ap2, ap3]
                refine held_tk 9 162 (.int .i64 (j : Int)) rfl rfl (by kernel_rfl) (fun _ _ _ h => h) (fun _ _ => rfl) trivial ?_
                simp only [Act.put, ap1, ap2, ap3]
                refine held_tk 10 163 (.pointer (some ⟨g, o + j, none⟩)) rfl rfl (by kernel_rfl) (fun _ _ _ h => h) (fun _ _ => exec_idx16 (i := j) rfl rfl rfl (by omega) (by omega)) trivial ?_
                simp only [Act.put, ap1, ap2, ap3]
                refine held_two 7 11 160 164 (.int .u16 x[a]!) (.int .u16 x[j]!) (by decide) (by decide) rfl rfl rfl rfl (by kernel_rfl) (by kernel_rfl) (by kernel_rfl) (by kernel_rfl) (by kernel_rfl) (by kernel_rfl) (by kernel_rfl) (exec_ld16 rfl rfl (HX.out.drawn 1) (by omega) rfl) (exec_ld16 rfl rfl (HX.out.drawn 1) (by omega) rfl) (exec_ld16 rfl rfl (HX.out.drawn 1) (by omega) rfl) (exec_ld16 rfl rfl (HX.out.drawn 1) (by omega) rfl) trivial ?_
                simp only [Act.put, ap1, ap2, ap3]
                refine held_exec 12 165 (.pointer (some ⟨g, o + j, none⟩)) rfl rfl (by kernel_rfl) (by kernel_rfl) (exec_idx16 (i := j) rfl rfl rfl (by omega) (by omega)) trivial ?_
                simp only [Act.put, ap1, ap2, ap3]
                refine held_void 13 rfl rfl (by kernel_rfl) (by kernel_rfl) (exec_st16 rfl rfl rfl (HX.out.drawn 1) (by omega)) trivial ?_
                refine held_exec 14 166 (.pointer (some ⟨g, o + a, none⟩)) rfl rfl (by kernel_rfl) (by kernel_rfl) (exec_idx16 (i := a) rfl rfl rfl (by omega) (by omega)) trivial ?_
                simp only [Act.put, ap1, ap2, ap3]
                refine held_void 15 rfl rfl (by kernel_rfl) (by kernel_rfl) (exec_st16 rfl rfl rfl ((HX.out.drawn 1).set (by omega) _) (by simp; omega)) trivial ?_
                refine wpAnyH_done (by kernel_rfl) ?_ _
                have HN := Lib.hid (HX.out.swapd (i := j) (j := a) (by omega) (by omega))
                generalize (wc.drew.setCell ⟨g, o + j, none⟩ (.int .u16 x[a]!)).setCell ⟨g, o + a, none⟩ (.int .u16 x[j]!) = W4 at HN
                have hz : (swp x j a).size = d.size := by rw [size_swp]; exact hb5
                go_wp2_with fail
                exact bodyPost_ret (v := .tuple #[.int .i64 (j : Int), .bool false]) (by simp [results, Tryz.results174, go_sem]) rfl ⟨j, false, swp x j a, rfl, HP.out.final hfin, HN.out⟩
               ·have hd : decide ((j : Int) < (i : Int)) = false := by simp; omega
                have hdi : i ≤ j := by omega
                have HI := Lib.hid (HFi.out.resolve_left (by omega))
                have HJ := Lib.hid (HFj.out.resolve_left (by omega))
                go_wp2_with fail
                refine wp_region_held_drew (S := fun _ => True) (by kernel_rfl) trivial (fun hS => ?_)
                refine held_tk 0 135 (.slice (some ⟨g, o, none⟩) d.size cap) rfl rfl (by kernel_rfl) (fun _ _ _ h => h) (fun _ _ => rfl) trivial ?_
                simp only [Act.put, ap1, ap2, ap3]
                refine held_tk 1 136 (.int .i64 (i : Int)) rfl rfl (by kernel_rfl) (fun _ _ _ h => h) (fun _ _ => rfl) trivial ?_
                simp only [Act.put, ap1, ap2, ap3]
                refine held_tk 2 137 (.slice (some ⟨g, o, none⟩) d.size cap) rfl rfl (by kernel_rfl) (fun _ _ _ h => h) (fun _ _ => rfl) trivial ?_
                simp only [Act.put, ap1, ap2, ap3]
                refine held_tk 3 138 (.int .i64 (j : Int)) rfl rfl (by kernel_rfl) (fun _ _ _ h => h) (fun _ _ => rfl) trivial ?_
                simp only [Act.put, ap1, ap2, ap3]
                refine held_tk 4 139 (.slice (some ⟨g, o, none⟩) d.size cap) rfl rfl (by kernel_rfl) (fun _ _ _ h => h) (fun _ _ => rfl) trivial ?_
                simp only [Act.put, ap1, ap2, ap3]
                refine held_tk 5 140 (.int .i64 (j : Int)) rfl rfl (by kernel_rfl) (fun _ _ _ h => h) (fun _ _ => rfl) trivial ?_
                simp only [Act.put, ap1, ap2, ap3]
                refine held_tk 6 141 (.pointer (some ⟨g, o + j, none⟩)) rfl rfl (by kernel_rfl) (fun _ _ _ h => h) (fun _ _ => exec_idx16 (i := j) rfl rfl rfl (by omega) (by omega)) trivial ?_
                simp only [Act.put, ap1, ap2, ap3]
                refine held_tk 8 143 (.slice (some ⟨g, o, none⟩) d.size cap) rfl rfl (by kernel_rfl) (fun _ _ _ h => h) (fun _ _ => rfl) trivial ?_
                simp only [Act.put, ap1, ap2, ap3]
                refine held_tk 9 144 (.int .i64 (i : Int)) rfl rfl (by kernel_rfl) (fun _ _ _ h => h) (fun _ _ => rfl) trivial ?_
                simp only [Act.put, ap1, ap2, ap3]
                refine held_tk 10 145 (.pointer (some ⟨g, o + i, none⟩)) rfl rfl (by kernel_rfl) (fun _ _ _ h => h) (fun _ _ => exec_idx16 (i := i) rfl rfl rfl (by omega) (by omega)) trivial ?_
                simp only [Act.put, ap1, ap2, ap3]
                refine held_two 7 11 142 146 (.int .u16 x[j]!) (.int .u16 x[i]!) (by decide) (by decide) rfl rfl rfl rfl (by kernel_rfl) (by kernel_rfl) (by kernel_rfl) (by kernel_rfl) (by kernel_rfl) (by kernel_rfl) (by kernel_rfl) (exec_ld16 rfl rfl (HX.out.drawn 1) (by omega) rfl) (exec_ld16 rfl rfl (HX.out.drawn 1) (by omega) rfl) (exec_ld16 rfl rfl (HX.out.drawn 1) (by omega) rfl) (exec_ld16 rfl rfl (HX.out.drawn 1) (by omega) rfl) trivial ?_
                simp only [Act.put, ap1, ap2, ap3]
                refine held_exec 12 147 (.pointer (some ⟨g, o + i, none⟩)) rfl rfl (by kernel_rfl) (by kernel_rfl) (exec_idx16 (i := i) rfl rfl rfl (by omega) (by omega)) trivial ?_
                simp only [Act.put, ap1, ap2, ap3]
                refine held_void 13 rfl rfl (by kernel_rfl) (by kernel_rfl) (exec_st16 rfl rfl rfl (HX.out.drawn 1) (by omega)) trivial ?_
                refine held_exec 14 148 (.pointer (some ⟨g, o + j, none⟩)) rfl rfl (by kernel_rfl) (by kernel_rfl) (exec_idx16 (i := j) rfl rfl rfl (by omega) (by omega)) trivial ?_
                simp only [Act.put, ap1, ap2, ap3]
                refine held_void 15 rfl rfl (by kernel_rfl) (by kernel_rfl) (exec_st16 rfl rfl rfl ((HX.out.drawn 1).set (by omega) _) (by simp; omega)) trivial ?_
                refine wpAnyH_done (by kernel_rfl) ?_ _
                have HN := Lib.hid (HX.out.swapd (i := i) (j := j) (by omega) (by omega))
                generalize (wc.drew.setCell ⟨g, o + i, none⟩ (.int .u16 x[j]!)).setCell ⟨g, o + j, none⟩ (.int .u16 x[i]!) = W4 at HN
                have HQ := Lib.hid (HP.out.swap hdi HI.out HJ.out)
                go_wp2_with fail
                go_roundw
                case rel => exact ⟨i + 1, j - 1, swp x i j, by first | rfl | go_num | (congr 1; omega), by first | rfl | go_num | (congr 1; omega), HQ.out, HN.out⟩
                case measure => simp [numI]; omega
              ·have hc := cut_yes HT.out
               clear HT HW
               go_wp2
               go_roundw
               case rel => exact ⟨j - 1, by congr 1; omega, by omega, HP.out.down hc.1 hc.2, HX.out⟩
               case measure => simp [numI]; omega
           ·have hc := cut_yes HT.out
            clear HT HW
            go_wp2
            go_roundw
            case rel => exact ⟨i + 1, by go_num, by omega, HP.out.up hc.1 hc.2, HX.out⟩
            case measure => simp [numI]; omega
      ·have hc := cut_yes HT.out
       clear HT HW
       go_wp2
       go_roundw
       case rel => exact ⟨j - 1, by congr 1; omega, by omega, HP.out.down hc.1 hc.2, HX.out⟩
       case measure => simp [numI]; omega
   ·have hc := cut_yes HT.out
    clear HT HW
    go_wp2
    go_roundw
    case rel => exact ⟨i + 1, by go_num, by omega, HP.out.up hc.1 hc.2, HX.out⟩
    case measure => simp [numI]; omega
end Go.Proofs.YtnekpgmgnepdoaaGreat
end
section
namespace Go.Proofs.YtnekpgmgnepdoaaGreat
open Go.Sort (swp ltInt size_swp PermIn SortedIn permIn_trans permIn_refl permIn_mono permIn_all swo_ltInt sorted_glue sorted_glue_eq)
structure Left (d x : Array Int) (a0 b0 a b : Nat) : Prop where
 lo : a0 ≤ a
 ab : a ≤ b
 hi : b ≤ b0
 fits : b0 ≤ d.size
 size : x.size = d.size
 below : Go.Sort.Below ltInt a b x
 rest : ∀ y, PermIn a b x y → SortedIn ltInt a b y → PermIn a0 b0 d y ∧ SortedIn ltInt a0 b0 y
theorem Left.start {d : Array Int} {a b : Nat} (h1 : a ≤ b) (h2 : b ≤ d.size) (h : Go.Sort.Below ltInt a b d) : Left d d a b a b :=
 ⟨Nat.le_refl _, h1, Nat.le_refl _, h2, rfl, h, fun _ h1 h2 => ⟨h1, h2⟩⟩
theorem Left.perm {d x y : Array Int} {a0 b0 a b : Nat} (h : Left d x a0 b0 a b) (hs : y.size = d.size) (hp : PermIn a b x y) : Left d y a0 b0 a b :=
 ⟨h.lo, h.ab, h.hi, h.fits, hs, h.below.perm (by rw [h.size]; exact Nat.le_trans h.hi h.fits) hp, fun z h1 h2 => h.rest z (permIn_trans _ _ _ _ _ hp h1) h2⟩
theorem Left.equal {d x y : Array Int} {a0 b0 a b m pv : Nat} (h : Left d x a0 b0 a b) (h0 : 0 < a) (hn : ltInt x[a - 1]! x[pv]! = false) (hp : PartEq x y a b m x[pv]!) : Left d y a0 b0 m b := by
 have hb : b ≤ x.size := by rw [h.size]; exact Nat.le_trans h.hi h.fits
 have hxs := h.size
 have hys := hp.size
 have hge : ∀ i, a ≤ i → i < b → ltInt x[i]! x[pv]! = false := fun i i1 i2 => by
  rcases h.below with hz | hB
  ·omega
  ·exact swo_ltInt.ntrans _ _ _ (hB i i1 i2) hn
 have hy : ∀ i, a ≤ i → i < b → ltInt y[i]! x[pv]! = false := permIn_all x y a b (fun z => ltInt z x[pv]! = false) hb hp.perm hge
 have hm1 := hp.am
 have hm2 := hp.mb
 have h3 := h.lo
 refine ⟨by omega, hm2, h.hi, h.fits, by rw [hys, hxs], .inr fun i i1 i2 => ?_, fun z z1 z2 => ?_⟩
 ·have e1 := hp.lo (m - 1) (by omega) (by omega)
  have e2 := hp.hi i i1 i2
  unfold ltInt at *
  simp only [decide_eq_true_eq, decide_eq_false_iff_not] at *
  omega
 ·have hpm : PermIn a b x z := permIn_trans _ _ _ _ _ hp.perm (permIn_mono y z m b a b (by omega) (Nat.le_refl _) (by omega) z1)
  have hz : ∀ i, i < m → z[i]! = y[i]! := fun i hi => z1.2.1 i (.inl hi)
  refine h.rest z hpm (sorted_glue_eq swo_ltInt x[pv]! z2 (fun i i1 i2 => ?_) (fun i i1 i2 => ?_) ?_)
  ·rw [hz i i2]; exact hp.lo i i1 i2
  ·rw [hz i i2]; exact hy i i1 (by omega)
  ·exact permIn_all y z m b (fun u => ltInt x[pv]! u = true) (by omega) z1 hp.hi
theorem Left.part_below {d x y : Array Int} {a0 b0 a b m : Nat} (h : Left d x a0 b0 a b) (hp : Parted x y a b m) : Go.Sort.Below ltInt a m y ∧ Go.Sort.Below ltInt (m + 1) b y := by
 have hb : b ≤ x.size := by rw [h.size]; exact Nat.le_trans h.hi h.fits
 have hB := h.below.perm hb hp.perm
 exact ⟨hB.mono (by have := hp.mb; omega), .inr fun i i1 i2 => hp.hi i (by omega) i2⟩
theorem part_glue {y z : Array Int} {a b m : Nat} {x : Array Int} (hp : Parted x y a b m) (hb : b ≤ x.size) {u : Array Int} (h1 : PermIn a m y z) (s1 : SortedIn ltInt a m z) (h2 : PermIn (m + 1) b z u) (s2 : SortedIn ltInt (m + 1) b u) : PermIn a b x u ∧ SortedIn ltInt a b u := by
 have hm1 := hp.am
 have hm2 := hp.mb
 have hys := hp.size
 have hzs := h1.1
 have hus := h2.1
 have huz : ∀ i, i ≤ m → u[i]! = z[i]! := fun i hi => h2.2.1 i (.inl (by omega))
 have hzy : ∀ i, m ≤ i → z[i]! = y[i]! := fun i hi => h1.2.1 i (.inr hi)
 refine ⟨permIn_trans _ _ _ _ _ hp.perm (permIn_trans _ _ _ _ _ (permIn_mono y z a m a b (Nat.le_refl _) (by omega) (by omega) h1) (permIn_mono z u (m + 1) b a b (by omega) (Nat.le_refl _) (by omega) h2)), sorted_glue swo_ltInt (mid := m) ?_ s2 ?_ ?_⟩
 ·exact s1.congr fun i _ i2 => huz i (by omega)
 ·intro i i1 i2
  have hz := permIn_all y z a m (fun v => ltInt v y[m]! = true) (by omega) h1 hp.lo i i1 i2
  rw [huz i (by omega), huz m (Nat.le_refl _), hzy m (Nat.le_refl _)]
  exact hz
 ·have hh := permIn_all z u (m + 1) b (fun v => ltInt v y[m]! = false) (by omega) h2 (fun i i1 i2 => by rw [hzy i (by omega)]; exact hp.hi i (by omega) i2)
  intro i i1 i2
  rw [huz m (Nat.le_refl _), hzy m (Nat.le_refl _)]
  exact hh i (by omega) i2
theorem part_glue' {y z : Array Int} {a b m : Nat} {x : Array Int} (hp : Parted x y a b m) (hb : b ≤ x.size) {u : Array Int} (h1 : PermIn (m + 1) b y z) (s1 : SortedIn ltInt (m + 1) b z) (h2 : PermIn a m z u) (s2 : SortedIn ltInt a m u) : PermIn a b x u ∧ SortedIn ltInt a b u := by
 have hm1 := hp.am
 have hm2 := hp.mb
 have hys := hp.size
 have hzs := h1.1
 have hus := h2.1
 have huz : ∀ i, m ≤ i → u[i]! = z[i]! := fun i hi => h2.2.1 i (.inr hi)
 have hzy : ∀ i, i ≤ m → z[i]! = y[i]! := fun i hi => h1.2.1 i (.inl (by omega))
 refine ⟨permIn_trans _ _ _ _ _ hp.perm (permIn_trans _ _ _ _ _ (permIn_mono y z (m + 1) b a b (by omega) (Nat.le_refl _) (by omega) h1) (permIn_mono z u a m a b (Nat.le_refl _) (by omega) (by omega) h2)), sorted_glue swo_ltInt (mid := m) s2 ?_ ?_ ?_⟩
 ·exact s1.congr fun i i1 _ => huz i (by omega)
 ·have hh := permIn_all z u a m (fun v => ltInt v y[m]! = true) (by omega) h2 (fun i i1 i2 => by rw [hzy i (by omega)]; exact hp.lo i i1 i2)
  intro i i1 i2
  rw [huz m (Nat.le_refl _), hzy m (Nat.le_refl _)]
  exact hh i i1 i2
 ·intro i i1 i2
  have hz := permIn_all y z (m + 1) b (fun v => ltInt v y[m]! = false) (by omega) h1 (fun k k1 k2 => hp.hi k (by omega) k2) i (by omega) i2
  rw [huz i (by omega), huz m (Nat.le_refl _), hzy m (Nat.le_refl _)]
  exact hz
theorem Left.right {d x y z : Array Int} {a0 b0 a b m : Nat} (h : Left d x a0 b0 a b) (hp : Parted x y a b m) (h1 : PermIn a m y z) (s1 : SortedIn ltInt a m z) : Left d z a0 b0 (m + 1) b := by
 have hb : b ≤ x.size := by rw [h.size]; exact Nat.le_trans h.hi h.fits
 have hm1 := hp.am
 have hm2 := hp.mb
 have h3 := h.lo
 have hzy : ∀ i, m ≤ i → z[i]! = y[i]! := fun i hi => h1.2.1 i (.inr hi)
 refine ⟨by omega, by omega, h.hi, h.fits, by rw [h1.1, hp.size, h.size], .inr fun i i1 i2 => ?_, fun u u1 u2 => ?_⟩
 ·rw [hzy i (by omega), show m + 1 - 1 = m by omega, hzy m (Nat.le_refl _)]
  exact hp.hi i (by omega) i2
 ·have := part_glue hp hb h1 s1 u1 u2
  exact h.rest u this.1 this.2
theorem Left.left {d x y z : Array Int} {a0 b0 a b m : Nat} (h : Left d x a0 b0 a b) (hp : Parted x y a b m) (h1 : PermIn (m + 1) b y z) (s1 : SortedIn ltInt (m + 1) b z) : Left d z a0 b0 a m := by
 have hb : b ≤ x.size := by rw [h.size]; exact Nat.le_trans h.hi h.fits
 have hm1 := hp.am
 have hm2 := hp.mb
 have h3 := h.hi
 have hzy : ∀ i, i ≤ m → z[i]! = y[i]! := fun i hi => h1.2.1 i (.inl (by omega))
 refine ⟨h.lo, hm1, by omega, h.fits, by rw [h1.1, hp.size, h.size], ?_, fun u u1 u2 => ?_⟩
 ·rcases (h.part_below hp).1 with h0 | hB
  ·exact .inl h0
  ·refine .inr fun i i1 i2 => ?_
   rw [hzy i (by omega), hzy (a - 1) (by omega)]
   exact hB i i1 i2
 ·have := part_glue' hp hb h1 s1 u1 u2
  exact h.rest u this.1 this.2
end Go.Proofs.YtnekpgmgnepdoaaGreat
end
