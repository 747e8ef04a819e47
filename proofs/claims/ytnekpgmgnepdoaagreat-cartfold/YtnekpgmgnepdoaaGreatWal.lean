import Derived.Shelf.SlicesE.Compact
import Derived.Test.YtnekpgmgnepdoaaGreatWah
import Derived.Test.YtnekpgmgnepdoaaGreatWak
section
namespace Go.Proofs.YtnekpgmgnepdoaaGreat.Q
section
open Go.RowKit
open Go.Sort (swp ltInt size_swp PermIn SortedIn)
section
variable {w W : World} {g o cap N : Nat} {r : Array Value} {d : Array Int}
theorem insertN (hN : d.size = N) (hs : Sr w W g o r d) (a b : Nat) (hab : a ≤ b) (hb : b ≤ N) (hsz : N < 100) :
  Calls Tryz.prog 178 #[.slice (some ⟨g, o, none⟩) N cap, .int .i64 (a : Int), .int .i64 (b : Int)] W fun e W' => e = .returned (.tuple #[]) ∧ Sr w W' g o r (Go.Sort.insertionSort ltInt d a b) := by
 subst hN; exact insert16 hs a b hab hb (by omega)
theorem heapN (hN : d.size = N) (hs : Sr w W g o r d) (a b : Nat) (hab : a < b) (hb : b ≤ N) (hsz : N < 100) :
  Calls Tryz.prog 179 #[.slice (some ⟨g, o, none⟩) N cap, .int .i64 (a : Int), .int .i64 (b : Int)] W fun e W' => e = .returned (.tuple #[]) ∧ Sr w W' g o r (Go.Sort.heapSort ltInt d a b) := by
 subst hN
 have h := heap16 (cap := cap) hs a (b - a) (by omega) (by omega) (by omega)
 rw [show ((a : Int) + ((b - a : Nat) : Int)) = (b : Int) by omega, show a + (b - a) = b by omega] at h
 exact h
theorem breakN (hN : d.size = N) (hs : Sr w W g o r d) (a b : Nat) (h8 : a + 8 ≤ b) (hb : b ≤ N) (hsz : N < 100) :
  Calls Tryz.prog 180 #[.slice (some ⟨g, o, none⟩) N cap, .int .i64 (a : Int), .int .i64 (b : Int)] W (Shuffled w g o r d a b) := by
 subst hN; exact break16 hs a b h8 (by omega) hb (by omega)
theorem pivotN (hN : d.size = N) (hs : Sr w W g o r d) (a b : Nat) (h8 : a + 8 ≤ b) (hb : b ≤ N) (hsz : N < 100) :
  Calls Tryz.prog 181 #[.slice (some ⟨g, o, none⟩) N cap, .int .i64 (a : Int), .int .i64 (b : Int)] W (Piv w g o r d a b) := by
 subst hN; exact pivot16 hs a b h8 hb (by omega)
theorem partialN (hN : d.size = N) (hs : Sr w W g o r d) (a b : Nat) (h8 : a + 8 ≤ b) (hb : b ≤ N) (hsz : N < 100) :
  Calls Tryz.prog 183 #[.slice (some ⟨g, o, none⟩) N cap, .int .i64 (a : Int), .int .i64 (b : Int)] W (FoundP w g o r d a b) := by
 subst hN; exact partial16 hs a b h8 hb (by omega)
theorem reverseN (hN : d.size = N) (hs : Sr w W g o r d) (a b : Nat) (hab : a < b) (hb : b ≤ N) (hsz : N < 100) :
  Calls Tryz.prog 182 #[.slice (some ⟨g, o, none⟩) N cap, .int .i64 (a : Int), .int .i64 (b : Int)] W fun e W' => e = .returned (.tuple #[]) ∧ Sr w W' g o r (Go.Sort.reverseRange d a b) := by
 subst hN; exact reverse16 hs a b hab hb (by omega)
theorem parteqN (hN : d.size = N) (hs : Sr w W g o r d) (a b pv : Nat) (h1 : a ≤ pv) (h2 : pv < b) (hb : b ≤ N) (hsz : N < 100) :
  Calls Tryz.prog 185 #[.slice (some ⟨g, o, none⟩) N cap, .int .i64 (a : Int), .int .i64 (b : Int), .int .i64 (pv : Int)] W (PartE w g o r d a b d[pv]!) := by
 subst hN; exact parteq16 hs a b pv _ (Lib.hid rfl) h1 h2 hb (by omega)
theorem partN (hN : d.size = N) (hs : Sr w W g o r d) (a b pv : Nat) (h1 : a ≤ pv) (h2 : pv < b) (hb : b ≤ N) (hsz : N < 100) :
  Calls Tryz.prog 186 #[.slice (some ⟨g, o, none⟩) N cap, .int .i64 (a : Int), .int .i64 (b : Int), .int .i64 (pv : Int)] W (PartL w g o r d a b) := by
 subst hN; exact part16 hs a b pv h1 h2 hb (by omega)
end
def Srtd (w : World) (g o : Nat) (r : Array Value) (d : Array Int) (a b : Nat) (e : Ending) (W' : World) : Prop :=
 e = .returned (.tuple #[]) ∧ ∃ x : Array Int, PermIn a b d x ∧ SortedIn ltInt a b x ∧ Sr w W' g o r x
def PdqR (w : World) (g o : Nat) (r : Array Value) (d : Array Int) (a0 b0 : Nat) (v1 v2 v3 v8 v9 : Value) (W : World) : Prop :=
 ∃ (a b : Nat) (lim : Int) (wb wp : Bool) (x : Array Int), v1 = .int .i64 (a : Int) ∧ v2 = .int .i64 (b : Int) ∧ v3 = .int .i64 lim ∧ v8 = .bool wb ∧ v9 = .bool wp ∧ Left d x a0 b0 a b ∧ Sr w W g o r x
def PvC (w : World) (g o : Nat) (r : Array Value) (d : Array Int) (a0 b0 a b N : Nat) (v u : Value) (W : World) : Prop :=
 ∃ (pv h : Nat) (y : Array Int), v = .int .i64 (pv : Int) ∧ u = .int .i64 (h : Int) ∧ a ≤ pv ∧ pv < b ∧ h ≤ 1 ∧ Hid (Left d y a0 b0 a b) ∧ Hid (y.size = N) ∧ Hid (Sr w W g o r y)
set_option maxRecDepth 100000 in
set_option maxHeartbeats 32000000 in
theorem pdq16 (w : World) (g o cap N : Nat) (r : Array Value) (hsz : N < 100) (n : Nat) : ∀ (W : World) (d : Array Int) (a0 b0 : Nat) (lim0 : Int), b0 - a0 = n → d.size = N → a0 ≤ b0 → b0 ≤ N → Go.Sort.Below ltInt a0 b0 d → Sr w W g o r d →
  Calls Tryz.prog 146 #[.slice (some ⟨g, o, none⟩) N cap, .int .i64 (a0 : Int), .int .i64 (b0 : Int), .int .i64 lim0] W (Srtd w g o r d a0 b0) := by
 induction n using Nat.strongRecOn with
 | ind n ih =>
  intro W d a0 b0 lim0 hn hN hab hb hB hs
  have HL0 := Lib.hid (Left.start hab (by rw [hN]; exact hb) hB)
  have HS := Lib.hid hs
  have IH := Lib.hid ih
  have HNN := Lib.hid hN
  have hn1 : b0 - a0 ≤ n := by omega
  clear hs hB ih hn
  go_enter Tryz.func146, Tryz.ntmps146
  go_wp2_with fail
  go_loopw [1, 2, 3, 8, 9] (PdqR w g o r d a0 b0) (fun v1 v2 _ _ _ _ => (numI v2 - numI v1).toNat)
  case atStart => exact ⟨a0, b0, lim0, true, true, d, rfl, rfl, rfl, rfl, rfl, HL0.out, HS.out⟩
  case round =>
   obtain ⟨a, b, lim, wb, wp, x, rfl, rfl, rfl, rfl, rfl, hl, hsx⟩ := hrel
   have ha1 := hl.lo
   have ha2 := hl.ab
   have ha3 := hl.hi
   have HZ : Hid (x.size = N) := Lib.hid (hl.size.trans HNN.out)
   have HL := Lib.hid hl
   have HX := Lib.hid hsx
   clear hl hsx HS HL0
   by_cases h12 : b - a ≤ 12
   ·have hd : decide ((b : Int) - (a : Int) ≤ 12) = true := by simp; omega
    go_wp2_with fail
    refine (insertN HZ.out HX.out a b ha2 (by omega) hsz).mono ?_
    rintro e W2 ⟨rfl, h2⟩
    have hi := Go.Sort.insertionSort_holds Go.Sort.swo_ltInt x a b ha2 (by rw [HZ.out]; omega)
    have hr := HL.out.rest _ hi.1 hi.2
    have HR : Hid (Srtd w g o r d a0 b0 (.returned (.tuple #[])) W2) := Lib.hid ⟨rfl, _, hr.1, hr.2, h2⟩
    clear h2 hi hr
    go_wp2_with fail
    exact bodyPost_ret (results_none rfl _ _ _) rfl HR.out
   ·have hd : decide ((b : Int) - (a : Int) ≤ 12) = false := by simp; omega
    cases hlim : ((lim : Int) == 0)
    ·cases wb
     ·go_wp2_with fail
      refine (breakN HZ.out HX.out a b (by omega) (by omega) hsz).mono ?_
      rintro e W2 ⟨rfl, y, hy, hp, h2⟩
      have HL2 := Lib.hid (HL.out.perm (hy.trans HL.out.size) hp)
      have HZ2 : Hid (y.size = N) := Lib.hid (hy.trans HZ.out)
      have HX2 := Lib.hid h2
      clear hy hp h2 HL HZ HX
      go_wp2_with fail
      refine (pivotN HZ2.out HX2.out a b (by omega) (by omega) hsz).mono ?_
      rintro e W3 ⟨pv0, h0, rfl, hp1, hp2, hh, h3⟩
      have HX3 := Lib.hid h3
      clear h3 HX2
      go_upto_if 50 with fail
      go_cut [11, 12] (PvC w g o r d a0 b0 a b N)
      case first =>
       by_cases h2 : h0 = 2
       ·subst h2
        go_wp2_with fail
        refine (reverseN HZ2.out HX3.out a b (by omega) (by omega) hsz).mono ?_
        rintro e W4 ⟨rfl, h4⟩
        have HX4 := Lib.hid h4
        have hrv := Go.Sort.reverseRange_holds y a b (by omega) (by rw [HZ2.out]; omega)
        have HRV := Lib.hid hrv
        clear h4 hrv
        go_wp2_with fail
        go_meet
        exact ⟨(b - 1) - (pv0 - a), 1, _, by congr 1; omega, rfl, by omega, by omega, by omega, Lib.hid (HL2.out.perm (HRV.out.1.trans HL2.out.size) HRV.out), Lib.hid (HRV.out.1.trans HZ2.out), HX4⟩
       ·have hh2 : ((h0 : Int) == 2) = false := by simp; omega
        go_wp2_with fail
        go_meet
        exact ⟨pv0, h0, _, rfl, rfl, hp1, hp2, by omega, HL2, HZ2, HX3⟩
      case rest =>
       obtain ⟨pv, h, u, rfl, rfl, hp1, hp2, hh, HL, HZ, HX⟩ := hcut
       clear HX3 HL2 HZ2
       go_wp2_with fail
       obtain ⟨G, hG⟩ : ∃ G : Nat → Int, ∀ t, G t = u[t]! := ⟨fun t => u[t]!, fun _ => rfl⟩
       have HG := Lib.hid hG
       clear hG
       have hcw : ∀ t, t < N → wc.cell? ⟨g, o + t, none⟩ = some (.int .u64 (G t)) := fun t ht => by rw [HG.out]; exact HX.out.cell (by rw [HZ.out]; exact ht)
       obtain ⟨t, ht⟩ : ∃ t : Bool, (decide (0 < a) && !ltInt u[a - 1]! u[pv]!) = t := ⟨_, rfl⟩
       have HT := Lib.hid ht
       clear ht
       go_upto_region 17 with fail
       go_cut [87] (CutC w g o r u t)
       case first =>
        by_cases h0 : 0 < a
        ·have hn1 : a - 1 < N := by omega
         have hn2 : pv < N := by omega
         have hn3 : (0 : Int) ≤ (a : Int) - 1 := by omega
         cases hl : ltInt (G (a - 1)) (G pv)
         ·go_quiet (first | (go_at_call 184; refine Calls.quiet_of_same (less16' _ _ _)))
          rw [hl]
          go_wp2
          go_meet
          exact ⟨congrArg Value.bool (by rw [← HT.out, ← HG.out, ← HG.out, hl]; simp [h0]), Lib.hid (HX.out.drawn nq)⟩
         ·go_quiet (first | (go_at_call 184; refine Calls.quiet_of_same (less16' _ _ _)))
          rw [hl]
          go_wp2
          go_meet
          exact ⟨congrArg Value.bool (by rw [← HT.out, ← HG.out, ← HG.out, hl]; simp), Lib.hid (HX.out.drawn nq)⟩
        ·have ha0 : a = 0 := by omega
         subst ha0
         go_quiet (first | (go_at_call 184; refine Calls.quiet_of_same (less16' _ _ _)))
         go_wp2
         go_meet
         exact ⟨congrArg Value.bool (by rw [← HT.out]; simp), Lib.hid (HX.out.drawn nq)⟩
       case rest =>
        obtain ⟨rfl, HX2⟩ := hcut
        clear HX hcw
        cases t
        ·clear HT
         go_wp2_with fail
         refine (partN HZ.out HX2.out a b pv hp1 hp2 (by omega) hsz).mono ?_
         rintro e W5 ⟨m, q, y2, rfl, hpt, h5⟩
         have hm1 := hpt.am
         have hm2 := hpt.mb
         have HPT := Lib.hid hpt
         have HX5 := Lib.hid h5
         have HZ5 : Hid (y2.size = N) := Lib.hid (hpt.size.trans HZ.out)
         clear hpt h5 HX2
         by_cases hlr : m - a < b - m
         ·have hd2 : decide ((m : Int) - (a : Int) < (b : Int) - (m : Int)) = true := by simp; omega
          go_wp2_with fail
          refine (IH.out (m - a) (by omega) _ y2 a m _ rfl HZ5.out (by omega) (by omega) (HL.out.part_below HPT.out).1 HX5.out).mono ?_
          rintro e W6 ⟨rfl, z, hz1, hz2, h6⟩
          have HL6 := Lib.hid (HL.out.right HPT.out hz1 hz2)
          have HX6 := Lib.hid h6
          clear hz1 hz2 h6
          go_wp2_with fail
          go_roundw
          case rel => exact ⟨m + 1, b, _, _, _, z, by first | rfl | go_num | (congr 1; omega), rfl, rfl, rfl, rfl, HL6.out, HX6.out⟩
          case measure => simp [numI]; omega
         ·have hd2 : decide ((m : Int) - (a : Int) < (b : Int) - (m : Int)) = false := by simp; omega
          go_wp2_with fail
          rw [show ((m : Int) + 1) = ((m + 1 : Nat) : Int) by omega]
          refine (IH.out (b - (m + 1)) (by omega) _ y2 (m + 1) b _ rfl HZ5.out (by omega) (by omega) (HL.out.part_below HPT.out).2 HX5.out).mono ?_
          rintro e W6 ⟨rfl, z, hz1, hz2, h6⟩
          have HL6 := Lib.hid (HL.out.left HPT.out hz1 hz2)
          have HX6 := Lib.hid h6
          clear hz1 hz2 h6
          go_wp2_with fail
          go_roundw
          case rel => exact ⟨a, m, _, _, _, z, rfl, by first | rfl | go_num | (congr 1; omega), rfl, rfl, rfl, HL6.out, HX6.out⟩
          case measure => simp [numI]; omega
        ·have hc : 0 < a ∧ ltInt u[a - 1]! u[pv]! = false := by simpa using HT.out
         have HC := Lib.hid hc
         clear HT hc
         go_wp2_with fail
         refine (parteqN HZ.out HX2.out a b pv hp1 hp2 (by omega) hsz).mono ?_
         rintro e W5 ⟨m, y2, rfl, hpt, h5⟩
         have hm1 := hpt.am
         have hm2 := hpt.mb
         have HL5 := Lib.hid (HL.out.equal HC.out.1 HC.out.2 hpt)
         have HX5 := Lib.hid h5
         clear hpt h5
         go_wp2_with fail
         go_roundw
         case rel => exact ⟨m, b, _, _, _, y2, rfl, rfl, rfl, rfl, rfl, HL5.out, HX5.out⟩
         case measure => simp [numI]; omega
     ·go_wp2_with fail
      have HL2 := HL
      have HZ2 := HZ
      have HX2 := HX
      clear HL HZ HX
      refine (pivotN HZ2.out HX2.out a b (by omega) (by omega) hsz).mono ?_
      rintro e W3 ⟨pv0, h0, rfl, hp1, hp2, hh, h3⟩
      have HX3 := Lib.hid h3
      clear h3 HX2
      go_upto_if 50 with fail
      go_cut [11, 12] (PvC w g o r d a0 b0 a b N)
      case first =>
       by_cases h2 : h0 = 2
       ·subst h2
        go_wp2_with fail
        refine (reverseN HZ2.out HX3.out a b (by omega) (by omega) hsz).mono ?_
        rintro e W4 ⟨rfl, h4⟩
        have HX4 := Lib.hid h4
        have hrv := Go.Sort.reverseRange_holds x a b (by omega) (by rw [HZ2.out]; omega)
        have HRV := Lib.hid hrv
        clear h4 hrv
        go_wp2_with fail
        go_meet
        exact ⟨(b - 1) - (pv0 - a), 1, _, by congr 1; omega, rfl, by omega, by omega, by omega, Lib.hid (HL2.out.perm (HRV.out.1.trans HL2.out.size) HRV.out), Lib.hid (HRV.out.1.trans HZ2.out), HX4⟩
       ·have hh2 : ((h0 : Int) == 2) = false := by simp; omega
        go_wp2_with fail
        go_meet
        exact ⟨pv0, h0, _, rfl, rfl, hp1, hp2, by omega, HL2, HZ2, HX3⟩
      case rest =>
       obtain ⟨pv, h, u, rfl, rfl, hp1, hp2, hh, HL, HZ, HX⟩ := hcut
       clear HX3 HL2 HZ2
       cases wp
       ·go_wp2_with fail
        obtain ⟨G, hG⟩ : ∃ G : Nat → Int, ∀ t, G t = u[t]! := ⟨fun t => u[t]!, fun _ => rfl⟩
        have HG := Lib.hid hG
        clear hG
        have hcw : ∀ t, t < N → wc.cell? ⟨g, o + t, none⟩ = some (.int .u64 (G t)) := fun t ht => by rw [HG.out]; exact HX.out.cell (by rw [HZ.out]; exact ht)
        obtain ⟨t, ht⟩ : ∃ t : Bool, (decide (0 < a) && !ltInt u[a - 1]! u[pv]!) = t := ⟨_, rfl⟩
        have HT := Lib.hid ht
        clear ht
        go_upto_region 17 with fail
        go_cut [87] (CutC w g o r u t)
        case first =>
         by_cases h0 : 0 < a
         ·have hn1 : a - 1 < N := by omega
          have hn2 : pv < N := by omega
          have hn3 : (0 : Int) ≤ (a : Int) - 1 := by omega
          cases hl : ltInt (G (a - 1)) (G pv)
          ·go_quiet (first | (go_at_call 184; refine Calls.quiet_of_same (less16' _ _ _)))
           rw [hl]
           go_wp2
           go_meet
           exact ⟨congrArg Value.bool (by rw [← HT.out, ← HG.out, ← HG.out, hl]; simp [h0]), Lib.hid (HX.out.drawn nq)⟩
          ·go_quiet (first | (go_at_call 184; refine Calls.quiet_of_same (less16' _ _ _)))
           rw [hl]
           go_wp2
           go_meet
           exact ⟨congrArg Value.bool (by rw [← HT.out, ← HG.out, ← HG.out, hl]; simp), Lib.hid (HX.out.drawn nq)⟩
         ·have ha0 : a = 0 := by omega
          subst ha0
          go_quiet (first | (go_at_call 184; refine Calls.quiet_of_same (less16' _ _ _)))
          go_wp2
          go_meet
          exact ⟨congrArg Value.bool (by rw [← HT.out]; simp), Lib.hid (HX.out.drawn nq)⟩
        case rest =>
         obtain ⟨rfl, HX2⟩ := hcut
         clear HX hcw
         cases t
         ·clear HT
          go_wp2_with fail
          refine (partN HZ.out HX2.out a b pv hp1 hp2 (by omega) hsz).mono ?_
          rintro e W5 ⟨m, q, y2, rfl, hpt, h5⟩
          have hm1 := hpt.am
          have hm2 := hpt.mb
          have HPT := Lib.hid hpt
          have HX5 := Lib.hid h5
          have HZ5 : Hid (y2.size = N) := Lib.hid (hpt.size.trans HZ.out)
          clear hpt h5 HX2
          by_cases hlr : m - a < b - m
          ·have hd2 : decide ((m : Int) - (a : Int) < (b : Int) - (m : Int)) = true := by simp; omega
           go_wp2_with fail
           refine (IH.out (m - a) (by omega) _ y2 a m _ rfl HZ5.out (by omega) (by omega) (HL.out.part_below HPT.out).1 HX5.out).mono ?_
           rintro e W6 ⟨rfl, z, hz1, hz2, h6⟩
           have HL6 := Lib.hid (HL.out.right HPT.out hz1 hz2)
           have HX6 := Lib.hid h6
           clear hz1 hz2 h6
           go_wp2_with fail
           go_roundw
           case rel => exact ⟨m + 1, b, _, _, _, z, by first | rfl | go_num | (congr 1; omega), rfl, rfl, rfl, rfl, HL6.out, HX6.out⟩
           case measure => simp [numI]; omega
          ·have hd2 : decide ((m : Int) - (a : Int) < (b : Int) - (m : Int)) = false := by simp; omega
           go_wp2_with fail
           rw [show ((m : Int) + 1) = ((m + 1 : Nat) : Int) by omega]
           refine (IH.out (b - (m + 1)) (by omega) _ y2 (m + 1) b _ rfl HZ5.out (by omega) (by omega) (HL.out.part_below HPT.out).2 HX5.out).mono ?_
           rintro e W6 ⟨rfl, z, hz1, hz2, h6⟩
           have HL6 := Lib.hid (HL.out.left HPT.out hz1 hz2)
           have HX6 := Lib.hid h6
           clear hz1 hz2 h6
           go_wp2_with fail
           go_roundw
           case rel => exact ⟨a, m, _, _, _, z, rfl, by first | rfl | go_num | (congr 1; omega), rfl, rfl, rfl, HL6.out, HX6.out⟩
           case measure => simp [numI]; omega
         ·have hc : 0 < a ∧ ltInt u[a - 1]! u[pv]! = false := by simpa using HT.out
          have HC := Lib.hid hc
          clear HT hc
          go_wp2_with fail
          refine (parteqN HZ.out HX2.out a b pv hp1 hp2 (by omega) hsz).mono ?_
          rintro e W5 ⟨m, y2, rfl, hpt, h5⟩
          have hm1 := hpt.am
          have hm2 := hpt.mb
          have HL5 := Lib.hid (HL.out.equal HC.out.1 HC.out.2 hpt)
          have HX5 := Lib.hid h5
          clear hpt h5
          go_wp2_with fail
          go_roundw
          case rel => exact ⟨m, b, _, _, _, y2, rfl, rfl, rfl, rfl, rfl, HL5.out, HX5.out⟩
          case measure => simp [numI]; omega
       ·by_cases h01 : h = 0
        ·subst h01
         go_wp2_with fail
         obtain ⟨G, hG⟩ : ∃ G : Nat → Int, ∀ t, G t = u[t]! := ⟨fun t => u[t]!, fun _ => rfl⟩
         have HG := Lib.hid hG
         clear hG
         have hcw : ∀ t, t < N → wc.cell? ⟨g, o + t, none⟩ = some (.int .u64 (G t)) := fun t ht => by rw [HG.out]; exact HX.out.cell (by rw [HZ.out]; exact ht)
         obtain ⟨t, ht⟩ : ∃ t : Bool, (decide (0 < a) && !ltInt u[a - 1]! u[pv]!) = t := ⟨_, rfl⟩
         have HT := Lib.hid ht
         clear ht
         go_upto_region 17 with fail
         go_cut [87] (CutC w g o r u t)
         case first =>
          by_cases h0 : 0 < a
          ·have hn1 : a - 1 < N := by omega
           have hn2 : pv < N := by omega
           have hn3 : (0 : Int) ≤ (a : Int) - 1 := by omega
           cases hl : ltInt (G (a - 1)) (G pv)
           ·go_quiet (first | (go_at_call 184; refine Calls.quiet_of_same (less16' _ _ _)))
            rw [hl]
            go_wp2
            go_meet
            exact ⟨congrArg Value.bool (by rw [← HT.out, ← HG.out, ← HG.out, hl]; simp [h0]), Lib.hid (HX.out.drawn nq)⟩
           ·go_quiet (first | (go_at_call 184; refine Calls.quiet_of_same (less16' _ _ _)))
            rw [hl]
            go_wp2
            go_meet
            exact ⟨congrArg Value.bool (by rw [← HT.out, ← HG.out, ← HG.out, hl]; simp), Lib.hid (HX.out.drawn nq)⟩
          ·have ha0 : a = 0 := by omega
           subst ha0
           go_quiet (first | (go_at_call 184; refine Calls.quiet_of_same (less16' _ _ _)))
           go_wp2
           go_meet
           exact ⟨congrArg Value.bool (by rw [← HT.out]; simp), Lib.hid (HX.out.drawn nq)⟩
         case rest =>
          obtain ⟨rfl, HX2⟩ := hcut
          clear HX hcw
          cases t
          ·clear HT
           go_wp2_with fail
           refine (partN HZ.out HX2.out a b pv hp1 hp2 (by omega) hsz).mono ?_
           rintro e W5 ⟨m, q, y2, rfl, hpt, h5⟩
           have hm1 := hpt.am
           have hm2 := hpt.mb
           have HPT := Lib.hid hpt
           have HX5 := Lib.hid h5
           have HZ5 : Hid (y2.size = N) := Lib.hid (hpt.size.trans HZ.out)
           clear hpt h5 HX2
           by_cases hlr : m - a < b - m
           ·have hd2 : decide ((m : Int) - (a : Int) < (b : Int) - (m : Int)) = true := by simp; omega
            go_wp2_with fail
            refine (IH.out (m - a) (by omega) _ y2 a m _ rfl HZ5.out (by omega) (by omega) (HL.out.part_below HPT.out).1 HX5.out).mono ?_
            rintro e W6 ⟨rfl, z, hz1, hz2, h6⟩
            have HL6 := Lib.hid (HL.out.right HPT.out hz1 hz2)
            have HX6 := Lib.hid h6
            clear hz1 hz2 h6
            go_wp2_with fail
            go_roundw
            case rel => exact ⟨m + 1, b, _, _, _, z, by first | rfl | go_num | (congr 1; omega), rfl, rfl, rfl, rfl, HL6.out, HX6.out⟩
            case measure => simp [numI]; omega
           ·have hd2 : decide ((m : Int) - (a : Int) < (b : Int) - (m : Int)) = false := by simp; omega
            go_wp2_with fail
            rw [show ((m : Int) + 1) = ((m + 1 : Nat) : Int) by omega]
            refine (IH.out (b - (m + 1)) (by omega) _ y2 (m + 1) b _ rfl HZ5.out (by omega) (by omega) (HL.out.part_below HPT.out).2 HX5.out).mono ?_
            rintro e W6 ⟨rfl, z, hz1, hz2, h6⟩
            have HL6 := Lib.hid (HL.out.left HPT.out hz1 hz2)
            have HX6 := Lib.hid h6
            clear hz1 hz2 h6
            go_wp2_with fail
            go_roundw
            case rel => exact ⟨a, m, _, _, _, z, rfl, by first | rfl | go_num | (congr 1; omega), rfl, rfl, rfl, HL6.out, HX6.out⟩
            case measure => simp [numI]; omega
          ·have hc : 0 < a ∧ ltInt u[a - 1]! u[pv]! = false := by simpa using HT.out
           have HC := Lib.hid hc
           clear HT hc
           go_wp2_with fail
           refine (parteqN HZ.out HX2.out a b pv hp1 hp2 (by omega) hsz).mono ?_
           rintro e W5 ⟨m, y2, rfl, hpt, h5⟩
           have hm1 := hpt.am
           have hm2 := hpt.mb
           have HL5 := Lib.hid (HL.out.equal HC.out.1 HC.out.2 hpt)
           have HX5 := Lib.hid h5
           clear hpt h5
           go_wp2_with fail
           go_roundw
           case rel => exact ⟨m, b, _, _, _, y2, rfl, rfl, rfl, rfl, rfl, HL5.out, HX5.out⟩
           case measure => simp [numI]; omega
        ·obtain rfl : h = 1 := by omega
         go_wp2_with fail
         have hpa := Go.Sort.partialInsertionSort_holds Go.Sort.swo_ltInt u a b (by omega) (by rw [HZ.out]; omega) HL.out.below
         refine (partialN HZ.out HX.out a b (by omega) (by omega) hsz).mono ?_
         rintro e W4 ⟨rfl, h4⟩
         obtain ⟨PQ, hPQ⟩ : ∃ PQ, Go.Sort.partialInsertionSort ltInt u a b = PQ := ⟨_, rfl⟩
         rw [hPQ] at h4 hpa ⊢
         clear hPQ
         obtain ⟨u2, q⟩ := PQ
         simp only at h4 hpa ⊢
         have HX4 := Lib.hid h4
         have HQ := Lib.hid hpa.2
         have HL4 := Lib.hid (HL.out.perm (hpa.1.1.trans HL.out.size) hpa.1)
         have HZ4 : Hid (u2.size = N) := Lib.hid (hpa.1.1.trans HZ.out)
         clear h4 hpa HX HL HZ
         have HX := HX4
         have HL := HL4
         have HZ := HZ4
         clear HX4 HL4 HZ4
         cases q
         ·go_wp2_with fail
          obtain ⟨G, hG⟩ : ∃ G : Nat → Int, ∀ t, G t = u2[t]! := ⟨fun t => u2[t]!, fun _ => rfl⟩
          have HG := Lib.hid hG
          clear hG
          have hcw : ∀ t, t < N → W4.cell? ⟨g, o + t, none⟩ = some (.int .u64 (G t)) := fun t ht => by rw [HG.out]; exact HX.out.cell (by rw [HZ.out]; exact ht)
          obtain ⟨t, ht⟩ : ∃ t : Bool, (decide (0 < a) && !ltInt u2[a - 1]! u2[pv]!) = t := ⟨_, rfl⟩
          have HT := Lib.hid ht
          clear ht
          go_upto_region 17 with fail
          go_cut [87] (CutC w g o r u2 t)
          case first =>
           by_cases h0 : 0 < a
           ·have hn1 : a - 1 < N := by omega
            have hn2 : pv < N := by omega
            have hn3 : (0 : Int) ≤ (a : Int) - 1 := by omega
            cases hl : ltInt (G (a - 1)) (G pv)
            ·go_quiet (first | (go_at_call 184; refine Calls.quiet_of_same (less16' _ _ _)))
             rw [hl]
             go_wp2
             go_meet
             exact ⟨congrArg Value.bool (by rw [← HT.out, ← HG.out, ← HG.out, hl]; simp [h0]), Lib.hid (HX.out.drawn nq)⟩
            ·go_quiet (first | (go_at_call 184; refine Calls.quiet_of_same (less16' _ _ _)))
             rw [hl]
             go_wp2
             go_meet
             exact ⟨congrArg Value.bool (by rw [← HT.out, ← HG.out, ← HG.out, hl]; simp), Lib.hid (HX.out.drawn nq)⟩
           ·have ha0 : a = 0 := by omega
            subst ha0
            go_quiet (first | (go_at_call 184; refine Calls.quiet_of_same (less16' _ _ _)))
            go_wp2
            go_meet
            exact ⟨congrArg Value.bool (by rw [← HT.out]; simp), Lib.hid (HX.out.drawn nq)⟩
          case rest =>
           obtain ⟨rfl, HX2⟩ := hcut
           clear HX hcw
           cases t
           ·clear HT
            go_wp2_with fail
            refine (partN HZ.out HX2.out a b pv hp1 hp2 (by omega) hsz).mono ?_
            rintro e W5 ⟨m, q, y2, rfl, hpt, h5⟩
            have hm1 := hpt.am
            have hm2 := hpt.mb
            have HPT := Lib.hid hpt
            have HX5 := Lib.hid h5
            have HZ5 : Hid (y2.size = N) := Lib.hid (hpt.size.trans HZ.out)
            clear hpt h5 HX2
            by_cases hlr : m - a < b - m
            ·have hd2 : decide ((m : Int) - (a : Int) < (b : Int) - (m : Int)) = true := by simp; omega
             go_wp2_with fail
             refine (IH.out (m - a) (by omega) _ y2 a m _ rfl HZ5.out (by omega) (by omega) (HL.out.part_below HPT.out).1 HX5.out).mono ?_
             rintro e W6 ⟨rfl, z, hz1, hz2, h6⟩
             have HL6 := Lib.hid (HL.out.right HPT.out hz1 hz2)
             have HX6 := Lib.hid h6
             clear hz1 hz2 h6
             go_wp2_with fail
             go_roundw
             case rel => exact ⟨m + 1, b, _, _, _, z, by first | rfl | go_num | (congr 1; omega), rfl, rfl, rfl, rfl, HL6.out, HX6.out⟩
             case measure => simp [numI]; omega
            ·have hd2 : decide ((m : Int) - (a : Int) < (b : Int) - (m : Int)) = false := by simp; omega
             go_wp2_with fail
             rw [show ((m : Int) + 1) = ((m + 1 : Nat) : Int) by omega]
             refine (IH.out (b - (m + 1)) (by omega) _ y2 (m + 1) b _ rfl HZ5.out (by omega) (by omega) (HL.out.part_below HPT.out).2 HX5.out).mono ?_
             rintro e W6 ⟨rfl, z, hz1, hz2, h6⟩
             have HL6 := Lib.hid (HL.out.left HPT.out hz1 hz2)
             have HX6 := Lib.hid h6
             clear hz1 hz2 h6
             go_wp2_with fail
             go_roundw
             case rel => exact ⟨a, m, _, _, _, z, rfl, by first | rfl | go_num | (congr 1; omega), rfl, rfl, rfl, HL6.out, HX6.out⟩
             case measure => simp [numI]; omega
           ·have hc : 0 < a ∧ ltInt u2[a - 1]! u2[pv]! = false := by simpa using HT.out
            have HC := Lib.hid hc
            clear HT hc
            go_wp2_with fail
            refine (parteqN HZ.out HX2.out a b pv hp1 hp2 (by omega) hsz).mono ?_
            rintro e W5 ⟨m, y2, rfl, hpt, h5⟩
            have hm1 := hpt.am
            have hm2 := hpt.mb
            have HL5 := Lib.hid (HL.out.equal HC.out.1 HC.out.2 hpt)
            have HX5 := Lib.hid h5
            clear hpt h5
            go_wp2_with fail
            go_roundw
            case rel => exact ⟨m, b, _, _, _, y2, rfl, rfl, rfl, rfl, rfl, HL5.out, HX5.out⟩
            case measure => simp [numI]; omega
         ·have hr := HL.out.rest u2 (Go.Sort.permIn_refl _ _ _) (HQ.out rfl)
          have HR : Hid (Srtd w g o r d a0 b0 (.returned (.tuple #[])) W4) := Lib.hid ⟨rfl, _, hr.1, hr.2, HX.out⟩
          clear hr
          go_wp2_with fail
          exact bodyPost_ret (results_none rfl _ _ _) rfl HR.out
    ·go_wp2_with fail
     refine (heapN HZ.out HX.out a b (by omega) (by omega) hsz).mono ?_
     rintro e W2 ⟨rfl, h2⟩
     have hi := Go.Sort.heapSort_holds Go.Sort.swo_ltInt x a b ha2 (by rw [HZ.out]; omega)
     have hr := HL.out.rest _ hi.1 hi.2
     have HR : Hid (Srtd w g o r d a0 b0 (.returned (.tuple #[])) W2) := Lib.hid ⟨rfl, _, hr.1, hr.2, h2⟩
     clear h2 hi hr
     go_wp2_with fail
     exact bodyPost_ret (results_none rfl _ _ _) rfl HR.out
end
section
open Go.RowKit
open Go.Sort (swp ltInt size_swp PermIn SortedIn)
def encN (l : List Nat) : List Value := l.map fun (n : Nat) => Value.int .u64 (n : Int)
def OwnU (w : World) (B : Nat) (a : Option Addr) (n cap : Nat) (l : List Nat) : Prop := w.ownsRow B 67 1 (.slice a n cap) n (encN l)
theorem OwnU.len {w : World} {B : Nat} {a : Option Addr} {n cap : Nat} {l : List Nat} (h : OwnU w B a n cap l) : l.length = n := by
 have := h.1
 simpa [encN] using this
def arrI (l : List Nat) : Array Int := (l.map fun (n : Nat) => (n : Int)).toArray
theorem arrI_size (l : List Nat) : (arrI l).size = l.length := by simp [arrI]
theorem arrI_enc (l : List Nat) : encU (arrI l) = (encN l).toArray := by simp [arrI, encU, encN]
theorem OwnU.sr {w : World} {B g n cap : Nat} {l : List Nat} (h : OwnU w B (some ⟨g, 0, none⟩) n cap l) : ∃ r : Array Value, Sr w w g 0 r (arrI l) ∧ n + r.size = cap ∧ n ≤ cap ∧ cap ≤ maxLen ∧ B ≤ g := by
 have hl := h.len
 rcases h.2 with ⟨h0, _⟩ | ⟨g', cap', cur, hv, hB, hg, hnc, hcm, hcs, htk⟩
 ·cases h0
 ·cases hv
  have e : encU (arrI l) ++ cur.extract n cur.size = cur := by
   rw [arrI_enc, ← htk, Nat.mul_one]
   apply Array.toList_inj.1
   simp only [Array.toList_append, Array.toList_extract, List.extract_eq_take_drop]
   rw [List.take_of_length_le (l := cur.toList.drop n) (by simp)]
   exact List.take_append_drop n cur.toList
  have hs : cur.size = cap := by rw [hcs, Nat.mul_one]
  refine ⟨cur.extract n cur.size, Sr.start rfl (by rw [e]; exact hg), by simp; omega, hnc, hcm, hB⟩
theorem Sr.own {w W : World} {B g n cap : Nat} {r : Array Value} {l : List Nat} (h : Sr w W g 0 r (arrI l)) (hl : l.length = n) (hc : n + r.size = cap) (hnc : n ≤ cap) (hcm : cap ≤ maxLen) (hB : B ≤ g) : OwnU W B (some ⟨g, 0, none⟩) n cap l := by
 refine ⟨by simp [encN, hl], .inr ⟨g, cap, encU (arrI l) ++ r, rfl, hB, h.blk, hnc, hcm, ?_, ?_⟩⟩
 ·rw [Array.size_append, encU_size, arrI_size, hl, hc, Nat.mul_one]
 ·rw [arrI_enc, Nat.mul_one, Array.toList_append]
  simp [encN, hl]
def SortU (w : World) (B g n cap : Nat) (l : List Nat) (e : Ending) (W' : World) : Prop :=
 e = .returned (.tuple #[]) ∧ ∃ l' : List Nat, l'.Perm l ∧ l'.Pairwise (· ≤ ·) ∧ OwnU W' B (some ⟨g, 0, none⟩) n cap l' ∧ Kept (fun k => k = g) w W'
theorem back_nat : ∀ (l : List Int), (∀ z ∈ l, 0 ≤ z) → ∃ m : List Nat, l = m.map fun (n : Nat) => (n : Int)
 | [], _ => ⟨[], rfl⟩
 | z :: l, h => by
  obtain ⟨m, rfl⟩ := back_nat l (fun y hy => h y (List.mem_cons_of_mem _ hy))
  have := h z List.mem_cons_self
  exact ⟨z.toNat :: m, by simp; omega⟩
theorem sorted_list {l : List Nat} {x : Array Int} (hp : PermIn 0 l.length (arrI l) x) (hs : SortedIn ltInt 0 l.length x) : ∃ m : List Nat, x = arrI m ∧ m.Perm l ∧ m.Pairwise (· ≤ ·) := by
 have hz : x.size = l.length := by rw [hp.1, arrI_size]
 have hpl : x.toList.Perm (l.map fun (n : Nat) => (n : Int)) := by
  have h := hp.2.2
  have e1 : x.extract 0 l.length = x := by rw [← hz]; simp
  have e2 : (arrI l).extract 0 l.length = arrI l := by rw [← arrI_size l]; simp
  rw [e1, e2] at h
  simpa [arrI] using h
 obtain ⟨m, hm⟩ := back_nat x.toList (fun z hz => by
  have := hpl.mem_iff.1 hz
  obtain ⟨n, _, rfl⟩ := List.mem_map.1 this
  omega)
 have hx : x = arrI m := by
  rw [← Array.toArray_toList (xs := x), hm]; rfl
 refine ⟨m, hx, ?_, ?_⟩
 ·rw [hm] at hpl
  have hj : ∀ k : List Nat, (k.map fun (n : Nat) => (n : Int)).map Int.toNat = k := fun k => by
   rw [List.map_map]
   conv => rhs; rw [← List.map_id k]
   apply List.map_congr_left
   intro n _
   simp
  have := hpl.map Int.toNat
  rwa [hj, hj] at this
 ·rw [List.pairwise_iff_getElem]
  intro i j hi hj hij
  have hlen : m.length = l.length := by rw [← hz, hx, arrI_size]
  have h := hs i j (Nat.zero_le _) hij (by omega)
  have e : ∀ k (hk : k < m.length), x[k]! = (m[k] : Int) := fun k hk => by
   rw [hx]; simp [arrI, hk]
  rw [e i hi, e j hj] at h
  unfold ltInt at h
  simp only [decide_eq_false_iff_not] at h
  omega
set_option maxRecDepth 100000 in
set_option maxHeartbeats 1000000 in
theorem sortU_any {w : World} {B g n cap : Nat} {l : List Nat} (h : OwnU w B (some ⟨g, 0, none⟩) n cap l) (hn : n < 100) : Calls Tryz.prog 132 #[.slice (some ⟨g, 0, none⟩) n cap] w (SortU w B g n cap l) := by
 obtain ⟨r, hs, hc, hnc, hcm, hB⟩ := h.sr
 have hl := h.len
 have HS := Lib.hid hs
 have HF : Hid (l.length = n ∧ n + r.size = cap ∧ n ≤ cap ∧ cap ≤ maxLen ∧ B ≤ g) := Lib.hid ⟨hl, hc, hnc, hcm, hB⟩
 clear h hs hc hnc hcm hB hl
 go_enter Tryz.func132, Tryz.ntmps132
 go_wp2_with fail
 refine (len_x n (n : Int) _ (by omega) (Lib.hid rfl) (by omega) (by omega)).mono ?_
 rintro e w' ⟨rfl, rfl⟩
 go_wp2_with fail
 have hcall := pdq16 w g 0 cap n r hn n w (arrI l) 0 n (Lib.bitLen n : Int) (by omega) (by rw [arrI_size]; exact HF.out.1) (Nat.zero_le _) (Nat.le_refl _) (.inl rfl) HS.out
 refine Calls.mono hcall ?_
 rintro e W2 ⟨rfl, x, hp, hso, h2⟩
 have HR : Hid (SortU w B g n cap l (.returned (.tuple #[])) W2) := by
  obtain ⟨hl, hc, hnc, hcm, hB⟩ := HF.out
  subst hl
  obtain ⟨m, rfl, hm1, hm2⟩ := sorted_list hp hso
  exact Lib.hid ⟨rfl, m, hm1, hm2, h2.own hm1.length_eq hc hnc hcm hB, h2.kept⟩
 clear hp hso h2
 go_wp2_with fail
 go_end0
 exact HR.out
end
end Go.Proofs.YtnekpgmgnepdoaaGreat.Q
end
section
namespace Go.Proofs.YtnekpgmgnepdoaaGreat.Q
open Go.RowKit Go.Shelf
def compRen : Go.Shelf.Ren := ⟨fun | 43 => 133 | n => n, fun | 22 => 178 | 23 => 67 | 0 => 0 | 3 => 3 | 4 => 4 | n => n, fun | n => n⟩
theorem compLaid : SlLaysE.n43 Tryz.prog compRen := {
 mixed := by kernel_rfl,
 f43 := ⟨Tryz.f133.name, by decide, Tryz.func133.trans (congrArg some (by kernel_rfl))⟩,
 t0 := Tryz.underlying0,
 a0 := Tryz.isAgg0,
 z0 := Tryz.sizeOf0,
 v0 := Tryz.zeroValue0,
 t3 := Tryz.underlying3,
 a3 := Tryz.isAgg3,
 z3 := Tryz.sizeOf3,
 v3 := Tryz.zeroValue3,
 t4 := Tryz.underlying4,
 a4 := Tryz.isAgg4,
 z4 := Tryz.sizeOf4,
 v4 := Tryz.zeroValue4,
 t22 := Tryz.underlying178,
 a22 := Tryz.isAgg178,
 z22 := Tryz.sizeOf178,
 v22 := Tryz.zeroValue178,
 a23 := Tryz.isAgg67,
 z23 := Tryz.sizeOf67 }
open Go.Lib in
theorem compact_sorted {d : Array Int} (h : ∀ i j, i < j → j < d.size → d[i]! ≤ d[j]!) : ∀ m, m ≤ d.size → (compactUpTo d m).Pairwise (· < ·) ∧ (∀ x, x ∈ compactUpTo d m ↔ ∃ i, i < m ∧ d[i]! = x)
 | 0, _ => ⟨by simp [compactUpTo], fun x => by simp [compactUpTo]⟩
 | m + 1, hm => by
  obtain ⟨ih1, ih2⟩ := compact_sorted h m (by omega)
  rw [compactUpTo_succ]
  cases hk : keeps d m
  ·have hq : m ≠ 0 ∧ d[m]! = d[m - 1]! := by
    unfold keeps at hk
    simpa [not_or] using hk
   simp only [Bool.false_eq_true, if_false, List.append_nil]
   refine ⟨ih1, fun x => ?_⟩
   rw [ih2]
   constructor
   ·rintro ⟨i, h1, h2⟩; exact ⟨i, by omega, h2⟩
   ·rintro ⟨i, h1, h2⟩
    by_cases e : i = m
    ·exact ⟨m - 1, by omega, by rw [← hq.2, ← e]; exact h2⟩
    ·exact ⟨i, by omega, h2⟩
  ·simp only [if_true]
   refine ⟨?_, fun x => ?_⟩
   ·rw [List.pairwise_append]
    refine ⟨ih1, by simp, fun a ha b hb => ?_⟩
    obtain rfl : b = d[m]! := by simpa using hb
    obtain ⟨i, h1, rfl⟩ := (ih2 a).1 ha
    have hq : m = 0 ∨ d[m]! ≠ d[m - 1]! := by unfold keeps at hk; simpa using hk
    rcases hq with h0 | h0
    ·omega
    ·have e1 := h (m - 1) m (by omega) (by omega)
     by_cases e : i = m - 1
     ·rw [e]; omega
     ·have e2 := h i (m - 1) (by omega) (by omega)
      omega
   ·rw [List.mem_append, ih2]
    simp only [List.mem_singleton]
    constructor
    ·rintro (⟨i, h1, h2⟩ | rfl)
     ·exact ⟨i, by omega, h2⟩
     ·exact ⟨m, by omega, rfl⟩
    ·rintro ⟨i, h1, h2⟩
     by_cases e : i = m
     ·exact .inr (by rw [← h2, e])
     ·exact .inl ⟨i, by omega, h2⟩
theorem put_blk {w : World} {g : Nat} {r : Array Value} {d d' : Array Int} (h : Blk w g 67 (encU d ++ r)) (hs : d'.size = d.size) (q : Nat) :
  Blk (Go.Sort.putRow (Value.int .u64) (Go.Sort.ahead w q) g 0 d') g 67 (encU d' ++ r) ∧ Kept (fun k => k = g) w (Go.Sort.putRow (Value.int .u64) (Go.Sort.ahead w q) g 0 d') := by
 constructor
 ·have hh : (Go.Sort.ahead w q).heap[g]? = some (.cells (encU d ++ r) 67 (0, 0)) := h
  unfold Blk Go.Sort.putRow Go.Sort.mapBlock
  simp only [Array.getElem?_modify, hh, if_true, Option.map_some, Go.Sort.onCells]
  congr 2
  apply Array.ext_getElem?
  intro k
  simp only [Go.Sort.putCells, Array.getElem?_mapIdx, Nat.zero_le, true_and, Nat.zero_add, Nat.sub_zero]
  by_cases hk : k < d'.size
  ·rw [encU_at d' r hk, encU_at d r (by omega)]
   simp [hk]
  ·rw [Array.getElem?_append_right (by rw [encU_size]; omega), Array.getElem?_append_right (by rw [encU_size]; omega), encU_size, encU_size, hs]
   have hk2 : ¬ k < d.size := by omega
   cases r[k - d.size]? <;> simp [hk2]
 ·refine ⟨rfl, rfl, rfl, by simp, fun k _ hn => ?_⟩
  simp only [Go.Sort.putRow, Go.Sort.mapBlock, Array.getElem?_modify, if_neg (fun e => hn (Eq.symm e) : ¬ g = k)]
  rfl
def CompU (w : World) (B g cap : Nat) (l : List Nat) (e : Ending) (W' : World) : Prop :=
 ∃ l' : List Nat, e = .returned (.slice (some ⟨g, 0, none⟩) l'.length cap) ∧ l'.Pairwise (· < ·) ∧ (∀ x, x ∈ l' ↔ x ∈ l) ∧ OwnU W' B (some ⟨g, 0, none⟩) l'.length cap l' ∧ Kept (fun k => k = g) w W'
theorem compU_any {w : World} {B g n cap : Nat} {l : List Nat} (h : OwnU w B (some ⟨g, 0, none⟩) n cap l) (hs : l.Pairwise (· ≤ ·)) (hn : n < 1000000) : Calls Tryz.prog 133 #[.slice (some ⟨g, 0, none⟩) n cap] w (CompU w B g cap l) := by
 obtain ⟨r, hsr, hc, hnc, hcm, hB⟩ := h.sr
 have hl := h.len
 have hsz : (arrI l).size = n := by rw [arrI_size, hl]
 have hcall := AnyE.slices_Compact (P := Tryz.prog) (ρ := compRen) (α := Int) compLaid (Value.int .u64) (fun _ => rfl) (EqlAt.intD _ _ _) (NeqAt.intD _ _ _) 0 Tryz.zeroValue67 g 0 cap (arrI l) w (fun j hj => ⟨hsr.cell hj, hsr.frozen j⟩) (by omega) (by omega)
 rw [hsz] at hcall
 have hcall2 : Calls Tryz.prog 133 #[.slice (some ⟨g, 0, none⟩) n cap] w _ := hcall
 refine hcall2.mono fun e w' ⟨he, q, hw⟩ => ?_
 have hget : ∀ i, i < l.length → (arrI l)[i]! = ((l.getD i 0 : Nat) : Int) := fun i hi => by simp [arrI, hi]
 have hord : ∀ i j, i < j → j < (arrI l).size → (arrI l)[i]! ≤ (arrI l)[j]! := fun i j hij hj => by
  rw [arrI_size] at hj
  rw [hget i (by omega), hget j hj]
  have := List.pairwise_iff_getElem.1 hs i j (by omega) hj hij
  simp only [List.getD, List.getElem?_eq_getElem (show i < l.length by omega), List.getElem?_eq_getElem hj, Option.getD_some]
  omega
 obtain ⟨p1, p2⟩ := compact_sorted hord n (by omega)
 generalize Go.Lib.compactUpTo (arrI l) n = c at he hw p1 p2
 have hc2 : c.length ≤ n := by
  have hnd : c.Nodup := List.nodup_iff_pairwise_ne.2 (p1.imp fun h => by omega)
  have := hnd.length_le_of_subset (l₂ := (List.range n).map fun i => (arrI l)[i]!) (fun x hx => by
   obtain ⟨i, h1, h2⟩ := (p2 x).1 hx
   exact List.mem_map.2 ⟨i, List.mem_range.2 h1, h2⟩)
  simpa using this
 obtain ⟨m, hm⟩ := back_nat c (fun z hz => by
  obtain ⟨i, h1, rfl⟩ := (p2 z).1 hz
  rw [hget i (by omega)]
  omega)
 subst hm
 rw [List.length_map] at he hw hc2
 have hb := put_blk hsr.blk (d' := (m.map (fun (n : Nat) => (n : Int)) ++ List.replicate (n - m.length) 0).toArray) (by simp [arrI_size]; omega) q
 rw [← hw] at hb
 refine ⟨m, he, ?_, fun x => ?_, ?_, hb.2⟩
 ·rw [List.pairwise_map] at p1
  exact p1.imp fun h => by omega
 ·have := p2 (x : Int)
  rw [List.mem_map] at this
  constructor
  ·intro hx
   obtain ⟨i, h1, h2⟩ := this.1 ⟨x, hx, rfl⟩
   rw [hget i (by omega)] at h2
   obtain rfl : l.getD i 0 = x := by omega
   simp [List.getD, List.getElem?_eq_getElem (show i < l.length by omega)]
  ·intro hx
   obtain ⟨i, h1, h2⟩ := List.getElem_of_mem hx
   obtain ⟨y, hy, e⟩ := this.2 ⟨i, by omega, by rw [hget i h1]; simp [List.getD, List.getElem?_eq_getElem h1, h2]⟩
   obtain rfl : y = x := by omega
   exact hy
 ·have e : encU (m.map (fun (n : Nat) => (n : Int)) ++ List.replicate (n - m.length) 0).toArray ++ r = encU (arrI m) ++ (encU (List.replicate (n - m.length) 0).toArray ++ r) := by
   rw [← Array.append_assoc]
   congr 1
   simp [encU, arrI]
  refine Sr.own (w := w) (W := w') (r := encU (List.replicate (n - m.length) 0).toArray ++ r) ⟨rfl, by rw [← e]; exact hb.1, hb.2⟩ rfl (by simp [encU]; omega) (by omega) hcm hB
end Go.Proofs.YtnekpgmgnepdoaaGreat.Q
end
