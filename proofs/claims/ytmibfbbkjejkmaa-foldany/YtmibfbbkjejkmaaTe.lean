/- Walk of the sort over uint16 numbers, fewer than fifty of them. -/
import Derived.Test.YtmibfbbkjejkmaaTd
namespace Go.Proofs.Ytmibfbbkjejkmaa
open Go.RowKit
open Go.Sort (swp ltInt size_swp PermIn SortedIn)

section
variable {w W : World} {g o cap N : Nat} {r : Array Value} {d : Array Int}
theorem insertN (hN : d.size = N) (hs : Sr w W g o r d) (a b : Nat) (hab : a ≤ b) (hb : b ≤ N) (hsz : N < 50) :
    Calls Try.prog 48 #[.slice (some ⟨g, o, none⟩) N cap, .int .i64 (a : Int), .int .i64 (b : Int)] W fun e W' => e = .returned (.tuple #[]) ∧ Sr w W' g o r (Go.Sort.insertionSort ltInt d a b) := by
  subst hN; exact insert16 hs a b hab hb (by omega)
theorem heapN (hN : d.size = N) (hs : Sr w W g o r d) (a b : Nat) (hab : a < b) (hb : b ≤ N) (hsz : N < 50) :
    Calls Try.prog 49 #[.slice (some ⟨g, o, none⟩) N cap, .int .i64 (a : Int), .int .i64 (b : Int)] W fun e W' => e = .returned (.tuple #[]) ∧ Sr w W' g o r (Go.Sort.heapSort ltInt d a b) := by
  subst hN
  have h := heap16 (cap := cap) hs a (b - a) (by omega) (by omega) (by omega)
  rw [show ((a : Int) + ((b - a : Nat) : Int)) = (b : Int) by omega, show a + (b - a) = b by omega] at h
  exact h
theorem breakN (hN : d.size = N) (hs : Sr w W g o r d) (a b : Nat) (h8 : a + 8 ≤ b) (hb : b ≤ N) (hsz : N < 50) :
    Calls Try.prog 50 #[.slice (some ⟨g, o, none⟩) N cap, .int .i64 (a : Int), .int .i64 (b : Int)] W (Shuffled w g o r d a b) := by
  subst hN; exact break16 hs a b h8 (by omega) hb (by omega)
theorem pivotN (hN : d.size = N) (hs : Sr w W g o r d) (a b : Nat) (h8 : a + 8 ≤ b) (hb : b ≤ N) (hsz : N < 50) :
    Calls Try.prog 51 #[.slice (some ⟨g, o, none⟩) N cap, .int .i64 (a : Int), .int .i64 (b : Int)] W (Piv w g o r d a b) := by
  subst hN; exact pivot16 hs a b h8 (by omega) hb (by omega)
theorem partialN (hN : d.size = N) (hs : Sr w W g o r d) (a b : Nat) (h8 : a + 8 ≤ b) (hb : b ≤ N) (hsz : N < 50) :
    Calls Try.prog 53 #[.slice (some ⟨g, o, none⟩) N cap, .int .i64 (a : Int), .int .i64 (b : Int)] W (Found w g o r d a b) := by
  subst hN; exact partial16 hs a b h8 (by omega) hb (by omega)
theorem parteqN (hN : d.size = N) (hs : Sr w W g o r d) (a b pv : Nat) (h1 : a ≤ pv) (h2 : pv < b) (hb : b ≤ N) (hsz : N < 50) :
    Calls Try.prog 55 #[.slice (some ⟨g, o, none⟩) N cap, .int .i64 (a : Int), .int .i64 (b : Int), .int .i64 (pv : Int)] W (PartE w g o r d a b d[pv]!) := by
  subst hN; exact parteq16 hs a b pv _ (Lib.hid rfl) h1 h2 hb (by omega)
theorem partN (hN : d.size = N) (hs : Sr w W g o r d) (a b pv : Nat) (h1 : a ≤ pv) (h2 : pv < b) (hb : b ≤ N) (hsz : N < 50) :
    Calls Try.prog 56 #[.slice (some ⟨g, o, none⟩) N cap, .int .i64 (a : Int), .int .i64 (b : Int), .int .i64 (pv : Int)] W (PartL w g o r d a b) := by
  subst hN; exact part16 hs a b pv h1 h2 hb (by omega)
end

/-- Sorted from a to b, and nothing else has turned. -/
def Srtd (w : World) (g o : Nat) (r : Array Value) (d : Array Int) (a b : Nat) (e : Ending) (W' : World) : Prop :=
  e = .returned (.tuple #[]) ∧ ∃ x : Array Int, PermIn a b d x ∧ SortedIn ltInt a b x ∧ Sr w W' g o r x
def PdqR (w : World) (g o : Nat) (r : Array Value) (d : Array Int) (a0 b0 : Nat) (v1 v2 v3 v8 v9 : Value) (W : World) : Prop :=
  ∃ (a b : Nat) (lim : Int) (wb wp : Bool) (x : Array Int), v1 = .int .i64 (a : Int) ∧ v2 = .int .i64 (b : Int) ∧ v3 = .int .i64 lim ∧ v8 = .bool wb ∧ v9 = .bool wp ∧ Left d x a0 b0 a b ∧ Sr w W g o r x

set_option maxRecDepth 100000 in
set_option maxHeartbeats 16000000 in
theorem pdq16 (w : World) (g o cap N : Nat) (r : Array Value) (hsz : N < 50) (n : Nat) : ∀ (W : World) (d : Array Int) (a0 b0 : Nat) (lim0 : Int), b0 - a0 = n → d.size = N → a0 ≤ b0 → b0 ≤ N → Go.Sort.Below ltInt a0 b0 d → Sr w W g o r d →
    Calls Try.prog 40 #[.slice (some ⟨g, o, none⟩) N cap, .int .i64 (a0 : Int), .int .i64 (b0 : Int), .int .i64 lim0] W (Srtd w g o r d a0 b0) := by
  induction n using Nat.strongRecOn with
  | ind n ih =>
    intro W d a0 b0 lim0 hn hN hab hb hB hs
    have HL0 := Lib.hid (Left.start hab (by rw [hN]; exact hb) hB)
    have HS := Lib.hid hs
    have IH := Lib.hid ih
    have HNN := Lib.hid hN
    have hn1 : b0 - a0 ≤ n := by omega
    clear hs hB ih hn
    go_enter Try.func40, Try.ntmps40
    go_wp2_with fail
    go_loopw [1, 2, 3, 8, 9] (PdqR w g o r d a0 b0) (fun v1 v2 _ _ _ _ => (numI v2 - numI v1).toNat)
    case atStart => exact ⟨a0, b0, lim0, true, true, d, rfl, rfl, rfl, rfl, rfl, HL0.out, HS.out⟩
    case round =>
      obtain ⟨a, b, lim, wb, wp, x, rfl, rfl, rfl, rfl, rfl, hl, hsx⟩ := hrel
      have ha1 := hl.lo
      have ha2 := hl.ab
      have ha3 := hl.hi
      have HZ : Hid (x.size = N) := Lib.hid (hl.size.trans HNN.out)
      have HL := Lib.hid hl
      have HX := Lib.hid hsx
      clear hl hsx HS HL0
      by_cases h12 : b - a ≤ 12
      · have hd : decide ((b : Int) - (a : Int) ≤ 12) = true := by simp; omega
        go_wp2_with fail
        refine (insertN HZ.out HX.out a b ha2 (by omega) hsz).mono ?_
        rintro e W2 ⟨rfl, h2⟩
        have hi := Go.Sort.insertionSort_holds Go.Sort.swo_ltInt x a b ha2 (by rw [HZ.out]; omega)
        have hr := HL.out.rest _ hi.1 hi.2
        have HR : Hid (Srtd w g o r d a0 b0 (.returned (.tuple #[])) W2) := Lib.hid ⟨rfl, _, hr.1, hr.2, h2⟩
        clear h2 hi hr
        go_wp2_with fail
        exact bodyPost_ret (results_none rfl _ _ _) rfl HR.out
      · have hd : decide ((b : Int) - (a : Int) ≤ 12) = false := by simp; omega
        cases hlim : ((lim : Int) == 0)
        · cases wb
          · go_wp2_with fail
            refine (breakN HZ.out HX.out a b (by omega) (by omega) hsz).mono ?_
            rintro e W2 ⟨rfl, y, hy, hp, h2⟩
            have HL2 := Lib.hid (HL.out.perm (hy.trans HL.out.size) hp)
            have HZ2 : Hid (y.size = N) := Lib.hid (hy.trans HZ.out)
            have HX2 := Lib.hid h2
            clear hy hp h2 HL HZ HX
            go_wp2_with fail
            refine (pivotN HZ2.out HX2.out a b (by omega) (by omega) hsz).mono ?_
            rintro e W3 ⟨pv, h, rfl, hp1, hp2, hh, h3⟩
            have HX := Lib.hid h3
            have HL := HL2
            have HZ := HZ2
            clear h3 HX2 HL2 HZ2
            have hh2 : ((h : Int) == 2) = false := by simp; omega
            go_wp2_with fail
            obtain ⟨G, hG⟩ : ∃ G : Nat → Int, ∀ t, G t = y[t]! := ⟨fun t => y[t]!, fun _ => rfl⟩
            have HG := Lib.hid hG
            clear hG
            have hcw : ∀ t, t < N → W3.cell? ⟨g, o + t, none⟩ = some (.int .u16 (G t)) := fun t ht => by rw [HG.out]; exact HX.out.cell (by rw [HZ.out]; exact ht)
            obtain ⟨t, ht⟩ : ∃ t : Bool, (decide (0 < a) && !ltInt y[a - 1]! y[pv]!) = t := ⟨_, rfl⟩
            have HT := Lib.hid ht
            clear ht
            go_upto_region 17 with fail
            go_cut [87] (CutC w g o r y t)
            case first =>
              by_cases h0 : 0 < a
              · have hn1 : a - 1 < N := by omega
                have hn2 : pv < N := by omega
                have hn3 : (0 : Int) ≤ (a : Int) - 1 := by omega
                cases hl : ltInt (G (a - 1)) (G pv)
                · go_quiet (first | (go_at_call 54; refine Calls.quiet_of_same (less16' _ _ _)))
                  rw [hl]
                  go_wp2
                  go_meet
                  exact ⟨congrArg Value.bool (by rw [← HT.out, ← HG.out, ← HG.out, hl]; simp [h0]), Lib.hid (HX.out.drawn nq)⟩
                · go_quiet (first | (go_at_call 54; refine Calls.quiet_of_same (less16' _ _ _)))
                  rw [hl]
                  go_wp2
                  go_meet
                  exact ⟨congrArg Value.bool (by rw [← HT.out, ← HG.out, ← HG.out, hl]; simp), Lib.hid (HX.out.drawn nq)⟩
              · have ha0 : a = 0 := by omega
                subst ha0
                go_quiet (first | (go_at_call 54; refine Calls.quiet_of_same (less16' _ _ _)))
                go_wp2
                go_meet
                exact ⟨congrArg Value.bool (by rw [← HT.out]; simp), Lib.hid (HX.out.drawn nq)⟩
            case rest =>
              obtain ⟨rfl, HX2⟩ := hcut
              clear HX hcw
              cases t
              · clear HT
                go_wp2_with fail
                refine (partN HZ.out HX2.out a b pv hp1 hp2 (by omega) hsz).mono ?_
                rintro e W5 ⟨m, q, y2, rfl, hpt, h5⟩
                have hm1 := hpt.am
                have hm2 := hpt.mb
                have HPT := Lib.hid hpt
                have HX5 := Lib.hid h5
                have HZ5 : Hid (y2.size = N) := Lib.hid (hpt.size.trans HZ.out)
                clear hpt h5 HX2
                by_cases hlr : m - a < b - m
                · have hd2 : decide ((m : Int) - (a : Int) < (b : Int) - (m : Int)) = true := by simp; omega
                  go_wp2_with fail
                  refine (IH.out (m - a) (by omega) _ y2 a m _ rfl HZ5.out (by omega) (by omega) (HL.out.part_below HPT.out).1 HX5.out).mono ?_
                  rintro e W6 ⟨rfl, z, hz1, hz2, h6⟩
                  have HL6 := Lib.hid (HL.out.right HPT.out hz1 hz2)
                  have HX6 := Lib.hid h6
                  clear hz1 hz2 h6
                  go_wp2_with fail
                  go_roundw
                  case rel => exact ⟨m + 1, b, _, _, _, z, by first | rfl | go_num | (congr 1; omega), rfl, rfl, rfl, rfl, HL6.out, HX6.out⟩
                  case measure => simp [numI]; omega
                · have hd2 : decide ((m : Int) - (a : Int) < (b : Int) - (m : Int)) = false := by simp; omega
                  go_wp2_with fail
                  rw [show ((m : Int) + 1) = ((m + 1 : Nat) : Int) by omega]
                  refine (IH.out (b - (m + 1)) (by omega) _ y2 (m + 1) b _ rfl HZ5.out (by omega) (by omega) (HL.out.part_below HPT.out).2 HX5.out).mono ?_
                  rintro e W6 ⟨rfl, z, hz1, hz2, h6⟩
                  have HL6 := Lib.hid (HL.out.left HPT.out hz1 hz2)
                  have HX6 := Lib.hid h6
                  clear hz1 hz2 h6
                  go_wp2_with fail
                  go_roundw
                  case rel => exact ⟨a, m, _, _, _, z, rfl, by first | rfl | go_num | (congr 1; omega), rfl, rfl, rfl, HL6.out, HX6.out⟩
                  case measure => simp [numI]; omega
              · have hc : 0 < a ∧ ltInt y[a - 1]! y[pv]! = false := by simpa using HT.out
                have HC := Lib.hid hc
                clear HT hc
                go_wp2_with fail
                refine (parteqN HZ.out HX2.out a b pv hp1 hp2 (by omega) hsz).mono ?_
                rintro e W5 ⟨m, y2, rfl, hpt, h5⟩
                have hm1 := hpt.am
                have hm2 := hpt.mb
                have HL5 := Lib.hid (HL.out.equal HC.out.1 HC.out.2 hpt)
                have HX5 := Lib.hid h5
                clear hpt h5
                go_wp2_with fail
                go_roundw
                case rel => exact ⟨m, b, _, _, _, y2, rfl, rfl, rfl, rfl, rfl, HL5.out, HX5.out⟩
                case measure => simp [numI]; omega
          · go_wp2_with fail
            have HL2 := HL
            have HZ2 := HZ
            have HX2 := HX
            clear HL HZ HX
            refine (pivotN HZ2.out HX2.out a b (by omega) (by omega) hsz).mono ?_
            rintro e W3 ⟨pv, h, rfl, hp1, hp2, hh, h3⟩
            have HX := Lib.hid h3
            have HL := HL2
            have HZ := HZ2
            clear h3 HX2 HL2 HZ2
            have hh2 : ((h : Int) == 2) = false := by simp; omega
            cases wp
            · go_wp2_with fail
              obtain ⟨G, hG⟩ : ∃ G : Nat → Int, ∀ t, G t = x[t]! := ⟨fun t => x[t]!, fun _ => rfl⟩
              have HG := Lib.hid hG
              clear hG
              have hcw : ∀ t, t < N → W3.cell? ⟨g, o + t, none⟩ = some (.int .u16 (G t)) := fun t ht => by rw [HG.out]; exact HX.out.cell (by rw [HZ.out]; exact ht)
              obtain ⟨t, ht⟩ : ∃ t : Bool, (decide (0 < a) && !ltInt x[a - 1]! x[pv]!) = t := ⟨_, rfl⟩
              have HT := Lib.hid ht
              clear ht
              go_upto_region 17 with fail
              go_cut [87] (CutC w g o r x t)
              case first =>
                by_cases h0 : 0 < a
                · have hn1 : a - 1 < N := by omega
                  have hn2 : pv < N := by omega
                  have hn3 : (0 : Int) ≤ (a : Int) - 1 := by omega
                  cases hl : ltInt (G (a - 1)) (G pv)
                  · go_quiet (first | (go_at_call 54; refine Calls.quiet_of_same (less16' _ _ _)))
                    rw [hl]
                    go_wp2
                    go_meet
                    exact ⟨congrArg Value.bool (by rw [← HT.out, ← HG.out, ← HG.out, hl]; simp [h0]), Lib.hid (HX.out.drawn nq)⟩
                  · go_quiet (first | (go_at_call 54; refine Calls.quiet_of_same (less16' _ _ _)))
                    rw [hl]
                    go_wp2
                    go_meet
                    exact ⟨congrArg Value.bool (by rw [← HT.out, ← HG.out, ← HG.out, hl]; simp), Lib.hid (HX.out.drawn nq)⟩
                · have ha0 : a = 0 := by omega
                  subst ha0
                  go_quiet (first | (go_at_call 54; refine Calls.quiet_of_same (less16' _ _ _)))
                  go_wp2
                  go_meet
                  exact ⟨congrArg Value.bool (by rw [← HT.out]; simp), Lib.hid (HX.out.drawn nq)⟩
              case rest =>
                obtain ⟨rfl, HX2⟩ := hcut
                clear HX hcw
                cases t
                · clear HT
                  go_wp2_with fail
                  refine (partN HZ.out HX2.out a b pv hp1 hp2 (by omega) hsz).mono ?_
                  rintro e W5 ⟨m, q, y2, rfl, hpt, h5⟩
                  have hm1 := hpt.am
                  have hm2 := hpt.mb
                  have HPT := Lib.hid hpt
                  have HX5 := Lib.hid h5
                  have HZ5 : Hid (y2.size = N) := Lib.hid (hpt.size.trans HZ.out)
                  clear hpt h5 HX2
                  by_cases hlr : m - a < b - m
                  · have hd2 : decide ((m : Int) - (a : Int) < (b : Int) - (m : Int)) = true := by simp; omega
                    go_wp2_with fail
                    refine (IH.out (m - a) (by omega) _ y2 a m _ rfl HZ5.out (by omega) (by omega) (HL.out.part_below HPT.out).1 HX5.out).mono ?_
                    rintro e W6 ⟨rfl, z, hz1, hz2, h6⟩
                    have HL6 := Lib.hid (HL.out.right HPT.out hz1 hz2)
                    have HX6 := Lib.hid h6
                    clear hz1 hz2 h6
                    go_wp2_with fail
                    go_roundw
                    case rel => exact ⟨m + 1, b, _, _, _, z, by first | rfl | go_num | (congr 1; omega), rfl, rfl, rfl, rfl, HL6.out, HX6.out⟩
                    case measure => simp [numI]; omega
                  · have hd2 : decide ((m : Int) - (a : Int) < (b : Int) - (m : Int)) = false := by simp; omega
                    go_wp2_with fail
                    rw [show ((m : Int) + 1) = ((m + 1 : Nat) : Int) by omega]
                    refine (IH.out (b - (m + 1)) (by omega) _ y2 (m + 1) b _ rfl HZ5.out (by omega) (by omega) (HL.out.part_below HPT.out).2 HX5.out).mono ?_
                    rintro e W6 ⟨rfl, z, hz1, hz2, h6⟩
                    have HL6 := Lib.hid (HL.out.left HPT.out hz1 hz2)
                    have HX6 := Lib.hid h6
                    clear hz1 hz2 h6
                    go_wp2_with fail
                    go_roundw
                    case rel => exact ⟨a, m, _, _, _, z, rfl, by first | rfl | go_num | (congr 1; omega), rfl, rfl, rfl, HL6.out, HX6.out⟩
                    case measure => simp [numI]; omega
                · have hc : 0 < a ∧ ltInt x[a - 1]! x[pv]! = false := by simpa using HT.out
                  have HC := Lib.hid hc
                  clear HT hc
                  go_wp2_with fail
                  refine (parteqN HZ.out HX2.out a b pv hp1 hp2 (by omega) hsz).mono ?_
                  rintro e W5 ⟨m, y2, rfl, hpt, h5⟩
                  have hm1 := hpt.am
                  have hm2 := hpt.mb
                  have HL5 := Lib.hid (HL.out.equal HC.out.1 HC.out.2 hpt)
                  have HX5 := Lib.hid h5
                  clear hpt h5
                  go_wp2_with fail
                  go_roundw
                  case rel => exact ⟨m, b, _, _, _, y2, rfl, rfl, rfl, rfl, rfl, HL5.out, HX5.out⟩
                  case measure => simp [numI]; omega
            · by_cases h01 : h = 0
              · subst h01
                go_wp2_with fail
                obtain ⟨G, hG⟩ : ∃ G : Nat → Int, ∀ t, G t = x[t]! := ⟨fun t => x[t]!, fun _ => rfl⟩
                have HG := Lib.hid hG
                clear hG
                have hcw : ∀ t, t < N → W3.cell? ⟨g, o + t, none⟩ = some (.int .u16 (G t)) := fun t ht => by rw [HG.out]; exact HX.out.cell (by rw [HZ.out]; exact ht)
                obtain ⟨t, ht⟩ : ∃ t : Bool, (decide (0 < a) && !ltInt x[a - 1]! x[pv]!) = t := ⟨_, rfl⟩
                have HT := Lib.hid ht
                clear ht
                go_upto_region 17 with fail
                go_cut [87] (CutC w g o r x t)
                case first =>
                  by_cases h0 : 0 < a
                  · have hn1 : a - 1 < N := by omega
                    have hn2 : pv < N := by omega
                    have hn3 : (0 : Int) ≤ (a : Int) - 1 := by omega
                    cases hl : ltInt (G (a - 1)) (G pv)
                    · go_quiet (first | (go_at_call 54; refine Calls.quiet_of_same (less16' _ _ _)))
                      rw [hl]
                      go_wp2
                      go_meet
                      exact ⟨congrArg Value.bool (by rw [← HT.out, ← HG.out, ← HG.out, hl]; simp [h0]), Lib.hid (HX.out.drawn nq)⟩
                    · go_quiet (first | (go_at_call 54; refine Calls.quiet_of_same (less16' _ _ _)))
                      rw [hl]
                      go_wp2
                      go_meet
                      exact ⟨congrArg Value.bool (by rw [← HT.out, ← HG.out, ← HG.out, hl]; simp), Lib.hid (HX.out.drawn nq)⟩
                  · have ha0 : a = 0 := by omega
                    subst ha0
                    go_quiet (first | (go_at_call 54; refine Calls.quiet_of_same (less16' _ _ _)))
                    go_wp2
                    go_meet
                    exact ⟨congrArg Value.bool (by rw [← HT.out]; simp), Lib.hid (HX.out.drawn nq)⟩
                case rest =>
                  obtain ⟨rfl, HX2⟩ := hcut
                  clear HX hcw
                  cases t
                  · clear HT
                    go_wp2_with fail
                    refine (partN HZ.out HX2.out a b pv hp1 hp2 (by omega) hsz).mono ?_
                    rintro e W5 ⟨m, q, y2, rfl, hpt, h5⟩
                    have hm1 := hpt.am
                    have hm2 := hpt.mb
                    have HPT := Lib.hid hpt
                    have HX5 := Lib.hid h5
                    have HZ5 : Hid (y2.size = N) := Lib.hid (hpt.size.trans HZ.out)
                    clear hpt h5 HX2
                    by_cases hlr : m - a < b - m
                    · have hd2 : decide ((m : Int) - (a : Int) < (b : Int) - (m : Int)) = true := by simp; omega
                      go_wp2_with fail
                      refine (IH.out (m - a) (by omega) _ y2 a m _ rfl HZ5.out (by omega) (by omega) (HL.out.part_below HPT.out).1 HX5.out).mono ?_
                      rintro e W6 ⟨rfl, z, hz1, hz2, h6⟩
                      have HL6 := Lib.hid (HL.out.right HPT.out hz1 hz2)
                      have HX6 := Lib.hid h6
                      clear hz1 hz2 h6
                      go_wp2_with fail
                      go_roundw
                      case rel => exact ⟨m + 1, b, _, _, _, z, by first | rfl | go_num | (congr 1; omega), rfl, rfl, rfl, rfl, HL6.out, HX6.out⟩
                      case measure => simp [numI]; omega
                    · have hd2 : decide ((m : Int) - (a : Int) < (b : Int) - (m : Int)) = false := by simp; omega
                      go_wp2_with fail
                      rw [show ((m : Int) + 1) = ((m + 1 : Nat) : Int) by omega]
                      refine (IH.out (b - (m + 1)) (by omega) _ y2 (m + 1) b _ rfl HZ5.out (by omega) (by omega) (HL.out.part_below HPT.out).2 HX5.out).mono ?_
                      rintro e W6 ⟨rfl, z, hz1, hz2, h6⟩
                      have HL6 := Lib.hid (HL.out.left HPT.out hz1 hz2)
                      have HX6 := Lib.hid h6
                      clear hz1 hz2 h6
                      go_wp2_with fail
                      go_roundw
                      case rel => exact ⟨a, m, _, _, _, z, rfl, by first | rfl | go_num | (congr 1; omega), rfl, rfl, rfl, HL6.out, HX6.out⟩
                      case measure => simp [numI]; omega
                  · have hc : 0 < a ∧ ltInt x[a - 1]! x[pv]! = false := by simpa using HT.out
                    have HC := Lib.hid hc
                    clear HT hc
                    go_wp2_with fail
                    refine (parteqN HZ.out HX2.out a b pv hp1 hp2 (by omega) hsz).mono ?_
                    rintro e W5 ⟨m, y2, rfl, hpt, h5⟩
                    have hm1 := hpt.am
                    have hm2 := hpt.mb
                    have HL5 := Lib.hid (HL.out.equal HC.out.1 HC.out.2 hpt)
                    have HX5 := Lib.hid h5
                    clear hpt h5
                    go_wp2_with fail
                    go_roundw
                    case rel => exact ⟨m, b, _, _, _, y2, rfl, rfl, rfl, rfl, rfl, HL5.out, HX5.out⟩
                    case measure => simp [numI]; omega
              · obtain rfl : h = 1 := by omega
                go_wp2_with fail
                refine (partialN HZ.out HX.out a b (by omega) (by omega) hsz).mono ?_
                rintro e W4 ⟨q, rfl, h4, hq⟩
                have HX4 := Lib.hid h4
                have HQ := Lib.hid hq
                clear h4 hq HX
                have HX := HX4
                clear HX4
                cases q
                · go_wp2_with fail
                  obtain ⟨G, hG⟩ : ∃ G : Nat → Int, ∀ t, G t = x[t]! := ⟨fun t => x[t]!, fun _ => rfl⟩
                  have HG := Lib.hid hG
                  clear hG
                  have hcw : ∀ t, t < N → W4.cell? ⟨g, o + t, none⟩ = some (.int .u16 (G t)) := fun t ht => by rw [HG.out]; exact HX.out.cell (by rw [HZ.out]; exact ht)
                  obtain ⟨t, ht⟩ : ∃ t : Bool, (decide (0 < a) && !ltInt x[a - 1]! x[pv]!) = t := ⟨_, rfl⟩
                  have HT := Lib.hid ht
                  clear ht
                  go_upto_region 17 with fail
                  go_cut [87] (CutC w g o r x t)
                  case first =>
                    by_cases h0 : 0 < a
                    · have hn1 : a - 1 < N := by omega
                      have hn2 : pv < N := by omega
                      have hn3 : (0 : Int) ≤ (a : Int) - 1 := by omega
                      cases hl : ltInt (G (a - 1)) (G pv)
                      · go_quiet (first | (go_at_call 54; refine Calls.quiet_of_same (less16' _ _ _)))
                        rw [hl]
                        go_wp2
                        go_meet
                        exact ⟨congrArg Value.bool (by rw [← HT.out, ← HG.out, ← HG.out, hl]; simp [h0]), Lib.hid (HX.out.drawn nq)⟩
                      · go_quiet (first | (go_at_call 54; refine Calls.quiet_of_same (less16' _ _ _)))
                        rw [hl]
                        go_wp2
                        go_meet
                        exact ⟨congrArg Value.bool (by rw [← HT.out, ← HG.out, ← HG.out, hl]; simp), Lib.hid (HX.out.drawn nq)⟩
                    · have ha0 : a = 0 := by omega
                      subst ha0
                      go_quiet (first | (go_at_call 54; refine Calls.quiet_of_same (less16' _ _ _)))
                      go_wp2
                      go_meet
                      exact ⟨congrArg Value.bool (by rw [← HT.out]; simp), Lib.hid (HX.out.drawn nq)⟩
                  case rest =>
                    obtain ⟨rfl, HX2⟩ := hcut
                    clear HX hcw
                    cases t
                    · clear HT
                      go_wp2_with fail
                      refine (partN HZ.out HX2.out a b pv hp1 hp2 (by omega) hsz).mono ?_
                      rintro e W5 ⟨m, q, y2, rfl, hpt, h5⟩
                      have hm1 := hpt.am
                      have hm2 := hpt.mb
                      have HPT := Lib.hid hpt
                      have HX5 := Lib.hid h5
                      have HZ5 : Hid (y2.size = N) := Lib.hid (hpt.size.trans HZ.out)
                      clear hpt h5 HX2
                      by_cases hlr : m - a < b - m
                      · have hd2 : decide ((m : Int) - (a : Int) < (b : Int) - (m : Int)) = true := by simp; omega
                        go_wp2_with fail
                        refine (IH.out (m - a) (by omega) _ y2 a m _ rfl HZ5.out (by omega) (by omega) (HL.out.part_below HPT.out).1 HX5.out).mono ?_
                        rintro e W6 ⟨rfl, z, hz1, hz2, h6⟩
                        have HL6 := Lib.hid (HL.out.right HPT.out hz1 hz2)
                        have HX6 := Lib.hid h6
                        clear hz1 hz2 h6
                        go_wp2_with fail
                        go_roundw
                        case rel => exact ⟨m + 1, b, _, _, _, z, by first | rfl | go_num | (congr 1; omega), rfl, rfl, rfl, rfl, HL6.out, HX6.out⟩
                        case measure => simp [numI]; omega
                      · have hd2 : decide ((m : Int) - (a : Int) < (b : Int) - (m : Int)) = false := by simp; omega
                        go_wp2_with fail
                        rw [show ((m : Int) + 1) = ((m + 1 : Nat) : Int) by omega]
                        refine (IH.out (b - (m + 1)) (by omega) _ y2 (m + 1) b _ rfl HZ5.out (by omega) (by omega) (HL.out.part_below HPT.out).2 HX5.out).mono ?_
                        rintro e W6 ⟨rfl, z, hz1, hz2, h6⟩
                        have HL6 := Lib.hid (HL.out.left HPT.out hz1 hz2)
                        have HX6 := Lib.hid h6
                        clear hz1 hz2 h6
                        go_wp2_with fail
                        go_roundw
                        case rel => exact ⟨a, m, _, _, _, z, rfl, by first | rfl | go_num | (congr 1; omega), rfl, rfl, rfl, HL6.out, HX6.out⟩
                        case measure => simp [numI]; omega
                    · have hc : 0 < a ∧ ltInt x[a - 1]! x[pv]! = false := by simpa using HT.out
                      have HC := Lib.hid hc
                      clear HT hc
                      go_wp2_with fail
                      refine (parteqN HZ.out HX2.out a b pv hp1 hp2 (by omega) hsz).mono ?_
                      rintro e W5 ⟨m, y2, rfl, hpt, h5⟩
                      have hm1 := hpt.am
                      have hm2 := hpt.mb
                      have HL5 := Lib.hid (HL.out.equal HC.out.1 HC.out.2 hpt)
                      have HX5 := Lib.hid h5
                      clear hpt h5
                      go_wp2_with fail
                      go_roundw
                      case rel => exact ⟨m, b, _, _, _, y2, rfl, rfl, rfl, rfl, rfl, HL5.out, HX5.out⟩
                      case measure => simp [numI]; omega
                · have hr := HL.out.rest x (Go.Sort.permIn_refl _ _ _) (sorted_of_next (HQ.out rfl))
                  have HR : Hid (Srtd w g o r d a0 b0 (.returned (.tuple #[])) W4) := Lib.hid ⟨rfl, _, hr.1, hr.2, HX.out⟩
                  clear hr
                  go_wp2_with fail
                  exact bodyPost_ret (results_none rfl _ _ _) rfl HR.out
        · go_wp2_with fail
          refine (heapN HZ.out HX.out a b (by omega) (by omega) hsz).mono ?_
          rintro e W2 ⟨rfl, h2⟩
          have hi := Go.Sort.heapSort_holds Go.Sort.swo_ltInt x a b ha2 (by rw [HZ.out]; omega)
          have hr := HL.out.rest _ hi.1 hi.2
          have HR : Hid (Srtd w g o r d a0 b0 (.returned (.tuple #[])) W2) := Lib.hid ⟨rfl, _, hr.1, hr.2, h2⟩
          clear h2 hi hr
          go_wp2_with fail
          exact bodyPost_ret (results_none rfl _ _ _) rfl HR.out

end Go.Proofs.Ytmibfbbkjejkmaa
