import Derived.Test.YtnekpgmgnepdoaaGreatWag
import Derived.Test.YtnekpgmgnepdoaaGreatWaj
namespace Go.Proofs.YtnekpgmgnepdoaaGreat.Q
section
open Go.RowKit
open Go.Sort (swp ltInt size_swp PermIn SortedIn reverseLoop reverseRange partialIns partialInsertionSort scanSorted shiftDown shiftUp)
theorem Sr.bx {w W W' : World} {g o p : Nat} {r : Array Value} {d : Array Int} {t : TypeId} {v : Value} (h : Sr w W g o r d) (hp : w.heap.size ≤ p) (hn : g ≠ p) (hb : Bx W W' p t v) : Sr w W' g o r d :=
 ⟨h.zero, h.blk.kept hb.kept hn, h.kept.trans hb.kept (fun _ hk => .inr (by rw [hk]; exact hp))⟩
theorem Sr.grow {w W W' : World} {g o : Nat} {r : Array Value} {d : Array Int} (h : Sr w W g o r d) (hb : Below W.heap.size W W') : Sr w W' g o r d :=
 ⟨h.zero, h.blk.below hb, h.kept.trans (Kept.of_below (S := fun _ => False) hb) (fun _ hk => hk.elim)⟩
def Piv (w : World) (g o : Nat) (r : Array Value) (d : Array Int) (a b : Nat) (e : Ending) (W' : World) : Prop :=
 ∃ p h : Nat, e = .returned (.tuple #[.int .i64 (p : Int), .int .i64 (h : Int)]) ∧ a ≤ p ∧ p < b ∧ h ≤ 2 ∧ Sr w W' g o r d
set_option maxRecDepth 100000 in
set_option maxHeartbeats 1000000 in
theorem pivot16s {w W : World} {g o cap : Nat} {r : Array Value} {d : Array Int} (hs : Sr w W g o r d) (a b : Nat) (h8 : a + 8 ≤ b) (h50 : b < a + 50) (hb : b ≤ d.size) (hsz : d.size < 1000000) :
  Calls Tryz.prog 181 #[.slice (some ⟨g, o, none⟩) d.size cap, .int .i64 (a : Int), .int .i64 (b : Int)] W (Piv w g o r d a b) := by
 have HS := Lib.hid hs
 clear hs
 have hn50 : decide ((50 : Int) ≤ (b : Int) - (a : Int)) = false := by simp; omega
 have hn8 : decide ((8 : Int) ≤ (b : Int) - (a : Int)) = true := by simp; omega
 go_enter Tryz.func181, Tryz.ntmps181
 go_wp2_with fail
 rw [show ((a : Int) + ((b : Int) - (a : Int)) / 4) = ((a + (b - a) / 4 : Nat) : Int) by omega, show ((a : Int) + ((b : Int) - (a : Int)) / 4 * 2) = ((a + (b - a) / 4 * 2 : Nat) : Int) by omega, show ((a : Int) + ((b : Int) - (a : Int)) / 4 * 3) = ((a + (b - a) / 4 * 3 : Nat) : Int) by omega]
 have HG : Hid (g ≠ W.heap.size) := Lib.hid (fun e => by have := HS.out.blk.lt; omega)
 have HA : Hid (Sr w (W.alloc (.cells #[.int .i64 0] 3)) g o r d) := Lib.hid (HS.out.grow (below_one W _))
 have HM : Hid (Md (W.alloc (.cells #[.int .i64 0] 3)) (W.alloc (.cells #[.int .i64 0] 3)) g o d W.heap.size 0) := Lib.hid ⟨fun t ht => HA.out.cell ht, HG.out, ⟨Blk.new W 3 _, Kept.refl _ _⟩⟩
 have HK : Hid (w.heap.size ≤ W.heap.size) := Lib.hid HS.out.kept.size
 clear HS
 generalize W.alloc (.cells #[.int .i64 0] 3) = W1 at HA HM
 generalize W.heap.size = p at HG HM HK
 refine (median16 HM.out (a + (b - a) / 4) (a + (b - a) / 4 * 2) (a + (b - a) / 4 * 3) (by omega) (by omega) (by omega) (by omega) hsz).mono ?_
 rintro e W2 ⟨m, s, rfl, hm, hs3, hbx⟩
 have HS2 := Lib.hid (HA.out.bx HK.out HG.out hbx)
 have hc := hbx.cell
 have hm1 : a ≤ m ∧ m < b := by omega
 clear hbx HM HA hm hn8 hn50
 by_cases h0 : s = 0
 ·subst h0
  go_wp2_with fail
  exact bodyPost_ret (v := .tuple #[.int .i64 (m : Int), .int .i64 (1 : Int)]) (by simp [results, Tryz.results181, go_sem]) rfl ⟨m, 1, rfl, hm1.1, hm1.2, by omega, HS2.out⟩
 ·have hz1 : ((s : Int) == 0) = false := by simp; omega
  have hz2 : ((s : Int) == 12) = false := by simp; omega
  go_wp2_with fail
  exact bodyPost_ret (v := .tuple #[.int .i64 (m : Int), .int .i64 (0 : Int)]) (by simp [results, Tryz.results181, go_sem]) rfl ⟨m, 0, rfl, hm1.1, hm1.2, by omega, HS2.out⟩
theorem Md.base {w W : World} {g o p s : Nat} {d : Array Int} (h : Md w W g o d p s) : Md W W g o d p s := ⟨h.rd, h.ne, h.bx.blk, Kept.refl _ _⟩
set_option maxRecDepth 100000 in
set_option maxHeartbeats 1000000 in
theorem medadj16 {W : World} {g o cap p s : Nat} {d : Array Int} (h : Md W W g o d p s) (a : Nat) (ha : 1 ≤ a) (hb : a + 1 < d.size) (hs : s < 900) (hsz : d.size < 1000000) :
  Calls Tryz.prog 199 #[.slice (some ⟨g, o, none⟩) d.size cap, .int .i64 (a : Int), .pointer (some ⟨p, 0, none⟩)] W (Med W p (a - 1) a (a + 1) s) := by
 have H := Lib.hid h
 clear h
 go_enter Tryz.func199, Tryz.ntmps199
 go_wp2_with fail
 rw [show ((a : Int) - 1) = ((a - 1 : Nat) : Int) by omega, show ((a : Int) + 1) = ((a + 1 : Nat) : Int) by omega]
 refine (median16 H.out (a - 1) a (a + 1) (by omega) (by omega) (by omega) hs hsz).mono ?_
 rintro e W3 ⟨x, s', rfl, hx, hs', hb3⟩
 have H3 := Lib.hid hb3
 clear hb3
 go_wp2_with fail
 go_ret
 exact ⟨x, s', rfl, hx, hs', H3.out⟩
set_option maxRecDepth 100000 in
set_option maxHeartbeats 2000000 in
theorem pivot16l {w W : World} {g o cap : Nat} {r : Array Value} {d : Array Int} (hs : Sr w W g o r d) (a b : Nat) (h50 : a + 50 ≤ b) (hb : b ≤ d.size) (hsz : d.size < 1000000) :
  Calls Tryz.prog 181 #[.slice (some ⟨g, o, none⟩) d.size cap, .int .i64 (a : Int), .int .i64 (b : Int)] W (Piv w g o r d a b) := by
 have HS := Lib.hid hs
 clear hs
 have hn50 : decide ((50 : Int) ≤ (b : Int) - (a : Int)) = true := by simp; omega
 have hn8 : decide ((8 : Int) ≤ (b : Int) - (a : Int)) = true := by simp; omega
 go_enter Tryz.func181, Tryz.ntmps181
 go_wp2_with fail
 rw [show ((a : Int) + ((b : Int) - (a : Int)) / 4) = ((a + (b - a) / 4 : Nat) : Int) by omega, show ((a : Int) + ((b : Int) - (a : Int)) / 4 * 2) = ((a + (b - a) / 4 * 2 : Nat) : Int) by omega, show ((a : Int) + ((b : Int) - (a : Int)) / 4 * 3) = ((a + (b - a) / 4 * 3 : Nat) : Int) by omega]
 have HG : Hid (g ≠ W.heap.size) := Lib.hid (fun e => by have := HS.out.blk.lt; omega)
 have HA : Hid (Sr w (W.alloc (.cells #[.int .i64 0] 3)) g o r d) := Lib.hid (HS.out.grow (below_one W _))
 have HM : Hid (Md (W.alloc (.cells #[.int .i64 0] 3)) (W.alloc (.cells #[.int .i64 0] 3)) g o d W.heap.size 0) := Lib.hid ⟨fun t ht => HA.out.cell ht, HG.out, ⟨Blk.new W 3 _, Kept.refl _ _⟩⟩
 have HK : Hid (w.heap.size ≤ W.heap.size) := Lib.hid HS.out.kept.size
 clear HS
 generalize W.alloc (.cells #[.int .i64 0] 3) = W1 at HA HM
 generalize W.heap.size = p at HG HM HK
 refine (medadj16 HM.out (a + (b - a) / 4) (by omega) (by omega) (by omega) hsz).mono ?_
 rintro e W2 ⟨m1, s1, rfl, hm1, hs1, hbx⟩
 have HS2 := Lib.hid (HA.out.bx HK.out HG.out hbx)
 have HM2 := Lib.hid (HM.out.next hbx).base
 clear hbx HM HA
 go_wp2_with fail
 refine (medadj16 HM2.out (a + (b - a) / 4 * 2) (by omega) (by omega) (by omega) hsz).mono ?_
 rintro e W3 ⟨m2, s2, rfl, hm2, hs2, hbx⟩
 have HS3 := Lib.hid (HS2.out.bx HK.out HG.out hbx)
 have HM3 := Lib.hid (HM2.out.next hbx).base
 clear hbx HM2 HS2
 go_wp2_with fail
 refine (medadj16 HM3.out (a + (b - a) / 4 * 3) (by omega) (by omega) (by omega) hsz).mono ?_
 rintro e W4 ⟨m3, s3, rfl, hm3, hs3, hbx⟩
 have HS4 := Lib.hid (HS3.out.bx HK.out HG.out hbx)
 have HM4 := Lib.hid (HM3.out.next hbx).base
 clear hbx HM3 HS3
 go_wp2_with fail
 refine (median16 HM4.out m1 m2 m3 (by omega) (by omega) (by omega) (by omega) hsz).mono ?_
 rintro e W5 ⟨m, s, rfl, hm, hs3, hbx⟩
 have HS5 := Lib.hid (HS4.out.bx HK.out HG.out hbx)
 have hc := hbx.cell
 have hma : a ≤ m ∧ m < b := by omega
 clear hbx HM4 HS4 hm hn8 hn50 hm1 hm2 hm3
 by_cases h0 : s = 0
 ·subst h0
  go_wp2_with fail
  exact bodyPost_ret (v := .tuple #[.int .i64 (m : Int), .int .i64 (1 : Int)]) (by simp [results, Tryz.results181, go_sem]) rfl ⟨m, 1, rfl, hma.1, hma.2, by omega, HS5.out⟩
 ·by_cases h12 : s = 12
  ·subst h12
   go_wp2_with fail
   exact bodyPost_ret (v := .tuple #[.int .i64 (m : Int), .int .i64 (2 : Int)]) (by simp [results, Tryz.results181, go_sem]) rfl ⟨m, 2, rfl, hma.1, hma.2, by omega, HS5.out⟩
  ·have hz1 : ((s : Int) == 0) = false := by simp; omega
   have hz2 : ((s : Int) == 12) = false := by simp; omega
   go_wp2_with fail
   exact bodyPost_ret (v := .tuple #[.int .i64 (m : Int), .int .i64 (0 : Int)]) (by simp [results, Tryz.results181, go_sem]) rfl ⟨m, 0, rfl, hma.1, hma.2, by omega, HS5.out⟩
theorem pivot16 {w W : World} {g o cap : Nat} {r : Array Value} {d : Array Int} (hs : Sr w W g o r d) (a b : Nat) (h8 : a + 8 ≤ b) (hb : b ≤ d.size) (hsz : d.size < 1000000) :
  Calls Tryz.prog 181 #[.slice (some ⟨g, o, none⟩) d.size cap, .int .i64 (a : Int), .int .i64 (b : Int)] W (Piv w g o r d a b) := by
 by_cases h : b < a + 50
 ·exact pivot16s hs a b h8 h hb hsz
 ·exact pivot16l hs a b (by omega) hb hsz
def RevR (w : World) (g o : Nat) (r : Array Value) (d : Array Int) (a b : Nat) (v u : Value) (W : World) : Prop :=
 ∃ (i j : Nat) (x : Array Int), v = .int .i64 (i : Int) ∧ u = .int .i64 (j : Int) ∧ a ≤ i ∧ j < b ∧ x.size = d.size ∧ Sr w W g o r x ∧ reverseLoop i j x = reverseRange d a b
theorem rev_step {i j : Nat} {d : Array Int} (h : i < j) : reverseLoop i j d = reverseLoop (i + 1) (j - 1) (swp d i j) := by
 conv => lhs; unfold reverseLoop
 rw [if_pos h]
theorem rev_end {i j : Nat} {d : Array Int} (h : ¬ i < j) : reverseLoop i j d = d := by
 unfold reverseLoop
 rw [if_neg h]
set_option maxRecDepth 100000 in
set_option maxHeartbeats 1000000 in
theorem reverse16 {w W : World} {g o cap : Nat} {r : Array Value} {d : Array Int} (hs : Sr w W g o r d) (a b : Nat) (hab : a < b) (hb : b ≤ d.size) (hsz : d.size < 1000000) :
  Calls Tryz.prog 182 #[.slice (some ⟨g, o, none⟩) d.size cap, .int .i64 (a : Int), .int .i64 (b : Int)] W fun e W' => e = .returned (.tuple #[]) ∧ Sr w W' g o r (reverseRange d a b) := by
 have HS := Lib.hid hs
 clear hs
 go_enter Tryz.func182, Tryz.ntmps182
 go_wp2
 go_loopw [6, 7] (RevR w g o r d a b) (fun _ v _ => (numI v).toNat)
 case atStart => exact ⟨a, b - 1, d, rfl, by congr 1; omega, by omega, by omega, rfl, HS.out, rfl⟩
 case round =>
  obtain ⟨i, j, x, rfl, rfl, hai, hjb, hx, hsx, he⟩ := hrel
  obtain ⟨G, hG⟩ : ∃ G : Nat → Int, ∀ t, G t = x[t]! := ⟨fun t => x[t]!, fun _ => rfl⟩
  have hcw : ∀ t, t < d.size → wr.cell? ⟨g, o + t, none⟩ = some (.int .u64 (G t)) := fun t ht => by rw [hG]; exact hsx.cell (by omega)
  have hfw : ∀ t, t < d.size → wr.frozen? ⟨g, o + t, none⟩ = false := fun t _ => hsx.frozen t
  have HX := Lib.hid hsx
  have HE := Lib.hid he
  have HG := Lib.hid hG
  clear hsx he hG HS
  by_cases hlt : i < j
  ·have hn1 : i < d.size := by omega
   have hn2 : j < d.size := by omega
   have hne : ¬ i = j := by omega
   have hne2 : ¬ j = i := by omega
   go_wp2
   go_region
   all_goals go_wp2
   go_roundw
   case rel => exact ⟨i + 1, j - 1, swp x i j, by go_num, by congr 1; omega, by omega, by omega, by rw [size_swp]; exact hx, HX.out.swap (by omega) (by omega) 1 (HG.out _) (HG.out _), by rw [← HE.out, rev_step hlt]⟩
   case measure => first | (simp [numI]; done) | (simp [numI]; omega)
  ·go_wp2
   go_end0
   exact ⟨rfl, by rw [← HE.out, rev_end hlt]; exact HX.out⟩
def FoundP (w : World) (g o : Nat) (r : Array Value) (d : Array Int) (a b : Nat) (e : Ending) (W' : World) : Prop :=
 e = .returned (.bool (partialInsertionSort ltInt d a b).2) ∧ Sr w W' g o r (partialInsertionSort ltInt d a b).1
def PaO (w : World) (g o : Nat) (r : Array Value) (d : Array Int) (a b : Nat) (v u : Value) (W : World) : Prop :=
 ∃ (k i : Nat) (x : Array Int), v = .int .i64 (i : Int) ∧ u = .int .i64 (k : Int) ∧ k ≤ 5 ∧ a < i ∧ i ≤ b ∧ x.size = d.size ∧ Sr w W g o r x ∧ partialIns ltInt a b (5 - k) i x = partialInsertionSort ltInt d a b
def PaI (w : World) (g o : Nat) (r : Array Value) (x : Array Int) (b i : Nat) (v : Value) (W : World) : Prop :=
 ∃ m : Nat, v = .int .i64 (m : Int) ∧ i ≤ m ∧ m ≤ b ∧ Sr w W g o r x ∧ scanSorted ltInt x b m = scanSorted ltInt x b i
def PaD (w : World) (g o : Nat) (r : Array Value) (n : Nat) (z : Array Int) (j0 : Nat) (v : Value) (W : World) : Prop :=
 ∃ (j : Nat) (y : Array Int), v = .int .i64 (j : Int) ∧ j ≤ j0 ∧ y.size = n ∧ Sr w W g o r y ∧ shiftDown ltInt j y = shiftDown ltInt j0 z
def PaU (w : World) (g o : Nat) (r : Array Value) (n : Nat) (z : Array Int) (b j0 : Nat) (v : Value) (W : World) : Prop :=
 ∃ (j : Nat) (y : Array Int), v = .int .i64 (j : Int) ∧ j0 ≤ j ∧ j ≤ b ∧ y.size = n ∧ Sr w W g o r y ∧ shiftUp ltInt b j y = shiftUp ltInt b j0 z
theorem scan_step {b i : Nat} {d : Array Int} (h : i < b) (hl : ltInt d[i]! d[i - 1]! = false) : scanSorted ltInt d b i = scanSorted ltInt d b (i + 1) := by
 conv => lhs; unfold scanSorted
 rw [if_pos (by simp [h, hl])]
theorem scan_end {b i : Nat} {d : Array Int} (h : ¬ i < b ∨ ltInt d[i]! d[i - 1]! = true) : scanSorted ltInt d b i = i := by
 unfold scanSorted
 rw [if_neg (by rcases h with h | h <;> simp [h])]
theorem down_step {j : Nat} {d : Array Int} (h : 1 ≤ j) (hl : ltInt d[j]! d[j - 1]! = true) : shiftDown ltInt j d = shiftDown ltInt (j - 1) (swp d j (j - 1)) := by
 cases j with
 | zero => omega
 | succ j =>
  have hl' : ltInt d[j + 1]! d[j]! = true := hl
  rw [shiftDown, if_neg (by simp [hl'])]
  rfl
theorem down_end {j : Nat} {d : Array Int} (h : ¬ 1 ≤ j ∨ ltInt d[j]! d[j - 1]! = false) : shiftDown ltInt j d = d := by
 cases j with
 | zero => rw [shiftDown]
 | succ j =>
  rcases h with h | h
  ·omega
  ·have hl' : ltInt d[j + 1]! d[j]! = false := h
   rw [shiftDown, if_pos (by simp [hl'])]
theorem up_step {b j : Nat} {d : Array Int} (h : j < b) (hl : ltInt d[j]! d[j - 1]! = true) : shiftUp ltInt b j d = shiftUp ltInt b (j + 1) (swp d j (j - 1)) := by
 conv => lhs; unfold shiftUp
 rw [if_pos h, if_neg (by simp [hl])]
theorem up_end {b j : Nat} {d : Array Int} (h : ¬ j < b ∨ ltInt d[j]! d[j - 1]! = false) : shiftUp ltInt b j d = d := by
 unfold shiftUp
 by_cases hj : j < b
 ·rcases h with h | h
  ·omega
  ·rw [if_pos hj, if_pos (by simp [h])]
 ·rw [if_neg hj]
theorem pa_all {a b k i : Nat} {x : Array Int} (hk : k < 5) (h : scanSorted ltInt x b i = b) : partialIns ltInt a b (5 - k) i x = (x, true) := by
 rw [show 5 - k = (4 - k) + 1 by omega, partialIns, h]
 simp
theorem pa_short {a b k i m : Nat} {x : Array Int} (hk : k < 5) (h : scanSorted ltInt x b i = m) (hm : m ≠ b) (hs : b - a < 50) : partialIns ltInt a b (5 - k) i x = (x, false) := by
 rw [show 5 - k = (4 - k) + 1 by omega, partialIns, h]
 simp [hm, hs]
theorem pa_go {a b k i m : Nat} {x : Array Int} (hk : k < 5) (h : scanSorted ltInt x b i = m) (hm : m ≠ b) (hs : ¬ b - a < 50) : partialIns ltInt a b (5 - k) i x = partialIns ltInt a b (5 - (k + 1)) m (if 2 ≤ b - m then shiftUp ltInt b (m + 1) (if 2 ≤ m - a then shiftDown ltInt (m - 1) (swp x m (m - 1)) else swp x m (m - 1)) else (if 2 ≤ m - a then shiftDown ltInt (m - 1) (swp x m (m - 1)) else swp x m (m - 1))) := by
 rw [show 5 - k = (4 - k) + 1 by omega, partialIns, h, show 5 - (k + 1) = 4 - k by omega]
 simp [hm, hs]
def PaG (a b k m : Nat) (d X : Array Int) : Prop := partialIns ltInt a b (5 - (k + 1)) m (if 2 ≤ b - m then shiftUp ltInt b (m + 1) X else X) = partialInsertionSort ltInt d a b
set_option maxRecDepth 100000 in
set_option maxHeartbeats 8000000 in
theorem partial16 {w W : World} {g o cap : Nat} {r : Array Value} {d : Array Int} (hs : Sr w W g o r d) (a b : Nat) (h8 : a + 8 ≤ b) (hb : b ≤ d.size) (hsz : d.size < 1000000) :
  Calls Tryz.prog 183 #[.slice (some ⟨g, o, none⟩) d.size cap, .int .i64 (a : Int), .int .i64 (b : Int)] W (FoundP w g o r d a b) := by
 have HS := Lib.hid hs
 clear hs
 go_enter Tryz.func183, Tryz.ntmps183
 go_wp2
 go_loopw [7, 8] (PaO w g o r d a b) (fun _ v _ => 5 - (numI v).toNat)
 case atStart => exact ⟨0, a + 1, d, by go_num, rfl, by omega, by omega, by omega, rfl, HS.out, rfl⟩
 case round =>
  obtain ⟨k, i, x, rfl, rfl, hk, hai, hib, hx, hsx, he⟩ := hrel
  have HX := Lib.hid hsx
  have HE := Lib.hid he
  clear hsx he HS
  by_cases hk5 : k < 5
  ·go_wp2
   go_loopw [7] (PaI w g o r x b i) (fun v _ => b - (numI v).toNat)
   case atStart => exact ⟨i, rfl, Nat.le_refl _, hib, HX.out, rfl⟩
   case round =>
    obtain ⟨m, rfl, him, hmb, hsm, hsc⟩ := hrel
    obtain ⟨G, hG⟩ : ∃ G : Nat → Int, ∀ t, G t = x[t]! := ⟨fun t => x[t]!, fun _ => rfl⟩
    have hcw : ∀ t, t < d.size → wr.cell? ⟨g, o + t, none⟩ = some (.int .u64 (G t)) := fun t ht => by rw [hG]; exact hsm.cell (by omega)
    have hfw : ∀ t, t < d.size → wr.frozen? ⟨g, o + t, none⟩ = false := fun t _ => hsm.frozen t
    have HM := Lib.hid hsm
    have HSC := Lib.hid hsc
    have HG := Lib.hid hG
    clear hsm hsc hG HX
    by_cases hlt : m < b
    ·have hn1 : m < d.size := by omega
     have hn2 : m - 1 < d.size := by omega
     have hn3 : (0 : Int) ≤ (m : Int) - 1 := by omega
     go_wp2
     go_quiet (first | (go_at_call 184; refine Calls.quiet_of_same (less16' _ _ _)))
     cases hl : ltInt (G m) (G (m - 1))
     ·go_wp2
      go_roundw
      case rel => exact ⟨m + 1, by go_num, by omega, by omega, HM.out.drawn nq, by rw [← HSC.out, scan_step hlt (by rw [← HG.out, ← HG.out]; exact hl)]⟩
      case measure => first | (simp [numI]; done) | (simp [numI]; omega)
     ·have HI : Hid (scanSorted ltInt x b i = m) := Lib.hid (by rw [← HSC.out]; exact scan_end (.inr (by rw [← HG.out, ← HG.out]; exact hl)))
      have hn4 : ((m : Int) == (b : Int)) = false := by simp; omega
      by_cases h50 : b - a < 50
      ·have hn5 : decide ((b : Int) - (a : Int) < 50) = true := by simp; omega
       have HF : Hid (partialInsertionSort ltInt d a b = (x, false)) := Lib.hid (by rw [← HE.out, pa_short hk5 HI.out (by omega) h50])
       go_wp2
       go_ret
       exact ⟨ret_bool (by rw [HF.out]), by rw [HF.out]; exact HM.out.drawn nq⟩
      ·have hn5 : decide ((b : Int) - (a : Int) < 50) = false := by simp; omega
       have HF0 : Hid (PaG a b k m d (if 2 ≤ m - a then shiftDown ltInt (m - 1) (swp x m (m - 1)) else swp x m (m - 1))) := Lib.hid ((pa_go hk5 HI.out (by omega) h50).symm.trans HE.out)
       by_cases hu : 2 ≤ b - m
       ·have hn8 : decide ((2 : Int) ≤ (b : Int) - (m : Int)) = true := by simp; omega
        by_cases hd2 : 2 ≤ m - a
        ·have hn6 : decide ((2 : Int) ≤ (m : Int) - (a : Int)) = true := by simp; omega
         go_wp2
         go_region
         all_goals go_wp2_with fail
         have H1 := Lib.hid (HM.out.swap (i := m) (j := m - 1) (by omega) (by omega) (nq + 1) (HG.out _) (HG.out _))
         clear hcw hfw HM HSC HG hl
         generalize ((wr.drewN (nq + 1)).setCell ⟨g, o + m, none⟩ (.int .u64 (G (m - 1)))).setCell ⟨g, o + (m - 1), none⟩ (.int .u64 (G m)) = W1 at H1
         obtain ⟨X1, hX1⟩ : ∃ X1, swp x m (m - 1) = X1 := ⟨_, rfl⟩
         rw [hX1] at H1 HF0
         have HZ1 : Hid (X1.size = d.size) := Lib.hid (by rw [← hX1, size_swp]; exact hx)
         clear hX1
         have HF1 : Hid (PaG a b k m d (shiftDown ltInt (m - 1) X1)) := Lib.hid (by have h := HF0.out; rw [if_pos hd2] at h; exact h)
         clear HF0
         go_wp2
         go_loopw [9] (PaD w g o r d.size X1 (m - 1)) (fun v _ => (numI v).toNat)
         case atStart => exact ⟨m - 1, X1, by congr 1; omega, Nat.le_refl _, HZ1.out, H1.out, rfl⟩
         case round =>
          obtain ⟨j2, y2, rfl, hj2, hy2, hsy2, hdn⟩ := hrel
          obtain ⟨G2, hG2⟩ : ∃ G : Nat → Int, ∀ t, G t = y2[t]! := ⟨fun t => y2[t]!, fun _ => rfl⟩
          have hcw2 : ∀ t, t < d.size → wr.cell? ⟨g, o + t, none⟩ = some (.int .u64 (G2 t)) := fun t ht => by rw [hG2]; exact hsy2.cell (by omega)
          have hfw2 : ∀ t, t < d.size → wr.frozen? ⟨g, o + t, none⟩ = false := fun t _ => hsy2.frozen t
          have HY2 := Lib.hid hsy2
          have HD := Lib.hid hdn
          have HG2 := Lib.hid hG2
          clear hsy2 hdn hG2 H1
          by_cases hj0 : 1 ≤ j2
          ·have hp1 : j2 < d.size := by omega
           have hp2 : j2 - 1 < d.size := by omega
           have hp3 : (0 : Int) ≤ (j2 : Int) - 1 := by omega
           go_wp2
           go_quiet (first | (go_at_call 184; refine Calls.quiet_of_same (less16' _ _ _)))
           cases hl2 : ltInt (G2 j2) (G2 (j2 - 1))
           ·have HF : Hid (PaG a b k m d y2) := Lib.hid (by have h := HF1.out; rw [← HD.out, down_end (.inr (by rw [← HG2.out, ← HG2.out]; exact hl2))] at h; exact h)
            have HZ : Hid (y2.size = d.size ∧ Sr w (wr.drewN nq) g o r y2) := Lib.hid ⟨hy2, HY2.out.drawn nq⟩
            clear HF1 HD HY2 hcw2 hfw2 HG2 hl2
            generalize wr.drewN nq = W2 at HZ
            have HF2 : Hid (partialIns ltInt a b (5 - (k + 1)) m (shiftUp ltInt b (m + 1) y2) = partialInsertionSort ltInt d a b) := Lib.hid (by have h := HF.out; unfold PaG at h; rw [if_pos hu] at h; exact h)
            clear HF
            go_wp2
            go_loopw [10] (PaU w g o r d.size y2 b (m + 1)) (fun v _ => b - (numI v).toNat)
            case atStart => exact ⟨m + 1, y2, by go_num, Nat.le_refl _, by omega, HZ.out.1, HZ.out.2, rfl⟩
            case round =>
             obtain ⟨j, y, rfl, hj1, hj2, hy, hsy, hu2⟩ := hrel
             obtain ⟨G3, hG3⟩ : ∃ G : Nat → Int, ∀ t, G t = y[t]! := ⟨fun t => y[t]!, fun _ => rfl⟩
             have hcw3 : ∀ t, t < d.size → wr.cell? ⟨g, o + t, none⟩ = some (.int .u64 (G3 t)) := fun t ht => by rw [hG3]; exact hsy.cell (by omega)
             have hfw3 : ∀ t, t < d.size → wr.frozen? ⟨g, o + t, none⟩ = false := fun t _ => hsy.frozen t
             have HY := Lib.hid hsy
             have HU := Lib.hid hu2
             have HG3 := Lib.hid hG3
             clear hsy hu2 hG3 HZ
             have OUT : Hid ((¬ j < b ∨ ltInt y[j]! y[j - 1]! = false) → ∀ q, PaO w g o r d a b (.int .i64 (m : Int)) (.int .i64 ((k : Int) + 1)) (wr.drewN q)) := Lib.hid fun h q =>
              ⟨k + 1, m, y, rfl, by go_num, by omega, by omega, by omega, hy, HY.out.drawn q, by rw [← HF2.out, ← HU.out, up_end h]⟩
             by_cases hjb : j < b
             ·have hp1 : j < d.size := by omega
              have hp2 : j - 1 < d.size := by omega
              have hp3 : (0 : Int) ≤ (j : Int) - 1 := by omega
              go_wp2
              go_quiet (first | (go_at_call 184; refine Calls.quiet_of_same (less16' _ _ _)))
              cases hl3 : ltInt (G3 j) (G3 (j - 1))
              ·go_wp2
               go_roundw
               case rel => exact OUT.out (.inr (by rw [← HG3.out, ← HG3.out]; exact hl3)) nq
               case measure => first | (simp [numI]; done) | (simp [numI]; omega)
              ·go_wp2
               go_region
               all_goals go_wp2
               go_roundw
               case rel => exact ⟨j + 1, swp y j (j - 1), by go_num, by omega, by omega, by rw [size_swp]; exact hy, HY.out.swap (by omega) (by omega) (nq + 1) (HG3.out _) (HG3.out _), by rw [← HU.out, up_step hjb (by rw [← HG3.out, ← HG3.out]; exact hl3)]⟩
               case measure => first | (simp [numI]; done) | (simp [numI]; omega)
             ·go_wp2
              go_roundw
              case rel => exact OUT.out (.inl hjb) 0
              case measure => first | (simp [numI]; done) | (simp [numI]; omega)
           ·go_wp2
            go_region
            all_goals go_wp2
            go_roundw
            case rel => exact ⟨j2 - 1, swp y2 j2 (j2 - 1), by congr 1; omega, by omega, by rw [size_swp]; exact hy2, HY2.out.swap (by omega) (by omega) (nq + 1) (HG2.out _) (HG2.out _), by rw [← HD.out, down_step hj0 (by rw [← HG2.out, ← HG2.out]; exact hl2)]⟩
            case measure => first | (simp [numI]; done) | (simp [numI]; omega)
          ·have HF : Hid (PaG a b k m d y2) := Lib.hid (by have h := HF1.out; rw [← HD.out, down_end (.inl hj0)] at h; exact h)
           have HZ : Hid (y2.size = d.size ∧ Sr w wr g o r y2) := Lib.hid ⟨hy2, HY2.out⟩
           have hp4 : decide ((1 : Int) ≤ (j2 : Int)) = false := by simp; omega
           have hp5 : decide (1 ≤ j2) = false := by simp; omega
           clear HF1 HD HY2 hcw2 hfw2 HG2
           have HF2 : Hid (partialIns ltInt a b (5 - (k + 1)) m (shiftUp ltInt b (m + 1) y2) = partialInsertionSort ltInt d a b) := Lib.hid (by have h := HF.out; unfold PaG at h; rw [if_pos hu] at h; exact h)
           clear HF
           go_wp2
           go_loopw [10] (PaU w g o r d.size y2 b (m + 1)) (fun v _ => b - (numI v).toNat)
           case atStart => exact ⟨m + 1, y2, by go_num, Nat.le_refl _, by omega, HZ.out.1, HZ.out.2, rfl⟩
           case round =>
            obtain ⟨j, y, rfl, hj1, hj2, hy, hsy, hu2⟩ := hrel
            obtain ⟨G3, hG3⟩ : ∃ G : Nat → Int, ∀ t, G t = y[t]! := ⟨fun t => y[t]!, fun _ => rfl⟩
            have hcw3 : ∀ t, t < d.size → wr.cell? ⟨g, o + t, none⟩ = some (.int .u64 (G3 t)) := fun t ht => by rw [hG3]; exact hsy.cell (by omega)
            have hfw3 : ∀ t, t < d.size → wr.frozen? ⟨g, o + t, none⟩ = false := fun t _ => hsy.frozen t
            have HY := Lib.hid hsy
            have HU := Lib.hid hu2
            have HG3 := Lib.hid hG3
            clear hsy hu2 hG3 HZ
            have OUT : Hid ((¬ j < b ∨ ltInt y[j]! y[j - 1]! = false) → ∀ q, PaO w g o r d a b (.int .i64 (m : Int)) (.int .i64 ((k : Int) + 1)) (wr.drewN q)) := Lib.hid fun h q =>
             ⟨k + 1, m, y, rfl, by go_num, by omega, by omega, by omega, hy, HY.out.drawn q, by rw [← HF2.out, ← HU.out, up_end h]⟩
            by_cases hjb : j < b
            ·have hp1 : j < d.size := by omega
             have hp2 : j - 1 < d.size := by omega
             have hp3 : (0 : Int) ≤ (j : Int) - 1 := by omega
             go_wp2
             go_quiet (first | (go_at_call 184; refine Calls.quiet_of_same (less16' _ _ _)))
             cases hl3 : ltInt (G3 j) (G3 (j - 1))
             ·go_wp2
              go_roundw
              case rel => exact OUT.out (.inr (by rw [← HG3.out, ← HG3.out]; exact hl3)) nq
              case measure => first | (simp [numI]; done) | (simp [numI]; omega)
             ·go_wp2
              go_region
              all_goals go_wp2
              go_roundw
              case rel => exact ⟨j + 1, swp y j (j - 1), by go_num, by omega, by omega, by rw [size_swp]; exact hy, HY.out.swap (by omega) (by omega) (nq + 1) (HG3.out _) (HG3.out _), by rw [← HU.out, up_step hjb (by rw [← HG3.out, ← HG3.out]; exact hl3)]⟩
              case measure => first | (simp [numI]; done) | (simp [numI]; omega)
            ·go_wp2
             go_roundw
             case rel => exact OUT.out (.inl hjb) 0
             case measure => first | (simp [numI]; done) | (simp [numI]; omega)
        ·have hn6 : decide ((2 : Int) ≤ (m : Int) - (a : Int)) = false := by simp; omega
         go_wp2
         go_region
         all_goals go_wp2_with fail
         have H1 := Lib.hid (HM.out.swap (i := m) (j := m - 1) (by omega) (by omega) (nq + 1) (HG.out _) (HG.out _))
         clear hcw hfw HM HSC HG hl
         generalize ((wr.drewN (nq + 1)).setCell ⟨g, o + m, none⟩ (.int .u64 (G (m - 1)))).setCell ⟨g, o + (m - 1), none⟩ (.int .u64 (G m)) = W1 at H1
         obtain ⟨X1, hX1⟩ : ∃ X1, swp x m (m - 1) = X1 := ⟨_, rfl⟩
         rw [hX1] at H1 HF0
         have HZ1 : Hid (X1.size = d.size) := Lib.hid (by rw [← hX1, size_swp]; exact hx)
         clear hX1
         have HF : Hid (PaG a b k m d X1) := Lib.hid (by have h := HF0.out; rw [if_neg hd2] at h; exact h)
         have HZ : Hid (X1.size = d.size ∧ Sr w W1 g o r X1) := Lib.hid ⟨HZ1.out, H1.out⟩
         clear HF0 H1 HZ1
         have HF2 : Hid (partialIns ltInt a b (5 - (k + 1)) m (shiftUp ltInt b (m + 1) X1) = partialInsertionSort ltInt d a b) := Lib.hid (by have h := HF.out; unfold PaG at h; rw [if_pos hu] at h; exact h)
         clear HF
         go_wp2
         go_loopw [10] (PaU w g o r d.size X1 b (m + 1)) (fun v _ => b - (numI v).toNat)
         case atStart => exact ⟨m + 1, X1, by go_num, Nat.le_refl _, by omega, HZ.out.1, HZ.out.2, rfl⟩
         case round =>
          obtain ⟨j, y, rfl, hj1, hj2, hy, hsy, hu2⟩ := hrel
          obtain ⟨G3, hG3⟩ : ∃ G : Nat → Int, ∀ t, G t = y[t]! := ⟨fun t => y[t]!, fun _ => rfl⟩
          have hcw3 : ∀ t, t < d.size → wr.cell? ⟨g, o + t, none⟩ = some (.int .u64 (G3 t)) := fun t ht => by rw [hG3]; exact hsy.cell (by omega)
          have hfw3 : ∀ t, t < d.size → wr.frozen? ⟨g, o + t, none⟩ = false := fun t _ => hsy.frozen t
          have HY := Lib.hid hsy
          have HU := Lib.hid hu2
          have HG3 := Lib.hid hG3
          clear hsy hu2 hG3 HZ
          have OUT : Hid ((¬ j < b ∨ ltInt y[j]! y[j - 1]! = false) → ∀ q, PaO w g o r d a b (.int .i64 (m : Int)) (.int .i64 ((k : Int) + 1)) (wr.drewN q)) := Lib.hid fun h q =>
           ⟨k + 1, m, y, rfl, by go_num, by omega, by omega, by omega, hy, HY.out.drawn q, by rw [← HF2.out, ← HU.out, up_end h]⟩
          by_cases hjb : j < b
          ·have hp1 : j < d.size := by omega
           have hp2 : j - 1 < d.size := by omega
           have hp3 : (0 : Int) ≤ (j : Int) - 1 := by omega
           go_wp2
           go_quiet (first | (go_at_call 184; refine Calls.quiet_of_same (less16' _ _ _)))
           cases hl3 : ltInt (G3 j) (G3 (j - 1))
           ·go_wp2
            go_roundw
            case rel => exact OUT.out (.inr (by rw [← HG3.out, ← HG3.out]; exact hl3)) nq
            case measure => first | (simp [numI]; done) | (simp [numI]; omega)
           ·go_wp2
            go_region
            all_goals go_wp2
            go_roundw
            case rel => exact ⟨j + 1, swp y j (j - 1), by go_num, by omega, by omega, by rw [size_swp]; exact hy, HY.out.swap (by omega) (by omega) (nq + 1) (HG3.out _) (HG3.out _), by rw [← HU.out, up_step hjb (by rw [← HG3.out, ← HG3.out]; exact hl3)]⟩
            case measure => first | (simp [numI]; done) | (simp [numI]; omega)
          ·go_wp2
           go_roundw
           case rel => exact OUT.out (.inl hjb) 0
           case measure => first | (simp [numI]; done) | (simp [numI]; omega)
       ·have hn8 : decide ((2 : Int) ≤ (b : Int) - (m : Int)) = false := by simp; omega
        by_cases hd2 : 2 ≤ m - a
        ·have hn6 : decide ((2 : Int) ≤ (m : Int) - (a : Int)) = true := by simp; omega
         go_wp2
         go_region
         all_goals go_wp2_with fail
         have H1 := Lib.hid (HM.out.swap (i := m) (j := m - 1) (by omega) (by omega) (nq + 1) (HG.out _) (HG.out _))
         clear hcw hfw HM HSC HG hl
         generalize ((wr.drewN (nq + 1)).setCell ⟨g, o + m, none⟩ (.int .u64 (G (m - 1)))).setCell ⟨g, o + (m - 1), none⟩ (.int .u64 (G m)) = W1 at H1
         obtain ⟨X1, hX1⟩ : ∃ X1, swp x m (m - 1) = X1 := ⟨_, rfl⟩
         rw [hX1] at H1 HF0
         have HZ1 : Hid (X1.size = d.size) := Lib.hid (by rw [← hX1, size_swp]; exact hx)
         clear hX1
         have HF1 : Hid (PaG a b k m d (shiftDown ltInt (m - 1) X1)) := Lib.hid (by have h := HF0.out; rw [if_pos hd2] at h; exact h)
         clear HF0
         go_wp2
         go_loopw [9] (PaD w g o r d.size X1 (m - 1)) (fun v _ => (numI v).toNat)
         case atStart => exact ⟨m - 1, X1, by congr 1; omega, Nat.le_refl _, HZ1.out, H1.out, rfl⟩
         case round =>
          obtain ⟨j2, y2, rfl, hj2, hy2, hsy2, hdn⟩ := hrel
          obtain ⟨G2, hG2⟩ : ∃ G : Nat → Int, ∀ t, G t = y2[t]! := ⟨fun t => y2[t]!, fun _ => rfl⟩
          have hcw2 : ∀ t, t < d.size → wr.cell? ⟨g, o + t, none⟩ = some (.int .u64 (G2 t)) := fun t ht => by rw [hG2]; exact hsy2.cell (by omega)
          have hfw2 : ∀ t, t < d.size → wr.frozen? ⟨g, o + t, none⟩ = false := fun t _ => hsy2.frozen t
          have HY2 := Lib.hid hsy2
          have HD := Lib.hid hdn
          have HG2 := Lib.hid hG2
          clear hsy2 hdn hG2 H1
          by_cases hj0 : 1 ≤ j2
          ·have hp1 : j2 < d.size := by omega
           have hp2 : j2 - 1 < d.size := by omega
           have hp3 : (0 : Int) ≤ (j2 : Int) - 1 := by omega
           go_wp2
           go_quiet (first | (go_at_call 184; refine Calls.quiet_of_same (less16' _ _ _)))
           cases hl2 : ltInt (G2 j2) (G2 (j2 - 1))
           ·have HF : Hid (PaG a b k m d y2) := Lib.hid (by have h := HF1.out; rw [← HD.out, down_end (.inr (by rw [← HG2.out, ← HG2.out]; exact hl2))] at h; exact h)
            have HZ : Hid (y2.size = d.size ∧ Sr w (wr.drewN nq) g o r y2) := Lib.hid ⟨hy2, HY2.out.drawn nq⟩
            clear HF1 HD HY2 hcw2 hfw2 HG2 hl2
            generalize wr.drewN nq = W2 at HZ
            have HF2 : Hid (partialIns ltInt a b (5 - (k + 1)) m y2 = partialInsertionSort ltInt d a b) := Lib.hid (by have h := HF.out; unfold PaG at h; rw [if_neg hu] at h; exact h)
            clear HF
            go_wp2
            go_roundw
            case rel => exact ⟨k + 1, m, y2, rfl, by go_num, by omega, by omega, by omega, HZ.out.1, HZ.out.2, HF2.out⟩
            case measure => first | (simp [numI]; done) | (simp [numI]; omega)
           ·go_wp2
            go_region
            all_goals go_wp2
            go_roundw
            case rel => exact ⟨j2 - 1, swp y2 j2 (j2 - 1), by congr 1; omega, by omega, by rw [size_swp]; exact hy2, HY2.out.swap (by omega) (by omega) (nq + 1) (HG2.out _) (HG2.out _), by rw [← HD.out, down_step hj0 (by rw [← HG2.out, ← HG2.out]; exact hl2)]⟩
            case measure => first | (simp [numI]; done) | (simp [numI]; omega)
          ·have HF : Hid (PaG a b k m d y2) := Lib.hid (by have h := HF1.out; rw [← HD.out, down_end (.inl hj0)] at h; exact h)
           have HZ : Hid (y2.size = d.size ∧ Sr w wr g o r y2) := Lib.hid ⟨hy2, HY2.out⟩
           have hp4 : decide ((1 : Int) ≤ (j2 : Int)) = false := by simp; omega
           have hp5 : decide (1 ≤ j2) = false := by simp; omega
           clear HF1 HD HY2 hcw2 hfw2 HG2
           have HF2 : Hid (partialIns ltInt a b (5 - (k + 1)) m y2 = partialInsertionSort ltInt d a b) := Lib.hid (by have h := HF.out; unfold PaG at h; rw [if_neg hu] at h; exact h)
           clear HF
           go_wp2
           go_roundw
           case rel => exact ⟨k + 1, m, y2, rfl, by go_num, by omega, by omega, by omega, HZ.out.1, HZ.out.2, HF2.out⟩
           case measure => first | (simp [numI]; done) | (simp [numI]; omega)
        ·exfalso; omega
    ·obtain rfl : m = b := by omega
     have HF : Hid (partialInsertionSort ltInt d a m = (x, true)) := Lib.hid (by rw [← HE.out, pa_all hk5 (by rw [← HSC.out]; exact scan_end (.inl (by omega)))])
     go_wp2
     go_quiet (first | (go_at_call 184; refine Calls.quiet_of_same (less16' _ _ _)))
     go_wp2
     go_ret
     exact ⟨ret_bool (by rw [HF.out]), by rw [HF.out]; exact HM.out.drawn nq⟩
  ·obtain rfl : k = 5 := by omega
   have HF : Hid (partialInsertionSort ltInt d a b = (x, false)) := Lib.hid (by rw [← HE.out]; rfl)
   go_wp2
   go_ret
   exact ⟨ret_bool (by rw [HF.out]), by rw [HF.out]; exact HX.out⟩
theorem and_le (z : Int) (m : Nat) (h1 : 1 ≤ m) (h2 : m ≤ 1000) : 0 ≤ bits .and .u64 z ((m : Int) - 1) ∧ bits .and .u64 z ((m : Int) - 1) ≤ (m : Int) - 1 := by
 obtain ⟨n, rfl⟩ : ∃ n, m = n + 1 := ⟨m - 1, by omega⟩
 rw [show (((n + 1 : Nat) : Int) - 1) = (n : Int) by omega]
 have e : bits .and .u64 z (n : Int) = IntKind.u64.wrap ((BitVec.ofInt 64 z &&& BitVec.ofInt 64 (n : Int)).toNat : Int) := rfl
 have hb : (BitVec.ofInt 64 (n : Int)).toNat = n := by
  rw [BitVec.ofInt_natCast, BitVec.toNat_ofNat]; exact Nat.mod_eq_of_lt (by omega)
 have hl : (BitVec.ofInt 64 z &&& BitVec.ofInt 64 (n : Int)).toNat ≤ n := by rw [BitVec.toNat_and, hb]; exact Nat.and_le_right
 rw [e, IntKind.wrap_u64]
 omega
def BrkR (w : World) (g o : Nat) (r : Array Value) (d : Array Int) (a b p : Nat) (v : Value) (W : World) : Prop :=
 ∃ (k : Nat) (x : Array Int) (z : Int), v = .int .i64 (k : Int) ∧ a + (b - a) / 4 * 2 ≤ k + 1 ∧ k ≤ a + (b - a) / 4 * 2 + 2 ∧ x.size = d.size ∧ PermIn a b d x ∧ Sr w W g o r x ∧ Blk W p 225 #[.int .u64 z]
def Shuffled (w : World) (g o : Nat) (r : Array Value) (d : Array Int) (a b : Nat) (e : Ending) (W' : World) : Prop :=
 e = .returned (.tuple #[]) ∧ ∃ x : Array Int, x.size = d.size ∧ PermIn a b d x ∧ Sr w W' g o r x
set_option maxRecDepth 100000 in
set_option maxHeartbeats 4000000 in
theorem break16 {w W : World} {g o cap : Nat} {r : Array Value} {d : Array Int} (hs : Sr w W g o r d) (a b : Nat) (h8 : a + 8 ≤ b) (h50 : b < a + 120) (hb : b ≤ d.size) (hsz : d.size < 1000000) :
  Calls Tryz.prog 180 #[.slice (some ⟨g, o, none⟩) d.size cap, .int .i64 (a : Int), .int .i64 (b : Int)] W (Shuffled w g o r d a b) := by
 have HS := Lib.hid hs
 clear hs
 have hn8 : decide ((8 : Int) ≤ (b : Int) - (a : Int)) = true := by simp; omega
 have HNE : Hid (g ≠ W.heap.size) := Lib.hid (fun e => by have := HS.out.blk.lt; omega)
 have HK : Hid (w.heap.size ≤ W.heap.size) := Lib.hid HS.out.kept.size
 go_enter Tryz.func180, Tryz.ntmps180
 go_wp2_with fail
 have HA : Hid (Sr w (W.alloc (.cells #[.int .u64 ((b : Int) - (a : Int))] 225)) g o r d) := Lib.hid (HS.out.grow (below_one W _))
 have HB0 : Hid (Blk (W.alloc (.cells #[.int .u64 ((b : Int) - (a : Int))] 225)) W.heap.size 225 #[.int .u64 ((b : Int) - (a : Int))]) := Lib.hid (Blk.new W 225 _)
 generalize W.alloc (.cells #[.int .u64 ((b : Int) - (a : Int))] 225) = W1 at HA HB0
 generalize W.heap.size = p at HB0 HNE HK
 clear HS hn8
 obtain ⟨n, hn⟩ : ∃ n : Nat, (b : Int) - (a : Int) = (n : Int) ∧ n = b - a := ⟨b - a, by omega, rfl⟩
 rw [hn.1]
 rw [hn.1] at HB0
 have hn1 : n ≤ b - a := by omega
 have hn2 : b - a ≤ n := by omega
 clear hn
 refine (pow_x n (n : Int) W1 (by omega) (by omega) (Lib.hid rfl) (by omega) (by omega)).mono ?_
 rintro e W2 ⟨m, hm1, hm2, rfl, rfl⟩
 go_wp2_with fail
 go_loopw [9] (BrkR w g o r d a b p) (fun v _ => a + n + 10 - (numI v).toNat)
 case atStart => exact ⟨a + (b - a) / 4 * 2 - 1, d, _, by congr 1; omega, by omega, by omega, rfl, Go.Sort.permIn_refl _ _ _, HA.out, HB0.out⟩
 case round =>
  obtain ⟨k, x, z, rfl, hk1, hk2, hx, hp, hsx, hbx⟩ := hrel
  have HP := Lib.hid hp
  have HX := Lib.hid hsx
  have HBX := Lib.hid hbx
  clear hp hsx hbx HA HB0
  by_cases hlt : k ≤ a + n / 4 * 2 + 1
  ·have hd : decide ((k : Int) ≤ (a : Int) + (n : Int) / 4 * 2 + 1) = true := by simp; omega
   go_wp2_with fail
   refine (next_x (w := wr) ⟨HBX.out, Kept.refl _ _⟩).mono ?_
   rintro e W3 ⟨z1, rfl, hb3⟩
   have H3 := Lib.hid (HX.out.bx HK.out HNE.out hb3)
   have HB2 := Lib.hid hb3.blk
   clear hb3 HX HBX hd
   have hand := and_le z1 m hm1 (by omega)
   go_wp2_with fail
   ·rename_i hyn
    generalize bits BinOp.and IntKind.u64 z1 ((m : Int) - 1) = y at hand hyn
    obtain ⟨q, hq⟩ : ∃ q : Nat, y - (n : Int) = (q : Int) := ⟨(y - n).toNat, by omega⟩
    have hqn : q < n := by omega
    rw [hq]
    clear hq hand hyn
    refine wp_region_held_drew (S := fun _ => True) (by kernel_rfl) trivial (fun hS => ?_)
    refine held_tk 0 47 (.slice (some ⟨g, o, none⟩) d.size cap) rfl rfl (by kernel_rfl) (fun _ _ _ h => h) (fun _ _ => rfl) trivial ?_
    simp only [Act.put, ap1, ap2, ap3]
    refine held_tk 1 48 (.int .i64 (k : Int)) rfl rfl (by kernel_rfl) (fun _ _ _ h => h) (fun _ _ => rfl) trivial ?_
    simp only [Act.put, ap1, ap2, ap3]
    refine held_tk 2 49 (.slice (some ⟨g, o, none⟩) d.size cap) rfl rfl (by kernel_rfl) (fun _ _ _ h => h) (fun _ _ => rfl) trivial ?_
    simp only [Act.put, ap1, ap2, ap3]
    refine held_tk 3 50 (.int .i64 (a : Int)) rfl rfl (by kernel_rfl) (fun _ _ _ h => h) (fun _ _ => rfl) trivial ?_
    simp only [Act.put, ap1, ap2, ap3]
    refine held_tk 4 51 (.int .i64 (q : Int)) rfl rfl (by kernel_rfl) (fun _ _ _ h => h) (fun _ _ => rfl) trivial ?_
    simp only [Act.put, ap1, ap2, ap3]
    refine held_tk 5 52 (.int .i64 ((a : Int) + (q : Int))) rfl rfl (by kernel_rfl) (fun _ _ _ h => h) (fun _ _ => exec_addN rfl rfl rfl (by omega) (by omega) (by omega)) trivial ?_
    simp only [Act.put, ap1, ap2, ap3]
    refine held_tk 6 53 (.slice (some ⟨g, o, none⟩) d.size cap) rfl rfl (by kernel_rfl) (fun _ _ _ h => h) (fun _ _ => rfl) trivial ?_
    simp only [Act.put, ap1, ap2, ap3]
    refine held_tk 7 54 (.int .i64 (a : Int)) rfl rfl (by kernel_rfl) (fun _ _ _ h => h) (fun _ _ => rfl) trivial ?_
    simp only [Act.put, ap1, ap2, ap3]
    refine held_tk 8 55 (.int .i64 (q : Int)) rfl rfl (by kernel_rfl) (fun _ _ _ h => h) (fun _ _ => rfl) trivial ?_
    simp only [Act.put, ap1, ap2, ap3]
    refine held_tk 9 56 (.int .i64 ((a : Int) + (q : Int))) rfl rfl (by kernel_rfl) (fun _ _ _ h => h) (fun _ _ => exec_addN rfl rfl rfl (by omega) (by omega) (by omega)) trivial ?_
    simp only [Act.put, ap1, ap2, ap3]
    refine held_tk 10 57 (.pointer (some ⟨g, o + (a + q), none⟩)) rfl rfl (by kernel_rfl) (fun _ _ _ h => h) (fun _ _ => exec_idx16 (i := (a + q)) rfl rfl rfl (by omega) (by omega)) trivial ?_
    simp only [Act.put, ap1, ap2, ap3]
    refine held_tk 12 59 (.slice (some ⟨g, o, none⟩) d.size cap) rfl rfl (by kernel_rfl) (fun _ _ _ h => h) (fun _ _ => rfl) trivial ?_
    simp only [Act.put, ap1, ap2, ap3]
    refine held_tk 13 60 (.int .i64 (k : Int)) rfl rfl (by kernel_rfl) (fun _ _ _ h => h) (fun _ _ => rfl) trivial ?_
    simp only [Act.put, ap1, ap2, ap3]
    refine held_tk 14 61 (.pointer (some ⟨g, o + k, none⟩)) rfl rfl (by kernel_rfl) (fun _ _ _ h => h) (fun _ _ => exec_idx16 (i := k) rfl rfl rfl (by omega) (by omega)) trivial ?_
    simp only [Act.put, ap1, ap2, ap3]
    refine held_two 11 15 58 62 (.int .u64 x[(a + q)]!) (.int .u64 x[k]!) (by decide) (by decide) rfl rfl rfl rfl (by kernel_rfl) (by kernel_rfl) (by kernel_rfl) (by kernel_rfl) (by kernel_rfl) (by kernel_rfl) (by kernel_rfl) (exec_ld16 rfl rfl (H3.out.drawn 1) (by omega) rfl) (exec_ld16 rfl rfl (H3.out.drawn 1) (by omega) rfl) (exec_ld16 rfl rfl (H3.out.drawn 1) (by omega) rfl) (exec_ld16 rfl rfl (H3.out.drawn 1) (by omega) rfl) trivial ?_
    simp only [Act.put, ap1, ap2, ap3]
    refine held_exec 16 63 (.pointer (some ⟨g, o + k, none⟩)) rfl rfl (by kernel_rfl) (by kernel_rfl) (exec_idx16 (i := k) rfl rfl rfl (by omega) (by omega)) trivial ?_
    simp only [Act.put, ap1, ap2, ap3]
    refine held_void 17 rfl rfl (by kernel_rfl) (by kernel_rfl) (exec_st16 rfl rfl rfl (H3.out.drawn 1) (by omega)) trivial ?_
    refine held_exec 18 64 (.pointer (some ⟨g, o + (a + q), none⟩)) rfl rfl (by kernel_rfl) (by kernel_rfl) (exec_idx16 (i := (a + q)) rfl rfl rfl (by omega) (by omega)) trivial ?_
    simp only [Act.put, ap1, ap2, ap3]
    refine held_void 19 rfl rfl (by kernel_rfl) (by kernel_rfl) (exec_st16 rfl rfl rfl ((H3.out.drawn 1).set (by omega) _) (by simp; omega)) trivial ?_
    refine wpAnyH_done (by kernel_rfl) ?_ _
    have HN := Lib.hid (H3.out.swapd (i := k) (j := (a + q)) (by omega) (by omega))
    have HB3 : Hid (Blk ((W3.drew.setCell ⟨g, o + k, none⟩ (.int .u64 x[(a + q)]!)).setCell ⟨g, o + (a + q), none⟩ (.int .u64 x[k]!)) p 225 #[.int .u64 z1]) := Lib.hid ((HB2.out.kept (Kept.drew (fun _ => False) _) (fun h => h)).kept ((Kept.setCell _ _ _).trans (Kept.setCell _ _ _) (fun _ h => .inl h)) (fun h => HNE.out h.symm))
    generalize (W3.drew.setCell ⟨g, o + k, none⟩ (.int .u64 x[(a + q)]!)).setCell ⟨g, o + (a + q), none⟩ (.int .u64 x[k]!) = wn at HN HB3
    go_wp2_with fail
    go_roundw
    case rel => exact ⟨k + 1, swp x k (a + q), z1, by go_num, by omega, by omega, by rw [size_swp]; exact hx, Go.Sort.permIn_trans _ _ _ _ _ HP.out (Go.Sort.swp_permIn _ _ _ _ _ (by omega) (by omega) (by omega) (by omega) (by omega)), HN.out, HB3.out⟩
    case measure => simp [numI]; omega
   ·rename_i hyn
    generalize bits BinOp.and IntKind.u64 z1 ((m : Int) - 1) = y at hand hyn
    obtain ⟨q, rfl⟩ : ∃ q : Nat, y = (q : Int) := ⟨y.toNat, by omega⟩
    have hqn : q < n := by omega
    clear hand hyn
    refine wp_region_held_drew (S := fun _ => True) (by kernel_rfl) trivial (fun hS => ?_)
    refine held_tk 0 47 (.slice (some ⟨g, o, none⟩) d.size cap) rfl rfl (by kernel_rfl) (fun _ _ _ h => h) (fun _ _ => rfl) trivial ?_
    simp only [Act.put, ap1, ap2, ap3]
    refine held_tk 1 48 (.int .i64 (k : Int)) rfl rfl (by kernel_rfl) (fun _ _ _ h => h) (fun _ _ => rfl) trivial ?_
    simp only [Act.put, ap1, ap2, ap3]
    refine held_tk 2 49 (.slice (some ⟨g, o, none⟩) d.size cap) rfl rfl (by kernel_rfl) (fun _ _ _ h => h) (fun _ _ => rfl) trivial ?_
    simp only [Act.put, ap1, ap2, ap3]
    refine held_tk 3 50 (.int .i64 (a : Int)) rfl rfl (by kernel_rfl) (fun _ _ _ h => h) (fun _ _ => rfl) trivial ?_
    simp only [Act.put, ap1, ap2, ap3]
    refine held_tk 4 51 (.int .i64 (q : Int)) rfl rfl (by kernel_rfl) (fun _ _ _ h => h) (fun _ _ => rfl) trivial ?_
    simp only [Act.put, ap1, ap2, ap3]
    refine held_tk 5 52 (.int .i64 ((a : Int) + (q : Int))) rfl rfl (by kernel_rfl) (fun _ _ _ h => h) (fun _ _ => exec_addN rfl rfl rfl (by omega) (by omega) (by omega)) trivial ?_
    simp only [Act.put, ap1, ap2, ap3]
    refine held_tk 6 53 (.slice (some ⟨g, o, none⟩) d.size cap) rfl rfl (by kernel_rfl) (fun _ _ _ h => h) (fun _ _ => rfl) trivial ?_
    simp only [Act.put, ap1, ap2, ap3]
    refine held_tk 7 54 (.int .i64 (a : Int)) rfl rfl (by kernel_rfl) (fun _ _ _ h => h) (fun _ _ => rfl) trivial ?_
    simp only [Act.put, ap1, ap2, ap3]
    refine held_tk 8 55 (.int .i64 (q : Int)) rfl rfl (by kernel_rfl) (fun _ _ _ h => h) (fun _ _ => rfl) trivial ?_
    simp only [Act.put, ap1, ap2, ap3]
    refine held_tk 9 56 (.int .i64 ((a : Int) + (q : Int))) rfl rfl (by kernel_rfl) (fun _ _ _ h => h) (fun _ _ => exec_addN rfl rfl rfl (by omega) (by omega) (by omega)) trivial ?_
    simp only [Act.put, ap1, ap2, ap3]
    refine held_tk 10 57 (.pointer (some ⟨g, o + (a + q), none⟩)) rfl rfl (by kernel_rfl) (fun _ _ _ h => h) (fun _ _ => exec_idx16 (i := (a + q)) rfl rfl rfl (by omega) (by omega)) trivial ?_
    simp only [Act.put, ap1, ap2, ap3]
    refine held_tk 12 59 (.slice (some ⟨g, o, none⟩) d.size cap) rfl rfl (by kernel_rfl) (fun _ _ _ h => h) (fun _ _ => rfl) trivial ?_
    simp only [Act.put, ap1, ap2, ap3]
    refine held_tk 13 60 (.int .i64 (k : Int)) rfl rfl (by kernel_rfl) (fun _ _ _ h => h) (fun _ _ => rfl) trivial ?_
    simp only [Act.put, ap1, ap2, ap3]
    refine held_tk 14 61 (.pointer (some ⟨g, o + k, none⟩)) rfl rfl (by kernel_rfl) (fun _ _ _ h => h) (fun _ _ => exec_idx16 (i := k) rfl rfl rfl (by omega) (by omega)) trivial ?_
    simp only [Act.put, ap1, ap2, ap3]
    refine held_two 11 15 58 62 (.int .u64 x[(a + q)]!) (.int .u64 x[k]!) (by decide) (by decide) rfl rfl rfl rfl (by kernel_rfl) (by kernel_rfl) (by kernel_rfl) (by kernel_rfl) (by kernel_rfl) (by kernel_rfl) (by kernel_rfl) (exec_ld16 rfl rfl (H3.out.drawn 1) (by omega) rfl) (exec_ld16 rfl rfl (H3.out.drawn 1) (by omega) rfl) (exec_ld16 rfl rfl (H3.out.drawn 1) (by omega) rfl) (exec_ld16 rfl rfl (H3.out.drawn 1) (by omega) rfl) trivial ?_
    simp only [Act.put, ap1, ap2, ap3]
    refine held_exec 16 63 (.pointer (some ⟨g, o + k, none⟩)) rfl rfl (by kernel_rfl) (by kernel_rfl) (exec_idx16 (i := k) rfl rfl rfl (by omega) (by omega)) trivial ?_
    simp only [Act.put, ap1, ap2, ap3]
    refine held_void 17 rfl rfl (by kernel_rfl) (by kernel_rfl) (exec_st16 rfl rfl rfl (H3.out.drawn 1) (by omega)) trivial ?_
    refine held_exec 18 64 (.pointer (some ⟨g, o + (a + q), none⟩)) rfl rfl (by kernel_rfl) (by kernel_rfl) (exec_idx16 (i := (a + q)) rfl rfl rfl (by omega) (by omega)) trivial ?_
    simp only [Act.put, ap1, ap2, ap3]
    refine held_void 19 rfl rfl (by kernel_rfl) (by kernel_rfl) (exec_st16 rfl rfl rfl ((H3.out.drawn 1).set (by omega) _) (by simp; omega)) trivial ?_
    refine wpAnyH_done (by kernel_rfl) ?_ _
    have HN := Lib.hid (H3.out.swapd (i := k) (j := (a + q)) (by omega) (by omega))
    have HB3 : Hid (Blk ((W3.drew.setCell ⟨g, o + k, none⟩ (.int .u64 x[(a + q)]!)).setCell ⟨g, o + (a + q), none⟩ (.int .u64 x[k]!)) p 225 #[.int .u64 z1]) := Lib.hid ((HB2.out.kept (Kept.drew (fun _ => False) _) (fun h => h)).kept ((Kept.setCell _ _ _).trans (Kept.setCell _ _ _) (fun _ h => .inl h)) (fun h => HNE.out h.symm))
    generalize (W3.drew.setCell ⟨g, o + k, none⟩ (.int .u64 x[(a + q)]!)).setCell ⟨g, o + (a + q), none⟩ (.int .u64 x[k]!) = wn at HN HB3
    go_wp2_with fail
    go_roundw
    case rel => exact ⟨k + 1, swp x k (a + q), z1, by go_num, by omega, by omega, by rw [size_swp]; exact hx, Go.Sort.permIn_trans _ _ _ _ _ HP.out (Go.Sort.swp_permIn _ _ _ _ _ (by omega) (by omega) (by omega) (by omega) (by omega)), HN.out, HB3.out⟩
    case measure => simp [numI]; omega
  ·have hd : decide ((k : Int) ≤ (a : Int) + (n : Int) / 4 * 2 + 1) = false := by simp; omega
   go_wp2_with fail
   go_end0
   exact ⟨rfl, x, hx, HP.out, HX.out⟩
end
section
open Go.RowKit
open Go.Sort (swp ltInt size_swp PermIn SortedIn)
def lwL (p y : Int) : Bool := ltInt y p
def lwE (p y : Int) : Bool := !ltInt p y
def Up (w : World) (g o : Nat) (r : Array Value) (d x : Array Int) (lw : Int → Bool) (p : Int) (a b j i0 : Nat) (v : Value) (W : World) : Prop :=
 ∃ i : Nat, v = .int .i64 (i : Int) ∧ i0 ≤ i ∧ PInv lw p d x a b i j ∧ Sr w W g o r x
def Dn (w : World) (g o : Nat) (r : Array Value) (d x : Array Int) (lw : Int → Bool) (p : Int) (a b i j0 : Nat) (v : Value) (W : World) : Prop :=
 ∃ j : Nat, v = .int .i64 (j : Int) ∧ j ≤ j0 ∧ PInv lw p d x a b i j ∧ Sr w W g o r x
def Both2 (w : World) (g o : Nat) (r : Array Value) (d : Array Int) (lw : Int → Bool) (p : Int) (a b : Nat) (v u : Value) (W : World) : Prop :=
 ∃ (i j : Nat) (x : Array Int), v = .int .i64 (i : Int) ∧ u = .int .i64 (j : Int) ∧ PInv lw p d x a b i j ∧ Sr w W g o r x
def CutC (w : World) (g o : Nat) (r : Array Value) (x : Array Int) (t : Bool) (c : Value) (W : World) : Prop := c = .bool t ∧ Hid (Sr w W g o r x)
theorem cut_no {i j : Nat} {l u : Bool} (h : (decide (i ≤ j) && (l == u)) = false) : ¬ i ≤ j ∨ l = !u := by
 cases l <;> cases u <;> simp_all
theorem cut_yes {i j : Nat} {l u : Bool} (h : (decide (i ≤ j) && (l == u)) = true) : i ≤ j ∧ l = u := by
 simpa using h
def PartE (w : World) (g o : Nat) (r : Array Value) (d : Array Int) (a b : Nat) (p : Int) (e : Ending) (W' : World) : Prop :=
 ∃ (m : Nat) (x : Array Int), e = .returned (.int .i64 (m : Int)) ∧ PartEq d x a b m p ∧ Sr w W' g o r x
def PartL (w : World) (g o : Nat) (r : Array Value) (d : Array Int) (a b : Nat) (e : Ending) (W' : World) : Prop :=
 ∃ (m : Nat) (q : Bool) (x : Array Int), e = .returned (.tuple #[.int .i64 (m : Int), .bool q]) ∧ Parted d x a b m ∧ Sr w W' g o r x
set_option maxRecDepth 100000 in
set_option maxHeartbeats 8000000 in
theorem parteq16 {w W : World} {g o cap : Nat} {r : Array Value} {d : Array Int} (hs : Sr w W g o r d) (a b pv : Nat) (p : Int) (hpv : Hid (d[pv]! = p)) (h1 : a ≤ pv) (h2 : pv < b) (hb : b ≤ d.size) (hsz : d.size < 1000000) :
  Calls Tryz.prog 185 #[.slice (some ⟨g, o, none⟩) d.size cap, .int .i64 (a : Int), .int .i64 (b : Int), .int .i64 (pv : Int)] W (PartE w g o r d a b p) := by
 have HS := Lib.hid hs
 have HP0 : Hid (PInv (lwE p) p d (swp d a pv) a b (a + 1) (b - 1)) := Lib.hid (by have := PInv.start (lwE d[pv]!) h1 h2 hb; rw [hpv.out] at this; exact this)
 clear hs
 go_enter Tryz.func185, Tryz.ntmps185
 go_wp2_with fail
 refine wp_region_held_drew (S := fun _ => True) (by kernel_rfl) trivial (fun hS => ?_)
 refine held_tk 0 11 (.slice (some ⟨g, o, none⟩) d.size cap) rfl rfl (by kernel_rfl) (fun _ _ _ h => h) (fun _ _ => rfl) trivial ?_
 simp only [Act.put, ap1, ap2, ap3]
 refine held_tk 1 12 (.int .i64 (a : Int)) rfl rfl (by kernel_rfl) (fun _ _ _ h => h) (fun _ _ => rfl) trivial ?_
 simp only [Act.put, ap1, ap2, ap3]
 refine held_tk 2 13 (.slice (some ⟨g, o, none⟩) d.size cap) rfl rfl (by kernel_rfl) (fun _ _ _ h => h) (fun _ _ => rfl) trivial ?_
 simp only [Act.put, ap1, ap2, ap3]
 refine held_tk 3 14 (.int .i64 (pv : Int)) rfl rfl (by kernel_rfl) (fun _ _ _ h => h) (fun _ _ => rfl) trivial ?_
 simp only [Act.put, ap1, ap2, ap3]
 refine held_tk 4 15 (.slice (some ⟨g, o, none⟩) d.size cap) rfl rfl (by kernel_rfl) (fun _ _ _ h => h) (fun _ _ => rfl) trivial ?_
 simp only [Act.put, ap1, ap2, ap3]
 refine held_tk 5 16 (.int .i64 (pv : Int)) rfl rfl (by kernel_rfl) (fun _ _ _ h => h) (fun _ _ => rfl) trivial ?_
 simp only [Act.put, ap1, ap2, ap3]
 refine held_tk 6 17 (.pointer (some ⟨g, o + pv, none⟩)) rfl rfl (by kernel_rfl) (fun _ _ _ h => h) (fun _ _ => exec_idx16 (i := pv) rfl rfl rfl (by omega) (by omega)) trivial ?_
 simp only [Act.put, ap1, ap2, ap3]
 refine held_tk 8 19 (.slice (some ⟨g, o, none⟩) d.size cap) rfl rfl (by kernel_rfl) (fun _ _ _ h => h) (fun _ _ => rfl) trivial ?_
 simp only [Act.put, ap1, ap2, ap3]
 refine held_tk 9 20 (.int .i64 (a : Int)) rfl rfl (by kernel_rfl) (fun _ _ _ h => h) (fun _ _ => rfl) trivial ?_
 simp only [Act.put, ap1, ap2, ap3]
 refine held_tk 10 21 (.pointer (some ⟨g, o + a, none⟩)) rfl rfl (by kernel_rfl) (fun _ _ _ h => h) (fun _ _ => exec_idx16 (i := a) rfl rfl rfl (by omega) (by omega)) trivial ?_
 simp only [Act.put, ap1, ap2, ap3]
 refine held_two 7 11 18 22 (.int .u64 d[pv]!) (.int .u64 d[a]!) (by decide) (by decide) rfl rfl rfl rfl (by kernel_rfl) (by kernel_rfl) (by kernel_rfl) (by kernel_rfl) (by kernel_rfl) (by kernel_rfl) (by kernel_rfl) (exec_ld16 rfl rfl (HS.out.drawn 1) (by omega) rfl) (exec_ld16 rfl rfl (HS.out.drawn 1) (by omega) rfl) (exec_ld16 rfl rfl (HS.out.drawn 1) (by omega) rfl) (exec_ld16 rfl rfl (HS.out.drawn 1) (by omega) rfl) trivial ?_
 simp only [Act.put, ap1, ap2, ap3]
 refine held_exec 12 23 (.pointer (some ⟨g, o + a, none⟩)) rfl rfl (by kernel_rfl) (by kernel_rfl) (exec_idx16 (i := a) rfl rfl rfl (by omega) (by omega)) trivial ?_
 simp only [Act.put, ap1, ap2, ap3]
 refine held_void 13 rfl rfl (by kernel_rfl) (by kernel_rfl) (exec_st16 rfl rfl rfl (HS.out.drawn 1) (by omega)) trivial ?_
 refine held_exec 14 24 (.pointer (some ⟨g, o + pv, none⟩)) rfl rfl (by kernel_rfl) (by kernel_rfl) (exec_idx16 (i := pv) rfl rfl rfl (by omega) (by omega)) trivial ?_
 simp only [Act.put, ap1, ap2, ap3]
 refine held_void 15 rfl rfl (by kernel_rfl) (by kernel_rfl) (exec_st16 rfl rfl rfl ((HS.out.drawn 1).set (by omega) _) (by simp; omega)) trivial ?_
 refine wpAnyH_done (by kernel_rfl) ?_ _
 have HN := Lib.hid (HS.out.swapd (i := a) (j := pv) (by omega) (by omega))
 generalize (W.drew.setCell ⟨g, o + a, none⟩ (.int .u64 d[pv]!)).setCell ⟨g, o + pv, none⟩ (.int .u64 d[a]!) = W1 at HN
 go_wp2_with fail
 go_loopw [9, 10] (Both2 w g o r d (lwE p) p a b) (fun v u _ => (numI u + 1 - numI v).toNat)
 case atStart => exact ⟨a + 1, b - 1, _, by go_num, by congr 1; omega, HP0.out, HN.out⟩
 case round =>
  obtain ⟨i0, j0, x, rfl, rfl, hp0, hsx0⟩ := hrel
  have HP := Lib.hid hp0
  have HX := Lib.hid hsx0
  clear hp0 hsx0
  obtain ⟨G, hG⟩ : ∃ G : Nat → Int, ∀ t, G t = x[t]! := ⟨fun t => x[t]!, fun _ => rfl⟩
  have HG := Lib.hid hG
  clear hG
  go_wp2_with fail
  go_loopw [9] (Up w g o r d x (lwE p) p a b j0 i0) (fun v _ => b + 1 - (numI v).toNat)
  case atStart => exact ⟨_, rfl, Nat.le_refl _, HP.out, HX.out⟩
  case round =>
   obtain ⟨i, rfl, hmvi, hp, hsx⟩ := hrel
   have ha1 := hp.ai
   have ha2 := hp.ij
   have ha3 := hp.jb
   have ha4 := hp.fits
   have hcw : ∀ t, t < d.size → wr.cell? ⟨g, o + t, none⟩ = some (.int .u64 (G t)) := fun t ht => by rw [HG.out]; exact hsx.cell (by rw [hp.size]; exact ht)
   have HP := Lib.hid hp
   have HX := Lib.hid hsx
   clear hp hsx
   obtain ⟨t, ht⟩ : ∃ t : Bool, (decide (i ≤ j0) && (lwE p x[i]! == true)) = t := ⟨_, rfl⟩
   have HT := Lib.hid ht
   have HW : Hid (lwE p x[i]! = !ltInt (G a) (G i)) := Lib.hid (by unfold lwE; rw [← HP.out.piv, ← HG.out, ← HG.out])
   clear ht
   go_upto_region 3 with fail
   go_cut [43] (CutC w g o r x t)
   case first =>
    have hn1 : a < d.size := by omega
    by_cases hij : i ≤ j0
    ·have hn2 : i < d.size := by omega
     cases hl : ltInt (G a) (G i)
     ·go_quiet (first | (go_at_call 184; refine Calls.quiet_of_same (less16' _ _ _)))
      rw [hl]
      go_wp2
      go_meet
      exact ⟨congrArg Value.bool (by rw [← HT.out, HW.out, hl]; simp [hij]), Lib.hid (HX.out.drawn nq)⟩
     ·go_quiet (first | (go_at_call 184; refine Calls.quiet_of_same (less16' _ _ _)))
      rw [hl]
      go_wp2
      go_meet
      exact ⟨congrArg Value.bool (by rw [← HT.out, HW.out, hl]; simp [hij]), Lib.hid (HX.out.drawn nq)⟩
    ·go_quiet (first | (go_at_call 184; refine Calls.quiet_of_same (less16' _ _ _)))
     go_wp2
     go_meet
     exact ⟨congrArg Value.bool (by rw [← HT.out]; simp [hij]), Lib.hid (HX.out.drawn nq)⟩
   case rest =>
    obtain ⟨rfl, HX2⟩ := hcut
    clear HX hcw
    have HX := HX2
    clear HX2
    cases t
    ·have HFi : Hid (¬ i ≤ j0 ∨ lwE p x[i]! = false) := Lib.hid (cut_no HT.out)
     clear HT HW
     go_wp2_with fail
     go_loopw [10] (Dn w g o r d x (lwE p) p a b i j0) (fun v _ => (numI v).toNat)
     case atStart => exact ⟨_, rfl, Nat.le_refl _, HP.out, HX.out⟩
     case round =>
      obtain ⟨j, rfl, hmvj, hp, hsx⟩ := hrel
      have ha1 := hp.ai
      have ha2 := hp.ij
      have ha3 := hp.jb
      have ha4 := hp.fits
      have hcw : ∀ t, t < d.size → wr.cell? ⟨g, o + t, none⟩ = some (.int .u64 (G t)) := fun t ht => by rw [HG.out]; exact hsx.cell (by rw [hp.size]; exact ht)
      have HP := Lib.hid hp
      have HX := Lib.hid hsx
      clear hp hsx
      obtain ⟨t, ht⟩ : ∃ t : Bool, (decide (i ≤ j) && (lwE p x[j]! == false)) = t := ⟨_, rfl⟩
      have HT := Lib.hid ht
      have HW : Hid (lwE p x[j]! = !ltInt (G a) (G j)) := Lib.hid (by unfold lwE; rw [← HP.out.piv, ← HG.out, ← HG.out])
      clear ht
      go_upto_region 5 with fail
      go_cut [59] (CutC w g o r x t)
      case first =>
       have hn1 : a < d.size := by omega
       by_cases hij : i ≤ j
       ·have hn2 : j < d.size := by omega
        cases hl : ltInt (G a) (G j)
        ·go_quiet (first | (go_at_call 184; refine Calls.quiet_of_same (less16' _ _ _)))
         rw [hl]
         go_wp2
         go_meet
         exact ⟨congrArg Value.bool (by rw [← HT.out, HW.out, hl]; simp [hij]), Lib.hid (HX.out.drawn nq)⟩
        ·go_quiet (first | (go_at_call 184; refine Calls.quiet_of_same (less16' _ _ _)))
         rw [hl]
         go_wp2
         go_meet
         exact ⟨congrArg Value.bool (by rw [← HT.out, HW.out, hl]; simp [hij]), Lib.hid (HX.out.drawn nq)⟩
       ·go_quiet (first | (go_at_call 184; refine Calls.quiet_of_same (less16' _ _ _)))
        go_wp2
        go_meet
        exact ⟨congrArg Value.bool (by rw [← HT.out]; simp [hij]), Lib.hid (HX.out.drawn nq)⟩
      case rest =>
       obtain ⟨rfl, HX2⟩ := hcut
       clear HX hcw
       have HX := HX2
       clear HX2
       cases t
       ·have HFj : Hid (¬ i ≤ j ∨ lwE p x[j]! = true) := Lib.hid (cut_no HT.out)
        clear HT HW
        have hb1 := HP.out.ai
        have hb2 := HP.out.ij
        have hb3 := HP.out.jb
        have hb4 := HP.out.fits
        have hb5 := HP.out.size
        by_cases hfin : j < i
        ·have hd : decide ((j : Int) < (i : Int)) = true := by simp; omega
         go_wp2_with fail
         go_ret
         exact ⟨i, x, rfl, HP.out.ends hfin, HX.out⟩
        ·have hd : decide ((j : Int) < (i : Int)) = false := by simp; omega
         have hdi : i ≤ j := by omega
         have HI := Lib.hid (HFi.out.resolve_left (by omega))
         have HJ := Lib.hid (HFj.out.resolve_left (by omega))
         go_wp2_with fail
         refine wp_region_held_drew (S := fun _ => True) (by kernel_rfl) trivial (fun hS => ?_)
         refine held_tk 0 65 (.slice (some ⟨g, o, none⟩) d.size cap) rfl rfl (by kernel_rfl) (fun _ _ _ h => h) (fun _ _ => rfl) trivial ?_
         simp only [Act.put, ap1, ap2, ap3]
         refine held_tk 1 66 (.int .i64 (i : Int)) rfl rfl (by kernel_rfl) (fun _ _ _ h => h) (fun _ _ => rfl) trivial ?_
         simp only [Act.put, ap1, ap2, ap3]
         refine held_tk 2 67 (.slice (some ⟨g, o, none⟩) d.size cap) rfl rfl (by kernel_rfl) (fun _ _ _ h => h) (fun _ _ => rfl) trivial ?_
         simp only [Act.put, ap1, ap2, ap3]
         refine held_tk 3 68 (.int .i64 (j : Int)) rfl rfl (by kernel_rfl) (fun _ _ _ h => h) (fun _ _ => rfl) trivial ?_
         simp only [Act.put, ap1, ap2, ap3]
         refine held_tk 4 69 (.slice (some ⟨g, o, none⟩) d.size cap) rfl rfl (by kernel_rfl) (fun _ _ _ h => h) (fun _ _ => rfl) trivial ?_
         simp only [Act.put, ap1, ap2, ap3]
         refine held_tk 5 70 (.int .i64 (j : Int)) rfl rfl (by kernel_rfl) (fun _ _ _ h => h) (fun _ _ => rfl) trivial ?_
         simp only [Act.put, ap1, ap2, ap3]
         refine held_tk 6 71 (.pointer (some ⟨g, o + j, none⟩)) rfl rfl (by kernel_rfl) (fun _ _ _ h => h) (fun _ _ => exec_idx16 (i := j) rfl rfl rfl (by omega) (by omega)) trivial ?_
         simp only [Act.put, ap1, ap2, ap3]
         refine held_tk 8 73 (.slice (some ⟨g, o, none⟩) d.size cap) rfl rfl (by kernel_rfl) (fun _ _ _ h => h) (fun _ _ => rfl) trivial ?_
         simp only [Act.put, ap1, ap2, ap3]
         refine held_tk 9 74 (.int .i64 (i : Int)) rfl rfl (by kernel_rfl) (fun _ _ _ h => h) (fun _ _ => rfl) trivial ?_
         simp only [Act.put, ap1, ap2, ap3]
         refine held_tk 10 75 (.pointer (some ⟨g, o + i, none⟩)) rfl rfl (by kernel_rfl) (fun _ _ _ h => h) (fun _ _ => exec_idx16 (i := i) rfl rfl rfl (by omega) (by omega)) trivial ?_
         simp only [Act.put, ap1, ap2, ap3]
         refine held_two 7 11 72 76 (.int .u64 x[j]!) (.int .u64 x[i]!) (by decide) (by decide) rfl rfl rfl rfl (by kernel_rfl) (by kernel_rfl) (by kernel_rfl) (by kernel_rfl) (by kernel_rfl) (by kernel_rfl) (by kernel_rfl) (exec_ld16 rfl rfl (HX.out.drawn 1) (by omega) rfl) (exec_ld16 rfl rfl (HX.out.drawn 1) (by omega) rfl) (exec_ld16 rfl rfl (HX.out.drawn 1) (by omega) rfl) (exec_ld16 rfl rfl (HX.out.drawn 1) (by omega) rfl) trivial ?_
         simp only [Act.put, ap1, ap2, ap3]
         refine held_exec 12 77 (.pointer (some ⟨g, o + i, none⟩)) rfl rfl (by kernel_rfl) (by kernel_rfl) (exec_idx16 (i := i) rfl rfl rfl (by omega) (by omega)) trivial ?_
         simp only [Act.put, ap1, ap2, ap3]
         refine held_void 13 rfl rfl (by kernel_rfl) (by kernel_rfl) (exec_st16 rfl rfl rfl (HX.out.drawn 1) (by omega)) trivial ?_
         refine held_exec 14 78 (.pointer (some ⟨g, o + j, none⟩)) rfl rfl (by kernel_rfl) (by kernel_rfl) (exec_idx16 (i := j) rfl rfl rfl (by omega) (by omega)) trivial ?_
         simp only [Act.put, ap1, ap2, ap3]
         refine held_void 15 rfl rfl (by kernel_rfl) (by kernel_rfl) (exec_st16 rfl rfl rfl ((HX.out.drawn 1).set (by omega) _) (by simp; omega)) trivial ?_
         refine wpAnyH_done (by kernel_rfl) ?_ _
         have HN := Lib.hid (HX.out.swapd (i := i) (j := j) (by omega) (by omega))
         generalize (wc.drew.setCell ⟨g, o + i, none⟩ (.int .u64 x[j]!)).setCell ⟨g, o + j, none⟩ (.int .u64 x[i]!) = W4 at HN
         have HQ := Lib.hid (HP.out.swap hdi HI.out HJ.out)
         go_wp2_with fail
         go_roundw
         case rel => exact ⟨i + 1, j - 1, swp x i j, by first | rfl | go_num | (congr 1; omega), by first | rfl | go_num | (congr 1; omega), HQ.out, HN.out⟩
         case measure => simp [numI]; omega
       ·have hc := cut_yes HT.out
        clear HT HW
        go_wp2
        go_roundw
        case rel => exact ⟨j - 1, by congr 1; omega, by omega, HP.out.down hc.1 hc.2, HX.out⟩
        case measure => simp [numI]; omega
    ·have hc := cut_yes HT.out
     clear HT HW
     go_wp2
     go_roundw
     case rel => exact ⟨i + 1, by go_num, by omega, HP.out.up hc.1 hc.2, HX.out⟩
     case measure => simp [numI]; omega
set_option maxRecDepth 100000 in
set_option maxHeartbeats 16000000 in
theorem part16 {w W : World} {g o cap : Nat} {r : Array Value} {d : Array Int} (hs : Sr w W g o r d) (a b pv : Nat) (h1 : a ≤ pv) (h2 : pv < b) (hb : b ≤ d.size) (hsz : d.size < 1000000) :
  Calls Tryz.prog 186 #[.slice (some ⟨g, o, none⟩) d.size cap, .int .i64 (a : Int), .int .i64 (b : Int), .int .i64 (pv : Int)] W (PartL w g o r d a b) := by
 have HS := Lib.hid hs
 obtain ⟨p, hpv⟩ : ∃ p, d[pv]! = p := ⟨_, rfl⟩
 obtain ⟨i0, hi0⟩ : ∃ i0, a + 1 = i0 := ⟨_, rfl⟩
 obtain ⟨j0, hj0⟩ : ∃ j0, b - 1 = j0 := ⟨_, rfl⟩
 obtain ⟨x, hx0⟩ : ∃ x, swp d a pv = x := ⟨_, rfl⟩
 have HP0 : Hid (PInv (lwL p) p d x a b i0 j0) := Lib.hid (by have := PInv.start (lwL d[pv]!) h1 h2 hb; rw [hpv, hi0, hj0, hx0] at this; exact this)
 have hi1 : a + 1 ≤ i0 := by omega
 have hi2 : i0 ≤ a + 1 := by omega
 have hj1 : b ≤ j0 + 1 := by omega
 have hj2 : j0 + 1 ≤ b := by omega
 have HX0 := Lib.hid hx0
 clear hs hpv hi0 hj0 hx0
 go_enter Tryz.func186, Tryz.ntmps186
 go_wp2_with fail
 refine wp_region_held_drew (S := fun _ => True) (by kernel_rfl) trivial (fun hS => ?_)
 refine held_tk 0 12 (.slice (some ⟨g, o, none⟩) d.size cap) rfl rfl (by kernel_rfl) (fun _ _ _ h => h) (fun _ _ => rfl) trivial ?_
 simp only [Act.put, ap1, ap2, ap3]
 refine held_tk 1 13 (.int .i64 (a : Int)) rfl rfl (by kernel_rfl) (fun _ _ _ h => h) (fun _ _ => rfl) trivial ?_
 simp only [Act.put, ap1, ap2, ap3]
 refine held_tk 2 14 (.slice (some ⟨g, o, none⟩) d.size cap) rfl rfl (by kernel_rfl) (fun _ _ _ h => h) (fun _ _ => rfl) trivial ?_
 simp only [Act.put, ap1, ap2, ap3]
 refine held_tk 3 15 (.int .i64 (pv : Int)) rfl rfl (by kernel_rfl) (fun _ _ _ h => h) (fun _ _ => rfl) trivial ?_
 simp only [Act.put, ap1, ap2, ap3]
 refine held_tk 4 16 (.slice (some ⟨g, o, none⟩) d.size cap) rfl rfl (by kernel_rfl) (fun _ _ _ h => h) (fun _ _ => rfl) trivial ?_
 simp only [Act.put, ap1, ap2, ap3]
 refine held_tk 5 17 (.int .i64 (pv : Int)) rfl rfl (by kernel_rfl) (fun _ _ _ h => h) (fun _ _ => rfl) trivial ?_
 simp only [Act.put, ap1, ap2, ap3]
 refine held_tk 6 18 (.pointer (some ⟨g, o + pv, none⟩)) rfl rfl (by kernel_rfl) (fun _ _ _ h => h) (fun _ _ => exec_idx16 (i := pv) rfl rfl rfl (by omega) (by omega)) trivial ?_
 simp only [Act.put, ap1, ap2, ap3]
 refine held_tk 8 20 (.slice (some ⟨g, o, none⟩) d.size cap) rfl rfl (by kernel_rfl) (fun _ _ _ h => h) (fun _ _ => rfl) trivial ?_
 simp only [Act.put, ap1, ap2, ap3]
 refine held_tk 9 21 (.int .i64 (a : Int)) rfl rfl (by kernel_rfl) (fun _ _ _ h => h) (fun _ _ => rfl) trivial ?_
 simp only [Act.put, ap1, ap2, ap3]
 refine held_tk 10 22 (.pointer (some ⟨g, o + a, none⟩)) rfl rfl (by kernel_rfl) (fun _ _ _ h => h) (fun _ _ => exec_idx16 (i := a) rfl rfl rfl (by omega) (by omega)) trivial ?_
 simp only [Act.put, ap1, ap2, ap3]
 refine held_two 7 11 19 23 (.int .u64 d[pv]!) (.int .u64 d[a]!) (by decide) (by decide) rfl rfl rfl rfl (by kernel_rfl) (by kernel_rfl) (by kernel_rfl) (by kernel_rfl) (by kernel_rfl) (by kernel_rfl) (by kernel_rfl) (exec_ld16 rfl rfl (HS.out.drawn 1) (by omega) rfl) (exec_ld16 rfl rfl (HS.out.drawn 1) (by omega) rfl) (exec_ld16 rfl rfl (HS.out.drawn 1) (by omega) rfl) (exec_ld16 rfl rfl (HS.out.drawn 1) (by omega) rfl) trivial ?_
 simp only [Act.put, ap1, ap2, ap3]
 refine held_exec 12 24 (.pointer (some ⟨g, o + a, none⟩)) rfl rfl (by kernel_rfl) (by kernel_rfl) (exec_idx16 (i := a) rfl rfl rfl (by omega) (by omega)) trivial ?_
 simp only [Act.put, ap1, ap2, ap3]
 refine held_void 13 rfl rfl (by kernel_rfl) (by kernel_rfl) (exec_st16 rfl rfl rfl (HS.out.drawn 1) (by omega)) trivial ?_
 refine held_exec 14 25 (.pointer (some ⟨g, o + pv, none⟩)) rfl rfl (by kernel_rfl) (by kernel_rfl) (exec_idx16 (i := pv) rfl rfl rfl (by omega) (by omega)) trivial ?_
 simp only [Act.put, ap1, ap2, ap3]
 refine held_void 15 rfl rfl (by kernel_rfl) (by kernel_rfl) (exec_st16 rfl rfl rfl ((HS.out.drawn 1).set (by omega) _) (by simp; omega)) trivial ?_
 refine wpAnyH_done (by kernel_rfl) ?_ _
 have HN := Lib.hid (HS.out.swapd (i := a) (j := pv) (by omega) (by omega))
 generalize (W.drew.setCell ⟨g, o + a, none⟩ (.int .u64 d[pv]!)).setCell ⟨g, o + pv, none⟩ (.int .u64 d[a]!) = W1 at HN
 rw [HX0.out] at HN
 have HX := HN
 have HP := HP0
 clear HN HP0
 obtain ⟨G, hG⟩ : ∃ G : Nat → Int, ∀ t, G t = x[t]! := ⟨fun t => x[t]!, fun _ => rfl⟩
 have HG := Lib.hid hG
 clear hG
 go_wp2_with fail
 rw [show ((b : Int) - 1) = (j0 : Int) by omega, show ((a : Int) + 1) = (i0 : Int) by omega]
 go_loopw [10] (Up w g o r d x (lwL p) p a b j0 i0) (fun v _ => b + 1 - (numI v).toNat)
 case atStart => exact ⟨_, rfl, Nat.le_refl _, HP.out, HX.out⟩
 case round =>
  obtain ⟨i, rfl, hmvi, hp, hsx⟩ := hrel
  have ha1 := hp.ai
  have ha2 := hp.ij
  have ha3 := hp.jb
  have ha4 := hp.fits
  have hcw : ∀ t, t < d.size → wr.cell? ⟨g, o + t, none⟩ = some (.int .u64 (G t)) := fun t ht => by rw [HG.out]; exact hsx.cell (by rw [hp.size]; exact ht)
  have HP := Lib.hid hp
  have HX := Lib.hid hsx
  clear hp hsx
  obtain ⟨t, ht⟩ : ∃ t : Bool, (decide (i ≤ j0) && (lwL p x[i]! == true)) = t := ⟨_, rfl⟩
  have HT := Lib.hid ht
  have HW : Hid (lwL p x[i]! = ltInt (G i) (G a)) := Lib.hid (by unfold lwL; rw [← HP.out.piv, ← HG.out, ← HG.out])
  clear ht
  go_upto_region 3 with fail
  go_cut [43] (CutC w g o r x t)
  case first =>
   have hn1 : a < d.size := by omega
   by_cases hij : i ≤ j0
   ·have hn2 : i < d.size := by omega
    cases hl : ltInt (G i) (G a)
    ·go_quiet (first | (go_at_call 184; refine Calls.quiet_of_same (less16' _ _ _)))
     rw [hl]
     go_wp2
     go_meet
     exact ⟨congrArg Value.bool (by rw [← HT.out, HW.out, hl]; simp [hij]), Lib.hid (HX.out.drawn nq)⟩
    ·go_quiet (first | (go_at_call 184; refine Calls.quiet_of_same (less16' _ _ _)))
     rw [hl]
     go_wp2
     go_meet
     exact ⟨congrArg Value.bool (by rw [← HT.out, HW.out, hl]; simp [hij]), Lib.hid (HX.out.drawn nq)⟩
   ·go_quiet (first | (go_at_call 184; refine Calls.quiet_of_same (less16' _ _ _)))
    go_wp2
    go_meet
    exact ⟨congrArg Value.bool (by rw [← HT.out]; simp [hij]), Lib.hid (HX.out.drawn nq)⟩
  case rest =>
   obtain ⟨rfl, HX2⟩ := hcut
   clear HX hcw
   have HX := HX2
   clear HX2
   cases t
   ·have HFi : Hid (¬ i ≤ j0 ∨ lwL p x[i]! = false) := Lib.hid (cut_no HT.out)
    clear HT HW
    go_wp2_with fail
    go_loopw [11] (Dn w g o r d x (lwL p) p a b i j0) (fun v _ => (numI v).toNat)
    case atStart => exact ⟨_, rfl, Nat.le_refl _, HP.out, HX.out⟩
    case round =>
     obtain ⟨j, rfl, hmvj, hp, hsx⟩ := hrel
     have ha1 := hp.ai
     have ha2 := hp.ij
     have ha3 := hp.jb
     have ha4 := hp.fits
     have hcw : ∀ t, t < d.size → wr.cell? ⟨g, o + t, none⟩ = some (.int .u64 (G t)) := fun t ht => by rw [HG.out]; exact hsx.cell (by rw [hp.size]; exact ht)
     have HP := Lib.hid hp
     have HX := Lib.hid hsx
     clear hp hsx
     obtain ⟨t, ht⟩ : ∃ t : Bool, (decide (i ≤ j) && (lwL p x[j]! == false)) = t := ⟨_, rfl⟩
     have HT := Lib.hid ht
     have HW : Hid (lwL p x[j]! = ltInt (G j) (G a)) := Lib.hid (by unfold lwL; rw [← HP.out.piv, ← HG.out, ← HG.out])
     clear ht
     go_upto_region 5 with fail
     go_cut [60] (CutC w g o r x t)
     case first =>
      have hn1 : a < d.size := by omega
      by_cases hij : i ≤ j
      ·have hn2 : j < d.size := by omega
       cases hl : ltInt (G j) (G a)
       ·go_quiet (first | (go_at_call 184; refine Calls.quiet_of_same (less16' _ _ _)))
        rw [hl]
        go_wp2
        go_meet
        exact ⟨congrArg Value.bool (by rw [← HT.out, HW.out, hl]; simp [hij]), Lib.hid (HX.out.drawn nq)⟩
       ·go_quiet (first | (go_at_call 184; refine Calls.quiet_of_same (less16' _ _ _)))
        rw [hl]
        go_wp2
        go_meet
        exact ⟨congrArg Value.bool (by rw [← HT.out, HW.out, hl]; simp [hij]), Lib.hid (HX.out.drawn nq)⟩
      ·go_quiet (first | (go_at_call 184; refine Calls.quiet_of_same (less16' _ _ _)))
       go_wp2
       go_meet
       exact ⟨congrArg Value.bool (by rw [← HT.out]; simp [hij]), Lib.hid (HX.out.drawn nq)⟩
     case rest =>
      obtain ⟨rfl, HX2⟩ := hcut
      clear HX hcw
      have HX := HX2
      clear HX2
      cases t
      ·have HFj : Hid (¬ i ≤ j ∨ lwL p x[j]! = true) := Lib.hid (cut_no HT.out)
       clear HT HW
       have hb1 := HP.out.ai
       have hb2 := HP.out.ij
       have hb3 := HP.out.jb
       have hb4 := HP.out.fits
       have hb5 := HP.out.size
       by_cases hfin : j < i
       ·have hd : decide ((j : Int) < (i : Int)) = true := by simp; omega
        go_wp2_with fail
        refine wp_region_held_drew (S := fun _ => True) (by kernel_rfl) trivial (fun hS => ?_)
        refine held_tk 0 66 (.slice (some ⟨g, o, none⟩) d.size cap) rfl rfl (by kernel_rfl) (fun _ _ _ h => h) (fun _ _ => rfl) trivial ?_
        simp only [Act.put, ap1, ap2, ap3]
        refine held_tk 1 67 (.int .i64 (j : Int)) rfl rfl (by kernel_rfl) (fun _ _ _ h => h) (fun _ _ => rfl) trivial ?_
        simp only [Act.put, ap1, ap2, ap3]
        refine held_tk 2 68 (.slice (some ⟨g, o, none⟩) d.size cap) rfl rfl (by kernel_rfl) (fun _ _ _ h => h) (fun _ _ => rfl) trivial ?_
        simp only [Act.put, ap1, ap2, ap3]
        refine held_tk 3 69 (.int .i64 (a : Int)) rfl rfl (by kernel_rfl) (fun _ _ _ h => h) (fun _ _ => rfl) trivial ?_
        simp only [Act.put, ap1, ap2, ap3]
        refine held_tk 4 70 (.slice (some ⟨g, o, none⟩) d.size cap) rfl rfl (by kernel_rfl) (fun _ _ _ h => h) (fun _ _ => rfl) trivial ?_
        simp only [Act.put, ap1, ap2, ap3]
        refine held_tk 5 71 (.int .i64 (a : Int)) rfl rfl (by kernel_rfl) (fun _ _ _ h => h) (fun _ _ => rfl) trivial ?_
        simp only [Act.put, ap1, ap2, ap3]
        refine held_tk 6 72 (.pointer (some ⟨g, o + a, none⟩)) rfl rfl (by kernel_rfl) (fun _ _ _ h => h) (fun _ _ => exec_idx16 (i := a) rfl rfl rfl (by omega) (by omega)) trivial ?_
        simp only [Act.put, ap1, ap2, ap3]
        refine held_tk 8 74 (.slice (some ⟨g, o, none⟩) d.size cap) rfl rfl (by kernel_rfl) (fun _ _ _ h => h) (fun _ _ => rfl) trivial ?_
        simp only [Act.put, ap1, ap2, ap3]
        refine held_tk 9 75 (.int .i64 (j : Int)) rfl rfl (by kernel_rfl) (fun _ _ _ h => h) (fun _ _ => rfl) trivial ?_
        simp only [Act.put, ap1, ap2, ap3]
        refine held_tk 10 76 (.pointer (some ⟨g, o + j, none⟩)) rfl rfl (by kernel_rfl) (fun _ _ _ h => h) (fun _ _ => exec_idx16 (i := j) rfl rfl rfl (by omega) (by omega)) trivial ?_
        simp only [Act.put, ap1, ap2, ap3]
        refine held_two 7 11 73 77 (.int .u64 x[a]!) (.int .u64 x[j]!) (by decide) (by decide) rfl rfl rfl rfl (by kernel_rfl) (by kernel_rfl) (by kernel_rfl) (by kernel_rfl) (by kernel_rfl) (by kernel_rfl) (by kernel_rfl) (exec_ld16 rfl rfl (HX.out.drawn 1) (by omega) rfl) (exec_ld16 rfl rfl (HX.out.drawn 1) (by omega) rfl) (exec_ld16 rfl rfl (HX.out.drawn 1) (by omega) rfl) (exec_ld16 rfl rfl (HX.out.drawn 1) (by omega) rfl) trivial ?_
        simp only [Act.put, ap1, ap2, ap3]
        refine held_exec 12 78 (.pointer (some ⟨g, o + j, none⟩)) rfl rfl (by kernel_rfl) (by kernel_rfl) (exec_idx16 (i := j) rfl rfl rfl (by omega) (by omega)) trivial ?_
        simp only [Act.put, ap1, ap2, ap3]
        refine held_void 13 rfl rfl (by kernel_rfl) (by kernel_rfl) (exec_st16 rfl rfl rfl (HX.out.drawn 1) (by omega)) trivial ?_
        refine held_exec 14 79 (.pointer (some ⟨g, o + a, none⟩)) rfl rfl (by kernel_rfl) (by kernel_rfl) (exec_idx16 (i := a) rfl rfl rfl (by omega) (by omega)) trivial ?_
        simp only [Act.put, ap1, ap2, ap3]
        refine held_void 15 rfl rfl (by kernel_rfl) (by kernel_rfl) (exec_st16 rfl rfl rfl ((HX.out.drawn 1).set (by omega) _) (by simp; omega)) trivial ?_
        refine wpAnyH_done (by kernel_rfl) ?_ _
        have HN := Lib.hid (HX.out.swapd (i := j) (j := a) (by omega) (by omega))
        generalize (wc.drew.setCell ⟨g, o + j, none⟩ (.int .u64 x[a]!)).setCell ⟨g, o + a, none⟩ (.int .u64 x[j]!) = W4 at HN
        have hz : (swp x j a).size = d.size := by rw [size_swp]; exact hb5
        go_wp2_with fail
        exact bodyPost_ret (v := .tuple #[.int .i64 (j : Int), .bool true]) (by simp [results, Tryz.results186, go_sem]) rfl ⟨j, true, swp x j a, rfl, HP.out.final hfin, HN.out⟩
       ·have hd : decide ((j : Int) < (i : Int)) = false := by simp; omega
        have hdi : i ≤ j := by omega
        have HI := Lib.hid (HFi.out.resolve_left (by omega))
        have HJ := Lib.hid (HFj.out.resolve_left (by omega))
        go_wp2_with fail
        refine wp_region_held_drew (S := fun _ => True) (by kernel_rfl) trivial (fun hS => ?_)
        refine held_tk 0 81 (.slice (some ⟨g, o, none⟩) d.size cap) rfl rfl (by kernel_rfl) (fun _ _ _ h => h) (fun _ _ => rfl) trivial ?_
        simp only [Act.put, ap1, ap2, ap3]
        refine held_tk 1 82 (.int .i64 (i : Int)) rfl rfl (by kernel_rfl) (fun _ _ _ h => h) (fun _ _ => rfl) trivial ?_
        simp only [Act.put, ap1, ap2, ap3]
        refine held_tk 2 83 (.slice (some ⟨g, o, none⟩) d.size cap) rfl rfl (by kernel_rfl) (fun _ _ _ h => h) (fun _ _ => rfl) trivial ?_
        simp only [Act.put, ap1, ap2, ap3]
        refine held_tk 3 84 (.int .i64 (j : Int)) rfl rfl (by kernel_rfl) (fun _ _ _ h => h) (fun _ _ => rfl) trivial ?_
        simp only [Act.put, ap1, ap2, ap3]
        refine held_tk 4 85 (.slice (some ⟨g, o, none⟩) d.size cap) rfl rfl (by kernel_rfl) (fun _ _ _ h => h) (fun _ _ => rfl) trivial ?_
        simp only [Act.put, ap1, ap2, ap3]
        refine held_tk 5 86 (.int .i64 (j : Int)) rfl rfl (by kernel_rfl) (fun _ _ _ h => h) (fun _ _ => rfl) trivial ?_
        simp only [Act.put, ap1, ap2, ap3]
        refine held_tk 6 87 (.pointer (some ⟨g, o + j, none⟩)) rfl rfl (by kernel_rfl) (fun _ _ _ h => h) (fun _ _ => exec_idx16 (i := j) rfl rfl rfl (by omega) (by omega)) trivial ?_
        simp only [Act.put, ap1, ap2, ap3]
        refine held_tk 8 89 (.slice (some ⟨g, o, none⟩) d.size cap) rfl rfl (by kernel_rfl) (fun _ _ _ h => h) (fun _ _ => rfl) trivial ?_
        simp only [Act.put, ap1, ap2, ap3]
        refine held_tk 9 90 (.int .i64 (i : Int)) rfl rfl (by kernel_rfl) (fun _ _ _ h => h) (fun _ _ => rfl) trivial ?_
        simp only [Act.put, ap1, ap2, ap3]
        refine held_tk 10 91 (.pointer (some ⟨g, o + i, none⟩)) rfl rfl (by kernel_rfl) (fun _ _ _ h => h) (fun _ _ => exec_idx16 (i := i) rfl rfl rfl (by omega) (by omega)) trivial ?_
        simp only [Act.put, ap1, ap2, ap3]
        refine held_two 7 11 88 92 (.int .u64 x[j]!) (.int .u64 x[i]!) (by decide) (by decide) rfl rfl rfl rfl (by kernel_rfl) (by kernel_rfl) (by kernel_rfl) (by kernel_rfl) (by kernel_rfl) (by kernel_rfl) (by kernel_rfl) (exec_ld16 rfl rfl (HX.out.drawn 1) (by omega) rfl) (exec_ld16 rfl rfl (HX.out.drawn 1) (by omega) rfl) (exec_ld16 rfl rfl (HX.out.drawn 1) (by omega) rfl) (exec_ld16 rfl rfl (HX.out.drawn 1) (by omega) rfl) trivial ?_
        simp only [Act.put, ap1, ap2, ap3]
        refine held_exec 12 93 (.pointer (some ⟨g, o + i, none⟩)) rfl rfl (by kernel_rfl) (by kernel_rfl) (exec_idx16 (i := i) rfl rfl rfl (by omega) (by omega)) trivial ?_
        simp only [Act.put, ap1, ap2, ap3]
        refine held_void 13 rfl rfl (by kernel_rfl) (by kernel_rfl) (exec_st16 rfl rfl rfl (HX.out.drawn 1) (by omega)) trivial ?_
        refine held_exec 14 94 (.pointer (some ⟨g, o + j, none⟩)) rfl rfl (by kernel_rfl) (by kernel_rfl) (exec_idx16 (i := j) rfl rfl rfl (by omega) (by omega)) trivial ?_
        simp only [Act.put, ap1, ap2, ap3]
        refine held_void 15 rfl rfl (by kernel_rfl) (by kernel_rfl) (exec_st16 rfl rfl rfl ((HX.out.drawn 1).set (by omega) _) (by simp; omega)) trivial ?_
        refine wpAnyH_done (by kernel_rfl) ?_ _
        have HN := Lib.hid (HX.out.swapd (i := i) (j := j) (by omega) (by omega))
        generalize (wc.drew.setCell ⟨g, o + i, none⟩ (.int .u64 x[j]!)).setCell ⟨g, o + j, none⟩ (.int .u64 x[i]!) = W4 at HN
        have HQ := Lib.hid (HP.out.swap hdi HI.out HJ.out)
        have HS4 := HN
        clear HFi HFj HI HJ hd HP HX hb5 HN
        go_wp2_with fail
        go_loopw [10, 11] (Both2 w g o r d (lwL p) p a b) (fun v u _ => (numI u + 1 - numI v).toNat)
        case atStart => exact ⟨i + 1, j - 1, swp x i j, by first | rfl | go_num | (congr 1; omega), by first | rfl | go_num | (congr 1; omega), HQ.out, HS4.out⟩
        case round =>
         clear HG
         clear G
         obtain ⟨i0, j0, x, rfl, rfl, hp0, hsx0⟩ := hrel
         have HP := Lib.hid hp0
         have HX := Lib.hid hsx0
         clear hp0 hsx0
         obtain ⟨G, hG⟩ : ∃ G : Nat → Int, ∀ t, G t = x[t]! := ⟨fun t => x[t]!, fun _ => rfl⟩
         have HG := Lib.hid hG
         clear hG
         go_wp2_with fail
         go_loopw [10] (Up w g o r d x (lwL p) p a b j0 i0) (fun v _ => b + 1 - (numI v).toNat)
         case atStart => exact ⟨_, rfl, Nat.le_refl _, HP.out, HX.out⟩
         case round =>
          obtain ⟨i, rfl, hmvi, hp, hsx⟩ := hrel
          have ha1 := hp.ai
          have ha2 := hp.ij
          have ha3 := hp.jb
          have ha4 := hp.fits
          have hcw : ∀ t, t < d.size → wr.cell? ⟨g, o + t, none⟩ = some (.int .u64 (G t)) := fun t ht => by rw [HG.out]; exact hsx.cell (by rw [hp.size]; exact ht)
          have HP := Lib.hid hp
          have HX := Lib.hid hsx
          clear hp hsx
          obtain ⟨t, ht⟩ : ∃ t : Bool, (decide (i ≤ j0) && (lwL p x[i]! == true)) = t := ⟨_, rfl⟩
          have HT := Lib.hid ht
          have HW : Hid (lwL p x[i]! = ltInt (G i) (G a)) := Lib.hid (by unfold lwL; rw [← HP.out.piv, ← HG.out, ← HG.out])
          clear ht
          go_upto_region 13 with fail
          go_cut [112] (CutC w g o r x t)
          case first =>
           have hn1 : a < d.size := by omega
           by_cases hij : i ≤ j0
           ·have hn2 : i < d.size := by omega
            cases hl : ltInt (G i) (G a)
            ·go_quiet (first | (go_at_call 184; refine Calls.quiet_of_same (less16' _ _ _)))
             rw [hl]
             go_wp2
             go_meet
             exact ⟨congrArg Value.bool (by rw [← HT.out, HW.out, hl]; simp [hij]), Lib.hid (HX.out.drawn nq)⟩
            ·go_quiet (first | (go_at_call 184; refine Calls.quiet_of_same (less16' _ _ _)))
             rw [hl]
             go_wp2
             go_meet
             exact ⟨congrArg Value.bool (by rw [← HT.out, HW.out, hl]; simp [hij]), Lib.hid (HX.out.drawn nq)⟩
           ·go_quiet (first | (go_at_call 184; refine Calls.quiet_of_same (less16' _ _ _)))
            go_wp2
            go_meet
            exact ⟨congrArg Value.bool (by rw [← HT.out]; simp [hij]), Lib.hid (HX.out.drawn nq)⟩
          case rest =>
           obtain ⟨rfl, HX2⟩ := hcut
           clear HX hcw
           have HX := HX2
           clear HX2
           cases t
           ·have HFi : Hid (¬ i ≤ j0 ∨ lwL p x[i]! = false) := Lib.hid (cut_no HT.out)
            clear HT HW
            go_wp2_with fail
            go_loopw [11] (Dn w g o r d x (lwL p) p a b i j0) (fun v _ => (numI v).toNat)
            case atStart => exact ⟨_, rfl, Nat.le_refl _, HP.out, HX.out⟩
            case round =>
             obtain ⟨j, rfl, hmvj, hp, hsx⟩ := hrel
             have ha1 := hp.ai
             have ha2 := hp.ij
             have ha3 := hp.jb
             have ha4 := hp.fits
             have hcw : ∀ t, t < d.size → wr.cell? ⟨g, o + t, none⟩ = some (.int .u64 (G t)) := fun t ht => by rw [HG.out]; exact hsx.cell (by rw [hp.size]; exact ht)
             have HP := Lib.hid hp
             have HX := Lib.hid hsx
             clear hp hsx
             obtain ⟨t, ht⟩ : ∃ t : Bool, (decide (i ≤ j) && (lwL p x[j]! == false)) = t := ⟨_, rfl⟩
             have HT := Lib.hid ht
             have HW : Hid (lwL p x[j]! = ltInt (G j) (G a)) := Lib.hid (by unfold lwL; rw [← HP.out.piv, ← HG.out, ← HG.out])
             clear ht
             go_upto_region 15 with fail
             go_cut [129] (CutC w g o r x t)
             case first =>
              have hn1 : a < d.size := by omega
              by_cases hij : i ≤ j
              ·have hn2 : j < d.size := by omega
               cases hl : ltInt (G j) (G a)
               ·go_quiet (first | (go_at_call 184; refine Calls.quiet_of_same (less16' _ _ _)))
                rw [hl]
                go_wp2
                go_meet
                exact ⟨congrArg Value.bool (by rw [← HT.out, HW.out, hl]; simp [hij]), Lib.hid (HX.out.drawn nq)⟩
               ·go_quiet (first | (go_at_call 184; refine Calls.quiet_of_same (less16' _ _ _)))
                rw [hl]
                go_wp2
                go_meet
                exact ⟨congrArg Value.bool (by rw [← HT.out, HW.out, hl]; simp [hij]), Lib.hid (HX.out.drawn nq)⟩
              ·go_quiet (first | (go_at_call 184; refine Calls.quiet_of_same (less16' _ _ _)))
               go_wp2
               go_meet
               exact ⟨congrArg Value.bool (by rw [← HT.out]; simp [hij]), Lib.hid (HX.out.drawn nq)⟩
             case rest =>
              obtain ⟨rfl, HX2⟩ := hcut
              clear HX hcw
              have HX := HX2
              clear HX2
              cases t
              ·have HFj : Hid (¬ i ≤ j ∨ lwL p x[j]! = true) := Lib.hid (cut_no HT.out)
               clear HT HW
               have hb1 := HP.out.ai
               have hb2 := HP.out.ij
               have hb3 := HP.out.jb
               have hb4 := HP.out.fits
               have hb5 := HP.out.size
               by_cases hfin : j < i
               ·have hd : decide ((j : Int) < (i : Int)) = true := by simp; omega
                go_wp2_with fail
                refine wp_region_held_drew (S := fun _ => True) (by kernel_rfl) trivial (fun hS => ?_)
                refine held_tk 0 153 (.slice (some ⟨g, o, none⟩) d.size cap) rfl rfl (by kernel_rfl) (fun _ _ _ h => h) (fun _ _ => rfl) trivial ?_
                simp only [Act.put, ap1, ap2, ap3]
                refine held_tk 1 154 (.int .i64 (j : Int)) rfl rfl (by kernel_rfl) (fun _ _ _ h => h) (fun _ _ => rfl) trivial ?_
                simp only [Act.put, ap1, ap2, ap3]
                refine held_tk 2 155 (.slice (some ⟨g, o, none⟩) d.size cap) rfl rfl (by kernel_rfl) (fun _ _ _ h => h) (fun _ _ => rfl) trivial ?_
                simp only [Act.put, ap1, ap2, ap3]
                refine held_tk 3 156 (.int .i64 (a : Int)) rfl rfl (by kernel_rfl) (fun _ _ _ h => h) (fun _ _ => rfl) trivial ?_
                simp only [Act.put, ap1, ap2, ap3]
                refine held_tk 4 157 (.slice (some ⟨g, o, none⟩) d.size cap) rfl rfl (by kernel_rfl) (fun _ _ _ h => h) (fun _ _ => rfl) trivial ?_
                simp only [Act.put, ap1, ap2, ap3]
                refine held_tk 5 158 (.int .i64 (a : Int)) rfl rfl (by kernel_rfl) (fun _ _ _ h => h) (fun _ _ => rfl) trivial ?_
                simp only [Act.put, ap1, ap2, ap3]
                refine held_tk 6 159 (.pointer (some ⟨g, o + a, none⟩)) rfl rfl (by kernel_rfl) (fun _ _ _ h => h) (fun _ _ => exec_idx16 (i := a) rfl rfl rfl (by omega) (by omega)) trivial ?_
                simp only [Act.put, ap1, ap2, ap3]
                refine held_tk 8 161 (.slice (some ⟨g, o, none⟩) d.size cap) rfl rfl (by kernel_rfl) (fun _ _ _ h => h) (fun _ _ => rfl) trivial ?_
                simp only [Act.put, ap1, ap2, ap3]
                refine held_tk 9 162 (.int .i64 (j : Int)) rfl rfl (by kernel_rfl) (fun _ _ _ h => h) (fun _ _ => rfl) trivial ?_
                simp only [Act.put, ap1, ap2, ap3]
                refine held_tk 10 163 (.pointer (some ⟨g, o + j, none⟩)) rfl rfl (by kernel_rfl) (fun _ _ _ h => h) (fun _ _ => exec_idx16 (i := j) rfl rfl rfl (by omega) (by omega)) trivial ?_
                simp only [Act.put, ap1, ap2, ap3]
                refine held_two 7 11 160 164 (.int .u64 x[a]!) (.int .u64 x[j]!) (by decide) (by decide) rfl rfl rfl rfl (by kernel_rfl) (by kernel_rfl) (by kernel_rfl) (by kernel_rfl) (by kernel_rfl) (by kernel_rfl) (by kernel_rfl) (exec_ld16 rfl rfl (HX.out.drawn 1) (by omega) rfl) (exec_ld16 rfl rfl (HX.out.drawn 1) (by omega) rfl) (exec_ld16 rfl rfl (HX.out.drawn 1) (by omega) rfl) (exec_ld16 rfl rfl (HX.out.drawn 1) (by omega) rfl) trivial ?_
                simp only [Act.put, ap1, ap2, ap3]
                refine held_exec 12 165 (.pointer (some ⟨g, o + j, none⟩)) rfl rfl (by kernel_rfl) (by kernel_rfl) (exec_idx16 (i := j) rfl rfl rfl (by omega) (by omega)) trivial ?_
                simp only [Act.put, ap1, ap2, ap3]
                refine held_void 13 rfl rfl (by kernel_rfl) (by kernel_rfl) (exec_st16 rfl rfl rfl (HX.out.drawn 1) (by omega)) trivial ?_
                refine held_exec 14 166 (.pointer (some ⟨g, o + a, none⟩)) rfl rfl (by kernel_rfl) (by kernel_rfl) (exec_idx16 (i := a) rfl rfl rfl (by omega) (by omega)) trivial ?_
                simp only [Act.put, ap1, ap2, ap3]
                refine held_void 15 rfl rfl (by kernel_rfl) (by kernel_rfl) (exec_st16 rfl rfl rfl ((HX.out.drawn 1).set (by omega) _) (by simp; omega)) trivial ?_
                refine wpAnyH_done (by kernel_rfl) ?_ _
                have HN := Lib.hid (HX.out.swapd (i := j) (j := a) (by omega) (by omega))
                generalize (wc.drew.setCell ⟨g, o + j, none⟩ (.int .u64 x[a]!)).setCell ⟨g, o + a, none⟩ (.int .u64 x[j]!) = W4 at HN
                have hz : (swp x j a).size = d.size := by rw [size_swp]; exact hb5
                go_wp2_with fail
                exact bodyPost_ret (v := .tuple #[.int .i64 (j : Int), .bool false]) (by simp [results, Tryz.results186, go_sem]) rfl ⟨j, false, swp x j a, rfl, HP.out.final hfin, HN.out⟩
               ·have hd : decide ((j : Int) < (i : Int)) = false := by simp; omega
                have hdi : i ≤ j := by omega
                have HI := Lib.hid (HFi.out.resolve_left (by omega))
                have HJ := Lib.hid (HFj.out.resolve_left (by omega))
                go_wp2_with fail
                refine wp_region_held_drew (S := fun _ => True) (by kernel_rfl) trivial (fun hS => ?_)
                refine held_tk 0 135 (.slice (some ⟨g, o, none⟩) d.size cap) rfl rfl (by kernel_rfl) (fun _ _ _ h => h) (fun _ _ => rfl) trivial ?_
                simp only [Act.put, ap1, ap2, ap3]
                refine held_tk 1 136 (.int .i64 (i : Int)) rfl rfl (by kernel_rfl) (fun _ _ _ h => h) (fun _ _ => rfl) trivial ?_
                simp only [Act.put, ap1, ap2, ap3]
                refine held_tk 2 137 (.slice (some ⟨g, o, none⟩) d.size cap) rfl rfl (by kernel_rfl) (fun _ _ _ h => h) (fun _ _ => rfl) trivial ?_
                simp only [Act.put, ap1, ap2, ap3]
                refine held_tk 3 138 (.int .i64 (j : Int)) rfl rfl (by kernel_rfl) (fun _ _ _ h => h) (fun _ _ => rfl) trivial ?_
                simp only [Act.put, ap1, ap2, ap3]
                refine held_tk 4 139 (.slice (some ⟨g, o, none⟩) d.size cap) rfl rfl (by kernel_rfl) (fun _ _ _ h => h) (fun _ _ => rfl) trivial ?_
                simp only [Act.put, ap1, ap2, ap3]
                refine held_tk 5 140 (.int .i64 (j : Int)) rfl rfl (by kernel_rfl) (fun _ _ _ h => h) (fun _ _ => rfl) trivial ?_
                simp only [Act.put, ap1, ap2, ap3]
                refine held_tk 6 141 (.pointer (some ⟨g, o + j, none⟩)) rfl rfl (by kernel_rfl) (fun _ _ _ h => h) (fun _ _ => exec_idx16 (i := j) rfl rfl rfl (by omega) (by omega)) trivial ?_
                simp only [Act.put, ap1, ap2, ap3]
                refine held_tk 8 143 (.slice (some ⟨g, o, none⟩) d.size cap) rfl rfl (by kernel_rfl) (fun _ _ _ h => h) (fun _ _ => rfl) trivial ?_
                simp only [Act.put, ap1, ap2, ap3]
                refine held_tk 9 144 (.int .i64 (i : Int)) rfl rfl (by kernel_rfl) (fun _ _ _ h => h) (fun _ _ => rfl) trivial ?_
                simp only [Act.put, ap1, ap2, ap3]
                refine held_tk 10 145 (.pointer (some ⟨g, o + i, none⟩)) rfl rfl (by kernel_rfl) (fun _ _ _ h => h) (fun _ _ => exec_idx16 (i := i) rfl rfl rfl (by omega) (by omega)) trivial ?_
                simp only [Act.put, ap1, ap2, ap3]
                refine held_two 7 11 142 146 (.int .u64 x[j]!) (.int .u64 x[i]!) (by decide) (by decide) rfl rfl rfl rfl (by kernel_rfl) (by kernel_rfl) (by kernel_rfl) (by kernel_rfl) (by kernel_rfl) (by kernel_rfl) (by kernel_rfl) (exec_ld16 rfl rfl (HX.out.drawn 1) (by omega) rfl) (exec_ld16 rfl rfl (HX.out.drawn 1) (by omega) rfl) (exec_ld16 rfl rfl (HX.out.drawn 1) (by omega) rfl) (exec_ld16 rfl rfl (HX.out.drawn 1) (by omega) rfl) trivial ?_
                simp only [Act.put, ap1, ap2, ap3]
                refine held_exec 12 147 (.pointer (some ⟨g, o + i, none⟩)) rfl rfl (by kernel_rfl) (by kernel_rfl) (exec_idx16 (i := i) rfl rfl rfl (by omega) (by omega)) trivial ?_
                simp only [Act.put, ap1, ap2, ap3]
                refine held_void 13 rfl rfl (by kernel_rfl) (by kernel_rfl) (exec_st16 rfl rfl rfl (HX.out.drawn 1) (by omega)) trivial ?_
                refine held_exec 14 148 (.pointer (some ⟨g, o + j, none⟩)) rfl rfl (by kernel_rfl) (by kernel_rfl) (exec_idx16 (i := j) rfl rfl rfl (by omega) (by omega)) trivial ?_
                simp only [Act.put, ap1, ap2, ap3]
                refine held_void 15 rfl rfl (by kernel_rfl) (by kernel_rfl) (exec_st16 rfl rfl rfl ((HX.out.drawn 1).set (by omega) _) (by simp; omega)) trivial ?_
                refine wpAnyH_done (by kernel_rfl) ?_ _
                have HN := Lib.hid (HX.out.swapd (i := i) (j := j) (by omega) (by omega))
                generalize (wc.drew.setCell ⟨g, o + i, none⟩ (.int .u64 x[j]!)).setCell ⟨g, o + j, none⟩ (.int .u64 x[i]!) = W4 at HN
                have HQ := Lib.hid (HP.out.swap hdi HI.out HJ.out)
                go_wp2_with fail
                go_roundw
                case rel => exact ⟨i + 1, j - 1, swp x i j, by first | rfl | go_num | (congr 1; omega), by first | rfl | go_num | (congr 1; omega), HQ.out, HN.out⟩
                case measure => simp [numI]; omega
              ·have hc := cut_yes HT.out
               clear HT HW
               go_wp2
               go_roundw
               case rel => exact ⟨j - 1, by congr 1; omega, by omega, HP.out.down hc.1 hc.2, HX.out⟩
               case measure => simp [numI]; omega
           ·have hc := cut_yes HT.out
            clear HT HW
            go_wp2
            go_roundw
            case rel => exact ⟨i + 1, by go_num, by omega, HP.out.up hc.1 hc.2, HX.out⟩
            case measure => simp [numI]; omega
      ·have hc := cut_yes HT.out
       clear HT HW
       go_wp2
       go_roundw
       case rel => exact ⟨j - 1, by congr 1; omega, by omega, HP.out.down hc.1 hc.2, HX.out⟩
       case measure => simp [numI]; omega
   ·have hc := cut_yes HT.out
    clear HT HW
    go_wp2
    go_roundw
    case rel => exact ⟨i + 1, by go_num, by omega, HP.out.up hc.1 hc.2, HX.out⟩
    case measure => simp [numI]; omega
end
end Go.Proofs.YtnekpgmgnepdoaaGreat.Q
