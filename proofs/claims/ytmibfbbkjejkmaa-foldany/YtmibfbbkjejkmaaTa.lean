/- Walks of the choice of a pivot, of the look whether all is sorted, and of the breaking of patterns, at fewer than fifty numbers. -/
import Derived.Test.YtmibfbbkjejkmaaSz
namespace Go.Proofs.Ytmibfbbkjejkmaa
open Go.RowKit
open Go.Sort (swp ltInt size_swp PermIn SortedIn)

theorem Sr.bx {w W W' : World} {g o p : Nat} {r : Array Value} {d : Array Int} {t : TypeId} {v : Value} (h : Sr w W g o r d) (hp : w.heap.size ≤ p) (hn : g ≠ p) (hb : Bx W W' p t v) : Sr w W' g o r d :=
  ⟨h.zero, h.blk.kept hb.kept hn, h.kept.trans hb.kept (fun _ hk => .inr (by rw [hk]; exact hp))⟩
theorem Sr.grow {w W W' : World} {g o : Nat} {r : Array Value} {d : Array Int} (h : Sr w W g o r d) (hb : Below W.heap.size W W') : Sr w W' g o r d :=
  ⟨h.zero, h.blk.below hb, h.kept.trans (Kept.of_below (S := fun _ => False) hb) (fun _ hk => hk.elim)⟩

def Piv (w : World) (g o : Nat) (r : Array Value) (d : Array Int) (a b : Nat) (e : Ending) (W' : World) : Prop :=
  ∃ p h : Nat, e = .returned (.tuple #[.int .i64 (p : Int), .int .i64 (h : Int)]) ∧ a ≤ p ∧ p < b ∧ h ≤ 1 ∧ Sr w W' g o r d

set_option maxRecDepth 100000 in
set_option maxHeartbeats 1000000 in
theorem pivot16 {w W : World} {g o cap : Nat} {r : Array Value} {d : Array Int} (hs : Sr w W g o r d) (a b : Nat) (h8 : a + 8 ≤ b) (h50 : b < a + 50) (hb : b ≤ d.size) (hsz : d.size < 1000000) :
    Calls Try.prog 51 #[.slice (some ⟨g, o, none⟩) d.size cap, .int .i64 (a : Int), .int .i64 (b : Int)] W (Piv w g o r d a b) := by
  have HS := Lib.hid hs
  clear hs
  have hn50 : decide ((50 : Int) ≤ (b : Int) - (a : Int)) = false := by simp; omega
  have hn8 : decide ((8 : Int) ≤ (b : Int) - (a : Int)) = true := by simp; omega
  go_enter Try.func51, Try.ntmps51
  go_wp2_with fail
  rw [show ((a : Int) + ((b : Int) - (a : Int)) / 4) = ((a + (b - a) / 4 : Nat) : Int) by omega, show ((a : Int) + ((b : Int) - (a : Int)) / 4 * 2) = ((a + (b - a) / 4 * 2 : Nat) : Int) by omega, show ((a : Int) + ((b : Int) - (a : Int)) / 4 * 3) = ((a + (b - a) / 4 * 3 : Nat) : Int) by omega]
  have HG : Hid (g ≠ W.heap.size) := Lib.hid (fun e => by have := HS.out.blk.lt; omega)
  have HA : Hid (Sr w (W.alloc (.cells #[.int .i64 0] 3)) g o r d) := Lib.hid (HS.out.grow (below_one W _))
  have HM : Hid (Md (W.alloc (.cells #[.int .i64 0] 3)) (W.alloc (.cells #[.int .i64 0] 3)) g o d W.heap.size 0) := Lib.hid ⟨fun t ht => HA.out.cell ht, HG.out, ⟨Blk.new W 3 _, Kept.refl _ _⟩⟩
  have HK : Hid (w.heap.size ≤ W.heap.size) := Lib.hid HS.out.kept.size
  clear HS
  generalize W.alloc (.cells #[.int .i64 0] 3) = W1 at HA HM
  generalize W.heap.size = p at HG HM HK
  refine (median16 HM.out (a + (b - a) / 4) (a + (b - a) / 4 * 2) (a + (b - a) / 4 * 3) (by omega) (by omega) (by omega) (by omega) hsz).mono ?_
  rintro e W2 ⟨m, s, rfl, hm, hs3, hbx⟩
  have HS2 := Lib.hid (HA.out.bx HK.out HG.out hbx)
  have hc := hbx.cell
  have hm1 : a ≤ m ∧ m < b := by omega
  clear hbx HM HA hm hn8 hn50
  by_cases h0 : s = 0
  · subst h0
    go_wp2_with fail
    exact bodyPost_ret (v := .tuple #[.int .i64 (m : Int), .int .i64 (1 : Int)]) (by simp [results, Try.results51, go_sem]) rfl ⟨m, 1, rfl, hm1.1, hm1.2, by omega, HS2.out⟩
  · have hz1 : ((s : Int) == 0) = false := by simp; omega
    have hz2 : ((s : Int) == 12) = false := by simp; omega
    go_wp2_with fail
    exact bodyPost_ret (v := .tuple #[.int .i64 (m : Int), .int .i64 (0 : Int)]) (by simp [results, Try.results51, go_sem]) rfl ⟨m, 0, rfl, hm1.1, hm1.2, by omega, HS2.out⟩

/-- Whether it is found sorted. -/
def Found (w : World) (g o : Nat) (r : Array Value) (d : Array Int) (a b : Nat) (e : Ending) (W' : World) : Prop :=
  ∃ q : Bool, e = .returned (.bool q) ∧ Sr w W' g o r d ∧ (q = true → ∀ k, a < k → k < b → ltInt d[k]! d[k - 1]! = false)
def ScanI (w : World) (g o : Nat) (r : Array Value) (d : Array Int) (a b : Nat) (v : Value) (W : World) : Prop :=
  ∃ i : Nat, v = .int .i64 (i : Int) ∧ a < i ∧ i ≤ b ∧ Sr w W g o r d ∧ Hid (∀ k, a < k → k < i → ltInt d[k]! d[k - 1]! = false)
def ScanO (w : World) (g o : Nat) (r : Array Value) (d : Array Int) (a : Nat) (v7 v8 : Value) (W : World) : Prop := v7 = .int .i64 ((a : Int) + 1) ∧ v8 = .int .i64 0 ∧ Sr w W g o r d

set_option maxRecDepth 100000 in
set_option maxHeartbeats 2000000 in
theorem partial16 {w W : World} {g o cap : Nat} {r : Array Value} {d : Array Int} (hs : Sr w W g o r d) (a b : Nat) (h8 : a + 8 ≤ b) (h50 : b < a + 50) (hb : b ≤ d.size) (hsz : d.size < 1000000) :
    Calls Try.prog 53 #[.slice (some ⟨g, o, none⟩) d.size cap, .int .i64 (a : Int), .int .i64 (b : Int)] W (Found w g o r d a b) := by
  have HS := Lib.hid hs
  clear hs
  obtain ⟨G, hG⟩ : ∃ G : Nat → Int, ∀ t, G t = d[t]! := ⟨fun t => d[t]!, fun _ => rfl⟩
  have HG := Lib.hid hG
  clear hG
  go_enter Try.func53, Try.ntmps53
  go_wp2
  go_loopw [7, 8] (ScanO w g o r d a) (fun _ _ _ => 0)
  case atStart => exact ⟨rfl, rfl, HS.out⟩
  case round =>
    obtain ⟨rfl, rfl, hso⟩ := hrel
    have HS := Lib.hid hso
    clear hso
    go_wp2
    go_loopw [7] (ScanI w g o r d a b) (fun v _ => b - (numI v).toNat)
    case atStart => exact ⟨a + 1, by go_num, by omega, by omega, HS.out, Lib.hid fun k h1 h2 => by omega⟩
    case round =>
      obtain ⟨i, rfl, hai, hib, hsi, HK⟩ := hrel
      have hcw : ∀ t, t < d.size → wr.cell? ⟨g, o + t, none⟩ = some (.int .u16 (G t)) := fun t ht => by rw [HG.out]; exact hsi.cell ht
      have HI := Lib.hid hsi
      clear hsi
      by_cases hlt : i < b
      · have hn1 : i < d.size := by omega
        have hn2 : i - 1 < d.size := by omega
        have hn3 : (0 : Int) ≤ (i : Int) - 1 := by omega
        cases hl : ltInt (G i) (G (i - 1))
        · go_wp2
          go_quiet (first | (go_at_call 54; refine Calls.quiet_of_same (less16' _ _ _)))
          rw [hl]
          go_wp2
          go_roundw
          case rel => exact ⟨i + 1, by go_num, by omega, by omega, HI.out.drawn nq, Lib.hid fun k h1 h2 => by
            by_cases hk : k = i
            · subst hk; rw [← HG.out, ← HG.out]; exact hl
            · exact HK.out k h1 (by omega)⟩
          case measure => simp [numI]; omega
        · go_wp2
          go_quiet (first | (go_at_call 54; refine Calls.quiet_of_same (less16' _ _ _)))
          rw [hl]
          have hn4 : ((i : Int) == (b : Int)) = false := by simp; omega
          have hn5 : decide ((b : Int) - (a : Int) < 50) = true := by simp; omega
          go_wp2
          go_ret
          exact ⟨false, rfl, HI.out.drawn nq, fun h => by cases h⟩
      · obtain rfl : i = b := by omega
        go_wp2
        go_quiet (first | (go_at_call 54; refine Calls.quiet_of_same (less16' _ _ _)))
        go_wp2
        go_ret
        exact ⟨true, rfl, HI.out.drawn nq, fun _ => HK.out⟩

theorem and_le (z : Int) (m : Nat) (h1 : 1 ≤ m) (h2 : m ≤ 1000) : 0 ≤ bits .and .u64 z ((m : Int) - 1) ∧ bits .and .u64 z ((m : Int) - 1) ≤ (m : Int) - 1 := by
  obtain ⟨n, rfl⟩ : ∃ n, m = n + 1 := ⟨m - 1, by omega⟩
  rw [show (((n + 1 : Nat) : Int) - 1) = (n : Int) by omega]
  have e : bits .and .u64 z (n : Int) = IntKind.u64.wrap ((BitVec.ofInt 64 z &&& BitVec.ofInt 64 (n : Int)).toNat : Int) := rfl
  have hb : (BitVec.ofInt 64 (n : Int)).toNat = n := by
    rw [BitVec.ofInt_natCast, BitVec.toNat_ofNat]; exact Nat.mod_eq_of_lt (by omega)
  have hl : (BitVec.ofInt 64 z &&& BitVec.ofInt 64 (n : Int)).toNat ≤ n := by rw [BitVec.toNat_and, hb]; exact Nat.and_le_right
  rw [e, IntKind.wrap_u64]
  omega

/-- What the loop of the patterns has come to. -/
def BrkR (w : World) (g o : Nat) (r : Array Value) (d : Array Int) (a b p : Nat) (v : Value) (W : World) : Prop :=
  ∃ (k : Nat) (x : Array Int) (z : Int), v = .int .i64 (k : Int) ∧ a + (b - a) / 4 * 2 ≤ k + 1 ∧ k ≤ a + (b - a) / 4 * 2 + 2 ∧ x.size = d.size ∧ PermIn a b d x ∧ Sr w W g o r x ∧ Blk W p 103 #[.int .u64 z]
def Shuffled (w : World) (g o : Nat) (r : Array Value) (d : Array Int) (a b : Nat) (e : Ending) (W' : World) : Prop :=
  e = .returned (.tuple #[]) ∧ ∃ x : Array Int, x.size = d.size ∧ PermIn a b d x ∧ Sr w W' g o r x

set_option maxRecDepth 100000 in
set_option maxHeartbeats 4000000 in
theorem break16 {w W : World} {g o cap : Nat} {r : Array Value} {d : Array Int} (hs : Sr w W g o r d) (a b : Nat) (h8 : a + 8 ≤ b) (h50 : b < a + 50) (hb : b ≤ d.size) (hsz : d.size < 1000000) :
    Calls Try.prog 50 #[.slice (some ⟨g, o, none⟩) d.size cap, .int .i64 (a : Int), .int .i64 (b : Int)] W (Shuffled w g o r d a b) := by
  have HS := Lib.hid hs
  clear hs
  have hn8 : decide ((8 : Int) ≤ (b : Int) - (a : Int)) = true := by simp; omega
  have HNE : Hid (g ≠ W.heap.size) := Lib.hid (fun e => by have := HS.out.blk.lt; omega)
  have HK : Hid (w.heap.size ≤ W.heap.size) := Lib.hid HS.out.kept.size
  go_enter Try.func50, Try.ntmps50
  go_wp2_with fail
  have HA : Hid (Sr w (W.alloc (.cells #[.int .u64 ((b : Int) - (a : Int))] 103)) g o r d) := Lib.hid (HS.out.grow (below_one W _))
  have HB0 : Hid (Blk (W.alloc (.cells #[.int .u64 ((b : Int) - (a : Int))] 103)) W.heap.size 103 #[.int .u64 ((b : Int) - (a : Int))]) := Lib.hid (Blk.new W 103 _)
  generalize W.alloc (.cells #[.int .u64 ((b : Int) - (a : Int))] 103) = W1 at HA HB0
  generalize W.heap.size = p at HB0 HNE HK
  clear HS hn8
  obtain ⟨n, hn⟩ : ∃ n : Nat, (b : Int) - (a : Int) = (n : Int) ∧ n = b - a := ⟨b - a, by omega, rfl⟩
  rw [hn.1]
  rw [hn.1] at HB0
  have hn1 : n ≤ b - a := by omega
  have hn2 : b - a ≤ n := by omega
  clear hn
  refine (pow_x n (n : Int) W1 (by omega) (by omega) (Lib.hid rfl) (by omega) (by omega)).mono ?_
  rintro e W2 ⟨m, hm1, hm2, rfl, rfl⟩
  go_wp2_with fail
  go_loopw [9] (BrkR w g o r d a b p) (fun v _ => a + n + 10 - (numI v).toNat)
  case atStart => exact ⟨a + (b - a) / 4 * 2 - 1, d, _, by congr 1; omega, by omega, by omega, rfl, Go.Sort.permIn_refl _ _ _, HA.out, HB0.out⟩
  case round =>
    obtain ⟨k, x, z, rfl, hk1, hk2, hx, hp, hsx, hbx⟩ := hrel
    have HP := Lib.hid hp
    have HX := Lib.hid hsx
    have HBX := Lib.hid hbx
    clear hp hsx hbx HA HB0
    by_cases hlt : k ≤ a + n / 4 * 2 + 1
    · have hd : decide ((k : Int) ≤ (a : Int) + (n : Int) / 4 * 2 + 1) = true := by simp; omega
      go_wp2_with fail
      refine (next_x (w := wr) ⟨HBX.out, Kept.refl _ _⟩).mono ?_
      rintro e W3 ⟨z1, rfl, hb3⟩
      have H3 := Lib.hid (HX.out.bx HK.out HNE.out hb3)
      have HB2 := Lib.hid hb3.blk
      clear hb3 HX HBX hd
      have hand := and_le z1 m hm1 (by omega)
      go_wp2_with fail
      · rename_i hyn
        generalize bits BinOp.and IntKind.u64 z1 ((m : Int) - 1) = y at hand hyn
        obtain ⟨q, hq⟩ : ∃ q : Nat, y - (n : Int) = (q : Int) := ⟨(y - n).toNat, by omega⟩
        have hqn : q < n := by omega
        rw [hq]
        clear hq hand hyn
        refine wp_region_held_drew (S := fun _ => True) (by kernel_rfl) trivial (fun hS => ?_)
        refine held_take 0 47 (.slice (some ⟨g, o, none⟩) d.size cap) rfl rfl (by kernel_rfl) (by kernel_rfl) (by kernel_rfl) (fun _ _ _ h => h) (by kernel_rfl) (fun _ _ => rfl) trivial ?_
        simp only [Act.put, List.setIfInBounds_toArray, List.set_cons_zero, List.set_cons_succ]
        refine held_take 1 48 (.int .i64 (k : Int)) rfl rfl (by kernel_rfl) (by kernel_rfl) (by kernel_rfl) (fun _ _ _ h => h) (by kernel_rfl) (fun _ _ => rfl) trivial ?_
        simp only [Act.put, List.setIfInBounds_toArray, List.set_cons_zero, List.set_cons_succ]
        refine held_take 2 49 (.slice (some ⟨g, o, none⟩) d.size cap) rfl rfl (by kernel_rfl) (by kernel_rfl) (by kernel_rfl) (fun _ _ _ h => h) (by kernel_rfl) (fun _ _ => rfl) trivial ?_
        simp only [Act.put, List.setIfInBounds_toArray, List.set_cons_zero, List.set_cons_succ]
        refine held_take 3 50 (.int .i64 (a : Int)) rfl rfl (by kernel_rfl) (by kernel_rfl) (by kernel_rfl) (fun _ _ _ h => h) (by kernel_rfl) (fun _ _ => rfl) trivial ?_
        simp only [Act.put, List.setIfInBounds_toArray, List.set_cons_zero, List.set_cons_succ]
        refine held_take 4 51 (.int .i64 (q : Int)) rfl rfl (by kernel_rfl) (by kernel_rfl) (by kernel_rfl) (fun _ _ _ h => h) (by kernel_rfl) (fun _ _ => rfl) trivial ?_
        simp only [Act.put, List.setIfInBounds_toArray, List.set_cons_zero, List.set_cons_succ]
        refine held_take 5 52 (.int .i64 ((a : Int) + (q : Int))) rfl rfl (by kernel_rfl) (by kernel_rfl) (by kernel_rfl) (fun _ _ _ h => h) (by kernel_rfl) (fun _ _ => exec_addN rfl rfl rfl (by omega) (by omega) (by omega)) trivial ?_
        simp only [Act.put, List.setIfInBounds_toArray, List.set_cons_zero, List.set_cons_succ]
        refine held_take 6 53 (.slice (some ⟨g, o, none⟩) d.size cap) rfl rfl (by kernel_rfl) (by kernel_rfl) (by kernel_rfl) (fun _ _ _ h => h) (by kernel_rfl) (fun _ _ => rfl) trivial ?_
        simp only [Act.put, List.setIfInBounds_toArray, List.set_cons_zero, List.set_cons_succ]
        refine held_take 7 54 (.int .i64 (a : Int)) rfl rfl (by kernel_rfl) (by kernel_rfl) (by kernel_rfl) (fun _ _ _ h => h) (by kernel_rfl) (fun _ _ => rfl) trivial ?_
        simp only [Act.put, List.setIfInBounds_toArray, List.set_cons_zero, List.set_cons_succ]
        refine held_take 8 55 (.int .i64 (q : Int)) rfl rfl (by kernel_rfl) (by kernel_rfl) (by kernel_rfl) (fun _ _ _ h => h) (by kernel_rfl) (fun _ _ => rfl) trivial ?_
        simp only [Act.put, List.setIfInBounds_toArray, List.set_cons_zero, List.set_cons_succ]
        refine held_take 9 56 (.int .i64 ((a : Int) + (q : Int))) rfl rfl (by kernel_rfl) (by kernel_rfl) (by kernel_rfl) (fun _ _ _ h => h) (by kernel_rfl) (fun _ _ => exec_addN rfl rfl rfl (by omega) (by omega) (by omega)) trivial ?_
        simp only [Act.put, List.setIfInBounds_toArray, List.set_cons_zero, List.set_cons_succ]
        refine held_take 10 57 (.pointer (some ⟨g, o + (a + q), none⟩)) rfl rfl (by kernel_rfl) (by kernel_rfl) (by kernel_rfl) (fun _ _ _ h => h) (by kernel_rfl) (fun _ _ => exec_idx16 (i := (a + q)) rfl rfl rfl (by omega) (by omega)) trivial ?_
        simp only [Act.put, List.setIfInBounds_toArray, List.set_cons_zero, List.set_cons_succ]
        refine held_take 12 59 (.slice (some ⟨g, o, none⟩) d.size cap) rfl rfl (by kernel_rfl) (by kernel_rfl) (by kernel_rfl) (fun _ _ _ h => h) (by kernel_rfl) (fun _ _ => rfl) trivial ?_
        simp only [Act.put, List.setIfInBounds_toArray, List.set_cons_zero, List.set_cons_succ]
        refine held_take 13 60 (.int .i64 (k : Int)) rfl rfl (by kernel_rfl) (by kernel_rfl) (by kernel_rfl) (fun _ _ _ h => h) (by kernel_rfl) (fun _ _ => rfl) trivial ?_
        simp only [Act.put, List.setIfInBounds_toArray, List.set_cons_zero, List.set_cons_succ]
        refine held_take 14 61 (.pointer (some ⟨g, o + k, none⟩)) rfl rfl (by kernel_rfl) (by kernel_rfl) (by kernel_rfl) (fun _ _ _ h => h) (by kernel_rfl) (fun _ _ => exec_idx16 (i := k) rfl rfl rfl (by omega) (by omega)) trivial ?_
        simp only [Act.put, List.setIfInBounds_toArray, List.set_cons_zero, List.set_cons_succ]
        refine held_two 11 15 58 62 (.int .u16 x[(a + q)]!) (.int .u16 x[k]!) (by decide) (by decide) rfl rfl rfl rfl (by kernel_rfl) (by kernel_rfl) (by kernel_rfl) (by kernel_rfl) (by kernel_rfl) (by kernel_rfl) (by kernel_rfl) (exec_ld16 rfl rfl (H3.out.drawn 1) (by omega) rfl) (exec_ld16 rfl rfl (H3.out.drawn 1) (by omega) rfl) (exec_ld16 rfl rfl (H3.out.drawn 1) (by omega) rfl) (exec_ld16 rfl rfl (H3.out.drawn 1) (by omega) rfl) trivial ?_
        simp only [Act.put, List.setIfInBounds_toArray, List.set_cons_zero, List.set_cons_succ]
        refine held_exec 16 63 (.pointer (some ⟨g, o + k, none⟩)) rfl rfl (by kernel_rfl) (by kernel_rfl) (exec_idx16 (i := k) rfl rfl rfl (by omega) (by omega)) trivial ?_
        simp only [Act.put, List.setIfInBounds_toArray, List.set_cons_zero, List.set_cons_succ]
        refine held_void 17 rfl rfl (by kernel_rfl) (by kernel_rfl) (exec_st16 rfl rfl rfl (H3.out.drawn 1) (by omega)) trivial ?_
        refine held_exec 18 64 (.pointer (some ⟨g, o + (a + q), none⟩)) rfl rfl (by kernel_rfl) (by kernel_rfl) (exec_idx16 (i := (a + q)) rfl rfl rfl (by omega) (by omega)) trivial ?_
        simp only [Act.put, List.setIfInBounds_toArray, List.set_cons_zero, List.set_cons_succ]
        refine held_void 19 rfl rfl (by kernel_rfl) (by kernel_rfl) (exec_st16 rfl rfl rfl ((H3.out.drawn 1).set (by omega) _) (by simp; omega)) trivial ?_
        refine wpAnyH_done (by kernel_rfl) ?_ _
        have HN := Lib.hid (H3.out.swapd (i := k) (j := (a + q)) (by omega) (by omega))
        have HB3 : Hid (Blk ((W3.drew.setCell ⟨g, o + k, none⟩ (.int .u16 x[(a + q)]!)).setCell ⟨g, o + (a + q), none⟩ (.int .u16 x[k]!)) p 103 #[.int .u64 z1]) := Lib.hid ((HB2.out.kept (Kept.drew (fun _ => False) _) (fun h => h)).kept ((Kept.setCell _ _ _).trans (Kept.setCell _ _ _) (fun _ h => .inl h)) (fun h => HNE.out h.symm))
        generalize (W3.drew.setCell ⟨g, o + k, none⟩ (.int .u16 x[(a + q)]!)).setCell ⟨g, o + (a + q), none⟩ (.int .u16 x[k]!) = wn at HN HB3
        go_wp2_with fail
        go_roundw
        case rel => exact ⟨k + 1, swp x k (a + q), z1, by go_num, by omega, by omega, by rw [size_swp]; exact hx, Go.Sort.permIn_trans _ _ _ _ _ HP.out (Go.Sort.swp_permIn _ _ _ _ _ (by omega) (by omega) (by omega) (by omega) (by omega)), HN.out, HB3.out⟩
        case measure => simp [numI]; omega
      · rename_i hyn
        generalize bits BinOp.and IntKind.u64 z1 ((m : Int) - 1) = y at hand hyn
        obtain ⟨q, rfl⟩ : ∃ q : Nat, y = (q : Int) := ⟨y.toNat, by omega⟩
        have hqn : q < n := by omega
        clear hand hyn
        refine wp_region_held_drew (S := fun _ => True) (by kernel_rfl) trivial (fun hS => ?_)
        refine held_take 0 47 (.slice (some ⟨g, o, none⟩) d.size cap) rfl rfl (by kernel_rfl) (by kernel_rfl) (by kernel_rfl) (fun _ _ _ h => h) (by kernel_rfl) (fun _ _ => rfl) trivial ?_
        simp only [Act.put, List.setIfInBounds_toArray, List.set_cons_zero, List.set_cons_succ]
        refine held_take 1 48 (.int .i64 (k : Int)) rfl rfl (by kernel_rfl) (by kernel_rfl) (by kernel_rfl) (fun _ _ _ h => h) (by kernel_rfl) (fun _ _ => rfl) trivial ?_
        simp only [Act.put, List.setIfInBounds_toArray, List.set_cons_zero, List.set_cons_succ]
        refine held_take 2 49 (.slice (some ⟨g, o, none⟩) d.size cap) rfl rfl (by kernel_rfl) (by kernel_rfl) (by kernel_rfl) (fun _ _ _ h => h) (by kernel_rfl) (fun _ _ => rfl) trivial ?_
        simp only [Act.put, List.setIfInBounds_toArray, List.set_cons_zero, List.set_cons_succ]
        refine held_take 3 50 (.int .i64 (a : Int)) rfl rfl (by kernel_rfl) (by kernel_rfl) (by kernel_rfl) (fun _ _ _ h => h) (by kernel_rfl) (fun _ _ => rfl) trivial ?_
        simp only [Act.put, List.setIfInBounds_toArray, List.set_cons_zero, List.set_cons_succ]
        refine held_take 4 51 (.int .i64 (q : Int)) rfl rfl (by kernel_rfl) (by kernel_rfl) (by kernel_rfl) (fun _ _ _ h => h) (by kernel_rfl) (fun _ _ => rfl) trivial ?_
        simp only [Act.put, List.setIfInBounds_toArray, List.set_cons_zero, List.set_cons_succ]
        refine held_take 5 52 (.int .i64 ((a : Int) + (q : Int))) rfl rfl (by kernel_rfl) (by kernel_rfl) (by kernel_rfl) (fun _ _ _ h => h) (by kernel_rfl) (fun _ _ => exec_addN rfl rfl rfl (by omega) (by omega) (by omega)) trivial ?_
        simp only [Act.put, List.setIfInBounds_toArray, List.set_cons_zero, List.set_cons_succ]
        refine held_take 6 53 (.slice (some ⟨g, o, none⟩) d.size cap) rfl rfl (by kernel_rfl) (by kernel_rfl) (by kernel_rfl) (fun _ _ _ h => h) (by kernel_rfl) (fun _ _ => rfl) trivial ?_
        simp only [Act.put, List.setIfInBounds_toArray, List.set_cons_zero, List.set_cons_succ]
        refine held_take 7 54 (.int .i64 (a : Int)) rfl rfl (by kernel_rfl) (by kernel_rfl) (by kernel_rfl) (fun _ _ _ h => h) (by kernel_rfl) (fun _ _ => rfl) trivial ?_
        simp only [Act.put, List.setIfInBounds_toArray, List.set_cons_zero, List.set_cons_succ]
        refine held_take 8 55 (.int .i64 (q : Int)) rfl rfl (by kernel_rfl) (by kernel_rfl) (by kernel_rfl) (fun _ _ _ h => h) (by kernel_rfl) (fun _ _ => rfl) trivial ?_
        simp only [Act.put, List.setIfInBounds_toArray, List.set_cons_zero, List.set_cons_succ]
        refine held_take 9 56 (.int .i64 ((a : Int) + (q : Int))) rfl rfl (by kernel_rfl) (by kernel_rfl) (by kernel_rfl) (fun _ _ _ h => h) (by kernel_rfl) (fun _ _ => exec_addN rfl rfl rfl (by omega) (by omega) (by omega)) trivial ?_
        simp only [Act.put, List.setIfInBounds_toArray, List.set_cons_zero, List.set_cons_succ]
        refine held_take 10 57 (.pointer (some ⟨g, o + (a + q), none⟩)) rfl rfl (by kernel_rfl) (by kernel_rfl) (by kernel_rfl) (fun _ _ _ h => h) (by kernel_rfl) (fun _ _ => exec_idx16 (i := (a + q)) rfl rfl rfl (by omega) (by omega)) trivial ?_
        simp only [Act.put, List.setIfInBounds_toArray, List.set_cons_zero, List.set_cons_succ]
        refine held_take 12 59 (.slice (some ⟨g, o, none⟩) d.size cap) rfl rfl (by kernel_rfl) (by kernel_rfl) (by kernel_rfl) (fun _ _ _ h => h) (by kernel_rfl) (fun _ _ => rfl) trivial ?_
        simp only [Act.put, List.setIfInBounds_toArray, List.set_cons_zero, List.set_cons_succ]
        refine held_take 13 60 (.int .i64 (k : Int)) rfl rfl (by kernel_rfl) (by kernel_rfl) (by kernel_rfl) (fun _ _ _ h => h) (by kernel_rfl) (fun _ _ => rfl) trivial ?_
        simp only [Act.put, List.setIfInBounds_toArray, List.set_cons_zero, List.set_cons_succ]
        refine held_take 14 61 (.pointer (some ⟨g, o + k, none⟩)) rfl rfl (by kernel_rfl) (by kernel_rfl) (by kernel_rfl) (fun _ _ _ h => h) (by kernel_rfl) (fun _ _ => exec_idx16 (i := k) rfl rfl rfl (by omega) (by omega)) trivial ?_
        simp only [Act.put, List.setIfInBounds_toArray, List.set_cons_zero, List.set_cons_succ]
        refine held_two 11 15 58 62 (.int .u16 x[(a + q)]!) (.int .u16 x[k]!) (by decide) (by decide) rfl rfl rfl rfl (by kernel_rfl) (by kernel_rfl) (by kernel_rfl) (by kernel_rfl) (by kernel_rfl) (by kernel_rfl) (by kernel_rfl) (exec_ld16 rfl rfl (H3.out.drawn 1) (by omega) rfl) (exec_ld16 rfl rfl (H3.out.drawn 1) (by omega) rfl) (exec_ld16 rfl rfl (H3.out.drawn 1) (by omega) rfl) (exec_ld16 rfl rfl (H3.out.drawn 1) (by omega) rfl) trivial ?_
        simp only [Act.put, List.setIfInBounds_toArray, List.set_cons_zero, List.set_cons_succ]
        refine held_exec 16 63 (.pointer (some ⟨g, o + k, none⟩)) rfl rfl (by kernel_rfl) (by kernel_rfl) (exec_idx16 (i := k) rfl rfl rfl (by omega) (by omega)) trivial ?_
        simp only [Act.put, List.setIfInBounds_toArray, List.set_cons_zero, List.set_cons_succ]
        refine held_void 17 rfl rfl (by kernel_rfl) (by kernel_rfl) (exec_st16 rfl rfl rfl (H3.out.drawn 1) (by omega)) trivial ?_
        refine held_exec 18 64 (.pointer (some ⟨g, o + (a + q), none⟩)) rfl rfl (by kernel_rfl) (by kernel_rfl) (exec_idx16 (i := (a + q)) rfl rfl rfl (by omega) (by omega)) trivial ?_
        simp only [Act.put, List.setIfInBounds_toArray, List.set_cons_zero, List.set_cons_succ]
        refine held_void 19 rfl rfl (by kernel_rfl) (by kernel_rfl) (exec_st16 rfl rfl rfl ((H3.out.drawn 1).set (by omega) _) (by simp; omega)) trivial ?_
        refine wpAnyH_done (by kernel_rfl) ?_ _
        have HN := Lib.hid (H3.out.swapd (i := k) (j := (a + q)) (by omega) (by omega))
        have HB3 : Hid (Blk ((W3.drew.setCell ⟨g, o + k, none⟩ (.int .u16 x[(a + q)]!)).setCell ⟨g, o + (a + q), none⟩ (.int .u16 x[k]!)) p 103 #[.int .u64 z1]) := Lib.hid ((HB2.out.kept (Kept.drew (fun _ => False) _) (fun h => h)).kept ((Kept.setCell _ _ _).trans (Kept.setCell _ _ _) (fun _ h => .inl h)) (fun h => HNE.out h.symm))
        generalize (W3.drew.setCell ⟨g, o + k, none⟩ (.int .u16 x[(a + q)]!)).setCell ⟨g, o + (a + q), none⟩ (.int .u16 x[k]!) = wn at HN HB3
        go_wp2_with fail
        go_roundw
        case rel => exact ⟨k + 1, swp x k (a + q), z1, by go_num, by omega, by omega, by rw [size_swp]; exact hx, Go.Sort.permIn_trans _ _ _ _ _ HP.out (Go.Sort.swp_permIn _ _ _ _ _ (by omega) (by omega) (by omega) (by omega) (by omega)), HN.out, HB3.out⟩
        case measure => simp [numI]; omega
    · have hd : decide ((k : Int) ≤ (a : Int) + (n : Int) / 4 * 2 + 1) = false := by simp; omega
      go_wp2_with fail
      go_end0
      exact ⟨rfl, x, hx, HP.out, HX.out⟩

end Go.Proofs.Ytmibfbbkjejkmaa
