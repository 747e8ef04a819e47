/- Walk of do: an act is one of the disk's calls. -/
import Derived.Test.YtjpmjidpdgikgaaDb
import Derived.Deep.DeepCutAuto
namespace Go.Proofs.Ytjpmjidpdgikgaa
open Go.RowKit

theorem below_one (w : World) (o : Obj) : Below w.heap.size w (w.alloc o) := (Below.refl _ _).alloc (Nat.le_refl _) _
theorem drew_below (w : World) : Below w.heap.size w w.drew := (Below.refl _ _).drew
theorem Says.below {v : Value} {w w1 w' : World} {e : Ending} (h : Says v w1 e w') (hb : Below w.heap.size w w1) : Says v w e w' := ⟨h.1, hb.trans (h.2.mono hb.size)⟩

/-- The cells of an act. -/
def actA (k : Nat) (s r : ByteArray) (a : Option Addr) (l c : Nat) (ch : Int) (ca : Option Addr) (cl cc : Nat) (n : Int) : Array Value := #[.int .u8 (k : Int), .string s, .string r, .slice a l c, .int .u8 ch, .slice ca cl cc, .int .i64 n]
/-- What each call of an act leaves. -/
structure Acts (d : Value) (k : Nat) (s r : ByteArray) (a : Option Addr) (l c : Nat) (ch : Int) (ca : Option Addr) (cl cc : Nat) (n : Int) (V : World) (Q : Ending → World → Prop) : Prop where
  sync : k % 9 = 2 → Calls Try.prog 12 #[d, .string s] V Q
  rename : k % 9 = 3 → Calls Try.prog 18 #[d, .string s, .string r] V Q
  remove : k % 9 = 4 → Calls Try.prog 10 #[d, .string s] V Q
  syncdir : k % 9 = 5 → Calls Try.prog 13 #[d] V Q
  crash : k % 9 = 6 → Calls Try.prog 14 #[d, .int .u8 ch, .slice ca cl cc] V Q
  append2 : k % 9 = 7 → Calls Try.prog 11 #[d, .string r, .slice a l c] V Q
  off : k % 9 = 8 → Calls Try.prog 19 #[d, .int .i64 n] V Q
  append : k % 9 < 2 → Calls Try.prog 11 #[d, .string s, .slice a l c] V Q
set_option maxRecDepth 100000 in
set_option maxHeartbeats 4000000 in
theorem do_any (d : Value) (k : Nat) (s r : ByteArray) (a : Option Addr) (l c : Nat) (ch : Int) (ca : Option Addr) (cl cc : Nat) (n : Int) (w : World) (Q : Ending → World → Prop) (hQ : ∀ e w', Q e w' → ∃ v, e = .returned v)
    (hA : ∀ V, Below w.heap.size w V → Acts d k s r a l c ch ca cl cc n V Q) : Calls Try.prog 9 #[d, .agg (actA k s r a l c ch ca cl cc n)] w Q := by
  have HK : Hid (k % 9 < 9) := Lib.hid (by omega)
  have H0 : Hid (Blk (w.alloc (.cells (actA k s r a l c ch ca cl cc n) 26)) w.heap.size 26 (actA k s r a l c ch ca cl cc n)) := Lib.hid (Blk.new w 26 _)
  have HA := Lib.hid (hA _ (below_one w (.cells (actA k s r a l c ch ca cl cc n) 26)))
  have HQ := Lib.hid hQ
  clear hA hQ
  show Calls Try.prog 9 #[d, .agg #[.int .u8 (k : Int), .string s, .string r, .slice a l c, .int .u8 ch, .slice ca cl cc, .int .i64 n]] w Q
  go_enter Try.func9, Try.ntmps9
  go_upto_region 1 with fail
  try simp only [World.size_alloc, Act.put, List.setIfInBounds_toArray, List.set_cons_zero, List.set_cons_succ]
  have ea : (w.alloc (.cells #[.int .u8 (k : Int), .string s, .string r, .slice a l c, .int .u8 ch, .slice ca cl cc, .int .i64 n] 26)) = w.alloc (.cells (actA k s r a l c ch ca cl cc n) 26) := rfl
  rw [ea]
  clear ea
  generalize w.alloc (.cells (actA k s r a l c ch ca cl cc n) 26) = w0 at H0 HA ⊢
  generalize w.heap.size = p at H0 ⊢
  have u0 : w0.cell? ⟨p, 0, none⟩ = some (.int .u8 (k : Int)) := H0.out.cell 0
  have u1 : w0.cell? ⟨p, 1, none⟩ = some (.string s) := H0.out.cell 1
  have u2 : w0.cell? ⟨p, 2, none⟩ = some (.string r) := H0.out.cell 2
  have u3 : w0.cell? ⟨p, 3, none⟩ = some (.slice a l c) := H0.out.cell 3
  have u4 : w0.cell? ⟨p, 4, none⟩ = some (.int .u8 ch) := H0.out.cell 4
  have u5 : w0.cell? ⟨p, 5, none⟩ = some (.slice ca cl cc) := H0.out.cell 5
  have u6 : w0.cell? ⟨p, 6, none⟩ = some (.int .i64 n) := H0.out.cell 6
  clear H0
  obtain ⟨m, hm⟩ : ∃ m, k % 9 = m := ⟨_, rfl⟩
  have hm9 : m < 9 := by have := HK.out; omega
  have ek : (k : Int) % 9 = (m : Int) := by omega
  have HM := Lib.hid hm
  clear hm HK
  rcases (by omega : m = 0 ∨ m = 1 ∨ m = 2 ∨ m = 3 ∨ m = 4 ∨ m = 5 ∨ m = 6 ∨ m = 7 ∨ m = 8) with rfl | rfl | rfl | rfl | rfl | rfl | rfl | rfl | rfl
  · have HC := Lib.hid (HA.out.append (by have := HM.out; omega))
    clear HA HM hm9
    go_wp2_with fail
    refine HC.out.mono ?_
    intro e w1 hq
    obtain ⟨v, rfl⟩ := HQ.out _ _ hq
    clear HC
    go_wp2_with fail
    exact hq
  · have HC := Lib.hid (HA.out.append (by have := HM.out; omega))
    clear HA HM hm9
    go_wp2_with fail
    refine HC.out.mono ?_
    intro e w1 hq
    obtain ⟨v, rfl⟩ := HQ.out _ _ hq
    clear HC
    go_wp2_with fail
    exact hq
  · have HC := Lib.hid (HA.out.sync HM.out)
    clear HA HM hm9
    go_wp2_with fail
    refine HC.out.mono ?_
    intro e w1 hq
    obtain ⟨v, rfl⟩ := HQ.out _ _ hq
    clear HC
    go_wp2_with fail
    exact hq
  · have HC := Lib.hid (HA.out.rename HM.out)
    clear HA HM hm9
    go_wp2_with fail
    refine HC.out.mono ?_
    intro e w1 hq
    obtain ⟨v, rfl⟩ := HQ.out _ _ hq
    clear HC
    go_wp2_with fail
    exact hq
  · have HC := Lib.hid (HA.out.remove HM.out)
    clear HA HM hm9
    go_wp2_with fail
    refine HC.out.mono ?_
    intro e w1 hq
    obtain ⟨v, rfl⟩ := HQ.out _ _ hq
    clear HC
    go_wp2_with fail
    exact hq
  · have HC := Lib.hid (HA.out.syncdir HM.out)
    clear HA HM hm9
    go_wp2_with fail
    refine HC.out.mono ?_
    intro e w1 hq
    obtain ⟨v, rfl⟩ := HQ.out _ _ hq
    clear HC
    go_wp2_with fail
    exact hq
  · have HC := Lib.hid (HA.out.crash HM.out)
    clear HA HM hm9
    go_wp2_with fail
    refine HC.out.mono ?_
    intro e w1 hq
    obtain ⟨v, rfl⟩ := HQ.out _ _ hq
    clear HC
    go_wp2_with fail
    exact hq
  · have HC := Lib.hid (HA.out.append2 HM.out)
    clear HA HM hm9
    go_wp2_with fail
    refine HC.out.mono ?_
    intro e w1 hq
    obtain ⟨v, rfl⟩ := HQ.out _ _ hq
    clear HC
    go_wp2_with fail
    exact hq
  · have HC := Lib.hid (HA.out.off HM.out)
    clear HA HM hm9
    go_wp2_with fail
    refine HC.out.mono ?_
    intro e w1 hq
    obtain ⟨v, rfl⟩ := HQ.out _ _ hq
    clear HC
    go_wp2_with fail
    exact hq
end Go.Proofs.Ytjpmjidpdgikgaa
