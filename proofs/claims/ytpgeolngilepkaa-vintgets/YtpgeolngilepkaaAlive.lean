/- Walk of the law's own question whether the program is there (alive): it answers true, and turns nothing that was there. -/
import Derived.Test.YtpgeolngilepkaaGet
import Derived.Laws.BytesArg
namespace Go.Proofs.Ytpgeolngilepkaa
open Go.RowKit

/-- Get, with its answers as integers. -/
theorem get_z (a : Option Addr) (len cap : Nat) (bs : List Nat) (X K E : Int) (w : World) (hR : Row w a len bs) (hl : len ≤ maxLen) (hG : ∃ x k er : Nat, Vint.G 0 0 bs = (x, k, er) ∧ X = x ∧ K = k ∧ E = er) :
    Calls Try.prog 14 #[.slice a len cap] w fun e w' => e = .returned (.tuple #[.int .u64 X, .int .i64 K, .int .i64 E]) ∧ w = w' := by
  obtain ⟨x, k, er, hG, rfl, rfl, rfl⟩ := hG
  exact get_any a len cap bs x k er w hR hl hG

theorem row_lit (w : World) (cs : Array Value) (n : Nat) (l : List Nat) (hc : cs.toList = cellsOf l) (hl : l.length = n) (hs : ∀ c ∈ l, c < 256) (hm : n ≤ maxLen) :
    Row (w.alloc (.cells cs 5)) (some ⟨w.heap.size, 0, none⟩) n l := by
  have hsz : cs.size = n * 1 := by rw [← Array.length_toList, hc, cellsOf_len]; omega
  have h := World.ownsRow_lit (e := 5) (base := 0) (size := 1) w cs n (by omega) hm hsz
  rw [hc] at h
  obtain ⟨a, cap, hv, hR, _⟩ := row_of_owns h hs
  simp only [Value.slice.injEq, true_and] at hv
  obtain ⟨rfl, _⟩ := hv
  exact hR

/-- The string of a row of bytes. -/
def strOf (l : List Nat) : ByteArray := strOfNums (l.map fun n => ((n : Nat) : Int))

theorem conv_row {w : World} {b off len cap : Nat} {l : List Nat} (h : Row w (some ⟨b, off, none⟩) len l) :
    (convert 24 9 (.slice (some ⟨b, off, none⟩) len cap)).run Try.prog w = .ok (.string (strOf l)) w := by
  refine run_convert_bytes_arg w 24 5 Try.underlying24 Try.underlying5 b off len cap _ (by simp [h.size]) (fun i hi => ?_) 9 Try.underlying9
  obtain ⟨b', o', ha, hc⟩ := h.cells.resolve_left (by omega)
  simp only [Option.some.injEq, Addr.mk.injEq, and_true] at ha
  obtain ⟨rfl, rfl⟩ := ha
  rw [hc i hi]
  have hi' : i < l.length := by rw [h.size]; exact hi
  simp [List.getD, hi']

theorem str300 : strOf [172, 2] = ⟨#[172, 2]⟩ := by decide

theorem put300 (w : World) : Calls Try.prog 12 #[.int .u64 300] w fun e w' => ∃ g cap, e = .returned (.slice (some ⟨g, 0, none⟩) 2 cap) ∧ Row w' (some ⟨g, 0, none⟩) 2 [172, 2] ∧ Below w.heap.size w w' := by
  have h := put_any 300 w (by omega)
  rw [Vint.enc_300] at h
  refine h.mono ?_
  rintro e w' ⟨g, cap, he, hown, hb⟩
  obtain ⟨a, cap', hv, hR, _⟩ := row_of_owns hown (by decide)
  simp only [Value.slice.injEq, true_and] at hv
  obtain ⟨rfl, rfl⟩ := hv
  exact ⟨g, cap, he, hR, hb⟩
theorem fold1 (w : World) : Calls Try.prog 16 #[.int .i64 (-1)] w fun e w' => e = .returned (.int .u64 1) ∧ w = w' := fold_any (-1) w (by omega) (by omega)
theorem unfold2 (w : World) : Calls Try.prog 18 #[.int .u64 2] w fun e w' => e = .returned (.int .i64 1) ∧ w = w' := unfold_any 2 w (by omega)
theorem size300 (w : World) : Calls Try.prog 13 #[.int .u64 300] w fun e w' => e = .returned (.int .i64 2) ∧ w = w' := by
  have := size_any 300 w (by omega)
  rw [Vint.enc_300] at this
  exact this

theorem get_a1 (w : World) (H : Nat) (hH : w.heap.size = H) : Calls Try.prog 14 #[.slice (some ⟨H, 0, none⟩) 3 3] (w.alloc (.cells #[.int .u8 172, .int .u8 2, .int .u8 119] 5)) fun e w' => e = .returned (.tuple #[.int .u64 300, .int .i64 2, .int .i64 0]) ∧ w.alloc (.cells #[.int .u8 172, .int .u8 2, .int .u8 119] 5) = w' := by
  subst hH
  exact get_z _ 3 3 [172, 2, 119] 300 2 0 _ (row_lit w #[.int .u8 172, .int .u8 2, .int .u8 119] 3 _ rfl rfl (by decide) (by decide)) (by decide) ⟨_, _, _, Vint.G_alive1, rfl, rfl, rfl⟩
theorem get_a2 (w : World) (H : Nat) (hH : w.heap.size = H) : Calls Try.prog 14 #[.slice (some ⟨H, 0, none⟩) 1 1] (w.alloc (.cells #[.int .u8 172] 5)) fun e w' => e = .returned (.tuple #[.int .u64 0, .int .i64 0, .int .i64 4]) ∧ w.alloc (.cells #[.int .u8 172] 5) = w' := by
  subst hH
  exact get_z _ 1 1 [172] 0 0 4 _ (row_lit w #[.int .u8 172] 1 _ rfl rfl (by decide) (by decide)) (by decide) ⟨_, _, _, Vint.G_alive2, rfl, rfl, rfl⟩
theorem get_a3 (w : World) (H : Nat) (hH : w.heap.size = H) : Calls Try.prog 14 #[.slice (some ⟨H, 0, none⟩) 2 2] (w.alloc (.cells #[.int .u8 128, .int .u8 0] 5)) fun e w' => e = .returned (.tuple #[.int .u64 0, .int .i64 0, .int .i64 5]) ∧ w.alloc (.cells #[.int .u8 128, .int .u8 0] 5) = w' := by
  subst hH
  exact get_z _ 2 2 [128, 0] 0 0 5 _ (row_lit w #[.int .u8 128, .int .u8 0] 2 _ rfl rfl (by decide) (by decide)) (by decide) ⟨_, _, _, Vint.G_alive3, rfl, rfl, rfl⟩

theorem alive_world (w w1 : World) (g cap : Nat) (hR : Row w1 (some ⟨g, 0, none⟩) 2 [172, 2]) (hb : Below w.heap.size w w1) :
    (convert 24 9 (.slice (some ⟨g, 0, none⟩) 2 cap)).run Try.prog (((w1.alloc (.cells #[.int .u8 172, .int .u8 2, .int .u8 119] 5)).alloc (.cells #[.int .u8 172] 5)).alloc (.cells #[.int .u8 128, .int .u8 0] 5)) = .ok (.string ⟨#[172, 2]⟩) (((w1.alloc (.cells #[.int .u8 172, .int .u8 2, .int .u8 119] 5)).alloc (.cells #[.int .u8 172] 5)).alloc (.cells #[.int .u8 128, .int .u8 0] 5)) ∧ Below w.heap.size w (((w1.alloc (.cells #[.int .u8 172, .int .u8 2, .int .u8 119] 5)).alloc (.cells #[.int .u8 172] 5)).alloc (.cells #[.int .u8 128, .int .u8 0] 5)) := by
  have hs := hb.size
  refine ⟨?_, ((hb.alloc hs _).alloc (by simp; omega) _).alloc (by simp; omega) _⟩
  rw [← str300]
  exact conv_row (hR.below ((((Below.refl _ _).alloc (Nat.le_refl _) _).alloc (by simp) _).alloc (by simp; omega) _))

set_option maxHeartbeats 400000 in
theorem alive_any (w : World) : Calls Try.prog 10 #[] w fun e w' => e = .returned (.bool true) ∧ Below w.heap.size w w' := by
  go_enter Try.func10, Try.ntmps10
  go_wp2_with fail
  refine (put300 w).mono ?_
  rintro e w1 ⟨g, cap, rfl, hR, hb⟩
  have HW := Lib.hid (alive_world w w1 g cap hR hb)
  clear hR hb
  go_wp2_with fail
  refine (get_a1 w1 _ rfl).mono ?_
  rintro e w' ⟨rfl, rfl⟩
  go_wp2_with fail
  refine (get_a2 _ _ (by simp)).mono ?_
  rintro e w' ⟨rfl, rfl⟩
  go_wp2_with fail
  refine (get_a3 _ _ (by simp)).mono ?_
  rintro e w' ⟨rfl, rfl⟩
  have hcv := HW.out.1
  have HB := Lib.hid HW.out.2
  clear HW
  go_wp2_with fail
  refine (fold1 _).mono ?_
  rintro e w' ⟨rfl, rfl⟩
  go_wp2_with fail
  refine (unfold2 _).mono ?_
  rintro e w' ⟨rfl, rfl⟩
  go_wp2_with fail
  refine (size300 _).mono ?_
  rintro e w' ⟨rfl, rfl⟩
  go_wp2_with fail
  go_ret
  exact ⟨rfl, HB.out⟩
end Go.Proofs.Ytpgeolngilepkaa
