/- A slice of bytes that the call itself made is a row of bytes. -/
import Derived.Test.YthlbkaenpoeljaaDoorLift
namespace Go.Proofs.YthlbkaenpoeljaaDoor
open Go.ChangeShapes Go.WideShapes Go.ChangeAt Go.RowKit

theorem info5 : (Tryd.prog.info? 5).map (fun i => (i.zero, i.size, i.bytes)) = some (some (.int .u8 0), 1, 1) := by kernel_rfl

/-- Bytes as cells. -/
def cellsOf (l : List Nat) : List Value := l.map fun n => Value.int .u8 ((n : Nat) : Int)

theorem row_of_owns {w : World} {B : Nat} {v : Value} {n : Nat} {l : List Nat} (h : w.ownsRow B 5 1 v n (cellsOf l)) (hs : ∀ c ∈ l, c < 256) : ∃ a cap, v = .slice a n cap ∧ Row w a n l ∧ n ≤ maxLen := by
  obtain ⟨hlen, hv⟩ := h
  have hl : l.length = n := by simpa [cellsOf] using hlen
  rcases hv with ⟨rfl, rfl⟩ | ⟨g, cap, cur, rfl, hb, hg, hnc, hcm, hcs, ht⟩
  · obtain rfl := List.eq_nil_of_length_eq_zero hl
    exact ⟨none, 0, rfl, row_nil _ _, Nat.zero_le _⟩
  · refine ⟨some ⟨g, 0, none⟩, cap, rfl, ⟨hl, hs, .inr ⟨g, 0, rfl, fun i hi => ?_⟩⟩, by omega⟩
    have h1 : cur.toList[i]? = some (.int .u8 ((l.getD i 0 : Nat) : Int)) := by
      have e : (cur.toList.take (n * 1))[i]? = (cellsOf l)[i]? := by rw [ht]
      rw [List.getElem?_take_of_lt (by omega)] at e
      rw [e]
      have hi' : i < l.length := by omega
      simp [cellsOf, List.getD, hi']
    unfold World.cell?
    simp only [Nat.zero_add]
    rw [hg]
    simpa using h1

theorem small_at {w : World} {a : Option Addr} {len k : Nat} {l : List Nat} (h : Row w a len l) (hk : k < len) : l.getD k 0 < 256 := by
  have hk' : k < l.length := by have := h.size; omega
  rw [getD_at hk']
  exact h.small _ (List.getElem_mem hk')

theorem xor_lt8 {a b : Nat} (ha : a < 256) (hb : b < 256) : a ^^^ b < 256 := Nat.xor_lt_two_pow (n := 8) (by omega) (by omega)

/-- The cells of a made slice of bytes. -/
def zerosOf (k : Nat) : Array Value := madeCells #[.int .u8 0] (k * 1)

theorem run_zeros (k : Nat) (hk : k ≤ 2000) (W : World) : (Instr.makeSlice 23 (.int .i64 (k : Int)) (.int .i64 (k : Int))).run Tryd.prog W = .ok (.slice (some ⟨W.heap.size, 0, none⟩) k k) (W.alloc (.cells (zerosOf k) 5)) := by
  obtain ⟨i0, hi, hz0, hz1, hz2⟩ := info_parts info5
  have h := run_make (P := Tryd.prog) W 23 5 i0 (.int .u8 0) Tryd.underlying23 hi hz0 .i64 .i64 (k : Int) (k : Int) (by omega) (by omega) (by rw [hz2]; omega) (by omega)
  rw [h, hz1]
  simp only [Int.toNat_natCast]
  rfl

theorem row_zeros {W : World} {g k : Nat} (h : W.heap[g]? = some (.cells (zerosOf k) 5)) : Row W (some ⟨g, 0, none⟩) k (List.replicate k 0) := by
  refine ⟨by simp, by intro c hc; have := (List.mem_replicate.1 hc).2; omega, .inr ⟨g, 0, rfl, fun i hi => ?_⟩⟩
  unfold World.cell?
  simp only [Nat.zero_add]
  rw [h]
  have e : (zerosOf k).toList = List.replicate k (.int .u8 0) := by unfold zerosOf; rw [toList_madeCells_one, Nat.mul_one]
  have e2 : (zerosOf k)[i]? = (List.replicate k (Value.int .u8 0))[i]? := by rw [← e]; simp
  simp only [e2]
  simp [hi, List.getD]

end Go.Proofs.YthlbkaenpoeljaaDoor
