/- Get with its answers as integers, rows of bytes that are written out, and the string of a row. -/
import Derived.Test.YtjpmjidpdgikgaaRow
import Derived.Laws.BytesArg
namespace Go.Proofs.Ytjpmjidpdgikgaa
open Go.RowKit


theorem row_lit (w : World) (cs : Array Value) (n : Nat) (l : List Nat) (hc : cs.toList = cellsOf l) (hl : l.length = n) (hs : ∀ c ∈ l, c < 256) (hm : n ≤ maxLen) :
    Row (w.alloc (.cells cs 5)) (some ⟨w.heap.size, 0, none⟩) n l := by
  have hsz : cs.size = n * 1 := by rw [← Array.length_toList, hc, cellsOf_len]; omega
  have h := World.ownsRow_lit (e := 5) (base := 0) (size := 1) w cs n (by omega) hm hsz
  rw [hc] at h
  obtain ⟨a, cap, hv, hR, _⟩ := row_of_owns h hs
  simp only [Value.slice.injEq, true_and] at hv
  obtain ⟨rfl, _⟩ := hv
  exact hR

/-- The string of a row of bytes. -/
def strOf (l : List Nat) : ByteArray := strOfNums (l.map fun n => ((n : Nat) : Int))

theorem conv_row {w : World} {b off len cap : Nat} {l : List Nat} (h : Row w (some ⟨b, off, none⟩) len l) :
    (convert 23 9 (.slice (some ⟨b, off, none⟩) len cap)).run Try.prog w = .ok (.string (strOf l)) w := by
  refine run_convert_bytes_arg w 23 5 Try.underlying23 Try.underlying5 b off len cap _ (by simp [h.size]) (fun i hi => ?_) 9 Try.underlying9
  obtain ⟨b', o', ha, hc⟩ := h.cells.resolve_left (by omega)
  simp only [Option.some.injEq, Addr.mk.injEq, and_true] at ha
  obtain ⟨rfl, rfl⟩ := ha
  rw [hc i hi]
  have hi' : i < l.length := by rw [h.size]; exact hi
  simp [List.getD, hi']

end Go.Proofs.Ytjpmjidpdgikgaa
