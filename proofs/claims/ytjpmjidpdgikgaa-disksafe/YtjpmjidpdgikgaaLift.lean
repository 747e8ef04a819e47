/- What every law of this seat uses: a slice of bytes that came in is a row of bytes. -/
import Derived.Test.YtjpmjidpdgikgaaStr
import Derived.ProofKit
import Derived.OpenShut
import Derived.ShutString
import Derived.ChangeOld
import Derived.Below
namespace Go.Proofs.Ytjpmjidpdgikgaa
open Go.ChangeShapes Go.WideShapes Go.ChangeAt Go.RowKit

theorem own : ownKnob Try.prog.godebug = none := by kernel_rfl
theorem laidOut : laidOutB Try.prog = true := by kernel_rfl
theorem cells5 : Try.prog.cellsOf 5 = 1 := by kernel_rfl
theorem cells72 : Try.prog.cellsOf 72 = 1 := by kernel_rfl

/-- A slice of bytes that can be read: its elements, and that it is no longer than the form's own reach. -/
theorem row_of {H : Type} {enc : TypeId × Value → H} {W : World} {a : Option Addr} {len cap : Nat} {d : DataW H} {p : List MemPlace}
    (h : DataW.Trod enc Try.prog W 0 (fun _ => true) true 23 (.slice a len cap) d p) : len ≤ maxLen ∧ ((a = none ∧ len = 0 ∧ cap = 0) ∨ ∃ x, a = some x ∧ len ≤ cap ∧ cap ≤ maxLen) ∧ ∃ bs, Row W a len bs := by
  obtain ⟨fuel, hf⟩ := h
  rcases open_ints Try.underlying23 Try.underlying5 cells5 hf with ⟨hcs, _⟩ | ⟨x, l, c, zs, hcs, _, hl, hm, hz, _, hcell, hwz⟩
  · simp [Value.cells] at hcs
    obtain ⟨rfl, rfl, rfl⟩ := hcs
    exact ⟨Nat.zero_le _, .inl ⟨rfl, rfl, rfl⟩, [], row_nil _ _⟩
  · simp [Value.cells] at hcs
    obtain ⟨rfl, rfl, rfl⟩ := hcs
    refine ⟨Nat.le_trans hl hm, .inr ⟨x, rfl, hl, hm⟩, (zs.take len).map Int.toNat, ?_, ?_, ?_⟩
    · simp at hz; simp; omega
    · intro c hc
      obtain ⟨z, hz1, rfl⟩ := List.mem_map.1 hc
      have := bounds_u8 (hwz z (List.mem_of_mem_take hz1))
      omega
    · by_cases h0 : len = 0
      · exact .inl h0
      · right
        obtain ⟨b, off, spot⟩ := x
        simp at hz
        have hc0 := hcell 0 (by omega)
        have hspot : spot = none := by simpa [Addr.add] using World.cell?_spot hc0
        subst hspot
        refine ⟨b, off, rfl, fun i hi => ?_⟩
        have hi' : i < zs.length := by omega
        have hc := hcell i hi'
        have hb := bounds_u8 (hwz zs[i] (List.getElem_mem hi'))
        have e1 : zs.getD i 0 = zs[i] := by simp [List.getD, hi']
        have e2 : ((zs.take len).map Int.toNat).getD i 0 = zs[i].toNat := by simp [List.getD, hi, hi']
        rw [e1] at hc
        rw [e2, show ((zs[i].toNat : Nat) : Int) = zs[i] by omega]
        by_cases hz0 : i = 0
        · subst hz0; simpa [Addr.add] using hc
        · simpa [Addr.add, hz0] using hc

end Go.Proofs.Ytjpmjidpdgikgaa
