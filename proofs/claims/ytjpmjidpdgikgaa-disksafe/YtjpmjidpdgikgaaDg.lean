/- Files as blocks; walks of Read, Sync and Remove where the name is none, of Read and Sync where it is one. -/
import Derived.Test.YtjpmjidpdgikgaaDf
namespace Go.Proofs.Ytjpmjidpdgikgaa
open Go.RowKit Go.Maps

/-- The three cells of a file. -/
def inA (num : Nat) (a : Option Addr) (len cap dur : Nat) : Array Value := #[.int .i64 (num : Int), .slice a len cap, .int .i64 (dur : Int)]
theorem look_any {w : World} {m n : Nat} {f : Lit → Option Value} (h : MpF w 9 m n f) {s : ByteArray} (hs : s.size ≤ 1000000) : (Instr.lookup 40 (.map (some m)) (.string s) false).run Try.prog w = .ok ((f (litS s)).getD (.pointer none)) w :=
  h.look law9 (e := 51) Try.underlying40 (Try.zeroValue51 w) (key9 (by unfold maxLen; omega))

def ReadP (bs : List Nat) (w : World) (e : Ending) (w' : World) : Prop :=
  ∃ a cap, e = .returned (.tuple #[.slice a bs.length cap, .int .i64 0]) ∧ Own w' w.heap.size a bs.length cap bs ∧ Below w.heap.size w w'

section
variable {w : World} {p room n m k : Nat} {m2 : Option Nat} {pa : Option Addr} {pn pc : Nat} {f : Lit → Option Value} {s : ByteArray}
set_option maxRecDepth 100000 in
theorem read_none (h : Dk w p room n (some m) m2 pa pn pc) (h0 : 0 < room) (hm : MpF w 9 m k f) (hs : s.size ≤ 1000000) (hf : f (litS s) = none) :
    Calls Try.prog 15 #[.pointer (some ⟨p, 0, none⟩), .string s] w (Says (.tuple #[.slice none 0 0, .int .i64 7]) w) := by
  have HM := made_any h
  rw [show decide (0 < room) = true by simp [h0]] at HM
  go_enter Try.func15, Try.ntmps15
  go_wp2_with fail
  refine HM.mono ?_
  rintro e w1 ⟨rfl, hb⟩
  have u2 : w1.cell? ⟨p, 2, none⟩ = some (.map (some m)) := (h.below hb).cell 2
  have hl := look_any (hm.below hb) hs
  rw [hf] at hl
  simp only [Option.getD_none] at hl
  clear h HM hm hf
  go_wp2_with fail
  go_ret2
  exact ⟨rfl, hb⟩
set_option maxRecDepth 100000 in
theorem read_some {g num : Nat} {a : Option Addr} {cap dur : Nat} {bs : List Nat} (h : Dk w p room n (some m) m2 pa pn pc) (h0 : 0 < room) (hm : MpF w 9 m k f) (hs : s.size ≤ 1000000) (hf : f (litS s) = some (.pointer (some ⟨g, 0, none⟩)))
    (hg : Blk w g 57 (inA num a bs.length cap dur)) (hr : Row w a bs.length bs) (hz : a = none → bs.length = 0 ∧ cap = 0) (hb : bs.length ≤ 1000000) :
    Calls Try.prog 15 #[.pointer (some ⟨p, 0, none⟩), .string s] w (ReadP bs w) := by
  have HM := made_any h
  rw [show decide (0 < room) = true by simp [h0]] at HM
  go_enter Try.func15, Try.ntmps15
  go_wp2_with fail
  refine HM.mono ?_
  rintro e w1 ⟨rfl, hbw⟩
  have u2 : w1.cell? ⟨p, 2, none⟩ = some (.map (some m)) := (h.below hbw).cell 2
  have hl := look_any (hm.below hbw) hs
  rw [hf] at hl
  simp only [Option.getD_some] at hl
  have v1 : w1.cell? ⟨g, 1, none⟩ = some (.slice a bs.length cap) := (hg.below hbw).cell 1
  have HC := Lib.hid (clone_any a bs.length cap bs w1 hb (hr.below hbw) hz)
  have HB := Lib.hid hbw
  clear h HM hm hf hg hr hz hbw
  go_wp2_with fail
  refine HC.out.mono ?_
  rintro e w2 ⟨b, c2, rfl, ho, hb2⟩
  have HO := Lib.hid (And.intro (ho.mono HB.out.size) (HB.out.trans (hb2.mono HB.out.size)))
  clear ho hb2 HC u2 hl v1
  go_wp2_with fail
  go_ret2
  exact ⟨b, c2, rfl, HO.out.1, HO.out.2⟩
set_option maxRecDepth 100000 in
theorem sync_none (h : Dk w p room n (some m) m2 pa pn pc) (h0 : 0 < room) (hm : MpF w 9 m k f) (hs : s.size ≤ 1000000) (hf : f (litS s) = none) :
    Calls Try.prog 12 #[.pointer (some ⟨p, 0, none⟩), .string s] w (Says (.int .i64 7) w) := by
  have HM := begin_any h h0
  go_enter Try.func12, Try.ntmps12
  go_wp2_with fail
  refine HM.mono ?_
  rintro e w1 ⟨rfl, hb⟩
  have u2 : w1.cell? ⟨p, 2, none⟩ = some (.map (some m)) := (h.below hb).cell 2
  have hl := look_any (hm.below hb) hs
  rw [hf] at hl
  simp only [Option.getD_none] at hl
  clear h HM hm hf
  go_wp2_with fail
  go_ret
  exact ⟨rfl, hb⟩
set_option maxRecDepth 100000 in
theorem remove_none (h : Dk w p room n (some m) m2 pa pn pc) (h0 : 0 < room) (hm : MpF w 9 m k f) (hs : s.size ≤ 1000000) (hf : f (litS s) = none) :
    Calls Try.prog 10 #[.pointer (some ⟨p, 0, none⟩), .string s] w (Says (.int .i64 7) w) := by
  have HM := begin_any h h0
  go_enter Try.func10, Try.ntmps10
  go_wp2_with fail
  refine HM.mono ?_
  rintro e w1 ⟨rfl, hb⟩
  have u2 : w1.cell? ⟨p, 2, none⟩ = some (.map (some m)) := (h.below hb).cell 2
  have hl := look_any (hm.below hb) hs
  rw [hf] at hl
  simp only [Option.getD_none] at hl
  clear h HM hm hf
  go_wp2_with fail
  go_ret
  exact ⟨rfl, hb⟩
end
end Go.Proofs.Ytjpmjidpdgikgaa
