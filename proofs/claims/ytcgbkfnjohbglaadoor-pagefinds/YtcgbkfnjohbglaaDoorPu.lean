/- A page and two keys in boxes of their own, and the copy of the page while they stand. -/
import Derived.Test.YtcgbkfnjohbglaaDoorPr
namespace Go.Proofs.YtcgbkfnjohbglaaDoor
open Go.RowKit

/-- A page and two keys in boxes of their own. -/
structure R3 (w W : World) (p q r : Nat) (P : Pg) (a1 : Option Addr) (n1 c1 : Nat) (a2 : Option Addr) (n2 c2 : Nat) (a3 : Option Addr) (n3 c3 : Nat) (a b : Ky) : Prop where
  box : Blk W p 26 (pgA P.leaf a1 n1 c1 a2 n2 c2 a3 n3 c3)
  one : Blk W q 32 a.arr
  two : Blk W r 32 b.arr
  pv : PV W P a1 n1 a2 n2 a3 n3
  old : Below w.heap.size w W
theorem R3.below {w W W' : World} {p q r : Nat} {P : Pg} {a1 : Option Addr} {n1 c1 : Nat} {a2 : Option Addr} {n2 c2 : Nat} {a3 : Option Addr} {n3 c3 : Nat} {a b : Ky} (h : R3 w W p q r P a1 n1 c1 a2 n2 c2 a3 n3 c3 a b) (hb : Below W.heap.size W W') : R3 w W' p q r P a1 n1 c1 a2 n2 c2 a3 n3 c3 a b := ⟨h.box.below hb, h.one.below hb, h.two.below hb, h.pv.below hb, h.old.trans (hb.mono h.old.size)⟩
/-- What the copy leaves while they stand. -/
def ThP (w : World) (p q r : Nat) (P : Pg) (a1 : Option Addr) (n1 c1 : Nat) (a2 : Option Addr) (n2 c2 : Nat) (a3 : Option Addr) (n3 c3 : Nat) (a b : Ky) (e : Ending) (w' : World) : Prop :=
  ∃ b1 d1 b2 d2, e = .returned (.agg (pgA P.leaf b1 n1 d1 b2 n2 d2 a3 n3 c3)) ∧ PV w' P b1 n1 b2 n2 a3 n3 ∧ R3 w w' p q r P a1 n1 c1 a2 n2 c2 a3 n3 c3 a b
theorem R3.theirs {w W : World} {p q r : Nat} {P : Pg} {a1 : Option Addr} {n1 c1 : Nat} {a2 : Option Addr} {n2 c2 : Nat} {a3 : Option Addr} {n3 c3 : Nat} {a b : Ky} (h : R3 w W p q r P a1 n1 c1 a2 n2 c2 a3 n3 c3 a b) (h1 : n1 ≤ 1000000) (h2 : n2 ≤ 1000000) :
    Calls Tryd.prog 12 #[.agg (pgA P.leaf a1 n1 c1 a2 n2 c2 a3 n3 c3)] W (ThP w p q r P a1 n1 c1 a2 n2 c2 a3 n3 c3 a b) :=
  (theirs_any c1 c2 c3 h.pv h1 h2).mono fun _ _ hc => by
    obtain ⟨b1, d1, b2, d2, he, hpv, hb⟩ := hc.pv h.pv
    exact ⟨b1, d1, b2, d2, he, hpv, h.below hb⟩

end Go.Proofs.YtcgbkfnjohbglaaDoor
