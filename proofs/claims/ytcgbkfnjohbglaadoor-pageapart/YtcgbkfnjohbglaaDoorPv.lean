/- A page and bytes that came in, and what Encode and Decode told, spelt alike for the program and the document. -/
import Derived.Test.YtcgbkfnjohbglaaDoorPo
import Derived.Test.YtcgbkfnjohbglaaDoorPq
import Derived.Test.YtcgbkfnjohbglaaDoorPr
import Derived.Test.YtcgbkfnjohbglaaDoorPs
import Derived.Test.YtcgbkfnjohbglaaDoorPt
namespace Go.Proofs.YtcgbkfnjohbglaaDoor
open Go.RowKit

/-- A page in a box of its own, and bytes that came in. -/
structure Rz (w W : World) (p : Nat) (P : Pg) (a1 : Option Addr) (n1 c1 : Nat) (a2 : Option Addr) (n2 c2 : Nat) (a3 : Option Addr) (n3 c3 : Nat) (a : Option Addr) (len cap : Nat) (bs : List Nat) : Prop where
  box : Blk W p 26 (pgA P.leaf a1 n1 c1 a2 n2 c2 a3 n3 c3)
  pv : PV W P a1 n1 a2 n2 a3 n3
  bs : In W a len cap bs
  tab : Tab W
  old : Below w.heap.size w W
theorem Rz.below {w W W' : World} {p : Nat} {P : Pg} {a1 : Option Addr} {n1 c1 : Nat} {a2 : Option Addr} {n2 c2 : Nat} {a3 : Option Addr} {n3 c3 : Nat} {a : Option Addr} {len cap : Nat} {bs : List Nat} (h : Rz w W p P a1 n1 c1 a2 n2 c2 a3 n3 c3 a len cap bs) (hb : Below W.heap.size W W') : Rz w W' p P a1 n1 c1 a2 n2 c2 a3 n3 c3 a len cap bs := ⟨h.box.below hb, h.pv.below hb, h.bs.below hb, h.tab.below hb, h.old.trans (hb.mono h.old.size)⟩
/-- What the copy leaves while they stand. -/
def TzP (w : World) (p : Nat) (P : Pg) (a1 : Option Addr) (n1 c1 : Nat) (a2 : Option Addr) (n2 c2 : Nat) (a3 : Option Addr) (n3 c3 : Nat) (a : Option Addr) (len cap : Nat) (bs : List Nat) (e : Ending) (w' : World) : Prop :=
  ∃ b1 d1 b2 d2, e = .returned (.agg (pgA P.leaf b1 n1 d1 b2 n2 d2 a3 n3 c3)) ∧ PV w' P b1 n1 b2 n2 a3 n3 ∧ Rz w w' p P a1 n1 c1 a2 n2 c2 a3 n3 c3 a len cap bs
theorem Rz.theirs {w W : World} {p : Nat} {P : Pg} {a1 : Option Addr} {n1 c1 : Nat} {a2 : Option Addr} {n2 c2 : Nat} {a3 : Option Addr} {n3 c3 : Nat} {a : Option Addr} {len cap : Nat} {bs : List Nat} (h : Rz w W p P a1 n1 c1 a2 n2 c2 a3 n3 c3 a len cap bs) (h1 : n1 ≤ 1000000) (h2 : n2 ≤ 1000000) :
    Calls Tryd.prog 12 #[.agg (pgA P.leaf a1 n1 c1 a2 n2 c2 a3 n3 c3)] W (TzP w p P a1 n1 c1 a2 n2 c2 a3 n3 c3 a len cap bs) :=
  (theirs_any c1 c2 c3 h.pv h1 h2).mono fun _ _ hc => by
    obtain ⟨b1, d1, b2, d2, he, hpv, hb⟩ := hc.pv h.pv
    exact ⟨b1, d1, b2, d2, he, hpv, h.below hb⟩
/-- Bytes and a number: what Encode answered. -/
def EncL (P : Pg) : List Nat := if P.right then P.bytes else []
def EncE (P : Pg) : Nat := if P.right then 0 else 15
theorem EncP.form {P : Pg} {w : World} {e : Ending} {w' : World} (h : EncP P w e w') : ∃ a cap, e = .returned (.tuple #[.slice a (EncL P).length cap, .int .i64 (EncE P : Int)]) ∧ Row w' a (EncL P).length (EncL P) ∧ (a = none → (EncL P).length = 0 ∧ cap = 0) ∧ (EncL P).length ≤ cap ∧ Below w.heap.size w w' := by
  obtain ⟨h, hb⟩ := h
  unfold EncL EncE
  rcases h with ⟨hr, rfl⟩ | ⟨hr, a, cap, rfl, ho⟩
  · rw [hr]; exact ⟨none, 0, rfl, row_nil _ _, fun _ => ⟨rfl, rfl⟩, Nat.le_refl _, hb⟩
  · rw [hr]; exact ⟨a, cap, rfl, ho.row P.bytes_small, ho.cap.2.2, ho.cap.1, hb⟩
theorem encL_small (P : Pg) : ∀ c ∈ EncL P, c < 256 := by
  unfold EncL
  cases P.right
  · simp
  · exact P.bytes_small
/-- What Decode tells: the page, or the empty one, and whether. -/
def DecOk (bs : List Nat) : Prop := ∃ P : Pg, P.right = true ∧ P.bytes = bs
open Classical in
noncomputable def decPg (bs : List Nat) : Pg := if h : DecOk bs then h.choose else Pg.zero
open Classical in
noncomputable def decE (bs : List Nat) : Nat := if DecOk bs then 0 else 15
theorem DecP.form {e1 e2 : TypeId} {bs : List Nat} {w : World} {e : Ending} {w' : World} (h : DecP e1 e2 15 bs w e w') : ∃ a1 n1 c1 a2 n2 c2 a3 n3 c3, e = .returned (.tuple #[.agg (pgA (decPg bs).leaf a1 n1 c1 a2 n2 c2 a3 n3 c3), .int .i64 (decE bs : Int)]) ∧ PV w' (decPg bs) a1 n1 a2 n2 a3 n3 ∧ n1 ≤ 8 ∧ n2 ≤ 8 ∧ n3 ≤ 8 ∧ Below w.heap.size w w' := by
  obtain ⟨h, hb⟩ := h
  rcases h with ⟨P, a1, c1, a2, c2, a3, c3, hr, hq, rfl, ho, hl, hd⟩ | ⟨hn, rfl⟩
  · have hok : DecOk bs := ⟨P, hr, hq⟩
    have hs := hok.choose_spec
    have hp : decPg bs = P := by
      unfold decPg
      rw [dif_pos hok]
      exact bytes_inj hs.1 hr (hs.2.trans hq.symm)
    have he : decE bs = 0 := by unfold decE; rw [if_pos hok]
    rw [hp, he]
    obtain ⟨h8, _, h3⟩ := Pg.right_iff.1 hr
    exact ⟨a1, _, c1, a2, _, c2, a3, _, c3, rfl, OwnG.pv ho hl hd, h8, by omega, by omega, hb⟩
  · have hok : ¬ DecOk bs := fun ⟨P, hr, hq⟩ => hn P hr hq
    have hp : decPg bs = Pg.zero := by unfold decPg; rw [dif_neg hok]
    have he : decE bs = 15 := by unfold decE; rw [if_neg hok]
    rw [hp, he]
    exact ⟨none, 0, 0, none, 0, 0, none, 0, 0, rfl, ⟨GL.nil _ _ _, GL.nil _ _ _, GL.nil _ _ _⟩, by omega, by omega, by omega, hb⟩

theorem SaysIff.yes {p : Prop} {w : World} {e : Ending} {w' : World} (h : SaysIff p w e w') (hp : p) : Says (.bool true) w e w' := by
  obtain ⟨b, rfl, hb, hw⟩ := h
  rw [hb.2 hp]
  exact ⟨rfl, hw⟩
theorem SaysIff.no {p : Prop} {w : World} {e : Ending} {w' : World} (h : SaysIff p w e w') (hp : ¬ p) : Says (.bool false) w e w' := by
  obtain ⟨b, rfl, hb, hw⟩ := h
  cases b
  · exact ⟨rfl, hw⟩
  · exact absurd (hb.1 rfl) hp
theorem laid40 {w : World} {lf : Bool} {a1 : Option Addr} {n1 c1 : Nat} {a2 : Option Addr} {n2 c2 : Nat} {a3 : Option Addr} {n3 c3 : Nat} (t : TypeId) (zs : Array Value) : Blk ((w.alloc (.cells zs t)).setRow w.heap.size (pgA lf a1 n1 c1 a2 n2 c2 a3 n3 c3)) w.heap.size t (pgA lf a1 n1 c1 a2 n2 c2 a3 n3 c3) ∧ Below w.heap.size w ((w.alloc (.cells zs t)).setRow w.heap.size (pgA lf a1 n1 c1 a2 n2 c2 a3 n3 c3)) :=
  ⟨(Blk.new w t zs).row, (below_one w (.cells zs t)).trans ((Kept.setRow (w.alloc (.cells zs t)) w.heap.size (pgA lf a1 n1 c1 a2 n2 c2 a3 n3 c3)).below (B := w.heap.size) (by simp) (fun k hk => by omega))⟩

end Go.Proofs.YtcgbkfnjohbglaaDoor
