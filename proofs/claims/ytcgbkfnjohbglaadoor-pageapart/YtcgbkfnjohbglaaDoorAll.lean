/- Walks of bytes.Clone, New and All: a copy of a slice of bytes, an empty writer, and the bytes of one. -/
import Derived.Test.YtcgbkfnjohbglaaDoorWr
namespace Go.Proofs.YtcgbkfnjohbglaaDoor
open Go.RowKit

/-- What a call leaves that answers a slice of bytes of its own. -/
def Fresh (bs : List Nat) (w : World) (e : Ending) (w' : World) : Prop :=
  ∃ a cap, e = .returned (.slice a bs.length cap) ∧ Own w' w.heap.size a bs.length cap bs ∧ Below w.heap.size w w'

theorem isnil (a : Option Addr) (l c : Nat) (w : World) : (binOp .eql 48 (.slice a l c) (.slice none 0 0)).run Tryd.prog w = .ok (.bool a.isNone) w := Lib.run_eql_slice_nil w 48 5 a l c 0 0 Tryd.underlying48

set_option maxHeartbeats 400000 in
theorem clone_nil (w : World) : Calls Tryd.prog 40 #[.slice none 0 0] w (Fresh [] w) := by
  have hq : (binOp .eql 48 (.slice none 0 0) (.slice none 0 0)).run Tryd.prog w = .ok (.bool true) w := isnil none 0 0 w
  go_enter Tryd.func40, Tryd.ntmps40
  go_wp2_with fail
  go_ret
  exact ⟨none, 0, rfl, own_nil _ _, Below.refl _ _⟩

theorem own_empty (w : World) : Own (w.alloc (.cells #[] 5)) w.heap.size (some ⟨w.heap.size, 0, none⟩) 0 0 [] := World.ownsRow_made w #[] 0 (Nat.le_refl _) (Nat.zero_le _) rfl

/-- An append to an empty slice that is new leaves all that was. -/
theorem below_new {w w' : World} {o : Obj} {S : Nat → Prop} (k : Kept S (w.alloc o) w') (hS : ∀ i, S i → w.heap.size ≤ i) : Below w.heap.size w w' :=
  Below.trans ((Below.refl _ _).alloc (Nat.le_refl _) _) (k.below (by simp) hS)

set_option maxHeartbeats 400000 in
theorem clone_some (ad : Addr) (len cap : Nat) (bs : List Nat) (w : World) (hl : len ≤ 1000000) (hR : Row w (some ad) len bs) : Calls Tryd.prog 40 #[.slice (some ad) len cap] w (Fresh bs w) := by
  have HR := Lib.hid (hR.below ((Below.refl w.heap.size w).alloc (Nat.le_refl _) (.cells #[] 5)))
  have HS := Lib.hid hR.size
  clear hR
  have hq : (binOp .eql 48 (.slice (some ad) len cap) (.slice none 0 0)).run Tryd.prog w = .ok (.bool false) w := isnil (some ad) len cap w
  go_enter Tryd.func40, Tryd.ntmps40
  go_wp2_with (at_builtin; refine wpList_append_own_row _ rfl _ _ rfl w.heap.size (some ⟨w.heap.size, 0, none⟩) 0 0 [] rfl (own_empty w) (some ad) len cap bs rfl HR.out (fun h => by cases h) (by omega) (by simp) ?_; intro a' cp' w' ho hk _; simp only [Nat.zero_add, List.nil_append] at ho ⊢; have HO := Lib.hid ho; have HK := Lib.hid hk; clear ho hk)
  go_ret
  exact ⟨a', cp', by rw [HS.out]; rfl, by rw [HS.out]; exact HO.out, below_new HK.out (fun i ⟨ad', h1, h2⟩ => by obtain rfl := Option.some.inj h1; exact Nat.le_of_eq h2.symm)⟩

theorem clone_any (a : Option Addr) (len cap : Nat) (bs : List Nat) (w : World) (hl : len ≤ 1000000) (hR : Row w a len bs) (hz : a = none → len = 0 ∧ cap = 0) : Calls Tryd.prog 40 #[.slice a len cap] w (Fresh bs w) := by
  cases a with
  | none =>
    obtain ⟨rfl, rfl⟩ := hz rfl
    obtain rfl := List.eq_nil_of_length_eq_zero hR.size
    exact clone_nil w
  | some ad => exact clone_some ad len cap bs w hl hR

/-- An empty writer, at a new block. -/
def Newly (w : World) (e : Ending) (w' : World) : Prop :=
  e = .returned (.pointer (some ⟨w.heap.size, 0, none⟩)) ∧ Wr w' w.heap.size 0 none 0 0 [] ∧ Below w.heap.size w w'

set_option maxHeartbeats 400000 in
theorem new_any (w : World) : Calls Tryd.prog 26 #[] w (Newly w) := by
  go_enter Tryd.func26, Tryd.ntmps26
  go_wp2_with fail
  go_ret
  exact ⟨rfl, ⟨Blk.new _ _ _, own_nil _ _, by simp, by omega⟩, (Below.refl _ _).alloc (Nat.le_refl _) _⟩

/-- What All leaves. -/
def Alled (er : Nat) (bs : List Nat) (w : World) (e : Ending) (w' : World) : Prop :=
  ∃ a len cap, e = .returned (.tuple #[.slice a len cap, .int .i64 (er : Int)]) ∧ Own w' w.heap.size a len cap (if er = 0 then bs else []) ∧ Below w.heap.size w w'

set_option maxHeartbeats 400000 in
theorem all_any (p er : Nat) (a : Option Addr) (len cap : Nat) (bs : List Nat) (w : World) (h : Wr w p er a len cap bs) : Calls Tryd.prog 29 #[.pointer (some ⟨p, 0, none⟩)] w (Alled er bs w) := by
  have c2 : w.cell? ⟨p, 2, none⟩ = some (.slice a len cap) := h.block.cell 2
  have HC := Lib.hid (clone_any a len cap bs w (by have := h.room; omega) (h.own.row h.small) h.own.cap.2.2)
  have H1 := Lib.hid (state_core p er w (h.block.cell 0) (h.block.cell 1))
  have HL := Lib.hid h.own.len
  clear h
  by_cases he : er = 0
  · subst he
    go_enter Tryd.func29, Tryd.ntmps29
    go_wp2_with fail
    refine H1.out.mono ?_
    rintro e w' ⟨rfl, rfl⟩
    go_wp2_with fail
    refine HC.out.mono ?_
    rintro e w' ⟨a', cap', rfl, ho, hb⟩
    have HO := Lib.hid ho
    have HB := Lib.hid hb
    clear ho hb
    go_wp2_with fail
    go_ret2
    exact ⟨a', _, cap', rfl, by rw [if_pos rfl]; exact HO.out, HB.out⟩
  · have hne : ((er : Int) != 0) = true := by simp; omega
    have HE := Lib.hid he
    clear he
    go_enter Tryd.func29, Tryd.ntmps29
    go_wp2_with fail
    refine H1.out.mono ?_
    rintro e w' ⟨rfl, rfl⟩
    go_wp2_with fail
    go_ret2
    exact ⟨none, 0, 0, rfl, by rw [if_neg HE.out]; exact own_nil _ _, Below.refl _ _⟩

end Go.Proofs.YtcgbkfnjohbglaaDoor
