/- Walks of bytes.Clone, New and All: a copy of a slice of bytes, an empty writer, and the bytes of one. -/
import Derived.Test.YtjpmjidpdgikgaaHy
import Derived.Test.YtjpmjidpdgikgaaMem
namespace Go.Proofs.Ytjpmjidpdgikgaa
open Go.RowKit

/-- What a call leaves that answers a slice of bytes of its own. -/
def Fresh (bs : List Nat) (w : World) (e : Ending) (w' : World) : Prop :=
  ∃ a cap, e = .returned (.slice a bs.length cap) ∧ Own w' w.heap.size a bs.length cap bs ∧ Below w.heap.size w w'

theorem isnil (a : Option Addr) (l c : Nat) (w : World) : (binOp .eql 23 (.slice a l c) (.slice none 0 0)).run Try.prog w = .ok (.bool a.isNone) w := Lib.run_eql_slice_nil w 23 5 a l c 0 0 Try.underlying23

set_option maxHeartbeats 400000 in
theorem clone_nil (w : World) : Calls Try.prog 27 #[.slice none 0 0] w (Fresh [] w) := by
  have hq : (binOp .eql 23 (.slice none 0 0) (.slice none 0 0)).run Try.prog w = .ok (.bool true) w := isnil none 0 0 w
  go_enter Try.func27, Try.ntmps27
  go_wp2_with fail
  go_ret
  exact ⟨none, 0, rfl, own_nil _ _, Below.refl _ _⟩

theorem own_empty (w : World) : Own (w.alloc (.cells #[] 5)) w.heap.size (some ⟨w.heap.size, 0, none⟩) 0 0 [] := World.ownsRow_made w #[] 0 (Nat.le_refl _) (Nat.zero_le _) rfl

/-- An append to an empty slice that is new leaves all that was. -/
theorem below_new {w w' : World} {o : Obj} {S : Nat → Prop} (k : Kept S (w.alloc o) w') (hS : ∀ i, S i → w.heap.size ≤ i) : Below w.heap.size w w' :=
  Below.trans ((Below.refl _ _).alloc (Nat.le_refl _) _) (k.below (by simp) hS)

set_option maxHeartbeats 400000 in
theorem clone_some (ad : Addr) (len cap : Nat) (bs : List Nat) (w : World) (hl : len ≤ 1000000) (hR : Row w (some ad) len bs) : Calls Try.prog 27 #[.slice (some ad) len cap] w (Fresh bs w) := by
  have HR := Lib.hid (hR.below ((Below.refl w.heap.size w).alloc (Nat.le_refl _) (.cells #[] 5)))
  have HS := Lib.hid hR.size
  clear hR
  have hq : (binOp .eql 23 (.slice (some ad) len cap) (.slice none 0 0)).run Try.prog w = .ok (.bool false) w := isnil (some ad) len cap w
  go_enter Try.func27, Try.ntmps27
  go_wp2_with (at_builtin; refine wpList_append_own_row _ rfl _ _ rfl w.heap.size (some ⟨w.heap.size, 0, none⟩) 0 0 [] rfl (own_empty w) (some ad) len cap bs rfl HR.out (fun h => by cases h) (by omega) (by simp) ?_; intro a' cp' w' ho hk _; simp only [Nat.zero_add, List.nil_append] at ho ⊢; have HO := Lib.hid ho; have HK := Lib.hid hk; clear ho hk)
  go_ret
  exact ⟨a', cp', by rw [HS.out]; rfl, by rw [HS.out]; exact HO.out, below_new HK.out (fun i ⟨ad', h1, h2⟩ => by obtain rfl := Option.some.inj h1; exact Nat.le_of_eq h2.symm)⟩

theorem clone_any (a : Option Addr) (len cap : Nat) (bs : List Nat) (w : World) (hl : len ≤ 1000000) (hR : Row w a len bs) (hz : a = none → len = 0 ∧ cap = 0) : Calls Try.prog 27 #[.slice a len cap] w (Fresh bs w) := by
  cases a with
  | none =>
    obtain ⟨rfl, rfl⟩ := hz rfl
    obtain rfl := List.eq_nil_of_length_eq_zero hR.size
    exact clone_nil w
  | some ad => exact clone_some ad len cap bs w hl hR


end Go.Proofs.Ytjpmjidpdgikgaa
