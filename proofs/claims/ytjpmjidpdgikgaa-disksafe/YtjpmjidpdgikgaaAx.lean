/- An append that leaves the slice that it was called with as it was. Slices of ints of the call's own, and slices of bytes that came in or were made. -/
import Derived.Test.YtjpmjidpdgikgaaDh
import Derived.Deep.Upon
import Derived.Lib.SlBytesConst
namespace Go.Proofs.Ytjpmjidpdgikgaa
open Go.RowKit

theorem Lies.refl (w : World) (a : Option Addr) : Lies w a a := fun ad h => .inl ⟨ad, h, rfl⟩
theorem Lies.trans {w w' : World} {a b c : Option Addr} (h : Lies w a b) (k : Lies w' b c) (hs : w.heap.size ≤ w'.heap.size) : Lies w a c := by
  intro ad hc
  rcases k ad hc with ⟨ad1, h1, e1⟩ | h1
  · rcases h ad1 h1 with ⟨ad0, h0, e0⟩ | h0
    · exact .inl ⟨ad0, h0, e1.trans e0⟩
    · exact .inr (by omega)
  · exact .inr (by omega)
def At (a : Option Addr) (k : Nat) : Prop := ∃ ad, a = some ad ∧ k = ad.block

theorem Own.form {w : World} {B : Nat} {a : Option Addr} {len cap : Nat} {bs : List Nat} (h : Own w B a len cap bs) (h0 : 0 < len) : ∃ g, a = some ⟨g, 0, none⟩ := by
  rcases h.2 with ⟨_, hn⟩ | ⟨g, cap', cur, hv, _⟩
  · omega
  · simp only [Value.slice.injEq] at hv
    exact ⟨g, hv.1⟩

/-- An append leaves the slice that it was called with as it was. -/
theorem append_old {W w' : World} {B g n c m c2 : Nat} {ty : TypeId} {l bs : List Nat} {ad : Addr} {v' : Value} (hown : Own W B (some ⟨g, 0, none⟩) n c l) (hs : ∀ x ∈ l, x < 256) (hR : Row W (some ad) m bs) (hm : n + m ≤ 1000000)
    (hr : (Builtin.append_ #[23, 23] ty #[.slice (some ⟨g, 0, none⟩) n c, .slice (some ad) m c2]).run Try.prog W = .ok v' w') : Row w' (some ⟨g, 0, none⟩) n l := by
  obtain ⟨i0, hii, hz0, hz1, hz2⟩ := info_parts info5
  have hrow := hown.row hs
  rcases hown.2 with ⟨hv, _⟩ | ⟨g', cap', cur, hv, _, hg, hnc, hcm, hcs, ht⟩
  · simp at hv
  · simp only [Value.slice.injEq, Option.some.injEq, Addr.mk.injEq, and_true, true_and] at hv
    obtain ⟨rfl, rfl⟩ := hv
    have hlt : g < W.heap.size := (Array.getElem?_eq_some_iff.1 hg).1
    have hc : Came W 1 (some ⟨g, 0, none⟩) g 0 n c (cellsOf l) := by
      refine ⟨hnc, fun _ => rfl, fun _ => hlt, by rw [cellsOf_len, hown.len]; omega, fun j u hu => ?_, fun j hj => ?_⟩
      · have := hrow.news j u hu
        by_cases hj0 : j = 0
        · subst hj0; simpa [Addr.add] using this
        · simpa [Addr.add, hj0] using this
      · refine ⟨?_, frozen_of_row W g _ cur 5 hg⟩
        rw [cell_of_row W g _ cur 5 (0, 0) hg, Array.getElem?_eq_getElem (by omega)]
        rfl
    obtain ⟨v2, w2, hr2, hU⟩ := run_append_upon (P := Try.prog) hc 23 23 ty i0 (.int .u8 0) 1 Try.underlying23 hii hz0 hz1 hz2 rfl (Upon.start hc) (.slice (some ad) m c2) m (cellsOf bs)
      (Src.ofSlice (w := W) Try.underlying23 ad m c2 (cellsOf bs) (by rw [cellsOf_len, hR.size]; omega) (by
        rcases hR.cells with h0 | ⟨b, off, ha, _⟩
        · have : bs = [] := List.eq_nil_of_length_eq_zero (by rw [hR.size]; exact h0)
          subst this
          intro j u hu
          simp [cellsOf] at hu
        · obtain rfl := Option.some.inj ha
          exact hR.news) (cellsOf_one bs)) (by unfold maxLen; omega) (by omega)
    have e : w2 = w' := (Result.ok.inj (hr2.symm.trans hr)).2
    subst e
    refine ⟨hrow.size, hs, ?_⟩
    rcases hrow.cells with h0 | ⟨b, off, ha, hcl⟩
    · exact .inl h0
    · simp only [Option.some.injEq, Addr.mk.injEq, and_true] at ha
      obtain ⟨rfl, rfl⟩ := ha
      exact .inr ⟨g, 0, rfl, fun i hi => by rw [hU.old (b' := g) (o' := 0 + i) hlt (fun j _ ⟨_, e⟩ => by omega)]; exact hcl i hi⟩

theorem wpList_append_keep {ops : Array Oper} {rest : List Oper} {o : Oper} {act : Act} {Q : Exit → Act → World → Prop} (W : World) (hgd : o.guard = none) (s x : Operand)
    (ho : o.op = .call { callee := .builtin .append, args := #[s, x], argTypes := #[23, 23] })
    (B g n c : Nat) (l : List Nat) (hs : act.eval s = .slice (some ⟨g, 0, none⟩) n c) (hown : Own W B (some ⟨g, 0, none⟩) n c l) (hsm : ∀ x ∈ l, x < 256) (ad : Addr) (m c2 : Nat) (bs : List Nat) (hx : act.eval x = .slice (some ad) m c2) (hR : Row W (some ad) m bs) (hm : n + m ≤ 1000000) (hb : B ≤ W.heap.size)
    (h : ∀ a' cap w', Own w' B a' (n + m) cap (l ++ bs) → Kept (At (some ⟨g, 0, none⟩)) W w' → Row w' (some ⟨g, 0, none⟩) n l → wpList Try.prog ops Q rest (act.put o.dst (.slice a' (n + m) cap)) w') : wpList Try.prog ops Q (o :: rest) act W :=
  wpList_plain hgd fun _ hK => by
    obtain ⟨a', cap, w', hr, h2, h3, h4⟩ := run_append_own_row W B o.type (some ⟨g, 0, none⟩) n c l hown (some ad) m c2 bs hR (fun h => by cases h) hm hb
    unfold Oper.wp execOp
    simp only [ho, resolve, invoke, builtin, Sem.run_bind, Sem.run_pure, Result.andThen_ok, List.map_toArray, List.map_cons, List.map_nil, hs, hx, hr]
    exact hK _ _ (h a' cap w' h2 h3 (append_old hown hsm hR hm hr))

end Go.Proofs.Ytjpmjidpdgikgaa

namespace Go.Proofs.Ytjpmjidpdgikgaa
open Go.RowKit


end Go.Proofs.Ytjpmjidpdgikgaa
