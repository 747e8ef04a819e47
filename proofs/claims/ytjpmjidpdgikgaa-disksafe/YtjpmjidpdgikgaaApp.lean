/- Appending a row of bytes, empty or not, to a slice of bytes that the call owns. -/
import Derived.Test.YtjpmjidpdgikgaaLift
namespace Go.Proofs.Ytjpmjidpdgikgaa
open Go.RowKit

theorem own_cap {w : World} {B g n cap : Nat} {xs : List Value} (h : w.ownsRow B 5 1 (.slice (some ⟨g, 0, none⟩) n cap) n xs) : n ≤ cap ∧ cap ≤ maxLen := by
  rcases h.2 with ⟨h', _⟩ | ⟨g', cap', cur, h', _, _, hnc, hcm, _⟩
  · simp at h'
  · simp only [Value.slice.injEq, Option.some.injEq, Addr.mk.injEq, and_true, true_and] at h'
    obtain ⟨rfl, rfl⟩ := h'
    exact ⟨hnc, hcm⟩

theorem Row.upto {w : World} {a : Option Addr} {len k : Nat} {l : List Nat} (h : Row w a len l) (hk : k ≤ len) : Row w a k (l.take k) := by
  refine ⟨by rw [List.length_take, h.size]; omega, fun c hc => h.small c (List.mem_of_mem_take hc), ?_⟩
  rcases h.cells with h0 | ⟨b, off, ha, hc⟩
  · exact .inl (by omega)
  · refine .inr ⟨b, off, ha, fun i hi => ?_⟩
    have hi' : i < (l.take k).length := by rw [List.length_take, h.size]; omega
    have hi2 : i < l.length := by rw [h.size]; omega
    rw [hc i (by omega), getD_at hi', getD_at hi2, List.getElem_take]

theorem row_own {w : World} {B g n cap : Nat} {l : List Nat} (h : w.ownsRow B 5 1 (.slice (some ⟨g, 0, none⟩) n cap) n (cellsOf l)) (hs : ∀ c ∈ l, c < 256) : Row w (some ⟨g, 0, none⟩) n l := by
  obtain ⟨a, cap', hv, hR, _⟩ := row_of_owns h hs
  simp only [Value.slice.injEq, true_and] at hv
  obtain ⟨rfl, _⟩ := hv
  exact hR

theorem run_append_row (W : World) (base ty : Nat) (v : Value) (n : Nat) (l : List Nat) (hown : W.ownsRow base 5 1 v n (cellsOf l)) (a : Option Addr) (m c : Nat) (bs : List Nat) (hR : Row W a m bs) (hz : a = none → m = 0 ∧ c = 0) (h1 : 1 ≤ n + m) (hm : n + m ≤ 1000000) (hb : base ≤ W.heap.size) :
    ∃ g cap w', (Builtin.append_ #[23, 23] ty #[v, .slice a m c]).run Try.prog W = .ok (.slice (some ⟨g, 0, none⟩) (n + m) cap) w' ∧
      w'.ownsRow base 5 1 (.slice (some ⟨g, 0, none⟩) (n + m) cap) (n + m) (cellsOf (l ++ bs)) ∧ W.grownBy w' v.ownBlock := by
  obtain ⟨i0, hii, hz0, hz1, hz2⟩ := info_parts info5
  cases a with
  | none =>
    obtain ⟨rfl, rfl⟩ := hz rfl
    obtain rfl := List.eq_nil_of_length_eq_zero hR.size
    obtain ⟨g, cap, rfl, _, _⟩ := hown.form (by omega)
    refine ⟨g, cap, W, run_append_owned_none W base 23 ty 5 i0 1 Try.underlying23 hii _ n _ hown, by simpa using hown, ⟨rfl, rfl, rfl, Nat.le_refl _, fun _ _ _ => rfl⟩⟩
  | some ad =>
    obtain ⟨v', w', hr, h2, h3, _, _⟩ := run_append_own_at (P := Try.prog) W base 23 ty 5 i0 (.int .u8 0) 1 1 Try.underlying23 hii hz0 hz1 hz2 rfl (by omega) v n (cellsOf l) hown ad m c (cellsOf bs)
      (by rw [cellsOf_len, hR.size]; omega)
      (by
        rcases hR.cells with h0 | ⟨b, off, ha, _⟩
        · have : bs = [] := List.eq_nil_of_length_eq_zero (by rw [hR.size]; exact h0)
          subst this
          intro j u hu
          simp [cellsOf] at hu
        · obtain rfl := Option.some.inj ha
          exact hR.news)
      (cellsOf_one bs) (by unfold maxLen; omega) (by omega) hb
    obtain ⟨g, cap, rfl, _, _⟩ := h2.form (by omega)
    exact ⟨g, cap, w', hr, by rw [cellsOf_append]; exact h2, h3⟩

theorem wpList_append_row {ops : Array Oper} {rest : List Oper} {o : Oper} {act : Act} {Q : Exit → Act → World → Prop} (W : World) (hgd : o.guard = none) (s x : Operand)
    (ho : o.op = .call { callee := .builtin .append, args := #[s, x], argTypes := #[23, 23] })
    (base : Nat) (v : Value) (n : Nat) (l : List Nat) (hs : act.eval s = v) (hown : W.ownsRow base 5 1 v n (cellsOf l)) (a : Option Addr) (m c : Nat) (bs : List Nat) (hx : act.eval x = .slice a m c) (hR : Row W a m bs) (hz : a = none → m = 0 ∧ c = 0) (h1 : 1 ≤ n + m) (hm : n + m ≤ 1000000) (hb : base ≤ W.heap.size)
    (h : ∀ g cap w', w'.ownsRow base 5 1 (.slice (some ⟨g, 0, none⟩) (n + m) cap) (n + m) (cellsOf (l ++ bs)) → W.grownBy w' v.ownBlock → wpList Try.prog ops Q rest (act.put o.dst (.slice (some ⟨g, 0, none⟩) (n + m) cap)) w') : wpList Try.prog ops Q (o :: rest) act W :=
  wpList_plain hgd fun _ hK => by
    obtain ⟨g, cap, w', hr, h2, h3⟩ := run_append_row W base o.type v n l hown a m c bs hR hz h1 hm hb
    unfold Oper.wp execOp
    simp only [ho, resolve, invoke, builtin, Sem.run_bind, Sem.run_pure, Result.andThen_ok, List.map_toArray, List.map_cons, List.map_nil, hs, hx, hr]
    exact hK _ _ (h g cap w' h2 h3)

end Go.Proofs.Ytjpmjidpdgikgaa
