/- An exchange of two numbers of a slice, in a region that draws its order: what the steps use. -/
import Derived.Test.YtmibfbbkjejkmaaSw
namespace Go.Proofs.Ytmibfbbkjejkmaa
open Go.RowKit
open Go.Sort (swp ltInt size_swp)

section
variable {ops : Array Oper} {Q : Exit → Act → World → Prop} {S : World → Prop} {fuel : Nat} {listed : Array Bool} {a : Act} {w : World}
/-- Two operations that may come in either order, each of which yields its value and turns nothing. -/
theorem held_two (i j : Nat) (di dj : Tmp) {oi oj : Oper} (vi vj : Value) (hij : i ≠ j) (hd : di ≠ dj) (hdi : oi.dst = some di) (hdj : oj.dst = some dj) (hi : ops[i]? = some oi) (hj : ops[j]? = some oj)
    (hr : Region.ready .any ops listed = [i, j]) (hr1 : Region.ready .any ops (listed.setIfInBounds i true) = [j]) (hr2 : Region.ready .any ops (listed.setIfInBounds j true) = [i])
    (hwi : Region.wanted oi (yielded ops a.tmps) = true) (hwj : Region.wanted oj (yielded ops a.tmps) = true) (hwi2 : Region.wanted oi (yielded ops (a.put (some dj) vj).tmps) = true) (hwj2 : Region.wanted oj (yielded ops (a.put (some di) vi).tmps) = true)
    (hyi : (execOp a.eval oi).run Try.prog w = .ok (.value vi) w) (hyj : (execOp a.eval oj).run Try.prog w = .ok (.value vj) w)
    (hyi2 : (execOp (a.put (some dj) vj).eval oi).run Try.prog w = .ok (.value vi) w) (hyj2 : (execOp (a.put (some di) vi).eval oj).run Try.prog w = .ok (.value vj) w) (hS : S w)
    (h : wpAnyH Try.prog .any ops Q S fuel ((listed.setIfInBounds i true).setIfInBounds j true) ((a.put (some di) vi).put (some dj) vj) w) : wpAnyH Try.prog .any ops Q S (fuel + 2) listed a w := by
  refine wpAnyH_ready (rs := [i, j]) hr (by simp) (AllReadyH.cons hi (fun K hK => ?_) (AllReadyH.cons hj (fun K hK => ?_) AllReadyH.nil))
  · rw [if_pos hwi]
    unfold Oper.wp
    rw [hyi]
    refine hK.out _ _ hS (fun _ => ?_)
    rw [hdi]
    exact held_exec j dj vj hdj hj hr1 hwj2 hyj2 hS h
  · rw [if_pos hwj]
    unfold Oper.wp
    rw [hyj]
    refine hK.out _ _ hS (fun _ => ?_)
    rw [hdj]
    refine held_exec i di vi hdi hi hr2 hwi2 hyi2 hS ?_
    rw [Array.setIfInBounds_comm _ _ (Ne.symm hij), Act.put_comm a vj vi (fun d h1 h2 => hd (by cases h1; cases h2; rfl))]
    exact h
end

section
variable {ev : Operand → Value} {q : Oper} {w : World}
theorem exec_idx16 {x y : Operand} {g o n cap i : Nat} {z : Int} (ho : q.op = .indexAddr 28 x y) (hx : ev x = .slice (some ⟨g, o, none⟩) n cap) (hy : ev y = .int .i64 z) (hz : z = (i : Int)) (hi : i < n) : (execOp ev q).run Try.prog w = .ok (.value (.pointer (some ⟨g, o + i, none⟩))) w := by
  subst hz
  have u28 := Try.underlying28
  unfold execOp
  simp only [ho, hx, hy]
  go_simp
theorem exec_ld16 {w0 : World} {r : Array Value} {d : Array Int} {x : Operand} {g o i : Nat} {z : Int} (ho : q.op = .load 34 x) (hx : ev x = .pointer (some ⟨g, o + i, none⟩)) (h : Sr w0 w g o r d) (hi : i < d.size) (hz : d[i]! = z) : (execOp ev q).run Try.prog w = .ok (.value (.int .u16 z)) w := by
  subst hz
  have c := h.cell hi
  unfold execOp
  simp only [ho, hx]
  go_simp
theorem exec_st16 {w0 : World} {r : Array Value} {d : Array Int} {x y : Operand} {g o i : Nat} {z : Int} (ho : q.op = .store 34 x y) (hx : ev x = .pointer (some ⟨g, o + i, none⟩)) (hy : ev y = .int .u16 z) (h : Sr w0 w g o r d) (hi : i < d.size) : (execOp ev q).run Try.prog w = .ok .skip (w.setCell ⟨g, o + i, none⟩ (.int .u16 z)) := by
  have c := h.cell hi
  have f := h.frozen i
  unfold execOp
  simp only [ho, hx, hy]
  go_simp
theorem exec_addN {x y : Operand} {a b c : Int} (ho : q.op = .binOp .add 3 x y 3) (hx : ev x = .int .i64 a) (hy : ev y = .int .i64 b) (hc : a + b = c) (h0 : 0 ≤ c) (h1 : c < 1000000000) : (execOp ev q).run Try.prog w = .ok (.value (.int .i64 c)) w := by
  have e : IntKind.i64.wrap (a + b) = c := by rw [hc]; exact wrap_ok h0 h1
  unfold execOp
  simp [ho, hx, hy, eqGuard, binOp, Op.intArith, e]
theorem exec_subN {x y : Operand} {a b c : Int} (ho : q.op = .binOp .sub 3 x y 3) (hx : ev x = .int .i64 a) (hy : ev y = .int .i64 b) (hc : a - b = c) (h0 : 0 ≤ c) (h1 : c < 1000000000) : (execOp ev q).run Try.prog w = .ok (.value (.int .i64 c)) w := by
  have e : IntKind.i64.wrap (a - b) = c := by rw [hc]; exact wrap_ok h0 h1
  unfold execOp
  simp [ho, hx, hy, eqGuard, binOp, Op.intArith, e]
end

theorem Sr.swapd {w W : World} {b o : Nat} {r : Array Value} {d : Array Int} (h : Sr w W b o r d) {i j : Nat} (hi : i < d.size) (hj : j < d.size) :
    Sr w ((W.drew.setCell ⟨b, o + i, none⟩ (.int .u16 d[j]!)).setCell ⟨b, o + j, none⟩ (.int .u16 d[i]!)) b o r (swp d i j) := h.swap hi hj 1 rfl rfl

end Go.Proofs.Ytmibfbbkjejkmaa
