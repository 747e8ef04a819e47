/- Deleting and storing in a map of names at the operation; walks of apply and New. -/
import Derived.Test.YtjpmjidpdgikgaaDe
import Derived.Great.Walk
import Derived.WideMake
namespace Go.Proofs.Ytjpmjidpdgikgaa
open Go.RowKit Go.Maps

section
variable {ops : Array Oper} {rest : List Oper} {o : Oper} {act : Act} {Q : Exit → Act → World → Prop} {W : World}
theorem wpList_del {x y : Operand} {b n : Nat} {f : Lit → Option Value} {s : ByteArray} (hg : o.guard = none) (hop : o.op = .call { callee := .builtin .delete, args := #[x, y], argTypes := #[40, 9] })
    (hx : act.eval x = .map (some b)) (hy : act.eval y = .string s) (h : MpF W 9 b n f) (hs : s.size ≤ maxLen)
    (hK : ∀ w', MpF w' 9 b (if (f (litS s)).isSome then n - 1 else n) (cutF f (litS s)) → Kept (fun i => i = b) W w' → wpList Try.prog ops Q rest (act.put o.dst (.tuple #[])) w') : wpList Try.prog ops Q (o :: rest) act W := by
  refine wpList_plain hg fun K' hK' => ?_
  obtain ⟨w', hrun, r1, r2⟩ := h.del law9 (e := 51) Try.underlying40 (key9 hs) o.type
  unfold Oper.wp
  simp [execOp, hop, resolve, invoke, builtin, hx, hy, hrun, Result.andThen]
  exact hK' _ _ (hK w' r1 r2)
theorem wpList_put {x y z : Operand} {b n : Nat} {f : Lit → Option Value} {s : ByteArray} {v : Value} (hg : o.guard = none) (hop : o.op = .mapUpdate 40 x y z)
    (hx : act.eval x = .map (some b)) (hy : act.eval y = .string s) (hz : act.eval z = v) (h : MpF W 9 b n f) (hn : n < 1000000) (hs : s.size ≤ maxLen)
    (hK : ∀ w', MpF w' 9 b (if (f (litS s)).isSome then n else n + 1) (upd f (litS s) v) → Kept (fun i => i = b) W w' → wpList Try.prog ops Q rest (act.put o.dst undef) w') : wpList Try.prog ops Q (o :: rest) act W := by
  refine wpList_plain hg fun K' hK' => ?_
  obtain ⟨w', hrun, r1, r2⟩ := h.put law9 (e := 51) Try.underlying40 hn (key9 hs) (v := v)
  unfold Oper.wp
  simp [execOp, hop, hx, hy, hz, hrun, Result.andThen]
  exact hK' _ _ (hK w' r1 r2)
/-- A stop at a builtin delete, at a store in a map. -/
theorem wpList_stopD {x y : Operand} (_ho : o.op = .call { callee := .builtin .delete, args := #[x, y], argTypes := #[40, 9] }) (k : Halt_ (wpList Try.prog ops Q (o :: rest) act W)) : wpList Try.prog ops Q (o :: rest) act W := k.out
theorem wpList_stopU {x y z : Operand} (_ho : o.op = .mapUpdate 40 x y z) (k : Halt_ (wpList Try.prog ops Q (o :: rest) act W)) : wpList Try.prog ops Q (o :: rest) act W := k.out
end

/-- The names behind a change, and how many at most. -/
noncomputable def chF (f : Lit → Option Value) (gone set : ByteArray) (v : Value) : Lit → Option Value := if set.size = 0 then cutF f (litS gone) else upd (cutF f (litS gone)) (litS set) v
def Changed (m n : Nat) (f : Lit → Option Value) (gone set : ByteArray) (v : Value) (w : World) (e : Ending) (w' : World) : Prop :=
  e = .returned (.tuple #[]) ∧ (∃ n', n' ≤ n + 1 ∧ MpF w' 9 m n' (chF f gone set v)) ∧ Kept (fun i => i = m) w w'

set_option maxRecDepth 100000 in
set_option maxHeartbeats 2000000 in
theorem apply_any {w : World} {m n : Nat} {f : Lit → Option Value} (gone set : ByteArray) (v : Value) (h : MpF w 9 m n f) (hn : n < 900000) (h1 : gone.size ≤ 1000000) (h2 : set.size ≤ 1000000) :
    Calls Try.prog 25 #[.agg #[.string gone, .string set, v], .map (some m)] w (Changed m n f gone set v w) := by
  have H0 : Hid (Blk (w.alloc (.cells #[.string gone, .string set, v] 54)) w.heap.size 54 #[.string gone, .string set, v]) := Lib.hid (Blk.new w 54 _)
  have HM := Lib.hid (h.below (below_one w (.cells #[.string gone, .string set, v] 54)))
  have HK : Hid (Kept (fun i => i = m) w (w.alloc (.cells #[.string gone, .string set, v] 54))) := Lib.hid (Kept.alloc _ _ _)
  have hne := Lib.hid (HM.out.ne H0.out)
  clear h
  go_enter Try.func25, Try.ntmps25
  go_upto_region 1 with fail
  try simp only [World.size_alloc, Act.put, List.setIfInBounds_toArray, List.set_cons_zero, List.set_cons_succ]
  generalize w.alloc (.cells #[.string gone, .string set, v] 54) = w0 at H0 HM HK ⊢
  obtain ⟨p, hp⟩ : ∃ p, w.heap.size = p := ⟨_, rfl⟩
  rw [hp] at H0 hne
  rw [hp]
  have u0 : w0.cell? ⟨p, 0, none⟩ = some (.string gone) := H0.out.cell 0
  go_upto_region 2 with (refine wpList_stopD rfl ?_)
  refine ⟨?_⟩
  refine wpList_del rfl rfl rfl rfl HM.out (by unfold maxLen; omega) ?_
  intro w1 hm1 hk1
  have H1 := Lib.hid (H0.out.kept hk1 (fun e => hne.out e.symm))
  have HM1 := Lib.hid hm1
  have HK1 : Hid (Kept (fun i => i = m) w w1) := Lib.hid (HK.out.trans hk1 fun i hi => .inl hi)
  clear u0 hm1 hk1 H0 HM HK
  have u1 : w1.cell? ⟨p, 1, none⟩ = some (.string set) := H1.out.cell 1
  have u2 : w1.cell? ⟨p, 2, none⟩ = some v := H1.out.cell 2
  generalize hn' : (if (f (litS gone)).isSome then n - 1 else n) = k at HM1
  have hk : k ≤ n := by rw [← hn']; split <;> omega
  clear hn'
  by_cases h0 : set.size = 0
  · have hs : set = ⟨#[]⟩ := ByteArray.ext (Array.eq_empty_of_size_eq_zero h0)
    subst hs
    go_wp2_with fail
    exact Go.Great.bodyPost_end0 rfl rfl ⟨rfl, ⟨k, by omega, by unfold chF; rw [if_pos (by rfl)]; exact HM1.out⟩, HK1.out⟩
  · have q0 : set.toList.isEmpty = false := by
      cases e : set.toList with
      | nil =>
        rw [ByteArray.toList_eq] at e
        exact absurd (show set.size = 0 from by show set.data.size = 0; rw [← Array.length_toList, e]; rfl) h0
      | cons x l => rfl
    go_wp2_with (refine wpList_stopU rfl ?_)
    refine ⟨?_⟩
    refine wpList_put (v := v) rfl rfl rfl rfl rfl HM1.out (by omega) (by unfold maxLen; omega) ?_
    intro w2 hm2 hk2
    have HM2 := Lib.hid hm2
    have HK2 : Hid (Kept (fun i => i = m) w w2) := Lib.hid (HK1.out.trans hk2 fun i hi => .inl hi)
    clear u1 u2 hm2 hk2 H1 HM1 HK1 q0
    go_wp2_with fail
    exact Go.Great.bodyPost_end0 rfl rfl ⟨rfl, ⟨(if (cutF f (litS gone) (litS set)).isSome = true then k else k + 1), by split <;> omega, by unfold chF; rw [if_neg h0]; exact HM2.out⟩, HK2.out⟩

/-- A new disk: its block, two empty maps. -/
def Newly (room : Nat) (w : World) (e : Ending) (w' : World) : Prop :=
  ∃ p m1 m2, e = .returned (.pointer (some ⟨p, 0, none⟩)) ∧ Dk w' p room 0 (some m1) (some m2) none 0 0 ∧ MpF w' 9 m1 0 (fun _ => none) ∧ MpF w' 9 m2 0 (fun _ => none) ∧ m1 ≠ m2 ∧ w.heap.size ≤ p ∧ w.heap.size ≤ m1 ∧ w.heap.size ≤ m2 ∧ Below w.heap.size w w'
set_option maxRecDepth 100000 in
set_option maxHeartbeats 2000000 in
theorem new_any (room : Nat) (w : World) (h1 : 1 ≤ room) (h2 : room ≤ 16777216) : Calls Try.prog 7 #[.int .i64 (room : Int)] w (Newly room w) := by
  have q1 : decide ((room : Int) < 1) = false := by simp; omega
  have q2 : decide ((room : Int) > 16777216) = false := by simp; omega
  have hmm := fun W => run_makeMap_plain (P := Try.prog) W 40
  go_enter Try.func7, Try.ntmps7
  go_upto_region 3 with fail
  go_wp2_with fail
  try simp only [World.size_alloc]
  go_ret
  have m1 := mpF_new w 9
  have m2 := mpF_new (w.alloc (.map #[] 0)) 9
  have b1 := below_one w (.map #[] 0)
  have b2 := below_one (w.alloc (.map #[] 0)) (.map #[] 0)
  have b3 := below_one ((w.alloc (.map #[] 0)).alloc (.map #[] 0)) (.cells (dkA room 0 (some w.heap.size) (some (w.heap.size + 1)) none 0 0) 43)
  have hk := Blk.new ((w.alloc (.map #[] 0)).alloc (.map #[] 0)) 43 (dkA room 0 (some w.heap.size) (some (w.heap.size + 1)) none 0 0)
  simp only [World.size_alloc] at m2 hk
  exact ⟨w.heap.size + 1 + 1, w.heap.size, w.heap.size + 1, rfl, hk, (m1.below b2).below b3, m2.below b3, by omega, by omega, by omega, by omega, (b1.trans (b2.mono b1.size)).trans (b3.mono (Nat.le_trans b1.size b2.size))⟩
end Go.Proofs.Ytjpmjidpdgikgaa
