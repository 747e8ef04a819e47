/- Walks of Carts and Ops of the laws: the very same. -/
import Derived.Test.YtmibfbbkjejkmaaLw
namespace Go.Proofs.Ytmibfbbkjejkmaa
open Go.RowKit Fold

section
variable {ev : Operand → Value} {q : Oper} {w : World}
theorem exec_idxN {x y : Operand} {b off n cap i : Nat} {z : Int} (ho : q.op = .indexAddr 28 x y) (hx : ev x = .slice (some ⟨b, off, none⟩) n cap) (hy : ev y = .int .i64 z) (hz : z = (i : Int)) (hi : i < n) : (execOp ev q).run Try.prog w = .ok (.value (.pointer (some ⟨b, off + i * 1, none⟩))) w := by
  subst hz
  have u28 := und28
  unfold execOp
  simp only [ho, hx, hy]
  go_simp
end

structure carteqS (w W : World) (a1 a2 : Option Addr) (n : Nat) (ls : List Nat) : Prop where
  gl1 : GL W 1 a1 n (ones ls)
  gl2 : GL W 1 a2 n (ones ls)
  old : Below w.heap.size w W
theorem carteqS.below {w W W' : World} {a1 a2 : Option Addr} {n : Nat} {ls : List Nat} (h : carteqS w W a1 a2 n ls) (hb : Below W.heap.size W W') : carteqS w W' a1 a2 n ls := ⟨h.gl1.below hb, h.gl2.below hb, h.old.trans (hb.mono h.old.size)⟩
def carteqR (w : World) (a1 a2 : Option Addr) (n : Nat) (ls : List Nat) (u : Value) (W : World) : Prop := ∃ j : Nat, u = .int .i64 (j : Int) ∧ j ≤ n ∧ Hid (carteqS w W a1 a2 n ls)
set_option maxRecDepth 100000 in
set_option maxHeartbeats 2000000 in
/-- The very same: yes. -/
theorem carteq_any (a1 a2 : Option Addr) (n cap1 cap2 : Nat) (ls : List Nat) (w : World) (hn : n < 1000000) (h1 : GL w 1 a1 n (ones ls)) (h2 : GL w 1 a2 n (ones ls)) : Calls Try.prog 10 #[.slice a1 n cap1, .slice a2 n cap2] w (Says (.bool true) w) := by
  have HS0 : Hid (carteqS w w a1 a2 n ls) := Lib.hid ⟨h1, h2, Below.refl _ _⟩
  clear h1 h2
  go_enter Try.func10, Try.ntmps10
  go_wp2_with fail
  go_loopw [13] (carteqR w a1 a2 n ls) (fun u _ => n - (numI u).toNat)
  case atStart => exact ⟨0, rfl, Nat.zero_le _, HS0⟩
  case round =>
    obtain ⟨j, rfl, hj, HS⟩ := hrel
    clear HS0
    by_cases hlt : j < n
    · have hlen : ls.length = n := by simpa [ones] using HS.out.gl1.len
      obtain ⟨x, hx⟩ : ∃ x, ls[j]? = some x := ⟨_, List.getElem?_eq_getElem (by omega)⟩
      obtain ⟨b1, o1, e1, r1⟩ : ∃ b off, a1 = some ⟨b, off, none⟩ ∧ wr.cell? ⟨b, off + j * 1, none⟩ = some (.int .u16 (x : Int)) := by
        rcases HS.out.gl1.cells with h0 | ⟨b, off, ha, hc⟩
        · omega
        · exact ⟨b, off, ha, (by have h := hc j [encK x] (by simp [ones, hx]) 0 (encK x) rfl; rw [Nat.add_zero] at h; exact h)⟩
      obtain ⟨b2, o2, e2, r2⟩ : ∃ b off, a2 = some ⟨b, off, none⟩ ∧ wr.cell? ⟨b, off + j * 1, none⟩ = some (.int .u16 (x : Int)) := by
        rcases HS.out.gl2.cells with h0 | ⟨b, off, ha, hc⟩
        · omega
        · exact ⟨b, off, ha, (by have h := hc j [encK x] (by simp [ones, hx]) 0 (encK x) rfl; rw [Nat.add_zero] at h; exact h)⟩
      subst e1 e2
      have H1 := Lib.hid r1
      have H2 := Lib.hid r2
      clear hx r1 r2 hlen
      go_upto_region 6 with fail
      refine wp_region_held_drew (S := fun w' => w'.cell? ⟨b1, o1 + j * 1, none⟩ = some (.int .u16 (x : Int)) ∧ w'.cell? ⟨b2, o2 + j * 1, none⟩ = some (.int .u16 (x : Int))) (by kernel_rfl) ⟨H1.out, H2.out⟩ (fun hS => ?_)
      refine held_take 0 16 (.slice (some ⟨b1, o1, none⟩) n cap1) rfl rfl (by kernel_rfl) (by kernel_rfl) (by kernel_rfl) (fun _ _ _ h => h) (by kernel_rfl) (fun _ _ => rfl) hS ?_
      simp only [Act.put, List.setIfInBounds_toArray, List.set_cons_zero, List.set_cons_succ]
      refine held_take 1 17 (.int .i64 (j : Int)) rfl rfl (by kernel_rfl) (by kernel_rfl) (by kernel_rfl) (fun _ _ _ h => h) (by kernel_rfl) (fun _ _ => rfl) hS ?_
      simp only [Act.put, List.setIfInBounds_toArray, List.set_cons_zero, List.set_cons_succ]
      refine held_take 2 18 (.pointer (some ⟨b1, o1 + j * 1, none⟩)) rfl rfl (by kernel_rfl) (by kernel_rfl) (by kernel_rfl) (fun _ _ _ h => h) (by kernel_rfl) (fun _ _ => exec_idxN (i := j) rfl rfl rfl rfl hlt) hS ?_
      simp only [Act.put, List.setIfInBounds_toArray, List.set_cons_zero, List.set_cons_succ]
      refine held_take 3 19 (.int .u16 (x : Int)) rfl rfl (by kernel_rfl) (by kernel_rfl) (by kernel_rfl) (fun _ _ _ h => h) (by kernel_rfl) (fun _ h => exec_cell rfl rfl (load_cell (by kernel_rfl) h.1)) hS ?_
      simp only [Act.put, List.setIfInBounds_toArray, List.set_cons_zero, List.set_cons_succ]
      refine held_take 4 20 (.slice (some ⟨b2, o2, none⟩) n cap2) rfl rfl (by kernel_rfl) (by kernel_rfl) (by kernel_rfl) (fun _ _ _ h => h) (by kernel_rfl) (fun _ _ => rfl) hS ?_
      simp only [Act.put, List.setIfInBounds_toArray, List.set_cons_zero, List.set_cons_succ]
      refine held_take 5 21 (.int .i64 (j : Int)) rfl rfl (by kernel_rfl) (by kernel_rfl) (by kernel_rfl) (fun _ _ _ h => h) (by kernel_rfl) (fun _ _ => rfl) hS ?_
      simp only [Act.put, List.setIfInBounds_toArray, List.set_cons_zero, List.set_cons_succ]
      refine held_take 6 22 (.pointer (some ⟨b2, o2 + j * 1, none⟩)) rfl rfl (by kernel_rfl) (by kernel_rfl) (by kernel_rfl) (fun _ _ _ h => h) (by kernel_rfl) (fun _ _ => exec_idxN (i := j) rfl rfl rfl rfl hlt) hS ?_
      simp only [Act.put, List.setIfInBounds_toArray, List.set_cons_zero, List.set_cons_succ]
      refine held_take 7 23 (.int .u16 (x : Int)) rfl rfl (by kernel_rfl) (by kernel_rfl) (by kernel_rfl) (fun _ _ _ h => h) (by kernel_rfl) (fun _ h => exec_cell rfl rfl (load_cell (by kernel_rfl) h.2)) hS ?_
      simp only [Act.put, List.setIfInBounds_toArray, List.set_cons_zero, List.set_cons_succ]
      refine held_take 8 24 (.bool false) rfl rfl (by kernel_rfl) (by kernel_rfl) (by kernel_rfl) (fun _ _ _ h => h) (by kernel_rfl) (fun _ _ => exec_neqI trivial rfl rfl rfl (by simp)) hS ?_
      simp only [Act.put, List.setIfInBounds_toArray, List.set_cons_zero, List.set_cons_succ]
      refine wpAnyH_done (by kernel_rfl) ?_ _
      have HSN := Lib.hid (HS.out.below (drew_below wr))
      clear hS
      go_wp2_with fail
      go_roundw
      case rel => exact ⟨j + 1, by go_num, by omega, HSN⟩
      case measure => simp [numI]; omega
    · go_wp2_with fail
      go_ret
      exact ⟨rfl, HS.out.old⟩

structure opseqS (w W : World) (a1 a2 : Option Addr) (n : Nat) (ls : List O) : Prop where
  gl1 : GL W 23 a1 n (cellsO ls)
  gl2 : GL W 23 a2 n (cellsO ls)
  old : Below w.heap.size w W
theorem opseqS.below {w W W' : World} {a1 a2 : Option Addr} {n : Nat} {ls : List O} (h : opseqS w W a1 a2 n ls) (hb : Below W.heap.size W W') : opseqS w W' a1 a2 n ls := ⟨h.gl1.below hb, h.gl2.below hb, h.old.trans (hb.mono h.old.size)⟩
def opseqR (w : World) (a1 a2 : Option Addr) (n : Nat) (ls : List O) (u : Value) (W : World) : Prop := ∃ j : Nat, u = .int .i64 (j : Int) ∧ j ≤ n ∧ Hid (opseqS w W a1 a2 n ls)
set_option maxRecDepth 100000 in
set_option maxHeartbeats 2000000 in
/-- The very same: yes. -/
theorem opseq_any (a1 a2 : Option Addr) (n cap1 cap2 : Nat) (ls : List O) (w : World) (hn : n < 1000000) (h1 : GL w 23 a1 n (cellsO ls)) (h2 : GL w 23 a2 n (cellsO ls)) : Calls Try.prog 13 #[.slice a1 n cap1, .slice a2 n cap2] w (Says (.bool true) w) := by
  have HS0 : Hid (opseqS w w a1 a2 n ls) := Lib.hid ⟨h1, h2, Below.refl _ _⟩
  clear h1 h2
  go_enter Try.func13, Try.ntmps13
  go_wp2_with fail
  go_loopw [13] (opseqR w a1 a2 n ls) (fun u _ => n - (numI u).toNat)
  case atStart => exact ⟨0, rfl, Nat.zero_le _, HS0⟩
  case round =>
    obtain ⟨j, rfl, hj, HS⟩ := hrel
    clear HS0
    by_cases hlt : j < n
    · have hlen : ls.length = n := by simpa [cellsO] using HS.out.gl1.len
      obtain ⟨x, hx⟩ : ∃ x, ls[j]? = some x := ⟨_, List.getElem?_eq_getElem (by omega)⟩
      obtain ⟨b1, o1, e1, r1⟩ : ∃ b off, a1 = some ⟨b, off, none⟩ ∧ wr.rangeAt b (off + j * 23) x.cs := by
        rcases HS.out.gl1.cells with h0 | ⟨b, off, ha, hc⟩
        · omega
        · exact ⟨b, off, ha, hc j x.cs (by simp [cellsO, hx])⟩
      obtain ⟨b2, o2, e2, r2⟩ : ∃ b off, a2 = some ⟨b, off, none⟩ ∧ wr.rangeAt b (off + j * 23) x.cs := by
        rcases HS.out.gl2.cells with h0 | ⟨b, off, ha, hc⟩
        · omega
        · exact ⟨b, off, ha, hc j x.cs (by simp [cellsO, hx])⟩
      subst e1 e2
      have H1 := Lib.hid r1
      have H2 := Lib.hid r2
      clear hx r1 r2 hlen
      go_upto_region 6 with fail
      refine wp_region_held_drew (S := fun w' => w'.rangeAt b1 (o1 + j * 23) x.cs ∧ w'.rangeAt b2 (o2 + j * 23) x.cs) (by kernel_rfl) ⟨H1.out, H2.out⟩ (fun hS => ?_)
      refine held_take 0 16 (.slice (some ⟨b1, o1, none⟩) n cap1) rfl rfl (by kernel_rfl) (by kernel_rfl) (by kernel_rfl) (fun _ _ _ h => h) (by kernel_rfl) (fun _ _ => rfl) hS ?_
      simp only [Act.put, List.setIfInBounds_toArray, List.set_cons_zero, List.set_cons_succ]
      refine held_take 1 17 (.int .i64 (j : Int)) rfl rfl (by kernel_rfl) (by kernel_rfl) (by kernel_rfl) (fun _ _ _ h => h) (by kernel_rfl) (fun _ _ => rfl) hS ?_
      simp only [Act.put, List.setIfInBounds_toArray, List.set_cons_zero, List.set_cons_succ]
      refine held_take 2 18 (.pointer (some ⟨b1, o1 + j * 23, none⟩)) rfl rfl (by kernel_rfl) (by kernel_rfl) (by kernel_rfl) (fun _ _ _ h => h) (by kernel_rfl) (fun _ _ => exec_idxO (i := j) rfl rfl rfl rfl hlt) hS ?_
      simp only [Act.put, List.setIfInBounds_toArray, List.set_cons_zero, List.set_cons_succ]
      refine held_take 3 19 (.agg x.arr) rfl rfl (by kernel_rfl) (by kernel_rfl) (by kernel_rfl) (fun _ _ _ h => h) (by kernel_rfl) (fun _ h => exec_ldO (p := x) rfl rfl h.1) hS ?_
      simp only [Act.put, List.setIfInBounds_toArray, List.set_cons_zero, List.set_cons_succ]
      refine held_take 4 20 (.slice (some ⟨b2, o2, none⟩) n cap2) rfl rfl (by kernel_rfl) (by kernel_rfl) (by kernel_rfl) (fun _ _ _ h => h) (by kernel_rfl) (fun _ _ => rfl) hS ?_
      simp only [Act.put, List.setIfInBounds_toArray, List.set_cons_zero, List.set_cons_succ]
      refine held_take 5 21 (.int .i64 (j : Int)) rfl rfl (by kernel_rfl) (by kernel_rfl) (by kernel_rfl) (fun _ _ _ h => h) (by kernel_rfl) (fun _ _ => rfl) hS ?_
      simp only [Act.put, List.setIfInBounds_toArray, List.set_cons_zero, List.set_cons_succ]
      refine held_take 6 22 (.pointer (some ⟨b2, o2 + j * 23, none⟩)) rfl rfl (by kernel_rfl) (by kernel_rfl) (by kernel_rfl) (fun _ _ _ h => h) (by kernel_rfl) (fun _ _ => exec_idxO (i := j) rfl rfl rfl rfl hlt) hS ?_
      simp only [Act.put, List.setIfInBounds_toArray, List.set_cons_zero, List.set_cons_succ]
      refine held_take 7 23 (.agg x.arr) rfl rfl (by kernel_rfl) (by kernel_rfl) (by kernel_rfl) (fun _ _ _ h => h) (by kernel_rfl) (fun _ h => exec_ldO (p := x) rfl rfl h.2) hS ?_
      simp only [Act.put, List.setIfInBounds_toArray, List.set_cons_zero, List.set_cons_succ]
      refine held_take 8 24 (.bool false) rfl rfl (by kernel_rfl) (by kernel_rfl) (by kernel_rfl) (fun _ _ _ h => h) (by kernel_rfl) (fun _ _ => exec_neq40 (a := x) (b := x) rfl rfl rfl rfl) hS ?_
      simp only [Act.put, List.setIfInBounds_toArray, List.set_cons_zero, List.set_cons_succ]
      refine wpAnyH_done (by kernel_rfl) ?_ _
      have HSN := Lib.hid (HS.out.below (drew_below wr))
      clear hS
      go_wp2_with fail
      go_roundw
      case rel => exact ⟨j + 1, by go_num, by omega, HSN⟩
      case measure => simp [numI]; omega
    · go_wp2_with fail
      go_ret
      exact ⟨rfl, HS.out.old⟩

end Go.Proofs.Ytmibfbbkjejkmaa
