/- Walks of the sort's small functions at fewer than fifty numbers: the length in bits, the next power of two, the generator's step, the pivot. -/
import Derived.Test.YtmibfbbkjejkmaaSx
import Derived.Lib.Walk
import Derived.Lib.BitFns
namespace Go.Proofs.Ytmibfbbkjejkmaa
open Go.RowKit
open Go.Sort (swp ltInt size_swp)

theorem bit_le : ∀ n : Fin 256, Lib.bitLen n.val ≤ 8 ∧ (1 ≤ n.val → 2 ^ Lib.bitLen n.val ≤ 2 * n.val) := by decide +kernel

theorem exec_len8 {ev : Operand → Value} {q : Oper} {w : World} {x y : Operand} {s : ByteArray} {n : Nat} (ho : q.op = .index 9 x y) (hx : ev x = .string s) (hs : s = Lib.len8tab) (hy : ev y = .int .u8 (n : Int)) (hn : n < 256) : (execOp ev q).run Try.prog w = .ok (.value (.int .u8 (Lib.bitLen n : Int))) w := by
  subst hs
  have h := Lib.run_index_len8tab (P := Try.prog) (w := w) 9 .u8 (n : Int) Try.underlying9 (by omega) (by omega)
  rw [Lib.len8_of (n : Int) (by omega) (by omega), Int.toNat_natCast] at h
  unfold execOp
  simp only [ho, hx, hy, Sem.run_bind, h, Result.andThen_ok]
  rfl

set_option maxRecDepth 100000 in
set_option maxHeartbeats 1000000 in
theorem len64_x (n : Nat) (x : Int) (w : World) (hn : n < 256) (hx : Hid (x = (n : Int))) (h0 : 0 ≤ x) (h1 : x < 256) : Calls Try.prog 58 #[.int .u64 x] w fun e w' => e = .returned (.int .i64 (Lib.bitLen n : Int)) ∧ w = w' := by
  have hl := (bit_le ⟨n, hn⟩).1
  simp only at hl
  generalize hm : Lib.bitLen n = m at hl
  have HM := Lib.hid hm
  clear hm
  go_enter Try.func58, Try.ntmps58
  generalize hs : ByteArray.mk _ = tab
  have hs2 : tab = Lib.len8tab := hs.symm.trans (by kernel_rfl)
  clear hs
  have HS := Lib.hid hs2
  clear hs2
  go_wp2_with (refine wpList_run rfl (exec_len8 (n := n) rfl rfl HS.out (congrArg (Value.int .u8) hx.out) hn) ?_)
  go_ret
  refine ⟨ret_int ?_, rfl⟩
  rw [HM.out]
  unfold wrap64
  omega

set_option maxRecDepth 100000 in
theorem len_x (n : Nat) (x : Int) (w : World) (hn : n < 256) (hx : Hid (x = (n : Int))) (h0 : 0 ≤ x) (h1 : x < 256) : Calls Try.prog 41 #[.int .u64 x] w fun e w' => e = .returned (.int .i64 (Lib.bitLen n : Int)) ∧ w = w' := by
  go_enter Try.func41, Try.ntmps41
  go_wp2_with fail
  refine (len64_x n x w hn hx h0 h1).mono ?_
  rintro e w' ⟨rfl, rfl⟩
  go_wp2_with fail
  go_ret
  exact ⟨rfl, rfl⟩

/-- The next power of two: not above twice the number. -/
def Pow2 (n : Nat) (w : World) (e : Ending) (w' : World) : Prop := ∃ m : Nat, 1 ≤ m ∧ m ≤ 2 * n ∧ e = .returned (.int .u64 (m : Int)) ∧ w = w'

set_option maxRecDepth 100000 in
theorem pow_x (n : Nat) (x : Int) (w : World) (hn : n < 256) (hn1 : 1 ≤ n) (hx : Hid (x = (n : Int))) (h0 : 0 ≤ x) (h1 : x < 256) : Calls Try.prog 63 #[.int .i64 x] w (Pow2 n w) := by
  have hb := bit_le ⟨n, hn⟩
  simp only at hb
  have HB := Lib.hid hb
  clear hb
  go_enter Try.func63, Try.ntmps63
  go_wp2_with fail
  refine (len_x n x w hn hx h0 h1).mono ?_
  rintro e w' ⟨rfl, rfl⟩
  generalize hm : Lib.bitLen n = m
  rw [hm] at HB
  clear hm
  have hm8 : m ≤ 8 := HB.out.1
  have HP : Hid (2 ^ m ≤ 2 * n) := Lib.hid (HB.out.2 hn1)
  clear HB
  go_wp2_with fail
  go_ret
  refine ⟨2 ^ m, Nat.one_le_two_pow, HP.out, ret_int ?_, rfl⟩
  have hc : m = 0 ∨ m = 1 ∨ m = 2 ∨ m = 3 ∨ m = 4 ∨ m = 5 ∨ m = 6 ∨ m = 7 ∨ m = 8 := by omega
  rcases hc with rfl | rfl | rfl | rfl | rfl | rfl | rfl | rfl | rfl <;> decide

/-- A block of one cell, and that nothing else has turned. -/
structure Bx (w W : World) (p : Nat) (t : TypeId) (v : Value) : Prop where
  blk : Blk W p t #[v]
  kept : Kept (fun k => k = p) w W
theorem Bx.cell {w W : World} {p : Nat} {t : TypeId} {v : Value} (h : Bx w W p t v) : W.cell? ⟨p, 0, none⟩ = some v := by rw [h.blk.cell]; rfl
theorem Bx.frozen {w W : World} {p : Nat} {t : TypeId} {v : Value} (h : Bx w W p t v) : W.frozen? ⟨p, 0, none⟩ = false := h.blk.frozen 0
theorem Bx.set {w W : World} {p : Nat} {t : TypeId} {v : Value} (h : Bx w W p t v) (u : Value) : Bx w (W.setCell ⟨p, 0, none⟩ u) p t u := ⟨h.blk.set 0 u, h.kept.trans (Kept.setCell W _ _) (fun _ hk => .inl hk)⟩
theorem Bx.drawn {w W : World} {p : Nat} {t : TypeId} {v : Value} (h : Bx w W p t v) (q : Nat) : Bx w (W.drewN q) p t v := ⟨h.blk, h.kept.os, h.kept.tape, h.kept.output, h.kept.size, h.kept.block⟩
theorem Bx.drew {w W : World} {p : Nat} {t : TypeId} {v : Value} (h : Bx w W p t v) : Bx w W.drew p t v := h.drawn 1

def Nexts (w : World) (p : Nat) (e : Ending) (W' : World) : Prop := ∃ z : Int, e = .returned (.int .u64 z) ∧ Bx w W' p 103 (.int .u64 z)

set_option maxRecDepth 100000 in
set_option maxHeartbeats 1000000 in
theorem next_x {w W : World} {p : Nat} {z : Int} (h : Bx w W p 103 (.int .u64 z)) : Calls Try.prog 64 #[.pointer (some ⟨p, 0, none⟩)] W (Nexts w p) := by
  have hc := h.cell
  have hf := h.frozen
  have H := Lib.hid h
  clear h
  go_enter Try.func64, Try.ntmps64
  go_wp2_with fail
  go_region
  all_goals go_wp2_with fail
  generalize bits BinOp.xor IntKind.u64 _ _ = z1
  have H1 := Lib.hid (H.out.set (.int .u64 z1)).drew
  clear H hc hf
  generalize (W.setCell ⟨p, 0, none⟩ (.int .u64 z1)).drew = W1 at H1
  have hc := H1.out.cell
  have hf := H1.out.frozen
  go_region
  all_goals go_wp2_with fail
  generalize bits BinOp.xor IntKind.u64 _ _ = z2
  have H2 := Lib.hid (H1.out.set (.int .u64 z2)).drew
  clear H1 hc hf
  generalize (W1.setCell ⟨p, 0, none⟩ (.int .u64 z2)).drew = W2 at H2
  have hc := H2.out.cell
  have hf := H2.out.frozen
  go_region
  all_goals go_wp2_with fail
  generalize bits BinOp.xor IntKind.u64 _ _ = z3
  have H3 := Lib.hid (H2.out.set (.int .u64 z3)).drew
  go_ret
  exact ⟨_, rfl, H3.out⟩

/-- Two indices in one of both orders, and how often they were exchanged. -/
def Ord2 (w : World) (p a b : Nat) (s : Nat) (e : Ending) (W' : World) : Prop :=
  ∃ x y s' : Nat, e = .returned (.tuple #[.int .i64 (x : Int), .int .i64 (y : Int)]) ∧ ((x = a ∧ y = b) ∨ (x = b ∧ y = a)) ∧ s' ≤ s + 1 ∧ Bx w W' p 3 (.int .i64 (s' : Int))

/-- The numbers can be read, and the counter is another block. -/
structure Md (w W : World) (g o : Nat) (d : Array Int) (p : Nat) (s : Nat) : Prop where
  rd : ∀ t, t < d.size → W.cell? ⟨g, o + t, none⟩ = some (.int .u16 d[t]!)
  ne : g ≠ p
  bx : Bx w W p 3 (.int .i64 (s : Int))
theorem Md.next {w W W' : World} {g o p s s' : Nat} {d : Array Int} (h : Md w W g o d p s) (hb : Bx W W' p 3 (.int .i64 (s' : Int))) : Md w W' g o d p s' :=
  ⟨fun t ht => hb.kept.at_ (h.rd t ht) h.ne, h.ne, hb.blk, h.bx.kept.trans hb.kept (fun _ hk => .inl hk)⟩

set_option maxRecDepth 100000 in
set_option maxHeartbeats 1000000 in
theorem order16 {w W : World} {g o cap p s : Nat} {d : Array Int} (h : Md w W g o d p s) (a b : Nat) (ha : a < d.size) (hb : b < d.size) (hs : s < 1000) (_hsz : d.size < 1000000) :
    Calls Try.prog 69 #[.slice (some ⟨g, o, none⟩) d.size cap, .int .i64 (a : Int), .int .i64 (b : Int), .pointer (some ⟨p, 0, none⟩)] W (Ord2 W p a b s) := by
  obtain ⟨G, hG⟩ : ∃ G : Nat → Int, ∀ t, G t = d[t]! := ⟨fun t => d[t]!, fun _ => rfl⟩
  have hcw : ∀ t, t < d.size → W.cell? ⟨g, o + t, none⟩ = some (.int .u16 (G t)) := fun t ht => by rw [hG]; exact h.rd t ht
  have hB : Bx W W p 3 (.int .i64 (s : Int)) := ⟨h.bx.blk, Kept.refl _ _⟩
  have HB := Lib.hid hB
  clear h hB hG
  cases hl : ltInt (G b) (G a)
  · go_enter Try.func69, Try.ntmps69
    go_wp2_with fail
    go_quiet (first | (go_at_call 54; refine Calls.quiet_of_same (less16' _ _ _)))
    rw [hl]
    go_wp2_with fail
    exact bodyPost_ret (v := .tuple #[.int .i64 (a : Int), .int .i64 (b : Int)]) (by simp [results, Try.results69, go_sem]) rfl ⟨a, b, s, rfl, .inl ⟨rfl, rfl⟩, by omega, HB.out.drawn nq⟩
  · go_enter Try.func69, Try.ntmps69
    go_wp2_with fail
    go_quiet (first | (go_at_call 54; refine Calls.quiet_of_same (less16' _ _ _)))
    rw [hl]
    have H2 := Lib.hid (HB.out.drawn nq)
    clear HB hcw
    generalize W.drewN nq = W2 at H2
    have hc := H2.out.cell
    have hf := H2.out.frozen
    go_wp2_with fail
    exact bodyPost_ret (v := .tuple #[.int .i64 (b : Int), .int .i64 (a : Int)]) (by simp [results, Try.results69, go_sem]) rfl ⟨b, a, s + 1, rfl, .inr ⟨rfl, rfl⟩, by omega, H2.out.set _⟩

def Med (w : World) (p a b c s : Nat) (e : Ending) (W' : World) : Prop :=
  ∃ x s' : Nat, e = .returned (.int .i64 (x : Int)) ∧ (x = a ∨ x = b ∨ x = c) ∧ s' ≤ s + 3 ∧ Bx w W' p 3 (.int .i64 (s' : Int))

set_option maxRecDepth 100000 in
set_option maxHeartbeats 1000000 in
theorem median16 {W : World} {g o cap p s : Nat} {d : Array Int} (h : Md W W g o d p s) (a b c : Nat) (ha : a < d.size) (hb : b < d.size) (hc : c < d.size) (hs : s < 900) (hsz : d.size < 1000000) :
    Calls Try.prog 66 #[.slice (some ⟨g, o, none⟩) d.size cap, .int .i64 (a : Int), .int .i64 (b : Int), .int .i64 (c : Int), .pointer (some ⟨p, 0, none⟩)] W (Med W p a b c s) := by
  have H := Lib.hid h
  clear h
  go_enter Try.func66, Try.ntmps66
  go_wp2_with fail
  refine (order16 H.out a b ha hb (by omega) hsz).mono ?_
  rintro e W1 ⟨x1, y1, s1, rfl, hx1, hs1, hb1⟩
  have H1 := Lib.hid (H.out.next hb1)
  clear hb1
  go_wp2_with fail
  refine (order16 H1.out y1 c (by omega) hc (by omega) hsz).mono ?_
  rintro e W2 ⟨x2, y2, s2, rfl, hx2, hs2, hb2⟩
  have H2 := Lib.hid (H1.out.next hb2)
  clear hb2
  go_wp2_with fail
  refine (order16 H2.out x1 x2 (by omega) (by omega) (by omega) hsz).mono ?_
  rintro e W3 ⟨x3, y3, s3, rfl, hx3, hs3, hb3⟩
  have H3 := Lib.hid (H2.out.next hb3)
  clear hb3
  go_wp2_with fail
  go_ret
  exact ⟨y3, s3, rfl, by omega, by omega, H3.out.bx⟩

end Go.Proofs.Ytmibfbbkjejkmaa
