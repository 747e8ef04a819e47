/- Walks of Put, the program's and the document's: both answer a new slice with the number's bytes. -/
import Derived.Test.YtcgbkfnjohbglaaDoorRow
namespace Go.Proofs.YtcgbkfnjohbglaaDoor
open Go.RowKit

def tenZeros : Array Value := #[.int .u8 0, .int .u8 0, .int .u8 0, .int .u8 0, .int .u8 0, .int .u8 0, .int .u8 0, .int .u8 0, .int .u8 0, .int .u8 0]

theorem run_ten (w : World) : (Instr.makeSlice 48 (.int .i64 0) (.int .i64 10)).run Tryd.prog w = .ok (.slice (some ⟨w.heap.size, 0, none⟩) 0 10) (w.alloc (.cells tenZeros 5)) := by kernel_rfl

theorem or_top (x : Nat) : bits .or .u8 ((x : Int) % 256) 128 = ((x % 128 + 128 : Nat) : Int) := by
  have h := u8_or_nat 128 (x % 128) (by omega) (by omega)
  rw [nat_join 7 128 (x % 128) (by omega) (by omega)] at h
  have h2 := u8_or_nat (x % 256) 128 (by omega) (by omega)
  have e : x % 256 ||| 128 = x % 128 + 128 := by
    by_cases hb : x % 256 < 128
    · rw [Nat.or_comm, nat_join 7 128 (x % 256) (by omega) (by omega)]; omega
    · have e1 : x % 256 = 128 ||| (x % 128) := by rw [nat_join 7 128 (x % 128) (by omega) (by omega)]; omega
      rw [e1, Nat.or_comm, ← Nat.or_assoc, Nat.or_self, ← e1]; omega
  rw [e] at h2
  have e3 : ((x % 256 : Nat) : Int) = (x : Int) % 256 := by omega
  rw [e3] at h2
  exact h2

set_option maxHeartbeats 1000000 in
set_option maxRecDepth 100000 in
theorem put_core (n : Nat) (l : List Nat) (w : World) (h : Hid (n < 18446744073709551616)) (hl : Hid (Vint.enc n = l)) :
    Calls Tryd.prog 38 #[.int .u64 (n : Int)] w (Made l w) := by
  obtain ⟨i0, hii, hz0, hz1, hz2⟩ := info_parts info5
  have Hi := Lib.hid hii
  have Hz0 := Lib.hid hz0
  have Hz1 := Lib.hid hz1
  have Hz2 := Lib.hid hz2
  clear hii hz0 hz1 hz2
  have hmk := run_ten w
  go_enter Tryd.func38, Tryd.ntmps38
  go_wp2_with fail
  clear hmk
  go_loopw [0, 3] (fun v s wr => ∃ (k x : Nat) (pre : List Nat), k ≤ 9 ∧ v = .int .u64 (x : Int) ∧ Hid (x < 18446744073709551616) ∧ Hid (l = pre ++ Vint.enc x) ∧ Hid (pre.length = k) ∧ Hid (wr.ownsRow w.heap.size 5 1 s k (cellsOf pre)) ∧ Hid (Below w.heap.size w wr)) (fun v _ _ => (intOf v).toNat)
  case atStart => exact ⟨0, n, [], by omega, rfl, h, Lib.hid (by rw [hl.out]; rfl), Lib.hid rfl, Lib.hid (World.ownsRow_made w tenZeros 10 (Nat.le_refl _) (by decide) rfl), Lib.hid ((Below.refl _ _).alloc (Nat.le_refl _) _)⟩
  case round =>
    obtain ⟨k, x, pre, hk, rfl, hx, HL, HP, hown, hbel⟩ := hrel
    have hbs := hbel.out.size
    have hll : Hid (l.length ≤ 10) := Lib.hid (by rw [← hl.out]; exact Vint.enc_ten h.out)
    by_cases hlt : 128 ≤ x
    · have hk8 : k + 1 ≤ 9 := by
        have h1 := congrArg List.length HL.out
        rw [List.length_append, HP.out] at h1
        have h2 := Vint.enc_two hlt
        have h3 := hll.out
        omega
      have ho := or_top x
      have HN : Hid (l = (pre ++ [x % 128 + 128]) ++ Vint.enc (x / 128)) := Lib.hid (by
        rw [HL.out, Vint.enc_big hlt, List.append_assoc]; rfl)
      have hq : x % 128 + 128 < 256 := by omega
      have hq2 : x / 128 < x := by omega
      generalize x % 128 + 128 = q at ho HN hq
      clear HL
      go_wp2_with (at_builtin; refine wpList_append_lies _ rfl _ _ 48 rfl w.heap.size 5 i0 (.int .u8 0) 1 1 Tryd.underlying48 Hi.out Hz0.out Hz1.out Hz2.out rfl (by omega) u3 k (cellsOf pre) rfl (hown.out.alloc _) ⟨wr.heap.size, 0, none⟩ 1 1 [.int .u8 (q : Int)] rfl rfl (World.news_of_block (cs := #[.int .u8 (q : Int)]) (t := 5) (fr := (0, 0)) (heap_alloc_new wr _)) (by simp [Value.oneCell']) (by omega) (by unfold maxLen; omega) (by omega) (by simp; omega) (wr.heap.size + 1) (by simp) ?_; intro g cp w2 hown2 hgrow hat2 hlt2; have HO := Lib.hid hown2; have HG := Lib.hid hgrow; clear hown2 hgrow hat2 hlt2)
      go_roundw
      case rel => exact ⟨k + 1, x / 128, pre ++ [q], hk8, by go_num, Lib.hid (by have := hx.out; omega), HN, Lib.hid (by rw [List.length_append, HP.out]; rfl), Lib.hid (by rw [cellsOf_append]; exact HO.out), Lib.hid ((hbel.out.alloc hbs _).grown HG.out (by simp; omega) (fun j hj => (hown.out.lt j hj).1))⟩
      case measure => simp [intOf]; omega
    · have HN : Hid (l = pre ++ [x]) := Lib.hid (by
        rw [HL.out, Vint.enc_small (by omega)])
      clear HL
      go_wp2_with (at_builtin; refine wpList_append_lies _ rfl _ _ 48 rfl w.heap.size 5 i0 (.int .u8 0) 1 1 Tryd.underlying48 Hi.out Hz0.out Hz1.out Hz2.out rfl (by omega) u3 k (cellsOf pre) rfl (hown.out.alloc _) ⟨wr.heap.size, 0, none⟩ 1 1 [.int .u8 (x : Int)] rfl rfl (World.news_of_block (cs := #[.int .u8 (x : Int)]) (t := 5) (fr := (0, 0)) (heap_alloc_new wr _)) (by simp [Value.oneCell']) (by omega) (by unfold maxLen; omega) (by omega) (by simp; omega) (wr.heap.size + 1) (by simp) ?_; intro g cp w2 hown2 hgrow hat2 hlt2; have HO := Lib.hid hown2; have HG := Lib.hid hgrow; clear hown2 hgrow hat2 hlt2)
      go_ret
      have hlen : l.length = k + 1 := by rw [HN.out, List.length_append, HP.out]; rfl
      refine ⟨g, cp, by rw [hlen]; rfl, by rw [hlen, HN.out, cellsOf_append]; exact HO.out, (hbel.out.alloc hbs _).grown HG.out (by simp; omega) (fun j hj => (hown.out.lt j hj).1)⟩

theorem put_any (n : Nat) (w : World) (h : n < 18446744073709551616) : Calls Tryd.prog 38 #[.int .u64 (n : Int)] w (Made (Vint.enc n) w) :=
  put_core n _ w (Lib.hid h) (Lib.hid rfl)

set_option maxHeartbeats 1000000 in
set_option maxRecDepth 100000 in
theorem rput_core (n : Nat) (l : List Nat) (w : World) (h : Hid (n < 18446744073709551616)) (hl : Hid (Vint.enc n = l)) :
    Calls Tryd.prog 54 #[.int .u64 (n : Int)] w (Made l w) := by
  obtain ⟨i0, hii, hz0, hz1, hz2⟩ := info_parts info5
  have Hi := Lib.hid hii
  have Hz0 := Lib.hid hz0
  have Hz1 := Lib.hid hz1
  have Hz2 := Lib.hid hz2
  clear hii hz0 hz1 hz2
  go_enter Tryd.func54, Tryd.ntmps54
  go_wp2_with fail
  go_loopw [0, 3] (fun v s wr => ∃ (k x : Nat) (pre : List Nat), k ≤ 9 ∧ v = .int .u64 (x : Int) ∧ Hid (x < 18446744073709551616) ∧ Hid (l = pre ++ Vint.enc x) ∧ Hid (pre.length = k) ∧ Hid (wr.ownsRow w.heap.size 5 1 s k (cellsOf pre)) ∧ Hid (Below w.heap.size w wr)) (fun v _ _ => (intOf v).toNat)
  case atStart => exact ⟨0, n, [], by omega, rfl, h, Lib.hid (by rw [hl.out]; rfl), Lib.hid rfl, Lib.hid (World.ownsRow_nil _ _ _ _), Lib.hid (Below.refl _ _)⟩
  case round =>
    obtain ⟨k, x, pre, hk, rfl, hx, HL, HP, hown, hbel⟩ := hrel
    have hbs := hbel.out.size
    have hll : Hid (l.length ≤ 10) := Lib.hid (by rw [← hl.out]; exact Vint.enc_ten h.out)
    by_cases hlt : 128 ≤ x
    · have hk8 : k + 1 ≤ 9 := by
        have h1 := congrArg List.length HL.out
        rw [List.length_append, HP.out] at h1
        have h2 := Vint.enc_two hlt
        have h3 := hll.out
        omega
      have ho : (x : Int) % 128 + 128 = ((x % 128 + 128 : Nat) : Int) := by omega
      have HN : Hid (l = (pre ++ [x % 128 + 128]) ++ Vint.enc (x / 128)) := Lib.hid (by
        rw [HL.out, Vint.enc_big hlt, List.append_assoc]; rfl)
      have HW : Hid (IntKind.u64.wrap ((x : Int) / 128) = (x : Int) / 128) := Lib.hid (by have := hx.out; rw [IntKind.wrap_u64]; omega)
      have hq : x % 128 + 128 < 256 := by omega
      have hq2 : x / 128 < x := by omega
      generalize x % 128 + 128 = q at ho HN hq
      clear HL
      go_wp2_with (at_builtin; refine wpList_append_lies _ rfl _ _ 48 rfl w.heap.size 5 i0 (.int .u8 0) 1 1 Tryd.underlying48 Hi.out Hz0.out Hz1.out Hz2.out rfl (by omega) u3 k (cellsOf pre) rfl (hown.out.alloc _) ⟨wr.heap.size, 0, none⟩ 1 1 [.int .u8 (q : Int)] rfl rfl (World.news_of_block (cs := #[.int .u8 (q : Int)]) (t := 5) (fr := (0, 0)) (heap_alloc_new wr _)) (by simp [Value.oneCell']) (by omega) (by unfold maxLen; omega) (by omega) (by simp; omega) (wr.heap.size + 1) (by simp) ?_; intro g cp w2 hown2 hgrow hat2 hlt2; have HO := Lib.hid hown2; have HG := Lib.hid hgrow; clear hown2 hgrow hat2 hlt2)
      go_roundw
      case rel => exact ⟨k + 1, x / 128, pre ++ [q], hk8, by rw [HW.out]; go_num, Lib.hid (by have := hx.out; omega), HN, Lib.hid (by rw [List.length_append, HP.out]; rfl), Lib.hid (by rw [cellsOf_append]; exact HO.out), Lib.hid ((hbel.out.alloc hbs _).grown HG.out (by simp; omega) (fun j hj => (hown.out.lt j hj).1))⟩
      case measure => simp only [intOf]; rw [HW.out]; omega
    · have HN : Hid (l = pre ++ [x]) := Lib.hid (by
        rw [HL.out, Vint.enc_small (by omega)])
      clear HL
      go_wp2_with (at_builtin; refine wpList_append_lies _ rfl _ _ 48 rfl w.heap.size 5 i0 (.int .u8 0) 1 1 Tryd.underlying48 Hi.out Hz0.out Hz1.out Hz2.out rfl (by omega) u3 k (cellsOf pre) rfl (hown.out.alloc _) ⟨wr.heap.size, 0, none⟩ 1 1 [.int .u8 (x : Int)] rfl rfl (World.news_of_block (cs := #[.int .u8 (x : Int)]) (t := 5) (fr := (0, 0)) (heap_alloc_new wr _)) (by simp [Value.oneCell']) (by omega) (by unfold maxLen; omega) (by omega) (by simp; omega) (wr.heap.size + 1) (by simp) ?_; intro g cp w2 hown2 hgrow hat2 hlt2; have HO := Lib.hid hown2; have HG := Lib.hid hgrow; clear hown2 hgrow hat2 hlt2)
      go_ret
      have hlen : l.length = k + 1 := by rw [HN.out, List.length_append, HP.out]; rfl
      refine ⟨g, cp, by rw [hlen]; rfl, by rw [hlen, HN.out, cellsOf_append]; exact HO.out, (hbel.out.alloc hbs _).grown HG.out (by simp; omega) (fun j hj => (hown.out.lt j hj).1)⟩

theorem rput_any (n : Nat) (w : World) (h : n < 18446744073709551616) : Calls Tryd.prog 54 #[.int .u64 (n : Int)] w (Made (Vint.enc n) w) :=
  rput_core n _ w (Lib.hid h) (Lib.hid rfl)
end Go.Proofs.YtcgbkfnjohbglaaDoor
