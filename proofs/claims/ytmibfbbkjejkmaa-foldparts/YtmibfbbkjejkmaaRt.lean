/- Walk of Carts of the document. -/
import Derived.Test.YtmibfbbkjejkmaaLw
namespace Go.Proofs.Ytmibfbbkjejkmaa
open Go.RowKit Fold

theorem op3 {w : World} {b off : Nat} {p : O} (h : w.rangeAt b off p.cs) : w.cell? ⟨b, off + 3, none⟩ = some (.int .u16 (p.c : Int)) := h 3 _ rfl
/-- The carts up to a number. -/
structure Upto (l : List O) (last : Int) (ss : List Nat) : Prop where
  up : ss.Pairwise (· < ·)
  mem : ∀ x : Nat, x ∈ ss ↔ (∃ o ∈ l, o.c = x) ∧ (x : Int) ≤ last
  lo : -1 ≤ last
  hi : last < 65536
/-- The next one, among the first k. -/
def Nxt (l : List O) (last : Int) (k : Nat) (z : Int) : Prop := (z = -1 ∧ ∀ o ∈ l.take k, (o.c : Int) ≤ last) ∨ (last < z ∧ (∃ o ∈ l, (o.c : Int) = z) ∧ ∀ o ∈ l.take k, last < (o.c : Int) → z ≤ (o.c : Int))
theorem nxt_skip {l : List O} {last z : Int} {k : Nat} {x : O} (h : Nxt l last k z) (hx : l[k]? = some x) (hs : (x.c : Int) ≤ last ∨ (0 ≤ z ∧ z ≤ (x.c : Int))) : Nxt l last (k + 1) z := by
  have hm : ∀ o, o ∈ l.take (k + 1) → o ∈ l.take k ∨ o = x := fun o ho => by
    rw [List.take_add_one, hx] at ho
    simpa using ho
  rcases h with ⟨h1, h2⟩ | ⟨h1, h2, h3⟩
  · refine .inl ⟨h1, fun o ho => ?_⟩
    rcases hm o ho with ho | rfl
    · exact h2 o ho
    · omega
  · refine .inr ⟨h1, h2, fun o ho hl => ?_⟩
    rcases hm o ho with ho | rfl
    · exact h3 o ho hl
    · omega
theorem nxt_take {l : List O} {last z : Int} {k : Nat} {x : O} (h : Nxt l last k z) (hx : l[k]? = some x) (h1 : last < (x.c : Int)) (h2 : z < 0 ∨ (x.c : Int) < z) : Nxt l last (k + 1) (x.c : Int) := by
  refine .inr ⟨h1, ⟨x, List.mem_of_getElem? hx, rfl⟩, fun o ho hlo => ?_⟩
  rw [List.take_add_one, hx] at ho
  rcases List.mem_append.1 ho with ho | ho
  · rcases h with ⟨h3, h4⟩ | ⟨h3, h4, h5⟩
    · have := h4 o ho; omega
    · have := h5 o ho hlo; omega
  · obtain rfl : o = x := by simpa using ho
    omega
theorem upto_next {l : List O} {last z : Int} {ss : List Nat} (h : Upto l last ss) (hn : Nxt l last l.length z) (hz : 0 ≤ z) : Upto l z (ss ++ [z.toNat]) ∧ last < z := by
  rcases hn with ⟨h1, _⟩ | ⟨h1, ⟨o, ho, ho2⟩, h3⟩
  · omega
  · rw [List.take_of_length_le (Nat.le_refl _)] at h3
    refine ⟨⟨?_, fun x => ?_, by omega, by have := o.hc; omega⟩, h1⟩
    · rw [List.pairwise_append]
      refine ⟨h.up, by simp, fun x hx y hy => ?_⟩
      obtain rfl : y = z.toNat := by simpa using hy
      have := ((h.mem x).1 hx).2
      omega
    · rw [List.mem_append, h.mem]
      constructor
      · rintro (⟨h4, h5⟩ | h4)
        · exact ⟨h4, by omega⟩
        · obtain rfl : x = z.toNat := by simpa using h4
          exact ⟨⟨o, ho, by omega⟩, by omega⟩
      · rintro ⟨⟨p, hp, rfl⟩, h5⟩
        by_cases hl : (p.c : Int) ≤ last
        · exact .inl ⟨⟨p, hp, rfl⟩, hl⟩
        · have := h3 p hp (by omega)
          exact .inr (by simp; omega)
theorem upto_all {l : List O} {last z : Int} {ss : List Nat} (h : Upto l last ss) (hn : Nxt l last l.length z) (hz : z < 0) : ∀ x, x ∈ ss ↔ ∃ o ∈ l, o.c = x := fun x => by
  rw [h.mem]
  have hlo := h.lo
  rcases hn with ⟨_, h2⟩ | ⟨h1, _⟩
  · rw [List.take_of_length_le (Nat.le_refl _)] at h2
    constructor
    · exact fun h => h.1
    · rintro ⟨o, ho, rfl⟩
      exact ⟨⟨o, ho, rfl⟩, h2 o ho⟩
  · omega
theorem upto_le {l : List O} {last : Int} {ss : List Nat} (h : Upto l last ss) : ss.length ≤ 65536 := by
  have h1 : ss.Nodup := List.nodup_iff_pairwise_ne.2 (h.up.imp fun h => by omega)
  have := h1.length_le_of_subset (l₂ := List.range 65536) (fun x hx => List.mem_range.2 (by have := ((h.mem x).1 hx).2; have := h.hi; omega))
  simpa using this

def RtR (w : World) (l : List O) (v u : Value) (W : World) : Prop :=
  ∃ (a : Option Addr) (m cap : Nat) (last : Int) (ss : List Nat), v = .slice a m cap ∧ u = .int .i64 last ∧ -1 ≤ last ∧ last < 65536 ∧ m ≤ 65536 ∧ Hid (Upto l last ss) ∧ Hid (ss.length = m) ∧ Hid (OwnG W 34 1 w.heap.size a m cap (ones ss)) ∧ Hid (Below w.heap.size w W)
def RtR2 (l : List O) (n : Nat) (last : Int) (v u : Value) : Prop :=
  ∃ (k : Nat) (z : Int), v = .int .i64 z ∧ u = .int .i64 (k : Int) ∧ -1 ≤ z ∧ z < 65536 ∧ k ≤ n ∧ Hid (Nxt l last k z)

set_option maxRecDepth 100000 in
set_option maxHeartbeats 2000000 in
theorem refcarts_any {a : Option Addr} {n cap : Nat} {l : List O} {w : World} (hl : OL w a n l) (hn : n < 1000000) : Calls Try.prog 12 #[.slice a n cap] w (NumsP (fun x => ∃ o ∈ l, o.c = x) w) := by
  have HL := Lib.hid hl
  have HLEN := Lib.hid (OL.len' hl)
  clear hl
  go_enter Try.func12, Try.ntmps12
  go_wp2_with fail
  go_loopw [3, 4] (RtR w l) (fun _ u _ => (65536 - numI u).toNat)
  case atStart => exact ⟨none, 0, 0, -1, [], rfl, rfl, by omega, by omega, by omega, Lib.hid ⟨List.Pairwise.nil, fun x => by simp; omega, by omega, by omega⟩, Lib.hid rfl, Lib.hid (ownG_nil _ _ _ _), Lib.hid (Below.refl _ _)⟩
  case round =>
    obtain ⟨a', m, cap', last, ss, rfl, rfl, hl1, hl2, hm, HU, HM, HW, HB⟩ := hrel
    have HLk := Lib.hid (HL.out.below HB.out)
    go_wp2_with fail
    go_loop [5, 6] (RtR2 l n last) (fun _ u => n - (numI u).toNat)
    case atStart => exact ⟨0, -1, rfl, rfl, by omega, by omega, Nat.zero_le _, Lib.hid (.inl ⟨rfl, fun o h => by simp at h⟩)⟩
    case round =>
      obtain ⟨k, z, rfl, rfl, hz1, hz2, hk, HN⟩ := hrel
      by_cases hlt : k < n
      · obtain ⟨b, off, x, rfl, hx, hr⟩ := OL.at HLk.out hlt
        have HX := Lib.hid hx
        have c3 := op3 hr
        have hxc := x.hc
        clear hx hr
        by_cases h1 : last < (x.c : Int)
        · by_cases h2 : z < 0
          · have HN2 := Lib.hid (nxt_take HN.out HX.out h1 (.inl h2))
            go_wp2_with (refine wpList_run rfl (exec_idxO (i := k) rfl rfl rfl rfl hlt) ?_)
            go_round
            case rel => exact ⟨k + 1, _, rfl, by go_num, by omega, by omega, hlt, HN2⟩
            case measure => simp [numI]; omega
          · by_cases h3 : (x.c : Int) < z
            · have HN2 := Lib.hid (nxt_take HN.out HX.out h1 (.inr h3))
              go_wp2_with (refine wpList_run rfl (exec_idxO (i := k) rfl rfl rfl rfl hlt) ?_)
              go_round
              case rel => exact ⟨k + 1, _, rfl, by go_num, by omega, by omega, hlt, HN2⟩
              case measure => simp [numI]; omega
            · have HN2 := Lib.hid (nxt_skip HN.out HX.out (.inr ⟨by omega, by omega⟩))
              go_wp2_with (refine wpList_run rfl (exec_idxO (i := k) rfl rfl rfl rfl hlt) ?_)
              go_round
              case rel => exact ⟨k + 1, _, rfl, by go_num, by omega, by omega, hlt, HN2⟩
              case measure => simp [numI]; omega
        · have HN2 := Lib.hid (nxt_skip HN.out HX.out (.inl (by omega)))
          go_wp2_with (refine wpList_run rfl (exec_idxO (i := k) rfl rfl rfl rfl hlt) ?_)
          go_round
          case rel => exact ⟨k + 1, _, rfl, by go_num, by omega, by omega, hlt, HN2⟩
          case measure => simp [numI]; omega
      · obtain rfl : k = n := by omega
        have HNN : Hid (Nxt l last l.length z) := Lib.hid (by rw [HLEN.out]; exact HN.out)
        by_cases hz : z < 0
        · have HE : Hid (NumsP (fun x => ∃ o ∈ l, o.c = x) w (.returned (.slice a' m cap')) wr) := Lib.hid ⟨a', cap', ss, by rw [HM.out], HU.out.up, upto_all HU.out HNN.out hz, ownU_of (by rw [HM.out]; exact HW.out), HB.out⟩
          go_wp2_with fail
          go_ret
          exact HE.out
        · obtain ⟨y, rfl⟩ := Int.eq_ofNat_of_zero_le (show 0 ≤ z by omega)
          obtain ⟨hun, hly⟩ := upto_next HU.out HNN.out (by omega)
          have HUN := Lib.hid hun
          clear hun
          go_wp2_with (at_builtin; refine wpList_appendG 28 34 1 2 info34 und28 rfl (by decide) (by decide) rfl rfl rfl rfl (HW.out.below (below_one wr _)) (Blk.new wr 34 #[encK y]) rfl (by simp [Value.oneCell']) (by omega) (by have := HB.out.size; simp; omega) ?_; intro a3 cap3 w3 ho3 hk3 hl3)
          have HW3 : Hid (OwnG w3 34 1 w.heap.size a3 (m + 1) cap3 (ones (ss ++ [(y : Int).toNat]))) := Lib.hid (by simpa [ones] using ho3)
          have HB3 : Hid (Below w.heap.size w w3) := Lib.hid ((HB.out.trans ((below_one wr (.cells #[encK y] 34)).mono HB.out.size)).trans (hk3.below (by have := HB.out.size; simp; omega) (fun j ⟨ad, had, e⟩ => by rw [e]; exact (HW.out.lt ad had).1)))
          have HM3 : Hid ((ss ++ [(y : Int).toNat]).length = m + 1) := Lib.hid (by simp [HM.out])
          have hm3 : m + 1 ≤ 65536 := by have := upto_le HUN.out; rw [HM3.out] at this; exact this
          clear ho3 hk3 hl3
          go_roundw
          case rel => exact ⟨a3, m + 1, cap3, (y : Int), _, rfl, rfl, by omega, by omega, hm3, HUN, HM3, HW3, HB3⟩
          case measure => simp [numI]; omega

end Go.Proofs.Ytmibfbbkjejkmaa
