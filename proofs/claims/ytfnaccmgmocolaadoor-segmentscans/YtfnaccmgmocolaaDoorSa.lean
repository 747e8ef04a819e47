/- Walks of the program's Head, Record and Foot: the frame of a kind's number and of what a function that is handed over writes behind it. -/
import Derived.Test.YtfnaccmgmocolaaDoorSg
import Derived.Test.YtfnaccmgmocolaaDoorFs
namespace Go.Proofs.YtfnaccmgmocolaaDoor
open Go.RowKit

/-- What a function that writes behind other fields leaves. -/
def Wrote0 (p : Nat) (a : Option Addr) (bs l : List Nat) (w : World) (e : Ending) (w' : World) : Prop :=
  ∃ a' len' cap', e = .returned (.tuple #[]) ∧ Wr w' p 0 a' len' cap' (bs ++ l) ∧ Kept (Wat p a) w w' ∧ Lies w a a'
theorem wrote_ok {p : Nat} {a : Option Addr} {bs l : List Nat} {w : World} {e : Ending} {w' : World} (hl : bs.length + l.length ≤ 65536) (h : Wrote p 0 a bs l w e w') :
    ∃ a' len' cap', e = .returned (.int .i64 0) ∧ Wr w' p 0 a' len' cap' (bs ++ l) ∧ Kept (Wat p a) w w' ∧ Lies w a a' := by
  obtain ⟨a', len', cap', rfl, hw, hk, hli⟩ := h
  have e1 : layE 0 bs.length l.length = 0 := by unfold layE; rw [if_pos rfl, if_neg (by omega)]
  have e2 : layB 0 bs l = bs ++ l := by unfold layB; rw [if_pos ⟨rfl, hl⟩]
  rw [e1, e2] at hw
  rw [e1]
  exact ⟨a', len', cap', rfl, hw, hk, hli⟩

set_option maxHeartbeats 1000000 in
theorem rec1_any (c p : Nat) (a : Option Addr) (len cap : Nat) (bs : List Nat) (b : Option Addr) (m d : Nat) (y : List Nat) (w : World) (hm : m ≤ 1000) (hb : bs.length ≤ 1000) (hc : w.cell? ⟨c, 0, none⟩ = some (.slice b m d)) (h : Wr w p 0 a len cap bs) (hR : Row w b m y) (hz : b = none → m = 0 ∧ d = 0) (hn : ∀ ad, b = some ad → m ≠ 0 → ¬ Wat p a ad.block) :
    Calls Tryd.prog 24 #[.pointer (some ⟨p, 0, none⟩), .pointer (some ⟨c, 0, none⟩)] w (Wrote0 p a bs (Vint.enc m ++ y) w) := by
  have HL : Hid (bs.length + (Vint.enc m ++ y).length ≤ 65536) := Lib.hid (by have := Vint.enc_ten (n := m) (by omega); have := hR.size; rw [List.length_append]; omega)
  have H := Lib.hid (wbytes_any p 0 a len cap bs b m d y w (by omega) h hR hz hn)
  clear h hR hz hn
  generalize Vint.enc m ++ y = l at HL H
  go_enter Tryd.func24, Tryd.ntmps24
  go_wp2_with fail
  refine H.out.mono ?_
  intro e w' hq
  obtain ⟨a', len', cap', rfl, hw, hk, hli⟩ := wrote_ok HL.out hq
  have HW := Lib.hid hw
  have HK := Lib.hid hk
  have HI := Lib.hid hli
  clear hw hk hli hq H hc
  go_wp2_with fail
  exact bodyPost_ret (results_none rfl _ _ _) rfl ⟨a', len', cap', rfl, HW.out, HK.out, HI.out⟩

set_option maxHeartbeats 1000000 in
theorem foot1_any (c p : Nat) (a : Option Addr) (len cap : Nat) (bs : List Nat) (n : Nat) (w : World) (hn : n < 4294967296) (hb : bs.length ≤ 1000) (hc : w.cell? ⟨c, 0, none⟩ = some (.int .i64 (n : Int))) (h : Wr w p 0 a len cap bs) :
    Calls Tryd.prog 28 #[.pointer (some ⟨p, 0, none⟩), .pointer (some ⟨c, 0, none⟩)] w (Wrote0 p a bs (Vint.enc n) w) := by
  have HL : Hid (bs.length + (Vint.enc n).length ≤ 65536) := Lib.hid (by have := Vint.enc_ten (n := n) (by omega); omega)
  have H := Lib.hid (wnum_any p 0 a len cap bs n w (by omega) h)
  clear h
  generalize Vint.enc n = l at HL H
  go_enter Tryd.func28, Tryd.ntmps28
  go_wp2_with fail
  refine H.out.mono ?_
  intro e w' hq
  obtain ⟨a', len', cap', rfl, hw, hk, hli⟩ := wrote_ok HL.out hq
  have HW := Lib.hid hw
  have HK := Lib.hid hk
  have HI := Lib.hid hli
  clear hw hk hli hq H hc
  go_wp2_with fail
  exact bodyPost_ret (results_none rfl _ _ _) rfl ⟨a', len', cap', rfl, HW.out, HK.out, HI.out⟩

set_option maxHeartbeats 1000000 in
theorem head1_any (c p : Nat) (a : Option Addr) (len cap : Nat) (bs : List Nat) (n : Nat) (w : World) (hn : n < 4294967296) (hb : bs.length ≤ 1000) (hc : w.cell? ⟨c, 0, none⟩ = some (.int .u32 (n : Int))) (h : Wr w p 0 a len cap bs) :
    Calls Tryd.prog 31 #[.pointer (some ⟨p, 0, none⟩), .pointer (some ⟨c, 0, none⟩)] w (Wrote0 p a bs (Vint.enc n) w) := by
  have HL : Hid (bs.length + (Vint.enc n).length ≤ 65536) := Lib.hid (by have := Vint.enc_ten (n := n) (by omega); omega)
  have H := Lib.hid (wnum_any p 0 a len cap bs n w (by omega) h)
  clear h
  generalize Vint.enc n = l at HL H
  go_enter Tryd.func31, Tryd.ntmps31
  go_wp2_with fail
  refine H.out.mono ?_
  intro e w' hq
  obtain ⟨a', len', cap', rfl, hw, hk, hli⟩ := wrote_ok HL.out hq
  have HW := Lib.hid hw
  have HK := Lib.hid hk
  have HI := Lib.hid hli
  clear hw hk hli hq H hc
  go_wp2_with fail
  exact bodyPost_ret (results_none rfl _ _ _) rfl ⟨a', len', cap', rfl, HW.out, HK.out, HI.out⟩

set_option maxHeartbeats 1000000 in
theorem recF_any (c k : Nat) (l : List Nat) (w : World) (hT : Tab w) (hk : k < 100) (hl : l.length ≤ 1000) (hs : ∀ x ∈ l, x < 256)
    (HW : Hid (∀ (p : Nat) (a : Option Addr) (len cap : Nat) (W : World), Below w.heap.size w W → w.heap.size ≤ p → (∀ i, Wat p a i → w.heap.size ≤ i) → Wr W p 0 a len cap (Vint.enc k) → Calls Tryd.prog 24 #[.pointer (some ⟨p, 0, none⟩), .pointer (some ⟨c, 0, none⟩)] W (Wrote0 p a (Vint.enc k) l W))) :
    Calls Tryd.prog 23 #[.int .u64 (k : Int), .func (.func 24) #[] #[.pointer (some ⟨c, 0, none⟩)]] w (WrapP (Vint.enc k ++ l) w) := by
  have HT := Lib.hid hT
  have HS := Lib.hid hs
  have hk10 := Vint.enc_ten (n := k) (by omega)
  have HKS := Lib.hid (Vint.enc_lt k)
  clear hT hs
  go_enter Tryd.func23, Tryd.ntmps23
  go_wp2_with fail
  refine (new_any w).mono ?_
  rintro e w1 ⟨rfl, hw1, hb1⟩
  have HN := Lib.hid (wnum_any w.heap.size 0 none 0 0 [] k w1 (by omega) hw1)
  have HB1 := Lib.hid hb1
  clear hw1 hb1
  go_wp2_with fail
  refine HN.out.mono ?_
  intro e w2 hq
  obtain ⟨a2, len2, cap2, rfl, hw2, hk2, hli2⟩ := wrote_ok (by simp; omega) hq
  rw [List.nil_append] at hw2
  have hb2 : Below w.heap.size w w2 := HB1.out.trans (hk2.below HB1.out.size (fun i hi => by
    rcases hi with rfl | ⟨ad, h1, _⟩
    · exact Nat.le_refl _
    · cases h1))
  have HA2 : Hid (∀ i, Wat w.heap.size a2 i → w.heap.size ≤ i) := Lib.hid (fun i hi => (hw2.at_lt i hi).1)
  have HB2 := Lib.hid hb2
  have HC := Lib.hid (HW.out w.heap.size a2 len2 cap2 w2 hb2 (Nat.le_refl _) HA2.out hw2)
  clear hw2 hk2 hli2 hq hb2 HN HB1
  go_wp2_with (go_at_call 24; refine HC.out.mono ?_; rintro e w3 ⟨a3, len3, cap3, rfl, hw3, hk3, hli3⟩; have HW3 := Lib.hid hw3; have HK3 := Lib.hid hk3; clear hw3 hk3 hli3)
  have HB3 := Lib.hid (HB2.out.trans (HK3.out.below HB2.out.size HA2.out))
  have HA := Lib.hid (all_any w.heap.size 0 a3 len3 cap3 _ w3 HW3.out)
  clear HW3 HK3 HC HA2 HB2
  go_wp2_with fail
  refine HA.out.mono ?_
  rintro e w4 ⟨a4, len4, cap4, rfl, ho, hb4⟩
  rw [if_pos rfl] at ho
  have hlen := ho.len
  rw [List.length_append] at hlen
  have HR := Lib.hid (wrap_any a4 len4 cap4 _ w4 (HT.out.below (HB3.out.trans (hb4.mono HB3.out.size))) (ho.row (fun x hx => by
    rcases List.mem_append.1 hx with hx | hx
    · exact HKS.out x hx
    · exact HS.out x hx)) ho.cap.2.2 (by omega))
  have HB4 := Lib.hid (HB3.out.trans (hb4.mono HB3.out.size))
  clear ho hb4 hlen HA HB3
  go_wp2_with fail
  refine HR.out.mono ?_
  rintro e w5 ⟨a5, cap5, rfl, ho5, hb5⟩
  have HO5 := Lib.hid (ho5.mono HB4.out.size)
  have HB5 := Lib.hid (HB4.out.trans (hb5.mono HB4.out.size))
  clear ho5 hb5 HR
  go_wp2_with fail
  go_ret2
  exact ⟨a5, cap5, rfl, HO5.out, HB5.out⟩

set_option maxHeartbeats 1000000 in
theorem footF_any (c k : Nat) (l : List Nat) (w : World) (hT : Tab w) (hk : k < 100) (hl : l.length ≤ 1000) (hs : ∀ x ∈ l, x < 256)
    (HW : Hid (∀ (p : Nat) (a : Option Addr) (len cap : Nat) (W : World), Below w.heap.size w W → w.heap.size ≤ p → (∀ i, Wat p a i → w.heap.size ≤ i) → Wr W p 0 a len cap (Vint.enc k) → Calls Tryd.prog 28 #[.pointer (some ⟨p, 0, none⟩), .pointer (some ⟨c, 0, none⟩)] W (Wrote0 p a (Vint.enc k) l W))) :
    Calls Tryd.prog 23 #[.int .u64 (k : Int), .func (.func 28) #[] #[.pointer (some ⟨c, 0, none⟩)]] w (WrapP (Vint.enc k ++ l) w) := by
  have HT := Lib.hid hT
  have HS := Lib.hid hs
  have hk10 := Vint.enc_ten (n := k) (by omega)
  have HKS := Lib.hid (Vint.enc_lt k)
  clear hT hs
  go_enter Tryd.func23, Tryd.ntmps23
  go_wp2_with fail
  refine (new_any w).mono ?_
  rintro e w1 ⟨rfl, hw1, hb1⟩
  have HN := Lib.hid (wnum_any w.heap.size 0 none 0 0 [] k w1 (by omega) hw1)
  have HB1 := Lib.hid hb1
  clear hw1 hb1
  go_wp2_with fail
  refine HN.out.mono ?_
  intro e w2 hq
  obtain ⟨a2, len2, cap2, rfl, hw2, hk2, hli2⟩ := wrote_ok (by simp; omega) hq
  rw [List.nil_append] at hw2
  have hb2 : Below w.heap.size w w2 := HB1.out.trans (hk2.below HB1.out.size (fun i hi => by
    rcases hi with rfl | ⟨ad, h1, _⟩
    · exact Nat.le_refl _
    · cases h1))
  have HA2 : Hid (∀ i, Wat w.heap.size a2 i → w.heap.size ≤ i) := Lib.hid (fun i hi => (hw2.at_lt i hi).1)
  have HB2 := Lib.hid hb2
  have HC := Lib.hid (HW.out w.heap.size a2 len2 cap2 w2 hb2 (Nat.le_refl _) HA2.out hw2)
  clear hw2 hk2 hli2 hq hb2 HN HB1
  go_wp2_with (go_at_call 28; refine HC.out.mono ?_; rintro e w3 ⟨a3, len3, cap3, rfl, hw3, hk3, hli3⟩; have HW3 := Lib.hid hw3; have HK3 := Lib.hid hk3; clear hw3 hk3 hli3)
  have HB3 := Lib.hid (HB2.out.trans (HK3.out.below HB2.out.size HA2.out))
  have HA := Lib.hid (all_any w.heap.size 0 a3 len3 cap3 _ w3 HW3.out)
  clear HW3 HK3 HC HA2 HB2
  go_wp2_with fail
  refine HA.out.mono ?_
  rintro e w4 ⟨a4, len4, cap4, rfl, ho, hb4⟩
  rw [if_pos rfl] at ho
  have hlen := ho.len
  rw [List.length_append] at hlen
  have HR := Lib.hid (wrap_any a4 len4 cap4 _ w4 (HT.out.below (HB3.out.trans (hb4.mono HB3.out.size))) (ho.row (fun x hx => by
    rcases List.mem_append.1 hx with hx | hx
    · exact HKS.out x hx
    · exact HS.out x hx)) ho.cap.2.2 (by omega))
  have HB4 := Lib.hid (HB3.out.trans (hb4.mono HB3.out.size))
  clear ho hb4 hlen HA HB3
  go_wp2_with fail
  refine HR.out.mono ?_
  rintro e w5 ⟨a5, cap5, rfl, ho5, hb5⟩
  have HO5 := Lib.hid (ho5.mono HB4.out.size)
  have HB5 := Lib.hid (HB4.out.trans (hb5.mono HB4.out.size))
  clear ho5 hb5 HR
  go_wp2_with fail
  go_ret2
  exact ⟨a5, cap5, rfl, HO5.out, HB5.out⟩

set_option maxHeartbeats 1000000 in
theorem headF_any (c k : Nat) (l : List Nat) (w : World) (hT : Tab w) (hk : k < 100) (hl : l.length ≤ 1000) (hs : ∀ x ∈ l, x < 256)
    (HW : Hid (∀ (p : Nat) (a : Option Addr) (len cap : Nat) (W : World), Below w.heap.size w W → w.heap.size ≤ p → (∀ i, Wat p a i → w.heap.size ≤ i) → Wr W p 0 a len cap (Vint.enc k) → Calls Tryd.prog 31 #[.pointer (some ⟨p, 0, none⟩), .pointer (some ⟨c, 0, none⟩)] W (Wrote0 p a (Vint.enc k) l W))) :
    Calls Tryd.prog 23 #[.int .u64 (k : Int), .func (.func 31) #[] #[.pointer (some ⟨c, 0, none⟩)]] w (WrapP (Vint.enc k ++ l) w) := by
  have HT := Lib.hid hT
  have HS := Lib.hid hs
  have hk10 := Vint.enc_ten (n := k) (by omega)
  have HKS := Lib.hid (Vint.enc_lt k)
  clear hT hs
  go_enter Tryd.func23, Tryd.ntmps23
  go_wp2_with fail
  refine (new_any w).mono ?_
  rintro e w1 ⟨rfl, hw1, hb1⟩
  have HN := Lib.hid (wnum_any w.heap.size 0 none 0 0 [] k w1 (by omega) hw1)
  have HB1 := Lib.hid hb1
  clear hw1 hb1
  go_wp2_with fail
  refine HN.out.mono ?_
  intro e w2 hq
  obtain ⟨a2, len2, cap2, rfl, hw2, hk2, hli2⟩ := wrote_ok (by simp; omega) hq
  rw [List.nil_append] at hw2
  have hb2 : Below w.heap.size w w2 := HB1.out.trans (hk2.below HB1.out.size (fun i hi => by
    rcases hi with rfl | ⟨ad, h1, _⟩
    · exact Nat.le_refl _
    · cases h1))
  have HA2 : Hid (∀ i, Wat w.heap.size a2 i → w.heap.size ≤ i) := Lib.hid (fun i hi => (hw2.at_lt i hi).1)
  have HB2 := Lib.hid hb2
  have HC := Lib.hid (HW.out w.heap.size a2 len2 cap2 w2 hb2 (Nat.le_refl _) HA2.out hw2)
  clear hw2 hk2 hli2 hq hb2 HN HB1
  go_wp2_with (go_at_call 31; refine HC.out.mono ?_; rintro e w3 ⟨a3, len3, cap3, rfl, hw3, hk3, hli3⟩; have HW3 := Lib.hid hw3; have HK3 := Lib.hid hk3; clear hw3 hk3 hli3)
  have HB3 := Lib.hid (HB2.out.trans (HK3.out.below HB2.out.size HA2.out))
  have HA := Lib.hid (all_any w.heap.size 0 a3 len3 cap3 _ w3 HW3.out)
  clear HW3 HK3 HC HA2 HB2
  go_wp2_with fail
  refine HA.out.mono ?_
  rintro e w4 ⟨a4, len4, cap4, rfl, ho, hb4⟩
  rw [if_pos rfl] at ho
  have hlen := ho.len
  rw [List.length_append] at hlen
  have HR := Lib.hid (wrap_any a4 len4 cap4 _ w4 (HT.out.below (HB3.out.trans (hb4.mono HB3.out.size))) (ho.row (fun x hx => by
    rcases List.mem_append.1 hx with hx | hx
    · exact HKS.out x hx
    · exact HS.out x hx)) ho.cap.2.2 (by omega))
  have HB4 := Lib.hid (HB3.out.trans (hb4.mono HB3.out.size))
  clear ho hb4 hlen HA HB3
  go_wp2_with fail
  refine HR.out.mono ?_
  rintro e w5 ⟨a5, cap5, rfl, ho5, hb5⟩
  have HO5 := Lib.hid (ho5.mono HB4.out.size)
  have HB5 := Lib.hid (HB4.out.trans (hb5.mono HB4.out.size))
  clear ho5 hb5 HR
  go_wp2_with fail
  go_ret2
  exact ⟨a5, cap5, rfl, HO5.out, HB5.out⟩

/-- The frames that a segment is made of. -/
def FrameP (bs : List Nat) (w : World) (e : Ending) (w' : World) : Prop :=
  ∃ a cap, e = .returned (.slice a bs.length cap) ∧ Own w' w.heap.size a bs.length cap bs ∧ Below w.heap.size w w'

set_option maxHeartbeats 1000000 in
theorem head_any (id : Nat) (w : World) (hT : Tab w) (hid : id < 4294967296) : Calls Tryd.prog 14 #[.int .u32 (id : Int)] w (Fresh (Seg.headB id) w) := by
  have hal : Below w.heap.size w (w.alloc (.cells #[.int .u32 (id : Int)] 22)) := (Below.refl _ _).alloc (Nat.le_refl _) _
  have hblk := Blk.new w 22 #[.int .u32 (id : Int)]
  have HAL := Lib.hid hal
  have HC := Lib.hid (headF_any w.heap.size 1 (Vint.enc id) (w.alloc (.cells #[.int .u32 (id : Int)] 22)) (hT.below hal) (by omega) (by have := Vint.enc_ten (n := id) (by omega); omega) (Vint.enc_lt id)
    (Lib.hid (fun p a len cap W hb _ _ hw => head1_any w.heap.size p a len cap _ id W hid (by have := Vint.enc_ten (n := 1) (by omega); omega) (by rw [(hblk.below hb).cell]; rfl) hw)))
  clear hT hal hblk
  go_enter Tryd.func14, Tryd.ntmps14
  go_wp2_with fail
  refine HC.out.mono ?_
  rintro e w1 ⟨a1, cap1, rfl, ho, hb⟩
  have HO := Lib.hid (ho.mono HAL.out.size)
  have HB := Lib.hid (HAL.out.trans (hb.mono HAL.out.size))
  clear ho hb HC
  go_wp2_with fail
  go_ret
  exact ⟨a1, cap1, rfl, HO.out, HB.out⟩

/-- What Foot answers. -/
def FootP (n : Int) (w : World) (e : Ending) (w' : World) : Prop :=
  ∃ a len cap, e = .returned (.tuple #[.slice a len cap, .int .i64 (if n < 0 ∨ 4096 < n then 2 else 0)]) ∧ Own w' w.heap.size a len cap (if n < 0 ∨ 4096 < n then [] else Seg.footB n.toNat) ∧ Below w.heap.size w w'

theorem footP_no {n : Int} {w w' : World} (h : n < 0 ∨ 4096 < n) (hb : Below w.heap.size w w') : FootP n w (.returned (.tuple #[.slice none 0 0, .int .i64 2])) w' :=
  ⟨none, 0, 0, by rw [if_pos h], by rw [if_pos h]; exact own_nil _ _, hb⟩

set_option maxHeartbeats 1000000 in
theorem foot_no (n : Int) (w : World) (h : n < 0 ∨ 4096 < n) : Calls Tryd.prog 12 #[.int .i64 n] w (FootP n w) := by
  have hal : Below w.heap.size w (w.alloc (.cells #[.int .i64 n] 3)) := (Below.refl _ _).alloc (Nat.le_refl _) _
  have HAL := Lib.hid hal
  clear hal
  by_cases h0 : n < 0
  · have HH := Lib.hid h
    clear h
    go_enter Tryd.func12, Tryd.ntmps12
    go_wp2_with fail
    go_ret2
    exact footP_no HH.out HAL.out
  · have h1 : 4096 < n := h.resolve_left h0
    have HH := Lib.hid h
    clear h
    go_enter Tryd.func12, Tryd.ntmps12
    go_wp2_with fail
    go_ret2
    exact footP_no HH.out HAL.out

set_option maxHeartbeats 1000000 in
theorem foot_ok (n : Nat) (w : World) (hT : Tab w) (hn : n ≤ 4096) : Calls Tryd.prog 12 #[.int .i64 (n : Int)] w (WrapP (Seg.pairB 3 n) w) := by
  have hal : Below w.heap.size w (w.alloc (.cells #[.int .i64 (n : Int)] 3)) := (Below.refl _ _).alloc (Nat.le_refl _) _
  have hblk := Blk.new w 3 #[.int .i64 (n : Int)]
  have HAL := Lib.hid hal
  have HC := Lib.hid (footF_any w.heap.size 3 (Vint.enc n) (w.alloc (.cells #[.int .i64 (n : Int)] 3)) (hT.below hal) (by omega) (by have := Vint.enc_ten (n := n) (by omega); omega) (Vint.enc_lt n)
    (Lib.hid (fun p a len cap W hb _ _ hw => foot1_any w.heap.size p a len cap _ n W (by omega) (by have := Vint.enc_ten (n := 3) (by omega); omega) (by rw [(hblk.below hb).cell]; rfl) hw)))
  have HC0 := Lib.hid (show (w.alloc (.cells #[.int .i64 (n : Int)] 3)).cell? ⟨w.heap.size, 0, none⟩ = some (.int .i64 (n : Int)) by rw [hblk.cell]; rfl)
  clear hT hal hblk
  go_enter Tryd.func12, Tryd.ntmps12
  go_wp2_with fail
  refine HC.out.mono ?_
  rintro e w1 ⟨a1, cap1, rfl, ho, hb⟩
  have HO := Lib.hid (ho.mono HAL.out.size)
  have HB := Lib.hid (HAL.out.trans (hb.mono HAL.out.size))
  clear ho hb HC
  go_wp2_with fail
  go_ret2
  exact ⟨a1, cap1, rfl, HO.out, HB.out⟩

theorem foot_any (n : Int) (w : World) (hT : Tab w) : Calls Tryd.prog 12 #[.int .i64 n] w (FootP n w) := by
  by_cases h : n < 0 ∨ 4096 < n
  · exact foot_no n w h
  · obtain ⟨k, rfl⟩ := Int.eq_ofNat_of_zero_le (show 0 ≤ n by omega)
    refine (foot_ok k w hT (by omega)).mono ?_
    rintro e w' ⟨a, cap, rfl, ho, hb⟩
    exact ⟨a, _, cap, by rw [if_neg h], by rw [if_neg h]; exact ho, hb⟩

/-- What Record answers. -/
noncomputable def recE (o : O) : Nat := if o.rightB 16 = true then 0 else 2
noncomputable def recF (o : O) : List Nat := if o.rightB 16 = true then Frm.fr (Seg.recB o) else []
def RecordP (o : O) (w : World) (e : Ending) (w' : World) : Prop :=
  ∃ a cap, e = .returned (.tuple #[.slice a (recF o).length cap, .int .i64 (recE o : Int)]) ∧ Own w' w.heap.size a (recF o).length cap (recF o) ∧ Below w.heap.size w w'
theorem recordP_no {o : O} {w w' : World} (h : o.rightB 16 = false) (hb : Below w.heap.size w w') : RecordP o w (.returned (.tuple #[.slice none 0 0, .int .i64 2])) w' := by
  unfold RecordP recF recE
  rw [h]
  exact ⟨none, 0, rfl, own_nil _ _, hb⟩
theorem recordP_yes {o : O} {w w' : World} {a : Option Addr} {cap : Nat} (h : o.rightB 16 = true) (ho : Own w' w.heap.size a (Frm.fr (Seg.recB o)).length cap (Frm.fr (Seg.recB o))) (hb : Below w.heap.size w w') :
    RecordP o w (.returned (.tuple #[.slice a (Frm.fr (Seg.recB o)).length cap, .int .i64 0])) w' := by
  unfold RecordP recF recE
  rw [h]
  exact ⟨a, cap, rfl, ho, hb⟩

theorem rec_room (o : O) : (Vint.enc o.bytes.length ++ o.bytes).length ≤ 1000 ∧ ∀ x ∈ Vint.enc o.bytes.length ++ o.bytes, x < 256 := by
  have h3 := o.bytes_le
  have h2 := Vint.enc_ten (n := o.bytes.length) (by omega)
  refine ⟨by rw [List.length_append]; omega, fun x hx => ?_⟩
  rcases List.mem_append.1 hx with hx | hx
  · exact Vint.enc_lt _ x hx
  · exact o.bytes_lt x hx

set_option maxHeartbeats 1000000 in
set_option maxRecDepth 100000 in
theorem record_any (o : O) (w : World) (hT : Tab w) : Calls Tryd.prog 10 #[.agg o.arr] w (RecordP o w) := by
  have bx := box29 o w
  have HAL : Hid (Below w.heap.size w (w.alloc (.cells o.arr 29))) := Lib.hid ((Below.refl _ _).alloc (Nat.le_refl _) _)
  have HO := Lib.hid (Blk.new w 29 o.arr)
  have HT := Lib.hid (hT.below HAL.out)
  have HE := Lib.hid (encode_op o (w.alloc (.cells o.arr 29)))
  clear hT
  go_enter Tryd.func10, Tryd.ntmps10
  go_wp2_with (refine wpList_run rfl (exec_load29 (p := o) rfl rfl HO.out) ?_)
  clear bx
  generalize w.alloc (.cells o.arr 29) = W at HO HT HAL HE
  refine HE.out.mono ?_
  rintro e w1 ⟨a1, cap1, rfl, ho1, hb1⟩
  cases hr : o.rightB 16
  · have HN := Lib.hid hr
    obtain ⟨e1, e2⟩ := enc_no hr
    rw [e1, e2]
    have HB1 := Lib.hid (HAL.out.trans (hb1.mono HAL.out.size))
    clear ho1 hb1 hr e1 e2 HE HAL
    have HAL2 : Hid (∀ x, Below w.heap.size w (w1.alloc (.cells x 31))) := Lib.hid (fun x => HB1.out.trans (((Below.refl _ _).alloc (Nat.le_refl _) _).mono HB1.out.size))
    go_wp2_with fail
    go_ret2
    exact recordP_no HN.out (HAL2.out _)
  · have HN := Lib.hid hr
    obtain ⟨e1, e2⟩ := enc_yes hr
    rw [e1] at ho1
    rw [e1, e2]
    have HB1 := Lib.hid (HAL.out.trans (hb1.mono HAL.out.size))
    have hle := o.bytes_le
    have hal : Below w1.heap.size w1 (w1.alloc (.cells #[.slice a1 o.bytes.length cap1] 31)) := (Below.refl _ _).alloc (Nat.le_refl _) _
    have hblk := Blk.new w1 31 #[.slice a1 o.bytes.length cap1]
    have hrow := (ho1.row o.bytes_lt).below hal
    have HLT := Lib.hid (fun ad ha => (ho1.lt ad ha).2)
    have HNIL := Lib.hid ho1.cap.2.2
    have HRM := Lib.hid (rec_room o)
    have HC := Lib.hid (recF_any w1.heap.size 2 (Vint.enc o.bytes.length ++ o.bytes) (w1.alloc (.cells #[.slice a1 o.bytes.length cap1] 31)) ((HT.out.below hb1).below hal) (by omega) HRM.out.1 HRM.out.2
      (Lib.hid (fun p a len cap W hb hp hw0 hw => rec1_any w1.heap.size p a len cap _ a1 o.bytes.length cap1 o.bytes W (by omega) (by have := Vint.enc_ten (n := 2) (by omega); omega) (by rw [(hblk.below hb).cell]; rfl) hw (hrow.below hb) HNIL.out
        (fun ad ha _ hat => by have h1 := HLT.out ad ha; have h2 := hw0 _ hat; have h3 := hal.size; omega))))
    have HAL2 := Lib.hid (HB1.out.trans (hal.mono HB1.out.size))
    clear ho1 hb1 hr e1 e2 HE HAL hal hblk hrow
    go_wp2_with fail
    refine HC.out.mono ?_
    rintro e w2 ⟨a2, cap2, rfl, ho2, hb2⟩
    have HO2 := Lib.hid (ho2.mono HAL2.out.size)
    have HB2 := Lib.hid (HAL2.out.trans (hb2.mono HAL2.out.size))
    clear ho2 hb2 HC
    go_wp2_with fail
    go_ret2
    exact recordP_yes HN.out HO2.out HB2.out

end Go.Proofs.YtfnaccmgmocolaaDoor
