import Derived.Test.YtnekpgmgnepdoaaGreatZbb
import Derived.Test.YtnekpgmgnepdoaaGreatZbe
import Derived.Test.YtnekpgmgnepdoaaGreatZbf
import Derived.Test.YtnekpgmgnepdoaaGreatXab
section
namespace Go.Proofs.YtnekpgmgnepdoaaGreat
open Go.RowKit Fold
structure Rk (w W : World) (a : Option Addr) (n : Nat) (l : List O) (b off : Nat) (x : O) : Prop where
 op : W.rangeAt b off x.cs
 ol : OL W a n l
 old : Below w.heap.size w W
theorem Rk.below {w W W' : World} {a : Option Addr} {n : Nat} {l : List O} {b off : Nat} {x : O} (h : Rk w W a n l b off x) (hb : Below W.heap.size W W') : Rk w W' a n l b off x := ⟨fun j u hu => below_at hb (h.op j u hu), h.ol.below hb, h.old.trans (hb.mono h.old.size)⟩
def RkR (w : World) (a : Option Addr) (n : Nat) (l : List O) (u : Value) (W : World) : Prop := ∃ k : Nat, u = .int .i64 (k : Int) ∧ k ≤ n ∧ Hid (∀ o ∈ l.take k, V.dotB o.r o.s = true) ∧ Hid (Differ (l.take k)) ∧ Hid (OL W a n l) ∧ Hid (Below w.heap.size w W)
def Right_ (l : List O) (o : O) (r : Nat) : Prop := cntTo l o.v r l.length = min (o.v.at_ r) 1048576
def RkR2 (w : World) (a : Option Addr) (n : Nat) (l : List O) (u : Value) (W : World) : Prop := ∃ k : Nat, u = .int .i64 (k : Int) ∧ k ≤ n ∧ Hid (∀ o ∈ l.take k, ∀ r, r < 16 → Right_ l o r) ∧ Hid (OL W a n l) ∧ Hid (Below w.heap.size w W)
def RkR3 (w : World) (a : Option Addr) (n : Nat) (l : List O) (x : O) (u : Value) (W : World) : Prop := ∃ r : Nat, u = .int .i64 (r : Int) ∧ r ≤ 16 ∧ Hid (∀ r', r' < r → Right_ l x r') ∧ Hid (OL W a n l) ∧ Hid (Below w.heap.size w W)
theorem differ_snoc {l : List O} {k : Nat} {x : O} (hx : l[k]? = some x) : Differ (l.take (k + 1)) ↔ Differ (l.take k) ∧ hasD (l.take k) x.r x.s = false := by
 rw [List.take_add_one, hx]
 unfold Differ
 rw [List.pairwise_append]
 simp [hasD]
theorem differ_take {l : List O} (h : Differ l) (k : Nat) : Differ (l.take k) := List.Pairwise.sublist (List.take_sublist _ _) h
set_option maxRecDepth 100000 in
set_option maxHeartbeats 4000000 in
theorem refclosed_any {a : Option Addr} {n cap : Nat} {l : List O} {w : World} (hl : OL w a n l) (hn : n < 1000000) (hcap : n ≤ cap) : Calls Tryz.prog 38 #[.slice a n cap] w (SaysIff (Closed l) w) := by
 have HL := Lib.hid hl
 have HLEN := Lib.hid (OL.len' hl)
 clear hl
 go_enter Tryz.func38, Tryz.ntmps38
 go_wp2_with fail
 go_loopw [3] (RkR w a n l) (fun u _ => n - (numI u).toNat)
 case atStart => exact ⟨0, rfl, Nat.zero_le _, Lib.hid (fun o h => by simp at h), Lib.hid (by simp [Differ]), HL, Lib.hid (Below.refl _ _)⟩
 case round =>
  obtain ⟨k, rfl, hk, HV, HF, HLk, HB⟩ := hrel
  clear HL
  by_cases hlt : k < n
  ·obtain ⟨b, off, x, rfl, hx, hr⟩ := OL.at HLk.out hlt
   have HX := Lib.hid hx
   have HR : Hid (Rk w wr (some ⟨b, off, none⟩) n l b (off + k * 23) x) := Lib.hid ⟨hr, HLk.out, HB.out⟩
   have HD := Lib.hid (fun W => rdot_any x.r x.s W x.hr x.hs)
   clear hx hr
   go_upto_region 4 with fail
   cases hd : V.dotB x.r x.s
   ·rw [hd] at HD
    have HE : Hid (¬ Closed l) := Lib.hid (fun hc => by
     have := hc.valid x (List.mem_of_getElem? HX.out)
     rw [hd] at this
     cases this)
    clear hd
    refine wp_region_held_drew (S := fun w' => Rk w w' (some ⟨b, off, none⟩) n l b (off + k * 23) x) (by kernel_rfl) (HR.out.below (drew_below wr)) (fun hS => ?_)
    refine held_tk 0 12 (.slice (some ⟨b, off, none⟩) n cap) rfl rfl (by kernel_rfl) (fun _ _ _ h => h) (fun _ _ => rfl) hS ?_
    simp only [Act.put, ap1, ap2, ap3]
    refine held_tk 1 13 (.int .i64 (k : Int)) rfl rfl (by kernel_rfl) (fun _ _ _ h => h) (fun _ _ => rfl) hS ?_
    simp only [Act.put, ap1, ap2, ap3]
    refine held_tk 2 14 (.pointer (some ⟨b, off + k * 23, none⟩)) rfl rfl (by kernel_rfl) (fun _ _ _ h => h) (fun _ _ => exec_idxO (i := k) rfl rfl rfl rfl hlt) hS ?_
    simp only [Act.put, ap1, ap2, ap3]
    refine held_tk 3 15 (.pointer (some ⟨b, off + k * 23, none⟩)) rfl rfl (by kernel_rfl) (fun _ _ _ h => h) (fun _ _ => (by kernel_rfl)) hS ?_
    simp only [Act.put, ap1, ap2, ap3]
    refine held_tk 4 16 (dotV x.r x.s) rfl rfl (by kernel_rfl) (fun _ _ _ h => h) (fun _ h => exec_dotO (p := x) rfl rfl h.op) hS ?_
    simp only [Act.put, ap1, ap2, ap3]
    refine held_call 5 17 77 #[dotV x.r x.s] (.bool false) rfl (by kernel_rfl) rfl (by kernel_rfl) (by kernel_rfl) (HD.out _) (fun _ h hb => h.below hb) hS (fun w15 hS => ?_)
    simp only [Act.put, ap1, ap2, ap3]
    refine held_tk 6 18 (.bool true) rfl rfl (by kernel_rfl) (fun _ _ _ h => h) (fun _ _ => rfl) hS ?_
    simp only [Act.put, ap1, ap2, ap3]
    refine held_tk 7 19 (.bool true) rfl rfl (by kernel_rfl) (fun _ _ _ h => h) (fun _ _ => rfl) hS ?_
    simp only [Act.put, ap1, ap2, ap3]
    refine held_sk 8 20 rfl rfl (by kernel_rfl) (fun _ _ _ h => h) hS ?_
    simp only [Act.put, ap1, ap2, ap3]
    refine held_sk 9 21 rfl rfl (by kernel_rfl) (fun _ _ _ h => h) hS ?_
    simp only [Act.put, ap1, ap2, ap3]
    refine held_sk 10 22 rfl rfl (by kernel_rfl) (fun _ _ _ h => h) hS ?_
    simp only [Act.put, ap1, ap2, ap3]
    refine held_sk 11 23 rfl rfl (by kernel_rfl) (fun _ _ _ h => h) hS ?_
    simp only [Act.put, ap1, ap2, ap3]
    refine held_sk 12 24 rfl rfl (by kernel_rfl) (fun _ _ _ h => h) hS ?_
    simp only [Act.put, ap1, ap2, ap3]
    refine held_sk 13 25 rfl rfl (by kernel_rfl) (fun _ _ _ h => h) hS ?_
    simp only [Act.put, ap1, ap2, ap3]
    refine held_sk 14 26 rfl rfl (by kernel_rfl) (fun _ _ _ h => h) hS ?_
    simp only [Act.put, ap1, ap2, ap3]
    refine held_sk 15 27 rfl rfl (by kernel_rfl) (fun _ _ _ h => h) hS ?_
    simp only [Act.put, ap1, ap2, ap3]
    refine held_sk 16 28 rfl rfl (by kernel_rfl) (fun _ _ _ h => h) hS ?_
    simp only [Act.put, ap1, ap2, ap3]
    refine held_tk 17 29 (.bool true) rfl rfl (by kernel_rfl) (fun _ _ _ h => h) (fun _ _ => rfl) hS ?_
    simp only [Act.put, ap1, ap2, ap3]
    refine wpAnyH_done (by kernel_rfl) ?_ _
    have HBE := Lib.hid hS.old
    clear hS
    go_wp2_with fail
    go_ret
    exact ⟨false, rfl, by simp [HE.out], HBE.out⟩
   ·rw [hd] at HD
    have HVN : Hid (∀ o ∈ l.take (k + 1), V.dotB o.r o.s = true) := Lib.hid (fun o ho => by
     rw [List.take_add_one, HX.out] at ho
     rcases List.mem_append.1 ho with ho | ho
     ·exact HV.out o ho
     ·obtain rfl : o = x := by simpa using ho
      exact hd)
    clear hd
    cases hh : hasD (l.take k) x.r x.s
    ·have HH := Lib.hid hh
     have HFN : Hid (Differ (l.take (k + 1))) := Lib.hid ((differ_snoc HX.out).2 ⟨HF.out, hh⟩)
     clear hh
     refine wp_region_held_drew (S := fun w' => Rk w w' (some ⟨b, off, none⟩) n l b (off + k * 23) x) (by kernel_rfl) (HR.out.below (drew_below wr)) (fun hS => ?_)
     refine held_tk 0 12 (.slice (some ⟨b, off, none⟩) n cap) rfl rfl (by kernel_rfl) (fun _ _ _ h => h) (fun _ _ => rfl) hS ?_
     simp only [Act.put, ap1, ap2, ap3]
     refine held_tk 1 13 (.int .i64 (k : Int)) rfl rfl (by kernel_rfl) (fun _ _ _ h => h) (fun _ _ => rfl) hS ?_
     simp only [Act.put, ap1, ap2, ap3]
     refine held_tk 2 14 (.pointer (some ⟨b, off + k * 23, none⟩)) rfl rfl (by kernel_rfl) (fun _ _ _ h => h) (fun _ _ => exec_idxO (i := k) rfl rfl rfl rfl hlt) hS ?_
     simp only [Act.put, ap1, ap2, ap3]
     refine held_tk 3 15 (.pointer (some ⟨b, off + k * 23, none⟩)) rfl rfl (by kernel_rfl) (fun _ _ _ h => h) (fun _ _ => (by kernel_rfl)) hS ?_
     simp only [Act.put, ap1, ap2, ap3]
     refine held_tk 4 16 (dotV x.r x.s) rfl rfl (by kernel_rfl) (fun _ _ _ h => h) (fun _ h => exec_dotO (p := x) rfl rfl h.op) hS ?_
     simp only [Act.put, ap1, ap2, ap3]
     refine held_call 5 17 77 #[dotV x.r x.s] (.bool true) rfl (by kernel_rfl) rfl (by kernel_rfl) (by kernel_rfl) (HD.out _) (fun _ h hb => h.below hb) hS (fun w15 hS => ?_)
     simp only [Act.put, ap1, ap2, ap3]
     refine held_tk 6 18 (.bool false) rfl rfl (by kernel_rfl) (fun _ _ _ h => h) (fun _ _ => rfl) hS ?_
     simp only [Act.put, ap1, ap2, ap3]
     refine held_tk 7 19 (.bool false) rfl rfl (by kernel_rfl) (fun _ _ _ h => h) (fun _ _ => rfl) hS ?_
     simp only [Act.put, ap1, ap2, ap3]
     refine held_tk 8 20 (.slice (some ⟨b, off, none⟩) n cap) rfl rfl (by kernel_rfl) (fun _ _ _ h => h) (fun _ _ => rfl) hS ?_
     simp only [Act.put, ap1, ap2, ap3]
     refine held_tk 9 21 (.int .i64 (k : Int)) rfl rfl (by kernel_rfl) (fun _ _ _ h => h) (fun _ _ => rfl) hS ?_
     simp only [Act.put, ap1, ap2, ap3]
     refine held_tk 10 22 (.slice (some ⟨b, off, none⟩) k cap) rfl rfl (by kernel_rfl) (fun _ _ _ h => h) (fun _ _ => exec_cutO (k := k) rfl rfl rfl (by omega)) hS ?_
     simp only [Act.put, ap1, ap2, ap3]
     refine held_tk 11 23 (.slice (some ⟨b, off, none⟩) n cap) rfl rfl (by kernel_rfl) (fun _ _ _ h => h) (fun _ _ => rfl) hS ?_
     simp only [Act.put, ap1, ap2, ap3]
     refine held_tk 12 24 (.int .i64 (k : Int)) rfl rfl (by kernel_rfl) (fun _ _ _ h => h) (fun _ _ => rfl) hS ?_
     simp only [Act.put, ap1, ap2, ap3]
     refine held_tk 13 25 (.pointer (some ⟨b, off + k * 23, none⟩)) rfl rfl (by kernel_rfl) (fun _ _ _ h => h) (fun _ _ => exec_idxO (i := k) rfl rfl rfl rfl hlt) hS ?_
     simp only [Act.put, ap1, ap2, ap3]
     refine held_tk 14 26 (.pointer (some ⟨b, off + k * 23, none⟩)) rfl rfl (by kernel_rfl) (fun _ _ _ h => h) (fun _ _ => (by kernel_rfl)) hS ?_
     simp only [Act.put, ap1, ap2, ap3]
     refine held_tk 15 27 (dotV x.r x.s) rfl rfl (by kernel_rfl) (fun _ _ _ h => h) (fun _ h => exec_dotO (p := x) rfl rfl h.op) hS ?_
     simp only [Act.put, ap1, ap2, ap3]
     refine held_call 16 28 78 #[.slice (some ⟨b, off, none⟩) k cap, dotV x.r x.s] (.bool false) rfl (by kernel_rfl) rfl (by kernel_rfl) (by kernel_rfl) ((refhas_any (hS.ol.take hk) (by omega) x.r x.s).mono fun _ _ h => ⟨h.1.trans (ret_bool HH.out), h.2⟩) (fun _ h hb => h.below hb) hS (fun w116 hS => ?_)
     simp only [Act.put, ap1, ap2, ap3]
     refine held_tk 17 29 (.bool false) rfl rfl (by kernel_rfl) (fun _ _ _ h => h) (fun _ _ => rfl) hS ?_
     simp only [Act.put, ap1, ap2, ap3]
     refine wpAnyH_done (by kernel_rfl) ?_ _
     have HLN := Lib.hid hS.ol
     have HBN := Lib.hid hS.old
     clear hS
     go_wp2_with fail
     go_roundw
     case rel => exact ⟨k + 1, by go_num, hlt, HVN, HFN, HLN, HBN⟩
     case measure => simp [numI]; omega
    ·have HH := Lib.hid hh
     have HE : Hid (¬ Closed l) := Lib.hid (fun hc => by
      have := ((differ_snoc HX.out).1 (differ_take hc.unlike (k + 1))).2
      rw [hh] at this
      cases this)
     clear hh
     refine wp_region_held_drew (S := fun w' => Rk w w' (some ⟨b, off, none⟩) n l b (off + k * 23) x) (by kernel_rfl) (HR.out.below (drew_below wr)) (fun hS => ?_)
     refine held_tk 0 12 (.slice (some ⟨b, off, none⟩) n cap) rfl rfl (by kernel_rfl) (fun _ _ _ h => h) (fun _ _ => rfl) hS ?_
     simp only [Act.put, ap1, ap2, ap3]
     refine held_tk 1 13 (.int .i64 (k : Int)) rfl rfl (by kernel_rfl) (fun _ _ _ h => h) (fun _ _ => rfl) hS ?_
     simp only [Act.put, ap1, ap2, ap3]
     refine held_tk 2 14 (.pointer (some ⟨b, off + k * 23, none⟩)) rfl rfl (by kernel_rfl) (fun _ _ _ h => h) (fun _ _ => exec_idxO (i := k) rfl rfl rfl rfl hlt) hS ?_
     simp only [Act.put, ap1, ap2, ap3]
     refine held_tk 3 15 (.pointer (some ⟨b, off + k * 23, none⟩)) rfl rfl (by kernel_rfl) (fun _ _ _ h => h) (fun _ _ => (by kernel_rfl)) hS ?_
     simp only [Act.put, ap1, ap2, ap3]
     refine held_tk 4 16 (dotV x.r x.s) rfl rfl (by kernel_rfl) (fun _ _ _ h => h) (fun _ h => exec_dotO (p := x) rfl rfl h.op) hS ?_
     simp only [Act.put, ap1, ap2, ap3]
     refine held_call 5 17 77 #[dotV x.r x.s] (.bool true) rfl (by kernel_rfl) rfl (by kernel_rfl) (by kernel_rfl) (HD.out _) (fun _ h hb => h.below hb) hS (fun w15 hS => ?_)
     simp only [Act.put, ap1, ap2, ap3]
     refine held_tk 6 18 (.bool false) rfl rfl (by kernel_rfl) (fun _ _ _ h => h) (fun _ _ => rfl) hS ?_
     simp only [Act.put, ap1, ap2, ap3]
     refine held_tk 7 19 (.bool false) rfl rfl (by kernel_rfl) (fun _ _ _ h => h) (fun _ _ => rfl) hS ?_
     simp only [Act.put, ap1, ap2, ap3]
     refine held_tk 8 20 (.slice (some ⟨b, off, none⟩) n cap) rfl rfl (by kernel_rfl) (fun _ _ _ h => h) (fun _ _ => rfl) hS ?_
     simp only [Act.put, ap1, ap2, ap3]
     refine held_tk 9 21 (.int .i64 (k : Int)) rfl rfl (by kernel_rfl) (fun _ _ _ h => h) (fun _ _ => rfl) hS ?_
     simp only [Act.put, ap1, ap2, ap3]
     refine held_tk 10 22 (.slice (some ⟨b, off, none⟩) k cap) rfl rfl (by kernel_rfl) (fun _ _ _ h => h) (fun _ _ => exec_cutO (k := k) rfl rfl rfl (by omega)) hS ?_
     simp only [Act.put, ap1, ap2, ap3]
     refine held_tk 11 23 (.slice (some ⟨b, off, none⟩) n cap) rfl rfl (by kernel_rfl) (fun _ _ _ h => h) (fun _ _ => rfl) hS ?_
     simp only [Act.put, ap1, ap2, ap3]
     refine held_tk 12 24 (.int .i64 (k : Int)) rfl rfl (by kernel_rfl) (fun _ _ _ h => h) (fun _ _ => rfl) hS ?_
     simp only [Act.put, ap1, ap2, ap3]
     refine held_tk 13 25 (.pointer (some ⟨b, off + k * 23, none⟩)) rfl rfl (by kernel_rfl) (fun _ _ _ h => h) (fun _ _ => exec_idxO (i := k) rfl rfl rfl rfl hlt) hS ?_
     simp only [Act.put, ap1, ap2, ap3]
     refine held_tk 14 26 (.pointer (some ⟨b, off + k * 23, none⟩)) rfl rfl (by kernel_rfl) (fun _ _ _ h => h) (fun _ _ => (by kernel_rfl)) hS ?_
     simp only [Act.put, ap1, ap2, ap3]
     refine held_tk 15 27 (dotV x.r x.s) rfl rfl (by kernel_rfl) (fun _ _ _ h => h) (fun _ h => exec_dotO (p := x) rfl rfl h.op) hS ?_
     simp only [Act.put, ap1, ap2, ap3]
     refine held_call 16 28 78 #[.slice (some ⟨b, off, none⟩) k cap, dotV x.r x.s] (.bool true) rfl (by kernel_rfl) rfl (by kernel_rfl) (by kernel_rfl) ((refhas_any (hS.ol.take hk) (by omega) x.r x.s).mono fun _ _ h => ⟨h.1.trans (ret_bool HH.out), h.2⟩) (fun _ h hb => h.below hb) hS (fun w116 hS => ?_)
     simp only [Act.put, ap1, ap2, ap3]
     refine held_tk 17 29 (.bool true) rfl rfl (by kernel_rfl) (fun _ _ _ h => h) (fun _ _ => rfl) hS ?_
     simp only [Act.put, ap1, ap2, ap3]
     refine wpAnyH_done (by kernel_rfl) ?_ _
     have HBE := Lib.hid hS.old
     clear hS
     go_wp2_with fail
     go_ret
     exact ⟨false, rfl, by simp [HE.out], HBE.out⟩
  ·obtain rfl : k = n := by omega
   have HCC : Hid (Closed l ↔ ∀ o ∈ l, ∀ r, r < 16 → Right_ l o r) := Lib.hid (by
    have h1 := HV.out
    have h2 := HF.out
    rw [List.take_of_length_le (by rw [HLEN.out]; omega)] at h1 h2
    exact closed_count h1 h2)
   have HL0 := HLk
   have HB0 := HB
   clear HV HF HLk HB
   go_wp2_with fail
   go_loopw [4] (RkR2 w a k l) (fun u _ => k - (numI u).toNat)
   case atStart => exact ⟨0, rfl, Nat.zero_le _, Lib.hid (fun o h => by simp at h), HL0, HB0⟩
   case round =>
    obtain ⟨n', rfl, hn', HF, HLk, HB⟩ := hrel
    clear HL0 HB0
    obtain ⟨n, hkn⟩ : ∃ n, k = n := ⟨_, rfl⟩
    subst hkn
    by_cases hlt : n' < k
    ·obtain ⟨b, off, x, rfl, hx, hr⟩ := OL.at HLk.out hlt
     have HX := Lib.hid hx
     clear hx hr
     go_wp2_with fail
     go_loopw [5] (RkR3 w (some ⟨b, off, none⟩) k l x) (fun u _ => 16 - (numI u).toNat)
     case atStart => exact ⟨0, rfl, by omega, Lib.hid (fun r h => by omega), HLk, HB⟩
     case round =>
      obtain ⟨r, rfl, hr, HG, HLr, HBr⟩ := hrel
      clear HLk HB
      by_cases hr16 : r < 16
      ·obtain ⟨b', off', x', e1, hx', hrr⟩ := OL.at HLr.out hlt
       simp only [Option.some.injEq, Addr.mk.injEq, and_true] at e1
       obtain ⟨rfl, rfl⟩ := e1
       obtain rfl : x' = x := by have := HX.out; rw [hx'] at this; exact Option.some.inj this
       have HR : Hid (Rk w wr (some ⟨b, off, none⟩) k l b (off + n' * 23) x') := Lib.hid ⟨hrr, HLr.out, HBr.out⟩
       clear hx' hrr
       go_upto_region 12 with fail
       by_cases hq : cntTo l x'.v r k = min (x'.v.at_ r) 1048576
       ·have HQ : Hid (((cntTo l x'.v r k : Int) != ((min (x'.v.at_ r) 1048576 : Nat) : Int)) = false) := Lib.hid (by simp; omega)
        have HGN : Hid (∀ r', r' < r + 1 → Right_ l x' r') := Lib.hid (fun r' h => by
         by_cases e : r' = r
         ·subst e; unfold Right_; rw [HLEN.out]; exact hq
         ·exact HG.out r' (by omega))
        clear hq
        refine wp_region_held_drew (S := fun w' => Rk w w' (some ⟨b, off, none⟩) k l b (off + n' * 23) x') (by kernel_rfl) (HR.out.below (drew_below wr)) (fun hS => ?_)
        refine held_tk 0 40 (.slice (some ⟨b, off, none⟩) k cap) rfl rfl (by kernel_rfl) (fun _ _ _ h => h) (fun _ _ => rfl) hS ?_
        simp only [Act.put, ap1, ap2, ap3]
        refine held_tk 1 41 (.slice (some ⟨b, off, none⟩) k cap) rfl rfl (by kernel_rfl) (fun _ _ _ h => h) (fun _ _ => rfl) hS ?_
        simp only [Act.put, ap1, ap2, ap3]
        refine held_tk 2 42 (.int .i64 (n' : Int)) rfl rfl (by kernel_rfl) (fun _ _ _ h => h) (fun _ _ => rfl) hS ?_
        simp only [Act.put, ap1, ap2, ap3]
        refine held_tk 3 43 (.pointer (some ⟨b, off + n' * 23, none⟩)) rfl rfl (by kernel_rfl) (fun _ _ _ h => h) (fun _ _ => exec_idxO (i := n') rfl rfl rfl rfl hlt) hS ?_
        simp only [Act.put, ap1, ap2, ap3]
        refine held_tk 4 44 (.pointer (some ⟨b, off + n' * 23 + 7, none⟩)) rfl rfl (by kernel_rfl) (fun _ _ _ h => h) (fun _ _ => (by kernel_rfl)) hS ?_
        simp only [Act.put, ap1, ap2, ap3]
        refine held_tk 5 45 (.agg x'.v.arr) rfl rfl (by kernel_rfl) (fun _ _ _ h => h) (fun _ h => exec_ctxO (p := x') rfl rfl h.op) hS ?_
        simp only [Act.put, ap1, ap2, ap3]
        refine held_tk 6 46 (.int .i64 (r : Int)) rfl rfl (by kernel_rfl) (fun _ _ _ h => h) (fun _ _ => rfl) hS ?_
        simp only [Act.put, ap1, ap2, ap3]
        refine held_tk 8 48 (.slice (some ⟨b, off, none⟩) k cap) rfl rfl (by kernel_rfl) (fun _ _ _ h => h) (fun _ _ => rfl) hS ?_
        simp only [Act.put, ap1, ap2, ap3]
        refine held_tk 9 49 (.int .i64 (n' : Int)) rfl rfl (by kernel_rfl) (fun _ _ _ h => h) (fun _ _ => rfl) hS ?_
        simp only [Act.put, ap1, ap2, ap3]
        refine held_tk 10 50 (.int .i64 (r : Int)) rfl rfl (by kernel_rfl) (fun _ _ _ h => h) (fun _ _ => rfl) hS ?_
        simp only [Act.put, ap1, ap2, ap3]
        refine held_tk 11 51 (.pointer (some ⟨b, off + n' * 23, none⟩)) rfl rfl (by kernel_rfl) (fun _ _ _ h => h) (fun _ _ => exec_idxO (i := n') rfl rfl rfl rfl hlt) hS ?_
        simp only [Act.put, ap1, ap2, ap3]
        refine held_tk 12 52 (.pointer (some ⟨b, off + n' * 23 + 7, none⟩)) rfl rfl (by kernel_rfl) (fun _ _ _ h => h) (fun _ _ => (by kernel_rfl)) hS ?_
        simp only [Act.put, ap1, ap2, ap3]
        refine held_tk 13 53 (.pointer (some ⟨b, off + n' * 23 + 7 + r, none⟩)) rfl rfl (by kernel_rfl) (fun _ _ _ h => h) (fun _ _ => exec_idxV rfl rfl rfl hr16) hS ?_
        simp only [Act.put, ap1, ap2, ap3]
        refine held_tk 14 54 (.int .u32 (x'.v.at_ r : Int)) rfl rfl (by kernel_rfl) (fun _ _ _ h => h) (fun _ h => exec_cell rfl rfl (load_cell (by kernel_rfl) (op_vec h.op hr16))) hS ?_
        simp only [Act.put, ap1, ap2, ap3]
        refine held_tk 15 55 (.int .u32 ((min (x'.v.at_ r) 1048576 : Nat) : Int)) rfl rfl (by kernel_rfl) (fun _ _ _ h => h) (fun _ _ => exec_min32 rfl rfl rfl) hS ?_
        simp only [Act.put, ap1, ap2, ap3]
        refine held_call 7 47 79 #[.slice (some ⟨b, off, none⟩) k cap, .agg x'.v.arr, .int .i64 (r : Int)] (.int .u32 (cntTo l x'.v r k : Int)) rfl (by kernel_rfl) rfl (by kernel_rfl) (by kernel_rfl) (refcount_any hS.ol (by omega) x'.v r) (fun _ h hb => h.below hb) hS (fun w17 hS => ?_)
        simp only [Act.put, ap1, ap2, ap3]
        refine held_tk 16 56 (.bool false) rfl rfl (by kernel_rfl) (fun _ _ _ h => h) (fun _ _ => exec_neqI trivial rfl rfl rfl HQ.out) hS ?_
        simp only [Act.put, ap1, ap2, ap3]
        refine wpAnyH_done (by kernel_rfl) ?_ _
        have HLN := Lib.hid hS.ol
        have HBN := Lib.hid hS.old
        clear hS
        go_wp2_with fail
        go_roundw
        case rel => exact ⟨r + 1, by go_num, by omega, HGN, HLN, HBN⟩
        case measure => simp [numI]; omega
       ·have HQ : Hid (((cntTo l x'.v r k : Int) != ((min (x'.v.at_ r) 1048576 : Nat) : Int)) = true) := Lib.hid (by simp; omega)
        have HE : Hid (¬ Closed l) := Lib.hid (fun hc => by
         have := HCC.out.1 hc x' (List.mem_of_getElem? HX.out) r hr16
         unfold Right_ at this
         rw [HLEN.out] at this
         exact hq this)
        clear hq
        refine wp_region_held_drew (S := fun w' => Rk w w' (some ⟨b, off, none⟩) k l b (off + n' * 23) x') (by kernel_rfl) (HR.out.below (drew_below wr)) (fun hS => ?_)
        refine held_tk 0 40 (.slice (some ⟨b, off, none⟩) k cap) rfl rfl (by kernel_rfl) (fun _ _ _ h => h) (fun _ _ => rfl) hS ?_
        simp only [Act.put, ap1, ap2, ap3]
        refine held_tk 1 41 (.slice (some ⟨b, off, none⟩) k cap) rfl rfl (by kernel_rfl) (fun _ _ _ h => h) (fun _ _ => rfl) hS ?_
        simp only [Act.put, ap1, ap2, ap3]
        refine held_tk 2 42 (.int .i64 (n' : Int)) rfl rfl (by kernel_rfl) (fun _ _ _ h => h) (fun _ _ => rfl) hS ?_
        simp only [Act.put, ap1, ap2, ap3]
        refine held_tk 3 43 (.pointer (some ⟨b, off + n' * 23, none⟩)) rfl rfl (by kernel_rfl) (fun _ _ _ h => h) (fun _ _ => exec_idxO (i := n') rfl rfl rfl rfl hlt) hS ?_
        simp only [Act.put, ap1, ap2, ap3]
        refine held_tk 4 44 (.pointer (some ⟨b, off + n' * 23 + 7, none⟩)) rfl rfl (by kernel_rfl) (fun _ _ _ h => h) (fun _ _ => (by kernel_rfl)) hS ?_
        simp only [Act.put, ap1, ap2, ap3]
        refine held_tk 5 45 (.agg x'.v.arr) rfl rfl (by kernel_rfl) (fun _ _ _ h => h) (fun _ h => exec_ctxO (p := x') rfl rfl h.op) hS ?_
        simp only [Act.put, ap1, ap2, ap3]
        refine held_tk 6 46 (.int .i64 (r : Int)) rfl rfl (by kernel_rfl) (fun _ _ _ h => h) (fun _ _ => rfl) hS ?_
        simp only [Act.put, ap1, ap2, ap3]
        refine held_tk 8 48 (.slice (some ⟨b, off, none⟩) k cap) rfl rfl (by kernel_rfl) (fun _ _ _ h => h) (fun _ _ => rfl) hS ?_
        simp only [Act.put, ap1, ap2, ap3]
        refine held_tk 9 49 (.int .i64 (n' : Int)) rfl rfl (by kernel_rfl) (fun _ _ _ h => h) (fun _ _ => rfl) hS ?_
        simp only [Act.put, ap1, ap2, ap3]
        refine held_tk 10 50 (.int .i64 (r : Int)) rfl rfl (by kernel_rfl) (fun _ _ _ h => h) (fun _ _ => rfl) hS ?_
        simp only [Act.put, ap1, ap2, ap3]
        refine held_tk 11 51 (.pointer (some ⟨b, off + n' * 23, none⟩)) rfl rfl (by kernel_rfl) (fun _ _ _ h => h) (fun _ _ => exec_idxO (i := n') rfl rfl rfl rfl hlt) hS ?_
        simp only [Act.put, ap1, ap2, ap3]
        refine held_tk 12 52 (.pointer (some ⟨b, off + n' * 23 + 7, none⟩)) rfl rfl (by kernel_rfl) (fun _ _ _ h => h) (fun _ _ => (by kernel_rfl)) hS ?_
        simp only [Act.put, ap1, ap2, ap3]
        refine held_tk 13 53 (.pointer (some ⟨b, off + n' * 23 + 7 + r, none⟩)) rfl rfl (by kernel_rfl) (fun _ _ _ h => h) (fun _ _ => exec_idxV rfl rfl rfl hr16) hS ?_
        simp only [Act.put, ap1, ap2, ap3]
        refine held_tk 14 54 (.int .u32 (x'.v.at_ r : Int)) rfl rfl (by kernel_rfl) (fun _ _ _ h => h) (fun _ h => exec_cell rfl rfl (load_cell (by kernel_rfl) (op_vec h.op hr16))) hS ?_
        simp only [Act.put, ap1, ap2, ap3]
        refine held_tk 15 55 (.int .u32 ((min (x'.v.at_ r) 1048576 : Nat) : Int)) rfl rfl (by kernel_rfl) (fun _ _ _ h => h) (fun _ _ => exec_min32 rfl rfl rfl) hS ?_
        simp only [Act.put, ap1, ap2, ap3]
        refine held_call 7 47 79 #[.slice (some ⟨b, off, none⟩) k cap, .agg x'.v.arr, .int .i64 (r : Int)] (.int .u32 (cntTo l x'.v r k : Int)) rfl (by kernel_rfl) rfl (by kernel_rfl) (by kernel_rfl) (refcount_any hS.ol (by omega) x'.v r) (fun _ h hb => h.below hb) hS (fun w17 hS => ?_)
        simp only [Act.put, ap1, ap2, ap3]
        refine held_tk 16 56 (.bool true) rfl rfl (by kernel_rfl) (fun _ _ _ h => h) (fun _ _ => exec_neqI trivial rfl rfl rfl HQ.out) hS ?_
        simp only [Act.put, ap1, ap2, ap3]
        refine wpAnyH_done (by kernel_rfl) ?_ _
        have HBE := Lib.hid hS.old
        clear hS
        go_wp2_with fail
        go_ret
        exact ⟨false, rfl, by simp [HE.out], HBE.out⟩
      ·have HFN : Hid (∀ o ∈ l.take (n' + 1), ∀ r, r < 16 → Right_ l o r) := Lib.hid (fun o ho r' h' => by
        rw [List.take_add_one, HX.out] at ho
        rcases List.mem_append.1 ho with ho | ho
        ·exact HF.out o ho r' h'
        ·obtain rfl : o = x := by simpa using ho
         exact HG.out r' (by omega))
       go_wp2_with fail
       go_roundw
       case rel => exact ⟨n' + 1, by go_num, hlt, HFN, HLr, HBr⟩
       case measure => simp [numI]; omega
    ·obtain rfl : n' = k := by omega
     have HE : Hid (Closed l) := Lib.hid (HCC.out.2 (fun o ho => HF.out o (by rw [List.take_of_length_le (by rw [HLEN.out]; omega)]; exact ho)))
     go_wp2_with fail
     go_ret
     exact ⟨true, rfl, by simp [HE.out], HB.out⟩
end Go.Proofs.YtnekpgmgnepdoaaGreat
end
section
namespace Go.Proofs.YtnekpgmgnepdoaaGreat
def Runs (v : V) : List O → Prop
 | [] => True
 | o :: l => O.readyE v o = 0 ∧ Runs (V.put v o.r o.s) l
def stOf (s : Sta) (l : List O) : Sta := l.foldl applyS s
theorem hasB_iff (v : V) (r s : Nat) : V.hasB v r s = true ↔ r < 16 ∧ 1 ≤ s ∧ s ≤ 1048576 ∧ s ≤ v.at_ r := by
 unfold V.hasB V.dotB
 simp only [Bool.and_eq_true, decide_eq_true_eq]
 constructor
 ·rintro ⟨⟨h1, h2, h3⟩, h4⟩; exact ⟨h1, h2, h3, h4⟩
 ·rintro ⟨h1, h2, h3, h4⟩; exact ⟨⟨h1, h2, h3⟩, h4⟩
theorem ready_iff (v : V) (o : O) : O.readyE v o = 0 ↔ o.rightB 16 = true ∧ V.hasB v o.r o.s = false ∧ V.belowB o.v v = true := by
 unfold O.readyE
 cases o.rightB 16 <;> cases V.hasB v o.r o.s <;> cases V.belowB o.v v <;> simp
structure Rdy (v : V) (o : O) : Prop where
 r : o.r < 16
 s1 : 1 ≤ o.s
 s2 : o.s ≤ 1048576
 now : v.at_ o.r + 1 = o.s
 own : o.v.at_ o.r + 1 = o.s
 le : ∀ i, i < 16 → o.v.at_ i ≤ v.at_ i
 lim : ∀ i, i < 16 → o.v.at_ i ≤ 1048576
 t : o.t ≤ 1073741824
 k : o.kindB = true
theorem rdy {v : V} {o : O} (h : O.readyE v o = 0) : Rdy v o := by
 obtain ⟨h1, h2, h3⟩ := (ready_iff v o).1 h
 obtain ⟨d, hs, hr, hv, ht, hk⟩ := (O.right_iff o 16).1 h1
 have hd : o.r < 16 ∧ 1 ≤ o.s ∧ o.s ≤ 1048576 := by simpa [V.dotB] using d
 have hb := (V.belowB_iff _ _).1 h3
 have hl : ∀ i, i < 16 → o.v.at_ i ≤ 1048576 := fun i hi => by
  unfold V.rightB at hv
  rw [Bool.and_eq_true, V.rightTo_iff] at hv
  exact (hv.2 i hi).1
 have h5 : ¬ V.hasB v o.r o.s = true := by rw [h2]; simp
 rw [hasB_iff] at h5
 have := hb o.r hd.1
 exact ⟨hd.1, hd.2.1, hd.2.2, by omega, hs, hb, hl, ht, hk⟩
theorem rdy_put (v : V) (o : O) {i : Nat} (hi : i < 16) : (V.put v o.r o.s).at_ i = if i = o.r then o.s else v.at_ i := V.put_at v o.r o.s hi o.hs
structure Kn (v : V) (l : List O) : Prop where
 has : ∀ r s, V.hasB v r s = true ↔ ∃ q ∈ l, q.r = r ∧ q.s = s
 lim : ∀ i, i < 16 → v.at_ i ≤ 1048576
theorem Kn.zero : Kn V.zero [] := ⟨fun r s => by rw [hasB_iff, V.zero_at]; constructor <;> intro h <;> simp at h; omega, fun i _ => by rw [V.zero_at]; omega⟩
theorem Kn.put {v : V} {l : List O} {o : O} (h : Kn v l) (hr : O.readyE v o = 0) : Kn (V.put v o.r o.s) (l ++ [o]) := by
 have R := rdy hr
 refine ⟨fun r s => ?_, fun i hi => ?_⟩
 ·have hv := h.has r s
  rw [hasB_iff] at hv ⊢
  constructor
  ·rintro ⟨h1, h2, h3, h4⟩
   rw [rdy_put v o h1] at h4
   by_cases e : r = o.r
   ·rw [if_pos e] at h4
    by_cases e2 : s = o.s
    ·exact ⟨o, by simp, e.symm, e2.symm⟩
    ·have hn := R.now
     rw [← e] at hn
     obtain ⟨q, hq, hh⟩ := hv.1 ⟨h1, h2, h3, by omega⟩
     exact ⟨q, by simp [hq], hh⟩
   ·rw [if_neg e] at h4
    obtain ⟨q, hq, hh⟩ := hv.1 ⟨h1, h2, h3, h4⟩
    exact ⟨q, by simp [hq], hh⟩
  ·rintro ⟨q, hq, rfl, rfl⟩
   rcases List.mem_append.1 hq with hq | hq
   ·obtain ⟨h1, h2, h3, h4⟩ := hv.2 ⟨q, hq, rfl, rfl⟩
    refine ⟨h1, h2, h3, ?_⟩
    rw [rdy_put v o h1]
    split
    ·rename_i e
     have hn := R.now
     rw [← e] at hn
     omega
    ·exact h4
   ·obtain rfl : q = o := by simpa using hq
    exact ⟨R.r, R.s1, R.s2, by rw [rdy_put v q R.r, if_pos rfl]; exact Nat.le_refl _⟩
 ·rw [rdy_put v o hi]
  split
  ·exact R.s2
  ·exact h.lim i hi
def TkIs (x : Option Nat) (l : List O) (c : Nat) : Prop := match x with
 | none => ∀ o ∈ l, o.c ≠ c
 | some m => (∃ o ∈ l, o.c = c ∧ o.t = m) ∧ ∀ o ∈ l, o.c = c → o.t ≤ m
theorem TkIs.step {x : Option Nat} {l : List O} {c : Nat} (h : TkIs x l c) (o : O) : TkIs (if c = o.c then some (maxO x o.t) else x) (l ++ [o]) c := by
 by_cases e : c = o.c
 ·rw [if_pos e]
  refine ⟨?_, fun p hp hc => ?_⟩
  ·cases x with
   | none => exact ⟨o, by simp, e.symm, by simp [maxO]⟩
   | some m =>
    obtain ⟨⟨p, hp, hc, ht⟩, h2⟩ := h
    by_cases hle : m ≤ o.t
    ·exact ⟨o, by simp, e.symm, by simp [maxO]; omega⟩
    ·exact ⟨p, by simp [hp], hc, by simp [maxO]; omega⟩
  ·rcases List.mem_append.1 hp with hp | hp
   ·cases x with
    | none => exact absurd hc (h p hp)
    | some m =>
     have := h.2 p hp hc
     simp [maxO]; omega
   ·obtain rfl : p = o := by simpa using hp
    simp [maxO]; omega
 ·rw [if_neg e]
  cases x with
  | none =>
   intro p hp hc
   rcases List.mem_append.1 hp with hp | hp
   ·exact h p hp hc
   ·obtain rfl : p = o := by simpa using hp
    exact e hc.symm
  | some m =>
   refine ⟨?_, fun p hp hc => ?_⟩
   ·obtain ⟨p, hp, hh⟩ := h.1
    exact ⟨p, by simp [hp], hh⟩
   ·rcases List.mem_append.1 hp with hp | hp
    ·exact h.2 p hp hc
    ·obtain rfl : p = o := by simpa using hp
     exact absurd hc.symm e
theorem sumTo_lim {v : V} (h : ∀ i, i < 16 → v.at_ i ≤ 1048576) : ∀ k, k ≤ 16 → V.sumTo v k ≤ k * 1048576
 | 0, _ => by simp [V.sumTo]
 | k + 1, hk => by have := sumTo_lim h k (by omega); have := h k (by omega); simp only [V.sumTo]; omega
structure Spec (s : Sta) (l : List O) : Prop where
 v : Kn s.v l
 kn : ∀ p ∈ l, ∀ r q, V.hasB p.v r q = true → V.hasB s.v r q = true
 es : ∀ e, e ∈ s.es ↔ ∃ o ∈ l, o.laysB = true ∧ e = En.made o ∧ ∀ p ∈ l, O.endsB p e.maker = false
 ts : ∀ c, TkIs (tkOf s.ts c) l c
 right : s.Right
theorem Spec.zero : Spec Sta.zero [] := by
 refine ⟨Kn.zero, by simp, fun e => by simp [Sta.zero], fun c => by simp [TkIs, Sta.zero, tkOf], ⟨by decide, ⟨by simp [Sta.zero], by simp [Sta.zero]⟩, by simp [Sta.zero], by simp [Sta.zero], by simp [Sta.zero]⟩⟩
theorem hasB_mono {a b : V} (h : ∀ i, i < 16 → a.at_ i ≤ b.at_ i) {r s : Nat} (hh : V.hasB a r s = true) : V.hasB b r s = true := by
 rw [hasB_iff] at hh ⊢
 have := h r hh.1
 omega
theorem ends_has {p : O} {e : En} (h : O.endsB p e.maker = true) : V.hasB p.v e.r e.s = true := by
 unfold O.endsB at h
 rw [decide_eq_true_eq] at h
 exact h.2.2.1
theorem mem_applyE {l : List En} {o : O} {e : En} : e ∈ applyE l o ↔ (o.laysB = true ∧ e = En.made o) ∨ (e ∈ l ∧ O.endsB o e.maker = false) := by
 have hl : e ∈ leftE l o ↔ e ∈ l ∧ O.endsB o e.maker = false := by
  unfold leftE
  rw [List.mem_filter]
  simp
 unfold applyE
 split
 ·rename_i h
  rw [mem_putE, hl]
  simp [h]
 ·rename_i h
  rw [hl]
  simp [h]
theorem Spec.step {s : Sta} {l : List O} {o : O} (h : Spec s l) (hr : O.readyE s.v o = 0) : Spec (applyS s o) (l ++ [o]) := by
 have R := rdy hr
 have hkn := h.v.put hr
 have hnew : V.hasB s.v o.r o.s = false := ((ready_iff _ _).1 hr).2.1
 have hown : V.hasB o.v o.r o.s = false := by
  rw [← Bool.not_eq_true, hasB_iff]
  have := R.own
  omega
 have hup : ∀ r q, V.hasB s.v r q = true → V.hasB (V.put s.v o.r o.s) r q = true := fun r q hh => by
  obtain ⟨p, hp, hd⟩ := (h.v.has r q).1 hh
  exact (hkn.has r q).2 ⟨p, by simp [hp], hd⟩
 have hes : ∀ e, e ∈ (applyS s o).es ↔ ∃ q ∈ l ++ [o], q.laysB = true ∧ e = En.made q ∧ ∀ p ∈ l ++ [o], O.endsB p e.maker = false := fun e => by
  show e ∈ applyE s.es o ↔ _
  rw [mem_applyE]
  constructor
  ·rintro (⟨h1, rfl⟩ | ⟨h1, h2⟩)
   ·refine ⟨o, by simp, h1, rfl, fun p hp => ?_⟩
    rw [← Bool.not_eq_true]
    intro he
    have hh := ends_has he
    rcases List.mem_append.1 hp with hp | hp
    ·have := h.kn p hp _ _ hh
     have h9 : V.hasB s.v o.r o.s = true := this
     rw [hnew] at h9
     cases h9
    ·obtain rfl : p = o := by simpa using hp
     have h9 : V.hasB p.v p.r p.s = true := hh
     rw [hown] at h9
     cases h9
   ·obtain ⟨q, hq, h3, h4, h5⟩ := (h.es e).1 h1
    refine ⟨q, by simp [hq], h3, h4, fun p hp => ?_⟩
    rcases List.mem_append.1 hp with hp | hp
    ·exact h5 p hp
    ·obtain rfl : p = o := by simpa using hp
     exact h2
  ·rintro ⟨q, hq, h3, h4, h5⟩
   rcases List.mem_append.1 hq with hq | hq
   ·exact .inr ⟨(h.es e).2 ⟨q, hq, h3, h4, fun p hp => h5 p (by simp [hp])⟩, h5 o (by simp)⟩
   ·obtain rfl : q = o := by simpa using hq
    exact .inl ⟨h3, h4⟩
 have hts : ∀ c, TkIs (tkOf (applyS s o).ts c) (l ++ [o]) c := fun c => by
  show TkIs (tkOf (ticked (tickO o) s.ts) c) _ c
  rw [tkOf_ticked h.right.ts.up c]
  exact (h.ts c).step o
 refine ⟨hkn, fun p hp r q hh => ?_, hes, hts, ?_⟩
 ·rcases List.mem_append.1 hp with hp | hp
  ·exact hup r q (h.kn p hp r q hh)
  ·obtain rfl : p = o := by simpa using hp
   exact hup r q (hasB_mono R.le hh)
 ·have hunl : ∀ y ∈ s.es, ¬ (y.r = o.r ∧ y.s = o.s) := fun y hy ⟨e1, e2⟩ => by
   have := (h.right.has y hy).2.1
   rw [e1, e2, hnew] at this
   cases this
  have hleft : ∀ y ∈ leftE s.es o, y ∈ s.es := fun y hy => (List.mem_filter.1 hy).1
  refine ⟨?_, ⟨ticked_le R.t h.right.ts.le, ticked_up h.right.ts.up⟩, fun e he => ?_, ?_, ?_⟩
  ·show V.rightB (V.put s.v o.r o.s) 16 = true
   unfold V.rightB
   rw [Bool.and_eq_true, V.rightTo_iff]
   exact ⟨by decide, fun i hi => ⟨hkn.lim i hi, fun h => by omega⟩⟩
  ·have hc : (∃ t ∈ (applyS s o).ts, t.c = e.c) ↔ e.c = o.c ∨ ∃ t ∈ s.ts, t.c = e.c := by
    rw [← tkOf_some, ← tkOf_some]
    show (tkOf (ticked (tickO o) s.ts) e.c).isSome = true ↔ _
    rw [tkOf_ticked h.right.ts.up e.c]
    by_cases ec : e.c = (tickO o).c
    ·rw [if_pos ec]
     have ec2 : e.c = o.c := ec
     simp [ec2]
    ·rw [if_neg ec]
     have ec2 : ¬ e.c = o.c := ec
     simp [ec2]
   rcases mem_applyE.1 he with ⟨h1, rfl⟩ | ⟨h1, h2⟩
   ·refine ⟨hc.2 (.inl rfl), (hkn.has _ _).2 ⟨o, by simp, rfl, rfl⟩, ?_, ?_⟩
    ·have hk := R.k
     unfold O.kindB at hk
     unfold O.laysB at h1
     rw [decide_eq_true_eq] at hk h1
     unfold En.shapedB
     rw [decide_eq_true_eq]
     show (o.k = 1 ∧ 1 ≤ o.q) ∨ o.k = 2 ∨ (o.k = 4 ∧ o.i = 0 ∧ o.q = 0)
     clear hc hts hes
     omega
    ·have := sumTo_lim R.lim 16 (Nat.le_refl _)
     show 1 ≤ o.count ∧ o.count ≤ 16777217
     unfold O.count V.sum
     omega
   ·obtain ⟨k1, k2, k3⟩ := h.right.has e h1
    exact ⟨hc.2 (.inr k1), hup _ _ k2, k3⟩
  ·show (applyE s.es o).Pairwise En.Ahead
   have hf : (leftE s.es o).Pairwise En.Ahead := h.right.ord.sublist List.filter_sublist
   unfold applyE
   split
   ·exact putE_ord hf fun y hy hlike => hunl y (hleft y hy) ⟨hlike.2.1.symm, hlike.2.2.symm⟩
   ·exact hf
  ·show (applyE s.es o).Pairwise fun a b => ¬ (a.r = b.r ∧ a.s = b.s)
   have hf : (leftE s.es o).Pairwise fun a b => ¬ (a.r = b.r ∧ a.s = b.s) := h.right.one.sublist List.filter_sublist
   unfold applyE
   split
   ·refine (List.Perm.pairwise_iff (fun {a b} hab => fun hh => hab ⟨hh.1.symm, hh.2.symm⟩) (putE_perm (En.made o) (leftE s.es o))).2 ?_
    exact List.pairwise_cons.2 ⟨fun y hy hh => hunl y (hleft y hy) ⟨hh.1.symm, hh.2.symm⟩, hf⟩
   ·exact hf
theorem spec_run : ∀ {l P : List O} {s : Sta}, Runs s.v l → Spec s P → Spec (stOf s l) (P ++ l)
 | [], P, s, _, h => by simpa [stOf] using h
 | o :: l, P, s, hr, h => by
  have h1 := h.step hr.1
  have h2 := spec_run (s := applyS s o) hr.2 h1
  simpa [stOf] using h2
theorem spec_of {l : List O} (h : Runs V.zero l) : Spec (stOf Sta.zero l) l := by simpa using spec_run (s := Sta.zero) h Spec.zero
theorem sub_len {α : Type} [DecidableEq α] : ∀ {l l2 : List α}, l.Nodup → (∀ x ∈ l, x ∈ l2) → l.length ≤ l2.length
 | [], _, _, _ => Nat.zero_le _
 | x :: l, l2, hn, hs => by
  have hx := hs x (by simp)
  have hc := List.nodup_cons.1 hn
  have := sub_len (l := l) (l2 := l2.erase x) hc.2 (fun y hy => (List.mem_erase_of_ne (by rintro rfl; exact hc.1 hy)).2 (hs y (List.mem_cons_of_mem _ hy)))
  rw [List.length_erase_of_mem hx] at this
  have h0 := List.length_pos_of_mem hx
  simp only [List.length_cons]
  omega
theorem Spec.len {s : Sta} {l : List O} (h : Spec s l) : s.es.length ≤ l.length ∧ s.ts.length ≤ l.length := by
 constructor
 ·have h1 := sub_len (l := s.es) (l2 := l.map En.made) (h.right.ord.imp (fun {a b} hab e => by subst e; exact En.Ahead.irrefl _ hab)) (fun e he => by
   obtain ⟨o, ho, _, rfl, _⟩ := (h.es e).1 he
   exact List.mem_map_of_mem ho)
  simpa using h1
 ·have h1 := sub_len (l := s.ts.map (·.c)) (l2 := l.map O.c) (List.pairwise_map.2 (h.right.ts.up.imp fun hab => by omega)) (fun c hc => by
   obtain ⟨t, ht, rfl⟩ := List.mem_map.1 hc
   have h2 := h.ts t.c
   have h3 : (tkOf s.ts t.c).isSome = true := tkOf_some.2 ⟨t, ht, rfl⟩
   cases hk : tkOf s.ts t.c with
   | none => rw [hk] at h3; cases h3
   | some m =>
    rw [hk] at h2
    obtain ⟨⟨o, ho, hoc, _⟩, _⟩ := h2
    exact List.mem_map.2 ⟨o, ho, hoc⟩)
  simpa using h1
end Go.Proofs.YtnekpgmgnepdoaaGreat
end
section
namespace Go.Proofs.YtnekpgmgnepdoaaGreat
open Go.RowKit Fold
structure Hist (l : List O) : Prop where
 few : l.length ≤ 40
 closed : Closed l
 runs : Runs V.zero l
 above : ∀ o ∈ l, ∀ p ∈ l, V.hasB o.v p.r p.s = true → V.belowB p.v o.v = true
def vecOf (v : V) : List O → V
 | [] => v
 | o :: l => vecOf (V.put v o.r o.s) l
theorem runs_app : ∀ {l m : List O} {v : V}, Runs v (l ++ m) ↔ Runs v l ∧ Runs (vecOf v l) m
 | [], _, _ => by simp [Runs, vecOf]
 | o :: l, m, v => by
  show (O.readyE v o = 0 ∧ Runs _ (l ++ m)) ↔ (O.readyE v o = 0 ∧ Runs _ l) ∧ Runs (vecOf (V.put v o.r o.s) l) m
  rw [runs_app (l := l) (m := m), and_assoc]
theorem vecOf_app : ∀ {l m : List O} {v : V}, vecOf v (l ++ m) = vecOf (vecOf v l) m
 | [], _, _ => rfl
 | _ :: l, _, _ => vecOf_app (l := l)
structure RunTo (l : List O) (k : Nat) (v : V) : Prop where
 runs : Runs V.zero (l.take k)
 vec : vecOf V.zero (l.take k) = v
theorem RunTo.start (l : List O) : RunTo l 0 V.zero := ⟨by simp [Runs], by simp [vecOf]⟩
theorem RunTo.step {l : List O} {k : Nat} {v : V} {x : O} (h : RunTo l k v) (hx : l[k]? = some x) (hr : O.readyE v x = 0) : RunTo l (k + 1) (V.put v x.r x.s) := by
 have e : l.take (k + 1) = l.take k ++ [x] := by rw [List.take_add_one, hx]; rfl
 refine ⟨?_, ?_⟩
 ·rw [e, runs_app, h.vec]; exact ⟨h.runs, hr, trivial⟩
 ·rw [e, vecOf_app, h.vec]; rfl
theorem RunTo.no {l : List O} {k : Nat} {v : V} {x : O} (h : RunTo l k v) (hx : l[k]? = some x) (hr : ¬ O.readyE v x = 0) : ¬ Runs V.zero l := fun hh => by
 have e : l = l.take k ++ x :: l.drop (k + 1) := by
  have h1 := (List.getElem?_eq_some_iff.1 hx)
  have h2 : l.drop k = x :: l.drop (k + 1) := by rw [List.drop_eq_getElem_cons h1.1, h1.2]
  rw [← h2, List.take_append_drop]
 rw [e, runs_app, h.vec] at hh
 exact hr hh.2.1
theorem mem_take_succ {l : List O} {k : Nat} {x y : O} (hx : l[k]? = some x) (hy : y ∈ l.take (k + 1)) : y ∈ l.take k ∨ y = x := by
 rw [List.take_add_one, hx] at hy
 rcases List.mem_append.1 hy with h | h
 ·exact .inl h
 ·exact .inr (by simpa using h)
structure HvW (w W : World) (pk : Nat) (v : V) : Prop where
 kv : Blk W pk 24 v.arr
 old : Below w.heap.size w W
theorem HvW.below {w W W' : World} {pk : Nat} {v : V} (h : HvW w W pk v) (hb : Below W.heap.size W W') : HvW w W' pk v := ⟨h.kv.below hb, h.old.trans (hb.mono h.old.size)⟩
set_option maxRecDepth 100000 in
set_option maxHeartbeats 16000000 in
theorem hist_any {a : Option Addr} {n cap : Nat} {l : List O} {w : World} (hl : OL w a n l) (hn : n < 9223372036854775808) (hcap : n ≤ cap) : Calls Tryz.prog 29 #[.slice a n cap] w (SaysIff (Hist l) w) := by
 have HL := Lib.hid hl
 have HLEN := Lib.hid hl.len'
 obtain ⟨z, hz⟩ : ∃ z, V.zero = z := ⟨_, rfl⟩
 have HZ := Lib.hid hz
 obtain ⟨zo, hzo⟩ : ∃ z, O.zero = z := ⟨_, rfl⟩
 have HZO := Lib.hid hzo
 clear hl hz hzo
 by_cases h40 : 40 < n
 ·have q : decide ((40 : Int) < (n : Int)) = true := by simp; omega
  have HE : Hid (¬ Hist l) := Lib.hid (fun h => by have := h.few; have := HLEN.out; omega)
  clear h40
  go_enter Tryz.func29, Tryz.ntmps29
  go_wp2_with fail
  go_ret
  exact ⟨false, rfl, ⟨fun h => (by cases h), fun h => absurd h HE.out⟩, Below.refl _ _⟩
 have q : decide ((40 : Int) < (n : Int)) = false := by simp; omega
 have hn40 : n ≤ 40 := by omega
 have HN : Hid (n ≤ 40) := Lib.hid hn40
 clear h40 hn
 go_enter Tryz.func29, Tryz.ntmps29
 go_wp2_with fail
 refine (refclosed_any HL.out (by have := HN.out; omega) hcap).mono ?_
 rintro e w1 ⟨b, rfl, hbb, hb⟩
 have HB1 := Lib.hid hb
 clear hb q
 cases b
 ·have HE : Hid (¬ Hist l) := Lib.hid (fun h => by have := hbb.2 h.closed; cases this)
  clear hbb
  go_wp2_with fail
  go_ret
  exact ⟨false, rfl, ⟨fun h => (by cases h), fun h => absurd h HE.out⟩, HB1.out⟩
 have HCL := Lib.hid (hbb.1 rfl)
 clear hbb
 go_wp2_with (refine wpList_alloc24 HZ.out rfl rfl ?_)
 have HV0 : Hid (HvW w (w1.alloc (.cells z.arr 24)) w1.heap.size z) := Lib.hid ⟨Blk.new w1 24 _, HB1.out.trans ((below_one w1 _).mono HB1.out.size)⟩
 have HPW : Hid (w.heap.size ≤ w1.heap.size) := Lib.hid HB1.out.size
 clear HB1
 generalize w1.alloc (.cells z.arr 24) = w2 at HV0 ⊢
 generalize w1.heap.size = pk at HV0 HPW ⊢
 go_loopw [20] (fun iv W => ∃ (k : Nat) (v : V), k ≤ n ∧ iv = .int .i64 (k : Int) ∧ Hid (RunTo l k v) ∧ Hid (HvW w W pk v)) (fun iv _ => n - (intOf iv).toNat)
 case atStart => exact ⟨0, z, Nat.zero_le _, rfl, Lib.hid (HZ.out ▸ RunTo.start l), HV0⟩
 case round =>
  obtain ⟨k, v, hk, rfl, HR, HV⟩ := hrel
  clear HV0
  by_cases hlt : k < n
  ·obtain ⟨g, off, x, rfl, hx, hr⟩ := OL.at (HL.out.below HV.out.old) hlt
   have HX := Lib.hid hx
   have HRW := Lib.hid hr
   clear hx hr
   go_wp2_with (first | (refine wpList_run rfl (exec_idxO (i := k) rfl rfl rfl rfl hlt) ?_) | (refine wpList_run rfl (exec_ldO (p := x) rfl rfl HRW.out) ?_) | (refine wpList_run rfl (exec_alloc33z HZO.out rfl) ?_) | (refine wpList_stop33 rfl ?_))
   refine ⟨?_⟩
   refine wpList_void rfl rfl (exec_store33 (p := zo) (u := x) rfl rfl rfl (Blk.new wr 33 zo.arr)) ?_
   have hbo := bo_laid wr 33 zo.arr x.arr
   have HV1 := Lib.hid (HV.out.below hbo.old)
   have HX1 := Lib.hid hbo.one
   have HPX : Hid (pk < wr.heap.size) := Lib.hid HV.out.kv.lt
   clear hbo HV HRW
   generalize (wr.alloc (.cells zo.arr 33)).setRow wr.heap.size x.arr = w3 at HV1 HX1 ⊢
   generalize wr.heap.size = px at HX1 HPX ⊢
   go_wp2_with (first | (refine wpList_run rfl (exec_load24 (v := v) rfl rfl HV1.out.kv) ?_) | (refine wpList_run rfl (exec_load33 (p := x) rfl rfl HX1.out) ?_))
   refine (rready_any v x w3).mono ?_
   rintro e w4 ⟨rfl, hb⟩
   have HV2 := Lib.hid (HV1.out.below hb)
   have HX2 := Lib.hid (HX1.out.below hb)
   clear hb HV1 HX1
   obtain ⟨er, her⟩ : ∃ er, O.readyE v x = er := ⟨_, rfl⟩
   have HER := Lib.hid her
   rw [her]
   clear her
   by_cases h0 : er = 0
   ·subst h0
    have HRD := Lib.hid (rdy HER.out)
    have HRT := Lib.hid (HR.out.step HX.out HER.out)
    have c0 := oc0 HX2.out
    have c1 := oc1 HX2.out
    go_wp2_with (first | (refine wpList_run rfl (exec_index24 (j := x.r) rfl rfl rfl HRD.out.r) ?_) | (refine wpList_stopT rfl ?_))
    refine ⟨?_⟩
    refine wpList_void rfl rfl (exec_st22 (n := x.s) rfl rfl rfl HV2.out.kv (by rw [V.arr16]; exact HRD.out.r)) ?_
    have HV3 : Hid (HvW w (w4.setCell ⟨pk, x.r, none⟩ (.int .u32 (x.s : Int))) pk (V.put v x.r x.s)) := Lib.hid (by
     have hk := Kept.setCell w4 ⟨pk, x.r, none⟩ (.int .u32 (x.s : Int))
     have hv := HV2.out.kv.set x.r (.int .u32 (x.s : Int))
     rw [V.arr_put v HRD.out.r x.hs] at hv
     exact ⟨hv, HV2.out.old.trans (hk.below HV2.out.old.size (fun k hk => by have := HPW.out; simp only at hk; omega))⟩)
    clear HV2 HX2 c0 c1
    generalize w4.setCell ⟨pk, x.r, none⟩ (.int .u32 (x.s : Int)) = w5 at HV3 ⊢
    go_wp2_with fail
    go_roundw
    case rel => exact ⟨k + 1, _, hlt, by go_num, HRT, HV3⟩
    case measure => simp [intOf]; omega
   ·have HE : Hid (¬ Hist l) := Lib.hid (fun h => HR.out.no HX.out (by rw [HER.out]; exact h0) h.runs)
    have q1 : ((er : Int) != 0) = true := by simp; omega
    clear h0
    go_wp2_with fail
    go_ret
    exact ⟨false, rfl, ⟨fun h => (by cases h), fun h => absurd h HE.out⟩, HV2.out.old⟩
  ·have HRUN : Hid (Runs V.zero l) := Lib.hid (by have h := HR.out.runs; rwa [List.take_of_length_le (by rw [HLEN.out]; omega)] at h)
   have HB4 := Lib.hid HV.out.old
   clear HR HV
   go_wp2_with fail
   go_loopw [38] (fun iv W => ∃ k : Nat, k ≤ n ∧ iv = .int .i64 (k : Int) ∧ Hid (∀ o ∈ l.take k, ∀ p ∈ l, V.hasB o.v p.r p.s = true → V.belowB p.v o.v = true) ∧ Hid (Below w.heap.size w W)) (fun iv _ => n - (intOf iv).toNat)
   case atStart => exact ⟨0, Nat.zero_le _, rfl, Lib.hid (by simp), HB4⟩
   case round =>
    obtain ⟨k2, hk2, rfl, HA, HB⟩ := hrel
    clear HB4
    by_cases hlt2 : k2 < n
    ·obtain ⟨g, off, x, rfl, hx, hr⟩ := OL.at (HL.out.below HB.out) hlt2
     have HX := Lib.hid hx
     have HRW := Lib.hid hr
     clear hx hr
     go_wp2_with (first | (refine wpList_run rfl (exec_idxO (i := k2) rfl rfl rfl rfl hlt2) ?_) | (refine wpList_run rfl (exec_ldO (p := x) rfl rfl HRW.out) ?_) | (refine wpList_run rfl (exec_alloc33z HZO.out rfl) ?_) | (refine wpList_stop33 rfl ?_))
     refine ⟨?_⟩
     refine wpList_void rfl rfl (exec_store33 (p := zo) (u := x) rfl rfl rfl (Blk.new wr 33 zo.arr)) ?_
     have hbo := bo_laid wr 33 zo.arr x.arr
     have HB1 := Lib.hid (HB.out.trans (hbo.old.mono HB.out.size))
     have HX1 := Lib.hid hbo.one
     clear hbo HB HRW
     generalize (wr.alloc (.cells zo.arr 33)).setRow wr.heap.size x.arr = w3 at HB1 HX1 ⊢
     generalize wr.heap.size = px at HX1 ⊢
     go_wp2_with fail
     go_loopw [44] (fun jv W => ∃ j : Nat, j ≤ n ∧ jv = .int .i64 (j : Int) ∧ Hid (∀ p ∈ l.take j, V.hasB x.v p.r p.s = true → V.belowB p.v x.v = true) ∧ Hid (Blk W px 33 x.arr) ∧ Hid (Below w.heap.size w W)) (fun jv _ => n - (intOf jv).toNat)
     case atStart => exact ⟨0, Nat.zero_le _, rfl, Lib.hid (by simp), HX1, HB1⟩
     case round =>
      obtain ⟨j, hj, rfl, HAJ, HX2, HB2⟩ := hrel
      clear HX1 HB1
      by_cases hlt3 : j < n
      ·obtain ⟨g3, off3, y, e3, hy, hr⟩ := OL.at (HL.out.below HB2.out) hlt3
       obtain ⟨rfl, rfl⟩ : g = g3 ∧ off = off3 := by cases e3; exact ⟨rfl, rfl⟩
       have HY := Lib.hid hy
       have HRW := Lib.hid hr
       clear hy hr e3
       go_wp2_with (first | (refine wpList_run rfl (exec_idxO (i := j) rfl rfl rfl rfl hlt3) ?_) | (refine wpList_run rfl (exec_ldO (p := y) rfl rfl HRW.out) ?_) | (refine wpList_run rfl (exec_alloc33z HZO.out rfl) ?_) | (refine wpList_stop33 rfl ?_))
       refine ⟨?_⟩
       refine wpList_void rfl rfl (exec_store33 (p := zo) (u := y) rfl rfl rfl (Blk.new wr 33 zo.arr)) ?_
       have hbo := bo_laid wr 33 zo.arr y.arr
       have HB3 := Lib.hid (HB2.out.trans (hbo.old.mono HB2.out.size))
       have HX3 := Lib.hid (HX2.out.below hbo.old)
       have HY3 := Lib.hid hbo.one
       clear hbo HB2 HX2 HRW
       generalize (wr.alloc (.cells zo.arr 33)).setRow wr.heap.size y.arr = w5 at HB3 HX3 HY3 ⊢
       generalize wr.heap.size = py at HY3 ⊢
       go_wp2_with (first | (refine wpList_run rfl (exec_ctx (p := x) rfl rfl HX3.out) ?_) | (refine wpList_run rfl (exec_dot (p := y) rfl rfl HY3.out) ?_))
       refine (rhas_any x.v y.r y.s w5 y.hr y.hs).mono ?_
       rintro e w6 ⟨rfl, hb⟩
       have HB4 := Lib.hid (HB3.out.trans (hb.mono HB3.out.size))
       have HX4 := Lib.hid (HX3.out.below hb)
       have HY4 := Lib.hid (HY3.out.below hb)
       clear hb HB3 HX3 HY3
       obtain ⟨hh, hhe⟩ : ∃ b, V.hasB x.v y.r y.s = b := ⟨_, rfl⟩
       have HHE := Lib.hid hhe
       rw [hhe]
       clear hhe
       cases hh
       ·have HAJ2 : Hid (∀ p ∈ l.take (j + 1), V.hasB x.v p.r p.s = true → V.belowB p.v x.v = true) := Lib.hid (fun p hp hh => by
         rcases mem_take_succ HY.out hp with h | rfl
         ·exact HAJ.out p h hh
         ·rw [HHE.out] at hh; cases hh)
        go_wp2_with fail
        go_roundw
        case rel => exact ⟨j + 1, hlt3, by go_num, HAJ2, HX4, HB4⟩
        case measure => simp [intOf]; omega
       ·go_wp2_with (first | (refine wpList_runW (exec_ctx (p := y) rfl rfl HY4.out) (by kernel_rfl) ?_) | (refine wpList_runW (exec_ctx (p := x) rfl rfl HX4.out) (by kernel_rfl) ?_))
        refine (rbelow_any y.v x.v w6).mono ?_
        rintro e w7 ⟨rfl, hb⟩
        have HB5 := Lib.hid (HB4.out.trans (hb.mono HB4.out.size))
        have HX5 := Lib.hid (HX4.out.below hb)
        clear hb HB4 HX4 HY4
        obtain ⟨bl, hbl⟩ : ∃ b, V.belowB y.v x.v = b := ⟨_, rfl⟩
        have HBL := Lib.hid hbl
        rw [hbl]
        clear hbl
        cases bl
        ·have HE : Hid (¬ Hist l) := Lib.hid (fun h => by
          have := h.above x (List.mem_of_getElem? HX.out) y (List.mem_of_getElem? HY.out) HHE.out
          rw [HBL.out] at this
          cases this)
         go_wp2_with fail
         go_ret
         exact ⟨false, rfl, ⟨fun h => (by cases h), fun h => absurd h HE.out⟩, HB5.out⟩
        ·have HAJ2 : Hid (∀ p ∈ l.take (j + 1), V.hasB x.v p.r p.s = true → V.belowB p.v x.v = true) := Lib.hid (fun p hp hh => by
          rcases mem_take_succ HY.out hp with h | rfl
          ·exact HAJ.out p h hh
          ·exact HBL.out)
         go_wp2_with fail
         go_roundw
         case rel => exact ⟨j + 1, hlt3, by go_num, HAJ2, HX5, HB5⟩
         case measure => simp [intOf]; omega
      ·have HA2 : Hid (∀ o ∈ l.take (k2 + 1), ∀ p ∈ l, V.hasB o.v p.r p.s = true → V.belowB p.v o.v = true) := Lib.hid (fun o ho p hp hh => by
        rcases mem_take_succ HX.out ho with h | rfl
        ·exact HA.out o h p hp hh
        ·exact HAJ.out p (by rw [List.take_of_length_le (by rw [HLEN.out]; omega)]; exact hp) hh)
       go_wp2_with fail
       go_roundw
       case rel => exact ⟨k2 + 1, hlt2, by go_num, HA2, HB2⟩
       case measure => simp [intOf]; omega
    ·have HE : Hid (Hist l) := Lib.hid ⟨by rw [HLEN.out]; exact HN.out, HCL.out, HRUN.out, fun o ho => HA.out o (by rw [List.take_of_length_le (by rw [HLEN.out]; omega)]; exact ho)⟩
     go_wp2_with fail
     go_ret
     exact ⟨true, rfl, ⟨fun _ => HE.out, fun _ => rfl⟩, HB.out⟩
end Go.Proofs.YtnekpgmgnepdoaaGreat
end
section
namespace Go.Proofs.YtnekpgmgnepdoaaGreat
open Go.RowKit
theorem runs_split : ∀ {l m : List O} {s : Sta}, Runs s.v (l ++ m) → Runs s.v l ∧ Runs (stOf s l).v m
 | [], _, _, h => ⟨trivial, h⟩
 | o :: l, m, s, h => by
  obtain ⟨h1, h2⟩ := runs_split (l := l) (s := applyS s o) h.2
  exact ⟨⟨h.1, h1⟩, h2⟩
theorem stOf_app (s : Sta) (l : List O) (o : O) : stOf s (l ++ [o]) = applyS (stOf s l) o := by
 unfold stOf; rw [List.foldl_append]; rfl
theorem appS_of {s : Sta} {o : O} (hr : s.Right) (h : O.readyE s.v o = 0) : appE s o = 0 ∧ appS s o = applyS s o := by
 have e : appE s o = 0 := by unfold appE; rw [if_pos hr]; exact h
 exact ⟨e, by unfold appS; rw [if_pos e]⟩
structure StTo (l : List O) (k : Nat) (s : Sta) : Prop where
 st : stOf Sta.zero (l.take k) = s
 spec : Spec s (l.take k)
theorem StTo.start (l : List O) : StTo l 0 Sta.zero := ⟨by simp [stOf], by simpa using Spec.zero⟩
theorem StTo.ready {l : List O} {k : Nat} {s : Sta} {x : O} (h : StTo l k s) (hr : Runs V.zero l) (hx : l[k]? = some x) : O.readyE s.v x = 0 := by
 have h1 := (List.getElem?_eq_some_iff.1 hx)
 have h2 : l.drop k = x :: l.drop (k + 1) := by rw [List.drop_eq_getElem_cons h1.1, h1.2]
 have e : l = l.take k ++ x :: l.drop (k + 1) := by rw [← h2, List.take_append_drop]
 have h3 : Runs Sta.zero.v (l.take k ++ x :: l.drop (k + 1)) := e ▸ hr
 have := (runs_split (s := Sta.zero) h3).2
 rw [h.st] at this
 exact this.1
theorem StTo.step {l : List O} {k : Nat} {s : Sta} {x : O} (h : StTo l k s) (hr : Runs V.zero l) (hx : l[k]? = some x) : StTo l (k + 1) (applyS s x) := by
 have e : l.take (k + 1) = l.take k ++ [x] := by rw [List.take_add_one, hx]; rfl
 exact ⟨by rw [e, stOf_app, h.st], by rw [e]; exact h.spec.step (h.ready hr hx)⟩
def AllP (l : List O) (w : World) (e : Ending) (w' : World) : Prop :=
 ∃ a n c b m d, e = .returned (.tuple #[.agg (sv (stOf Sta.zero l).v a n c b m d), .bool true]) ∧ SL w' (stOf Sta.zero l) a n b m ∧ Below w.heap.size w w'
structure AlW (w W : World) (pr ps : Nat) (z : V) (s : Sta) (a : Option Addr) (n c : Nat) (b : Option Addr) (m d : Nat) : Prop where
 kr : Blk W pr 39 (sv z none 0 0 none 0 0)
 ks : Blk W ps 39 (sv s.v a n c b m d)
 sl : SL W s a n b m
 old : Below w.heap.size w W
 far : (∀ ad, a = some ad → n ≠ 0 → ps < ad.block) ∧ ∀ ad, b = some ad → m ≠ 0 → ps < ad.block
theorem AlW.below {w W W' : World} {pr ps : Nat} {z : V} {s : Sta} {a : Option Addr} {n c : Nat} {b : Option Addr} {m d : Nat} (h : AlW w W pr ps z s a n c b m d) (hb : Below W.heap.size W W') : AlW w W' pr ps z s a n c b m d :=
 ⟨h.kr.below hb, h.ks.below hb, h.sl.below hb, h.old.trans (hb.mono h.old.size), h.far⟩
set_option maxRecDepth 100000 in
set_option maxHeartbeats 16000000 in
theorem all_any {a : Option Addr} {n cap : Nat} {l : List O} {w : World} (hl : OL w a n l) (hn : n ≤ 40) (hr : Runs V.zero l) : Calls Tryz.prog 30 #[.slice a n cap] w (AllP l w) := by
 have HL := Lib.hid hl
 have HLEN := Lib.hid hl.len'
 have HRUN := Lib.hid hr
 obtain ⟨z, hz⟩ : ∃ z, V.zero = z := ⟨_, rfl⟩
 have HZ := Lib.hid hz
 obtain ⟨zo, hzo⟩ : ∃ z, O.zero = z := ⟨_, rfl⟩
 have HZO := Lib.hid hzo
 obtain ⟨s0, hs0⟩ : ∃ s, Sta.zero = s := ⟨_, rfl⟩
 have HZV : Hid (s0.v = z) := Lib.hid (by rw [← hs0]; exact hz)
 have HS0 : Hid (StTo l 0 s0) := Lib.hid (hs0 ▸ StTo.start l)
 have HSE : Hid (s0.es = [] ∧ s0.ts = []) := Lib.hid (by rw [← hs0]; exact ⟨rfl, rfl⟩)
 clear hl hr hz hzo hs0
 go_enter Tryz.func30, Tryz.ntmps30
 go_upto_region 2 with (refine wpList_run rfl (exec_alloc39z HZ.out rfl) ?_)
 have HA0 : Hid (AlW w ((w.alloc (.cells (sv z none 0 0 none 0 0) 39)).alloc (.cells (sv z none 0 0 none 0 0) 39)) w.heap.size (w.heap.size + 1) z s0 none 0 0 none 0 0) := Lib.hid ⟨(Blk.new w 39 _).below (below_one _ _), by have h := Blk.new (w.alloc (.cells (sv z none 0 0 none 0 0) 39)) 39 (sv z none 0 0 none 0 0); rw [World.size_alloc] at h; rw [HZV.out]; exact h, ⟨by rw [HSE.out.1]; exact GL.nil _ _ _, by rw [HSE.out.2]; exact GL.nil _ _ _⟩, below_2 _ _ _, ⟨fun _ h => (by cases h), fun _ h => (by cases h)⟩⟩
 try simp only [World.size_alloc]
 generalize (w.alloc (.cells (sv z none 0 0 none 0 0) 39)).alloc (.cells (sv z none 0 0 none 0 0) 39) = w0 at HA0 ⊢
 obtain ⟨pr, hpr⟩ : ∃ p, w.heap.size = p := ⟨_, rfl⟩
 obtain ⟨ps, hps⟩ : ∃ p, pr + 1 = p := ⟨_, rfl⟩
 have HPS : Hid (w.heap.size = pr ∧ pr + 1 = ps) := Lib.hid ⟨hpr, hps⟩
 rw [hpr, hps] at HA0
 rw [hpr, hps]
 clear hpr hps
 go_wp2_with fail
 go_loopw [11] (fun iv W => ∃ (k : Nat) (s : Sta) (a1 : Option Addr) (n1 c1 : Nat) (b1 : Option Addr) (m1 d1 : Nat), k ≤ n ∧ iv = .int .i64 (k : Int) ∧ Hid (StTo l k s) ∧ Hid (AlW w W pr ps z s a1 n1 c1 b1 m1 d1)) (fun iv _ => n - (intOf iv).toNat)
 case atStart => exact ⟨0, s0, none, 0, 0, none, 0, 0, Nat.zero_le _, rfl, HS0, HA0⟩
 case round =>
  obtain ⟨k, s, a1, n1, c1, b1, m1, d1, hk, rfl, HST, HA⟩ := hrel
  clear HA0 HS0
  by_cases hlt : k < n
  ·obtain ⟨g, off, x, rfl, hx, hrw⟩ := OL.at (HL.out.below HA.out.old) hlt
   have HX := Lib.hid hx
   have HRW := Lib.hid hrw
   clear hx hrw
   have hn1 : n1 < 100 := by have h1 := HA.out.sl.es.len'; have h2 := HST.out.spec.len.1; rw [List.length_take] at h2; omega
   have hm1 : m1 < 200000 := by have h1 := HA.out.sl.ts.len'; have h2 := HST.out.spec.len.2; rw [List.length_take] at h2; omega
   go_wp2_with (first | (refine wpList_run rfl (exec_idxO (i := k) rfl rfl rfl rfl hlt) ?_) | (refine wpList_run rfl (exec_ldO (p := x) rfl rfl HRW.out) ?_) | (refine wpList_run rfl (exec_alloc33z HZO.out rfl) ?_) | (refine wpList_stop33 rfl ?_))
   refine ⟨?_⟩
   refine wpList_void rfl rfl (exec_store33 (p := zo) (u := x) rfl rfl rfl (Blk.new wr 33 zo.arr)) ?_
   have hbo := bo_laid wr 33 zo.arr x.arr
   have HA1 := Lib.hid (HA.out.below hbo.old)
   have HX1 := Lib.hid hbo.one
   clear hbo HA HRW
   generalize (wr.alloc (.cells zo.arr 33)).setRow wr.heap.size x.arr = w3 at HA1 HX1 ⊢
   generalize wr.heap.size = px at HX1 ⊢
   go_wp2_with (first | (refine wpList_run rfl (exec_load39 rfl rfl HA1.out.ks) ?_) | (refine wpList_run rfl (exec_load33 (p := x) rfl rfl HX1.out) ?_))
   refine (apply_any HA1.out.sl hn1 hm1 x).mono ?_
   have happ := appS_of HST.out.spec.right (HST.out.ready HRUN.out HX.out)
   rw [happ.1, happ.2]
   have HST2 := Lib.hid (HST.out.step HRUN.out HX.out)
   obtain ⟨t, ht⟩ : ∃ t, applyS s x = t := ⟨_, rfl⟩
   rw [ht] at HST2 ⊢
   clear ht happ
   rintro e w4 ⟨a2, n2, c2, b2, m2, d2, rfl, hE, hT, hb⟩
   have HFAR : Hid ((∀ ad, a2 = some ad → n2 ≠ 0 → ps < ad.block ∧ ad.block < w4.heap.size) ∧ ∀ ad, b2 = some ad → m2 ≠ 0 → ps < ad.block ∧ ad.block < w4.heap.size) := Lib.hid ⟨fun ad e _ => by have := (hE.lt ad e); have := HA1.out.ks.lt; omega, fun ad e _ => by have := (hT.lt ad e); have := HA1.out.ks.lt; omega⟩
   have HSL : Hid (SL w4 t a2 n2 b2 m2) := Lib.hid ⟨hE.gl, hT.gl⟩
   have HA2 := Lib.hid (HA1.out.below hb)
   clear hE hT hb HA1 HX1 hn1 hm1
   go_wp2_with (first | (refine wpList_run rfl (exec_alloc39z HZ.out rfl) ?_) | (refine wpList_stop39 rfl ?_))
   refine ⟨?_⟩
   refine wpList_void rfl rfl (exec_store39 rfl rfl rfl (Blk.new w4 39 _)) ?_
   have hbo := bo_laid w4 39 (sv z none 0 0 none 0 0) (sv t.v a2 n2 c2 b2 m2 d2)
   have HA3 := Lib.hid (HA2.out.below hbo.old)
   have HSL3 := Lib.hid (HSL.out.below hbo.old)
   have HT3 := Lib.hid hbo.one
   clear hbo HA2 HSL
   generalize (w4.alloc (.cells (sv z none 0 0 none 0 0) 39)).setRow w4.heap.size (sv t.v a2 n2 c2 b2 m2 d2) = w5 at HA3 HSL3 HT3 ⊢
   generalize w4.heap.size = pt at HT3 HFAR ⊢
   go_wp2_with (first | (refine wpList_run rfl (exec_load39 rfl rfl HT3.out) ?_) | (refine wpList_stop39 rfl ?_))
   refine ⟨?_⟩
   refine wpList_void rfl rfl (exec_store39 rfl rfl rfl HA3.out.ks) ?_
   have hk2 := Kept.setRow w5 ps (sv t.v a2 n2 c2 b2 m2 d2)
   have HA4 : Hid (AlW w (w5.setRow ps (sv t.v a2 n2 c2 b2 m2 d2)) pr ps z t a2 n2 c2 b2 m2 d2) := Lib.hid ⟨HA3.out.kr.kept hk2 (by have := HPS.out; omega), HA3.out.ks.row, ⟨HSL3.out.es.keep hk2 (fun ad e h => by have := (HFAR.out.1 ad e h).1; omega), HSL3.out.ts.keep hk2 (fun ad e h => by have := (HFAR.out.2 ad e h).1; omega)⟩, HA3.out.old.trans (hk2.below HA3.out.old.size (fun j e => by have := HPS.out; omega)), ⟨fun ad e h => (HFAR.out.1 ad e h).1, fun ad e h => (HFAR.out.2 ad e h).1⟩⟩
   clear hk2 HA3 HSL3 HT3
   generalize w5.setRow ps (sv t.v a2 n2 c2 b2 m2 d2) = w6 at HA4 ⊢
   go_wp2_with fail
   go_roundw
   case rel => exact ⟨k + 1, t, a2, n2, c2, b2, m2, d2, hlt, by go_num, HST2, HA4⟩
   case measure => simp [intOf]; omega
  ·have HE : Hid (stOf Sta.zero l = s) := Lib.hid (by have h := HST.out.st; rwa [List.take_of_length_le (by rw [HLEN.out]; omega)] at h)
   go_wp2_with (first | (refine wpList_run rfl (exec_load39 rfl rfl HA.out.ks) ?_) | (refine wpList_stop39 rfl ?_))
   refine ⟨?_⟩
   refine wpList_void rfl rfl (exec_store39 rfl rfl rfl HA.out.kr) ?_
   have hk2 := Kept.setRow wr pr (sv s.v a1 n1 c1 b1 m1 d1)
   have HR : Hid (Blk (wr.setRow pr (sv s.v a1 n1 c1 b1 m1 d1)) pr 39 (sv s.v a1 n1 c1 b1 m1 d1)) := Lib.hid HA.out.kr.row
   have HF : Hid (AllP l w (.returned (.tuple #[.agg (sv s.v a1 n1 c1 b1 m1 d1), .bool true])) (wr.setRow pr (sv s.v a1 n1 c1 b1 m1 d1))) := Lib.hid (by
    refine ⟨a1, n1, c1, b1, m1, d1, by rw [HE.out], ?_, HA.out.old.trans (hk2.below HA.out.old.size (fun j e => by have := HPS.out; omega))⟩
    rw [HE.out]
    exact ⟨HA.out.sl.es.keep hk2 (fun ad e h => by have := HA.out.far.1 ad e h; have := HPS.out; omega), HA.out.sl.ts.keep hk2 (fun ad e h => by have := HA.out.far.2 ad e h; have := HPS.out; omega)⟩)
   clear hk2
   generalize wr.setRow pr (sv s.v a1 n1 c1 b1 m1 d1) = w6 at HR HF ⊢
   go_wp2_with fail
   exact bodyPost_ret (v := .tuple #[.agg (sv s.v a1 n1 c1 b1 m1 d1), .bool true]) (ret39_two rfl rfl rfl HR.out) rfl HF.out
end Go.Proofs.YtnekpgmgnepdoaaGreat
end
