import Derived.Test.YtnekpgmgnepdoaaGreatXbj
namespace Go.Proofs.YtnekpgmgnepdoaaGreat
open Go.RowKit Fold
structure Rk (w W : World) (a : Option Addr) (n : Nat) (l : List O) (b off : Nat) (x : O) : Prop where
 op : W.rangeAt b off x.cs
 ol : OL W a n l
 old : Below w.heap.size w W
theorem Rk.below {w W W' : World} {a : Option Addr} {n : Nat} {l : List O} {b off : Nat} {x : O} (h : Rk w W a n l b off x) (hb : Below W.heap.size W W') : Rk w W' a n l b off x := ⟨fun j u hu => below_at hb (h.op j u hu), h.ol.below hb, h.old.trans (hb.mono h.old.size)⟩
def RkR (w : World) (a : Option Addr) (n : Nat) (l : List O) (u : Value) (W : World) : Prop := ∃ k : Nat, u = .int .i64 (k : Int) ∧ k ≤ n ∧ Hid (∀ o ∈ l.take k, V.dotB o.r o.s = true) ∧ Hid (Differ (l.take k)) ∧ Hid (OL W a n l) ∧ Hid (Below w.heap.size w W)
def Right_ (l : List O) (o : O) (r : Nat) : Prop := cntTo l o.v r l.length = min (o.v.at_ r) 1048576
def RkR2 (w : World) (a : Option Addr) (n : Nat) (l : List O) (u : Value) (W : World) : Prop := ∃ k : Nat, u = .int .i64 (k : Int) ∧ k ≤ n ∧ Hid (∀ o ∈ l.take k, ∀ r, r < 16 → Right_ l o r) ∧ Hid (OL W a n l) ∧ Hid (Below w.heap.size w W)
def RkR3 (w : World) (a : Option Addr) (n : Nat) (l : List O) (x : O) (u : Value) (W : World) : Prop := ∃ r : Nat, u = .int .i64 (r : Int) ∧ r ≤ 16 ∧ Hid (∀ r', r' < r → Right_ l x r') ∧ Hid (OL W a n l) ∧ Hid (Below w.heap.size w W)
theorem differ_snoc {l : List O} {k : Nat} {x : O} (hx : l[k]? = some x) : Differ (l.take (k + 1)) ↔ Differ (l.take k) ∧ hasD (l.take k) x.r x.s = false := by
 rw [List.take_add_one, hx]
 unfold Differ
 rw [List.pairwise_append]
 simp [hasD]
theorem differ_take {l : List O} (h : Differ l) (k : Nat) : Differ (l.take k) := List.Pairwise.sublist (List.take_sublist _ _) h
set_option maxRecDepth 100000 in
set_option maxHeartbeats 4000000 in
theorem refclosed_any {a : Option Addr} {n cap : Nat} {l : List O} {w : World} (hl : OL w a n l) (hn : n < 1000000) (hcap : n ≤ cap) : Calls Tryz.prog 38 #[.slice a n cap] w (SaysIff (Closed l) w) := by
 have HL := Lib.hid hl
 have HLEN := Lib.hid (OL.len' hl)
 clear hl
 go_enter Tryz.func38, Tryz.ntmps38
 go_wp2_with fail
 go_loopw [3] (RkR w a n l) (fun u _ => n - (numI u).toNat)
 case atStart => exact ⟨0, rfl, Nat.zero_le _, Lib.hid (fun o h => by simp at h), Lib.hid (by simp [Differ]), HL, Lib.hid (Below.refl _ _)⟩
 case round =>
  obtain ⟨k, rfl, hk, HV, HF, HLk, HB⟩ := hrel
  clear HL
  by_cases hlt : k < n
  ·obtain ⟨b, off, x, rfl, hx, hr⟩ := OL.at HLk.out hlt
   have HX := Lib.hid hx
   have HR : Hid (Rk w wr (some ⟨b, off, none⟩) n l b (off + k * 23) x) := Lib.hid ⟨hr, HLk.out, HB.out⟩
   have HD := Lib.hid (fun W => rdot_any x.r x.s W x.hr x.hs)
   clear hx hr
   go_upto_region 4 with fail
   cases hd : V.dotB x.r x.s
   ·rw [hd] at HD
    have HE : Hid (¬ Closed l) := Lib.hid (fun hc => by
     have := hc.valid x (List.mem_of_getElem? HX.out)
     rw [hd] at this
     cases this)
    clear hd
    refine wp_region_held_drew (S := fun w' => Rk w w' (some ⟨b, off, none⟩) n l b (off + k * 23) x) (by kernel_rfl) (HR.out.below (drew_below wr)) (fun hS => ?_)
    refine held_tk 0 12 (.slice (some ⟨b,off,none⟩) n cap) rfl rfl (by kernel_rfl) (fun _ _ _ h=>h) (fun _ _=>rfl) hS ?_;simp only [Act.put,ap1,ap2,ap3]
    refine held_tk 1 13 (.int .i64 (k : Int)) rfl rfl (by kernel_rfl) (fun _ _ _ h=>h) (fun _ _=>rfl) hS ?_;simp only [Act.put,ap1,ap2,ap3]
    refine held_tk 2 14 (.pointer (some ⟨b,off + k * 23,none⟩)) rfl rfl (by kernel_rfl) (fun _ _ _ h=>h) (fun _ _=>exec_idxO (i:=k) rfl rfl rfl rfl hlt) hS ?_;simp only [Act.put,ap1,ap2,ap3]
    refine held_tk 3 15 (.pointer (some ⟨b,off + k * 23,none⟩)) rfl rfl (by kernel_rfl) (fun _ _ _ h=>h) (fun _ _=>(by kernel_rfl)) hS ?_;simp only [Act.put,ap1,ap2,ap3]
    refine held_tk 4 16 (dotV x.r x.s) rfl rfl (by kernel_rfl) (fun _ _ _ h=>h) (fun _ h=>exec_dotO (p:=x) rfl rfl h.op) hS ?_;simp only [Act.put,ap1,ap2,ap3]
    refine held_call 5 17 77 #[dotV x.r x.s] (.bool false) rfl (by kernel_rfl) rfl (by kernel_rfl) (by kernel_rfl) (HD.out _) (fun _ h hb=>h.below hb) hS (fun w15 hS=>?_)
    simp only [Act.put, ap1, ap2, ap3]
    refine held_tk 6 18 (.bool true) rfl rfl (by kernel_rfl) (fun _ _ _ h=>h) (fun _ _=>rfl) hS ?_;simp only [Act.put,ap1,ap2,ap3]
    refine held_tk 7 19 (.bool true) rfl rfl (by kernel_rfl) (fun _ _ _ h=>h) (fun _ _=>rfl) hS ?_;simp only [Act.put,ap1,ap2,ap3]
    refine held_sk 8 20 rfl rfl (by kernel_rfl) (fun _ _ _ h=>h) hS ?_;simp only [Act.put,ap1,ap2,ap3]
    refine held_sk 9 21 rfl rfl (by kernel_rfl) (fun _ _ _ h=>h) hS ?_;simp only [Act.put,ap1,ap2,ap3]
    refine held_sk 10 22 rfl rfl (by kernel_rfl) (fun _ _ _ h=>h) hS ?_;simp only [Act.put,ap1,ap2,ap3]
    refine held_sk 11 23 rfl rfl (by kernel_rfl) (fun _ _ _ h=>h) hS ?_;simp only [Act.put,ap1,ap2,ap3]
    refine held_sk 12 24 rfl rfl (by kernel_rfl) (fun _ _ _ h=>h) hS ?_;simp only [Act.put,ap1,ap2,ap3]
    refine held_sk 13 25 rfl rfl (by kernel_rfl) (fun _ _ _ h=>h) hS ?_;simp only [Act.put,ap1,ap2,ap3]
    refine held_sk 14 26 rfl rfl (by kernel_rfl) (fun _ _ _ h=>h) hS ?_;simp only [Act.put,ap1,ap2,ap3]
    refine held_sk 15 27 rfl rfl (by kernel_rfl) (fun _ _ _ h=>h) hS ?_;simp only [Act.put,ap1,ap2,ap3]
    refine held_sk 16 28 rfl rfl (by kernel_rfl) (fun _ _ _ h=>h) hS ?_;simp only [Act.put,ap1,ap2,ap3]
    refine held_tk 17 29 (.bool true) rfl rfl (by kernel_rfl) (fun _ _ _ h=>h) (fun _ _=>rfl) hS ?_;simp only [Act.put,ap1,ap2,ap3]
    refine wpAnyH_done (by kernel_rfl) ?_ _
    have HBE := Lib.hid hS.old
    clear hS
    go_wp2_with fail
    go_ret
    exact ⟨false, rfl, by simp [HE.out], HBE.out⟩
   ·rw [hd] at HD
    have HVN : Hid (∀ o ∈ l.take (k + 1), V.dotB o.r o.s = true) := Lib.hid (fun o ho => by
     rw [List.take_add_one, HX.out] at ho
     rcases List.mem_append.1 ho with ho | ho
     ·exact HV.out o ho
     ·obtain rfl : o = x := by simpa using ho
      exact hd)
    clear hd
    cases hh : hasD (l.take k) x.r x.s
    ·have HH := Lib.hid hh
     have HFN : Hid (Differ (l.take (k + 1))) := Lib.hid ((differ_snoc HX.out).2 ⟨HF.out, hh⟩)
     clear hh
     refine wp_region_held_drew (S := fun w' => Rk w w' (some ⟨b, off, none⟩) n l b (off + k * 23) x) (by kernel_rfl) (HR.out.below (drew_below wr)) (fun hS => ?_)
     refine held_tk 0 12 (.slice (some ⟨b,off,none⟩) n cap) rfl rfl (by kernel_rfl) (fun _ _ _ h=>h) (fun _ _=>rfl) hS ?_;simp only [Act.put,ap1,ap2,ap3]
     refine held_tk 1 13 (.int .i64 (k : Int)) rfl rfl (by kernel_rfl) (fun _ _ _ h=>h) (fun _ _=>rfl) hS ?_;simp only [Act.put,ap1,ap2,ap3]
     refine held_tk 2 14 (.pointer (some ⟨b,off + k * 23,none⟩)) rfl rfl (by kernel_rfl) (fun _ _ _ h=>h) (fun _ _=>exec_idxO (i:=k) rfl rfl rfl rfl hlt) hS ?_;simp only [Act.put,ap1,ap2,ap3]
     refine held_tk 3 15 (.pointer (some ⟨b,off + k * 23,none⟩)) rfl rfl (by kernel_rfl) (fun _ _ _ h=>h) (fun _ _=>(by kernel_rfl)) hS ?_;simp only [Act.put,ap1,ap2,ap3]
     refine held_tk 4 16 (dotV x.r x.s) rfl rfl (by kernel_rfl) (fun _ _ _ h=>h) (fun _ h=>exec_dotO (p:=x) rfl rfl h.op) hS ?_;simp only [Act.put,ap1,ap2,ap3]
     refine held_call 5 17 77 #[dotV x.r x.s] (.bool true) rfl (by kernel_rfl) rfl (by kernel_rfl) (by kernel_rfl) (HD.out _) (fun _ h hb=>h.below hb) hS (fun w15 hS=>?_)
     simp only [Act.put, ap1, ap2, ap3]
     refine held_tk 6 18 (.bool false) rfl rfl (by kernel_rfl) (fun _ _ _ h=>h) (fun _ _=>rfl) hS ?_;simp only [Act.put,ap1,ap2,ap3]
     refine held_tk 7 19 (.bool false) rfl rfl (by kernel_rfl) (fun _ _ _ h=>h) (fun _ _=>rfl) hS ?_;simp only [Act.put,ap1,ap2,ap3]
     refine held_tk 8 20 (.slice (some ⟨b,off,none⟩) n cap) rfl rfl (by kernel_rfl) (fun _ _ _ h=>h) (fun _ _=>rfl) hS ?_;simp only [Act.put,ap1,ap2,ap3]
     refine held_tk 9 21 (.int .i64 (k : Int)) rfl rfl (by kernel_rfl) (fun _ _ _ h=>h) (fun _ _=>rfl) hS ?_;simp only [Act.put,ap1,ap2,ap3]
     refine held_tk 10 22 (.slice (some ⟨b,off,none⟩) k cap) rfl rfl (by kernel_rfl) (fun _ _ _ h=>h) (fun _ _=>exec_cutO (k:=k) rfl rfl rfl (by omega)) hS ?_;simp only [Act.put,ap1,ap2,ap3]
     refine held_tk 11 23 (.slice (some ⟨b,off,none⟩) n cap) rfl rfl (by kernel_rfl) (fun _ _ _ h=>h) (fun _ _=>rfl) hS ?_;simp only [Act.put,ap1,ap2,ap3]
     refine held_tk 12 24 (.int .i64 (k : Int)) rfl rfl (by kernel_rfl) (fun _ _ _ h=>h) (fun _ _=>rfl) hS ?_;simp only [Act.put,ap1,ap2,ap3]
     refine held_tk 13 25 (.pointer (some ⟨b,off + k * 23,none⟩)) rfl rfl (by kernel_rfl) (fun _ _ _ h=>h) (fun _ _=>exec_idxO (i:=k) rfl rfl rfl rfl hlt) hS ?_;simp only [Act.put,ap1,ap2,ap3]
     refine held_tk 14 26 (.pointer (some ⟨b,off + k * 23,none⟩)) rfl rfl (by kernel_rfl) (fun _ _ _ h=>h) (fun _ _=>(by kernel_rfl)) hS ?_;simp only [Act.put,ap1,ap2,ap3]
     refine held_tk 15 27 (dotV x.r x.s) rfl rfl (by kernel_rfl) (fun _ _ _ h=>h) (fun _ h=>exec_dotO (p:=x) rfl rfl h.op) hS ?_;simp only [Act.put,ap1,ap2,ap3]
     refine held_call 16 28 78 #[.slice (some ⟨b,off,none⟩) k cap,dotV x.r x.s] (.bool false) rfl (by kernel_rfl) rfl (by kernel_rfl) (by kernel_rfl) ((refhas_any (hS.ol.take hk) (by omega) x.r x.s).mono fun _ _ h=>⟨h.1.trans (ret_bool HH.out),h.2⟩) (fun _ h hb=>h.below hb) hS (fun w116 hS=>?_)
     simp only [Act.put, ap1, ap2, ap3]
     refine held_tk 17 29 (.bool false) rfl rfl (by kernel_rfl) (fun _ _ _ h=>h) (fun _ _=>rfl) hS ?_;simp only [Act.put,ap1,ap2,ap3]
     refine wpAnyH_done (by kernel_rfl) ?_ _
     have HLN := Lib.hid hS.ol
     have HBN := Lib.hid hS.old
     clear hS
     go_wp2_with fail
     go_roundw
     case rel => exact ⟨k + 1, by go_num, hlt, HVN, HFN, HLN, HBN⟩
     case measure => simp [numI]; omega
    ·have HH := Lib.hid hh
     have HE : Hid (¬ Closed l) := Lib.hid (fun hc => by
      have := ((differ_snoc HX.out).1 (differ_take hc.unlike (k + 1))).2
      rw [hh] at this
      cases this)
     clear hh
     refine wp_region_held_drew (S := fun w' => Rk w w' (some ⟨b, off, none⟩) n l b (off + k * 23) x) (by kernel_rfl) (HR.out.below (drew_below wr)) (fun hS => ?_)
     refine held_tk 0 12 (.slice (some ⟨b,off,none⟩) n cap) rfl rfl (by kernel_rfl) (fun _ _ _ h=>h) (fun _ _=>rfl) hS ?_;simp only [Act.put,ap1,ap2,ap3]
     refine held_tk 1 13 (.int .i64 (k : Int)) rfl rfl (by kernel_rfl) (fun _ _ _ h=>h) (fun _ _=>rfl) hS ?_;simp only [Act.put,ap1,ap2,ap3]
     refine held_tk 2 14 (.pointer (some ⟨b,off + k * 23,none⟩)) rfl rfl (by kernel_rfl) (fun _ _ _ h=>h) (fun _ _=>exec_idxO (i:=k) rfl rfl rfl rfl hlt) hS ?_;simp only [Act.put,ap1,ap2,ap3]
     refine held_tk 3 15 (.pointer (some ⟨b,off + k * 23,none⟩)) rfl rfl (by kernel_rfl) (fun _ _ _ h=>h) (fun _ _=>(by kernel_rfl)) hS ?_;simp only [Act.put,ap1,ap2,ap3]
     refine held_tk 4 16 (dotV x.r x.s) rfl rfl (by kernel_rfl) (fun _ _ _ h=>h) (fun _ h=>exec_dotO (p:=x) rfl rfl h.op) hS ?_;simp only [Act.put,ap1,ap2,ap3]
     refine held_call 5 17 77 #[dotV x.r x.s] (.bool true) rfl (by kernel_rfl) rfl (by kernel_rfl) (by kernel_rfl) (HD.out _) (fun _ h hb=>h.below hb) hS (fun w15 hS=>?_)
     simp only [Act.put, ap1, ap2, ap3]
     refine held_tk 6 18 (.bool false) rfl rfl (by kernel_rfl) (fun _ _ _ h=>h) (fun _ _=>rfl) hS ?_;simp only [Act.put,ap1,ap2,ap3]
     refine held_tk 7 19 (.bool false) rfl rfl (by kernel_rfl) (fun _ _ _ h=>h) (fun _ _=>rfl) hS ?_;simp only [Act.put,ap1,ap2,ap3]
     refine held_tk 8 20 (.slice (some ⟨b,off,none⟩) n cap) rfl rfl (by kernel_rfl) (fun _ _ _ h=>h) (fun _ _=>rfl) hS ?_;simp only [Act.put,ap1,ap2,ap3]
     refine held_tk 9 21 (.int .i64 (k : Int)) rfl rfl (by kernel_rfl) (fun _ _ _ h=>h) (fun _ _=>rfl) hS ?_;simp only [Act.put,ap1,ap2,ap3]
     refine held_tk 10 22 (.slice (some ⟨b,off,none⟩) k cap) rfl rfl (by kernel_rfl) (fun _ _ _ h=>h) (fun _ _=>exec_cutO (k:=k) rfl rfl rfl (by omega)) hS ?_;simp only [Act.put,ap1,ap2,ap3]
     refine held_tk 11 23 (.slice (some ⟨b,off,none⟩) n cap) rfl rfl (by kernel_rfl) (fun _ _ _ h=>h) (fun _ _=>rfl) hS ?_;simp only [Act.put,ap1,ap2,ap3]
     refine held_tk 12 24 (.int .i64 (k : Int)) rfl rfl (by kernel_rfl) (fun _ _ _ h=>h) (fun _ _=>rfl) hS ?_;simp only [Act.put,ap1,ap2,ap3]
     refine held_tk 13 25 (.pointer (some ⟨b,off + k * 23,none⟩)) rfl rfl (by kernel_rfl) (fun _ _ _ h=>h) (fun _ _=>exec_idxO (i:=k) rfl rfl rfl rfl hlt) hS ?_;simp only [Act.put,ap1,ap2,ap3]
     refine held_tk 14 26 (.pointer (some ⟨b,off + k * 23,none⟩)) rfl rfl (by kernel_rfl) (fun _ _ _ h=>h) (fun _ _=>(by kernel_rfl)) hS ?_;simp only [Act.put,ap1,ap2,ap3]
     refine held_tk 15 27 (dotV x.r x.s) rfl rfl (by kernel_rfl) (fun _ _ _ h=>h) (fun _ h=>exec_dotO (p:=x) rfl rfl h.op) hS ?_;simp only [Act.put,ap1,ap2,ap3]
     refine held_call 16 28 78 #[.slice (some ⟨b,off,none⟩) k cap,dotV x.r x.s] (.bool true) rfl (by kernel_rfl) rfl (by kernel_rfl) (by kernel_rfl) ((refhas_any (hS.ol.take hk) (by omega) x.r x.s).mono fun _ _ h=>⟨h.1.trans (ret_bool HH.out),h.2⟩) (fun _ h hb=>h.below hb) hS (fun w116 hS=>?_)
     simp only [Act.put, ap1, ap2, ap3]
     refine held_tk 17 29 (.bool true) rfl rfl (by kernel_rfl) (fun _ _ _ h=>h) (fun _ _=>rfl) hS ?_;simp only [Act.put,ap1,ap2,ap3]
     refine wpAnyH_done (by kernel_rfl) ?_ _
     have HBE := Lib.hid hS.old
     clear hS
     go_wp2_with fail
     go_ret
     exact ⟨false, rfl, by simp [HE.out], HBE.out⟩
  ·obtain rfl : k = n := by omega
   have HCC : Hid (Closed l ↔ ∀ o ∈ l, ∀ r, r < 16 → Right_ l o r) := Lib.hid (by
    have h1 := HV.out
    have h2 := HF.out
    rw [List.take_of_length_le (by rw [HLEN.out]; omega)] at h1 h2
    exact closed_count h1 h2)
   have HL0 := HLk
   have HB0 := HB
   clear HV HF HLk HB
   go_wp2_with fail
   go_loopw [4] (RkR2 w a k l) (fun u _ => k - (numI u).toNat)
   case atStart => exact ⟨0, rfl, Nat.zero_le _, Lib.hid (fun o h => by simp at h), HL0, HB0⟩
   case round =>
    obtain ⟨n', rfl, hn', HF, HLk, HB⟩ := hrel
    clear HL0 HB0
    obtain ⟨n, hkn⟩ : ∃ n, k = n := ⟨_, rfl⟩
    subst hkn
    by_cases hlt : n' < k
    ·obtain ⟨b, off, x, rfl, hx, hr⟩ := OL.at HLk.out hlt
     have HX := Lib.hid hx
     clear hx hr
     go_wp2_with fail
     go_loopw [5] (RkR3 w (some ⟨b, off, none⟩) k l x) (fun u _ => 16 - (numI u).toNat)
     case atStart => exact ⟨0, rfl, by omega, Lib.hid (fun r h => by omega), HLk, HB⟩
     case round =>
      obtain ⟨r, rfl, hr, HG, HLr, HBr⟩ := hrel
      clear HLk HB
      by_cases hr16 : r < 16
      ·obtain ⟨b', off', x', e1, hx', hrr⟩ := OL.at HLr.out hlt
       simp only [Option.some.injEq, Addr.mk.injEq, and_true] at e1
       obtain ⟨rfl, rfl⟩ := e1
       obtain rfl : x' = x := by have := HX.out; rw [hx'] at this; exact Option.some.inj this
       have HR : Hid (Rk w wr (some ⟨b, off, none⟩) k l b (off + n' * 23) x') := Lib.hid ⟨hrr, HLr.out, HBr.out⟩
       clear hx' hrr
       go_upto_region 12 with fail
       by_cases hq : cntTo l x'.v r k = min (x'.v.at_ r) 1048576
       ·have HQ : Hid (((cntTo l x'.v r k : Int) != ((min (x'.v.at_ r) 1048576 : Nat) : Int)) = false) := Lib.hid (by simp; omega)
        have HGN : Hid (∀ r', r' < r + 1 → Right_ l x' r') := Lib.hid (fun r' h => by
         by_cases e : r' = r
         ·subst e; unfold Right_; rw [HLEN.out]; exact hq
         ·exact HG.out r' (by omega))
        clear hq
        refine wp_region_held_drew (S := fun w' => Rk w w' (some ⟨b, off, none⟩) k l b (off + n' * 23) x') (by kernel_rfl) (HR.out.below (drew_below wr)) (fun hS => ?_)
        refine held_tk 0 40 (.slice (some ⟨b,off,none⟩) k cap) rfl rfl (by kernel_rfl) (fun _ _ _ h=>h) (fun _ _=>rfl) hS ?_;simp only [Act.put,ap1,ap2,ap3]
        refine held_tk 1 41 (.slice (some ⟨b,off,none⟩) k cap) rfl rfl (by kernel_rfl) (fun _ _ _ h=>h) (fun _ _=>rfl) hS ?_;simp only [Act.put,ap1,ap2,ap3]
        refine held_tk 2 42 (.int .i64 (n' : Int)) rfl rfl (by kernel_rfl) (fun _ _ _ h=>h) (fun _ _=>rfl) hS ?_;simp only [Act.put,ap1,ap2,ap3]
        refine held_tk 3 43 (.pointer (some ⟨b,off + n' * 23,none⟩)) rfl rfl (by kernel_rfl) (fun _ _ _ h=>h) (fun _ _=>exec_idxO (i:=n') rfl rfl rfl rfl hlt) hS ?_;simp only [Act.put,ap1,ap2,ap3]
        refine held_tk 4 44 (.pointer (some ⟨b,off + n' * 23 + 7,none⟩)) rfl rfl (by kernel_rfl) (fun _ _ _ h=>h) (fun _ _=>(by kernel_rfl)) hS ?_;simp only [Act.put,ap1,ap2,ap3]
        refine held_tk 5 45 (.agg x'.v.arr) rfl rfl (by kernel_rfl) (fun _ _ _ h=>h) (fun _ h=>exec_ctxO (p:=x') rfl rfl h.op) hS ?_;simp only [Act.put,ap1,ap2,ap3]
        refine held_tk 6 46 (.int .i64 (r : Int)) rfl rfl (by kernel_rfl) (fun _ _ _ h=>h) (fun _ _=>rfl) hS ?_;simp only [Act.put,ap1,ap2,ap3]
        refine held_tk 8 48 (.slice (some ⟨b,off,none⟩) k cap) rfl rfl (by kernel_rfl) (fun _ _ _ h=>h) (fun _ _=>rfl) hS ?_;simp only [Act.put,ap1,ap2,ap3]
        refine held_tk 9 49 (.int .i64 (n' : Int)) rfl rfl (by kernel_rfl) (fun _ _ _ h=>h) (fun _ _=>rfl) hS ?_;simp only [Act.put,ap1,ap2,ap3]
        refine held_tk 10 50 (.int .i64 (r : Int)) rfl rfl (by kernel_rfl) (fun _ _ _ h=>h) (fun _ _=>rfl) hS ?_;simp only [Act.put,ap1,ap2,ap3]
        refine held_tk 11 51 (.pointer (some ⟨b,off + n' * 23,none⟩)) rfl rfl (by kernel_rfl) (fun _ _ _ h=>h) (fun _ _=>exec_idxO (i:=n') rfl rfl rfl rfl hlt) hS ?_;simp only [Act.put,ap1,ap2,ap3]
        refine held_tk 12 52 (.pointer (some ⟨b,off + n' * 23 + 7,none⟩)) rfl rfl (by kernel_rfl) (fun _ _ _ h=>h) (fun _ _=>(by kernel_rfl)) hS ?_;simp only [Act.put,ap1,ap2,ap3]
        refine held_tk 13 53 (.pointer (some ⟨b,off + n' * 23 + 7 + r,none⟩)) rfl rfl (by kernel_rfl) (fun _ _ _ h=>h) (fun _ _=>exec_idxV rfl rfl rfl hr16) hS ?_;simp only [Act.put,ap1,ap2,ap3]
        refine held_tk 14 54 (.int .u32 (x'.v.at_ r : Int)) rfl rfl (by kernel_rfl) (fun _ _ _ h=>h) (fun _ h=>exec_cell rfl rfl (load_cell (by kernel_rfl) (op_vec h.op hr16))) hS ?_;simp only [Act.put,ap1,ap2,ap3]
        refine held_tk 15 55 (.int .u32 ((min (x'.v.at_ r) 1048576 : Nat) : Int)) rfl rfl (by kernel_rfl) (fun _ _ _ h=>h) (fun _ _=>exec_min32 rfl rfl rfl) hS ?_;simp only [Act.put,ap1,ap2,ap3]
        refine held_call 7 47 79 #[.slice (some ⟨b,off,none⟩) k cap,.agg x'.v.arr,.int .i64 (r : Int)] (.int .u32 (cntTo l x'.v r k : Int)) rfl (by kernel_rfl) rfl (by kernel_rfl) (by kernel_rfl) (refcount_any hS.ol (by omega) x'.v r) (fun _ h hb=>h.below hb) hS (fun w17 hS=>?_)
        simp only [Act.put, ap1, ap2, ap3]
        refine held_tk 16 56 (.bool false) rfl rfl (by kernel_rfl) (fun _ _ _ h=>h) (fun _ _=>exec_neqI trivial rfl rfl rfl HQ.out) hS ?_;simp only [Act.put,ap1,ap2,ap3]
        refine wpAnyH_done (by kernel_rfl) ?_ _
        have HLN := Lib.hid hS.ol
        have HBN := Lib.hid hS.old
        clear hS
        go_wp2_with fail
        go_roundw
        case rel => exact ⟨r + 1, by go_num, by omega, HGN, HLN, HBN⟩
        case measure => simp [numI]; omega
       ·have HQ : Hid (((cntTo l x'.v r k : Int) != ((min (x'.v.at_ r) 1048576 : Nat) : Int)) = true) := Lib.hid (by simp; omega)
        have HE : Hid (¬ Closed l) := Lib.hid (fun hc => by
         have := HCC.out.1 hc x' (List.mem_of_getElem? HX.out) r hr16
         unfold Right_ at this
         rw [HLEN.out] at this
         exact hq this)
        clear hq
        refine wp_region_held_drew (S := fun w' => Rk w w' (some ⟨b, off, none⟩) k l b (off + n' * 23) x') (by kernel_rfl) (HR.out.below (drew_below wr)) (fun hS => ?_)
        refine held_tk 0 40 (.slice (some ⟨b,off,none⟩) k cap) rfl rfl (by kernel_rfl) (fun _ _ _ h=>h) (fun _ _=>rfl) hS ?_;simp only [Act.put,ap1,ap2,ap3]
        refine held_tk 1 41 (.slice (some ⟨b,off,none⟩) k cap) rfl rfl (by kernel_rfl) (fun _ _ _ h=>h) (fun _ _=>rfl) hS ?_;simp only [Act.put,ap1,ap2,ap3]
        refine held_tk 2 42 (.int .i64 (n' : Int)) rfl rfl (by kernel_rfl) (fun _ _ _ h=>h) (fun _ _=>rfl) hS ?_;simp only [Act.put,ap1,ap2,ap3]
        refine held_tk 3 43 (.pointer (some ⟨b,off + n' * 23,none⟩)) rfl rfl (by kernel_rfl) (fun _ _ _ h=>h) (fun _ _=>exec_idxO (i:=n') rfl rfl rfl rfl hlt) hS ?_;simp only [Act.put,ap1,ap2,ap3]
        refine held_tk 4 44 (.pointer (some ⟨b,off + n' * 23 + 7,none⟩)) rfl rfl (by kernel_rfl) (fun _ _ _ h=>h) (fun _ _=>(by kernel_rfl)) hS ?_;simp only [Act.put,ap1,ap2,ap3]
        refine held_tk 5 45 (.agg x'.v.arr) rfl rfl (by kernel_rfl) (fun _ _ _ h=>h) (fun _ h=>exec_ctxO (p:=x') rfl rfl h.op) hS ?_;simp only [Act.put,ap1,ap2,ap3]
        refine held_tk 6 46 (.int .i64 (r : Int)) rfl rfl (by kernel_rfl) (fun _ _ _ h=>h) (fun _ _=>rfl) hS ?_;simp only [Act.put,ap1,ap2,ap3]
        refine held_tk 8 48 (.slice (some ⟨b,off,none⟩) k cap) rfl rfl (by kernel_rfl) (fun _ _ _ h=>h) (fun _ _=>rfl) hS ?_;simp only [Act.put,ap1,ap2,ap3]
        refine held_tk 9 49 (.int .i64 (n' : Int)) rfl rfl (by kernel_rfl) (fun _ _ _ h=>h) (fun _ _=>rfl) hS ?_;simp only [Act.put,ap1,ap2,ap3]
        refine held_tk 10 50 (.int .i64 (r : Int)) rfl rfl (by kernel_rfl) (fun _ _ _ h=>h) (fun _ _=>rfl) hS ?_;simp only [Act.put,ap1,ap2,ap3]
        refine held_tk 11 51 (.pointer (some ⟨b,off + n' * 23,none⟩)) rfl rfl (by kernel_rfl) (fun _ _ _ h=>h) (fun _ _=>exec_idxO (i:=n') rfl rfl rfl rfl hlt) hS ?_;simp only [Act.put,ap1,ap2,ap3]
        refine held_tk 12 52 (.pointer (some ⟨b,off + n' * 23 + 7,none⟩)) rfl rfl (by kernel_rfl) (fun _ _ _ h=>h) (fun _ _=>(by kernel_rfl)) hS ?_;simp only [Act.put,ap1,ap2,ap3]
        refine held_tk 13 53 (.pointer (some ⟨b,off + n' * 23 + 7 + r,none⟩)) rfl rfl (by kernel_rfl) (fun _ _ _ h=>h) (fun _ _=>exec_idxV rfl rfl rfl hr16) hS ?_;simp only [Act.put,ap1,ap2,ap3]
        refine held_tk 14 54 (.int .u32 (x'.v.at_ r : Int)) rfl rfl (by kernel_rfl) (fun _ _ _ h=>h) (fun _ h=>exec_cell rfl rfl (load_cell (by kernel_rfl) (op_vec h.op hr16))) hS ?_;simp only [Act.put,ap1,ap2,ap3]
        refine held_tk 15 55 (.int .u32 ((min (x'.v.at_ r) 1048576 : Nat) : Int)) rfl rfl (by kernel_rfl) (fun _ _ _ h=>h) (fun _ _=>exec_min32 rfl rfl rfl) hS ?_;simp only [Act.put,ap1,ap2,ap3]
        refine held_call 7 47 79 #[.slice (some ⟨b,off,none⟩) k cap,.agg x'.v.arr,.int .i64 (r : Int)] (.int .u32 (cntTo l x'.v r k : Int)) rfl (by kernel_rfl) rfl (by kernel_rfl) (by kernel_rfl) (refcount_any hS.ol (by omega) x'.v r) (fun _ h hb=>h.below hb) hS (fun w17 hS=>?_)
        simp only [Act.put, ap1, ap2, ap3]
        refine held_tk 16 56 (.bool true) rfl rfl (by kernel_rfl) (fun _ _ _ h=>h) (fun _ _=>exec_neqI trivial rfl rfl rfl HQ.out) hS ?_;simp only [Act.put,ap1,ap2,ap3]
        refine wpAnyH_done (by kernel_rfl) ?_ _
        have HBE := Lib.hid hS.old
        clear hS
        go_wp2_with fail
        go_ret
        exact ⟨false, rfl, by simp [HE.out], HBE.out⟩
      ·have HFN : Hid (∀ o ∈ l.take (n' + 1), ∀ r, r < 16 → Right_ l o r) := Lib.hid (fun o ho r' h' => by
        rw [List.take_add_one, HX.out] at ho
        rcases List.mem_append.1 ho with ho | ho
        ·exact HF.out o ho r' h'
        ·obtain rfl : o = x := by simpa using ho
         exact HG.out r' (by omega))
       go_wp2_with fail
       go_roundw
       case rel => exact ⟨n' + 1, by go_num, hlt, HFN, HLr, HBr⟩
       case measure => simp [numI]; omega
    ·obtain rfl : n' = k := by omega
     have HE : Hid (Closed l) := Lib.hid (HCC.out.2 (fun o ho => HF.out o (by rw [List.take_of_length_le (by rw [HLEN.out]; omega)]; exact ho)))
     go_wp2_with fail
     go_ret
     exact ⟨true, rfl, by simp [HE.out], HB.out⟩
end Go.Proofs.YtnekpgmgnepdoaaGreat
