import Derived.Test.YtnekpgmgnepdoaaGreatZay
import Derived.Test.YtnekpgmgnepdoaaGreatZbg
import Derived.Test.YtnekpgmgnepdoaaGreatZbp
namespace Go.Proofs.YtnekpgmgnepdoaaGreat
open Go.RowKit
theorem sorted_one : ∀ {a b : List Nat}, a.Pairwise (· < ·) → b.Pairwise (· < ·) → (∀ x, x ∈ a ↔ x ∈ b) → a = b
 | [], [], _, _, _ => rfl
 | [], y :: b, _, _, h => by have := (h y).2 (by simp); simp at this
 | x :: a, [], _, _, h => by have := (h x).1 (by simp); simp at this
 | x :: a, y :: b, ha, hb, h => by
  have ha' := List.pairwise_cons.1 ha
  have hb' := List.pairwise_cons.1 hb
  have e : x = y := by
   have h1 := (h x).1 (by simp)
   have h2 := (h y).2 (by simp)
   rcases List.mem_cons.1 h1 with e | h1
   ·exact e
   ·rcases List.mem_cons.1 h2 with e | h2
    ·exact e.symm
    ·have := ha'.1 y h2
     have := hb'.1 x h1
     omega
  subst e
  congr 1
  refine sorted_one ha'.2 hb'.2 fun z => ?_
  constructor
  ·intro hz
   rcases List.mem_cons.1 ((h z).1 (List.mem_cons_of_mem _ hz)) with e | hz2
   ·have := ha'.1 z hz; omega
   ·exact hz2
  ·intro hz
   rcases List.mem_cons.1 ((h z).2 (List.mem_cons_of_mem _ hz)) with e | hz2
   ·have := hb'.1 z hz; omega
   ·exact hz2
theorem citems_eq {c : Nat} {L : List En} {a b : List Nat} (ha : CItems c L a) (hb : CItems c L b) : a = b := sorted_one ha.up hb.up (fun x => by rw [ha.mem, hb.mem])
inductive Seen (s : Sta) (c : Nat) : List (Nat × Nat) → Bool → Nat → Prop where
 | yes (h : s.Right) (its : List Nat) (hi : CItems c s.es its) : Seen s c (its.map fun i => (i, cqtyAt c s.es i)) (coutTo c s.es s.es.length) ((tkOf s.ts c).getD 0)
 | no (h : ¬ s.Right) : Seen s c [] false 0
theorem Seen.unique {s : Sta} {c : Nat} {l l' : List (Nat × Nat)} {o o' : Bool} {t t' : Nat} (h : Seen s c l o t) (k : Seen s c l' o' t') : l = l' ∧ o = o' ∧ t = t' := by
 cases h with
 | yes h its hi => cases k with
  | yes _ its' hi' => rw [citems_eq hi hi']; exact ⟨rfl, rfl, rfl⟩
  | no k => exact absurd h k
 | no h => cases k with
  | yes k _ _ => exact absurd k h
  | no _ => exact ⟨rfl, rfl, rfl⟩
theorem Seen.short {s : Sta} {c : Nat} {l : List (Nat × Nat)} {o : Bool} {t : Nat} (h : Seen s c l o t) : l.length < 1000000 := by
 cases h with
 | yes h its hi =>
  have h1 : its.Nodup := List.nodup_iff_pairwise_ne.2 (hi.up.imp fun h => by omega)
  have := nodup_len (l2 := List.range 65536) h1 (fun x hx => List.mem_range.2 ((hi.mem x).1 hx).1)
  simp at this
  simp only [List.length_map]
  omega
 | no h => simp
def SeenP (s : Sta) (c : Nat) (w : World) (e : Ending) (w' : World) : Prop :=
 ∃ ls o t a cap, e = .returned (.agg (vw c a ls.length cap o t)) ∧ Seen s c ls o t ∧ GL w' 2 a ls.length (ls.map ln) ∧ Below w.heap.size w w'
theorem seenP {s : Sta} {c : Nat} {w : World} {e : Ending} {w' : World} (h : CViewP s c w e w') : SeenP s c w e w' := by
 rcases h with ⟨hr, its, a, cap, hi, rfl, ho, hb⟩ | ⟨hr, rfl, hb⟩
 ·refine ⟨its.map fun i => (i, cqtyAt c s.es i), _, _, a, cap, ?_, .yes hr its hi, ?_, hb⟩
  ·rw [List.length_map]; rfl
  ·rw [List.length_map, List.map_map]; exact ho.gl
 ·exact ⟨[], false, 0, none, 0, rfl, .no hr, GL.nil _ _ _, hb⟩
theorem view_seen {f : Nat} {args : Array Value} {s : Sta} {c : Nat} {w : World} (h : Calls Tryz.prog f args w (CViewP s c w)) : Calls Tryz.prog f args w (SeenP s c w) := h.mono fun _ _ => seenP
set_option maxRecDepth 100000 in
set_option maxHeartbeats 16000000 in
theorem views_walk {s : Sta} {a b : Option Addr} {n c0 m d : Nat} {w : World} (halive : ∀ W, Calls Tryz.prog 12 #[] W (Says (.bool true) W)) (hl : SL w s a n b m) (hn : n < 9223372036854775808) (hm : m < 9223372036854775808) (c : Nat) (hc : c < 65536) : Calls Tryz.prog 5 #[.agg (sv s.v a n c0 b m d), .int .u16 (c : Int)] w (Says (.bool true) w) := by
 have HL := Lib.hid hl
 have HAL := Lib.hid halive
 have HTN := Lib.hid hl.ts.len'
 have hb1 := fun (v : V) x y w => box28 v x y w
 have H0 : Hid (OzW w (w.alloc (.cells (sv s.v a n c0 b m d) 28)) w.heap.size (sv s.v a n c0 b m d)) := Lib.hid ⟨Blk.new w 28 _, below_one _ _⟩
 clear hl halive
 go_enter Tryz.func5, Tryz.ntmps5
 go_upto_region 1 with fail
 clear hb1
 generalize w.alloc (.cells (sv s.v a n c0 b m d) 28) = w0 at H0
 obtain ⟨p, hp⟩ : ∃ p, w.heap.size = p := ⟨_, rfl⟩
 rw [hp] at H0
 rw [hp]
 clear hp
 go_wp2_with fail
 refine (HAL.out _).mono ?_
 rintro e w1 ⟨rfl, hb⟩
 have H1 := Lib.hid (H0.out.below hb)
 clear hb H0
 go_wp2_with (refine wpList_run rfl (exec_load28 rfl rfl H1.out.s1) ?_)
 refine (fewl_any hn hm).mono ?_
 rintro e w2 ⟨rfl, hb⟩
 have H2 := Lib.hid (H1.out.below hb)
 have HF1 : Hid ((decide (n ≤ 60) && decide (m ≤ 60)) = true → n ≤ 60 ∧ m ≤ 60) := Lib.hid (by simp)
 clear hb H1
 generalize (decide (n ≤ 60) && decide (m ≤ 60)) = f1 at HF1 ⊢
 cases f1
 ·go_wp2_with fail
  go_ret
  exact ⟨rfl, H2.out.old⟩
 have hF1 := HF1.out rfl
 clear HF1 hn hm
 obtain ⟨hn, hm⟩ := hF1
 go_wp2_with fail
 refine wp_region_held_drew (S := fun w' => OzW w w' p (sv s.v a n c0 b m d)) (by kernel_rfl) H2.out.drew (fun hS => ?_)
 refine held_tk 0 10 (.agg (sv s.v a n c0 b m d)) rfl rfl (by kernel_rfl) (fun _ _ _ h => h) (fun _ h => exec_load28 rfl rfl h.s1) hS ?_
 simp only [Act.put, ap1, ap2, ap3]
 refine held_tk 2 12 (.int .u16 (c : Int)) rfl rfl (by kernel_rfl) (fun _ _ _ h => h) (fun _ _ => rfl) hS ?_
 simp only [Act.put, ap1, ap2, ap3]
 refine held_tk 4 14 (.agg (sv s.v a n c0 b m d)) rfl rfl (by kernel_rfl) (fun _ _ _ h => h) (fun _ h => exec_load28 rfl rfl h.s1) hS ?_
 simp only [Act.put, ap1, ap2, ap3]
 refine held_tk 5 15 (.int .u16 (c : Int)) rfl rfl (by kernel_rfl) (fun _ _ _ h => h) (fun _ _ => rfl) hS ?_
 simp only [Act.put, ap1, ap2, ap3]
 refine held_callP 1 11 15 #[.agg (sv s.v a n c0 b m d)] rfl (by kernel_rfl) rfl (by kernel_rfl) (by kernel_rfl) (theirs_any (HL.out.below hS.old) (by omega) (by omega)) (fun e v1 hP => ?_)
 obtain ⟨a1, c1, b1, d1, rfl, hl1, hb⟩ := hP
 refine ⟨_, rfl, hS.below hb, fun hS => ?_⟩
 simp only [Act.put, ap1, ap2, ap3]
 refine held_callP 3 13 24 #[.agg (sv s.v a1 n c1 b1 m d1), .int .u16 (c : Int)] rfl (by kernel_rfl) rfl (by kernel_rfl) (by kernel_rfl) (view_seen (view_any hl1 (by omega) (by omega) c hc)) (fun e v2 hP => ?_)
 obtain ⟨ls, o, t, a2, c2, rfl, hI, hg2, hb⟩ := hP
 refine ⟨_, rfl, hS.below hb, fun hS => ?_⟩
 simp only [Act.put, ap1, ap2, ap3]
 refine held_callP 6 16 25 #[.agg (sv s.v a n c0 b m d), .int .u16 (c : Int)] rfl (by kernel_rfl) rfl (by kernel_rfl) (by kernel_rfl) (view_seen (rview_any (HL.out.below hS.old) (by omega) (by omega) c)) (fun e v3 hP => ?_)
 obtain ⟨ls3, o3, t3, a3, c3, rfl, hI3, hg3, hb⟩ := hP
 obtain ⟨rfl, rfl, rfl⟩ := hI.unique hI3
 refine ⟨_, rfl, hS.below hb, fun hS => ?_⟩
 simp only [Act.put, ap1, ap2, ap3]
 have hg2 := hg2.below hb
 refine held_callP 7 17 23 #[.agg (vw c a2 ls.length c2 o t), .agg (vw c a3 ls.length c3 o t)] rfl (by kernel_rfl) rfl (by kernel_rfl) (by kernel_rfl) (vsame_any c a2 a3 ls.length c2 c3 o t ls _ hI.short hg2 hg3) (fun e v4 hP => ?_)
 obtain ⟨rfl, hb⟩ := hP
 refine ⟨_, rfl, hS.below hb, fun hS => ?_⟩
 simp only [Act.put, ap1, ap2, ap3]
 refine held_tk 8 18 (.bool true) rfl rfl (by kernel_rfl) (fun _ _ _ h => h) (fun _ _ => rfl) hS ?_
 simp only [Act.put, ap1, ap2, ap3]
 refine held_tk 9 19 (.agg (sv s.v a n c0 b m d)) rfl rfl (by kernel_rfl) (fun _ _ _ h => h) (fun _ h => exec_load28 rfl rfl h.s1) hS ?_
 simp only [Act.put, ap1, ap2, ap3]
 refine held_tk 12 22 (.agg (sv s.v a n c0 b m d)) rfl rfl (by kernel_rfl) (fun _ _ _ h => h) (fun _ h => exec_load28 rfl rfl h.s1) hS ?_
 simp only [Act.put, ap1, ap2, ap3]
 refine held_callP 10 20 15 #[.agg (sv s.v a n c0 b m d)] rfl (by kernel_rfl) rfl (by kernel_rfl) (by kernel_rfl) (theirs_any (HL.out.below hS.old) (by omega) (by omega)) (fun e v5 hP => ?_)
 obtain ⟨a5, c5, b5, d5, rfl, hl5, hb⟩ := hP
 refine ⟨_, rfl, hS.below hb, fun hS => ?_⟩
 simp only [Act.put, ap1, ap2, ap3]
 refine held_callP 11 21 27 #[.agg (sv s.v a5 n c5 b5 m d5)] rfl (by kernel_rfl) rfl (by kernel_rfl) (by kernel_rfl) (carts_any hl5 (by omega) (by omega)) (fun e v6 hP => ?_)
 obtain ⟨l6, a6, c6, rfl, hg6, hc6, hb⟩ := hP
 refine ⟨_, rfl, hS.below hb, fun hS => ?_⟩
 simp only [Act.put, ap1, ap2, ap3]
 refine held_callP 13 23 28 #[.agg (sv s.v a n c0 b m d)] rfl (by kernel_rfl) rfl (by kernel_rfl) (by kernel_rfl) (rcarts_any (HL.out.below hS.old) (by omega) (by omega)) (fun e v7 hP => ?_)
 obtain ⟨l7, a7, c7, rfl, hg7, hc7, hb⟩ := hP
 obtain rfl : l7 = l6 := by rcases hc6 with ⟨h1, rfl⟩ | ⟨h1, rfl⟩ <;> rcases hc7 with ⟨h2, rfl⟩ | ⟨h2, rfl⟩ <;> first | rfl | exact absurd h1 h2 | exact absurd h2 h1
 have hl7 : l7.length < 1000000 := by
  rcases hc6 with ⟨_, rfl⟩ | ⟨_, rfl⟩
  ·have h5 := HTN.out; rw [List.length_map]; omega
  ·simp
 refine ⟨_, rfl, hS.below hb, fun hS => ?_⟩
 simp only [Act.put, ap1, ap2, ap3]
 have hg6 := hg6.below hb
 refine held_callP 14 24 26 #[.slice a6 l7.length c6, .slice a7 l7.length c7] rfl (by kernel_rfl) rfl (by kernel_rfl) (by kernel_rfl) (carteq_any a6 a7 l7.length c6 c7 l7 _ hl7 hg6 hg7) (fun e v8 hP => ?_)
 obtain ⟨rfl, hb⟩ := hP
 refine ⟨_, rfl, hS.below hb, fun hS => ?_⟩
 simp only [Act.put, ap1, ap2, ap3]
 refine held_tk 15 25 (.bool true) rfl rfl (by kernel_rfl) (fun _ _ _ h => h) (fun _ _ => rfl) hS ?_
 simp only [Act.put, ap1, ap2, ap3]
 refine held_tk 16 4 (.bool true) rfl rfl (by kernel_rfl) (fun _ _ _ h => h) (fun _ _ => rfl) hS ?_
 simp only [Act.put, ap1, ap2, ap3]
 have HS9 := Lib.hid hS
 clear hS
 refine wpAnyH_done (by kernel_rfl) ?_ _
 go_wp2_with fail
 go_ret
 exact ⟨rfl, HS9.out.old⟩
end Go.Proofs.YtnekpgmgnepdoaaGreat
