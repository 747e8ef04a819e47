import Derived.Test.YtnekpgmgnepdoaaGreatXav
import Derived.Test.YtnekpgmgnepdoaaGreatXbb
import Derived.Test.YtnekpgmgnepdoaaGreatXbi
import Derived.Test.YtnekpgmgnepdoaaGreatXbl
namespace Go.Proofs.YtnekpgmgnepdoaaGreat.F
open Go.Proofs.YtnekpgmgnepdoaaGreat Go.Proofs.YtnekpgmgnepdoaaGreat.Fold
open Go.RowKit Fold
theorem live_perm_made {s : Sta} {l : List O} (h : Spec s l) (hu : Unlike l) : (l.filter (liveB l)).length = s.es.length := by
 obtain ⟨m, hm, hml⟩ := es_ops s.es (fun e he => (spec_mem h e).1 he)
 have hone := h.right.one
 rw [← hm] at hone
 have hmm : ∀ o, o ∈ l.filter (liveB l) ↔ o ∈ m := fun o => by
  rw [List.mem_filter]
  constructor
  ·rintro ⟨h1, h2⟩
   have h3 := (spec_mem h (En.made o)).2 ⟨o, h1, h2, rfl⟩
   rw [← hm] at h3
   obtain ⟨p, hp, h4⟩ := List.mem_map.1 h3
   have h5 : p = o := unlike_eq hu (hml p hp).1 h1 (congrArg En.r h4) (congrArg En.s h4)
   exact h5 ▸ hp
  ·exact fun ho => hml o ho
 rw [← hm, List.length_map]
 classical
 exact (perm_nodup ((nodup_unlike hu).filter _) (nodup_made hone) hmm).length_eq
theorem made_is {s : Sta} {l : List O} {x : O} {e : En} (h : Spec s l) (hu : Unlike l) (hx : x ∈ l) (he : e ∈ s.es) (h1 : e.r = x.r) (h2 : e.s = x.s) : e = En.made x := by
 obtain ⟨o, ho, _, rfl⟩ := (spec_mem h e).1 he
 rw [unlike_eq hu ho hx h1 h2]
abbrev FdB (x : O) (es : List En) (j : Nat) (b : Bool) : Prop := b = true ↔ En.made x ∈ es.take j
theorem FdB.yes {x : O} {es : List En} {j : Nat} (h : FdB x es j true) : FdB x es (j + 1) true := ⟨fun _ => (List.take_subset_take_left es (Nat.le_succ j)) (h.1 rfl), fun _ => rfl⟩
theorem FdB.hit {x : O} {es : List En} {j : Nat} (h : es[j]? = some (En.made x)) : FdB x es (j + 1) true := ⟨fun _ => by rw [List.take_add_one, h]; simp, fun _ => rfl⟩
theorem FdB.miss {x : O} {es : List En} {j : Nat} {e : En} (h : FdB x es j false) (he : es[j]? = some e) (hn : ¬ (e.r = x.r ∧ e.s = x.s)) : FdB x es (j + 1) false := by
 refine ⟨fun h => (by cases h), fun hm => ?_⟩
 rw [List.take_add_one, he] at hm
 rcases List.mem_append.1 hm with hm | hm
 ·exact h.2 hm
 ·obtain h5 : En.made x = e := by simpa using hm
  exact absurd ⟨by rw [← h5]; rfl, by rw [← h5]; rfl⟩ hn
def cntL (l : List O) (k : Nat) : Nat := ((l.take k).filter (liveB l)).length
theorem cntL_succ {l : List O} {k : Nat} {x : O} (hx : l[k]? = some x) : cntL l (k + 1) = cntL l k + if liveB l x = true then 1 else 0 := by
 unfold cntL
 rw [List.take_add_one, hx, List.filter_append, List.length_append]
 congr 1
 by_cases h : liveB l x = true
 ·simp [h]
 ·simp [h]
theorem cntL_le (l : List O) (k : Nat) : cntL l k ≤ l.length := Nat.le_trans (List.length_filter_le _ _) (by rw [List.length_take]; omega)
theorem carts_spec {s : Sta} {l : List O} (h : Spec s l) {m : List Nat} (hu : m.Pairwise (· < ·)) (hm : ∀ x, x ∈ m ↔ ∃ o ∈ l, o.c = x) : s.ts.map (·.c) = m := by
 refine sorted_one (List.pairwise_map.2 h.right.ts.up) hu fun c => ?_
 rw [hm, List.mem_map]
 have ht := h.ts c
 have hs := tkOf_some (l := s.ts) (c := c)
 cases hk : tkOf s.ts c with
 | none =>
  rw [hk] at ht hs
  constructor
  ·rintro ⟨t, h1, h2⟩; have := hs.2 ⟨t, h1, h2⟩; cases this
  ·rintro ⟨o, ho, h2⟩; exact absurd h2 (ht o ho)
 | some t =>
  rw [hk] at ht hs
  obtain ⟨⟨o, ho, h2, _⟩, _⟩ := ht
  exact ⟨fun _ => ⟨o, ho, h2⟩, fun _ => hs.1 rfl⟩
section
variable {ev : Operand → Value} {q : Oper} {w : World}
theorem exec_idx69 {x y : Operand} {b off n cap i : Nat} {z : Int} (ho : q.op = .indexAddr 69 x y) (hx : ev x = .slice (some ⟨b, off, none⟩) n cap) (hy : ev y = .int .i64 z) (hz : z = (i : Int)) (hi : i < n) : (execOp ev q).run Tryz.prog w = .ok (.value (.pointer (some ⟨b, off + i, none⟩))) w := by
 subst hz
 have u69 := und69
 unfold execOp
 simp only [ho, hx, hy]
 go_simp
end
structure Fw (w W : World) (p : Nat) (s : Sta) (a1 : Option Addr) (n1 c1 : Nat) (b1 : Option Addr) (m1 d1 : Nat) (ab : Option Addr) (n : Nat) (l : List O) : Prop where
 st : Blk W p 39 (sv s.v a1 n1 c1 b1 m1 d1)
 sl : SL W s a1 n1 b1 m1
 gl : GL W 1 ab n (bls (l.map (liveB l)))
 old : Below w.heap.size w W
theorem Fw.below {w W W' : World} {p : Nat} {s : Sta} {a1 : Option Addr} {n1 c1 : Nat} {b1 : Option Addr} {m1 d1 : Nat} {ab : Option Addr} {n : Nat} {l : List O} (h : Fw w W p s a1 n1 c1 b1 m1 d1 ab n l) (hb : Below W.heap.size W W') : Fw w W' p s a1 n1 c1 b1 m1 d1 ab n l := ⟨h.st.below hb, h.sl.below hb, h.gl.below hb, h.old.trans (hb.mono h.old.size)⟩
set_option maxRecDepth 100000 in
set_option maxHeartbeats 16000000 in
theorem fold_walk {a : Option Addr} {n cap : Nat} {l : List O} {w : World} (halive : ∀ W, Calls Tryz.prog 12 #[] W (Says (.bool true) W)) (hl : OL w a n l) (hn : n < 9223372036854775808) (hcap : n ≤ cap) (c : Nat) (hc16 : c < 65536) : Calls Tryz.prog 6 #[.slice a n cap, .int .u16 (c : Int)] w (Says (.bool true) w) := by
 have HL := Lib.hid hl
 have HLEN := Lib.hid hl.len'
 have HAL := Lib.hid halive
 obtain ⟨z, hz⟩ : ∃ z, V.zero = z := ⟨_, rfl⟩
 have HZ := Lib.hid hz
 obtain ⟨ze, hze⟩ : ∃ z, En.zero = z := ⟨_, rfl⟩
 have HZE := Lib.hid hze
 clear hl halive hz hze
 go_enter Tryz.func6, Tryz.ntmps6
 go_wp2_with fail
 refine (HAL.out _).mono ?_
 rintro e w1 ⟨rfl, hb⟩
 have H1 := Lib.hid hb
 clear hb
 go_wp2_with fail
 refine (hist_any (HL.out.below H1.out) hn hcap).mono ?_
 rintro e w2 ⟨hi, rfl, hhi, hb⟩
 have H2 := Lib.hid (H1.out.trans (hb.mono H1.out.size))
 clear hb H1
 cases hi
 ·clear hhi
  go_wp2_with fail
  go_ret
  exact ⟨rfl, H2.out⟩
 have HH := Lib.hid (hhi.1 rfl)
 clear hhi hn
 have hn : n ≤ 40 := by have := HH.out.few; have := HLEN.out; omega
 have hsp := spec_of HH.out.runs
 have HSP := Lib.hid hsp
 have HLE := Lib.hid hsp.len
 have HSR := Lib.hid hsp.right
 have HSUM : Hid (V.sum (stOf Sta.zero l).v = n) := Lib.hid (by rw [sum_st HH.out.runs]; exact HLEN.out)
 have HUN : Hid (Unlike l) := Lib.hid HH.out.closed.unlike
 have HALL := all_any (cap := cap) (HL.out.below H2.out) hn HH.out.runs
 unfold AllP at HALL
 generalize stOf Sta.zero l = s at HLE HSR HSUM HALL HSP
 clear hsp
 have HALL := Lib.hid HALL
 go_wp2_with fail
 refine HALL.out.mono ?_
 rintro e w5 ⟨a1, n1, c1, b1, m1, d1, rfl, hsl, hb⟩
 have H6 := Lib.hid (H2.out.trans (hb.mono H2.out.size))
 have HS6 := Lib.hid hsl
 have hf1 : n1 ≤ 40 ∧ m1 ≤ 40 := by have h1 := hsl.es.len'; have h2 := hsl.ts.len'; have h3 := HLE.out; have := HLEN.out; omega
 have HN1 : Hid (s.es.length = n1) := Lib.hid hsl.es.len'
 clear hb hsl H2 HALL
 go_wp2_with (first | (refine wpList_run rfl (exec_alloc39z HZ.out rfl) ?_) | (refine wpList_stop39 rfl ?_))
 refine ⟨?_⟩
 refine wpList_void rfl rfl (exec_store39 rfl rfl rfl (Blk.new w5 39 _)) ?_
 have hbo := bo_laid w5 39 (sv z none 0 0 none 0 0) (sv s.v a1 n1 c1 b1 m1 d1)
 have H7 := Lib.hid (H6.out.trans (hbo.old.mono H6.out.size))
 have HS7 := Lib.hid (HS6.out.below hbo.old)
 have HK7 := Lib.hid hbo.one
 clear hbo H6 HS6
 generalize (w5.alloc (.cells (sv z none 0 0 none 0 0) 39)).setRow w5.heap.size (sv s.v a1 n1 c1 b1 m1 d1) = w6 at H7 HS7 HK7 ⊢
 generalize w5.heap.size = pS at HK7 ⊢
 go_wp2_with (first | (refine wpList_run rfl (exec_load39 rfl rfl HK7.out) ?_) | (refine wpList_runW (exec_load39 rfl rfl HK7.out) (by kernel_rfl) ?_))
 refine (right_any' HS7.out (by omega) (by omega)).mono ?_
 rintro e w7 ⟨q, rfl, hq, hb⟩
 obtain rfl : q = true := hq.2 HSR.out
 have H8 := Lib.hid (H7.out.trans (hb.mono H7.out.size))
 have HS8 := Lib.hid (HS7.out.below hb)
 have HK8 := Lib.hid (HK7.out.below hb)
 clear hb hq H7 HS7 HK7
 go_wp2_with (refine wpList_runW (exec_stV (v := s.v) rfl rfl HK8.out) (by kernel_rfl) ?_)
 refine (rsum_any s.v w7).mono ?_
 rintro e w8 ⟨rfl, hb⟩
 have H9 := Lib.hid (H8.out.trans (hb.mono H8.out.size))
 have HS9 := Lib.hid (HS8.out.below hb)
 have HK9 := Lib.hid (HK8.out.below hb)
 clear hb H8 HS8 HK8
 rw [HSUM.out]
 clear HSUM
 have hcv : IntKind.u64.wrap (n : Int) = (n : Int) := by unfold IntKind.wrap; simp [IntKind.bits, IntKind.signed]; omega
 have hcv2 : (n : Int) % 18446744073709551616 = (n : Int) := by omega
 go_wp2_with fail
 refine (rlives_any (HL.out.below H9.out) (by omega)).mono ?_
 rintro e w9 ⟨ab, capb, rfl, ho, hb⟩
 rw [List.length_map, HLEN.out] at ho ⊢
 have HF : Hid (Fw w w9 pS s a1 n1 c1 b1 m1 d1 ab n l) := Lib.hid ⟨HK9.out.below hb, HS9.out.below hb, ho.gl, H9.out.trans (hb.mono H9.out.size)⟩
 clear hb ho H9 HS9 HK9 hcv hcv2
 have h0 : cntL l 0 = 0 := rfl
 go_wp2_with fail
 go_loopw [7, 42] (fun cv iv W => ∃ k : Nat, k ≤ n ∧ cv = .int .i64 (cntL l k : Int) ∧ iv = .int .i64 (k : Int) ∧ Hid (Fw w W pS s a1 n1 c1 b1 m1 d1 ab n l)) (fun _ iv _ => n - (numI iv).toNat)
 case atStart => exact ⟨0, Nat.zero_le _, rfl, rfl, HF⟩
 case round =>
  obtain ⟨k, hkn, rfl, rfl, HF1⟩ := hrel
  clear HF h0
  by_cases hk : k < n
  ·obtain ⟨ob, oo, x, rfl, hx, hr⟩ := OL.at (HL.out.below HF1.out.old) hk
   have HXX := Lib.hid hx
   clear hr
   have hcs := cntL_succ (l := l) hx
   have hcl := cntL_le l k
   have hgl := HF1.out.gl
   obtain ⟨bb, bo, rfl, hbc⟩ : ∃ b off, ab = some ⟨b, off, none⟩ ∧ wr.cell? ⟨b, off + k, none⟩ = some (.bool (liveB l x)) := by
    rcases hgl.cells with h0 | ⟨b, off, h1, h2⟩
    ·omega
    ·refine ⟨b, off, h1, ?_⟩
     have h3 := h2 k [.bool (liveB l x)] (by unfold bls; simp [hx]) 0 _ rfl
     simpa using h3
   have HXI : Hid (liveB l x = true → En.made x ∈ s.es) := Lib.hid (fun h => (spec_mem HSP.out _).2 ⟨x, List.mem_of_getElem? hx, h, rfl⟩)
   have HMI : Hid (∀ e ∈ s.es, e.r = x.r → e.s = x.s → e = En.made x) := Lib.hid (fun e he h1 h2 => made_is HSP.out HUN.out (List.mem_of_getElem? hx) he h1 h2)
   clear hx hgl
   obtain ⟨ct, hct⟩ : ∃ ct, cntL l k = ct := ⟨_, rfl⟩
   rw [hct] at hcs hcl ⊢
   have HCS := Lib.hid hcs
   have hct4 : ct ≤ 40 := by have := HLEN.out; omega
   clear hcs hct hcl
   obtain ⟨lv, hlv⟩ : ∃ lv, liveB l x = lv := ⟨_, rfl⟩
   rw [hlv] at hbc HCS HXI
   clear hlv
   cases lv
   ·have hce : cntL l (k + 1) = ct := by have := HCS.out; simpa using this
    clear HCS
    go_wp2_with (refine wpList_run rfl (exec_idx69 (i := k) rfl rfl rfl rfl hk) ?_)
    go_roundw
    case rel => exact ⟨k + 1, hk, by rw [hce], by go_num, HF1⟩
    case measure => simp [numI]; omega
   ·have HCE : Hid (cntL l (k + 1) = ct + 1) := Lib.hid (by have := HCS.out; simpa using this)
    have HIN := Lib.hid (HXI.out rfl)
    clear HCS HXI
    have c16 := stc16 HF1.out.st
    go_wp2_with (refine wpList_run rfl (exec_idx69 (i := k) rfl rfl rfl rfl hk) ?_)
    clear hbc c16
    go_loopw [10, 54] (fun fv jv W => ∃ (j : Nat) (fb : Bool), j ≤ n1 ∧ fv = .bool fb ∧ jv = .int .i64 (j : Int) ∧ Hid (FdB x s.es j fb) ∧ Hid (Fw w W pS s a1 n1 c1 b1 m1 d1 (some ⟨bb, bo, none⟩) n l)) (fun _ jv _ => n1 - (numI jv).toNat)
    case atStart => exact ⟨0, false, Nat.zero_le _, rfl, rfl, Lib.hid ⟨fun h => (by cases h), fun h => absurd h (by simp)⟩, HF1⟩
    case round =>
     obtain ⟨j, fb, hj, rfl, rfl, HFB, HF2⟩ := hrel
     clear HF1
     by_cases hj2 : j < n1
     ·obtain ⟨eb, eo, e, rfl, he, hrg⟩ := EL.at HF2.out.sl.es hj2
      have HEE := Lib.hid he
      have HEM := Lib.hid (List.mem_of_getElem? he)
      have HRG := Lib.hid hrg
      clear he hrg
      go_wp2_with (first | (refine wpList_run rfl (exec_idx72 (i := j) rfl rfl rfl rfl hj2) ?_) | (refine wpList_run rfl (exec_ld72 rfl rfl HRG.out) ?_) | (refine wpList_run rfl (exec_alloc72z HZE.out rfl) ?_) | (refine wpList_stop72 rfl ?_))
      refine ⟨?_⟩
      refine wpList_void rfl rfl (exec_store72 (p := ze) (u := e) rfl rfl rfl (Blk.new wr 72 ze.arr)) ?_
      have hbo := bo_laid wr 72 ze.arr e.arr
      have HF3 := Lib.hid (HF2.out.below hbo.old)
      have HE6 := Lib.hid hbo.one
      have HO6 := Lib.hid (HL.out.below HF3.out.old)
      clear hbo HRG
      generalize (wr.alloc (.cells ze.arr 72)).setRow wr.heap.size e.arr = w6 at HF3 HE6 HO6 ⊢
      generalize wr.heap.size = p at HE6 ⊢
      cases fb
      case true =>
       go_wp2_with fail
       refine wp_region_held_drew (S := fun w' => Blk w' p 72 e.arr ∧ OL w' (some ⟨ob, oo, none⟩) n l ∧ Below w6.heap.size w6 w') (by kernel_rfl) ⟨HE6.out.below (drew_below w6), HO6.out.below (drew_below w6), drew_below w6⟩ (fun hS => ?_)
       refine held_tk 0 58 (.bool true) rfl rfl (by kernel_rfl) (fun _ _ _ h=>h) (fun _ _=>rfl) hS ?_;simp only [Act.put,ap1,ap2,ap3]
       refine held_tk 1 59 (.bool true) rfl rfl (by kernel_rfl) (fun _ _ _ h=>h) (fun _ _=>rfl) hS ?_;simp only [Act.put,ap1,ap2,ap3]
       refine held_sk 2 60 rfl rfl (by kernel_rfl) (fun _ _ _ h=>h) hS ?_;simp only [Act.put,ap1,ap2,ap3]
       refine held_sk 3 61 rfl rfl (by kernel_rfl) (fun _ _ _ h=>h) hS ?_;simp only [Act.put,ap1,ap2,ap3]
       refine held_sk 4 62 rfl rfl (by kernel_rfl) (fun _ _ _ h=>h) hS ?_;simp only [Act.put,ap1,ap2,ap3]
       refine held_sk 5 63 rfl rfl (by kernel_rfl) (fun _ _ _ h=>h) hS ?_;simp only [Act.put,ap1,ap2,ap3]
       refine held_sk 6 64 rfl rfl (by kernel_rfl) (fun _ _ _ h=>h) hS ?_;simp only [Act.put,ap1,ap2,ap3]
       refine held_sk 7 65 rfl rfl (by kernel_rfl) (fun _ _ _ h=>h) hS ?_;simp only [Act.put,ap1,ap2,ap3]
       refine held_sk 8 66 rfl rfl (by kernel_rfl) (fun _ _ _ h=>h) hS ?_;simp only [Act.put,ap1,ap2,ap3]
       refine held_sk 9 67 rfl rfl (by kernel_rfl) (fun _ _ _ h=>h) hS ?_;simp only [Act.put,ap1,ap2,ap3]
       refine held_sk 10 68 rfl rfl (by kernel_rfl) (fun _ _ _ h=>h) hS ?_;simp only [Act.put,ap1,ap2,ap3]
       refine held_sk 11 69 rfl rfl (by kernel_rfl) (fun _ _ _ h=>h) hS ?_;simp only [Act.put,ap1,ap2,ap3]
       refine held_sk 12 70 rfl rfl (by kernel_rfl) (fun _ _ _ h=>h) hS ?_;simp only [Act.put,ap1,ap2,ap3]
       refine held_sk 13 71 rfl rfl (by kernel_rfl) (fun _ _ _ h=>h) hS ?_;simp only [Act.put,ap1,ap2,ap3]
       refine held_sk 14 72 rfl rfl (by kernel_rfl) (fun _ _ _ h=>h) hS ?_;simp only [Act.put,ap1,ap2,ap3]
       refine held_sk 15 73 rfl rfl (by kernel_rfl) (fun _ _ _ h=>h) hS ?_;simp only [Act.put,ap1,ap2,ap3]
       refine held_sk 16 74 rfl rfl (by kernel_rfl) (fun _ _ _ h=>h) hS ?_;simp only [Act.put,ap1,ap2,ap3]
       refine held_sk 17 75 rfl rfl (by kernel_rfl) (fun _ _ _ h=>h) hS ?_;simp only [Act.put,ap1,ap2,ap3]
       refine held_sk 18 76 rfl rfl (by kernel_rfl) (fun _ _ _ h=>h) hS ?_;simp only [Act.put,ap1,ap2,ap3]
       refine held_sk 19 77 rfl rfl (by kernel_rfl) (fun _ _ _ h=>h) hS ?_;simp only [Act.put,ap1,ap2,ap3]
       refine held_sk 20 78 rfl rfl (by kernel_rfl) (fun _ _ _ h=>h) hS ?_;simp only [Act.put,ap1,ap2,ap3]
       refine held_sk 21 79 rfl rfl (by kernel_rfl) (fun _ _ _ h=>h) hS ?_;simp only [Act.put,ap1,ap2,ap3]
       refine held_sk 22 80 rfl rfl (by kernel_rfl) (fun _ _ _ h=>h) hS ?_;simp only [Act.put,ap1,ap2,ap3]
       refine held_sk 23 81 rfl rfl (by kernel_rfl) (fun _ _ _ h=>h) hS ?_;simp only [Act.put,ap1,ap2,ap3]
       refine held_sk 24 82 rfl rfl (by kernel_rfl) (fun _ _ _ h=>h) hS ?_;simp only [Act.put,ap1,ap2,ap3]
       refine held_sk 25 83 rfl rfl (by kernel_rfl) (fun _ _ _ h=>h) hS ?_;simp only [Act.put,ap1,ap2,ap3]
       refine held_sk 26 84 rfl rfl (by kernel_rfl) (fun _ _ _ h=>h) hS ?_;simp only [Act.put,ap1,ap2,ap3]
       refine held_sk 27 85 rfl rfl (by kernel_rfl) (fun _ _ _ h=>h) hS ?_;simp only [Act.put,ap1,ap2,ap3]
       refine held_sk 28 86 rfl rfl (by kernel_rfl) (fun _ _ _ h=>h) hS ?_;simp only [Act.put,ap1,ap2,ap3]
       refine held_sk 29 87 rfl rfl (by kernel_rfl) (fun _ _ _ h=>h) hS ?_;simp only [Act.put,ap1,ap2,ap3]
       refine held_sk 30 88 rfl rfl (by kernel_rfl) (fun _ _ _ h=>h) hS ?_;simp only [Act.put,ap1,ap2,ap3]
       refine held_sk 31 89 rfl rfl (by kernel_rfl) (fun _ _ _ h=>h) hS ?_;simp only [Act.put,ap1,ap2,ap3]
       refine held_sk 32 90 rfl rfl (by kernel_rfl) (fun _ _ _ h=>h) hS ?_;simp only [Act.put,ap1,ap2,ap3]
       refine held_sk 33 91 rfl rfl (by kernel_rfl) (fun _ _ _ h=>h) hS ?_;simp only [Act.put,ap1,ap2,ap3]
       refine held_sk 34 92 rfl rfl (by kernel_rfl) (fun _ _ _ h=>h) hS ?_;simp only [Act.put,ap1,ap2,ap3]
       refine held_sk 35 93 rfl rfl (by kernel_rfl) (fun _ _ _ h=>h) hS ?_;simp only [Act.put,ap1,ap2,ap3]
       refine held_sk 36 94 rfl rfl (by kernel_rfl) (fun _ _ _ h=>h) hS ?_;simp only [Act.put,ap1,ap2,ap3]
       refine held_sk 37 95 rfl rfl (by kernel_rfl) (fun _ _ _ h=>h) hS ?_;simp only [Act.put,ap1,ap2,ap3]
       refine held_sk 38 96 rfl rfl (by kernel_rfl) (fun _ _ _ h=>h) hS ?_;simp only [Act.put,ap1,ap2,ap3]
       refine held_sk 39 97 rfl rfl (by kernel_rfl) (fun _ _ _ h=>h) hS ?_;simp only [Act.put,ap1,ap2,ap3]
       refine held_sk 40 98 rfl rfl (by kernel_rfl) (fun _ _ _ h=>h) hS ?_;simp only [Act.put,ap1,ap2,ap3]
       refine held_sk 41 99 rfl rfl (by kernel_rfl) (fun _ _ _ h=>h) hS ?_;simp only [Act.put,ap1,ap2,ap3]
       refine held_sk 42 100 rfl rfl (by kernel_rfl) (fun _ _ _ h=>h) hS ?_;simp only [Act.put,ap1,ap2,ap3]
       refine held_sk 43 101 rfl rfl (by kernel_rfl) (fun _ _ _ h=>h) hS ?_;simp only [Act.put,ap1,ap2,ap3]
       refine held_sk 44 102 rfl rfl (by kernel_rfl) (fun _ _ _ h=>h) hS ?_;simp only [Act.put,ap1,ap2,ap3]
       refine held_sk 45 103 rfl rfl (by kernel_rfl) (fun _ _ _ h=>h) hS ?_;simp only [Act.put,ap1,ap2,ap3]
       refine held_sk 46 104 rfl rfl (by kernel_rfl) (fun _ _ _ h=>h) hS ?_;simp only [Act.put,ap1,ap2,ap3]
       refine held_sk 47 105 rfl rfl (by kernel_rfl) (fun _ _ _ h=>h) hS ?_;simp only [Act.put,ap1,ap2,ap3]
       refine held_sk 48 106 rfl rfl (by kernel_rfl) (fun _ _ _ h=>h) hS ?_;simp only [Act.put,ap1,ap2,ap3]
       refine held_sk 49 107 rfl rfl (by kernel_rfl) (fun _ _ _ h=>h) hS ?_;simp only [Act.put,ap1,ap2,ap3]
       refine held_sk 50 108 rfl rfl (by kernel_rfl) (fun _ _ _ h=>h) hS ?_;simp only [Act.put,ap1,ap2,ap3]
       refine held_sk 51 109 rfl rfl (by kernel_rfl) (fun _ _ _ h=>h) hS ?_;simp only [Act.put,ap1,ap2,ap3]
       refine held_sk 52 110 rfl rfl (by kernel_rfl) (fun _ _ _ h=>h) hS ?_;simp only [Act.put,ap1,ap2,ap3]
       refine held_sk 53 111 rfl rfl (by kernel_rfl) (fun _ _ _ h=>h) hS ?_;simp only [Act.put,ap1,ap2,ap3]
       refine held_sk 54 112 rfl rfl (by kernel_rfl) (fun _ _ _ h=>h) hS ?_;simp only [Act.put,ap1,ap2,ap3]
       refine held_sk 55 113 rfl rfl (by kernel_rfl) (fun _ _ _ h=>h) hS ?_;simp only [Act.put,ap1,ap2,ap3]
       refine held_sk 56 114 rfl rfl (by kernel_rfl) (fun _ _ _ h=>h) hS ?_;simp only [Act.put,ap1,ap2,ap3]
       refine held_sk 57 115 rfl rfl (by kernel_rfl) (fun _ _ _ h=>h) hS ?_;simp only [Act.put,ap1,ap2,ap3]
       refine held_sk 58 116 rfl rfl (by kernel_rfl) (fun _ _ _ h=>h) hS ?_;simp only [Act.put,ap1,ap2,ap3]
       refine held_sk 59 117 rfl rfl (by kernel_rfl) (fun _ _ _ h=>h) hS ?_;simp only [Act.put,ap1,ap2,ap3]
       refine held_tk 60 118 (.bool true) rfl rfl (by kernel_rfl) (fun _ _ _ h=>h) (fun _ _=>rfl) hS ?_;simp only [Act.put,ap1,ap2,ap3]
       refine held_tk 61 10 (.bool true) rfl rfl (by kernel_rfl) (fun _ _ _ h=>h) (fun _ _=>rfl) hS ?_;simp only [Act.put,ap1,ap2,ap3]
       refine wpAnyH_done (by kernel_rfl) ?_ _
       have HF4 := Lib.hid (HF3.out.below hS.2.2)
       clear hS
       go_wp2_with fail
       go_roundw
       case rel => exact ⟨j + 1, true, hj2, rfl, by go_num, Lib.hid HFB.out.yes, HF4⟩
       case measure => simp [numI]; omega
      case false =>
       by_cases hd : e.r = x.r ∧ e.s = x.s
       ·have HEQ : Hid (decide (e.r = x.r ∧ e.s = x.s) = true) := Lib.hid (decide_eq_true hd)
        have hem := HMI.out e HEM.out hd.1 hd.2
        have HQk : Hid (((e.k : Int) == (x.k : Int)) = true) := Lib.hid (by rw [hem]; simp [En.made])
        have HQc : Hid (((e.c : Int) == (x.c : Int)) = true) := Lib.hid (by rw [hem]; simp [En.made])
        have HQi : Hid (((e.i : Int) == (x.i : Int)) = true) := Lib.hid (by rw [hem]; simp [En.made])
        have HQq : Hid (((e.q : Int) == (x.q : Int)) = true) := Lib.hid (by rw [hem]; simp [En.made])
        have HQn : Hid (((e.n : Int) == (x.count : Int)) = true) := Lib.hid (by rw [hem]; simp [En.made])
        have HFN : Hid (FdB x s.es (j + 1) true) := Lib.hid (FdB.hit (by rw [HEE.out, hem]))
        clear hd hem
        go_wp2_with fail
        refine wp_region_held_drew (S := fun w' => Blk w' p 72 e.arr ∧ OL w' (some ⟨ob, oo, none⟩) n l ∧ Below w6.heap.size w6 w') (by kernel_rfl) ⟨HE6.out.below (drew_below w6), HO6.out.below (drew_below w6), drew_below w6⟩ (fun hS => ?_)
        refine held_tk 0 58 (.bool false) rfl rfl (by kernel_rfl) (fun _ _ _ h=>h) (fun _ _=>rfl) hS ?_;simp only [Act.put,ap1,ap2,ap3]
        refine held_tk 1 59 (.bool false) rfl rfl (by kernel_rfl) (fun _ _ _ h=>h) (fun _ _=>rfl) hS ?_;simp only [Act.put,ap1,ap2,ap3]
        refine held_tk 2 60 (.pointer (some ⟨p,4,none⟩)) rfl rfl (by kernel_rfl) (fun _ _ _ h=>h) (fun _ _=>(by kernel_rfl)) hS ?_;simp only [Act.put,ap1,ap2,ap3]
        refine held_tk 3 61 (dotV e.r e.s) rfl rfl (by kernel_rfl) (fun _ _ _ h=>h) (fun _ h=>exec_edot rfl rfl h.1) hS ?_;simp only [Act.put,ap1,ap2,ap3]
        refine held_tk 4 62 (.slice (some ⟨ob,oo,none⟩) n cap) rfl rfl (by kernel_rfl) (fun _ _ _ h=>h) (fun _ _=>rfl) hS ?_;simp only [Act.put,ap1,ap2,ap3]
        refine held_tk 5 63 (.int .i64 (k : Int)) rfl rfl (by kernel_rfl) (fun _ _ _ h=>h) (fun _ _=>rfl) hS ?_;simp only [Act.put,ap1,ap2,ap3]
        refine held_tk 6 64 (.pointer (some ⟨ob,oo + k * 23,none⟩)) rfl rfl (by kernel_rfl) (fun _ _ _ h=>h) (fun _ _=>exec_idxO (i:=k) rfl rfl rfl rfl hk) hS ?_;simp only [Act.put,ap1,ap2,ap3]
        refine held_tk 7 65 (.pointer (some ⟨ob,oo + k * 23,none⟩)) rfl rfl (by kernel_rfl) (fun _ _ _ h=>h) (fun _ _=>(by kernel_rfl)) hS ?_;simp only [Act.put,ap1,ap2,ap3]
        refine held_tk 8 66 (dotV x.r x.s) rfl rfl (by kernel_rfl) (fun _ _ _ h=>h) (fun _ h=>exec_dotO rfl rfl (ol_rng h.2.1 HXX.out)) hS ?_;simp only [Act.put,ap1,ap2,ap3]
        refine held_tk 9 67 (.bool true) rfl rfl (by kernel_rfl) (fun _ _ _ h=>h) (fun _ _=>exec_eqlD rfl rfl rfl HEQ.out) hS ?_;simp only [Act.put,ap1,ap2,ap3]
        refine held_tk 10 68 (.bool true) rfl rfl (by kernel_rfl) (fun _ _ _ h=>h) (fun _ _=>rfl) hS ?_;simp only [Act.put,ap1,ap2,ap3]
        refine held_tk 11 69 (.pointer (some ⟨p,3,none⟩)) rfl rfl (by kernel_rfl) (fun _ _ _ h=>h) (fun _ _=>(by kernel_rfl)) hS ?_;simp only [Act.put,ap1,ap2,ap3]
        refine held_tk 12 70 (.int .u8 (e.k : Int)) rfl rfl (by kernel_rfl) (fun _ _ _ h=>h) (fun _ h=>exec_cell rfl rfl (load_cell (by kernel_rfl) (ent3 h.1))) hS ?_;simp only [Act.put,ap1,ap2,ap3]
        refine held_tk 13 71 (.slice (some ⟨ob,oo,none⟩) n cap) rfl rfl (by kernel_rfl) (fun _ _ _ h=>h) (fun _ _=>rfl) hS ?_;simp only [Act.put,ap1,ap2,ap3]
        refine held_tk 14 72 (.int .i64 (k : Int)) rfl rfl (by kernel_rfl) (fun _ _ _ h=>h) (fun _ _=>rfl) hS ?_;simp only [Act.put,ap1,ap2,ap3]
        refine held_tk 15 73 (.pointer (some ⟨ob,oo + k * 23,none⟩)) rfl rfl (by kernel_rfl) (fun _ _ _ h=>h) (fun _ _=>exec_idxO (i:=k) rfl rfl rfl rfl hk) hS ?_;simp only [Act.put,ap1,ap2,ap3]
        refine held_tk 16 74 (.pointer (some ⟨ob,oo + k * 23 + 2,none⟩)) rfl rfl (by kernel_rfl) (fun _ _ _ h=>h) (fun _ _=>(by kernel_rfl)) hS ?_;simp only [Act.put,ap1,ap2,ap3]
        refine held_tk 17 75 (.int .u8 (x.k : Int)) rfl rfl (by kernel_rfl) (fun _ _ _ h=>h) (fun _ h=>exec_cell rfl rfl (load_cell (by kernel_rfl) (op2 (ol_rng h.2.1 HXX.out)))) hS ?_;simp only [Act.put,ap1,ap2,ap3]
        refine held_tk 18 76 (.bool true) rfl rfl (by kernel_rfl) (fun _ _ _ h=>h) (fun _ _=>exec_eqlI trivial rfl rfl rfl HQk.out) hS ?_;simp only [Act.put,ap1,ap2,ap3]
        refine held_tk 19 77 (.bool true) rfl rfl (by kernel_rfl) (fun _ _ _ h=>h) (fun _ _=>rfl) hS ?_;simp only [Act.put,ap1,ap2,ap3]
        refine held_tk 20 78 (.bool true) rfl rfl (by kernel_rfl) (fun _ _ _ h=>h) (fun _ _=>rfl) hS ?_;simp only [Act.put,ap1,ap2,ap3]
        refine held_tk 21 79 (.pointer (some ⟨p,0,none⟩)) rfl rfl (by kernel_rfl) (fun _ _ _ h=>h) (fun _ _=>(by kernel_rfl)) hS ?_;simp only [Act.put,ap1,ap2,ap3]
        refine held_tk 22 80 (.int .u16 (e.c : Int)) rfl rfl (by kernel_rfl) (fun _ _ _ h=>h) (fun _ h=>exec_cell rfl rfl (load_cell (by kernel_rfl) (ent0 h.1))) hS ?_;simp only [Act.put,ap1,ap2,ap3]
        refine held_tk 23 81 (.slice (some ⟨ob,oo,none⟩) n cap) rfl rfl (by kernel_rfl) (fun _ _ _ h=>h) (fun _ _=>rfl) hS ?_;simp only [Act.put,ap1,ap2,ap3]
        refine held_tk 24 82 (.int .i64 (k : Int)) rfl rfl (by kernel_rfl) (fun _ _ _ h=>h) (fun _ _=>rfl) hS ?_;simp only [Act.put,ap1,ap2,ap3]
        refine held_tk 25 83 (.pointer (some ⟨ob,oo + k * 23,none⟩)) rfl rfl (by kernel_rfl) (fun _ _ _ h=>h) (fun _ _=>exec_idxO (i:=k) rfl rfl rfl rfl hk) hS ?_;simp only [Act.put,ap1,ap2,ap3]
        refine held_tk 26 84 (.pointer (some ⟨ob,oo + k * 23 + 3,none⟩)) rfl rfl (by kernel_rfl) (fun _ _ _ h=>h) (fun _ _=>(by kernel_rfl)) hS ?_;simp only [Act.put,ap1,ap2,ap3]
        refine held_tk 27 85 (.int .u16 (x.c : Int)) rfl rfl (by kernel_rfl) (fun _ _ _ h=>h) (fun _ h=>exec_cell rfl rfl (load_cell (by kernel_rfl) (op3 (ol_rng h.2.1 HXX.out)))) hS ?_;simp only [Act.put,ap1,ap2,ap3]
        refine held_tk 28 86 (.bool true) rfl rfl (by kernel_rfl) (fun _ _ _ h=>h) (fun _ _=>exec_eqlI trivial rfl rfl rfl HQc.out) hS ?_;simp only [Act.put,ap1,ap2,ap3]
        refine held_tk 29 87 (.bool true) rfl rfl (by kernel_rfl) (fun _ _ _ h=>h) (fun _ _=>rfl) hS ?_;simp only [Act.put,ap1,ap2,ap3]
        refine held_tk 30 88 (.bool true) rfl rfl (by kernel_rfl) (fun _ _ _ h=>h) (fun _ _=>rfl) hS ?_;simp only [Act.put,ap1,ap2,ap3]
        refine held_tk 31 89 (.pointer (some ⟨p,1,none⟩)) rfl rfl (by kernel_rfl) (fun _ _ _ h=>h) (fun _ _=>(by kernel_rfl)) hS ?_;simp only [Act.put,ap1,ap2,ap3]
        refine held_tk 32 90 (.int .u16 (e.i : Int)) rfl rfl (by kernel_rfl) (fun _ _ _ h=>h) (fun _ h=>exec_cell rfl rfl (load_cell (by kernel_rfl) (ent1 h.1))) hS ?_;simp only [Act.put,ap1,ap2,ap3]
        refine held_tk 33 91 (.slice (some ⟨ob,oo,none⟩) n cap) rfl rfl (by kernel_rfl) (fun _ _ _ h=>h) (fun _ _=>rfl) hS ?_;simp only [Act.put,ap1,ap2,ap3]
        refine held_tk 34 92 (.int .i64 (k : Int)) rfl rfl (by kernel_rfl) (fun _ _ _ h=>h) (fun _ _=>rfl) hS ?_;simp only [Act.put,ap1,ap2,ap3]
        refine held_tk 35 93 (.pointer (some ⟨ob,oo + k * 23,none⟩)) rfl rfl (by kernel_rfl) (fun _ _ _ h=>h) (fun _ _=>exec_idxO (i:=k) rfl rfl rfl rfl hk) hS ?_;simp only [Act.put,ap1,ap2,ap3]
        refine held_tk 36 94 (.pointer (some ⟨ob,oo + k * 23 + 4,none⟩)) rfl rfl (by kernel_rfl) (fun _ _ _ h=>h) (fun _ _=>(by kernel_rfl)) hS ?_;simp only [Act.put,ap1,ap2,ap3]
        refine held_tk 37 95 (.int .u16 (x.i : Int)) rfl rfl (by kernel_rfl) (fun _ _ _ h=>h) (fun _ h=>exec_cell rfl rfl (load_cell (by kernel_rfl) (op4 (ol_rng h.2.1 HXX.out)))) hS ?_;simp only [Act.put,ap1,ap2,ap3]
        refine held_tk 38 96 (.bool true) rfl rfl (by kernel_rfl) (fun _ _ _ h=>h) (fun _ _=>exec_eqlI trivial rfl rfl rfl HQi.out) hS ?_;simp only [Act.put,ap1,ap2,ap3]
        refine held_tk 39 97 (.bool true) rfl rfl (by kernel_rfl) (fun _ _ _ h=>h) (fun _ _=>rfl) hS ?_;simp only [Act.put,ap1,ap2,ap3]
        refine held_tk 40 98 (.bool true) rfl rfl (by kernel_rfl) (fun _ _ _ h=>h) (fun _ _=>rfl) hS ?_;simp only [Act.put,ap1,ap2,ap3]
        refine held_tk 41 99 (.pointer (some ⟨p,2,none⟩)) rfl rfl (by kernel_rfl) (fun _ _ _ h=>h) (fun _ _=>(by kernel_rfl)) hS ?_;simp only [Act.put,ap1,ap2,ap3]
        refine held_tk 42 100 (.int .u16 (e.q : Int)) rfl rfl (by kernel_rfl) (fun _ _ _ h=>h) (fun _ h=>exec_cell rfl rfl (load_cell (by kernel_rfl) (ent2 h.1))) hS ?_;simp only [Act.put,ap1,ap2,ap3]
        refine held_tk 43 101 (.slice (some ⟨ob,oo,none⟩) n cap) rfl rfl (by kernel_rfl) (fun _ _ _ h=>h) (fun _ _=>rfl) hS ?_;simp only [Act.put,ap1,ap2,ap3]
        refine held_tk 44 102 (.int .i64 (k : Int)) rfl rfl (by kernel_rfl) (fun _ _ _ h=>h) (fun _ _=>rfl) hS ?_;simp only [Act.put,ap1,ap2,ap3]
        refine held_tk 45 103 (.pointer (some ⟨ob,oo + k * 23,none⟩)) rfl rfl (by kernel_rfl) (fun _ _ _ h=>h) (fun _ _=>exec_idxO (i:=k) rfl rfl rfl rfl hk) hS ?_;simp only [Act.put,ap1,ap2,ap3]
        refine held_tk 46 104 (.pointer (some ⟨ob,oo + k * 23 + 5,none⟩)) rfl rfl (by kernel_rfl) (fun _ _ _ h=>h) (fun _ _=>(by kernel_rfl)) hS ?_;simp only [Act.put,ap1,ap2,ap3]
        refine held_tk 47 105 (.int .u16 (x.q : Int)) rfl rfl (by kernel_rfl) (fun _ _ _ h=>h) (fun _ h=>exec_cell rfl rfl (load_cell (by kernel_rfl) (op5 (ol_rng h.2.1 HXX.out)))) hS ?_;simp only [Act.put,ap1,ap2,ap3]
        refine held_tk 48 106 (.bool true) rfl rfl (by kernel_rfl) (fun _ _ _ h=>h) (fun _ _=>exec_eqlI trivial rfl rfl rfl HQq.out) hS ?_;simp only [Act.put,ap1,ap2,ap3]
        refine held_tk 49 107 (.bool true) rfl rfl (by kernel_rfl) (fun _ _ _ h=>h) (fun _ _=>rfl) hS ?_;simp only [Act.put,ap1,ap2,ap3]
        refine held_tk 50 108 (.bool true) rfl rfl (by kernel_rfl) (fun _ _ _ h=>h) (fun _ _=>rfl) hS ?_;simp only [Act.put,ap1,ap2,ap3]
        refine held_tk 51 109 (.pointer (some ⟨p,6,none⟩)) rfl rfl (by kernel_rfl) (fun _ _ _ h=>h) (fun _ _=>(by kernel_rfl)) hS ?_;simp only [Act.put,ap1,ap2,ap3]
        refine held_tk 52 110 (.int .u64 (e.n : Int)) rfl rfl (by kernel_rfl) (fun _ _ _ h=>h) (fun _ h=>exec_cell rfl rfl (load_cell (by kernel_rfl) (ent6 h.1))) hS ?_;simp only [Act.put,ap1,ap2,ap3]
        refine held_tk 53 111 (.slice (some ⟨ob,oo,none⟩) n cap) rfl rfl (by kernel_rfl) (fun _ _ _ h=>h) (fun _ _=>rfl) hS ?_;simp only [Act.put,ap1,ap2,ap3]
        refine held_tk 54 112 (.int .i64 (k : Int)) rfl rfl (by kernel_rfl) (fun _ _ _ h=>h) (fun _ _=>rfl) hS ?_;simp only [Act.put,ap1,ap2,ap3]
        refine held_tk 55 113 (.pointer (some ⟨ob,oo + k * 23,none⟩)) rfl rfl (by kernel_rfl) (fun _ _ _ h=>h) (fun _ _=>exec_idxO (i:=k) rfl rfl rfl rfl hk) hS ?_;simp only [Act.put,ap1,ap2,ap3]
        refine held_tk 56 114 (.agg x.arr) rfl rfl (by kernel_rfl) (fun _ _ _ h=>h) (fun _ h=>exec_ldO (p:=x) rfl rfl (ol_rng h.2.1 HXX.out)) hS ?_;simp only [Act.put,ap1,ap2,ap3]
        refine held_call 57 115 33 #[.agg x.arr] (.int .u64 (x.count : Int)) rfl (by kernel_rfl) rfl (by kernel_rfl) (by kernel_rfl) (rcount_any x _) (fun _ h hb=>⟨h.1.below hb,h.2.1.below hb,h.2.2.trans (hb.mono h.2.2.size)⟩) hS (fun w8 hS=>?_)
        simp only [Act.put, ap1, ap2, ap3]
        refine held_tk 58 116 (.bool true) rfl rfl (by kernel_rfl) (fun _ _ _ h=>h) (fun _ _=>exec_eqlI trivial rfl rfl rfl HQn.out) hS ?_;simp only [Act.put,ap1,ap2,ap3]
        refine held_tk 59 117 (.bool true) rfl rfl (by kernel_rfl) (fun _ _ _ h=>h) (fun _ _=>rfl) hS ?_;simp only [Act.put,ap1,ap2,ap3]
        refine held_tk 60 118 (.bool true) rfl rfl (by kernel_rfl) (fun _ _ _ h=>h) (fun _ _=>rfl) hS ?_;simp only [Act.put,ap1,ap2,ap3]
        refine held_tk 61 10 (.bool true) rfl rfl (by kernel_rfl) (fun _ _ _ h=>h) (fun _ _=>rfl) hS ?_;simp only [Act.put,ap1,ap2,ap3]
        refine wpAnyH_done (by kernel_rfl) ?_ _
        have HF4 := Lib.hid (HF3.out.below hS.2.2)
        clear hS
        go_wp2_with fail
        go_roundw
        case rel => exact ⟨j + 1, true, hj2, rfl, by go_num, HFN, HF4⟩
        case measure => simp [numI]; omega
       ·have HNE : Hid (decide (e.r = x.r ∧ e.s = x.s) = false) := Lib.hid (decide_eq_false hd)
        have HFN : Hid (FdB x s.es (j + 1) false) := Lib.hid (HFB.out.miss HEE.out hd)
        clear hd
        go_wp2_with fail
        refine wp_region_held_drew (S := fun w' => Blk w' p 72 e.arr ∧ OL w' (some ⟨ob, oo, none⟩) n l ∧ Below w6.heap.size w6 w') (by kernel_rfl) ⟨HE6.out.below (drew_below w6), HO6.out.below (drew_below w6), drew_below w6⟩ (fun hS => ?_)
        refine held_tk 0 58 (.bool false) rfl rfl (by kernel_rfl) (fun _ _ _ h=>h) (fun _ _=>rfl) hS ?_;simp only [Act.put,ap1,ap2,ap3]
        refine held_tk 1 59 (.bool false) rfl rfl (by kernel_rfl) (fun _ _ _ h=>h) (fun _ _=>rfl) hS ?_;simp only [Act.put,ap1,ap2,ap3]
        refine held_tk 2 60 (.pointer (some ⟨p,4,none⟩)) rfl rfl (by kernel_rfl) (fun _ _ _ h=>h) (fun _ _=>(by kernel_rfl)) hS ?_;simp only [Act.put,ap1,ap2,ap3]
        refine held_tk 3 61 (dotV e.r e.s) rfl rfl (by kernel_rfl) (fun _ _ _ h=>h) (fun _ h=>exec_edot rfl rfl h.1) hS ?_;simp only [Act.put,ap1,ap2,ap3]
        refine held_tk 4 62 (.slice (some ⟨ob,oo,none⟩) n cap) rfl rfl (by kernel_rfl) (fun _ _ _ h=>h) (fun _ _=>rfl) hS ?_;simp only [Act.put,ap1,ap2,ap3]
        refine held_tk 5 63 (.int .i64 (k : Int)) rfl rfl (by kernel_rfl) (fun _ _ _ h=>h) (fun _ _=>rfl) hS ?_;simp only [Act.put,ap1,ap2,ap3]
        refine held_tk 6 64 (.pointer (some ⟨ob,oo + k * 23,none⟩)) rfl rfl (by kernel_rfl) (fun _ _ _ h=>h) (fun _ _=>exec_idxO (i:=k) rfl rfl rfl rfl hk) hS ?_;simp only [Act.put,ap1,ap2,ap3]
        refine held_tk 7 65 (.pointer (some ⟨ob,oo + k * 23,none⟩)) rfl rfl (by kernel_rfl) (fun _ _ _ h=>h) (fun _ _=>(by kernel_rfl)) hS ?_;simp only [Act.put,ap1,ap2,ap3]
        refine held_tk 8 66 (dotV x.r x.s) rfl rfl (by kernel_rfl) (fun _ _ _ h=>h) (fun _ h=>exec_dotO rfl rfl (ol_rng h.2.1 HXX.out)) hS ?_;simp only [Act.put,ap1,ap2,ap3]
        refine held_tk 9 67 (.bool false) rfl rfl (by kernel_rfl) (fun _ _ _ h=>h) (fun _ _=>exec_eqlD rfl rfl rfl HNE.out) hS ?_;simp only [Act.put,ap1,ap2,ap3]
        refine held_tk 10 68 (.bool false) rfl rfl (by kernel_rfl) (fun _ _ _ h=>h) (fun _ _=>rfl) hS ?_;simp only [Act.put,ap1,ap2,ap3]
        refine held_sk 11 69 rfl rfl (by kernel_rfl) (fun _ _ _ h=>h) hS ?_;simp only [Act.put,ap1,ap2,ap3]
        refine held_sk 12 70 rfl rfl (by kernel_rfl) (fun _ _ _ h=>h) hS ?_;simp only [Act.put,ap1,ap2,ap3]
        refine held_sk 13 71 rfl rfl (by kernel_rfl) (fun _ _ _ h=>h) hS ?_;simp only [Act.put,ap1,ap2,ap3]
        refine held_sk 14 72 rfl rfl (by kernel_rfl) (fun _ _ _ h=>h) hS ?_;simp only [Act.put,ap1,ap2,ap3]
        refine held_sk 15 73 rfl rfl (by kernel_rfl) (fun _ _ _ h=>h) hS ?_;simp only [Act.put,ap1,ap2,ap3]
        refine held_sk 16 74 rfl rfl (by kernel_rfl) (fun _ _ _ h=>h) hS ?_;simp only [Act.put,ap1,ap2,ap3]
        refine held_sk 17 75 rfl rfl (by kernel_rfl) (fun _ _ _ h=>h) hS ?_;simp only [Act.put,ap1,ap2,ap3]
        refine held_sk 18 76 rfl rfl (by kernel_rfl) (fun _ _ _ h=>h) hS ?_;simp only [Act.put,ap1,ap2,ap3]
        refine held_tk 19 77 (.bool false) rfl rfl (by kernel_rfl) (fun _ _ _ h=>h) (fun _ _=>rfl) hS ?_;simp only [Act.put,ap1,ap2,ap3]
        refine held_tk 20 78 (.bool false) rfl rfl (by kernel_rfl) (fun _ _ _ h=>h) (fun _ _=>rfl) hS ?_;simp only [Act.put,ap1,ap2,ap3]
        refine held_sk 21 79 rfl rfl (by kernel_rfl) (fun _ _ _ h=>h) hS ?_;simp only [Act.put,ap1,ap2,ap3]
        refine held_sk 22 80 rfl rfl (by kernel_rfl) (fun _ _ _ h=>h) hS ?_;simp only [Act.put,ap1,ap2,ap3]
        refine held_sk 23 81 rfl rfl (by kernel_rfl) (fun _ _ _ h=>h) hS ?_;simp only [Act.put,ap1,ap2,ap3]
        refine held_sk 24 82 rfl rfl (by kernel_rfl) (fun _ _ _ h=>h) hS ?_;simp only [Act.put,ap1,ap2,ap3]
        refine held_sk 25 83 rfl rfl (by kernel_rfl) (fun _ _ _ h=>h) hS ?_;simp only [Act.put,ap1,ap2,ap3]
        refine held_sk 26 84 rfl rfl (by kernel_rfl) (fun _ _ _ h=>h) hS ?_;simp only [Act.put,ap1,ap2,ap3]
        refine held_sk 27 85 rfl rfl (by kernel_rfl) (fun _ _ _ h=>h) hS ?_;simp only [Act.put,ap1,ap2,ap3]
        refine held_sk 28 86 rfl rfl (by kernel_rfl) (fun _ _ _ h=>h) hS ?_;simp only [Act.put,ap1,ap2,ap3]
        refine held_tk 29 87 (.bool false) rfl rfl (by kernel_rfl) (fun _ _ _ h=>h) (fun _ _=>rfl) hS ?_;simp only [Act.put,ap1,ap2,ap3]
        refine held_tk 30 88 (.bool false) rfl rfl (by kernel_rfl) (fun _ _ _ h=>h) (fun _ _=>rfl) hS ?_;simp only [Act.put,ap1,ap2,ap3]
        refine held_sk 31 89 rfl rfl (by kernel_rfl) (fun _ _ _ h=>h) hS ?_;simp only [Act.put,ap1,ap2,ap3]
        refine held_sk 32 90 rfl rfl (by kernel_rfl) (fun _ _ _ h=>h) hS ?_;simp only [Act.put,ap1,ap2,ap3]
        refine held_sk 33 91 rfl rfl (by kernel_rfl) (fun _ _ _ h=>h) hS ?_;simp only [Act.put,ap1,ap2,ap3]
        refine held_sk 34 92 rfl rfl (by kernel_rfl) (fun _ _ _ h=>h) hS ?_;simp only [Act.put,ap1,ap2,ap3]
        refine held_sk 35 93 rfl rfl (by kernel_rfl) (fun _ _ _ h=>h) hS ?_;simp only [Act.put,ap1,ap2,ap3]
        refine held_sk 36 94 rfl rfl (by kernel_rfl) (fun _ _ _ h=>h) hS ?_;simp only [Act.put,ap1,ap2,ap3]
        refine held_sk 37 95 rfl rfl (by kernel_rfl) (fun _ _ _ h=>h) hS ?_;simp only [Act.put,ap1,ap2,ap3]
        refine held_sk 38 96 rfl rfl (by kernel_rfl) (fun _ _ _ h=>h) hS ?_;simp only [Act.put,ap1,ap2,ap3]
        refine held_tk 39 97 (.bool false) rfl rfl (by kernel_rfl) (fun _ _ _ h=>h) (fun _ _=>rfl) hS ?_;simp only [Act.put,ap1,ap2,ap3]
        refine held_tk 40 98 (.bool false) rfl rfl (by kernel_rfl) (fun _ _ _ h=>h) (fun _ _=>rfl) hS ?_;simp only [Act.put,ap1,ap2,ap3]
        refine held_sk 41 99 rfl rfl (by kernel_rfl) (fun _ _ _ h=>h) hS ?_;simp only [Act.put,ap1,ap2,ap3]
        refine held_sk 42 100 rfl rfl (by kernel_rfl) (fun _ _ _ h=>h) hS ?_;simp only [Act.put,ap1,ap2,ap3]
        refine held_sk 43 101 rfl rfl (by kernel_rfl) (fun _ _ _ h=>h) hS ?_;simp only [Act.put,ap1,ap2,ap3]
        refine held_sk 44 102 rfl rfl (by kernel_rfl) (fun _ _ _ h=>h) hS ?_;simp only [Act.put,ap1,ap2,ap3]
        refine held_sk 45 103 rfl rfl (by kernel_rfl) (fun _ _ _ h=>h) hS ?_;simp only [Act.put,ap1,ap2,ap3]
        refine held_sk 46 104 rfl rfl (by kernel_rfl) (fun _ _ _ h=>h) hS ?_;simp only [Act.put,ap1,ap2,ap3]
        refine held_sk 47 105 rfl rfl (by kernel_rfl) (fun _ _ _ h=>h) hS ?_;simp only [Act.put,ap1,ap2,ap3]
        refine held_sk 48 106 rfl rfl (by kernel_rfl) (fun _ _ _ h=>h) hS ?_;simp only [Act.put,ap1,ap2,ap3]
        refine held_tk 49 107 (.bool false) rfl rfl (by kernel_rfl) (fun _ _ _ h=>h) (fun _ _=>rfl) hS ?_;simp only [Act.put,ap1,ap2,ap3]
        refine held_tk 50 108 (.bool false) rfl rfl (by kernel_rfl) (fun _ _ _ h=>h) (fun _ _=>rfl) hS ?_;simp only [Act.put,ap1,ap2,ap3]
        refine held_sk 51 109 rfl rfl (by kernel_rfl) (fun _ _ _ h=>h) hS ?_;simp only [Act.put,ap1,ap2,ap3]
        refine held_sk 52 110 rfl rfl (by kernel_rfl) (fun _ _ _ h=>h) hS ?_;simp only [Act.put,ap1,ap2,ap3]
        refine held_sk 53 111 rfl rfl (by kernel_rfl) (fun _ _ _ h=>h) hS ?_;simp only [Act.put,ap1,ap2,ap3]
        refine held_sk 54 112 rfl rfl (by kernel_rfl) (fun _ _ _ h=>h) hS ?_;simp only [Act.put,ap1,ap2,ap3]
        refine held_sk 55 113 rfl rfl (by kernel_rfl) (fun _ _ _ h=>h) hS ?_;simp only [Act.put,ap1,ap2,ap3]
        refine held_sk 56 114 rfl rfl (by kernel_rfl) (fun _ _ _ h=>h) hS ?_;simp only [Act.put,ap1,ap2,ap3]
        refine held_sk 57 115 rfl rfl (by kernel_rfl) (fun _ _ _ h=>h) hS ?_;simp only [Act.put,ap1,ap2,ap3]
        refine held_sk 58 116 rfl rfl (by kernel_rfl) (fun _ _ _ h=>h) hS ?_;simp only [Act.put,ap1,ap2,ap3]
        refine held_tk 59 117 (.bool false) rfl rfl (by kernel_rfl) (fun _ _ _ h=>h) (fun _ _=>rfl) hS ?_;simp only [Act.put,ap1,ap2,ap3]
        refine held_tk 60 118 (.bool false) rfl rfl (by kernel_rfl) (fun _ _ _ h=>h) (fun _ _=>rfl) hS ?_;simp only [Act.put,ap1,ap2,ap3]
        refine held_tk 61 10 (.bool false) rfl rfl (by kernel_rfl) (fun _ _ _ h=>h) (fun _ _=>rfl) hS ?_;simp only [Act.put,ap1,ap2,ap3]
        refine wpAnyH_done (by kernel_rfl) ?_ _
        have HF4 := Lib.hid (HF3.out.below hS.2.2)
        clear hS
        go_wp2_with fail
        go_roundw
        case rel => exact ⟨j + 1, false, hj2, rfl, by go_num, HFN, HF4⟩
        case measure => simp [numI]; omega
     ·obtain rfl : fb = true := HFB.out.2 (by rw [List.take_of_length_le (by have := HN1.out; omega)]; exact HIN.out)
      go_wp2_with fail
      go_roundw
      case rel => exact ⟨k + 1, hk, by rw [HCE.out]; go_num, by go_num, HF2⟩
      case measure => simp [numI]; omega
  ·have HCT : Hid (cntL l k = n1) := Lib.hid (by unfold cntL; rw [List.take_of_length_le (by have := HLEN.out; omega), live_perm_made HSP.out HUN.out]; exact HN1.out)
   rw [HCT.out]
   clear HCT
   have c16 := stc16 HF1.out.st
   have HF9 := HF1
   go_wp2_with (first | (refine wpList_run rfl (exec_load39 rfl rfl HF9.out.st) ?_) | (refine wpList_runW (exec_load39 rfl rfl HF9.out.st) (by kernel_rfl) ?_))
   clear c16
   refine (Go.Proofs.YtnekpgmgnepdoaaGreat.view_any HF9.out.sl (by omega) (by omega) c hc16).mono ?_
   rintro e v1 hP
   obtain ⟨va, vcap, rfl, hg1, hb⟩ := seenF HSP.out HUN.out (seenP hP)
   have HG1 := Lib.hid hg1
   have HF10 := Lib.hid (HF9.out.below hb)
   clear hb hg1 hP HF1 HF9
   have HSH : Hid ((lines l c).length < 1000000) := Lib.hid (by
    have h1 : (lines l c).length = (items l c).length := by simp [lines]
    have h2 : (items l c).length ≤ 65536 := Nat.le_trans (List.length_filter_le _ _) (by simp)
    omega)
   go_wp2_with fail
   refine (F.view_any (HL.out.below HF10.out.old) (by omega) c).mono ?_
   rintro e v2 hP
   obtain ⟨vb, vcap2, rfl, hg2, hb⟩ := foldP hP
   have HG2 := Lib.hid hg2
   have HG3 := Lib.hid (HG1.out.below hb)
   have HF11 := Lib.hid (HF10.out.below hb)
   clear hb hg2 hP HF10 HG1
   go_wp2_with fail
   refine (vsame_any c va vb (lines l c).length vcap vcap2 (outB l c) (tickTo c l) (lines l c) _ HSH.out HG3.out HG2.out).mono ?_
   rintro e v3 ⟨rfl, hb⟩
   have HF12 := Lib.hid (HF11.out.below hb)
   clear hb HF11 HG2 HG3
   go_wp2_with (first | (refine wpList_run rfl (exec_load39 rfl rfl HF12.out.st) ?_) | (refine wpList_runW (exec_load39 rfl rfl HF12.out.st) (by kernel_rfl) ?_))
   refine (Go.Proofs.YtnekpgmgnepdoaaGreat.view_any HF12.out.sl (by omega) (by omega) c hc16).mono ?_
   rintro e v4 hP
   obtain ⟨vc, vcap3, rfl, hg1, hb⟩ := seenF HSP.out HUN.out (seenP hP)
   have HG4 := Lib.hid hg1
   have HF13 := Lib.hid (HF12.out.below hb)
   clear hb hg1 hP HF12
   go_wp2_with fail
   refine (rfview_any (HL.out.below HF13.out.old) (by omega) c).mono ?_
   rintro e v5 hP
   obtain ⟨vd, vcap4, rfl, hg2, hb⟩ := hP
   have HG5 := Lib.hid hg2
   have HG6 := Lib.hid (HG4.out.below hb)
   have HF14 := Lib.hid (HF13.out.below hb)
   clear hb hg2 HF13 HG4
   go_wp2_with fail
   refine (vsame_any c vc vd (lines l c).length vcap3 vcap4 (outB l c) (tickTo c l) (lines l c) _ HSH.out HG6.out HG5.out).mono ?_
   rintro e v6 ⟨rfl, hb⟩
   have HF15 := Lib.hid (HF14.out.below hb)
   clear hb HF14 HG5 HG6
   go_wp2_with (first | (refine wpList_run rfl (exec_load39 rfl rfl HF15.out.st) ?_) | (refine wpList_runW (exec_load39 rfl rfl HF15.out.st) (by kernel_rfl) ?_))
   refine (carts_any HF15.out.sl (by omega) (by omega)).mono ?_
   rintro e v7 ⟨lc, ac, capc, rfl, hgc, hr, hb⟩
   obtain rfl : lc = s.ts.map (·.c) := by
    rcases hr with ⟨_, h⟩ | ⟨h, _⟩
    ·exact h
    ·exact absurd HSR.out h
   have HGC := Lib.hid hgc
   have HF16 := Lib.hid (HF15.out.below hb)
   clear hb hgc hr HF15
   go_wp2_with fail
   refine (refcarts_any (HL.out.below HF16.out.old) (by omega)).mono ?_
   rintro e v8 ⟨ad, capd, ld, rfl, hup, hmem, hou, hb⟩
   have hld := carts_spec HSP.out hup hmem
   have HGD := Lib.hid (ownG_of hou).gl
   have HGE := Lib.hid (HGC.out.below hb)
   have HF17 := Lib.hid (HF16.out.below hb)
   have HLS : Hid (ld.length < 1000000) := Lib.hid (by rw [← hld, List.length_map]; have := HF16.out.sl.ts.len'; omega)
   have hlen : s.ts.length = ld.length := by rw [← hld, List.length_map]
   rw [hld] at HGE
   rw [hlen]
   clear hb hou hup hmem HGC HF16 hld hlen
   go_wp2_with fail
   refine (carteq_any ac ad ld.length capc capd ld _ HLS.out HGE.out HGD.out).mono ?_
   rintro e v9 ⟨rfl, hb⟩
   have HF18 := Lib.hid (HF17.out.below hb)
   clear hb HF17 HGE HGD
   go_wp2_with fail
   go_ret
   exact ⟨rfl, HF18.out.old⟩
end Go.Proofs.YtnekpgmgnepdoaaGreat.F
