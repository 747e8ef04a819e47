import Derived.Test.YtnekpgmgnepdoaaGreatXbh
namespace Go.Proofs.YtnekpgmgnepdoaaGreat.F
open Go.Proofs.YtnekpgmgnepdoaaGreat Go.Proofs.YtnekpgmgnepdoaaGreat.Fold
open Go.RowKit Fold
theorem op6 {w : World} {b off : Nat} {p : O} (h : w.rangeAt b off p.cs) : w.cell? ⟨b, off + 6, none⟩ = some (.int .u32 (p.t : Int)) := h 6 _ rfl
def outK (l : List O) (c k : Nat) : Bool := (l.take k).any fun o => decide (o.c = c ∧ o.k = 4) && liveB l o
theorem outK_succ {l : List O} {c k : Nat} {x : O} (hx : l[k]? = some x) : outK l c (k + 1) = (outK l c k || (decide (x.c = c ∧ x.k = 4) && liveB l x)) := by
 unfold outK; rw [List.take_add_one, hx, List.any_append]; simp
theorem tick_snoc (c : Nat) (x : O) : ∀ m : List O, tickTo c (m ++ [x]) = if x.c = c then max (tickTo c m) x.t else tickTo c m
 | [] => by
  show tickTo c [x] = _
  simp only [tickTo]
  split <;> omega
 | o :: m => by
  rw [List.cons_append]
  simp only [tickTo, tick_snoc c x m]
  split <;> split <;> omega
theorem tick_succ {l : List O} {c k : Nat} {x : O} (hx : l[k]? = some x) : tickTo c (l.take (k + 1)) = if x.c = c then max (tickTo c (l.take k)) x.t else tickTo c (l.take k) := by
 rw [List.take_add_one, hx]; exact tick_snoc c x _
structure UpI (l : List O) (c : Nat) (last : Int) (its : List Nat) : Prop where
 up : its.Pairwise (· < ·)
 mem : ∀ i, i ∈ its ↔ (∃ o ∈ l, OfL l c o ∧ o.i = i) ∧ (i : Int) ≤ last
 lo : -1 ≤ last
 hi : last < 65536
theorem UpI.start (l : List O) (c : Nat) : UpI l c (-1) [] := ⟨List.Pairwise.nil, fun i => by simp; intros; omega, by omega, by omega⟩
theorem UpI.short {l : List O} {c : Nat} {last : Int} {its : List Nat} (h : UpI l c last its) : its.length ≤ 65536 := by
 have h1 : its.Nodup := List.nodup_iff_pairwise_ne.2 (h.up.imp fun h => by omega)
 have := h1.length_le_of_subset (l₂ := List.range 65536) (fun x hx => List.mem_range.2 (by have := ((h.mem x).1 hx).2; have := h.hi; omega))
 simpa using this
theorem UpI.next {l : List O} {c : Nat} {last : Int} {its : List Nat} {i n : Nat} (h : UpI l c last its) (hlen : l.length = n) (hx : NxI l c last n (i : Int)) (hi : i < 65536) : UpI l c (i : Int) (its ++ [i]) ∧ last < (i : Int) := by
 rcases hx with ⟨h0, _⟩ | ⟨hz, ⟨o, ho, hol, hoi⟩, h3⟩
 ·omega
 rw [List.take_of_length_le (Nat.le_of_eq hlen)] at h3
 refine ⟨⟨?_, fun j => ?_, by omega, by omega⟩, hz⟩
 ·refine List.pairwise_append.2 ⟨h.up, List.pairwise_singleton _ _, fun a ha b hb => ?_⟩
  obtain rfl : b = i := by simpa using hb
  have := ((h.mem a).1 ha).2
  omega
 ·rw [List.mem_append, h.mem]
  constructor
  ·rintro (⟨h1, h2⟩ | h1)
   ·exact ⟨h1, by omega⟩
   ·obtain rfl : j = i := by simpa using h1
    exact ⟨⟨o, ho, hol, by omega⟩, by omega⟩
  ·rintro ⟨⟨p, hp, hpl, rfl⟩, h2⟩
   by_cases hzj : (p.i : Int) ≤ last
   ·exact .inl ⟨⟨p, hp, hpl, rfl⟩, hzj⟩
   ·have := h3 p hp hpl (by omega)
    exact .inr (by simp; omega)
theorem UpI.done {l : List O} {c : Nat} {last z : Int} {its : List Nat} {n : Nat} (h : UpI l c last its) (hlen : l.length = n) (hx : NxI l c last n z) (hz : z < 0) : its = items l c := by
 have hlo := h.lo
 rcases hx with ⟨_, h2⟩ | ⟨h1, _⟩
 ·rw [List.take_of_length_le (Nat.le_of_eq hlen)] at h2
  refine sorted_one h.up (items_up l c) fun x => ?_
  rw [h.mem]
  unfold items
  rw [List.mem_filter, List.mem_range, List.any_eq_true]
  constructor
  ·rintro ⟨⟨o, ho, ⟨h3, h4, h5⟩, rfl⟩, _⟩
   exact ⟨o.hi, o, ho, by unfold ofB; rw [h5, Bool.and_true]; exact decide_eq_true ⟨h3, rfl, h4⟩⟩
  ·rintro ⟨_, o, ho, h3⟩
   unfold ofB at h3
   rw [Bool.and_eq_true] at h3
   obtain ⟨e1, e2, e3⟩ := of_decide_eq_true h3.1
   subst e2
   exact ⟨⟨o, ho, ⟨e1, e3, h3.2⟩, rfl⟩, h2 o ho ⟨e1, e3, h3.2⟩⟩
 ·omega
def ln2 (l : List O) (c i : Nat) : List Value := [.int .u16 (i : Int), .int .u32 (qty l c i : Int)]
def msI (v : Value) : Nat := match numI v with
 | .ofNat n => 65536 - n
 | .negSucc _ => 0
theorem msI_lt {z : Int} {i : Nat} (hi : i < 65536) (h : z < 0 ∨ (i : Int) < z) : msI (.int .i64 z) < msI (.int .i64 (i : Int)) := by
 cases z with
 | ofNat m =>
  show 65536 - m < 65536 - i
  have e : Int.ofNat m = (m : Int) := rfl
  omega
 | negSucc m =>
  show 0 < 65536 - i
  omega
structure Jw (w W : World) (r v c : Nat) (o : Bool) (T : Nat) : Prop where
 res : Blk W r 55 (viewV 0 (.slice none 0 0) false 0)
 view : Blk W v 55 (viewV c (.slice none 0 0) o T)
 old : Below w.heap.size w W
 ord : w.heap.size = r ∧ r + 1 = v
section
variable {w W W' : World} {r v c : Nat} {o : Bool} {T : Nat}
theorem Jw.below (h : Jw w W r v c o T) (hb : Below W.heap.size W W') : Jw w W' r v c o T := ⟨h.res.below hb, h.view.below hb, h.old.trans (hb.mono h.old.size), h.ord⟩
theorem Jw.kept {S : Nat → Prop} (h : Jw w W r v c o T) (hk : Kept S W W') (hs : ∀ k, S k → v < k) : Jw w W' r v c o T :=
 ⟨h.res.kept hk (fun e => by have := hs _ e; have := h.ord; omega), h.view.kept hk (fun e => by have := hs _ e; omega), h.old.trans (hk.below h.old.size (fun k e => by have := hs _ e; have := h.ord; omega)), h.ord⟩
theorem Jw.set (h : Jw w W r v c o T) {j : Nat} {u : Value} {o2 : Bool} {T2 : Nat} (e : (viewV c (.slice none 0 0) o T).setIfInBounds j u = viewV c (.slice none 0 0) o2 T2) : Jw w (W.setCell ⟨v, j, none⟩ u) r v c o2 T2 := by
 have hk := Kept.setCell W ⟨v, j, none⟩ u
 have ho := h.ord
 exact ⟨h.res.kept hk (by simp only; omega), by rw [← e]; exact h.view.set j u, h.old.trans (hk.below h.old.size (fun k e => by simp only at e; omega)), ho⟩
end
theorem jw_new (w : World) (c : Nat) : Jw w ((w.alloc (.cells #[.int .u16 0, .slice none 0 0, .bool false, .int .u32 0] 55)).alloc (.cells #[.int .u16 (c : Int), .slice none 0 0, .bool false, .int .u32 0] 55)) w.heap.size (w.heap.size + 1) c false 0 := by
 have h2 := Blk.new w 55 #[.int .u16 0, .slice none 0 0, .bool false, .int .u32 0]
 have h3 := Blk.new (w.alloc (.cells #[.int .u16 0, .slice none 0 0, .bool false, .int .u32 0] 55)) 55 #[.int .u16 (c : Int), .slice none 0 0, .bool false, .int .u32 0]
 have b3 := below_one (w.alloc (.cells #[.int .u16 0, .slice none 0 0, .bool false, .int .u32 0] 55)) (.cells #[.int .u16 (c : Int), .slice none 0 0, .bool false, .int .u32 0] 55)
 simp only [World.size_alloc] at h3
 exact ⟨h2.below b3, h3, (below_one w _).trans (b3.mono (by simp)), ⟨rfl, rfl⟩⟩
set_option maxRecDepth 100000 in
set_option maxHeartbeats 16000000 in
theorem rfview_any {a : Option Addr} {n cap : Nat} {l : List O} {w : World} (hl : OL w a n l) (hn : n < 1000000) (c : Nat) : Calls Tryz.prog 35 #[.slice a n cap, .int .u16 (c : Int)] w (FoldP l c w) := by
 have HL := Lib.hid hl
 have HLEN := Lib.hid (OL.len' hl)
 have HX0 := Lib.hid (jw_new w c)
 clear hl
 go_enter Tryz.func35, Tryz.ntmps35
 go_upto_region 2 with fail
 generalize (w.alloc (.cells #[.int .u16 0, .slice none 0 0, .bool false, .int .u32 0] 55)).alloc (.cells #[.int .u16 (c : Int), .slice none 0 0, .bool false, .int .u32 0] 55) = w0 at HX0
 obtain ⟨r, hr⟩ : ∃ p, w.heap.size = p := ⟨_, rfl⟩
 obtain ⟨v, hv⟩ : ∃ p, r + 1 = p := ⟨_, rfl⟩
 rw [hr, hv] at HX0
 rw [hr, hv]
 clear hr hv
 have HX1 : Hid (Jw w w0 r v c (outK l c 0) (tickTo c (l.take 0))) := Lib.hid HX0.out
 clear HX0
 go_wp2_with fail
 go_loopw [6] (fun i wr => ∃ k : Nat, k ≤ n ∧ i = .int .i64 (k : Int) ∧ Hid (Jw w wr r v c (outK l c k) (tickTo c (l.take k)))) (fun i _ => n - (numI i).toNat)
 case atStart => exact ⟨0, Nat.zero_le _, rfl, HX1⟩
 case round =>
  obtain ⟨k, hk, rfl, HX2⟩ := hrel
  clear HX1
  by_cases hlt : k < n
  ·obtain ⟨b, off, x, rfl, hx, hr⟩ := OL.at (HL.out.below HX2.out.old) hlt
   have HXX := Lib.hid hx
   have c3 := op3 hr
   have HOS := Lib.hid (outK_succ (c := c) hx)
   have HTS := Lib.hid (tick_succ (c := c) hx)
   obtain ⟨T, hT⟩ : ∃ T, tickTo c (l.take k) = T := ⟨_, rfl⟩
   obtain ⟨o, ho⟩ : ∃ o, outK l c k = o := ⟨_, rfl⟩
   rw [hT] at HTS HX2
   rw [ho] at HOS HX2
   clear hT ho
   by_cases q1 : x.c = c
   ·have g1 : ((x.c : Int) == (c : Int)) = true := by simp; omega
    have c6 := op6 hr
    have HCT : Hid (wr.drew.cell? ⟨v, 3, none⟩ = some (.int .u32 (T : Int))) := Lib.hid (by show wr.cell? _ = _; rw [HX2.out.view.cell]; rfl)
    have HDV : Hid (Blk wr.drew v 55 (viewV c (.slice none 0 0) o T)) := Lib.hid (HX2.out.view.below (drew_below wr))
    have HX3 : Hid (Jw w (wr.drew.setCell ⟨v, 3, none⟩ (.int .u32 ((max T x.t : Nat) : Int))) r v c o (tickTo c (l.take (k + 1)))) := Lib.hid ((HX2.out.below (drew_below wr)).set (by rw [HTS.out, if_pos q1]; rfl))
    have HO2 : Hid (OL wr (some ⟨b, off, none⟩) n l) := Lib.hid (HL.out.below HX2.out.old)
    have HO3 : Hid (OL (wr.drew.setCell ⟨v, 3, none⟩ (.int .u32 ((max T x.t : Nat) : Int))) (some ⟨b, off, none⟩) n l) := Lib.hid (HL.out.below HX3.out.old)
    have HQ1 := Lib.hid q1
    clear hx hr c6 q1
    go_upto_region 6 with (refine wpList_run rfl (exec_idxO (i := k) rfl rfl rfl rfl hlt) ?_)
    refine wp_region_held_drew (S := fun w' => OL w' (some ⟨b, off, none⟩) n l) (by kernel_rfl) (HO2.out.below (drew_below _)) (fun hS => ?_)
    refine held_tk 0 24 (.pointer (some ⟨v,3,none⟩)) rfl rfl (by kernel_rfl) (fun _ _ _ h=>h) (fun _ _=>(by kernel_rfl)) hS ?_;simp only [Act.put,ap1,ap2,ap3]
    refine held_tk 2 26 (.slice (some ⟨b,off,none⟩) n cap) rfl rfl (by kernel_rfl) (fun _ _ _ h=>h) (fun _ _=>rfl) hS ?_;simp only [Act.put,ap1,ap2,ap3]
    refine held_tk 3 27 (.int .i64 (k : Int)) rfl rfl (by kernel_rfl) (fun _ _ _ h=>h) (fun _ _=>rfl) hS ?_;simp only [Act.put,ap1,ap2,ap3]
    refine held_tk 4 28 (.pointer (some ⟨b,off + k * 23,none⟩)) rfl rfl (by kernel_rfl) (fun _ _ _ h=>h) (fun _ _=>exec_idxO (i:=k) rfl rfl rfl rfl hlt) hS ?_;simp only [Act.put,ap1,ap2,ap3]
    refine held_tk 5 29 (.pointer (some ⟨b,off + k * 23 + 6,none⟩)) rfl rfl (by kernel_rfl) (fun _ _ _ h=>h) (fun _ _=>(by kernel_rfl)) hS ?_;simp only [Act.put,ap1,ap2,ap3]
    refine held_tk 6 30 (.int .u32 (x.t : Int)) rfl rfl (by kernel_rfl) (fun _ _ _ h=>h) (fun _ h=>exec_cell rfl rfl (load_cell (by kernel_rfl) (op6 (ol_rng h HXX.out)))) hS ?_;simp only [Act.put,ap1,ap2,ap3]
    refine held_exec 1 25 (.int .u32 (T : Int)) rfl rfl (by kernel_rfl) (by kernel_rfl) (exec_cell rfl rfl (load_cell (by kernel_rfl) HCT.out)) hS ?_;simp only [Act.put,ap1,ap2,ap3]
    refine held_tk 7 31 (.int .u32 ((max T x.t : Nat) : Int)) rfl rfl (by kernel_rfl) (fun _ _ _ h=>h) (fun _ _=>exec_max rfl rfl rfl) hS ?_;simp only [Act.put,ap1,ap2,ap3]
    refine held_tk 8 32 (.pointer (some ⟨v,3,none⟩)) rfl rfl (by kernel_rfl) (fun _ _ _ h=>h) (fun _ _=>(by kernel_rfl)) hS ?_;simp only [Act.put,ap1,ap2,ap3]
    refine held_void 9 rfl rfl (by kernel_rfl) (by kernel_rfl) (exec_st22 rfl rfl rfl HDV.out (by rw [viewV_size]; omega)) HO3.out ?_
    clear hS
    generalize wr.drew.setCell ⟨v, 3, none⟩ (.int .u32 ((max T x.t : Nat) : Int)) = w2 at HX3 HO3
    refine wpAnyH_done (by kernel_rfl) ?_ _
    clear HCT HDV HX2 HTS
    have c2 := op2 (ol_rng HO3.out HXX.out)
    obtain ⟨T2, hT2⟩ : ∃ T2, tickTo c (l.take (k + 1)) = T2 := ⟨_, rfl⟩
    have HT2 := Lib.hid hT2
    rw [hT2] at HX3
    clear hT2
    have co : w2.cell? ⟨v, 2, none⟩ = some (.bool o) := by rw [HX3.out.view.cell]; rfl
    have fo : w2.frozen? ⟨v, 2, none⟩ = false := HX3.out.view.frozen 2
    cases o
    case true =>
     have HX4 : Hid (Jw w (w2.setCell ⟨v, 2, none⟩ (.bool true)) r v c true T2) := Lib.hid (HX3.out.set rfl)
     have HOE : Hid (outK l c (k + 1) = true) := Lib.hid (by rw [HOS.out]; rfl)
     clear HOS
     go_wp2_with (first | (refine wpList_run rfl (exec_idxO (i := k) rfl rfl rfl rfl hlt) ?_) | (refine wpList_runW (exec_idxO (i := k) rfl rfl rfl rfl hlt) (by kernel_rfl) ?_))
     go_roundw
     case rel => exact ⟨k + 1, hlt, by go_num, by rw [HOE.out, HT2.out]; exact HX4⟩
     case measure => simp [numI]; omega
    case false =>
     by_cases h4 : x.k = 4
     ·have g4 : ((x.k : Int) == 4) = true := by simp; omega
      have HOE : Hid (outK l c (k + 1) = liveB l x) := Lib.hid (by rw [HOS.out, decide_eq_true ⟨HQ1.out, h4⟩]; simp)
      clear HOS h4
      go_wp2_with (first | (refine wpList_run rfl (exec_idxO (i := k) rfl rfl rfl rfl hlt) ?_) | (refine wpList_runW (exec_idxO (i := k) rfl rfl rfl rfl hlt) (by kernel_rfl) ?_))
      refine (rlive_any HO3.out hn HXX.out).mono ?_
      rintro e w3 ⟨rfl, hb⟩
      have HX4 := Lib.hid (HX3.out.below hb)
      clear hb co fo c2 HX3 HO3
      obtain ⟨lv, hlv⟩ : ∃ lv, liveB l x = lv := ⟨_, rfl⟩
      rw [hlv] at HOE ⊢
      clear hlv
      have fo : w3.frozen? ⟨v, 2, none⟩ = false := HX4.out.view.frozen 2
      have HX5 : Hid (Jw w (w3.setCell ⟨v, 2, none⟩ (.bool lv)) r v c lv T2) := Lib.hid (HX4.out.set rfl)
      have co : w3.cell? ⟨v, 2, none⟩ = some (.bool false) := by rw [HX4.out.view.cell]; rfl
      cases lv
      ·go_wp2_with fail
       go_roundw
       case rel => exact ⟨k + 1, hlt, by go_num, by rw [HOE.out, HT2.out]; exact HX5⟩
       case measure => simp [numI]; omega
      ·go_wp2_with fail
       go_roundw
       case rel => exact ⟨k + 1, hlt, by go_num, by rw [HOE.out, HT2.out]; exact HX5⟩
       case measure => simp [numI]; omega
     ·have g4 : ((x.k : Int) == 4) = false := by simp; omega
      have HOE : Hid (outK l c (k + 1) = false) := Lib.hid (by rw [HOS.out]; simp [h4])
      have HX4 : Hid (Jw w (w2.setCell ⟨v, 2, none⟩ (.bool false)) r v c false T2) := Lib.hid (HX3.out.set rfl)
      clear HOS h4
      go_wp2_with (first | (refine wpList_run rfl (exec_idxO (i := k) rfl rfl rfl rfl hlt) ?_) | (refine wpList_runW (exec_idxO (i := k) rfl rfl rfl rfl hlt) (by kernel_rfl) ?_))
      go_roundw
      case rel => exact ⟨k + 1, hlt, by go_num, by rw [HOE.out, HT2.out]; exact HX4⟩
      case measure => simp [numI]; omega
   ·have g1 : ((x.c : Int) == (c : Int)) = false := by simp; omega
    have HX3 : Hid (Jw w wr r v c (outK l c (k + 1)) (tickTo c (l.take (k + 1)))) := Lib.hid (by
     rw [HTS.out, if_neg q1, HOS.out, decide_eq_false (fun h => q1 h.1)]
     simpa using HX2.out)
    clear hx hr q1 HOS HTS HX2
    go_wp2_with (refine wpList_run rfl (exec_idxO (i := k) rfl rfl rfl rfl hlt) ?_)
    go_roundw
    case rel => exact ⟨k + 1, hlt, by go_num, HX3⟩
    case measure => simp [numI]; omega
  ·obtain rfl : k = n := by omega
   have HX3 : Hid (Jw w wr r v c (outB l c) (tickTo c l)) := Lib.hid (by
    have h1 := HX2.out
    unfold outK at h1
    rw [List.take_of_length_le (Nat.le_of_eq HLEN.out)] at h1
    exact h1)
   clear HX2
   obtain ⟨o, ho⟩ : ∃ o, outB l c = o := ⟨_, rfl⟩
   obtain ⟨T, hT⟩ : ∃ T, tickTo c l = T := ⟨_, rfl⟩
   have HOO := Lib.hid ho
   have HTT := Lib.hid hT
   rw [ho, hT] at HX3
   clear ho hT
   obtain ⟨B, hB⟩ : ∃ B, wr.heap.size = B := ⟨_, rfl⟩
   have HO0 : Hid (OwnG wr 86 2 B none 0 0 (([] : List Nat).map (ln2 l c))) := Lib.hid (ownG_nil wr 86 2 B)
   have HVB : Hid (v < B) := Lib.hid (by rw [← hB]; exact HX3.out.view.lt)
   have HZ0 : Hid (B ≤ wr.heap.size) := Lib.hid (by omega)
   clear hB
   go_wp2_with fail
   refine (ritem_any (HL.out.below HX3.out.old) hn c (-1)).mono ?_
   rintro e w1 ⟨z, rfl, hz, hz1, hz2, hb⟩
   have HX4 := Lib.hid (HX3.out.below hb)
   have HO1 := Lib.hid (HO0.out.below hb)
   have HZ1 : Hid (B ≤ w1.heap.size) := Lib.hid (Nat.le_trans HZ0.out hb.size)
   have HNX := Lib.hid hz
   clear hb hz HX3 HO0 HZ0
   go_wp2_with fail
   go_loopw [7, 8] (fun ls la W => ∃ (its : List Nat) (a1 : Option Addr) (c1 : Nat) (last z : Int), ls = .slice a1 its.length c1 ∧ la = .int .i64 z ∧ -1 ≤ z ∧ z < 65536 ∧ Hid (UpI l c last its) ∧ Hid (NxI l c last k z) ∧ Hid (OwnG W 86 2 B a1 its.length c1 (its.map (ln2 l c))) ∧ Hid (Jw w W r v c o T) ∧ Hid (B ≤ W.heap.size)) (fun _ la _ => msI la)
   case atStart => exact ⟨[], none, 0, -1, z, rfl, rfl, hz1, hz2, Lib.hid (UpI.start _ _), HNX, HO1, HX4, HZ1⟩
   case round =>
    obtain ⟨its, a1, c1, last, z, rfl, rfl, hz1, hz2, HU, HN, HO, HX, HZ⟩ := hrel
    clear HO1 HX4 HZ1 HNX
    by_cases hz0 : z < 0
    ·have HIE := Lib.hid (HU.out.done HLEN.out HN.out hz0)
     have q2 : decide (0 ≤ z) = false := by simp; omega
     go_wp2_with (first | (refine wpList_stop55 rfl ?_) | (refine wpList_void rfl rfl (exec_stSl rfl rfl rfl HX.out.view (by rw [viewV_size]; omega)) ?_))
     have hk1 := Kept.setCell wr ⟨v, 1, none⟩ (.slice a1 its.length c1)
     have HV1 : Hid (Blk (wr.setCell ⟨v, 1, none⟩ (.slice a1 its.length c1)) v 55 (viewV c (.slice a1 its.length c1) o T)) := Lib.hid (HX.out.view.set 1 (.slice a1 its.length c1))
     have HR1 : Hid (Blk (wr.setCell ⟨v, 1, none⟩ (.slice a1 its.length c1)) r 55 (viewV 0 (.slice none 0 0) false 0)) := Lib.hid (HX.out.res.kept hk1 (by have := HX.out.ord; simp only; omega))
     have HB1 : Hid (Below w.heap.size w (wr.setCell ⟨v, 1, none⟩ (.slice a1 its.length c1))) := Lib.hid (HX.out.old.trans (hk1.below HX.out.old.size (fun k e => by have := HX.out.ord; simp only at e; omega)))
     have HG1 : Hid (OwnG (wr.setCell ⟨v, 1, none⟩ (.slice a1 its.length c1)) 86 2 B a1 its.length c1 (its.map (ln2 l c))) := Lib.hid (HO.out.keep hk1 (fun ad e h => by have := (HO.out.lt ad e).1; have := HVB.out; simp only at h; omega))
     have HRR : Hid (w.heap.size ≤ r ∧ w.heap.size ≤ B ∧ r < B) := Lib.hid (by have := HX.out.ord; have := HVB.out; omega)
     clear hk1 HO HX
     generalize wr.setCell ⟨v, 1, none⟩ (.slice a1 its.length c1) = w10 at HV1 HR1 HB1 HG1 ⊢
     refine ⟨?_⟩
     refine wpList_run rfl (exec_load55 rfl rfl HV1.out) ?_
     refine wpList_void rfl rfl (exec_store55 rfl rfl rfl HR1.out) ?_
     have hkr := Kept.setRow w10 r (viewV c (.slice a1 its.length c1) o T)
     have HRB : Hid (Blk (w10.setRow r (viewV c (.slice a1 its.length c1) o T)) r 55 (viewV c (.slice a1 its.length c1) o T)) := Lib.hid HR1.out.row
     have HGB : Hid (OwnG (w10.setRow r (viewV c (.slice a1 its.length c1) o T)) 86 2 w.heap.size a1 its.length c1 (its.map (ln2 l c))) := Lib.hid ((HG1.out.keep hkr (fun ad e h => by have := (HG1.out.lt ad e).1; have := HRR.out; omega)).mono HRR.out.2.1)
     have HE : Hid (FoldP l c w (.returned (.agg (viewV c (.slice a1 its.length c1) o T))) (w10.setRow r (viewV c (.slice a1 its.length c1) o T))) := Lib.hid (by
      have e1 : (lines l c).length = its.length := by rw [HIE.out]; simp [lines]
      have e2 : its.map (ln2 l c) = (lines l c).map ln := by
       rw [HIE.out]
       unfold lines
       rw [List.map_map]
       rfl
      have e3 := HGB.out.gl
      rw [e2] at e3
      exact ⟨a1, c1, by rw [HOO.out, HTT.out, e1]; rfl, by rw [e1]; exact e3, HB1.out.trans (hkr.below HB1.out.size (fun i e => by have := HRR.out; omega))⟩)
     generalize w10.setRow r (viewV c (.slice a1 its.length c1) o T) = wz at HRB HE
     clear hkr HGB HV1 HR1 HB1 HG1
     go_wp2_with fail
     exact bodyPost_ret (ret55 rfl rfl HRB.out) rfl HE.out
    ·obtain ⟨i, rfl⟩ : ∃ i : Nat, z = (i : Int) := ⟨z.toNat, by omega⟩
     have hi : i < 65536 := by omega
     obtain ⟨hup, hli⟩ := HU.out.next HLEN.out HN.out hi
     have HUP := Lib.hid hup
     have HSL : Hid (its.length ≤ 65536) := Lib.hid HU.out.short
     have q2 : decide (0 ≤ (i : Int)) = true := by simp
     have hcv : IntKind.u16.wrap (i : Int) = (i : Int) := wrap_u16_id hi
     have hcv2 : (i : Int) % 65536 = (i : Int) := by omega
     clear hup hli
     go_wp2_with fail
     refine (rqty_any (HL.out.below HX.out.old) hn c i).mono ?_
     rintro e w2 ⟨rfl, hb⟩
     have HX2 := Lib.hid (HX.out.below hb)
     have HO2 := Lib.hid (HO.out.below hb)
     have HZ2 : Hid (B ≤ w2.heap.size) := Lib.hid (Nat.le_trans HZ.out hb.size)
     clear hb HX HO HZ
     go_wp2_with (first | (refine wpList_run rfl (exec_bldLine (i := i) (n := qty l c i) rfl rfl rfl) ?_) | (refine wpList_run rfl (exec_bsLine (cs := ln2 l c i) rfl rfl rfl) ?_) | (at_builtin; refine wpList_appendG 53 86 2 8 info86 und53 rfl (by decide) (by decide) rfl rfl rfl rfl (HO2.out.below (below_one w2 _)) (Blk.new w2 86 (ln2 l c i).toArray) rfl (by simp [Value.oneCell', ln2]) (by have := HSL.out; omega) (by have := HZ2.out; simp; omega) ?_; intro a3 c3 w11 ho hk3 hl3; have HO3 := Lib.hid ho; have HK3 := Lib.hid hk3; clear ho hk3 hl3))
     have hat : ∀ k, At a1 k → B ≤ k := fun k ⟨ad0, had, e⟩ => by rw [e]; exact (HO2.out.lt ad0 had).1
     have HX3 : Hid (Jw w w11 r v c o T) := Lib.hid ((HX2.out.below (below_one w2 _)).kept HK3.out (fun k e => by have := hat k e; have := HVB.out; omega))
     have HZ3 : Hid (B ≤ w11.heap.size) := Lib.hid (by have h5 := HK3.out.size; rw [World.size_alloc] at h5; have := HZ2.out; omega)
     clear HX2 HO2 HZ2 HK3 hat
     refine (ritem_any (HL.out.below HX3.out.old) hn c (i : Int)).mono ?_
     rintro e w3 ⟨z, rfl, hz, hz3, hz4, hb⟩
     have HX4 := Lib.hid (HX3.out.below hb)
     have HO4 := Lib.hid (HO3.out.below hb)
     have HZ4 : Hid (B ≤ w3.heap.size) := Lib.hid (Nat.le_trans HZ3.out hb.size)
     have HNX := Lib.hid hz
     have HMS : Hid (z < 0 ∨ (i : Int) < z) := Lib.hid (by rcases hz with ⟨h, _⟩ | ⟨h, _⟩ <;> omega)
     clear hb hz HX3 HO3 HZ3
     go_wp2_with fail
     go_roundw
     case rel => exact ⟨its ++ [i], a3, c3, (i : Int), z, by simp, rfl, hz3, hz4, HUP, HNX, Lib.hid (by have h := HO4.out; simp only [List.map_append, List.map_cons, List.map_nil, List.length_append, List.length_cons, List.length_nil]; exact h), HX4, HZ4⟩
     case measure =>
      have := HMS.out
      exact msI_lt hi this
end Go.Proofs.YtnekpgmgnepdoaaGreat.F
