/- SegmentTail is proved: of any history that was written to a segment, what stands behind it changes nothing if it is sealed, or if no frame stands there; the table of four bits is tied to the program's text. No other condition. -/
import Derived.Test.YtfnaccmgmocolaaDoorSs
import Derived.Test.YtfnaccmgmocolaaDoorRf
namespace Go.Proofs.YtfnaccmgmocolaaDoor
namespace SegmentTail
open Go.ChangeShapes Go.WideShapes Go.ChangeAt Go.RowKit

/-- What is read all along: the segment's bytes and the tail. -/
structure Ct (W : World) (ba : Option Addr) (nb : Nat) (L : List Nat) (ta : Option Addr) (tn : Nat) (tl : List Nat) : Prop where
  tab : Tab W
  b : Row W ba nb L
  t : Row W ta tn tl
theorem Ct.below {W W' : World} {ba ta : Option Addr} {nb tn : Nat} {L tl : List Nat} (h : Ct W ba nb L ta tn tl) (hb : Below W.heap.size W W') : Ct W' ba nb L ta tn tl := ⟨h.tab.below hb, h.b.below hb, h.t.below hb⟩
/-- What one segment tells, in memory. -/
structure Te (W : World) (g id n u : Nat) (s : Bool) (a1 a2 : Option Addr) (c1 c2 : Nat) (ops : List O) (ats : List Nat) : Prop where
  x : Blk W g 44 (infoV id (.slice a1 n c1) (.slice a2 n c2) s u)
  o : GL W 23 a1 n (cellsO ops)
  a : GL W 1 a2 n (cellsN ats)
theorem Te.below {W W' : World} {g id n u : Nat} {s : Bool} {a1 a2 : Option Addr} {c1 c2 : Nat} {ops : List O} {ats : List Nat} (h : Te W g id n u s a1 a2 c1 c2 ops ats) (hb : Below W.heap.size W W') : Te W' g id n u s a1 a2 c1 c2 ops ats := ⟨h.x.below hb, h.o.below hb, h.a.below hb⟩
theorem small_of {A B : List Nat} (ha : ∀ c ∈ A, c < 256) (hb : ∀ c ∈ B, c < 256) : ∀ c ∈ A ++ B, c < 256 := fun c hc => by
  rcases List.mem_append.1 hc with h | h
  · exact ha c h
  · exact hb c h

set_option maxHeartbeats 8000000 in
set_option maxRecDepth 100000 in
theorem walk_big (id : Nat) (a : Option Addr) (len cap : Nat) (ta : Option Addr) (tn tc : Nat) (w : World) (hT : Tab w) (hbig : 3000 < tn) (hmax : tn ≤ 9223372036854775807) :
    Calls Tryd.prog 6 #[.int .u32 (id : Int), .slice a len cap, .slice ta tn tc] w fun e w' => e = .returned (.bool true) ∧ Below w.heap.size w w' := by
  have HA := Lib.hid (alive_any w hT)
  clear hT
  go_enter Tryd.func6, Tryd.ntmps6
  go_wp2_with fail
  refine HA.out.mono ?_
  rintro e w1 ⟨rfl, hb1⟩
  have HB1 := Lib.hid hb1
  clear hb1 HA
  go_wp2_with fail
  go_ret
  exact ⟨rfl, HB1.out⟩

set_option maxHeartbeats 8000000 in
set_option maxRecDepth 100000 in
theorem walk (id : Nat) (a : Option Addr) (len cap : Nat) (l : List O) (ta : Option Addr) (tn tc : Nat) (tl : List Nat) (w : World) (hT : Tab w) (hid : id < 4294967296) (hlen : len ≤ 9223372036854775807) (hl : OL w a len l) (hX : In w ta tn tc tl) :
    Calls Tryd.prog 6 #[.int .u32 (id : Int), .slice a len cap, .slice ta tn tc] w fun e w' => e = .returned (.bool true) ∧ Below w.heap.size w w' := by
  by_cases hbig : 3000 < tn
  · exact walk_big id a len cap ta tn tc w hT hbig hX.max
  have HA := Lib.hid (alive_any w hT)
  have HT := Lib.hid hT
  have HL := Lib.hid hl
  have HX := Lib.hid hX.row
  have HTZ := Lib.hid hX.nil
  have HTC := Lib.hid hX.le
  have HTS := Lib.hid hX.row.small
  clear hT hl hX
  go_enter Tryd.func6, Tryd.ntmps6
  go_wp2_with fail
  refine HA.out.mono ?_
  rintro e w1 ⟨rfl, hb1⟩
  have HW := Lib.hid (written_any id a len cap l w1 (HT.out.below hb1) hid hlen (HL.out.below hb1))
  have HT1 := Lib.hid (HT.out.below hb1)
  have HX1 := Lib.hid (HX.out.below hb1)
  have HB1 := Lib.hid hb1
  clear hb1 HA HL HT HX
  go_wp2_with fail
  refine HW.out.mono ?_
  rintro e w2 ⟨n, ba, nb, bc, ga, gc, ea, ec, rfl, hwn⟩
  obtain ⟨hgl, hbl⟩ := hwn.len
  have hnl := Seg.goods_len l 30
  have hrl := Seg.recs_len (Seg.goods l 30)
  have hhl := Seg.fr_pair_le (k := 1) (n := id) (by omega) (by omega)
  change (Seg.headB id).length ≤ 40 at hhl
  rw [List.length_append] at hbl
  have hnb : nb ≤ 20000 := by omega
  have hn30 : n ≤ 30 := by omega
  have hscf : ∀ t, Seg.scan ((Seg.headB id ++ Seg.recs (Seg.goods l 30)) ++ Frm.fr (Seg.pairB 3 n) ++ t) = some (id, ⟨Seg.goods l 30, Seg.starts (Seg.headB id).length (Seg.goods l 30), nb + (Frm.fr (Seg.pairB 3 n)).length, true⟩) := fun t => by
    have := Seg.scan_foot (id := id) hid (Seg.goods_right l 30) (by omega) t
    rw [hgl, hbl] at this
    rw [List.append_assoc, List.append_assoc]
    exact this
  have hscp : Seg.scan (Seg.headB id ++ Seg.recs (Seg.goods l 30)) = some (id, ⟨Seg.goods l 30, Seg.starts (Seg.headB id).length (Seg.goods l 30), nb, false⟩) := by
    have := Seg.scan_plain (id := id) hid (Seg.goods_right l 30)
    rw [hbl] at this
    exact this
  have hsct : (Frm.scan tl).2 = 0 → Seg.scan ((Seg.headB id ++ Seg.recs (Seg.goods l 30)) ++ tl) = some (id, ⟨Seg.goods l 30, Seg.starts (Seg.headB id).length (Seg.goods l 30), nb, false⟩) := fun h0 => by
    have := Seg.scan_tail (id := id) (t := tl) hid (Seg.goods_right l 30)
    have h4 := (Frm.scan_le tl).2
    have hnil : (Frm.scan tl).1 = [] := List.eq_nil_of_length_eq_zero (by omega)
    rw [hnil, hbl] at this
    rw [List.append_assoc]
    exact this
  have HSF := Lib.hid hscf
  have HSP := Lib.hid hscp
  have HST := Lib.hid hsct
  have HBS := Lib.hid (Seg.headrecs_lt id (Seg.goods l 30))
  have HGL := Lib.hid hgl
  have HSL : Hid ((Seg.starts (Seg.headB id).length (Seg.goods l 30)).length = n) := Lib.hid (by rw [Seg.starts_len]; exact hgl)
  have HC2 : Hid (Ct w2 ba nb (Seg.headB id ++ Seg.recs (Seg.goods l 30)) ta tn tl) := Lib.hid ⟨HT1.out.below hwn.old, hwn.b.row HBS.out, HX1.out.below hwn.old⟩
  have HBZ := Lib.hid hwn.b.cap.2.2
  have HBC := Lib.hid hwn.b.cap.1
  have HB2 := Lib.hid (HB1.out.trans (hwn.old.mono HB1.out.size))
  clear hwn hgl hbl hnl hrl hhl hscf hscp hsct HW HT1 HX1 HB1
  generalize Seg.starts (Seg.headB id).length (Seg.goods l 30) = ats at *
  generalize Seg.headB id ++ Seg.recs (Seg.goods l 30) = L at *
  generalize Seg.goods l 30 = g at *
  go_wp2_with fail
  refine (foot_ok n w2 HC2.out.tab (by omega)).mono ?_
  rintro e w3 ⟨fa, fc, rfl, hfo, hfb⟩
  have HFS := Lib.hid (Frm.fr_lt (Seg.pair_lt 3 n))
  have hfl := Seg.fr_pair_le (k := 3) (n := n) (by omega) (by omega)
  have HFW := Lib.hid (hfo.row HFS.out)
  have HFZ := Lib.hid hfo.cap.2.2
  have HC3 := Lib.hid (HC2.out.below hfb)
  have HB3 := Lib.hid (HB2.out.trans (hfb.mono HB2.out.size))
  clear hfo hfb HC2 HB2
  generalize Frm.fr (Seg.pairB 3 n) = fl at HSF HFS hfl HFW HFZ
  generalize fl.length = F at HSF hfl HFW HFZ
  go_wp2_with (at_builtin; first
    | (refine wpList_append_own_row w3 rfl _ _ rfl w3.heap.size none 0 0 [] rfl (own_nil _ _) ba nb bc _ rfl HC3.out.b HBZ.out (by omega) (Nat.le_refl _) ?_
       intro pa pc pw pho phk _
       simp only [Nat.zero_add, List.nil_append] at pho ⊢
       have PO := Lib.hid pho
       have PB := Lib.hid (phk.below (B := w3.heap.size) (Nat.le_refl _) (fun i hi => by obtain ⟨ad, h1, h2⟩ := hi; cases h1))
       clear pho phk)
    | (refine wpList_append_own_row pw rfl _ _ rfl w3.heap.size pa nb pc _ rfl PO.out fa F fc _ rfl (HFW.out.below PB.out) HFZ.out (by omega) PB.out.size ?_
       intro qa qc qw qho qhk _
       have QO := Lib.hid qho
       have QB := Lib.hid (PB.out.trans (qhk.below PB.out.size (fun i hi => by obtain ⟨ad, h1, h2⟩ := hi; have := (PO.out.lt ad h1).1; omega)))
       clear qho qhk))
  have HSS : Hid (∀ c ∈ L ++ fl, c < 256) := Lib.hid (small_of HBS.out HFS.out)
  have HSR := Lib.hid (QO.out.row HSS.out)
  have HSZ := Lib.hid QO.out.cap.2.2
  have HSCp := Lib.hid QO.out.cap.1
  have HC4 := Lib.hid (HC3.out.below QB.out)
  have HB4 := Lib.hid (HB3.out.trans (QB.out.mono HB3.out.size))
  clear PO PB QO QB HC3 HB3 HFW HFZ
  obtain ⟨NS, hNS⟩ : ∃ NS, nb + F = NS := ⟨_, rfl⟩
  rw [hNS] at HSR HSZ HSCp HSF ⊢
  have HSF0 : Hid (Seg.scan (L ++ fl) = some (id, ⟨g, ats, NS, true⟩)) := Lib.hid (by have := HSF.out []; rwa [List.append_nil] at this)
  refine (sscan_any qa NS qc _ qw HC4.out.tab HSR.out HSZ.out HSCp.out (by omega)).mono ?_
  intro e w5 hq
  obtain ⟨a1, c1, a2, c2, rfl, hl1, hl2, hb5⟩ := tells_of (n := n) HSF0.out HGL.out HSL.out hq
  have HC5 := Lib.hid (HC4.out.below hb5)
  have HSR5 := Lib.hid (HSR.out.below hb5)
  have HB5 := Lib.hid (HB4.out.trans (hb5.mono HB4.out.size))
  have HO1 := Lib.hid hl1.gl
  have HO2 := Lib.hid hl2.gl
  clear hq hl1 hl2 hb5 HC4 HSR HB4
  simp only
  go_wp2_with (first | (refine wpList_run rfl (exec_ialloc44 rfl) ?_) | (refine wpList_istop44 rfl ?_))
  refine ⟨?_⟩
  refine wpList_void rfl rfl (exec_istore44 (id := 0) (id2 := id) (a1 := a1) (n1 := n) (c1 := c1) (a2 := a2) (n2 := n) (c2 := c2) (s2 := true) (u2 := NS) (u := 0) rfl rfl rfl (Blk.new w5 44 infoZ)) ?_
  have hlo := ilaid_old w5 infoZ (infoV id (.slice a1 n c1) (.slice a2 n c2) true NS)
  have hxx := ilaid_blk w5 infoZ (infoV id (.slice a1 n c1) (.slice a2 n c2) true NS)
  have HTE := Lib.hid (Te.mk hxx (HO1.out.below hlo) (HO2.out.below hlo))
  have HC6 := Lib.hid (HC5.out.below hlo)
  have HSR6 := Lib.hid (HSR5.out.below hlo)
  have HB6 := Lib.hid (HB5.out.trans (hlo.mono HB5.out.size))
  clear hlo hxx HO1 HO2 HC5 HSR5 HB5
  generalize (w5.alloc (.cells infoZ 44)).setRow w5.heap.size (infoV id (.slice a1 n c1) (.slice a2 n c2) true NS) = w6 at HTE HC6 HSR6 HB6
  generalize w5.heap.size = g14 at HTE
  go_wp2_with (at_builtin; first
    | (refine wpList_append_own_row w6 rfl _ _ rfl w6.heap.size none 0 0 [] rfl (own_nil _ _) qa NS qc _ rfl HSR6.out HSZ.out (by omega) (Nat.le_refl _) ?_
       intro ra rc rw rho rhk _
       simp only [Nat.zero_add, List.nil_append] at rho ⊢
       have RO := Lib.hid rho
       have RB := Lib.hid (rhk.below (B := w6.heap.size) (Nat.le_refl _) (fun i hi => by obtain ⟨ad, h1, h2⟩ := hi; cases h1))
       clear rho rhk)
    | (refine wpList_append_own_row rw rfl _ _ rfl w6.heap.size ra NS rc _ rfl RO.out ta tn tc _ rfl (HC6.out.t.below RB.out) HTZ.out (by omega) RB.out.size ?_
       intro sa sc sw sho shk _
       have SO := Lib.hid sho
       have SB := Lib.hid (RB.out.trans (shk.below RB.out.size (fun i hi => by obtain ⟨ad, h1, h2⟩ := hi; have := (RO.out.lt ad h1).1; omega)))
       clear sho shk))
  have HC7 := Lib.hid (HC6.out.below SB.out)
  have HB7 := Lib.hid (HB6.out.trans (SB.out.mono HB6.out.size))
  have HTE7 := Lib.hid (HTE.out.below SB.out)
  refine (sscan_any sa (NS + tn) sc _ sw HC7.out.tab (SO.out.row (small_of HSS.out HTS.out)) SO.out.cap.2.2 SO.out.cap.1 (by omega)).mono ?_
  intro e w8 hq
  obtain ⟨a3, c3, a4, c4, rfl, hl1, hl2, hb8⟩ := tells_of (n := n) (HSF.out tl) HGL.out HSL.out hq
  have HC8 := Lib.hid (HC7.out.below hb8)
  have HTE8 := Lib.hid (HTE7.out.below hb8)
  have HB8 := Lib.hid (HB7.out.trans (hb8.mono HB7.out.size))
  have HO1 := Lib.hid hl1.gl
  have HO2 := Lib.hid hl2.gl
  clear hq hl1 hl2 hb8 HC7 HTE7 HB7 RO RB SO SB HC6 HTE HB6 HSR6
  simp only
  go_wp2_with (first | (refine wpList_run rfl (exec_ialloc44 rfl) ?_) | (refine wpList_istop44 rfl ?_))
  refine ⟨?_⟩
  refine wpList_void rfl rfl (exec_istore44 (id := 0) (id2 := id) (a1 := a3) (n1 := n) (c1 := c3) (a2 := a4) (n2 := n) (c2 := c4) (s2 := true) (u2 := NS) (u := 0) rfl rfl rfl (Blk.new w8 44 infoZ)) ?_
  have hlo := ilaid_old w8 infoZ (infoV id (.slice a3 n c3) (.slice a4 n c4) true NS)
  have hxx := ilaid_blk w8 infoZ (infoV id (.slice a3 n c3) (.slice a4 n c4) true NS)
  have HTF := Lib.hid (Te.mk hxx (HO1.out.below hlo) (HO2.out.below hlo))
  have HTE9 := Lib.hid (HTE8.out.below hlo)
  have HC9 := Lib.hid (HC8.out.below hlo)
  have HB9 := Lib.hid (HB8.out.trans (hlo.mono HB8.out.size))
  clear hlo hxx HO1 HO2 HC8 HTE8 HB8
  generalize (w8.alloc (.cells infoZ 44)).setRow w8.heap.size (infoV id (.slice a3 n c3) (.slice a4 n c4) true NS) = w9 at HTF HTE9 HC9 HB9
  generalize w8.heap.size = g16 at HTF
  go_upto_region 14 with fail
  refine wp_region_held_drew (S := fun w' => (Te w' g14 id n NS true a1 a2 c1 c2 g ats ∧ Te w' g16 id n NS true a3 a4 c3 c4 g ats) ∧ Below w9.heap.size w9 w') (by kernel_rfl) ⟨⟨HTE9.out.below (drew_below _), HTF.out.below (drew_below _)⟩, drew_below _⟩ (fun hS => ?_)
  refine held_take 0 62 (.int .i64 0) rfl rfl (by kernel_rfl) (by kernel_rfl) (by kernel_rfl) (fun _ _ _ h => h) (by kernel_rfl) (fun _ _ => rfl) hS ?_
  simp only [Act.put, List.setIfInBounds_toArray, List.set_cons_zero, List.set_cons_succ]
  refine held_take 1 63 (.bool false) rfl rfl (by kernel_rfl) (by kernel_rfl) (by kernel_rfl) (fun _ _ _ h => h) (by kernel_rfl) (fun _ _ => exec_neqI trivial rfl rfl rfl (by simp)) hS ?_
  simp only [Act.put, List.setIfInBounds_toArray, List.set_cons_zero, List.set_cons_succ]
  refine held_take 2 64 (.bool false) rfl rfl (by kernel_rfl) (by kernel_rfl) (by kernel_rfl) (fun _ _ _ h => h) (by kernel_rfl) (fun _ _ => rfl) hS ?_
  simp only [Act.put, List.setIfInBounds_toArray, List.set_cons_zero, List.set_cons_succ]
  refine held_take 3 65 (.int .i64 0) rfl rfl (by kernel_rfl) (by kernel_rfl) (by kernel_rfl) (fun _ _ _ h => h) (by kernel_rfl) (fun _ _ => rfl) hS ?_
  simp only [Act.put, List.setIfInBounds_toArray, List.set_cons_zero, List.set_cons_succ]
  refine held_take 4 66 (.bool false) rfl rfl (by kernel_rfl) (by kernel_rfl) (by kernel_rfl) (fun _ _ _ h => h) (by kernel_rfl) (fun _ _ => exec_neqI trivial rfl rfl rfl (by simp)) hS ?_
  simp only [Act.put, List.setIfInBounds_toArray, List.set_cons_zero, List.set_cons_succ]
  refine held_take 5 67 (.bool false) rfl rfl (by kernel_rfl) (by kernel_rfl) (by kernel_rfl) (fun _ _ _ h => h) (by kernel_rfl) (fun _ _ => rfl) hS ?_
  simp only [Act.put, List.setIfInBounds_toArray, List.set_cons_zero, List.set_cons_succ]
  refine held_take 6 68 (.bool false) rfl rfl (by kernel_rfl) (by kernel_rfl) (by kernel_rfl) (fun _ _ _ h => h) (by kernel_rfl) (fun _ _ => rfl) hS ?_
  simp only [Act.put, List.setIfInBounds_toArray, List.set_cons_zero, List.set_cons_succ]
  refine held_take 7 69 (.agg (infoV id (.slice a1 n c1) (.slice a2 n c2) true NS)) rfl rfl (by kernel_rfl) (by kernel_rfl) (by kernel_rfl) (fun _ _ _ h => h) (by kernel_rfl) (fun _ h => exec_iload44 rfl rfl h.1.1.x) hS ?_
  simp only [Act.put, List.setIfInBounds_toArray, List.set_cons_zero, List.set_cons_succ]
  refine held_take 9 71 (.agg (infoV id (.slice a3 n c3) (.slice a4 n c4) true NS)) rfl rfl (by kernel_rfl) (by kernel_rfl) (by kernel_rfl) (fun _ _ _ h => h) (by kernel_rfl) (fun _ h => exec_iload44 rfl rfl h.1.2.x) hS ?_
  simp only [Act.put, List.setIfInBounds_toArray, List.set_cons_zero, List.set_cons_succ]
  refine held_callP 8 70 19 #[(.agg (infoV id (.slice a1 n c1) (.slice a2 n c2) true NS))] rfl (by kernel_rfl) rfl (by kernel_rfl) (by kernel_rfl) (ours_any _ _ _ _ _ _ _ _ _ _) (fun e w108 hP => ?_)
  obtain ⟨rfl, hb8⟩ := hP
  refine ⟨_, rfl, ⟨⟨hS.1.1.below hb8, hS.1.2.below hb8⟩, hS.2.trans (hb8.mono hS.2.size)⟩, fun hS => ?_⟩
  clear hb8
  simp only [Act.put, List.setIfInBounds_toArray, List.set_cons_zero, List.set_cons_succ]
  refine held_callP 10 72 19 #[(.agg (infoV id (.slice a3 n c3) (.slice a4 n c4) true NS))] rfl (by kernel_rfl) rfl (by kernel_rfl) (by kernel_rfl) (ours_any _ _ _ _ _ _ _ _ _ _) (fun e w110 hP => ?_)
  obtain ⟨rfl, hb10⟩ := hP
  refine ⟨_, rfl, ⟨⟨hS.1.1.below hb10, hS.1.2.below hb10⟩, hS.2.trans (hb10.mono hS.2.size)⟩, fun hS => ?_⟩
  clear hb10
  simp only [Act.put, List.setIfInBounds_toArray, List.set_cons_zero, List.set_cons_succ]
  refine held_callP 11 73 18 #[(.agg (infoV id (.slice a1 n c1) (.slice a2 n c2) true NS)), (.agg (infoV id (.slice a3 n c3) (.slice a4 n c4) true NS))] rfl (by kernel_rfl) rfl (by kernel_rfl) (by kernel_rfl) (same_any id n n NS true a1 a2 a3 a4 c1 c2 c3 c4 g ats _ (by omega) (by omega) hS.1.1.o hS.1.1.a hS.1.2.o hS.1.2.a) (fun e w111 hP => ?_)
  obtain ⟨rfl, hb11⟩ := hP
  refine ⟨_, rfl, ⟨⟨hS.1.1.below hb11, hS.1.2.below hb11⟩, hS.2.trans (hb11.mono hS.2.size)⟩, fun hS => ?_⟩
  clear hb11
  simp only [Act.put, List.setIfInBounds_toArray, List.set_cons_zero, List.set_cons_succ]
  refine held_take 12 74 (.bool false) rfl rfl (by kernel_rfl) (by kernel_rfl) (by kernel_rfl) (fun _ _ _ h => h) (by kernel_rfl) (fun _ _ => rfl) hS ?_
  simp only [Act.put, List.setIfInBounds_toArray, List.set_cons_zero, List.set_cons_succ]
  refine held_take 13 75 (.bool false) rfl rfl (by kernel_rfl) (by kernel_rfl) (by kernel_rfl) (fun _ _ _ h => h) (by kernel_rfl) (fun _ _ => rfl) hS ?_
  simp only [Act.put, List.setIfInBounds_toArray, List.set_cons_zero, List.set_cons_succ]
  refine wpAnyH_done (by kernel_rfl) ?_ _
  have HC10 := Lib.hid (HC9.out.below hS.2)
  have HB10 := Lib.hid (HB9.out.trans (hS.2.mono HB9.out.size))
  clear hS HC9 HB9 HTE9 HTF
  generalize w111 = w10 at HC10 HB10 ⊢
  go_wp2_with fail
  refine (rscan_any ta tn tc tl w10 HC10.out.t HTZ.out HTC.out (by omega)).mono ?_
  rintro e w11 ⟨xa, xc, rfl, -, hb⟩
  have HC11 := Lib.hid (HC10.out.below hb)
  have HB11 := Lib.hid (HB10.out.trans (hb.mono HB10.out.size))
  clear hb HC10 HB10
  generalize hNN : (Frm.scan tl).2 = NN at HST ⊢
  generalize (Frm.scan tl).1.length = MM
  clear hNN
  by_cases hpos : 0 < NN
  · have hgt : decide ((0 : Int) < (NN : Int)) = true := by simp; omega
    go_wp2_with fail
    go_ret
    exact ⟨rfl, HB11.out⟩
  obtain rfl : NN = 0 := by omega
  have HST0 := Lib.hid (HST.out rfl)
  clear hpos HST
  go_wp2_with (at_builtin; first
    | (refine wpList_append_own_row w11 rfl _ _ rfl w11.heap.size none 0 0 [] rfl (own_nil _ _) ba nb bc _ rfl HC11.out.b HBZ.out (by omega) (Nat.le_refl _) ?_
       intro pa pc pw pho phk _
       simp only [Nat.zero_add, List.nil_append] at pho ⊢
       have PO := Lib.hid pho
       have PB := Lib.hid (phk.below (B := w11.heap.size) (Nat.le_refl _) (fun i hi => by obtain ⟨ad, h1, h2⟩ := hi; cases h1))
       clear pho phk)
    | (refine wpList_append_own_row pw rfl _ _ rfl w11.heap.size pa nb pc _ rfl PO.out ta tn tc _ rfl (HC11.out.t.below PB.out) HTZ.out (by omega) PB.out.size ?_
       intro qa qc qw qho qhk _
       have QO := Lib.hid qho
       have QB := Lib.hid (PB.out.trans (qhk.below PB.out.size (fun i hi => by obtain ⟨ad, h1, h2⟩ := hi; have := (PO.out.lt ad h1).1; omega)))
       clear qho qhk))
  have HC12 := Lib.hid (HC11.out.below QB.out)
  have HB12 := Lib.hid (HB11.out.trans (QB.out.mono HB11.out.size))
  refine (sscan_any qa (nb + tn) qc _ qw HC12.out.tab (QO.out.row (small_of HBS.out HTS.out)) QO.out.cap.2.2 QO.out.cap.1 (by omega)).mono ?_
  intro e w13 hq
  obtain ⟨a1, c1, a2, c2, rfl, hl1, hl2, hb13⟩ := tells_of (n := n) HST0.out HGL.out HSL.out hq
  have HC13 := Lib.hid (HC12.out.below hb13)
  have HB13 := Lib.hid (HB12.out.trans (hb13.mono HB12.out.size))
  have HO1 := Lib.hid hl1.gl
  have HO2 := Lib.hid hl2.gl
  clear hq hl1 hl2 hb13 HC12 HB12 PO PB QO QB HC11 HB11
  simp only
  go_wp2_with (first | (refine wpList_run rfl (exec_ialloc44 rfl) ?_) | (refine wpList_istop44 rfl ?_))
  refine ⟨?_⟩
  refine wpList_void rfl rfl (exec_istore44 (id := 0) (id2 := id) (a1 := a1) (n1 := n) (c1 := c1) (a2 := a2) (n2 := n) (c2 := c2) (s2 := false) (u2 := nb) (u := 0) rfl rfl rfl (Blk.new w13 44 infoZ)) ?_
  have hlo := ilaid_old w13 infoZ (infoV id (.slice a1 n c1) (.slice a2 n c2) false nb)
  have hxx := ilaid_blk w13 infoZ (infoV id (.slice a1 n c1) (.slice a2 n c2) false nb)
  have HTE := Lib.hid (Te.mk hxx (HO1.out.below hlo) (HO2.out.below hlo))
  have HC14 := Lib.hid (HC13.out.below hlo)
  have HB14 := Lib.hid (HB13.out.trans (hlo.mono HB13.out.size))
  clear hlo hxx HO1 HO2 HC13 HB13
  generalize (w13.alloc (.cells infoZ 44)).setRow w13.heap.size (infoV id (.slice a1 n c1) (.slice a2 n c2) false nb) = w14 at HTE HC14 HB14
  generalize w13.heap.size = g20 at HTE
  go_wp2_with fail
  refine (sscan_any ba nb bc _ w14 HC14.out.tab HC14.out.b HBZ.out HBC.out (by omega)).mono ?_
  intro e w15 hq
  obtain ⟨a3, c3, a4, c4, rfl, hl1, hl2, hb15⟩ := tells_of (n := n) HSP.out HGL.out HSL.out hq
  have HTE15 := Lib.hid (HTE.out.below hb15)
  have HB15 := Lib.hid (HB14.out.trans (hb15.mono HB14.out.size))
  have HO1 := Lib.hid hl1.gl
  have HO2 := Lib.hid hl2.gl
  clear hq hl1 hl2 hb15 HC14 HTE HB14
  simp only
  go_wp2_with (first | (refine wpList_run rfl (exec_ialloc44 rfl) ?_) | (refine wpList_istop44 rfl ?_))
  refine ⟨?_⟩
  refine wpList_void rfl rfl (exec_istore44 (id := 0) (id2 := id) (a1 := a3) (n1 := n) (c1 := c3) (a2 := a4) (n2 := n) (c2 := c4) (s2 := false) (u2 := nb) (u := 0) rfl rfl rfl (Blk.new w15 44 infoZ)) ?_
  have hlo := ilaid_old w15 infoZ (infoV id (.slice a3 n c3) (.slice a4 n c4) false nb)
  have hxx := ilaid_blk w15 infoZ (infoV id (.slice a3 n c3) (.slice a4 n c4) false nb)
  have HTF := Lib.hid (Te.mk hxx (HO1.out.below hlo) (HO2.out.below hlo))
  have HTE16 := Lib.hid (HTE15.out.below hlo)
  have HB16 := Lib.hid (HB15.out.trans (hlo.mono HB15.out.size))
  clear hlo hxx HO1 HO2 HTE15 HB15
  generalize (w15.alloc (.cells infoZ 44)).setRow w15.heap.size (infoV id (.slice a3 n c3) (.slice a4 n c4) false nb) = w16 at HTF HTE16 HB16
  generalize w15.heap.size = g22 at HTF
  go_upto_region 21 with fail
  refine wp_region_held_drew (S := fun w' => (Te w' g20 id n nb false a1 a2 c1 c2 g ats ∧ Te w' g22 id n nb false a3 a4 c3 c4 g ats) ∧ Below w16.heap.size w16 w') (by kernel_rfl) ⟨⟨HTE16.out.below (drew_below _), HTF.out.below (drew_below _)⟩, drew_below _⟩ (fun hS => ?_)
  refine held_take 0 96 (.int .i64 0) rfl rfl (by kernel_rfl) (by kernel_rfl) (by kernel_rfl) (fun _ _ _ h => h) (by kernel_rfl) (fun _ _ => rfl) hS ?_
  simp only [Act.put, List.setIfInBounds_toArray, List.set_cons_zero, List.set_cons_succ]
  refine held_take 1 97 (.bool true) rfl rfl (by kernel_rfl) (by kernel_rfl) (by kernel_rfl) (fun _ _ _ h => h) (by kernel_rfl) (fun _ _ => exec_eqlI trivial rfl rfl rfl (by simp)) hS ?_
  simp only [Act.put, List.setIfInBounds_toArray, List.set_cons_zero, List.set_cons_succ]
  refine held_take 2 98 (.bool true) rfl rfl (by kernel_rfl) (by kernel_rfl) (by kernel_rfl) (fun _ _ _ h => h) (by kernel_rfl) (fun _ _ => rfl) hS ?_
  simp only [Act.put, List.setIfInBounds_toArray, List.set_cons_zero, List.set_cons_succ]
  refine held_take 3 99 (.int .i64 0) rfl rfl (by kernel_rfl) (by kernel_rfl) (by kernel_rfl) (fun _ _ _ h => h) (by kernel_rfl) (fun _ _ => rfl) hS ?_
  simp only [Act.put, List.setIfInBounds_toArray, List.set_cons_zero, List.set_cons_succ]
  refine held_take 4 100 (.bool true) rfl rfl (by kernel_rfl) (by kernel_rfl) (by kernel_rfl) (fun _ _ _ h => h) (by kernel_rfl) (fun _ _ => exec_eqlI trivial rfl rfl rfl (by simp)) hS ?_
  simp only [Act.put, List.setIfInBounds_toArray, List.set_cons_zero, List.set_cons_succ]
  refine held_take 5 101 (.bool true) rfl rfl (by kernel_rfl) (by kernel_rfl) (by kernel_rfl) (fun _ _ _ h => h) (by kernel_rfl) (fun _ _ => rfl) hS ?_
  simp only [Act.put, List.setIfInBounds_toArray, List.set_cons_zero, List.set_cons_succ]
  refine held_take 6 102 (.bool true) rfl rfl (by kernel_rfl) (by kernel_rfl) (by kernel_rfl) (fun _ _ _ h => h) (by kernel_rfl) (fun _ _ => rfl) hS ?_
  simp only [Act.put, List.setIfInBounds_toArray, List.set_cons_zero, List.set_cons_succ]
  refine held_take 7 103 (.agg (infoV id (.slice a1 n c1) (.slice a2 n c2) false nb)) rfl rfl (by kernel_rfl) (by kernel_rfl) (by kernel_rfl) (fun _ _ _ h => h) (by kernel_rfl) (fun _ h => exec_iload44 rfl rfl h.1.1.x) hS ?_
  simp only [Act.put, List.setIfInBounds_toArray, List.set_cons_zero, List.set_cons_succ]
  refine held_take 9 105 (.agg (infoV id (.slice a3 n c3) (.slice a4 n c4) false nb)) rfl rfl (by kernel_rfl) (by kernel_rfl) (by kernel_rfl) (fun _ _ _ h => h) (by kernel_rfl) (fun _ h => exec_iload44 rfl rfl h.1.2.x) hS ?_
  simp only [Act.put, List.setIfInBounds_toArray, List.set_cons_zero, List.set_cons_succ]
  refine held_callP 8 104 19 #[(.agg (infoV id (.slice a1 n c1) (.slice a2 n c2) false nb))] rfl (by kernel_rfl) rfl (by kernel_rfl) (by kernel_rfl) (ours_any _ _ _ _ _ _ _ _ _ _) (fun e w108 hP => ?_)
  obtain ⟨rfl, hb8⟩ := hP
  refine ⟨_, rfl, ⟨⟨hS.1.1.below hb8, hS.1.2.below hb8⟩, hS.2.trans (hb8.mono hS.2.size)⟩, fun hS => ?_⟩
  clear hb8
  simp only [Act.put, List.setIfInBounds_toArray, List.set_cons_zero, List.set_cons_succ]
  refine held_callP 10 106 19 #[(.agg (infoV id (.slice a3 n c3) (.slice a4 n c4) false nb))] rfl (by kernel_rfl) rfl (by kernel_rfl) (by kernel_rfl) (ours_any _ _ _ _ _ _ _ _ _ _) (fun e w110 hP => ?_)
  obtain ⟨rfl, hb10⟩ := hP
  refine ⟨_, rfl, ⟨⟨hS.1.1.below hb10, hS.1.2.below hb10⟩, hS.2.trans (hb10.mono hS.2.size)⟩, fun hS => ?_⟩
  clear hb10
  simp only [Act.put, List.setIfInBounds_toArray, List.set_cons_zero, List.set_cons_succ]
  refine held_callP 11 107 18 #[(.agg (infoV id (.slice a1 n c1) (.slice a2 n c2) false nb)), (.agg (infoV id (.slice a3 n c3) (.slice a4 n c4) false nb))] rfl (by kernel_rfl) rfl (by kernel_rfl) (by kernel_rfl) (same_any id n n nb false a1 a2 a3 a4 c1 c2 c3 c4 g ats _ (by omega) (by omega) hS.1.1.o hS.1.1.a hS.1.2.o hS.1.2.a) (fun e w111 hP => ?_)
  obtain ⟨rfl, hb11⟩ := hP
  refine ⟨_, rfl, ⟨⟨hS.1.1.below hb11, hS.1.2.below hb11⟩, hS.2.trans (hb11.mono hS.2.size)⟩, fun hS => ?_⟩
  clear hb11
  simp only [Act.put, List.setIfInBounds_toArray, List.set_cons_zero, List.set_cons_succ]
  refine held_take 12 108 (.bool true) rfl rfl (by kernel_rfl) (by kernel_rfl) (by kernel_rfl) (fun _ _ _ h => h) (by kernel_rfl) (fun _ _ => rfl) hS ?_
  simp only [Act.put, List.setIfInBounds_toArray, List.set_cons_zero, List.set_cons_succ]
  refine held_take 13 109 (.bool true) rfl rfl (by kernel_rfl) (by kernel_rfl) (by kernel_rfl) (fun _ _ _ h => h) (by kernel_rfl) (fun _ _ => rfl) hS ?_
  simp only [Act.put, List.setIfInBounds_toArray, List.set_cons_zero, List.set_cons_succ]
  refine held_take 14 110 (.pointer (some ⟨g20, 4, none⟩)) rfl rfl (by kernel_rfl) (by kernel_rfl) (by kernel_rfl) (fun _ _ _ h => h) (by kernel_rfl) (fun _ _ => (by kernel_rfl)) hS ?_
  simp only [Act.put, List.setIfInBounds_toArray, List.set_cons_zero, List.set_cons_succ]
  refine held_take 15 111 (.int .i64 (nb : Int)) rfl rfl (by kernel_rfl) (by kernel_rfl) (by kernel_rfl) (fun _ _ _ h => h) (by kernel_rfl) (fun _ h => exec_ldC 3 agg3 rfl rfl (by rw [h.1.1.x.cell]; rfl)) hS ?_
  simp only [Act.put, List.setIfInBounds_toArray, List.set_cons_zero, List.set_cons_succ]
  refine held_take 16 112 (.slice ba nb bc) rfl rfl (by kernel_rfl) (by kernel_rfl) (by kernel_rfl) (fun _ _ _ h => h) (by kernel_rfl) (fun _ _ => rfl) hS ?_
  simp only [Act.put, List.setIfInBounds_toArray, List.set_cons_zero, List.set_cons_succ]
  refine held_take 17 113 (.int .i64 (nb : Int)) rfl rfl (by kernel_rfl) (by kernel_rfl) (by kernel_rfl) (fun _ _ _ h => h) (by kernel_rfl) (fun _ _ => exec_lenS ⟨_, Tryd.underlying31⟩ rfl rfl) hS ?_
  simp only [Act.put, List.setIfInBounds_toArray, List.set_cons_zero, List.set_cons_succ]
  refine held_take 18 114 (.bool true) rfl rfl (by kernel_rfl) (by kernel_rfl) (by kernel_rfl) (fun _ _ _ h => h) (by kernel_rfl) (fun _ _ => exec_eqlI trivial rfl rfl rfl (by simp)) hS ?_
  simp only [Act.put, List.setIfInBounds_toArray, List.set_cons_zero, List.set_cons_succ]
  refine held_take 19 115 (.bool true) rfl rfl (by kernel_rfl) (by kernel_rfl) (by kernel_rfl) (fun _ _ _ h => h) (by kernel_rfl) (fun _ _ => rfl) hS ?_
  simp only [Act.put, List.setIfInBounds_toArray, List.set_cons_zero, List.set_cons_succ]
  refine held_take 20 6 (.bool true) rfl rfl (by kernel_rfl) (by kernel_rfl) (by kernel_rfl) (fun _ _ _ h => h) (by kernel_rfl) (fun _ _ => rfl) hS ?_
  simp only [Act.put, List.setIfInBounds_toArray, List.set_cons_zero, List.set_cons_succ]
  refine wpAnyH_done (by kernel_rfl) ?_ _
  have HEND := Lib.hid (HB16.out.trans (hS.2.mono HB16.out.size))
  clear hS
  go_wp2_with fail
  go_ret
  exact ⟨rfl, HEND.out⟩

set_option maxRecDepth 100000 in
theorem lifted (os : Os) (started : os.Started) (H : Type) (enc : TypeId × Value → H) :
    ReturnsInHanded {} Tryd.checked os 6 .any (fun w args => (Rows.segmentTailSpec.pre enc Tryd.prog Tryd.f6 [] false w args ∧ laidMetH Tryd.prog laid1 w) ∧ sizedMet enc Tryd.prog Tryd.f6 (OpenSpec.ofChange Rows.segmentTailSpec) false w args)
      (Rows.segmentTailSpec.post enc Tryd.prog Tryd.f6 false true false false) := by
  refine returnsInHanded_of_change_and (C := Tryd.checked) (X := fun w _ => laidMetH Tryd.prog laid1 w) (fun _ _ _ hh h => h.of_heap hh) own started (by kernel_rfl) Tryd.func6
    (ChangeSpec.witness_shaped (enc := enc) (C := Tryd.checked) (os := os) (X := fun w _ => laidMetH Tryd.prog laid1 w) false (World.doorLaid Tryd.prog 914 os) #[.int .u32 0, .slice none 0 0, .slice none 0 0] 8 rfl (World.shaped_of_RefB (by kernel_rfl) (by kernel_rfl)) (by kernel_rfl) (by kernel_rfl) (by kernel_rfl) (door_met os _)) ?_
  intro W base args ds gs before hval0 hW _ _ hL _
  have hval : ∀ (j : Nat) t v, Tryd.f6.params[j]? = some t → args[j]? = some v → Value.okWide Tryd.prog W .any base t v := hval0
  have hW' := hW
  obtain ⟨p, q, hA0, hV, rfl, hfz, hnd⟩ := hW
  have hA : DataW.TrodAll enc Tryd.prog W 0 (fun _ => true) true Tryd.f6.params.toList args.toList ds p := hA0
  rw [Tryd.params6] at hA hval
  obtain ⟨v0, v1, v2, d0, d1, d2, p0, p1, p2, rfl, rfl, rfl, h0, h1, h2⟩ := trodAll_three hA
  obtain ⟨rfl, rfl⟩ := trodVars_none hV
  obtain ⟨m0, rfl, rfl, rfl, w0⟩ := open_int Tryd.underlying22 (hval 0 22 v0 rfl rfl) h0
  obtain ⟨a1, len1, cap1, rfl⟩ := okWide_slice Tryd.underlying41 (hval 1 41 v1 rfl rfl)
  obtain ⟨a2, len2, cap2, rfl⟩ := okWide_slice Tryd.underlying31 (hval 2 31 v2 rfl rfl)
  have c0 := bounds_u32 w0
  obtain ⟨n0, rfl⟩ := Int.eq_ofNat_of_zero_le c0.1
  have lt1 : ∀ x ∈ p1, x.block < W.heap.size := by obtain ⟨m, hm⟩ := h1; exact DataW.trod_lt m _ _ _ hm
  obtain ⟨m1, l1, x1⟩ := ops_of h1
  have lt2 : ∀ x ∈ p2, x.block < W.heap.size := by obtain ⟨m, hm⟩ := h2; exact DataW.trod_lt m _ _ _ hm
  obtain ⟨l2, x2⟩ := in_of h2
  clear hA0 hval0
  refine (walk n0 a1 len1 cap1 l1 a2 len2 cap2 l2 W (of_laid hL) (by omega) (by unfold maxLen at m1; omega) x1 x2).mono fun e W' ⟨he, bel⟩ => ?_
  subst he
  exact ⟨_, rfl, _, _, _, [], _, [], hW', trodAll_mk1 (shut_bool Tryd.underlying4 _), trodAll_mk3 (shut_int Tryd.underlying22 w0) (Below.trod laidOut (by kernel_rfl) (of_decide_eq_true (by kernel_rfl)) h1 bel lt1) (Below.trod laidOut (by kernel_rfl) (of_decide_eq_true (by kernel_rfl)) h2 bel lt2), rfl, bel.frame _, fun h => by cases h⟩

theorem row_holds : Rows.SegmentTailSaid :=
  OpenClaim.holds_of_wide 6 Tryd.f6 rfl rfl rfl rfl rfl rfl rfl ⟨rfl, rfl, rfl, rfl, rfl⟩ rfl rfl rfl rfl rfl (by kernel_rfl) Tryd.func6 (by kernel_rfl)
    (of_decide_eq_true (by kernel_rfl)) (by unfold Func.isWrapper; first | (rw [if_pos (by decide +kernel)]; kernel_rfl) | (rw [if_neg (by decide +kernel)]; exact ⟨rfl, rfl⟩))
    (fun os started H enc _ => lifted os started H enc)
end SegmentTail

theorem segmentTail_card : Rows.SegmentTailCardSaid :=
  Claim7.holds_tied_plain_at .later [] [.data] true (true, "5cb79ddcbf4508aa173619bff2636ccbe3431f194f34513c361fdadce8ffbb83") false
    SegmentTail.row_holds (fun _ h => by cases h) (by kernel_rfl) (fun _ h => by cases h) segmentTail_row_tie rfl ⟨rfl, rfl⟩ (by kernel_rfl) rfl
    (fun f fn hf hfn => by
      obtain rfl : f = 6 := Option.some.inj ((show Tryd.prog.funcNamed "trug/truglaw12.SegmentTail" = some 6 by kernel_rfl).symm.trans hf) |>.symm
      obtain rfl : fn = Tryd.f6 := (Option.some.inj (Tryd.func6.symm.trans hfn)).symm
      exact ⟨by kernel_rfl, fun j t ht => by
        rw [Tryd.params6] at ht
        have hm : t ∈ [22, 41, 31] := by simpa using Array.mem_of_getElem? ht
        have hall : ([22, 41, 31].all fun u => !Tryd.prog.wantsStandIn u) = true := by kernel_rfl
        exact (show Tryd.prog.wantsStandIn t = false by simpa using List.all_eq_true.1 hall t hm)⟩)
    (by kernel_rfl)
#print axioms segmentTail_card
end Go.Proofs.YtfnaccmgmocolaaDoor
