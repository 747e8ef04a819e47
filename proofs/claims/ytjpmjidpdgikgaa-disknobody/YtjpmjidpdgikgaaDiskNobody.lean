/- DiskNobody is proved: for every act, a disk that no call made answers an error or nothing to each call, and bytes that were handed in, or told, may be written over. No condition. -/
import Derived.Test.YtjpmjidpdgikgaaKk
namespace Go.Proofs.Ytjpmjidpdgikgaa
namespace DiskNobody
open Go.ChangeShapes Go.WideShapes Go.ChangeAt Go.RowKit Go.Maps

/-- What stands of the empty disk, the row of both, the act. -/
structure S3 (W wr : World) (x : AV) (ga pd ps : Nat) : Prop where
  a : Blk wr ga 26 x.arr
  d : Dk wr pd 0 0 none none none 0 0
  r : Blk wr ps 28 #[.pointer none, .pointer (some ⟨pd, 0, none⟩)]
  b : Below W.heap.size W wr
theorem S3.below {W w w' : World} {x : AV} {ga pd ps : Nat} (h : S3 W w x ga pd ps) (hb : Below w.heap.size w w') : S3 W w' x ga pd ps := ⟨h.a.below hb, h.d.below hb, h.r.below hb, h.b.trans (hb.mono h.b.size)⟩
/-- A disk that is none. -/
structure Nb (W : World) (x : AV) (ga pd ps : Nat) (v : Option Addr) : Prop where
  read : ∀ w, S3 W w x ga pd ps → Calls Try.prog 15 #[.pointer v, .string x.s] w (Says (.tuple #[.slice none 0 0, .int .i64 1]) w)
  act : ∀ w, S3 W w x ga pd ps → Calls Try.prog 9 #[.pointer v, .agg x.arr] w (Says (.int .i64 1) w)
  list : ∀ w, S3 W w x ga pd ps → Calls Try.prog 16 #[.pointer v] w (Says (.slice none 0 0) w)
  used : ∀ w, S3 W w x ga pd ps → Calls Try.prog 17 #[.pointer v] w (Says (.int .i64 0) w)
theorem nb_nil (W : World) (x : AV) (ga pd ps : Nat) : Nb W x ga pd ps none :=
  ⟨fun w _ => read_nil _ w, fun w _ => do_any _ x.k x.s x.r x.ba x.bl x.bc x.ch x.ca x.cl x.cc x.n w _ (fun _ _ h => ⟨_, h.1⟩) (fun V hV => {
    sync := fun _ => (sync_nil _ V).mono fun _ _ h => h.below hV
    rename := fun _ => (rename_nil _ _ V).mono fun _ _ h => h.below hV
    remove := fun _ => (remove_nil _ V).mono fun _ _ h => h.below hV
    syncdir := fun _ => (syncdir_nil V).mono fun _ _ h => h.below hV
    crash := fun _ => (crash_nil _ _ _ _ V).mono fun _ _ h => h.below hV
    append2 := fun _ => (append_nil _ _ _ _ V).mono fun _ _ h => h.below hV
    off := fun _ => (off_nil _ V).mono fun _ _ h => h.below hV
    append := fun _ => (append_nil _ _ _ _ V).mono fun _ _ h => h.below hV }), fun w _ => list_nil w, fun w _ => used_nil w⟩
theorem nb_no (W : World) (x : AV) (ga pd ps : Nat) : Nb W x ga pd ps (some ⟨pd, 0, none⟩) :=
  ⟨fun _ h => read_no _ h.d, fun w h => do_any _ x.k x.s x.r x.ba x.bl x.bc x.ch x.ca x.cl x.cc x.n w _ (fun _ _ h => ⟨_, h.1⟩) (fun _ hV => {
    sync := fun _ => (sync_no _ (h.d.below hV)).mono fun _ _ h => h.below hV
    rename := fun _ => (rename_no _ _ (h.d.below hV)).mono fun _ _ h => h.below hV
    remove := fun _ => (remove_no _ (h.d.below hV)).mono fun _ _ h => h.below hV
    syncdir := fun _ => (syncdir_no (h.d.below hV)).mono fun _ _ h => h.below hV
    crash := fun _ => (crash_no _ _ _ _ (h.d.below hV)).mono fun _ _ h => h.below hV
    append2 := fun _ => (append_no _ _ _ _ (h.d.below hV)).mono fun _ _ h => h.below hV
    off := fun _ => (off_no _ (h.d.below hV)).mono fun _ _ h => h.below hV
    append := fun _ => (append_no _ _ _ _ (h.d.below hV)).mono fun _ _ h => h.below hV }), fun _ h => list_no h.d, fun _ h => used_no h.d⟩
/-- What stands of the made disk and the act. -/
structure T (W w : World) (x : AV) (ga B p : Nat) (s : Sta) : Prop where
  a : Blk w ga 26 x.arr
  d : Dz w B p 2000 s
  b : Below W.heap.size W w
  lo : W.heap.size ≤ B
  hi : ga < B
theorem T.below {W w w' : World} {x : AV} {ga B p : Nat} {s : Sta} (h : T W w x ga B p s) (hb : Below w.heap.size w w') : T W w' x ga B p s := ⟨h.a.below hb, h.d.below hb, h.b.trans (hb.mono h.b.size), h.lo, h.hi⟩
theorem T.keep {S : Nat → Prop} {W w w' : World} {x : AV} {ga B p : Nat} {s : Sta} (h : T W w x ga B p s) (k : Kept S w w') (h2 : ∀ i, s.at_ p i → ¬ S i) (h3 : ∀ i, S i → B ≤ i) : T W w' x ga B p s := ⟨h.a.kept k (fun hs => by have := h3 _ hs; have := h.hi; omega), h.d.keep k h2, h.b.trans (k.below h.b.size (fun i hs => Nat.le_trans h.lo (h3 i hs))), h.lo, h.hi⟩
theorem T.mv {W w w' : World} {x : AV} {ga B p : Nat} {s s' : Sta} (h : T W w x ga B p s) (m : Mv w B p 2000 s w' s') : T W w' x ga B p s' := ⟨h.a.kept m.kept (fun hs => by have := (h.d.at_lt hs).1; have := h.hi; omega), m.now, h.b.trans (m.kept.below h.b.size (fun i hs => Nat.le_trans h.lo (h.d.at_lt hs).1)), h.lo, h.hi⟩
abbrev nX : ByteArray := ⟨#[120]⟩
set_option maxRecDepth 100000 in
set_option maxHeartbeats 4000000 in
theorem walk (x : AV) (W : World) (hx : x.Ok W) : Calls Try.prog 4 #[.agg x.arr] W (Says (.bool true) W) := by
  have HX := Lib.hid hx
  have H0 : Hid (Blk (W.alloc (.cells x.arr 26)) W.heap.size 26 x.arr) := Lib.hid (Blk.new W 26 _)
  have HB0 := Lib.hid (below_one W (.cells x.arr 26))
  clear hx
  show Calls Try.prog 4 #[.agg #[.int .u8 (x.k : Int), .string x.s, .string x.r, .slice x.ba x.bl x.bc, .int .u8 (x.ch : Int), .slice x.ca x.cl x.cc, .int .i64 x.n]] W _
  go_enter Try.func4, Try.ntmps4
  go_upto_region 1 with fail
  try simp only [World.size_alloc, Act.put, List.setIfInBounds_toArray, List.set_cons_zero, List.set_cons_succ]
  have ea : (W.alloc (.cells #[.int .u8 (x.k : Int), .string x.s, .string x.r, .slice x.ba x.bl x.bc, .int .u8 (x.ch : Int), .slice x.ca x.cl x.cc, .int .i64 x.n] 26)) = W.alloc (.cells x.arr 26) := rfl
  rw [ea]
  clear ea
  generalize W.alloc (.cells x.arr 26) = w0 at H0 HB0 ⊢
  obtain ⟨ga, hga⟩ : ∃ ga, W.heap.size = ga := ⟨_, rfl⟩
  rw [hga] at H0
  have HGA := Lib.hid hga
  simp only [hga]
  clear hga
  go_wp2_with fail
  refine (alive_any w0).mono ?_
  rintro e w1 ⟨rfl, hb⟩
  have H1 := Lib.hid (H0.out.below hb)
  have HB1 := Lib.hid (HB0.out.trans (hb.mono HB0.out.size))
  clear hb H0 HB0
  have hfew := few_any x w1
  cases hq : x.few with
  | false =>
    rw [hq] at hfew
    go_wp2_with (refine wpList_run rfl (exec_load26 rfl rfl H1.out) ?_)
    refine hfew.mono ?_
    rintro e w2 ⟨rfl, hb⟩
    have HR := Lib.hid (HB1.out.trans (hb.mono HB1.out.size))
    clear hb hfew hq
    go_wp2_with fail
    go_ret
    exact ⟨rfl, HR.out⟩
  | true =>
    rw [hq] at hfew
    have HFEW : Hid (x.bl ≤ 1000) := Lib.hid (by have h := hq; simp only [AV.few, Bool.and_eq_true, decide_eq_true_eq] at h; exact h.2.2.1)
    go_wp2_with (refine wpList_run rfl (exec_load26 rfl rfl H1.out) ?_)
    refine hfew.mono ?_
    rintro e w2 ⟨rfl, hb⟩
    have H2 := Lib.hid (H1.out.below hb)
    have HB2 := Lib.hid (HB1.out.trans (hb.mono HB1.out.size))
    clear hb hfew hq H1 HB1
    go_upto_region 6 with fail
    have b3 := below_one w2 (.cells (dkA 0 0 none none none 0 0) 43)
    have b4 := below_one (w2.alloc (.cells (dkA 0 0 none none none 0 0) 43)) (.cells #[.pointer none, .pointer (some ⟨w2.heap.size, 0, none⟩)] 28)
    have n4 := Blk.new (w2.alloc (.cells (dkA 0 0 none none none 0 0) 43)) 28 #[.pointer none, .pointer (some ⟨w2.heap.size, 0, none⟩)]
    simp only [World.size_alloc] at n4
    have HS : Hid (S3 W ((w2.alloc (.cells (dkA 0 0 none none none 0 0) 43)).alloc (.cells #[.pointer none, .pointer (some ⟨w2.heap.size, 0, none⟩)] 28)) x ga w2.heap.size (w2.heap.size + 1)) := Lib.hid
      ⟨(H2.out.below b3).below b4, Blk.below (Blk.new w2 43 (dkA 0 0 none none none 0 0)) b4, n4, (HB2.out.trans (b3.mono HB2.out.size)).trans (b4.mono (Nat.le_trans HB2.out.size b3.size))⟩
    have e3 : w2.alloc (.cells #[.int .i64 0, .int .i64 0, .map none, .map none, .slice none 0 0, .bool false, .int .i64 0] 43) = w2.alloc (.cells (dkA 0 0 none none none 0 0) 43) := rfl
    rw [e3]
    clear e3 b3 b4 n4 H2 HB2
    generalize (w2.alloc (.cells (dkA 0 0 none none none 0 0) 43)).alloc (.cells #[.pointer none, .pointer (some ⟨w2.heap.size, 0, none⟩)] 28) = w3 at HS ⊢
    generalize w2.heap.size + 1 = ps at HS ⊢
    generalize w2.heap.size = pd at HS ⊢
    go_loopw [24] (fun iv wr => ∃ i : Nat, i ≤ 2 ∧ iv = .int .i64 (i : Int) ∧ Hid (S3 W wr x ga pd ps)) (fun iv _ => 2 - (intOf iv).toNat)
    case atStart => exact ⟨0, by omega, rfl, HS⟩
    case round =>
      obtain ⟨i, hi, rfl, HS⟩ := hrel
      by_cases hi2 : i < 2
      case' pos =>
        have hd : decide ((i : Int) < 2) = true := by simp; omega
        obtain ⟨v, hv, hnb⟩ : ∃ v, wr.cell? ⟨ps, i, none⟩ = some (.pointer v) ∧ Nb W x ga pd ps v := by
          rcases (by omega : i = 0 ∨ i = 1) with rfl | rfl
          · exact ⟨none, HS.out.r.cell 0, nb_nil _ _ _ _ _⟩
          · exact ⟨some ⟨pd, 0, none⟩, HS.out.r.cell 1, nb_no _ _ _ _ _⟩
        have HN := Lib.hid hnb
        have HV := Lib.hid hv
        clear hnb
        go_upto_region 8 with fail
        have u1 : wr.cell? ⟨ga, 1, none⟩ = some (.string x.s) := HS.out.a.cell 1
        have hc1 := HN.out.read wr HS.out
        go_wp2_with fail
        refine hc1.mono ?_
        rintro e w4 ⟨rfl, hb⟩
        have HS4 := Lib.hid (HS.out.below hb)
        clear hb hc1 u1 hv HV
        have hc2 := HN.out.act w4 HS4.out
        go_wp2_with (refine wpList_run rfl (exec_load26 rfl rfl HS4.out.a) ?_)
        refine hc2.mono ?_
        rintro e w5 ⟨rfl, hb⟩
        have HS5 := Lib.hid (HS4.out.below hb)
        clear hb hc2 HS4
        have hc3 := HN.out.list w5 HS5.out
        go_wp2_with fail
        refine hc3.mono ?_
        rintro e w6 ⟨rfl, hb⟩
        have HS6 := Lib.hid (HS5.out.below hb)
        clear hb hc3 HS5
        have hc4 := HN.out.used w6 HS6.out
        go_wp2_with fail
        refine hc4.mono ?_
        rintro e w7 ⟨rfl, hb⟩
        have HS7 := Lib.hid (HS6.out.below hb)
        clear hb hc4 HS6 HN
        have hw : IntKind.i64.wrap ((i : Int) + 1) = ((i + 1 : Nat) : Int) := by rw [IntKind.wrap_i64]; omega
        go_wp2_with fail
        go_roundw
        case rel => exact ⟨i + 1, by omega, by simp, HS7⟩
        case measure => simp only [intOf]; omega
      have hd : decide ((i : Int) < 2) = false := by simp; omega
      have HNW := Lib.hid (new_any 2000 wr (by omega) (by omega))
      go_wp2_with fail
      refine HNW.out.mono ?_
      intro e w4 hn
      obtain ⟨p, m1, m2, rfl, hdz, hb⟩ := newly_dz hn (by omega)
      have HT4 : Hid (T W w4 x ga wr.heap.size p (s0 m1 m2)) := Lib.hid ⟨HS.out.a.below hb, hdz, HS.out.b.trans (hb.mono HS.out.b.size), HS.out.b.size, HS.out.a.lt⟩
      clear hn hdz hb HNW HS
      have HX4 := Lib.hid (HX.out.b.below HT4.out.b)
      have u3 : w4.cell? ⟨ga, 3, none⟩ = some (.slice x.ba x.bl x.bc) := HT4.out.a.cell 3
      generalize wr.heap.size = B at HT4
      go_wp2_with (at_builtin; refine wpList_append_own_row _ rfl _ _ rfl w4.heap.size none 0 0 [] rfl (own_nil _ _) x.ba x.bl x.bc x.bs rfl HX4.out.row HX4.out.nil (by have := HFEW.out; omega) (Nat.le_refl _) ?_; intro a5 c5 w5 ho hk hl; simp only [Nat.zero_add, List.nil_append] at ho ⊢; have HO5 := Lib.hid ho; have HK5 : Hid (Kept (fun _ => False) w4 w5) := Lib.hid (hk.mono fun i ⟨ad, h, _⟩ => by cases h); clear ho hk hl; have HT5 := Lib.hid (HT4.out.below HK5.out.none); have HFR : Hid (∀ ad, a5 = some ad → ¬ (s0 m1 m2).at_ p ad.block) := Lib.hid (fun ad ha hat => by have h1 := (HO5.out.lt ad ha).1; have h2 := (HT4.out.d.at_lt hat).2; omega); have HC6 := Lib.hid (app_new HT5.out.d (s0_ok m1 m2) (by omega) (t := nX) (by decide) rfl (HO5.out.row HX.out.b.row.small) HO5.out.cap.2.2 HFEW.out (fun ad ha _ => HFR.out ad ha) (by show 0 + x.bl ≤ 2000; have := HFEW.out; omega) (by omega)))
      refine HC6.out.mono ?_
      rintro e w6 ⟨rfl, g, a6, c6, k6, qa6, qn6, qc6, s6, hm, _, hs6⟩
      have HT6 := Lib.hid (HT5.out.mv hm)
      have HO6 := Lib.hid (HO5.out.keep hm.kept HFR.out)
      have HFR6 : Hid (∀ i, s6.at_ p i → ¬ At a5 i) := Lib.hid (fun i hi ⟨ad, ha, e⟩ => by
        rcases hm.new i hi with h | h
        · exact HFR.out ad ha (e ▸ h)
        · have := (HO5.out.lt ad ha).2; omega)
      have HLO6 : Hid (∀ i, At a5 i → B ≤ i) := Lib.hid (fun i ⟨ad, ha, e⟩ => by have h1 := (HO5.out.lt ad ha).1; have h2 := HT4.out.d.hB; omega)
      have HS6 : Hid (s6.F = [⟨g, 0, a6, c6, 0, x.bs⟩] ∧ s6.f1 (litS nX) = some (.pointer (some ⟨g, 0, none⟩))) := Lib.hid ⟨by rw [hs6]; rfl, by rw [hs6]; exact chF_hit (set := nX) (by decide)⟩
      clear hm hs6 HC6 HT5 HO5 HK5 HFR HX4 u3
      have HL0 := Lib.hid (left_start HO6.out HX.out.b.row.small)
      clear HO6
      go_wp2_with fail
      go_loopw [74] (fun iv wl => ∃ j : Nat, j ≤ x.bl ∧ iv = .int .i64 (j : Int) ∧ Hid (Left x.bs a5 x.bl j wl) ∧ Hid (T W wl x ga B p s6)) (fun iv _ => x.bl - (intOf iv).toNat)
      case atStart => exact ⟨0, by omega, rfl, HL0, HT6⟩
      case round =>
        obtain ⟨j, hj, rfl, HLj, HTj⟩ := hrel
        by_cases hjl : j < x.bl
        case' pos =>
          have hd : decide ((j : Int) < (x.bl : Int)) = true := by simp; omega
          obtain ⟨q, hbx, hcj, hfj⟩ := HLj.out j (Nat.le_refl _) hjl
          have HBX := Lib.hid hbx
          subst hbx
          generalize x.bs.getD j 0 = cj at hcj
          have hw : IntKind.i64.wrap ((j : Int) + 1) = ((j + 1 : Nat) : Int) := by have := HFEW.out; rw [IntKind.wrap_i64]; omega
          go_wp2_with fail
          go_roundw
          case rel => exact ⟨j + 1, by omega, by simp, Lib.hid (left_next HLj.out _), Lib.hid (HTj.out.keep (Kept.setCell wr ⟨q, j, none⟩ _) (fun i hi e => HFR6.out i hi ⟨_, rfl, e⟩) (fun i e => HLO6.out i ⟨_, rfl, e⟩))⟩
          case measure => simp only [intOf]; omega
        have hd : decide ((j : Int) < (x.bl : Int)) = false := by simp; omega
        clear HLj HFR6 HLO6 HL0
        have hrd := fun w (hT : T W w x ga B p s6) => read_some (s := nX) hT.d.blk hT.d.room hT.d.mp1 (by decide) HS6.out.2 (hT.d.fls.blk ⟨g, 0, a6, c6, 0, x.bs⟩ (by rw [HS6.out.1]; exact List.mem_singleton.2 rfl)) ((hT.d.fls.own ⟨g, 0, a6, c6, 0, x.bs⟩ (by rw [HS6.out.1]; exact List.mem_singleton.2 rfl)).row HX.out.b.row.small) (fun ha => (hT.d.fls.own ⟨g, 0, a6, c6, 0, x.bs⟩ (by rw [HS6.out.1]; exact List.mem_singleton.2 rfl)).cap.2.2 ha) (by have := HX.out.b.row.size; have := HFEW.out; show x.bs.length ≤ _; omega)
        have HRD := Lib.hid hrd
        clear hrd
        have HR1 := Lib.hid (HRD.out _ HTj.out)
        go_wp2_with fail
        refine HR1.out.mono ?_
        rintro e w7 ⟨a7, c7, rfl, ho7, hb7⟩
        have HT7 := Lib.hid (HTj.out.below hb7)
        have hxs := HX.out.b.row.size
        have HL7 := Lib.hid (left_start ho7 HX.out.b.row.small)
        have HFR7 : Hid (∀ i, s6.at_ p i → ¬ At a7 i) := Lib.hid (fun i hi ⟨ad, ha, e⟩ => by have h1 := (ho7.lt ad ha).1; have h2 := (HTj.out.d.at_lt hi).2; omega)
        have HLO7 : Hid (∀ i, At a7 i → B ≤ i) := Lib.hid (fun i ⟨ad, ha, e⟩ => by have h1 := (ho7.lt ad ha).1; have h2 := HTj.out.d.hB; omega)
        simp only [hxs] at HL7 ⊢
        clear ho7 hb7 HR1 HTj hxs
        go_wp2_with fail
        go_loopw [91] (fun iv wl => ∃ j : Nat, j ≤ x.bl ∧ iv = .int .i64 (j : Int) ∧ Hid (Left x.bs a7 x.bl j wl) ∧ Hid (T W wl x ga B p s6)) (fun iv _ => x.bl - (intOf iv).toNat)
        case atStart => exact ⟨0, by omega, rfl, HL7, HT7⟩
        case round =>
          obtain ⟨j, hj, rfl, HLj, HTj⟩ := hrel
          by_cases hjl : j < x.bl
          case' pos =>
            have hd : decide ((j : Int) < (x.bl : Int)) = true := by simp; omega
            obtain ⟨q, hbx, hcj, hfj⟩ := HLj.out j (Nat.le_refl _) hjl
            have HBX := Lib.hid hbx
            subst hbx
            generalize x.bs.getD j 0 = cj at hcj
            have hw : IntKind.i64.wrap ((j : Int) + 1) = ((j + 1 : Nat) : Int) := by have := HFEW.out; rw [IntKind.wrap_i64]; omega
            go_wp2_with fail
            go_roundw
            case rel => exact ⟨j + 1, by omega, by simp, Lib.hid (left_next HLj.out _), Lib.hid (HTj.out.keep (Kept.setCell wr ⟨q, j, none⟩ _) (fun i hi e => HFR7.out i hi ⟨_, rfl, e⟩) (fun i e => HLO7.out i ⟨_, rfl, e⟩))⟩
            case measure => simp only [intOf]; omega
          have hd : decide ((j : Int) < (x.bl : Int)) = false := by simp; omega
          have HR2 := Lib.hid (HRD.out _ HTj.out)
          clear HLj HFR7 HLO7 HL7
          go_wp2_with fail
          refine HR2.out.mono ?_
          rintro e w8 ⟨a8, c8, rfl, ho8, hb8⟩
          have HT8 := Lib.hid (HTj.out.below hb8)
          have kx : (convert 23 9 (.slice a8 x.bs.length c8)).run Try.prog w8 = .ok (.string (strOf x.bs)) w8 := conv_any (ho8.row HX.out.b.row.small)
          have ky : (convert 23 9 (.slice x.ba x.bl x.bc)).run Try.prog w8 = .ok (.string (strOf x.bs)) w8 := conv_any (HX.out.b.below HT8.out.b).row
          have u3 : w8.cell? ⟨ga, 3, none⟩ = some (.slice x.ba x.bl x.bc) := HT8.out.a.cell 3
          have HB8 := Lib.hid HT8.out.b
          clear ho8 hb8 HR2 HT8
          go_wp2_with fail
          go_ret
          exact ⟨by simp, HB8.out⟩

set_option maxRecDepth 100000 in
theorem lifted (os : Os) (started : os.Started) (H : Type) (enc : TypeId × Value → H) :
    ReturnsInHanded {} Try.checked os 4 .any (Rows.diskNobodySpec.pre6 enc Try.prog Try.f4 Rows.diskNobodyRow.domain false) (Rows.diskNobodySpec.post enc Try.prog Try.f4 false true false false) := by
  refine returnsInHanded_of_change (C := Try.checked) own started (by kernel_rfl) Try.func4
    (ChangeSpec.witness6 (enc := enc) (C := Try.checked) false ⟨#[], #[.agg #[.int .u8 0, .string ⟨#[]⟩, .string ⟨#[]⟩, .slice none 0 0, .int .u8 0, .slice none 0 0, .int .i64 0]], []⟩ 8 (by kernel_rfl) (by kernel_rfl) (by kernel_rfl) (by kernel_rfl)) ?_
  intro W base args ds gs before hval0 hW hcnd _
  have hval : ∀ (j : Nat) t v, Try.f4.params[j]? = some t → args[j]? = some v → Value.okWide Try.prog W .any base t v := hval0
  have hW' := hW
  obtain ⟨p, q, hA0, hV, rfl, hfz, hnd⟩ := hW
  have hA : DataW.TrodAll enc Try.prog W 0 (fun _ => true) true Try.f4.params.toList args.toList ds p := hA0
  rw [Try.params4] at hA hval
  obtain ⟨v0, d0, rfl, rfl, h0⟩ := trodAll_one hA
  obtain ⟨rfl, rfl⟩ := trodVars_none hV
  have lt0 : ∀ x ∈ p, x.block < W.heap.size := by obtain ⟨m, hm⟩ := h0; exact DataW.trod_lt m _ _ _ hm
  obtain ⟨x0, hx0, rfl⟩ := av_of (hval 0 26 v0 rfl rfl) h0
  clear hA0 hval0
  refine (walk x0 W hx0).mono fun e W' ⟨he, bel⟩ => ?_
  subst he
  exact ⟨_, rfl, _, _, _, [], _, [], hW', trodAll_mk1 (shut_bool Try.underlying4 _), trodAll_mk1 (Below.trod laidOut (by kernel_rfl) (of_decide_eq_true (by kernel_rfl)) h0 bel lt0), rfl, bel.frame _, fun h => by cases h⟩
end DiskNobody

theorem diskNobody_proved : Rows.DiskNobodySaid :=
  OpenClaim.holds_of_wide 4 Try.f4 rfl rfl rfl rfl rfl rfl rfl ⟨rfl, rfl, rfl, rfl, rfl⟩ rfl rfl rfl rfl rfl (by kernel_rfl) Try.func4 (by kernel_rfl)
    (of_decide_eq_true (by kernel_rfl)) (by unfold Func.isWrapper; first | (rw [if_pos (by decide +kernel)]; kernel_rfl) | (rw [if_neg (by decide +kernel)]; exact ⟨rfl, rfl⟩))
    (fun os started H enc _ => DiskNobody.lifted os started H enc)
#print axioms diskNobody_proved
end Go.Proofs.Ytjpmjidpdgikgaa
