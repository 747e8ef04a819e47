/- DiskNames is proved: behind any row of acts all files together have as many bytes as are used, and another name changes no bytes. No condition. -/
import Derived.Test.YtjpmjidpdgikgaaKl
namespace Go.Proofs.Ytjpmjidpdgikgaa
namespace DiskNames
open Go.ChangeShapes Go.WideShapes Go.ChangeAt Go.RowKit Go.Maps

abbrev nQ : ByteArray := ⟨#[113, 117, 105, 116, 101, 32, 97, 110, 111, 116, 104, 101, 114, 32, 110, 97, 109, 101]⟩
set_option maxRecDepth 100000 in
set_option maxHeartbeats 4000000 in
theorem walk (a : Option Addr) (len cap : Nat) (xs : Nat → AV) (tt : Nat) (W : World) (hl : len ≤ maxLen) (hA : AL W a len xs) (hto : tt < 256) : Calls Try.prog 5 #[.slice a len cap, .int .u8 (tt : Int)] W (Says (.bool true) W) := by
  have HA := Lib.hid hA
  have HL : Hid (len ≤ 9223372036854775807) := Lib.hid (by unfold maxLen at hl; omega)
  have HTO := Lib.hid hto
  clear hA hl hto
  go_enter Try.func5, Try.ntmps5
  go_wp2_with fail
  refine (alive_any W).mono ?_
  rintro e w1 ⟨rfl, hb⟩
  have HB1 := Lib.hid hb
  clear hb
  have HNW := Lib.hid (new_any 1048576 w1 (by omega) (by omega))
  go_wp2_with fail
  refine HNW.out.mono ?_
  intro e w2 hn
  obtain ⟨p, m1, m2, rfl, hdz, hb⟩ := newly_dz hn (by omega)
  have HT2 : Hid (TD W w2 w1.heap.size p 0 (s0 m1 m2) []) := Lib.hid ⟨hdz, s0_ok m1 m2, HB1.out.trans (hb.mono HB1.out.size), HB1.out.size⟩
  clear hn hdz hb HNW HB1
  generalize w1.heap.size = B at HT2
  go_wp2_with fail
  go_loopw [6] (fun iv wr => ∃ i : Nat, i ≤ len ∧ i ≤ 60 ∧ iv = .int .i64 (i : Int) ∧ Hid (∃ s cs, TD W wr B p i s cs)) (fun iv _ => 60 - (intOf iv).toNat)
  case atStart => exact ⟨0, by omega, by omega, rfl, Lib.hid ⟨_, _, HT2.out⟩⟩
  case round =>
    obtain ⟨i, hil, hi60, rfl, HT⟩ := hrel
    clear HT2
    have hw : IntKind.i64.wrap ((i : Int) + 1) = ((i + 1 : Nat) : Int) := by rw [IntKind.wrap_i64]; omega
    by_cases hi : i < len ∧ i < 60
    case' pos =>
      have hd1 : decide ((i : Int) < (len : Int)) = true := by simp; omega
      have hd2 : decide ((i : Int) < 60) = true := by simp; omega
      obtain ⟨s, cs, hT⟩ := HT.out
      have HT3 := Lib.hid hT
      obtain ⟨b, off, rfl, hcells⟩ := ((HA.out.below hT.b).cells).resolve_left (by omega)
      have HG := Lib.hid (hcells i (by omega))
      have HXO := Lib.hid (HA.out.ok i (by omega))
      have u0 : wr.cell? ⟨b, off + i * 7, none⟩ = some (.int .u8 ((xs i).k : Int)) := by have := hcells i (by omega) 0 _ rfl; simpa using this
      generalize xs i = x at HG HXO u0
      have hfew := few_any x wr
      clear hT hcells HT

      have hw9 : (x.k : Int) % 9 = ((x.k % 9 : Nat) : Int) := by omega
      cases hq : x.few with
      | false =>
        rw [hq] at hfew
        go_wp2_with (refine wpList_run rfl (exec_ld26 rfl rfl HG.out) ?_)
        refine hfew.mono ?_
        rintro e w4 ⟨rfl, hb4⟩
        have HT4 := Lib.hid ((HT3.out.below hb4).next)
        clear hb4 hfew hq HT3 HG HXO u0 hw9
        have HLI := Lib.hid (list_any HT4.out.d (Nat.le_of_lt (Nat.lt_of_lt_of_le (k1_lt HT4.out.d HT4.out.ok (by omega)) (by omega))))
        go_wp2_with fail
        refine HLI.out.mono ?_
        rintro e w5 ⟨ga, gc, L, hL, _, rfl, ho5, hb5⟩
        have HT5 := Lib.hid (HT4.out.below hb5)
        have HO5 := Lib.hid ho5
        have HNL := Lib.hid hL
        clear hL ho5 hb5 HLI HT4
        generalize w4.heap.size = B4 at HO5
        go_wp2_with fail
        go_loopw [7, 56] (fun sv jv wr => ∃ j : Nat, j ≤ L.length ∧ jv = .int .i64 (j : Int) ∧ sv = .int .i64 ((usd s.f1 s.F (L.take j) : Nat) : Int) ∧ Hid (TD W wr B p (i + 1) s cs) ∧ Hid (OwnS wr B4 ga L.length gc L)) (fun _ jv _ => L.length - (intOf jv).toNat)
        case atStart => exact ⟨0, Nat.zero_le _, rfl, rfl, HT5, HO5⟩
        case round =>
          obtain ⟨j, hjl, rfl, rfl, HTj, HOj⟩ := hrel
          clear HT5 HO5
          by_cases hj : j < L.length
          case' pos =>
            have hd3 : decide ((j : Int) < (L.length : Int)) = true := by simp; omega
            obtain ⟨t, ht⟩ : ∃ t, L[j]? = some t := ⟨L[j], List.getElem?_eq_getElem hj⟩
            obtain ⟨g, hga, hcell⟩ := HOj.out.cell ht
            subst hga
            obtain ⟨y, hy, hfy⟩ := name_file HTj.out.d ((HNL.out.2 t).1 (List.mem_of_getElem? ht))
            have HR := Lib.hid (HTj.out.read (by omega) hy hfy)
            have HU : Hid (usd s.f1 s.F (L.take j) + y.bs.length = usd s.f1 s.F (L.take (j + 1))) := Lib.hid (by rw [usd_take ht, hfy, fil_of HTj.out.d.fls.nodup hy])
            have hle : usd s.f1 s.F (L.take (j + 1)) ≤ 61000 := by
              have h1 := usd_le' (f := s.f1) (F := s.F) (L := L.take (j + 1)) (HNL.out.1.sublist (List.take_sublist _ _)) (fun t ht => (HNL.out.2 t).1 (List.mem_of_mem_take ht)) HTj.out.d.nms HTj.out.ok.good.once HTj.out.d.fls.nodup
              have h2 := HTj.out.ok.tot
              omega
            have hwu : IntKind.i64.wrap ((usd s.f1 s.F (L.take j) : Int) + (y.bs.length : Int)) = ((usd s.f1 s.F (L.take (j + 1)) : Nat) : Int) := by rw [← HU.out]; exact wrap_add (by have := HU.out; omega)
            have hwj : IntKind.i64.wrap ((j : Int) + 1) = ((j + 1 : Nat) : Int) := by
              have h1 := HNL.out
              obtain ⟨L2, hL2, hk⟩ := mpF_names HTj.out.d.mp1
              have h2 := (h1.perm hL2).length_eq
              have h3 := k1_lt HTj.out.d HTj.out.ok (by omega)
              rw [IntKind.wrap_i64]; omega
            clear hle ht hy hfy
            go_wp2_with fail
            refine HR.out.mono ?_
            rintro e w6 ⟨ra, rc, rfl, _, hb6⟩
            have HT6 := Lib.hid (HTj.out.below hb6)
            have HO6 := Lib.hid (HOj.out.below hb6)
            clear hb6 HR hcell HTj HOj
            generalize y.bs.length = yl at hwu HU ⊢
            go_wp2_with fail
            go_roundw
            case rel => exact ⟨j + 1, by omega, by simp, by first | rfl | (rw [← HU.out]; simp), HT6, HO6⟩
            case measure => simp only [intOf]; omega
          have hd3 : decide ((j : Int) < (L.length : Int)) = false := by simp; omega
          have hjL : L.take j = L := List.take_of_length_le (by omega)
          have HUS := Lib.hid (used_any HTj.out.d HTj.out.ok.good.once (by have := HTj.out.ok.tot; omega))
          rw [hjL]
          clear hjL HOj
          go_wp2_with fail
          refine HUS.out.mono ?_
          rintro e w6 ⟨L2, hL2, _, rfl, hb6⟩
          have hus : usd s.f1 s.F L2 = usd s.f1 s.F L := usd_perm (hL2.perm HNL.out)
          have HT6 := Lib.hid (HTj.out.below hb6)
          rw [hus]
          clear hus hL2 hb6 HUS HTj
          generalize usd s.f1 s.F L = u6
          go_wp2_with fail
          go_roundw
          case rel => exact ⟨i + 1, by omega, by omega, by simp, Lib.hid ⟨s, cs, HT6.out⟩⟩
          case measure => simp only [intOf]; omega
      | true =>
        rw [hq] at hfew
        by_cases h8 : x.k % 9 = 8
        · have q8 : ((x.k : Int) % 9 == 8) = true := by simp; omega
          go_wp2_with (refine wpList_run rfl (exec_ld26 rfl rfl HG.out) ?_)
          refine hfew.mono ?_
          rintro e w4 ⟨rfl, hb4⟩
          have HT4 := Lib.hid ((HT3.out.below hb4).next)
          have u04 := below_at hb4 u0
          clear hb4 hfew hq HT3 HG HXO u0
          rw [h8] at hw9
          have HLI := Lib.hid (list_any HT4.out.d (Nat.le_of_lt (Nat.lt_of_lt_of_le (k1_lt HT4.out.d HT4.out.ok (by omega)) (by omega))))
          go_wp2_with fail
          refine HLI.out.mono ?_
          rintro e w5 ⟨ga, gc, L, hL, _, rfl, ho5, hb5⟩
          have HT5 := Lib.hid (HT4.out.below hb5)
          have HO5 := Lib.hid ho5
          have HNL := Lib.hid hL
          clear hL ho5 hb5 HLI HT4
          generalize w4.heap.size = B4 at HO5
          go_wp2_with fail
          go_loopw [7, 56] (fun sv jv wr => ∃ j : Nat, j ≤ L.length ∧ jv = .int .i64 (j : Int) ∧ sv = .int .i64 ((usd s.f1 s.F (L.take j) : Nat) : Int) ∧ Hid (TD W wr B p (i + 1) s cs) ∧ Hid (OwnS wr B4 ga L.length gc L)) (fun _ jv _ => L.length - (intOf jv).toNat)
          case atStart => exact ⟨0, Nat.zero_le _, rfl, rfl, HT5, HO5⟩
          case round =>
            obtain ⟨j, hjl, rfl, rfl, HTj, HOj⟩ := hrel
            clear HT5 HO5
            by_cases hj : j < L.length
            case' pos =>
              have hd3 : decide ((j : Int) < (L.length : Int)) = true := by simp; omega
              obtain ⟨t, ht⟩ : ∃ t, L[j]? = some t := ⟨L[j], List.getElem?_eq_getElem hj⟩
              obtain ⟨g, hga, hcell⟩ := HOj.out.cell ht
              subst hga
              obtain ⟨y, hy, hfy⟩ := name_file HTj.out.d ((HNL.out.2 t).1 (List.mem_of_getElem? ht))
              have HR := Lib.hid (HTj.out.read (by omega) hy hfy)
              have HU : Hid (usd s.f1 s.F (L.take j) + y.bs.length = usd s.f1 s.F (L.take (j + 1))) := Lib.hid (by rw [usd_take ht, hfy, fil_of HTj.out.d.fls.nodup hy])
              have hle : usd s.f1 s.F (L.take (j + 1)) ≤ 61000 := by
                have h1 := usd_le' (f := s.f1) (F := s.F) (L := L.take (j + 1)) (HNL.out.1.sublist (List.take_sublist _ _)) (fun t ht => (HNL.out.2 t).1 (List.mem_of_mem_take ht)) HTj.out.d.nms HTj.out.ok.good.once HTj.out.d.fls.nodup
                have h2 := HTj.out.ok.tot
                omega
              have hwu : IntKind.i64.wrap ((usd s.f1 s.F (L.take j) : Int) + (y.bs.length : Int)) = ((usd s.f1 s.F (L.take (j + 1)) : Nat) : Int) := by rw [← HU.out]; exact wrap_add (by have := HU.out; omega)
              have hwj : IntKind.i64.wrap ((j : Int) + 1) = ((j + 1 : Nat) : Int) := by
                have h1 := HNL.out
                obtain ⟨L2, hL2, hk⟩ := mpF_names HTj.out.d.mp1
                have h2 := (h1.perm hL2).length_eq
                have h3 := k1_lt HTj.out.d HTj.out.ok (by omega)
                rw [IntKind.wrap_i64]; omega
              clear hle ht hy hfy
              go_wp2_with fail
              refine HR.out.mono ?_
              rintro e w6 ⟨ra, rc, rfl, _, hb6⟩
              have HT6 := Lib.hid (HTj.out.below hb6)
              have HO6 := Lib.hid (HOj.out.below hb6)
              clear hb6 HR hcell HTj HOj
              generalize y.bs.length = yl at hwu HU ⊢
              go_wp2_with fail
              go_roundw
              case rel => exact ⟨j + 1, by omega, by simp, by first | rfl | (rw [← HU.out]; simp), HT6, HO6⟩
              case measure => simp only [intOf]; omega
            have hd3 : decide ((j : Int) < (L.length : Int)) = false := by simp; omega
            have hjL : L.take j = L := List.take_of_length_le (by omega)
            have HUS := Lib.hid (used_any HTj.out.d HTj.out.ok.good.once (by have := HTj.out.ok.tot; omega))
            rw [hjL]
            clear hjL HOj
            go_wp2_with fail
            refine HUS.out.mono ?_
            rintro e w6 ⟨L2, hL2, _, rfl, hb6⟩
            have hus : usd s.f1 s.F L2 = usd s.f1 s.F L := usd_perm (hL2.perm HNL.out)
            have HT6 := Lib.hid (HTj.out.below hb6)
            rw [hus]
            clear hus hL2 hb6 HUS HTj
            generalize usd s.f1 s.F L = u6
            go_wp2_with fail
            go_roundw
            case rel => exact ⟨i + 1, by omega, by omega, by simp, Lib.hid ⟨s, cs, HT6.out⟩⟩
            case measure => simp only [intOf]; omega
        · have q8 : ((x.k : Int) % 9 == 8) = false := by simp; omega
          go_wp2_with (refine wpList_run rfl (exec_ld26 rfl rfl HG.out) ?_)
          refine hfew.mono ?_
          rintro e w3 ⟨rfl, hb3⟩
          have HTa := Lib.hid (HT3.out.below hb3)
          have u04 := below_at hb3 u0
          have HG3 := Lib.hid (show w3.rangeAt b (off + i * 7) x.cs from fun j u hu => below_at hb3 (HG.out j u hu))
          have HDO := Lib.hid (HTa.out.act (by omega) HXO.out hq h8)
          clear hb3 hfew hq HT3 HG HXO u0
          obtain ⟨m9, hm9⟩ : ∃ m, x.k % 9 = m := ⟨_, rfl⟩
          rw [hm9] at hw9
          have q9 : ((m9 : Int) == 8) = false := by rw [hw9] at q8; exact q8
          clear q8 hm9 h8
          go_wp2_with (refine wpList_run rfl (exec_ld26 rfl rfl HG3.out) ?_)
          refine HDO.out.mono ?_
          rintro e w4 ⟨⟨z, rfl⟩, s, cs, hT4⟩
          have HT4 := Lib.hid hT4
          clear hT4 HDO HTa HG3 u04 hw9 q9
          have HLI := Lib.hid (list_any HT4.out.d (Nat.le_of_lt (Nat.lt_of_lt_of_le (k1_lt HT4.out.d HT4.out.ok (by omega)) (by omega))))
          go_wp2_with fail
          refine HLI.out.mono ?_
          rintro e w5 ⟨ga, gc, L, hL, _, rfl, ho5, hb5⟩
          have HT5 := Lib.hid (HT4.out.below hb5)
          have HO5 := Lib.hid ho5
          have HNL := Lib.hid hL
          clear hL ho5 hb5 HLI HT4
          generalize w4.heap.size = B4 at HO5
          go_wp2_with fail
          go_loopw [7, 56] (fun sv jv wr => ∃ j : Nat, j ≤ L.length ∧ jv = .int .i64 (j : Int) ∧ sv = .int .i64 ((usd s.f1 s.F (L.take j) : Nat) : Int) ∧ Hid (TD W wr B p (i + 1) s cs) ∧ Hid (OwnS wr B4 ga L.length gc L)) (fun _ jv _ => L.length - (intOf jv).toNat)
          case atStart => exact ⟨0, Nat.zero_le _, rfl, rfl, HT5, HO5⟩
          case round =>
            obtain ⟨j, hjl, rfl, rfl, HTj, HOj⟩ := hrel
            clear HT5 HO5
            by_cases hj : j < L.length
            case' pos =>
              have hd3 : decide ((j : Int) < (L.length : Int)) = true := by simp; omega
              obtain ⟨t, ht⟩ : ∃ t, L[j]? = some t := ⟨L[j], List.getElem?_eq_getElem hj⟩
              obtain ⟨g, hga, hcell⟩ := HOj.out.cell ht
              subst hga
              obtain ⟨y, hy, hfy⟩ := name_file HTj.out.d ((HNL.out.2 t).1 (List.mem_of_getElem? ht))
              have HR := Lib.hid (HTj.out.read (by omega) hy hfy)
              have HU : Hid (usd s.f1 s.F (L.take j) + y.bs.length = usd s.f1 s.F (L.take (j + 1))) := Lib.hid (by rw [usd_take ht, hfy, fil_of HTj.out.d.fls.nodup hy])
              have hle : usd s.f1 s.F (L.take (j + 1)) ≤ 61000 := by
                have h1 := usd_le' (f := s.f1) (F := s.F) (L := L.take (j + 1)) (HNL.out.1.sublist (List.take_sublist _ _)) (fun t ht => (HNL.out.2 t).1 (List.mem_of_mem_take ht)) HTj.out.d.nms HTj.out.ok.good.once HTj.out.d.fls.nodup
                have h2 := HTj.out.ok.tot
                omega
              have hwu : IntKind.i64.wrap ((usd s.f1 s.F (L.take j) : Int) + (y.bs.length : Int)) = ((usd s.f1 s.F (L.take (j + 1)) : Nat) : Int) := by rw [← HU.out]; exact wrap_add (by have := HU.out; omega)
              have hwj : IntKind.i64.wrap ((j : Int) + 1) = ((j + 1 : Nat) : Int) := by
                have h1 := HNL.out
                obtain ⟨L2, hL2, hk⟩ := mpF_names HTj.out.d.mp1
                have h2 := (h1.perm hL2).length_eq
                have h3 := k1_lt HTj.out.d HTj.out.ok (by omega)
                rw [IntKind.wrap_i64]; omega
              clear hle ht hy hfy
              go_wp2_with fail
              refine HR.out.mono ?_
              rintro e w6 ⟨ra, rc, rfl, _, hb6⟩
              have HT6 := Lib.hid (HTj.out.below hb6)
              have HO6 := Lib.hid (HOj.out.below hb6)
              clear hb6 HR hcell HTj HOj
              generalize y.bs.length = yl at hwu HU ⊢
              go_wp2_with fail
              go_roundw
              case rel => exact ⟨j + 1, by omega, by simp, by first | rfl | (rw [← HU.out]; simp), HT6, HO6⟩
              case measure => simp only [intOf]; omega
            have hd3 : decide ((j : Int) < (L.length : Int)) = false := by simp; omega
            have hjL : L.take j = L := List.take_of_length_le (by omega)
            have HUS := Lib.hid (used_any HTj.out.d HTj.out.ok.good.once (by have := HTj.out.ok.tot; omega))
            rw [hjL]
            clear hjL HOj
            go_wp2_with fail
            refine HUS.out.mono ?_
            rintro e w6 ⟨L2, hL2, _, rfl, hb6⟩
            have hus : usd s.f1 s.F L2 = usd s.f1 s.F L := usd_perm (hL2.perm HNL.out)
            have HT6 := Lib.hid (HTj.out.below hb6)
            rw [hus]
            clear hus hL2 hb6 HUS HTj
            generalize usd s.f1 s.F L = u6
            go_wp2_with fail
            go_roundw
            case rel => exact ⟨i + 1, by omega, by omega, by simp, Lib.hid ⟨s, cs, HT6.out⟩⟩
            case measure => simp only [intOf]; omega
    obtain ⟨s, cs, hT⟩ := HT.out
    have HT3 := Lib.hid hT
    clear hT HT HA
    by_cases hi1 : i < len
    · have hd1 : decide ((i : Int) < (len : Int)) = true := by simp; omega
      have hd2 : decide ((i : Int) < 60) = false := by simp; omega
      have HLI := Lib.hid (list_any HT3.out.d (Nat.le_of_lt (Nat.lt_of_lt_of_le (k1_lt HT3.out.d HT3.out.ok (by omega)) (by omega))))
      go_wp2_with fail
      refine HLI.out.mono ?_
      rintro e w5 ⟨ga, gc, L, hL, hLk, rfl, ho5, hb5⟩
      have HT5 := Lib.hid (HT3.out.below hb5)
      have HO5 := Lib.hid ho5
      have HNL := Lib.hid hL
      have HLK : Hid (L.length < 900000) := Lib.hid (by have := k1_lt HT3.out.d HT3.out.ok (by omega); omega)
      clear hL hLk ho5 hb5 HLI HT3
      generalize wr.heap.size = B4 at HO5
      by_cases h0 : L.length = 0
      · have q0 : ((L.length : Int) == 0) = true := by simp [h0]
        have HB5 := Lib.hid HT5.out.b
        clear HO5
        go_wp2_with fail
        go_ret
        exact ⟨rfl, HB5.out⟩
      have q0 : ((L.length : Int) == 0) = false := by simpa using h0
      obtain ⟨j, hj⟩ : ∃ j, tt % L.length = j := ⟨_, rfl⟩
      have hjl : j < L.length := by rw [← hj]; exact Nat.mod_lt _ (by omega)
      have ej : (tt : Int) % (L.length : Int) = (j : Int) := by rw [← hj]; simp
      have ez2 : ¬ ((L.length : Int) = 0) := by omega
      have wt : IntKind.i64.wrap (tt : Int) = (tt : Int) := by have := HTO.out; rw [IntKind.wrap_i64]; omega
      obtain ⟨t, ht⟩ : ∃ t, L[j]? = some t := ⟨L[j], List.getElem?_eq_getElem hjl⟩
      obtain ⟨g, hga, hcell⟩ := HO5.out.cell ht
      subst hga
      obtain ⟨y, hy, hfy⟩ := name_file HT5.out.d ((HNL.out.2 t).1 (List.mem_of_getElem? ht))
      have HY : Hid (y ∈ s.F ∧ s.f1 (litS t) = some y.ptr) := Lib.hid ⟨hy, hfy⟩
      have HYB : Hid (∀ c ∈ y.bs, c < 256) := Lib.hid (HT5.out.d.fls.byte y hy)
      have HR1 := Lib.hid (HT5.out.read (by omega) hy hfy)
      clear ht hy hfy hj
      generalize L.length = nl at hjl ej ez2 q0 h0 HO5 HLK ⊢
      go_wp2_with fail
      refine HR1.out.mono ?_
      rintro e w6 ⟨a6, c6, rfl, ho6, hb6⟩
      have HT6 := Lib.hid (HT5.out.below hb6)
      have HO6 := Lib.hid ho6
      have HF6 : Hid (∀ ad, a6 = some ad → ¬ s.at_ p ad.block) := Lib.hid (fun ad ha hat => by have h1 := (ho6.lt ad ha).1; have h2 := (HT5.out.d.at_lt hat).2; omega)
      clear ho6 hb6 HR1 hcell
      have HRN := Lib.hid (HT6.out.ren (by omega) (r := nQ) HY.out.1 HY.out.2 (by decide))
      clear HT5 HO5
      go_wp2_with fail
      refine HRN.out.mono ?_
      rintro e w7 ⟨rfl, s7, cs7, hT7, hF7, hf7, hk7⟩
      have HT7 := Lib.hid hT7
      have HO7 := Lib.hid (HO6.out.keep hk7 HF6.out)
      have HR2 := Lib.hid (HT7.out.read (by omega) (by rw [hF7]; exact HY.out.1) hf7)
      clear hT7 hF7 hf7 hk7 HRN HO6 HT6 HF6
      go_wp2_with fail
      refine HR2.out.mono ?_
      rintro e w8 ⟨a8, c8, rfl, ho8, hb8⟩
      have hsz : y.bs.length = y.bs.length := rfl
      have kx : (convert 23 9 (.slice a6 y.bs.length c6)).run Try.prog w8 = .ok (.string (strOf y.bs)) w8 := conv_any ((HO7.out.below hb8).row HYB.out)
      have ky : (convert 23 9 (.slice a8 y.bs.length c8)).run Try.prog w8 = .ok (.string (strOf y.bs)) w8 := conv_any (ho8.row HYB.out)
      have HB8 := Lib.hid (HT7.out.below hb8).b
      clear ho8 hb8 HR2 HT7 HO7 hsz
      go_wp2_with fail
      go_ret
      exact ⟨by simp, HB8.out⟩
    · have hd1 : decide ((i : Int) < (len : Int)) = false := by simp; omega
      have HLI := Lib.hid (list_any HT3.out.d (Nat.le_of_lt (Nat.lt_of_lt_of_le (k1_lt HT3.out.d HT3.out.ok (by omega)) (by omega))))
      go_wp2_with fail
      refine HLI.out.mono ?_
      rintro e w5 ⟨ga, gc, L, hL, hLk, rfl, ho5, hb5⟩
      have HT5 := Lib.hid (HT3.out.below hb5)
      have HO5 := Lib.hid ho5
      have HNL := Lib.hid hL
      have HLK : Hid (L.length < 900000) := Lib.hid (by have := k1_lt HT3.out.d HT3.out.ok (by omega); omega)
      clear hL hLk ho5 hb5 HLI HT3
      generalize wr.heap.size = B4 at HO5
      by_cases h0 : L.length = 0
      · have q0 : ((L.length : Int) == 0) = true := by simp [h0]
        have HB5 := Lib.hid HT5.out.b
        clear HO5
        go_wp2_with fail
        go_ret
        exact ⟨rfl, HB5.out⟩
      have q0 : ((L.length : Int) == 0) = false := by simpa using h0
      obtain ⟨j, hj⟩ : ∃ j, tt % L.length = j := ⟨_, rfl⟩
      have hjl : j < L.length := by rw [← hj]; exact Nat.mod_lt _ (by omega)
      have ej : (tt : Int) % (L.length : Int) = (j : Int) := by rw [← hj]; simp
      have ez2 : ¬ ((L.length : Int) = 0) := by omega
      have wt : IntKind.i64.wrap (tt : Int) = (tt : Int) := by have := HTO.out; rw [IntKind.wrap_i64]; omega
      obtain ⟨t, ht⟩ : ∃ t, L[j]? = some t := ⟨L[j], List.getElem?_eq_getElem hjl⟩
      obtain ⟨g, hga, hcell⟩ := HO5.out.cell ht
      subst hga
      obtain ⟨y, hy, hfy⟩ := name_file HT5.out.d ((HNL.out.2 t).1 (List.mem_of_getElem? ht))
      have HY : Hid (y ∈ s.F ∧ s.f1 (litS t) = some y.ptr) := Lib.hid ⟨hy, hfy⟩
      have HYB : Hid (∀ c ∈ y.bs, c < 256) := Lib.hid (HT5.out.d.fls.byte y hy)
      have HR1 := Lib.hid (HT5.out.read (by omega) hy hfy)
      clear ht hy hfy hj
      generalize L.length = nl at hjl ej ez2 q0 h0 HO5 HLK ⊢
      go_wp2_with fail
      refine HR1.out.mono ?_
      rintro e w6 ⟨a6, c6, rfl, ho6, hb6⟩
      have HT6 := Lib.hid (HT5.out.below hb6)
      have HO6 := Lib.hid ho6
      have HF6 : Hid (∀ ad, a6 = some ad → ¬ s.at_ p ad.block) := Lib.hid (fun ad ha hat => by have h1 := (ho6.lt ad ha).1; have h2 := (HT5.out.d.at_lt hat).2; omega)
      clear ho6 hb6 HR1 hcell
      have HRN := Lib.hid (HT6.out.ren (by omega) (r := nQ) HY.out.1 HY.out.2 (by decide))
      clear HT5 HO5
      go_wp2_with fail
      refine HRN.out.mono ?_
      rintro e w7 ⟨rfl, s7, cs7, hT7, hF7, hf7, hk7⟩
      have HT7 := Lib.hid hT7
      have HO7 := Lib.hid (HO6.out.keep hk7 HF6.out)
      have HR2 := Lib.hid (HT7.out.read (by omega) (by rw [hF7]; exact HY.out.1) hf7)
      clear hT7 hF7 hf7 hk7 HRN HO6 HT6 HF6
      go_wp2_with fail
      refine HR2.out.mono ?_
      rintro e w8 ⟨a8, c8, rfl, ho8, hb8⟩
      have hsz : y.bs.length = y.bs.length := rfl
      have kx : (convert 23 9 (.slice a6 y.bs.length c6)).run Try.prog w8 = .ok (.string (strOf y.bs)) w8 := conv_any ((HO7.out.below hb8).row HYB.out)
      have ky : (convert 23 9 (.slice a8 y.bs.length c8)).run Try.prog w8 = .ok (.string (strOf y.bs)) w8 := conv_any (ho8.row HYB.out)
      have HB8 := Lib.hid (HT7.out.below hb8).b
      clear ho8 hb8 HR2 HT7 HO7 hsz
      go_wp2_with fail
      go_ret
      exact ⟨by simp, HB8.out⟩

set_option maxRecDepth 100000 in
theorem lifted (os : Os) (started : os.Started) (H : Type) (enc : TypeId × Value → H) :
    ReturnsInHanded {} Try.checked os 5 .any (Rows.diskNamesSpec.pre6 enc Try.prog Try.f5 Rows.diskNamesRow.domain false) (Rows.diskNamesSpec.post enc Try.prog Try.f5 false true false false) := by
  refine returnsInHanded_of_change (C := Try.checked) own started (by kernel_rfl) Try.func5
    (ChangeSpec.witness6 (enc := enc) (C := Try.checked) false ⟨#[], #[.slice none 0 0, .int .u8 0], []⟩ 8 (by kernel_rfl) (by kernel_rfl) (by kernel_rfl) (by kernel_rfl)) ?_
  intro W base args ds gs before hval0 hW hcnd _
  have hval : ∀ (j : Nat) t v, Try.f5.params[j]? = some t → args[j]? = some v → Value.okWide Try.prog W .any base t v := hval0
  have hW' := hW
  obtain ⟨p, q, hA0, hV, rfl, hfz, hnd⟩ := hW
  have hA : DataW.TrodAll enc Try.prog W 0 (fun _ => true) true Try.f5.params.toList args.toList ds p := hA0
  rw [Try.params5] at hA hval
  obtain ⟨v0, v1, d0, d1, p0, p1, rfl, rfl, rfl, h0, h1⟩ := trodAll_two hA
  obtain ⟨rfl, rfl⟩ := trodVars_none hV
  have lt0 : ∀ x ∈ p0, x.block < W.heap.size := by obtain ⟨m, hm⟩ := h0; exact DataW.trod_lt m _ _ _ hm
  obtain ⟨ab, nb, cb, rfl⟩ := okWide_slice Try.underlying22 (hval 0 22 v0 rfl rfl)
  obtain ⟨hl0, xs0, hR0⟩ := acts_of h0
  obtain ⟨z1, rfl, rfl, rfl, w1⟩ := open_int Try.underlying5 (hval 1 5 v1 rfl rfl) h1
  have c1 := bounds_u8 w1
  obtain ⟨n1, rfl⟩ := Int.eq_ofNat_of_zero_le c1.1
  clear hA0 hval0
  refine (walk ab nb cb xs0 n1 W hl0 hR0 (by omega)).mono fun e W' ⟨he, bel⟩ => ?_
  subst he
  exact ⟨_, rfl, _, _, _, [], _, [], hW', trodAll_mk1 (shut_bool Try.underlying4 _), trodAll_mk2 (Below.trod laidOut (by kernel_rfl) (of_decide_eq_true (by kernel_rfl)) h0 bel lt0) (shut_int Try.underlying5 w1), rfl, bel.frame _, fun h => by cases h⟩
end DiskNames

theorem diskNames_proved : Rows.DiskNamesSaid :=
  OpenClaim.holds_of_wide 5 Try.f5 rfl rfl rfl rfl rfl rfl rfl ⟨rfl, rfl, rfl, rfl, rfl⟩ rfl rfl rfl rfl rfl (by kernel_rfl) Try.func5 (by kernel_rfl)
    (of_decide_eq_true (by kernel_rfl)) (by unfold Func.isWrapper; first | (rw [if_pos (by decide +kernel)]; kernel_rfl) | (rw [if_neg (by decide +kernel)]; exact ⟨rfl, rfl⟩))
    (fun os started H enc _ => DiskNames.lifted os started H enc)
#print axioms diskNames_proved
end Go.Proofs.Ytjpmjidpdgikgaa
