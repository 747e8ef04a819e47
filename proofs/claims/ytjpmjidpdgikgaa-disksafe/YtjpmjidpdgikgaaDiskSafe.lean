/- DiskSafe is proved: behind any row of acts what was synced, in a file whose name is durable and has not been changed since, outlives any crash, and what a crash leaves of a file is a beginning of it. No condition. -/
import Derived.Test.YtjpmjidpdgikgaaKm
namespace Go.Proofs.Ytjpmjidpdgikgaa
namespace DiskSafe
open Go.ChangeShapes Go.WideShapes Go.ChangeAt Go.RowKit Go.Maps

set_option maxRecDepth 100000 in
set_option maxHeartbeats 8000000 in
theorem core (a : Option Addr) (len cap : Nat) (xs : Nat → AV) (pa : Option Addr) (pl pc : Nat) (px : List Nat) (qa : Option Addr) (ql qc : Nat) (qx : List Nat) (y : AV) (W : World) (hl : len ≤ maxLen) (hA : AL W a len xs) (hp : In W pa pl pc px) (hq : In W qa ql qc qx) (hy : y.Ok W) :
    Calls Try.prog 3 #[.slice a len cap, .agg #[.slice pa pl pc, .slice qa ql qc], .agg y.arr] W (Says (.bool true) W) := by
  have HL : Hid (len ≤ 9223372036854775807) := Lib.hid (by unfold maxLen at hl; omega)
  have b0 := below_one W (.cells #[.slice pa pl pc, .slice qa ql qc] 24)
  have b1 := below_one (W.alloc (.cells #[.slice pa pl pc, .slice qa ql qc] 24)) (.cells y.arr 26)
  have n0 := Blk.new W 24 #[.slice pa pl pc, .slice qa ql qc]
  have n1 := Blk.new (W.alloc (.cells #[.slice pa pl pc, .slice qa ql qc] 24)) 26 y.arr
  have hB := b0.trans (b1.mono b0.size)
  simp only [World.size_alloc] at n1
  have HB00 := Lib.hid hB
  have HA := Lib.hid (hA.below hB)
  have HP := Lib.hid (hp.below hB)
  have HQ := Lib.hid (hq.below hB)
  have HY := Lib.hid (hy.below hB)
  have HBP := Lib.hid (n0.below b1)
  have HBY := Lib.hid n1
  clear hA hl hp hq hy b0 b1 n0 n1 hB
  show Calls Try.prog 3 #[.slice a len cap, .agg #[.slice pa pl pc, .slice qa ql qc], .agg #[.int .u8 (y.k : Int), .string y.s, .string y.r, .slice y.ba y.bl y.bc, .int .u8 (y.ch : Int), .slice y.ca y.cl y.cc, .int .i64 y.n]] W _
  go_enter Try.func3, Try.ntmps3
  go_upto_region 1 with fail
  try simp only [World.size_alloc, Act.put, List.setIfInBounds_toArray, List.set_cons_zero, List.set_cons_succ]
  have ea : ((W.alloc (.cells #[.slice pa pl pc, .slice qa ql qc] 24)).alloc (.cells #[.int .u8 (y.k : Int), .string y.s, .string y.r, .slice y.ba y.bl y.bc, .int .u8 (y.ch : Int), .slice y.ca y.cl y.cc, .int .i64 y.n] 26)) = (W.alloc (.cells #[.slice pa pl pc, .slice qa ql qc] 24)).alloc (.cells y.arr 26) := rfl
  rw [ea]
  clear ea
  generalize (W.alloc (.cells #[.slice pa pl pc, .slice qa ql qc] 24)).alloc (.cells y.arr 26) = w0 at HB00 HA HP HQ HY HBP HBY ⊢
  generalize W.heap.size + 1 = gy at HBY ⊢
  obtain ⟨gp, hgp⟩ : ∃ gp, W.heap.size = gp := ⟨_, rfl⟩
  rw [hgp] at HBP
  have HGP := Lib.hid hgp
  simp only [hgp]
  clear hgp
  go_wp2_with fail
  refine (alive_any w0).mono ?_
  rintro e w1 ⟨rfl, hb⟩
  have HB1 := Lib.hid hb
  clear hb
  have HNW := Lib.hid (new_any 1048576 w1 (by omega) (by omega))
  go_wp2_with fail
  refine HNW.out.mono ?_
  intro e w2 hn
  obtain ⟨p, m1, m2, rfl, hdz, hb⟩ := newly_dz hn (by omega)
  have HT2 : Hid (TD w0 w2 w1.heap.size p 0 (s0 m1 m2) []) := Lib.hid ⟨hdz, s0_ok m1 m2, HB1.out.trans (hb.mono HB1.out.size), HB1.out.size⟩
  clear hn hdz hb HNW HB1
  generalize w1.heap.size = B at HT2
  have hfy := few_any y w2
  have HYB2 := Lib.hid (HBY.out.below HT2.out.b)
  cases hqy : y.few with
  | false =>
    rw [hqy] at hfy
    go_wp2_with (refine wpList_runW (exec_load26 rfl rfl HYB2.out) (by kernel_rfl) ?_)
    refine hfy.mono ?_
    rintro e w3 ⟨rfl, hb⟩
    have HBx := Lib.hid (HB00.out.trans ((HT2.out.below hb).b.mono HB00.out.size))
    clear hb hfy hqy HT2
    go_wp2_with fail
    go_ret
    exact ⟨rfl, HBx.out⟩
  | true =>
  rw [hqy] at hfy
  go_upto_region 4 with fail
  by_cases hpl : pl ≤ 1000
  case' neg =>
    have qp : decide ((pl : Int) > 1000) = true := by simp; omega
    go_wp2_with (refine wpList_runW (exec_load26 rfl rfl HYB2.out) (by kernel_rfl) ?_)
    refine hfy.mono ?_
    rintro e w3 ⟨rfl, hb⟩
    have HT3 := Lib.hid (HT2.out.below hb)
    have HBx := Lib.hid (HB00.out.trans (HT3.out.b.mono HB00.out.size))
    have v0 : w3.cell? ⟨gp, 0, none⟩ = some (.slice pa pl pc) := (HBP.out.below HT3.out.b).cell 0
    clear hb hfy hqy HT2
    go_wp2_with fail
    go_ret
    exact ⟨rfl, HBx.out⟩
  have HPL := Lib.hid hpl
  have qp : decide ((pl : Int) > 1000) = false := by simp; omega
  by_cases hql : ql ≤ 1000
  case' neg =>
    have qq : decide ((ql : Int) > 1000) = true := by simp; omega
    go_wp2_with (refine wpList_runW (exec_load26 rfl rfl HYB2.out) (by kernel_rfl) ?_)
    refine hfy.mono ?_
    rintro e w3 ⟨rfl, hb⟩
    have HT3 := Lib.hid (HT2.out.below hb)
    have HBx := Lib.hid (HB00.out.trans (HT3.out.b.mono HB00.out.size))
    have v0 : w3.cell? ⟨gp, 0, none⟩ = some (.slice pa pl pc) := (HBP.out.below HT3.out.b).cell 0
    have v1 : w3.cell? ⟨gp, 1, none⟩ = some (.slice qa ql qc) := (HBP.out.below HT3.out.b).cell 1
    clear hb hfy hqy HT2
    go_wp2_with fail
    go_ret
    exact ⟨rfl, HBx.out⟩
  have HQL := Lib.hid hql
  have qq : decide ((ql : Int) > 1000) = false := by simp; omega
  clear hpl hql
  go_wp2_with (refine wpList_runW (exec_load26 rfl rfl HYB2.out) (by kernel_rfl) ?_)
  refine hfy.mono ?_
  rintro e w3 ⟨rfl, hb⟩
  have HT3 := Lib.hid (HT2.out.below hb)
  have v0 : w3.cell? ⟨gp, 0, none⟩ = some (.slice pa pl pc) := (HBP.out.below HT3.out.b).cell 0
  have v1 : w3.cell? ⟨gp, 1, none⟩ = some (.slice qa ql qc) := (HBP.out.below HT3.out.b).cell 1
  clear hb hfy hqy HT2 HYB2
  go_wp2_with fail
  clear qp qq v0 v1
  go_loopw [8] (fun iv wr => ∃ i : Nat, i ≤ len ∧ i ≤ 60 ∧ iv = .int .i64 (i : Int) ∧ Hid (∃ s cs, TD w0 wr B p i s cs)) (fun iv _ => 60 - (intOf iv).toNat)
  case atStart => exact ⟨0, by omega, by omega, rfl, Lib.hid ⟨_, _, HT3.out⟩⟩
  case round =>
    obtain ⟨i, hil, hi60, rfl, HT⟩ := hrel
    clear HT3
    have hw : IntKind.i64.wrap ((i : Int) + 1) = ((i + 1 : Nat) : Int) := by rw [IntKind.wrap_i64]; omega
    by_cases hi : i < len ∧ i < 60
    case' pos =>
      have hd1 : decide ((i : Int) < (len : Int)) = true := by simp; omega
      have hd2 : decide ((i : Int) < 60) = true := by simp; omega
      obtain ⟨s, cs, hT⟩ := HT.out
      have HT3 := Lib.hid hT
      obtain ⟨b, off, rfl, hcells⟩ := ((HA.out.below hT.b).cells).resolve_left (by omega)
      have HG := Lib.hid (hcells i (by omega))
      have HXO := Lib.hid (HA.out.ok i (by omega))
      have u0 : wr.cell? ⟨b, off + i * 7, none⟩ = some (.int .u8 ((xs i).k : Int)) := by have := hcells i (by omega) 0 _ rfl; simpa using this
      generalize xs i = x at HG HXO u0
      have hfew := few_any x wr
      clear hT hcells HT

      have hw9 : (x.k : Int) % 9 = ((x.k % 9 : Nat) : Int) := by omega
      cases hq : x.few with
      | false =>
        rw [hq] at hfew
        go_wp2_with (refine wpList_run rfl (exec_ld26 rfl rfl HG.out) ?_)
        refine hfew.mono ?_
        rintro e w4 ⟨rfl, hb4⟩
        have HT4 := Lib.hid ((HT3.out.below hb4).next)
        clear hb4 hfew hq HT3 HG HXO u0 hw9
        go_wp2_with fail
        go_roundw
        case rel => exact ⟨i + 1, by omega, by omega, by simp, Lib.hid ⟨s, cs, HT4.out⟩⟩
        case measure => simp only [intOf]; omega
      | true =>
        rw [hq] at hfew
        by_cases h8 : x.k % 9 = 8
        · have q8 : ((x.k : Int) % 9 == 8) = true := by simp; omega
          go_wp2_with (refine wpList_run rfl (exec_ld26 rfl rfl HG.out) ?_)
          refine hfew.mono ?_
          rintro e w4 ⟨rfl, hb4⟩
          have HT4 := Lib.hid ((HT3.out.below hb4).next)
          have u04 := below_at hb4 u0
          clear hb4 hfew hq HT3 HG HXO u0
          rw [h8] at hw9
          go_wp2_with fail
          go_roundw
          case rel => exact ⟨i + 1, by omega, by omega, by simp, Lib.hid ⟨s, cs, HT4.out⟩⟩
          case measure => simp only [intOf]; omega
        · have q8 : ((x.k : Int) % 9 == 8) = false := by simp; omega
          go_wp2_with (refine wpList_run rfl (exec_ld26 rfl rfl HG.out) ?_)
          refine hfew.mono ?_
          rintro e w3 ⟨rfl, hb3⟩
          have HTa := Lib.hid (HT3.out.below hb3)
          have u04 := below_at hb3 u0
          have HG3 := Lib.hid (show w3.rangeAt b (off + i * 7) x.cs from fun j u hu => below_at hb3 (HG.out j u hu))
          have HDO := Lib.hid (HTa.out.act (by omega) HXO.out hq h8)
          clear hb3 hfew hq HT3 HG HXO u0
          obtain ⟨m9, hm9⟩ : ∃ m, x.k % 9 = m := ⟨_, rfl⟩
          rw [hm9] at hw9
          have q9 : ((m9 : Int) == 8) = false := by rw [hw9] at q8; exact q8
          clear q8 hm9 h8
          go_wp2_with (refine wpList_run rfl (exec_ld26 rfl rfl HG3.out) ?_)
          refine HDO.out.mono ?_
          rintro e w4 ⟨⟨z, rfl⟩, s, cs, hT4⟩
          have HT4 := Lib.hid hT4
          clear hT4 HDO HTa HG3 u04 hw9 q9
          go_wp2_with fail
          go_roundw
          case rel => exact ⟨i + 1, by omega, by omega, by simp, Lib.hid ⟨s, cs, HT4.out⟩⟩
          case measure => simp only [intOf]; omega
    obtain ⟨s, cs, hT⟩ := HT.out
    have HT3 := Lib.hid hT
    clear hT HT HA
    by_cases hi1 : i < len
    · have hd1 : decide ((i : Int) < (len : Int)) = true := by simp; omega
      have hd2 : decide ((i : Int) < 60) = false := by simp; omega
      have HRM := Lib.hid (HT3.out.rem (by omega) (t := nM) (by decide))
      go_wp2_with fail
      refine HRM.out.mono ?_
      rintro e w4 ⟨⟨z, rfl⟩, s, cs, hT, hf⟩
      have HT4 := Lib.hid hT
      have HC1 := Lib.hid (hT.anew (by omega) (t := nM) (by decide) hf HP.out HPL.out)
      clear hT hf HRM HT3
      have v0 : w4.cell? ⟨gp, 0, none⟩ = some (.slice pa pl pc) := (HBP.out.below HT4.out.b).cell 0
      go_wp2_with fail
      refine HC1.out.mono ?_
      rintro e w5 ⟨rfl, s5, cs5, x1, hT, hx, hf, hb1⟩
      have HT5 := Lib.hid hT
      have HX1 : Hid (x1.bs = px) := Lib.hid hb1
      have HC2 := Lib.hid (hT.syn (by omega) (by decide) hx hf)
      clear hT hx hf hb1 HC1 HT4 v0
      go_wp2_with fail
      refine HC2.out.mono ?_
      rintro e w6 ⟨rfl, s6, cs6, x2, hT, hx, hf, hb2, hd2⟩
      have HT6 := Lib.hid hT
      have HX2 : Hid (x2 ∈ s6.F ∧ s6.f1 (litS nM) = some x2.ptr ∧ x2.bs = px ∧ x2.dur = px.length) := Lib.hid ⟨hx, hf, by rw [hb2, HX1.out], by rw [hd2, HX1.out]⟩
      have HC3 := Lib.hid hT.dir
      clear hT hx hf hb2 hd2 HC2 HT5 HX1
      go_wp2_with fail
      refine HC3.out.mono ?_
      rintro e w7 ⟨rfl, s7, hT, hF, hf1, hf2⟩
      have HT7 := Lib.hid hT
      have HN7 : Hid (s7.f1 (litS nM) = some x2.ptr ∧ s7.f2 (litS nM) = some x2.ptr) := Lib.hid ⟨by rw [hf1]; exact HX2.out.2.1, by rw [hf2]; exact HX2.out.2.1⟩
      have HC4 := Lib.hid (hT.more (by omega) (t := nM) (by decide) (x := x2) (by rw [hF]; exact HX2.out.1) HN7.out.1 HQ.out HQL.out)
      clear hT hF hf1 hf2 HC3 HT6
      have v1 : w7.cell? ⟨gp, 1, none⟩ = some (.slice qa ql qc) := (HBP.out.below HT7.out.b).cell 1
      go_wp2_with fail
      refine HC4.out.mono ?_
      rintro e w8 ⟨rfl, s8, x3, hT, hx3, hp3, hb3, hd3, h81, h82, _⟩
      have HT8 := Lib.hid hT
      have HX3 : Hid (x3.bs = px ++ qx ∧ x3.dur = px.length ∧ s8.f2 (litS nM) = some x3.ptr) := Lib.hid ⟨by rw [hb3, HX2.out.2.2.1], by rw [hd3, HX2.out.2.2.2], by rw [h82, hp3]; exact HN7.out.2⟩
      have HC5 := Lib.hid (hT.other (by omega) (t := nO) (u := nM) (by decide) (by decide) hx3 (by rw [h81, hp3]; exact HN7.out.1) HQ.out HQL.out)
      clear hT hx3 hp3 hb3 hd3 h81 h82 HC4 HT7 HX2 HN7 v1
      have v1 : w8.cell? ⟨gp, 1, none⟩ = some (.slice qa ql qc) := (HBP.out.below HT8.out.b).cell 1
      go_wp2_with fail
      refine HC5.out.mono ?_
      rintro e w9 ⟨rfl, s9, cs9, hT, hx, hf2, hcs⟩
      have HT9 := Lib.hid hT
      have HC6 := Lib.hid (hT.crash (by omega) (u := nM) (t := nO) (by decide) (by decide) hx (by rw [hf2]; exact HX3.out.2.2) hcs y.ch HY.out.ch HY.out.c)
      clear hT hx hf2 hcs HC5 HT8 v1
      have v4 : w9.cell? ⟨gy, 4, none⟩ = some (.int .u8 (y.ch : Int)) := (HBY.out.below HT9.out.b).cell 4
      have v5 : w9.cell? ⟨gy, 5, none⟩ = some (.slice y.ca y.cl y.cc) := (HBY.out.below HT9.out.b).cell 5
      go_wp2_with fail
      refine HC6.out.mono ?_
      rintro e w10 ⟨rfl, s10, x4, n, hT, hx4, hf4, hb4, hn1, hn2⟩
      have HT10 := Lib.hid hT
      have HN : Hid (px.length ≤ n ∧ n ≤ (px ++ qx).length ∧ x4.bs = (px ++ qx).take n) := Lib.hid ⟨by rw [← HX3.out.2.1]; exact hn1, by rw [← HX3.out.1]; exact hn2, by rw [hb4, HX3.out.1]⟩
      have HC7 := Lib.hid (hT.read (by omega) hx4 hf4)
      clear hT hx4 hf4 hb4 hn1 hn2 HC6 HT9 HX3 v4 v5
      rw [HN.out.2.2] at HC7
      have hnl : ((px ++ qx).take n).length = n := List.length_take_of_le HN.out.2.1
      rw [show ReadP ((px ++ qx).take n) w10 = fun e w' => ∃ a cap, e = .returned (.tuple #[.slice a n cap, .int .i64 0]) ∧ Own w' w10.heap.size a n cap ((px ++ qx).take n) ∧ Below w10.heap.size w10 w' by unfold ReadP; rw [hnl]] at HC7
      clear hnl
      go_wp2_with fail
      refine HC7.out.mono ?_
      rintro e w11 ⟨a11, c11, rfl, ho, hb⟩
      have HT11 := Lib.hid (HT10.out.below hb)
      have HO11 := Lib.hid ho
      clear ho hb HC7 HT10
      have hsm : ∀ c ∈ (px ++ qx).take n, c < 256 := fun c hc => (List.mem_append.1 (List.mem_of_mem_take hc)).elim (HP.out.row.small c) (HQ.out.row.small c)
      have HR11 := Lib.hid (HO11.out.row hsm)
      clear hsm HO11
      have v0 : w11.cell? ⟨gp, 0, none⟩ = some (.slice pa pl pc) := (HBP.out.below HT11.out.b).cell 0
      have v1 : w11.cell? ⟨gp, 1, none⟩ = some (.slice qa ql qc) := (HBP.out.below HT11.out.b).cell 1
      have kp : (convert 23 9 (.slice pa pl pc)).run Try.prog w11 = .ok (.string (strOf px)) w11 := conv_any (HP.out.below HT11.out.b).row
      have kq : (convert 23 9 (.slice qa ql qc)).run Try.prog w11 = .ok (.string (strOf qx)) w11 := conv_any (HQ.out.below HT11.out.b).row
      have ka : (strOf px).size + (strOf qx).size ≤ 9223372036854775807 := by rw [strOf_size, strOf_size, HP.out.row.size, HQ.out.row.size]; have := HPL.out; have := HQL.out; omega
      go_upto_region 18 with fail
      rw [strOf_add]
      clear kp kq ka v0 v1
      have hl1 : decide ((n : Int) < (pl : Int)) = false := by have h1 := HN.out.1; have h2 := HP.out.row.size; simp; omega
      have hl2 : decide (((strOf (px ++ qx)).size : Int) < (n : Int)) = false := by rw [strOf_size]; have := HN.out.2.1; simp only [decide_eq_false_iff_not]; omega
      have HR := Lib.hid (HR11.out.below (drew_below w11))
      refine wp_region_held_drew (S := fun V => Blk V gp 24 #[.slice pa pl pc, .slice qa ql qc] ∧ Row V a11 n ((px ++ qx).take n)) (by kernel_rfl) ⟨(HBP.out.below HT11.out.b).below (drew_below w11), HR.out⟩ (fun hS => ?_)
      refine held_take 0 116 (.int .i64 0) rfl rfl (by kernel_rfl) (by kernel_rfl) (by kernel_rfl) (fun _ _ _ h => h) (by kernel_rfl) (fun _ _ => rfl) hS ?_
      simp only [Act.put, List.setIfInBounds_toArray, List.set_cons_zero, List.set_cons_succ]
      refine held_take 1 117 (.bool false) rfl rfl (by kernel_rfl) (by kernel_rfl) (by kernel_rfl) (fun _ _ _ h => h) (by kernel_rfl) (fun _ _ => exec_neqI trivial rfl rfl rfl (by simp)) hS ?_
      simp only [Act.put, List.setIfInBounds_toArray, List.set_cons_zero, List.set_cons_succ]
      refine held_take 2 118 (.bool false) rfl rfl (by kernel_rfl) (by kernel_rfl) (by kernel_rfl) (fun _ _ _ h => h) (by kernel_rfl) (fun _ _ => rfl) hS ?_
      simp only [Act.put, List.setIfInBounds_toArray, List.set_cons_zero, List.set_cons_succ]
      refine held_take 3 119 (.slice a11 n c11) rfl rfl (by kernel_rfl) (by kernel_rfl) (by kernel_rfl) (fun _ _ _ h => h) (by kernel_rfl) (fun _ _ => rfl) hS ?_
      simp only [Act.put, List.setIfInBounds_toArray, List.set_cons_zero, List.set_cons_succ]
      refine held_take 4 120 (.int .i64 (n : Int)) rfl rfl (by kernel_rfl) (by kernel_rfl) (by kernel_rfl) (fun _ _ _ h => h) (by kernel_rfl) (fun _ _ => by kernel_rfl) hS ?_
      simp only [Act.put, List.setIfInBounds_toArray, List.set_cons_zero, List.set_cons_succ]
      refine held_take 5 121 (.pointer (some ⟨gp, 0, none⟩)) rfl rfl (by kernel_rfl) (by kernel_rfl) (by kernel_rfl) (fun _ _ _ h => h) (by kernel_rfl) (fun _ _ => by kernel_rfl) hS ?_
      simp only [Act.put, List.setIfInBounds_toArray, List.set_cons_zero, List.set_cons_succ]
      refine held_take 6 122 (.slice pa pl pc) rfl rfl (by kernel_rfl) (by kernel_rfl) (by kernel_rfl) (fun _ _ _ h => h) (by kernel_rfl) (fun _ h => exec_cell rfl rfl (load_cell (by kernel_rfl) (h.1.cell 0))) hS ?_
      simp only [Act.put, List.setIfInBounds_toArray, List.set_cons_zero, List.set_cons_succ]
      refine held_take 7 123 (.int .i64 (pl : Int)) rfl rfl (by kernel_rfl) (by kernel_rfl) (by kernel_rfl) (fun _ _ _ h => h) (by kernel_rfl) (fun _ _ => by kernel_rfl) hS ?_
      simp only [Act.put, List.setIfInBounds_toArray, List.set_cons_zero, List.set_cons_succ]
      refine held_take 8 124 (.bool false) rfl rfl (by kernel_rfl) (by kernel_rfl) (by kernel_rfl) (fun _ _ _ h => h) (by kernel_rfl) (fun _ _ => exec_lssI rfl rfl rfl hl1) hS ?_
      simp only [Act.put, List.setIfInBounds_toArray, List.set_cons_zero, List.set_cons_succ]
      refine held_take 9 125 (.bool false) rfl rfl (by kernel_rfl) (by kernel_rfl) (by kernel_rfl) (fun _ _ _ h => h) (by kernel_rfl) (fun _ _ => rfl) hS ?_
      simp only [Act.put, List.setIfInBounds_toArray, List.set_cons_zero, List.set_cons_succ]
      refine held_take 10 126 (.bool false) rfl rfl (by kernel_rfl) (by kernel_rfl) (by kernel_rfl) (fun _ _ _ h => h) (by kernel_rfl) (fun _ _ => rfl) hS ?_
      simp only [Act.put, List.setIfInBounds_toArray, List.set_cons_zero, List.set_cons_succ]
      refine held_take 11 127 (.slice a11 n c11) rfl rfl (by kernel_rfl) (by kernel_rfl) (by kernel_rfl) (fun _ _ _ h => h) (by kernel_rfl) (fun _ _ => rfl) hS ?_
      simp only [Act.put, List.setIfInBounds_toArray, List.set_cons_zero, List.set_cons_succ]
      refine held_take 12 128 (.int .i64 (n : Int)) rfl rfl (by kernel_rfl) (by kernel_rfl) (by kernel_rfl) (fun _ _ _ h => h) (by kernel_rfl) (fun _ _ => by kernel_rfl) hS ?_
      simp only [Act.put, List.setIfInBounds_toArray, List.set_cons_zero, List.set_cons_succ]
      refine held_take 13 129 (.string (strOf (px ++ qx))) rfl rfl (by kernel_rfl) (by kernel_rfl) (by kernel_rfl) (fun _ _ _ h => h) (by kernel_rfl) (fun _ _ => rfl) hS ?_
      simp only [Act.put, List.setIfInBounds_toArray, List.set_cons_zero, List.set_cons_succ]
      refine held_take 14 130 (.int .i64 ((strOf (px ++ qx)).size : Int)) rfl rfl (by kernel_rfl) (by kernel_rfl) (by kernel_rfl) (fun _ _ _ h => h) (by kernel_rfl) (fun _ _ => by kernel_rfl) hS ?_
      simp only [Act.put, List.setIfInBounds_toArray, List.set_cons_zero, List.set_cons_succ]
      refine held_take 15 131 (.bool false) rfl rfl (by kernel_rfl) (by kernel_rfl) (by kernel_rfl) (fun _ _ _ h => h) (by kernel_rfl) (fun _ _ => exec_gtrI rfl rfl rfl hl2) hS ?_
      simp only [Act.put, List.setIfInBounds_toArray, List.set_cons_zero, List.set_cons_succ]
      refine held_take 16 132 (.bool false) rfl rfl (by kernel_rfl) (by kernel_rfl) (by kernel_rfl) (fun _ _ _ h => h) (by kernel_rfl) (fun _ _ => rfl) hS ?_
      simp only [Act.put, List.setIfInBounds_toArray, List.set_cons_zero, List.set_cons_succ]
      refine held_take 17 133 (.bool false) rfl rfl (by kernel_rfl) (by kernel_rfl) (by kernel_rfl) (fun _ _ _ h => h) (by kernel_rfl) (fun _ _ => rfl) hS ?_
      simp only [Act.put, List.setIfInBounds_toArray, List.set_cons_zero, List.set_cons_succ]
      refine held_take 18 134 (.slice a11 n c11) rfl rfl (by kernel_rfl) (by kernel_rfl) (by kernel_rfl) (fun _ _ _ h => h) (by kernel_rfl) (fun _ _ => rfl) hS ?_
      simp only [Act.put, List.setIfInBounds_toArray, List.set_cons_zero, List.set_cons_succ]
      refine held_take 19 135 (.string (strOf ((px ++ qx).take n))) rfl rfl (by kernel_rfl) (by kernel_rfl) (by kernel_rfl) (fun _ _ _ h => h) (by kernel_rfl) (fun _ h => exec_str rfl rfl (conv_any h.2)) hS ?_
      simp only [Act.put, List.setIfInBounds_toArray, List.set_cons_zero, List.set_cons_succ]
      refine held_take 20 136 (.string (strOf (px ++ qx))) rfl rfl (by kernel_rfl) (by kernel_rfl) (by kernel_rfl) (fun _ _ _ h => h) (by kernel_rfl) (fun _ _ => rfl) hS ?_
      simp only [Act.put, List.setIfInBounds_toArray, List.set_cons_zero, List.set_cons_succ]
      refine held_take 21 137 (.slice a11 n c11) rfl rfl (by kernel_rfl) (by kernel_rfl) (by kernel_rfl) (fun _ _ _ h => h) (by kernel_rfl) (fun _ _ => rfl) hS ?_
      simp only [Act.put, List.setIfInBounds_toArray, List.set_cons_zero, List.set_cons_succ]
      refine held_take 22 138 (.int .i64 (n : Int)) rfl rfl (by kernel_rfl) (by kernel_rfl) (by kernel_rfl) (fun _ _ _ h => h) (by kernel_rfl) (fun _ _ => by kernel_rfl) hS ?_
      simp only [Act.put, List.setIfInBounds_toArray, List.set_cons_zero, List.set_cons_succ]
      refine held_take 23 139 (.string (strOf ((px ++ qx).take n))) rfl rfl (by kernel_rfl) (by kernel_rfl) (by kernel_rfl) (fun _ _ _ h => h) (by kernel_rfl) (fun _ _ => exec_cutS rfl rfl rfl HN.out.2.1) hS ?_
      simp only [Act.put, List.setIfInBounds_toArray, List.set_cons_zero, List.set_cons_succ]
      refine held_take 24 140 (.bool false) rfl rfl (by kernel_rfl) (by kernel_rfl) (by kernel_rfl) (fun _ _ _ h => h) (by kernel_rfl) (fun _ _ => exec_neqS rfl rfl rfl (by simp)) hS ?_
      simp only [Act.put, List.setIfInBounds_toArray, List.set_cons_zero, List.set_cons_succ]
      refine held_take 25 141 (.bool false) rfl rfl (by kernel_rfl) (by kernel_rfl) (by kernel_rfl) (fun _ _ _ h => h) (by kernel_rfl) (fun _ _ => rfl) hS ?_
      simp only [Act.put, List.setIfInBounds_toArray, List.set_cons_zero, List.set_cons_succ]
      refine wpAnyH_done (by kernel_rfl) ?_ _
      clear hS
      have HT12 := Lib.hid (HT11.out.below (drew_below w11))
      have HC8 := Lib.hid (HT12.out.crash0 (by omega))
      clear HR HR11 HT11 hl1 hl2
      generalize w11.drew = w12 at HC8 HT12 ⊢
      go_wp2_with fail
      refine HC8.out.mono ?_
      rintro e w13 ⟨rfl, hb⟩
      have HB := Lib.hid hb
      clear hb HC8
      go_wp2_with fail
      go_ret
      exact ⟨rfl, HB00.out.trans (HB.out.mono HB00.out.size)⟩
    · have hd1 : decide ((i : Int) < (len : Int)) = false := by simp; omega
      have HRM := Lib.hid (HT3.out.rem (by omega) (t := nM) (by decide))
      go_wp2_with fail
      refine HRM.out.mono ?_
      rintro e w4 ⟨⟨z, rfl⟩, s, cs, hT, hf⟩
      have HT4 := Lib.hid hT
      have HC1 := Lib.hid (hT.anew (by omega) (t := nM) (by decide) hf HP.out HPL.out)
      clear hT hf HRM HT3
      have v0 : w4.cell? ⟨gp, 0, none⟩ = some (.slice pa pl pc) := (HBP.out.below HT4.out.b).cell 0
      go_wp2_with fail
      refine HC1.out.mono ?_
      rintro e w5 ⟨rfl, s5, cs5, x1, hT, hx, hf, hb1⟩
      have HT5 := Lib.hid hT
      have HX1 : Hid (x1.bs = px) := Lib.hid hb1
      have HC2 := Lib.hid (hT.syn (by omega) (by decide) hx hf)
      clear hT hx hf hb1 HC1 HT4 v0
      go_wp2_with fail
      refine HC2.out.mono ?_
      rintro e w6 ⟨rfl, s6, cs6, x2, hT, hx, hf, hb2, hd2⟩
      have HT6 := Lib.hid hT
      have HX2 : Hid (x2 ∈ s6.F ∧ s6.f1 (litS nM) = some x2.ptr ∧ x2.bs = px ∧ x2.dur = px.length) := Lib.hid ⟨hx, hf, by rw [hb2, HX1.out], by rw [hd2, HX1.out]⟩
      have HC3 := Lib.hid hT.dir
      clear hT hx hf hb2 hd2 HC2 HT5 HX1
      go_wp2_with fail
      refine HC3.out.mono ?_
      rintro e w7 ⟨rfl, s7, hT, hF, hf1, hf2⟩
      have HT7 := Lib.hid hT
      have HN7 : Hid (s7.f1 (litS nM) = some x2.ptr ∧ s7.f2 (litS nM) = some x2.ptr) := Lib.hid ⟨by rw [hf1]; exact HX2.out.2.1, by rw [hf2]; exact HX2.out.2.1⟩
      have HC4 := Lib.hid (hT.more (by omega) (t := nM) (by decide) (x := x2) (by rw [hF]; exact HX2.out.1) HN7.out.1 HQ.out HQL.out)
      clear hT hF hf1 hf2 HC3 HT6
      have v1 : w7.cell? ⟨gp, 1, none⟩ = some (.slice qa ql qc) := (HBP.out.below HT7.out.b).cell 1
      go_wp2_with fail
      refine HC4.out.mono ?_
      rintro e w8 ⟨rfl, s8, x3, hT, hx3, hp3, hb3, hd3, h81, h82, _⟩
      have HT8 := Lib.hid hT
      have HX3 : Hid (x3.bs = px ++ qx ∧ x3.dur = px.length ∧ s8.f2 (litS nM) = some x3.ptr) := Lib.hid ⟨by rw [hb3, HX2.out.2.2.1], by rw [hd3, HX2.out.2.2.2], by rw [h82, hp3]; exact HN7.out.2⟩
      have HC5 := Lib.hid (hT.other (by omega) (t := nO) (u := nM) (by decide) (by decide) hx3 (by rw [h81, hp3]; exact HN7.out.1) HQ.out HQL.out)
      clear hT hx3 hp3 hb3 hd3 h81 h82 HC4 HT7 HX2 HN7 v1
      have v1 : w8.cell? ⟨gp, 1, none⟩ = some (.slice qa ql qc) := (HBP.out.below HT8.out.b).cell 1
      go_wp2_with fail
      refine HC5.out.mono ?_
      rintro e w9 ⟨rfl, s9, cs9, hT, hx, hf2, hcs⟩
      have HT9 := Lib.hid hT
      have HC6 := Lib.hid (hT.crash (by omega) (u := nM) (t := nO) (by decide) (by decide) hx (by rw [hf2]; exact HX3.out.2.2) hcs y.ch HY.out.ch HY.out.c)
      clear hT hx hf2 hcs HC5 HT8 v1
      have v4 : w9.cell? ⟨gy, 4, none⟩ = some (.int .u8 (y.ch : Int)) := (HBY.out.below HT9.out.b).cell 4
      have v5 : w9.cell? ⟨gy, 5, none⟩ = some (.slice y.ca y.cl y.cc) := (HBY.out.below HT9.out.b).cell 5
      go_wp2_with fail
      refine HC6.out.mono ?_
      rintro e w10 ⟨rfl, s10, x4, n, hT, hx4, hf4, hb4, hn1, hn2⟩
      have HT10 := Lib.hid hT
      have HN : Hid (px.length ≤ n ∧ n ≤ (px ++ qx).length ∧ x4.bs = (px ++ qx).take n) := Lib.hid ⟨by rw [← HX3.out.2.1]; exact hn1, by rw [← HX3.out.1]; exact hn2, by rw [hb4, HX3.out.1]⟩
      have HC7 := Lib.hid (hT.read (by omega) hx4 hf4)
      clear hT hx4 hf4 hb4 hn1 hn2 HC6 HT9 HX3 v4 v5
      rw [HN.out.2.2] at HC7
      have hnl : ((px ++ qx).take n).length = n := List.length_take_of_le HN.out.2.1
      rw [show ReadP ((px ++ qx).take n) w10 = fun e w' => ∃ a cap, e = .returned (.tuple #[.slice a n cap, .int .i64 0]) ∧ Own w' w10.heap.size a n cap ((px ++ qx).take n) ∧ Below w10.heap.size w10 w' by unfold ReadP; rw [hnl]] at HC7
      clear hnl
      go_wp2_with fail
      refine HC7.out.mono ?_
      rintro e w11 ⟨a11, c11, rfl, ho, hb⟩
      have HT11 := Lib.hid (HT10.out.below hb)
      have HO11 := Lib.hid ho
      clear ho hb HC7 HT10
      have hsm : ∀ c ∈ (px ++ qx).take n, c < 256 := fun c hc => (List.mem_append.1 (List.mem_of_mem_take hc)).elim (HP.out.row.small c) (HQ.out.row.small c)
      have HR11 := Lib.hid (HO11.out.row hsm)
      clear hsm HO11
      have v0 : w11.cell? ⟨gp, 0, none⟩ = some (.slice pa pl pc) := (HBP.out.below HT11.out.b).cell 0
      have v1 : w11.cell? ⟨gp, 1, none⟩ = some (.slice qa ql qc) := (HBP.out.below HT11.out.b).cell 1
      have kp : (convert 23 9 (.slice pa pl pc)).run Try.prog w11 = .ok (.string (strOf px)) w11 := conv_any (HP.out.below HT11.out.b).row
      have kq : (convert 23 9 (.slice qa ql qc)).run Try.prog w11 = .ok (.string (strOf qx)) w11 := conv_any (HQ.out.below HT11.out.b).row
      have ka : (strOf px).size + (strOf qx).size ≤ 9223372036854775807 := by rw [strOf_size, strOf_size, HP.out.row.size, HQ.out.row.size]; have := HPL.out; have := HQL.out; omega
      go_upto_region 18 with fail
      rw [strOf_add]
      clear kp kq ka v0 v1
      have hl1 : decide ((n : Int) < (pl : Int)) = false := by have h1 := HN.out.1; have h2 := HP.out.row.size; simp; omega
      have hl2 : decide (((strOf (px ++ qx)).size : Int) < (n : Int)) = false := by rw [strOf_size]; have := HN.out.2.1; simp only [decide_eq_false_iff_not]; omega
      have HR := Lib.hid (HR11.out.below (drew_below w11))
      refine wp_region_held_drew (S := fun V => Blk V gp 24 #[.slice pa pl pc, .slice qa ql qc] ∧ Row V a11 n ((px ++ qx).take n)) (by kernel_rfl) ⟨(HBP.out.below HT11.out.b).below (drew_below w11), HR.out⟩ (fun hS => ?_)
      refine held_take 0 116 (.int .i64 0) rfl rfl (by kernel_rfl) (by kernel_rfl) (by kernel_rfl) (fun _ _ _ h => h) (by kernel_rfl) (fun _ _ => rfl) hS ?_
      simp only [Act.put, List.setIfInBounds_toArray, List.set_cons_zero, List.set_cons_succ]
      refine held_take 1 117 (.bool false) rfl rfl (by kernel_rfl) (by kernel_rfl) (by kernel_rfl) (fun _ _ _ h => h) (by kernel_rfl) (fun _ _ => exec_neqI trivial rfl rfl rfl (by simp)) hS ?_
      simp only [Act.put, List.setIfInBounds_toArray, List.set_cons_zero, List.set_cons_succ]
      refine held_take 2 118 (.bool false) rfl rfl (by kernel_rfl) (by kernel_rfl) (by kernel_rfl) (fun _ _ _ h => h) (by kernel_rfl) (fun _ _ => rfl) hS ?_
      simp only [Act.put, List.setIfInBounds_toArray, List.set_cons_zero, List.set_cons_succ]
      refine held_take 3 119 (.slice a11 n c11) rfl rfl (by kernel_rfl) (by kernel_rfl) (by kernel_rfl) (fun _ _ _ h => h) (by kernel_rfl) (fun _ _ => rfl) hS ?_
      simp only [Act.put, List.setIfInBounds_toArray, List.set_cons_zero, List.set_cons_succ]
      refine held_take 4 120 (.int .i64 (n : Int)) rfl rfl (by kernel_rfl) (by kernel_rfl) (by kernel_rfl) (fun _ _ _ h => h) (by kernel_rfl) (fun _ _ => by kernel_rfl) hS ?_
      simp only [Act.put, List.setIfInBounds_toArray, List.set_cons_zero, List.set_cons_succ]
      refine held_take 5 121 (.pointer (some ⟨gp, 0, none⟩)) rfl rfl (by kernel_rfl) (by kernel_rfl) (by kernel_rfl) (fun _ _ _ h => h) (by kernel_rfl) (fun _ _ => by kernel_rfl) hS ?_
      simp only [Act.put, List.setIfInBounds_toArray, List.set_cons_zero, List.set_cons_succ]
      refine held_take 6 122 (.slice pa pl pc) rfl rfl (by kernel_rfl) (by kernel_rfl) (by kernel_rfl) (fun _ _ _ h => h) (by kernel_rfl) (fun _ h => exec_cell rfl rfl (load_cell (by kernel_rfl) (h.1.cell 0))) hS ?_
      simp only [Act.put, List.setIfInBounds_toArray, List.set_cons_zero, List.set_cons_succ]
      refine held_take 7 123 (.int .i64 (pl : Int)) rfl rfl (by kernel_rfl) (by kernel_rfl) (by kernel_rfl) (fun _ _ _ h => h) (by kernel_rfl) (fun _ _ => by kernel_rfl) hS ?_
      simp only [Act.put, List.setIfInBounds_toArray, List.set_cons_zero, List.set_cons_succ]
      refine held_take 8 124 (.bool false) rfl rfl (by kernel_rfl) (by kernel_rfl) (by kernel_rfl) (fun _ _ _ h => h) (by kernel_rfl) (fun _ _ => exec_lssI rfl rfl rfl hl1) hS ?_
      simp only [Act.put, List.setIfInBounds_toArray, List.set_cons_zero, List.set_cons_succ]
      refine held_take 9 125 (.bool false) rfl rfl (by kernel_rfl) (by kernel_rfl) (by kernel_rfl) (fun _ _ _ h => h) (by kernel_rfl) (fun _ _ => rfl) hS ?_
      simp only [Act.put, List.setIfInBounds_toArray, List.set_cons_zero, List.set_cons_succ]
      refine held_take 10 126 (.bool false) rfl rfl (by kernel_rfl) (by kernel_rfl) (by kernel_rfl) (fun _ _ _ h => h) (by kernel_rfl) (fun _ _ => rfl) hS ?_
      simp only [Act.put, List.setIfInBounds_toArray, List.set_cons_zero, List.set_cons_succ]
      refine held_take 11 127 (.slice a11 n c11) rfl rfl (by kernel_rfl) (by kernel_rfl) (by kernel_rfl) (fun _ _ _ h => h) (by kernel_rfl) (fun _ _ => rfl) hS ?_
      simp only [Act.put, List.setIfInBounds_toArray, List.set_cons_zero, List.set_cons_succ]
      refine held_take 12 128 (.int .i64 (n : Int)) rfl rfl (by kernel_rfl) (by kernel_rfl) (by kernel_rfl) (fun _ _ _ h => h) (by kernel_rfl) (fun _ _ => by kernel_rfl) hS ?_
      simp only [Act.put, List.setIfInBounds_toArray, List.set_cons_zero, List.set_cons_succ]
      refine held_take 13 129 (.string (strOf (px ++ qx))) rfl rfl (by kernel_rfl) (by kernel_rfl) (by kernel_rfl) (fun _ _ _ h => h) (by kernel_rfl) (fun _ _ => rfl) hS ?_
      simp only [Act.put, List.setIfInBounds_toArray, List.set_cons_zero, List.set_cons_succ]
      refine held_take 14 130 (.int .i64 ((strOf (px ++ qx)).size : Int)) rfl rfl (by kernel_rfl) (by kernel_rfl) (by kernel_rfl) (fun _ _ _ h => h) (by kernel_rfl) (fun _ _ => by kernel_rfl) hS ?_
      simp only [Act.put, List.setIfInBounds_toArray, List.set_cons_zero, List.set_cons_succ]
      refine held_take 15 131 (.bool false) rfl rfl (by kernel_rfl) (by kernel_rfl) (by kernel_rfl) (fun _ _ _ h => h) (by kernel_rfl) (fun _ _ => exec_gtrI rfl rfl rfl hl2) hS ?_
      simp only [Act.put, List.setIfInBounds_toArray, List.set_cons_zero, List.set_cons_succ]
      refine held_take 16 132 (.bool false) rfl rfl (by kernel_rfl) (by kernel_rfl) (by kernel_rfl) (fun _ _ _ h => h) (by kernel_rfl) (fun _ _ => rfl) hS ?_
      simp only [Act.put, List.setIfInBounds_toArray, List.set_cons_zero, List.set_cons_succ]
      refine held_take 17 133 (.bool false) rfl rfl (by kernel_rfl) (by kernel_rfl) (by kernel_rfl) (fun _ _ _ h => h) (by kernel_rfl) (fun _ _ => rfl) hS ?_
      simp only [Act.put, List.setIfInBounds_toArray, List.set_cons_zero, List.set_cons_succ]
      refine held_take 18 134 (.slice a11 n c11) rfl rfl (by kernel_rfl) (by kernel_rfl) (by kernel_rfl) (fun _ _ _ h => h) (by kernel_rfl) (fun _ _ => rfl) hS ?_
      simp only [Act.put, List.setIfInBounds_toArray, List.set_cons_zero, List.set_cons_succ]
      refine held_take 19 135 (.string (strOf ((px ++ qx).take n))) rfl rfl (by kernel_rfl) (by kernel_rfl) (by kernel_rfl) (fun _ _ _ h => h) (by kernel_rfl) (fun _ h => exec_str rfl rfl (conv_any h.2)) hS ?_
      simp only [Act.put, List.setIfInBounds_toArray, List.set_cons_zero, List.set_cons_succ]
      refine held_take 20 136 (.string (strOf (px ++ qx))) rfl rfl (by kernel_rfl) (by kernel_rfl) (by kernel_rfl) (fun _ _ _ h => h) (by kernel_rfl) (fun _ _ => rfl) hS ?_
      simp only [Act.put, List.setIfInBounds_toArray, List.set_cons_zero, List.set_cons_succ]
      refine held_take 21 137 (.slice a11 n c11) rfl rfl (by kernel_rfl) (by kernel_rfl) (by kernel_rfl) (fun _ _ _ h => h) (by kernel_rfl) (fun _ _ => rfl) hS ?_
      simp only [Act.put, List.setIfInBounds_toArray, List.set_cons_zero, List.set_cons_succ]
      refine held_take 22 138 (.int .i64 (n : Int)) rfl rfl (by kernel_rfl) (by kernel_rfl) (by kernel_rfl) (fun _ _ _ h => h) (by kernel_rfl) (fun _ _ => by kernel_rfl) hS ?_
      simp only [Act.put, List.setIfInBounds_toArray, List.set_cons_zero, List.set_cons_succ]
      refine held_take 23 139 (.string (strOf ((px ++ qx).take n))) rfl rfl (by kernel_rfl) (by kernel_rfl) (by kernel_rfl) (fun _ _ _ h => h) (by kernel_rfl) (fun _ _ => exec_cutS rfl rfl rfl HN.out.2.1) hS ?_
      simp only [Act.put, List.setIfInBounds_toArray, List.set_cons_zero, List.set_cons_succ]
      refine held_take 24 140 (.bool false) rfl rfl (by kernel_rfl) (by kernel_rfl) (by kernel_rfl) (fun _ _ _ h => h) (by kernel_rfl) (fun _ _ => exec_neqS rfl rfl rfl (by simp)) hS ?_
      simp only [Act.put, List.setIfInBounds_toArray, List.set_cons_zero, List.set_cons_succ]
      refine held_take 25 141 (.bool false) rfl rfl (by kernel_rfl) (by kernel_rfl) (by kernel_rfl) (fun _ _ _ h => h) (by kernel_rfl) (fun _ _ => rfl) hS ?_
      simp only [Act.put, List.setIfInBounds_toArray, List.set_cons_zero, List.set_cons_succ]
      refine wpAnyH_done (by kernel_rfl) ?_ _
      clear hS
      have HT12 := Lib.hid (HT11.out.below (drew_below w11))
      have HC8 := Lib.hid (HT12.out.crash0 (by omega))
      clear HR HR11 HT11 hl1 hl2
      generalize w11.drew = w12 at HC8 HT12 ⊢
      go_wp2_with fail
      refine HC8.out.mono ?_
      rintro e w13 ⟨rfl, hb⟩
      have HB := Lib.hid hb
      clear hb HC8
      go_wp2_with fail
      go_ret
      exact ⟨rfl, HB00.out.trans (HB.out.mono HB00.out.size)⟩
theorem walk (a : Option Addr) (len cap : Nat) (xs : Nat → AV) (pa : Option Addr) (pl pc : Nat) (px : List Nat) (qa : Option Addr) (ql qc : Nat) (qx : List Nat) (y : AV) (W : World) (hl : len ≤ maxLen) (hA : AL W a len xs) (hp : In W pa pl pc px) (hq : In W qa ql qc qx) (hy : y.Ok W) :
    Calls Try.prog 3 #[.slice a len cap, .agg #[.slice pa pl pc, .slice qa ql qc], .agg y.arr] W (Says (.bool true) W) := core a len cap xs pa pl pc px qa ql qc qx y W hl hA hp hq hy

set_option maxRecDepth 100000 in
theorem lifted (os : Os) (started : os.Started) (H : Type) (enc : TypeId × Value → H) :
    ReturnsInHanded {} Try.checked os 3 .any (Rows.diskSafeSpec.pre6 enc Try.prog Try.f3 Rows.diskSafeRow.domain false) (Rows.diskSafeSpec.post enc Try.prog Try.f3 false true false false) := by
  refine returnsInHanded_of_change (C := Try.checked) own started (by kernel_rfl) Try.func3
    (ChangeSpec.witness6 (enc := enc) (C := Try.checked) false ⟨#[], #[.slice none 0 0, .agg #[.slice none 0 0, .slice none 0 0], .agg #[.int .u8 0, .string ⟨#[]⟩, .string ⟨#[]⟩, .slice none 0 0, .int .u8 0, .slice none 0 0, .int .i64 0]], []⟩ 8 (by kernel_rfl) (by kernel_rfl) (by kernel_rfl) (by kernel_rfl)) ?_
  intro W base args ds gs before hval0 hW hcnd _
  have hval : ∀ (j : Nat) t v, Try.f3.params[j]? = some t → args[j]? = some v → Value.okWide Try.prog W .any base t v := hval0
  have hW' := hW
  obtain ⟨p, q, hA0, hV, rfl, hfz, hnd⟩ := hW
  have hA : DataW.TrodAll enc Try.prog W 0 (fun _ => true) true Try.f3.params.toList args.toList ds p := hA0
  rw [Try.params3] at hA hval
  obtain ⟨v0, v1, v2, d0, d1, d2, p0, p1, p2, rfl, rfl, rfl, h0, h1, h2⟩ := trodAll_three hA
  obtain ⟨rfl, rfl⟩ := trodVars_none hV
  have lt0 : ∀ x ∈ p0, x.block < W.heap.size := by obtain ⟨m, hm⟩ := h0; exact DataW.trod_lt m _ _ _ hm
  obtain ⟨ab, nb, cb, rfl⟩ := okWide_slice Try.underlying22 (hval 0 22 v0 rfl rfl)
  obtain ⟨hl0, xs0, hR0⟩ := acts_of h0
  have lt1 : ∀ x ∈ p1, x.block < W.heap.size := by obtain ⟨m, hm⟩ := h1; exact DataW.trod_lt m _ _ _ hm
  obtain ⟨pa, pl, pc, px, qa, ql, qc, qx, hp1, hq1, rfl⟩ := pair_of (hval 1 24 v1 rfl rfl) h1
  have lt2 : ∀ x ∈ p2, x.block < W.heap.size := by obtain ⟨m, hm⟩ := h2; exact DataW.trod_lt m _ _ _ hm
  obtain ⟨x2, hx2, rfl⟩ := av_of (hval 2 26 v2 rfl rfl) h2
  clear hA0 hval0
  refine (walk ab nb cb xs0 pa pl pc px qa ql qc qx x2 W hl0 hR0 hp1 hq1 hx2).mono fun e W' ⟨he, bel⟩ => ?_
  subst he
  exact ⟨_, rfl, _, _, _, [], _, [], hW', trodAll_mk1 (shut_bool Try.underlying4 _), trodAll_mk3 (Below.trod laidOut (by kernel_rfl) (of_decide_eq_true (by kernel_rfl)) h0 bel lt0) (Below.trod laidOut (by kernel_rfl) (of_decide_eq_true (by kernel_rfl)) h1 bel lt1) (Below.trod laidOut (by kernel_rfl) (of_decide_eq_true (by kernel_rfl)) h2 bel lt2), rfl, bel.frame _, fun h => by cases h⟩
end DiskSafe

theorem diskSafe_proved : Rows.DiskSafeSaid :=
  OpenClaim.holds_of_wide 3 Try.f3 rfl rfl rfl rfl rfl rfl rfl ⟨rfl, rfl, rfl, rfl, rfl⟩ rfl rfl rfl rfl rfl (by kernel_rfl) Try.func3 (by kernel_rfl)
    (of_decide_eq_true (by kernel_rfl)) (by unfold Func.isWrapper; first | (rw [if_pos (by decide +kernel)]; kernel_rfl) | (rw [if_neg (by decide +kernel)]; exact ⟨rfl, rfl⟩))
    (fun os started H enc _ => DiskSafe.lifted os started H enc)
#print axioms diskSafe_proved
end Go.Proofs.Ytjpmjidpdgikgaa
