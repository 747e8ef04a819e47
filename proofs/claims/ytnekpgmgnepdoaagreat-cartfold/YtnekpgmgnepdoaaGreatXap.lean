import Derived.Test.YtnekpgmgnepdoaaGreatXad
import Derived.Test.YtnekpgmgnepdoaaGreatXae
namespace Go.Proofs.YtnekpgmgnepdoaaGreat
open Go.RowKit
set_option maxRecDepth 100000 in
set_option maxHeartbeats 4000000 in
theorem insE_any {a : Option Addr} {n cap i p B : Nat} {vs : List (List Value)} {x : En} {w : World} (h : OwnG w 72 7 B a n cap vs) (h1 : ∀ v ∈ vs, ∀ u ∈ v, u.oneCell' = true) (hp : Blk w p 72 x.arr) (hne : ∀ ad, a = some ad → ad.block ≠ p) (hi : i ≤ n) (hn : n < 400000) (hB : B ≤ w.heap.size) :
  Calls Tryz.prog 92 #[.slice a n cap, .int .i64 (i : Int), .slice (some ⟨p, 0, none⟩) 1 1] w (InsP 72 7 w B a (vs.take i ++ x.cs :: vs.drop i)) := by
 have hlen := h.len
 have HLEN := Lib.hid hlen
 have HO := Lib.hid h
 have HP := Lib.hid hp
 have H1 := Lib.hid h1
 have HNE := Lib.hid hne
 by_cases hin : i = n
 ·subst hin
  have HF : Hid (∀ a3 cap3 w3, OwnG w3 72 7 B a3 (i + 1) cap3 (vs ++ [x.arr.toList]) → Kept (At a) w w3 → Lies w a a3 → InsP 72 7 w B a (vs.take i ++ x.cs :: vs.drop i) (.returned (.slice a3 (i + 1) cap3)) w3) := Lib.hid (fun a3 cap3 w3 ho hk hl => by
   rw [List.take_of_length_le (by omega), List.drop_of_length_le (by omega)]
   refine ⟨a3, cap3, by simp [hlen], ?_, hk, hl⟩
   have e1 : (vs ++ [x.cs]).length = i + 1 := by simp [hlen]
   rw [e1]
   exact ho)
  rcases h.rw' (by decide) with ⟨rfl, rfl, rfl⟩ | ⟨g, us, rfl, hrw, hcap, hBg, hcm⟩
  ·clear h h1 hp hne hlen HLEN
   go_enter Tryz.func92, Tryz.ntmps92
   go_wp2_with (at_builtin; refine wpList_appendG 36 72 7 24 info72 und36 rfl (by decide) (by decide) rfl rfl rfl rfl HO.out HP.out x.arr_size (by simpa using x.one_cs) (by omega) hB ?_; intro a3 cap3 w3 ho3 hk3 hl3)
   have HE := Lib.hid (HF.out a3 cap3 w3 ho3 hk3 hl3)
   clear ho3 hk3 hl3
   go_wp2_with fail
   go_ret
   exact HE.out
  ·clear h h1 hp hne hlen HLEN hrw
   by_cases hic : i = cap
   ·subst hic
    go_enter Tryz.func92, Tryz.ntmps92
    go_wp2_with (first | (refine wpList_run rfl (exec_sliceEnd und36 Tryz.sizeOf72 (i := i) rfl rfl rfl rfl) ?_) | (at_builtin; refine wpList_appendG 36 72 7 24 info72 und36 rfl (by decide) (by decide) rfl rfl rfl rfl HO.out HP.out x.arr_size (by simpa using x.one_cs) (by omega) hB ?_; intro a3 cap3 w3 ho3 hk3 hl3))
    have HE := Lib.hid (HF.out a3 cap3 w3 ho3 hk3 hl3)
    clear ho3 hk3 hl3
    go_wp2_with fail
    go_ret
    exact HE.out
   ·go_enter Tryz.func92, Tryz.ntmps92
    go_wp2_with (first | (refine wpList_run rfl (exec_sliceLo und36 Tryz.sizeOf72 (i := i) rfl rfl rfl rfl (by omega) (by omega) (by omega)) ?_) | (at_builtin; refine wpList_appendG 36 72 7 24 info72 und36 rfl (by decide) (by decide) rfl rfl rfl rfl HO.out HP.out x.arr_size (by simpa using x.one_cs) (by omega) hB ?_; intro a3 cap3 w3 ho3 hk3 hl3))
    have HE := Lib.hid (HF.out a3 cap3 w3 ho3 hk3 hl3)
    clear ho3 hk3 hl3
    go_wp2_with fail
    go_ret
    exact HE.out
 ·have hlt : i < n := by omega
  obtain ⟨g, us, rfl, hrw, hcap, hBg, hcm⟩ : ∃ g us, a = some ⟨g, 0, none⟩ ∧ Rw w 72 7 g (vs ++ us) ∧ n + us.length = cap ∧ B ≤ g ∧ cap ≤ maxLen := by
   rcases h.rw' (by decide) with ⟨_, h0, _⟩ | h
   ·omega
   ·exact h
  have HR := Lib.hid hrw
  have HGP : Hid (p ≠ g) := Lib.hid (fun e => HNE.out _ rfl e.symm)
  have HVE : Hid (∀ v ∈ vs, v.length = 7) := Lib.hid (fun v hv => hrw.each v (List.mem_append_left _ hv))
  have HAT : Hid (∀ j v, (vs.drop i)[j]? = some v → w.rangeAt g (0 + i * 7 + j * 7) v) := Lib.hid (fun j v hv => by
   rw [List.getElem?_drop] at hv
   have := hrw.at (i := i + j) (v := v) (by rw [List.getElem?_append_left (by have := (List.getElem?_eq_some_iff.1 hv).1; omega)]; exact hv)
   rw [show 0 + i * 7 + j * 7 = 0 + (i + j) * 7 by omega]
   exact this)
  have HPC : Hid (w.rangeAt p (0 + 0 * 7) x.cs) := Lib.hid (fun j u hu => by rw [hp.cell]; simpa using hu)
  have hdl : (vs.drop i).length = n - i := by simp [hlen]
  have HDL := Lib.hid hdl
  have HDE : Hid (∀ v ∈ vs.drop i, v.length = 7) := Lib.hid (fun v hv => HVE.out v (List.mem_of_mem_drop hv))
  have HD1 : Hid (∀ v ∈ vs.drop i, ∀ u ∈ v, u.oneCell' = true) := Lib.hid (fun v hv => h1 v (List.mem_of_mem_drop hv))
  have HCM := Lib.hid hcm
  have HBG := Lib.hid hBg
  have hne1 : ((i : Int) == (n : Int)) = false := by rw [beq_eq_false_iff_ne]; omega
  clear h h1 hp hne hlen hrw hcm hdl hBg HNE H1
  by_cases hroom : cap < n + 1
  ·have hd : decide ((cap : Int) < (n : Int) + 1) = true := by simp; omega
   go_enter Tryz.func92, Tryz.ntmps92
   go_upto_region 10 with (first | (refine wpList_run rfl (exec_sliceLo und36 Tryz.sizeOf72 (i := i) rfl rfl rfl rfl (by omega) (by omega) (by omega)) ?_) | (refine wpList_run rfl (exec_sliceHi und36 Tryz.sizeOf72 (i := i) rfl rfl rfl rfl (by omega) rfl) ?_) | (at_builtin; refine wpList_growZ (k := n + 1 - i) 36 72 7 24 info72 und36 rfl (by decide) (by decide) rfl rfl rfl rfl (by omega) HR.out (by have := HLEN.out; simp; omega) (by omega) (by omega) (by omega) ?_; intro h G w1 hrw hG1 hG2 hh hb))
   rw [show i + (n + 1 - i) = n + 1 by omega] at hG1 ⊢
   have HT : Hid ((vs ++ us).take i = vs.take i) := Lib.hid (List.take_append_of_le_length (by have := HLEN.out; omega))
   rw [HT.out] at hrw
   have HR1 := Lib.hid hrw
   have HB1 := Lib.hid hb
   have HG2 := Lib.hid hG2
   have HPC1 : Hid (w1.rangeAt p (0 + 0 * 7) x.cs) := Lib.hid (fun j u hu => below_at hb (HPC.out j u hu))
   have HAT1 : Hid (∀ j v, (vs.drop i)[j]? = some v → w1.rangeAt g (0 + i * 7 + j * 7) v) := Lib.hid (fun j v hv k u hu => below_at hb (HAT.out j v hv k u hu))
   have hgh : g < h := Nat.lt_of_lt_of_le HR.out.lt hh
   have HHH := Lib.hid hh
   clear hrw hb hG2 hh hd
   have hrl : (vs.take i ++ List.replicate (G - i) En.zero.cs).length = G := by have := HLEN.out; simp; omega
   have HRL := Lib.hid hrl
   clear hrl
   have hcp : ∀ ty off, off = 0 + i * 7 → (Builtin.copy_ #[36, 36] ty #[.slice (some ⟨h, off, none⟩) (n + 1 - i) (G - i), .slice (some ⟨p, 0, none⟩) 1 1]).run Tryz.prog w1 = .ok (goInt 1) (w1.setCells h (0 + i * 7) [x.cs].flatten) := fun ty off hoff => by
    subst hoff
    exact run_copyR w1 36 36 ty 72 7 und36 size72 h (0 + i * 7) (n + 1 - i) (G - i) p 0 1 1 [x.cs] (by simp only [List.length_singleton, Nat.min_def]; split <;> omega) (by simp [En.cs_len]) (fun j v hv => by
     cases j with
     | zero =>
          obtain rfl : x.cs = v := by simpa using hv
          exact HPC1.out
     | succ j => simp at hv) (by simpa using x.one_cs) (HR1.out.there (i := i) (k := 1) (by rw [HRL.out]; omega))
   have HCP := Lib.hid hcp
   clear hcp
   have HR2 : Hid (Rw (w1.setCells h (0 + i * 7) [x.cs].flatten) 72 7 h (overL (vs.take i ++ List.replicate (G - i) En.zero.cs) i [x.cs])) := Lib.hid (HR1.out.over (by simp [En.cs_len]) (by rw [HRL.out]; simp; omega))
   have HK2 : Hid (Kept (fun k => k = h) w1 (w1.setCells h (0 + i * 7) [x.cs].flatten)) := Lib.hid (Kept.setCells h _ _ _)
   go_upto_region 11 with (first | (refine wpList_run rfl (exec_sliceLo und36 Tryz.sizeOf72 (i := i) rfl rfl rfl rfl (by omega) (by omega) (by omega)) ?_) | (refine wpList_run rfl (exec_copy rfl rfl rfl (HCP.out _ _ (by omega))) ?_))
   generalize w1.setCells h (0 + i * 7) [x.cs].flatten = w2 at HR2 HK2
   have HAT2 : Hid (∀ j v, (vs.drop i)[j]? = some v → w2.rangeAt g (0 + i * 7 + j * 7) v) := Lib.hid (fun j v hv k u hu => HK2.out.at_ (HAT1.out j v hv k u hu) (by omega))
   have HOL : Hid ((overL (vs.take i ++ List.replicate (G - i) En.zero.cs) i [x.cs]).length = G) := Lib.hid (by rw [overL_length _ _ _ (by rw [HRL.out]; simp; omega), HRL.out])
   have HCP2 : Hid (∀ ty, (Builtin.copy_ #[36, 36] ty #[.slice (some ⟨h, 0 + (i + 1) * 7, none⟩) (n + 1 - (i + 1)) (G - (i + 1)), .slice (some ⟨g, 0 + i * 7, none⟩) (n - i) (cap - i)]).run Tryz.prog w2.drew = .ok (goInt (vs.drop i).length) (w2.drew.setCells h (0 + (i + 1) * 7) (vs.drop i).flatten)) := Lib.hid (fun ty =>
    run_copyR w2.drew 36 36 ty 72 7 und36 size72 h (0 + (i + 1) * 7) (n + 1 - (i + 1)) (G - (i + 1)) g (0 + i * 7) (n - i) (cap - i) (vs.drop i) (by rw [HDL.out]; simp only [Nat.min_def]; split <;> omega) HDE.out (fun j v hv => HAT2.out j v hv) HD1.out (HR2.out.there (i := i + 1) (k := (vs.drop i).length) (by rw [HOL.out, HDL.out]; omega)))
   have HR3 : Hid (Rw (w2.drew.setCells h (0 + (i + 1) * 7) (vs.drop i).flatten) 72 7 h (overL (overL (vs.take i ++ List.replicate (G - i) En.zero.cs) i [x.cs]) (i + 1) (vs.drop i))) := Lib.hid ((HR2.out.below (drew_below w2)).over HDE.out (by rw [HOL.out, HDL.out]; omega))
   have HK3 : Hid (Kept (fun k => k = h) w2 (w2.drew.setCells h (0 + (i + 1) * 7) (vs.drop i).flatten)) := Lib.hid ((Kept.drew _ w2).trans (Kept.setCells h _ _ _) (fun _ h => .inl h))
   refine wp_region_held_drew (S := fun _ => True) (by kernel_rfl) trivial (fun hS => ?_)
   refine held_tk 0 46 (.slice (some ⟨h,0,none⟩) (n + 1) G) rfl rfl (by kernel_rfl) (fun _ _ _ h=>h) (fun _ _=>rfl) trivial ?_;simp only [Act.put,ap1,ap2,ap3]
   refine held_tk 1 47 (.int .i64 (i : Int)) rfl rfl (by kernel_rfl) (fun _ _ _ h=>h) (fun _ _=>rfl) trivial ?_;simp only [Act.put,ap1,ap2,ap3]
   refine held_tk 2 48 (.int .i64 1) rfl rfl (by kernel_rfl) (fun _ _ _ h=>h) (fun _ _=>rfl) trivial ?_;simp only [Act.put,ap1,ap2,ap3]
   refine held_tk 3 49 (.int .i64 ((i : Int) + 1)) rfl rfl (by kernel_rfl) (fun _ _ _ h=>h) (fun _ _=>exec_addN rfl rfl rfl rfl (by omega) (by omega)) trivial ?_;simp only [Act.put,ap1,ap2,ap3]
   refine held_tk 4 50 (.slice (some ⟨h,0 + (i + 1) * 7,none⟩) (n + 1 - (i + 1)) (G - (i + 1))) rfl rfl (by kernel_rfl) (fun _ _ _ h=>h) (fun _ _=>exec_sliceLo und36 Tryz.sizeOf72 (i:=i + 1) rfl rfl rfl (by omega) (by omega) (by omega) (by omega)) trivial ?_;simp only [Act.put,ap1,ap2,ap3]
   refine held_tk 5 51 (.slice (some ⟨g,0,none⟩) n cap) rfl rfl (by kernel_rfl) (fun _ _ _ h=>h) (fun _ _=>rfl) trivial ?_;simp only [Act.put,ap1,ap2,ap3]
   refine held_tk 6 52 (.int .i64 (i : Int)) rfl rfl (by kernel_rfl) (fun _ _ _ h=>h) (fun _ _=>rfl) trivial ?_;simp only [Act.put,ap1,ap2,ap3]
   refine held_tk 7 53 (.slice (some ⟨g,0 + i * 7,none⟩) (n - i) (cap - i)) rfl rfl (by kernel_rfl) (fun _ _ _ h=>h) (fun _ _=>exec_sliceLo und36 Tryz.sizeOf72 (i:=i) rfl rfl rfl rfl (by omega) (by omega) (by omega)) trivial ?_;simp only [Act.put,ap1,ap2,ap3]
   refine held_exec 8 54 (goInt (vs.drop i).length) rfl rfl (by kernel_rfl) (by kernel_rfl) (exec_copy rfl rfl rfl (HCP2.out _)) trivial ?_;simp only [Act.put,ap1,ap2,ap3]
   refine wpAnyH_done (by kernel_rfl) ?_ _
   generalize w2.drew.setCells h (0 + (i + 1) * 7) (vs.drop i).flatten = w3 at HR3 HK3
   have HE : Hid (InsP 72 7 w B (some ⟨g, 0, none⟩) (vs.take i ++ x.cs :: vs.drop i) (.returned (.slice (some ⟨h, 0, none⟩) (n + 1) G)) w3) := by
    have hl := HLEN.out
    have ho := HR3.out.own (B := B) (n := n + 1) (by have := HBG.out; omega) hG1 (by rw [overL_length _ _ _ (by rw [HOL.out, HDL.out]; omega), HOL.out]) HG2.out
    rw [ins_grow x.cs hl hlt (by simp; omega)] at ho
    refine Lib.hid ⟨some ⟨h, 0, none⟩, G, by rw [ins_len _ hl hi], by rw [ins_len _ hl hi]; exact ho, ?_, fun ad e => .inr (by cases e; exact HHH.out)⟩
    have hbb : Below w.heap.size w w3 := (HB1.out.trans (HK2.out.below HB1.out.size (fun k hk => by rw [hk]; exact HHH.out))).trans (HK3.out.below (Nat.le_trans HB1.out.size HK2.out.size) (fun k hk => by rw [hk]; exact HHH.out))
    exact .of_below hbb
   go_wp2_with fail
   go_ret
   exact HE.out
  ·have hd : decide ((cap : Int) < (n : Int) + 1) = false := by simp; omega
   have hul : (vs ++ us).length = cap := by have := HLEN.out; simp; omega
   have HUL := Lib.hid hul
   clear hul
   have HDS : Hid ((vs ++ us).flatten.toArray.size ≠ 0) := Lib.hid (by
    have := flat_len HR.out.each
    rw [HUL.out] at this
    rw [List.size_toArray, this]
    omega)
   go_enter Tryz.func92, Tryz.ntmps92
   go_upto_region 15 with (first | (refine wpList_run rfl (exec_sliceLo und36 Tryz.sizeOf72 (i := i) rfl rfl rfl rfl (by omega) (by omega) (by omega)) ?_) | (refine wpList_run rfl (exec_sliceLo und36 Tryz.sizeOf72 (i := i + 1) rfl rfl rfl (by omega) (by omega) (by omega) (by omega)) ?_) | (refine wpList_run rfl (exec_sliceHi und36 Tryz.sizeOf72 (i := n + 1) rfl rfl rfl (by omega) (by omega) rfl) ?_) | (refine wpList_run rfl (exec_overE rfl rfl rfl rfl HGP.out HP.out HR.out.blk HDS.out) ?_))
   have HCP2 : Hid (∀ ty, (Builtin.copy_ #[36, 36] ty #[.slice (some ⟨g, 0 + (i + 1) * 7, none⟩) (n + 1 - (i + 1)) (cap - (i + 1)), .slice (some ⟨g, 0 + i * 7, none⟩) (n + 1 - i) (cap - i)]).run Tryz.prog w.drew = .ok (goInt (vs.drop i).length) (w.drew.setCells g (0 + (i + 1) * 7) (vs.drop i).flatten)) := Lib.hid (fun ty =>
    run_copyR w.drew 36 36 ty 72 7 und36 size72 g (0 + (i + 1) * 7) (n + 1 - (i + 1)) (cap - (i + 1)) g (0 + i * 7) (n + 1 - i) (cap - i) (vs.drop i) (by rw [HDL.out]; simp only [Nat.min_def]; split <;> omega) HDE.out (fun j v hv => HAT.out j v hv) HD1.out (HR.out.there (i := i + 1) (k := (vs.drop i).length) (by rw [HUL.out, HDL.out]; omega)))
   have HR2 : Hid (Rw (w.drew.setCells g (0 + (i + 1) * 7) (vs.drop i).flatten) 72 7 g (overL (vs ++ us) (i + 1) (vs.drop i))) := Lib.hid ((HR.out.below (drew_below w)).over HDE.out (by rw [HUL.out, HDL.out]; omega))
   have HK2 : Hid (Kept (fun k => k = g) w (w.drew.setCells g (0 + (i + 1) * 7) (vs.drop i).flatten)) := Lib.hid ((Kept.drew _ w).trans (Kept.setCells g _ _ _) (fun _ h => .inl h))
   refine wp_region_held_drew (S := fun _ => True) (by kernel_rfl) trivial (fun hS => ?_)
   refine held_tk 0 69 (.slice (some ⟨g,0,none⟩) (n + 1) cap) rfl rfl (by kernel_rfl) (fun _ _ _ h=>h) (fun _ _=>rfl) trivial ?_;simp only [Act.put,ap1,ap2,ap3]
   refine held_tk 1 70 (.int .i64 (i : Int)) rfl rfl (by kernel_rfl) (fun _ _ _ h=>h) (fun _ _=>rfl) trivial ?_;simp only [Act.put,ap1,ap2,ap3]
   refine held_tk 2 71 (.int .i64 1) rfl rfl (by kernel_rfl) (fun _ _ _ h=>h) (fun _ _=>rfl) trivial ?_;simp only [Act.put,ap1,ap2,ap3]
   refine held_tk 3 72 (.int .i64 ((i : Int) + 1)) rfl rfl (by kernel_rfl) (fun _ _ _ h=>h) (fun _ _=>exec_addN rfl rfl rfl rfl (by omega) (by omega)) trivial ?_;simp only [Act.put,ap1,ap2,ap3]
   refine held_tk 4 73 (.slice (some ⟨g,0 + (i + 1) * 7,none⟩) (n + 1 - (i + 1)) (cap - (i + 1))) rfl rfl (by kernel_rfl) (fun _ _ _ h=>h) (fun _ _=>exec_sliceLo und36 Tryz.sizeOf72 (i:=i + 1) rfl rfl rfl (by omega) (by omega) (by omega) (by omega)) trivial ?_;simp only [Act.put,ap1,ap2,ap3]
   refine held_tk 5 74 (.slice (some ⟨g,0,none⟩) (n + 1) cap) rfl rfl (by kernel_rfl) (fun _ _ _ h=>h) (fun _ _=>rfl) trivial ?_;simp only [Act.put,ap1,ap2,ap3]
   refine held_tk 6 75 (.int .i64 (i : Int)) rfl rfl (by kernel_rfl) (fun _ _ _ h=>h) (fun _ _=>rfl) trivial ?_;simp only [Act.put,ap1,ap2,ap3]
   refine held_tk 7 76 (.slice (some ⟨g,0 + i * 7,none⟩) (n + 1 - i) (cap - i)) rfl rfl (by kernel_rfl) (fun _ _ _ h=>h) (fun _ _=>exec_sliceLo und36 Tryz.sizeOf72 (i:=i) rfl rfl rfl rfl (by omega) (by omega) (by omega)) trivial ?_;simp only [Act.put,ap1,ap2,ap3]
   refine held_exec 8 77 (goInt (vs.drop i).length) rfl rfl (by kernel_rfl) (by kernel_rfl) (exec_copy rfl rfl rfl (HCP2.out _)) trivial ?_;simp only [Act.put,ap1,ap2,ap3]
   refine wpAnyH_done (by kernel_rfl) ?_ _
   generalize w.drew.setCells g (0 + (i + 1) * 7) (vs.drop i).flatten = w2 at HR2 HK2
   have HOL : Hid ((overL (vs ++ us) (i + 1) (vs.drop i)).length = cap) := Lib.hid (by rw [overL_length _ _ _ (by rw [HUL.out, HDL.out]; omega), HUL.out])
   have HPC2 : Hid (w2.rangeAt p (0 + 0 * 7) x.cs) := Lib.hid (fun j u hu => HK2.out.at_ (HPC.out j u hu) (fun e => HGP.out e))
   have hcp : ∀ ty off, off = 0 + i * 7 → (Builtin.copy_ #[36, 36] ty #[.slice (some ⟨g, off, none⟩) (n + 1 - i) (cap - i), .slice (some ⟨p, 0, none⟩) 1 1]).run Tryz.prog w2 = .ok (goInt 1) (w2.setCells g (0 + i * 7) [x.cs].flatten) := fun ty off hoff => by
    subst hoff
    exact run_copyR w2 36 36 ty 72 7 und36 size72 g (0 + i * 7) (n + 1 - i) (cap - i) p 0 1 1 [x.cs] (by simp only [List.length_singleton, Nat.min_def]; split <;> omega) (by simp [En.cs_len]) (fun j v hv => by
     cases j with
     | zero =>
          obtain rfl : x.cs = v := by simpa using hv
          exact HPC2.out
     | succ j => simp at hv) (by simpa using x.one_cs) (HR2.out.there (i := i) (k := 1) (by rw [HOL.out]; omega))
   have HCP := Lib.hid hcp
   clear hcp
   have HE : Hid (InsP 72 7 w B (some ⟨g, 0, none⟩) (vs.take i ++ x.cs :: vs.drop i) (.returned (.slice (some ⟨g, 0, none⟩) (n + 1) cap)) (w2.setCells g (0 + i * 7) [x.cs].flatten)) := by
    have hl := HLEN.out
    have ho := (HR2.out.over (us := [x.cs]) (i := i) (by simp [En.cs_len]) (by rw [HOL.out]; simp; omega)).own (B := B) (n := n + 1) HBG.out (by omega) (by rw [overL_length _ _ _ (by rw [HOL.out]; simp; omega), HOL.out]) HCM.out
    rw [ins_room x.cs hl hlt (by omega)] at ho
    refine Lib.hid ⟨some ⟨g, 0, none⟩, cap, by rw [ins_len _ hl hi], by rw [ins_len _ hl hi]; exact ho, kept_at (HK2.out.trans (Kept.setCells g _ _ _) (fun _ h => .inl h)), fun ad e => .inl ⟨ad, e, rfl⟩⟩
   go_wp2_with (first | (refine wpList_run rfl (exec_sliceLo und36 Tryz.sizeOf72 (i := i) rfl rfl rfl rfl (by omega) (by omega) (by omega)) ?_) | (refine wpList_run rfl (exec_copy rfl rfl rfl (HCP.out _ _ (by omega))) ?_))
   go_ret
   have h := HE.out
   rw [Nat.zero_add] at h
   exact h
end Go.Proofs.YtnekpgmgnepdoaaGreat
