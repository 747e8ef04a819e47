import Derived.Test.YtnekpgmgnepdoaaGreatXae
import Derived.Test.YtnekpgmgnepdoaaGreatXaw
section
namespace Go.Proofs.YtnekpgmgnepdoaaGreat.F
open Go.Proofs.YtnekpgmgnepdoaaGreat Go.Proofs.YtnekpgmgnepdoaaGreat.Fold
open Go.RowKit Fold
theorem ownU_of {w : World} {B n cap : Nat} {a : Option Addr} {l : List Nat} (h : OwnG w 31 1 B a n cap (ones l)) : OwnU w B a n cap l := by
 unfold OwnU
 rw [← ones_flat]
 exact h.row
def NumsP (P : Nat → Prop) (w : World) (e : Ending) (w' : World) : Prop :=
 ∃ a cap l, e = .returned (.slice a l.length cap) ∧ l.Pairwise (· < ·) ∧ (∀ x, x ∈ l ↔ P x) ∧ OwnU w' w.heap.size a l.length cap l ∧ Below w.heap.size w w'
theorem op3 {w : World} {b off : Nat} {p : O} (h : w.rangeAt b off p.cs) : w.cell? ⟨b, off + 3, none⟩ = some (.int .u16 (p.c : Int)) := h 3 _ rfl
structure Upto (l : List O) (last : Int) (ss : List Nat) : Prop where
 up : ss.Pairwise (· < ·)
 mem : ∀ x : Nat, x ∈ ss ↔ (∃ o ∈ l, o.c = x) ∧ (x : Int) ≤ last
 lo : -1 ≤ last
 hi : last < 65536
def Nxt (l : List O) (last : Int) (k : Nat) (z : Int) : Prop := (z = -1 ∧ ∀ o ∈ l.take k, (o.c : Int) ≤ last) ∨ (last < z ∧ (∃ o ∈ l, (o.c : Int) = z) ∧ ∀ o ∈ l.take k, last < (o.c : Int) → z ≤ (o.c : Int))
theorem nxt_skip {l : List O} {last z : Int} {k : Nat} {x : O} (h : Nxt l last k z) (hx : l[k]? = some x) (hs : (x.c : Int) ≤ last ∨ (0 ≤ z ∧ z ≤ (x.c : Int))) : Nxt l last (k + 1) z := by
 have hm : ∀ o, o ∈ l.take (k + 1) → o ∈ l.take k ∨ o = x := fun o ho => by
  rw [List.take_add_one, hx] at ho
  simpa using ho
 rcases h with ⟨h1, h2⟩ | ⟨h1, h2, h3⟩
 ·refine .inl ⟨h1, fun o ho => ?_⟩
  rcases hm o ho with ho | rfl
  ·exact h2 o ho
  ·omega
 ·refine .inr ⟨h1, h2, fun o ho hl => ?_⟩
  rcases hm o ho with ho | rfl
  ·exact h3 o ho hl
  ·omega
theorem nxt_take {l : List O} {last z : Int} {k : Nat} {x : O} (h : Nxt l last k z) (hx : l[k]? = some x) (h1 : last < (x.c : Int)) (h2 : z < 0 ∨ (x.c : Int) < z) : Nxt l last (k + 1) (x.c : Int) := by
 refine .inr ⟨h1, ⟨x, List.mem_of_getElem? hx, rfl⟩, fun o ho hlo => ?_⟩
 rw [List.take_add_one, hx] at ho
 rcases List.mem_append.1 ho with ho | ho
 ·rcases h with ⟨h3, h4⟩ | ⟨h3, h4, h5⟩
  ·have := h4 o ho; omega
  ·have := h5 o ho hlo; omega
 ·obtain rfl : o = x := by simpa using ho
  omega
theorem upto_next {l : List O} {last z : Int} {ss : List Nat} (h : Upto l last ss) (hn : Nxt l last l.length z) (hz : 0 ≤ z) : Upto l z (ss ++ [z.toNat]) ∧ last < z := by
 rcases hn with ⟨h1, _⟩ | ⟨h1, ⟨o, ho, ho2⟩, h3⟩
 ·omega
 ·rw [List.take_of_length_le (Nat.le_refl _)] at h3
  refine ⟨⟨?_, fun x => ?_, by omega, by have := o.hc; omega⟩, h1⟩
  ·rw [List.pairwise_append]
   refine ⟨h.up, by simp, fun x hx y hy => ?_⟩
   obtain rfl : y = z.toNat := by simpa using hy
   have := ((h.mem x).1 hx).2
   omega
  ·rw [List.mem_append, h.mem]
   constructor
   ·rintro (⟨h4, h5⟩ | h4)
    ·exact ⟨h4, by omega⟩
    ·obtain rfl : x = z.toNat := by simpa using h4
     exact ⟨⟨o, ho, by omega⟩, by omega⟩
   ·rintro ⟨⟨p, hp, rfl⟩, h5⟩
    by_cases hl : (p.c : Int) ≤ last
    ·exact .inl ⟨⟨p, hp, rfl⟩, hl⟩
    ·have := h3 p hp (by omega)
     exact .inr (by simp; omega)
theorem upto_all {l : List O} {last z : Int} {ss : List Nat} (h : Upto l last ss) (hn : Nxt l last l.length z) (hz : z < 0) : ∀ x, x ∈ ss ↔ ∃ o ∈ l, o.c = x := fun x => by
 rw [h.mem]
 have hlo := h.lo
 rcases hn with ⟨_, h2⟩ | ⟨h1, _⟩
 ·rw [List.take_of_length_le (Nat.le_refl _)] at h2
  constructor
  ·exact fun h => h.1
  ·rintro ⟨o, ho, rfl⟩
   exact ⟨⟨o, ho, rfl⟩, h2 o ho⟩
 ·omega
theorem upto_le {l : List O} {last : Int} {ss : List Nat} (h : Upto l last ss) : ss.length ≤ 65536 := by
 have h1 : ss.Nodup := List.nodup_iff_pairwise_ne.2 (h.up.imp fun h => by omega)
 have := h1.length_le_of_subset (l₂ := List.range 65536) (fun x hx => List.mem_range.2 (by have := ((h.mem x).1 hx).2; have := h.hi; omega))
 simpa using this
def RtR (w : World) (l : List O) (v u : Value) (W : World) : Prop :=
 ∃ (a : Option Addr) (m cap : Nat) (last : Int) (ss : List Nat), v = .slice a m cap ∧ u = .int .i64 last ∧ -1 ≤ last ∧ last < 65536 ∧ m ≤ 65536 ∧ Hid (Upto l last ss) ∧ Hid (ss.length = m) ∧ Hid (OwnG W 31 1 w.heap.size a m cap (ones ss)) ∧ Hid (Below w.heap.size w W)
def RtR2 (l : List O) (n : Nat) (last : Int) (v u : Value) : Prop :=
 ∃ (k : Nat) (z : Int), v = .int .i64 z ∧ u = .int .i64 (k : Int) ∧ -1 ≤ z ∧ z < 65536 ∧ k ≤ n ∧ Hid (Nxt l last k z)
set_option maxRecDepth 100000 in
set_option maxHeartbeats 2000000 in
theorem refcarts_any {a : Option Addr} {n cap : Nat} {l : List O} {w : World} (hl : OL w a n l) (hn : n < 1000000) : Calls Tryz.prog 36 #[.slice a n cap] w (NumsP (fun x => ∃ o ∈ l, o.c = x) w) := by
 have HL := Lib.hid hl
 have HLEN := Lib.hid (OL.len' hl)
 clear hl
 go_enter Tryz.func36, Tryz.ntmps36
 go_wp2_with fail
 go_loopw [3, 4] (RtR w l) (fun _ u _ => (65536 - numI u).toNat)
 case atStart => exact ⟨none, 0, 0, -1, [], rfl, rfl, by omega, by omega, by omega, Lib.hid ⟨List.Pairwise.nil, fun x => by simp; omega, by omega, by omega⟩, Lib.hid rfl, Lib.hid (ownG_nil _ _ _ _), Lib.hid (Below.refl _ _)⟩
 case round =>
  obtain ⟨a', m, cap', last, ss, rfl, rfl, hl1, hl2, hm, HU, HM, HW, HB⟩ := hrel
  have HLk := Lib.hid (HL.out.below HB.out)
  go_wp2_with fail
  go_loop [5, 6] (RtR2 l n last) (fun _ u => n - (numI u).toNat)
  case atStart => exact ⟨0, -1, rfl, rfl, by omega, by omega, Nat.zero_le _, Lib.hid (.inl ⟨rfl, fun o h => by simp at h⟩)⟩
  case round =>
   obtain ⟨k, z, rfl, rfl, hz1, hz2, hk, HN⟩ := hrel
   by_cases hlt : k < n
   ·obtain ⟨b, off, x, rfl, hx, hr⟩ := OL.at HLk.out hlt
    have HX := Lib.hid hx
    have c3 := op3 hr
    have hxc := x.hc
    clear hx hr
    by_cases h1 : last < (x.c : Int)
    ·by_cases h2 : z < 0
     ·have HN2 := Lib.hid (nxt_take HN.out HX.out h1 (.inl h2))
      go_wp2_with (refine wpList_run rfl (exec_idxO (i := k) rfl rfl rfl rfl hlt) ?_)
      go_round
      case rel => exact ⟨k + 1, _, rfl, by go_num, by omega, by omega, hlt, HN2⟩
      case measure => simp [numI]; omega
     ·by_cases h3 : (x.c : Int) < z
      ·have HN2 := Lib.hid (nxt_take HN.out HX.out h1 (.inr h3))
       go_wp2_with (refine wpList_run rfl (exec_idxO (i := k) rfl rfl rfl rfl hlt) ?_)
       go_round
       case rel => exact ⟨k + 1, _, rfl, by go_num, by omega, by omega, hlt, HN2⟩
       case measure => simp [numI]; omega
      ·have HN2 := Lib.hid (nxt_skip HN.out HX.out (.inr ⟨by omega, by omega⟩))
       go_wp2_with (refine wpList_run rfl (exec_idxO (i := k) rfl rfl rfl rfl hlt) ?_)
       go_round
       case rel => exact ⟨k + 1, _, rfl, by go_num, by omega, by omega, hlt, HN2⟩
       case measure => simp [numI]; omega
    ·have HN2 := Lib.hid (nxt_skip HN.out HX.out (.inl (by omega)))
     go_wp2_with (refine wpList_run rfl (exec_idxO (i := k) rfl rfl rfl rfl hlt) ?_)
     go_round
     case rel => exact ⟨k + 1, _, rfl, by go_num, by omega, by omega, hlt, HN2⟩
     case measure => simp [numI]; omega
   ·obtain rfl : k = n := by omega
    have HNN : Hid (Nxt l last l.length z) := Lib.hid (by rw [HLEN.out]; exact HN.out)
    by_cases hz : z < 0
    ·have HE : Hid (NumsP (fun x => ∃ o ∈ l, o.c = x) w (.returned (.slice a' m cap')) wr) := Lib.hid ⟨a', cap', ss, by rw [HM.out], HU.out.up, upto_all HU.out HNN.out hz, ownU_of (by rw [HM.out]; exact HW.out), HB.out⟩
     go_wp2_with fail
     go_ret
     exact HE.out
    ·obtain ⟨y, rfl⟩ := Int.eq_ofNat_of_zero_le (show 0 ≤ z by omega)
     obtain ⟨hun, hly⟩ := upto_next HU.out HNN.out (by omega)
     have HUN := Lib.hid hun
     clear hun
     go_wp2_with (at_builtin; refine wpList_appendG 59 31 1 2 info31u und59u rfl (by decide) (by decide) rfl rfl rfl rfl (HW.out.below (below_one wr _)) (Blk.new wr 31 #[encK y]) rfl (by simp [Value.oneCell']) (by omega) (by have := HB.out.size; simp; omega) ?_; intro a3 cap3 w3 ho3 hk3 hl3)
     have HW3 : Hid (OwnG w3 31 1 w.heap.size a3 (m + 1) cap3 (ones (ss ++ [(y : Int).toNat]))) := Lib.hid (by simpa [ones] using ho3)
     have HB3 : Hid (Below w.heap.size w w3) := Lib.hid ((HB.out.trans ((below_one wr (.cells #[encK y] 31)).mono HB.out.size)).trans (hk3.below (by have := HB.out.size; simp; omega) (fun j ⟨ad, had, e⟩ => by rw [e]; exact (HW.out.lt ad had).1)))
     have HM3 : Hid ((ss ++ [(y : Int).toNat]).length = m + 1) := Lib.hid (by simp [HM.out])
     have hm3 : m + 1 ≤ 65536 := by have := upto_le HUN.out; rw [HM3.out] at this; exact this
     clear ho3 hk3 hl3
     go_roundw
     case rel => exact ⟨a3, m + 1, cap3, (y : Int), _, rfl, rfl, by omega, by omega, hm3, HUN, HM3, HW3, HB3⟩
     case measure => simp [numI]; omega
end Go.Proofs.YtnekpgmgnepdoaaGreat.F
end
section
namespace Go.Proofs.YtnekpgmgnepdoaaGreat
open Go.RowKit Fold
section
variable {ev : Operand → Value} {q : Oper} {w : World}
theorem exec_dotO {x : Operand} {b off : Nat} {p : O} (ho : q.op = .load 30 x) (hx : ev x = .pointer (some ⟨b, off, none⟩)) (h : w.rangeAt b off p.cs) : (execOp ev q).run Tryz.prog w = .ok (.value (dotV p.r p.s)) w := by
 have hl := run_loadVar_mid (P := Tryz.prog) w b off 30 [.int .u8 (p.r : Int), .int .u32 (p.s : Int)] _ (fun j u hu => h j u (by
  match j, hu with
  | 0, hu => exact hu
  | 1, hu => exact hu)) Tryz.underlying30 rfl (by kernel_rfl)
 refine exec_cell ho hx ?_
 simp only [Instr.loadAt, Instr.sureAddr, Sem.run_bind, Sem.run_pure, Result.andThen_ok, hl]
theorem exec_eq30 {x y : Operand} {r s r' s' : Nat} {b : Bool} (ho : q.op = .binOp .eql 30 x y 30) (hx : ev x = dotV r s) (hy : ev y = dotV r' s') (hb : (((r : Int) == (r' : Int)) && ((s : Int) == (s' : Int))) = b) : (execOp ev q).run Tryz.prog w = .ok (.value (.bool b)) w := by
 subst hb
 unfold execOp dotV at *
 simp only [ho, hx, hy]
 go_simp
 by_cases h1 : (r : Int) = (r' : Int) <;> by_cases h2 : (s : Int) = (s' : Int) <;> simp [h1, h2]
theorem exec_conv8 {x : Operand} {n : Nat} (ho : q.op = .convert 5 3 x) (hx : ev x = .int .u8 (n : Int)) (hn : n < 256) : (execOp ev q).run Tryz.prog w = .ok (.value (.int .i64 (n : Int))) w := by
 have e : IntKind.i64.wrap (n : Int) = (n : Int) := by rw [IntKind.wrap_i64]; omega
 have h : (convert 5 3 (.int .u8 (n : Int))).run Tryz.prog w = .ok (.int .i64 (IntKind.i64.wrap (n : Int))) w := by kernel_rfl
 rw [e] at h
 unfold execOp
 simp only [ho, hx, Sem.run_bind, h, Result.andThen_ok]
 rfl
end
structure Ru (w W : World) (v : V) (b off : Nat) (x : O) : Prop where
 box : Blk W w.heap.size 24 v.arr
 op : W.rangeAt b off x.cs
theorem Ru.below {w W W' : World} {v : V} {b off : Nat} {x : O} (h : Ru w W v b off x) (hb : Below W.heap.size W W') : Ru w W' v b off x := ⟨h.box.below hb, fun j u hu => below_at hb (h.op j u hu)⟩
set_option maxRecDepth 100000 in
set_option maxHeartbeats 1000000 in
theorem runder_any {a : Option Addr} {n cap : Nat} {l : List O} {w : World} (hl : OL w a n l) (hn : n < 1000000) (v : V) : Calls Tryz.prog 37 #[.slice a n cap, .agg v.arr] w (OpsP (Fold.under l v) w) := by
 have HL := Lib.hid hl
 have HLEN := Lib.hid (OL.len' hl)
 have hb1 := fun (v : V) (w : World) => box24 v w
 clear hl
 go_enter Tryz.func37, Tryz.ntmps37
 go_wp2_with fail
 clear hb1
 go_loopw [5, 6] (UndR w v (fun o => V.hasB v o.r o.s) l n) (fun _ u _ => n - (numI u).toNat)
 case atStart => exact ⟨⟨0, none, 0, 0, rfl, rfl, Nat.zero_le _, Lib.hid rfl, Lib.hid (ownG_nil _ _ _ _), Lib.hid (below_one _ _)⟩, Blk.new w 24 v.arr⟩
 case round =>
  obtain ⟨⟨k, a', m, cap', rfl, rfl, hk, HM, HW, HB⟩, hvb⟩ := hrel
  have HV := Lib.hid hvb
  clear hvb
  by_cases hlt : k < n
  ·obtain ⟨b, off, x, rfl, hx, hr⟩ := OL.at (HL.out.below HB.out) hlt
   have HX := Lib.hid hx
   have HR : Hid (Ru w wr v b (off + k * 23) x) := Lib.hid ⟨HV.out, hr⟩
   have HH := Lib.hid (fun W => rhas_any v x.r x.s W x.hr x.hs)
   clear hx hr
   go_upto_region 5 with fail
   cases hh : V.hasB v x.r x.s
   ·rw [hh] at HH
    refine wp_region_held_drew (S := fun w' => Ru w w' v b (off + k * 23) x ∧ Below wr.heap.size wr w') (by kernel_rfl) ⟨HR.out.below (drew_below wr), drew_below wr⟩ (fun hS => ?_)
    refine held_tk 0 13 (.agg v.arr) rfl rfl (by kernel_rfl) (fun _ _ _ h=>h) (fun _ h=>exec_load24 (v:=v) rfl rfl h.1.box) hS ?_;simp only [Act.put,ap1,ap2,ap3]
    refine held_tk 1 14 (.slice (some ⟨b,off,none⟩) n cap) rfl rfl (by kernel_rfl) (fun _ _ _ h=>h) (fun _ _=>rfl) hS ?_;simp only [Act.put,ap1,ap2,ap3]
    refine held_tk 2 15 (.int .i64 (k : Int)) rfl rfl (by kernel_rfl) (fun _ _ _ h=>h) (fun _ _=>rfl) hS ?_;simp only [Act.put,ap1,ap2,ap3]
    refine held_tk 3 16 (.pointer (some ⟨b,off + k * 23,none⟩)) rfl rfl (by kernel_rfl) (fun _ _ _ h=>h) (fun _ _=>exec_idxO (i:=k) rfl rfl rfl rfl hlt) hS ?_;simp only [Act.put,ap1,ap2,ap3]
    refine held_tk 4 17 (.pointer (some ⟨b,off + k * 23,none⟩)) rfl rfl (by kernel_rfl) (fun _ _ _ h=>h) (fun _ _=>(by kernel_rfl)) hS ?_;simp only [Act.put,ap1,ap2,ap3]
    refine held_tk 5 18 (dotV x.r x.s) rfl rfl (by kernel_rfl) (fun _ _ _ h=>h) (fun _ h=>exec_dotO (p:=x) rfl rfl h.1.op) hS ?_;simp only [Act.put,ap1,ap2,ap3]
    refine held_call 6 19 60 #[.agg v.arr,dotV x.r x.s] (.bool false) rfl (by kernel_rfl) rfl (by kernel_rfl) (by kernel_rfl) (HH.out _) (fun _ h hb=>⟨h.1.below hb,h.2.trans (hb.mono h.2.size)⟩) hS (fun w16 hS=>?_)
    simp only [Act.put, ap1, ap2, ap3]
    refine wpAnyH_done (by kernel_rfl) ?_ _
    have HE := Lib.hid (out_skip (cap := cap') HM.out HX.out hlt hh HW.out HB.out hS.2)
    have HV2 := Lib.hid hS.1.box
    clear hS hh
    go_wp2_with fail
    go_roundw
    case rel => exact ⟨HE.out, HV2.out⟩
    case measure => simp [numI]; omega
   ·rw [hh] at HH
    refine wp_region_held_drew (S := fun w' => Ru w w' v b (off + k * 23) x ∧ Below wr.heap.size wr w') (by kernel_rfl) ⟨HR.out.below (drew_below wr), drew_below wr⟩ (fun hS => ?_)
    refine held_tk 0 13 (.agg v.arr) rfl rfl (by kernel_rfl) (fun _ _ _ h=>h) (fun _ h=>exec_load24 (v:=v) rfl rfl h.1.box) hS ?_;simp only [Act.put,ap1,ap2,ap3]
    refine held_tk 1 14 (.slice (some ⟨b,off,none⟩) n cap) rfl rfl (by kernel_rfl) (fun _ _ _ h=>h) (fun _ _=>rfl) hS ?_;simp only [Act.put,ap1,ap2,ap3]
    refine held_tk 2 15 (.int .i64 (k : Int)) rfl rfl (by kernel_rfl) (fun _ _ _ h=>h) (fun _ _=>rfl) hS ?_;simp only [Act.put,ap1,ap2,ap3]
    refine held_tk 3 16 (.pointer (some ⟨b,off + k * 23,none⟩)) rfl rfl (by kernel_rfl) (fun _ _ _ h=>h) (fun _ _=>exec_idxO (i:=k) rfl rfl rfl rfl hlt) hS ?_;simp only [Act.put,ap1,ap2,ap3]
    refine held_tk 4 17 (.pointer (some ⟨b,off + k * 23,none⟩)) rfl rfl (by kernel_rfl) (fun _ _ _ h=>h) (fun _ _=>(by kernel_rfl)) hS ?_;simp only [Act.put,ap1,ap2,ap3]
    refine held_tk 5 18 (dotV x.r x.s) rfl rfl (by kernel_rfl) (fun _ _ _ h=>h) (fun _ h=>exec_dotO (p:=x) rfl rfl h.1.op) hS ?_;simp only [Act.put,ap1,ap2,ap3]
    refine held_call 6 19 60 #[.agg v.arr,dotV x.r x.s] (.bool true) rfl (by kernel_rfl) rfl (by kernel_rfl) (by kernel_rfl) (HH.out _) (fun _ h hb=>⟨h.1.below hb,h.2.trans (hb.mono h.2.size)⟩) hS (fun w16 hS=>?_)
    simp only [Act.put, ap1, ap2, ap3]
    refine wpAnyH_done (by kernel_rfl) ?_ _
    have H1 := Lib.hid hS.2
    have HR1 := Lib.hid hS.1.op
    have HV1 := Lib.hid hS.1.box
    clear hS
    go_wp2_with (first | (refine wpList_run rfl (exec_idxO (i := k) rfl rfl rfl rfl hlt) ?_) | (refine wpList_run rfl (exec_ldO (p := x) rfl rfl HR1.out) ?_) | (refine wpList_run rfl (exec_bsO (p := x) rfl rfl) ?_) | (at_builtin; refine wpList_appendG 63 33 23 84 info33b und63 rfl (by decide) (by decide) rfl rfl rfl rfl (HW.out.below (H1.out.trans ((below_one w16 _).mono H1.out.size))) (Blk.new w16 33 x.arr) x.arr_size (one_cs x) (by have := HM.out; have := List.length_filter_le (fun o => V.hasB v o.r o.s) (l.take k); have := List.length_take_le k l; omega) (by have := HB.out.size; have := H1.out.size; simp; omega) ?_; intro a3 cap3 w3 ho3 hk3 hl3))
    have HE := Lib.hid (out_app HM.out HX.out hlt hh HW.out HB.out (H1.out.trans ((below_one w16 _).mono H1.out.size)) (OwnO.snoc ho3) hk3)
    have HV3 : Hid (Blk w3 w.heap.size 24 v.arr) := Lib.hid ((HV1.out.below (below_one w16 _)).kept hk3 (fun ⟨ad, had, e⟩ => by
     have hg := (HW.out.lt ad had)
     have hne : ad.block ≠ w.heap.size := fun e2 => by
      rcases HW.out.row.2 with ⟨h0, _⟩ | ⟨g', c', cur, hv', _, hgb, _⟩
      ·rw [had] at h0; cases h0
      ·rw [had] at hv'
       cases hv'
       have h5 := HV.out
       unfold Blk at h5
       simp only at e2
       rw [e2, h5] at hgb
       cases hgb
     exact hne e.symm))
    clear ho3 hk3 hl3 hh
    go_roundw
    case rel => exact ⟨HE.out, HV3.out⟩
    case measure => simp [numI]; omega
  ·obtain rfl : k = n := by omega
   have HE : Hid (OpsP (Fold.under l v) w (.returned (.slice a' m cap')) wr) := by
    have hm := HM.out
    have ho := HW.out
    rw [List.take_of_length_le (by rw [HLEN.out]; omega)] at hm ho
    subst hm
    exact Lib.hid ⟨a', cap', rfl, ho, HB.out⟩
   go_wp2_with fail
   go_ret
   exact HE.out
structure Rh (w W : World) (r s b off : Nat) (x : O) : Prop where
 dot : Blk W w.heap.size 30 #[.int .u8 (r : Int), .int .u32 (s : Int)]
 op : W.rangeAt b off x.cs
def RhR (w : World) (a : Option Addr) (n : Nat) (l : List O) (r s : Nat) (u : Value) (W : World) : Prop := ∃ k : Nat, u = .int .i64 (k : Int) ∧ k ≤ n ∧ Hid (∀ o ∈ l.take k, ¬ (o.r = r ∧ o.s = s)) ∧ Hid (Blk W w.heap.size 30 #[.int .u8 (r : Int), .int .u32 (s : Int)]) ∧ Hid (OL W a n l) ∧ Hid (Below w.heap.size w W)
def hasD (l : List O) (r s : Nat) : Bool := l.any fun o => decide (o.r = r ∧ o.s = s)
set_option maxRecDepth 100000 in
set_option maxHeartbeats 1000000 in
theorem refhas_any {a : Option Addr} {n cap : Nat} {l : List O} {w : World} (hl : OL w a n l) (hn : n < 1000000) (r s : Nat) : Calls Tryz.prog 78 #[.slice a n cap, dotV r s] w (Says (.bool (hasD l r s)) w) := by
 have HL := Lib.hid (hl.below (below_one w (.cells #[.int .u8 (r : Int), .int .u32 (s : Int)] 30)))
 have HLEN := Lib.hid (OL.len' hl)
 have HD : Hid (Blk (w.alloc (.cells #[.int .u8 (r : Int), .int .u32 (s : Int)] 30)) w.heap.size 30 #[.int .u8 (r : Int), .int .u32 (s : Int)]) := Lib.hid (Blk.new _ _ _)
 have HB0 := Lib.hid (below_one w (.cells #[.int .u8 (r : Int), .int .u32 (s : Int)] 30))
 clear hl
 go_enter Tryz.func78, Tryz.ntmps78
 go_wp2_with fail
 generalize w.alloc (.cells #[.int .u8 (r : Int), .int .u32 (s : Int)] 30) = w0 at HL HD HB0
 go_loopw [5] (RhR w a n l r s) (fun u _ => n - (numI u).toNat)
 case atStart => exact ⟨0, rfl, Nat.zero_le _, Lib.hid (fun o h => by simp at h), HD, HL, HB0⟩
 case round =>
  obtain ⟨k, rfl, hk, HF, HDk, HLk, HB⟩ := hrel
  clear HD HL HB0
  by_cases hlt : k < n
  ·obtain ⟨b, off, x, rfl, hx, hr⟩ := OL.at HLk.out hlt
   have HX := Lib.hid hx
   have HR : Hid (Rh w wr r s b (off + k * 23) x) := Lib.hid ⟨HDk.out, hr⟩
   clear hx hr
   go_upto_region 4 with fail
   by_cases he : x.r = r ∧ x.s = s
   ·have HQ : Hid ((((x.r : Int) == (r : Int)) && ((x.s : Int) == (s : Int))) = true) := Lib.hid (by simp [he.1, he.2])
    have HE : Hid (hasD l r s = true) := Lib.hid (List.any_eq_true.2 ⟨x, List.mem_of_getElem? HX.out, decide_eq_true he⟩)
    clear he
    refine wp_region_held_drew (S := fun w' => Rh w w' r s b (off + k * 23) x) (by kernel_rfl) ⟨HR.out.dot, HR.out.op⟩ (fun hS => ?_)
    refine held_tk 0 12 (.slice (some ⟨b,off,none⟩) n cap) rfl rfl (by kernel_rfl) (fun _ _ _ h=>h) (fun _ _=>rfl) hS ?_;simp only [Act.put,ap1,ap2,ap3]
    refine held_tk 1 13 (.int .i64 (k : Int)) rfl rfl (by kernel_rfl) (fun _ _ _ h=>h) (fun _ _=>rfl) hS ?_;simp only [Act.put,ap1,ap2,ap3]
    refine held_tk 2 14 (.pointer (some ⟨b,off + k * 23,none⟩)) rfl rfl (by kernel_rfl) (fun _ _ _ h=>h) (fun _ _=>exec_idxO (i:=k) rfl rfl rfl rfl hlt) hS ?_;simp only [Act.put,ap1,ap2,ap3]
    refine held_tk 3 15 (.pointer (some ⟨b,off + k * 23,none⟩)) rfl rfl (by kernel_rfl) (fun _ _ _ h=>h) (fun _ _=>(by kernel_rfl)) hS ?_;simp only [Act.put,ap1,ap2,ap3]
    refine held_tk 4 16 (dotV x.r x.s) rfl rfl (by kernel_rfl) (fun _ _ _ h=>h) (fun _ h=>exec_dotO (p:=x) rfl rfl h.op) hS ?_;simp only [Act.put,ap1,ap2,ap3]
    refine held_tk 5 17 (dotV r s) rfl rfl (by kernel_rfl) (fun _ _ _ h=>h) (fun _ h=>exec_load30 rfl rfl h.dot) hS ?_;simp only [Act.put,ap1,ap2,ap3]
    refine held_tk 6 18 (.bool true) rfl rfl (by kernel_rfl) (fun _ _ _ h=>h) (fun _ _=>exec_eq30 rfl rfl rfl HQ.out) hS ?_;simp only [Act.put,ap1,ap2,ap3]
    refine wpAnyH_done (by kernel_rfl) ?_ _
    clear hS
    go_wp2_with fail
    go_ret
    exact ⟨by rw [HE.out]; rfl, HB.out.drew⟩
   ·have HQ : Hid ((((x.r : Int) == (r : Int)) && ((x.s : Int) == (s : Int))) = false) := Lib.hid (by simp; omega)
    have HFN : Hid (∀ o ∈ l.take (k + 1), ¬ (o.r = r ∧ o.s = s)) := Lib.hid (fun o ho => by
     rw [List.take_add_one, HX.out] at ho
     rcases List.mem_append.1 ho with ho | ho
     ·exact HF.out o ho
     ·obtain rfl : o = x := by simpa using ho
      exact he)
    clear he
    refine wp_region_held_drew (S := fun w' => Rh w w' r s b (off + k * 23) x) (by kernel_rfl) ⟨HR.out.dot, HR.out.op⟩ (fun hS => ?_)
    refine held_tk 0 12 (.slice (some ⟨b,off,none⟩) n cap) rfl rfl (by kernel_rfl) (fun _ _ _ h=>h) (fun _ _=>rfl) hS ?_;simp only [Act.put,ap1,ap2,ap3]
    refine held_tk 1 13 (.int .i64 (k : Int)) rfl rfl (by kernel_rfl) (fun _ _ _ h=>h) (fun _ _=>rfl) hS ?_;simp only [Act.put,ap1,ap2,ap3]
    refine held_tk 2 14 (.pointer (some ⟨b,off + k * 23,none⟩)) rfl rfl (by kernel_rfl) (fun _ _ _ h=>h) (fun _ _=>exec_idxO (i:=k) rfl rfl rfl rfl hlt) hS ?_;simp only [Act.put,ap1,ap2,ap3]
    refine held_tk 3 15 (.pointer (some ⟨b,off + k * 23,none⟩)) rfl rfl (by kernel_rfl) (fun _ _ _ h=>h) (fun _ _=>(by kernel_rfl)) hS ?_;simp only [Act.put,ap1,ap2,ap3]
    refine held_tk 4 16 (dotV x.r x.s) rfl rfl (by kernel_rfl) (fun _ _ _ h=>h) (fun _ h=>exec_dotO (p:=x) rfl rfl h.op) hS ?_;simp only [Act.put,ap1,ap2,ap3]
    refine held_tk 5 17 (dotV r s) rfl rfl (by kernel_rfl) (fun _ _ _ h=>h) (fun _ h=>exec_load30 rfl rfl h.dot) hS ?_;simp only [Act.put,ap1,ap2,ap3]
    refine held_tk 6 18 (.bool false) rfl rfl (by kernel_rfl) (fun _ _ _ h=>h) (fun _ _=>exec_eq30 rfl rfl rfl HQ.out) hS ?_;simp only [Act.put,ap1,ap2,ap3]
    refine wpAnyH_done (by kernel_rfl) ?_ _
    have HDN := Lib.hid (HDk.out.below (drew_below wr))
    have HLN := Lib.hid (HLk.out.below (drew_below wr))
    have HBN : Hid (Below w.heap.size w wr.drew) := Lib.hid HB.out.drew
    clear hS
    go_wp2_with fail
    go_roundw
    case rel => exact ⟨k + 1, by go_num, hlt, HFN, HDN, HLN, HBN⟩
    case measure => simp [numI]; omega
  ·obtain rfl : k = n := by omega
   have HE : Hid (hasD l r s = false) := Lib.hid (by
    have h := HF.out
    rw [List.take_of_length_le (by rw [HLEN.out]; omega)] at h
    simp only [hasD, List.any_eq_false, decide_eq_true_eq]
    exact h)
   go_wp2_with fail
   go_ret
   exact ⟨by rw [HE.out]; rfl, HB.out⟩
end Go.Proofs.YtnekpgmgnepdoaaGreat
end
