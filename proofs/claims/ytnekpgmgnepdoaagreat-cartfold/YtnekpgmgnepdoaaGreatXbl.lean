import Derived.Test.YtnekpgmgnepdoaaGreatXbk
section
namespace Go.Proofs.YtnekpgmgnepdoaaGreat
open Go.RowKit Fold
structure Hist (l : List O) : Prop where
 few : l.length ≤ 40
 closed : Closed l
 runs : Runs V.zero l
 above : ∀ o ∈ l, ∀ p ∈ l, V.hasB o.v p.r p.s = true → V.belowB p.v o.v = true
def vecOf (v : V) : List O → V
 | [] => v
 | o :: l => vecOf (V.put v o.r o.s) l
theorem runs_app : ∀ {l m : List O} {v : V}, Runs v (l ++ m) ↔ Runs v l ∧ Runs (vecOf v l) m
 | [], _, _ => by simp [Runs, vecOf]
 | o :: l, m, v => by
  show (O.readyE v o = 0 ∧ Runs _ (l ++ m)) ↔ (O.readyE v o = 0 ∧ Runs _ l) ∧ Runs (vecOf (V.put v o.r o.s) l) m
  rw [runs_app (l := l) (m := m), and_assoc]
theorem vecOf_app : ∀ {l m : List O} {v : V}, vecOf v (l ++ m) = vecOf (vecOf v l) m
 | [], _, _ => rfl
 | _ :: l, _, _ => vecOf_app (l := l)
structure RunTo (l : List O) (k : Nat) (v : V) : Prop where
 runs : Runs V.zero (l.take k)
 vec : vecOf V.zero (l.take k) = v
theorem RunTo.start (l : List O) : RunTo l 0 V.zero := ⟨by simp [Runs], by simp [vecOf]⟩
theorem RunTo.step {l : List O} {k : Nat} {v : V} {x : O} (h : RunTo l k v) (hx : l[k]? = some x) (hr : O.readyE v x = 0) : RunTo l (k + 1) (V.put v x.r x.s) := by
 have e : l.take (k + 1) = l.take k ++ [x] := by rw [List.take_add_one, hx]; rfl
 refine ⟨?_, ?_⟩
 ·rw [e, runs_app, h.vec]; exact ⟨h.runs, hr, trivial⟩
 ·rw [e, vecOf_app, h.vec]; rfl
theorem RunTo.no {l : List O} {k : Nat} {v : V} {x : O} (h : RunTo l k v) (hx : l[k]? = some x) (hr : ¬ O.readyE v x = 0) : ¬ Runs V.zero l := fun hh => by
 have e : l = l.take k ++ x :: l.drop (k + 1) := by
  have h1 := (List.getElem?_eq_some_iff.1 hx)
  have h2 : l.drop k = x :: l.drop (k + 1) := by rw [List.drop_eq_getElem_cons h1.1, h1.2]
  rw [← h2, List.take_append_drop]
 rw [e, runs_app, h.vec] at hh
 exact hr hh.2.1
theorem mem_take_succ {l : List O} {k : Nat} {x y : O} (hx : l[k]? = some x) (hy : y ∈ l.take (k + 1)) : y ∈ l.take k ∨ y = x := by
 rw [List.take_add_one, hx] at hy
 rcases List.mem_append.1 hy with h | h
 ·exact .inl h
 ·exact .inr (by simpa using h)
structure HvW (w W : World) (pk : Nat) (v : V) : Prop where
 kv : Blk W pk 24 v.arr
 old : Below w.heap.size w W
theorem HvW.below {w W W' : World} {pk : Nat} {v : V} (h : HvW w W pk v) (hb : Below W.heap.size W W') : HvW w W' pk v := ⟨h.kv.below hb, h.old.trans (hb.mono h.old.size)⟩
set_option maxRecDepth 100000 in
set_option maxHeartbeats 16000000 in
theorem hist_any {a : Option Addr} {n cap : Nat} {l : List O} {w : World} (hl : OL w a n l) (hn : n < 9223372036854775808) (hcap : n ≤ cap) : Calls Tryz.prog 29 #[.slice a n cap] w (SaysIff (Hist l) w) := by
 have HL := Lib.hid hl
 have HLEN := Lib.hid hl.len'
 obtain ⟨z, hz⟩ : ∃ z, V.zero = z := ⟨_, rfl⟩
 have HZ := Lib.hid hz
 obtain ⟨zo, hzo⟩ : ∃ z, O.zero = z := ⟨_, rfl⟩
 have HZO := Lib.hid hzo
 clear hl hz hzo
 by_cases h40 : 40 < n
 ·have q : decide ((40 : Int) < (n : Int)) = true := by simp; omega
  have HE : Hid (¬ Hist l) := Lib.hid (fun h => by have := h.few; have := HLEN.out; omega)
  clear h40
  go_enter Tryz.func29, Tryz.ntmps29
  go_wp2_with fail
  go_ret
  exact ⟨false, rfl, ⟨fun h => (by cases h), fun h => absurd h HE.out⟩, Below.refl _ _⟩
 have q : decide ((40 : Int) < (n : Int)) = false := by simp; omega
 have hn40 : n ≤ 40 := by omega
 have HN : Hid (n ≤ 40) := Lib.hid hn40
 clear h40 hn
 go_enter Tryz.func29, Tryz.ntmps29
 go_wp2_with fail
 refine (refclosed_any HL.out (by have := HN.out; omega) hcap).mono ?_
 rintro e w1 ⟨b, rfl, hbb, hb⟩
 have HB1 := Lib.hid hb
 clear hb q
 cases b
 ·have HE : Hid (¬ Hist l) := Lib.hid (fun h => by have := hbb.2 h.closed; cases this)
  clear hbb
  go_wp2_with fail
  go_ret
  exact ⟨false, rfl, ⟨fun h => (by cases h), fun h => absurd h HE.out⟩, HB1.out⟩
 have HCL := Lib.hid (hbb.1 rfl)
 clear hbb
 go_wp2_with (refine wpList_alloc24 HZ.out rfl rfl ?_)
 have HV0 : Hid (HvW w (w1.alloc (.cells z.arr 24)) w1.heap.size z) := Lib.hid ⟨Blk.new w1 24 _, HB1.out.trans ((below_one w1 _).mono HB1.out.size)⟩
 have HPW : Hid (w.heap.size ≤ w1.heap.size) := Lib.hid HB1.out.size
 clear HB1
 generalize w1.alloc (.cells z.arr 24) = w2 at HV0 ⊢
 generalize w1.heap.size = pk at HV0 HPW ⊢
 go_loopw [20] (fun iv W => ∃ (k : Nat) (v : V), k ≤ n ∧ iv = .int .i64 (k : Int) ∧ Hid (RunTo l k v) ∧ Hid (HvW w W pk v)) (fun iv _ => n - (intOf iv).toNat)
 case atStart => exact ⟨0, z, Nat.zero_le _, rfl, Lib.hid (HZ.out ▸ RunTo.start l), HV0⟩
 case round =>
  obtain ⟨k, v, hk, rfl, HR, HV⟩ := hrel
  clear HV0
  by_cases hlt : k < n
  ·obtain ⟨g, off, x, rfl, hx, hr⟩ := OL.at (HL.out.below HV.out.old) hlt
   have HX := Lib.hid hx
   have HRW := Lib.hid hr
   clear hx hr
   go_wp2_with (first | (refine wpList_run rfl (exec_idxO (i := k) rfl rfl rfl rfl hlt) ?_) | (refine wpList_run rfl (exec_ldO (p := x) rfl rfl HRW.out) ?_) | (refine wpList_run rfl (exec_alloc33z HZO.out rfl) ?_) | (refine wpList_stop33 rfl ?_))
   refine ⟨?_⟩
   refine wpList_void rfl rfl (exec_store33 (p := zo) (u := x) rfl rfl rfl (Blk.new wr 33 zo.arr)) ?_
   have hbo := bo_laid wr 33 zo.arr x.arr
   have HV1 := Lib.hid (HV.out.below hbo.old)
   have HX1 := Lib.hid hbo.one
   have HPX : Hid (pk < wr.heap.size) := Lib.hid HV.out.kv.lt
   clear hbo HV HRW
   generalize (wr.alloc (.cells zo.arr 33)).setRow wr.heap.size x.arr = w3 at HV1 HX1 ⊢
   generalize wr.heap.size = px at HX1 HPX ⊢
   go_wp2_with (first | (refine wpList_run rfl (exec_load24 (v := v) rfl rfl HV1.out.kv) ?_) | (refine wpList_run rfl (exec_load33 (p := x) rfl rfl HX1.out) ?_))
   refine (rready_any v x w3).mono ?_
   rintro e w4 ⟨rfl, hb⟩
   have HV2 := Lib.hid (HV1.out.below hb)
   have HX2 := Lib.hid (HX1.out.below hb)
   clear hb HV1 HX1
   obtain ⟨er, her⟩ : ∃ er, O.readyE v x = er := ⟨_, rfl⟩
   have HER := Lib.hid her
   rw [her]
   clear her
   by_cases h0 : er = 0
   ·subst h0
    have HRD := Lib.hid (rdy HER.out)
    have HRT := Lib.hid (HR.out.step HX.out HER.out)
    have c0 := oc0 HX2.out
    have c1 := oc1 HX2.out
    go_wp2_with (first | (refine wpList_run rfl (exec_index24 (j := x.r) rfl rfl rfl HRD.out.r) ?_) | (refine wpList_stopT rfl ?_))
    refine ⟨?_⟩
    refine wpList_void rfl rfl (exec_st22 (n := x.s) rfl rfl rfl HV2.out.kv (by rw [V.arr16]; exact HRD.out.r)) ?_
    have HV3 : Hid (HvW w (w4.setCell ⟨pk, x.r, none⟩ (.int .u32 (x.s : Int))) pk (V.put v x.r x.s)) := Lib.hid (by
     have hk := Kept.setCell w4 ⟨pk, x.r, none⟩ (.int .u32 (x.s : Int))
     have hv := HV2.out.kv.set x.r (.int .u32 (x.s : Int))
     rw [V.arr_put v HRD.out.r x.hs] at hv
     exact ⟨hv, HV2.out.old.trans (hk.below HV2.out.old.size (fun k hk => by have := HPW.out; simp only at hk; omega))⟩)
    clear HV2 HX2 c0 c1
    generalize w4.setCell ⟨pk, x.r, none⟩ (.int .u32 (x.s : Int)) = w5 at HV3 ⊢
    go_wp2_with fail
    go_roundw
    case rel => exact ⟨k + 1, _, hlt, by go_num, HRT, HV3⟩
    case measure => simp [intOf]; omega
   ·have HE : Hid (¬ Hist l) := Lib.hid (fun h => HR.out.no HX.out (by rw [HER.out]; exact h0) h.runs)
    have q1 : ((er : Int) != 0) = true := by simp; omega
    clear h0
    go_wp2_with fail
    go_ret
    exact ⟨false, rfl, ⟨fun h => (by cases h), fun h => absurd h HE.out⟩, HV2.out.old⟩
  ·have HRUN : Hid (Runs V.zero l) := Lib.hid (by have h := HR.out.runs; rwa [List.take_of_length_le (by rw [HLEN.out]; omega)] at h)
   have HB4 := Lib.hid HV.out.old
   clear HR HV
   go_wp2_with fail
   go_loopw [38] (fun iv W => ∃ k : Nat, k ≤ n ∧ iv = .int .i64 (k : Int) ∧ Hid (∀ o ∈ l.take k, ∀ p ∈ l, V.hasB o.v p.r p.s = true → V.belowB p.v o.v = true) ∧ Hid (Below w.heap.size w W)) (fun iv _ => n - (intOf iv).toNat)
   case atStart => exact ⟨0, Nat.zero_le _, rfl, Lib.hid (by simp), HB4⟩
   case round =>
    obtain ⟨k2, hk2, rfl, HA, HB⟩ := hrel
    clear HB4
    by_cases hlt2 : k2 < n
    ·obtain ⟨g, off, x, rfl, hx, hr⟩ := OL.at (HL.out.below HB.out) hlt2
     have HX := Lib.hid hx
     have HRW := Lib.hid hr
     clear hx hr
     go_wp2_with (first | (refine wpList_run rfl (exec_idxO (i := k2) rfl rfl rfl rfl hlt2) ?_) | (refine wpList_run rfl (exec_ldO (p := x) rfl rfl HRW.out) ?_) | (refine wpList_run rfl (exec_alloc33z HZO.out rfl) ?_) | (refine wpList_stop33 rfl ?_))
     refine ⟨?_⟩
     refine wpList_void rfl rfl (exec_store33 (p := zo) (u := x) rfl rfl rfl (Blk.new wr 33 zo.arr)) ?_
     have hbo := bo_laid wr 33 zo.arr x.arr
     have HB1 := Lib.hid (HB.out.trans (hbo.old.mono HB.out.size))
     have HX1 := Lib.hid hbo.one
     clear hbo HB HRW
     generalize (wr.alloc (.cells zo.arr 33)).setRow wr.heap.size x.arr = w3 at HB1 HX1 ⊢
     generalize wr.heap.size = px at HX1 ⊢
     go_wp2_with fail
     go_loopw [44] (fun jv W => ∃ j : Nat, j ≤ n ∧ jv = .int .i64 (j : Int) ∧ Hid (∀ p ∈ l.take j, V.hasB x.v p.r p.s = true → V.belowB p.v x.v = true) ∧ Hid (Blk W px 33 x.arr) ∧ Hid (Below w.heap.size w W)) (fun jv _ => n - (intOf jv).toNat)
     case atStart => exact ⟨0, Nat.zero_le _, rfl, Lib.hid (by simp), HX1, HB1⟩
     case round =>
      obtain ⟨j, hj, rfl, HAJ, HX2, HB2⟩ := hrel
      clear HX1 HB1
      by_cases hlt3 : j < n
      ·obtain ⟨g3, off3, y, e3, hy, hr⟩ := OL.at (HL.out.below HB2.out) hlt3
       obtain ⟨rfl, rfl⟩ : g = g3 ∧ off = off3 := by cases e3; exact ⟨rfl, rfl⟩
       have HY := Lib.hid hy
       have HRW := Lib.hid hr
       clear hy hr e3
       go_wp2_with (first | (refine wpList_run rfl (exec_idxO (i := j) rfl rfl rfl rfl hlt3) ?_) | (refine wpList_run rfl (exec_ldO (p := y) rfl rfl HRW.out) ?_) | (refine wpList_run rfl (exec_alloc33z HZO.out rfl) ?_) | (refine wpList_stop33 rfl ?_))
       refine ⟨?_⟩
       refine wpList_void rfl rfl (exec_store33 (p := zo) (u := y) rfl rfl rfl (Blk.new wr 33 zo.arr)) ?_
       have hbo := bo_laid wr 33 zo.arr y.arr
       have HB3 := Lib.hid (HB2.out.trans (hbo.old.mono HB2.out.size))
       have HX3 := Lib.hid (HX2.out.below hbo.old)
       have HY3 := Lib.hid hbo.one
       clear hbo HB2 HX2 HRW
       generalize (wr.alloc (.cells zo.arr 33)).setRow wr.heap.size y.arr = w5 at HB3 HX3 HY3 ⊢
       generalize wr.heap.size = py at HY3 ⊢
       go_wp2_with (first | (refine wpList_run rfl (exec_ctx (p := x) rfl rfl HX3.out) ?_) | (refine wpList_run rfl (exec_dot (p := y) rfl rfl HY3.out) ?_))
       refine (rhas_any x.v y.r y.s w5 y.hr y.hs).mono ?_
       rintro e w6 ⟨rfl, hb⟩
       have HB4 := Lib.hid (HB3.out.trans (hb.mono HB3.out.size))
       have HX4 := Lib.hid (HX3.out.below hb)
       have HY4 := Lib.hid (HY3.out.below hb)
       clear hb HB3 HX3 HY3
       obtain ⟨hh, hhe⟩ : ∃ b, V.hasB x.v y.r y.s = b := ⟨_, rfl⟩
       have HHE := Lib.hid hhe
       rw [hhe]
       clear hhe
       cases hh
       ·have HAJ2 : Hid (∀ p ∈ l.take (j + 1), V.hasB x.v p.r p.s = true → V.belowB p.v x.v = true) := Lib.hid (fun p hp hh => by
         rcases mem_take_succ HY.out hp with h | rfl
         ·exact HAJ.out p h hh
         ·rw [HHE.out] at hh; cases hh)
        go_wp2_with fail
        go_roundw
        case rel => exact ⟨j + 1, hlt3, by go_num, HAJ2, HX4, HB4⟩
        case measure => simp [intOf]; omega
       ·go_wp2_with (first | (refine wpList_runW (exec_ctx (p := y) rfl rfl HY4.out) (by kernel_rfl) ?_) | (refine wpList_runW (exec_ctx (p := x) rfl rfl HX4.out) (by kernel_rfl) ?_))
        refine (rbelow_any y.v x.v w6).mono ?_
        rintro e w7 ⟨rfl, hb⟩
        have HB5 := Lib.hid (HB4.out.trans (hb.mono HB4.out.size))
        have HX5 := Lib.hid (HX4.out.below hb)
        clear hb HB4 HX4 HY4
        obtain ⟨bl, hbl⟩ : ∃ b, V.belowB y.v x.v = b := ⟨_, rfl⟩
        have HBL := Lib.hid hbl
        rw [hbl]
        clear hbl
        cases bl
        ·have HE : Hid (¬ Hist l) := Lib.hid (fun h => by
          have := h.above x (List.mem_of_getElem? HX.out) y (List.mem_of_getElem? HY.out) HHE.out
          rw [HBL.out] at this
          cases this)
         go_wp2_with fail
         go_ret
         exact ⟨false, rfl, ⟨fun h => (by cases h), fun h => absurd h HE.out⟩, HB5.out⟩
        ·have HAJ2 : Hid (∀ p ∈ l.take (j + 1), V.hasB x.v p.r p.s = true → V.belowB p.v x.v = true) := Lib.hid (fun p hp hh => by
          rcases mem_take_succ HY.out hp with h | rfl
          ·exact HAJ.out p h hh
          ·exact HBL.out)
         go_wp2_with fail
         go_roundw
         case rel => exact ⟨j + 1, hlt3, by go_num, HAJ2, HX5, HB5⟩
         case measure => simp [intOf]; omega
      ·have HA2 : Hid (∀ o ∈ l.take (k2 + 1), ∀ p ∈ l, V.hasB o.v p.r p.s = true → V.belowB p.v o.v = true) := Lib.hid (fun o ho p hp hh => by
        rcases mem_take_succ HX.out ho with h | rfl
        ·exact HA.out o h p hp hh
        ·exact HAJ.out p (by rw [List.take_of_length_le (by rw [HLEN.out]; omega)]; exact hp) hh)
       go_wp2_with fail
       go_roundw
       case rel => exact ⟨k2 + 1, hlt2, by go_num, HA2, HB2⟩
       case measure => simp [intOf]; omega
    ·have HE : Hid (Hist l) := Lib.hid ⟨by rw [HLEN.out]; exact HN.out, HCL.out, HRUN.out, fun o ho => HA.out o (by rw [List.take_of_length_le (by rw [HLEN.out]; omega)]; exact ho)⟩
     go_wp2_with fail
     go_ret
     exact ⟨true, rfl, ⟨fun _ => HE.out, fun _ => rfl⟩, HB.out⟩
end Go.Proofs.YtnekpgmgnepdoaaGreat
end
section
namespace Go.Proofs.YtnekpgmgnepdoaaGreat
open Go.RowKit
theorem choose_ops {W : World} {x : Addr} : ∀ {n : Nat}, (∀ i, i < n → ∃ p : O, ∀ j u, p.cs[j]? = some u → W.cell? (x.add (i * 23 + j)) = some u) → ∃ l : List O, l.length = n ∧ ∀ i p, l[i]? = some p → ∀ j u, p.cs[j]? = some u → W.cell? (x.add (i * 23 + j)) = some u
 | 0, _ => ⟨[], rfl, fun i p h => by simp at h⟩
 | n + 1, h => by
  obtain ⟨l, hl, hp⟩ := choose_ops (n := n) fun i hi => h i (by omega)
  obtain ⟨p, hpp⟩ := h n (by omega)
  refine ⟨l ++ [p], by simp [hl], fun i q hq => ?_⟩
  by_cases hi : i < n
  ·rw [List.getElem?_append_left (by omega)] at hq
   exact hp i q hq
  ·have hlt := (List.getElem?_eq_some_iff.1 hq).1
   simp only [List.length_append, List.length_cons, List.length_nil] at hlt
   obtain rfl : i = n := by omega
   rw [List.getElem?_append_right (by omega), hl, Nat.sub_self] at hq
   obtain rfl := Option.some.inj hq
   exact hpp
theorem ops_of {H : Type} {enc : TypeId × Value → H} {W : World} {a : Option Addr} {len cap : Nat} {d : DataW H} {p : List MemPlace}
  (h : DataW.Trod enc Tryz.prog W 0 (fun _ => true) true 63 (.slice a len cap) d p) : len ≤ maxLen ∧ ∃ l, OL W a len l := by
 obtain ⟨fuel, hf⟩ := h
 rcases Go.Deep.open_slice Tryz.underlying63 hf with ⟨hcs, _⟩ | ⟨x, l, c, m, n, D, Pl, hcs, _, hl, hm, hmm, _, hi⟩
 ·simp [Value.cells] at hcs
  obtain ⟨rfl, rfl, rfl⟩ := hcs
  exact ⟨Nat.zero_le _, [], rfl, .inl rfl⟩
 ·simp [Value.cells] at hcs
  obtain ⟨rfl, rfl, rfl⟩ := hcs
  simp at hmm
  have hall : ∀ i, i < len → ∃ q : O, ∀ j u, q.cs[j]? = some u → W.cell? (x.add (i * 23 + j)) = some u := by
   intro i hil
   obtain ⟨cs', hc, ht⟩ := hi i (by omega)
   rw [cells33'] at hc
   obtain ⟨_, hcl, hat⟩ := World.cells?_some hc
   obtain ⟨q, rfl⟩ := op_cells (by simpa using hcl) ht
   refine ⟨q, fun j u hu => ?_⟩
   have hj : j < 23 := by rw [← q.cs_len]; exact (List.getElem?_eq_some_iff.1 hu).1
   have := hat j hj
   rw [Go.Deep.add_add] at this
   rw [this]
   simpa using hu
  obtain ⟨xs, hxl, hxs⟩ := choose_ops hall
  refine ⟨by omega, xs, by simp [cellsO, hxl], ?_⟩
  by_cases h0 : len = 0
  ·exact .inl h0
  ·obtain ⟨b, off, spot⟩ := x
   have hspot : spot = none := by
    have hl0 : 0 < xs.length := by omega
    have := hxs 0 _ (List.getElem?_eq_getElem hl0) 0 _ rfl
    simpa [Addr.add] using World.cell?_spot this
   subst hspot
   refine .inr ⟨b, off, rfl, fun i v hv j u hu => ?_⟩
   obtain ⟨q, hq, rfl⟩ : ∃ q, xs[i]? = some q ∧ q.cs = v := by simpa [cellsO] using hv
   have := hxs i q hq j u hu
   rw [Addr.add_mid, ← Nat.add_assoc] at this
   exact this
theorem ops_cap {H : Type} {enc : TypeId × Value → H} {W : World} {a : Option Addr} {len cap : Nat} {d : DataW H} {p : List MemPlace}
  (h : DataW.Trod enc Tryz.prog W 0 (fun _ => true) true 63 (.slice a len cap) d p) : len ≤ cap := by
 obtain ⟨fuel, hf⟩ := h
 rcases Go.Deep.open_slice Tryz.underlying63 hf with ⟨hcs, _⟩ | ⟨x, l, c, m, n, D, Pl, hcs, _, hl, hm, hmm, _, hi⟩
 ·simp [Value.cells] at hcs
  obtain ⟨rfl, rfl, rfl⟩ := hcs
  exact Nat.le_refl _
 ·simp [Value.cells] at hcs
  obtain ⟨rfl, rfl, rfl⟩ := hcs
  exact hl
end Go.Proofs.YtnekpgmgnepdoaaGreat
end
section
namespace Go.Proofs.YtnekpgmgnepdoaaGreat
open Go.RowKit
theorem sumTo_put {v : V} {r q : Nat} (hr : r < 16) (hq : v.at_ r + 1 = q) (hq2 : q < 4294967296) : ∀ k, k ≤ 16 → V.sumTo (V.put v r q) k = V.sumTo v k + if r < k then 1 else 0
 | 0, _ => by simp [V.sumTo]
 | k + 1, hk => by
  have ih := sumTo_put hr hq hq2 k (by omega)
  simp only [V.sumTo]
  rw [ih, V.put_at v r q (by omega) hq2]
  by_cases e : k = r
  ·subst e; simp; omega
  ·rw [if_neg e]
   by_cases h : r < k
   ·rw [if_pos h, if_pos (by omega)]; omega
   ·rw [if_neg h, if_neg (by omega)]; omega
theorem sum_run : ∀ {l : List O} {s : Sta}, Runs s.v l → V.sum (stOf s l).v = V.sum s.v + l.length
 | [], _, _ => rfl
 | o :: l, s, h => by
  have R := rdy h.1
  have ih := sum_run (l := l) (s := applyS s o) h.2
  have e : V.sum (applyS s o).v = V.sum s.v + 1 := by
   have := sumTo_put R.r R.now o.hs 16 (Nat.le_refl _)
   rw [if_pos R.r] at this
   exact this
  show V.sum (stOf (applyS s o) l).v = _
  rw [ih, e, List.length_cons]
  omega
theorem sum_zero : V.sum V.zero = 0 := by decide
theorem sum_st {l : List O} (h : Runs V.zero l) : V.sum (stOf Sta.zero l).v = l.length := by
 have := sum_run (s := Sta.zero) h
 rw [show V.sum Sta.zero.v = 0 from sum_zero] at this
 omega
end Go.Proofs.YtnekpgmgnepdoaaGreat
end
