/- Walk of read of the program. -/
import Derived.Test.YtcgbkfnjohbglaaDoorPi
namespace Go.Proofs.YtcgbkfnjohbglaaDoor
open Go.RowKit

theorem pg_one (lf : Bool) (a1 : Option Addr) (n1 c1 : Nat) (a2 : Option Addr) (n2 c2 : Nat) (a3 : Option Addr) (n3 c3 : Nat) : (pgA lf a1 n1 c1 a2 n2 c2 a3 n3 c3).all (·.oneCell') = true := by
  refine all_oneCell_toArray (cs := [.bool lf, .slice a1 n1 c1, .slice a2 n2 c2, .slice a3 n3 c3]) fun u hu => ?_
  simp only [List.mem_cons, List.not_mem_nil, or_false] at hu
  rcases hu with rfl | rfl | rfl | rfl <;> rfl
theorem loadVar40 {w : World} {g : Nat} {lf : Bool} {a1 : Option Addr} {n1 c1 : Nat} {a2 : Option Addr} {n2 c2 : Nat} {a3 : Option Addr} {n3 c3 : Nat} (h : Blk w g 40 (pgA lf a1 n1 c1 a2 n2 c2 a3 n3 c3)) : (loadVar 40 ⟨g, 0, none⟩).run Tryd.prog w = .ok (.agg (pgA lf a1 n1 c1 a2 n2 c2 a3 n3 c3)) w := run_loadVar_row _ _ 40 40 _ (0, 0) _ h und40 rfl size40
theorem exec_store40 {ev : Operand → Value} {q : Oper} {w : World} {x y : Operand} {g : Nat} {lf lf2 : Bool} {a1 b1 : Option Addr} {n1 c1 m1 d1 : Nat} {a2 b2 : Option Addr} {n2 c2 m2 d2 : Nat} {a3 b3 : Option Addr} {n3 c3 m3 d3 : Nat} (ho : q.op = .store 40 x y) (hx : ev x = .pointer (some ⟨g, 0, none⟩)) (hy : ev y = .agg (pgA lf2 b1 m1 d1 b2 m2 d2 b3 m3 d3)) (h : Blk w g 40 (pgA lf a1 n1 c1 a2 n2 c2 a3 n3 c3)) : (execOp ev q).run Tryd.prog w = .ok .skip (w.setRow g (pgA lf2 b1 m1 d1 b2 m2 d2 b3 m3 d3)) := by
  have hs : (Instr.storeAt 40 (.pointer (some ⟨g, 0, none⟩)) (.agg (pgA lf2 b1 m1 d1 b2 m2 d2 b3 m3 d3))).run Tryd.prog w = .ok () (w.setRow g (pgA lf2 b1 m1 d1 b2 m2 d2 b3 m3 d3)) := by
    simp only [Instr.storeAt, Instr.sureAddr, Sem.run_bind, Sem.run_pure, Result.andThen]
    exact run_storeVar_row _ _ 40 40 (pgA lf a1 n1 c1 a2 n2 c2 a3 n3 c3) (pgA lf2 b1 m1 d1 b2 m2 d2 b3 m3 d3) h size40 rfl (pg_one _ _ _ _ _ _ _ _ _ _)
  unfold execOp
  simp only [ho, hx, hy, Sem.run_bind, hs, Result.andThen_ok]
  rfl
theorem wpList_stop40 {ops : Array Oper} {rest : List Oper} {o : Oper} {act : Act} {Q : Exit → Act → World → Prop} {W : World} {x y : Operand} (_ho : o.op = .store 40 x y) (k : Halt_ (wpList Tryd.prog ops Q (o :: rest) act W)) : wpList Tryd.prog ops Q (o :: rest) act W := k.out
theorem loadVar26 {w : World} {g : Nat} {lf : Bool} {a1 : Option Addr} {n1 c1 : Nat} {a2 : Option Addr} {n2 c2 : Nat} {a3 : Option Addr} {n3 c3 : Nat} (h : Blk w g 26 (pgA lf a1 n1 c1 a2 n2 c2 a3 n3 c3)) : (loadVar 26 ⟨g, 0, none⟩).run Tryd.prog w = .ok (.agg (pgA lf a1 n1 c1 a2 n2 c2 a3 n3 c3)) w := run_loadVar_row _ _ 26 26 _ (0, 0) _ h und26 rfl size26
theorem exec_store26 {ev : Operand → Value} {q : Oper} {w : World} {x y : Operand} {g : Nat} {lf lf2 : Bool} {a1 b1 : Option Addr} {n1 c1 m1 d1 : Nat} {a2 b2 : Option Addr} {n2 c2 m2 d2 : Nat} {a3 b3 : Option Addr} {n3 c3 m3 d3 : Nat} (ho : q.op = .store 26 x y) (hx : ev x = .pointer (some ⟨g, 0, none⟩)) (hy : ev y = .agg (pgA lf2 b1 m1 d1 b2 m2 d2 b3 m3 d3)) (h : Blk w g 26 (pgA lf a1 n1 c1 a2 n2 c2 a3 n3 c3)) : (execOp ev q).run Tryd.prog w = .ok .skip (w.setRow g (pgA lf2 b1 m1 d1 b2 m2 d2 b3 m3 d3)) := by
  have hs : (Instr.storeAt 26 (.pointer (some ⟨g, 0, none⟩)) (.agg (pgA lf2 b1 m1 d1 b2 m2 d2 b3 m3 d3))).run Tryd.prog w = .ok () (w.setRow g (pgA lf2 b1 m1 d1 b2 m2 d2 b3 m3 d3)) := by
    simp only [Instr.storeAt, Instr.sureAddr, Sem.run_bind, Sem.run_pure, Result.andThen]
    exact run_storeVar_row _ _ 26 26 (pgA lf a1 n1 c1 a2 n2 c2 a3 n3 c3) (pgA lf2 b1 m1 d1 b2 m2 d2 b3 m3 d3) h size26 rfl (pg_one _ _ _ _ _ _ _ _ _ _)
  unfold execOp
  simp only [ho, hx, hy, Sem.run_bind, hs, Result.andThen_ok]
  rfl
theorem wpList_stop26 {ops : Array Oper} {rest : List Oper} {o : Oper} {act : Act} {Q : Exit → Act → World → Prop} {W : World} {x y : Operand} (_ho : o.op = .store 26 x y) (k : Halt_ (wpList Tryd.prog ops Q (o :: rest) act W)) : wpList Tryd.prog ops Q (o :: rest) act W := k.out
theorem exec_stSl_37 {ev : Operand → Value} {q : Oper} {w : World} {x y : Operand} {g o : Nat} {a : Option Addr} {n cap : Nat} {t : TypeId} {cs : Array Value} (ho : q.op = .store 37 x y) (hx : ev x = .pointer (some ⟨g, o, none⟩)) (hy : ev y = .slice a n cap) (h : Blk w g t cs) (hlt : o < cs.size) : (execOp ev q).run Tryd.prog w = .ok .skip (w.setCell ⟨g, o, none⟩ (.slice a n cap)) := by
  have u := und37
  have hc : w.cell? ⟨g, o, none⟩ = some cs[o] := by rw [h.cell]; exact Array.getElem?_eq_getElem hlt
  have hf : w.frozen? ⟨g, o, none⟩ = false := h.frozen o
  generalize cs[o] = old at hc
  unfold execOp
  simp only [ho, hx, hy]
  go_simp
theorem exec_stSl_38 {ev : Operand → Value} {q : Oper} {w : World} {x y : Operand} {g o : Nat} {a : Option Addr} {n cap : Nat} {t : TypeId} {cs : Array Value} (ho : q.op = .store 38 x y) (hx : ev x = .pointer (some ⟨g, o, none⟩)) (hy : ev y = .slice a n cap) (h : Blk w g t cs) (hlt : o < cs.size) : (execOp ev q).run Tryd.prog w = .ok .skip (w.setCell ⟨g, o, none⟩ (.slice a n cap)) := by
  have u := und38
  have hc : w.cell? ⟨g, o, none⟩ = some cs[o] := by rw [h.cell]; exact Array.getElem?_eq_getElem hlt
  have hf : w.frozen? ⟨g, o, none⟩ = false := h.frozen o
  generalize cs[o] = old at hc
  unfold execOp
  simp only [ho, hx, hy]
  go_simp
theorem exec_stSl_24 {ev : Operand → Value} {q : Oper} {w : World} {x y : Operand} {g o : Nat} {a : Option Addr} {n cap : Nat} {t : TypeId} {cs : Array Value} (ho : q.op = .store 24 x y) (hx : ev x = .pointer (some ⟨g, o, none⟩)) (hy : ev y = .slice a n cap) (h : Blk w g t cs) (hlt : o < cs.size) : (execOp ev q).run Tryd.prog w = .ok .skip (w.setCell ⟨g, o, none⟩ (.slice a n cap)) := by
  have u := und24
  have hc : w.cell? ⟨g, o, none⟩ = some cs[o] := by rw [h.cell]; exact Array.getElem?_eq_getElem hlt
  have hf : w.frozen? ⟨g, o, none⟩ = false := h.frozen o
  generalize cs[o] = old at hc
  unfold execOp
  simp only [ho, hx, hy]
  go_simp

/-- The number in a cell. -/
def numI : Value → Int
  | .int _ z => z
  | _ => 0
/-- What read leaves. -/
def ReadP (P : Pg) (w : World) (e : Ending) (w' : World) : Prop :=
  ∃ a1 c1 a2 c2 a3 c3, e = .returned (.agg (pgA P.leaf a1 P.ks.length c1 a2 P.ls.length c2 a3 P.ds.length c3)) ∧ OwnG w' 42 3 w.heap.size a1 P.ks.length c1 (cellsK P.ks) ∧ OwnG w' 66 2 w.heap.size a2 P.ls.length c2 (cellsL P.ls) ∧ OwnG w' 28 1 w.heap.size a3 P.ds.length c3 (cellsD P.ds) ∧ Below w.heap.size w w'
theorem kind_true (w : World) : Calls Tryd.prog 28 #[.bool true] w fun e w' => e = .returned (.int .u64 1) ∧ w = w' := kind_any true w
theorem Rp.start {w W : World} {r p g : Nat} {s : Nat × List Nat} {lf : Bool} (h1 : Blk W r 40 (pgA false none 0 0 none 0 0 none 0 0)) (h2 : RdS W p s.1 s.2) (h3 : Blk W g 40 (pgA lf none 0 0 none 0 0 none 0 0)) (h4 : w.heap.size ≤ r ∧ r < p ∧ p < g) (h5 : Below w.heap.size w W) : Rp w W r p g s lf [] [] [] none 0 0 none 0 0 none 0 0 :=
  ⟨h1, h2, h3, ownG_nil _ _ _ _, ownG_nil _ _ _ _, ownG_nil _ _ _ _, h4, h5⟩
theorem readP_of {w W : World} {r p g : Nat} {s : Nat × List Nat} {lf : Bool} {ks : List Ky} {ls : List Lo} {ds : List Kd} {a1 : Option Addr} {n1 c1 : Nat} {a2 : Option Addr} {n2 c2 : Nat} {a3 : Option Addr} {n3 c3 : Nat} {P : Pg} (h : Rp w W r p g s lf ks ls ds a1 n1 c1 a2 n2 c2 a3 n3 c3) (hP : P = ⟨lf, ks, ls, ds⟩) :
    ReadP P w (.returned (.agg (pgA lf a1 n1 c1 a2 n2 c2 a3 n3 c3))) (W.setRow r (pgA lf a1 n1 c1 a2 n2 c2 a3 n3 c3)) := by
  subst hP
  have hl := h.lt
  have h1 : ks.length = n1 := by have := h.ok.len; simpa [cellsK] using this
  have h2 : ls.length = n2 := by have := h.ol.len; simpa [cellsL] using this
  have h3 : ds.length = n3 := by have := h.od.len; simpa [cellsD] using this
  have hs := Kept.setRow W r (pgA lf a1 n1 c1 a2 n2 c2 a3 n3 c3)
  unfold ReadP
  simp only [h1, h2, h3]
  exact ⟨a1, c1, a2, c2, a3, c3, rfl, (h.ok.two hs (fun i ⟨ad, ha, e⟩ hh => by have := (h.ok.lt ad ha).1; omega)).mono (by omega), (h.ol.two hs (fun i ⟨ad, ha, e⟩ hh => by have := (h.ol.lt ad ha).1; omega)).mono (by omega), (h.od.two hs (fun i ⟨ad, ha, e⟩ hh => by have := (h.od.lt ad ha).1; omega)).mono (by omega), h.old.trans (hs.below h.old.size (fun i e => by omega))⟩

theorem exec_cv32 {ev : Operand → Value} {o : Oper} {w : World} {x : Operand} {n : Nat} (ho : o.op = .convert 72 28 x) (hx : ev x = .int .u64 (n : Int)) : (execOp ev o).run Tryd.prog w = .ok (.value (.int .u32 ((n % 4294967296 : Nat) : Int))) w := by
  have e : IntKind.u32.wrap (n : Int) = ((n % 4294967296 : Nat) : Int) := by rw [IntKind.wrap_u32]; omega
  unfold execOp
  simp only [ho, hx]
  simp [convert, e, go_sem]

set_option maxHeartbeats 8000000 in
set_option maxRecDepth 100000 in
theorem read_page (a : Option Addr) (len cap : Nat) (bs : List Nat) (w : World) (hl : len ≤ 1000000) (hR : Row w a len bs) (hz : a = none → len = 0 ∧ cap = 0) : Calls Tryd.prog 33 #[.slice a len cap] w (ReadP (rdPg bs) w) := by
  have HC := Lib.hid (fun w' hb => read_any a len cap bs w' hl (hR.below (w' := w') hb) hz)
  clear hR hz
  have HR0 : Hid (Blk (w.alloc (.cells #[.bool false, .slice none 0 0, .slice none 0 0, .slice none 0 0] 40)) w.heap.size 40 (pgA false none 0 0 none 0 0 none 0 0)) := Lib.hid (Blk.new w 40 _)
  have HB0 := Lib.hid (below_one w (.cells #[.bool false, .slice none 0 0, .slice none 0 0, .slice none 0 0] 40))
  go_enter Tryd.func33, Tryd.ntmps33
  go_upto_region 1 with fail
  try simp only [World.size_alloc, Act.put, List.setIfInBounds_toArray, List.set_cons_zero, List.set_cons_succ]
  generalize w.alloc (.cells #[.bool false, .slice none 0 0, .slice none 0 0, .slice none 0 0] 40) = w0 at HR0 HB0
  obtain ⟨r, hr⟩ : ∃ r, w.heap.size = r := ⟨_, rfl⟩
  have HRW : Hid (w.heap.size ≤ r) := Lib.hid (by omega)
  rw [hr] at HR0
  rw [hr]
  clear hr
  go_wp2_with fail
  refine (HC.out _ HB0.out).mono ?_
  rintro e w1 ⟨p, a', cap', rfl, hp, hrd, hb, _⟩
  have HS1 : Hid (RdS w1 p 0 bs) := Lib.hid ⟨_, _, _, hrd⟩
  have HR1 := Lib.hid (HR0.out.below hb)
  have HB1 := Lib.hid (HB0.out.trans (hb.mono HB0.out.size))
  have HRP : Hid (w.heap.size ≤ r ∧ r < p) := Lib.hid ⟨HRW.out, by have := HR0.out.lt; omega⟩
  clear hp hrd hb HC HR0 HB0 HRW
  go_wp2_with fail
  refine (number_nx (s := (0, bs)) HS1.out).mono ?_
  rintro e w2 ⟨rfl, hr, hk⟩
  have hx0 := nv_lt (s := (0, bs)) HS1.out
  have HS3 := Lib.hid hr
  have HR3 := Lib.hid (HR1.out.kept hk (by have := HRP.out.2; omega))
  have HB3 := Lib.hid (HB1.out.trans (hk.below HB1.out.size (fun i e => by have := HRP.out; omega)))
  have HPG : Hid (p < w2.heap.size) := Lib.hid hr.lt
  clear hr hk HS1 HR1 HB1
  obtain ⟨x0, hx⟩ : ∃ x0, nv (0, bs) = x0 := ⟨_, rfl⟩
  have HV : Hid (rdPg bs = (rdUpto (x0 == 1) (nx (nx (0, bs))) (min (nv (nx (0, bs))) 8)).1) := Lib.hid (by rw [← hx]; rfl)
  rw [hx] at hx0
  rw [hx]
  clear hx
  go_wp2_with fail
  refine (kind_true _).mono ?_
  rintro e w3 ⟨rfl, hw3⟩
  subst hw3
  by_cases h1 : x0 = 1
  · have q1 : ((x0 : Int) == 1) = true := by simp; omega
    have hq : (x0 == 1) = true := by simp; omega
    rw [hq] at HV
    clear hq h1
    have HX : Hid (Rp w (w2.alloc (.cells #[.bool true, .slice none 0 0, .slice none 0 0, .slice none 0 0] 40)) r p w2.heap.size (nx (0, bs)) true [] [] [] none 0 0 none 0 0 none 0 0) := Lib.hid (Rp.start (HR3.out.below (below_one _ _)) (HS3.out.keep (below_one _ _)) (Blk.new w2 40 _) ⟨HRP.out.1, HRP.out.2, HPG.out⟩ (HB3.out.trans ((below_one w2 _).mono HB3.out.size)))
    obtain ⟨x1, hx1⟩ : ∃ x1, nv (nx (0, bs)) = x1 := ⟨_, rfl⟩
    obtain ⟨m, hm⟩ : ∃ m, min x1 8 = m := ⟨_, rfl⟩
    have HMM := Lib.hid hm
    have hm8 : m ≤ 8 := by omega
    rw [hx1, hm] at HV
    have HX1 := Lib.hid hx1
    clear hx1 hm
    go_upto_region 3 with fail
    try simp only [Act.put, List.setIfInBounds_toArray, List.set_cons_zero, List.set_cons_succ]
    generalize w2.alloc (.cells #[.bool true, .slice none 0 0, .slice none 0 0, .slice none 0 0] 40) = w4 at HX ⊢
    generalize w2.heap.size = g at HX ⊢
    clear HR3 HS3 HPG HB3
    go_cut [14, 15] (fun c d wx => c = .int .u64 (m : Int) ∧ d = .int .u64 0 ∧ Hid (Rp w wx r p g (nx (nx (0, bs))) true [] [] [] none 0 0 none 0 0 none 0 0))
    case first =>
      have hx1 := nv_lt HX.out.rd
      rw [HX1.out] at hx1
      go_wp2_with fail
      refine (number_nx (s := nx (0, bs)) HX.out.rd).mono ?_
      rintro e w5 ⟨rfl, hr, hk⟩
      have HY := Lib.hid (HX.out.read hr hk)
      clear hr hk HX
      rw [HX1.out]
      go_wp2_with fail
      all_goals go_meet
      · exact ⟨congrArg (Value.int .u64) (by have := HMM.out; omega), rfl, HY⟩
      · exact ⟨congrArg (Value.int .u64) (by have := HMM.out; omega), rfl, HY⟩
    case rest =>
    obtain ⟨rfl, rfl, HY⟩ := hcut
    obtain ⟨S2, hS2⟩ : ∃ S2, nx (nx (0, bs)) = S2 := ⟨_, rfl⟩
    rw [hS2] at HY HV
    clear hS2 HX
    go_wp2_with fail
    go_loopw [15] (fun iv wr => ∃ (k : Nat) (ks : List Ky) (ls : List Lo) (ds : List Kd) (st : Nat × List Nat) (a1 : Option Addr) (n1 c1 : Nat) (a2 : Option Addr) (n2 c2 : Nat) (a3 : Option Addr) (n3 c3 : Nat), k ≤ m ∧ iv = .int .u64 (k : Int) ∧ n1 ≤ k ∧ n2 ≤ k ∧ n3 ≤ k ∧ Hid (rdUpto true S2 k = (⟨true, ks, ls, ds⟩, st)) ∧ Hid (Rp w wr r p g st true ks ls ds a1 n1 c1 a2 n2 c2 a3 n3 c3)) (fun iv _ => m - (numI iv).toNat)
    case atStart => exact ⟨0, [], [], [], S2, none, 0, 0, none, 0, 0, none, 0, 0, Nat.zero_le _, rfl, Nat.le_refl _, Nat.le_refl _, Nat.le_refl _, Lib.hid rfl, HY⟩
    case round =>
      obtain ⟨k, ks, ls, ds, st, a1, n1, c1, a2, n2, c2, a3, n3, c3, hk, rfl, hn1, hn2, hn3, HU, HX⟩ := hrel
      clear HY
      by_cases hlt : k < m
      · go_wp2_with fail
        refine wp_region_held_drew (S := fun _ => True) (by kernel_rfl) trivial (fun hS => ?_)
        have HD := Lib.hid (HX.out.below (drew_below _))
        refine held_take 0 17 (.pointer (some ⟨g, 1, none⟩)) rfl rfl (by kernel_rfl) (by kernel_rfl) (by kernel_rfl) (fun _ _ _ h => h) (by kernel_rfl) (fun _ _ => (by kernel_rfl)) hS ?_
        simp only [Act.put, List.setIfInBounds_toArray, List.set_cons_zero, List.set_cons_succ]
        refine held_take 2 19 (.pointer (some ⟨p, 0, none⟩)) rfl rfl (by kernel_rfl) (by kernel_rfl) (by kernel_rfl) (fun _ _ _ h => h) (by kernel_rfl) (fun _ _ => rfl) hS ?_
        simp only [Act.put, List.setIfInBounds_toArray, List.set_cons_zero, List.set_cons_succ]
        refine wpAnyH_ready (rs := [1, 3]) (by kernel_rfl) (by simp) (br_exec 1 18 (.slice a1 n1 c1) rfl rfl (by kernel_rfl) (exec_cell rfl rfl (load_cell (by kernel_rfl) HD.out.e1)) hS ?_ (br_callP 3 20 47 #[.pointer (some ⟨p, 0, none⟩)] rfl rfl (by kernel_rfl) (by kernel_rfl) (readKey_any HD.out.rd) (fun e w6 hP => ?_) AllReadyH.nil))
        · skip
          simp only [Act.put, List.setIfInBounds_toArray, List.set_cons_zero, List.set_cons_succ]
          refine held_callP 3 20 47 #[.pointer (some ⟨p, 0, none⟩)] rfl (by kernel_rfl) rfl (by kernel_rfl) (by kernel_rfl) (readKey_any HD.out.rd) (fun e w6 hP => ?_)
          obtain ⟨rfl, hr, hk⟩ := hP
          refine ⟨_, rfl, trivial, fun hS => ?_⟩
          have H6 := Lib.hid (HD.out.read hr hk)
          clear hr hk
          simp only [Act.put, List.setIfInBounds_toArray, List.set_cons_zero, List.set_cons_succ]
          refine held_exec 4 21 (.slice (some ⟨w6.heap.size, 0, none⟩) 1 1) rfl rfl (by kernel_rfl) (by kernel_rfl) (exec_bs42 (p := (rdKy st)) rfl rfl) trivial ?_
          simp only [Act.put, List.setIfInBounds_toArray, List.set_cons_zero, List.set_cons_succ]
          refine held_appendG 5 22 37 42 3 12 info42 und37 rfl (by decide) (by decide) rfl rfl (by kernel_rfl) (by kernel_rfl) rfl rfl rfl (H6.out.ok.below (below_one _ _)) (Blk.new w6 42 (rdKy st).arr) rfl (Ky.one_cs (rdKy st)) (by omega) (by have := H6.out.pg.lt; simp; omega) ?_
          intro a' c' w8 ho hk hl
          refine ⟨trivial, ?_⟩
          have H8 := Lib.hid ((H6.out.below (below_one w6 (.cells (rdKy st).arr 42))).add1 (x := (rdKy st)) ho hk)
          have HB8 := Lib.hid ((H6.out.below (below_one w6 (.cells (rdKy st).arr 42))).pg.kept hk (fun ⟨ad, ha, e⟩ => by have := (H6.out.ok.lt ad ha).1; omega))
          clear ho hk hl
          have hS : True := trivial
          simp only [Act.put, List.setIfInBounds_toArray, List.set_cons_zero, List.set_cons_succ]
          refine held_take 6 23 (.pointer (some ⟨g, 1, none⟩)) rfl rfl (by kernel_rfl) (by kernel_rfl) (by kernel_rfl) (fun _ _ _ h => h) (by kernel_rfl) (fun _ _ => (by kernel_rfl)) hS ?_
          simp only [Act.put, List.setIfInBounds_toArray, List.set_cons_zero, List.set_cons_succ]
          refine held_void 7 rfl rfl (by kernel_rfl) (by kernel_rfl) (exec_stSl_37 rfl rfl rfl HB8.out (by simp)) trivial ?_
          generalize w8.setCell ⟨g, 1, none⟩ (.slice a' (n1 + 1) c') = w9 at H8
          clear HB8 H6 HD hS
          refine wpAnyH_done (by kernel_rfl) ?_ _
          have k0 := H8.out.e0
          have HQ := H8
          clear H8
          go_wp2_with fail
          clear k0
          refine wp_region_held_drew (S := fun _ => True) (by kernel_rfl) trivial (fun hS => ?_)
          have HD := Lib.hid (HQ.out.below (drew_below _))
          refine held_take 0 26 (.pointer (some ⟨g, 2, none⟩)) rfl rfl (by kernel_rfl) (by kernel_rfl) (by kernel_rfl) (fun _ _ _ h => h) (by kernel_rfl) (fun _ _ => (by kernel_rfl)) hS ?_
          simp only [Act.put, List.setIfInBounds_toArray, List.set_cons_zero, List.set_cons_succ]
          refine held_take 2 28 (.pointer (some ⟨p, 0, none⟩)) rfl rfl (by kernel_rfl) (by kernel_rfl) (by kernel_rfl) (fun _ _ _ h => h) (by kernel_rfl) (fun _ _ => rfl) hS ?_
          simp only [Act.put, List.setIfInBounds_toArray, List.set_cons_zero, List.set_cons_succ]
          refine wpAnyH_ready (rs := [1, 3]) (by kernel_rfl) (by simp) (br_exec 1 27 (.slice a2 n2 c2) rfl rfl (by kernel_rfl) (exec_cell rfl rfl (load_cell (by kernel_rfl) HD.out.e2)) hS ?_ (br_callP 3 29 48 #[.pointer (some ⟨p, 0, none⟩)] rfl rfl (by kernel_rfl) (by kernel_rfl) (readLoc_any HD.out.rd) (fun e w6 hP => ?_) AllReadyH.nil))
          · skip
            simp only [Act.put, List.setIfInBounds_toArray, List.set_cons_zero, List.set_cons_succ]
            refine held_callP 3 29 48 #[.pointer (some ⟨p, 0, none⟩)] rfl (by kernel_rfl) rfl (by kernel_rfl) (by kernel_rfl) (readLoc_any HD.out.rd) (fun e w6 hP => ?_)
            obtain ⟨rfl, hr, hk⟩ := hP
            refine ⟨_, rfl, trivial, fun hS => ?_⟩
            have H6 := Lib.hid (HD.out.read hr hk)
            clear hr hk
            simp only [Act.put, List.setIfInBounds_toArray, List.set_cons_zero, List.set_cons_succ]
            refine held_exec 4 30 (.slice (some ⟨w6.heap.size, 0, none⟩) 1 1) rfl rfl (by kernel_rfl) (by kernel_rfl) (exec_bs66 (p := (rdLo (nx (nx (nx st))))) rfl rfl) trivial ?_
            simp only [Act.put, List.setIfInBounds_toArray, List.set_cons_zero, List.set_cons_succ]
            refine held_appendG 5 31 38 66 2 8 info66 und38 rfl (by decide) (by decide) rfl rfl (by kernel_rfl) (by kernel_rfl) rfl rfl rfl (H6.out.ol.below (below_one _ _)) (Blk.new w6 66 (rdLo (nx (nx (nx st)))).arr) rfl (Lo.one_cs (rdLo (nx (nx (nx st))))) (by omega) (by have := H6.out.pg.lt; simp; omega) ?_
            intro a' c' w8 ho hk hl
            refine ⟨trivial, ?_⟩
            have H8 := Lib.hid ((H6.out.below (below_one w6 (.cells (rdLo (nx (nx (nx st)))).arr 66))).add2 (x := (rdLo (nx (nx (nx st))))) ho hk)
            have HB8 := Lib.hid ((H6.out.below (below_one w6 (.cells (rdLo (nx (nx (nx st)))).arr 66))).pg.kept hk (fun ⟨ad, ha, e⟩ => by have := (H6.out.ol.lt ad ha).1; omega))
            clear ho hk hl
            have hS : True := trivial
            simp only [Act.put, List.setIfInBounds_toArray, List.set_cons_zero, List.set_cons_succ]
            refine held_take 6 32 (.pointer (some ⟨g, 2, none⟩)) rfl rfl (by kernel_rfl) (by kernel_rfl) (by kernel_rfl) (fun _ _ _ h => h) (by kernel_rfl) (fun _ _ => (by kernel_rfl)) hS ?_
            simp only [Act.put, List.setIfInBounds_toArray, List.set_cons_zero, List.set_cons_succ]
            refine held_void 7 rfl rfl (by kernel_rfl) (by kernel_rfl) (exec_stSl_38 rfl rfl rfl HB8.out (by simp)) trivial ?_
            generalize w8.setCell ⟨g, 2, none⟩ (.slice a' (n2 + 1) c') = w9 at H8
            clear HB8 H6 HD hS
            refine wpAnyH_done (by kernel_rfl) ?_ _
            have HU2 : Hid (rdUpto true S2 (k + 1) = (⟨true, ks ++ [rdKy st], ls ++ [rdLo (nx (nx (nx st)))], ds⟩, nx (nx (nx (nx (nx st)))))) := Lib.hid (by unfold rdUpto; rw [HU.out]; rfl)
            go_wp2_with fail
            go_roundw
            case rel => exact ⟨k + 1, _, _, _, _, _, _, _, _, _, _, _, _, _, by omega, by go_num, by omega, by omega, by omega, HU2, H8⟩
            case measure => simp [numI]; omega
          · skip
            obtain ⟨rfl, hr, hk⟩ := hP
            refine ⟨_, rfl, trivial, fun hS => ?_⟩
            have H6 := Lib.hid (HD.out.read hr hk)
            clear hr hk
            simp only [Act.put, List.setIfInBounds_toArray, List.set_cons_zero, List.set_cons_succ]
            refine wpAnyH_ready (rs := [1, 4]) (by kernel_rfl) (by simp) (br_exec 1 27 (.slice a2 n2 c2) rfl rfl (by kernel_rfl) (exec_cell rfl rfl (load_cell (by kernel_rfl) H6.out.e2)) hS ?_ (br_exec 4 30 (.slice (some ⟨w6.heap.size, 0, none⟩) 1 1) rfl rfl (by kernel_rfl) (exec_bs66 (p := (rdLo (nx (nx (nx st))))) rfl rfl) trivial ?_ AllReadyH.nil))
            · skip
              simp only [Act.put, List.setIfInBounds_toArray, List.set_cons_zero, List.set_cons_succ]
              refine held_exec 4 30 (.slice (some ⟨w6.heap.size, 0, none⟩) 1 1) rfl rfl (by kernel_rfl) (by kernel_rfl) (exec_bs66 (p := (rdLo (nx (nx (nx st))))) rfl rfl) trivial ?_
              simp only [Act.put, List.setIfInBounds_toArray, List.set_cons_zero, List.set_cons_succ]
              refine held_appendG 5 31 38 66 2 8 info66 und38 rfl (by decide) (by decide) rfl rfl (by kernel_rfl) (by kernel_rfl) rfl rfl rfl (H6.out.ol.below (below_one _ _)) (Blk.new w6 66 (rdLo (nx (nx (nx st)))).arr) rfl (Lo.one_cs (rdLo (nx (nx (nx st))))) (by omega) (by have := H6.out.pg.lt; simp; omega) ?_
              intro a' c' w8 ho hk hl
              refine ⟨trivial, ?_⟩
              have H8 := Lib.hid ((H6.out.below (below_one w6 (.cells (rdLo (nx (nx (nx st)))).arr 66))).add2 (x := (rdLo (nx (nx (nx st))))) ho hk)
              have HB8 := Lib.hid ((H6.out.below (below_one w6 (.cells (rdLo (nx (nx (nx st)))).arr 66))).pg.kept hk (fun ⟨ad, ha, e⟩ => by have := (H6.out.ol.lt ad ha).1; omega))
              clear ho hk hl
              have hS : True := trivial
              simp only [Act.put, List.setIfInBounds_toArray, List.set_cons_zero, List.set_cons_succ]
              refine held_take 6 32 (.pointer (some ⟨g, 2, none⟩)) rfl rfl (by kernel_rfl) (by kernel_rfl) (by kernel_rfl) (fun _ _ _ h => h) (by kernel_rfl) (fun _ _ => (by kernel_rfl)) hS ?_
              simp only [Act.put, List.setIfInBounds_toArray, List.set_cons_zero, List.set_cons_succ]
              refine held_void 7 rfl rfl (by kernel_rfl) (by kernel_rfl) (exec_stSl_38 rfl rfl rfl HB8.out (by simp)) trivial ?_
              generalize w8.setCell ⟨g, 2, none⟩ (.slice a' (n2 + 1) c') = w9 at H8
              clear HB8 H6 HD hS
              refine wpAnyH_done (by kernel_rfl) ?_ _
              have HU2 : Hid (rdUpto true S2 (k + 1) = (⟨true, ks ++ [rdKy st], ls ++ [rdLo (nx (nx (nx st)))], ds⟩, nx (nx (nx (nx (nx st)))))) := Lib.hid (by unfold rdUpto; rw [HU.out]; rfl)
              go_wp2_with fail
              go_roundw
              case rel => exact ⟨k + 1, _, _, _, _, _, _, _, _, _, _, _, _, _, by omega, by go_num, by omega, by omega, by omega, HU2, H8⟩
              case measure => simp [numI]; omega
            · skip
              simp only [Act.put, List.setIfInBounds_toArray, List.set_cons_zero, List.set_cons_succ]
              have H7 := Lib.hid (H6.out.below (below_one w6 (.cells (rdLo (nx (nx (nx st)))).arr 66)))
              refine held_exec 1 27 (.slice a2 n2 c2) rfl rfl (by kernel_rfl) (by kernel_rfl) (exec_cell rfl rfl (load_cell (by kernel_rfl) H7.out.e2)) trivial ?_
              simp only [Act.put, List.setIfInBounds_toArray, List.set_cons_zero, List.set_cons_succ]
              refine held_appendG 5 31 38 66 2 8 info66 und38 rfl (by decide) (by decide) rfl rfl (by kernel_rfl) (by kernel_rfl) rfl rfl rfl (H6.out.ol.below (below_one _ _)) (Blk.new w6 66 (rdLo (nx (nx (nx st)))).arr) rfl (Lo.one_cs (rdLo (nx (nx (nx st))))) (by omega) (by have := H6.out.pg.lt; simp; omega) ?_
              intro a' c' w8 ho hk hl
              refine ⟨trivial, ?_⟩
              have H8 := Lib.hid ((H6.out.below (below_one w6 (.cells (rdLo (nx (nx (nx st)))).arr 66))).add2 (x := (rdLo (nx (nx (nx st))))) ho hk)
              have HB8 := Lib.hid ((H6.out.below (below_one w6 (.cells (rdLo (nx (nx (nx st)))).arr 66))).pg.kept hk (fun ⟨ad, ha, e⟩ => by have := (H6.out.ol.lt ad ha).1; omega))
              clear ho hk hl
              have hS : True := trivial
              simp only [Act.put, List.setIfInBounds_toArray, List.set_cons_zero, List.set_cons_succ]
              refine held_take 6 32 (.pointer (some ⟨g, 2, none⟩)) rfl rfl (by kernel_rfl) (by kernel_rfl) (by kernel_rfl) (fun _ _ _ h => h) (by kernel_rfl) (fun _ _ => (by kernel_rfl)) hS ?_
              simp only [Act.put, List.setIfInBounds_toArray, List.set_cons_zero, List.set_cons_succ]
              refine held_void 7 rfl rfl (by kernel_rfl) (by kernel_rfl) (exec_stSl_38 rfl rfl rfl HB8.out (by simp)) trivial ?_
              generalize w8.setCell ⟨g, 2, none⟩ (.slice a' (n2 + 1) c') = w9 at H8
              clear HB8 H6 HD hS
              refine wpAnyH_done (by kernel_rfl) ?_ _
              have HU2 : Hid (rdUpto true S2 (k + 1) = (⟨true, ks ++ [rdKy st], ls ++ [rdLo (nx (nx (nx st)))], ds⟩, nx (nx (nx (nx (nx st)))))) := Lib.hid (by unfold rdUpto; rw [HU.out]; rfl)
              go_wp2_with fail
              go_roundw
              case rel => exact ⟨k + 1, _, _, _, _, _, _, _, _, _, _, _, _, _, by omega, by go_num, by omega, by omega, by omega, HU2, H8⟩
              case measure => simp [numI]; omega
        · skip
          obtain ⟨rfl, hr, hk⟩ := hP
          refine ⟨_, rfl, trivial, fun hS => ?_⟩
          have H6 := Lib.hid (HD.out.read hr hk)
          clear hr hk
          simp only [Act.put, List.setIfInBounds_toArray, List.set_cons_zero, List.set_cons_succ]
          refine wpAnyH_ready (rs := [1, 4]) (by kernel_rfl) (by simp) (br_exec 1 18 (.slice a1 n1 c1) rfl rfl (by kernel_rfl) (exec_cell rfl rfl (load_cell (by kernel_rfl) H6.out.e1)) hS ?_ (br_exec 4 21 (.slice (some ⟨w6.heap.size, 0, none⟩) 1 1) rfl rfl (by kernel_rfl) (exec_bs42 (p := (rdKy st)) rfl rfl) trivial ?_ AllReadyH.nil))
          · skip
            simp only [Act.put, List.setIfInBounds_toArray, List.set_cons_zero, List.set_cons_succ]
            refine held_exec 4 21 (.slice (some ⟨w6.heap.size, 0, none⟩) 1 1) rfl rfl (by kernel_rfl) (by kernel_rfl) (exec_bs42 (p := (rdKy st)) rfl rfl) trivial ?_
            simp only [Act.put, List.setIfInBounds_toArray, List.set_cons_zero, List.set_cons_succ]
            refine held_appendG 5 22 37 42 3 12 info42 und37 rfl (by decide) (by decide) rfl rfl (by kernel_rfl) (by kernel_rfl) rfl rfl rfl (H6.out.ok.below (below_one _ _)) (Blk.new w6 42 (rdKy st).arr) rfl (Ky.one_cs (rdKy st)) (by omega) (by have := H6.out.pg.lt; simp; omega) ?_
            intro a' c' w8 ho hk hl
            refine ⟨trivial, ?_⟩
            have H8 := Lib.hid ((H6.out.below (below_one w6 (.cells (rdKy st).arr 42))).add1 (x := (rdKy st)) ho hk)
            have HB8 := Lib.hid ((H6.out.below (below_one w6 (.cells (rdKy st).arr 42))).pg.kept hk (fun ⟨ad, ha, e⟩ => by have := (H6.out.ok.lt ad ha).1; omega))
            clear ho hk hl
            have hS : True := trivial
            simp only [Act.put, List.setIfInBounds_toArray, List.set_cons_zero, List.set_cons_succ]
            refine held_take 6 23 (.pointer (some ⟨g, 1, none⟩)) rfl rfl (by kernel_rfl) (by kernel_rfl) (by kernel_rfl) (fun _ _ _ h => h) (by kernel_rfl) (fun _ _ => (by kernel_rfl)) hS ?_
            simp only [Act.put, List.setIfInBounds_toArray, List.set_cons_zero, List.set_cons_succ]
            refine held_void 7 rfl rfl (by kernel_rfl) (by kernel_rfl) (exec_stSl_37 rfl rfl rfl HB8.out (by simp)) trivial ?_
            generalize w8.setCell ⟨g, 1, none⟩ (.slice a' (n1 + 1) c') = w9 at H8
            clear HB8 H6 HD hS
            refine wpAnyH_done (by kernel_rfl) ?_ _
            have k0 := H8.out.e0
            have HQ := H8
            clear H8
            go_wp2_with fail
            clear k0
            refine wp_region_held_drew (S := fun _ => True) (by kernel_rfl) trivial (fun hS => ?_)
            have HD := Lib.hid (HQ.out.below (drew_below _))
            refine held_take 0 26 (.pointer (some ⟨g, 2, none⟩)) rfl rfl (by kernel_rfl) (by kernel_rfl) (by kernel_rfl) (fun _ _ _ h => h) (by kernel_rfl) (fun _ _ => (by kernel_rfl)) hS ?_
            simp only [Act.put, List.setIfInBounds_toArray, List.set_cons_zero, List.set_cons_succ]
            refine held_take 2 28 (.pointer (some ⟨p, 0, none⟩)) rfl rfl (by kernel_rfl) (by kernel_rfl) (by kernel_rfl) (fun _ _ _ h => h) (by kernel_rfl) (fun _ _ => rfl) hS ?_
            simp only [Act.put, List.setIfInBounds_toArray, List.set_cons_zero, List.set_cons_succ]
            refine wpAnyH_ready (rs := [1, 3]) (by kernel_rfl) (by simp) (br_exec 1 27 (.slice a2 n2 c2) rfl rfl (by kernel_rfl) (exec_cell rfl rfl (load_cell (by kernel_rfl) HD.out.e2)) hS ?_ (br_callP 3 29 48 #[.pointer (some ⟨p, 0, none⟩)] rfl rfl (by kernel_rfl) (by kernel_rfl) (readLoc_any HD.out.rd) (fun e w6 hP => ?_) AllReadyH.nil))
            · skip
              simp only [Act.put, List.setIfInBounds_toArray, List.set_cons_zero, List.set_cons_succ]
              refine held_callP 3 29 48 #[.pointer (some ⟨p, 0, none⟩)] rfl (by kernel_rfl) rfl (by kernel_rfl) (by kernel_rfl) (readLoc_any HD.out.rd) (fun e w6 hP => ?_)
              obtain ⟨rfl, hr, hk⟩ := hP
              refine ⟨_, rfl, trivial, fun hS => ?_⟩
              have H6 := Lib.hid (HD.out.read hr hk)
              clear hr hk
              simp only [Act.put, List.setIfInBounds_toArray, List.set_cons_zero, List.set_cons_succ]
              refine held_exec 4 30 (.slice (some ⟨w6.heap.size, 0, none⟩) 1 1) rfl rfl (by kernel_rfl) (by kernel_rfl) (exec_bs66 (p := (rdLo (nx (nx (nx st))))) rfl rfl) trivial ?_
              simp only [Act.put, List.setIfInBounds_toArray, List.set_cons_zero, List.set_cons_succ]
              refine held_appendG 5 31 38 66 2 8 info66 und38 rfl (by decide) (by decide) rfl rfl (by kernel_rfl) (by kernel_rfl) rfl rfl rfl (H6.out.ol.below (below_one _ _)) (Blk.new w6 66 (rdLo (nx (nx (nx st)))).arr) rfl (Lo.one_cs (rdLo (nx (nx (nx st))))) (by omega) (by have := H6.out.pg.lt; simp; omega) ?_
              intro a' c' w8 ho hk hl
              refine ⟨trivial, ?_⟩
              have H8 := Lib.hid ((H6.out.below (below_one w6 (.cells (rdLo (nx (nx (nx st)))).arr 66))).add2 (x := (rdLo (nx (nx (nx st))))) ho hk)
              have HB8 := Lib.hid ((H6.out.below (below_one w6 (.cells (rdLo (nx (nx (nx st)))).arr 66))).pg.kept hk (fun ⟨ad, ha, e⟩ => by have := (H6.out.ol.lt ad ha).1; omega))
              clear ho hk hl
              have hS : True := trivial
              simp only [Act.put, List.setIfInBounds_toArray, List.set_cons_zero, List.set_cons_succ]
              refine held_take 6 32 (.pointer (some ⟨g, 2, none⟩)) rfl rfl (by kernel_rfl) (by kernel_rfl) (by kernel_rfl) (fun _ _ _ h => h) (by kernel_rfl) (fun _ _ => (by kernel_rfl)) hS ?_
              simp only [Act.put, List.setIfInBounds_toArray, List.set_cons_zero, List.set_cons_succ]
              refine held_void 7 rfl rfl (by kernel_rfl) (by kernel_rfl) (exec_stSl_38 rfl rfl rfl HB8.out (by simp)) trivial ?_
              generalize w8.setCell ⟨g, 2, none⟩ (.slice a' (n2 + 1) c') = w9 at H8
              clear HB8 H6 HD hS
              refine wpAnyH_done (by kernel_rfl) ?_ _
              have HU2 : Hid (rdUpto true S2 (k + 1) = (⟨true, ks ++ [rdKy st], ls ++ [rdLo (nx (nx (nx st)))], ds⟩, nx (nx (nx (nx (nx st)))))) := Lib.hid (by unfold rdUpto; rw [HU.out]; rfl)
              go_wp2_with fail
              go_roundw
              case rel => exact ⟨k + 1, _, _, _, _, _, _, _, _, _, _, _, _, _, by omega, by go_num, by omega, by omega, by omega, HU2, H8⟩
              case measure => simp [numI]; omega
            · skip
              obtain ⟨rfl, hr, hk⟩ := hP
              refine ⟨_, rfl, trivial, fun hS => ?_⟩
              have H6 := Lib.hid (HD.out.read hr hk)
              clear hr hk
              simp only [Act.put, List.setIfInBounds_toArray, List.set_cons_zero, List.set_cons_succ]
              refine wpAnyH_ready (rs := [1, 4]) (by kernel_rfl) (by simp) (br_exec 1 27 (.slice a2 n2 c2) rfl rfl (by kernel_rfl) (exec_cell rfl rfl (load_cell (by kernel_rfl) H6.out.e2)) hS ?_ (br_exec 4 30 (.slice (some ⟨w6.heap.size, 0, none⟩) 1 1) rfl rfl (by kernel_rfl) (exec_bs66 (p := (rdLo (nx (nx (nx st))))) rfl rfl) trivial ?_ AllReadyH.nil))
              · skip
                simp only [Act.put, List.setIfInBounds_toArray, List.set_cons_zero, List.set_cons_succ]
                refine held_exec 4 30 (.slice (some ⟨w6.heap.size, 0, none⟩) 1 1) rfl rfl (by kernel_rfl) (by kernel_rfl) (exec_bs66 (p := (rdLo (nx (nx (nx st))))) rfl rfl) trivial ?_
                simp only [Act.put, List.setIfInBounds_toArray, List.set_cons_zero, List.set_cons_succ]
                refine held_appendG 5 31 38 66 2 8 info66 und38 rfl (by decide) (by decide) rfl rfl (by kernel_rfl) (by kernel_rfl) rfl rfl rfl (H6.out.ol.below (below_one _ _)) (Blk.new w6 66 (rdLo (nx (nx (nx st)))).arr) rfl (Lo.one_cs (rdLo (nx (nx (nx st))))) (by omega) (by have := H6.out.pg.lt; simp; omega) ?_
                intro a' c' w8 ho hk hl
                refine ⟨trivial, ?_⟩
                have H8 := Lib.hid ((H6.out.below (below_one w6 (.cells (rdLo (nx (nx (nx st)))).arr 66))).add2 (x := (rdLo (nx (nx (nx st))))) ho hk)
                have HB8 := Lib.hid ((H6.out.below (below_one w6 (.cells (rdLo (nx (nx (nx st)))).arr 66))).pg.kept hk (fun ⟨ad, ha, e⟩ => by have := (H6.out.ol.lt ad ha).1; omega))
                clear ho hk hl
                have hS : True := trivial
                simp only [Act.put, List.setIfInBounds_toArray, List.set_cons_zero, List.set_cons_succ]
                refine held_take 6 32 (.pointer (some ⟨g, 2, none⟩)) rfl rfl (by kernel_rfl) (by kernel_rfl) (by kernel_rfl) (fun _ _ _ h => h) (by kernel_rfl) (fun _ _ => (by kernel_rfl)) hS ?_
                simp only [Act.put, List.setIfInBounds_toArray, List.set_cons_zero, List.set_cons_succ]
                refine held_void 7 rfl rfl (by kernel_rfl) (by kernel_rfl) (exec_stSl_38 rfl rfl rfl HB8.out (by simp)) trivial ?_
                generalize w8.setCell ⟨g, 2, none⟩ (.slice a' (n2 + 1) c') = w9 at H8
                clear HB8 H6 HD hS
                refine wpAnyH_done (by kernel_rfl) ?_ _
                have HU2 : Hid (rdUpto true S2 (k + 1) = (⟨true, ks ++ [rdKy st], ls ++ [rdLo (nx (nx (nx st)))], ds⟩, nx (nx (nx (nx (nx st)))))) := Lib.hid (by unfold rdUpto; rw [HU.out]; rfl)
                go_wp2_with fail
                go_roundw
                case rel => exact ⟨k + 1, _, _, _, _, _, _, _, _, _, _, _, _, _, by omega, by go_num, by omega, by omega, by omega, HU2, H8⟩
                case measure => simp [numI]; omega
              · skip
                simp only [Act.put, List.setIfInBounds_toArray, List.set_cons_zero, List.set_cons_succ]
                have H7 := Lib.hid (H6.out.below (below_one w6 (.cells (rdLo (nx (nx (nx st)))).arr 66)))
                refine held_exec 1 27 (.slice a2 n2 c2) rfl rfl (by kernel_rfl) (by kernel_rfl) (exec_cell rfl rfl (load_cell (by kernel_rfl) H7.out.e2)) trivial ?_
                simp only [Act.put, List.setIfInBounds_toArray, List.set_cons_zero, List.set_cons_succ]
                refine held_appendG 5 31 38 66 2 8 info66 und38 rfl (by decide) (by decide) rfl rfl (by kernel_rfl) (by kernel_rfl) rfl rfl rfl (H6.out.ol.below (below_one _ _)) (Blk.new w6 66 (rdLo (nx (nx (nx st)))).arr) rfl (Lo.one_cs (rdLo (nx (nx (nx st))))) (by omega) (by have := H6.out.pg.lt; simp; omega) ?_
                intro a' c' w8 ho hk hl
                refine ⟨trivial, ?_⟩
                have H8 := Lib.hid ((H6.out.below (below_one w6 (.cells (rdLo (nx (nx (nx st)))).arr 66))).add2 (x := (rdLo (nx (nx (nx st))))) ho hk)
                have HB8 := Lib.hid ((H6.out.below (below_one w6 (.cells (rdLo (nx (nx (nx st)))).arr 66))).pg.kept hk (fun ⟨ad, ha, e⟩ => by have := (H6.out.ol.lt ad ha).1; omega))
                clear ho hk hl
                have hS : True := trivial
                simp only [Act.put, List.setIfInBounds_toArray, List.set_cons_zero, List.set_cons_succ]
                refine held_take 6 32 (.pointer (some ⟨g, 2, none⟩)) rfl rfl (by kernel_rfl) (by kernel_rfl) (by kernel_rfl) (fun _ _ _ h => h) (by kernel_rfl) (fun _ _ => (by kernel_rfl)) hS ?_
                simp only [Act.put, List.setIfInBounds_toArray, List.set_cons_zero, List.set_cons_succ]
                refine held_void 7 rfl rfl (by kernel_rfl) (by kernel_rfl) (exec_stSl_38 rfl rfl rfl HB8.out (by simp)) trivial ?_
                generalize w8.setCell ⟨g, 2, none⟩ (.slice a' (n2 + 1) c') = w9 at H8
                clear HB8 H6 HD hS
                refine wpAnyH_done (by kernel_rfl) ?_ _
                have HU2 : Hid (rdUpto true S2 (k + 1) = (⟨true, ks ++ [rdKy st], ls ++ [rdLo (nx (nx (nx st)))], ds⟩, nx (nx (nx (nx (nx st)))))) := Lib.hid (by unfold rdUpto; rw [HU.out]; rfl)
                go_wp2_with fail
                go_roundw
                case rel => exact ⟨k + 1, _, _, _, _, _, _, _, _, _, _, _, _, _, by omega, by go_num, by omega, by omega, by omega, HU2, H8⟩
                case measure => simp [numI]; omega
          · skip
            simp only [Act.put, List.setIfInBounds_toArray, List.set_cons_zero, List.set_cons_succ]
            have H7 := Lib.hid (H6.out.below (below_one w6 (.cells (rdKy st).arr 42)))
            refine held_exec 1 18 (.slice a1 n1 c1) rfl rfl (by kernel_rfl) (by kernel_rfl) (exec_cell rfl rfl (load_cell (by kernel_rfl) H7.out.e1)) trivial ?_
            simp only [Act.put, List.setIfInBounds_toArray, List.set_cons_zero, List.set_cons_succ]
            refine held_appendG 5 22 37 42 3 12 info42 und37 rfl (by decide) (by decide) rfl rfl (by kernel_rfl) (by kernel_rfl) rfl rfl rfl (H6.out.ok.below (below_one _ _)) (Blk.new w6 42 (rdKy st).arr) rfl (Ky.one_cs (rdKy st)) (by omega) (by have := H6.out.pg.lt; simp; omega) ?_
            intro a' c' w8 ho hk hl
            refine ⟨trivial, ?_⟩
            have H8 := Lib.hid ((H6.out.below (below_one w6 (.cells (rdKy st).arr 42))).add1 (x := (rdKy st)) ho hk)
            have HB8 := Lib.hid ((H6.out.below (below_one w6 (.cells (rdKy st).arr 42))).pg.kept hk (fun ⟨ad, ha, e⟩ => by have := (H6.out.ok.lt ad ha).1; omega))
            clear ho hk hl
            have hS : True := trivial
            simp only [Act.put, List.setIfInBounds_toArray, List.set_cons_zero, List.set_cons_succ]
            refine held_take 6 23 (.pointer (some ⟨g, 1, none⟩)) rfl rfl (by kernel_rfl) (by kernel_rfl) (by kernel_rfl) (fun _ _ _ h => h) (by kernel_rfl) (fun _ _ => (by kernel_rfl)) hS ?_
            simp only [Act.put, List.setIfInBounds_toArray, List.set_cons_zero, List.set_cons_succ]
            refine held_void 7 rfl rfl (by kernel_rfl) (by kernel_rfl) (exec_stSl_37 rfl rfl rfl HB8.out (by simp)) trivial ?_
            generalize w8.setCell ⟨g, 1, none⟩ (.slice a' (n1 + 1) c') = w9 at H8
            clear HB8 H6 HD hS
            refine wpAnyH_done (by kernel_rfl) ?_ _
            have k0 := H8.out.e0
            have HQ := H8
            clear H8
            go_wp2_with fail
            clear k0
            refine wp_region_held_drew (S := fun _ => True) (by kernel_rfl) trivial (fun hS => ?_)
            have HD := Lib.hid (HQ.out.below (drew_below _))
            refine held_take 0 26 (.pointer (some ⟨g, 2, none⟩)) rfl rfl (by kernel_rfl) (by kernel_rfl) (by kernel_rfl) (fun _ _ _ h => h) (by kernel_rfl) (fun _ _ => (by kernel_rfl)) hS ?_
            simp only [Act.put, List.setIfInBounds_toArray, List.set_cons_zero, List.set_cons_succ]
            refine held_take 2 28 (.pointer (some ⟨p, 0, none⟩)) rfl rfl (by kernel_rfl) (by kernel_rfl) (by kernel_rfl) (fun _ _ _ h => h) (by kernel_rfl) (fun _ _ => rfl) hS ?_
            simp only [Act.put, List.setIfInBounds_toArray, List.set_cons_zero, List.set_cons_succ]
            refine wpAnyH_ready (rs := [1, 3]) (by kernel_rfl) (by simp) (br_exec 1 27 (.slice a2 n2 c2) rfl rfl (by kernel_rfl) (exec_cell rfl rfl (load_cell (by kernel_rfl) HD.out.e2)) hS ?_ (br_callP 3 29 48 #[.pointer (some ⟨p, 0, none⟩)] rfl rfl (by kernel_rfl) (by kernel_rfl) (readLoc_any HD.out.rd) (fun e w6 hP => ?_) AllReadyH.nil))
            · skip
              simp only [Act.put, List.setIfInBounds_toArray, List.set_cons_zero, List.set_cons_succ]
              refine held_callP 3 29 48 #[.pointer (some ⟨p, 0, none⟩)] rfl (by kernel_rfl) rfl (by kernel_rfl) (by kernel_rfl) (readLoc_any HD.out.rd) (fun e w6 hP => ?_)
              obtain ⟨rfl, hr, hk⟩ := hP
              refine ⟨_, rfl, trivial, fun hS => ?_⟩
              have H6 := Lib.hid (HD.out.read hr hk)
              clear hr hk
              simp only [Act.put, List.setIfInBounds_toArray, List.set_cons_zero, List.set_cons_succ]
              refine held_exec 4 30 (.slice (some ⟨w6.heap.size, 0, none⟩) 1 1) rfl rfl (by kernel_rfl) (by kernel_rfl) (exec_bs66 (p := (rdLo (nx (nx (nx st))))) rfl rfl) trivial ?_
              simp only [Act.put, List.setIfInBounds_toArray, List.set_cons_zero, List.set_cons_succ]
              refine held_appendG 5 31 38 66 2 8 info66 und38 rfl (by decide) (by decide) rfl rfl (by kernel_rfl) (by kernel_rfl) rfl rfl rfl (H6.out.ol.below (below_one _ _)) (Blk.new w6 66 (rdLo (nx (nx (nx st)))).arr) rfl (Lo.one_cs (rdLo (nx (nx (nx st))))) (by omega) (by have := H6.out.pg.lt; simp; omega) ?_
              intro a' c' w8 ho hk hl
              refine ⟨trivial, ?_⟩
              have H8 := Lib.hid ((H6.out.below (below_one w6 (.cells (rdLo (nx (nx (nx st)))).arr 66))).add2 (x := (rdLo (nx (nx (nx st))))) ho hk)
              have HB8 := Lib.hid ((H6.out.below (below_one w6 (.cells (rdLo (nx (nx (nx st)))).arr 66))).pg.kept hk (fun ⟨ad, ha, e⟩ => by have := (H6.out.ol.lt ad ha).1; omega))
              clear ho hk hl
              have hS : True := trivial
              simp only [Act.put, List.setIfInBounds_toArray, List.set_cons_zero, List.set_cons_succ]
              refine held_take 6 32 (.pointer (some ⟨g, 2, none⟩)) rfl rfl (by kernel_rfl) (by kernel_rfl) (by kernel_rfl) (fun _ _ _ h => h) (by kernel_rfl) (fun _ _ => (by kernel_rfl)) hS ?_
              simp only [Act.put, List.setIfInBounds_toArray, List.set_cons_zero, List.set_cons_succ]
              refine held_void 7 rfl rfl (by kernel_rfl) (by kernel_rfl) (exec_stSl_38 rfl rfl rfl HB8.out (by simp)) trivial ?_
              generalize w8.setCell ⟨g, 2, none⟩ (.slice a' (n2 + 1) c') = w9 at H8
              clear HB8 H6 HD hS
              refine wpAnyH_done (by kernel_rfl) ?_ _
              have HU2 : Hid (rdUpto true S2 (k + 1) = (⟨true, ks ++ [rdKy st], ls ++ [rdLo (nx (nx (nx st)))], ds⟩, nx (nx (nx (nx (nx st)))))) := Lib.hid (by unfold rdUpto; rw [HU.out]; rfl)
              go_wp2_with fail
              go_roundw
              case rel => exact ⟨k + 1, _, _, _, _, _, _, _, _, _, _, _, _, _, by omega, by go_num, by omega, by omega, by omega, HU2, H8⟩
              case measure => simp [numI]; omega
            · skip
              obtain ⟨rfl, hr, hk⟩ := hP
              refine ⟨_, rfl, trivial, fun hS => ?_⟩
              have H6 := Lib.hid (HD.out.read hr hk)
              clear hr hk
              simp only [Act.put, List.setIfInBounds_toArray, List.set_cons_zero, List.set_cons_succ]
              refine wpAnyH_ready (rs := [1, 4]) (by kernel_rfl) (by simp) (br_exec 1 27 (.slice a2 n2 c2) rfl rfl (by kernel_rfl) (exec_cell rfl rfl (load_cell (by kernel_rfl) H6.out.e2)) hS ?_ (br_exec 4 30 (.slice (some ⟨w6.heap.size, 0, none⟩) 1 1) rfl rfl (by kernel_rfl) (exec_bs66 (p := (rdLo (nx (nx (nx st))))) rfl rfl) trivial ?_ AllReadyH.nil))
              · skip
                simp only [Act.put, List.setIfInBounds_toArray, List.set_cons_zero, List.set_cons_succ]
                refine held_exec 4 30 (.slice (some ⟨w6.heap.size, 0, none⟩) 1 1) rfl rfl (by kernel_rfl) (by kernel_rfl) (exec_bs66 (p := (rdLo (nx (nx (nx st))))) rfl rfl) trivial ?_
                simp only [Act.put, List.setIfInBounds_toArray, List.set_cons_zero, List.set_cons_succ]
                refine held_appendG 5 31 38 66 2 8 info66 und38 rfl (by decide) (by decide) rfl rfl (by kernel_rfl) (by kernel_rfl) rfl rfl rfl (H6.out.ol.below (below_one _ _)) (Blk.new w6 66 (rdLo (nx (nx (nx st)))).arr) rfl (Lo.one_cs (rdLo (nx (nx (nx st))))) (by omega) (by have := H6.out.pg.lt; simp; omega) ?_
                intro a' c' w8 ho hk hl
                refine ⟨trivial, ?_⟩
                have H8 := Lib.hid ((H6.out.below (below_one w6 (.cells (rdLo (nx (nx (nx st)))).arr 66))).add2 (x := (rdLo (nx (nx (nx st))))) ho hk)
                have HB8 := Lib.hid ((H6.out.below (below_one w6 (.cells (rdLo (nx (nx (nx st)))).arr 66))).pg.kept hk (fun ⟨ad, ha, e⟩ => by have := (H6.out.ol.lt ad ha).1; omega))
                clear ho hk hl
                have hS : True := trivial
                simp only [Act.put, List.setIfInBounds_toArray, List.set_cons_zero, List.set_cons_succ]
                refine held_take 6 32 (.pointer (some ⟨g, 2, none⟩)) rfl rfl (by kernel_rfl) (by kernel_rfl) (by kernel_rfl) (fun _ _ _ h => h) (by kernel_rfl) (fun _ _ => (by kernel_rfl)) hS ?_
                simp only [Act.put, List.setIfInBounds_toArray, List.set_cons_zero, List.set_cons_succ]
                refine held_void 7 rfl rfl (by kernel_rfl) (by kernel_rfl) (exec_stSl_38 rfl rfl rfl HB8.out (by simp)) trivial ?_
                generalize w8.setCell ⟨g, 2, none⟩ (.slice a' (n2 + 1) c') = w9 at H8
                clear HB8 H6 HD hS
                refine wpAnyH_done (by kernel_rfl) ?_ _
                have HU2 : Hid (rdUpto true S2 (k + 1) = (⟨true, ks ++ [rdKy st], ls ++ [rdLo (nx (nx (nx st)))], ds⟩, nx (nx (nx (nx (nx st)))))) := Lib.hid (by unfold rdUpto; rw [HU.out]; rfl)
                go_wp2_with fail
                go_roundw
                case rel => exact ⟨k + 1, _, _, _, _, _, _, _, _, _, _, _, _, _, by omega, by go_num, by omega, by omega, by omega, HU2, H8⟩
                case measure => simp [numI]; omega
              · skip
                simp only [Act.put, List.setIfInBounds_toArray, List.set_cons_zero, List.set_cons_succ]
                have H7 := Lib.hid (H6.out.below (below_one w6 (.cells (rdLo (nx (nx (nx st)))).arr 66)))
                refine held_exec 1 27 (.slice a2 n2 c2) rfl rfl (by kernel_rfl) (by kernel_rfl) (exec_cell rfl rfl (load_cell (by kernel_rfl) H7.out.e2)) trivial ?_
                simp only [Act.put, List.setIfInBounds_toArray, List.set_cons_zero, List.set_cons_succ]
                refine held_appendG 5 31 38 66 2 8 info66 und38 rfl (by decide) (by decide) rfl rfl (by kernel_rfl) (by kernel_rfl) rfl rfl rfl (H6.out.ol.below (below_one _ _)) (Blk.new w6 66 (rdLo (nx (nx (nx st)))).arr) rfl (Lo.one_cs (rdLo (nx (nx (nx st))))) (by omega) (by have := H6.out.pg.lt; simp; omega) ?_
                intro a' c' w8 ho hk hl
                refine ⟨trivial, ?_⟩
                have H8 := Lib.hid ((H6.out.below (below_one w6 (.cells (rdLo (nx (nx (nx st)))).arr 66))).add2 (x := (rdLo (nx (nx (nx st))))) ho hk)
                have HB8 := Lib.hid ((H6.out.below (below_one w6 (.cells (rdLo (nx (nx (nx st)))).arr 66))).pg.kept hk (fun ⟨ad, ha, e⟩ => by have := (H6.out.ol.lt ad ha).1; omega))
                clear ho hk hl
                have hS : True := trivial
                simp only [Act.put, List.setIfInBounds_toArray, List.set_cons_zero, List.set_cons_succ]
                refine held_take 6 32 (.pointer (some ⟨g, 2, none⟩)) rfl rfl (by kernel_rfl) (by kernel_rfl) (by kernel_rfl) (fun _ _ _ h => h) (by kernel_rfl) (fun _ _ => (by kernel_rfl)) hS ?_
                simp only [Act.put, List.setIfInBounds_toArray, List.set_cons_zero, List.set_cons_succ]
                refine held_void 7 rfl rfl (by kernel_rfl) (by kernel_rfl) (exec_stSl_38 rfl rfl rfl HB8.out (by simp)) trivial ?_
                generalize w8.setCell ⟨g, 2, none⟩ (.slice a' (n2 + 1) c') = w9 at H8
                clear HB8 H6 HD hS
                refine wpAnyH_done (by kernel_rfl) ?_ _
                have HU2 : Hid (rdUpto true S2 (k + 1) = (⟨true, ks ++ [rdKy st], ls ++ [rdLo (nx (nx (nx st)))], ds⟩, nx (nx (nx (nx (nx st)))))) := Lib.hid (by unfold rdUpto; rw [HU.out]; rfl)
                go_wp2_with fail
                go_roundw
                case rel => exact ⟨k + 1, _, _, _, _, _, _, _, _, _, _, _, _, _, by omega, by go_num, by omega, by omega, by omega, HU2, H8⟩
                case measure => simp [numI]; omega
      · obtain rfl : k = m := by omega
        have HPG2 : Hid (rdPg bs = ⟨true, ks, ls, ds⟩) := Lib.hid (by rw [HV.out, HU.out])
        have HE := Lib.hid (readP_of HX.out HPG2.out)
        have HRR := Lib.hid HX.out.res
        have HBL := Lib.hid (HX.out.res.row (ds := pgA true a1 n1 c1 a2 n2 c2 a3 n3 c3))
        go_wp2_with (first | (refine wpList_run rfl (exec_load40 rfl rfl HX.out.pg) ?_) | (refine wpList_stop40 rfl ?_))
        refine ⟨?_⟩
        refine wpList_void rfl rfl (exec_store40 rfl rfl rfl HRR.out) ?_
        generalize wr.setRow r (pgA true a1 n1 c1 a2 n2 c2 a3 n3 c3) = w9 at HE HBL
        go_wp2_with fail
        exact bodyPost_ret (v := .agg (pgA true a1 n1 c1 a2 n2 c2 a3 n3 c3)) (retC Tryd.results33 rfl (loadVar40 HBL.out)) rfl HE.out
  · have q1 : ((x0 : Int) == 1) = false := by simp; omega
    have hq : (x0 == 1) = false := by simp; omega
    rw [hq] at HV
    clear hq h1
    have HX : Hid (Rp w (w2.alloc (.cells #[.bool false, .slice none 0 0, .slice none 0 0, .slice none 0 0] 40)) r p w2.heap.size (nx (0, bs)) false [] [] [] none 0 0 none 0 0 none 0 0) := Lib.hid (Rp.start (HR3.out.below (below_one _ _)) (HS3.out.keep (below_one _ _)) (Blk.new w2 40 _) ⟨HRP.out.1, HRP.out.2, HPG.out⟩ (HB3.out.trans ((below_one w2 _).mono HB3.out.size)))
    obtain ⟨x1, hx1⟩ : ∃ x1, nv (nx (0, bs)) = x1 := ⟨_, rfl⟩
    obtain ⟨m, hm⟩ : ∃ m, min x1 8 = m := ⟨_, rfl⟩
    have HMM := Lib.hid hm
    have hm8 : m ≤ 8 := by omega
    rw [hx1, hm] at HV
    have HX1 := Lib.hid hx1
    clear hx1 hm
    go_upto_region 3 with fail
    try simp only [Act.put, List.setIfInBounds_toArray, List.set_cons_zero, List.set_cons_succ]
    generalize w2.alloc (.cells #[.bool false, .slice none 0 0, .slice none 0 0, .slice none 0 0] 40) = w4 at HX ⊢
    generalize w2.heap.size = g at HX ⊢
    clear HR3 HS3 HPG HB3
    go_cut [14, 15] (fun c d wx => c = .int .u64 (m : Int) ∧ d = .int .u64 0 ∧ Hid (Rp w wx r p g (nx (nx (0, bs))) false [] [] [] none 0 0 none 0 0 none 0 0))
    case first =>
      have hx1 := nv_lt HX.out.rd
      rw [HX1.out] at hx1
      go_wp2_with fail
      refine (number_nx (s := nx (0, bs)) HX.out.rd).mono ?_
      rintro e w5 ⟨rfl, hr, hk⟩
      have HY := Lib.hid (HX.out.read hr hk)
      clear hr hk HX
      rw [HX1.out]
      go_wp2_with fail
      all_goals go_meet
      · exact ⟨congrArg (Value.int .u64) (by have := HMM.out; omega), rfl, HY⟩
      · exact ⟨congrArg (Value.int .u64) (by have := HMM.out; omega), rfl, HY⟩
    case rest =>
    obtain ⟨rfl, rfl, HY⟩ := hcut
    obtain ⟨S2, hS2⟩ : ∃ S2, nx (nx (0, bs)) = S2 := ⟨_, rfl⟩
    rw [hS2] at HY HV
    clear hS2 HX
    go_wp2_with fail
    go_loopw [15] (fun iv wr => ∃ (k : Nat) (ks : List Ky) (ls : List Lo) (ds : List Kd) (st : Nat × List Nat) (a1 : Option Addr) (n1 c1 : Nat) (a2 : Option Addr) (n2 c2 : Nat) (a3 : Option Addr) (n3 c3 : Nat), k ≤ m ∧ iv = .int .u64 (k : Int) ∧ n1 ≤ k ∧ n2 ≤ k ∧ n3 ≤ k ∧ Hid (rdUpto false S2 k = (⟨false, ks, ls, ds⟩, st)) ∧ Hid (Rp w wr r p g st false ks ls ds a1 n1 c1 a2 n2 c2 a3 n3 c3)) (fun iv _ => m - (numI iv).toNat)
    case atStart => exact ⟨0, [], [], [], S2, none, 0, 0, none, 0, 0, none, 0, 0, Nat.zero_le _, rfl, Nat.le_refl _, Nat.le_refl _, Nat.le_refl _, Lib.hid rfl, HY⟩
    case round =>
      obtain ⟨k, ks, ls, ds, st, a1, n1, c1, a2, n2, c2, a3, n3, c3, hk, rfl, hn1, hn2, hn3, HU, HX⟩ := hrel
      clear HY
      by_cases hlt : k < m
      · go_wp2_with fail
        refine wp_region_held_drew (S := fun _ => True) (by kernel_rfl) trivial (fun hS => ?_)
        have HD := Lib.hid (HX.out.below (drew_below _))
        refine held_take 0 17 (.pointer (some ⟨g, 1, none⟩)) rfl rfl (by kernel_rfl) (by kernel_rfl) (by kernel_rfl) (fun _ _ _ h => h) (by kernel_rfl) (fun _ _ => (by kernel_rfl)) hS ?_
        simp only [Act.put, List.setIfInBounds_toArray, List.set_cons_zero, List.set_cons_succ]
        refine held_take 2 19 (.pointer (some ⟨p, 0, none⟩)) rfl rfl (by kernel_rfl) (by kernel_rfl) (by kernel_rfl) (fun _ _ _ h => h) (by kernel_rfl) (fun _ _ => rfl) hS ?_
        simp only [Act.put, List.setIfInBounds_toArray, List.set_cons_zero, List.set_cons_succ]
        refine wpAnyH_ready (rs := [1, 3]) (by kernel_rfl) (by simp) (br_exec 1 18 (.slice a1 n1 c1) rfl rfl (by kernel_rfl) (exec_cell rfl rfl (load_cell (by kernel_rfl) HD.out.e1)) hS ?_ (br_callP 3 20 47 #[.pointer (some ⟨p, 0, none⟩)] rfl rfl (by kernel_rfl) (by kernel_rfl) (readKey_any HD.out.rd) (fun e w6 hP => ?_) AllReadyH.nil))
        · skip
          simp only [Act.put, List.setIfInBounds_toArray, List.set_cons_zero, List.set_cons_succ]
          refine held_callP 3 20 47 #[.pointer (some ⟨p, 0, none⟩)] rfl (by kernel_rfl) rfl (by kernel_rfl) (by kernel_rfl) (readKey_any HD.out.rd) (fun e w6 hP => ?_)
          obtain ⟨rfl, hr, hk⟩ := hP
          refine ⟨_, rfl, trivial, fun hS => ?_⟩
          have H6 := Lib.hid (HD.out.read hr hk)
          clear hr hk
          simp only [Act.put, List.setIfInBounds_toArray, List.set_cons_zero, List.set_cons_succ]
          refine held_exec 4 21 (.slice (some ⟨w6.heap.size, 0, none⟩) 1 1) rfl rfl (by kernel_rfl) (by kernel_rfl) (exec_bs42 (p := (rdKy st)) rfl rfl) trivial ?_
          simp only [Act.put, List.setIfInBounds_toArray, List.set_cons_zero, List.set_cons_succ]
          refine held_appendG 5 22 37 42 3 12 info42 und37 rfl (by decide) (by decide) rfl rfl (by kernel_rfl) (by kernel_rfl) rfl rfl rfl (H6.out.ok.below (below_one _ _)) (Blk.new w6 42 (rdKy st).arr) rfl (Ky.one_cs (rdKy st)) (by omega) (by have := H6.out.pg.lt; simp; omega) ?_
          intro a' c' w8 ho hk hl
          refine ⟨trivial, ?_⟩
          have H8 := Lib.hid ((H6.out.below (below_one w6 (.cells (rdKy st).arr 42))).add1 (x := (rdKy st)) ho hk)
          have HB8 := Lib.hid ((H6.out.below (below_one w6 (.cells (rdKy st).arr 42))).pg.kept hk (fun ⟨ad, ha, e⟩ => by have := (H6.out.ok.lt ad ha).1; omega))
          clear ho hk hl
          have hS : True := trivial
          simp only [Act.put, List.setIfInBounds_toArray, List.set_cons_zero, List.set_cons_succ]
          refine held_take 6 23 (.pointer (some ⟨g, 1, none⟩)) rfl rfl (by kernel_rfl) (by kernel_rfl) (by kernel_rfl) (fun _ _ _ h => h) (by kernel_rfl) (fun _ _ => (by kernel_rfl)) hS ?_
          simp only [Act.put, List.setIfInBounds_toArray, List.set_cons_zero, List.set_cons_succ]
          refine held_void 7 rfl rfl (by kernel_rfl) (by kernel_rfl) (exec_stSl_37 rfl rfl rfl HB8.out (by simp)) trivial ?_
          generalize w8.setCell ⟨g, 1, none⟩ (.slice a' (n1 + 1) c') = w9 at H8
          clear HB8 H6 HD hS
          refine wpAnyH_done (by kernel_rfl) ?_ _
          have k0 := H8.out.e0
          have HQ := H8
          clear H8
          go_wp2_with fail
          clear k0
          refine wp_region_held_drew (S := fun _ => True) (by kernel_rfl) trivial (fun hS => ?_)
          have HD := Lib.hid (HQ.out.below (drew_below _))
          refine held_take 0 33 (.pointer (some ⟨g, 3, none⟩)) rfl rfl (by kernel_rfl) (by kernel_rfl) (by kernel_rfl) (fun _ _ _ h => h) (by kernel_rfl) (fun _ _ => (by kernel_rfl)) hS ?_
          simp only [Act.put, List.setIfInBounds_toArray, List.set_cons_zero, List.set_cons_succ]
          refine held_take 2 35 (.pointer (some ⟨p, 0, none⟩)) rfl rfl (by kernel_rfl) (by kernel_rfl) (by kernel_rfl) (fun _ _ _ h => h) (by kernel_rfl) (fun _ _ => rfl) hS ?_
          simp only [Act.put, List.setIfInBounds_toArray, List.set_cons_zero, List.set_cons_succ]
          refine wpAnyH_ready (rs := [1, 3]) (by kernel_rfl) (by simp) (br_exec 1 34 (.slice a3 n3 c3) rfl rfl (by kernel_rfl) (exec_cell rfl rfl (load_cell (by kernel_rfl) HD.out.e3)) hS ?_ (br_callP 3 36 46 #[.pointer (some ⟨p, 0, none⟩)] rfl rfl (by kernel_rfl) (by kernel_rfl) (number_nx HD.out.rd) (fun e w6 hP => ?_) AllReadyH.nil))
          · skip
            simp only [Act.put, List.setIfInBounds_toArray, List.set_cons_zero, List.set_cons_succ]
            refine held_callP 3 36 46 #[.pointer (some ⟨p, 0, none⟩)] rfl (by kernel_rfl) rfl (by kernel_rfl) (by kernel_rfl) (number_nx HD.out.rd) (fun e w6 hP => ?_)
            obtain ⟨rfl, hr, hk⟩ := hP
            refine ⟨_, rfl, trivial, fun hS => ?_⟩
            have H6 := Lib.hid (HD.out.read hr hk)
            clear hr hk
            simp only [Act.put, List.setIfInBounds_toArray, List.set_cons_zero, List.set_cons_succ]
            refine held_take 4 37 (.int .u32 (((rdKd (nx (nx (nx st)))).n : Nat) : Int)) rfl rfl (by kernel_rfl) (by kernel_rfl) (by kernel_rfl) (fun _ _ _ h => h) (by kernel_rfl) (fun _ _ => exec_cv32 rfl rfl) hS ?_
            simp only [Act.put, List.setIfInBounds_toArray, List.set_cons_zero, List.set_cons_succ]
            refine held_exec 5 38 (.slice (some ⟨w6.heap.size, 0, none⟩) 1 1) rfl rfl (by kernel_rfl) (by kernel_rfl) (exec_bs28 (n := (((rdKd (nx (nx (nx st)))).n : Nat) : Int)) rfl rfl) trivial ?_
            simp only [Act.put, List.setIfInBounds_toArray, List.set_cons_zero, List.set_cons_succ]
            refine held_appendG 6 39 24 28 1 4 info28 und24 rfl (by decide) (by decide) rfl rfl (by kernel_rfl) (by kernel_rfl) rfl rfl rfl (H6.out.od.below (below_one _ _)) (Blk.new w6 28 #[.int .u32 (((rdKd (nx (nx (nx st)))).n : Nat) : Int)]) rfl (Kd.one_cs (rdKd (nx (nx (nx st))))) (by omega) (by have := H6.out.pg.lt; simp; omega) ?_
            intro a' c' w8 ho hk hl
            refine ⟨trivial, ?_⟩
            have H8 := Lib.hid ((H6.out.below (below_one w6 (.cells #[.int .u32 (((rdKd (nx (nx (nx st)))).n : Nat) : Int)] 28))).add3 (x := (rdKd (nx (nx (nx st))))) ho hk)
            have HB8 := Lib.hid ((H6.out.below (below_one w6 (.cells #[.int .u32 (((rdKd (nx (nx (nx st)))).n : Nat) : Int)] 28))).pg.kept hk (fun ⟨ad, ha, e⟩ => by have := (H6.out.od.lt ad ha).1; omega))
            clear ho hk hl
            have hS : True := trivial
            simp only [Act.put, List.setIfInBounds_toArray, List.set_cons_zero, List.set_cons_succ]
            refine held_take 7 40 (.pointer (some ⟨g, 3, none⟩)) rfl rfl (by kernel_rfl) (by kernel_rfl) (by kernel_rfl) (fun _ _ _ h => h) (by kernel_rfl) (fun _ _ => (by kernel_rfl)) hS ?_
            simp only [Act.put, List.setIfInBounds_toArray, List.set_cons_zero, List.set_cons_succ]
            refine held_void 8 rfl rfl (by kernel_rfl) (by kernel_rfl) (exec_stSl_24 rfl rfl rfl HB8.out (by simp)) trivial ?_
            generalize w8.setCell ⟨g, 3, none⟩ (.slice a' (n3 + 1) c') = w9 at H8
            clear HB8 H6 HD hS
            refine wpAnyH_done (by kernel_rfl) ?_ _
            have HU2 : Hid (rdUpto false S2 (k + 1) = (⟨false, ks ++ [rdKy st], ls, ds ++ [rdKd (nx (nx (nx st)))]⟩, nx (nx (nx (nx st))))) := Lib.hid (by unfold rdUpto; rw [HU.out]; rfl)
            go_wp2_with fail
            go_roundw
            case rel => exact ⟨k + 1, _, _, _, _, _, _, _, _, _, _, _, _, _, by omega, by go_num, by omega, by omega, by omega, HU2, H8⟩
            case measure => simp [numI]; omega
          · skip
            obtain ⟨rfl, hr, hk⟩ := hP
            refine ⟨_, rfl, trivial, fun hS => ?_⟩
            have H6 := Lib.hid (HD.out.read hr hk)
            clear hr hk
            simp only [Act.put, List.setIfInBounds_toArray, List.set_cons_zero, List.set_cons_succ]
            refine held_take 4 37 (.int .u32 (((rdKd (nx (nx (nx st)))).n : Nat) : Int)) rfl rfl (by kernel_rfl) (by kernel_rfl) (by kernel_rfl) (fun _ _ _ h => h) (by kernel_rfl) (fun _ _ => exec_cv32 rfl rfl) hS ?_
            simp only [Act.put, List.setIfInBounds_toArray, List.set_cons_zero, List.set_cons_succ]
            refine wpAnyH_ready (rs := [1, 5]) (by kernel_rfl) (by simp) (br_exec 1 34 (.slice a3 n3 c3) rfl rfl (by kernel_rfl) (exec_cell rfl rfl (load_cell (by kernel_rfl) H6.out.e3)) hS ?_ (br_exec 5 38 (.slice (some ⟨w6.heap.size, 0, none⟩) 1 1) rfl rfl (by kernel_rfl) (exec_bs28 (n := (((rdKd (nx (nx (nx st)))).n : Nat) : Int)) rfl rfl) trivial ?_ AllReadyH.nil))
            · skip
              simp only [Act.put, List.setIfInBounds_toArray, List.set_cons_zero, List.set_cons_succ]
              refine held_exec 5 38 (.slice (some ⟨w6.heap.size, 0, none⟩) 1 1) rfl rfl (by kernel_rfl) (by kernel_rfl) (exec_bs28 (n := (((rdKd (nx (nx (nx st)))).n : Nat) : Int)) rfl rfl) trivial ?_
              simp only [Act.put, List.setIfInBounds_toArray, List.set_cons_zero, List.set_cons_succ]
              refine held_appendG 6 39 24 28 1 4 info28 und24 rfl (by decide) (by decide) rfl rfl (by kernel_rfl) (by kernel_rfl) rfl rfl rfl (H6.out.od.below (below_one _ _)) (Blk.new w6 28 #[.int .u32 (((rdKd (nx (nx (nx st)))).n : Nat) : Int)]) rfl (Kd.one_cs (rdKd (nx (nx (nx st))))) (by omega) (by have := H6.out.pg.lt; simp; omega) ?_
              intro a' c' w8 ho hk hl
              refine ⟨trivial, ?_⟩
              have H8 := Lib.hid ((H6.out.below (below_one w6 (.cells #[.int .u32 (((rdKd (nx (nx (nx st)))).n : Nat) : Int)] 28))).add3 (x := (rdKd (nx (nx (nx st))))) ho hk)
              have HB8 := Lib.hid ((H6.out.below (below_one w6 (.cells #[.int .u32 (((rdKd (nx (nx (nx st)))).n : Nat) : Int)] 28))).pg.kept hk (fun ⟨ad, ha, e⟩ => by have := (H6.out.od.lt ad ha).1; omega))
              clear ho hk hl
              have hS : True := trivial
              simp only [Act.put, List.setIfInBounds_toArray, List.set_cons_zero, List.set_cons_succ]
              refine held_take 7 40 (.pointer (some ⟨g, 3, none⟩)) rfl rfl (by kernel_rfl) (by kernel_rfl) (by kernel_rfl) (fun _ _ _ h => h) (by kernel_rfl) (fun _ _ => (by kernel_rfl)) hS ?_
              simp only [Act.put, List.setIfInBounds_toArray, List.set_cons_zero, List.set_cons_succ]
              refine held_void 8 rfl rfl (by kernel_rfl) (by kernel_rfl) (exec_stSl_24 rfl rfl rfl HB8.out (by simp)) trivial ?_
              generalize w8.setCell ⟨g, 3, none⟩ (.slice a' (n3 + 1) c') = w9 at H8
              clear HB8 H6 HD hS
              refine wpAnyH_done (by kernel_rfl) ?_ _
              have HU2 : Hid (rdUpto false S2 (k + 1) = (⟨false, ks ++ [rdKy st], ls, ds ++ [rdKd (nx (nx (nx st)))]⟩, nx (nx (nx (nx st))))) := Lib.hid (by unfold rdUpto; rw [HU.out]; rfl)
              go_wp2_with fail
              go_roundw
              case rel => exact ⟨k + 1, _, _, _, _, _, _, _, _, _, _, _, _, _, by omega, by go_num, by omega, by omega, by omega, HU2, H8⟩
              case measure => simp [numI]; omega
            · skip
              simp only [Act.put, List.setIfInBounds_toArray, List.set_cons_zero, List.set_cons_succ]
              have H7 := Lib.hid (H6.out.below (below_one w6 (.cells #[.int .u32 (((rdKd (nx (nx (nx st)))).n : Nat) : Int)] 28)))
              refine held_exec 1 34 (.slice a3 n3 c3) rfl rfl (by kernel_rfl) (by kernel_rfl) (exec_cell rfl rfl (load_cell (by kernel_rfl) H7.out.e3)) trivial ?_
              simp only [Act.put, List.setIfInBounds_toArray, List.set_cons_zero, List.set_cons_succ]
              refine held_appendG 6 39 24 28 1 4 info28 und24 rfl (by decide) (by decide) rfl rfl (by kernel_rfl) (by kernel_rfl) rfl rfl rfl (H6.out.od.below (below_one _ _)) (Blk.new w6 28 #[.int .u32 (((rdKd (nx (nx (nx st)))).n : Nat) : Int)]) rfl (Kd.one_cs (rdKd (nx (nx (nx st))))) (by omega) (by have := H6.out.pg.lt; simp; omega) ?_
              intro a' c' w8 ho hk hl
              refine ⟨trivial, ?_⟩
              have H8 := Lib.hid ((H6.out.below (below_one w6 (.cells #[.int .u32 (((rdKd (nx (nx (nx st)))).n : Nat) : Int)] 28))).add3 (x := (rdKd (nx (nx (nx st))))) ho hk)
              have HB8 := Lib.hid ((H6.out.below (below_one w6 (.cells #[.int .u32 (((rdKd (nx (nx (nx st)))).n : Nat) : Int)] 28))).pg.kept hk (fun ⟨ad, ha, e⟩ => by have := (H6.out.od.lt ad ha).1; omega))
              clear ho hk hl
              have hS : True := trivial
              simp only [Act.put, List.setIfInBounds_toArray, List.set_cons_zero, List.set_cons_succ]
              refine held_take 7 40 (.pointer (some ⟨g, 3, none⟩)) rfl rfl (by kernel_rfl) (by kernel_rfl) (by kernel_rfl) (fun _ _ _ h => h) (by kernel_rfl) (fun _ _ => (by kernel_rfl)) hS ?_
              simp only [Act.put, List.setIfInBounds_toArray, List.set_cons_zero, List.set_cons_succ]
              refine held_void 8 rfl rfl (by kernel_rfl) (by kernel_rfl) (exec_stSl_24 rfl rfl rfl HB8.out (by simp)) trivial ?_
              generalize w8.setCell ⟨g, 3, none⟩ (.slice a' (n3 + 1) c') = w9 at H8
              clear HB8 H6 HD hS
              refine wpAnyH_done (by kernel_rfl) ?_ _
              have HU2 : Hid (rdUpto false S2 (k + 1) = (⟨false, ks ++ [rdKy st], ls, ds ++ [rdKd (nx (nx (nx st)))]⟩, nx (nx (nx (nx st))))) := Lib.hid (by unfold rdUpto; rw [HU.out]; rfl)
              go_wp2_with fail
              go_roundw
              case rel => exact ⟨k + 1, _, _, _, _, _, _, _, _, _, _, _, _, _, by omega, by go_num, by omega, by omega, by omega, HU2, H8⟩
              case measure => simp [numI]; omega
        · skip
          obtain ⟨rfl, hr, hk⟩ := hP
          refine ⟨_, rfl, trivial, fun hS => ?_⟩
          have H6 := Lib.hid (HD.out.read hr hk)
          clear hr hk
          simp only [Act.put, List.setIfInBounds_toArray, List.set_cons_zero, List.set_cons_succ]
          refine wpAnyH_ready (rs := [1, 4]) (by kernel_rfl) (by simp) (br_exec 1 18 (.slice a1 n1 c1) rfl rfl (by kernel_rfl) (exec_cell rfl rfl (load_cell (by kernel_rfl) H6.out.e1)) hS ?_ (br_exec 4 21 (.slice (some ⟨w6.heap.size, 0, none⟩) 1 1) rfl rfl (by kernel_rfl) (exec_bs42 (p := (rdKy st)) rfl rfl) trivial ?_ AllReadyH.nil))
          · skip
            simp only [Act.put, List.setIfInBounds_toArray, List.set_cons_zero, List.set_cons_succ]
            refine held_exec 4 21 (.slice (some ⟨w6.heap.size, 0, none⟩) 1 1) rfl rfl (by kernel_rfl) (by kernel_rfl) (exec_bs42 (p := (rdKy st)) rfl rfl) trivial ?_
            simp only [Act.put, List.setIfInBounds_toArray, List.set_cons_zero, List.set_cons_succ]
            refine held_appendG 5 22 37 42 3 12 info42 und37 rfl (by decide) (by decide) rfl rfl (by kernel_rfl) (by kernel_rfl) rfl rfl rfl (H6.out.ok.below (below_one _ _)) (Blk.new w6 42 (rdKy st).arr) rfl (Ky.one_cs (rdKy st)) (by omega) (by have := H6.out.pg.lt; simp; omega) ?_
            intro a' c' w8 ho hk hl
            refine ⟨trivial, ?_⟩
            have H8 := Lib.hid ((H6.out.below (below_one w6 (.cells (rdKy st).arr 42))).add1 (x := (rdKy st)) ho hk)
            have HB8 := Lib.hid ((H6.out.below (below_one w6 (.cells (rdKy st).arr 42))).pg.kept hk (fun ⟨ad, ha, e⟩ => by have := (H6.out.ok.lt ad ha).1; omega))
            clear ho hk hl
            have hS : True := trivial
            simp only [Act.put, List.setIfInBounds_toArray, List.set_cons_zero, List.set_cons_succ]
            refine held_take 6 23 (.pointer (some ⟨g, 1, none⟩)) rfl rfl (by kernel_rfl) (by kernel_rfl) (by kernel_rfl) (fun _ _ _ h => h) (by kernel_rfl) (fun _ _ => (by kernel_rfl)) hS ?_
            simp only [Act.put, List.setIfInBounds_toArray, List.set_cons_zero, List.set_cons_succ]
            refine held_void 7 rfl rfl (by kernel_rfl) (by kernel_rfl) (exec_stSl_37 rfl rfl rfl HB8.out (by simp)) trivial ?_
            generalize w8.setCell ⟨g, 1, none⟩ (.slice a' (n1 + 1) c') = w9 at H8
            clear HB8 H6 HD hS
            refine wpAnyH_done (by kernel_rfl) ?_ _
            have k0 := H8.out.e0
            have HQ := H8
            clear H8
            go_wp2_with fail
            clear k0
            refine wp_region_held_drew (S := fun _ => True) (by kernel_rfl) trivial (fun hS => ?_)
            have HD := Lib.hid (HQ.out.below (drew_below _))
            refine held_take 0 33 (.pointer (some ⟨g, 3, none⟩)) rfl rfl (by kernel_rfl) (by kernel_rfl) (by kernel_rfl) (fun _ _ _ h => h) (by kernel_rfl) (fun _ _ => (by kernel_rfl)) hS ?_
            simp only [Act.put, List.setIfInBounds_toArray, List.set_cons_zero, List.set_cons_succ]
            refine held_take 2 35 (.pointer (some ⟨p, 0, none⟩)) rfl rfl (by kernel_rfl) (by kernel_rfl) (by kernel_rfl) (fun _ _ _ h => h) (by kernel_rfl) (fun _ _ => rfl) hS ?_
            simp only [Act.put, List.setIfInBounds_toArray, List.set_cons_zero, List.set_cons_succ]
            refine wpAnyH_ready (rs := [1, 3]) (by kernel_rfl) (by simp) (br_exec 1 34 (.slice a3 n3 c3) rfl rfl (by kernel_rfl) (exec_cell rfl rfl (load_cell (by kernel_rfl) HD.out.e3)) hS ?_ (br_callP 3 36 46 #[.pointer (some ⟨p, 0, none⟩)] rfl rfl (by kernel_rfl) (by kernel_rfl) (number_nx HD.out.rd) (fun e w6 hP => ?_) AllReadyH.nil))
            · skip
              simp only [Act.put, List.setIfInBounds_toArray, List.set_cons_zero, List.set_cons_succ]
              refine held_callP 3 36 46 #[.pointer (some ⟨p, 0, none⟩)] rfl (by kernel_rfl) rfl (by kernel_rfl) (by kernel_rfl) (number_nx HD.out.rd) (fun e w6 hP => ?_)
              obtain ⟨rfl, hr, hk⟩ := hP
              refine ⟨_, rfl, trivial, fun hS => ?_⟩
              have H6 := Lib.hid (HD.out.read hr hk)
              clear hr hk
              simp only [Act.put, List.setIfInBounds_toArray, List.set_cons_zero, List.set_cons_succ]
              refine held_take 4 37 (.int .u32 (((rdKd (nx (nx (nx st)))).n : Nat) : Int)) rfl rfl (by kernel_rfl) (by kernel_rfl) (by kernel_rfl) (fun _ _ _ h => h) (by kernel_rfl) (fun _ _ => exec_cv32 rfl rfl) hS ?_
              simp only [Act.put, List.setIfInBounds_toArray, List.set_cons_zero, List.set_cons_succ]
              refine held_exec 5 38 (.slice (some ⟨w6.heap.size, 0, none⟩) 1 1) rfl rfl (by kernel_rfl) (by kernel_rfl) (exec_bs28 (n := (((rdKd (nx (nx (nx st)))).n : Nat) : Int)) rfl rfl) trivial ?_
              simp only [Act.put, List.setIfInBounds_toArray, List.set_cons_zero, List.set_cons_succ]
              refine held_appendG 6 39 24 28 1 4 info28 und24 rfl (by decide) (by decide) rfl rfl (by kernel_rfl) (by kernel_rfl) rfl rfl rfl (H6.out.od.below (below_one _ _)) (Blk.new w6 28 #[.int .u32 (((rdKd (nx (nx (nx st)))).n : Nat) : Int)]) rfl (Kd.one_cs (rdKd (nx (nx (nx st))))) (by omega) (by have := H6.out.pg.lt; simp; omega) ?_
              intro a' c' w8 ho hk hl
              refine ⟨trivial, ?_⟩
              have H8 := Lib.hid ((H6.out.below (below_one w6 (.cells #[.int .u32 (((rdKd (nx (nx (nx st)))).n : Nat) : Int)] 28))).add3 (x := (rdKd (nx (nx (nx st))))) ho hk)
              have HB8 := Lib.hid ((H6.out.below (below_one w6 (.cells #[.int .u32 (((rdKd (nx (nx (nx st)))).n : Nat) : Int)] 28))).pg.kept hk (fun ⟨ad, ha, e⟩ => by have := (H6.out.od.lt ad ha).1; omega))
              clear ho hk hl
              have hS : True := trivial
              simp only [Act.put, List.setIfInBounds_toArray, List.set_cons_zero, List.set_cons_succ]
              refine held_take 7 40 (.pointer (some ⟨g, 3, none⟩)) rfl rfl (by kernel_rfl) (by kernel_rfl) (by kernel_rfl) (fun _ _ _ h => h) (by kernel_rfl) (fun _ _ => (by kernel_rfl)) hS ?_
              simp only [Act.put, List.setIfInBounds_toArray, List.set_cons_zero, List.set_cons_succ]
              refine held_void 8 rfl rfl (by kernel_rfl) (by kernel_rfl) (exec_stSl_24 rfl rfl rfl HB8.out (by simp)) trivial ?_
              generalize w8.setCell ⟨g, 3, none⟩ (.slice a' (n3 + 1) c') = w9 at H8
              clear HB8 H6 HD hS
              refine wpAnyH_done (by kernel_rfl) ?_ _
              have HU2 : Hid (rdUpto false S2 (k + 1) = (⟨false, ks ++ [rdKy st], ls, ds ++ [rdKd (nx (nx (nx st)))]⟩, nx (nx (nx (nx st))))) := Lib.hid (by unfold rdUpto; rw [HU.out]; rfl)
              go_wp2_with fail
              go_roundw
              case rel => exact ⟨k + 1, _, _, _, _, _, _, _, _, _, _, _, _, _, by omega, by go_num, by omega, by omega, by omega, HU2, H8⟩
              case measure => simp [numI]; omega
            · skip
              obtain ⟨rfl, hr, hk⟩ := hP
              refine ⟨_, rfl, trivial, fun hS => ?_⟩
              have H6 := Lib.hid (HD.out.read hr hk)
              clear hr hk
              simp only [Act.put, List.setIfInBounds_toArray, List.set_cons_zero, List.set_cons_succ]
              refine held_take 4 37 (.int .u32 (((rdKd (nx (nx (nx st)))).n : Nat) : Int)) rfl rfl (by kernel_rfl) (by kernel_rfl) (by kernel_rfl) (fun _ _ _ h => h) (by kernel_rfl) (fun _ _ => exec_cv32 rfl rfl) hS ?_
              simp only [Act.put, List.setIfInBounds_toArray, List.set_cons_zero, List.set_cons_succ]
              refine wpAnyH_ready (rs := [1, 5]) (by kernel_rfl) (by simp) (br_exec 1 34 (.slice a3 n3 c3) rfl rfl (by kernel_rfl) (exec_cell rfl rfl (load_cell (by kernel_rfl) H6.out.e3)) hS ?_ (br_exec 5 38 (.slice (some ⟨w6.heap.size, 0, none⟩) 1 1) rfl rfl (by kernel_rfl) (exec_bs28 (n := (((rdKd (nx (nx (nx st)))).n : Nat) : Int)) rfl rfl) trivial ?_ AllReadyH.nil))
              · skip
                simp only [Act.put, List.setIfInBounds_toArray, List.set_cons_zero, List.set_cons_succ]
                refine held_exec 5 38 (.slice (some ⟨w6.heap.size, 0, none⟩) 1 1) rfl rfl (by kernel_rfl) (by kernel_rfl) (exec_bs28 (n := (((rdKd (nx (nx (nx st)))).n : Nat) : Int)) rfl rfl) trivial ?_
                simp only [Act.put, List.setIfInBounds_toArray, List.set_cons_zero, List.set_cons_succ]
                refine held_appendG 6 39 24 28 1 4 info28 und24 rfl (by decide) (by decide) rfl rfl (by kernel_rfl) (by kernel_rfl) rfl rfl rfl (H6.out.od.below (below_one _ _)) (Blk.new w6 28 #[.int .u32 (((rdKd (nx (nx (nx st)))).n : Nat) : Int)]) rfl (Kd.one_cs (rdKd (nx (nx (nx st))))) (by omega) (by have := H6.out.pg.lt; simp; omega) ?_
                intro a' c' w8 ho hk hl
                refine ⟨trivial, ?_⟩
                have H8 := Lib.hid ((H6.out.below (below_one w6 (.cells #[.int .u32 (((rdKd (nx (nx (nx st)))).n : Nat) : Int)] 28))).add3 (x := (rdKd (nx (nx (nx st))))) ho hk)
                have HB8 := Lib.hid ((H6.out.below (below_one w6 (.cells #[.int .u32 (((rdKd (nx (nx (nx st)))).n : Nat) : Int)] 28))).pg.kept hk (fun ⟨ad, ha, e⟩ => by have := (H6.out.od.lt ad ha).1; omega))
                clear ho hk hl
                have hS : True := trivial
                simp only [Act.put, List.setIfInBounds_toArray, List.set_cons_zero, List.set_cons_succ]
                refine held_take 7 40 (.pointer (some ⟨g, 3, none⟩)) rfl rfl (by kernel_rfl) (by kernel_rfl) (by kernel_rfl) (fun _ _ _ h => h) (by kernel_rfl) (fun _ _ => (by kernel_rfl)) hS ?_
                simp only [Act.put, List.setIfInBounds_toArray, List.set_cons_zero, List.set_cons_succ]
                refine held_void 8 rfl rfl (by kernel_rfl) (by kernel_rfl) (exec_stSl_24 rfl rfl rfl HB8.out (by simp)) trivial ?_
                generalize w8.setCell ⟨g, 3, none⟩ (.slice a' (n3 + 1) c') = w9 at H8
                clear HB8 H6 HD hS
                refine wpAnyH_done (by kernel_rfl) ?_ _
                have HU2 : Hid (rdUpto false S2 (k + 1) = (⟨false, ks ++ [rdKy st], ls, ds ++ [rdKd (nx (nx (nx st)))]⟩, nx (nx (nx (nx st))))) := Lib.hid (by unfold rdUpto; rw [HU.out]; rfl)
                go_wp2_with fail
                go_roundw
                case rel => exact ⟨k + 1, _, _, _, _, _, _, _, _, _, _, _, _, _, by omega, by go_num, by omega, by omega, by omega, HU2, H8⟩
                case measure => simp [numI]; omega
              · skip
                simp only [Act.put, List.setIfInBounds_toArray, List.set_cons_zero, List.set_cons_succ]
                have H7 := Lib.hid (H6.out.below (below_one w6 (.cells #[.int .u32 (((rdKd (nx (nx (nx st)))).n : Nat) : Int)] 28)))
                refine held_exec 1 34 (.slice a3 n3 c3) rfl rfl (by kernel_rfl) (by kernel_rfl) (exec_cell rfl rfl (load_cell (by kernel_rfl) H7.out.e3)) trivial ?_
                simp only [Act.put, List.setIfInBounds_toArray, List.set_cons_zero, List.set_cons_succ]
                refine held_appendG 6 39 24 28 1 4 info28 und24 rfl (by decide) (by decide) rfl rfl (by kernel_rfl) (by kernel_rfl) rfl rfl rfl (H6.out.od.below (below_one _ _)) (Blk.new w6 28 #[.int .u32 (((rdKd (nx (nx (nx st)))).n : Nat) : Int)]) rfl (Kd.one_cs (rdKd (nx (nx (nx st))))) (by omega) (by have := H6.out.pg.lt; simp; omega) ?_
                intro a' c' w8 ho hk hl
                refine ⟨trivial, ?_⟩
                have H8 := Lib.hid ((H6.out.below (below_one w6 (.cells #[.int .u32 (((rdKd (nx (nx (nx st)))).n : Nat) : Int)] 28))).add3 (x := (rdKd (nx (nx (nx st))))) ho hk)
                have HB8 := Lib.hid ((H6.out.below (below_one w6 (.cells #[.int .u32 (((rdKd (nx (nx (nx st)))).n : Nat) : Int)] 28))).pg.kept hk (fun ⟨ad, ha, e⟩ => by have := (H6.out.od.lt ad ha).1; omega))
                clear ho hk hl
                have hS : True := trivial
                simp only [Act.put, List.setIfInBounds_toArray, List.set_cons_zero, List.set_cons_succ]
                refine held_take 7 40 (.pointer (some ⟨g, 3, none⟩)) rfl rfl (by kernel_rfl) (by kernel_rfl) (by kernel_rfl) (fun _ _ _ h => h) (by kernel_rfl) (fun _ _ => (by kernel_rfl)) hS ?_
                simp only [Act.put, List.setIfInBounds_toArray, List.set_cons_zero, List.set_cons_succ]
                refine held_void 8 rfl rfl (by kernel_rfl) (by kernel_rfl) (exec_stSl_24 rfl rfl rfl HB8.out (by simp)) trivial ?_
                generalize w8.setCell ⟨g, 3, none⟩ (.slice a' (n3 + 1) c') = w9 at H8
                clear HB8 H6 HD hS
                refine wpAnyH_done (by kernel_rfl) ?_ _
                have HU2 : Hid (rdUpto false S2 (k + 1) = (⟨false, ks ++ [rdKy st], ls, ds ++ [rdKd (nx (nx (nx st)))]⟩, nx (nx (nx (nx st))))) := Lib.hid (by unfold rdUpto; rw [HU.out]; rfl)
                go_wp2_with fail
                go_roundw
                case rel => exact ⟨k + 1, _, _, _, _, _, _, _, _, _, _, _, _, _, by omega, by go_num, by omega, by omega, by omega, HU2, H8⟩
                case measure => simp [numI]; omega
          · skip
            simp only [Act.put, List.setIfInBounds_toArray, List.set_cons_zero, List.set_cons_succ]
            have H7 := Lib.hid (H6.out.below (below_one w6 (.cells (rdKy st).arr 42)))
            refine held_exec 1 18 (.slice a1 n1 c1) rfl rfl (by kernel_rfl) (by kernel_rfl) (exec_cell rfl rfl (load_cell (by kernel_rfl) H7.out.e1)) trivial ?_
            simp only [Act.put, List.setIfInBounds_toArray, List.set_cons_zero, List.set_cons_succ]
            refine held_appendG 5 22 37 42 3 12 info42 und37 rfl (by decide) (by decide) rfl rfl (by kernel_rfl) (by kernel_rfl) rfl rfl rfl (H6.out.ok.below (below_one _ _)) (Blk.new w6 42 (rdKy st).arr) rfl (Ky.one_cs (rdKy st)) (by omega) (by have := H6.out.pg.lt; simp; omega) ?_
            intro a' c' w8 ho hk hl
            refine ⟨trivial, ?_⟩
            have H8 := Lib.hid ((H6.out.below (below_one w6 (.cells (rdKy st).arr 42))).add1 (x := (rdKy st)) ho hk)
            have HB8 := Lib.hid ((H6.out.below (below_one w6 (.cells (rdKy st).arr 42))).pg.kept hk (fun ⟨ad, ha, e⟩ => by have := (H6.out.ok.lt ad ha).1; omega))
            clear ho hk hl
            have hS : True := trivial
            simp only [Act.put, List.setIfInBounds_toArray, List.set_cons_zero, List.set_cons_succ]
            refine held_take 6 23 (.pointer (some ⟨g, 1, none⟩)) rfl rfl (by kernel_rfl) (by kernel_rfl) (by kernel_rfl) (fun _ _ _ h => h) (by kernel_rfl) (fun _ _ => (by kernel_rfl)) hS ?_
            simp only [Act.put, List.setIfInBounds_toArray, List.set_cons_zero, List.set_cons_succ]
            refine held_void 7 rfl rfl (by kernel_rfl) (by kernel_rfl) (exec_stSl_37 rfl rfl rfl HB8.out (by simp)) trivial ?_
            generalize w8.setCell ⟨g, 1, none⟩ (.slice a' (n1 + 1) c') = w9 at H8
            clear HB8 H6 HD hS
            refine wpAnyH_done (by kernel_rfl) ?_ _
            have k0 := H8.out.e0
            have HQ := H8
            clear H8
            go_wp2_with fail
            clear k0
            refine wp_region_held_drew (S := fun _ => True) (by kernel_rfl) trivial (fun hS => ?_)
            have HD := Lib.hid (HQ.out.below (drew_below _))
            refine held_take 0 33 (.pointer (some ⟨g, 3, none⟩)) rfl rfl (by kernel_rfl) (by kernel_rfl) (by kernel_rfl) (fun _ _ _ h => h) (by kernel_rfl) (fun _ _ => (by kernel_rfl)) hS ?_
            simp only [Act.put, List.setIfInBounds_toArray, List.set_cons_zero, List.set_cons_succ]
            refine held_take 2 35 (.pointer (some ⟨p, 0, none⟩)) rfl rfl (by kernel_rfl) (by kernel_rfl) (by kernel_rfl) (fun _ _ _ h => h) (by kernel_rfl) (fun _ _ => rfl) hS ?_
            simp only [Act.put, List.setIfInBounds_toArray, List.set_cons_zero, List.set_cons_succ]
            refine wpAnyH_ready (rs := [1, 3]) (by kernel_rfl) (by simp) (br_exec 1 34 (.slice a3 n3 c3) rfl rfl (by kernel_rfl) (exec_cell rfl rfl (load_cell (by kernel_rfl) HD.out.e3)) hS ?_ (br_callP 3 36 46 #[.pointer (some ⟨p, 0, none⟩)] rfl rfl (by kernel_rfl) (by kernel_rfl) (number_nx HD.out.rd) (fun e w6 hP => ?_) AllReadyH.nil))
            · skip
              simp only [Act.put, List.setIfInBounds_toArray, List.set_cons_zero, List.set_cons_succ]
              refine held_callP 3 36 46 #[.pointer (some ⟨p, 0, none⟩)] rfl (by kernel_rfl) rfl (by kernel_rfl) (by kernel_rfl) (number_nx HD.out.rd) (fun e w6 hP => ?_)
              obtain ⟨rfl, hr, hk⟩ := hP
              refine ⟨_, rfl, trivial, fun hS => ?_⟩
              have H6 := Lib.hid (HD.out.read hr hk)
              clear hr hk
              simp only [Act.put, List.setIfInBounds_toArray, List.set_cons_zero, List.set_cons_succ]
              refine held_take 4 37 (.int .u32 (((rdKd (nx (nx (nx st)))).n : Nat) : Int)) rfl rfl (by kernel_rfl) (by kernel_rfl) (by kernel_rfl) (fun _ _ _ h => h) (by kernel_rfl) (fun _ _ => exec_cv32 rfl rfl) hS ?_
              simp only [Act.put, List.setIfInBounds_toArray, List.set_cons_zero, List.set_cons_succ]
              refine held_exec 5 38 (.slice (some ⟨w6.heap.size, 0, none⟩) 1 1) rfl rfl (by kernel_rfl) (by kernel_rfl) (exec_bs28 (n := (((rdKd (nx (nx (nx st)))).n : Nat) : Int)) rfl rfl) trivial ?_
              simp only [Act.put, List.setIfInBounds_toArray, List.set_cons_zero, List.set_cons_succ]
              refine held_appendG 6 39 24 28 1 4 info28 und24 rfl (by decide) (by decide) rfl rfl (by kernel_rfl) (by kernel_rfl) rfl rfl rfl (H6.out.od.below (below_one _ _)) (Blk.new w6 28 #[.int .u32 (((rdKd (nx (nx (nx st)))).n : Nat) : Int)]) rfl (Kd.one_cs (rdKd (nx (nx (nx st))))) (by omega) (by have := H6.out.pg.lt; simp; omega) ?_
              intro a' c' w8 ho hk hl
              refine ⟨trivial, ?_⟩
              have H8 := Lib.hid ((H6.out.below (below_one w6 (.cells #[.int .u32 (((rdKd (nx (nx (nx st)))).n : Nat) : Int)] 28))).add3 (x := (rdKd (nx (nx (nx st))))) ho hk)
              have HB8 := Lib.hid ((H6.out.below (below_one w6 (.cells #[.int .u32 (((rdKd (nx (nx (nx st)))).n : Nat) : Int)] 28))).pg.kept hk (fun ⟨ad, ha, e⟩ => by have := (H6.out.od.lt ad ha).1; omega))
              clear ho hk hl
              have hS : True := trivial
              simp only [Act.put, List.setIfInBounds_toArray, List.set_cons_zero, List.set_cons_succ]
              refine held_take 7 40 (.pointer (some ⟨g, 3, none⟩)) rfl rfl (by kernel_rfl) (by kernel_rfl) (by kernel_rfl) (fun _ _ _ h => h) (by kernel_rfl) (fun _ _ => (by kernel_rfl)) hS ?_
              simp only [Act.put, List.setIfInBounds_toArray, List.set_cons_zero, List.set_cons_succ]
              refine held_void 8 rfl rfl (by kernel_rfl) (by kernel_rfl) (exec_stSl_24 rfl rfl rfl HB8.out (by simp)) trivial ?_
              generalize w8.setCell ⟨g, 3, none⟩ (.slice a' (n3 + 1) c') = w9 at H8
              clear HB8 H6 HD hS
              refine wpAnyH_done (by kernel_rfl) ?_ _
              have HU2 : Hid (rdUpto false S2 (k + 1) = (⟨false, ks ++ [rdKy st], ls, ds ++ [rdKd (nx (nx (nx st)))]⟩, nx (nx (nx (nx st))))) := Lib.hid (by unfold rdUpto; rw [HU.out]; rfl)
              go_wp2_with fail
              go_roundw
              case rel => exact ⟨k + 1, _, _, _, _, _, _, _, _, _, _, _, _, _, by omega, by go_num, by omega, by omega, by omega, HU2, H8⟩
              case measure => simp [numI]; omega
            · skip
              obtain ⟨rfl, hr, hk⟩ := hP
              refine ⟨_, rfl, trivial, fun hS => ?_⟩
              have H6 := Lib.hid (HD.out.read hr hk)
              clear hr hk
              simp only [Act.put, List.setIfInBounds_toArray, List.set_cons_zero, List.set_cons_succ]
              refine held_take 4 37 (.int .u32 (((rdKd (nx (nx (nx st)))).n : Nat) : Int)) rfl rfl (by kernel_rfl) (by kernel_rfl) (by kernel_rfl) (fun _ _ _ h => h) (by kernel_rfl) (fun _ _ => exec_cv32 rfl rfl) hS ?_
              simp only [Act.put, List.setIfInBounds_toArray, List.set_cons_zero, List.set_cons_succ]
              refine wpAnyH_ready (rs := [1, 5]) (by kernel_rfl) (by simp) (br_exec 1 34 (.slice a3 n3 c3) rfl rfl (by kernel_rfl) (exec_cell rfl rfl (load_cell (by kernel_rfl) H6.out.e3)) hS ?_ (br_exec 5 38 (.slice (some ⟨w6.heap.size, 0, none⟩) 1 1) rfl rfl (by kernel_rfl) (exec_bs28 (n := (((rdKd (nx (nx (nx st)))).n : Nat) : Int)) rfl rfl) trivial ?_ AllReadyH.nil))
              · skip
                simp only [Act.put, List.setIfInBounds_toArray, List.set_cons_zero, List.set_cons_succ]
                refine held_exec 5 38 (.slice (some ⟨w6.heap.size, 0, none⟩) 1 1) rfl rfl (by kernel_rfl) (by kernel_rfl) (exec_bs28 (n := (((rdKd (nx (nx (nx st)))).n : Nat) : Int)) rfl rfl) trivial ?_
                simp only [Act.put, List.setIfInBounds_toArray, List.set_cons_zero, List.set_cons_succ]
                refine held_appendG 6 39 24 28 1 4 info28 und24 rfl (by decide) (by decide) rfl rfl (by kernel_rfl) (by kernel_rfl) rfl rfl rfl (H6.out.od.below (below_one _ _)) (Blk.new w6 28 #[.int .u32 (((rdKd (nx (nx (nx st)))).n : Nat) : Int)]) rfl (Kd.one_cs (rdKd (nx (nx (nx st))))) (by omega) (by have := H6.out.pg.lt; simp; omega) ?_
                intro a' c' w8 ho hk hl
                refine ⟨trivial, ?_⟩
                have H8 := Lib.hid ((H6.out.below (below_one w6 (.cells #[.int .u32 (((rdKd (nx (nx (nx st)))).n : Nat) : Int)] 28))).add3 (x := (rdKd (nx (nx (nx st))))) ho hk)
                have HB8 := Lib.hid ((H6.out.below (below_one w6 (.cells #[.int .u32 (((rdKd (nx (nx (nx st)))).n : Nat) : Int)] 28))).pg.kept hk (fun ⟨ad, ha, e⟩ => by have := (H6.out.od.lt ad ha).1; omega))
                clear ho hk hl
                have hS : True := trivial
                simp only [Act.put, List.setIfInBounds_toArray, List.set_cons_zero, List.set_cons_succ]
                refine held_take 7 40 (.pointer (some ⟨g, 3, none⟩)) rfl rfl (by kernel_rfl) (by kernel_rfl) (by kernel_rfl) (fun _ _ _ h => h) (by kernel_rfl) (fun _ _ => (by kernel_rfl)) hS ?_
                simp only [Act.put, List.setIfInBounds_toArray, List.set_cons_zero, List.set_cons_succ]
                refine held_void 8 rfl rfl (by kernel_rfl) (by kernel_rfl) (exec_stSl_24 rfl rfl rfl HB8.out (by simp)) trivial ?_
                generalize w8.setCell ⟨g, 3, none⟩ (.slice a' (n3 + 1) c') = w9 at H8
                clear HB8 H6 HD hS
                refine wpAnyH_done (by kernel_rfl) ?_ _
                have HU2 : Hid (rdUpto false S2 (k + 1) = (⟨false, ks ++ [rdKy st], ls, ds ++ [rdKd (nx (nx (nx st)))]⟩, nx (nx (nx (nx st))))) := Lib.hid (by unfold rdUpto; rw [HU.out]; rfl)
                go_wp2_with fail
                go_roundw
                case rel => exact ⟨k + 1, _, _, _, _, _, _, _, _, _, _, _, _, _, by omega, by go_num, by omega, by omega, by omega, HU2, H8⟩
                case measure => simp [numI]; omega
              · skip
                simp only [Act.put, List.setIfInBounds_toArray, List.set_cons_zero, List.set_cons_succ]
                have H7 := Lib.hid (H6.out.below (below_one w6 (.cells #[.int .u32 (((rdKd (nx (nx (nx st)))).n : Nat) : Int)] 28)))
                refine held_exec 1 34 (.slice a3 n3 c3) rfl rfl (by kernel_rfl) (by kernel_rfl) (exec_cell rfl rfl (load_cell (by kernel_rfl) H7.out.e3)) trivial ?_
                simp only [Act.put, List.setIfInBounds_toArray, List.set_cons_zero, List.set_cons_succ]
                refine held_appendG 6 39 24 28 1 4 info28 und24 rfl (by decide) (by decide) rfl rfl (by kernel_rfl) (by kernel_rfl) rfl rfl rfl (H6.out.od.below (below_one _ _)) (Blk.new w6 28 #[.int .u32 (((rdKd (nx (nx (nx st)))).n : Nat) : Int)]) rfl (Kd.one_cs (rdKd (nx (nx (nx st))))) (by omega) (by have := H6.out.pg.lt; simp; omega) ?_
                intro a' c' w8 ho hk hl
                refine ⟨trivial, ?_⟩
                have H8 := Lib.hid ((H6.out.below (below_one w6 (.cells #[.int .u32 (((rdKd (nx (nx (nx st)))).n : Nat) : Int)] 28))).add3 (x := (rdKd (nx (nx (nx st))))) ho hk)
                have HB8 := Lib.hid ((H6.out.below (below_one w6 (.cells #[.int .u32 (((rdKd (nx (nx (nx st)))).n : Nat) : Int)] 28))).pg.kept hk (fun ⟨ad, ha, e⟩ => by have := (H6.out.od.lt ad ha).1; omega))
                clear ho hk hl
                have hS : True := trivial
                simp only [Act.put, List.setIfInBounds_toArray, List.set_cons_zero, List.set_cons_succ]
                refine held_take 7 40 (.pointer (some ⟨g, 3, none⟩)) rfl rfl (by kernel_rfl) (by kernel_rfl) (by kernel_rfl) (fun _ _ _ h => h) (by kernel_rfl) (fun _ _ => (by kernel_rfl)) hS ?_
                simp only [Act.put, List.setIfInBounds_toArray, List.set_cons_zero, List.set_cons_succ]
                refine held_void 8 rfl rfl (by kernel_rfl) (by kernel_rfl) (exec_stSl_24 rfl rfl rfl HB8.out (by simp)) trivial ?_
                generalize w8.setCell ⟨g, 3, none⟩ (.slice a' (n3 + 1) c') = w9 at H8
                clear HB8 H6 HD hS
                refine wpAnyH_done (by kernel_rfl) ?_ _
                have HU2 : Hid (rdUpto false S2 (k + 1) = (⟨false, ks ++ [rdKy st], ls, ds ++ [rdKd (nx (nx (nx st)))]⟩, nx (nx (nx (nx st))))) := Lib.hid (by unfold rdUpto; rw [HU.out]; rfl)
                go_wp2_with fail
                go_roundw
                case rel => exact ⟨k + 1, _, _, _, _, _, _, _, _, _, _, _, _, _, by omega, by go_num, by omega, by omega, by omega, HU2, H8⟩
                case measure => simp [numI]; omega
      · obtain rfl : k = m := by omega
        have HPG2 : Hid (rdPg bs = ⟨false, ks, ls, ds⟩) := Lib.hid (by rw [HV.out, HU.out])
        have HE := Lib.hid (readP_of HX.out HPG2.out)
        have HRR := Lib.hid HX.out.res
        have HBL := Lib.hid (HX.out.res.row (ds := pgA false a1 n1 c1 a2 n2 c2 a3 n3 c3))
        go_wp2_with (first | (refine wpList_run rfl (exec_load40 rfl rfl HX.out.pg) ?_) | (refine wpList_stop40 rfl ?_))
        refine ⟨?_⟩
        refine wpList_void rfl rfl (exec_store40 rfl rfl rfl HRR.out) ?_
        generalize wr.setRow r (pgA false a1 n1 c1 a2 n2 c2 a3 n3 c3) = w9 at HE HBL
        go_wp2_with fail
        exact bodyPost_ret (v := .agg (pgA false a1 n1 c1 a2 n2 c2 a3 n3 c3)) (retC Tryd.results33 rfl (loadVar40 HBL.out)) rfl HE.out

end Go.Proofs.YtcgbkfnjohbglaaDoor
