/- FoldAdds: an Add that none of the others knew, put to them, makes its item more by its quantity, and changes no other line. -/
import Derived.Test.YtmibfbbkjejkmaaAdp
import Derived.Test.YtmibfbbkjejkmaaRows
namespace Go.Proofs.Ytmibfbbkjejkmaa
open Go.ChangeShapes Go.WideShapes Go.ChangeAt Go.RowKit Fold

namespace FoldAdds
structure Ad (w W : World) (a : Option Addr) (n : Nat) (l : List O) (p : O) : Prop where
  box : Blk W w.heap.size 40 p.arr
  ol : OL W a n l
  old : Below w.heap.size w W
theorem Ad.below {w W W' : World} {a : Option Addr} {n : Nat} {l : List O} {p : O} (h : Ad w W a n l p) (hb : Below W.heap.size W W') : Ad w W' a n l p := ⟨h.box.below hb, h.ol.below hb, h.old.trans (hb.mono h.old.size)⟩
def R (w : World) (a : Option Addr) (n : Nat) (l : List O) (p : O) (u : Value) (W : World) : Prop := ∃ k : Nat, u = .int .i64 (k : Int) ∧ k ≤ n ∧ Hid (∀ x ∈ l.take k, V.hasB x.v p.r p.s = false) ∧ Hid (Ad w W a n l p)
structure Tw (w W : World) (a : Option Addr) (n : Nat) (l : List O) (p : O) (g7 g8 : Nat) (v7 v8 : Array Value) (a7 a8 : Option Addr) (n7 n8 : Nat) (ls7 ls8 : List (Nat × Nat)) : Prop where
  ad : Ad w W a n l p
  v7 : Blk W g7 44 v7
  v8 : Blk W g8 44 v8
  l7 : GL W 2 a7 n7 (ls7.map ln)
  l8 : GL W 2 a8 n8 (ls8.map ln)
theorem Tw.below {w W W' : World} {a : Option Addr} {n : Nat} {l : List O} {p : O} {g7 g8 : Nat} {v7 v8 : Array Value} {a7 a8 : Option Addr} {n7 n8 : Nat} {ls7 ls8 : List (Nat × Nat)} (h : Tw w W a n l p g7 g8 v7 v8 a7 a8 n7 n8 ls7 ls8) (hb : Below W.heap.size W W') : Tw w W' a n l p g7 g8 v7 v8 a7 a8 n7 n8 ls7 ls8 :=
  ⟨h.ad.below hb, h.v7.below hb, h.v8.below hb, h.l7.below hb, h.l8.below hb⟩
def R2 (w8 : World) (it : Nat) (ls7 : List (Nat × Nat)) (n7 : Nat) (had others i : Value) (W : World) : Prop :=
  ∃ (j : Nat) (ao : Option Addr) (m cap : Nat), had = .int .u32 (hadTo it (ls7.take j) : Int) ∧ others = .slice ao m cap ∧ i = .int .i64 (j : Int) ∧ j ≤ n7 ∧ Hid (OwnG W 51 2 w8.heap.size ao m cap ((oth it (ls7.take j)).map ln)) ∧ Hid (Below w8.heap.size w8 W)
def R3 (w9 : World) (it : Nat) (ls8 : List (Nat × Nat)) (n8 : Nat) (others fd i : Value) (W : World) : Prop :=
  ∃ (j : Nat) (ao : Option Addr) (m cap : Nat) (fb : Bool), others = .slice ao m cap ∧ fd = .bool fb ∧ i = .int .i64 (j : Int) ∧ j ≤ n8 ∧ m ≤ cap ∧ Hid (fb = true ↔ ∃ x ∈ ls8.take j, x.1 = it) ∧ Hid (GL W 2 ao m (((oth it ls8).drop (oth it (ls8.take j)).length).map ln)) ∧ Hid (Below w9.heap.size w9 W)
set_option maxHeartbeats 8000000 in
set_option maxRecDepth 100000 in
theorem walk (a : Option Addr) (n cap : Nat) (l : List O) (p : O) (w : World) (hlen : n ≤ maxLen) (hl : OL w a n l) : Calls Try.prog 7 #[.slice a n cap, .agg p.arr] w (Says (.bool true) w) := by
  obtain ⟨zo, ho⟩ : ∃ z, O.zero = z := ⟨_, rfl⟩
  have HO := Lib.hid ho
  have hb1 := fun (o : O) (w : World) => box40 o w
  have HT : Hid (Ad w (w.alloc (.cells p.arr 40)) a n l p) := Lib.hid ⟨Blk.new _ _ _, hl.below (below_one _ _), below_one _ _⟩
  have hlen2 : n ≤ 9223372036854775807 := by unfold maxLen at hlen; omega
  have HLEN := Lib.hid (OL.len' hl)
  clear hl hlen ho
  go_enter Try.func7, Try.ntmps7
  go_wp2_with fail
  clear hb1
  generalize w.alloc (.cells p.arr 40) = w0 at HT
  refine (alive_any _).mono ?_
  rintro e w1 ⟨rfl, hb⟩
  have HT1 := Lib.hid (HT.out.below hb)
  clear hb HT
  by_cases hgt : 40 < n
  · go_wp2_with fail
    go_ret
    exact ⟨rfl, HT1.out.old⟩
  have c2 := oc2 HT1.out.box
  by_cases hk1 : p.k = 1
  case neg =>
    have q1 : ((p.k : Int) != 1) = true := by simp; omega
    clear hk1
    go_wp2_with fail
    go_ret
    exact ⟨rfl, HT1.out.old⟩
  have HK1 := Lib.hid hk1
  have q1 : ((p.k : Int) != 1) = false := by simp; omega
  clear hk1
  go_wp2_with fail
  clear c2 q1
  go_loopw [28] (R w a n l p) (fun u _ => n - (numI u).toNat)
  case atStart => exact ⟨0, rfl, Nat.zero_le _, Lib.hid (fun o h => by simp at h), HT1⟩
  case round =>
    obtain ⟨k, rfl, hk, HF, HS⟩ := hrel
    clear HT1
    by_cases hlt : k < n
    · obtain ⟨b, off, x, rfl, hx, hr⟩ := OL.at HS.out.ol hlt
      have HX := Lib.hid hx
      have HR := Lib.hid hr
      clear hx hr
      go_wp2_with (first | (refine wpList_run rfl (exec_idxO (i := k) rfl rfl rfl rfl hlt) ?_) | (refine wpList_run rfl (exec_ldO rfl rfl HR.out) ?_) | (refine wpList_run rfl (exec_alloc40z HO.out rfl) ?_) | (refine wpList_stop40 rfl ?_))
      refine ⟨?_⟩
      refine wpList_void rfl rfl (exec_store40 (p := zo) (u := x) rfl rfl rfl (Blk.new wr 40 zo.arr)) ?_
      have H1 : Hid (Ow wr ((wr.alloc (.cells zo.arr 40)).setRow wr.heap.size x.arr) x) := Lib.hid ⟨olaid_blk wr zo x, olaid_old wr zo x⟩
      generalize (wr.alloc (.cells zo.arr 40)).setRow wr.heap.size x.arr = w4 at H1
      have HS4 := Lib.hid (HS.out.below H1.out.old)
      go_wp2_with (first | (refine wpList_run rfl (exec_ctx (p := x) rfl rfl H1.out.one) ?_) | (refine wpList_run rfl (exec_dot (p := p) rfl rfl HS4.out.box) ?_))
      refine (rhas_any x.v p.r p.s _ p.hr p.hs).mono ?_
      rintro e w5 ⟨rfl, hb5⟩
      have HS5 := Lib.hid (HS4.out.below hb5)
      clear hb5 HS4 H1 HR
      cases hh : V.hasB x.v p.r p.s
      · have HFN : Hid (∀ x ∈ l.take (k + 1), V.hasB x.v p.r p.s = false) := Lib.hid (fun o ho => by
          rw [List.take_add_one, HX.out] at ho
          rcases List.mem_append.1 ho with ho | ho
          · exact HF.out o ho
          · obtain rfl : o = x := by simpa using ho
            exact hh)
        clear hh
        go_wp2_with fail
        go_roundw
        case rel => exact ⟨k + 1, by go_num, hlt, HFN, HS5⟩
        case measure => simp [numI]; omega
      · clear hh
        go_wp2_with fail
        go_ret
        exact ⟨rfl, HS5.out.old⟩
    · obtain rfl : k = n := by omega
      have HFA : Hid (∀ x ∈ l, V.hasB x.v p.r p.s = false) := Lib.hid (by
        have h := HF.out
        rw [List.take_of_length_le (by rw [HLEN.out]; omega)] at h
        exact h)
      clear HF
      go_wp2_with (first | (refine wpList_run rfl (exec_ctx (p := p) rfl rfl HS.out.box) ?_) | (refine wpList_run rfl (exec_dot (p := p) rfl rfl HS.out.box) ?_))
      refine (rhas_any p.v p.r p.s _ p.hr p.hs).mono ?_
      rintro e w6 ⟨rfl, hb6⟩
      have HS6 := Lib.hid (HS.out.below hb6)
      clear hb6 HS
      cases hh : V.hasB p.v p.r p.s
      case true =>
        clear hh
        go_wp2_with fail
        go_ret
        exact ⟨rfl, HS6.out.old⟩
      have HSELF := Lib.hid hh
      clear hh
      have c3 := oc3 HS6.out.box
      go_wp2_with fail
      refine (view_any HS6.out.ol (by omega) p.c).mono ?_
      rintro e w7 ⟨its, a7, cap7, hit, rfl, hown, hb⟩
      obtain ⟨L, hL⟩ : ∃ L, l.filter (fun o => decide (o.c = p.c)) = L := ⟨_, rfl⟩
      rw [hL] at hit hown ⊢
      have HFL : Hid ((l ++ [p]).filter (fun o => decide (o.c = p.c)) = L ++ [p]) := Lib.hid (by rw [filter_new, hL])
      have HFR : Hid (Fresh_ L p) := Lib.hid ⟨HK1.out, fun x hx => HFA.out x (by rw [← hL] at hx; exact (List.mem_filter.1 hx).1), HSELF.out⟩
      have HI := Lib.hid hit
      have HS7 := Lib.hid (HS6.out.below hb)
      have HG7 := Lib.hid hown.gl
      clear hit hown hb HS6 HFA HSELF HK1 hL c3
      obtain ⟨o7, ho7⟩ : ∃ o, outTo L L.length = o := ⟨_, rfl⟩
      obtain ⟨t7, ht7⟩ : ∃ t, tkTo L L.length = t := ⟨_, rfl⟩
      have HO7 := Lib.hid ho7
      have HT7 := Lib.hid ht7
      obtain ⟨n7, hn7⟩ : ∃ m, its.length = m := ⟨_, rfl⟩
      have HN7 := Lib.hid hn7
      rw [ho7, ht7, hn7]
      rw [hn7] at HG7
      clear ho7 ht7 hn7
      unfold viewV
      go_upto_region 14 with fail
      have HSA : Hid (Ad w (w7.alloc (.cells #[.int .u16 (p.c : Int), .slice a7 n7 cap7, .bool o7, .int .u32 (t7 : Int)] 44)) a k l p) := Lib.hid (HS7.out.below (below_one _ _))
      have HVA : Hid (Blk (w7.alloc (.cells #[.int .u16 (p.c : Int), .slice a7 n7 cap7, .bool o7, .int .u32 (t7 : Int)] 44)) w7.heap.size 44 (viewV p.c (.slice a7 n7 cap7) o7 t7)) := Lib.hid (Blk.new _ _ _)
      have HGA : Hid (GL (w7.alloc (.cells #[.int .u16 (p.c : Int), .slice a7 n7 cap7, .bool o7, .int .u32 (t7 : Int)] 44)) 2 a7 n7 (its.map (lineCs L))) := Lib.hid (HG7.out.below (below_one _ _))
      generalize w7.alloc (.cells #[.int .u16 (p.c : Int), .slice a7 n7 cap7, .bool o7, .int .u32 (t7 : Int)] 44) = wa at HSA HVA HGA
      generalize w7.heap.size = g7 at HVA
      clear HS7 HG7
      refine wp_cut (fun act a' w' => ∃ a1 c1 g3 a4 c4 its2 a8 c8 g8, a' = (((((((((act.put (some 47) (.slice a k cap)).put (some 48) (.slice a1 k c1)).put (some 49) (.agg p.arr)).put (some 50) (.slice (some ⟨g3, 0, none⟩) 1 1)).put (some 51) (.slice a4 (k + 1) c4)).put (some 52) (.pointer (some ⟨w.heap.size, 3, none⟩))).put (some 53) (.int .u16 (p.c : Int))).put (some 54) (.agg (viewV p.c (.slice a8 its2.length c8) (outTo (L ++ [p]) (L ++ [p]).length) (tkTo (L ++ [p]) (L ++ [p]).length)))).put (some 8) (.pointer (some ⟨g8, 0, none⟩))) ∧ Items (L ++ [p]) its2 ∧ Hid (Blk w' g8 44 (viewV p.c (.slice a8 its2.length c8) (outTo (L ++ [p]) (L ++ [p]).length) (tkTo (L ++ [p]) (L ++ [p]).length))) ∧ Hid (GL w' 2 a8 its2.length (its2.map (lineCs (L ++ [p])))) ∧ Hid (Below wa.heap.size wa w')) ?cont ?reg
      case reg =>
        refine wp_region_held_drew (S := fun W => Below wa.heap.size wa W) (by kernel_rfl) (drew_below wa) (fun hS => ?_)
        refine held_take 0 47 (.slice a k cap) rfl rfl (by kernel_rfl) (by kernel_rfl) (by kernel_rfl) (fun _ _ _ h => by cases h.1) (by kernel_rfl) (fun _ _ => rfl) hS ?_
        simp only [Act.put, List.setIfInBounds_toArray, List.set_cons_zero, List.set_cons_succ]
        refine held_take 2 49 (.agg p.arr) rfl rfl (by kernel_rfl) (by kernel_rfl) (by kernel_rfl) (fun _ _ _ h => by cases h.1) (by kernel_rfl) (fun _ h => exec_load40 (p := p) rfl rfl (HSA.out.below h).box) hS ?_
        simp only [Act.put, List.setIfInBounds_toArray, List.set_cons_zero, List.set_cons_succ]
        refine held_take 5 52 (.pointer (some ⟨w.heap.size, 3, none⟩)) rfl rfl (by kernel_rfl) (by kernel_rfl) (by kernel_rfl) (fun _ _ _ h => by cases h.1) (by kernel_rfl) (fun _ _ => (by kernel_rfl)) hS ?_
        simp only [Act.put, List.setIfInBounds_toArray, List.set_cons_zero, List.set_cons_succ]
        refine held_take 6 53 (.int .u16 (p.c : Int)) rfl rfl (by kernel_rfl) (by kernel_rfl) (by kernel_rfl) (fun _ _ _ h => by cases h.1) (by kernel_rfl) (fun _ h => exec_cell rfl rfl (load_cell (by kernel_rfl) (oc3 (HSA.out.below h).box))) hS ?_
        simp only [Act.put, List.setIfInBounds_toArray, List.set_cons_zero, List.set_cons_succ]
        refine wpAnyH_ready (rs := [1, 3, 8]) (by kernel_rfl) (by simp) ?_
        refine br_copy 1 48 (B := wa.heap.size) (l := l) rfl rfl (by kernel_rfl) rfl rfl rfl (HSA.out.below hS).ol (by omega) hS.size (fun _ hb => hS.trans (hb.mono hS.size)) (fun a1 c1 y1 A1 hb hS => ?_) ?_
        · clear hb
          simp only [Act.put, List.setIfInBounds_toArray, List.set_cons_zero, List.set_cons_succ]
          refine wpAnyH_ready (rs := [3, 8]) (by kernel_rfl) (by simp) ?_
          refine br_new 3 50 (fun g => .slice (some ⟨g, 0, none⟩) 1 1) (cs := p.arr) (t := 40) rfl rfl (by kernel_rfl) (exec_bsO (p := p) rfl rfl) (fun _ hb => hS.trans (hb.mono hS.size)) (fun g3 y2 _ G3 hb hS => ?_) ?_
          · replace A1 := A1.below hb
            clear hb
            simp only [Act.put, List.setIfInBounds_toArray, List.set_cons_zero, List.set_cons_succ]
            refine wpAnyH_ready (rs := [4, 8]) (by kernel_rfl) (by simp) ?_
            refine br_app 4 51 22 40 23 84 info40b und22 rfl (by decide) (by decide) rfl rfl (by kernel_rfl) rfl rfl rfl A1 G3 p.arr_size (one_cs p) (by omega) hS.size (fun _ hk => hS.trans (hk.below hS.size (fun i ⟨ad, e, e2⟩ => by rw [e2]; exact (A1.lt ad e).1))) (fun a4 c4 y3 A4 hk hl hS => ?_) ?_
            · replace A4 := OwnO.snoc A4
              clear hk hl
              simp only [Act.put, List.setIfInBounds_toArray, List.set_cons_zero, List.set_cons_succ]
              refine wpAnyH_ready (rs := [7, 8]) (by kernel_rfl) (by simp) ?_
              refine br_callP 7 54 19 #[.slice a4 (k + 1) c4, .int .u16 (p.c : Int)] rfl rfl (by kernel_rfl) (by kernel_rfl) (view_lines A4.gl (by omega) p.c HFL.out) (fun e y4 hP => ?_) ?_
              · obtain ⟨its2, a8, c8, hI2, rfl, V7, hb⟩ := hP
                replace A4 := A4.below hb
                refine ⟨_, rfl, hS.trans (hb.mono hS.size), fun hS => ?_⟩
                simp only [Act.put, List.setIfInBounds_toArray, List.set_cons_zero, List.set_cons_succ]
                refine wpAnyH_ready (rs := [8]) (by kernel_rfl) (by simp) ?_
                refine br_new 8 8 (fun g => .pointer (some ⟨g, 0, none⟩)) (cs := viewV 0 (.slice none 0 0) false 0) (t := 44) rfl rfl (by kernel_rfl) (exec_alloc44 rfl) (fun _ hb => hS.trans (hb.mono hS.size)) (fun g8 y5 Z8l Z8 hb hS2 => ?_) ?_
                · replace V7 := V7.below hb
                  have Z8lt := Nat.le_trans hS.size Z8l
                  replace hS := hS2
                  clear hb hS2 Z8l
                  simp only [Act.put, List.setIfInBounds_toArray, List.set_cons_zero, List.set_cons_succ]
                  refine held_void 9 rfl rfl (by kernel_rfl) (by kernel_rfl) (exec_store44 rfl rfl rfl Z8) (hS.trans ((Kept.setRow y5 g8 _).below hS.size (fun i e => by rw [e]; exact Z8lt))) ?_
                  refine wpAnyH_done (by kernel_rfl) ?_ _
                  exact ⟨rfl, a1, c1, g3, a4, c4, its2, a8, c8, g8, rfl, hI2, Lib.hid Z8.row, Lib.hid (V7.keep (Kept.setRow y5 g8 _) (fun ad e h => V7.ne Z8 (by decide) ⟨ad, e, h.symm⟩)).gl, Lib.hid (hS.trans ((Kept.setRow y5 g8 _).below hS.size (fun i e => by rw [e]; exact Z8lt)))⟩
                exact AllReadyH.nil
              refine br_new 8 8 (fun g => .pointer (some ⟨g, 0, none⟩)) (cs := viewV 0 (.slice none 0 0) false 0) (t := 44) rfl rfl (by kernel_rfl) (exec_alloc44 rfl) (fun _ hb => hS.trans (hb.mono hS.size)) (fun g8 y4 Z8l Z8 hb hS2 => ?_) ?_
              · replace A4 := A4.below hb
                have Z8lt := Nat.le_trans hS.size Z8l
                replace hS := hS2
                clear hb hS2 Z8l
                simp only [Act.put, List.setIfInBounds_toArray, List.set_cons_zero, List.set_cons_succ]
                refine wpAnyH_ready (rs := [7]) (by kernel_rfl) (by simp) ?_
                refine br_callP 7 54 19 #[.slice a4 (k + 1) c4, .int .u16 (p.c : Int)] rfl rfl (by kernel_rfl) (by kernel_rfl) (view_lines A4.gl (by omega) p.c HFL.out) (fun e y5 hP => ?_) ?_
                · obtain ⟨its2, a8, c8, hI2, rfl, V7, hb⟩ := hP
                  replace A4 := A4.below hb
                  replace Z8 := Z8.below hb
                  refine ⟨_, rfl, hS.trans (hb.mono hS.size), fun hS => ?_⟩
                  simp only [Act.put, List.setIfInBounds_toArray, List.set_cons_zero, List.set_cons_succ]
                  refine held_void 9 rfl rfl (by kernel_rfl) (by kernel_rfl) (exec_store44 rfl rfl rfl Z8) (hS.trans ((Kept.setRow y5 g8 _).below hS.size (fun i e => by rw [e]; exact Z8lt))) ?_
                  refine wpAnyH_done (by kernel_rfl) ?_ _
                  exact ⟨rfl, a1, c1, g3, a4, c4, its2, a8, c8, g8, rfl, hI2, Lib.hid Z8.row, Lib.hid (V7.keep (Kept.setRow y5 g8 _) (fun ad e h => V7.ne Z8 (by decide) ⟨ad, e, h.symm⟩)).gl, Lib.hid (hS.trans ((Kept.setRow y5 g8 _).below hS.size (fun i e => by rw [e]; exact Z8lt)))⟩
                exact AllReadyH.nil
              exact AllReadyH.nil
            refine br_new 8 8 (fun g => .pointer (some ⟨g, 0, none⟩)) (cs := viewV 0 (.slice none 0 0) false 0) (t := 44) rfl rfl (by kernel_rfl) (exec_alloc44 rfl) (fun _ hb => hS.trans (hb.mono hS.size)) (fun g8 y3 Z8l Z8 hb hS2 => ?_) ?_
            · replace A1 := A1.below hb
              replace G3 := G3.below hb
              have Z8lt := Nat.le_trans hS.size Z8l
              replace hS := hS2
              clear hb hS2 Z8l
              simp only [Act.put, List.setIfInBounds_toArray, List.set_cons_zero, List.set_cons_succ]
              refine wpAnyH_ready (rs := [4]) (by kernel_rfl) (by simp) ?_
              refine br_app 4 51 22 40 23 84 info40b und22 rfl (by decide) (by decide) rfl rfl (by kernel_rfl) rfl rfl rfl A1 G3 p.arr_size (one_cs p) (by omega) hS.size (fun _ hk => hS.trans (hk.below hS.size (fun i ⟨ad, e, e2⟩ => by rw [e2]; exact (A1.lt ad e).1))) (fun a4 c4 y4 A4 hk hl hS => ?_) ?_
              · replace Z8 := Z8.kept hk (A1.ne Z8 (by decide))
                replace A4 := OwnO.snoc A4
                clear hk hl
                simp only [Act.put, List.setIfInBounds_toArray, List.set_cons_zero, List.set_cons_succ]
                refine wpAnyH_ready (rs := [7]) (by kernel_rfl) (by simp) ?_
                refine br_callP 7 54 19 #[.slice a4 (k + 1) c4, .int .u16 (p.c : Int)] rfl rfl (by kernel_rfl) (by kernel_rfl) (view_lines A4.gl (by omega) p.c HFL.out) (fun e y5 hP => ?_) ?_
                · obtain ⟨its2, a8, c8, hI2, rfl, V7, hb⟩ := hP
                  replace A4 := A4.below hb
                  replace Z8 := Z8.below hb
                  refine ⟨_, rfl, hS.trans (hb.mono hS.size), fun hS => ?_⟩
                  simp only [Act.put, List.setIfInBounds_toArray, List.set_cons_zero, List.set_cons_succ]
                  refine held_void 9 rfl rfl (by kernel_rfl) (by kernel_rfl) (exec_store44 rfl rfl rfl Z8) (hS.trans ((Kept.setRow y5 g8 _).below hS.size (fun i e => by rw [e]; exact Z8lt))) ?_
                  refine wpAnyH_done (by kernel_rfl) ?_ _
                  exact ⟨rfl, a1, c1, g3, a4, c4, its2, a8, c8, g8, rfl, hI2, Lib.hid Z8.row, Lib.hid (V7.keep (Kept.setRow y5 g8 _) (fun ad e h => V7.ne Z8 (by decide) ⟨ad, e, h.symm⟩)).gl, Lib.hid (hS.trans ((Kept.setRow y5 g8 _).below hS.size (fun i e => by rw [e]; exact Z8lt)))⟩
                exact AllReadyH.nil
              exact AllReadyH.nil
            exact AllReadyH.nil
          refine br_new 8 8 (fun g => .pointer (some ⟨g, 0, none⟩)) (cs := viewV 0 (.slice none 0 0) false 0) (t := 44) rfl rfl (by kernel_rfl) (exec_alloc44 rfl) (fun _ hb => hS.trans (hb.mono hS.size)) (fun g8 y2 Z8l Z8 hb hS2 => ?_) ?_
          · replace A1 := A1.below hb
            have Z8lt := Nat.le_trans hS.size Z8l
            replace hS := hS2
            clear hb hS2 Z8l
            simp only [Act.put, List.setIfInBounds_toArray, List.set_cons_zero, List.set_cons_succ]
            refine wpAnyH_ready (rs := [3]) (by kernel_rfl) (by simp) ?_
            refine br_new 3 50 (fun g => .slice (some ⟨g, 0, none⟩) 1 1) (cs := p.arr) (t := 40) rfl rfl (by kernel_rfl) (exec_bsO (p := p) rfl rfl) (fun _ hb => hS.trans (hb.mono hS.size)) (fun g3 y3 _ G3 hb hS => ?_) ?_
            · replace A1 := A1.below hb
              replace Z8 := Z8.below hb
              clear hb
              simp only [Act.put, List.setIfInBounds_toArray, List.set_cons_zero, List.set_cons_succ]
              refine wpAnyH_ready (rs := [4]) (by kernel_rfl) (by simp) ?_
              refine br_app 4 51 22 40 23 84 info40b und22 rfl (by decide) (by decide) rfl rfl (by kernel_rfl) rfl rfl rfl A1 G3 p.arr_size (one_cs p) (by omega) hS.size (fun _ hk => hS.trans (hk.below hS.size (fun i ⟨ad, e, e2⟩ => by rw [e2]; exact (A1.lt ad e).1))) (fun a4 c4 y4 A4 hk hl hS => ?_) ?_
              · replace Z8 := Z8.kept hk (A1.ne Z8 (by decide))
                replace A4 := OwnO.snoc A4
                clear hk hl
                simp only [Act.put, List.setIfInBounds_toArray, List.set_cons_zero, List.set_cons_succ]
                refine wpAnyH_ready (rs := [7]) (by kernel_rfl) (by simp) ?_
                refine br_callP 7 54 19 #[.slice a4 (k + 1) c4, .int .u16 (p.c : Int)] rfl rfl (by kernel_rfl) (by kernel_rfl) (view_lines A4.gl (by omega) p.c HFL.out) (fun e y5 hP => ?_) ?_
                · obtain ⟨its2, a8, c8, hI2, rfl, V7, hb⟩ := hP
                  replace A4 := A4.below hb
                  replace Z8 := Z8.below hb
                  refine ⟨_, rfl, hS.trans (hb.mono hS.size), fun hS => ?_⟩
                  simp only [Act.put, List.setIfInBounds_toArray, List.set_cons_zero, List.set_cons_succ]
                  refine held_void 9 rfl rfl (by kernel_rfl) (by kernel_rfl) (exec_store44 rfl rfl rfl Z8) (hS.trans ((Kept.setRow y5 g8 _).below hS.size (fun i e => by rw [e]; exact Z8lt))) ?_
                  refine wpAnyH_done (by kernel_rfl) ?_ _
                  exact ⟨rfl, a1, c1, g3, a4, c4, its2, a8, c8, g8, rfl, hI2, Lib.hid Z8.row, Lib.hid (V7.keep (Kept.setRow y5 g8 _) (fun ad e h => V7.ne Z8 (by decide) ⟨ad, e, h.symm⟩)).gl, Lib.hid (hS.trans ((Kept.setRow y5 g8 _).below hS.size (fun i e => by rw [e]; exact Z8lt)))⟩
                exact AllReadyH.nil
              exact AllReadyH.nil
            exact AllReadyH.nil
          exact AllReadyH.nil
        refine br_new 3 50 (fun g => .slice (some ⟨g, 0, none⟩) 1 1) (cs := p.arr) (t := 40) rfl rfl (by kernel_rfl) (exec_bsO (p := p) rfl rfl) (fun _ hb => hS.trans (hb.mono hS.size)) (fun g3 y1 _ G3 hb hS => ?_) ?_
        · clear hb
          simp only [Act.put, List.setIfInBounds_toArray, List.set_cons_zero, List.set_cons_succ]
          refine wpAnyH_ready (rs := [1, 8]) (by kernel_rfl) (by simp) ?_
          refine br_copy 1 48 (B := wa.heap.size) (l := l) rfl rfl (by kernel_rfl) rfl rfl rfl (HSA.out.below hS).ol (by omega) hS.size (fun _ hb => hS.trans (hb.mono hS.size)) (fun a1 c1 y2 A1 hb hS => ?_) ?_
          · replace G3 := G3.below hb
            clear hb
            simp only [Act.put, List.setIfInBounds_toArray, List.set_cons_zero, List.set_cons_succ]
            refine wpAnyH_ready (rs := [4, 8]) (by kernel_rfl) (by simp) ?_
            refine br_app 4 51 22 40 23 84 info40b und22 rfl (by decide) (by decide) rfl rfl (by kernel_rfl) rfl rfl rfl A1 G3 p.arr_size (one_cs p) (by omega) hS.size (fun _ hk => hS.trans (hk.below hS.size (fun i ⟨ad, e, e2⟩ => by rw [e2]; exact (A1.lt ad e).1))) (fun a4 c4 y3 A4 hk hl hS => ?_) ?_
            · replace A4 := OwnO.snoc A4
              clear hk hl
              simp only [Act.put, List.setIfInBounds_toArray, List.set_cons_zero, List.set_cons_succ]
              refine wpAnyH_ready (rs := [7, 8]) (by kernel_rfl) (by simp) ?_
              refine br_callP 7 54 19 #[.slice a4 (k + 1) c4, .int .u16 (p.c : Int)] rfl rfl (by kernel_rfl) (by kernel_rfl) (view_lines A4.gl (by omega) p.c HFL.out) (fun e y4 hP => ?_) ?_
              · obtain ⟨its2, a8, c8, hI2, rfl, V7, hb⟩ := hP
                replace A4 := A4.below hb
                refine ⟨_, rfl, hS.trans (hb.mono hS.size), fun hS => ?_⟩
                simp only [Act.put, List.setIfInBounds_toArray, List.set_cons_zero, List.set_cons_succ]
                refine wpAnyH_ready (rs := [8]) (by kernel_rfl) (by simp) ?_
                refine br_new 8 8 (fun g => .pointer (some ⟨g, 0, none⟩)) (cs := viewV 0 (.slice none 0 0) false 0) (t := 44) rfl rfl (by kernel_rfl) (exec_alloc44 rfl) (fun _ hb => hS.trans (hb.mono hS.size)) (fun g8 y5 Z8l Z8 hb hS2 => ?_) ?_
                · replace V7 := V7.below hb
                  have Z8lt := Nat.le_trans hS.size Z8l
                  replace hS := hS2
                  clear hb hS2 Z8l
                  simp only [Act.put, List.setIfInBounds_toArray, List.set_cons_zero, List.set_cons_succ]
                  refine held_void 9 rfl rfl (by kernel_rfl) (by kernel_rfl) (exec_store44 rfl rfl rfl Z8) (hS.trans ((Kept.setRow y5 g8 _).below hS.size (fun i e => by rw [e]; exact Z8lt))) ?_
                  refine wpAnyH_done (by kernel_rfl) ?_ _
                  exact ⟨rfl, a1, c1, g3, a4, c4, its2, a8, c8, g8, rfl, hI2, Lib.hid Z8.row, Lib.hid (V7.keep (Kept.setRow y5 g8 _) (fun ad e h => V7.ne Z8 (by decide) ⟨ad, e, h.symm⟩)).gl, Lib.hid (hS.trans ((Kept.setRow y5 g8 _).below hS.size (fun i e => by rw [e]; exact Z8lt)))⟩
                exact AllReadyH.nil
              refine br_new 8 8 (fun g => .pointer (some ⟨g, 0, none⟩)) (cs := viewV 0 (.slice none 0 0) false 0) (t := 44) rfl rfl (by kernel_rfl) (exec_alloc44 rfl) (fun _ hb => hS.trans (hb.mono hS.size)) (fun g8 y4 Z8l Z8 hb hS2 => ?_) ?_
              · replace A4 := A4.below hb
                have Z8lt := Nat.le_trans hS.size Z8l
                replace hS := hS2
                clear hb hS2 Z8l
                simp only [Act.put, List.setIfInBounds_toArray, List.set_cons_zero, List.set_cons_succ]
                refine wpAnyH_ready (rs := [7]) (by kernel_rfl) (by simp) ?_
                refine br_callP 7 54 19 #[.slice a4 (k + 1) c4, .int .u16 (p.c : Int)] rfl rfl (by kernel_rfl) (by kernel_rfl) (view_lines A4.gl (by omega) p.c HFL.out) (fun e y5 hP => ?_) ?_
                · obtain ⟨its2, a8, c8, hI2, rfl, V7, hb⟩ := hP
                  replace A4 := A4.below hb
                  replace Z8 := Z8.below hb
                  refine ⟨_, rfl, hS.trans (hb.mono hS.size), fun hS => ?_⟩
                  simp only [Act.put, List.setIfInBounds_toArray, List.set_cons_zero, List.set_cons_succ]
                  refine held_void 9 rfl rfl (by kernel_rfl) (by kernel_rfl) (exec_store44 rfl rfl rfl Z8) (hS.trans ((Kept.setRow y5 g8 _).below hS.size (fun i e => by rw [e]; exact Z8lt))) ?_
                  refine wpAnyH_done (by kernel_rfl) ?_ _
                  exact ⟨rfl, a1, c1, g3, a4, c4, its2, a8, c8, g8, rfl, hI2, Lib.hid Z8.row, Lib.hid (V7.keep (Kept.setRow y5 g8 _) (fun ad e h => V7.ne Z8 (by decide) ⟨ad, e, h.symm⟩)).gl, Lib.hid (hS.trans ((Kept.setRow y5 g8 _).below hS.size (fun i e => by rw [e]; exact Z8lt)))⟩
                exact AllReadyH.nil
              exact AllReadyH.nil
            refine br_new 8 8 (fun g => .pointer (some ⟨g, 0, none⟩)) (cs := viewV 0 (.slice none 0 0) false 0) (t := 44) rfl rfl (by kernel_rfl) (exec_alloc44 rfl) (fun _ hb => hS.trans (hb.mono hS.size)) (fun g8 y3 Z8l Z8 hb hS2 => ?_) ?_
            · replace A1 := A1.below hb
              replace G3 := G3.below hb
              have Z8lt := Nat.le_trans hS.size Z8l
              replace hS := hS2
              clear hb hS2 Z8l
              simp only [Act.put, List.setIfInBounds_toArray, List.set_cons_zero, List.set_cons_succ]
              refine wpAnyH_ready (rs := [4]) (by kernel_rfl) (by simp) ?_
              refine br_app 4 51 22 40 23 84 info40b und22 rfl (by decide) (by decide) rfl rfl (by kernel_rfl) rfl rfl rfl A1 G3 p.arr_size (one_cs p) (by omega) hS.size (fun _ hk => hS.trans (hk.below hS.size (fun i ⟨ad, e, e2⟩ => by rw [e2]; exact (A1.lt ad e).1))) (fun a4 c4 y4 A4 hk hl hS => ?_) ?_
              · replace Z8 := Z8.kept hk (A1.ne Z8 (by decide))
                replace A4 := OwnO.snoc A4
                clear hk hl
                simp only [Act.put, List.setIfInBounds_toArray, List.set_cons_zero, List.set_cons_succ]
                refine wpAnyH_ready (rs := [7]) (by kernel_rfl) (by simp) ?_
                refine br_callP 7 54 19 #[.slice a4 (k + 1) c4, .int .u16 (p.c : Int)] rfl rfl (by kernel_rfl) (by kernel_rfl) (view_lines A4.gl (by omega) p.c HFL.out) (fun e y5 hP => ?_) ?_
                · obtain ⟨its2, a8, c8, hI2, rfl, V7, hb⟩ := hP
                  replace A4 := A4.below hb
                  replace Z8 := Z8.below hb
                  refine ⟨_, rfl, hS.trans (hb.mono hS.size), fun hS => ?_⟩
                  simp only [Act.put, List.setIfInBounds_toArray, List.set_cons_zero, List.set_cons_succ]
                  refine held_void 9 rfl rfl (by kernel_rfl) (by kernel_rfl) (exec_store44 rfl rfl rfl Z8) (hS.trans ((Kept.setRow y5 g8 _).below hS.size (fun i e => by rw [e]; exact Z8lt))) ?_
                  refine wpAnyH_done (by kernel_rfl) ?_ _
                  exact ⟨rfl, a1, c1, g3, a4, c4, its2, a8, c8, g8, rfl, hI2, Lib.hid Z8.row, Lib.hid (V7.keep (Kept.setRow y5 g8 _) (fun ad e h => V7.ne Z8 (by decide) ⟨ad, e, h.symm⟩)).gl, Lib.hid (hS.trans ((Kept.setRow y5 g8 _).below hS.size (fun i e => by rw [e]; exact Z8lt)))⟩
                exact AllReadyH.nil
              exact AllReadyH.nil
            exact AllReadyH.nil
          refine br_new 8 8 (fun g => .pointer (some ⟨g, 0, none⟩)) (cs := viewV 0 (.slice none 0 0) false 0) (t := 44) rfl rfl (by kernel_rfl) (exec_alloc44 rfl) (fun _ hb => hS.trans (hb.mono hS.size)) (fun g8 y2 Z8l Z8 hb hS2 => ?_) ?_
          · replace G3 := G3.below hb
            have Z8lt := Nat.le_trans hS.size Z8l
            replace hS := hS2
            clear hb hS2 Z8l
            simp only [Act.put, List.setIfInBounds_toArray, List.set_cons_zero, List.set_cons_succ]
            refine wpAnyH_ready (rs := [1]) (by kernel_rfl) (by simp) ?_
            refine br_copy 1 48 (B := wa.heap.size) (l := l) rfl rfl (by kernel_rfl) rfl rfl rfl (HSA.out.below hS).ol (by omega) hS.size (fun _ hb => hS.trans (hb.mono hS.size)) (fun a1 c1 y3 A1 hb hS => ?_) ?_
            · replace G3 := G3.below hb
              replace Z8 := Z8.below hb
              clear hb
              simp only [Act.put, List.setIfInBounds_toArray, List.set_cons_zero, List.set_cons_succ]
              refine wpAnyH_ready (rs := [4]) (by kernel_rfl) (by simp) ?_
              refine br_app 4 51 22 40 23 84 info40b und22 rfl (by decide) (by decide) rfl rfl (by kernel_rfl) rfl rfl rfl A1 G3 p.arr_size (one_cs p) (by omega) hS.size (fun _ hk => hS.trans (hk.below hS.size (fun i ⟨ad, e, e2⟩ => by rw [e2]; exact (A1.lt ad e).1))) (fun a4 c4 y4 A4 hk hl hS => ?_) ?_
              · replace Z8 := Z8.kept hk (A1.ne Z8 (by decide))
                replace A4 := OwnO.snoc A4
                clear hk hl
                simp only [Act.put, List.setIfInBounds_toArray, List.set_cons_zero, List.set_cons_succ]
                refine wpAnyH_ready (rs := [7]) (by kernel_rfl) (by simp) ?_
                refine br_callP 7 54 19 #[.slice a4 (k + 1) c4, .int .u16 (p.c : Int)] rfl rfl (by kernel_rfl) (by kernel_rfl) (view_lines A4.gl (by omega) p.c HFL.out) (fun e y5 hP => ?_) ?_
                · obtain ⟨its2, a8, c8, hI2, rfl, V7, hb⟩ := hP
                  replace A4 := A4.below hb
                  replace Z8 := Z8.below hb
                  refine ⟨_, rfl, hS.trans (hb.mono hS.size), fun hS => ?_⟩
                  simp only [Act.put, List.setIfInBounds_toArray, List.set_cons_zero, List.set_cons_succ]
                  refine held_void 9 rfl rfl (by kernel_rfl) (by kernel_rfl) (exec_store44 rfl rfl rfl Z8) (hS.trans ((Kept.setRow y5 g8 _).below hS.size (fun i e => by rw [e]; exact Z8lt))) ?_
                  refine wpAnyH_done (by kernel_rfl) ?_ _
                  exact ⟨rfl, a1, c1, g3, a4, c4, its2, a8, c8, g8, rfl, hI2, Lib.hid Z8.row, Lib.hid (V7.keep (Kept.setRow y5 g8 _) (fun ad e h => V7.ne Z8 (by decide) ⟨ad, e, h.symm⟩)).gl, Lib.hid (hS.trans ((Kept.setRow y5 g8 _).below hS.size (fun i e => by rw [e]; exact Z8lt)))⟩
                exact AllReadyH.nil
              exact AllReadyH.nil
            exact AllReadyH.nil
          exact AllReadyH.nil
        refine br_new 8 8 (fun g => .pointer (some ⟨g, 0, none⟩)) (cs := viewV 0 (.slice none 0 0) false 0) (t := 44) rfl rfl (by kernel_rfl) (exec_alloc44 rfl) (fun _ hb => hS.trans (hb.mono hS.size)) (fun g8 y1 Z8l Z8 hb hS2 => ?_) ?_
        · have Z8lt := Nat.le_trans hS.size Z8l
          replace hS := hS2
          clear hb hS2 Z8l
          simp only [Act.put, List.setIfInBounds_toArray, List.set_cons_zero, List.set_cons_succ]
          refine wpAnyH_ready (rs := [1, 3]) (by kernel_rfl) (by simp) ?_
          refine br_copy 1 48 (B := wa.heap.size) (l := l) rfl rfl (by kernel_rfl) rfl rfl rfl (HSA.out.below hS).ol (by omega) hS.size (fun _ hb => hS.trans (hb.mono hS.size)) (fun a1 c1 y2 A1 hb hS => ?_) ?_
          · replace Z8 := Z8.below hb
            clear hb
            simp only [Act.put, List.setIfInBounds_toArray, List.set_cons_zero, List.set_cons_succ]
            refine wpAnyH_ready (rs := [3]) (by kernel_rfl) (by simp) ?_
            refine br_new 3 50 (fun g => .slice (some ⟨g, 0, none⟩) 1 1) (cs := p.arr) (t := 40) rfl rfl (by kernel_rfl) (exec_bsO (p := p) rfl rfl) (fun _ hb => hS.trans (hb.mono hS.size)) (fun g3 y3 _ G3 hb hS => ?_) ?_
            · replace A1 := A1.below hb
              replace Z8 := Z8.below hb
              clear hb
              simp only [Act.put, List.setIfInBounds_toArray, List.set_cons_zero, List.set_cons_succ]
              refine wpAnyH_ready (rs := [4]) (by kernel_rfl) (by simp) ?_
              refine br_app 4 51 22 40 23 84 info40b und22 rfl (by decide) (by decide) rfl rfl (by kernel_rfl) rfl rfl rfl A1 G3 p.arr_size (one_cs p) (by omega) hS.size (fun _ hk => hS.trans (hk.below hS.size (fun i ⟨ad, e, e2⟩ => by rw [e2]; exact (A1.lt ad e).1))) (fun a4 c4 y4 A4 hk hl hS => ?_) ?_
              · replace Z8 := Z8.kept hk (A1.ne Z8 (by decide))
                replace A4 := OwnO.snoc A4
                clear hk hl
                simp only [Act.put, List.setIfInBounds_toArray, List.set_cons_zero, List.set_cons_succ]
                refine wpAnyH_ready (rs := [7]) (by kernel_rfl) (by simp) ?_
                refine br_callP 7 54 19 #[.slice a4 (k + 1) c4, .int .u16 (p.c : Int)] rfl rfl (by kernel_rfl) (by kernel_rfl) (view_lines A4.gl (by omega) p.c HFL.out) (fun e y5 hP => ?_) ?_
                · obtain ⟨its2, a8, c8, hI2, rfl, V7, hb⟩ := hP
                  replace A4 := A4.below hb
                  replace Z8 := Z8.below hb
                  refine ⟨_, rfl, hS.trans (hb.mono hS.size), fun hS => ?_⟩
                  simp only [Act.put, List.setIfInBounds_toArray, List.set_cons_zero, List.set_cons_succ]
                  refine held_void 9 rfl rfl (by kernel_rfl) (by kernel_rfl) (exec_store44 rfl rfl rfl Z8) (hS.trans ((Kept.setRow y5 g8 _).below hS.size (fun i e => by rw [e]; exact Z8lt))) ?_
                  refine wpAnyH_done (by kernel_rfl) ?_ _
                  exact ⟨rfl, a1, c1, g3, a4, c4, its2, a8, c8, g8, rfl, hI2, Lib.hid Z8.row, Lib.hid (V7.keep (Kept.setRow y5 g8 _) (fun ad e h => V7.ne Z8 (by decide) ⟨ad, e, h.symm⟩)).gl, Lib.hid (hS.trans ((Kept.setRow y5 g8 _).below hS.size (fun i e => by rw [e]; exact Z8lt)))⟩
                exact AllReadyH.nil
              exact AllReadyH.nil
            exact AllReadyH.nil
          refine br_new 3 50 (fun g => .slice (some ⟨g, 0, none⟩) 1 1) (cs := p.arr) (t := 40) rfl rfl (by kernel_rfl) (exec_bsO (p := p) rfl rfl) (fun _ hb => hS.trans (hb.mono hS.size)) (fun g3 y2 _ G3 hb hS => ?_) ?_
          · replace Z8 := Z8.below hb
            clear hb
            simp only [Act.put, List.setIfInBounds_toArray, List.set_cons_zero, List.set_cons_succ]
            refine wpAnyH_ready (rs := [1]) (by kernel_rfl) (by simp) ?_
            refine br_copy 1 48 (B := wa.heap.size) (l := l) rfl rfl (by kernel_rfl) rfl rfl rfl (HSA.out.below hS).ol (by omega) hS.size (fun _ hb => hS.trans (hb.mono hS.size)) (fun a1 c1 y3 A1 hb hS => ?_) ?_
            · replace G3 := G3.below hb
              replace Z8 := Z8.below hb
              clear hb
              simp only [Act.put, List.setIfInBounds_toArray, List.set_cons_zero, List.set_cons_succ]
              refine wpAnyH_ready (rs := [4]) (by kernel_rfl) (by simp) ?_
              refine br_app 4 51 22 40 23 84 info40b und22 rfl (by decide) (by decide) rfl rfl (by kernel_rfl) rfl rfl rfl A1 G3 p.arr_size (one_cs p) (by omega) hS.size (fun _ hk => hS.trans (hk.below hS.size (fun i ⟨ad, e, e2⟩ => by rw [e2]; exact (A1.lt ad e).1))) (fun a4 c4 y4 A4 hk hl hS => ?_) ?_
              · replace Z8 := Z8.kept hk (A1.ne Z8 (by decide))
                replace A4 := OwnO.snoc A4
                clear hk hl
                simp only [Act.put, List.setIfInBounds_toArray, List.set_cons_zero, List.set_cons_succ]
                refine wpAnyH_ready (rs := [7]) (by kernel_rfl) (by simp) ?_
                refine br_callP 7 54 19 #[.slice a4 (k + 1) c4, .int .u16 (p.c : Int)] rfl rfl (by kernel_rfl) (by kernel_rfl) (view_lines A4.gl (by omega) p.c HFL.out) (fun e y5 hP => ?_) ?_
                · obtain ⟨its2, a8, c8, hI2, rfl, V7, hb⟩ := hP
                  replace A4 := A4.below hb
                  replace Z8 := Z8.below hb
                  refine ⟨_, rfl, hS.trans (hb.mono hS.size), fun hS => ?_⟩
                  simp only [Act.put, List.setIfInBounds_toArray, List.set_cons_zero, List.set_cons_succ]
                  refine held_void 9 rfl rfl (by kernel_rfl) (by kernel_rfl) (exec_store44 rfl rfl rfl Z8) (hS.trans ((Kept.setRow y5 g8 _).below hS.size (fun i e => by rw [e]; exact Z8lt))) ?_
                  refine wpAnyH_done (by kernel_rfl) ?_ _
                  exact ⟨rfl, a1, c1, g3, a4, c4, its2, a8, c8, g8, rfl, hI2, Lib.hid Z8.row, Lib.hid (V7.keep (Kept.setRow y5 g8 _) (fun ad e h => V7.ne Z8 (by decide) ⟨ad, e, h.symm⟩)).gl, Lib.hid (hS.trans ((Kept.setRow y5 g8 _).below hS.size (fun i e => by rw [e]; exact Z8lt)))⟩
                exact AllReadyH.nil
              exact AllReadyH.nil
            exact AllReadyH.nil
          exact AllReadyH.nil
        exact AllReadyH.nil
      case cont =>
        rintro _ w8 ⟨a1, c1, g3, a4, c4, its2, a8, c8, g8, rfl, hI2, HV8, HG8, HB8⟩
        simp only [Act.put, List.setIfInBounds_toArray, List.set_cons_zero, List.set_cons_succ]
        have HP : Hid (Plain p.i p.q (prs L its) (prs (L ++ [p]) its2)) := Lib.hid (plain_of HFR.out HI.out hI2)
        have e8 : outTo (L ++ [p]) (L ++ [p]).length = o7 := by rw [out_new HFR.out]; exact HO7.out
        have e9 : tkTo (L ++ [p]) (L ++ [p]).length = max t7 p.t := by rw [tick_new, HT7.out]
        obtain ⟨n8, hn8⟩ : ∃ m, its2.length = m := ⟨_, rfl⟩
        have hs8 : n8 < 1000000 := by rw [← hn8]; exact items_lt hI2
        have hs7 : n7 < 1000000 := by rw [← HN7.out]; exact items_lt HI.out
        rw [e8, e9, hn8] at HV8
        rw [lines_ln, hn8] at HG8
        rw [e8, e9, hn8]
        rw [lines_ln] at HGA
        obtain ⟨t8, ht8⟩ : ∃ t, max t7 p.t = t := ⟨_, rfl⟩
        rw [ht8] at HV8
        rw [ht8]
        have HT8 := Lib.hid ht8
        have HW : Hid (Tw w w8 a k l p g7 g8 (viewV p.c (.slice a7 n7 cap7) o7 t7) (viewV p.c (.slice a8 n8 c8) o7 t8) a7 a8 n7 n8 (prs L its) (prs (L ++ [p]) its2)) := Lib.hid ⟨HSA.out.below HB8.out, HVA.out.below HB8.out, HV8.out, HGA.out.below HB8.out, HG8.out⟩
        have HN77 : Hid ((prs L its).length = n7) := Lib.hid (by rw [← HN7.out]; simp [prs])
        have HN88 : Hid ((prs (L ++ [p]) its2).length = n8) := Lib.hid (by rw [← hn8]; simp [prs])
        generalize prs L its = ls7 at HP HW HN77
        generalize prs (L ++ [p]) its2 = ls8 at HP HW HN88
        clear e8 e9 hn8 ht8 hI2 HV8 HG8 HB8 HSA HVA HGA HI HFR HFL HO7 HT7 HN7
        obtain ⟨it, hit⟩ : ∃ i, p.i = i := ⟨_, rfl⟩
        have hitb : it < 65536 := by rw [← hit]; exact p.hi
        rw [hit] at HP
        have HIT := Lib.hid hit
        clear hit
        have c71 : w8.cell? ⟨g7, 1, none⟩ = some (.slice a7 n7 cap7) := by rw [HW.out.v7.cell]; rfl
        unfold viewV
        go_wp2_with fail
        clear c71
        go_loopw [9, 10, 58] (R2 w8 it ls7 n7) (fun _ _ i _ => n7 - (numI i).toNat)
        case atStart => exact ⟨0, none, 0, 0, rfl, rfl, rfl, Nat.zero_le _, Lib.hid (ownG_nil _ _ _ _), Lib.hid (Below.refl _ _)⟩
        case round =>
          obtain ⟨j, ao, m, cp, rfl, rfl, rfl, hj, HOW, HB⟩ := hrel
          have hmj : m ≤ j := by
            have h1 := HOW.out.len
            have h2 := List.length_filter_le (fun x : Nat × Nat => decide (x.1 ≠ it)) (ls7.take j)
            have h3 := List.length_take_le j ls7
            simp only [List.length_map] at h1
            unfold oth at h1
            omega
          by_cases hlt : j < n7
          · obtain ⟨b, off, x, rfl, hx, hr⟩ := GL.line (HW.out.l7.below HB.out) hlt
            have HX := Lib.hid hx
            have HR := Lib.hid hr
            have hxb := HP.out.b7 x (List.mem_of_getElem? hx)
            obtain ⟨xi, xq⟩ := x
            simp only at hxb
            have HN1 := Lib.hid (Blk.new wr 51 #[.int .u16 (xi : Int), .int .u32 (xq : Int)])
            have n0 : (wr.alloc (.cells #[.int .u16 (xi : Int), .int .u32 (xq : Int)] 51)).cell? ⟨wr.heap.size, 0, none⟩ = some (.int .u16 (xi : Int)) := by rw [HN1.out.cell]; rfl
            have n1 : (wr.alloc (.cells #[.int .u16 (xi : Int), .int .u32 (xq : Int)] 51)).cell? ⟨wr.heap.size, 1, none⟩ = some (.int .u32 (xq : Int)) := by rw [HN1.out.cell]; rfl
            have hbn := below_one wr (.cells #[.int .u16 (xi : Int), .int .u32 (xq : Int)] 51)
            have o4 : (wr.alloc (.cells #[.int .u16 (xi : Int), .int .u32 (xq : Int)] 51)).cell? ⟨w.heap.size, 4, none⟩ = some (.int .u16 (it : Int)) := by rw [oc4 ((HW.out.ad.box.below HB.out).below hbn), HIT.out]
            have HBN : Hid (Below w8.heap.size w8 (wr.alloc (.cells #[.int .u16 (xi : Int), .int .u32 (xq : Int)] 51))) := Lib.hid (HB.out.trans (hbn.mono HB.out.size))
            have HON := Lib.hid (HOW.out.below hbn)
            clear hx hr hbn
            by_cases he : xi = it
            · have hq : ((xi : Int) == (it : Int)) = true := by simp; omega
              have HH := Lib.hid (hadTo_eq HX.out he)
              have HOO := Lib.hid (oth_take_eq HX.out he)
              clear he
              go_wp2_with (first | (refine wpList_run rfl (exec_idxL (i := j) rfl rfl rfl rfl hlt) ?_) | (refine wpList_run rfl (exec_ld51 (i := xi) (n := xq) rfl rfl HR.out) ?_))
              go_roundw
              case rel => exact ⟨j + 1, ao, m, cp, by rw [HH.out], rfl, by go_num, hlt, Lib.hid (by rw [HOO.out]; exact HON.out), HBN⟩
              case measure => simp [numI]; omega
            · have hq : ((xi : Int) == (it : Int)) = false := by simp; omega
              have HH := Lib.hid (hadTo_ne HX.out he)
              have HOO := Lib.hid (oth_take_ne HX.out he)
              clear he
              go_wp2_with (first | (refine wpList_run rfl (exec_idxL (i := j) rfl rfl rfl rfl hlt) ?_) | (refine wpList_run rfl (exec_ld51 (i := xi) (n := xq) rfl rfl HR.out) ?_) | (refine wpList_run rfl (exec_ld51 (i := xi) (n := xq) rfl rfl HN1.out.rangeL) ?_) | (refine wpList_run rfl (exec_bsLine (cs := ln (xi, xq)) rfl rfl rfl) ?_) | (at_builtin; refine wpList_appendG 42 51 2 8 info51 und42 rfl (by decide) (by decide) rfl rfl rfl rfl (HON.out.below (below_one _ _)) (Blk.new _ 51 _) rfl (by intro u hu; simp only [ln, List.mem_cons, List.not_mem_nil, or_false] at hu; rcases hu with rfl | rfl <;> rfl) (by omega) (by have := HBN.out.size; simp at this ⊢; omega) ?_; intro a3 cap3 w3 ho3 hk3 hl3))
              have HOE : Hid (OwnG w3 51 2 w8.heap.size a3 (m + 1) cap3 ((oth it (ls7.take (j + 1))).map ln)) := Lib.hid (by rw [HOO.out, List.map_append]; exact ho3)
              have HBE : Hid (Below w8.heap.size w8 w3) := Lib.hid ((HBN.out.trans ((below_one _ _).mono HBN.out.size)).trans (hk3.below (Nat.le_trans HBN.out.size (below_one _ _).size) (fun i ⟨ad, e, e2⟩ => by rw [e2]; exact (HOW.out.lt ad e).1)))
              clear ho3 hk3 hl3
              go_roundw
              case rel => exact ⟨j + 1, a3, m + 1, cap3, by rw [HH.out], rfl, by go_num, hlt, HOE, HBE⟩
              case measure => simp [numI]; omega
          · obtain rfl : j = n7 := by omega
            have HL7 : Hid (hadTo it (ls7.take j) = hadTo it ls7) := Lib.hid (by rw [List.take_of_length_le (by rw [HN77.out]; exact Nat.le_refl _)])
            have HCAP := HOW.out.cap
            have HG9 : Hid (GL wr 2 ao m ((oth it ls8).map ln)) := Lib.hid (by
              have h := HOW.out.gl
              rw [List.take_of_length_le (by rw [HN77.out]; exact Nat.le_refl _), ← HP.out.same] at h
              exact h)
            have HW9 := Lib.hid (HW.out.below HB.out)
            obtain ⟨had, hhad⟩ : ∃ h, hadTo it (ls7.take j) = h := ⟨_, rfl⟩
            have HHAD : Hid (hadTo it ls7 = had) := Lib.hid (by rw [← HL7.out, hhad])
            rw [hhad]
            have hhb : had < 4294967296 := by rw [← HHAD.out]; exact HP.out.had
            clear hhad HL7 HOW HB HW hmj hlt
            generalize wr = w9 at HG9 HW9
            have c81 : w9.cell? ⟨g8, 1, none⟩ = some (.slice a8 n8 c8) := by rw [HW9.out.v8.cell]; rfl
            go_wp2_with fail
            clear c81
            go_loopw [10, 13, 77] (R3 w9 it ls8 n8) (fun _ _ i _ => n8 - (numI i).toNat)
            case atStart => exact ⟨0, ao, m, cp, false, rfl, rfl, rfl, Nat.zero_le _, HCAP, Lib.hid (by simp), HG9, Lib.hid (Below.refl _ _)⟩
            case round =>
              clear HG9 HCAP
              obtain ⟨j, ao, m, cp, fb, rfl, rfl, rfl, hj, hcap, HFB, HG, HB⟩ := hrel
              by_cases hlt : j < n8
              · obtain ⟨b, off, x, rfl, hx, hr⟩ := GL.line (HW9.out.l8.below HB.out) hlt
                have HX := Lib.hid hx
                have HR := Lib.hid hr
                have hxb := HP.out.b8 x (List.mem_of_getElem? hx)
                obtain ⟨xi, xq⟩ := x
                simp only at hxb
                have HN1 := Lib.hid (Blk.new wr 51 #[.int .u16 (xi : Int), .int .u32 (xq : Int)])
                have n0 : (wr.alloc (.cells #[.int .u16 (xi : Int), .int .u32 (xq : Int)] 51)).cell? ⟨wr.heap.size, 0, none⟩ = some (.int .u16 (xi : Int)) := by rw [HN1.out.cell]; rfl
                have n1 : (wr.alloc (.cells #[.int .u16 (xi : Int), .int .u32 (xq : Int)] 51)).cell? ⟨wr.heap.size, 1, none⟩ = some (.int .u32 (xq : Int)) := by rw [HN1.out.cell]; rfl
                have hbn := below_one wr (.cells #[.int .u16 (xi : Int), .int .u32 (xq : Int)] 51)
                have o4 : (wr.alloc (.cells #[.int .u16 (xi : Int), .int .u32 (xq : Int)] 51)).cell? ⟨w.heap.size, 4, none⟩ = some (.int .u16 (it : Int)) := by rw [oc4 ((HW9.out.ad.box.below HB.out).below hbn), HIT.out]
                have o5 : (wr.alloc (.cells #[.int .u16 (xi : Int), .int .u32 (xq : Int)] 51)).cell? ⟨w.heap.size, 5, none⟩ = some (.int .u16 (p.q : Int)) := oc5 ((HW9.out.ad.box.below HB.out).below hbn)
                have HBN : Hid (Below w9.heap.size w9 (wr.alloc (.cells #[.int .u16 (xi : Int), .int .u32 (xq : Int)] 51))) := Lib.hid (HB.out.trans (hbn.mono HB.out.size))
                have HGN := Lib.hid (HG.out.below hbn)
                clear hx hr hbn
                by_cases he : xi = it
                · have hq : ((xi : Int) == (it : Int)) = true := by simp; omega
                  have HOO := Lib.hid (oth_take_eq HX.out he)
                  have hpq := p.hq
                  have hsum : xq = (had + p.q) % 4294967296 := by have := HP.out.more _ (List.mem_of_getElem? HX.out) he; rw [HHAD.out] at this; exact this
                  have HFE : Hid (true = true ↔ ∃ x ∈ ls8.take (j + 1), x.1 = it) := Lib.hid (by simp only [true_iff]; exact ⟨(xi, xq), by rw [List.take_add_one, HX.out]; simp, he⟩)
                  have hw1 : IntKind.u32.wrap ((had : Int) + (p.q : Int)) = (xq : Int) := by rw [IntKind.wrap_u32]; omega
                  have HSUM := Lib.hid hsum
                  clear he hsum
                  go_wp2_with (first | (refine wpList_run rfl (exec_idxL (i := j) rfl rfl rfl rfl hlt) ?_) | (refine wpList_run rfl (exec_ld51 (i := xi) (n := xq) rfl rfl HR.out) ?_))
                  go_roundw
                  case rel => exact ⟨j + 1, ao, m, cp, true, rfl, rfl, by go_num, hlt, hcap, HFE, Lib.hid (by rw [HOO.out]; exact HGN.out), HBN⟩
                  case measure => simp [numI]; omega
                · have hq : ((xi : Int) == (it : Int)) = false := by simp; omega
                  have HFE : Hid (fb = true ↔ ∃ x ∈ ls8.take (j + 1), x.1 = it) := Lib.hid (by
                    rw [HFB.out, List.take_add_one, HX.out]
                    simp only [Option.toList_some, List.mem_append, List.mem_singleton]
                    constructor
                    · rintro ⟨x, h1, h2⟩; exact ⟨x, .inl h1, h2⟩
                    · rintro ⟨x, h1 | rfl, h2⟩
                      · exact ⟨x, h1, h2⟩
                      · exact absurd h2 he)
                  obtain ⟨r, hr1, hr2⟩ := next_oth HX.out he
                  rw [hr1] at HGN
                  have hm1 : 0 < m := by have := HGN.out.len; simp at this; omega
                  obtain ⟨b2, off2, y, rfl, hy, hry⟩ := GL.line HGN.out hm1
                  obtain rfl : (xi, xq) = y := by simpa using hy
                  have HRY : Hid ((wr.alloc (.cells #[.int .u16 (xi : Int), .int .u32 (xq : Int)] 51)).rangeAt b2 off2 (ln (xi, xq))) := Lib.hid (by simpa using hry)
                  have HGT : Hid (GL (wr.alloc (.cells #[.int .u16 (xi : Int), .int .u32 (xq : Int)] 51)) 2 (some ⟨b2, off2 + 2, none⟩) (m - 1) (((oth it ls8).drop (oth it (ls8.take (j + 1))).length).map ln)) := Lib.hid (by rw [hr2]; exact HGN.out.tail)
                  have hm0 : ((m : Int) == 0) = false := by simp; omega
                  clear hy hry hr1 hr2 he HG HGN HFB
                  go_upto_region 31 with (first | (refine wpList_run rfl (exec_idxL (i := j) rfl rfl rfl rfl hlt) ?_) | (refine wpList_run rfl (exec_ld51 (i := xi) (n := xq) rfl rfl HR.out) ?_))
                  clear n0 n1 o4 o5 HR
                  generalize wr.alloc (.cells #[.int .u16 (xi : Int), .int .u32 (xq : Int)] 51) = w10 at HN1 HBN HRY HGT
                  generalize wr.heap.size = g10 at HN1
                  refine wp_region_held_drew (S := fun W => Below w10.heap.size w10 W) (by kernel_rfl) (drew_below w10) (fun hS => ?_)
                  refine held_take 0 98 (.slice (some ⟨b2, off2, none⟩) m cp) rfl rfl (by kernel_rfl) (by kernel_rfl) (by kernel_rfl) (fun _ _ _ h => h) (by kernel_rfl) (fun _ _ => rfl) hS ?_
                  simp only [Act.put, List.setIfInBounds_toArray, List.set_cons_zero, List.set_cons_succ]
                  refine held_take 1 99 (.int .i64 (m : Int)) rfl rfl (by kernel_rfl) (by kernel_rfl) (by kernel_rfl) (fun _ _ _ h => h) (by kernel_rfl) (fun _ _ => (by kernel_rfl)) hS ?_
                  simp only [Act.put, List.setIfInBounds_toArray, List.set_cons_zero, List.set_cons_succ]
                  refine held_take 2 100 (.bool false) rfl rfl (by kernel_rfl) (by kernel_rfl) (by kernel_rfl) (fun _ _ _ h => h) (by kernel_rfl) (fun _ _ => exec_eqlI trivial rfl rfl rfl hm0) hS ?_
                  simp only [Act.put, List.setIfInBounds_toArray, List.set_cons_zero, List.set_cons_succ]
                  refine held_take 3 101 (.bool false) rfl rfl (by kernel_rfl) (by kernel_rfl) (by kernel_rfl) (fun _ _ _ h => h) (by kernel_rfl) (fun _ _ => rfl) hS ?_
                  simp only [Act.put, List.setIfInBounds_toArray, List.set_cons_zero, List.set_cons_succ]
                  refine held_take 4 102 (.agg #[.int .u16 (xi : Int), .int .u32 (xq : Int)]) rfl rfl (by kernel_rfl) (by kernel_rfl) (by kernel_rfl) (fun _ _ _ h => h) (by kernel_rfl) (fun _ h => exec_ld51 rfl rfl (HN1.out.below h).rangeL) hS ?_
                  simp only [Act.put, List.setIfInBounds_toArray, List.set_cons_zero, List.set_cons_succ]
                  refine held_take 5 103 (.slice (some ⟨b2, off2, none⟩) m cp) rfl rfl (by kernel_rfl) (by kernel_rfl) (by kernel_rfl) (fun _ _ _ h => h) (by kernel_rfl) (fun _ _ => rfl) hS ?_
                  simp only [Act.put, List.setIfInBounds_toArray, List.set_cons_zero, List.set_cons_succ]
                  refine held_take 6 104 (.pointer (some ⟨b2, off2 + 0 * 2, none⟩)) rfl rfl (by kernel_rfl) (by kernel_rfl) (by kernel_rfl) (fun _ _ _ h => h) (by kernel_rfl) (fun _ _ => exec_idxL (i := 0) rfl rfl rfl rfl hm1) hS ?_
                  simp only [Act.put, List.setIfInBounds_toArray, List.set_cons_zero, List.set_cons_succ]
                  refine held_take 7 105 (.agg #[.int .u16 (xi : Int), .int .u32 (xq : Int)]) rfl rfl (by kernel_rfl) (by kernel_rfl) (by kernel_rfl) (fun _ _ _ h => h) (by kernel_rfl) (fun _ h => exec_ld51 rfl rfl (range0 HRY.out h)) hS ?_
                  simp only [Act.put, List.setIfInBounds_toArray, List.set_cons_zero, List.set_cons_succ]
                  refine held_take 8 106 (.bool false) rfl rfl (by kernel_rfl) (by kernel_rfl) (by kernel_rfl) (fun _ _ _ h => h) (by kernel_rfl) (fun _ _ => exec_neq51 rfl rfl rfl) hS ?_
                  simp only [Act.put, List.setIfInBounds_toArray, List.set_cons_zero, List.set_cons_succ]
                  refine held_take 9 107 (.bool false) rfl rfl (by kernel_rfl) (by kernel_rfl) (by kernel_rfl) (fun _ _ _ h => h) (by kernel_rfl) (fun _ _ => rfl) hS ?_
                  simp only [Act.put, List.setIfInBounds_toArray, List.set_cons_zero, List.set_cons_succ]
                  refine held_take 10 97 (.bool false) rfl rfl (by kernel_rfl) (by kernel_rfl) (by kernel_rfl) (fun _ _ _ h => h) (by kernel_rfl) (fun _ _ => rfl) hS ?_
                  simp only [Act.put, List.setIfInBounds_toArray, List.set_cons_zero, List.set_cons_succ]
                  refine wpAnyH_done (by kernel_rfl) ?_ _
                  have HBD : Hid (Below w9.heap.size w9 w10.drew) := Lib.hid (HBN.out.trans ((drew_below w10).mono HBN.out.size))
                  have HGD := Lib.hid (HGT.out.below (drew_below w10))
                  clear hS HBN HGT HN1 HRY
                  have HGI : Hid (GL w10.drew 2 (if cp = 1 then some ⟨b2, off2, none⟩ else some ⟨b2, off2 + 2, none⟩) (m - 1) (((oth it ls8).drop (oth it (ls8.take (j + 1))).length).map ln)) := Lib.hid (by
                    split
                    · exact ⟨HGD.out.len, .inl (by omega)⟩
                    · exact HGD.out)
                  clear HGD
                  go_wp2_with fail
                  go_roundw
                  case rel => exact ⟨j + 1, _, m - 1, cp - 1, fb, rfl, rfl, by go_num, hlt, by omega, HFE, HGI, HBD⟩
                  case measure => simp [numI]; omega
              · obtain rfl : j = n8 := by omega
                have HW10 := Lib.hid (HW9.out.below HB.out)
                obtain rfl : fb = true := HFB.out.2 (by
                  obtain ⟨x, hx, e⟩ := HP.out.found
                  exact ⟨x, by rw [List.take_of_length_le (by rw [HN88.out]; exact Nat.le_refl _)]; exact hx, e⟩)
                obtain rfl : m = 0 := by
                  have h := HG.out.len
                  rw [← HN88.out, all_oth] at h
                  simpa using h.symm
                have c72 : wr.cell? ⟨g7, 2, none⟩ = some (.bool o7) := by rw [HW10.out.v7.cell]; rfl
                have c73 : wr.cell? ⟨g7, 3, none⟩ = some (.int .u32 (t7 : Int)) := by rw [HW10.out.v7.cell]; rfl
                have c82 : wr.cell? ⟨g8, 2, none⟩ = some (.bool o7) := by rw [HW10.out.v8.cell]; rfl
                have c83 : wr.cell? ⟨g8, 3, none⟩ = some (.int .u32 (t8 : Int)) := by rw [HW10.out.v8.cell]; rfl
                have c6 := oc6 HW10.out.ad.box
                have HM : Hid ((t8 : Int) = max (t7 : Int) (p.t : Int)) := Lib.hid (by have := HT8.out; omega)
                have hmx : ((t8 : Int) == max (t7 : Int) (p.t : Int)) = true := by have := HM.out; simp; omega
                go_wp2_with fail
                go_ret
                exact ⟨rfl, HW10.out.ad.old⟩

set_option maxRecDepth 100000 in
theorem lifted (os : Os) (started : os.Started) (H : Type) (enc : TypeId × Value → H) :
    ReturnsInHanded {} Try.checked os 7 .any (Rows.foldAddsSpec.pre6 enc Try.prog Try.f7 Rows.foldAddsRow.domain false) (Rows.foldAddsSpec.post enc Try.prog Try.f7 false true false false) := by
  refine returnsInHanded_of_change (C := Try.checked) own started (by kernel_rfl) Try.func7
    (ChangeSpec.witness6 (enc := enc) (C := Try.checked) false ⟨#[], #[.slice none 0 0, .agg #[.int .u8 0, .int .u32 0, .int .u8 0, .int .u16 0, .int .u16 0, .int .u16 0, .int .u32 0, .int .u32 0, .int .u32 0, .int .u32 0, .int .u32 0, .int .u32 0, .int .u32 0, .int .u32 0, .int .u32 0, .int .u32 0, .int .u32 0, .int .u32 0, .int .u32 0, .int .u32 0, .int .u32 0, .int .u32 0, .int .u32 0]], []⟩ 8 (by kernel_rfl) (by kernel_rfl) (by kernel_rfl) (by kernel_rfl)) ?_
  intro W base args ds gs before hval0 hW hcnd _
  have hval : ∀ (j : Nat) t v, Try.f7.params[j]? = some t → args[j]? = some v → Value.okWide Try.prog W .any base t v := hval0
  have hW' := hW
  obtain ⟨p, q, hA0, hV, rfl, hfz, hnd⟩ := hW
  have hA : DataW.TrodAll enc Try.prog W 0 (fun _ => true) true Try.f7.params.toList args.toList ds p := hA0
  rw [Try.params7] at hA hval
  obtain ⟨v0, v1, d0, d1, p0, p1, rfl, rfl, rfl, h0, h1⟩ := trodAll_two hA
  obtain ⟨rfl, rfl⟩ := trodVars_none hV
  have lt0 : ∀ x ∈ p0, x.block < W.heap.size := by obtain ⟨m, hm⟩ := h0; exact DataW.trod_lt m _ _ _ hm
  obtain ⟨ab, nb, cb, rfl⟩ := okWide_slice Try.underlying22 (hval 0 22 v0 rfl rfl)
  obtain ⟨hl0, l0, hR0⟩ := ops_of h0
  have lt1 : ∀ x ∈ p1, x.block < W.heap.size := by obtain ⟨m, hm⟩ := h1; exact DataW.trod_lt m _ _ _ hm
  obtain ⟨a1, rfl⟩ := op_of (hval 1 40 v1 rfl rfl) h1
  clear hA0 hval0
  refine (walk ab nb cb l0 a1 W hl0 hR0).mono fun e W' ⟨he, bel⟩ => ?_
  subst he
  exact ⟨_, rfl, _, _, _, [], _, [], hW', trodAll_mk1 (shut_bool Try.underlying4 _), trodAll_mk2 (Below.trod laidOut (by kernel_rfl) (of_decide_eq_true (by kernel_rfl)) h0 bel lt0) (Below.trod laidOut (by kernel_rfl) (of_decide_eq_true (by kernel_rfl)) h1 bel lt1), rfl, bel.frame _, fun h => by cases h⟩
end FoldAdds

theorem foldAdds_proved : Rows.FoldAddsSaid :=
  OpenClaim.holds_of_wide 7 Try.f7 rfl rfl rfl rfl rfl rfl rfl ⟨rfl, rfl, rfl, rfl, rfl⟩ rfl rfl rfl rfl rfl (by kernel_rfl) Try.func7 (by kernel_rfl)
    (of_decide_eq_true (by kernel_rfl)) (by unfold Func.isWrapper; first | (rw [if_pos (by decide +kernel)]; kernel_rfl) | (rw [if_neg (by decide +kernel)]; exact ⟨rfl, rfl⟩))
    (fun os started H enc _ => FoldAdds.lifted os started H enc)
#print axioms foldAdds_proved
end Go.Proofs.Ytmibfbbkjejkmaa
