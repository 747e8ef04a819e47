/- Walk of Encode of the program. -/
import Derived.Test.YtcgbkfnjohbglaaDoorPc
namespace Go.Proofs.YtcgbkfnjohbglaaDoor
open Go.RowKit

theorem lay_fits {bs l : List Nat} (h : bs.length + l.length ≤ 65536) : layE 0 bs.length l.length = 0 ∧ layB 0 bs l = bs ++ l := by
  unfold layE layB
  exact ⟨by rw [if_pos rfl, if_neg (by omega)], by rw [if_pos ⟨rfl, h⟩]⟩

/-- A writer, a page in a box and one more block that no writing turns. -/
structure Wk (w W : World) (p q : Nat) (lf : Bool) (a1 : Option Addr) (n1 c1 : Nat) (a2 : Option Addr) (n2 c2 : Nat) (a3 : Option Addr) (n3 c3 : Nat) (g : Nat) (t : TypeId) (cs : Array Value) (bs : List Nat) : Prop where
  wr : ∃ a len cap, Wr W p 0 a len cap bs ∧ ∀ ad, a = some ad → ad.block ≠ g
  box : Blk W q 40 (pgA lf a1 n1 c1 a2 n2 c2 a3 n3 c3)
  lt : q < p
  wlt : w.heap.size ≤ q
  key : Blk W g t cs
  gne : g ≠ p
  old : Below w.heap.size w W
section
variable {w W W' : World} {p q g : Nat} {lf : Bool} {a1 : Option Addr} {n1 c1 : Nat} {a2 : Option Addr} {n2 c2 : Nat} {a3 : Option Addr} {n3 c3 : Nat} {t : TypeId} {cs : Array Value} {bs : List Nat}
theorem Wk.num (h : Wk w W p q lf a1 n1 c1 a2 n2 c2 a3 n3 c3 g t cs bs) (x : Nat) (hx : x < 18446744073709551616) (hl : bs.length ≤ 60000) :
    Calls Tryd.prog 27 #[.pointer (some ⟨p, 0, none⟩), .int .u64 (x : Int)] W fun e w' => e = .returned (.int .i64 0) ∧ Wk w w' p q lf a1 n1 c1 a2 n2 c2 a3 n3 c3 g t cs (bs ++ Vint.enc x) := by
  obtain ⟨a, len, cap, hw, hag⟩ := h.wr
  refine (wnum_any p 0 a len cap _ x W hx hw).mono fun e w' hq => ?_
  obtain ⟨a', len', cap', rfl, hw', hk, hli⟩ := hq
  obtain ⟨e1, e2⟩ := lay_fits (bs := bs) (l := Vint.enc x) (by have := Vint.enc_ten hx; omega)
  rw [e1, e2] at hw'
  have hp : ∀ k, Wat p a k → p ≤ k := fun k hk => (hw.at_lt k hk).1
  have hg : ¬ Wat p a g := by
    rintro (h1 | ⟨ad, h1, h2⟩)
    · exact h.gne h1
    · exact hag ad h1 h2.symm
  refine ⟨by rw [e1]; rfl, ⟨a', len', cap', hw', fun ad ha he => ?_⟩, h.box.kept hk (fun hh => by have := hp _ hh; have := h.lt; omega), h.lt, h.wlt, h.key.kept hk hg, h.gne, h.old.trans (hk.below h.old.size (fun k hk => by have := hp _ hk; have := h.lt; have := h.wlt; omega))⟩
  rcases hli ad ha with ⟨ad0, h0, e0⟩ | h0
  · exact hag ad0 h0 (e0.symm.trans he)
  · have := h.key.lt; omega
/-- With another block in its place, made since. -/
theorem Wk.turn (h : Wk w W p q lf a1 n1 c1 a2 n2 c2 a3 n3 c3 g t cs bs) {g' : Nat} {t' : TypeId} {cs' : Array Value} (hb : Below W.heap.size W W') (hk : Blk W' g' t' cs') (hg : W.heap.size ≤ g') : Wk w W' p q lf a1 n1 c1 a2 n2 c2 a3 n3 c3 g' t' cs' bs := by
  obtain ⟨a, len, cap, hw, hag⟩ := h.wr
  exact ⟨⟨a, len, cap, hw.below hb, fun ad ha he => by have := (hw.own.lt ad ha).2; omega⟩, h.box.below hb, h.lt, h.wlt, hk, by have := hw.block.lt; omega, h.old.trans (hb.mono h.old.size)⟩
theorem Wk.e0 (h : Wk w W p q lf a1 n1 c1 a2 n2 c2 a3 n3 c3 g t cs bs) : W.cell? ⟨q, 0, none⟩ = some (.bool lf) := h.box.cell 0
theorem Wk.e1 (h : Wk w W p q lf a1 n1 c1 a2 n2 c2 a3 n3 c3 g t cs bs) : W.cell? ⟨q, 1, none⟩ = some (.slice a1 n1 c1) := h.box.cell 1
theorem Wk.e2 (h : Wk w W p q lf a1 n1 c1 a2 n2 c2 a3 n3 c3 g t cs bs) : W.cell? ⟨q, 2, none⟩ = some (.slice a2 n2 c2) := h.box.cell 2
theorem Wk.e3 (h : Wk w W p q lf a1 n1 c1 a2 n2 c2 a3 n3 c3 g t cs bs) : W.cell? ⟨q, 3, none⟩ = some (.slice a3 n3 c3) := h.box.cell 3
end
theorem ky0 {w : World} {g : Nat} {t : TypeId} {x : Ky} (h : Blk w g t x.arr) : w.cell? ⟨g, 0, none⟩ = some (.int .u16 (x.c : Int)) := h.cell 0
theorem ky1 {w : World} {g : Nat} {t : TypeId} {x : Ky} (h : Blk w g t x.arr) : w.cell? ⟨g, 1, none⟩ = some (.int .u8 (x.r : Int)) := h.cell 1
theorem ky2 {w : World} {g : Nat} {t : TypeId} {x : Ky} (h : Blk w g t x.arr) : w.cell? ⟨g, 2, none⟩ = some (.int .u32 (x.s : Int)) := h.cell 2

theorem kind_any (b : Bool) (w : World) : Calls Tryd.prog 28 #[.bool b] w fun e w' => e = .returned (.int .u64 (kindN b : Int)) ∧ w = w' := by
  cases b
  · go_enter Tryd.func28, Tryd.ntmps28
    go_wp2_with fail
    go_ret
    exact ⟨rfl, rfl⟩
  · go_enter Tryd.func28, Tryd.ntmps28
    go_wp2_with fail
    go_ret
    exact ⟨rfl, rfl⟩

/-- What Encode leaves. -/
def EncP (P : Pg) (w : World) (e : Ending) (w' : World) : Prop :=
  (P.right = false ∧ e = .returned (.tuple #[.slice none 0 0, .int .i64 15]) ∨
   P.right = true ∧ ∃ a cap, e = .returned (.tuple #[.slice a P.bytes.length cap, .int .i64 0]) ∧ Own w' w.heap.size a P.bytes.length cap P.bytes) ∧ Below w.heap.size w w'
theorem kind_lt (b : Bool) : kindN b < 18446744073709551616 := by cases b <;> decide

theorem Pg.upto_zero (P : Pg) : encs (P.upto 0) = ([] ++ Vint.enc (kindN P.leaf)) ++ Vint.enc P.ks.length := by
  simp [Pg.upto, Pg.items, encs]
theorem Pg.upto_leaf {P : Pg} {k : Nat} {x : Ky} {y : Lo} (h : P.leaf = true) (hx : kyAt P.ks k = x) (hy : loAt P.ls k = y) : encs (P.upto (k + 1)) = ((((encs (P.upto k) ++ Vint.enc x.c) ++ Vint.enc x.r) ++ Vint.enc x.s) ++ Vint.enc y.g) ++ Vint.enc y.t := by
  rw [P.upto_next, encs_append]
  simp [Pg.item, Pg.tail, h, hx, hy, encs]
theorem Pg.upto_inner {P : Pg} {k : Nat} {x : Ky} {y : Kd} (h : P.leaf = false) (hx : kyAt P.ks k = x) (hy : kdAt P.ds k = y) : encs (P.upto (k + 1)) = (((encs (P.upto k) ++ Vint.enc x.c) ++ Vint.enc x.r) ++ Vint.enc x.s) ++ Vint.enc y.n := by
  rw [P.upto_next, encs_append]
  simp [Pg.item, Pg.tail, h, hx, hy, encs]
theorem lo_cells {w : World} {b off : Nat} {y : Lo} (h : w.rangeAt b off y.cs) : w.cell? ⟨b, off, none⟩ = some (.int .u32 (y.g : Int)) ∧ w.cell? ⟨b, off + 1, none⟩ = some (.int .u32 (y.t : Int)) := ⟨h 0 _ rfl, h 1 _ rfl⟩
theorem kd_cell {w : World} {b off : Nat} {y : Kd} (h : w.rangeAt b off y.cs) : w.cell? ⟨b, off, none⟩ = some (.int .u32 (y.n : Int)) := h 0 _ rfl

set_option maxHeartbeats 4000000 in
set_option maxRecDepth 100000 in
theorem encode_yes {P : Pg} {a1 a2 a3 : Option Addr} {n1 n2 n3 : Nat} (c1 c2 c3 : Nat) {w : World} (hT : Tab w) (h : PV w P a1 n1 a2 n2 a3 n3) (hr : P.right = true) :
    Calls Tryd.prog 18 #[.agg #[.bool P.leaf, .slice a1 n1 c1, .slice a2 n2 c2, .slice a3 n3 c3]] w (EncP P w) := by
  obtain ⟨hr1, hr2, hr3⟩ := Pg.right_iff.1 hr
  have HRR := Lib.hid hr3
  have HRT := Lib.hid hr
  have hn8 : n1 ≤ 8 := by have := h.ks.len'; omega
  have HN1 := Lib.hid h.ks.len'
  have HN2 := Lib.hid h.ls.len'
  have HN3 := Lib.hid h.ds.len'
  have HPV := Lib.hid h
  have HTAB := Lib.hid hT
  have HR := Lib.hid (fun w' hb => right_any c1 c2 c3 (h.below (w' := w') hb) (by omega))
  rw [hr] at HR
  have HP8 := Lib.hid hr1
  clear hr hr1 hr2 hr3 h hT
  have H0 : Hid (BxK w (w.alloc (.cells (pgA P.leaf a1 n1 c1 a2 n2 c2 a3 n3 c3) 40)) 40 w.heap.size P.leaf a1 n1 c1 a2 n2 c2 a3 n3 c3 P.ks) := Lib.hid ⟨Blk.new w 40 _, HPV.out.ks.below (below_one _ _), below_one _ _⟩
  generalize hlf : P.leaf = lf at H0 HR ⊢
  have HLF := Lib.hid hlf
  clear hlf
  go_enter Tryd.func18, Tryd.ntmps18
  go_upto_region 1 with fail
  try simp only [World.size_alloc, Act.put, List.setIfInBounds_toArray, List.set_cons_zero, List.set_cons_succ]
  generalize w.alloc (.cells #[.bool lf, .slice a1 n1 c1, .slice a2 n2 c2, .slice a3 n3 c3] 40) = w0 at H0
  obtain ⟨q, hq⟩ : ∃ q, w.heap.size = q := ⟨_, rfl⟩
  have HWQ : Hid (w.heap.size ≤ q) := Lib.hid (by omega)
  rw [hq] at H0
  rw [hq]
  clear hq
  go_wp2_with (refine wpList_run rfl (exec_load40 rfl rfl H0.out.box) ?_)
  refine (HR.out _ H0.out.old).mono ?_
  rintro e w1 ⟨rfl, hb⟩
  have H1 := Lib.hid (H0.out.below hb)
  clear hb HR H0
  go_wp2_with fail
  refine (new_any _).mono ?_
  rintro e w2 ⟨rfl, hw2, hb⟩
  have HW0 : Hid (Wk w w2 w1.heap.size q lf a1 n1 c1 a2 n2 c2 a3 n3 c3 q 40 (pgA lf a1 n1 c1 a2 n2 c2 a3 n3 c3) []) := Lib.hid ⟨⟨_, _, _, hw2, fun ad h => by cases h⟩, H1.out.box.below hb, H1.out.box.lt, HWQ.out, H1.out.box.below hb, by have := H1.out.box.lt; omega, H1.out.old.trans (hb.mono H1.out.old.size)⟩
  generalize w1.heap.size = p at HW0
  clear hw2 hb H1
  have k0 := HW0.out.e0
  go_wp2_with fail
  refine (kind_any lf _).mono ?_
  rintro e w' ⟨rfl, rfl⟩
  go_wp2_with fail
  refine (HW0.out.num (kindN lf) (kind_lt lf) (by simp)).mono ?_
  rintro e w3 ⟨rfl, h⟩
  have HW1 := Lib.hid h
  clear h HW0 k0
  have k1 := HW1.out.e1
  go_wp2_with fail
  refine (HW1.out.num n1 (by omega) (by rw [List.nil_append]; have := Vint.enc_ten (kind_lt lf); omega)).mono ?_
  rintro e w4 ⟨rfl, h⟩
  have HW2 : Hid (Wk w w4 p q lf a1 n1 c1 a2 n2 c2 a3 n3 c3 q 40 (pgA lf a1 n1 c1 a2 n2 c2 a3 n3 c3) (encs (P.upto 0))) := Lib.hid (by rw [P.upto_zero, HLF.out, HN1.out]; exact h)
  clear h HW1 k1
  have k1 := HW2.out.e1
  go_wp2_with fail
  clear k1
  go_loopw [27] (fun i wr => ∃ (k g : Nat) (t : TypeId) (cs : Array Value) (bs : List Nat), k ≤ n1 ∧ i = .int .i64 (k : Int) ∧ Hid (encs (P.upto k) = bs) ∧ bs.length ≤ 420 ∧ Hid (Wk w wr p q lf a1 n1 c1 a2 n2 c2 a3 n3 c3 g t cs bs)) (fun i _ => n1 - (intOf i).toNat)
  case atStart => exact ⟨0, q, 40, _, _, Nat.zero_le _, rfl, Lib.hid rfl, P.upto_bytes HP8.out (by omega), HW2⟩
  case round =>
    obtain ⟨k, g, t, cs, bs, hk, rfl, HBS, hbs, HX0⟩ := hrel
    clear HW2
    by_cases hlt : k < n1
    · obtain ⟨b, off, x, rfl, hx, hrg⟩ := KL.at (HPV.out.ks.below HX0.out.old) hlt
      have HR := Lib.hid hrg
      have HKX : Hid (kyAt P.ks k = x) := Lib.hid (kyAt_of hx)
      have HO : Hid (Ky.zero = Ky.zero) := Lib.hid rfl
      have HZ := Lib.hid (fun (wr : World) => Blk.new wr 42 Ky.zero.arr)
      obtain ⟨zo, hzo⟩ : ∃ zo, Ky.zero = zo := ⟨_, rfl⟩
      have HZO := Lib.hid hzo
      clear hx hrg hzo HO HZ
      go_wp2_with (first | (refine wpList_run rfl (exec_idx42 (i := k) rfl rfl rfl rfl hlt) ?_) | (refine wpList_run rfl (exec_ld42 rfl rfl HR.out) ?_) | (refine wpList_run rfl (exec_alloc42z HZO.out rfl) ?_) | (refine wpList_stop42 rfl ?_))
      refine ⟨?_⟩
      refine wpList_void rfl rfl (exec_store42 (p := zo) (u := x) rfl rfl rfl (Blk.new wr 42 zo.arr)) ?_
      have H1 : Hid (Wk w ((wr.alloc (.cells zo.arr 42)).setRow wr.heap.size x.arr) p q lf (some ⟨b, off, none⟩) n1 c1 a2 n2 c2 a3 n3 c3 wr.heap.size 42 x.arr bs) := Lib.hid (HX0.out.turn ((below_one wr _).trans ((Kept.setRow (wr.alloc (.cells zo.arr 42)) wr.heap.size x.arr).below (by simp) (fun k hk => by omega))) ((Blk.new wr 42 zo.arr).row) (Nat.le_refl _))
      generalize (wr.alloc (.cells zo.arr 42)).setRow wr.heap.size x.arr = v0 at H1
      generalize wr.heap.size = g1 at H1
      clear HX0 HR HZO
      have b0 := x.hc
      have b1 := x.hr
      have b2 := x.hs
      have k0 := ky0 H1.out.key
      go_wp2_with fail
      refine (H1.out.num x.c (by omega) (by omega)).mono ?_
      rintro e v1 ⟨rfl, h⟩
      have H2 := Lib.hid h
      clear h H1
      clear k0
      have k1 := ky1 H2.out.key
      go_wp2_with fail
      refine (H2.out.num x.r (by omega) (by rw [List.length_append]; have := Vint.enc_ten (n := x.c) (by omega); omega)).mono ?_
      rintro e v2 ⟨rfl, h⟩
      have H3 := Lib.hid h
      clear h H2
      clear k1
      have k2 := ky2 H3.out.key
      go_wp2_with fail
      refine (H3.out.num x.s (by omega) (by rw [List.length_append, List.length_append]; have := Vint.enc_ten (n := x.c) (by omega); have := Vint.enc_ten (n := x.r) (by omega); omega)).mono ?_
      rintro e v3 ⟨rfl, h⟩
      have H4 := Lib.hid h
      clear h H3
      clear k2
      have kl := H4.out.e0
      cases lf
      · have HL3 : Hid (P.ks.length = P.ds.length) := Lib.hid (by rcases HRR.out with h | h; · rw [HLF.out] at h; cases h.1
                                                                  · exact h.2.2.1.symm)
        have hlt3 : k < n3 := by have := HL3.out; have := HN1.out; have := HN3.out; omega
        obtain ⟨b3, off3, y, rfl, hy, hrg3⟩ := DL.at (HPV.out.ds.below H4.out.old) hlt3
        have HKY : Hid (kdAt P.ds k = y) := Lib.hid (kdAt_of hy)
        have k3 := H4.out.e3
        have HC3 := Lib.hid (kd_cell hrg3)
        have HR3 := Lib.hid hrg3
        have b3' := y.hn
        clear hy hrg3
        go_wp2_with (first | (refine wpList_run rfl (exec_idx28 (i := k) rfl rfl rfl rfl hlt3) ?_) | (refine wpList_run rfl (exec_ld28 rfl rfl HR3.out) ?_))
        refine (H4.out.num y.n (by omega) (by rw [List.length_append, List.length_append, List.length_append]; have := Vint.enc_ten (n := x.c) (by omega); have := Vint.enc_ten (n := x.r) (by omega); have := Vint.enc_ten (n := x.s) (by omega); omega)).mono ?_
        rintro e v4 ⟨rfl, h⟩
        have H5 := Lib.hid h
        have HE := Lib.hid (Pg.upto_inner HLF.out HKX.out HKY.out)
        have HLEN := Lib.hid (P.upto_bytes HP8.out (show k + 1 ≤ 8 by omega))
        clear h H4 kl k3 HC3 HR3
        go_wp2_with fail
        go_roundw
        case rel => exact ⟨k + 1, _, _, _, _, by omega, by go_num, Lib.hid (by rw [HE.out, HBS.out]), by rw [← HBS.out, ← HE.out]; exact HLEN.out, H5⟩
        case measure => simp [intOf]; omega
      · have HL3 : Hid (P.ks.length = P.ls.length) := Lib.hid (by rcases HRR.out with h | h; · exact h.2.1.symm
                                                                  · rw [HLF.out] at h; cases h.1)
        have hlt3 : k < n2 := by have := HL3.out; have := HN1.out; have := HN2.out; omega
        obtain ⟨b3, off3, y, rfl, hy, hrg3⟩ := LL.at (HPV.out.ls.below H4.out.old) hlt3
        have HKY : Hid (loAt P.ls k = y) := Lib.hid (loAt_of hy)
        have k3 := H4.out.e2
        have HR3 := Lib.hid hrg3
        obtain ⟨hc0, hc1⟩ := lo_cells hrg3
        have b3' := y.hg
        have b4' := y.ht
        clear hy hrg3
        go_wp2_with (first | (refine wpList_run rfl (exec_idx66 (i := k) rfl rfl rfl rfl hlt3) ?_))
        refine (H4.out.num y.g (by omega) (by rw [List.length_append, List.length_append, List.length_append]; have := Vint.enc_ten (n := x.c) (by omega); have := Vint.enc_ten (n := x.r) (by omega); have := Vint.enc_ten (n := x.s) (by omega); omega)).mono ?_
        rintro e v4 ⟨rfl, h⟩
        have H5 := Lib.hid h
        obtain ⟨b3x, off3x, yx, hbx, hyx, hrgx⟩ := LL.at (HPV.out.ls.below H5.out.old) hlt3
        cases hbx
        have HYX : Hid (loAt P.ls k = yx) := Lib.hid (loAt_of hyx)
        obtain rfl : y = yx := HKY.out.symm.trans HYX.out
        clear h H4 kl k3 hc0 hc1 HR3 hyx HYX
        obtain ⟨hc0, hc1⟩ := lo_cells hrgx
        have k3 := H5.out.e2
        clear hrgx
        go_wp2_with (first | (refine wpList_run rfl (exec_idx66 (i := k) rfl rfl rfl rfl hlt3) ?_))
        refine (H5.out.num y.t (by omega) (by rw [List.length_append]; have := Vint.enc_ten (n := y.g) (by omega); rw [List.length_append, List.length_append, List.length_append]; have := Vint.enc_ten (n := x.c) (by omega); have := Vint.enc_ten (n := x.r) (by omega); have := Vint.enc_ten (n := x.s) (by omega); omega)).mono ?_
        rintro e v5 ⟨rfl, h⟩
        have H6 := Lib.hid h
        have HE := Lib.hid (Pg.upto_leaf HLF.out HKX.out HKY.out)
        have HLEN := Lib.hid (P.upto_bytes HP8.out (show k + 1 ≤ 8 by omega))
        clear h H5 k3 hc0 hc1
        go_wp2_with fail
        go_roundw
        case rel => exact ⟨k + 1, _, _, _, _, by omega, by go_num, Lib.hid (by rw [HE.out, HBS.out]), by rw [← HBS.out, ← HE.out]; exact HLEN.out, H6⟩
        case measure => simp [intOf]; omega
    · obtain rfl : k = n1 := by omega
      have HF : Hid (bs = P.fields) := Lib.hid (by rw [← HBS.out, ← HN1.out]; rfl)
      obtain ⟨a, len, cap, hw, _⟩ := HX0.out.wr
      have HA := Lib.hid (all_any p 0 a len cap _ wr hw)
      clear hw
      go_wp2_with fail
      refine HA.out.mono ?_
      rintro e w5 ⟨a5, len5, cap5, rfl, ho, hb⟩
      rw [if_pos rfl] at ho
      have HO5 := Lib.hid ho
      have HB5 := Lib.hid (HX0.out.old.trans (hb.mono HX0.out.old.size))
      have hlen5 : len5 ≤ 4096 := by have := ho.len; omega
      clear ho hb HA
      go_wp2_with fail
      have hsm : ∀ c ∈ bs, c < 256 := by rw [HF.out]; exact P.fields_small
      refine (wrap_any a5 len5 cap5 bs w5 (HTAB.out.below HB5.out) (HO5.out.row hsm) HO5.out.cap.2.2 hlen5).mono ?_
      rintro e w6 ⟨a6, cap6, rfl, ho6, hb6⟩
      have HO6 := Lib.hid (ho6.mono HB5.out.size)
      have HB6 := Lib.hid (HB5.out.trans (hb6.mono HB5.out.size))
      clear ho6 hb6 hsm
      go_wp2_with fail
      go_ret2
      have hB : P.bytes = Frm.fr bs := by rw [HF.out]; rfl
      unfold EncP
      rw [hB]
      exact ⟨.inr ⟨HRT.out, a6, cap6, rfl, HO6.out⟩, HB6.out⟩

set_option maxHeartbeats 1000000 in
theorem encode_no {P : Pg} {a1 a2 a3 : Option Addr} {n1 n2 n3 : Nat} (c1 c2 c3 : Nat) {w : World} (h : PV w P a1 n1 a2 n2 a3 n3) (hn : n1 ≤ 1000000) (hr : P.right = false) :
    Calls Tryd.prog 18 #[.agg #[.bool P.leaf, .slice a1 n1 c1, .slice a2 n2 c2, .slice a3 n3 c3]] w (EncP P w) := by
  have HRT := Lib.hid hr
  have HR := Lib.hid (fun w' hb => right_any c1 c2 c3 (h.below (w' := w') hb) hn)
  rw [hr] at HR
  have HB := Lib.hid (Blk.new w 40 (pgA P.leaf a1 n1 c1 a2 n2 c2 a3 n3 c3))
  clear hr h
  generalize P.leaf = lf at HR HB
  go_enter Tryd.func18, Tryd.ntmps18
  go_wp2_with (refine wpList_run rfl (exec_load40 rfl rfl HB.out) ?_)
  refine (HR.out _ (below_one _ _)).mono ?_
  rintro e w1 ⟨rfl, hb⟩
  have HB2 := Lib.hid ((below_one w _).trans (hb.mono (by simp)))
  clear hb
  go_wp2_with fail
  go_ret2
  exact ⟨.inl ⟨HRT.out, rfl⟩, HB2.out⟩
theorem encode_any {P : Pg} {a1 a2 a3 : Option Addr} {n1 n2 n3 : Nat} (c1 c2 c3 : Nat) {w : World} (hT : Tab w) (h : PV w P a1 n1 a2 n2 a3 n3) (hn : n1 ≤ 1000000) :
    Calls Tryd.prog 18 #[.agg (pgA P.leaf a1 n1 c1 a2 n2 c2 a3 n3 c3)] w (EncP P w) := by
  cases hr : P.right
  · exact encode_no c1 c2 c3 h hn hr
  · exact encode_yes c1 c2 c3 hT h hr

end Go.Proofs.YtcgbkfnjohbglaaDoor
