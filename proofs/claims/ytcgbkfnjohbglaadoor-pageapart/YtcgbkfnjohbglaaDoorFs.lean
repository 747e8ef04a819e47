/- Walks of the program's sumOf, Wrap and First, and of bytes.Equal: a frame's sum, the frame of bytes, what stands in the first frame. -/
import Derived.Test.YtcgbkfnjohbglaaDoorCl
import Derived.Test.YtcgbkfnjohbglaaDoorFf
import Derived.Laws.MakeOwn
namespace Go.Proofs.YtcgbkfnjohbglaaDoor
open Go.RowKit


theorem str_neF {x y : List Nat} (hx : ∀ c ∈ x, c < 256) (hy : ∀ c ∈ y, c < 256) (h : x ≠ y) : ((strOf x).toList == (strOf y).toList) = false := by
  rw [beq_eq_false_iff_ne]
  intro he
  rw [ByteArray.toList_eq, ByteArray.toList_eq] at he
  exact h (strOf_inj hx hy (ByteArray.ext (Array.toList_inj.mp he)))

theorem slice_lh (kl kh : IntKind) (a : Option Addr) (len cap l h : Nat) (L H : Int) (hL : L = (l : Int)) (hH : H = (h : Int)) (h1 : l ≤ h) (h2 : h ≤ cap) (W : World) :
    (Instr.slice 48 (.slice a len cap) (some (.int kl L)) (some (.int kh H)) none).run Tryd.prog W = .ok (.slice (cutA a cap l) (h - l) (cap - l)) W := by
  subst hL hH
  have he : Tryd.prog.elem 48 = 5 := by kernel_rfl
  have ht : Tryd.prog.underlying 48 = some (.slice (Tryd.prog.elem 48)) := by rw [he]; exact Tryd.underlying48
  have hz : (Go.sizeOf 5).run Tryd.prog W = .ok 1 W := by
    obtain ⟨i0, hii, _, hz1, _⟩ := info_parts info5
    simp [Go.sizeOf, typeInfo, hii, hz1]
  rw [run_slice_lh (P := Tryd.prog) W 48 a len cap ht kl kh (l : Int) (h : Int) (by omega) (by omega) (by omega), he, hz]
  simp [Result.andThen, sliced, cutA]

theorem slice_hz (kl : IntKind) (a : Option Addr) (len cap k : Nat) (K : Int) (hK : K = (k : Int)) (hk : k ≤ cap) (W : World) :
    (Instr.slice 48 (.slice a len cap) none (some (.int kl K)) none).run Tryd.prog W = .ok (.slice a k cap) W := by
  subst hK
  exact slice_h kl a len cap k W hk

theorem cut_rows {w : World} {a : Option Addr} {len cap k h : Nat} {l : List Nat} (hR : Row w a len l) (hk : k ≤ h) (hh : h ≤ len) (hc : len ≤ cap) : Row w (cutA a cap k) (h - k) ((l.take h).drop k) :=
  cut_row (hR.upto hh) hk (by omega)

set_option maxHeartbeats 400000 in
theorem sumOf_any (a : Option Addr) (len cap : Nat) (bs : List Nat) (w : World) (hT : Tab w) (hR : Row w a len bs) (hl : len ≤ maxLen) :
    Calls Tryd.prog 41 #[.slice a len cap] w (Fresh (Frm.sumB bs) w) := by
  have HS := Lib.hid (sum_any a len cap bs w hT hR hl)
  have hx : Crc.next 0 bs < 4294967296 := Frm.next_lt hR.small
  unfold Frm.sumB
  clear hT hR hl
  generalize Crc.next 0 bs = s at HS hx
  go_enter Tryd.func41, Tryd.ntmps41
  go_wp2_with fail
  refine HS.out.mono ?_
  rintro e w' ⟨rfl, rfl⟩
  go_wp2_with fail
  go_ret
  have h := World.ownsRow_lit (e := 5) (base := w.heap.size) (size := 1) w #[.int .u8 ((s : Int) % 256), .int .u8 ((s : Int) / 256 % 256), .int .u8 ((s : Int) / 65536 % 256), .int .u8 ((s : Int) / 16777216)] 4 (Nat.le_refl _) (by decide) rfl
  have e1 : (#[.int .u8 ((s : Int) % 256), .int .u8 ((s : Int) / 256 % 256), .int .u8 ((s : Int) / 65536 % 256), .int .u8 ((s : Int) / 16777216)] : Array Value).toList = cellsOf (Frm.le4 s) := by
    simp [cellsOf, Frm.le4]
    omega
  rw [e1] at h
  exact ⟨some ⟨w.heap.size, 0, none⟩, 4, rfl, h, (Below.refl _ _).alloc (Nat.le_refl _) _⟩

set_option maxHeartbeats 400000 in
theorem equal_same (a b : Option Addr) (n m c d : Nat) (x : List Nat) (w : World) (hR : Row w a n x) (hR2 : Row w b m x) :
    Calls Tryd.prog 34 #[.slice a n c, .slice b m d] w fun e w' => e = .returned (.bool true) ∧ w = w' := by
  have h1 := conv_any (cap := c) hR
  have h2 := conv_any (cap := d) hR2
  clear hR hR2
  generalize strOf x = s at h1 h2
  go_enter Tryd.func34, Tryd.ntmps34
  go_wp2_with fail
  go_ret
  exact ⟨rfl, rfl⟩

set_option maxHeartbeats 400000 in
theorem equal_other (a b : Option Addr) (n m c d : Nat) (x y : List Nat) (w : World) (hR : Row w a n x) (hR2 : Row w b m y) (hne : x ≠ y) :
    Calls Tryd.prog 34 #[.slice a n c, .slice b m d] w fun e w' => e = .returned (.bool false) ∧ w = w' := by
  have h1 := conv_any (cap := c) hR
  have h2 := conv_any (cap := d) hR2
  have h3 := str_neF hR.small hR2.small hne
  clear hR hR2 hne
  generalize strOf x = s at h1 h3
  generalize strOf y = t at h2 h3
  go_enter Tryd.func34, Tryd.ntmps34
  go_wp2_with fail
  go_ret
  exact ⟨rfl, rfl⟩

/-- What Wrap leaves. -/
def WrapP (bs : List Nat) (w : World) (e : Ending) (w' : World) : Prop :=
  ∃ a cap, e = .returned (.tuple #[.slice a (Frm.fr bs).length cap, .int .i64 0]) ∧ Own w' w.heap.size a (Frm.fr bs).length cap (Frm.fr bs) ∧ Below w.heap.size w w'

set_option maxHeartbeats 400000 in
theorem wrap_big (a : Option Addr) (len cap : Nat) (w : World) (hl : len ≤ 9223372036854775807) (hb : 4096 < len) :
    Calls Tryd.prog 30 #[.slice a len cap] w fun e w' => e = .returned (.tuple #[.slice none 0 0, .int .i64 3]) ∧ w = w' := by
  go_enter Tryd.func30, Tryd.ntmps30
  go_wp2_with fail
  go_ret2
  exact ⟨rfl, rfl⟩

theorem run_mk (w : World) (n : Nat) (N : Int) (hN : N = (n : Int)) (hn : n ≤ 1000000) : (Instr.makeSlice 48 (.int .i64 0) (.int .i64 N)).run Tryd.prog w = .ok (.slice (some ⟨w.heap.size, 0, none⟩) 0 n) (w.alloc (.cells (madeCells #[.int .u8 0] n) 5)) := by
  subst hN
  obtain ⟨i0, hii, hz0, hz1, hz2⟩ := info_parts info5
  have := run_make (P := Tryd.prog) w 48 5 i0 (.int .u8 0) Tryd.underlying48 hii hz0 .i64 .i64 0 (n : Int) (by omega) (by omega) (by rw [hz2]; omega) (by omega)
  rw [hz1] at this
  simpa [Value.cells] using this

theorem own_mk (w : World) (n : Nat) (hn : n ≤ 1000000) : Own (w.alloc (.cells (madeCells #[.int .u8 0] n) 5)) w.heap.size (some ⟨w.heap.size, 0, none⟩) 0 n [] :=
  World.ownsRow_made w _ n (Nat.le_refl _) (by unfold maxLen; omega) (by rw [size_madeCells]; omega)

set_option maxHeartbeats 1000000 in
set_option maxRecDepth 100000 in
theorem wrap_any (a : Option Addr) (len cap : Nat) (bs : List Nat) (w : World) (hT : Tab w) (hR : Row w a len bs) (hz : a = none → len = 0 ∧ cap = 0) (hl : len ≤ 4096) :
    Calls Tryd.prog 30 #[.slice a len cap] w (WrapP bs w) := by
  have HP := Lib.hid (put_any len w (by omega))
  have HT := Lib.hid hT
  have HR := Lib.hid hR
  have HZ := Lib.hid hz
  have HE := Lib.hid (Vint.enc_lt len)
  have hE := Vint.enc_ten (n := len) (by omega)
  have HF : Hid (Frm.fr bs = (Vint.enc len ++ bs) ++ Frm.sumB (Vint.enc len ++ bs)) := Lib.hid (by unfold Frm.fr Frm.bodyB; rw [hR.size])
  clear hT hR hz
  generalize Vint.enc len = ex at HP HE hE HF
  go_enter Tryd.func30, Tryd.ntmps30
  go_wp2_with fail
  refine HP.out.mono ?_
  rintro e w1 ⟨g, c1, rfl, ho, hb⟩
  have ho' : Own w1 w.heap.size (some ⟨g, 0, none⟩) ex.length c1 ex := ho
  have HRX := Lib.hid (ho'.row HE.out)
  have HB1 := Lib.hid hb
  have hmk := run_mk w1 (ex.length + len + 4) ((ex.length : Int) + (len : Int) + 4) (by omega) (by omega)
  clear ho ho' hb HP
  generalize hXL : ex.length = L at HRX hmk hE
  have HXL := Lib.hid hXL
  clear hXL
  have HO2 := Lib.hid (own_mk w1 (L + len + 4) (by omega))
  have HB2 : Hid (Below w1.heap.size w1 (w1.alloc (.cells (madeCells #[.int .u8 0] (L + len + 4)) 5))) := Lib.hid ((Below.refl _ _).alloc (Nat.le_refl _) _)
  generalize w1.alloc (.cells (madeCells #[.int .u8 0] (L + len + 4)) 5) = w2 at hmk HO2 HB2
  go_wp2_with (at_builtin; first
    | (refine wpList_append_own_row w2 rfl _ _ rfl w1.heap.size (some ⟨w1.heap.size, 0, none⟩) 0 (L + len + 4) [] rfl HO2.out (some ⟨g, 0, none⟩) L c1 ex rfl (HRX.out.below HB2.out) (fun h => by cases h) (by omega) HB2.out.size ?_
       intro a3 c3 w3 ho hk hl1
       simp only [Nat.zero_add, List.nil_append] at ho ⊢
       have HO3 := Lib.hid ho
       have HB3 := Lib.hid (HB2.out.trans (hk.below HB2.out.size (fun i ⟨ad', h1, h2⟩ => by have := (HO2.out.lt ad' h1).1; omega)))
       clear ho hk hl1)
    | (refine wpList_append_own_row w3 rfl _ _ rfl w1.heap.size a3 L c3 ex rfl HO3.out a len cap bs rfl ((HR.out.below HB1.out).below HB3.out) HZ.out (by omega) HB3.out.size ?_
       intro a4 c4 w4 ho hk hl1
       have HO4 := Lib.hid ho
       have HB4 := Lib.hid (HB3.out.trans (hk.below HB3.out.size (fun i ⟨ad', h1, h2⟩ => by have := (HO3.out.lt ad' h1).1; omega)))
       clear ho hk hl1))
  have HS : Hid (∀ c ∈ ex ++ bs, c < 256) := Lib.hid (fun c hc => by
    rcases List.mem_append.1 hc with h | h
    · exact HE.out c h
    · exact HR.out.small c h)
  refine (sumOf_any a4 (L + len) c4 (ex ++ bs) w4 ((HT.out.below HB1.out).below HB4.out) (HO4.out.row HS.out) (by unfold maxLen; omega)).mono ?_
  rintro e w5 ⟨a5, c5, rfl, ho5, hb5⟩
  have HO5 := Lib.hid (HO4.out.below hb5)
  have HR5 := Lib.hid (ho5.row (Frm.le4_lt _))
  have HZ5 := Lib.hid ho5.cap.2.2
  have HB5 := Lib.hid (HB4.out.trans (hb5.mono HB4.out.size))
  have hsl : (Frm.sumB (ex ++ bs)).length = 4 := rfl
  rw [hsl] at HR5 HZ5 ⊢
  clear ho5 hb5 hsl
  go_wp2_with (at_builtin; (refine wpList_append_own_row w5 rfl _ _ rfl w1.heap.size a4 (L + len) c4 (ex ++ bs) rfl HO5.out a5 4 c5 (Frm.sumB (ex ++ bs)) rfl HR5.out HZ5.out (by omega) HB5.out.size ?_
                            intro a6 c6 w6 ho hk hl1
                            have HO6 := Lib.hid ho
                            have HB6 := Lib.hid (HB5.out.trans (hk.below HB5.out.size (fun i ⟨ad', h1, h2⟩ => by have := (HO5.out.lt ad' h1).1; omega)))
                            clear ho hk hl1))
  go_ret2
  have hlen : (Frm.fr bs).length = L + len + 4 := by rw [HF.out, List.length_append, List.length_append, HXL.out, HR.out.size]; rfl
  exact ⟨a6, c6, by rw [hlen]; rfl, by rw [hlen, HF.out]; exact HO6.out.mono HB1.out.size, HB1.out.trans (HB6.out.mono HB1.out.size)⟩

/-- What First leaves. -/
def FirstP (bs : List Nat) (w : World) (e : Ending) (w' : World) : Prop :=
  ∃ a cap, e = .returned (.tuple #[.slice a (Frm.first bs).1.length cap, .int .i64 ((Frm.first bs).2.1 : Int), .int .i64 ((Frm.first bs).2.2 : Int)]) ∧ Own w' w.heap.size a (Frm.first bs).1.length cap (Frm.first bs).1 ∧ Below w.heap.size w w'

theorem firstP_err {bs : List Nat} {w w' : World} {er : Nat} (h : Frm.first bs = ([], 0, er)) (hb : Below w.heap.size w w') : FirstP bs w (.returned (.tuple #[.slice none 0 0, .int .i64 0, .int .i64 (er : Int)])) w' := by
  unfold FirstP
  rw [h]
  exact ⟨none, 0, rfl, own_nil _ _, hb⟩

set_option maxHeartbeats 1000000 in
set_option maxRecDepth 100000 in
theorem first_any (a : Option Addr) (len cap : Nat) (bs : List Nat) (w : World) (hT : Tab w) (hR : Row w a len bs) (hz : a = none → len = 0 ∧ cap = 0) (hc : len ≤ cap) (hl : len ≤ 1000000) :
    Calls Tryd.prog 32 #[.slice a len cap] w (FirstP bs w) := by
  have hsz := hR.size
  rcases Frm.first_ways bs with ⟨x, k, er, hG, he, hf⟩ | ⟨x, k, hG, hx, hf⟩ | ⟨x, k, hG, hx, hlen, hf⟩ | ⟨x, k, hG, hx, hlen, hs, hf⟩ | ⟨x, k, hG, hx, hlen, hs, hf⟩
  · have HG := Lib.hid (get_any a len cap bs x k er w hR (by unfold maxLen; omega) hG)
    have HF := Lib.hid hf
    have hne : ((er : Int) != 0) = true := by simp; omega
    clear hT hR hz hG hf he hsz
    go_enter Tryd.func32, Tryd.ntmps32
    go_wp2_with fail
    refine HG.out.mono ?_
    rintro e w' ⟨rfl, rfl⟩
    go_wp2_with fail
    go_ret3
    exact firstP_err HF.out (Below.refl _ _)
  · have HG := Lib.hid (get_any a len cap bs x k 0 w hR (by unfold maxLen; omega) hG)
    have HF := Lib.hid hf
    clear hT hR hz hG hf hsz
    go_enter Tryd.func32, Tryd.ntmps32
    go_wp2_with fail
    refine HG.out.mono ?_
    rintro e w' ⟨rfl, rfl⟩
    go_wp2_with fail
    go_ret3
    exact firstP_err HF.out (Below.refl _ _)
  · have HG := Lib.hid (get_any a len cap bs x k 0 w hR (by unfold maxLen; omega) hG)
    have HF := Lib.hid hf
    have hkl := (Frm.G_begin hR.small hG).2
    rw [hsz] at hkl hlen
    clear hT hR hz hG hf hsz
    go_enter Tryd.func32, Tryd.ntmps32
    go_wp2_with fail
    refine HG.out.mono ?_
    rintro e w' ⟨rfl, rfl⟩
    go_wp2_with fail
    go_ret3
    exact firstP_err HF.out (Below.refl _ _)
  · have HG := Lib.hid (get_any a len cap bs x k 0 w hR (by unfold maxLen; omega) hG)
    have HF := Lib.hid hf
    rw [hsz] at hlen
    have HR := Lib.hid hR
    have HT := Lib.hid hT
    have HN := Lib.hid hs
    have s1 := slice_lh .i64 .i64 a len cap (k + x) (k + x + 4) ((k : Int) + (x : Int)) ((k : Int) + (x : Int) + 4) (by omega) (by omega) (by omega) (by omega)
    have i1 : IntKind.i64.wrap ((k : Int) + (x : Int) + 4) = (k : Int) + (x : Int) + 4 := by rw [IntKind.wrap_i64]; omega
    have s2 := slice_hz .i64 a len cap (k + x) ((k : Int) + (x : Int)) (by omega) (by omega)
    rw [show k + x + 4 - (k + x) = 4 by omega] at s1
    have HR1 : Hid (Row w (cutA a cap (k + x)) 4 ((bs.drop (k + x)).take 4)) := Lib.hid (by
      have := cut_rows (cap := cap) (k := k + x) (h := k + x + 4) hR (by omega) (by omega) hc
      rw [show k + x + 4 - (k + x) = 4 by omega, List.drop_take, show k + x + 4 - (k + x) = 4 by omega] at this
      exact this)
    have HR2 : Hid (Row w a (k + x) (bs.take (k + x))) := Lib.hid (hR.upto (by omega))
    clear hT hR hz hG hf hs hsz
    generalize cutA a cap (k + x) = a1 at s1 HR1
    go_enter Tryd.func32, Tryd.ntmps32
    go_wp2_with fail
    refine HG.out.mono ?_
    rintro e w' ⟨rfl, rfl⟩
    go_wp2_with fail
    have HS := Lib.hid (sumOf_any a (k + x) cap (bs.take (k + x)) w.drew (HT.out.below (Below.refl _ _).drew) (HR2.out.below (Below.refl _ _).drew) (by unfold maxLen; omega))
    go_region_held3 (fun _ => True) (trivial) (first
      | (go_at_call 41; refine HS.out.mono ?_; rintro e w2 ⟨a2, c2, rfl, ho2, hb2⟩; have HO2 := Lib.hid ho2; have HB2 := Lib.hid hb2; clear ho2 hb2)
      | (go_at_call 34; refine (equal_other a1 a2 4 4 (cap - (k + x)) c2 _ _ w2 ((HR1.out.below (Below.refl _ _).drew).below HB2.out) (HO2.out.row (Frm.le4_lt _)) HN.out).mono ?_; rintro e w3 ⟨rfl, rfl⟩))
    all_goals go_wp2_with fail
    all_goals go_ret3
    all_goals exact firstP_err HF.out ((Below.refl _ _).drew.trans HB2.out)
  · have HG := Lib.hid (get_any a len cap bs x k 0 w hR (by unfold maxLen; omega) hG)
    have HF := Lib.hid hf
    rw [hsz] at hlen
    have HR := Lib.hid hR
    have HT := Lib.hid hT
    have HN := Lib.hid hs
    have s1 := slice_lh .i64 .i64 a len cap (k + x) (k + x + 4) ((k : Int) + (x : Int)) ((k : Int) + (x : Int) + 4) (by omega) (by omega) (by omega) (by omega)
    have i1 : IntKind.i64.wrap ((k : Int) + (x : Int) + 4) = (k : Int) + (x : Int) + 4 := by rw [IntKind.wrap_i64]; omega
    have s2 := slice_hz .i64 a len cap (k + x) ((k : Int) + (x : Int)) (by omega) (by omega)
    rw [show k + x + 4 - (k + x) = 4 by omega] at s1
    have HR1 : Hid (Row w (cutA a cap (k + x)) 4 ((bs.drop (k + x)).take 4)) := Lib.hid (by
      have := cut_rows (cap := cap) (k := k + x) (h := k + x + 4) hR (by omega) (by omega) hc
      rw [show k + x + 4 - (k + x) = 4 by omega, List.drop_take, show k + x + 4 - (k + x) = 4 by omega] at this
      exact this)
    have HR2 : Hid (Row w a (k + x) (bs.take (k + x))) := Lib.hid (hR.upto (by omega))
    have HR3 : Hid (Row w (cutA a cap k) x ((bs.take (k + x)).drop k)) := Lib.hid (by
      have := cut_rows (cap := cap) (k := k) (h := k + x) hR (by omega) (by omega) hc
      rw [show k + x - k = x by omega] at this
      exact this)
    have s3 := slice_lh .i64 .i64 a len cap k (k + x) (k : Int) ((k : Int) + (x : Int)) (by omega) (by omega) (by omega) (by omega)
    rw [show k + x - k = x by omega] at s3
    have HZ3 : Hid (cutA a cap k = none → x = 0 ∧ cap - k = 0) := Lib.hid (fun h => by have := hz (cut_none h); omega)
    clear hT hR hz hG hf hs hsz
    generalize cutA a cap k = a3 at s3 HR3 HZ3
    generalize cutA a cap (k + x) = a1 at s1 HR1
    go_enter Tryd.func32, Tryd.ntmps32
    go_wp2_with fail
    refine HG.out.mono ?_
    rintro e w' ⟨rfl, rfl⟩
    go_wp2_with fail
    have HS := Lib.hid (sumOf_any a (k + x) cap (bs.take (k + x)) w.drew (HT.out.below (Below.refl _ _).drew) (HR2.out.below (Below.refl _ _).drew) (by unfold maxLen; omega))
    go_region_held3 (fun _ => True) (trivial) (first
      | (go_at_call 41; refine HS.out.mono ?_; rintro e w2 ⟨a2, c2, rfl, ho2, hb2⟩; have HO2 := Lib.hid ho2; have HB2 := Lib.hid hb2; clear ho2 hb2)
      | (go_at_call 34; refine (equal_same a1 a2 4 4 (cap - (k + x)) c2 (Frm.sumB (bs.take (k + x))) w2 (HN.out ▸ (HR1.out.below (Below.refl _ _).drew).below HB2.out) (HO2.out.row (Frm.le4_lt _))).mono ?_; rintro e w3 ⟨rfl, rfl⟩))
    all_goals go_wp2_with fail
    all_goals (refine (clone_any a3 x (cap - k) _ w2 (by omega) ((HR3.out.below (Below.refl _ _).drew).below HB2.out) HZ3.out).mono ?_; rintro e w4 ⟨a4, c4, rfl, ho4, hb4⟩; have HO4 := Lib.hid ho4; have HB4 := Lib.hid hb4; have HL4 : Hid (((bs.take (k + x)).drop k).length = x) := Lib.hid HR3.out.size; clear ho4 hb4)
    all_goals go_wp2_with fail
    all_goals go_ret3
    all_goals
      unfold FirstP
      rw [HF.out]
      have hb0 : Below w.heap.size w w2 := (Below.refl _ _).drew.trans HB2.out
      exact ⟨a4, c4, by simp, HO4.out.mono hb0.size, hb0.trans (HB4.out.mono hb0.size)⟩

end Go.Proofs.YtcgbkfnjohbglaaDoor
