/- Walks of the document's Wrap, First and Scan: they answer what the program's do. -/
import Derived.Test.YtcgbkfnjohbglaaDoorAx
import Derived.Deep.Slices
namespace Go.Proofs.YtcgbkfnjohbglaaDoor
open Go.RowKit

theorem row_one (w : World) (q : Nat) (hq : q < 256) : Row (w.alloc (.cells #[.int .u8 (q : Int)] 5)) (some ⟨w.heap.size, 0, none⟩) 1 [q] := by
  refine ⟨rfl, by simpa using hq, .inr ⟨w.heap.size, 0, rfl, fun i hi => ?_⟩⟩
  obtain rfl : i = 0 := by omega
  rw [cell_of_row _ _ _ _ 5 (0, 0) (heap_alloc_new w _)]
  rfl

theorem le4_step {S k : Nat} (hk : k < 4) : (Frm.le4 S).take (k + 1) = (Frm.le4 S).take k ++ [S / 256 ^ k % 256] := by
  match k, hk with
  | 0, _ => simp [Frm.le4]
  | 1, _ => simp [Frm.le4]
  | 2, _ => simp [Frm.le4]
  | 3, _ => simp [Frm.le4]

theorem div_step (S k : Nat) : S / 256 ^ (k + 1) = S / 256 ^ k / 256 := by
  rw [Nat.pow_succ, Nat.div_div_eq_div_mul]

theorem le4_all (S : Nat) : (Frm.le4 S).take 4 = Frm.le4 S := rfl

set_option maxHeartbeats 400000 in
theorem rwrap_big (a : Option Addr) (len cap : Nat) (w : World) (hl : len ≤ 9223372036854775807) (hb : 4096 < len) :
    Calls Tryd.prog 43 #[.slice a len cap] w fun e w' => e = .returned (.tuple #[.slice none 0 0, .int .i64 3]) ∧ w = w' := by
  go_enter Tryd.func43, Tryd.ntmps43
  go_wp2_with fail
  go_ret2
  exact ⟨rfl, rfl⟩

set_option maxHeartbeats 1000000 in
set_option maxRecDepth 100000 in
theorem rwrap_any (a : Option Addr) (len cap : Nat) (bs : List Nat) (w : World) (hR : Row w a len bs) (hz : a = none → len = 0 ∧ cap = 0) (hl : len ≤ 4096) :
    Calls Tryd.prog 43 #[.slice a len cap] w (WrapP bs w) := by
  have HF := Lib.hid (fld_any a len cap bs w (by omega) hR hz)
  have HLN := Lib.hid hR.size
  have hE := Vint.enc_ten (n := len) (by omega)
  have HS : Hid (∀ c ∈ Vint.enc len ++ bs, c < 256) := Lib.hid (fun c hc => by
    rcases List.mem_append.1 hc with h | h
    · exact Vint.enc_lt len c h
    · exact hR.small c h)
  have HFR : Hid (Frm.fr bs = (Vint.enc len ++ bs) ++ Frm.le4 (Crc.next 0 (Vint.enc len ++ bs))) := Lib.hid (by unfold Frm.fr Frm.sumB Frm.bodyB; rw [hR.size])
  have hm : (Vint.enc len ++ bs).length ≤ 5000 := by rw [List.length_append, hR.size]; omega
  clear hR hz hE
  generalize Vint.enc len ++ bs = body at HF HS HFR hm
  go_enter Tryd.func43, Tryd.ntmps43
  go_wp2_with fail
  refine HF.out.mono ?_
  rintro e w1 ⟨a1, c1, rfl, ho1, hb1⟩
  have HO1 := Lib.hid ho1
  have HB1 := Lib.hid hb1
  have hx := Frm.next_lt HS.out
  have HC := Lib.hid (rsum_any a1 body.length c1 body w1 (ho1.row HS.out) (by unfold maxLen; omega))
  clear ho1 hb1 HF
  generalize hM : body.length = m at HO1 HC hm
  generalize Crc.next 0 body = S at HFR HC hx
  have HM := Lib.hid hM
  clear hM
  go_wp2_with fail
  refine HC.out.mono ?_
  rintro e w2 ⟨rfl, rfl⟩
  go_wp2_with fail
  go_loopw [4, 5, 6] (fun o s i wr => ∃ (k x c2 : Nat) (a2 : Option Addr), k ≤ 4 ∧ x < 4294967296 ∧ o = .slice a2 (m + k) c2 ∧ s = .int .u32 (x : Int) ∧ i = .int .i64 (k : Int) ∧ Hid (x = S / 256 ^ k) ∧ Hid (Own wr w.heap.size a2 (m + k) c2 (body ++ (Frm.le4 S).take k)) ∧ Hid (Below w.heap.size w wr)) (fun _ _ i _ => 4 - (intOf i).toNat)
  case atStart => exact ⟨0, S, c1, a1, by omega, hx, rfl, rfl, rfl, Lib.hid (by simp), Lib.hid (by simpa using HO1.out), HB1⟩
  case round =>
    obtain ⟨k, x, c2, a2, hk, hx2, rfl, rfl, rfl, HX, HO, HB⟩ := hrel
    by_cases hlt : k < 4
    · have hq : (x : Int) % 256 = ((x % 256 : Nat) : Int) := by omega
      have hq2 : x % 256 < 256 := Nat.mod_lt _ (by omega)
      have hx3 : x / 256 < 4294967296 := by omega
      have HN : Hid ((Frm.le4 S).take (k + 1) = (Frm.le4 S).take k ++ [x % 256]) := Lib.hid (by rw [le4_step hlt, HX.out])
      have HXN : Hid (x / 256 = S / 256 ^ (k + 1)) := Lib.hid (by rw [div_step, HX.out])
      generalize x % 256 = q at hq hq2 HN
      have HR1 := Lib.hid (row_one wr q hq2)
      have hal : Below wr.heap.size wr (wr.alloc (.cells #[.int .u8 (q : Int)] 5)) := (Below.refl _ _).alloc (Nat.le_refl _) _
      have HA := Lib.hid hal
      clear hal HX
      go_wp2_with (at_builtin; (refine wpList_append_own_row (wr.alloc (.cells #[.int .u8 (q : Int)] 5)) rfl _ _ rfl w.heap.size a2 (m + k) c2 (body ++ (Frm.le4 S).take k) rfl (HO.out.below HA.out) (some ⟨wr.heap.size, 0, none⟩) 1 1 [q] rfl HR1.out (fun h => by cases h) (by omega) (Nat.le_trans HB.out.size HA.out.size) ?_
                                intro a3 c3 w3 ho3 hk3 _
                                have HO3 := Lib.hid ho3
                                have HK3 := Lib.hid hk3
                                clear ho3 hk3))
      go_roundw
      case rel =>
        have hb := HB.out.trans (HA.out.mono HB.out.size)
        exact ⟨k + 1, x / 256, c3, a3, by omega, hx3, rfl, by go_num, by go_num, HXN, Lib.hid (by rw [HN.out, ← List.append_assoc]; exact HO3.out), Lib.hid (hb.trans (HK3.out.below hb.size (fun i ⟨ad, h1, h2⟩ => by have := (HO.out.lt ad h1).1; omega)))⟩
      case measure => simp [intOf]; omega
    · obtain rfl : k = 4 := by omega
      go_wp2_with fail
      go_ret2
      have hlen : (Frm.fr bs).length = m + 4 := by rw [HFR.out, List.length_append, HM.out]; rfl
      exact ⟨a2, c2, by rw [hlen]; rfl, by rw [hlen, HFR.out]; exact HO.out, HB.out⟩

/-- What the document's First leaves: its content lies where it lay. -/
def RFirstP (a0 : Option Addr) (bs : List Nat) (w : World) (e : Ending) (w' : World) : Prop :=
  ∃ a cap, e = .returned (.tuple #[.slice a (Frm.first bs).1.length cap, .int .i64 ((Frm.first bs).2.1 : Int), .int .i64 ((Frm.first bs).2.2 : Int)]) ∧
    Row w' a (Frm.first bs).1.length (Frm.first bs).1 ∧ (a = none → (Frm.first bs).1.length = 0 ∧ cap = 0) ∧ (Frm.first bs).1.length ≤ cap ∧ (∀ ad, a = some ad → ∃ ad0, a0 = some ad0 ∧ ad.block = ad0.block) ∧ Below w.heap.size w w'

theorem rfirstP_err {a : Option Addr} {bs : List Nat} {w w' : World} {er : Nat} (h : Frm.first bs = ([], 0, er)) (hb : Below w.heap.size w w') : RFirstP a bs w (.returned (.tuple #[.slice none 0 0, .int .i64 0, .int .i64 (er : Int)])) w' := by
  unfold RFirstP
  rw [h]
  exact ⟨none, 0, rfl, row_nil _ _, fun _ => ⟨rfl, rfl⟩, Nat.le_refl _, (fun ad h => by cases h), hb⟩

set_option maxHeartbeats 1000000 in
set_option maxRecDepth 100000 in
theorem rfirst_any (a : Option Addr) (len cap : Nat) (bs : List Nat) (w : World) (hR : Row w a len bs) (hz : a = none → len = 0 ∧ cap = 0) (hc : len ≤ cap) (hl : len ≤ 1000000) :
    Calls Tryd.prog 35 #[.slice a len cap] w (RFirstP a bs w) := by
  have hsz := hR.size
  rcases Frm.first_ways bs with ⟨x, k, er, hG, he, hf⟩ | ⟨x, k, hG, hx, hf⟩ | ⟨x, k, hG, hx, hlen, hf⟩ | ⟨x, k, hG, hx, hlen, hs, hf⟩ | ⟨x, k, hG, hx, hlen, hs, hf⟩
  · have HG := Lib.hid (rget_any a len cap bs x k er w hR (by unfold maxLen; omega) hc hG)
    have HF := Lib.hid hf
    have hne : ((er : Int) != 0) = true := by simp; omega
    clear hR hz hG hf he hsz
    go_enter Tryd.func35, Tryd.ntmps35
    go_wp2_with fail
    refine HG.out.mono ?_
    rintro e w1 ⟨rfl, hb⟩
    have HB := Lib.hid hb
    clear hb
    go_wp2_with fail
    go_ret3
    exact rfirstP_err HF.out HB.out
  · have HG := Lib.hid (rget_any a len cap bs x k 0 w hR (by unfold maxLen; omega) hc hG)
    have HF := Lib.hid hf
    clear hR hz hG hf hsz
    go_enter Tryd.func35, Tryd.ntmps35
    go_wp2_with fail
    refine HG.out.mono ?_
    rintro e w1 ⟨rfl, hb⟩
    have HB := Lib.hid hb
    clear hb
    go_wp2_with fail
    go_ret3
    exact rfirstP_err HF.out HB.out
  · have HG := Lib.hid (rget_any a len cap bs x k 0 w hR (by unfold maxLen; omega) hc hG)
    have HF := Lib.hid hf
    have hkl := (Frm.G_begin hR.small hG).2
    rw [hsz] at hkl hlen
    clear hR hz hG hf hsz
    go_enter Tryd.func35, Tryd.ntmps35
    go_wp2_with fail
    refine HG.out.mono ?_
    rintro e w1 ⟨rfl, hb⟩
    have HB := Lib.hid hb
    clear hb
    go_wp2_with fail
    go_ret3
    exact rfirstP_err HF.out HB.out
  · have HG := Lib.hid (rget_any a len cap bs x k 0 w hR (by unfold maxLen; omega) hc hG)
    have HF := Lib.hid hf
    have hth := Frm.fr_there hR.small hG hlen
    rw [hsz] at hlen
    have HR := Lib.hid hR
    have HN := Lib.hid (fun h => hs (hth.1 h))
    have i1 : IntKind.i64.wrap ((k : Int) + (x : Int) + 4) = (k : Int) + (x : Int) + 4 := by rw [IntKind.wrap_i64]; omega
    have s2 := slice_hz .i64 a len cap (k + x + 4) ((k : Int) + (x : Int) + 4) (by omega) (by omega)
    have HR2 : Hid (Row w a (k + x + 4) (bs.take (k + x + 4))) := Lib.hid (hR.upto (by omega))
    have HR3 : Hid (Row w (cutA a cap k) x ((bs.take (k + x)).drop k)) := Lib.hid (by
      have := cut_rows (cap := cap) (k := k) (h := k + x) hR (by omega) (by omega) hc
      rw [show k + x - k = x by omega] at this
      exact this)
    have s3 := slice_lh .i64 .i64 a len cap k (k + x) (k : Int) ((k : Int) + (x : Int)) (by omega) (by omega) (by omega) (by omega)
    rw [show k + x - k = x by omega] at s3
    have HZ3 : Hid (cutA a cap k = none → x = 0 ∧ cap - k = 0) := Lib.hid (fun h => by have := hz (cut_none h); omega)
    have HLT : Hid (∀ ad, cutA a cap k = some ad → ∃ ad0, a = some ad0 ∧ ad.block = ad0.block) := Lib.hid (fun ad h => cut_some h)
    have hcap : x ≤ cap - k := by omega
    clear hz hG hf hs hsz hth hR
    generalize cutA a cap k = a3 at s3 HR3 HZ3 HLT
    generalize cap - k = c3 at s3 HZ3 hcap
    go_enter Tryd.func35, Tryd.ntmps35
    go_wp2_with fail
    refine HG.out.mono ?_
    rintro e w1 ⟨rfl, hb1⟩
    have HB1 := Lib.hid hb1
    clear hb1 HG
    go_wp2_with fail
    refine (rwrap_any a3 x c3 ((bs.take (k + x)).drop k) w1 (HR3.out.below HB1.out) HZ3.out (by omega)).mono ?_
    rintro e w2 ⟨a4, c4, rfl, ho4, hb4⟩
    have HB2 := Lib.hid (HB1.out.trans (hb4.mono HB1.out.size))
    have HD2 := Lib.hid (HB2.out.trans ((Below.refl w.heap.size w2).drew))
    have hv1 := conv_any (cap := c4) ((ho4.row (Frm.fr_lt HR3.out.small)).below (Below.refl w2.heap.size w2).drew)
    have hv2 := conv_any (cap := cap) ((HR2.out.below HB2.out).below (Below.refl w2.heap.size w2).drew)
    clear ho4 hb4
    have hne := str_neF (Frm.fr_lt HR3.out.small) HR2.out.small HN.out
    generalize strOf (Frm.fr ((bs.take (k + x)).drop k)) = z1 at hv1 hne
    generalize strOf (bs.take (k + x + 4)) = z2 at hv2 hne
    go_wp2_with fail
    go_region_with fail
    all_goals go_wp2_with fail
    all_goals go_ret3
    all_goals exact rfirstP_err HF.out HD2.out
  · have HG := Lib.hid (rget_any a len cap bs x k 0 w hR (by unfold maxLen; omega) hc hG)
    have HF := Lib.hid hf
    have hth := Frm.fr_there hR.small hG hlen
    rw [hsz] at hlen
    have HR := Lib.hid hR
    have HN := Lib.hid (hth.2 hs)
    have i1 : IntKind.i64.wrap ((k : Int) + (x : Int) + 4) = (k : Int) + (x : Int) + 4 := by rw [IntKind.wrap_i64]; omega
    have s2 := slice_hz .i64 a len cap (k + x + 4) ((k : Int) + (x : Int) + 4) (by omega) (by omega)
    have HR2 : Hid (Row w a (k + x + 4) (bs.take (k + x + 4))) := Lib.hid (hR.upto (by omega))
    have HR3 : Hid (Row w (cutA a cap k) x ((bs.take (k + x)).drop k)) := Lib.hid (by
      have := cut_rows (cap := cap) (k := k) (h := k + x) hR (by omega) (by omega) hc
      rw [show k + x - k = x by omega] at this
      exact this)
    have s3 := slice_lh .i64 .i64 a len cap k (k + x) (k : Int) ((k : Int) + (x : Int)) (by omega) (by omega) (by omega) (by omega)
    rw [show k + x - k = x by omega] at s3
    have HZ3 : Hid (cutA a cap k = none → x = 0 ∧ cap - k = 0) := Lib.hid (fun h => by have := hz (cut_none h); omega)
    have HLT : Hid (∀ ad, cutA a cap k = some ad → ∃ ad0, a = some ad0 ∧ ad.block = ad0.block) := Lib.hid (fun ad h => cut_some h)
    have hcap : x ≤ cap - k := by omega
    clear hz hG hf hs hsz hth hR
    generalize cutA a cap k = a3 at s3 HR3 HZ3 HLT
    generalize cap - k = c3 at s3 HZ3 hcap
    go_enter Tryd.func35, Tryd.ntmps35
    go_wp2_with fail
    refine HG.out.mono ?_
    rintro e w1 ⟨rfl, hb1⟩
    have HB1 := Lib.hid hb1
    clear hb1 HG
    go_wp2_with fail
    refine (rwrap_any a3 x c3 ((bs.take (k + x)).drop k) w1 (HR3.out.below HB1.out) HZ3.out (by omega)).mono ?_
    rintro e w2 ⟨a4, c4, rfl, ho4, hb4⟩
    have HB2 := Lib.hid (HB1.out.trans (hb4.mono HB1.out.size))
    have HD2 := Lib.hid (HB2.out.trans ((Below.refl w.heap.size w2).drew))
    have hv1 := conv_any (cap := c4) ((ho4.row (Frm.fr_lt HR3.out.small)).below (Below.refl w2.heap.size w2).drew)
    have hv2 := conv_any (cap := cap) ((HR2.out.below HB2.out).below (Below.refl w2.heap.size w2).drew)
    clear ho4 hb4
    generalize (Frm.fr ((bs.take (k + x)).drop k)).length = fl at hv1 ⊢
    rw [HN.out] at hv1
    generalize strOf (bs.take (k + x + 4)) = z2 at hv1 hv2
    go_wp2_with fail
    go_region_with fail
    all_goals go_wp2_with fail
    all_goals go_ret3
    all_goals
      unfold RFirstP
      rw [HF.out]
      have hlen3 := HR3.out.size
      simp only [hlen3]
      exact ⟨a3, c3, rfl, HR3.out.below HD2.out, HZ3.out, hcap, HLT.out, HD2.out⟩


end Go.Proofs.YtcgbkfnjohbglaaDoor
