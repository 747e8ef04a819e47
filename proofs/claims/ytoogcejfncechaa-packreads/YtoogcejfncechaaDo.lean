/- Walk of the law's own 'do': a field is laid down, and its bytes are answered as the document says them. -/
import Derived.Test.YtoogcejfncechaaRef
namespace Go.Proofs.Ytoogcejfncechaa
open Go.RowKit

/-- What 'do' leaves. -/
def Did (p er : Nat) (a : Option Addr) (bs l : List Nat) (w : World) (e : Ending) (w' : World) : Prop :=
  ∃ a' len' cap' g c, e = .returned (.tuple #[.int .i64 (layE er bs.length l.length : Int), .slice g l.length c]) ∧ Wr w' p (layE er bs.length l.length) a' len' cap' (layB er bs l) ∧ Kept (Wat p a) w w' ∧ Lies w a a' ∧ Own w' w.heap.size g l.length c l ∧ (∀ ad, g = some ad → ¬ Wat p a' ad.block)

theorem did_end {p er : Nat} {a a' : Option Addr} {len' cap' : Nat} {bs l : List Nat} {w W0 w2 w3 : World} {g : Option Addr} {L c3 : Nat} (HAL : Below w.heap.size w W0) (HW2 : Wr w2 p (layE er bs.length l.length) a' len' cap' (layB er bs l)) (HK2 : Kept (Wat p a) W0.drew w2) (HL2 : Lies W0.drew a a') (HO3 : Own w3 w2.heap.size g L c3 l) (HB3 : Below w2.heap.size w2 w3) :
    Did p er a bs l w (.returned (.tuple #[.int .i64 (layE er bs.length l.length : Int), .slice g L c3])) w3 := by
  have hL := HO3.len
  subst hL
  refine ⟨a', len', cap', g, c3, rfl, HW2.below HB3, (Kept.of_below HAL.drew).trans (HK2.trans (Kept.of_below HB3) (fun i hi => .inl hi)) (fun i hi => .inl hi), (Lies.refl w a).trans HL2 HAL.size, HO3.mono (Nat.le_trans HAL.size HK2.size), fun ad ha hk => ?_⟩
  have h1 := (HO3.lt ad ha).1
  have h2 := (HW2.at_lt _ hk).2
  omega

set_option maxHeartbeats 1000000 in
theorem do_num (p er : Nat) (a : Option Addr) (len cap : Nat) (bs : List Nat) (k n : Nat) (b : Option Addr) (m d : Nat) (w : World) (hk : k < 256) (hk3 : k % 3 = 0) (hn : n < 18446744073709551616) (h : Wr w p er a len cap bs) :
    Calls Try.prog 10 #[.pointer (some ⟨p, 0, none⟩), .agg #[.int .u8 (k : Int), .int .u64 (n : Int), .slice b m d]] w (Did p er a bs (Vint.enc n) w) := by
  have hq : ((k : Int) % 3 == 0) = true := by simp; omega
  clear hk3
  have H := Lib.hid h
  have HN := Lib.hid hn
  clear h hn
  go_enter Try.func10, Try.ntmps10
  go_wp2_with fail
  have hal : Below w.heap.size w (w.alloc (.cells #[.int .u8 (k : Int), .int .u64 (n : Int), .slice b m d] 31)) := (Below.refl _ _).alloc (Nat.le_refl _) _
  have HW0 := Lib.hid (H.out.below hal)
  have HAL := Lib.hid hal
  have hc : (w.alloc (.cells #[.int .u8 (k : Int), .int .u64 (n : Int), .slice b m d] 31)).cell? ⟨w.heap.size, 1, none⟩ = some (.int .u64 (n : Int)) := (Blk.new w 31 _).cell 1
  have HQ : Hid (¬ Wat p a w.heap.size) := Lib.hid (fun h => Nat.lt_irrefl _ (H.out.at_lt _ h).2)
  clear hal
  generalize w.alloc (.cells #[.int .u8 (k : Int), .int .u64 (n : Int), .slice b m d] 31) = W0 at HW0 HAL hc
  go_region_held3 (fun w' => w'.cell? ⟨w.heap.size, 1, none⟩ = some (.int .u64 (n : Int))) (first | exact hc | exact kc1 | exact kc2) (first
    | (go_at_call 22; refine (wnum_any p er a len cap bs n _ HN.out (HW0.out.below (Below.refl _ _).drew)).mono ?_; rintro e w2 ⟨a', len', cap', rfl, hw2, hk2, hl2⟩; have HW2 := Lib.hid hw2; have HK2 := Lib.hid hk2; have HL2 := Lib.hid hl2; have kc1 := hk2.at_ hc HQ.out; clear hw2 hk2 hl2)
    | (go_at_call 25; refine (rput_any n _ HN.out).mono ?_; rintro e w3 ⟨g, c3, rfl, ho3, hb3⟩; have HO3 := Lib.hid (show Own w3 w2.heap.size _ _ c3 _ from ho3); have HB3 := Lib.hid hb3; have kc2 := below_at hb3 kc1; clear ho3 hb3))
  go_wp2_with fail
  go_ret2
  exact did_end HAL.out HW2.out HK2.out HL2.out HO3.out HB3.out

set_option maxHeartbeats 1000000 in
theorem do_int (p er : Nat) (a : Option Addr) (len cap : Nat) (bs : List Nat) (k n : Nat) (z : Int) (b : Option Addr) (m d : Nat) (w : World) (hk : k < 256) (hk3 : k % 3 = 1) (hz : IntKind.i64.wrap (n : Int) = z) (h0 : -9223372036854775808 ≤ z) (h1 : z ≤ 9223372036854775807) (h : Wr w p er a len cap bs) :
    Calls Try.prog 10 #[.pointer (some ⟨p, 0, none⟩), .agg #[.int .u8 (k : Int), .int .u64 (n : Int), .slice b m d]] w (Did p er a bs (Vint.enc (fold z).toNat) w) := by
  have hq : ((k : Int) % 3 == 0) = false := by simp; omega
  have hq1 : ((k : Int) % 3 == 1) = true := by simp; omega
  have hlo := fold_lo z
  have hhi := fold_hi z h0 h1
  have HF : Hid (∀ w, Calls Try.prog 26 #[.int .i64 z] w fun e w' => e = .returned (.int .u64 ((fold z).toNat : Int)) ∧ w = w') := Lib.hid (fun w => by
    rw [show ((fold z).toNat : Int) = fold z by omega]
    exact rfold_any z w h0 h1)
  have HP : Hid (∀ w, Calls Try.prog 25 #[.int .u64 ((fold z).toNat : Int)] w (Made (Vint.enc (fold z).toNat) w)) := Lib.hid (fun w => rput_any _ w (by omega))
  have H := Lib.hid h
  have HI : Hid (∀ w, Wr w p er a len cap bs → Calls Try.prog 23 #[.pointer (some ⟨p, 0, none⟩), .int .i64 z] w (Wrote p er a bs (Vint.enc (fold z).toNat) w)) := Lib.hid (fun w h => wint_any p er a len cap bs z w h0 h1 h)
  clear h hk3 hlo hhi h0 h1
  generalize Vint.enc (fold z).toNat = l at HP HI
  generalize (fold z).toNat = f at HF HP
  go_enter Try.func10, Try.ntmps10
  go_wp2_with fail
  have hal : Below w.heap.size w (w.alloc (.cells #[.int .u8 (k : Int), .int .u64 (n : Int), .slice b m d] 31)) := (Below.refl _ _).alloc (Nat.le_refl _) _
  have HW0 := Lib.hid (H.out.below hal)
  have HAL := Lib.hid hal
  have hc : (w.alloc (.cells #[.int .u8 (k : Int), .int .u64 (n : Int), .slice b m d] 31)).cell? ⟨w.heap.size, 1, none⟩ = some (.int .u64 (n : Int)) := (Blk.new w 31 _).cell 1
  have HQ : Hid (¬ Wat p a w.heap.size) := Lib.hid (fun h => Nat.lt_irrefl _ (H.out.at_lt _ h).2)
  clear hal
  generalize w.alloc (.cells #[.int .u8 (k : Int), .int .u64 (n : Int), .slice b m d] 31) = W0 at HW0 HAL hc
  go_region_held3 (fun w' => w'.cell? ⟨w.heap.size, 1, none⟩ = some (.int .u64 (n : Int))) (first | exact hc | exact kc1 | exact kc2) (first
    | (go_at_call 23; refine (HI.out _ (HW0.out.below (Below.refl _ _).drew)).mono ?_; rintro e w2 ⟨a', len', cap', rfl, hw2, hk2, hl2⟩; have HW2 := Lib.hid hw2; have HK2 := Lib.hid hk2; have HL2 := Lib.hid hl2; have kc1 := hk2.at_ hc HQ.out; clear hw2 hk2 hl2)
    | (go_at_call 26; refine (HF.out _).mono ?_; rintro e w' ⟨rfl, rfl⟩)
    | (go_at_call 25; refine (HP.out _).mono ?_; rintro e w3 ⟨g, c3, rfl, ho3, hb3⟩; have HO3 := Lib.hid (show Own w3 w2.heap.size _ _ c3 _ from ho3); have HB3 := Lib.hid hb3; have kc2 := below_at hb3 kc1; clear ho3 hb3))
  go_wp2_with fail
  go_ret2
  exact did_end HAL.out HW2.out HK2.out HL2.out HO3.out HB3.out

set_option maxHeartbeats 1000000 in
theorem do_bytes (p er : Nat) (a : Option Addr) (len cap : Nat) (bs : List Nat) (k : Nat) (v : Int) (b : Option Addr) (m d : Nat) (y : List Nat) (w : World) (hk : k < 256) (hk3 : k % 3 = 2) (hm : m ≤ 3000) (h : Wr w p er a len cap bs) (hR : Row w b m y) (hz : b = none → m = 0 ∧ d = 0) (hn : ∀ ad, b = some ad → m ≠ 0 → ¬ Wat p a ad.block) :
    Calls Try.prog 10 #[.pointer (some ⟨p, 0, none⟩), .agg #[.int .u8 (k : Int), .int .u64 v, .slice b m d]] w (Did p er a bs (Vint.enc m ++ y) w) := by
  have hq : ((k : Int) % 3 == 0) = false := by simp; omega
  have hq1 : ((k : Int) % 3 == 1) = false := by simp; omega
  have H := Lib.hid h
  have HR := Lib.hid hR
  have HZ := Lib.hid hz
  have HN := Lib.hid hn
  have HB : Hid (∀ w, Wr w p er a len cap bs → Row w b m y → Calls Try.prog 24 #[.pointer (some ⟨p, 0, none⟩), .slice b m d] w (Wrote p er a bs (Vint.enc m ++ y) w)) := Lib.hid (fun w h1 h2 => wbytes_any p er a len cap bs b m d y w (by omega) h1 h2 hz hn)
  have HF : Hid (∀ w, Row w b m y → Calls Try.prog 27 #[.slice b m d] w (Fresh (Vint.enc m ++ y) w)) := Lib.hid (fun w h1 => field_any b m d y w (by omega) h1 hz)
  clear h hR hz hn hk3
  generalize Vint.enc m ++ y = l at HB HF
  go_enter Try.func10, Try.ntmps10
  go_wp2_with fail
  have hal : Below w.heap.size w (w.alloc (.cells #[.int .u8 (k : Int), .int .u64 v, .slice b m d] 31)) := (Below.refl _ _).alloc (Nat.le_refl _) _
  have HW0 := Lib.hid (H.out.below hal)
  have HR0 := Lib.hid (HR.out.below hal)
  have HAL := Lib.hid hal
  have hc : (w.alloc (.cells #[.int .u8 (k : Int), .int .u64 v, .slice b m d] 31)).cell? ⟨w.heap.size, 2, none⟩ = some (.slice b m d) := (Blk.new w 31 _).cell 2
  have HQ : Hid (¬ Wat p a w.heap.size) := Lib.hid (fun h => Nat.lt_irrefl _ (H.out.at_lt _ h).2)
  clear hal
  generalize w.alloc (.cells #[.int .u8 (k : Int), .int .u64 v, .slice b m d] 31) = W0 at HW0 HAL hc HR0
  go_region_held3 (fun w' => w'.cell? ⟨w.heap.size, 2, none⟩ = some (.slice b m d)) (first | exact hc | exact kc1 | exact kc2) (first
    | (go_at_call 24; refine (HB.out _ (HW0.out.below (Below.refl _ _).drew) (HR0.out.below (Below.refl _ _).drew)).mono ?_; rintro e w2 ⟨a', len', cap', rfl, hw2, hk2, hl2⟩; have HW2 := Lib.hid hw2; have HK2 := Lib.hid hk2; have HL2 := Lib.hid hl2; have kc1 := hk2.at_ hc HQ.out; have HR2 := Lib.hid ((HR0.out.below (Below.refl _ _).drew).keep hk2 HN.out); clear hw2 hk2 hl2)
    | (go_at_call 27; refine (HF.out _ HR2.out).mono ?_; rintro e w3 ⟨g, c3, rfl, ho3, hb3⟩; have HO3 := Lib.hid ho3; have HB3 := Lib.hid hb3; have kc2 := below_at hb3 kc1; clear ho3 hb3))
  go_wp2_with fail
  go_ret2
  exact did_end HAL.out HW2.out HK2.out HL2.out HO3.out HB3.out

end Go.Proofs.Ytoogcejfncechaa
