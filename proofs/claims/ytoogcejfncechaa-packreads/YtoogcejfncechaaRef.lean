/- Walks of the document's answer for writers: Join, Field and Lay. -/
import Derived.Test.YtoogcejfncechaaAlive
import Derived.Deep.RegionHeld3
import Derived.Deep.RegionWith
namespace Go.Proofs.Ytoogcejfncechaa
open Go.RowKit

theorem Kept.at_ {S : Nat → Prop} {w w' : World} (k : Kept S w w') {b o : Nat} {v : Value} (h : w.cell? ⟨b, o, Option.none⟩ = some v) (hn : ¬ S b) : w'.cell? ⟨b, o, Option.none⟩ = some v :=
  (World.cell?_of_block (w := w) (w' := w') (a := ⟨b, o, Option.none⟩) (k.block b (block_lt_of_cell h) hn)).trans h

theorem below_at {w w' : World} (k : Below w.heap.size w w') {b o : Nat} {v : Value} (h : w.cell? ⟨b, o, none⟩ = some v) : w'.cell? ⟨b, o, none⟩ = some v :=
  (k.cell (p := ⟨b, o, none⟩) (block_lt_of_cell h)).trans h

set_option maxHeartbeats 1000000 in
theorem join_any (a b : Option Addr) (n m c d : Nat) (x y : List Nat) (w : World) (hl : n + m ≤ 1000000) (hR : Row w a n x) (hz : a = none → n = 0 ∧ c = 0) (hR2 : Row w b m y) (hz2 : b = none → m = 0 ∧ d = 0) :
    Calls Try.prog 28 #[.slice a n c, .slice b m d] w (Fresh (x ++ y) w) := by
  have hal : Below w.heap.size w (w.alloc (.cells #[] 5)) := (Below.refl w.heap.size w).alloc (Nat.le_refl _) (.cells #[] 5)
  have HR := Lib.hid (hR.below hal)
  have HZ := Lib.hid hz
  have HR2 := Lib.hid hR2
  have HZ2 := Lib.hid hz2
  have HS := Lib.hid hR.size
  have HS2 := Lib.hid hR2.size
  clear hR hR2 hal hz hz2
  go_enter Try.func28, Try.ntmps28
  go_wp2_with (at_builtin; first
    | (refine wpList_append_own_row _ rfl _ _ rfl w.heap.size (some ⟨w.heap.size, 0, none⟩) 0 0 [] rfl (own_empty w) a n c x rfl HR.out HZ.out (by omega) (by simp) ?_
       intro a1 c1 w1 ho hk hl1
       simp only [Nat.zero_add, List.nil_append] at ho ⊢
       have HO := Lib.hid ho
       have HB := Lib.hid (below_new hk (fun i ⟨ad', h1, h2⟩ => by obtain rfl := Option.some.inj h1; exact Nat.le_of_eq h2.symm))
       clear ho hk hl1)
    | (refine wpList_append_own_row w1 rfl _ _ rfl w.heap.size a1 n c1 x rfl HO.out b m d y rfl (HR2.out.below HB.out) HZ2.out (by omega) HB.out.size ?_
       intro a2 c2 w2 ho hk hl1
       have HO2 := Lib.hid ho
       have HB2 := Lib.hid (HB.out.trans (hk.below HB.out.size (fun i ⟨ad', h1, h2⟩ => by have := (HO.out.lt ad' h1).1; omega)))
       clear ho hk hl1))
  go_ret
  have hlen : (x ++ y).length = n + m := by rw [List.length_append, HS.out, HS2.out]
  exact ⟨a2, c2, by rw [hlen]; rfl, by rw [hlen]; exact HO2.out, HB2.out⟩

set_option maxHeartbeats 1000000 in
theorem field_any (b : Option Addr) (m d : Nat) (y : List Nat) (w : World) (hl : m ≤ 100000) (hR2 : Row w b m y) (hz2 : b = none → m = 0 ∧ d = 0) :
    Calls Try.prog 27 #[.slice b m d] w (Fresh (Vint.enc m ++ y) w) := by
  have HP := Lib.hid (rput_any m w (by omega))
  have hL := Vint.enc_ten (n := m) (by omega)
  have HX := Lib.hid (Vint.enc_lt m)
  have HR2 := Lib.hid hR2
  have HZ2 := Lib.hid hz2
  clear hR2 hz2
  generalize Vint.enc m = l at HP hL HX
  go_enter Try.func27, Try.ntmps27
  go_wp2_with fail
  refine HP.out.mono ?_
  rintro e w1 ⟨g, c1, rfl, ho, hb⟩
  have HJ := Lib.hid (join_any (some ⟨g, 0, none⟩) b l.length m c1 d l y w1 (by omega) (Own.row (B := w.heap.size) (cap := c1) ho HX.out) (fun h => by cases h) (HR2.out.below hb) HZ2.out)
  have HB := Lib.hid hb
  clear ho hb
  go_wp2_with fail
  refine HJ.out.mono ?_
  rintro e w2 ⟨a2, c2, rfl, ho2, hb2⟩
  have HO2 := Lib.hid (ho2.mono HB.out.size)
  have HB2 := Lib.hid (HB.out.trans (hb2.mono HB.out.size))
  clear ho2 hb2
  go_wp2_with fail
  go_ret
  exact ⟨a2, c2, by rw [List.length_append]; rfl, HO2.out, HB2.out⟩

/-- What Lay leaves: the document's writer, its bytes and error, and the error that is told. -/
def Laid (er : Nat) (bs l : List Nat) (a0 : Option Addr) (len0 : Nat) (w : World) (e : Ending) (w' : World) : Prop :=
  ∃ a' len' cap', e = .returned (.tuple #[.agg #[.slice a' len' cap', .int .i64 (layE er bs.length l.length : Int)], .int .i64 (layE er bs.length l.length : Int)]) ∧ Row w' a' len' (layB er bs l) ∧ (a' = none → len' = 0 ∧ cap' = 0) ∧ (∀ ad, a' = some ad → len' ≠ 0 → (∃ ad0, a0 = some ad0 ∧ ad.block = ad0.block ∧ len0 ≠ 0) ∨ w.heap.size ≤ ad.block) ∧ Below w.heap.size w w'

theorem below_two (w : World) (o o' : Obj) : Below w.heap.size w ((w.alloc o).alloc o').drew := (((Below.refl _ _).alloc (Nat.le_refl _) _).alloc (by simp) _).drew
theorem below_two' (w : World) (o o' : Obj) : Below w.heap.size w ((w.alloc o).alloc o') := ((Below.refl _ _).alloc (Nat.le_refl _) _).alloc (by simp) _

theorem laid_same (er : Nat) (a : Option Addr) (n c : Nat) (x y : List Nat) (w w' : World) (he : er ≠ 0) (hR : Row w a n x) (hz : a = none → n = 0 ∧ c = 0) (hb : Below w.heap.size w w') :
    Laid er x y a n w (.returned (.tuple #[.agg #[.slice a n c, .int .i64 (er : Int)], .int .i64 (er : Int)])) w' := by
  have e1 : layE er x.length y.length = er := by unfold layE; rw [if_neg he]
  have e2 : layB er x y = x := by unfold layB; rw [if_neg (fun h => he h.1)]
  exact ⟨a, n, c, by rw [e1], by rw [e2]; exact hR.below hb, hz, fun ad ha h0 => .inl ⟨ad, ha, rfl, h0⟩, hb⟩

set_option maxHeartbeats 1000000 in
theorem lay_err (er : Nat) (a b : Option Addr) (n m c d : Nat) (x y : List Nat) (w : World) (he : er ≠ 0) (hR : Row w a n x) (hz : a = none → n = 0 ∧ c = 0) :
    Calls Try.prog 11 #[.agg #[.slice a n c, .int .i64 (er : Int)], .slice b m d] w (Laid er x y a n w) := by
  have hne : ((er : Int) != 0) = true := by simp; omega
  have HE := Lib.hid he
  have HR := Lib.hid hR
  have HZ := Lib.hid hz
  clear he hR hz
  go_enter Try.func11, Try.ntmps11
  go_wp2_with fail
  go_region_with fail
  all_goals go_wp2_with fail
  all_goals exact bodyPost_ret (v := .tuple #[.agg #[.slice a n c, .int .i64 (er : Int)], .int .i64 (er : Int)]) (by simp [results, Try.results11, go_sem]) rfl (laid_same er a n c x y w _ HE.out HR.out HZ.out (below_two _ _ _))

set_option maxHeartbeats 1000000 in
theorem lay_big (a b : Option Addr) (n m c d : Nat) (x y : List Nat) (w : World) (hn : n ≤ 1000000) (hm : m ≤ 1000000) (hbig : 65536 < n + m) (hR : Row w a n x) (hz : a = none → n = 0 ∧ c = 0) (hy : y.length = m) :
    Calls Try.prog 11 #[.agg #[.slice a n c, .int .i64 0], .slice b m d] w (Laid 0 x y a n w) := by
  have HR := Lib.hid hR
  have HZ := Lib.hid hz
  have HY := Lib.hid hy
  have hbig' : (65536 : Int) < (n : Int) + (m : Int) := by omega
  clear hR hz hy
  go_enter Try.func11, Try.ntmps11
  go_wp2_with fail
  have e1 : layE 0 x.length y.length = 3 := by unfold layE; rw [if_pos rfl, if_pos (by rw [HY.out, HR.out.size]; exact hbig)]
  have e2 : layB 0 x y = x := by unfold layB; rw [if_neg (by rw [HY.out, HR.out.size]; omega)]
  exact bodyPost_ret (v := .tuple #[.agg #[.slice a n c, .int .i64 3], .int .i64 3]) (by simp [results, Try.results11, go_sem]) rfl ⟨a, n, c, by rw [e1]; rfl, by rw [e2]; exact HR.out.below (below_two' _ _ _), HZ.out, fun ad ha h0 => .inl ⟨ad, ha, rfl, h0⟩, below_two' _ _ _⟩

set_option maxHeartbeats 1000000 in
theorem lay_ok (a b : Option Addr) (n m c d : Nat) (x y : List Nat) (w : World) (hle : n + m ≤ 65536) (hR : Row w a n x) (hz : a = none → n = 0 ∧ c = 0) (hR2 : Row w b m y) (hz2 : b = none → m = 0 ∧ d = 0) :
    Calls Try.prog 11 #[.agg #[.slice a n c, .int .i64 0], .slice b m d] w (Laid 0 x y a n w) := by
  have hbel := below_two' w (.cells #[.slice a n c, .int .i64 0] 28) (.cells #[.slice none 0 0, .int .i64 0] 28)
  have HJ := Lib.hid (join_any a b n m c d x y ((w.alloc (.cells #[.slice a n c, .int .i64 0] 28)).alloc (.cells #[.slice none 0 0, .int .i64 0] 28)) (by omega) (hR.below hbel) hz (hR2.below hbel) hz2)
  have HBE := Lib.hid hbel
  have HS1 := Lib.hid hR.size
  have HS2 := Lib.hid hR2.size
  have HX : Hid (∀ c ∈ x ++ y, c < 256) := Lib.hid (fun c hc => by rcases List.mem_append.1 hc with h | h; exact hR.small c h; exact hR2.small c h)
  have hle' : (n : Int) + (m : Int) ≤ 65536 := by omega
  clear hR hz hR2 hz2 hbel
  go_enter Try.func11, Try.ntmps11
  go_wp2_with fail
  refine HJ.out.mono ?_
  rintro e w2 ⟨a2, c2, rfl, ho, hb⟩
  have hs := hb.size
  have b1 : Blk w2 w.heap.size 28 #[.slice a n c, .int .i64 0] := Blk.below (Blk.kept (S := fun _ => False) (Blk.new w 28 _) (.of_below ((Below.refl _ _).alloc (Nat.le_refl _) _)) (fun h => h)) hb
  have b2 : Blk w2 (w.heap.size + 1) 28 #[.slice none 0 0, .int .i64 0] := Blk.below (by simpa using Blk.new (w.alloc (.cells #[.slice a n c, .int .i64 0] 28)) 28 #[.slice none 0 0, .int .i64 0]) hb
  have HO := Lib.hid ho
  have HB := Lib.hid (HBE.out.trans (hb.mono HBE.out.size))
  have x1 := b1.cell 0
  have x2 := b1.cell 1
  have x3 := b2.cell 0
  have x4 := b2.cell 1
  have y1 := b1.frozen 0
  have y3 := b2.frozen 0
  have y4 := b2.frozen 1
  simp at x1 x2 x3 x4
  clear b1 b2 ho hb HJ HBE hs
  go_wp2_with fail
  have hlen : (x ++ y).length = x.length + y.length := List.length_append
  have e1 : layE 0 x.length y.length = 0 := by unfold layE; rw [if_pos rfl, if_neg (by rw [HS1.out, HS2.out]; omega)]
  have e2 : layB 0 x y = x ++ y := by unfold layB; rw [if_pos ⟨rfl, by rw [HS1.out, HS2.out]; exact hle⟩]
  have hK : Kept (fun k => k = w.heap.size ∨ k = w.heap.size + 1) w2 (((w2.setCell ⟨w.heap.size, 0, none⟩ (.slice a2 (x.length + y.length) c2)).setCell ⟨w.heap.size + 1, 0, none⟩ (.slice a2 (x.length + y.length) c2)).setCell ⟨w.heap.size + 1, 1, none⟩ (.int .i64 0)) :=
    (((kept_cell _ _ _ _).mono (fun k hk => .inl hk)).trans ((kept_cell _ _ _ _).mono (fun k hk => .inr hk)) (fun i hi => .inl hi)).trans ((kept_cell _ _ _ _).mono (fun k hk => .inr hk)) (fun i hi => .inl hi)
  refine bodyPost_ret (v := .tuple #[.agg #[.slice a2 (x.length + y.length) c2, .int .i64 0], .int .i64 0]) (by simp [results, Try.results11, go_sem, x3, x4]) rfl ⟨a2, x.length + y.length, c2, by rw [e1]; rfl, ?_, ?_, ?_, ?_⟩
  · rw [e2]
    have hr := HO.out.row HX.out
    rw [hlen] at hr
    exact hr.keep (S := fun k => k = w.heap.size ∨ k = w.heap.size + 1) hK (fun ad ha _ (hk : ad.block = w.heap.size ∨ ad.block = w.heap.size + 1) => by have := (HO.out.lt ad ha).1; simp at this; omega)
  · exact hlen ▸ HO.out.cap.2.2
  · intro ad ha _
    have := (HO.out.lt ad ha).1
    simp at this
    exact .inr (by omega)
  · exact HB.out.trans (hK.below (HB.out.size) (fun k hk => by omega))

theorem lay_any (er : Nat) (a b : Option Addr) (n m c d : Nat) (x y : List Nat) (w : World) (hn : n ≤ 1000000) (hm : m ≤ 1000000) (hR : Row w a n x) (hz : a = none → n = 0 ∧ c = 0) (hR2 : Row w b m y) (hz2 : b = none → m = 0 ∧ d = 0) :
    Calls Try.prog 11 #[.agg #[.slice a n c, .int .i64 (er : Int)], .slice b m d] w (Laid er x y a n w) := by
  by_cases he : er = 0
  · subst he
    by_cases hle : n + m ≤ 65536
    · exact lay_ok a b n m c d x y w hle hR hz hR2 hz2
    · exact lay_big a b n m c d x y w hn hm (by omega) hR hz hR2.size
  · exact lay_err er a b n m c d x y w he hR hz

end Go.Proofs.Ytoogcejfncechaa
