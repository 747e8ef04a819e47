/- Walks of nums, bytes and Encode of the document. -/
import Derived.Test.YtcgbkfnjohbglaaDoorPd
import Derived.Test.YtcgbkfnjohbglaaDoorRf
namespace Go.Proofs.YtcgbkfnjohbglaaDoor
open Go.RowKit

/-- What vint.Put of the document leaves, as a slice of the call's own. -/
theorem rvput (n : Nat) (w : World) (h : n < 18446744073709551616) : Calls Tryd.prog 54 #[.int .u64 (n : Int)] w fun e w' => ∃ g cap, e = .returned (.slice (some ⟨g, 0, none⟩) (Vint.enc n).length cap) ∧ Row w' (some ⟨g, 0, none⟩) (Vint.enc n).length (Vint.enc n) ∧ Below w.heap.size w w' := by
  refine (rput_any n w h).mono ?_
  rintro e w' ⟨g, cap, he, hown, hb⟩
  have ho : Own w' w.heap.size (some ⟨g, 0, none⟩) (Vint.enc n).length cap (Vint.enc n) := hown
  exact ⟨g, cap, he, ho.row (Vint.enc_lt n), hb⟩

/-- A row of numbers. -/
structure Nl (w : World) (g : Nat) (l : List Nat) : Prop where
  cell : ∀ i, i < l.length → w.cell? ⟨g, i, none⟩ = some (.int .u64 ((l.getD i 0 : Nat) : Int))
  small : ∀ x ∈ l, x < 18446744073709551616
theorem Nl.below {w w' : World} {g : Nat} {l : List Nat} (h : Nl w g l) (hb : Below w.heap.size w w') : Nl w' g l := ⟨fun i hi => below_at hb (h.cell i hi), h.small⟩
theorem Nl.keep {S : Nat → Prop} {w w' : World} {g : Nat} {l : List Nat} (h : Nl w g l) (k : Kept S w w') (hn : ¬ S g) : Nl w' g l := ⟨fun i hi => k.at_ (h.cell i hi) hn, h.small⟩
theorem nl_of {w : World} {g : Nat} {l : List Nat} (hb : Blk w g 72 (l.map fun n : Nat => Value.int .u64 (n : Int)).toArray) (hs : ∀ x ∈ l, x < 18446744073709551616) : Nl w g l := by
  refine ⟨fun i hi => ?_, hs⟩
  rw [hb.cell]
  simp [hi, List.getD]
theorem encs_take {l : List Nat} {i : Nat} (hi : i < l.length) : encs (l.take (i + 1)) = encs (l.take i) ++ Vint.enc (l.getD i 0) := by
  rw [List.take_succ_eq_append_getElem hi, encs_append]
  simp [encs, List.getD, hi]
/-- What nums leaves. -/
def NumsP (B : Nat) (a : Option Addr) (bs : List Nat) (w : World) (e : Ending) (w' : World) : Prop :=
  ∃ a' len' cap', e = .returned (.slice a' len' cap') ∧ Own w' B a' len' cap' bs ∧ Kept (fun k => ∃ ad, a = some ad ∧ k = ad.block) w w'

set_option maxHeartbeats 2000000 in
set_option maxRecDepth 100000 in
theorem nums_any (B : Nat) (a : Option Addr) (len cap : Nat) (bs : List Nat) (g m c : Nat) (l : List Nat) (w : World) (hm : l.length = m) (ho : Own w B a len cap bs) (hl : Nl w g l) (hg : ∀ ad, a = some ad → ad.block ≠ g) (hlen : len + 10 * m ≤ 100000) (hB : B ≤ w.heap.size) :
    Calls Tryd.prog 42 #[.slice a len cap, .slice (some ⟨g, 0, none⟩) m c] w (NumsP B a (bs ++ encs l) w) := by
  have HO := Lib.hid ho
  have HL := Lib.hid hl
  have HG := Lib.hid hg
  have HM := Lib.hid hm
  have HGL : Hid (0 < m → g < w.heap.size) := Lib.hid (fun h => block_lt_of_cell (hl.cell 0 (by omega)))
  clear ho hl hg hm
  go_enter Tryd.func42, Tryd.ntmps42
  go_wp2_with fail
  go_loopw [0, 5] (fun s i wr => ∃ (k n2 c2 : Nat) (a2 : Option Addr), k ≤ m ∧ n2 ≤ len + 10 * k ∧ s = .slice a2 n2 c2 ∧ i = .int .i64 (k : Int) ∧ Hid (Own wr B a2 n2 c2 (bs ++ encs (l.take k))) ∧ Hid (Kept (fun k => ∃ ad, a = some ad ∧ k = ad.block) w wr) ∧ Hid (Lies w a a2)) (fun _ i _ => m - (intOf i).toNat)
  case atStart => exact ⟨0, len, cap, a, Nat.zero_le _, by omega, rfl, rfl, Lib.hid (by simpa [encs] using HO.out), Lib.hid (Kept.refl _ _), Lib.hid (Lies.refl _ _)⟩
  case round =>
    obtain ⟨k, n2, c2, a2, hk, hn2, rfl, rfl, HO2, HK, HLI⟩ := hrel
    by_cases hlt : k < m
    · have HNG : Hid (¬ ∃ ad, a = some ad ∧ g = ad.block) := Lib.hid (fun ⟨ad, h1, h2⟩ => HG.out ad h1 h2.symm)
      have hc := (HL.out.keep HK.out HNG.out).cell k (by have := HM.out; omega)
      have hsm := HL.out.small (l.getD k 0) (by have := HM.out; simp [List.getD, show k < l.length by omega])
      have HE : Hid (encs (l.take (k + 1)) = encs (l.take k) ++ Vint.enc (l.getD k 0)) := Lib.hid (encs_take (by have := HM.out; omega))
      generalize l.getD k 0 = x at hc hsm HE
      have HP := Lib.hid (rvput x · hsm)
      have hten := Vint.enc_ten hsm
      generalize Vint.enc x = y at HP HE hten
      generalize hL : y.length = L at HP hten
      clear hL
      go_wp2_with (first | (go_at_call 54; refine (HP.out _).mono ?_; rintro e w2 ⟨g2, cp2, rfl, hr2, hb2⟩; have HR2 := Lib.hid hr2; have HB2 := Lib.hid hb2; clear hr2 hb2) | (at_builtin; refine wpList_append_own_row _ rfl _ _ rfl B a2 n2 c2 (bs ++ encs (l.take k)) rfl (HO2.out.below HB2.out) (some ⟨g2, 0, none⟩) L cp2 y rfl HR2.out (fun h => by cases h) (by omega) (by have := HK.out.size; have := HB2.out.size; omega) ?_; intro a3 c3 w3 ho3 hk3 hl3; have HO3 := Lib.hid ho3; have HK3 := Lib.hid hk3; have HL3 := Lib.hid hl3; clear ho3 hk3 hl3))
      go_roundw
      case rel =>
        refine ⟨k + 1, n2 + L, c3, a3, by omega, by omega, rfl, by go_num, Lib.hid (by rw [HE.out, ← List.append_assoc]; exact HO3.out), Lib.hid ?_, Lib.hid ?_⟩
        · refine (HK.out.trans (T := fun k => ∃ ad, a2 = some ad ∧ k = ad.block) ((Kept.of_below (S := fun k => ∃ ad, a2 = some ad ∧ k = ad.block) HB2.out).trans HK3.out (fun i hi => .inl hi)) (fun i ⟨ad, h1, h2⟩ => ?_))
          rcases HLI.out ad h1 with ⟨ad0, h3, h4⟩ | h3
          · exact .inl ⟨ad0, h3, by omega⟩
          · exact .inr (by omega)
        · exact HLI.out.trans (fun ad had => by
            rcases HL3.out ad had with ⟨ad0, h3, h4⟩ | h3
            · exact .inl ⟨ad0, h3, h4⟩
            · exact .inr (Nat.le_trans HB2.out.size h3)) HK.out.size
      case measure => simp [intOf]; omega
    · obtain rfl : k = m := by omega
      have HE : Hid (l.take k = l) := Lib.hid (List.take_of_length_le (by have := HM.out; omega))
      go_wp2_with fail
      go_ret
      exact ⟨a2, n2, c2, rfl, by rw [← HE.out]; exact HO2.out, HK.out⟩

/-- Bytes of its own behind a page in a box. -/
structure Rb (w W : World) (q : Nat) (lf : Bool) (a1 : Option Addr) (n1 c1 : Nat) (a2 : Option Addr) (n2 c2 : Nat) (a3 : Option Addr) (n3 c3 : Nat) (a : Option Addr) (len cap : Nat) (bs : List Nat) : Prop where
  box : Blk W q 26 (pgA lf a1 n1 c1 a2 n2 c2 a3 n3 c3)
  own : Own W (q + 1) a len cap bs
  wlt : w.heap.size ≤ q
  old : Below w.heap.size w W
section
variable {w W W' : World} {q : Nat} {lf : Bool} {a1 : Option Addr} {n1 c1 : Nat} {a2 : Option Addr} {n2 c2 : Nat} {a3 : Option Addr} {n3 c3 : Nat} {a : Option Addr} {len cap : Nat} {bs : List Nat}
theorem Rb.below (h : Rb w W q lf a1 n1 c1 a2 n2 c2 a3 n3 c3 a len cap bs) (hb : Below W.heap.size W W') : Rb w W' q lf a1 n1 c1 a2 n2 c2 a3 n3 c3 a len cap bs := ⟨h.box.below hb, h.own.below hb, h.wlt, h.old.trans (hb.mono h.old.size)⟩
theorem Rb.e0 (h : Rb w W q lf a1 n1 c1 a2 n2 c2 a3 n3 c3 a len cap bs) : W.cell? ⟨q, 0, none⟩ = some (.bool lf) := h.box.cell 0
theorem Rb.e1 (h : Rb w W q lf a1 n1 c1 a2 n2 c2 a3 n3 c3 a len cap bs) : W.cell? ⟨q, 1, none⟩ = some (.slice a1 n1 c1) := h.box.cell 1
theorem Rb.e2 (h : Rb w W q lf a1 n1 c1 a2 n2 c2 a3 n3 c3 a len cap bs) : W.cell? ⟨q, 2, none⟩ = some (.slice a2 n2 c2) := h.box.cell 2
theorem Rb.e3 (h : Rb w W q lf a1 n1 c1 a2 n2 c2 a3 n3 c3 a len cap bs) : W.cell? ⟨q, 3, none⟩ = some (.slice a3 n3 c3) := h.box.cell 3
/-- What nums leaves. -/
def RbP (w : World) (q : Nat) (lf : Bool) (a1 : Option Addr) (n1 c1 : Nat) (a2 : Option Addr) (n2 c2 : Nat) (a3 : Option Addr) (n3 c3 : Nat) (bs : List Nat) (e : Ending) (w' : World) : Prop :=
  ∃ a' len' cap', e = .returned (.slice a' len' cap') ∧ Rb w w' q lf a1 n1 c1 a2 n2 c2 a3 n3 c3 a' len' cap' bs
theorem Rb.nums (h : Rb w W q lf a1 n1 c1 a2 n2 c2 a3 n3 c3 a len cap bs) (m : Nat) (l : List Nat) (cs : Array Value) (hcs : cs = (l.map fun n : Nat => Value.int .u64 (n : Int)).toArray) (hm : l.length = m) (hs : ∀ x ∈ l, x < 18446744073709551616) (hm5 : m ≤ 5) (hlen : bs.length ≤ 90000) :
    Calls Tryd.prog 42 #[.slice a len cap, .slice (some ⟨W.heap.size, 0, none⟩) m m] (W.alloc (.cells cs 72)) (RbP w q lf a1 n1 c1 a2 n2 c2 a3 n3 c3 (bs ++ encs l)) := by
  subst hcs
  have h1 := h.below (below_one W (.cells (l.map fun n : Nat => Value.int .u64 (n : Int)).toArray 72))
  have hlen2 := h.own.len
  refine (nums_any (q + 1) a len cap bs W.heap.size m m l _ hm h1.own (nl_of (Blk.new W 72 _) hs) (fun ad ha he => by have := (h.own.lt ad ha).2; omega) (by omega) (by have := h.box.lt; simp; omega)).mono ?_
  rintro e w' ⟨a', len', cap', rfl, ho, hk⟩
  have hge : ∀ k, (∃ ad, a = some ad ∧ k = ad.block) → q + 1 ≤ k := fun k ⟨ad, h1, h2⟩ => by have := (h.own.lt ad h1).1; omega
  refine ⟨a', len', cap', rfl, h1.box.kept hk (fun hh => by have := hge _ hh; omega), ho, h.wlt, h1.old.trans (hk.below h1.old.size (fun k hh => by have := hge _ hh; have := h.wlt; omega))⟩
end
theorem ky3 {w : World} {g : Nat} {t : TypeId} {x : Ky} (h : Blk w g t x.arr) : w.cell? ⟨g, 0, none⟩ = some (.int .u16 (x.c : Int)) ∧ w.cell? ⟨g, 1, none⟩ = some (.int .u8 (x.r : Int)) ∧ w.cell? ⟨g, 2, none⟩ = some (.int .u32 (x.s : Int)) := ⟨h.cell 0, h.cell 1, h.cell 2⟩
theorem Pg.upto_leaf2 {P : Pg} {k : Nat} {x : Ky} {y : Lo} (h : P.leaf = true) (hx : kyAt P.ks k = x) (hy : loAt P.ls k = y) : encs (P.upto (k + 1)) = (encs (P.upto k) ++ encs [x.c, x.r, x.s]) ++ encs [y.g, y.t] := by
  rw [Pg.upto_leaf h hx hy]; simp [encs]
theorem Pg.upto_inner2 {P : Pg} {k : Nat} {x : Ky} {y : Kd} (h : P.leaf = false) (hx : kyAt P.ks k = x) (hy : kdAt P.ds k = y) : encs (P.upto (k + 1)) = (encs (P.upto k) ++ encs [x.c, x.r, x.s]) ++ encs [y.n] := by
  rw [Pg.upto_inner h hx hy]; simp [encs]
theorem Pg.upto_zero2 (P : Pg) : encs (P.upto 0) = [] ++ encs [kindN P.leaf, P.ks.length] := by simp [Pg.upto, Pg.items]

end Go.Proofs.YtcgbkfnjohbglaaDoor
