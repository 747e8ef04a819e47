/- Walk of Missing of a set of dots. -/
import Derived.Test.YtkamldmcjegjgaaLoo
namespace Go.Proofs.Ytkamldmcjegjgaa
open Go.RowKit

/-- What Missing has made: a vector, the loose dots, and the answer so far. -/
structure Mi (w wr : World) (g : Nat) (a : Option Addr) (cap : Nat) (L : List Dt) (u : V) (ao : Option Addr) (co : Nat) (out : List Dt) : Prop where
  vec : Blk wr g 24 u.arr
  lst : OwnD wr w.heap.size a L.length cap L
  out : OwnD wr w.heap.size ao out.length co out
  ne : ∀ ad ad', a = some ad → ao = some ad' → ad.block ≠ ad'.block
  old : Below w.heap.size w wr
  gt : w.heap.size ≤ g

section
variable {w wr wr' : World} {g : Nat} {a : Option Addr} {cap : Nat} {L : List Dt} {u : V} {ao : Option Addr} {co : Nat} {out : List Dt}
theorem Mi.below (h : Mi w wr g a cap L u ao co out) (hb : Below wr.heap.size wr wr') : Mi w wr' g a cap L u ao co out :=
  ⟨h.vec.below hb, h.lst.below hb, h.out.below hb, h.ne, h.old.trans (hb.mono h.old.size), h.gt⟩
theorem Mi.put (h : Mi w wr g a cap L u ao co out) {r s : Nat} (hr : r < 16) (hs : s < 4294967296) : Mi w (wr.setCell ⟨g, r, none⟩ (.int .u32 (s : Int))) g a cap L (u.put r s) ao co out := by
  have k := Kept.setCell wr ⟨g, r, none⟩ (.int .u32 (s : Int))
  have hb := h.vec.set r (.int .u32 (s : Int))
  rw [V.arr_put u hr hs] at hb
  exact ⟨hb, h.lst.keep k (fun ad had => h.lst.ne_blk h.vec (by decide) ad had), h.out.keep k (fun ad had => h.out.ne_blk h.vec (by decide) ad had), h.ne, h.old.trans (k.below h.old.size (fun k hk => by rw [hk]; exact h.gt)), h.gt⟩
theorem Mi.push (h : Mi w wr g a cap L u ao co out) {x : Dt} {ao' : Option Addr} {co' : Nat} (ho : OwnD wr' w.heap.size ao' (out.length + 1) co' (out ++ [x])) (k : Kept (At ao) wr wr') (hl : Lies wr ao ao') : Mi w wr' g a cap L u ao' co' (out ++ [x]) := by
  refine ⟨h.vec.kept k ?_, h.lst.keep k ?_, by simpa using ho, ?_, h.old.trans (k.below h.old.size ?_), h.gt⟩
  · rintro ⟨ad, had, e⟩; exact h.out.ne_blk h.vec (by decide) ad had e.symm
  · rintro ad had ⟨ad', had', e⟩; exact h.ne ad ad' had had' e
  · intro ad ad' had had' e
    rcases hl ad' had' with ⟨ad0, h0, e0⟩ | h1
    · exact h.ne ad ad0 had h0 (e.trans e0)
    · have := (h.lst.lt ad had).2; omega
  · rintro k ⟨ad, had, rfl⟩; exact (h.out.lt ad had).1
end

theorem miss_cons (u : V) (x : Dt) (T : List Dt) : miss u (x :: T) = run x.1 (u.at_ x.1 + 1) (x.2 - (u.at_ x.1 + 1)) ++ miss (u.put x.1 x.2) T := rfl

/-- The vector laid down. -/
theorem laid24 (w : World) (u : V) : Blk ((w.alloc (.cells V.zero.arr 24)).setRow w.heap.size u.arr) w.heap.size 24 u.arr ∧ Below w.heap.size w ((w.alloc (.cells V.zero.arr 24)).setRow w.heap.size u.arr) :=
  ⟨(Blk.new w 24 V.zero.arr).row, ret_row (below_one w _) (Nat.le_refl _)⟩

set_option maxRecDepth 100000 in
set_option maxHeartbeats 2000000 in
theorem gmissing_any {w : World} {p m : Nat} {c : V} {L : List Dt} (h : Grp w p m c L) (hn : Norm c L) (hl : L.length ≤ 900) : Calls Try.prog 21 #[.pointer (some ⟨p, 0, none⟩)] w (Lists (miss c L) w) := by
  have HS := Lib.hid h
  have HN := Lib.hid hn
  have HL := Lib.hid hl
  have HLM : Hid ((miss c L).length < 1000000000) := Lib.hid (by have := len_miss L c (fun x hx => (hn.mem x hx).2.1); omega)
  have HC := Lib.hid (closed_any h)
  have ha1 := fun (w : World) => alloc24 w
  clear h hn hl
  go_enter Try.func21, Try.ntmps21
  go_wp2_with fail
  refine HC.out.mono ?_
  rintro e w1 ⟨rfl, hb⟩
  have H1 := Lib.hid (HS.out.below hb)
  have HB1 := Lib.hid hb
  clear hb HC
  go_wp2_with (first | (refine wpList_run rfl (exec_alloc24 rfl) ?_) | (refine wpList_void rfl rfl (exec_store24 (u := c) rfl rfl rfl (Blk.new w1 24 V.zero.arr)) ?_))
  clear ha1
  have HV := Lib.hid (laid24 w1 c)
  generalize (w1.alloc (.cells V.zero.arr 24)).setRow w1.heap.size c.arr = W at HV
  obtain ⟨g, hg⟩ : ∃ g, w1.heap.size = g := ⟨_, rfl⟩
  rw [hg] at HV
  rw [hg]
  have HB2 : Hid (Below w.heap.size w W) := Lib.hid (HB1.out.trans (by have := HV.out.2; rw [← hg] at this; exact this.mono HB1.out.size))
  have HGT : Hid (w.heap.size ≤ g) := Lib.hid (by rw [← hg]; exact HB1.out.size)
  have HC2 := Lib.hid (gloose_any (H1.out.below (by have := HV.out.2; rw [← hg] at this; exact this)) (by have := HL.out; omega))
  clear hg HB1
  refine HC2.out.mono ?_
  rintro e w2 ⟨a, cap, rfl, ho, hb⟩
  have H0 : Hid (Mi w w2 g a cap L c none 0 []) := Lib.hid ⟨HV.out.1.below hb, ho.mono HB2.out.size, own_nil _ _, by simp, HB2.out.trans (hb.mono HB2.out.size), HGT.out⟩
  clear ho hb HC2
  go_wp2_with fail
  go_loopw [13, 4] (fun i v wr => ∃ (k : Nat) (u : V) (ao : Option Addr) (co : Nat) (out : List Dt), k ≤ L.length ∧ i = .int .i64 (k : Int) ∧ v = .slice ao out.length co ∧ Hid (Mi w wr g a cap L u ao co out) ∧ Hid (out ++ miss u (L.drop k) = miss c L) ∧ Hid (Abv u (L.drop k))) (fun i _ _ => L.length - (intOf i).toNat)
  case atStart => exact ⟨0, c, none, 0, [], by omega, rfl, rfl, H0, Lib.hid (by simp), Lib.hid (by simpa using HN.out.abv)⟩
  case round =>
    obtain ⟨k, u, ao, co, out, hk, rfl, rfl, HR, HE, HA⟩ := hrel
    by_cases hlt : k < L.length
    · obtain ⟨x, hx⟩ : ∃ x, L[k]? = some x := ⟨L[k], by simp [hlt]⟩
      obtain ⟨r, s⟩ := x
      have hdrop : L.drop k = (r, s) :: L.drop (k + 1) := by
        obtain ⟨h1, h2⟩ := List.getElem?_eq_some_iff.1 hx
        rw [List.drop_eq_getElem_cons h1, h2]
      obtain ⟨b, off, hab, hcl⟩ := (HR.out.lst.dl HS.out.raw).cells.resolve_left (by omega)
      obtain ⟨c1, c2⟩ := hcl k _ hx
      subst hab
      have hok := HA.out (r, s) (by rw [hdrop]; simp)
      have HX := Lib.hid hx
      have HD := Lib.hid hdrop
      simp only at c1 c2 hok
      obtain ⟨hr, hs, hus⟩ := hok
      clear hx hdrop hcl
      have hi0 : (0 : Int) ≤ (r : Int) := by omega
      have hi1 : (r : Int) < 16 := by omega
      obtain ⟨y, hy⟩ : ∃ y, u.at_ r = y := ⟨_, rfl⟩
      obtain ⟨z, hz⟩ : ∃ z, y + 1 = z := ⟨_, rfl⟩
      have HY := Lib.hid hy
      rw [hy] at hus
      have hw1 := wrap_succ (y := y) (by omega)
      rw [hz] at hw1
      have HZ := Lib.hid hz
      have hzs : z ≤ s := by omega
      have HU := Lib.hid hus
      clear hy hz hus
      have HM0 := Lib.hid (HR.out.below (below_one wr (.cells #[.int .u8 (r : Int), .int .u32 (s : Int)] 34)))
      have HB0 := Lib.hid (Blk.new wr 34 #[.int .u8 (r : Int), .int .u32 (s : Int)])
      have HND : Hid (∀ ad, ao = some ad → ad.block ≠ wr.heap.size) := Lib.hid (fun ad had => by have := (HR.out.out.lt ad had).2; omega)
      have HWS : Hid (w.heap.size ≤ wr.heap.size) := Lib.hid HR.out.old.size
      have c3 : (wr.alloc (.cells #[.int .u8 (r : Int), .int .u32 (s : Int)] 34)).cell? ⟨g, r, none⟩ = some (.int .u32 (y : Int)) := by rw [HM0.out.vec.cell, V.arr_at _ hr, HY.out]
      go_wp2_with fail
      clear c1 c2 c3 hw1
      generalize wr.alloc (.cells #[.int .u8 (r : Int), .int .u32 (s : Int)] 34) = W3 at HM0 HB0
      obtain ⟨d, hd⟩ : ∃ d, wr.heap.size = d := ⟨_, rfl⟩
      rw [hd] at HB0 HND HWS
      rw [hd]
      clear hd
      go_loopw [7, 4] (fun q v wr2 => ∃ (t : Nat) (ao2 : Option Addr) (co2 : Nat) (o2 : List Dt), t ≤ s ∧ z ≤ t ∧ q = .int .u32 (t : Int) ∧ v = .slice ao2 o2.length co2 ∧ Hid (o2 = out ++ run r z (t - z)) ∧ Hid (Mi w wr2 g (some ⟨b, off, none⟩) cap L u ao2 co2 o2) ∧ Hid (Blk wr2 d 34 #[.int .u8 (r : Int), .int .u32 (s : Int)]) ∧ Hid (∀ ad, ao2 = some ad → ad.block ≠ d)) (fun q _ _ => s - (intOf q).toNat)
      case atStart => exact ⟨z, ao, co, out, hzs, Nat.le_refl _, rfl, rfl, Lib.hid (by simp [run]), HM0, HB0, HND⟩
      case round =>
        obtain ⟨t, ao2, co2, o2, hts, hzt, rfl, rfl, HO, HM, HB, HD2⟩ := hrel
        have c1 : wr.cell? ⟨d, 0, none⟩ = some (.int .u8 (r : Int)) := by rw [HB.out.cell]; rfl
        have c2 : wr.cell? ⟨d, 1, none⟩ = some (.int .u32 (s : Int)) := by rw [HB.out.cell]; rfl
        by_cases htl : t < s
        · have hw2 := wrap_succ (y := t) (by omega)
          obtain ⟨t2, ht2⟩ : ∃ t2, t + 1 = t2 := ⟨_, rfl⟩
          rw [ht2] at hw2
          have HT2 := Lib.hid ht2
          clear ht2
          have HM1 := Lib.hid (HM.out.below (below_one wr (.cells #[.int .u8 (r : Int), .int .u32 (t : Int)] 34)))
          have HBN := Lib.hid (Blk.new wr 34 #[.int .u8 (r : Int), .int .u32 (t : Int)])
          have HB1 := Lib.hid (HB.out.below (below_one wr (.cells #[.int .u8 (r : Int), .int .u32 (t : Int)] 34)))
          have HSZ : Hid (o2.length < 1000000000) := Lib.hid (by
            have h1 := HE.out
            rw [HD.out, miss_cons] at h1
            have h2 := congrArg List.length h1
            simp only [List.length_append, len_run] at h2
            rw [HY.out, HZ.out] at h2
            rw [HO.out]
            simp only [List.length_append, len_run]
            have := HLM.out
            omega)
          have HWB : Hid (w.heap.size ≤ (wr.alloc (.cells #[.int .u8 (r : Int), .int .u32 (t : Int)] 34)).heap.size) := Lib.hid (HM1.out.old.size)
          go_wp2_with (at_builtin; refine wpList_appendD rfl rfl rfl rfl HM1.out.out HBN.out HSZ.out HWB.out ?_; intro a' cap' w3 ho3 hk3 hl3)
          have HM3 := Lib.hid (HM1.out.push ho3 hk3 hl3)
          have HB3 : Hid (Blk w3 d 34 #[.int .u8 (r : Int), .int .u32 (s : Int)]) := Lib.hid (HB1.out.kept hk3 (by rintro ⟨ad, had, e⟩; exact HD2.out ad had e.symm))
          have HD3 : Hid (∀ ad, a' = some ad → ad.block ≠ d) := Lib.hid (by
            intro ad had e
            rcases hl3 ad had with ⟨ad0, h0, e0⟩ | h1
            · exact HD2.out ad0 h0 (e0.symm.trans e)
            · have := HB1.out.lt; omega)
          clear ho3 hk3 hl3 c1 c2
          go_wp2_with fail
          go_roundw
          case rel =>
            refine ⟨t2, a', cap', o2 ++ [(r, t)], by have := HT2.out; omega, by have := HT2.out; omega, rfl, by simp, Lib.hid ?_, HM3, HB3, HD3⟩
            have e1 : t2 - z = (t - z) + 1 := by have := HT2.out; omega
            rw [e1, run_succ, HO.out, List.append_assoc, show z + (t - z) = t by omega]
          case measure => have := HT2.out; simp [intOf]; omega
        · obtain rfl : t = s := by omega
          have c3 : wr.cell? ⟨g, r, none⟩ = some (.int .u32 (u.at_ r : Int)) := by rw [HM.out.vec.cell, V.arr_at _ hr]
          have f3 := HM.out.vec.frozen r
          generalize u.at_ r = y3 at c3
          have hk9 : k < 900 := by have := HL.out; omega
          go_wp2_with fail
          go_roundw
          case rel =>
            refine ⟨k + 1, u.put r t, ao2, co2, o2, by omega, by go_num, rfl, Lib.hid (HM.out.put hr (by omega)), Lib.hid ?_, Lib.hid ?_⟩
            · have h1 := HE.out
              rw [HD.out, miss_cons] at h1
              simp only at h1
              rw [HY.out, HZ.out] at h1
              rw [HO.out, List.append_assoc]
              exact h1
            · have h1 := HA.out
              rw [HD.out] at h1
              exact abv_step (by have := HS.out.srt; rw [← List.take_append_drop k L, HD.out] at this; exact (List.pairwise_append.1 this).2.1) h1
          case measure => simp [intOf]; omega
    · obtain rfl : k = L.length := by omega
      have HF : Hid (out = miss c L) := Lib.hid (by have := HE.out; rwa [List.drop_length, miss, List.append_nil] at this)
      go_wp2_with fail
      go_ret
      rw [← HF.out]
      exact ⟨_, _, rfl, HR.out.out, HR.out.old⟩

end Go.Proofs.Ytkamldmcjegjgaa
