/- Walk of Loose of a set of dots: the keys of its map, collected in whatever order and sorted. -/
import Derived.Test.YtkamldmcjegjgaaLst
namespace Go.Proofs.Ytkamldmcjegjgaa
open Go.RowKit Go.Maps

/-- What was collected: just those that are no longer to come. -/
structure Coll (L : List Dt) (left : Lit → Bool) (ss : List Dt) : Prop where
  nodup : ss.Nodup
  raw : ∀ x ∈ ss, Raw x
  mem : ∀ x, Raw x → (x ∈ ss ↔ x ∈ L ∧ left (kd x) = false)

theorem coll_start {D : DataW Unit} {L : List Dt} (hk : ∀ kl, Maps.has D kl = true ↔ ∃ x ∈ L, kl = kd x) : Coll L (Maps.has D) [] := by
  refine ⟨List.nodup_nil, by simp, fun x _ => ?_⟩
  simp only [List.not_mem_nil, false_iff]
  rintro ⟨h1, h2⟩
  rw [(hk (kd x)).2 ⟨x, h1, rfl⟩] at h2
  cases h2

theorem Coll.step {L : List Dt} {left : Lit → Bool} {ss : List Dt} (h : Coll L left ss) {x : Dt} (hx : Raw x) (hl : left (kd x) = true) (hm : x ∈ L) : Coll L (fun z => left z && !z.sameKey (kd x)) (ss ++ [x]) := by
  have hn : x ∉ ss := fun hh => by
    have := ((h.mem x hx).1 hh).2
    rw [hl] at this
    cases this
  refine ⟨?_, ?_, fun y hy => ?_⟩
  · rw [List.nodup_append]
    exact ⟨h.nodup, by simp, fun a ha b hb e => by
      obtain rfl : b = x := by simpa using hb
      exact hn (e ▸ ha)⟩
  · intro y hy
    rcases List.mem_append.1 hy with hy | hy
    · exact h.raw y hy
    · obtain rfl : y = x := by simpa using hy
      exact hx
  · rw [List.mem_append, h.mem y hy]
    simp only [List.mem_singleton, Bool.and_eq_false_iff, Bool.not_eq_false']
    constructor
    · rintro (⟨h1, h2⟩ | rfl)
      · exact ⟨h1, .inl h2⟩
      · exact ⟨hm, .inr (WideAt.sameKey_self (law34.key (key34 y hy)))⟩
    · rintro ⟨h1, h2 | h2⟩
      · exact .inl ⟨h1, h2⟩
      · exact .inr (kd_inj hy hx (WideAt.sameKey_eq h2))

theorem Coll.all {L : List Dt} {left : Lit → Bool} {ss : List Dt} (h : Coll L left ss) (hL : ∀ x ∈ L, Raw x) (hl : ∀ kl, left kl = false) (x : Dt) : x ∈ ss ↔ x ∈ L := by
  constructor
  · intro hx
    exact ((h.mem x (h.raw x hx)).1 hx).1
  · intro hx
    exact (h.mem x (hL x hx)).2 ⟨hx, hl _⟩

/-- What Loose answers: a slice of its own of these dots. -/
def Lists (l : List Dt) (w : World) (e : Ending) (w' : World) : Prop := ∃ a cap, e = .returned (.slice a l.length cap) ∧ OwnD w' w.heap.size a l.length cap l ∧ Below w.heap.size w w'

theorem grp_has {w : World} {p m : Nat} {c : V} {L : List Dt} (h : Grp w p m c L) : ∃ D : DataW Unit, w.ownsMap Try.prog 34 unitElem m L.length D ∧ (∀ kl, Maps.has D kl = true ↔ ∃ x ∈ L, kl = kd x) ∧ Maps.size D = L.length := by
  obtain ⟨D, h1, h2, h3, _⟩ := h.mp.tight h.srt h.raw
  exact ⟨D, h1, h2, h3⟩

theorem dot_two (w : World) (r s : Nat) : Blk ((w.alloc (.cells #[.int .u8 (r : Int), .int .u32 (s : Int)] 34)).alloc (.cells #[.int .u8 (r : Int), .int .u32 (s : Int)] 34)) (w.heap.size + 1) 34 #[.int .u8 (r : Int), .int .u32 (s : Int)] := by
  have := Blk.new (w.alloc (.cells #[.int .u8 (r : Int), .int .u32 (s : Int)] 34)) 34 #[.int .u8 (r : Int), .int .u32 (s : Int)]
  simpa only [World.size_alloc] using this

theorem ranges_kept {S : Nat → Prop} {w w' : World} {m q n cnt : Nat} {D : DataW Unit} {left : Lit → Bool} (h : w.ranges Try.prog 34 unitElem m q n D left cnt) (k : Kept S w w') (hm : ¬ S m) (hq : ¬ S q) : w'.ranges Try.prog 34 unitElem m q n D left cnt := by
  have h1 := h.owns.lt
  have h2 := h.lt
  obtain ⟨es, clock, since, seen, c0, hb, F, hs, hD, hr, rest⟩ := h
  exact ⟨es, clock, since, seen, c0, (k.block m h1 hm).trans hb, F, hs, hD, (k.block q h2 hq).trans hr, rest⟩

set_option maxRecDepth 100000 in
set_option maxHeartbeats 1000000 in
theorem gloose_any {w : World} {p m : Nat} {c : V} {L : List Dt} (h : Grp w p m c L) (hl : L.length < 1000000) : Calls Try.prog 19 #[.pointer (some ⟨p, 0, none⟩)] w (Lists L w) := by
  obtain ⟨D, hown, hk, hsz⟩ := grp_has h
  obtain ⟨i0, hi, hz0, hz1, hz2⟩ := info_parts info34
  have HS := Lib.hid h
  have HO := Lib.hid hown
  have HK := Lib.hid hk
  have HZ := Lib.hid hsz
  have HL := Lib.hid hl
  have Hi := Lib.hid hi
  have Hz0 := Lib.hid hz0
  have Hz1 := Lib.hid hz1
  have Hz2 := Lib.hid hz2
  have c1 := h.map
  have HM := Lib.hid (made_any h)
  clear h hown hk hsz hi hz0 hz1 hz2 hl
  go_enter Try.func19, Try.ntmps19
  go_wp2_with fail
  refine HM.out.mono ?_
  rintro e w1 ⟨rfl, rfl⟩
  clear HM
  go_wp2_with (first
    | (at_len; refine wpList_len_own _ rfl _ 51 rfl 34 62 und51 _ m L.length D rfl HO.out ?_)
    | (at_make; refine wpList_make_own _ rfl _ _ 25 rfl w.heap.size 34 i0 _ 2 Try.underlying25 Hi.out Hz0.out Hz1.out _ _ _ (Maps.size D) rfl rfl rfl (by rw [Hz2.out, HZ.out]; have := HL.out; omega) (by rw [HZ.out]; have := HL.out; unfold maxLen; omega) (Nat.le_refl _) ?_; intro w1 hrow1 hg1; have c2 := (Kept.of_grown hg1).at_ c1 (by simp))
    | (at_range; refine wpList_range_own _ rfl _ 51 rfl 34 62 law34 und51 _ m L.length D rfl (HO.out.kept hg1 (by simp)) ?_; intro w0 hrg0 hg0 hs0))
  go_frame
  have HR0 := Lib.hid hrg0
  have HW0 : Hid (OwnD w0 w.heap.size (some ⟨w.heap.size, 0, none⟩) 0 (Maps.size D) []) := Lib.hid (OwnD.keep (w := w1) hrow1 (Kept.of_grown hg0) (by simp))
  have HB0 : Hid (Below w.heap.size w w0) := Lib.hid (((Below.refl _ _).grown hg1 (Nat.le_refl _) (fun j hj => by cases hj)).grown hg0 hg1.size (fun j hj => by cases hj))
  have HG1 : Hid (w.heap.size ≤ w1.heap.size) := Lib.hid hg1.size
  obtain ⟨q, hq⟩ : ∃ q, w1.heap.size = q := ⟨_, rfl⟩
  rw [hq] at HR0 HG1
  rw [hq]
  have HMM := Lib.hid (show m < w.heap.size from HO.out.lt)
  clear hrg0 hrow1 hg0 hg1 hs0 c1 c2 hq HO
  go_loopw [3] (fun v wr => ∃ (left : Lit → Bool) (cnt : Nat) (ss : List Dt) (g cap : Nat), v = .slice (some ⟨g, 0, none⟩) ss.length cap ∧ Hid (wr.ranges Try.prog 34 unitElem m q L.length D left cnt) ∧ Hid (ss.length + cnt ≤ L.length) ∧
      Hid (OwnD wr w.heap.size (some ⟨g, 0, none⟩) ss.length cap ss) ∧ Hid (Coll L left ss) ∧ Hid (Below w.heap.size w wr)) (fun _ wr => wr.rangeLeft m q)
  case atStart => exact ⟨_, _, [], _, _, rfl, HR0, Lib.hid (by rw [HZ.out]; simp), HW0, Lib.hid (coll_start HK.out), HB0⟩
  case round =>
    obtain ⟨left, cnt, ss, g, cap, rfl, HR, HN, HW, HC, HB⟩ := hrel
    go_wp2_with (at_next; refine wpList_next_ranges _ rfl _ rfl 34 law34 unitElem (fun x : Dt => Value.agg #[.int .u8 (x.1 : Int), .int .u32 (x.2 : Int)]) (fun _ : Unit => Value.agg #[]) (fun key kl hk => by obtain ⟨x, hx, _⟩ := key34_inv hk; exact ⟨x, hx⟩) (fun v y hv => by obtain ⟨rfl, _⟩ := unitElem_inv hv; exact ⟨(), rfl⟩) m q L.length D left cnt rfl HR.out ?_ ?_)
    · intro hc0 hl0
      have HE : Hid (∀ x, x ∈ ss ↔ x ∈ L) := Lib.hid (HC.out.all HS.out.raw hl0)
      clear hl0 hc0
      have hso := sort_any HW.out (by have := HN.out; have := HL.out; omega) HC.out.nodup
      have HSO := Lib.hid hso
      clear hso
      go_wp2_with fail
      refine HSO.out.mono ?_
      rintro e w3 ⟨rfl, l2, hp, hs, ho, hk⟩
      have hE := HE.out
      obtain rfl : l2 = L := srt_ext hs HS.out.srt (fun x => by rw [hp.mem_iff, hE x])
      have hlen := hp.length_eq
      have HH := Lib.hid (show Lists l2 w (.returned (.slice (some ⟨g, 0, none⟩) ss.length cap)) w3 from by
        rw [← hlen]
        refine ⟨_, _, rfl, ?_, HB.out.trans (hk.below HB.out.size (fun k hk => by rw [hk]; exact (HW.out.lt _ rfl).1))⟩
        have := ho
        rw [← hlen] at this
        exact this)
      clear hE hlen hp hs ho hk
      go_wp2_with fail
      go_ret
      exact HH.out
    · intro r s kl yd yp w2 cnt2 hkey hlk hv hat hrg2 hlt hg2 hs2 hen
      obtain ⟨x, ex, hx, rfl⟩ := key34_inv hkey
      obtain rfl : x = (r, s) := by
        simp only [Value.agg.injEq, Array.mk.injEq, List.cons.injEq, Value.int.injEq, true_and, and_true, Int.natCast_inj] at ex
        exact Prod.ext ex.1.symm ex.2.symm
      have hmem : (r, s) ∈ L := by
        obtain ⟨z, hz, e⟩ := (HK.out (kd (r, s))).1 (Maps.has_true_of_atKey hat)
        rwa [kd_inj hx (HS.out.raw z hz) e]
      have HR2 := Lib.hid hrg2
      have HLT := Lib.hid hlt
      have k2 : Kept (fun k => k = q) wr w2 := (Kept.of_grown hg2).mono (fun k hk => by simpa using hk.symm)
      have hqg : g ≠ q := by
        rintro rfl
        obtain ⟨_, _, _, _, _, _, _, _, _, hit, _⟩ := HR.out
        rcases HW.out.2 with ⟨h0, _⟩ | ⟨g', cap', cur, hv', _, hb', _⟩
        · cases h0
        · cases hv'
          rw [hit] at hb'
          cases hb'
      have HW2 := Lib.hid (HW.out.keep k2 (fun ad had => by cases had; exact hqg))
      have HB2 : Hid (Below w.heap.size w w2) := Lib.hid (HB.out.trans (k2.below HB.out.size (fun k hk => by rw [hk]; exact HG1.out)))
      have HC2 := Lib.hid (HC.out.step hx hlk hmem)
      have HQG := Lib.hid hqg
      clear hkey hlk hv hat hrg2 hlt hg2 hs2 hx ex hmem k2 hqg
      have HD := Lib.hid (dot_two w2 r s)
      have HN2 : Hid (ss.length < 1000000000) := Lib.hid (by have := HN.out; have := HL.out; omega)
      have HT2 : Hid (w.heap.size ≤ ((w2.alloc (.cells #[.int .u8 (r : Int), .int .u32 (s : Int)] 34)).alloc (.cells #[.int .u8 (r : Int), .int .u32 (s : Int)] 34)).heap.size) := Lib.hid (by have := HB2.out.size; simp; omega)
      go_wp2_with (at_builtin; refine wpList_appendD rfl rfl rfl rfl (HW2.out.below (below_two' w2 _ _)) HD.out HN2.out HT2.out ?_; intro a' cap' w3 ho3 hk3 hl3)
      have HW3 := Lib.hid ho3
      have hK3 : Kept (fun k => k = g) w2 w3 := (Kept.of_below (below_two' w2 _ _)).trans hk3 (fun k ⟨ad, had, e⟩ => .inl (by cases had; exact e))
      have hmg : g ≠ m := by have h9 : w.heap.size ≤ g := (HW2.out.lt _ rfl).1; have := HMM.out; omega
      have HR3 := Lib.hid (ranges_kept HR2.out hK3 (fun e => hmg e.symm) (fun e => HQG.out e.symm))
      have HB3 : Hid (Below w.heap.size w w3) := Lib.hid (HB2.out.trans (hK3.below HB2.out.size (fun k hk => by rw [hk]; exact (HW2.out.lt _ rfl).1)))
      obtain ⟨g3, rfl⟩ : ∃ g3, a' = some ⟨g3, 0, none⟩ := by
        rcases ho3.2 with ⟨h0, h1⟩ | ⟨g', cap', cur, hv', _⟩
        · omega
        · cases hv'; exact ⟨g', rfl⟩
      clear ho3 hk3 hl3 hK3 hmg hen
      go_roundw
      case rel => exact ⟨_, cnt2, ss ++ [(r, s)], g3, cap', by simp, HR3, Lib.hid (by have := HN.out; have := HLT.out; simp; omega), Lib.hid (by simpa using HW3.out), HC2, HB3⟩
      case measure => rw [HR3.out.left_eq, HR.out.left_eq]; exact HLT.out

end Go.Proofs.Ytkamldmcjegjgaa
