/- slices.Compact at uint16 numbers that stand in order: each once, in order. By the library's own contract, laid here in plain words. -/
import Derived.Test.YtmibfbbkjejkmaaTf
import Derived.Shelf.SlicesE.Compact
namespace Go.Proofs.Ytmibfbbkjejkmaa
open Go.RowKit Go.Shelf

/-- How the numbers of the library's own function lie here. -/
def compRen : Go.Shelf.Ren := ⟨fun | 43 => 24 | n => n, fun | 22 => 28 | 23 => 34 | 0 => 0 | 3 => 3 | 4 => 4 | n => n, fun | n => n⟩
/-- It lies in the program. -/
theorem compLaid : SlLaysE.n43 Try.prog compRen := {
  mixed := by kernel_rfl,
  f43 := ⟨Try.f24.name, by decide, Try.func24.trans (congrArg some (by kernel_rfl))⟩,
  t0 := Try.underlying0,
  a0 := Try.isAgg0,
  z0 := Try.sizeOf0,
  v0 := Try.zeroValue0,
  t3 := Try.underlying3,
  a3 := Try.isAgg3,
  z3 := Try.sizeOf3,
  v3 := Try.zeroValue3,
  t4 := Try.underlying4,
  a4 := Try.isAgg4,
  z4 := Try.sizeOf4,
  v4 := Try.zeroValue4,
  t22 := Try.underlying28,
  a22 := Try.isAgg28,
  z22 := Try.sizeOf28,
  v22 := Try.zeroValue28,
  a23 := Try.isAgg34,
  z23 := Try.sizeOf34 }

open Go.Lib in
theorem compact_sorted {d : Array Int} (h : ∀ i j, i < j → j < d.size → d[i]! ≤ d[j]!) : ∀ m, m ≤ d.size → (compactUpTo d m).Pairwise (· < ·) ∧ (∀ x, x ∈ compactUpTo d m ↔ ∃ i, i < m ∧ d[i]! = x)
  | 0, _ => ⟨by simp [compactUpTo], fun x => by simp [compactUpTo]⟩
  | m + 1, hm => by
    obtain ⟨ih1, ih2⟩ := compact_sorted h m (by omega)
    rw [compactUpTo_succ]
    cases hk : keeps d m
    · have hq : m ≠ 0 ∧ d[m]! = d[m - 1]! := by
        unfold keeps at hk
        simpa [not_or] using hk
      simp only [Bool.false_eq_true, if_false, List.append_nil]
      refine ⟨ih1, fun x => ?_⟩
      rw [ih2]
      constructor
      · rintro ⟨i, h1, h2⟩; exact ⟨i, by omega, h2⟩
      · rintro ⟨i, h1, h2⟩
        by_cases e : i = m
        · exact ⟨m - 1, by omega, by rw [← hq.2, ← e]; exact h2⟩
        · exact ⟨i, by omega, h2⟩
    · simp only [if_true]
      refine ⟨?_, fun x => ?_⟩
      · rw [List.pairwise_append]
        refine ⟨ih1, by simp, fun a ha b hb => ?_⟩
        obtain rfl : b = d[m]! := by simpa using hb
        obtain ⟨i, h1, rfl⟩ := (ih2 a).1 ha
        have hq : m = 0 ∨ d[m]! ≠ d[m - 1]! := by unfold keeps at hk; simpa using hk
        rcases hq with h0 | h0
        · omega
        · have e1 := h (m - 1) m (by omega) (by omega)
          by_cases e : i = m - 1
          · rw [e]; omega
          · have e2 := h i (m - 1) (by omega) (by omega)
            omega
      · rw [List.mem_append, ih2]
        simp only [List.mem_singleton]
        constructor
        · rintro (⟨i, h1, h2⟩ | rfl)
          · exact ⟨i, by omega, h2⟩
          · exact ⟨m, by omega, rfl⟩
        · rintro ⟨i, h1, h2⟩
          by_cases e : i = m
          · exact .inr (by rw [← h2, e])
          · exact .inl ⟨i, by omega, h2⟩

theorem put_blk {w : World} {g : Nat} {r : Array Value} {d d' : Array Int} (h : Blk w g 34 (encU d ++ r)) (hs : d'.size = d.size) (q : Nat) :
    Blk (Go.Sort.putRow (Value.int .u16) (Go.Sort.ahead w q) g 0 d') g 34 (encU d' ++ r) ∧ Kept (fun k => k = g) w (Go.Sort.putRow (Value.int .u16) (Go.Sort.ahead w q) g 0 d') := by
  constructor
  · have hh : (Go.Sort.ahead w q).heap[g]? = some (.cells (encU d ++ r) 34 (0, 0)) := h
    unfold Blk Go.Sort.putRow Go.Sort.mapBlock
    simp only [Array.getElem?_modify, hh, if_true, Option.map_some, Go.Sort.onCells]
    congr 2
    apply Array.ext_getElem?
    intro k
    simp only [Go.Sort.putCells, Array.getElem?_mapIdx, Nat.zero_le, true_and, Nat.zero_add, Nat.sub_zero]
    by_cases hk : k < d'.size
    · rw [encU_at d' r hk, encU_at d r (by omega)]
      simp [hk]
    · rw [Array.getElem?_append_right (by rw [encU_size]; omega), Array.getElem?_append_right (by rw [encU_size]; omega), encU_size, encU_size, hs]
      have hk2 : ¬ k < d.size := by omega
      cases r[k - d.size]? <;> simp [hk2]
  · refine ⟨rfl, rfl, rfl, by simp, fun k _ hn => ?_⟩
    simp only [Go.Sort.putRow, Go.Sort.mapBlock, Array.getElem?_modify, if_neg (fun e => hn (Eq.symm e) : ¬ g = k)]
    rfl

/-- What is answered. -/
def CompU (w : World) (B g cap : Nat) (l : List Nat) (e : Ending) (W' : World) : Prop :=
  ∃ l' : List Nat, e = .returned (.slice (some ⟨g, 0, none⟩) l'.length cap) ∧ l'.Pairwise (· < ·) ∧ (∀ x, x ∈ l' ↔ x ∈ l) ∧ OwnU W' B (some ⟨g, 0, none⟩) l'.length cap l' ∧ Kept (fun k => k = g) w W'

theorem compU_any {w : World} {B g n cap : Nat} {l : List Nat} (h : OwnU w B (some ⟨g, 0, none⟩) n cap l) (hs : l.Pairwise (· ≤ ·)) (hn : n < 1000000) : Calls Try.prog 24 #[.slice (some ⟨g, 0, none⟩) n cap] w (CompU w B g cap l) := by
  obtain ⟨r, hsr, hc, hnc, hcm, hB⟩ := h.sr
  have hl := h.len
  have hsz : (arrI l).size = n := by rw [arrI_size, hl]
  have hcall := AnyE.slices_Compact (P := Try.prog) (ρ := compRen) (α := Int) compLaid (Value.int .u16) (fun _ => rfl) (EqlAt.intD _ _ _) (NeqAt.intD _ _ _) 0 Try.zeroValue34 g 0 cap (arrI l) w (fun j hj => ⟨hsr.cell hj, hsr.frozen j⟩) (by omega) (by omega)
  rw [hsz] at hcall
  have hcall2 : Calls Try.prog 24 #[.slice (some ⟨g, 0, none⟩) n cap] w _ := hcall
  refine hcall2.mono fun e w' ⟨he, q, hw⟩ => ?_
  have hget : ∀ i, i < l.length → (arrI l)[i]! = ((l.getD i 0 : Nat) : Int) := fun i hi => by simp [arrI, hi]
  have hord : ∀ i j, i < j → j < (arrI l).size → (arrI l)[i]! ≤ (arrI l)[j]! := fun i j hij hj => by
    rw [arrI_size] at hj
    rw [hget i (by omega), hget j hj]
    have := List.pairwise_iff_getElem.1 hs i j (by omega) hj hij
    simp only [List.getD, List.getElem?_eq_getElem (show i < l.length by omega), List.getElem?_eq_getElem hj, Option.getD_some]
    omega
  obtain ⟨p1, p2⟩ := compact_sorted hord n (by omega)
  generalize Go.Lib.compactUpTo (arrI l) n = c at he hw p1 p2
  have hc2 : c.length ≤ n := by
    have hnd : c.Nodup := List.nodup_iff_pairwise_ne.2 (p1.imp fun h => by omega)
    have := hnd.length_le_of_subset (l₂ := (List.range n).map fun i => (arrI l)[i]!) (fun x hx => by
      obtain ⟨i, h1, h2⟩ := (p2 x).1 hx
      exact List.mem_map.2 ⟨i, List.mem_range.2 h1, h2⟩)
    simpa using this
  obtain ⟨m, hm⟩ := back_nat c (fun z hz => by
    obtain ⟨i, h1, rfl⟩ := (p2 z).1 hz
    rw [hget i (by omega)]
    omega)
  subst hm
  rw [List.length_map] at he hw hc2
  have hb := put_blk hsr.blk (d' := (m.map (fun (n : Nat) => (n : Int)) ++ List.replicate (n - m.length) 0).toArray) (by simp [arrI_size]; omega) q
  rw [← hw] at hb
  refine ⟨m, he, ?_, fun x => ?_, ?_, hb.2⟩
  · rw [List.pairwise_map] at p1
    exact p1.imp fun h => by omega
  · have := p2 (x : Int)
    rw [List.mem_map] at this
    constructor
    · intro hx
      obtain ⟨i, h1, h2⟩ := this.1 ⟨x, hx, rfl⟩
      rw [hget i (by omega)] at h2
      obtain rfl : l.getD i 0 = x := by omega
      simp [List.getD, List.getElem?_eq_getElem (show i < l.length by omega)]
    · intro hx
      obtain ⟨i, h1, h2⟩ := List.getElem_of_mem hx
      obtain ⟨y, hy, e⟩ := this.2 ⟨i, by omega, by rw [hget i h1]; simp [List.getD, List.getElem?_eq_getElem h1, h2]⟩
      obtain rfl : y = x := by omega
      exact hy
  · have e : encU (m.map (fun (n : Nat) => (n : Int)) ++ List.replicate (n - m.length) 0).toArray ++ r = encU (arrI m) ++ (encU (List.replicate (n - m.length) 0).toArray ++ r) := by
      rw [← Array.append_assoc]
      congr 1
      simp [encU, arrI]
    refine Sr.own (w := w) (W := w') (r := encU (List.replicate (n - m.length) 0).toArray ++ r) ⟨rfl, by rw [← e]; exact hb.1, hb.2⟩ rfl (by simp [encU]; omega) (by omega) hcm hB

end Go.Proofs.Ytmibfbbkjejkmaa
