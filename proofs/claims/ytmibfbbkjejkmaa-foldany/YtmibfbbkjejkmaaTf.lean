/- A slice of uint16 numbers of the call's own, and its sort. -/
import Derived.Test.YtmibfbbkjejkmaaTe
namespace Go.Proofs.Ytmibfbbkjejkmaa
open Go.RowKit
open Go.Sort (swp ltInt size_swp PermIn SortedIn)

def encN (l : List Nat) : List Value := l.map fun (n : Nat) => Value.int .u16 (n : Int)
/-- A slice of the call's own, from block B on. -/
def OwnU (w : World) (B : Nat) (a : Option Addr) (n cap : Nat) (l : List Nat) : Prop := w.ownsRow B 34 1 (.slice a n cap) n (encN l)

theorem OwnU.len {w : World} {B : Nat} {a : Option Addr} {n cap : Nat} {l : List Nat} (h : OwnU w B a n cap l) : l.length = n := by
  have := h.1
  simpa [encN] using this
theorem OwnU.lt {w : World} {B : Nat} {a : Option Addr} {n cap : Nat} {l : List Nat} (h : OwnU w B a n cap l) : ∀ ad, a = some ad → B ≤ ad.block ∧ ad.block < w.heap.size := by
  rintro ad rfl
  exact World.ownsRow.lt h ad.block rfl
theorem OwnU.keep {S : Nat → Prop} {w w' : World} {B : Nat} {a : Option Addr} {n cap : Nat} {l : List Nat} (h : OwnU w B a n cap l) (k : Kept S w w') (hn : ∀ ad, a = some ad → ¬ S ad.block) : OwnU w' B a n cap l := by
  refine ⟨h.1, ?_⟩
  rcases h.2 with h0 | ⟨g, cap', cur, hv, hB, hg, rest⟩
  · exact .inl h0
  · refine .inr ⟨g, cap', cur, hv, hB, ?_, rest⟩
    rw [k.block g (Array.getElem?_eq_some_iff.1 hg).1 (hn ⟨g, 0, none⟩ (by injection hv))]
    exact hg
theorem OwnU.below {w w' : World} {B : Nat} {a : Option Addr} {n cap : Nat} {l : List Nat} (h : OwnU w B a n cap l) (hb : Below w.heap.size w w') : OwnU w' B a n cap l :=
  h.keep (S := fun _ => False) (.of_below hb) (fun _ _ h => h)
theorem ownU_nil (w : World) (B : Nat) : OwnU w B none 0 0 [] := World.ownsRow_nil _ _ _ _

/-- As an array of numbers. -/
def arrI (l : List Nat) : Array Int := (l.map fun (n : Nat) => (n : Int)).toArray
theorem arrI_size (l : List Nat) : (arrI l).size = l.length := by simp [arrI]
theorem arrI_enc (l : List Nat) : encU (arrI l) = (encN l).toArray := by simp [arrI, encU, encN]

theorem OwnU.sr {w : World} {B g n cap : Nat} {l : List Nat} (h : OwnU w B (some ⟨g, 0, none⟩) n cap l) : ∃ r : Array Value, Sr w w g 0 r (arrI l) ∧ n + r.size = cap ∧ n ≤ cap ∧ cap ≤ maxLen ∧ B ≤ g := by
  have hl := h.len
  rcases h.2 with ⟨h0, _⟩ | ⟨g', cap', cur, hv, hB, hg, hnc, hcm, hcs, htk⟩
  · cases h0
  · cases hv
    have e : encU (arrI l) ++ cur.extract n cur.size = cur := by
      rw [arrI_enc, ← htk, Nat.mul_one]
      apply Array.toList_inj.1
      simp only [Array.toList_append, Array.toList_extract, List.extract_eq_take_drop]
      rw [List.take_of_length_le (l := cur.toList.drop n) (by simp)]
      exact List.take_append_drop n cur.toList
    have hs : cur.size = cap := by rw [hcs, Nat.mul_one]
    refine ⟨cur.extract n cur.size, Sr.start rfl (by rw [e]; exact hg), by simp; omega, hnc, hcm, hB⟩

theorem Sr.own {w W : World} {B g n cap : Nat} {r : Array Value} {l : List Nat} (h : Sr w W g 0 r (arrI l)) (hl : l.length = n) (hc : n + r.size = cap) (hnc : n ≤ cap) (hcm : cap ≤ maxLen) (hB : B ≤ g) : OwnU W B (some ⟨g, 0, none⟩) n cap l := by
  refine ⟨by simp [encN, hl], .inr ⟨g, cap, encU (arrI l) ++ r, rfl, hB, h.blk, hnc, hcm, ?_, ?_⟩⟩
  · rw [Array.size_append, encU_size, arrI_size, hl, hc, Nat.mul_one]
  · rw [arrI_enc, Nat.mul_one, Array.toList_append]
    simp [encN, hl]

/-- What the sort answers: the same numbers, in increasing order, where they lay. -/
def SortU (w : World) (B g n cap : Nat) (l : List Nat) (e : Ending) (W' : World) : Prop :=
  e = .returned (.tuple #[]) ∧ ∃ l' : List Nat, l'.Perm l ∧ l'.Pairwise (· ≤ ·) ∧ OwnU W' B (some ⟨g, 0, none⟩) n cap l' ∧ Kept (fun k => k = g) w W'

theorem back_nat : ∀ (l : List Int), (∀ z ∈ l, 0 ≤ z) → ∃ m : List Nat, l = m.map fun (n : Nat) => (n : Int)
  | [], _ => ⟨[], rfl⟩
  | z :: l, h => by
    obtain ⟨m, rfl⟩ := back_nat l (fun y hy => h y (List.mem_cons_of_mem _ hy))
    have := h z List.mem_cons_self
    exact ⟨z.toNat :: m, by simp; omega⟩

theorem sorted_list {l : List Nat} {x : Array Int} (hp : PermIn 0 l.length (arrI l) x) (hs : SortedIn ltInt 0 l.length x) : ∃ m : List Nat, x = arrI m ∧ m.Perm l ∧ m.Pairwise (· ≤ ·) := by
  have hz : x.size = l.length := by rw [hp.1, arrI_size]
  have hpl : x.toList.Perm (l.map fun (n : Nat) => (n : Int)) := by
    have h := hp.2.2
    have e1 : x.extract 0 l.length = x := by rw [← hz]; simp
    have e2 : (arrI l).extract 0 l.length = arrI l := by rw [← arrI_size l]; simp
    rw [e1, e2] at h
    simpa [arrI] using h
  obtain ⟨m, hm⟩ := back_nat x.toList (fun z hz => by
    have := hpl.mem_iff.1 hz
    obtain ⟨n, _, rfl⟩ := List.mem_map.1 this
    omega)
  have hx : x = arrI m := by
    rw [← Array.toArray_toList (xs := x), hm]; rfl
  refine ⟨m, hx, ?_, ?_⟩
  · rw [hm] at hpl
    have hj : ∀ k : List Nat, (k.map fun (n : Nat) => (n : Int)).map Int.toNat = k := fun k => by
      rw [List.map_map]
      conv => rhs; rw [← List.map_id k]
      apply List.map_congr_left
      intro n _
      simp
    have := hpl.map Int.toNat
    rwa [hj, hj] at this
  · rw [List.pairwise_iff_getElem]
    intro i j hi hj hij
    have hlen : m.length = l.length := by rw [← hz, hx, arrI_size]
    have h := hs i j (Nat.zero_le _) hij (by omega)
    have e : ∀ k (hk : k < m.length), x[k]! = (m[k] : Int) := fun k hk => by
      rw [hx]; simp [arrI, hk]
    rw [e i hi, e j hj] at h
    unfold ltInt at h
    simp only [decide_eq_false_iff_not] at h
    omega

set_option maxRecDepth 100000 in
set_option maxHeartbeats 1000000 in
theorem sortU_any {w : World} {B g n cap : Nat} {l : List Nat} (h : OwnU w B (some ⟨g, 0, none⟩) n cap l) (hn : n < 50) : Calls Try.prog 23 #[.slice (some ⟨g, 0, none⟩) n cap] w (SortU w B g n cap l) := by
  obtain ⟨r, hs, hc, hnc, hcm, hB⟩ := h.sr
  have hl := h.len
  have HS := Lib.hid hs
  have HF : Hid (l.length = n ∧ n + r.size = cap ∧ n ≤ cap ∧ cap ≤ maxLen ∧ B ≤ g) := Lib.hid ⟨hl, hc, hnc, hcm, hB⟩
  clear h hs hc hnc hcm hB hl
  go_enter Try.func23, Try.ntmps23
  go_wp2_with fail
  refine (len_x n (n : Int) _ (by omega) (Lib.hid rfl) (by omega) (by omega)).mono ?_
  rintro e w' ⟨rfl, rfl⟩
  go_wp2_with fail
  have hcall := pdq16 w g 0 cap n r hn n w (arrI l) 0 n (Lib.bitLen n : Int) (by omega) (by rw [arrI_size]; exact HF.out.1) (Nat.zero_le _) (Nat.le_refl _) (.inl rfl) HS.out
  refine Calls.mono hcall ?_
  rintro e W2 ⟨rfl, x, hp, hso, h2⟩
  have HR : Hid (SortU w B g n cap l (.returned (.tuple #[])) W2) := by
    obtain ⟨hl, hc, hnc, hcm, hB⟩ := HF.out
    subst hl
    obtain ⟨m, rfl, hm1, hm2⟩ := sorted_list hp hso
    exact Lib.hid ⟨rfl, m, hm1, hm2, h2.own hm1.length_eq hc hnc hcm hB, h2.kept⟩
  clear hp hso h2
  go_wp2_with fail
  go_end0
  exact HR.out

end Go.Proofs.Ytmibfbbkjejkmaa
