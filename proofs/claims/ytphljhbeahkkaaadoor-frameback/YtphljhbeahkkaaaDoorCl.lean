/- Walks of bytes.Clone and of the document's Join and Field; slices cut off. -/
import Derived.Test.YtphljhbeahkkaaaDoorMem
import Derived.Deep.RegionHeld3
import Derived.Deep.RegionWith
namespace Go.Proofs.YtphljhbeahkkaaaDoor
open Go.RowKit

/-- What a call leaves that answers a slice of bytes of its own. -/
def Fresh (bs : List Nat) (w : World) (e : Ending) (w' : World) : Prop :=
  ∃ a cap, e = .returned (.slice a bs.length cap) ∧ Own w' w.heap.size a bs.length cap bs ∧ Below w.heap.size w w'

theorem isnil (a : Option Addr) (l c : Nat) (w : World) : (binOp .eql 22 (.slice a l c) (.slice none 0 0)).run Tryd.prog w = .ok (.bool a.isNone) w := Lib.run_eql_slice_nil w 22 5 a l c 0 0 Tryd.underlying22

set_option maxHeartbeats 400000 in
theorem clone_nil (w : World) : Calls Tryd.prog 23 #[.slice none 0 0] w (Fresh [] w) := by
  have hq : (binOp .eql 22 (.slice none 0 0) (.slice none 0 0)).run Tryd.prog w = .ok (.bool true) w := isnil none 0 0 w
  go_enter Tryd.func23, Tryd.ntmps23
  go_wp2_with fail
  go_ret
  exact ⟨none, 0, rfl, own_nil _ _, Below.refl _ _⟩

theorem own_empty (w : World) : Own (w.alloc (.cells #[] 5)) w.heap.size (some ⟨w.heap.size, 0, none⟩) 0 0 [] := World.ownsRow_made w #[] 0 (Nat.le_refl _) (Nat.zero_le _) rfl

/-- An append to an empty slice that is new leaves all that was. -/
theorem below_new {w w' : World} {o : Obj} {S : Nat → Prop} (k : Kept S (w.alloc o) w') (hS : ∀ i, S i → w.heap.size ≤ i) : Below w.heap.size w w' :=
  Below.trans ((Below.refl _ _).alloc (Nat.le_refl _) _) (k.below (by simp) hS)

set_option maxHeartbeats 400000 in
theorem clone_some (ad : Addr) (len cap : Nat) (bs : List Nat) (w : World) (hl : len ≤ 1000000) (hR : Row w (some ad) len bs) : Calls Tryd.prog 23 #[.slice (some ad) len cap] w (Fresh bs w) := by
  have HR := Lib.hid (hR.below ((Below.refl w.heap.size w).alloc (Nat.le_refl _) (.cells #[] 5)))
  have HS := Lib.hid hR.size
  clear hR
  have hq : (binOp .eql 22 (.slice (some ad) len cap) (.slice none 0 0)).run Tryd.prog w = .ok (.bool false) w := isnil (some ad) len cap w
  go_enter Tryd.func23, Tryd.ntmps23
  go_wp2_with (at_builtin; refine wpList_append_own_row _ rfl _ _ rfl w.heap.size (some ⟨w.heap.size, 0, none⟩) 0 0 [] rfl (own_empty w) (some ad) len cap bs rfl HR.out (fun h => by cases h) (by omega) (by simp) ?_; intro a' cp' w' ho hk _; simp only [Nat.zero_add, List.nil_append] at ho ⊢; have HO := Lib.hid ho; have HK := Lib.hid hk; clear ho hk)
  go_ret
  exact ⟨a', cp', by rw [HS.out]; rfl, by rw [HS.out]; exact HO.out, below_new HK.out (fun i ⟨ad', h1, h2⟩ => by obtain rfl := Option.some.inj h1; exact Nat.le_of_eq h2.symm)⟩

theorem clone_any (a : Option Addr) (len cap : Nat) (bs : List Nat) (w : World) (hl : len ≤ 1000000) (hR : Row w a len bs) (hz : a = none → len = 0 ∧ cap = 0) : Calls Tryd.prog 23 #[.slice a len cap] w (Fresh bs w) := by
  cases a with
  | none =>
    obtain ⟨rfl, rfl⟩ := hz rfl
    obtain rfl := List.eq_nil_of_length_eq_zero hR.size
    exact clone_nil w
  | some ad => exact clone_some ad len cap bs w hl hR

theorem Kept.at_ {S : Nat → Prop} {w w' : World} (k : Kept S w w') {b o : Nat} {v : Value} (h : w.cell? ⟨b, o, Option.none⟩ = some v) (hn : ¬ S b) : w'.cell? ⟨b, o, Option.none⟩ = some v :=
  (World.cell?_of_block (w := w) (w' := w') (a := ⟨b, o, Option.none⟩) (k.block b (block_lt_of_cell h) hn)).trans h

theorem below_at {w w' : World} (k : Below w.heap.size w w') {b o : Nat} {v : Value} (h : w.cell? ⟨b, o, none⟩ = some v) : w'.cell? ⟨b, o, none⟩ = some v :=
  (k.cell (p := ⟨b, o, none⟩) (block_lt_of_cell h)).trans h

set_option maxHeartbeats 1000000 in
theorem join_any (a b : Option Addr) (n m c d : Nat) (x y : List Nat) (w : World) (hl : n + m ≤ 1000000) (hR : Row w a n x) (hz : a = none → n = 0 ∧ c = 0) (hR2 : Row w b m y) (hz2 : b = none → m = 0 ∧ d = 0) :
    Calls Tryd.prog 26 #[.slice a n c, .slice b m d] w (Fresh (x ++ y) w) := by
  have hal : Below w.heap.size w (w.alloc (.cells #[] 5)) := (Below.refl w.heap.size w).alloc (Nat.le_refl _) (.cells #[] 5)
  have HR := Lib.hid (hR.below hal)
  have HZ := Lib.hid hz
  have HR2 := Lib.hid hR2
  have HZ2 := Lib.hid hz2
  have HS := Lib.hid hR.size
  have HS2 := Lib.hid hR2.size
  clear hR hR2 hal hz hz2
  go_enter Tryd.func26, Tryd.ntmps26
  go_wp2_with (at_builtin; first
    | (refine wpList_append_own_row _ rfl _ _ rfl w.heap.size (some ⟨w.heap.size, 0, none⟩) 0 0 [] rfl (own_empty w) a n c x rfl HR.out HZ.out (by omega) (by simp) ?_
       intro a1 c1 w1 ho hk hl1
       simp only [Nat.zero_add, List.nil_append] at ho ⊢
       have HO := Lib.hid ho
       have HB := Lib.hid (below_new hk (fun i ⟨ad', h1, h2⟩ => by obtain rfl := Option.some.inj h1; exact Nat.le_of_eq h2.symm))
       clear ho hk hl1)
    | (refine wpList_append_own_row w1 rfl _ _ rfl w.heap.size a1 n c1 x rfl HO.out b m d y rfl (HR2.out.below HB.out) HZ2.out (by omega) HB.out.size ?_
       intro a2 c2 w2 ho hk hl1
       have HO2 := Lib.hid ho
       have HB2 := Lib.hid (HB.out.trans (hk.below HB.out.size (fun i ⟨ad', h1, h2⟩ => by have := (HO.out.lt ad' h1).1; omega)))
       clear ho hk hl1))
  go_ret
  have hlen : (x ++ y).length = n + m := by rw [List.length_append, HS.out, HS2.out]
  exact ⟨a2, c2, by rw [hlen]; rfl, by rw [hlen]; exact HO2.out, HB2.out⟩

set_option maxHeartbeats 1000000 in
theorem field_any (b : Option Addr) (m d : Nat) (y : List Nat) (w : World) (hl : m ≤ 100000) (hR2 : Row w b m y) (hz2 : b = none → m = 0 ∧ d = 0) :
    Calls Tryd.prog 19 #[.slice b m d] w (Fresh (Vint.enc m ++ y) w) := by
  have HP := Lib.hid (rput_any m w (by omega))
  have hL := Vint.enc_ten (n := m) (by omega)
  have HX := Lib.hid (Vint.enc_lt m)
  have HR2 := Lib.hid hR2
  have HZ2 := Lib.hid hz2
  clear hR2 hz2
  generalize Vint.enc m = l at HP hL HX
  go_enter Tryd.func19, Tryd.ntmps19
  go_wp2_with fail
  refine HP.out.mono ?_
  rintro e w1 ⟨g, c1, rfl, ho, hb⟩
  have HJ := Lib.hid (join_any (some ⟨g, 0, none⟩) b l.length m c1 d l y w1 (by omega) (Own.row (B := w.heap.size) (cap := c1) ho HX.out) (fun h => by cases h) (HR2.out.below hb) HZ2.out)
  have HB := Lib.hid hb
  clear ho hb
  go_wp2_with fail
  refine HJ.out.mono ?_
  rintro e w2 ⟨a2, c2, rfl, ho2, hb2⟩
  have HO2 := Lib.hid (ho2.mono HB.out.size)
  have HB2 := Lib.hid (HB.out.trans (hb2.mono HB.out.size))
  clear ho2 hb2
  go_wp2_with fail
  go_ret
  exact ⟨a2, c2, by rw [List.length_append]; rfl, HO2.out, HB2.out⟩

/-- Where a slice's rest lies. -/
def cutA (a : Option Addr) (cap k : Nat) : Option Addr := if cap = k then a else a.map (·.add k)

theorem slice_l (kl : IntKind) (a : Option Addr) (len cap k : Nat) (W : World) (hk : k ≤ len) :
    (Instr.slice 22 (.slice a len cap) (some (.int kl (k : Int))) none none).run Tryd.prog W = .ok (.slice (cutA a cap k) (len - k) (cap - k)) W := by
  have he : Tryd.prog.elem 22 = 5 := by kernel_rfl
  have ht : Tryd.prog.underlying 22 = some (.slice (Tryd.prog.elem 22)) := by rw [he]; exact Tryd.underlying22
  have hz : (Go.sizeOf 5).run Tryd.prog W = .ok 1 W := by
    obtain ⟨i0, hii, _, hz1, _⟩ := info_parts info5
    simp [Go.sizeOf, typeInfo, hii, hz1]
  rw [run_slice_l (P := Tryd.prog) W 22 a len cap ht kl (k : Int) (by omega) (by omega), he, hz]
  simp [Result.andThen, sliced, cutA]

theorem slice_h (kl : IntKind) (a : Option Addr) (len cap k : Nat) (W : World) (hk : k ≤ cap) :
    (Instr.slice 22 (.slice a len cap) none (some (.int kl (k : Int))) none).run Tryd.prog W = .ok (.slice a k cap) W := by
  have he : Tryd.prog.elem 22 = 5 := by kernel_rfl
  have ht : Tryd.prog.underlying 22 = some (.slice (Tryd.prog.elem 22)) := by rw [he]; exact Tryd.underlying22
  have hz : (Go.sizeOf 5).run Tryd.prog W = .ok 1 W := by
    obtain ⟨i0, hii, _, hz1, _⟩ := info_parts info5
    simp [Go.sizeOf, typeInfo, hii, hz1]
  rw [run_slice_h (P := Tryd.prog) W 22 a len cap ht kl (k : Int) (by omega) (by omega), he, hz]
  cases a <;> simp [Result.andThen, sliced, Addr.add]

theorem cut_row {w : World} {a : Option Addr} {len cap k : Nat} {l : List Nat} (h : Row w a len l) (hk : k ≤ len) (hc : len ≤ cap) : Row w (cutA a cap k) (len - k) (l.drop k) := by
  refine ⟨by rw [List.length_drop, h.size], fun c hc => h.small c (List.mem_of_mem_drop hc), ?_⟩
  by_cases hkl : k = len
  · exact .inl (by omega)
  · obtain ⟨b, off, ha, hcs⟩ := h.cells.resolve_left (by omega)
    subst ha
    refine .inr ⟨b, off + k, ?_, fun i hi => ?_⟩
    · unfold cutA
      rw [if_neg (by omega)]
      by_cases h0 : k = 0
      · simp [Addr.add, h0]
      · simp [Addr.add, h0]
    · have hi1 : k + i < l.length := by rw [h.size]; omega
      have hi2 : i < (l.drop k).length := by rw [List.length_drop]; omega
      rw [Nat.add_assoc, hcs (k + i) (by omega), getD_at hi1, getD_at hi2, List.getElem_drop]

theorem block_add (a : Addr) (n : Nat) : (a.add n).block = a.block := by unfold Addr.add; split <;> rfl

theorem cut_some {a : Option Addr} {cap k : Nat} {ad : Addr} (h : cutA a cap k = some ad) : ∃ ad0, a = some ad0 ∧ ad.block = ad0.block := by
  unfold cutA at h
  by_cases hc : cap = k
  · rw [if_pos hc] at h
    exact ⟨ad, h, rfl⟩
  · rw [if_neg hc] at h
    cases a with
    | none => simp at h
    | some ad0 =>
      simp only [Option.map_some, Option.some.injEq] at h
      exact ⟨ad0, rfl, by rw [← h, block_add]⟩

theorem cut_none {a : Option Addr} {cap k : Nat} (h : cutA a cap k = none) : a = none := by
  unfold cutA at h
  by_cases hc : cap = k
  · rw [if_pos hc] at h; exact h
  · rw [if_neg hc] at h
    cases a with
    | none => rfl
    | some ad0 => simp at h

theorem G_facts : ∀ (l : List Nat) (i acc : Nat), (∀ c ∈ l, c < 256) → i ≤ 9 → acc < 128 ^ i → ((Vint.G i acc l).2.2 ≠ 0 → (Vint.G i acc l).1 = 0 ∧ (Vint.G i acc l).2.1 = 0) ∧ ((Vint.G i acc l).2.2 = 0 → i < (Vint.G i acc l).2.1 ∧ (Vint.G i acc l).2.1 ≤ i + l.length) ∧ (Vint.G i acc l).1 < 18446744073709551616
  | [], i, acc, _, _, _ => by simp [Vint.G_nil]
  | c :: t, i, acc, hs, hi, ha => by
    have hc := hs c List.mem_cons_self
    by_cases h9 : i = 9
    · subst h9
      rw [Vint.pow_nine] at ha
      by_cases h1 : c = 1
      · rw [Vint.G_nine, if_pos h1]; simp; omega
      · rw [Vint.G_nine, if_neg h1]; simp
    · have hb := Vint.pow_bound i (by omega)
      by_cases h0 : c = 0 ∧ i ≠ 0
      · rw [Vint.G_form (by omega) h0.1 h0.2]; simp
      · by_cases hl : c < 128
        · rw [Vint.G_last (by omega) (by omega) hl]
          have h1 : c * 128 ^ i ≤ 127 * 128 ^ i := Nat.mul_le_mul_right _ (by omega)
          simp; omega
        · rw [Vint.G_more (by omega) (by omega)]
          have h1 : (c - 128) * 128 ^ i ≤ 127 * 128 ^ i := Nat.mul_le_mul_right _ (by omega)
          have := G_facts t (i + 1) (acc + (c - 128) * 128 ^ i) (fun d hd => hs d (List.mem_cons_of_mem _ hd)) (by omega) (by rw [Nat.pow_succ]; omega)
          simp only [List.length_cons]
          refine ⟨this.1, fun h => ?_, this.2.2⟩
          have := this.2.1 h
          omega

end Go.Proofs.YtphljhbeahkkaaaDoor
