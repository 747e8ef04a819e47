/- A map of the call's own, as a function of what its keys read as: making, looking up, storing, counting. -/
import Derived.Test.YtjpmjidpdgikgaaDc
import Derived.Maps.RangeWalk
import Derived.Maps.Ext
import Derived.Maps.OwnOps
import Derived.Maps.OwnSet
import Derived.DeepKeys4
namespace Go.Proofs.Ytjpmjidpdgikgaa
open Go.RowKit Go.Maps

/-- An element as it is. -/
def anyE : Value → Option (DataW Value × List MemPlace) := fun v => some (.held v, [])
theorem anyE_inv {v : Value} {z : DataW Value × List MemPlace} (h : anyE v = some z) : z = (.held v, []) := (Option.some.inj h).symm

/-- Block m is a map of n entries, which has f's. -/
structure MpD (w : World) (k m n : Nat) (f : Lit → Option Value) (D : DataW Value) : Prop where
  own : w.ownsMap Try.prog k anyE m n D
  size : Maps.size D = n
  has : ∀ kl, Maps.has D kl = (f kl).isSome
  val : ∀ kl v, f kl = some v → ∀ z, D.atKey kl z = .held v
def MpF (w : World) (k m n : Nat) (f : Lit → Option Value) : Prop := ∃ D, MpD w k m n f D

theorem MpF.lt {w : World} {k m n : Nat} {f : Lit → Option Value} (h : MpF w k m n f) : m < w.heap.size := by
  obtain ⟨D, h⟩ := h; exact h.own.lt
theorem MpF.ne {w : World} {k m n p : Nat} {f : Lit → Option Value} {t : TypeId} {cs : Array Value} (h : MpF w k m n f) (hb : Blk w p t cs) : m ≠ p := by
  obtain ⟨D, ⟨⟨es, clock, hm, _⟩, _⟩⟩ := h
  rintro rfl
  unfold Blk at hb
  rw [hm] at hb
  cases hb
theorem MpF.kept {S : Nat → Prop} {w w' : World} {k m n : Nat} {f : Lit → Option Value} (h : MpF w k m n f) (kp : Kept S w w') (hn : ¬ S m) : MpF w' k m n f := by
  obtain ⟨D, h⟩ := h
  have hlt := h.own.lt
  obtain ⟨es, clock, hb, rest⟩ := h.own
  exact ⟨D, ⟨es, clock, (kp.block m hlt hn).trans hb, rest⟩, h.size, h.has, h.val⟩
theorem MpF.below {w w' : World} {k m n : Nat} {f : Lit → Option Value} (h : MpF w k m n f) (hb : Below w.heap.size w w') : MpF w' k m n f :=
  h.kept (S := fun _ => False) (.of_below hb) (fun h => h)
theorem MpF.drew {w : World} {k m n : Nat} {f : Lit → Option Value} (h : MpF w k m n f) : MpF w.drew k m n f := by
  obtain ⟨D, h⟩ := h; exact ⟨D, h.own.drew, h.size, h.has, h.val⟩
theorem mpF_new (w : World) (k : Nat) : MpF (w.alloc (.map #[] 0)) k w.heap.size 0 (fun _ => none) :=
  ⟨_, World.ownsMap_made w Try.prog k anyE, rfl, fun _ => rfl, fun _ _ h => by cases h⟩

open Classical in
/-- Storing. -/
noncomputable def upd (f : Lit → Option Value) (kl : Lit) (v : Value) : Lit → Option Value := fun x => if x = kl then some v else f x
theorem upd_same (f : Lit → Option Value) (kl : Lit) (v : Value) : upd f kl v kl = some v := by unfold upd; exact if_pos rfl
theorem upd_other (f : Lit → Option Value) {kl x : Lit} (v : Value) (h : x ≠ kl) : upd f kl v x = f x := by unfold upd; exact if_neg h

section
variable {w : World} {k m n t e : Nat} {f : Lit → Option Value}
theorem MpF.look (h : MpF w k m n f) (K : Keyed Try.prog k) (ht : Try.prog.underlying t = some (.map k e)) {z : Value} (hz : (zeroValue e).run Try.prog w = .ok z w) {key : Value} {kl : Lit} (hkey : keyOf Try.prog k key = some kl) :
    (Instr.lookup t (.map (some m)) key false).run Try.prog w = .ok ((f kl).getD z) w := by
  obtain ⟨D, h⟩ := h
  obtain ⟨v, ps, hrun, hv⟩ := h.own.lookup K ht hz (zd := .held z) (zp := []) rfl hkey
  rw [hrun]
  have e1 := anyE_inv hv
  simp only [Prod.mk.injEq] at e1
  cases hf : f kl with
  | none =>
    have hn := h.has kl
    rw [hf] at hn
    have e2 := atKey_of_not_has (D := D) (k := kl) hn (.held z)
    rw [e2] at e1
    have := e1.1
    rw [← DataW.held.inj this]
    rfl
  | some u =>
    rw [h.val kl u hf] at e1
    have := e1.1
    rw [← DataW.held.inj this]
    rfl
theorem MpF.look_ok (h : MpF w k m n f) (K : Keyed Try.prog k) (ht : Try.prog.underlying t = some (.map k e)) {z : Value} (hz : (zeroValue e).run Try.prog w = .ok z w) {key : Value} {kl : Lit} (hkey : keyOf Try.prog k key = some kl) :
    (Instr.lookup t (.map (some m)) key true).run Try.prog w = .ok (.tuple #[(f kl).getD z, .bool (f kl).isSome]) w := by
  obtain ⟨D, h⟩ := h
  obtain ⟨v, ps, hrun, hv⟩ := h.own.look_ok K ht hz (zd := .held z) (zp := []) rfl hkey
  rw [hrun, h.has kl]
  have e1 := anyE_inv hv
  simp only [Prod.mk.injEq] at e1
  cases hf : f kl with
  | none =>
    have hn := h.has kl
    rw [hf] at hn
    have e2 := atKey_of_not_has (D := D) (k := kl) hn (.held z)
    rw [e2] at e1
    have := e1.1
    rw [← DataW.held.inj this]
    rfl
  | some u =>
    rw [h.val kl u hf] at e1
    have := e1.1
    rw [← DataW.held.inj this]
    rfl
theorem MpF.put (h : MpF w k m n f) (K : Keyed Try.prog k) (ht : Try.prog.underlying t = some (.map k e)) (hn : n < 1000000) {key v : Value} {kl : Lit} (hkey : keyOf Try.prog k key = some kl) :
    ∃ w2, (Instr.mapUpdate t (.map (some m)) key v).run Try.prog w = .ok () w2 ∧ MpF w2 k m (if (f kl).isSome then n else n + 1) (upd f kl v) ∧ Kept (fun i => i = m) w w2 := by
  obtain ⟨D, h⟩ := h
  obtain ⟨w2, hrun, ho, hg⟩ := h.own.update K ht (by unfold maxLen; omega) hkey (val := v) (d := .held v) (ps := []) rfl
  have hm := h.own.isMap
  have hk := K.key hkey
  have hs : Maps.size (D.put kl (.held v)) = if (f kl).isSome then n else n + 1 := by
    rw [size_put (h.own.tidy K), h.has kl, h.size]
  refine ⟨w2, hrun, ⟨_, ?_, hs, fun x => ?_, fun x u hx z => ?_⟩, (Kept.of_grown hg).mono fun i hi => by simpa using hi.symm⟩
  · obtain ⟨es, clock, hb, F, hle, hD⟩ := ho
    refine ⟨es, clock, hb, F, ?_, hD⟩
    have := congrArg Maps.size hD
    rw [hs] at this
    simp only [Maps.size, length_sorted, List.length_map, Array.length_toList] at this
    omega
  · by_cases e : x = kl
    · subst e
      rw [has_put_same hm hk, upd_same]; rfl
    · rw [has_put_other e, h.has x, upd_other f v e]
  · by_cases e : x = kl
    · subst e
      rw [upd_same] at hx
      obtain rfl := Option.some.inj hx
      exact atKey_put_same hm hk _ z
    · rw [upd_other f v e] at hx
      rw [atKey_put_other e, h.val x u hx]
theorem MpF.len (h : MpF w k m n f) (ht : Try.prog.underlying t = some (.map k e)) (ty : TypeId) : (Builtin.len_ #[t] ty #[.map (some m)]).run Try.prog w = .ok (.int .i64 (n : Int)) w := by
  obtain ⟨D, h⟩ := h
  rw [h.own.len ht ty, h.size]
end

end Go.Proofs.Ytjpmjidpdgikgaa
