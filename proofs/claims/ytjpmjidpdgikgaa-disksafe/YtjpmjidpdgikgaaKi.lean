/- Calls of a disk by what they leave exactly; a new disk. -/
import Derived.Test.YtjpmjidpdgikgaaKh
namespace Go.Proofs.Ytjpmjidpdgikgaa
open Go.RowKit Go.Maps

/-- A disk without names. -/
def s0 (m1 m2 : Nat) : Sta := { n := 0, m1 := m1, m2 := m2, k1 := 0, k2 := 0, pa := none, pn := 0, pc := 0, f1 := fun _ => none, f2 := fun _ => none, vs := [], F := [] }
theorem newly_dz {room : Nat} {w w' : World} {e : Ending} (h : Newly room w e w') (hr : 0 < room) : ∃ p m1 m2, e = .returned (.pointer (some ⟨p, 0, none⟩)) ∧ Dz w' w.heap.size p room (s0 m1 m2) ∧ Below w.heap.size w w' := by
  obtain ⟨p, m1, m2, rfl, hd, h1, h2, hne, hp, hm1, hm2, hb⟩ := h
  exact ⟨p, m1, m2, rfl, ⟨hd, hr, h1, h2, hne, ownG_nil _ _ _ _, ⟨fun _ h => (by cases h), fun _ h => (by cases h), fun _ h => (by cases h), fun _ h => (by cases h), fun _ h => (by cases h), List.nodup_nil, fun _ h => (by cases h)⟩, fun _ _ h => (by cases h), ⟨hp, hm1, hm2⟩⟩, hb⟩
theorem s0_ok (m1 m2 : Nat) : Ok (s0 m1 m2) [] 0 :=
  ⟨rfl, fun _ h => (by cases h), Nat.le_refl _, rfl, Nat.le_refl _, fun _ h => (by cases h), Nat.le_refl _, rfl, fun j _ => by
    rw [show ([] : List Chg).take j = [] from List.take_nil]
    exact ⟨fun _ _ h => (by cases h), fun _ _ _ h => (by cases h), fun _ h => (by cases h)⟩⟩
theorem row_blk {w : World} {g : Nat} {bs : List Nat} (h : Blk w g 5 (cellsOf bs).toArray) (hs : ∀ c ∈ bs, c < 256) : Row w (some ⟨g, 0, none⟩) bs.length bs := by
  refine ⟨rfl, hs, .inr ⟨g, 0, rfl, fun i hi => ?_⟩⟩
  rw [Nat.zero_add, h.cell i, List.getElem?_toArray]
  simp [cellsOf, List.getElem?_eq_getElem hi, List.getD]

section
variable {w : World} {B p room c : Nat} {s : Sta} {cs : List Chg}
/-- Append of a new name. -/
def AppN (B p room c : Nat) (name : ByteArray) (bs : List Nat) (s : Sta) (cs : List Chg) (w : World) (e : Ending) (w' : World) : Prop := e = .returned (.int .i64 0) ∧ ∃ g a cap k qa qn qc s', Mv w B p room s w' s' ∧ Ok s' (cs ++ [⟨⟨#[]⟩, name, some ⟨g, 0, none⟩⟩]) (c + 1) ∧ s' = { s with n := s.n + 1, k1 := k, pa := qa, pn := qn, pc := qc, f1 := chF s.f1 ⟨#[]⟩ name (.pointer (some ⟨g, 0, none⟩)), vs := addCh s.vs ⟨#[]⟩ name (some ⟨g, 0, none⟩), F := s.F ++ [⟨g, s.n, a, cap, 0, bs⟩] }
theorem app_new (h : Dz w B p room s) (ok : Ok s cs c) (hc : c ≤ 200) {t : ByteArray} (hn : 1 ≤ t.size ∧ t.size ≤ 32) (hf : s.f1 (litS t) = none) {ba : Option Addr} {bl bc : Nat} {bs : List Nat} (hr : Row w ba bl bs) (hbz : ba = none → bl = 0 ∧ bc = 0) (hbl : bl ≤ 1000)
    (hfar : ∀ ad, ba = some ad → bl ≠ 0 → ¬ s.at_ p ad.block) (hfit : tot s.F + bl ≤ room) (hroom : room ≤ 16777216) : Calls Try.prog 11 #[.pointer (some ⟨p, 0, none⟩), .string t, .slice ba bl bc] w (AppN B p room c t bs s cs w) := by
  have htot := ok.tot
  refine (dappend_new h ok.good (by omega) hn hf (by have := ok.cnt; have := ok.n; omega) (k1_lt h ok hc) hr hbz (by omega) hfar hfit hroom).mono ?_
  rintro e w' ⟨rfl, g, a, cap, k, qa, qn, qc, hm⟩
  refine ⟨rfl, g, a, cap, k, qa, qn, qc, _, hm, ok_chg ok hc ⟨by decide, hn.2⟩ (fun _ hx => List.mem_append_left _ hx) (by rw [List.length_append, ← ok.n]; rfl) (by simp) ?_ ?_ (fun _ => ⟨hn.2, ⟨_, List.mem_append_right _ (List.mem_singleton.2 rfl), rfl⟩, ?_⟩), rfl⟩
  · intro y hy
    rcases List.mem_append.1 hy with hy | hy
    · exact ok.num y hy
    · rw [List.mem_singleton.1 hy]
      show s.n ≤ c
      rw [ok.n]; exact ok.cnt
  · rw [tot_append, tot_cons]
    show tot s.F + (bs.length + tot []) ≤ _
    rw [hr.size, show tot [] = 0 from rfl]; omega
  · intro kl hkl
    obtain ⟨y, hy, e⟩ := h.nms kl _ hkl
    have hnd := hm.now.fls.nodup
    rw [List.map_append, List.nodup_append] at hnd
    exact (hnd.2.2 y.g (List.mem_map_of_mem (f := (·.g)) hy) g (by simp) (Fi.ptr_g (x := ⟨g, 0, none, 0, 0, []⟩) e).symm).elim
/-- Append to a name that is one. -/
def AppO (B p room c : Nat) (x : Fi) (bs : List Nat) (s : Sta) (cs : List Chg) (w : World) (e : Ending) (w' : World) : Prop := e = .returned (.int .i64 0) ∧ ∃ a cap s', Mv w B p room s w' s' ∧ Ok s' cs (c + 1) ∧ s' = { s with F := upF s.F { x with a := a, cap := cap, bs := x.bs ++ bs } }
theorem app_old (h : Dz w B p room s) (ok : Ok s cs c) (hc : c ≤ 200) {t : ByteArray} (hn : 1 ≤ t.size ∧ t.size ≤ 32) {x : Fi} (hx : x ∈ s.F) (hf : s.f1 (litS t) = some x.ptr) {ba : Option Addr} {bl bc : Nat} {bs : List Nat} (hr : Row w ba bl bs) (hbz : ba = none → bl = 0 ∧ bc = 0) (hbl : bl ≤ 1000)
    (hfar : ∀ ad, ba = some ad → bl ≠ 0 → ¬ s.at_ p ad.block) (hfit : tot s.F + bl ≤ room) (hroom : room ≤ 16777216) : Calls Try.prog 11 #[.pointer (some ⟨p, 0, none⟩), .string t, .slice ba bl bc] w (AppO B p room c x bs s cs w) := by
  have htot := ok.tot
  refine (dappend_old h ok.good (by omega) hn hx hf hr hbz (by omega) hfar hfit hroom).mono ?_
  rintro e w' ⟨rfl, a, cap, hm⟩
  exact ⟨rfl, a, cap, _, hm, ok_up ok h.fls.nodup hx rfl rfl (by show (x.bs ++ bs).length ≤ _; rw [List.length_append, hr.size]; omega), rfl⟩
/-- Sync of a name that is one. -/
def SynO (B p room c : Nat) (x : Fi) (s : Sta) (cs : List Chg) (w : World) (e : Ending) (w' : World) : Prop := e = .returned (.int .i64 0) ∧ ∃ s', Mv w B p room s w' s' ∧ Ok s' cs (c + 1) ∧ s' = { s with F := upF s.F { x with dur := x.bs.length } }
theorem syn_old (h : Dz w B p room s) (ok : Ok s cs c) {t : ByteArray} (ht : t.size ≤ 1000000) {x : Fi} (hx : x ∈ s.F) (hf : s.f1 (litS t) = some x.ptr) : Calls Try.prog 12 #[.pointer (some ⟨p, 0, none⟩), .string t] w (SynO B p room c x s cs w) := by
  refine (sync_some h.blk h.room h.mp1 ht hf (h.fls.blk x hx)).mono ?_
  rintro e w' ⟨rfl, hb, hk⟩
  have hup := h.up (x := x) (x' := { x with dur := x.bs.length }) hx rfl hb ((h.fls.own x hx).keep hk (fun ad ha e => own_notBlk (h.fls.own x hx) (h.fls.blk x hx) (by decide) ⟨ad, ha, e.symm⟩)) (Nat.le_refl _) (h.fls.byte x hx) (hk.mono fun i hi => .inl hi) (fun ad ha => .inl ⟨ad, ha, rfl⟩)
  exact ⟨rfl, _, hup, ok_up ok h.fls.nodup hx rfl rfl (Nat.le_add_right _ _), rfl⟩
/-- SyncDir. -/
def SynD (B p room c : Nat) (s : Sta) (w : World) (e : Ending) (w' : World) : Prop := e = .returned (.int .i64 0) ∧ ∃ m s', Mv w B p room s w' s' ∧ Ok s' [] (c + 1) ∧ s' = { n := s.n, m1 := s.m1, m2 := m, k1 := s.k1, k2 := s.k1, pa := none, pn := 0, pc := 0, f1 := s.f1, f2 := s.f1, vs := [], F := s.F }
theorem syn_dir (h : Dz w B p room s) (ok : Ok s cs c) : Calls Try.prog 13 #[.pointer (some ⟨p, 0, none⟩)] w (SynD B p room c s w) := by
  refine (syncdir_any h.blk h.room h.mp1).mono ?_
  rintro e w' ⟨rfl, m3, h3, hd, hf3, hf1, hk⟩
  exact ⟨rfl, m3, _, (Mv.refl h).settle hk (.inl rfl) hd h3 hf3 hf1 h.nms, ok_still ok ok.good rfl ok.num (Nat.le_refl _), rfl⟩
end
/-- Names behind one more. -/
theorem chF_hit {f : Lit → Option Value} {gone set : ByteArray} {v : Value} (h : set.size ≠ 0) : chF f gone set v (litS set) = some v := by unfold chF; rw [if_neg h, upd_same]
theorem chF_miss {f : Lit → Option Value} {gone set t : ByteArray} {v : Value} (h : t ≠ set) (hg : t ≠ gone) : chF f gone set v (litS t) = f (litS t) := by
  unfold chF
  split
  · exact cutF_other _ fun e => hg (litS_inj e)
  · rw [upd_other _ _ fun e => h (litS_inj e), cutF_other _ fun e => hg (litS_inj e)]
theorem chF_gone {f : Lit → Option Value} {gone set : ByteArray} {v : Value} (h : gone ≠ set) : chF f gone set v (litS gone) = none := by
  unfold chF
  split
  · exact cutF_same _ _
  · rw [upd_other _ _ fun e => h (litS_inj e), cutF_same]
end Go.Proofs.Ytjpmjidpdgikgaa
