/- Each act leaves a disk of the kind that it was: its names stand for one file each, at each crash too, and all files have few bytes. -/
import Derived.Test.YtjpmjidpdgikgaaKg
namespace Go.Proofs.Ytjpmjidpdgikgaa
open Go.RowKit Go.Maps

theorem Good.of_ptr {f : Lit → Option Value} {F F' : List Fi} (h : Good f F) (hF : ∀ x ∈ F, ∃ y ∈ F', x.ptr = y.ptr) : Good f F' :=
  ⟨fun kl v hv => by obtain ⟨x, hx, rfl⟩ := h.ins kl v hv; exact hF x hx, h.once, h.small⟩
theorem Good.grow {f : Lit → Option Value} {F F' : List Fi} (h : Good f F) (hF : ∀ x ∈ F, x ∈ F') : Good f F' := h.of_ptr fun x hx => ⟨x, hF x hx, rfl⟩
theorem up_ptr {F : List Fi} {x' : Fi} : ∀ x ∈ F, ∃ y ∈ upF F x', x.ptr = y.ptr := fun x hx => by
  by_cases hg : x.g = x'.g
  · exact ⟨x', upF_mem hx hg, by unfold Fi.ptr; rw [hg]⟩
  · exact ⟨x, upF_other hx hg, rfl⟩
theorem cut_some {f : Lit → Option Value} {k kl : Lit} {v : Value} (h : cutF f k kl = some v) : f kl = some v ∧ kl ≠ k := by
  unfold cutF at h
  split at h
  · cases h
  · rename_i hne; exact ⟨h, hne⟩
theorem Good.chg {f : Lit → Option Value} {F F' : List Fi} {gone set : ByteArray} {v : Value} (h : Good f F) (hF : ∀ x ∈ F, x ∈ F') (hv : set.size ≠ 0 → set.size ≤ 32 ∧ (∃ x ∈ F', v = x.ptr) ∧ ∀ kl, f kl = some v → kl = litS gone) : Good (chF f gone set v) F' := by
  refine ⟨chF_in h.ins hF (fun h0 => (hv h0).2.1), ?_, ?_⟩
  · intro k k' u hk hk'
    unfold chF at hk hk'
    split at hk
    · rename_i h0
      rw [if_pos h0] at hk'
      exact h.once _ _ _ (cut_some hk).1 (cut_some hk').1
    · rename_i h0
      rw [if_neg h0] at hk'
      obtain ⟨_, _, h3⟩ := hv h0
      by_cases e : k = litS set <;> by_cases e' : k' = litS set
      · rw [e, e']
      · rw [e, upd_same] at hk
        obtain rfl := Option.some.inj hk
        rw [upd_other _ _ e'] at hk'
        obtain ⟨h4, h5⟩ := cut_some hk'
        exact (h5 (h3 _ h4)).elim
      · rw [e', upd_same] at hk'
        obtain rfl := Option.some.inj hk'
        rw [upd_other _ _ e] at hk
        obtain ⟨h4, h5⟩ := cut_some hk
        exact (h5 (h3 _ h4)).elim
      · rw [upd_other _ _ e] at hk
        rw [upd_other _ _ e'] at hk'
        exact h.once _ _ _ (cut_some hk).1 (cut_some hk').1
  · intro t ht
    obtain ⟨u, hu⟩ := Option.isSome_iff_exists.1 ht
    unfold chF at hu
    split at hu
    · exact h.small t (by rw [(cut_some hu).1]; rfl)
    · rename_i h0
      by_cases e : litS t = litS set
      · rw [litS_inj e]; exact (hv h0).1
      · rw [upd_other _ _ e] at hu
        exact h.small t (by rw [(cut_some hu).1]; rfl)
theorem upF_split {A C : List Fi} {x x' : Fi} (hn : ((A ++ x :: C).map (·.g)).Nodup) (e : x'.g = x.g) : upF (A ++ x :: C) x' = A ++ x' :: C := by
  rw [List.map_append, List.map_cons, List.nodup_append, List.nodup_cons] at hn
  unfold upF
  rw [List.map_append, List.map_cons, if_pos e.symm]
  congr 1
  · rw [List.map_congr_left (g := id) (fun y hy => by
      rw [if_neg (fun (h : y.g = x'.g) => hn.2.2 y.g (List.mem_map_of_mem (f := (·.g)) hy) x.g List.mem_cons_self (h.trans e))]; rfl), List.map_id]
  · congr 1
    rw [List.map_congr_left (g := id) (fun y hy => by
      rw [if_neg (fun (h : y.g = x'.g) => hn.2.1.1 ((h.trans e) ▸ List.mem_map_of_mem (f := (·.g)) hy))]; rfl), List.map_id]
theorem tot_up {F : List Fi} (hn : (F.map (·.g)).Nodup) {x x' : Fi} (hx : x ∈ F) (e : x'.g = x.g) : tot (upF F x') + x.bs.length = tot F + x'.bs.length := by
  obtain ⟨A, C, rfl⟩ := List.append_of_mem hx
  rw [upF_split hn e, tot_append, tot_append, tot_cons, tot_cons]
  omega
theorem ok_mono {s : Sta} {cs : List Chg} {c c' : Nat} (h : Ok s cs c) (hc : c ≤ c') : Ok s cs c' :=
  ⟨h.vs, h.sz, Nat.le_trans h.len hc, h.n, Nat.le_trans h.cnt hc, fun x hx => Nat.le_trans (h.num x hx) hc, by have := h.tot; omega, h.fin, h.pre⟩
/-- One file changed. -/
theorem ok_up {s : Sta} {cs : List Chg} {c : Nat} (h : Ok s cs c) (hn : (s.F.map (·.g)).Nodup) {x x' : Fi} (hx : x ∈ s.F) (e : x'.g = x.g) (hnum : x'.num = x.num) (hl : x'.bs.length ≤ x.bs.length + 1000) : Ok { s with F := upF s.F x' } cs (c + 1) := by
  refine ⟨h.vs, h.sz, Nat.le_succ_of_le h.len, by rw [show s.n = s.F.length from h.n]; exact (upF_len _ _).symm, by rw [show ({ s with F := upF s.F x' } : Sta).F = upF s.F x' from rfl, upF_len]; exact Nat.le_succ_of_le h.cnt, fun y hy => ?_, ?_, h.fin, fun j hj => (h.pre j hj).of_ptr up_ptr⟩
  · rcases mem_upF hy with ⟨rfl, _⟩ | ⟨hy, _⟩
    · rw [hnum]; exact Nat.le_succ_of_le (h.num x hx)
    · exact Nat.le_succ_of_le (h.num y hy)
  · have h1 := tot_up hn hx e
    have h2 := h.tot
    show tot (upF s.F x') ≤ 1000 * (c + 1)
    omega
/-- A change of names noted, with the files of before or one more. -/
theorem ok_chg {s : Sta} {cs : List Chg} {c : Nat} (h : Ok s cs c) (hc : c ≤ 200) {k1 : Nat} {qa : Option Addr} {qn qc n' : Nat} {F' : List Fi} {gone set : ByteArray} {v : Option Addr} (hs : gone.size ≤ 32 ∧ set.size ≤ 32) (hF : ∀ x ∈ s.F, x ∈ F') (hn : n' = F'.length) (hcnt : F'.length ≤ s.F.length + 1) (hnum : ∀ x ∈ F', x.num ≤ c) (ht : tot F' ≤ tot s.F + 1000)
    (hv : set.size ≠ 0 → set.size ≤ 32 ∧ (∃ x ∈ F', Value.pointer v = x.ptr) ∧ ∀ kl, s.f1 kl = some (.pointer v) → kl = litS gone) :
    Ok { s with n := n', k1 := k1, pa := qa, pn := qn, pc := qc, f1 := chF s.f1 gone set (.pointer v), vs := addCh s.vs gone set v, F := F' } (cs ++ [⟨gone, set, v⟩]) (c + 1) := by
  have hlen := h.len
  have hvl : s.vs.length = cs.length := by rw [h.vs, List.length_map]
  refine ⟨?_, ?_, by simp; omega, hn, ?_, fun x hx => Nat.le_succ_of_le (hnum x hx), ?_, ?_, ?_⟩
  · show addCh s.vs gone set v = _
    unfold addCh
    rw [if_pos (by omega), h.vs, List.map_append]
    rfl
  · intro x hx
    rcases List.mem_append.1 hx with hx | hx
    · exact h.sz x hx
    · rw [List.mem_singleton.1 hx]; exact hs
  · have := h.cnt
    show F'.length ≤ c + 1
    omega
  · have := h.tot
    show tot F' ≤ 1000 * (c + 1)
    omega
  · show iterF s.f2 (cs ++ [(⟨gone, set, v⟩ : Chg)]) = chF s.f1 gone set (.pointer v)
    rw [iterF_snoc, h.fin]
  · intro j hj
    rw [List.length_append, List.length_singleton] at hj
    by_cases hjl : j ≤ cs.length
    · show Good (iterF s.f2 ((cs ++ [(⟨gone, set, v⟩ : Chg)]).take j)) F'
      rw [List.take_append_of_le_length hjl]
      exact (h.pre j hjl).grow hF
    · obtain rfl : j = cs.length + 1 := by omega
      show Good (iterF s.f2 ((cs ++ [(⟨gone, set, v⟩ : Chg)]).take (cs.length + 1))) F'
      rw [List.take_of_length_le (by simp), iterF_snoc, h.fin]
      exact h.good.chg hF hv
/-- Nothing pending. -/
theorem ok_still {s : Sta} {cs : List Chg} {c m1 m2 k : Nat} {f : Lit → Option Value} {F : List Fi} (h : Ok s cs c) (hg : Good f F) (hF : F.length = s.F.length) (hnum : ∀ x ∈ F, x.num ≤ c) (ht : tot F ≤ tot s.F) : Ok { n := s.n, m1 := m1, m2 := m2, k1 := k, k2 := k, pa := none, pn := 0, pc := 0, f1 := f, f2 := f, vs := [], F := F } [] (c + 1) :=
  ⟨rfl, by simp, Nat.zero_le _, h.n.trans hF.symm, by show F.length ≤ c + 1; rw [hF]; exact Nat.le_succ_of_le h.cnt, fun x hx => Nat.le_succ_of_le (hnum x hx), by have := h.tot; show tot F ≤ 1000 * (c + 1); omega, rfl, fun j _ => by rw [show ([] : List Chg).take j = [] from List.take_nil]; exact hg⟩
theorem tot_map {F : List Fi} {φ : Fi → Fi} (h : ∀ x ∈ F, (φ x).bs.length ≤ x.bs.length) : tot (F.map φ) ≤ tot F := by
  induction F with
  | nil => exact Nat.le_refl _
  | cons x F ih =>
    rw [List.map_cons, tot_cons, tot_cons]
    have h1 := h x List.mem_cons_self
    have h2 := ih fun y hy => h y (List.mem_cons_of_mem _ hy)
    omega
theorem cr_le (cuts : List Nat) (x : Fi) : (x.cr cuts).bs.length ≤ x.bs.length := by
  show (x.bs.take _).length ≤ _
  rw [List.length_take]; omega
theorem crF_mem {f : Lit → Option Value} {cuts : List Nat} {F : List Fi} {y : Fi} (h : y ∈ crF f cuts F) : ∃ x ∈ F, y.g = x.g ∧ y.num = x.num ∧ (y = x ∨ y = x.cr cuts) := by
  obtain ⟨x, hx, rfl⟩ := List.mem_map.1 h
  refine ⟨x, hx, ?_⟩
  split
  · exact ⟨rfl, rfl, .inr rfl⟩
  · exact ⟨rfl, rfl, .inl rfl⟩
theorem crF_ptr {f : Lit → Option Value} {cuts : List Nat} {F : List Fi} : ∀ x ∈ F, ∃ y ∈ crF f cuts F, x.ptr = y.ptr := fun x hx => ⟨_, List.mem_map.2 ⟨x, hx, rfl⟩, by split <;> rfl⟩
theorem ok_crash {s : Sta} {cs : List Chg} {c m1 m2 k j : Nat} (h : Ok s cs c) (cuts : List Nat) (hj : j ≤ cs.length) : Ok { n := s.n, m1 := m1, m2 := m2, k1 := k, k2 := k, pa := none, pn := 0, pc := 0, f1 := iterF s.f2 (cs.take j), f2 := iterF s.f2 (cs.take j), vs := [], F := crF (iterF s.f2 (cs.take j)) cuts s.F } [] (c + 1) :=
  ok_still h ((h.pre j hj).of_ptr crF_ptr) (List.length_map _) (fun x hx => by obtain ⟨y, hy, _, e, _⟩ := crF_mem hx; rw [e]; exact h.num y hy) (tot_map fun x _ => by split; exact cr_le cuts x; exact Nat.le_refl _)

/-- What an act leaves. -/
def ActP (B p room c : Nat) (s : Sta) (w : World) (e : Ending) (w' : World) : Prop := (∃ z : Int, e = .returned (.int .i64 z)) ∧ ∃ s' cs', Mv w B p room s w' s' ∧ Ok s' cs' (c + 1)
theorem ActP.same {B p room c : Nat} {s : Sta} {cs : List Chg} {w w' : World} {z : Int} {e : Ending} (h : Dz w B p room s) (ok : Ok s cs c) (hs : Says (.int .i64 z) w e w') : ActP B p room c s w e w' :=
  ⟨⟨z, hs.1⟩, s, cs, Mv.below h hs.2, ok_mono ok (Nat.le_succ c)⟩
set_option maxRecDepth 100000 in
theorem dappend_bad {w : World} {B p room : Nat} {s : Sta} (h : Dz w B p room s) {name : ByteArray} (hn : ¬ (1 ≤ name.size ∧ name.size ≤ 32)) (ba : Option Addr) (bl bc : Nat) : Calls Try.prog 11 #[.pointer (some ⟨p, 0, none⟩), .string name, .slice ba bl bc] w (Says (.int .i64 2) w) := by
  have HMd := begin_any h.blk h.room
  have HV := valid_any name
  rw [show decide (1 ≤ name.size ∧ name.size ≤ 32) = false by simpa using hn] at HV
  clear h hn
  go_enter Try.func11, Try.ntmps11
  go_wp2_with fail
  refine HMd.mono ?_
  rintro e w1 ⟨rfl, hb⟩
  have HB1 := Lib.hid hb
  clear hb HMd
  go_wp2_with fail
  refine (HV w1).mono ?_
  rintro e w2 ⟨rfl, hb⟩
  have HB2 := Lib.hid (HB1.out.trans (hb.mono HB1.out.size))
  clear hb HB1 HV
  go_wp2_with fail
  go_ret
  exact ⟨rfl, HB2.out⟩
section
variable {w : World} {B p room c : Nat} {s : Sta} {cs : List Chg}
theorem name_cases (h : Dz w B p room s) (t : ByteArray) : s.f1 (litS t) = none ∨ ∃ x ∈ s.F, s.f1 (litS t) = some x.ptr := by
  cases hf : s.f1 (litS t) with
  | none => exact .inl rfl
  | some v => obtain ⟨x, hx, rfl⟩ := h.nms _ _ hf; exact .inr ⟨x, hx, rfl⟩
theorem sync_act (h : Dz w B p room s) (ok : Ok s cs c) {t : ByteArray} (ht : t.size ≤ 1000000) : Calls Try.prog 12 #[.pointer (some ⟨p, 0, none⟩), .string t] w (ActP B p room c s w) := by
  rcases name_cases h t with hf | ⟨x, hx, hf⟩
  · exact (sync_none h.blk h.room h.mp1 ht hf).mono fun e w' hs => .same h ok hs
  · refine (sync_some h.blk h.room h.mp1 ht hf (h.fls.blk x hx)).mono ?_
    rintro e w' ⟨rfl, hb, hk⟩
    have hup := h.up (x := x) (x' := { x with dur := x.bs.length }) hx rfl hb ((h.fls.own x hx).keep hk (fun ad ha e => own_notBlk (h.fls.own x hx) (h.fls.blk x hx) (by decide) ⟨ad, ha, e.symm⟩)) (Nat.le_refl _) (h.fls.byte x hx) (hk.mono fun i hi => .inl hi) (fun ad ha => .inl ⟨ad, ha, rfl⟩)
    exact ⟨⟨0, rfl⟩, _, cs, hup, ok_up ok h.fls.nodup hx rfl rfl (Nat.le_add_right _ _)⟩
theorem chg_act (h : Dz w B p room s) (ok : Ok s cs c) (hc : c ≤ 200) {gone set : ByteArray} {v : Option Addr} {z : Int} {e : Ending} {w' : World} (hs : gone.size ≤ 32 ∧ set.size ≤ 32) (hv : set.size ≠ 0 → (∃ x ∈ s.F, Value.pointer v = x.ptr) ∧ ∀ kl, s.f1 kl = some (.pointer v) → kl = litS gone)
    (hn : NotedV (.int .i64 z) B p room s.n s.m1 s.k1 (some s.m2) s.f1 s.pa s.vs gone set v w e w') : ActP B p room c s w e w' := by
  obtain ⟨rfl, hn⟩ := hn
  obtain ⟨k', qa, qn, qc, hm⟩ := h.note (fun h0 => (hv h0).1) hn
  exact ⟨⟨z, rfl⟩, _, _, hm, ok_chg ok hc hs (fun _ hx => hx) ok.n (Nat.le_succ _) ok.num (Nat.le_add_right _ _) (fun h0 => ⟨hs.2, hv h0⟩)⟩
theorem k1_lt (h : Dz w B p room s) (ok : Ok s cs c) (hc : c ≤ 200) : s.k1 < 900000 := by
  have h1 := ok.good.count h.fls.nodup h.mp1
  have h2 := ok.cnt
  omega
theorem remove_act (h : Dz w B p room s) (ok : Ok s cs c) (hc : c ≤ 200) {t : ByteArray} (ht : t.size ≤ 1000000) : Calls Try.prog 10 #[.pointer (some ⟨p, 0, none⟩), .string t] w (ActP B p room c s w) := by
  rcases name_cases h t with hf | ⟨x, hx, hf⟩
  · exact (remove_none h.blk h.room h.mp1 ht hf).mono fun e w' hs => .same h ok hs
  · have hs := ok.good.small t (by rw [hf]; rfl)
    refine (remove_some h.blk h.room h.mp1 h.pend h.hB (k1_lt h ok hc) ht hf).mono fun e w' hn => chg_act h ok hc ⟨hs, by decide⟩ (fun h0 => absurd rfl h0) hn
theorem rename_act (h : Dz w B p room s) (ok : Ok s cs c) (hc : c ≤ 200) {t r : ByteArray} (ht : t.size ≤ 1000000) : Calls Try.prog 18 #[.pointer (some ⟨p, 0, none⟩), .string t, .string r] w (ActP B p room c s w) := by
  rcases name_cases h t with hf | ⟨x, hx, hf⟩
  · exact (rename_none r h.blk h.room h.mp1 ht hf).mono fun e w' hs => .same h ok hs
  · by_cases hr : 1 ≤ r.size ∧ r.size ≤ 32
    · by_cases e : t = r
      · subst e
        exact (rename_same h.blk h.room h.mp1 ht hf hr).mono fun e w' hs => .same h ok hs
      · have hs := ok.good.small t (by rw [hf]; rfl)
        exact (rename_some r h.blk h.room h.mp1 h.pend h.hB (k1_lt h ok hc) ht hf hr e).mono fun e w' hn => chg_act h ok hc ⟨hs, hr.2⟩ (fun _ => ⟨⟨x, hx, rfl⟩, fun kl hkl => ok.good.once _ _ _ hkl hf⟩) hn
    · exact (rename_bad r h.blk h.room h.mp1 ht hf hr).mono fun e w' hs => .same h ok hs
theorem syncdir_act (h : Dz w B p room s) (ok : Ok s cs c) : Calls Try.prog 13 #[.pointer (some ⟨p, 0, none⟩)] w (ActP B p room c s w) := by
  refine (syncdir_any h.blk h.room h.mp1).mono ?_
  rintro e w' ⟨rfl, m3, h3, hd, hf3, hf1, hk⟩
  exact ⟨⟨0, rfl⟩, _, [], (Mv.refl h).settle hk (.inl rfl) hd h3 hf3 hf1 h.nms, ok_still ok ok.good rfl ok.num (Nat.le_refl _)⟩
theorem crash_act (h : Dz w B p room s) (ok : Ok s cs c) (hc : c ≤ 200) (ch : Nat) (hch : ch < 256) {ca : Option Addr} {cl cc : Nat} {cuts : List Nat} (hr : Row w ca cl cuts) (hfar : ∀ ad, ca = some ad → cl ≠ 0 → ¬ s.at_ p ad.block) : Calls Try.prog 14 #[.pointer (some ⟨p, 0, none⟩), .int .u8 (ch : Int), .slice ca cl cc] w (ActP B p room c s w) := by
  refine (crash_any h ok (by omega) ch hch hr hfar).mono ?_
  rintro e w' ⟨rfl, m1, m2, k, hm⟩
  exact ⟨⟨0, rfl⟩, _, [], hm, ok_crash ok cuts (by have := Nat.mod_lt ch (show cs.length + 1 > 0 by omega); omega)⟩
theorem append_act (h : Dz w B p room s) (ok : Ok s cs c) (hc : c ≤ 200) {t : ByteArray} {ba : Option Addr} {bl bc : Nat} {bs : List Nat} (hr : Row w ba bl bs) (hbz : ba = none → bl = 0 ∧ bc = 0) (hbl : bl ≤ 1000)
    (hfar : ∀ ad, ba = some ad → bl ≠ 0 → ¬ s.at_ p ad.block) (hroom : 300000 ≤ room ∧ room ≤ 16777216) : Calls Try.prog 11 #[.pointer (some ⟨p, 0, none⟩), .string t, .slice ba bl bc] w (ActP B p room c s w) := by
  have htot := ok.tot
  by_cases hn : 1 ≤ t.size ∧ t.size ≤ 32
  · rcases name_cases h t with hf | ⟨x, hx, hf⟩
    · refine (dappend_new h ok.good (by omega) hn hf (by have := ok.cnt; have := ok.n; omega) (k1_lt h ok hc) hr hbz (by omega) hfar (by omega) hroom.2).mono ?_
      rintro e w' ⟨rfl, g, a, cap, k, qa, qn, qc, hm⟩
      refine ⟨⟨0, rfl⟩, _, _, hm, ok_chg ok hc ⟨by decide, hn.2⟩ (fun _ hx => List.mem_append_left _ hx) (by rw [List.length_append, ← ok.n]; rfl) (by simp) ?_ ?_ (fun _ => ⟨hn.2, ⟨_, List.mem_append_right _ (List.mem_singleton.2 rfl), rfl⟩, ?_⟩)⟩
      · intro y hy
        rcases List.mem_append.1 hy with hy | hy
        · exact ok.num y hy
        · rw [List.mem_singleton.1 hy]
          show s.n ≤ c
          rw [ok.n]; exact ok.cnt
      · rw [tot_append, tot_cons]
        show tot s.F + (bs.length + tot []) ≤ _
        rw [hr.size, show tot [] = 0 from rfl]; omega
      · intro kl hkl
        obtain ⟨y, hy, e⟩ := h.nms kl _ hkl
        have hnd := hm.now.fls.nodup
        rw [List.map_append, List.nodup_append] at hnd
        exact (hnd.2.2 y.g (List.mem_map_of_mem (f := (·.g)) hy) g (by simp) (Fi.ptr_g (x := ⟨g, 0, none, 0, 0, []⟩) e).symm).elim
    · refine (dappend_old h ok.good (by omega) hn hx hf hr hbz (by omega) hfar (by omega) hroom.2).mono ?_
      rintro e w' ⟨rfl, a, cap, hm⟩
      exact ⟨⟨0, rfl⟩, _, cs, hm, ok_up ok h.fls.nodup hx rfl rfl (by show (x.bs ++ bs).length ≤ _; rw [List.length_append, hr.size]; omega)⟩
  · exact (dappend_bad h hn ba bl bc).mono fun e w' hs => .same h ok hs
/-- An act. -/
theorem do_in (h : Dz w B p room s) (ok : Ok s cs c) (hc : c ≤ 200) (hroom : 300000 ≤ room ∧ room ≤ 16777216) (k : Nat) (hk : k % 9 ≠ 8) {t r : ByteArray} (ht : t.size ≤ 1000000) (ch : Nat) (hch : ch < 256) (n : Int) {ba : Option Addr} {bl bc : Nat} {bs : List Nat} (hr : Row w ba bl bs) (hbz : ba = none → bl = 0 ∧ bc = 0) (hbl : bl ≤ 1000) (hfar : ∀ ad, ba = some ad → bl ≠ 0 → ¬ s.at_ p ad.block)
    {ca : Option Addr} {cl cc : Nat} {cuts : List Nat} (hr2 : Row w ca cl cuts) (hfar2 : ∀ ad, ca = some ad → cl ≠ 0 → ¬ s.at_ p ad.block) : Calls Try.prog 9 #[.pointer (some ⟨p, 0, none⟩), .agg (actA k t r ba bl bc (ch : Int) ca cl cc n)] w (ActP B p room c s w) := by
  refine do_any _ k t r ba bl bc (ch : Int) ca cl cc n w _ (fun e w' hq => ?_) (fun V hV => ?_)
  · obtain ⟨⟨z, rfl⟩, _⟩ := hq; exact ⟨_, rfl⟩
  · have lift : ∀ {e w'}, ActP B p room c s V e w' → ActP B p room c s w e w' := fun ⟨h1, s', cs', hm, ho⟩ => ⟨h1, s', cs', Mv.belowL hV hm, ho⟩
    have hV' := h.below hV
    exact {
      sync := fun _ => (sync_act hV' ok ht).mono fun _ _ hq => lift hq
      rename := fun _ => (rename_act hV' ok hc ht).mono fun _ _ hq => lift hq
      remove := fun _ => (remove_act hV' ok hc ht).mono fun _ _ hq => lift hq
      syncdir := fun _ => (syncdir_act hV' ok).mono fun _ _ hq => lift hq
      crash := fun _ => (crash_act hV' ok hc ch hch (hr2.below hV) hfar2).mono fun _ _ hq => lift hq
      append2 := fun _ => (append_act hV' ok hc (hr.below hV) hbz hbl hfar hroom).mono fun _ _ hq => lift hq
      off := fun h8 => absurd h8 hk
      append := fun _ => (append_act hV' ok hc (hr.below hV) hbz hbl hfar hroom).mono fun _ _ hq => lift hq }
end
end Go.Proofs.Ytjpmjidpdgikgaa
