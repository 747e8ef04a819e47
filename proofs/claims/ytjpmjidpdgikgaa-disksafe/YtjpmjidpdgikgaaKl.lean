/- A disk behind a row of acts; a name read, a name changed to another one. -/
import Derived.Test.YtjpmjidpdgikgaaKk
namespace Go.Proofs.Ytjpmjidpdgikgaa
open Go.RowKit Go.Maps

/-- What stands of the made disk behind c acts. -/
structure TD (W w : World) (B p c : Nat) (s : Sta) (cs : List Chg) : Prop where
  d : Dz w B p 1048576 s
  ok : Ok s cs c
  b : Below W.heap.size W w
  lo : W.heap.size ≤ B
theorem TD.below {W w w' : World} {B p c : Nat} {s : Sta} {cs : List Chg} (h : TD W w B p c s cs) (hb : Below w.heap.size w w') : TD W w' B p c s cs := ⟨h.d.below hb, h.ok, h.b.trans (hb.mono h.b.size), h.lo⟩
theorem TD.mv {W w w' : World} {B p c c' : Nat} {s s' : Sta} {cs cs' : List Chg} (h : TD W w B p c s cs) (m : Mv w B p 1048576 s w' s') (ok : Ok s' cs' c') : TD W w' B p c' s' cs' := ⟨m.now, ok, h.b.trans (m.kept.below h.b.size (fun _ hs => Nat.le_trans h.lo (h.d.at_lt hs).1)), h.lo⟩
theorem TD.next {W w : World} {B p c : Nat} {s : Sta} {cs : List Chg} (h : TD W w B p c s cs) : TD W w B p (c + 1) s cs := ⟨h.d, ok_mono h.ok (Nat.le_succ c), h.b, h.lo⟩
theorem TD.far {W w : World} {B p c : Nat} {s : Sta} {cs : List Chg} (h : TD W w B p c s cs) {i : Nat} (hi : i < W.heap.size) : ¬ s.at_ p i := fun hs => by have := (h.d.at_lt hs).1; have := h.lo; omega
/-- An act of a row that is small and no Off. -/
theorem TD.act {W w : World} {B p c : Nat} {s : Sta} {cs : List Chg} (h : TD W w B p c s cs) (hc : c ≤ 200) {x : AV} (hx : x.Ok W) (hf : x.few = true) (hk : x.k % 9 ≠ 8) :
    Calls Try.prog 9 #[.pointer (some ⟨p, 0, none⟩), .agg x.arr] w (fun e w' => (∃ z : Int, e = .returned (.int .i64 z)) ∧ ∃ s' cs', TD W w' B p (c + 1) s' cs') := by
  have hf' := hf
  simp only [AV.few, Bool.and_eq_true, decide_eq_true_eq] at hf'
  have hx' := hx.below h.b
  refine (do_in h.d h.ok hc (by omega) x.k hk (t := x.s) (r := x.r) (by omega) x.ch hx.ch x.n hx'.b.row hx'.b.nil hf'.2.2.1 (fun ad ha h0 => h.far (hx.b.row.lt ad ha h0)) hx'.c.row (fun ad ha h0 => h.far (hx.c.row.lt ad ha h0))).mono ?_
  rintro e w' ⟨hz, s', cs', hm, ho⟩
  exact ⟨hz, s', cs', h.mv hm ho⟩
theorem name_file {w : World} {B p room : Nat} {s : Sta} (h : Dz w B p room s) {t : ByteArray} (ht : (s.f1 (litS t)).isSome = true) : ∃ x ∈ s.F, s.f1 (litS t) = some x.ptr := by
  obtain ⟨v, hv⟩ := Option.isSome_iff_exists.1 ht
  obtain ⟨x, hx, rfl⟩ := h.nms _ _ hv
  exact ⟨x, hx, hv⟩
theorem TD.read {W w : World} {B p c : Nat} {s : Sta} {cs : List Chg} (h : TD W w B p c s cs) (hc : c ≤ 200) {t : ByteArray} {x : Fi} (hx : x ∈ s.F) (hf : s.f1 (litS t) = some x.ptr) : Calls Try.prog 15 #[.pointer (some ⟨p, 0, none⟩), .string t] w (ReadP x.bs w) :=
  read_some h.d.blk h.d.room h.d.mp1 (by have := h.ok.good.small t (by rw [hf]; rfl); omega) hf (h.d.fls.blk x hx) ((h.d.fls.own x hx).row (h.d.fls.byte x hx)) (fun ha => (h.d.fls.own x hx).cap.2.2 ha) (by have h1 := tot_mem hx; have h2 := h.ok.tot; omega)
/-- A name changed to another one. -/
theorem TD.ren {W w : World} {B p c : Nat} {s : Sta} {cs : List Chg} (h : TD W w B p c s cs) (hc : c ≤ 200) {t r : ByteArray} {x : Fi} (hx : x ∈ s.F) (hf : s.f1 (litS t) = some x.ptr) (hr : 1 ≤ r.size ∧ r.size ≤ 32) :
    Calls Try.prog 18 #[.pointer (some ⟨p, 0, none⟩), .string t, .string r] w (fun e w' => e = .returned (.int .i64 0) ∧ ∃ s' cs', TD W w' B p (c + 1) s' cs' ∧ s'.F = s.F ∧ s'.f1 (litS r) = some x.ptr ∧ Kept (s.at_ p) w w') := by
  have hs := h.ok.good.small t (by rw [hf]; rfl)
  by_cases e : t = r
  · subst e
    refine (rename_same h.d.blk h.d.room h.d.mp1 (by omega) hf hr).mono ?_
    rintro e w' ⟨rfl, hb⟩
    exact ⟨rfl, s, cs, (h.below hb).next, rfl, hf, .of_below hb⟩
  · refine (rename_some r h.d.blk h.d.room h.d.mp1 h.d.pend h.d.hB (k1_lt h.d h.ok hc) (by omega) hf hr e).mono ?_
    rintro e w' ⟨rfl, hn⟩
    obtain ⟨k', qa, qn, qc, hm⟩ := h.d.note (fun _ => ⟨x, hx, rfl⟩) hn
    exact ⟨rfl, _, _, h.mv hm (ok_chg h.ok hc ⟨hs, hr.2⟩ (fun _ hx => hx) h.ok.n (Nat.le_succ _) h.ok.num (Nat.le_add_right _ _) (fun _ => ⟨hr.2, ⟨x, hx, rfl⟩, fun kl hkl => h.ok.good.once _ _ _ hkl hf⟩)), rfl, chF_hit (by omega), hm.kept⟩
theorem OwnS.cell {w : World} {B n cap : Nat} {a : Option Addr} {L : List ByteArray} (h : OwnS w B a n cap L) {i : Nat} {t : ByteArray} (hi : L[i]? = some t) : ∃ g, a = some ⟨g, 0, none⟩ ∧ w.cell? ⟨g, i, none⟩ = some (.string t) := by
  have hl : L.length = n := by have := h.1; simpa using this
  have hin : i < n := by have := (List.getElem?_eq_some_iff.1 hi).1; omega
  rcases h.2 with ⟨_, h0⟩ | ⟨g, cap', cur, hv, _, hg, _, _, _, h4⟩
  · omega
  · simp only [Value.slice.injEq, true_and] at hv
    refine ⟨g, hv.1, ?_⟩
    have e := congrArg (fun l => l[i]?) h4
    simp only [List.getElem?_map, hi, Option.map_some] at e
    rw [List.getElem?_take_of_lt (by omega)] at e
    simp only [World.cell?, hg, Option.isSome_none, Bool.false_eq_true, if_false]
    rw [← Array.getElem?_toList]
    exact e
theorem OwnS.keep {S : Nat → Prop} {w w' : World} {B n cap : Nat} {a : Option Addr} {L : List ByteArray} (h : OwnS w B a n cap L) (k : Kept S w w') (hn : ∀ ad, a = some ad → ¬ S ad.block) : OwnS w' B a n cap L := by
  refine ⟨h.1, ?_⟩
  rcases h.2 with h0 | ⟨g, cap', cur, hv, hB, hg, rest⟩
  · exact .inl h0
  · refine .inr ⟨g, cap', cur, hv, hB, ?_, rest⟩
    rw [k.block g (Array.getElem?_eq_some_iff.1 hg).1 (hn ⟨g, 0, none⟩ (by injection hv))]
    exact hg
theorem OwnS.below {w w' : World} {B n cap : Nat} {a : Option Addr} {L : List ByteArray} (h : OwnS w B a n cap L) (hb : Below w.heap.size w w') : OwnS w' B a n cap L := h.keep (S := fun _ => False) (.of_below hb) (fun _ _ h => h)
theorem usd_take {f : Lit → Option Value} {F : List Fi} {L : List ByteArray} {i : Nat} {t : ByteArray} (h : L[i]? = some t) : usd f F (L.take (i + 1)) = usd f F (L.take i) + (fil F (f (litS t))).bs.length := by
  rw [List.take_add_one, h, Option.toList_some, usd_snoc]
end Go.Proofs.Ytjpmjidpdgikgaa
