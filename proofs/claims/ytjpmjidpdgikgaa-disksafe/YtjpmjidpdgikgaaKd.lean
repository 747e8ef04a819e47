/- How a disk's state goes on: a file changed, names changed, a crash's files; what is kept of a row of acts. -/
import Derived.Test.YtjpmjidpdgikgaaKc
namespace Go.Proofs.Ytjpmjidpdgikgaa
open Go.RowKit Go.Maps

theorem Blk.ne_type {w : World} {g g' t t' : Nat} {cs cs' : Array Value} (h : Blk w g t cs) (h' : Blk w g' t' cs') (ht : t ≠ t') : g ≠ g' := by
  rintro rfl
  unfold Blk at h h'
  rw [h] at h'
  simp only [Option.some.injEq, Obj.cells.injEq] at h'
  exact ht h'.2.1
/-- One file changed. -/
theorem Dz.up {w w' : World} {B p room : Nat} {s : Sta} (h : Dz w B p room s) {x x' : Fi} (hx : x ∈ s.F) (e : x'.g = x.g) (hb : Blk w' x'.g 57 x'.cells) (ho : Own w' B x'.a x'.bs.length x'.cap x'.bs) (hd : x'.dur ≤ x'.bs.length) (hc : ∀ c ∈ x'.bs, c < 256)
    (k : Kept (fun i => i = x.g ∨ At x.a i) w w') (hl : Lies w x.a x'.a) : Mv w B p room s w' { s with F := upF s.F x' } := by
  have nB : ∀ {g t cs}, Blk w g t cs → t ≠ 57 → t ≠ 5 → ¬ (g = x.g ∨ At x.a g) := fun hg h1 h2 hh => by
    rcases hh with rfl | hh
    · exact hg.ne_type (h.fls.blk x hx) h1 rfl
    · exact own_notBlk (h.fls.own x hx) hg (Ne.symm h2) hh
  have nM : ∀ {m k f}, MpF w 9 m k f → ¬ (m = x.g ∨ At x.a m) := fun hm hh => by
    rcases hh with rfl | hh
    · exact hm.ne (h.fls.blk x hx) rfl
    · exact own_notMap (h.fls.own x hx) hm hh
  have nP : ∀ i, At s.pa i → ¬ (i = x.g ∨ At x.a i) := fun i hi hh => by
    rcases hh with rfl | hh
    · exact ownG_notBlk h.pend (h.fls.blk x hx) (by decide) hi
    · exact own_notOwnG (h.fls.own x hx) h.pend (by decide) hh hi
  refine ⟨⟨h.blk.kept k (nB h.blk (by decide) (by decide)), h.room, h.mp1.kept k (nM h.mp1), h.mp2.kept k (nM h.mp2), h.ne, h.pend.keep k (fun ad ha => nP _ ⟨ad, ha, rfl⟩), h.fls.up hx e hb ho hd hc k hl, ?_, h.low⟩, k.mono fun i hi => .inr (.inr (.inr (.inr ⟨x, hx, hi⟩))), ?_⟩
  · intro kl v hv
    obtain ⟨y, hy, rfl⟩ := h.nms kl v hv
    by_cases hg : y.g = x'.g
    · exact ⟨x', upF_mem hy hg, by unfold Fi.ptr; rw [hg]⟩
    · exact ⟨y, upF_other hy hg, rfl⟩
  · rintro i (hi | hi | hi | hi | ⟨y, hy, hi⟩)
    · exact .inl (.inl hi)
    · exact .inl (.inr (.inl hi))
    · exact .inl (.inr (.inr (.inl hi)))
    · exact .inl (.inr (.inr (.inr (.inl hi))))
    · rcases mem_upF hy with ⟨rfl, _⟩ | ⟨hy, _⟩
      · rcases hi with hi | ⟨ad, ha, rfl⟩
        · exact .inl (.inr (.inr (.inr (.inr ⟨x, hx, .inl (hi.trans e)⟩))))
        · rcases hl ad ha with ⟨ad0, h0, e0⟩ | hn
          · exact .inl (.inr (.inr (.inr (.inr ⟨x, hx, .inr ⟨ad0, h0, e0⟩⟩))))
          · exact .inr hn
      · exact .inl (.inr (.inr (.inr (.inr ⟨y, hy, hi⟩))))
/-- The durable names changed. -/
theorem Dz.upM2 {w w' : World} {B p room : Nat} {s : Sta} (h : Dz w B p room s) {k' : Nat} {f' : Lit → Option Value} (hm : MpF w' 9 s.m2 k' f') (k : Kept (fun i => i = s.m2) w w') : Mv w B p room s w' { s with k2 := k', f2 := f' } := by
  refine ⟨⟨h.blk.kept k (fun e => h.mp2.ne h.blk e.symm), h.room, h.mp1.kept k h.ne, hm, h.ne, h.pend.keep k (fun ad ha e => ownG_notMap h.pend h.mp2 ⟨ad, ha, e.symm⟩), h.fls.keep k ?_, h.nms, h.low⟩, k.mono fun i hi => .inr (.inr (.inl hi)), fun i hi => .inl hi⟩
  rintro i ⟨x, hx, rfl | hi⟩ e
  · exact h.mp2.ne (h.fls.blk x hx) e.symm
  · exact own_notMap (h.fls.own x hx) h.mp2 (e ▸ hi)
/-- The disk's block set to what it was. -/
theorem Dz.upP {w w' : World} {B p room : Nat} {s : Sta} (h : Dz w B p room s) (hb : Dk w' p room s.n (some s.m1) (some s.m2) s.pa s.pn s.pc) (k : Kept (fun i => i = p) w w') : Mv w B p room s w' s := by
  refine ⟨⟨hb, h.room, h.mp1.kept k (h.mp1.ne h.blk), h.mp2.kept k (h.mp2.ne h.blk), h.ne, h.pend.keep k (fun ad ha e => ownG_notBlk h.pend h.blk (by decide) ⟨ad, ha, e.symm⟩), h.fls.keep k ?_, h.nms, h.low⟩, k.mono fun i hi => .inl hi, fun i hi => .inl hi⟩
  rintro i ⟨x, hx, rfl | hi⟩ e
  · exact (h.fls.blk x hx).ne_type h.blk (by decide) e
  · exact own_notBlk (h.fls.own x hx) h.blk (by decide) (e ▸ hi)
/-- What turns beside a disk. -/
theorem Mv.aside {S : Nat → Prop} {w w1 w2 : World} {B p room : Nat} {s s1 : Sta} (h : Mv w B p room s w1 s1) (k : Kept S w1 w2) (hn : ∀ i, s1.at_ p i → ¬ S i) (hw : ∀ i, S i → w.heap.size ≤ i) : Mv w B p room s w2 s1 :=
  ⟨h.now.keep k hn, h.kept.trans k (fun i hi => .inr (hw i hi)), h.new⟩
theorem Mv.belowR {w w1 w2 : World} {B p room : Nat} {s s1 : Sta} (h : Mv w B p room s w1 s1) (hb : Below w1.heap.size w1 w2) : Mv w B p room s w2 s1 :=
  ⟨h.now.below hb, h.kept.trans (.of_below (S := fun _ => False) hb) (fun _ hi => hi.elim), h.new⟩
theorem Mv.belowL {w w1 w2 : World} {B p room : Nat} {s s2 : Sta} (hb : Below w.heap.size w w1) (k : Mv w1 B p room s w2 s2) : Mv w B p room s w2 s2 :=
  ⟨k.now, (Kept.of_below hb).trans k.kept (fun _ hi => .inl hi), fun i hi => (k.new i hi).imp id (Nat.le_trans hb.size)⟩

/-- A change of names that is pending. -/
structure Chg where
  gone : ByteArray
  set : ByteArray
  v : Option Addr
def Chg.cells (c : Chg) : List Value := [.string c.gone, .string c.set, .pointer c.v]
/-- Names behind changes. -/
noncomputable def iterF (f : Lit → Option Value) (cs : List Chg) : Lit → Option Value := cs.foldl (fun f c => chF f c.gone c.set (.pointer c.v)) f
theorem iterF_snoc (f : Lit → Option Value) (cs : List Chg) (c : Chg) : iterF f (cs ++ [c]) = chF (iterF f cs) c.gone c.set (.pointer c.v) := by simp [iterF, List.foldl_append]
theorem iterF_nil (f : Lit → Option Value) : iterF f [] = f := rfl
theorem iterF_take (f : Lit → Option Value) {cs : List Chg} {i : Nat} {c : Chg} (h : cs[i]? = some c) : iterF f (cs.take (i + 1)) = chF (iterF f (cs.take i)) c.gone c.set (.pointer c.v) := by
  rw [List.take_add_one, h, Option.toList_some, iterF_snoc]

open Classical in
/-- Files behind a crash, where those of the names of V are reached. -/
noncomputable def crV (f : Lit → Option Value) (V : List ByteArray) (cuts : List Nat) (F : List Fi) : List Fi := F.map fun y => if ∃ s ∈ V, f (litS s) = some y.ptr then y.cr cuts else y
theorem crV_nil (f : Lit → Option Value) (cuts : List Nat) (F : List Fi) : crV f [] cuts F = F := by
  unfold crV
  rw [List.map_congr_left (g := id) (fun y _ => by rw [if_neg (by simp)]; rfl), List.map_id]
open Classical in
theorem crV_mem {f : Lit → Option Value} {V : List ByteArray} {cuts : List Nat} {F : List Fi} {z : Fi} (hz : z ∈ F) : (if ∃ s ∈ V, f (litS s) = some z.ptr then z.cr cuts else z) ∈ crV f V cuts F := List.mem_map.2 ⟨z, hz, rfl⟩
open Classical in
theorem crV_step {f : Lit → Option Value} {V : List ByteArray} {cuts : List Nat} {F : List Fi} (hn : (F.map (·.g)).Nodup) {s : ByteArray} {z : Fi} (hz : z ∈ F) (hs : f (litS s) = some z.ptr) :
    upF (crV f V cuts F) (z.cr cuts) = crV f (V ++ [s]) cuts F := by
  unfold upF crV
  rw [List.map_map]
  refine List.map_congr_left fun y hy => ?_
  have hg : (if ∃ s ∈ V, f (litS s) = some y.ptr then y.cr cuts else y).g = y.g := by split <;> rfl
  simp only [Function.comp]
  by_cases e : y.g = z.g
  · obtain rfl := nodup_uniq hn hy hz e
    rw [if_pos (show (if ∃ s ∈ V, f (litS s) = some y.ptr then y.cr cuts else y).g = (y.cr cuts).g from hg), if_pos ⟨s, by simp, hs⟩]
  · rw [if_neg (show ¬ ((if ∃ s ∈ V, f (litS s) = some y.ptr then y.cr cuts else y).g = (z.cr cuts).g) from fun h => e (hg.symm.trans h))]
    have hiff : (∃ t ∈ V ++ [s], f (litS t) = some y.ptr) ↔ ∃ t ∈ V, f (litS t) = some y.ptr := by
      constructor
      · rintro ⟨t, ht, h⟩
        rcases List.mem_append.1 ht with ht | ht
        · exact ⟨t, ht, h⟩
        · rw [List.mem_singleton.1 ht, hs] at h
          exact (e (Fi.ptr_g (Option.some.inj h)).symm).elim
      · rintro ⟨t, ht, h⟩
        exact ⟨t, List.mem_append_left _ ht, h⟩
    by_cases hh : ∃ t ∈ V, f (litS t) = some y.ptr
    · rw [if_pos hh, if_pos (hiff.2 hh)]
    · rw [if_neg hh, if_neg (fun h => hh (hiff.1 h))]
open Classical in
/-- Files behind a crash: those that have a name. -/
noncomputable def crF (f : Lit → Option Value) (cuts : List Nat) (F : List Fi) : List Fi := F.map fun y => if ∃ s, f (litS s) = some y.ptr then y.cr cuts else y
theorem crV_all {f : Lit → Option Value} {V : List ByteArray} (h : NameL f V) (cuts : List Nat) (F : List Fi) : crV f V cuts F = crF f cuts F := by
  unfold crV crF
  refine List.map_congr_left fun y _ => ?_
  have hiff : (∃ t ∈ V, f (litS t) = some y.ptr) ↔ ∃ t, f (litS t) = some y.ptr := ⟨fun ⟨t, _, h⟩ => ⟨t, h⟩, fun ⟨t, ht⟩ => ⟨t, (h.2 t).2 (by rw [ht]; rfl), ht⟩⟩
  by_cases hh : ∃ t ∈ V, f (litS t) = some y.ptr
  · rw [if_pos hh, if_pos (hiff.1 hh)]
  · rw [if_neg hh, if_neg (fun h => hh (hiff.2 h))]

/-- The names of a map, and how many. -/
theorem mpF_names {w : World} {m k : Nat} {f : Lit → Option Value} (h : MpF w 9 m k f) : ∃ L, NameL f L ∧ L.length = k := by
  obtain ⟨D, hD⟩ := h
  obtain ⟨es, rfl, hpw, _⟩ := hD.own.entries law9
  obtain ⟨es', e', hko⟩ := hD.own.keysOf
  obtain rfl : es = es' := by simpa using e'
  have hstr : ∀ q ∈ es, ∃ x, q.1 = .string x := fun q hq => by
    obtain ⟨v, hv⟩ := hko q hq
    obtain ⟨x, _, hx, _⟩ := Maps.keyOf_str Try.underlying9 hv
    exact ⟨x, hx⟩
  have hnd : (es.map fun q => Go.strOf q.1).Nodup := List.pairwise_map.2 (hpw.imp_of_mem fun {a b} ha hb hne e => hne (by
    obtain ⟨x, hx⟩ := hstr a ha
    obtain ⟨y, hy⟩ := hstr b hb
    rw [hx, hy] at e ⊢
    exact congrArg _ e))
  have hmem : ∀ x, x ∈ (es.map fun q => Go.strOf q.1) ↔ (f (.string x)).isSome = true := fun x => by
    rw [← hD.has, has_eq, List.any_eq_true, List.mem_map]
    constructor
    · rintro ⟨q, hq, rfl⟩
      obtain ⟨y, hy⟩ := hstr q hq
      exact ⟨q, hq, by rw [hy]; simp [Go.strOf, Lit.sameKey]⟩
    · rintro ⟨q, hq, hs⟩
      obtain ⟨y, hy⟩ := hstr q hq
      rw [hy] at hs
      exact ⟨q, hq, by rw [hy]; simpa [Lit.sameKey, Go.strOf] using hs⟩
  refine ⟨(es.map fun q => Go.strOf q.1).map tBA, ⟨nodup_tBA hnd, fun s => ?_⟩, ?_⟩
  · rw [List.mem_map]
    constructor
    · rintro ⟨l, hl, rfl⟩
      rw [litS_tBA]
      exact (hmem l).1 hl
    · intro hs
      exact ⟨s.data.toList, (hmem _).2 hs, tBA_data s⟩
  · rw [List.length_map, List.length_map]
    exact hD.size
/-- Names that stand for files, one each, and are short. -/
structure Good (f : Lit → Option Value) (F : List Fi) : Prop where
  ins : NamesIn f F
  once : Once f
  small : ∀ s, (f (litS s)).isSome = true → s.size ≤ 32
theorem len_le {α : Type} : ∀ (L : List α) (h : α → Fi) (F : List Fi), L.Nodup → (∀ s ∈ L, h s ∈ F) → (∀ s ∈ L, ∀ t ∈ L, h s = h t → s = t) → L.length ≤ F.length
  | [], _, _, _, _, _ => by simp
  | s :: L, h, F, hn, hm, hi => by
    rw [List.nodup_cons] at hn
    obtain ⟨A, C, hF⟩ := List.append_of_mem (hm s List.mem_cons_self)
    have := len_le L h (A ++ C) hn.2 (fun t ht => by
      have h1 := hm t (List.mem_cons_of_mem _ ht)
      rw [hF] at h1
      rcases List.mem_append.1 h1 with h1 | h1
      · exact List.mem_append_left _ h1
      · rcases List.mem_cons.1 h1 with h1 | h1
        · exact (hn.1 (hi s List.mem_cons_self t (List.mem_cons_of_mem _ ht) h1.symm ▸ ht)).elim
        · exact List.mem_append_right _ h1) (fun a ha b hb => hi a (List.mem_cons_of_mem _ ha) b (List.mem_cons_of_mem _ hb))
    rw [hF]
    simp only [List.length_append, List.length_cons] at this ⊢
    omega
theorem Good.count {w : World} {m k : Nat} {f : Lit → Option Value} {F : List Fi} (h : Good f F) (hd : (F.map (·.g)).Nodup) (hm : MpF w 9 m k f) : k ≤ F.length := by
  obtain ⟨L, hL, rfl⟩ := mpF_names hm
  have key : ∀ s ∈ L, ∃ x ∈ F, f (litS s) = some x.ptr ∧ fil F (f (litS s)) = x := fun s hs' => by
    obtain ⟨v, hv⟩ := Option.isSome_iff_exists.1 ((hL.2 s).1 hs')
    obtain ⟨x, hx, rfl⟩ := h.ins _ _ hv
    exact ⟨x, hx, hv, by rw [hv]; exact fil_of hd hx⟩
  refine len_le L (fun s => fil F (f (litS s))) F hL.1 (fun s hs => ?_) (fun s hs t ht e => ?_)
  · obtain ⟨x, hx, _, e⟩ := key s hs
    show fil F (f (litS s)) ∈ F
    rw [e]; exact hx
  · obtain ⟨x, hx, h1, e1⟩ := key s hs
    obtain ⟨y, hy, h2, e2⟩ := key t ht
    have exy : x = y := by rw [← e1, ← e2]; exact e
    subst exy
    exact litS_inj (h.once _ _ _ h1 h2)

/-- What is kept of a disk behind c acts. -/
structure Ok (s : Sta) (cs : List Chg) (c : Nat) : Prop where
  vs : s.vs = cs.map Chg.cells
  sz : ∀ x ∈ cs, x.gone.size ≤ 32 ∧ x.set.size ≤ 32
  len : cs.length ≤ c
  n : s.n = s.F.length
  cnt : s.F.length ≤ c
  num : ∀ x ∈ s.F, x.num ≤ c
  tot : tot s.F ≤ 1000 * c
  fin : iterF s.f2 cs = s.f1
  pre : ∀ j, j ≤ cs.length → Good (iterF s.f2 (cs.take j)) s.F
theorem Ok.good {s : Sta} {cs : List Chg} {c : Nat} (h : Ok s cs c) : Good s.f1 s.F := by
  have := h.pre cs.length (Nat.le_refl _)
  rwa [List.take_length, h.fin] at this
end Go.Proofs.Ytjpmjidpdgikgaa
