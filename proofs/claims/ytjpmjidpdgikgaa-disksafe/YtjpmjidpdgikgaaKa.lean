/- A disk's state: its files, its names, its pending changes; how it stands in memory and what leaves it as it is. -/
import Derived.Test.YtjpmjidpdgikgaaDj
namespace Go.Proofs.Ytjpmjidpdgikgaa
open Go.RowKit Go.Maps

/-- A file: its block and number, its slice of bytes, how many of these are durable, the bytes. -/
structure Fi where
  g : Nat
  num : Nat
  a : Option Addr
  cap : Nat
  dur : Nat
  bs : List Nat
def Fi.cells (x : Fi) : Array Value := inA x.num x.a x.bs.length x.cap x.dur
def Fi.ptr (x : Fi) : Value := .pointer (some ⟨x.g, 0, none⟩)
theorem Fi.ptr_g {x y : Fi} (h : x.ptr = y.ptr) : x.g = y.g := by
  simp only [Fi.ptr, Value.pointer.injEq, Option.some.injEq, Addr.mk.injEq, and_true] at h
  exact h

theorem own_block {w : World} {B n cap : Nat} {a : Option Addr} {bs : List Nat} (h : Own w B a n cap bs) : ∀ i, At a i → ∃ cs fr, w.heap[i]? = some (.cells cs 5 fr) := by
  rintro i ⟨ad, rfl, rfl⟩
  rcases h.2 with ⟨h0, _⟩ | ⟨g, cap', cur, hv, _, hg, _⟩
  · simp at h0
  · simp only [Value.slice.injEq, Option.some.injEq] at hv
    obtain ⟨rfl, _⟩ := hv
    exact ⟨_, _, hg⟩
theorem own_notBlk {w : World} {B n cap g t : Nat} {a : Option Addr} {bs : List Nat} {cs : Array Value} (h : Own w B a n cap bs) (hb : Blk w g t cs) (ht : 5 ≠ t) : ¬ At a g := fun ha => by
  obtain ⟨_, _, he⟩ := own_block h g ha
  unfold Blk at hb
  rw [hb] at he
  simp only [Option.some.injEq, Obj.cells.injEq] at he
  exact ht he.2.1.symm
theorem own_notMap {w : World} {B n cap m k kt : Nat} {a : Option Addr} {bs : List Nat} {f : Lit → Option Value} (h : Own w B a n cap bs) (hm : MpF w kt m k f) : ¬ At a m := fun ha => by
  obtain ⟨_, _, he⟩ := own_block h m ha
  obtain ⟨D, ⟨⟨es, clock, hb, _⟩, _⟩⟩ := hm
  rw [hb] at he
  cases he
theorem own_notOwnG {w : World} {B n cap B' e size n' cap' i : Nat} {a a' : Option Addr} {bs : List Nat} {vs : List (List Value)} (h : Own w B a n cap bs) (h' : OwnG w e size B' a' n' cap' vs) (ht : 5 ≠ e) (ha : At a i) : ¬ At a' i := fun ha' => by
  obtain ⟨_, _, he⟩ := own_block h i ha
  obtain ⟨_, _, he'⟩ := ownG_block h' i ha'
  rw [he] at he'
  simp only [Option.some.injEq, Obj.cells.injEq] at he'
  exact ht he'.2.1

/-- Files stand in memory, apart from each other. -/
structure Fls (w : World) (B : Nat) (F : List Fi) : Prop where
  blk : ∀ x ∈ F, Blk w x.g 57 x.cells
  own : ∀ x ∈ F, Own w B x.a x.bs.length x.cap x.bs
  dur : ∀ x ∈ F, x.dur ≤ x.bs.length
  low : ∀ x ∈ F, B ≤ x.g
  byte : ∀ x ∈ F, ∀ c ∈ x.bs, c < 256
  nodup : (F.map (·.g)).Nodup
  sep : ∀ x ∈ F, ∀ y ∈ F, ∀ i, At x.a i → At y.a i → x = y

theorem nodup_uniq : ∀ {F : List Fi}, (F.map (·.g)).Nodup → ∀ {x y : Fi}, x ∈ F → y ∈ F → x.g = y.g → x = y
  | [], _, _, _, h, _, _ => by cases h
  | z :: F, hn, x, y, hx, hy, e => by
    rw [List.map_cons, List.nodup_cons] at hn
    rcases List.mem_cons.1 hx with rfl | hx1 <;> rcases List.mem_cons.1 hy with rfl | hy1
    · rfl
    · exact (hn.1 (e ▸ List.mem_map_of_mem (f := (·.g)) hy1)).elim
    · exact (hn.1 (e ▸ List.mem_map_of_mem (f := (·.g)) hx1)).elim
    · exact nodup_uniq hn.2 hx1 hy1 e
theorem Fls.uniq {w : World} {B : Nat} {F : List Fi} (h : Fls w B F) {x y : Fi} (hx : x ∈ F) (hy : y ∈ F) (e : x.g = y.g) : x = y := nodup_uniq h.nodup hx hy e

/-- The blocks of files. -/
def FAt (F : List Fi) (i : Nat) : Prop := ∃ x ∈ F, i = x.g ∨ At x.a i
theorem Fls.keep {S : Nat → Prop} {w w' : World} {B : Nat} {F : List Fi} (h : Fls w B F) (k : Kept S w w') (hn : ∀ i, FAt F i → ¬ S i) : Fls w' B F where
  blk x hx := (h.blk x hx).kept k (hn _ ⟨x, hx, .inl rfl⟩)
  own x hx := (h.own x hx).keep k (fun ad ha => hn _ ⟨x, hx, .inr ⟨ad, ha, rfl⟩⟩)
  dur := h.dur
  low := h.low
  byte := h.byte
  nodup := h.nodup
  sep := h.sep
theorem Fls.at_lt {w : World} {B : Nat} {F : List Fi} (h : Fls w B F) {i : Nat} (hi : FAt F i) : B ≤ i ∧ i < w.heap.size := by
  obtain ⟨x, hx, rfl | ⟨ad, ha, rfl⟩⟩ := hi
  · exact ⟨h.low x hx, (h.blk x hx).lt⟩
  · exact (h.own x hx).lt ad ha

/-- One file in another one's place. -/
def upF (F : List Fi) (x : Fi) : List Fi := F.map fun y => if y.g = x.g then x else y
theorem upF_g (F : List Fi) (x : Fi) : (upF F x).map (·.g) = F.map (·.g) := by
  unfold upF
  rw [List.map_map]
  refine List.map_congr_left fun y _ => ?_
  simp only [Function.comp]
  split
  · rename_i h; exact h.symm
  · rfl
theorem mem_upF {F : List Fi} {x y : Fi} (h : y ∈ upF F x) : (y = x ∧ ∃ z ∈ F, z.g = x.g) ∨ (y ∈ F ∧ y.g ≠ x.g) := by
  obtain ⟨z, hz, e⟩ := List.mem_map.1 h
  by_cases hg : z.g = x.g
  · rw [if_pos hg] at e
    exact .inl ⟨e.symm, z, hz, hg⟩
  · rw [if_neg hg] at e
    subst e
    exact .inr ⟨hz, hg⟩
theorem upF_mem {F : List Fi} {x z : Fi} (hz : z ∈ F) (e : z.g = x.g) : x ∈ upF F x := List.mem_map.2 ⟨z, hz, by rw [if_pos e]⟩
theorem upF_other {F : List Fi} {x z : Fi} (hz : z ∈ F) (e : z.g ≠ x.g) : z ∈ upF F x := List.mem_map.2 ⟨z, hz, by rw [if_neg e]⟩
theorem upF_len (F : List Fi) (x : Fi) : (upF F x).length = F.length := by unfold upF; simp

/-- What changes one file leaves the files with that one changed. -/
theorem Fls.up {w w' : World} {B : Nat} {F : List Fi} (h : Fls w B F) {x x' : Fi} (hx : x ∈ F) (e : x'.g = x.g) (hb : Blk w' x'.g 57 x'.cells) (ho : Own w' B x'.a x'.bs.length x'.cap x'.bs) (hd : x'.dur ≤ x'.bs.length) (hc : ∀ c ∈ x'.bs, c < 256)
    (k : Kept (fun i => i = x.g ∨ At x.a i) w w') (hl : Lies w x.a x'.a) : Fls w' B (upF F x') := by
  have keepB : ∀ y ∈ F, y.g ≠ x'.g → Blk w' y.g 57 y.cells := fun y hy hne => (h.blk y hy).kept k (fun hi => by
    rcases hi with hi | hi
    · exact hne (hi.trans e.symm)
    · exact own_notBlk (h.own x hx) (h.blk y hy) (by decide) hi)
  have keepO : ∀ y ∈ F, y.g ≠ x'.g → Own w' B y.a y.bs.length y.cap y.bs := fun y hy hne => (h.own y hy).keep k (fun ad ha hi => by
    rcases hi with hi | hi
    · exact own_notBlk (h.own y hy) (h.blk x hx) (by decide) ⟨ad, ha, hi.symm⟩
    · exact hne ((h.sep y hy x hx _ ⟨ad, ha, rfl⟩ hi) ▸ e.symm))
  have cross : ∀ y ∈ F, y.g ≠ x'.g → ∀ i, At x'.a i → ¬ At y.a i := by
    rintro y hy hne i ⟨ad, ha, rfl⟩ hi
    rcases hl ad ha with ⟨ad0, h0, e0⟩ | hnew
    · exact hne ((h.sep y hy x hx _ hi ⟨ad0, h0, e0⟩) ▸ e.symm)
    · obtain ⟨ad1, h1, e1⟩ := hi
      have := ((h.own y hy).lt ad1 h1).2
      omega
  refine ⟨?_, ?_, ?_, ?_, ?_, by rw [upF_g]; exact h.nodup, ?_⟩
  · intro y hy
    rcases mem_upF hy with ⟨rfl, _⟩ | ⟨hy, hne⟩
    · exact hb
    · exact keepB y hy hne
  · intro y hy
    rcases mem_upF hy with ⟨rfl, _⟩ | ⟨hy, hne⟩
    · exact ho
    · exact keepO y hy hne
  · intro y hy
    rcases mem_upF hy with ⟨rfl, _⟩ | ⟨hy, hne⟩
    · exact hd
    · exact h.dur y hy
  · intro y hy
    rcases mem_upF hy with ⟨rfl, _⟩ | ⟨hy, hne⟩
    · rw [e]; exact h.low x hx
    · exact h.low y hy
  · intro y hy
    rcases mem_upF hy with ⟨rfl, _⟩ | ⟨hy, hne⟩
    · exact hc
    · exact h.byte y hy
  · intro y hy z hz i hi hj
    rcases mem_upF hy with ⟨ey, _⟩ | ⟨hy1, hne⟩ <;> rcases mem_upF hz with ⟨ez, _⟩ | ⟨hz1, hnz⟩
    · rw [ey, ez]
    · exact (cross z hz1 hnz i (ey ▸ hi) hj).elim
    · exact (cross y hy1 hne i (ez ▸ hj) hi).elim
    · exact h.sep y hy1 z hz1 i hi hj
/-- A new file. -/
theorem Fls.snoc {w : World} {B : Nat} {F : List Fi} (h : Fls w B F) {x : Fi} (hb : Blk w x.g 57 x.cells) (ho : Own w B x.a x.bs.length x.cap x.bs) (hd : x.dur ≤ x.bs.length) (hB : B ≤ x.g) (hc : ∀ c ∈ x.bs, c < 256)
    (hg : ∀ y ∈ F, y.g ≠ x.g) (hs : ∀ y ∈ F, ∀ i, At y.a i → ¬ At x.a i) : Fls w B (F ++ [x]) := by
  have two : ∀ {P : Fi → Prop}, (∀ y ∈ F, P y) → P x → ∀ y ∈ F ++ [x], P y := fun h1 h2 y hy => by
    rcases List.mem_append.1 hy with hy | hy
    · exact h1 y hy
    · rw [List.mem_singleton.1 hy]; exact h2
  refine ⟨two h.blk hb, two h.own ho, two h.dur hd, two h.low hB, two h.byte hc, ?_, ?_⟩
  · rw [List.map_append, List.nodup_append]
    refine ⟨h.nodup, by simp, fun a ha b hb' e => ?_⟩
    obtain ⟨y, hy, rfl⟩ := List.mem_map.1 ha
    simp only [List.map_cons, List.map_nil, List.mem_singleton] at hb'
    exact hg y hy (e.trans hb')
  · intro y hy z hz i hi hj
    rcases List.mem_append.1 hy with hy | hy <;> rcases List.mem_append.1 hz with hz | hz
    · exact h.sep y hy z hz i hi hj
    · rw [List.mem_singleton.1 hz] at hj; exact (hs y hy i hi hj).elim
    · rw [List.mem_singleton.1 hy] at hi; exact (hs z hz i hj hi).elim
    · rw [List.mem_singleton.1 hy, List.mem_singleton.1 hz]

/-- Names stand for files. -/
def NamesIn (f : Lit → Option Value) (F : List Fi) : Prop := ∀ kl v, f kl = some v → ∃ x ∈ F, v = x.ptr

/-- The state of a disk. -/
structure Sta where
  n : Nat
  m1 : Nat
  m2 : Nat
  k1 : Nat
  k2 : Nat
  pa : Option Addr
  pn : Nat
  pc : Nat
  f1 : Lit → Option Value
  f2 : Lit → Option Value
  vs : List (List Value)
  F : List Fi
/-- A disk stands in memory, made from block B on. -/
structure Dz (w : World) (B p room : Nat) (s : Sta) : Prop where
  blk : Dk w p room s.n (some s.m1) (some s.m2) s.pa s.pn s.pc
  room : 0 < room
  mp1 : MpF w 9 s.m1 s.k1 s.f1
  mp2 : MpF w 9 s.m2 s.k2 s.f2
  ne : s.m1 ≠ s.m2
  pend : OwnG w 54 3 B s.pa s.pn s.pc s.vs
  fls : Fls w B s.F
  nms : NamesIn s.f1 s.F
  low : B ≤ p ∧ B ≤ s.m1 ∧ B ≤ s.m2
/-- The blocks of a disk. -/
def Sta.at_ (s : Sta) (p i : Nat) : Prop := i = p ∨ i = s.m1 ∨ i = s.m2 ∨ At s.pa i ∨ FAt s.F i
theorem Dz.at_lt {w : World} {B p room : Nat} {s : Sta} (h : Dz w B p room s) {i : Nat} (hi : s.at_ p i) : B ≤ i ∧ i < w.heap.size := by
  rcases hi with rfl | rfl | rfl | ⟨ad, ha, rfl⟩ | hi
  · exact ⟨h.low.1, h.blk.lt⟩
  · exact ⟨h.low.2.1, h.mp1.lt⟩
  · exact ⟨h.low.2.2, h.mp2.lt⟩
  · exact h.pend.lt ad ha
  · exact h.fls.at_lt hi
theorem Dz.keep {S : Nat → Prop} {w w' : World} {B p room : Nat} {s : Sta} (h : Dz w B p room s) (k : Kept S w w') (hn : ∀ i, s.at_ p i → ¬ S i) : Dz w' B p room s where
  blk := h.blk.kept k (hn _ (.inl rfl))
  room := h.room
  mp1 := h.mp1.kept k (hn _ (.inr (.inl rfl)))
  mp2 := h.mp2.kept k (hn _ (.inr (.inr (.inl rfl))))
  ne := h.ne
  pend := h.pend.keep k (fun ad ha => hn _ (.inr (.inr (.inr (.inl ⟨ad, ha, rfl⟩)))))
  fls := h.fls.keep k (fun _ hi => hn _ (.inr (.inr (.inr (.inr hi)))))
  nms := h.nms
  low := h.low
theorem Dz.below {w w' : World} {B p room : Nat} {s : Sta} (h : Dz w B p room s) (hb : Below w.heap.size w w') : Dz w' B p room s := h.keep (S := fun _ => False) (.of_below hb) (fun _ _ h => h)
theorem Dz.hB {w : World} {B p room : Nat} {s : Sta} (h : Dz w B p room s) : B ≤ w.heap.size := Nat.le_trans h.low.1 (Nat.le_of_lt h.blk.lt)
/-- A disk has moved from one state to another: nothing else has turned. -/
structure Mv (w : World) (B p room : Nat) (s : Sta) (w' : World) (s' : Sta) : Prop where
  now : Dz w' B p room s'
  kept : Kept (s.at_ p) w w'
  new : ∀ i, s'.at_ p i → s.at_ p i ∨ w.heap.size ≤ i
theorem Mv.refl {w : World} {B p room : Nat} {s : Sta} (h : Dz w B p room s) : Mv w B p room s w s := ⟨h, Kept.refl _ _, fun _ hi => .inl hi⟩
theorem Mv.trans {w w1 w2 : World} {B p room : Nat} {s s1 s2 : Sta} (h : Mv w B p room s w1 s1) (k : Mv w1 B p room s1 w2 s2) : Mv w B p room s w2 s2 :=
  ⟨k.now, h.kept.trans k.kept h.new, fun i hi => (k.new i hi).elim (h.new i) (fun hl => .inr (Nat.le_trans h.kept.size hl))⟩
theorem Mv.below {w w' : World} {B p room : Nat} {s : Sta} (h : Dz w B p room s) (hb : Below w.heap.size w w') : Mv w B p room s w' s := ⟨h.below hb, .of_below hb, fun _ hi => .inl hi⟩

/-- The file that a value points to. -/
def fil (F : List Fi) (v : Option Value) : Fi := match v with
  | some (.pointer (some ad)) => (F.find? fun y => y.g == ad.block).getD ⟨0, 0, none, 0, 0, []⟩
  | _ => ⟨0, 0, none, 0, 0, []⟩
theorem fil_of {F : List Fi} (hn : (F.map (·.g)).Nodup) {x : Fi} (hx : x ∈ F) : fil F (some x.ptr) = x := by
  show (F.find? fun y => y.g == x.g).getD ⟨0, 0, none, 0, 0, []⟩ = x
  cases h : F.find? fun y => y.g == x.g with
  | none =>
    have := List.find?_eq_none.1 h x hx
    simp at this
  | some y =>
    have h1 := List.find?_some h
    have h2 := List.mem_of_find?_eq_some h
    exact nodup_uniq hn h2 hx (by simpa using h1)
/-- The bytes of all files. -/
def tot (F : List Fi) : Nat := (F.map fun x => x.bs.length).sum
theorem tot_append (A C : List Fi) : tot (A ++ C) = tot A + tot C := by simp [tot]
theorem tot_cons (x : Fi) (C : List Fi) : tot (x :: C) = x.bs.length + tot C := by simp [tot]
theorem tot_mem {F : List Fi} {x : Fi} (h : x ∈ F) : x.bs.length ≤ tot F := by
  obtain ⟨A, C, rfl⟩ := List.append_of_mem h
  rw [tot_append, tot_cons]; omega
theorem sum_le {α : Type} : ∀ (L : List α) (h : α → Fi) (F : List Fi), L.Nodup → (∀ s ∈ L, h s ∈ F) → (∀ s ∈ L, ∀ t ∈ L, h s = h t → s = t) → (L.map fun s => (h s).bs.length).sum ≤ tot F
  | [], _, _, _, _, _ => by simp
  | s :: L, h, F, hn, hm, hi => by
    rw [List.nodup_cons] at hn
    obtain ⟨A, C, hF⟩ := List.append_of_mem (hm s List.mem_cons_self)
    have := sum_le L h (A ++ C) hn.2 (fun t ht => by
      have h1 := hm t (List.mem_cons_of_mem _ ht)
      rw [hF] at h1
      rcases List.mem_append.1 h1 with h1 | h1
      · exact List.mem_append_left _ h1
      · rcases List.mem_cons.1 h1 with h1 | h1
        · exact (hn.1 (hi s List.mem_cons_self t (List.mem_cons_of_mem _ ht) h1.symm ▸ ht)).elim
        · exact List.mem_append_right _ h1) (fun a ha b hb => hi a (List.mem_cons_of_mem _ ha) b (List.mem_cons_of_mem _ hb))
    rw [hF, tot_append, tot_cons, List.map_cons, List.sum_cons]
    rw [tot_append] at this
    omega
/-- A list of all names, each once. -/
def NameL (f : Lit → Option Value) (L : List ByteArray) : Prop := L.Nodup ∧ ∀ s, s ∈ L ↔ (f (litS s)).isSome = true
theorem NameL.perm {f : Lit → Option Value} {L L' : List ByteArray} (h : NameL f L) (h' : NameL f L') : L.Perm L' := (List.perm_ext_iff_of_nodup h.1 h'.1).2 fun s => (h.2 s).trans (h'.2 s).symm
/-- The bytes of all names' files. -/
def usd (f : Lit → Option Value) (F : List Fi) (L : List ByteArray) : Nat := (L.map fun s => (fil F (f (litS s))).bs.length).sum
theorem usd_perm {f : Lit → Option Value} {F : List Fi} {L L' : List ByteArray} (h : L.Perm L') : usd f F L = usd f F L' := (h.map _).sum_nat
/-- No two names for one file. -/
def Once (f : Lit → Option Value) : Prop := ∀ k k' v, f k = some v → f k' = some v → k = k'
theorem usd_le {f : Lit → Option Value} {F : List Fi} {L : List ByteArray} (hL : NameL f L) (hn : NamesIn f F) (ho : Once f) (hd : (F.map (·.g)).Nodup) : usd f F L ≤ tot F := by
  have key : ∀ s ∈ L, ∃ x ∈ F, f (litS s) = some x.ptr ∧ fil F (f (litS s)) = x := fun s hs => by
    obtain ⟨v, hv⟩ := Option.isSome_iff_exists.1 ((hL.2 s).1 hs)
    obtain ⟨x, hx, rfl⟩ := hn _ _ hv
    exact ⟨x, hx, hv, by rw [hv]; exact fil_of hd hx⟩
  refine sum_le L (fun s => fil F (f (litS s))) F hL.1 (fun s hs => ?_) (fun s hs t ht e => ?_)
  · obtain ⟨x, hx, _, e⟩ := key s hs
    show fil F (f (litS s)) ∈ F
    rw [e]; exact hx
  · obtain ⟨x, hx, h1, e1⟩ := key s hs
    obtain ⟨y, hy, h2, e2⟩ := key t ht
    have exy : x = y := by rw [← e1, ← e2]; exact e
    subst exy
    exact litS_inj (ho _ _ _ h1 h2)
end Go.Proofs.Ytjpmjidpdgikgaa
