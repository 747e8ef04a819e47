/- Walks of the reader: Read, Num, Int, Bytes and Done. -/
import Derived.Test.YtcgbkfnjohbglaaDoorAll
namespace Go.Proofs.YtcgbkfnjohbglaaDoor
open Go.RowKit

/-- Where a slice's rest lies. -/
def cutA (a : Option Addr) (cap k : Nat) : Option Addr := if cap = k then a else a.map (·.add k)

theorem slice_l (kl : IntKind) (a : Option Addr) (len cap k : Nat) (W : World) (hk : k ≤ len) :
    (Instr.slice 48 (.slice a len cap) (some (.int kl (k : Int))) none none).run Tryd.prog W = .ok (.slice (cutA a cap k) (len - k) (cap - k)) W := by
  have he : Tryd.prog.elem 48 = 5 := by kernel_rfl
  have ht : Tryd.prog.underlying 48 = some (.slice (Tryd.prog.elem 48)) := by rw [he]; exact Tryd.underlying48
  have hz : (Go.sizeOf 5).run Tryd.prog W = .ok 1 W := by
    obtain ⟨i0, hii, _, hz1, _⟩ := info_parts info5
    simp [Go.sizeOf, typeInfo, hii, hz1]
  rw [run_slice_l (P := Tryd.prog) W 48 a len cap ht kl (k : Int) (by omega) (by omega), he, hz]
  simp [Result.andThen, sliced, cutA]

theorem slice_h (kl : IntKind) (a : Option Addr) (len cap k : Nat) (W : World) (hk : k ≤ cap) :
    (Instr.slice 48 (.slice a len cap) none (some (.int kl (k : Int))) none).run Tryd.prog W = .ok (.slice a k cap) W := by
  have he : Tryd.prog.elem 48 = 5 := by kernel_rfl
  have ht : Tryd.prog.underlying 48 = some (.slice (Tryd.prog.elem 48)) := by rw [he]; exact Tryd.underlying48
  have hz : (Go.sizeOf 5).run Tryd.prog W = .ok 1 W := by
    obtain ⟨i0, hii, _, hz1, _⟩ := info_parts info5
    simp [Go.sizeOf, typeInfo, hii, hz1]
  rw [run_slice_h (P := Tryd.prog) W 48 a len cap ht kl (k : Int) (by omega) (by omega), he, hz]
  cases a <;> simp [Result.andThen, sliced, Addr.add]

theorem cut_row {w : World} {a : Option Addr} {len cap k : Nat} {l : List Nat} (h : Row w a len l) (hk : k ≤ len) (hc : len ≤ cap) : Row w (cutA a cap k) (len - k) (l.drop k) := by
  refine ⟨by rw [List.length_drop, h.size], fun c hc => h.small c (List.mem_of_mem_drop hc), ?_⟩
  by_cases hkl : k = len
  · exact .inl (by omega)
  · obtain ⟨b, off, ha, hcs⟩ := h.cells.resolve_left (by omega)
    subst ha
    refine .inr ⟨b, off + k, ?_, fun i hi => ?_⟩
    · unfold cutA
      rw [if_neg (by omega)]
      by_cases h0 : k = 0
      · simp [Addr.add, h0]
      · simp [Addr.add, h0]
    · have hi1 : k + i < l.length := by rw [h.size]; omega
      have hi2 : i < (l.drop k).length := by rw [List.length_drop]; omega
      rw [Nat.add_assoc, hcs (k + i) (by omega), getD_at hi1, getD_at hi2, List.getElem_drop]

theorem block_add (a : Addr) (n : Nat) : (a.add n).block = a.block := by unfold Addr.add; split <;> rfl

theorem cut_some {a : Option Addr} {cap k : Nat} {ad : Addr} (h : cutA a cap k = some ad) : ∃ ad0, a = some ad0 ∧ ad.block = ad0.block := by
  unfold cutA at h
  by_cases hc : cap = k
  · rw [if_pos hc] at h
    exact ⟨ad, h, rfl⟩
  · rw [if_neg hc] at h
    cases a with
    | none => simp at h
    | some ad0 =>
      simp only [Option.map_some, Option.some.injEq] at h
      exact ⟨ad0, rfl, by rw [← h, block_add]⟩

theorem cut_none {a : Option Addr} {cap k : Nat} (h : cutA a cap k = none) : a = none := by
  unfold cutA at h
  by_cases hc : cap = k
  · rw [if_pos hc] at h; exact h
  · rw [if_neg hc] at h
    cases a with
    | none => rfl
    | some ad0 => simp at h

/-- A reader at block p: its error, its slice, its bytes that remain. -/
structure Rd (w : World) (p er : Nat) (a : Option Addr) (len cap : Nat) (bs : List Nat) : Prop where
  block : Blk w p 115 #[.bool true, .int .i64 (er : Int), .slice a len cap]
  row : Row w a len bs
  le : len ≤ cap
  nil : a = none → len = 0 ∧ cap = 0
  apart : ∀ ad, a = some ad → len ≠ 0 → ad.block < p
  room : len ≤ 1000000

theorem Rd.keep {S : Nat → Prop} {w w' : World} {p er : Nat} {a : Option Addr} {len cap : Nat} {bs : List Nat} (h : Rd w p er a len cap bs) (k : Kept S w w') (hp : ¬ S p) (hn : ∀ ad, a = some ad → len ≠ 0 → ¬ S ad.block) : Rd w' p er a len cap bs :=
  ⟨h.block.kept k hp, h.row.keep k hn, h.le, h.nil, h.apart, h.room⟩

theorem Rd.below {w w' : World} {p er : Nat} {a : Option Addr} {len cap : Nat} {bs : List Nat} (h : Rd w p er a len cap bs) (hb : Below w.heap.size w w') : Rd w' p er a len cap bs :=
  h.keep (S := fun _ => False) (.of_below hb) (fun h => h) (fun _ _ _ h => h)

theorem rstate_core (p er : Nat) (w : World) (h0 : w.cell? ⟨p, 0, none⟩ = some (.bool true)) (h1 : w.cell? ⟨p, 1, none⟩ = some (.int .i64 (er : Int))) :
    Calls Tryd.prog 62 #[.pointer (some ⟨p, 0, none⟩)] w fun e w' => e = .returned (.int .i64 (er : Int)) ∧ w = w' := by
  have H0 := Lib.hid (held_core p er w h0 h1)
  clear h0 h1
  go_enter Tryd.func62, Tryd.ntmps62
  go_wp2_with fail
  refine H0.out.mono ?_
  rintro e w' ⟨rfl, rfl⟩
  go_wp2_with fail
  go_ret
  exact ⟨rfl, rfl⟩

theorem rstate_zero (p : Nat) (w : World) (h0 : w.cell? ⟨p, 0, none⟩ = some (.bool false)) :
    Calls Tryd.prog 62 #[.pointer (some ⟨p, 0, none⟩)] w fun e w' => e = .returned (.int .i64 1) ∧ w = w' := by
  have H0 := Lib.hid (held_zero p w h0)
  clear h0
  go_enter Tryd.func62, Tryd.ntmps62
  go_wp2_with fail
  refine H0.out.mono ?_
  rintro e w' ⟨rfl, rfl⟩
  go_wp2_with fail
  go_ret
  exact ⟨rfl, rfl⟩

theorem rstate_nil (w : World) :
    Calls Tryd.prog 62 #[.pointer none] w fun e w' => e = .returned (.int .i64 1) ∧ w = w' := by
  go_enter Tryd.func62, Tryd.ntmps62
  go_wp2_with fail
  go_ret
  exact ⟨rfl, rfl⟩

/-- A new reader. -/
def Readly (bs : List Nat) (w : World) (e : Ending) (w' : World) : Prop :=
  ∃ p a cap, e = .returned (.pointer (some ⟨p, 0, none⟩)) ∧ w.heap.size ≤ p ∧ Rd w' p 0 a bs.length cap bs ∧ Below w.heap.size w w' ∧ (∀ ad, a = some ad → w.heap.size ≤ ad.block)

set_option maxHeartbeats 400000 in
theorem read_any (a : Option Addr) (len cap : Nat) (bs : List Nat) (w : World) (hl : len ≤ 1000000) (hR : Row w a len bs) (hz : a = none → len = 0 ∧ cap = 0) : Calls Tryd.prog 45 #[.slice a len cap] w (Readly bs w) := by
  have HC := Lib.hid (clone_any a len cap bs w hl hR hz)
  have HS := Lib.hid hR.size
  have HX := Lib.hid hR.small
  clear hR hz
  go_enter Tryd.func45, Tryd.ntmps45
  go_wp2_with fail
  refine HC.out.mono ?_
  rintro e w1 ⟨a', cap', rfl, ho, hb⟩
  have HO := Lib.hid ho
  have HB := Lib.hid hb
  clear ho hb
  go_wp2_with fail
  go_ret
  have hal : Below w1.heap.size w1 (w1.alloc (.cells #[.bool true, .int .i64 0, .slice a' bs.length cap'] 115)) := (Below.refl _ _).alloc (Nat.le_refl _) _
  refine ⟨w1.heap.size, a', cap', rfl, HB.out.size, ⟨Blk.new _ _ _, (HO.out.row HX.out).below hal, HO.out.cap.1, HO.out.cap.2.2, fun ad ha _ => (HO.out.lt ad ha).2, by rw [HS.out]; exact hl⟩, HB.out.trans (hal.mono HB.out.size), fun ad ha => (HO.out.lt ad ha).1⟩

/-- What Num answers and leaves, by the bytes that remain. -/
def numX (er : Nat) (bs : List Nat) : Nat := if er = 0 then (Vint.G 0 0 bs).1 else 0
def numE (er : Nat) (bs : List Nat) : Nat := if er = 0 then (Vint.G 0 0 bs).2.2 else er
def numB (er : Nat) (bs : List Nat) : List Nat := if er = 0 then bs.drop (Vint.G 0 0 bs).2.1 else bs

theorem G_facts : ∀ (l : List Nat) (i acc : Nat), (∀ c ∈ l, c < 256) → i ≤ 9 → acc < 128 ^ i → ((Vint.G i acc l).2.2 ≠ 0 → (Vint.G i acc l).1 = 0 ∧ (Vint.G i acc l).2.1 = 0) ∧ ((Vint.G i acc l).2.2 = 0 → i < (Vint.G i acc l).2.1 ∧ (Vint.G i acc l).2.1 ≤ i + l.length) ∧ (Vint.G i acc l).1 < 18446744073709551616
  | [], i, acc, _, _, _ => by simp [Vint.G_nil]
  | c :: t, i, acc, hs, hi, ha => by
    have hc := hs c List.mem_cons_self
    by_cases h9 : i = 9
    · subst h9
      rw [Vint.pow_nine] at ha
      by_cases h1 : c = 1
      · rw [Vint.G_nine, if_pos h1]; simp; omega
      · rw [Vint.G_nine, if_neg h1]; simp
    · have hb := Vint.pow_bound i (by omega)
      by_cases h0 : c = 0 ∧ i ≠ 0
      · rw [Vint.G_form (by omega) h0.1 h0.2]; simp
      · by_cases hl : c < 128
        · rw [Vint.G_last (by omega) (by omega) hl]
          have h1 : c * 128 ^ i ≤ 127 * 128 ^ i := Nat.mul_le_mul_right _ (by omega)
          simp; omega
        · rw [Vint.G_more (by omega) (by omega)]
          have h1 : (c - 128) * 128 ^ i ≤ 127 * 128 ^ i := Nat.mul_le_mul_right _ (by omega)
          have := G_facts t (i + 1) (acc + (c - 128) * 128 ^ i) (fun d hd => hs d (List.mem_cons_of_mem _ hd)) (by omega) (by rw [Nat.pow_succ]; omega)
          simp only [List.length_cons]
          refine ⟨this.1, fun h => ?_, this.2.2⟩
          have := this.2.1 h
          omega

/-- What Num leaves. -/
def Numd (p x er : Nat) (bs : List Nat) (w : World) (e : Ending) (w' : World) : Prop :=
  ∃ a len cap, e = .returned (.tuple #[.int .u64 (x : Int), .int .i64 (er : Int)]) ∧ Rd w' p er a len cap bs ∧ Kept (fun k => k = p) w w'

theorem kept_cell (w : World) (p o : Nat) (u : Value) : Kept (fun k => k = p) w (w.setCell ⟨p, o, none⟩ u) := Kept.setCell w ⟨p, o, none⟩ u

theorem Blk.set1 {w : World} {g : Nat} {t : TypeId} {x y z : Value} (h : Blk w g t #[x, y, z]) (u : Value) : Blk (w.setCell ⟨g, 1, none⟩ u) g t #[x, u, z] := h.set 1 u
theorem Blk.set2 {w : World} {g : Nat} {t : TypeId} {x y z : Value} (h : Blk w g t #[x, y, z]) (u : Value) : Blk (w.setCell ⟨g, 2, none⟩ u) g t #[x, y, u] := h.set 2 u

theorem Rd.err {w : World} {p er er' : Nat} {a : Option Addr} {len cap : Nat} {bs : List Nat} (h : Rd w p er a len cap bs) : Rd (w.setCell ⟨p, 1, none⟩ (.int .i64 (er' : Int))) p er' a len cap bs :=
  ⟨h.block.set1 _, h.row.keep (Kept.setCell _ _ _) (fun ad ha h0 hk => by have := h.apart ad ha h0; simp at hk; omega), h.le, h.nil, h.apart, h.room⟩

theorem Rd.cut {w : World} {p er : Nat} {a : Option Addr} {len cap : Nat} {bs : List Nat} (h : Rd w p er a len cap bs) {k : Nat} (hk : k ≤ len) : Rd (w.setCell ⟨p, 2, none⟩ (.slice (cutA a cap k) (len - k) (cap - k))) p er (cutA a cap k) (len - k) (cap - k) (bs.drop k) :=
  have ha : ∀ ad, cutA a cap k = some ad → len - k ≠ 0 → ad.block < p := fun ad ha h0 => by
    obtain ⟨ad0, h1, h2⟩ := cut_some ha
    have := h.apart ad0 h1 (by omega)
    omega
  ⟨h.block.set2 _, (cut_row h.row hk h.le).keep (Kept.setCell _ _ _) (fun ad h1 h0 hk => by have := ha ad h1 h0; simp at hk; omega), by have := h.le; omega, fun h1 => by have := h.nil (cut_none h1); omega, ha, by have := h.room; omega⟩

set_option maxHeartbeats 1000000 in
theorem rnum_ok (p : Nat) (a : Option Addr) (len cap : Nat) (bs : List Nat) (x k : Nat) (w : World) (h : Rd w p 0 a len cap bs) (hk : k ≤ len) (hG : Vint.G 0 0 bs = (x, k, 0)) :
    Calls Tryd.prog 58 #[.pointer (some ⟨p, 0, none⟩)] w (Numd p x 0 (bs.drop k) w) := by
  have c2 : w.cell? ⟨p, 2, none⟩ = some (.slice a len cap) := h.block.cell 2
  have f2 : w.frozen? ⟨p, 2, none⟩ = false := h.block.frozen 2
  have H1 := Lib.hid (rstate_core p 0 w (h.block.cell 0) (h.block.cell 1))
  have H2 := Lib.hid (get_any a len cap bs x k 0 w h.row (by have := h.room; unfold maxLen; omega) hG)
  have hs := slice_l .i64 a len cap k w hk
  have H := Lib.hid h
  clear h hG
  go_enter Tryd.func58, Tryd.ntmps58
  go_wp2_with fail
  refine H1.out.mono ?_
  rintro e w' ⟨rfl, rfl⟩
  go_wp2_with fail
  refine H2.out.mono ?_
  rintro e w' ⟨rfl, rfl⟩
  go_wp2_with fail
  go_ret2
  exact ⟨_, _, _, rfl, H.out.cut hk, kept_cell _ _ _ _⟩

set_option maxHeartbeats 1000000 in
theorem rnum_bad (p : Nat) (a : Option Addr) (len cap : Nat) (bs : List Nat) (er : Nat) (w : World) (h : Rd w p 0 a len cap bs) (he : er ≠ 0) (hG : Vint.G 0 0 bs = (0, 0, er)) :
    Calls Tryd.prog 58 #[.pointer (some ⟨p, 0, none⟩)] w (Numd p 0 er bs w) := by
  have c2 : w.cell? ⟨p, 2, none⟩ = some (.slice a len cap) := h.block.cell 2
  have H1 := Lib.hid (rstate_core p 0 w (h.block.cell 0) (h.block.cell 1))
  have H2 := Lib.hid (get_any a len cap bs 0 0 er w h.row (by have := h.room; unfold maxLen; omega) hG)
  have H3 := Lib.hid (keep_core p er _ w (h.block.cell 1) (h.block.frozen 1))
  have H := Lib.hid h
  have hne : ((er : Int) != 0) = true := by simp; omega
  clear h hG he
  go_enter Tryd.func58, Tryd.ntmps58
  go_wp2_with fail
  refine H1.out.mono ?_
  rintro e w' ⟨rfl, rfl⟩
  go_wp2_with fail
  refine H2.out.mono ?_
  rintro e w' ⟨rfl, rfl⟩
  go_wp2_with fail
  refine H3.out.mono ?_
  rintro e w' ⟨rfl, rfl⟩
  go_wp2_with fail
  go_ret2
  exact ⟨_, _, _, rfl, H.out.err, kept_cell _ _ _ _⟩

set_option maxHeartbeats 1000000 in
theorem rnum_err (p er : Nat) (a : Option Addr) (len cap : Nat) (bs : List Nat) (w : World) (h : Rd w p er a len cap bs) (he : er ≠ 0) :
    Calls Tryd.prog 58 #[.pointer (some ⟨p, 0, none⟩)] w (Numd p 0 er bs w) := by
  have H1 := Lib.hid (rstate_core p er w (h.block.cell 0) (h.block.cell 1))
  have H := Lib.hid h
  have hne : ((er : Int) != 0) = true := by simp; omega
  clear h he
  go_enter Tryd.func58, Tryd.ntmps58
  go_wp2_with fail
  refine H1.out.mono ?_
  rintro e w' ⟨rfl, rfl⟩
  go_wp2_with fail
  go_ret2
  exact ⟨_, _, _, rfl, H.out, Kept.refl _ _⟩

theorem rnum_any (p er : Nat) (a : Option Addr) (len cap : Nat) (bs : List Nat) (w : World) (h : Rd w p er a len cap bs) :
    Calls Tryd.prog 58 #[.pointer (some ⟨p, 0, none⟩)] w (Numd p (numX er bs) (numE er bs) (numB er bs) w) := by
  unfold numX numE numB
  by_cases he : er = 0
  · subst he
    simp only [if_pos]
    obtain ⟨h1, h2, _⟩ := G_facts bs 0 0 h.row.small (by omega) (by decide)
    generalize hG : Vint.G 0 0 bs = r at h1 h2
    obtain ⟨x, k, e⟩ := r
    simp only at h1 h2
    by_cases he : e = 0
    · subst he
      exact rnum_ok p a len cap bs x k w h (by have := h2 rfl; have := h.row.size; omega) hG
    · obtain ⟨rfl, rfl⟩ := h1 he
      exact rnum_bad p a len cap bs e w h he hG
  · simp only [if_neg he]
    exact rnum_err p er a len cap bs w h he

theorem num_zero {er : Nat} {bs : List Nat} (hs : ∀ c ∈ bs, c < 256) (h : numE er bs ≠ 0) : numX er bs = 0 := by
  unfold numE at h
  unfold numX
  by_cases he : er = 0
  · rw [if_pos he] at h ⊢
    exact ((G_facts bs 0 0 hs (by omega) (by decide)).1 h).1
  · rw [if_neg he]

theorem num_lt {er : Nat} {bs : List Nat} (hs : ∀ c ∈ bs, c < 256) : numX er bs < 18446744073709551616 := by
  unfold numX
  by_cases he : er = 0
  · rw [if_pos he]
    exact (G_facts bs 0 0 hs (by omega) (by decide)).2.2
  · rw [if_neg he]; omega

theorem unfold_zero : unfold 0 = 0 := by decide

/-- What Int leaves. -/
def Intd (p : Nat) (z : Int) (er : Nat) (bs : List Nat) (w : World) (e : Ending) (w' : World) : Prop :=
  ∃ a len cap, e = .returned (.tuple #[.int .i64 z, .int .i64 (er : Int)]) ∧ Rd w' p er a len cap bs ∧ Kept (fun k => k = p) w w'

/-- What Bytes answers and leaves, by the bytes that remain. -/
def bytX (er : Nat) (bs : List Nat) : List Nat := if numE er bs = 0 ∧ numX er bs ≤ (numB er bs).length then (numB er bs).take (numX er bs) else []
def bytE (er : Nat) (bs : List Nat) : Nat := if numE er bs = 0 then (if numX er bs ≤ (numB er bs).length then 0 else 4) else numE er bs
def bytB (er : Nat) (bs : List Nat) : List Nat := if numE er bs = 0 ∧ numX er bs ≤ (numB er bs).length then (numB er bs).drop (numX er bs) else numB er bs

/-- What Bytes leaves. -/
def Bytd (p : Nat) (x : List Nat) (er : Nat) (bs : List Nat) (w : World) (e : Ending) (w' : World) : Prop :=
  ∃ b m d a len cap, e = .returned (.tuple #[.slice b m d, .int .i64 (er : Int)]) ∧ Own w' w.heap.size b m d x ∧ Rd w' p er a len cap bs ∧ Kept (fun k => k = p) w w'

theorem Numd.since {p x er : Nat} {bs : List Nat} {w w1 : World} {e : Ending} {w' : World} (h : Numd p x er bs w1 e w') (hb : Kept (fun k => k = p) w w1) : Numd p x er bs w e w' := by
  obtain ⟨a, len, cap, he, hr, hk⟩ := h
  exact ⟨a, len, cap, he, hr, hb.trans hk (fun i hi => .inl hi)⟩

/-- Is there no error and nothing left. -/
def doneB (er : Nat) (bs : List Nat) : Bool := decide (er = 0 ∧ bs.length = 0)


end Go.Proofs.YtcgbkfnjohbglaaDoor
