/- Walks of the document's answer for readers: Num, Bytes and Done. -/
import Derived.Test.YtcgbkfnjohbglaaDoorRd
import Derived.Test.YtcgbkfnjohbglaaDoorRget
import Derived.Test.YtcgbkfnjohbglaaDoorHeld
namespace Go.Proofs.YtcgbkfnjohbglaaDoor
open Go.RowKit

theorem Row.belowB {w w' : World} {a : Option Addr} {len B : Nat} {bs : List Nat} (h : Row w a len bs) (hb : Below B w w') (hn : ∀ ad, a = some ad → len ≠ 0 → ad.block < B) : Row w' a len bs := by
  refine ⟨h.size, h.small, ?_⟩
  by_cases h0 : len = 0
  · exact .inl h0
  · obtain ⟨b, off, ha, hc⟩ := h.cells.resolve_left h0
    have hlt := hn _ ha h0
    exact .inr ⟨b, off, ha, fun i hi => by rw [hb.cell (p := ⟨b, off + i, none⟩) hlt]; exact hc i hi⟩

/-- The document's reader's slice: a row of bytes in memory below block B. -/
structure Sub (w : World) (a : Option Addr) (n c : Nat) (bs : List Nat) (B : Nat) : Prop where
  row : Row w a n bs
  le : n ≤ c
  nil : a = none → n = 0 ∧ c = 0
  room : n ≤ 1000000
  lt : ∀ ad, a = some ad → n ≠ 0 → ad.block < B

theorem Sub.below {w w' : World} {a : Option Addr} {n c : Nat} {bs : List Nat} {B : Nat} (h : Sub w a n c bs B) (hb : Below B w w') : Sub w' a n c bs B :=
  ⟨h.row.belowB hb h.lt, h.le, h.nil, h.room, h.lt⟩

theorem cut_lt {a : Option Addr} {n c k B : Nat} (h : ∀ ad, a = some ad → n ≠ 0 → ad.block < B) : ∀ ad, cutA a c k = some ad → n - k ≠ 0 → ad.block < B := fun ad ha h0 => by
  obtain ⟨ad1, h1, h2⟩ := cut_some ha
  have := h ad1 h1 (by omega)
  omega

theorem Sub.cut {w : World} {a : Option Addr} {n c : Nat} {bs : List Nat} {B : Nat} (h : Sub w a n c bs B) {k : Nat} (hk : k ≤ n) : Sub w (cutA a c k) (n - k) (c - k) (bs.drop k) B :=
  ⟨cut_row h.row hk h.le, by have := h.le; omega, fun h1 => by have := h.nil (cut_none h1); omega, by have := h.room; omega, cut_lt h.lt⟩

/-- What ref Num leaves. -/
def RNumd (x er : Nat) (bs : List Nat) (B : Nat) (w : World) (e : Ending) (w' : World) : Prop :=
  ∃ a n c, e = .returned (.tuple #[.agg #[.slice a n c, .int .i64 (er : Int)], .int .u64 (x : Int), .int .i64 (er : Int)]) ∧ Sub w' a n c bs B ∧ Below w.heap.size w w'

set_option maxHeartbeats 1000000 in
theorem refnum_err (er : Nat) (a : Option Addr) (n c : Nat) (bs : List Nat) (B : Nat) (w : World) (he : er ≠ 0) (hB : B ≤ w.heap.size) (h : Sub w a n c bs B) :
    Calls Tryd.prog 50 #[.agg #[.slice a n c, .int .i64 (er : Int)]] w (RNumd 0 er bs B w) := by
  have hne : ((er : Int) != 0) = true := by simp; omega
  have H := Lib.hid h
  clear he h
  go_enter Tryd.func50, Tryd.ntmps50
  go_wp2_with fail
  go_region_with fail
  all_goals go_wp2_with fail
  all_goals exact bodyPost_ret (v := .tuple #[.agg #[.slice a n c, .int .i64 (er : Int)], .int .u64 0, .int .i64 (er : Int)]) (by simp [results, Tryd.results50, go_sem]) rfl ⟨a, n, c, rfl, H.out.below ((below_two _ _ _).mono hB), below_two _ _ _⟩

/-- The two blocks of a call that boxes a struct of two cells and makes a second one. -/
theorem two_blocks {w w2 : World} {t : TypeId} {x y u v : Value} (hb : Below ((w.alloc (.cells #[x, y] t)).alloc (.cells #[u, v] t)).heap.size ((w.alloc (.cells #[x, y] t)).alloc (.cells #[u, v] t)) w2) :
    Blk w2 w.heap.size t #[x, y] ∧ Blk w2 (w.heap.size + 1) t #[u, v] :=
  ⟨Blk.below (Blk.kept (S := fun _ => False) (Blk.new w t _) (.of_below ((Below.refl _ _).alloc (Nat.le_refl _) _)) (fun h => h)) hb,
   Blk.below (by simpa using Blk.new (w.alloc (.cells #[x, y] t)) t #[u, v]) hb⟩

theorem below_three {w w2 : World} (h : Below w.heap.size w w2) (i : Nat) (u v z : Value) : Below w.heap.size w (((w2.setCell ⟨w.heap.size, i, none⟩ u).setCell ⟨w.heap.size + 1, 0, none⟩ v).setCell ⟨w.heap.size + 1, 1, none⟩ z) :=
  ((h.setCell (p := ⟨w.heap.size, i, none⟩) (Nat.le_refl _) _).setCell (p := ⟨w.heap.size + 1, 0, none⟩) (Nat.le_succ _) _).setCell (p := ⟨w.heap.size + 1, 1, none⟩) (Nat.le_succ _) _

set_option maxHeartbeats 1000000 in
theorem refnum_bad (a : Option Addr) (n c : Nat) (bs : List Nat) (er : Nat) (B : Nat) (w : World) (he : er ≠ 0) (hG : Vint.G 0 0 bs = (0, 0, er)) (hB : B ≤ w.heap.size) (h : Sub w a n c bs B) :
    Calls Tryd.prog 50 #[.agg #[.slice a n c, .int .i64 0]] w (RNumd 0 er bs B w) := by
  have hne : ((er : Int) != 0) = true := by simp; omega
  have hbel := below_two' w (.cells #[.slice a n c, .int .i64 0] 106) (.cells #[.slice none 0 0, .int .i64 0] 106)
  have HJ := Lib.hid (rget_any a n c bs 0 0 er ((w.alloc (.cells #[.slice a n c, .int .i64 0] 106)).alloc (.cells #[.slice none 0 0, .int .i64 0] 106)) (h.row.below hbel) (by have := h.room; unfold maxLen; omega) h.le hG)
  have H := Lib.hid h
  have HBE := Lib.hid hbel
  clear he h hG hbel
  go_enter Tryd.func50, Tryd.ntmps50
  go_wp2_with fail
  refine HJ.out.mono ?_
  rintro e w2 ⟨rfl, hb⟩
  obtain ⟨b1, b2⟩ := two_blocks hb
  have HB := Lib.hid (HBE.out.trans (hb.mono HBE.out.size))
  have x1 := b1.cell 0
  have x2 := b1.cell 1
  have x3 := b2.cell 0
  have x4 := b2.cell 1
  have y2 := b1.frozen 1
  have y3 := b2.frozen 0
  have y4 := b2.frozen 1
  simp at x1 x2 x3 x4
  clear b1 b2 hb HJ HBE
  go_wp2_with fail
  have hBel := below_three HB.out 1 (.int .i64 (er : Int)) (.slice a n c) (.int .i64 (er : Int))
  exact bodyPost_ret (v := .tuple #[.agg #[.slice a n c, .int .i64 (er : Int)], .int .u64 0, .int .i64 (er : Int)]) (by simp [results, Tryd.results50, go_sem, x3, x4]) rfl ⟨a, n, c, rfl, H.out.below (hBel.mono hB), hBel⟩

set_option maxHeartbeats 1000000 in
theorem refnum_ok (a : Option Addr) (n c : Nat) (bs : List Nat) (x k : Nat) (B : Nat) (w : World) (hk : k ≤ n) (hG : Vint.G 0 0 bs = (x, k, 0)) (hB : B ≤ w.heap.size) (h : Sub w a n c bs B) :
    Calls Tryd.prog 50 #[.agg #[.slice a n c, .int .i64 0]] w (RNumd x 0 (bs.drop k) B w) := by
  have hbel := below_two' w (.cells #[.slice a n c, .int .i64 0] 106) (.cells #[.slice none 0 0, .int .i64 0] 106)
  have HJ := Lib.hid (rget_any a n c bs x k 0 ((w.alloc (.cells #[.slice a n c, .int .i64 0] 106)).alloc (.cells #[.slice none 0 0, .int .i64 0] 106)) (h.row.below hbel) (by have := h.room; unfold maxLen; omega) h.le hG)
  have H := Lib.hid (h.cut hk)
  have HBE := Lib.hid hbel
  clear h hG hbel
  go_enter Tryd.func50, Tryd.ntmps50
  go_wp2_with fail
  refine HJ.out.mono ?_
  rintro e w2 ⟨rfl, hb⟩
  obtain ⟨b1, b2⟩ := two_blocks hb
  have HB := Lib.hid (HBE.out.trans (hb.mono HBE.out.size))
  have x1 := b1.cell 0
  have x2 := b1.cell 1
  have x3 := b2.cell 0
  have x4 := b2.cell 1
  have y1 := b1.frozen 0
  have y3 := b2.frozen 0
  have y4 := b2.frozen 1
  have hs := slice_l .i64 a n c k w2 hk
  simp at x1 x2 x3 x4
  clear b1 b2 hb HJ HBE
  go_wp2_with fail
  have hBel := below_three HB.out 0 (.slice (cutA a c k) (n - k) (c - k)) (.slice (cutA a c k) (n - k) (c - k)) (.int .i64 0)
  exact bodyPost_ret (v := .tuple #[.agg #[.slice (cutA a c k) (n - k) (c - k), .int .i64 0], .int .u64 (x : Int), .int .i64 0]) (by simp [results, Tryd.results50, go_sem, x3, x4]) rfl ⟨_, _, _, rfl, H.out.below (hBel.mono hB), hBel⟩

theorem refnum_any (er : Nat) (a : Option Addr) (n c : Nat) (bs : List Nat) (B : Nat) (w : World) (hB : B ≤ w.heap.size) (h : Sub w a n c bs B) :
    Calls Tryd.prog 50 #[.agg #[.slice a n c, .int .i64 (er : Int)]] w (RNumd (numX er bs) (numE er bs) (numB er bs) B w) := by
  unfold numX numE numB
  by_cases he : er = 0
  · subst he
    simp only [if_pos]
    obtain ⟨h1, h2, _⟩ := G_facts bs 0 0 h.row.small (by omega) (by decide)
    generalize hG : Vint.G 0 0 bs = r at h1 h2
    obtain ⟨x, k, e⟩ := r
    simp only at h1 h2
    by_cases he : e = 0
    · subst he
      exact refnum_ok a n c bs x k B w (by have := h2 rfl; have := h.row.size; omega) hG hB h
    · obtain ⟨rfl, rfl⟩ := h1 he
      exact refnum_bad a n c bs e B w he hG hB h
  · simp only [if_neg he]
    exact refnum_err er a n c bs B w he hB h

/-- What ref Bytes leaves. -/
def RBytd (x : List Nat) (er : Nat) (bs : List Nat) (B : Nat) (w : World) (e : Ending) (w' : World) : Prop :=
  ∃ a n c b m d, e = .returned (.tuple #[.agg #[.slice a n c, .int .i64 (er : Int)], .slice b m d, .int .i64 (er : Int)]) ∧ Sub w' a n c bs B ∧ Row w' b m x ∧ (∀ ad, b = some ad → m ≠ 0 → ad.block < B) ∧ Below w.heap.size w w'

theorem below_ret {w w2 : World} (h : Below w.heap.size w w2) (u v : Value) (o : Obj) (hlt : w.heap.size + 1 < w2.heap.size) : Below w.heap.size w (((w2.setCell ⟨w.heap.size + 1, 0, none⟩ u).setCell ⟨w.heap.size + 1, 1, none⟩ v).alloc o) :=
  ((h.setCell (p := ⟨w.heap.size + 1, 0, none⟩) (Nat.le_succ _) _).setCell (p := ⟨w.heap.size + 1, 1, none⟩) (Nat.le_succ _) _).alloc (by simp; omega) _

theorem below_own (w w2 : World) (B : Nat) (u v : Value) (o : Obj) (hB : B ≤ w.heap.size) (hlt : w.heap.size + 1 < w2.heap.size) : Below B w2 (((w2.setCell ⟨w.heap.size + 1, 0, none⟩ u).setCell ⟨w.heap.size + 1, 1, none⟩ v).alloc o) :=
  (((Below.refl _ _).setCell (p := ⟨w.heap.size + 1, 0, none⟩) (by simp; omega) _).setCell (p := ⟨w.heap.size + 1, 1, none⟩) (by simp; omega) _).alloc (by simp; omega) _


end Go.Proofs.YtcgbkfnjohbglaaDoor
