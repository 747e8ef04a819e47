/- Walk of take of the document. -/
import Derived.Test.YtcgbkfnjohbglaaDoorPk
import Derived.Test.YtcgbkfnjohbglaaDoorPj
namespace Go.Proofs.YtcgbkfnjohbglaaDoor
open Go.RowKit

/-- Numbers in a slice. -/
def cellsN (l : List Nat) : List (List Value) := l.map fun n : Nat => [Value.int .u64 (n : Int)]
theorem cellsN_snoc (l : List Nat) (n : Nat) : cellsN l ++ [(#[Value.int .u64 (n : Int)] : Array Value).toList] = cellsN (l ++ [n]) := by simp [cellsN]
theorem cellsN_len (l : List Nat) : (cellsN l).length = l.length := by simp [cellsN]
abbrev NL (w : World) (a : Option Addr) (n : Nat) (l : List Nat) : Prop := GL w 1 a n (cellsN l)
theorem NL.len' {w : World} {a : Option Addr} {n : Nat} {l : List Nat} (h : NL w a n l) : l.length = n := by have := h.len; simpa [cellsN] using this
theorem NL.cell {w : World} {b off n i : Nat} {l : List Nat} (h : NL w (some ⟨b, off, none⟩) n l) (hi : i < l.length) : w.rangeAt b (off + i * 1) [.int .u64 ((l.getD i 0 : Nat) : Int)] := by
  rcases h.cells with h0 | ⟨b', off', ha, hc⟩
  · have := h.len'; omega
  · cases ha
    exact hc i _ (by simp [cellsN, List.getD, hi])
/-- The length of a slice in a cell. -/
def lenAt : Option Value → Nat
  | some (.slice _ n _) => n
  | _ => 0
/-- What take leaves. -/
def TakeP (bs : List Nat) (w : World) (e : Ending) (w' : World) : Prop :=
  ((∃ (l : List Nat) (a : Option Addr) (c : Nat), (∀ x ∈ l, x < 18446744073709551616) ∧ encs l = bs ∧ l.length ≤ bs.length ∧ e = .returned (.tuple #[.slice a l.length c, .bool true]) ∧ OwnG w' 72 1 w.heap.size a l.length c (cellsN l)) ∨
   ((∀ l : List Nat, (∀ x ∈ l, x < 18446744073709551616) → encs l ≠ bs) ∧ e = .returned (.tuple #[.slice none 0 0, .bool false]))) ∧ Below w.heap.size w w'

/-- While numbers are taken: the reader in a block, what was taken, what remains. -/
structure Tk (w W : World) (g : Nat) (bs : List Nat) (a : Option Addr) (n c : Nat) (rest : List Nat) (b : Option Addr) (m d : Nat) (l : List Nat) : Prop where
  rd : Blk W g 106 #[.slice a n c, .int .i64 0]
  sub : Sub W a n c rest w.heap.size
  own : OwnG W 72 1 (g + 1) b m d (cellsN l)
  small : ∀ x ∈ l, x < 18446744073709551616
  all : encs l ++ rest = bs
  cnt : l.length + rest.length ≤ bs.length
  len : bs.length ≤ 1000000
  wlt : w.heap.size ≤ g
  old : Below w.heap.size w W
theorem Sub.small {w : World} {a : Option Addr} {n c : Nat} {bs : List Nat} {B : Nat} (h : Sub w a n c bs B) : ∀ x ∈ bs, x < 256 := h.row.small
theorem ref2_cells {w : World} {g : Nat} {t : TypeId} {x y : Value} (h : Blk w g t #[x, y]) : w.cell? ⟨g, 0, none⟩ = some x ∧ w.cell? ⟨g, 1, none⟩ = some y := ⟨h.cell 0, h.cell 1⟩
theorem encs_no {l bs rest : List Nat} (hl : ∀ x ∈ l, x < 18446744073709551616) (ha : encs l ++ rest = bs) (hn : ∀ m : List Nat, (∀ x ∈ m, x < 18446744073709551616) → encs m ≠ rest) : ∀ m : List Nat, (∀ x ∈ m, x < 18446744073709551616) → encs m ≠ bs := by
  induction l generalizing bs with
  | nil => subst ha; simpa [encs] using hn
  | cons y l ih =>
    rintro m hm rfl
    rw [encs_cons, List.append_assoc] at ha
    cases m with
    | nil =>
      rw [encs_nil] at ha
      have h1 := congrArg List.length ha
      have h2 := Vint.enc_pos y
      rw [List.length_append, List.length_nil] at h1
      omega
    | cons z m =>
      have a1 := nv_enc (r := encs l ++ rest) (hl y List.mem_cons_self)
      have a2 := nv_encs (l := m) (hm z List.mem_cons_self)
      rw [ha] at a1
      have e2 : encs l ++ rest = encs m := by have := a1.2.symm.trans a2.2; simpa using this
      exact ih (fun x hx => hl x (List.mem_cons_of_mem _ hx)) e2 m (fun x hx => hm x (List.mem_cons_of_mem _ hx)) rfl

/-- The reader turned, before the number is laid down. -/
structure Tm (w W : World) (g : Nat) (bs : List Nat) (a : Option Addr) (n c : Nat) (rest : List Nat) (b : Option Addr) (m d : Nat) (l : List Nat) (x : Nat) : Prop where
  rd : Blk W g 106 #[.slice a n c, .int .i64 0]
  sub : Sub W a n c rest w.heap.size
  own : OwnG W 72 1 (g + 1) b m d (cellsN l)
  small : ∀ y ∈ l ++ [x], y < 18446744073709551616
  all : encs (l ++ [x]) ++ rest = bs
  cnt : l.length + 1 + rest.length ≤ bs.length
  len : bs.length ≤ 1000000
  wlt : w.heap.size ≤ g
  old : Below w.heap.size w W
theorem tk_mid {w wr w1 : World} {g n c n2 c2 m d x : Nat} {a a2 b : Option Addr} {bs rest rest2 l : List Nat} (h : Tk w wr g bs a n c rest b m d l) (hs : Sub w1 a2 n2 c2 rest2 w.heap.size) (hb : Below wr.heap.size wr w1) (hr : rest = Vint.enc x ++ rest2) (hx : x < 18446744073709551616) :
    Tm w (((w1.alloc (.cells #[.slice a2 n2 c2, .int .i64 0] 106)).setCell ⟨g, 0, none⟩ (.slice a2 n2 c2)).setCell ⟨g, 1, none⟩ (.int .i64 0)) g bs a2 n2 c2 rest2 b m d l x := by
  have b1 := below_one w1 (.cells #[.slice a2 n2 c2, .int .i64 0] 106)
  have k1 := Kept.setCell (w1.alloc (.cells #[.slice a2 n2 c2, .int .i64 0] 106)) ⟨g, 0, none⟩ (.slice a2 n2 c2)
  have k2 := Kept.setCell ((w1.alloc (.cells #[.slice a2 n2 c2, .int .i64 0] 106)).setCell ⟨g, 0, none⟩ (.slice a2 n2 c2)) ⟨g, 1, none⟩ (.int .i64 0)
  simp only at k1 k2
  have hw := h.wlt
  have hz := h.old.size
  have hz1 := hb.size
  have hz2 := b1.size
  have hbb : Below w.heap.size w1 (((w1.alloc (.cells #[.slice a2 n2 c2, .int .i64 0] 106)).setCell ⟨g, 0, none⟩ (.slice a2 n2 c2)).setCell ⟨g, 1, none⟩ (.int .i64 0)) :=
    ((b1.mono (by omega)).trans (k1.below (by omega) (fun k e => by omega))).trans (k2.below (by have := k1.size; omega) (fun k e => by omega))
  refine ⟨(((h.rd.below hb).below b1).set 0 _).set 1 _, hs.below hbb, (((h.own.below hb).below b1).two k1 (fun i ⟨ad, ha, e⟩ hh => by have := (h.own.lt ad ha).1; omega)).two k2 (fun i ⟨ad, ha, e⟩ hh => by have := (h.own.lt ad ha).1; omega), ?_, ?_, ?_, ?_, hw, (h.old.trans (hb.mono hz)).trans hbb⟩
  · intro y hy
    rcases List.mem_append.1 hy with hy | hy
    · exact h.small y hy
    · obtain rfl : y = x := by simpa using hy
      exact hx
  · rw [encs_append, List.append_assoc]
    have := h.all
    rw [hr] at this
    simpa [encs] using this
  · have h1 := h.cnt
    have h2 := congrArg List.length hr
    have h3 := Vint.enc_pos x
    rw [List.length_append] at h2
    omega
  · exact h.len
theorem tk_add {w w2 w3 : World} {g n c m d x : Nat} {a b : Option Addr} {bs rest l : List Nat} {b' : Option Addr} {d' : Nat} (h : Tm w w2 g bs a n c rest b m d l x) (ho : OwnG w3 72 1 (g + 1) b' (m + 1) d' (cellsN l ++ [(#[Value.int .u64 (x : Int)] : Array Value).toList])) (hk : Kept (At b) (w2.alloc (.cells #[.int .u64 (x : Int)] 72)) w3) : Tk w w3 g bs a n c rest b' (m + 1) d' (l ++ [x]) := by
  have b1 := below_one w2 (.cells #[.int .u64 (x : Int)] 72)
  have hge : ∀ i, At b i → g + 1 ≤ i := fun i ⟨ad, ha, e⟩ => by have := (h.own.lt ad ha).1; omega
  have hw := h.wlt
  have hz := h.old.size
  have hz2 := b1.size
  have hb := hk.below (B := w.heap.size) (by omega) (fun i hi => by have := hge i hi; omega)
  refine ⟨(h.rd.below b1).kept hk (fun hh => by have := hge _ hh; omega), (h.sub.below (b1.mono hz)).below hb, by rw [← cellsN_snoc]; exact ho, h.small, h.all, by have := h.cnt; simp; omega, h.len, hw, (h.old.trans (b1.mono hz)).trans hb⟩

set_option maxHeartbeats 4000000 in
set_option maxRecDepth 100000 in
theorem takeN_any (a : Option Addr) (n c : Nat) (bs : List Nat) (w : World) (h : Sub w a n c bs w.heap.size) : Calls Tryd.prog 36 #[.slice a n c] w (TakeP bs w) := by
  have H0 : Hid (Tk w (w.alloc (.cells #[.slice a n c, .int .i64 0] 106)) w.heap.size bs a n c bs none 0 0 []) := Lib.hid ⟨Blk.new w 106 _, h.below (below_one _ _), ownG_nil _ _ _ _, by simp, by simp [encs], by simp, by have := h.row.size; have := h.room; omega, Nat.le_refl _, below_one _ _⟩
  have hroom := h.room
  clear h
  go_enter Tryd.func36, Tryd.ntmps36
  go_upto_region 3 with fail
  try simp only [World.size_alloc, Act.put, List.setIfInBounds_toArray, List.set_cons_zero, List.set_cons_succ]
  generalize w.alloc (.cells #[.slice a n c, .int .i64 0] 106) = w0 at H0 ⊢
  obtain ⟨g, hg⟩ : ∃ g, w.heap.size = g := ⟨_, rfl⟩
  have HG : Hid (w.heap.size = g) := Lib.hid hg
  rw [hg] at H0
  rw [hg]
  clear hg
  go_loopw [4] (fun s wr => ∃ (a' : Option Addr) (n' c' : Nat) (rest : List Nat) (b : Option Addr) (m d : Nat) (l : List Nat), s = .slice b m d ∧ Hid (Tk w wr g bs a' n' c' rest b m d l)) (fun _ wr => lenAt (wr.cell? ⟨g, 0, none⟩))
  case atStart => exact ⟨a, n, c, bs, none, 0, 0, [], rfl, H0⟩
  case round =>
    obtain ⟨a', n', c', rest, b, m, d, l, rfl, HX⟩ := hrel
    clear H0
    obtain ⟨c0, c1⟩ := ref2_cells HX.out.rd
    have HNL := Lib.hid HX.out.sub.row.size
    by_cases hlt : 0 < n'
    · have HRN : Hid (Calls Tryd.prog 50 #[.agg #[.slice a' n' c', .int .i64 0]] wr (RNumd (numX 0 rest) (numE 0 rest) (numB 0 rest) w.heap.size wr)) := Lib.hid (by simpa using refnum_any 0 a' n' c' rest w.heap.size wr HX.out.old.size HX.out.sub)
      by_cases he : numE 0 rest = 0
      case neg =>
        have q1 : ((numE 0 rest : Int) != 0) = true := by simp; omega
        have HNO := Lib.hid (encs_no HX.out.small HX.out.all (num_fails (by rintro rfl; have := HNL.out; simp at this; omega) he))
        clear he
        generalize numE 0 rest = er at HRN q1
        generalize numX 0 rest = x at HRN
        generalize numB 0 rest = rest2 at HRN
        go_wp2_with fail
        refine HRN.out.mono ?_
        rintro e w1 ⟨a2, n2, c2, rfl, hs, hb⟩
        have HB := Lib.hid (HX.out.old.trans (hb.mono HX.out.old.size))
        clear hs hb c0 c1
        go_wp2_with fail
        go_ret2
        exact ⟨.inr ⟨HNO.out, rfl⟩, HB.out.trans ((below_one w1 _).mono HB.out.size)⟩
      have q1 : ((numE 0 rest : Int) != 0) = false := by simp; omega
      obtain ⟨hs1, hs2, hs3⟩ := num_step HX.out.sub.small he
      have HS1 := Lib.hid hs1
      have HLT := Lib.hid hs3
      clear hs1 hs3
      rw [he] at HRN
      clear he q1
      generalize numX 0 rest = x at HRN hs2 HS1
      generalize numB 0 rest = rest2 at HRN HS1 HLT
      go_wp2_with fail
      refine HRN.out.mono ?_
      rintro e w1 ⟨a2, n2, c2, rfl, hs, hb⟩
      have HSUB := Lib.hid hs
      have HB := Lib.hid hb
      have HRD := Lib.hid (HX.out.rd.below hb)
      have hrd := HRD.out.below (below_one w1 (.cells #[.slice a2 n2 c2, .int .i64 0] 106))
      obtain ⟨d0, d1⟩ := ref2_cells hrd
      have d2 := hrd.frozen 0
      have d3 := hrd.frozen 1
      have HM := Lib.hid (tk_mid HX.out HSUB.out HB.out HS1.out hs2)
      clear hs hb c0 c1 hrd
      go_upto_region 8 with fail
      clear d0 d1 d2 d3
      generalize ((w1.alloc (.cells #[.slice a2 n2 c2, .int .i64 0] 106)).setCell ⟨g, 0, none⟩ (.slice a2 n2 c2)).setCell ⟨g, 1, none⟩ (.int .i64 0) = w2 at HM ⊢
      go_wp2_with (at_builtin; (refine wpList_appendG 83 72 1 8 info72 und83 rfl (by decide) (by decide) rfl rfl rfl rfl (HM.out.own.below (below_one w2 (.cells #[.int .u64 (x : Int)] 72))) (Blk.new w2 72 #[.int .u64 (x : Int)]) rfl (by simp [Value.oneCell']) (by have := HM.out.own.len; have := HM.out.cnt; have := HM.out.len; rw [cellsN_len] at *; omega) (by have := HM.out.rd.lt; simp; omega) ?_; intro b' d' w3 ho hk _; have HE := Lib.hid (tk_add HM.out ho hk); clear ho hk))
      go_roundw
      case rel => exact ⟨a2, n2, c2, rest2, b', m + 1, d', l ++ [x], rfl, HE⟩
      case measure => rw [show w3.cell? ⟨g, 0, none⟩ = some (.slice a2 n2 c2) from HE.out.rd.cell 0, show wr.cell? ⟨g, 0, none⟩ = some (.slice a' n' c') from HX.out.rd.cell 0]; have h1 := HLT.out; have h2 := HNL.out; have h3 := HSUB.out.row.size; simp only [lenAt]; omega
    · have hn0 : n' = 0 := by omega
      have HE : Hid (encs l = bs ∧ l.length ≤ bs.length) := Lib.hid (by
        have h1 := HX.out.all
        have h2 : rest = [] := List.eq_nil_of_length_eq_zero (by have := HNL.out; omega)
        rw [h2, List.append_nil] at h1
        exact ⟨h1, by have := HX.out.cnt; omega⟩)
      have HM : Hid (l.length = m) := Lib.hid (by have := HX.out.own.len; rwa [cellsN_len] at this)
      go_wp2_with fail
      go_ret2
      refine ⟨.inl ⟨l, b, d, HX.out.small, HE.out.1, HE.out.2, ?_, ?_⟩, HX.out.old⟩
      · rw [HM.out]; rfl
      · rw [HM.out]; exact HX.out.own.mono (by have := HX.out.wlt; omega)

end Go.Proofs.YtcgbkfnjohbglaaDoor
