/- Walk of Decode, the document's: the operation whose bytes they are. -/
import Derived.Test.YtfnaccmgmocolaaDoorRp
import Derived.Test.YtfnaccmgmocolaaDoorLw
namespace Go.Proofs.YtfnaccmgmocolaaDoor
open Go.RowKit

/-- What the document's Bytes of a reader leaves. -/
def RBytd2 (x : List Nat) (er : Nat) (bs : List Nat) (B : Nat) (w : World) (e : Ending) (w' : World) : Prop :=
  ∃ a n c b m d, e = .returned (.tuple #[.agg #[.slice a n c, .int .i64 (er : Int)], .slice b m d, .int .i64 (er : Int)]) ∧ Sub w' a n c bs B ∧ Sub w' b m d x B ∧ Below w.heap.size w w'

set_option maxRecDepth 100000 in
set_option maxHeartbeats 1000000 in
theorem refbytes2_err (er er' : Nat) (a : Option Addr) (n c : Nat) (bs' : List Nat) (B : Nat) (w : World) (hB : B ≤ w.heap.size) (HJ : Hid (∀ w' : World, Below w.heap.size w w' → Calls Tryd.prog 59 #[.agg #[.slice a n c, .int .i64 (er : Int)]] w' (RNumd 0 er' bs' B w'))) (he : ((er' : Int) != 0) = true) :
    Calls Tryd.prog 61 #[.agg #[.slice a n c, .int .i64 (er : Int)]] w (RBytd2 [] er' bs' B w) := by
  have HBE := Lib.hid (below_two' w (.cells #[.slice a n c, .int .i64 (er : Int)] 101) (.cells #[.slice none 0 0, .int .i64 0] 101))
  go_enter Tryd.func61, Tryd.ntmps61
  go_wp2_with fail
  refine (HJ.out _ HBE.out).mono ?_
  rintro e w2 ⟨a1, n1, c1, rfl, hs, hb⟩
  obtain ⟨b1, b2⟩ := two_blocks hb
  have HB := Lib.hid (HBE.out.trans (hb.mono HBE.out.size))
  have HS := Lib.hid hs
  have x3 := b2.cell 0
  have x4 := b2.cell 1
  have y3 := b2.frozen 0
  have y4 := b2.frozen 1
  have hlt := b2.lt
  simp at x3 x4
  clear b1 b2 hb HJ HBE hs
  go_wp2_with fail
  have hBel := below_ret HB.out (.slice a1 n1 c1) (.int .i64 (er' : Int)) (.cells #[.slice a1 n1 c1, .int .i64 (er' : Int)] 101) hlt
  exact bodyPost_ret (v := .tuple #[.agg #[.slice a1 n1 c1, .int .i64 (er' : Int)], .slice none 0 0, .int .i64 (er' : Int)]) (by simp [results, Tryd.results61, go_sem, x3, x4, hlt]) rfl ⟨a1, n1, c1, none, 0, 0, rfl, HS.out.below (below_own w w2 B _ _ _ hB hlt), ⟨row_nil _ _, Nat.le_refl _, fun _ => ⟨rfl, rfl⟩, by omega, fun ad h => by cases h⟩, hBel⟩

set_option maxRecDepth 100000 in
set_option maxHeartbeats 1000000 in
theorem refbytes2_short (er x : Nat) (a : Option Addr) (n c : Nat) (bs' : List Nat) (B : Nat) (w : World) (hB : B ≤ w.heap.size) (HJ : Hid (∀ w' : World, Below w.heap.size w w' → Calls Tryd.prog 59 #[.agg #[.slice a n c, .int .i64 (er : Int)]] w' (RNumd x 0 bs' B w'))) (hlt : bs'.length < x) :
    Calls Tryd.prog 61 #[.agg #[.slice a n c, .int .i64 (er : Int)]] w (RBytd2 [] 4 bs' B w) := by
  have HBE := Lib.hid (below_two' w (.cells #[.slice a n c, .int .i64 (er : Int)] 101) (.cells #[.slice none 0 0, .int .i64 0] 101))
  go_enter Tryd.func61, Tryd.ntmps61
  go_wp2_with fail
  refine (HJ.out _ HBE.out).mono ?_
  rintro e w2 ⟨a1, n1, c1, rfl, hs, hb⟩
  obtain ⟨b1, b2⟩ := two_blocks hb
  have HB := Lib.hid (HBE.out.trans (hb.mono HBE.out.size))
  have HS := Lib.hid hs
  have hn1 : n1 < x := by have := hs.row.size; omega
  have hroom := hs.room
  have x3 := b2.cell 0
  have x4 := b2.cell 1
  have y3 := b2.frozen 0
  have y4 := b2.frozen 1
  have hltw := b2.lt
  simp at x3 x4
  clear b1 b2 hb HJ HBE hs hlt
  go_wp2_with fail
  have hBel := below_ret HB.out (.slice a1 n1 c1) (.int .i64 4) (.cells #[.slice a1 n1 c1, .int .i64 4] 101) hltw
  exact bodyPost_ret (v := .tuple #[.agg #[.slice a1 n1 c1, .int .i64 4], .slice none 0 0, .int .i64 4]) (by simp [results, Tryd.results61, go_sem, x3, x4, hltw]) rfl ⟨a1, n1, c1, none, 0, 0, rfl, HS.out.below (below_own w w2 B _ _ _ hB hltw), ⟨row_nil _ _, Nat.le_refl _, fun _ => ⟨rfl, rfl⟩, by omega, fun ad h => by cases h⟩, hBel⟩

set_option maxRecDepth 100000 in
set_option maxHeartbeats 1000000 in
theorem refbytes2_ok (er x : Nat) (a : Option Addr) (n c : Nat) (bs' : List Nat) (B : Nat) (w : World) (hB : B ≤ w.heap.size) (HJ : Hid (∀ w' : World, Below w.heap.size w w' → Calls Tryd.prog 59 #[.agg #[.slice a n c, .int .i64 (er : Int)]] w' (RNumd x 0 bs' B w'))) (hle : x ≤ bs'.length) :
    Calls Tryd.prog 61 #[.agg #[.slice a n c, .int .i64 (er : Int)]] w (RBytd2 (bs'.take x) 0 (bs'.drop x) B w) := by
  have HBE := Lib.hid (below_two' w (.cells #[.slice a n c, .int .i64 (er : Int)] 101) (.cells #[.slice none 0 0, .int .i64 0] 101))
  go_enter Tryd.func61, Tryd.ntmps61
  go_wp2_with fail
  refine (HJ.out _ HBE.out).mono ?_
  rintro e w2 ⟨a1, n1, c1, rfl, hs, hb⟩
  obtain ⟨b1, b2⟩ := two_blocks hb
  have HB := Lib.hid (HBE.out.trans (hb.mono HBE.out.size))
  have HS := Lib.hid hs
  have hn1 : x ≤ n1 := by have := hs.row.size; omega
  have hroom := hs.room
  have hle1 := hs.le
  have x3 := b2.cell 0
  have x4 := b2.cell 1
  have y3 := b2.frozen 0
  have y4 := b2.frozen 1
  have hltw := b2.lt
  have hsh := slice_h .u64 a1 n1 c1 x (w2.alloc (.cells #[.slice a1 n1 c1, .int .i64 0] 101)) (by omega)
  have hsl := slice_l .u64 a1 n1 c1 x (w2.alloc (.cells #[.slice a1 n1 c1, .int .i64 0] 101)) hn1
  simp at x3 x4
  clear b1 b2 hb HJ HBE hs hle
  go_wp2_with fail
  have hBel := below_ret HB.out (.slice (cutA a1 c1 x) (n1 - x) (c1 - x)) (.int .i64 0) (.cells #[.slice (cutA a1 c1 x) (n1 - x) (c1 - x), .int .i64 0] 101) hltw
  have hB2 := below_own w w2 B (.slice (cutA a1 c1 x) (n1 - x) (c1 - x)) (.int .i64 0) (.cells #[.slice (cutA a1 c1 x) (n1 - x) (c1 - x), .int .i64 0] 101) hB hltw
  exact bodyPost_ret (v := .tuple #[.agg #[.slice (cutA a1 c1 x) (n1 - x) (c1 - x), .int .i64 0], .slice a1 x c1, .int .i64 0]) (by simp [results, Tryd.results61, go_sem, x3, x4, hltw]) rfl ⟨_, _, _, a1, x, c1, rfl, (HS.out.cut hn1).below hB2, ⟨(HS.out.row.upto hn1).belowB hB2 (fun ad ha h0 => HS.out.lt ad ha (by omega)), by omega, fun h => by have := HS.out.nil h; omega, by omega, fun ad ha h0 => HS.out.lt ad ha (by omega)⟩, hBel⟩

theorem refbytes2_any (er : Nat) (a : Option Addr) (n c : Nat) (bs : List Nat) (B : Nat) (w : World) (hB : B ≤ w.heap.size) (h : Sub w a n c bs B) :
    Calls Tryd.prog 61 #[.agg #[.slice a n c, .int .i64 (er : Int)]] w (RBytd2 (bytX er bs) (bytE er bs) (bytB er bs) B w) := by
  have H1 : ∀ w' : World, Below w.heap.size w w' → Calls Tryd.prog 59 #[.agg #[.slice a n c, .int .i64 (er : Int)]] w' (RNumd (numX er bs) (numE er bs) (numB er bs) B w') := fun w' hb => refnum_any er a n c bs B w' (Nat.le_trans hB hb.size) (h.below (hb.mono hB))
  have h0 := num_zero (er := er) h.row.small
  unfold bytX bytE bytB
  generalize numX er bs = x at H1 h0
  generalize numE er bs = er' at H1 h0
  generalize numB er bs = bs' at H1
  by_cases he : er' = 0
  · subst he
    by_cases hle : x ≤ bs'.length
    · rw [if_pos ⟨rfl, hle⟩, if_pos rfl, if_pos hle, if_pos ⟨rfl, hle⟩]
      exact refbytes2_ok er x a n c bs' B w hB (Lib.hid H1) hle
    · rw [if_neg (fun h => hle h.2), if_pos rfl, if_neg hle, if_neg (fun h => hle h.2)]
      exact refbytes2_short er x a n c bs' B w hB (Lib.hid H1) (by omega)
  · rw [if_neg (fun h => he h.1), if_neg he, if_neg (fun h => he h.1)]
    obtain rfl := h0 he
    exact refbytes2_err er er' a n c bs' B w hB (Lib.hid H1) (by simp; omega)

/-- Numbers in a slice of the call's own, from block B on. -/
def nv (l : List Nat) : List Value := l.map fun x => Value.int .u64 ((x : Nat) : Int)
def OwnN (w : World) (B : Nat) (a : Option Addr) (n cap : Nat) (l : List Nat) : Prop := w.ownsRow B 63 1 (.slice a n cap) n (nv l)
section
variable {w w' : World} {B : Nat} {a : Option Addr} {n cap : Nat} {l : List Nat}
theorem OwnN.len (h : OwnN w B a n cap l) : l.length = n := by
  have := h.1
  simpa [nv] using this
theorem OwnN.lt (h : OwnN w B a n cap l) : ∀ ad, a = some ad → B ≤ ad.block ∧ ad.block < w.heap.size := by
  rintro ad rfl
  exact World.ownsRow.lt h ad.block rfl
theorem OwnN.keep {S : Nat → Prop} (h : OwnN w B a n cap l) (k : Kept S w w') (hn : ∀ ad, a = some ad → ¬ S ad.block) : OwnN w' B a n cap l := by
  refine ⟨h.1, ?_⟩
  rcases h.2 with h0 | ⟨g, cap', cur, hv, hB, hg, rest⟩
  · exact .inl h0
  · refine .inr ⟨g, cap', cur, hv, hB, ?_, rest⟩
    rw [k.block g (Array.getElem?_eq_some_iff.1 hg).1 (hn ⟨g, 0, none⟩ (by injection hv))]
    exact hg
theorem OwnN.below (h : OwnN w B a n cap l) (hb : Below w.heap.size w w') : OwnN w' B a n cap l :=
  h.keep (S := fun _ => False) (.of_below hb) (fun _ _ h => h)
theorem ownN_nil (w : World) (B : Nat) : OwnN w B none 0 0 [] := World.ownsRow_nil _ _ _ _
theorem OwnN.at_ (h : OwnN w B a n cap l) (hn : n ≠ 0) : ∃ g, a = some ⟨g, 0, none⟩ := by
  rcases h.2 with ⟨h0, hn'⟩ | ⟨g, cap', cur, hv, _⟩
  · exact absurd hn' hn
  · cases hv
    exact ⟨g, rfl⟩
theorem OwnN.cell {g : Nat} (h : OwnN w B (some ⟨g, 0, none⟩) n cap l) {j x : Nat} (hx : l[j]? = some x) : w.cell? ⟨g, j, none⟩ = some (.int .u64 (x : Int)) := by
  rcases h.2 with ⟨h0, _⟩ | ⟨g', cap', cur, hv, hB, hg, hnc, hcm, hcs, htk⟩
  · cases h0
  · cases hv
    have hj : j < n := by rw [← h.len]; exact (List.getElem?_eq_some_iff.1 hx).1
    have e1 : (nv l)[j]? = some (.int .u64 (x : Int)) := by simp [nv, hx]
    rw [← htk, List.getElem?_take_of_lt (by omega)] at e1
    simp only [World.cell?, hg, Option.isSome_none, Bool.false_eq_true, if_false]
    rw [← Array.getElem?_toList]
    exact e1
end
theorem info63 : (Tryd.prog.info? 63).map (fun i => (i.zero, i.size, i.bytes)) = some (some (.int .u64 0), 1, 8) := by kernel_rfl
/-- One number appended. -/
theorem wpList_appendN {ops : Array Oper} {rest : List Oper} {o : Oper} {act : Act} {Q : Exit → Act → World → Prop} {W : World} {x y : Operand} {B n cap g r : Nat} {a : Option Addr} {l : List Nat} (hgd : o.guard = none) (ho : o.op = .call { callee := .builtin .append, args := #[x, y], argTypes := #[133, 133] })
    (hx : act.eval x = .slice a n cap) (hy : act.eval y = .slice (some ⟨g, 0, none⟩) 1 1) (hown : OwnN W B a n cap l) (hg : Blk W g 63 #[.int .u64 (r : Int)]) (hn : n < 1000000) (hB : B ≤ W.heap.size)
    (k : ∀ a' cap' w', OwnN w' B a' (n + 1) cap' (l ++ [r]) → Kept (fun k => ∃ ad, a = some ad ∧ k = ad.block) W w' → wpList Tryd.prog ops Q rest (act.put o.dst (.slice a' (n + 1) cap')) w') : wpList Tryd.prog ops Q (o :: rest) act W := by
  obtain ⟨i0, hi, hz0, hz1, hz2⟩ := info_parts info63
  refine wpList_append_lies W hgd x y 133 ho B 63 i0 _ 1 8 Tryd.underlying133 hi hz0 hz1 hz2 rfl (by omega) (.slice a n cap) n (nv l) hx hown ⟨g, 0, none⟩ 1 1 [.int .u64 (r : Int)] hy rfl
    (World.news_of_block (cs := #[.int .u64 (r : Int)]) (t := 63) (fr := (0, 0)) hg) (by simp [Value.oneCell']) (by omega) (by unfold maxLen; omega) (by omega) hB _ rfl ?_
  intro g' cap' w' h1 h2 h3 h4
  refine k _ _ _ ?_ ⟨h2.os, h2.tape, h2.output, h2.size, fun k hk hn => h2.block k hk (fun e => hn ?_)⟩
  · have : nv (l ++ [r]) = nv l ++ [.int .u64 (r : Int)] := by simp [nv]
    unfold OwnN
    rw [this]
    exact h1
  · cases a with
    | none => simp [Value.ownBlock] at e
    | some ad => exact ⟨ad, rfl, by simpa [Value.ownBlock] using e⟩

section
variable {ev : Operand → Value} {o : Oper} {w : World}
theorem exec_index133 (k : Nat) {x y : Operand} {g n cap : Nat} (ho : o.op = .indexAddr 133 x y) (hx : ev x = .slice (some ⟨g, 0, none⟩) n cap) (hy : ev y = .int .i64 (k : Int)) (hk : k < n) : (execOp ev o).run Tryd.prog w = .ok (.value (.pointer (some ⟨g, k, none⟩))) w := by
  unfold execOp
  have h2 : (k : Int) < (n : Int) := by omega
  have h0 : (0 : Int) ≤ (k : Int) := by omega
  simp only [ho, hx, hy]
  go_simp
theorem exec_tr8 {x : Operand} {n : Nat} (ho : o.op = .convert 63 5 x) (hx : ev x = .int .u64 (n : Int)) : (execOp ev o).run Tryd.prog w = .ok (.value (.int .u8 ((n % 256 : Nat) : Int))) w := by
  have e : IntKind.u8.wrap (n : Int) = ((n % 256 : Nat) : Int) := by rw [IntKind.wrap_u8]; omega
  have h : (convert 63 5 (.int .u64 (n : Int))).run Tryd.prog w = .ok (.int .u8 (IntKind.u8.wrap (n : Int))) w := by kernel_rfl
  rw [e] at h
  unfold execOp
  simp only [ho, hx, Sem.run_bind, h, Result.andThen_ok]
  rfl
theorem exec_tr16 {x : Operand} {n : Nat} (ho : o.op = .convert 63 25 x) (hx : ev x = .int .u64 (n : Int)) : (execOp ev o).run Tryd.prog w = .ok (.value (.int .u16 ((n % 65536 : Nat) : Int))) w := by
  have e : IntKind.u16.wrap (n : Int) = ((n % 65536 : Nat) : Int) := by rw [IntKind.wrap_u16]; omega
  have h : (convert 63 25 (.int .u64 (n : Int))).run Tryd.prog w = .ok (.int .u16 (IntKind.u16.wrap (n : Int))) w := by kernel_rfl
  rw [e] at h
  unfold execOp
  simp only [ho, hx, Sem.run_bind, h, Result.andThen_ok]
  rfl
theorem exec_tr63 {x : Operand} {n : Nat} (ho : o.op = .convert 63 22 x) (hx : ev x = .int .u64 (n : Int)) : (execOp ev o).run Tryd.prog w = .ok (.value (.int .u32 ((n % 4294967296 : Nat) : Int))) w := by
  have e : IntKind.u32.wrap (n : Int) = ((n % 4294967296 : Nat) : Int) := by rw [IntKind.wrap_u32]; omega
  have h : (convert 63 22 (.int .u64 (n : Int))).run Tryd.prog w = .ok (.int .u32 (IntKind.u32.wrap (n : Int))) w := by kernel_rfl
  rw [e] at h
  unfold execOp
  simp only [ho, hx, Sem.run_bind, h, Result.andThen_ok]
  rfl
theorem exec_build29d {x1 x2 x3 x4 x5 x6 : Operand} {p : O} (ho : o.op = .build 29 #[(1, x1), (2, x2), (3, x3), (4, x4), (5, x5), (6, x6)]) (hr : p.r = 0) (hs : p.s = 0) (h1 : ev x1 = .int .u8 (p.k : Int)) (h2 : ev x2 = .int .u16 (p.c : Int)) (h3 : ev x3 = .int .u16 (p.i : Int)) (h4 : ev x4 = .int .u16 (p.q : Int)) (h5 : ev x5 = .int .u32 (p.t : Int)) (h6 : ev x6 = .agg p.v.arr) : (execOp ev o).run Tryd.prog w = .ok (.value (.agg p.arr)) w := by
  have hm : (#[((1 : Nat), x1), (2, x2), (3, x3), (4, x4), (5, x5), (6, x6)]).map (fun (i, x) => (i, ev x)) = #[(1, .int .u8 (p.k : Int)), (2, .int .u16 (p.c : Int)), (3, .int .u16 (p.i : Int)), (4, .int .u16 (p.q : Int)), (5, .int .u32 (p.t : Int)), (6, .agg p.v.arr)] := by simp [h1, h2, h3, h4, h5, h6]
  unfold execOp
  simp only [ho, hm, Sem.run_bind, build29d p w hr hs, Result.andThen_ok]
  rfl
theorem exec_build24 {x0 x1 : Operand} {r s : Nat} (ho : o.op = .build 24 #[(0, x0), (1, x1)]) (h0 : ev x0 = .int .u8 (r : Int)) (h1 : ev x1 = .int .u32 (s : Int)) : (execOp ev o).run Tryd.prog w = .ok (.value (dotV r s)) w := by
  have hm : (#[((0 : Nat), x0), (1, x1)]).map (fun (i, x) => (i, ev x)) = #[(0, .int .u8 (r : Int)), (1, .int .u32 (s : Int))] := by simp [h0, h1]
  have hb : (Instr.build 24 #[(0, .int .u8 (r : Int)), (1, .int .u32 (s : Int))]).run Tryd.prog w = .ok (dotV r s) w := by kernel_rfl
  unfold execOp
  simp only [ho, hm, Sem.run_bind, hb, Result.andThen_ok]
  rfl
/-- The dot stored into an operation. -/
theorem exec_store24 {x y : Operand} {g r s : Nat} {p : O} (ho : o.op = .store 24 x y) (hx : ev x = .pointer (some ⟨g, 0, none⟩)) (hy : ev y = dotV r s) (h : Blk w g 29 p.arr) : (execOp ev o).run Tryd.prog w = .ok .skip ((w.setCell ⟨g, 0, none⟩ (.int .u8 (r : Int))).setCell ⟨g, 1, none⟩ (.int .u32 (s : Int))) := by
  have hst := run_storeAt_mid (P := Tryd.prog) w g 0 24 #[.int .u8 (r : Int), .int .u32 (s : Int)] (fun j hj => by
    have hj2 : j < 2 := hj
    have : j = 0 ∨ j = 1 := by omega
    rcases this with rfl | rfl
    · exact ⟨by rw [oc0 h]; rfl, h.frozen 0⟩
    · exact ⟨by rw [oc1 h]; rfl, h.frozen 1⟩) (by kernel_rfl) (by simp [Value.oneCell'])
  unfold execOp
  simp only [ho, hx, hy, Sem.run_bind, hst, Result.andThen_ok]
  rfl
end

/-- The same operation with no dot. -/
def O.of0 (bs : List Nat) (v : V) : O := ⟨0, 0, (O.of bs v).k, (O.of bs v).c, (O.of bs v).i, (O.of bs v).q, (O.of bs v).t, v, by omega, by omega, (O.of bs v).hk, (O.of bs v).hc, (O.of bs v).hi, (O.of bs v).hq, (O.of bs v).ht⟩
theorem of0_dot {w : World} {g : Nat} {bs : List Nat} {v : V} (h : Blk w g 29 (O.of0 bs v).arr) : Blk ((w.setCell ⟨g, 0, none⟩ (.int .u8 ((O.x bs 0 % 256 : Nat) : Int))).setCell ⟨g, 1, none⟩ (.int .u32 ((O.x bs 1 % 4294967296 : Nat) : Int))) g 29 (O.of bs v).arr := by
  have h1 := (h.set 0 (.int .u8 ((O.x bs 0 % 256 : Nat) : Int))).set 1 (.int .u32 ((O.x bs 1 % 4294967296 : Nat) : Int))
  have e : (((O.of0 bs v).arr.setIfInBounds 0 (.int .u8 ((O.x bs 0 % 256 : Nat) : Int))).setIfInBounds 1 (.int .u32 ((O.x bs 1 % 4294967296 : Nat) : Int))) = (O.of bs v).arr := by
    unfold O.arr O.cs O.hd
    rfl
  rw [e] at h1
  exact h1

/-- What the document's Decode has made. -/
structure Rso (w W : World) (q : Nat) (b : Option Addr) (m d : Nat) (r : List Nat) (na : Option Addr) (k nc : Nat) (l : List Nat) (z : O) : Prop where
  ans : Blk W w.heap.size 29 z.arr
  rdr : Blk W q 101 #[.slice b m d, .int .i64 0]
  sub : Sub W b m d r w.heap.size
  own : OwnN W (q + 1) na k nc l
  old : Below w.heap.size w W
  gt : w.heap.size < q
section
variable {w W W' : World} {q : Nat} {b na : Option Addr} {m d k nc : Nat} {r l : List Nat} {z : O}
theorem Rso.below (h : Rso w W q b m d r na k nc l z) (hb : Below W.heap.size W W') : Rso w W' q b m d r na k nc l z :=
  ⟨h.ans.below hb, h.rdr.below hb, h.sub.below (hb.mono h.old.size), h.own.below hb, h.old.trans (hb.mono h.old.size), h.gt⟩
theorem Rso.next {b' : Option Addr} {m' d' : Nat} {r' : List Nat} (h : Rso w W q b m d r na k nc l z) (hs : Sub W b' m' d' r' w.heap.size) : Rso w (W.setRow q #[.slice b' m' d', .int .i64 0]) q b' m' d' r' na k nc l z := by
  have k1 := Kept.setRow W q #[.slice b' m' d', .int .i64 0]
  have hg := h.gt
  have hb : Below w.heap.size W (W.setRow q #[.slice b' m' d', .int .i64 0]) := k1.below h.old.size (fun j hj => by omega)
  exact ⟨h.ans.kept k1 (by omega), h.rdr.row, hs.below hb, h.own.keep k1 (fun ad ha => by have := (h.own.lt ad ha).1; omega), h.old.trans hb, hg⟩
theorem Rso.add {na' : Option Addr} {k' nc' : Nat} {l' : List Nat} (h : Rso w W q b m d r na k nc l z) (ho : OwnN W' (q + 1) na' k' nc' l') (hk : Kept (fun k => ∃ ad, na = some ad ∧ k = ad.block) W W') : Rso w W' q b m d r na' k' nc' l' z := by
  have hge : ∀ j, (∃ ad, na = some ad ∧ j = ad.block) → q + 1 ≤ j := fun j ⟨ad, h1, h2⟩ => by have := (h.own.lt ad h1).1; omega
  have hg := h.gt
  have hb : Below w.heap.size W W' := hk.below h.old.size (fun j hj => by have := hge _ hj; omega)
  exact ⟨h.ans.kept hk (fun hh => by have := hge _ hh; omega), h.rdr.kept hk (fun hh => by have := hge _ hh; omega), h.sub.below hb, ho, h.old.trans hb, hg⟩
theorem Rso.ret (h : Rso w W q b m d r na k nc l z) {ds : Array Value} : Below w.heap.size w (W.setRow w.heap.size ds) :=
  h.old.trans ((Kept.setRow W w.heap.size ds).below h.old.size (fun k hk => by omega))
end

/-- The answer's block, the numbers and the vector. -/
structure Rp (w W : World) (q g nc : Nat) (bs : List Nat) (z : O) (qv : Nat) (v : V) : Prop where
  ans : Blk W w.heap.size 29 z.arr
  own : OwnN W (q + 1) (some ⟨g, 0, none⟩) 7 nc (O.xs bs 7)
  vec : Blk W qv 27 v.arr
  old : Below w.heap.size w W
theorem Rp.below {w W W' : World} {q g nc : Nat} {bs : List Nat} {z : O} {qv : Nat} {v : V} (h : Rp w W q g nc bs z qv v) (hb : Below W.heap.size W W') : Rp w W' q g nc bs z qv v := ⟨h.ans.below hb, h.own.below hb, h.vec.below hb, h.old.trans (hb.mono h.old.size)⟩
theorem Rp.num {w W : World} {q g nc : Nat} {bs : List Nat} {z : O} {qv : Nat} {v : V} (h : Rp w W q g nc bs z qv v) {j : Nat} (hj : j < 7) : W.cell? ⟨g, j, none⟩ = some (.int .u64 (O.x bs j : Int)) :=
  h.own.cell (by simp [O.xs, hj])
structure Rq (w W : World) (q g nc : Nat) (bs : List Nat) (z : O) (qo : Nat) (u : O) : Prop where
  ans : Blk W w.heap.size 29 z.arr
  own : OwnN W (q + 1) (some ⟨g, 0, none⟩) 7 nc (O.xs bs 7)
  op : Blk W qo 29 u.arr
  old : Below w.heap.size w W
theorem Rq.below {w W W' : World} {q g nc : Nat} {bs : List Nat} {z : O} {qo : Nat} {u : O} (h : Rq w W q g nc bs z qo u) (hb : Below W.heap.size W W') : Rq w W' q g nc bs z qo u := ⟨h.ans.below hb, h.own.below hb, h.op.below hb, h.old.trans (hb.mono h.old.size)⟩
theorem Rq.num {w W : World} {q g nc : Nat} {bs : List Nat} {z : O} {qo : Nat} {u : O} (h : Rq w W q g nc bs z qo u) {j : Nat} (hj : j < 7) : W.cell? ⟨g, j, none⟩ = some (.int .u64 (O.x bs j : Int)) :=
  h.own.cell (by simp [O.xs, hj])
/-- The seven numbers where they lie. -/
def Sn (g : Nat) (bs : List Nat) (W : World) : Prop := ∀ j, j < 7 → W.cell? ⟨g, j, none⟩ = some (.int .u64 (O.x bs j : Int))
/-- What stands behind all: the answer's block and the operation. -/
structure Rz (w W : World) (z : O) (qo : Nat) (u : O) : Prop where
  ans : Blk W w.heap.size 29 z.arr
  op : Blk W qo 29 u.arr
  old : Below w.heap.size w W
theorem Rz.below {w W W' : World} {z : O} {qo : Nat} {u : O} (h : Rz w W z qo u) (hb : Below W.heap.size W W') : Rz w W' z qo u := ⟨h.ans.below hb, h.op.below hb, h.old.trans (hb.mono h.old.size)⟩
theorem Rz.ret {w W : World} {z : O} {qo : Nat} {u : O} (h : Rz w W z qo u) {ds : Array Value} : Below w.heap.size w (W.setRow w.heap.size ds) :=
  h.old.trans ((Kept.setRow W w.heap.size ds).below h.old.size (fun k hk => by omega))

set_option maxHeartbeats 8000000 in
set_option maxRecDepth 100000 in
theorem rdecode_op (a : Option Addr) (len cap : Nat) (bs : List Nat) (w : World) (hl : len ≤ 1000000) (hR : Row w a len bs) (hc : len ≤ cap) (hz : a = none → len = 0 ∧ cap = 0) : Calls Tryd.prog 62 #[.slice a len cap] w (DecP bs w) := by
  obtain ⟨z, hz0⟩ : ∃ z, O.zero = z := ⟨_, rfl⟩
  have HZ := Lib.hid hz0
  obtain ⟨zv, hzv⟩ : ∃ z, V.zero = z := ⟨_, rfl⟩
  have HZV := Lib.hid hzv
  have HSM := Lib.hid hR.small
  have HR0 := Lib.hid hR
  have hb0 := below_one w (.cells z.arr 29)
  have HSUB : Hid (∀ W, Below w.heap.size w W → Sub W a len cap bs w.heap.size) := Lib.hid (fun W hb => ⟨hR.below hb, hc, hz, hl, hR.lt⟩)
  clear hR hz hz0 hzv hb0
  go_enter Tryd.func62, Tryd.ntmps62
  go_wp2_with (first | (refine wpList_run rfl (exec_alloc29z HZ.out rfl) ?_) | (refine wpList_stop101 rfl ?_))
  refine ⟨?_⟩
  have hq : (w.alloc (.cells z.arr 29)).heap.size = w.heap.size + 1 := by simp
  have hnew := Blk.new (w.alloc (.cells z.arr 29)) 101 #[.slice none 0 0, .int .i64 0]
  rw [hq] at hnew
  refine wpList_store101 rfl rfl rfl rfl hnew ?_
  have HR : Hid (Rso w (((w.alloc (.cells z.arr 29)).alloc (.cells #[.slice none 0 0, .int .i64 0] 101)).setRow (w.heap.size + 1) #[.slice a len cap, .int .i64 0]) (w.heap.size + 1) a len cap (O.st bs 0).2 none 0 0 (O.xs bs 0) z) := by
    rw [← hq]
    obtain ⟨hl1, hl2⟩ := laid101 (w.alloc (.cells z.arr 29)) (.slice a len cap) (.int .i64 0) (.slice none 0 0) (.int .i64 0)
    have hbb := (below_one w (.cells z.arr 29)).trans (hl2.mono (below_one w (.cells z.arr 29)).size)
    exact Lib.hid ⟨(Blk.new w 29 z.arr).below hl2, hl1, HSUB.out _ hbb, ownN_nil _ _, hbb, by simp⟩
  clear hq hnew
  generalize ((w.alloc (.cells z.arr 29)).alloc (.cells #[.slice none 0 0, .int .i64 0] 101)).setRow (w.heap.size + 1) #[.slice a len cap, .int .i64 0] = W at HR
  generalize w.heap.size + 1 = q at HR
  have HE00 : Hid ((O.st bs 0).1 = 0) := Lib.hid rfl
  go_wp2_with fail
  go_loopw [5, 6] (fun nsl i wr => ∃ (k m d nc : Nat) (b na : Option Addr), k ≤ 7 ∧ i = .int .i64 (k : Int) ∧ nsl = .slice na k nc ∧ Hid (Rso w wr q b m d (O.st bs k).2 na k nc (O.xs bs k) z) ∧ Hid ((O.st bs k).1 = 0)) (fun _ i _ => 7 - (intOf i).toNat)
  case atStart => exact ⟨0, len, cap, 0, a, none, by omega, rfl, rfl, HR, HE00⟩
  case round =>
    obtain ⟨k, m, d, nc, b, na, hk, rfl, rfl, HR, HE0⟩ := hrel
    by_cases hlt : k < 7
    · have HJ : Hid (Calls Tryd.prog 59 #[.agg #[.slice b m d, .int .i64 0]] wr (RNumd (numX 0 (O.st bs k).2) (numE 0 (O.st bs k).2) (numB 0 (O.st bs k).2) w.heap.size wr)) := Lib.hid (refnum_any 0 b m d _ w.heap.size wr HR.out.old.size HR.out.sub)
      go_wp2_with (refine wpList_load101 rfl rfl rfl HR.out.rdr ?_)
      refine HJ.out.mono ?_
      rintro e w3 ⟨b3, m3, d3, rfl, hs3, hb3⟩
      have HR3 := Lib.hid (HR.out.below hb3)
      have hs3' : Sub w3 b3 m3 d3 (O.st bs (k + 1)).2 w.heap.size := by rw [O.st, HE0.out]; exact hs3
      have HS3 := Lib.hid hs3'
      clear hs3 hs3' hb3 HJ
      have HXL := Lib.hid (num_lt (er := 0) (O.st_lt HSM.out k))
      have HXA : Hid (O.x bs k = numX 0 (O.st bs k).2) := Lib.hid (by rw [O.x, HE0.out])
      have HEA : Hid ((O.st bs (k + 1)).1 = numE 0 (O.st bs k).2) := Lib.hid (by rw [O.st, HE0.out])
      generalize numX 0 (O.st bs k).2 = x at HXL HXA
      generalize numE 0 (O.st bs k).2 = er3 at HEA
      go_wp2_with (refine wpList_stop101 rfl ?_)
      refine ⟨?_⟩
      refine wpList_store101 rfl rfl rfl rfl (Blk.new w3 101 _) ?_
      obtain ⟨hl1, hl2⟩ := laid101 w3 (.slice b3 m3 d3) (.int .i64 (er3 : Int)) (.slice none 0 0) (.int .i64 0)
      have HR4 := Lib.hid (HR3.out.below hl2)
      have HS4 := Lib.hid (HS3.out.below (hl2.mono HR3.out.old.size))
      have HQ4 := Lib.hid hl1
      clear hl1 hl2
      generalize (w3.alloc (.cells #[.slice none 0 0, .int .i64 0] 101)).setRow w3.heap.size #[.slice b3 m3 d3, .int .i64 (er3 : Int)] = w4 at HR4 HS4 HQ4
      generalize w3.heap.size = q4 at HQ4
      by_cases he3 : er3 = 0
      · subst he3
        go_wp2_with (first | (refine wpList_load101 rfl rfl rfl HQ4.out ?_) | (refine wpList_stop101 rfl ?_))
        refine ⟨?_⟩
        refine wpList_store101 rfl rfl rfl rfl HR4.out.rdr ?_
        have HR5 := Lib.hid (HR4.out.next HS4.out)
        generalize w4.setRow q #[.slice b3 m3 d3, .int .i64 ((0 : Nat) : Int)] = w5 at HR5
        have HR6 := Lib.hid (HR5.out.below (below_one w5 (.cells #[.int .u64 (x : Int)] 63)))
        go_wp2_with (at_builtin; refine wpList_appendN rfl rfl rfl rfl HR6.out.own (Blk.new w5 63 #[.int .u64 (x : Int)]) (by omega) HR6.out.rdr.lt ?_; intro na7 nc7 w7 ho7 hk7; have HR7 := Lib.hid (HR6.out.add ho7 hk7); clear ho7 hk7)
        go_roundw
        case rel =>
          refine ⟨k + 1, m3, d3, nc7, b3, na7, by omega, by go_num, rfl, Lib.hid ?_, HEA⟩
          rw [O.xs_succ, HXA.out]
          exact HR7.out
        case measure => simp [intOf]; omega
      · have hne : ((er3 : Int) != 0) = true := by simp; omega
        have HE := Lib.hid (O.dec_no (bs := bs) (fun u _ hu => by
          have := ((O.dec_bytes hu).1 k hlt).2
          rw [show numE (O.st bs k).1 (O.st bs k).2 = (O.st bs (k + 1)).1 from rfl, HEA.out] at this
          exact he3 this))
        go_wp2_with (first | (refine wpList_run rfl (exec_zero29z HZ.out rfl) ?_) | (refine wpList_stop29 rfl ?_))
        refine ⟨?_⟩
        refine wpList_void rfl rfl (exec_store29 (p := z) (u := z) rfl rfl rfl HR4.out.ans) ?_
        go_wp2_with fail
        rw [HZ.out] at HE
        exact bodyPost_ret (ret29_two (t := 2) (s := 3) (y := .int .i64 5) rfl rfl rfl HR4.out.ans.row) rfl (decP_of HE.out HR4.out.ret)
    · obtain rfl : k = 7 := by omega
      have HJ : Hid (Calls Tryd.prog 61 #[.agg #[.slice b m d, .int .i64 0]] wr (RBytd2 (bytX 0 (O.st bs 7).2) (bytE 0 (O.st bs 7).2) (bytB 0 (O.st bs 7).2) w.heap.size wr)) := Lib.hid (refbytes2_any 0 b m d _ w.heap.size wr HR.out.old.size HR.out.sub)
      have HY : Hid (∀ u : O, u.bytes = bs → bytX 0 (O.st bs 7).2 = V.bytes u.v ∧ bytE 0 (O.st bs 7).2 = 0) := Lib.hid (fun u hu => by
        obtain ⟨_, e2, e3, e4, _⟩ := O.dec_bytes hu
        rw [e2]
        exact ⟨e3, e4⟩)
      generalize bytX 0 (O.st bs 7).2 = y at HJ HY
      generalize bytE 0 (O.st bs 7).2 = er at HJ HY
      go_wp2_with (refine wpList_load101 rfl rfl rfl HR.out.rdr ?_)
      refine HJ.out.mono ?_
      rintro e w3 ⟨b3, m3, d3, b4, m4, d4, rfl, hs3, hs4, hb3⟩
      have HR3 := Lib.hid (HR.out.below hb3)
      have HS4 := Lib.hid hs4
      clear hs3 hs4 hb3 HJ
      go_wp2_with (refine wpList_stop101 rfl ?_)
      refine ⟨?_⟩
      refine wpList_store101 rfl rfl rfl rfl (Blk.new w3 101 _) ?_
      obtain ⟨hl1, hl2⟩ := laid101 w3 (.slice b3 m3 d3) (.int .i64 (er : Int)) (.slice none 0 0) (.int .i64 0)
      have HR4 := Lib.hid (HR3.out.below hl2)
      have HS5 := Lib.hid (HS4.out.below (hl2.mono HR3.out.old.size))
      clear hl1 hl2 HR3 HS4
      generalize (w3.alloc (.cells #[.slice none 0 0, .int .i64 0] 101)).setRow w3.heap.size #[.slice b3 m3 d3, .int .i64 (er : Int)] = w4 at HR4 HS5
      by_cases he : er = 0
      · subst he
        have HDC := Lib.hid (rdecode_any b4 m4 d4 y w4 HS5.out.room HS5.out.row HS5.out.le HS5.out.nil)
        have HDV : Hid (∀ u : O, u.bytes = bs → decV y = u.v ∧ decE y = 0) := Lib.hid (fun u hu => by
          obtain ⟨d1, d2⟩ := dec_yes (HY.out u hu).1.symm
          exact ⟨d2, d1⟩)
        generalize decV y = v at HDC HDV
        generalize decE y = E at HDC HDV
        go_wp2_with fail
        refine HDC.out.mono ?_
        rintro e w5 ⟨rfl, hb⟩
        have HR5 := Lib.hid (HR4.out.below hb)
        clear hb HDC HR4 HS5
        go_wp2_with (first | (refine wpList_alloc27 HZV.out rfl rfl ?_) | (refine wpList_stop rfl ?_))
        refine ⟨?_⟩
        refine wpList_store27 rfl rfl rfl rfl (Blk.new w5 27 zv.arr) ?_
        have hlo := laid_old w5 zv v
        have HR6 := Lib.hid (HR5.out.below hlo)
        have HV6 := Lib.hid (laid_blk w5 zv v)
        clear hlo HR5
        generalize (w5.alloc (.cells zv.arr 27)).setRow w5.heap.size v.arr = w6 at HR6 HV6
        generalize w5.heap.size = qv at HV6
        by_cases hE : E = 0
        · subst hE
          obtain ⟨g, hg⟩ := HR6.out.own.at_ (by omega)
          subst hg
          have HP : Hid (Rp w w6 q g nc bs z qv v) := Lib.hid ⟨HR6.out.ans, HR6.out.own, HV6.out, HR6.out.old⟩
          have HUN : Hid (∀ u : O, u.bytes = bs → O.of bs v = u) := Lib.hid (fun u hu => by
            rw [(HDV.out u hu).1]
            exact O.of_bytes hu)
          clear HR6 HV6
          go_wp2_with fail
          refine wp_region_held_drew (S := fun w' => Rp w w' q g nc bs z qv v) (by kernel_rfl) (HP.out.below (Below.refl _ _).drew) (fun hS => ?_)
          refine held_take 0 53 (.slice (some ⟨g, 0, none⟩) 7 nc) rfl rfl (by kernel_rfl) (by kernel_rfl) (by kernel_rfl) (fun _ _ _ h => h) (by kernel_rfl) (fun _ _ => rfl) hS ?_
          simp only [Act.put, List.setIfInBounds_toArray, List.set_cons_zero, List.set_cons_succ]
          refine held_take 1 54 (.pointer (some ⟨g, 2, none⟩)) rfl rfl (by kernel_rfl) (by kernel_rfl) (by kernel_rfl) (fun _ _ _ h => h) (by kernel_rfl) (fun _ _ => exec_index133 2 rfl rfl rfl (by omega)) hS ?_
          simp only [Act.put, List.setIfInBounds_toArray, List.set_cons_zero, List.set_cons_succ]
          refine held_take 2 55 (.int .u64 (O.x bs 2 : Int)) rfl rfl (by kernel_rfl) (by kernel_rfl) (by kernel_rfl) (fun _ _ _ h => h) (by kernel_rfl) (fun _ h => exec_cell rfl rfl (load_cell (by kernel_rfl) (h.num (by omega)))) hS ?_
          simp only [Act.put, List.setIfInBounds_toArray, List.set_cons_zero, List.set_cons_succ]
          refine held_take 3 56 (.int .u8 ((O.x bs 2 % 256 : Nat) : Int)) rfl rfl (by kernel_rfl) (by kernel_rfl) (by kernel_rfl) (fun _ _ _ h => h) (by kernel_rfl) (fun _ _ => exec_tr8 rfl rfl) hS ?_
          simp only [Act.put, List.setIfInBounds_toArray, List.set_cons_zero, List.set_cons_succ]
          refine held_take 4 57 (.slice (some ⟨g, 0, none⟩) 7 nc) rfl rfl (by kernel_rfl) (by kernel_rfl) (by kernel_rfl) (fun _ _ _ h => h) (by kernel_rfl) (fun _ _ => rfl) hS ?_
          simp only [Act.put, List.setIfInBounds_toArray, List.set_cons_zero, List.set_cons_succ]
          refine held_take 5 58 (.pointer (some ⟨g, 3, none⟩)) rfl rfl (by kernel_rfl) (by kernel_rfl) (by kernel_rfl) (fun _ _ _ h => h) (by kernel_rfl) (fun _ _ => exec_index133 3 rfl rfl rfl (by omega)) hS ?_
          simp only [Act.put, List.setIfInBounds_toArray, List.set_cons_zero, List.set_cons_succ]
          refine held_take 6 59 (.int .u64 (O.x bs 3 : Int)) rfl rfl (by kernel_rfl) (by kernel_rfl) (by kernel_rfl) (fun _ _ _ h => h) (by kernel_rfl) (fun _ h => exec_cell rfl rfl (load_cell (by kernel_rfl) (h.num (by omega)))) hS ?_
          simp only [Act.put, List.setIfInBounds_toArray, List.set_cons_zero, List.set_cons_succ]
          refine held_take 7 60 (.int .u16 ((O.x bs 3 % 65536 : Nat) : Int)) rfl rfl (by kernel_rfl) (by kernel_rfl) (by kernel_rfl) (fun _ _ _ h => h) (by kernel_rfl) (fun _ _ => exec_tr16 rfl rfl) hS ?_
          simp only [Act.put, List.setIfInBounds_toArray, List.set_cons_zero, List.set_cons_succ]
          refine held_take 8 61 (.slice (some ⟨g, 0, none⟩) 7 nc) rfl rfl (by kernel_rfl) (by kernel_rfl) (by kernel_rfl) (fun _ _ _ h => h) (by kernel_rfl) (fun _ _ => rfl) hS ?_
          simp only [Act.put, List.setIfInBounds_toArray, List.set_cons_zero, List.set_cons_succ]
          refine held_take 9 62 (.pointer (some ⟨g, 4, none⟩)) rfl rfl (by kernel_rfl) (by kernel_rfl) (by kernel_rfl) (fun _ _ _ h => h) (by kernel_rfl) (fun _ _ => exec_index133 4 rfl rfl rfl (by omega)) hS ?_
          simp only [Act.put, List.setIfInBounds_toArray, List.set_cons_zero, List.set_cons_succ]
          refine held_take 10 63 (.int .u64 (O.x bs 4 : Int)) rfl rfl (by kernel_rfl) (by kernel_rfl) (by kernel_rfl) (fun _ _ _ h => h) (by kernel_rfl) (fun _ h => exec_cell rfl rfl (load_cell (by kernel_rfl) (h.num (by omega)))) hS ?_
          simp only [Act.put, List.setIfInBounds_toArray, List.set_cons_zero, List.set_cons_succ]
          refine held_take 11 64 (.int .u16 ((O.x bs 4 % 65536 : Nat) : Int)) rfl rfl (by kernel_rfl) (by kernel_rfl) (by kernel_rfl) (fun _ _ _ h => h) (by kernel_rfl) (fun _ _ => exec_tr16 rfl rfl) hS ?_
          simp only [Act.put, List.setIfInBounds_toArray, List.set_cons_zero, List.set_cons_succ]
          refine held_take 12 65 (.slice (some ⟨g, 0, none⟩) 7 nc) rfl rfl (by kernel_rfl) (by kernel_rfl) (by kernel_rfl) (fun _ _ _ h => h) (by kernel_rfl) (fun _ _ => rfl) hS ?_
          simp only [Act.put, List.setIfInBounds_toArray, List.set_cons_zero, List.set_cons_succ]
          refine held_take 13 66 (.pointer (some ⟨g, 5, none⟩)) rfl rfl (by kernel_rfl) (by kernel_rfl) (by kernel_rfl) (fun _ _ _ h => h) (by kernel_rfl) (fun _ _ => exec_index133 5 rfl rfl rfl (by omega)) hS ?_
          simp only [Act.put, List.setIfInBounds_toArray, List.set_cons_zero, List.set_cons_succ]
          refine held_take 14 67 (.int .u64 (O.x bs 5 : Int)) rfl rfl (by kernel_rfl) (by kernel_rfl) (by kernel_rfl) (fun _ _ _ h => h) (by kernel_rfl) (fun _ h => exec_cell rfl rfl (load_cell (by kernel_rfl) (h.num (by omega)))) hS ?_
          simp only [Act.put, List.setIfInBounds_toArray, List.set_cons_zero, List.set_cons_succ]
          refine held_take 15 68 (.int .u16 ((O.x bs 5 % 65536 : Nat) : Int)) rfl rfl (by kernel_rfl) (by kernel_rfl) (by kernel_rfl) (fun _ _ _ h => h) (by kernel_rfl) (fun _ _ => exec_tr16 rfl rfl) hS ?_
          simp only [Act.put, List.setIfInBounds_toArray, List.set_cons_zero, List.set_cons_succ]
          refine held_take 16 69 (.slice (some ⟨g, 0, none⟩) 7 nc) rfl rfl (by kernel_rfl) (by kernel_rfl) (by kernel_rfl) (fun _ _ _ h => h) (by kernel_rfl) (fun _ _ => rfl) hS ?_
          simp only [Act.put, List.setIfInBounds_toArray, List.set_cons_zero, List.set_cons_succ]
          refine held_take 17 70 (.pointer (some ⟨g, 6, none⟩)) rfl rfl (by kernel_rfl) (by kernel_rfl) (by kernel_rfl) (fun _ _ _ h => h) (by kernel_rfl) (fun _ _ => exec_index133 6 rfl rfl rfl (by omega)) hS ?_
          simp only [Act.put, List.setIfInBounds_toArray, List.set_cons_zero, List.set_cons_succ]
          refine held_take 18 71 (.int .u64 (O.x bs 6 : Int)) rfl rfl (by kernel_rfl) (by kernel_rfl) (by kernel_rfl) (fun _ _ _ h => h) (by kernel_rfl) (fun _ h => exec_cell rfl rfl (load_cell (by kernel_rfl) (h.num (by omega)))) hS ?_
          simp only [Act.put, List.setIfInBounds_toArray, List.set_cons_zero, List.set_cons_succ]
          refine held_take 19 72 (.int .u32 ((O.x bs 6 % 4294967296 : Nat) : Int)) rfl rfl (by kernel_rfl) (by kernel_rfl) (by kernel_rfl) (fun _ _ _ h => h) (by kernel_rfl) (fun _ _ => exec_tr63 rfl rfl) hS ?_
          simp only [Act.put, List.setIfInBounds_toArray, List.set_cons_zero, List.set_cons_succ]
          refine held_take 20 73 (.agg v.arr) rfl rfl (by kernel_rfl) (by kernel_rfl) (by kernel_rfl) (fun _ _ _ h => h) (by kernel_rfl) (fun _ h => exec_load27 rfl rfl h.vec) hS ?_
          simp only [Act.put, List.setIfInBounds_toArray, List.set_cons_zero, List.set_cons_succ]
          refine held_take 21 74 (.agg (O.of0 bs v).arr) rfl rfl (by kernel_rfl) (by kernel_rfl) (by kernel_rfl) (fun _ _ _ h => h) (by kernel_rfl) (fun _ _ => exec_build29d (p := O.of0 bs v) rfl rfl rfl rfl rfl rfl rfl rfl rfl) hS ?_
          simp only [Act.put, List.setIfInBounds_toArray, List.set_cons_zero, List.set_cons_succ]
          refine held_exec 22 15 _ rfl rfl (by kernel_rfl) (by kernel_rfl) (exec_alloc29z HZ.out rfl) (hS.below (below_one _ _)) ?_
          simp only [Act.put, List.setIfInBounds_toArray, List.set_cons_zero, List.set_cons_succ]
          refine held_void 23 rfl rfl (by kernel_rfl) (by kernel_rfl) (exec_store29 (p := z) (u := O.of0 bs v) rfl rfl rfl (Blk.new _ _ _)) (hS.below (olaid_old _ _ _)) ?_
          refine wpAnyH_done (by kernel_rfl) ?_ _
          have HS1 := Lib.hid (hS.below (olaid_old _ z (O.of0 bs v)))
          have HQW : Hid (w.heap.size < w6.drew.heap.size ∧ g < w6.drew.heap.size) := Lib.hid ⟨hS.ans.lt, (hS.own.lt _ rfl).2⟩
          have HO1 := Lib.hid (olaid_blk w6.drew z (O.of0 bs v))
          clear hS HP
          have HP1 : Hid (Rq w ((w6.drew.alloc (.cells z.arr 29)).setRow w6.drew.heap.size (O.of0 bs v).arr) q g nc bs z w6.drew.heap.size (O.of0 bs v)) := Lib.hid ⟨HS1.out.ans, HS1.out.own, HO1.out, HS1.out.old⟩
          have HQG : Hid (w.heap.size < w6.drew.heap.size ∧ g < w6.drew.heap.size) := HQW
          clear HS1 HO1
          generalize (w6.drew.alloc (.cells z.arr 29)).setRow w6.drew.heap.size (O.of0 bs v).arr = w7 at HP1
          generalize w6.drew.heap.size = qo at HP1 HQG
          go_wp2_with fail
          have HP2 := Lib.hid (HP1.out.below (Below.refl _ _).drew)
          refine wp_region_held_drew (S := Sn g bs) (by kernel_rfl) (fun j hj => HP2.out.num hj) (fun hS => ?_)
          refine held_take 0 75 (.slice (some ⟨g, 0, none⟩) 7 nc) rfl rfl (by kernel_rfl) (by kernel_rfl) (by kernel_rfl) (fun _ _ _ h => h) (by kernel_rfl) (fun _ _ => rfl) hS ?_
          simp only [Act.put, List.setIfInBounds_toArray, List.set_cons_zero, List.set_cons_succ]
          refine held_take 1 76 (.pointer (some ⟨g, 0, none⟩)) rfl rfl (by kernel_rfl) (by kernel_rfl) (by kernel_rfl) (fun _ _ _ h => h) (by kernel_rfl) (fun _ _ => exec_index133 0 rfl rfl rfl (by omega)) hS ?_
          simp only [Act.put, List.setIfInBounds_toArray, List.set_cons_zero, List.set_cons_succ]
          refine held_take 2 77 (.int .u64 (O.x bs 0 : Int)) rfl rfl (by kernel_rfl) (by kernel_rfl) (by kernel_rfl) (fun _ _ _ h => h) (by kernel_rfl) (fun _ h => exec_cell rfl rfl (load_cell (by kernel_rfl) (h 0 (by omega)))) hS ?_
          simp only [Act.put, List.setIfInBounds_toArray, List.set_cons_zero, List.set_cons_succ]
          refine held_take 3 78 (.int .u8 ((O.x bs 0 % 256 : Nat) : Int)) rfl rfl (by kernel_rfl) (by kernel_rfl) (by kernel_rfl) (fun _ _ _ h => h) (by kernel_rfl) (fun _ _ => exec_tr8 rfl rfl) hS ?_
          simp only [Act.put, List.setIfInBounds_toArray, List.set_cons_zero, List.set_cons_succ]
          refine held_take 4 79 (.slice (some ⟨g, 0, none⟩) 7 nc) rfl rfl (by kernel_rfl) (by kernel_rfl) (by kernel_rfl) (fun _ _ _ h => h) (by kernel_rfl) (fun _ _ => rfl) hS ?_
          simp only [Act.put, List.setIfInBounds_toArray, List.set_cons_zero, List.set_cons_succ]
          refine held_take 5 80 (.pointer (some ⟨g, 1, none⟩)) rfl rfl (by kernel_rfl) (by kernel_rfl) (by kernel_rfl) (fun _ _ _ h => h) (by kernel_rfl) (fun _ _ => exec_index133 1 rfl rfl rfl (by omega)) hS ?_
          simp only [Act.put, List.setIfInBounds_toArray, List.set_cons_zero, List.set_cons_succ]
          refine held_take 6 81 (.int .u64 (O.x bs 1 : Int)) rfl rfl (by kernel_rfl) (by kernel_rfl) (by kernel_rfl) (fun _ _ _ h => h) (by kernel_rfl) (fun _ h => exec_cell rfl rfl (load_cell (by kernel_rfl) (h 1 (by omega)))) hS ?_
          simp only [Act.put, List.setIfInBounds_toArray, List.set_cons_zero, List.set_cons_succ]
          refine held_take 7 82 (.int .u32 ((O.x bs 1 % 4294967296 : Nat) : Int)) rfl rfl (by kernel_rfl) (by kernel_rfl) (by kernel_rfl) (fun _ _ _ h => h) (by kernel_rfl) (fun _ _ => exec_tr63 rfl rfl) hS ?_
          simp only [Act.put, List.setIfInBounds_toArray, List.set_cons_zero, List.set_cons_succ]
          refine held_take 8 83 (dotV (O.x bs 0 % 256) (O.x bs 1 % 4294967296)) rfl rfl (by kernel_rfl) (by kernel_rfl) (by kernel_rfl) (fun _ _ _ h => h) (by kernel_rfl) (fun _ _ => exec_build24 rfl rfl rfl) hS ?_
          simp only [Act.put, List.setIfInBounds_toArray, List.set_cons_zero, List.set_cons_succ]
          refine held_take 9 84 (.pointer (some ⟨qo, 0, none⟩)) rfl rfl (by kernel_rfl) (by kernel_rfl) (by kernel_rfl) (fun _ _ _ h => h) (by kernel_rfl) (fun _ _ => (by kernel_rfl)) hS ?_
          simp only [Act.put, List.setIfInBounds_toArray, List.set_cons_zero, List.set_cons_succ]
          have k0 := kept_cell w7.drew qo 0 (.int .u8 ((O.x bs 0 % 256 : Nat) : Int))
          have k1 := kept_cell (w7.drew.setCell ⟨qo, 0, none⟩ (.int .u8 ((O.x bs 0 % 256 : Nat) : Int))) qo 1 (.int .u32 ((O.x bs 1 % 4294967296 : Nat) : Int))
          have HZ1 : Hid (Rz w ((w7.drew.setCell ⟨qo, 0, none⟩ (.int .u8 ((O.x bs 0 % 256 : Nat) : Int))).setCell ⟨qo, 1, none⟩ (.int .u32 ((O.x bs 1 % 4294967296 : Nat) : Int))) z qo (O.of bs v)) := by
            have hq := HQG.out.1
            have hb0 := k0.below HP2.out.old.size (fun j hj => by omega)
            have hb1 := k1.below (Nat.le_trans HP2.out.old.size k0.size) (fun j hj => by omega)
            exact Lib.hid ⟨(HP2.out.ans.kept k0 (by omega)).kept k1 (by omega), of0_dot HP2.out.op, (HP2.out.old.trans hb0).trans hb1⟩
          refine held_void 10 rfl rfl (by kernel_rfl) (by kernel_rfl) (exec_store24 (p := O.of0 bs v) rfl rfl rfl HP2.out.op) (fun j hj => k1.at_ (k0.at_ (hS j hj) (by have := HQG.out.2; omega)) (by have := HQG.out.2; omega)) ?_
          refine wpAnyH_done (by kernel_rfl) ?_ _
          clear k0 k1 hS HP1 HP2 HQG
          generalize (w7.drew.setCell ⟨qo, 0, none⟩ (.int .u8 ((O.x bs 0 % 256 : Nat) : Int))).setCell ⟨qo, 1, none⟩ (.int .u32 ((O.x bs 1 % 4294967296 : Nat) : Int)) = w8 at HZ1
          generalize O.of bs v = u at HZ1 HUN
          have HRT := Lib.hid (fun w => rright_op u 16 w (by omega) (by omega))
          go_wp2_with fail
          cases hr : u.rightB 16
          · have HE := Lib.hid (O.dec_no (bs := bs) (fun u0 h1 h2 => by rw [← HUN.out u0 h2, hr] at h1; cases h1))
            rw [hr] at HRT
            clear hr
            refine wp_region_held_drew (S := fun w' => Rz w w' z qo u) (by kernel_rfl) (HZ1.out.below (Below.refl _ _).drew) (fun hS => ?_)
            refine held_take 0 85 (.agg u.arr) rfl rfl (by kernel_rfl) (by kernel_rfl) (by kernel_rfl) (fun _ _ _ h => h) (by kernel_rfl) (fun _ h => exec_load29 (p := u) rfl rfl h.op) hS ?_
            simp only [Act.put, List.setIfInBounds_toArray, List.set_cons_zero, List.set_cons_succ]
            refine held_call 1 86 37 #[(.agg u.arr), (.int .i64 16)] (.bool false) rfl (by kernel_rfl) rfl (by kernel_rfl) (by kernel_rfl) (HRT.out _) (fun _ h hb => h.below hb) hS (fun w101 hS => ?_)
            simp only [Act.put, List.setIfInBounds_toArray, List.set_cons_zero, List.set_cons_succ]
            refine held_take 2 87 (.bool true) rfl rfl (by kernel_rfl) (by kernel_rfl) (by kernel_rfl) (fun _ _ _ h => h) (by kernel_rfl) (fun _ _ => rfl) hS ?_
            simp only [Act.put, List.setIfInBounds_toArray, List.set_cons_zero, List.set_cons_succ]
            refine held_take 3 88 (.bool true) rfl rfl (by kernel_rfl) (by kernel_rfl) (by kernel_rfl) (fun _ _ _ h => h) (by kernel_rfl) (fun _ _ => rfl) hS ?_
            simp only [Act.put, List.setIfInBounds_toArray, List.set_cons_zero, List.set_cons_succ]
            refine held_skip 4 89 rfl rfl (by kernel_rfl) (by kernel_rfl) (by kernel_rfl) (fun _ _ _ h => h) (by kernel_rfl) hS ?_
            simp only [Act.put, List.setIfInBounds_toArray, List.set_cons_zero, List.set_cons_succ]
            refine held_skip 5 90 rfl rfl (by kernel_rfl) (by kernel_rfl) (by kernel_rfl) (fun _ _ _ h => h) (by kernel_rfl) hS ?_
            simp only [Act.put, List.setIfInBounds_toArray, List.set_cons_zero, List.set_cons_succ]
            refine held_skip 6 91 rfl rfl (by kernel_rfl) (by kernel_rfl) (by kernel_rfl) (fun _ _ _ h => h) (by kernel_rfl) hS ?_
            simp only [Act.put, List.setIfInBounds_toArray, List.set_cons_zero, List.set_cons_succ]
            refine held_skip 7 92 rfl rfl (by kernel_rfl) (by kernel_rfl) (by kernel_rfl) (fun _ _ _ h => h) (by kernel_rfl) hS ?_
            simp only [Act.put, List.setIfInBounds_toArray, List.set_cons_zero, List.set_cons_succ]
            refine held_skip 8 93 rfl rfl (by kernel_rfl) (by kernel_rfl) (by kernel_rfl) (fun _ _ _ h => h) (by kernel_rfl) hS ?_
            simp only [Act.put, List.setIfInBounds_toArray, List.set_cons_zero, List.set_cons_succ]
            refine held_skip 9 94 rfl rfl (by kernel_rfl) (by kernel_rfl) (by kernel_rfl) (fun _ _ _ h => h) (by kernel_rfl) hS ?_
            simp only [Act.put, List.setIfInBounds_toArray, List.set_cons_zero, List.set_cons_succ]
            refine held_take 10 95 (.bool true) rfl rfl (by kernel_rfl) (by kernel_rfl) (by kernel_rfl) (fun _ _ _ h => h) (by kernel_rfl) (fun _ _ => rfl) hS ?_
            simp only [Act.put, List.setIfInBounds_toArray, List.set_cons_zero, List.set_cons_succ]
            refine wpAnyH_done (by kernel_rfl) ?_ _
            have HS9 := Lib.hid hS
            clear hS
            go_wp2_with (first | (refine wpList_run rfl (exec_zero29z HZ.out rfl) ?_) | (refine wpList_stop29 rfl ?_))
            refine ⟨?_⟩
            refine wpList_void rfl rfl (exec_store29 (p := z) (u := z) rfl rfl rfl HS9.out.ans) ?_
            go_wp2_with fail
            rw [HZ.out] at HE
            exact bodyPost_ret (ret29_two (t := 2) (s := 3) (y := .int .i64 5) rfl rfl rfl HS9.out.ans.row) rfl (decP_of HE.out HS9.out.ret)
          · by_cases hq : u.bytes = bs
            · have HE := Lib.hid (O.dec_yes hr hq)
              have HQ : Hid ((!((strOf u.bytes).toList == (strOf bs).toList)) = false) := Lib.hid (by rw [hq]; simp)
              rw [hr] at HRT
              clear hr hq
              refine wp_region_held_drew (S := fun w' => Rz w w' z qo u) (by kernel_rfl) (HZ1.out.below (Below.refl _ _).drew) (fun hS => ?_)
              refine held_take 0 85 (.agg u.arr) rfl rfl (by kernel_rfl) (by kernel_rfl) (by kernel_rfl) (fun _ _ _ h => h) (by kernel_rfl) (fun _ h => exec_load29 (p := u) rfl rfl h.op) hS ?_
              simp only [Act.put, List.setIfInBounds_toArray, List.set_cons_zero, List.set_cons_succ]
              refine held_call 1 86 37 #[(.agg u.arr), (.int .i64 16)] (.bool true) rfl (by kernel_rfl) rfl (by kernel_rfl) (by kernel_rfl) (HRT.out _) (fun _ h hb => h.below hb) hS (fun w101 hS => ?_)
              simp only [Act.put, List.setIfInBounds_toArray, List.set_cons_zero, List.set_cons_succ]
              refine held_take 2 87 (.bool false) rfl rfl (by kernel_rfl) (by kernel_rfl) (by kernel_rfl) (fun _ _ _ h => h) (by kernel_rfl) (fun _ _ => rfl) hS ?_
              simp only [Act.put, List.setIfInBounds_toArray, List.set_cons_zero, List.set_cons_succ]
              refine held_take 3 88 (.bool false) rfl rfl (by kernel_rfl) (by kernel_rfl) (by kernel_rfl) (fun _ _ _ h => h) (by kernel_rfl) (fun _ _ => rfl) hS ?_
              simp only [Act.put, List.setIfInBounds_toArray, List.set_cons_zero, List.set_cons_succ]
              refine held_take 4 89 (.agg u.arr) rfl rfl (by kernel_rfl) (by kernel_rfl) (by kernel_rfl) (fun _ _ _ h => h) (by kernel_rfl) (fun _ h => exec_load29 (p := u) rfl rfl h.op) hS ?_
              simp only [Act.put, List.setIfInBounds_toArray, List.set_cons_zero, List.set_cons_succ]
              refine held_take 7 92 (.slice a len cap) rfl rfl (by kernel_rfl) (by kernel_rfl) (by kernel_rfl) (fun _ _ _ h => h) (by kernel_rfl) (fun _ _ => rfl) hS ?_
              simp only [Act.put, List.setIfInBounds_toArray, List.set_cons_zero, List.set_cons_succ]
              refine held_take 8 93 (.string (strOf bs)) rfl rfl (by kernel_rfl) (by kernel_rfl) (by kernel_rfl) (fun _ _ _ h => h) (by kernel_rfl) (fun _ h => exec_str rfl rfl (conv_any (HR0.out.below h.old))) hS ?_
              simp only [Act.put, List.setIfInBounds_toArray, List.set_cons_zero, List.set_cons_succ]
              refine held_callP 5 90 73 #[(.agg u.arr)] rfl (by kernel_rfl) rfl (by kernel_rfl) (by kernel_rfl) (rbytes_op u _) (fun e w105 hP => ?_)
              obtain ⟨ga5, ca5, rfl, ho5, hb5⟩ := hP
              refine ⟨_, rfl, hS.below hb5, fun hS => ?_⟩
              simp only [Act.put, List.setIfInBounds_toArray, List.set_cons_zero, List.set_cons_succ]
              refine held_run 6 91 (.string (strOf u.bytes)) rfl rfl (by kernel_rfl) (by kernel_rfl) (exec_str rfl rfl (conv_any (ho5.row u.bytes_lt))) hS ?_
              simp only [Act.put, List.setIfInBounds_toArray, List.set_cons_zero, List.set_cons_succ]
              refine held_take 9 94 (.bool false) rfl rfl (by kernel_rfl) (by kernel_rfl) (by kernel_rfl) (fun _ _ _ h => h) (by kernel_rfl) (fun _ _ => exec_neqS rfl rfl rfl HQ.out) hS ?_
              simp only [Act.put, List.setIfInBounds_toArray, List.set_cons_zero, List.set_cons_succ]
              refine held_take 10 95 (.bool false) rfl rfl (by kernel_rfl) (by kernel_rfl) (by kernel_rfl) (fun _ _ _ h => h) (by kernel_rfl) (fun _ _ => rfl) hS ?_
              simp only [Act.put, List.setIfInBounds_toArray, List.set_cons_zero, List.set_cons_succ]
              refine wpAnyH_done (by kernel_rfl) ?_ _
              have HS9 := Lib.hid hS
              clear hS
              go_wp2_with (first | (refine wpList_run rfl (exec_load29 (p := u) rfl rfl HS9.out.op) ?_) | (refine wpList_stop29 rfl ?_))
              refine ⟨?_⟩
              refine wpList_void rfl rfl (exec_store29 (p := z) (u := u) rfl rfl rfl HS9.out.ans) ?_
              go_wp2_with fail
              exact bodyPost_ret (ret29_two (t := 2) (s := 3) (y := .int .i64 0) rfl rfl rfl HS9.out.ans.row) rfl (decP_of HE.out HS9.out.ret)
            · have HE := Lib.hid (O.dec_no (bs := bs) (fun u0 _ h2 => hq (by rw [HUN.out u0 h2]; exact h2)))
              have HQ : Hid ((!((strOf u.bytes).toList == (strOf bs).toList)) = true) := Lib.hid (by rw [str_ne u.bytes_lt HSM.out hq]; rfl)
              rw [hr] at HRT
              clear hr hq
              refine wp_region_held_drew (S := fun w' => Rz w w' z qo u) (by kernel_rfl) (HZ1.out.below (Below.refl _ _).drew) (fun hS => ?_)
              refine held_take 0 85 (.agg u.arr) rfl rfl (by kernel_rfl) (by kernel_rfl) (by kernel_rfl) (fun _ _ _ h => h) (by kernel_rfl) (fun _ h => exec_load29 (p := u) rfl rfl h.op) hS ?_
              simp only [Act.put, List.setIfInBounds_toArray, List.set_cons_zero, List.set_cons_succ]
              refine held_call 1 86 37 #[(.agg u.arr), (.int .i64 16)] (.bool true) rfl (by kernel_rfl) rfl (by kernel_rfl) (by kernel_rfl) (HRT.out _) (fun _ h hb => h.below hb) hS (fun w101 hS => ?_)
              simp only [Act.put, List.setIfInBounds_toArray, List.set_cons_zero, List.set_cons_succ]
              refine held_take 2 87 (.bool false) rfl rfl (by kernel_rfl) (by kernel_rfl) (by kernel_rfl) (fun _ _ _ h => h) (by kernel_rfl) (fun _ _ => rfl) hS ?_
              simp only [Act.put, List.setIfInBounds_toArray, List.set_cons_zero, List.set_cons_succ]
              refine held_take 3 88 (.bool false) rfl rfl (by kernel_rfl) (by kernel_rfl) (by kernel_rfl) (fun _ _ _ h => h) (by kernel_rfl) (fun _ _ => rfl) hS ?_
              simp only [Act.put, List.setIfInBounds_toArray, List.set_cons_zero, List.set_cons_succ]
              refine held_take 4 89 (.agg u.arr) rfl rfl (by kernel_rfl) (by kernel_rfl) (by kernel_rfl) (fun _ _ _ h => h) (by kernel_rfl) (fun _ h => exec_load29 (p := u) rfl rfl h.op) hS ?_
              simp only [Act.put, List.setIfInBounds_toArray, List.set_cons_zero, List.set_cons_succ]
              refine held_take 7 92 (.slice a len cap) rfl rfl (by kernel_rfl) (by kernel_rfl) (by kernel_rfl) (fun _ _ _ h => h) (by kernel_rfl) (fun _ _ => rfl) hS ?_
              simp only [Act.put, List.setIfInBounds_toArray, List.set_cons_zero, List.set_cons_succ]
              refine held_take 8 93 (.string (strOf bs)) rfl rfl (by kernel_rfl) (by kernel_rfl) (by kernel_rfl) (fun _ _ _ h => h) (by kernel_rfl) (fun _ h => exec_str rfl rfl (conv_any (HR0.out.below h.old))) hS ?_
              simp only [Act.put, List.setIfInBounds_toArray, List.set_cons_zero, List.set_cons_succ]
              refine held_callP 5 90 73 #[(.agg u.arr)] rfl (by kernel_rfl) rfl (by kernel_rfl) (by kernel_rfl) (rbytes_op u _) (fun e w105 hP => ?_)
              obtain ⟨ga5, ca5, rfl, ho5, hb5⟩ := hP
              refine ⟨_, rfl, hS.below hb5, fun hS => ?_⟩
              simp only [Act.put, List.setIfInBounds_toArray, List.set_cons_zero, List.set_cons_succ]
              refine held_run 6 91 (.string (strOf u.bytes)) rfl rfl (by kernel_rfl) (by kernel_rfl) (exec_str rfl rfl (conv_any (ho5.row u.bytes_lt))) hS ?_
              simp only [Act.put, List.setIfInBounds_toArray, List.set_cons_zero, List.set_cons_succ]
              refine held_take 9 94 (.bool true) rfl rfl (by kernel_rfl) (by kernel_rfl) (by kernel_rfl) (fun _ _ _ h => h) (by kernel_rfl) (fun _ _ => exec_neqS rfl rfl rfl HQ.out) hS ?_
              simp only [Act.put, List.setIfInBounds_toArray, List.set_cons_zero, List.set_cons_succ]
              refine held_take 10 95 (.bool true) rfl rfl (by kernel_rfl) (by kernel_rfl) (by kernel_rfl) (fun _ _ _ h => h) (by kernel_rfl) (fun _ _ => rfl) hS ?_
              simp only [Act.put, List.setIfInBounds_toArray, List.set_cons_zero, List.set_cons_succ]
              refine wpAnyH_done (by kernel_rfl) ?_ _
              have HS9 := Lib.hid hS
              clear hS
              go_wp2_with (first | (refine wpList_run rfl (exec_zero29z HZ.out rfl) ?_) | (refine wpList_stop29 rfl ?_))
              refine ⟨?_⟩
              refine wpList_void rfl rfl (exec_store29 (p := z) (u := z) rfl rfl rfl HS9.out.ans) ?_
              go_wp2_with fail
              rw [HZ.out] at HE
              exact bodyPost_ret (ret29_two (t := 2) (s := 3) (y := .int .i64 5) rfl rfl rfl HS9.out.ans.row) rfl (decP_of HE.out HS9.out.ret)

        · have hne : ((E : Int) != 0) = true := by simp; omega
          have HE := Lib.hid (O.dec_no (bs := bs) (fun u _ hu => hE (HDV.out u hu).2))
          go_wp2_with (first | (refine wpList_run rfl (exec_zero29z HZ.out rfl) ?_) | (refine wpList_stop29 rfl ?_))
          refine ⟨?_⟩
          refine wpList_void rfl rfl (exec_store29 (p := z) (u := z) rfl rfl rfl HR6.out.ans) ?_
          go_wp2_with fail
          rw [HZ.out] at HE
          exact bodyPost_ret (ret29_two (t := 2) (s := 3) (y := .int .i64 5) rfl rfl rfl HR6.out.ans.row) rfl (decP_of HE.out HR6.out.ret)
      · have hne : ((er : Int) != 0) = true := by simp; omega
        have HE := Lib.hid (O.dec_no (bs := bs) (fun u _ hu => he (HY.out u hu).2))
        go_wp2_with (first | (refine wpList_run rfl (exec_zero29z HZ.out rfl) ?_) | (refine wpList_stop29 rfl ?_))
        refine ⟨?_⟩
        refine wpList_void rfl rfl (exec_store29 (p := z) (u := z) rfl rfl rfl HR4.out.ans) ?_
        go_wp2_with fail
        rw [HZ.out] at HE
        exact bodyPost_ret (ret29_two (t := 2) (s := 3) (y := .int .i64 5) rfl rfl rfl HR4.out.ans.row) rfl (decP_of HE.out HR4.out.ret)

theorem refdone_any (er : Nat) (a : Option Addr) (n c : Nat) (bs : List Nat) (w : World) (hn : bs.length = n) :
    Calls Tryd.prog 60 #[.agg #[.slice a n c, .int .i64 (er : Int)]] w fun e w' => e = .returned (.bool (doneB er bs)) ∧ w.alloc (.cells #[.slice a n c, .int .i64 (er : Int)] 101) = w' := by
  by_cases he : er = 0
  · subst he
    have HD : Hid (doneB 0 bs = ((n : Int) == 0)) := Lib.hid (by unfold doneB; rw [Bool.eq_iff_iff]; simp; rw [← hn]; simp)
    clear hn
    go_enter Tryd.func60, Tryd.ntmps60
    go_wp2_with fail
    go_ret
    exact ⟨ret_bool HD.out.symm, rfl⟩
  · have hne : ((er : Int) == 0) = false := by simp; omega
    have HD : Hid (doneB er bs = false) := Lib.hid (by unfold doneB; simp [he])
    clear hn he
    go_enter Tryd.func60, Tryd.ntmps60
    go_wp2_with fail
    go_ret
    exact ⟨ret_bool HD.out.symm, rfl⟩

end Go.Proofs.YtfnaccmgmocolaaDoor
