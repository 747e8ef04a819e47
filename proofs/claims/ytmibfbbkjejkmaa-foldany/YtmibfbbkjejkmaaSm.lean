/- Walk of Same of the document: views that have the same contents. -/
import Derived.Test.YtmibfbbkjejkmaaLn
namespace Go.Proofs.Ytmibfbbkjejkmaa
open Go.RowKit Fold

abbrev vw (c : Nat) (a : Option Addr) (n cap : Nat) (o : Bool) (t : Nat) : Array Value := #[.int .u16 (c : Int), .slice a n cap, .bool o, .int .u32 (t : Int)]
/-- A line of two numbers. -/
def ln (x : Nat × Nat) : List Value := [.int .u16 (x.1 : Int), .int .u32 (x.2 : Int)]
section
variable {ev : Operand → Value} {q : Oper} {w : World}
theorem box44 (c : Nat) (a : Option Addr) (n cap : Nat) (o : Bool) (t : Nat) (w : World) : (Instr.box 44 (.agg (vw c a n cap o t))).run Try.prog w = .ok (.pointer (some ⟨w.heap.size, 0, none⟩)) (w.alloc (.cells (vw c a n cap o t) 44)) := by
  simp [Instr.box, newVar, newRow, Value.cells, go_sem]
theorem exec_ld51 {x : Operand} {b off i n : Nat} (ho : q.op = .load 51 x) (hx : ev x = .pointer (some ⟨b, off, none⟩)) (h : w.rangeAt b off (ln (i, n))) : (execOp ev q).run Try.prog w = .ok (.value (.agg #[.int .u16 (i : Int), .int .u32 (n : Int)])) w := by
  have hl := run_loadVar_mid (P := Try.prog) w b off 51 (ln (i, n)) _ h Try.underlying51 rfl (by kernel_rfl)
  refine exec_cell ho hx ?_
  simp only [Instr.loadAt, Instr.sureAddr, Sem.run_bind, Sem.run_pure, Result.andThen_ok, hl]
  rfl
theorem exec_neq51 {x y : Operand} {i n : Nat} (ho : q.op = .binOp .neq 51 x y 51) (hx : ev x = .agg #[.int .u16 (i : Int), .int .u32 (n : Int)]) (hy : ev y = .agg #[.int .u16 (i : Int), .int .u32 (n : Int)]) : (execOp ev q).run Try.prog w = .ok (.value (.bool false)) w := by
  unfold execOp
  simp only [ho, hx, hy]
  go_simp
end
structure Sm (w W : World) (g1 g2 c : Nat) (a1 a2 : Option Addr) (n cap1 cap2 : Nat) (o : Bool) (t : Nat) (ls : List (Nat × Nat)) : Prop where
  one : Blk W g1 44 (vw c a1 n cap1 o t)
  two : Blk W g2 44 (vw c a2 n cap2 o t)
  gl1 : GL W 2 a1 n (ls.map ln)
  gl2 : GL W 2 a2 n (ls.map ln)
  old : Below w.heap.size w W
theorem Sm.below {w W W' : World} {g1 g2 c n cap1 cap2 t : Nat} {a1 a2 : Option Addr} {o : Bool} {ls : List (Nat × Nat)} (h : Sm w W g1 g2 c a1 a2 n cap1 cap2 o t ls) (hb : Below W.heap.size W W') : Sm w W' g1 g2 c a1 a2 n cap1 cap2 o t ls :=
  ⟨h.one.below hb, h.two.below hb, h.gl1.below hb, h.gl2.below hb, h.old.trans (hb.mono h.old.size)⟩
structure Sr2 (W : World) (g1 g2 c b1 b2 o1 o2 n cap1 cap2 j i q : Nat) (o : Bool) (t : Nat) : Prop where
  one : Blk W g1 44 (vw c (some ⟨b1, o1, none⟩) n cap1 o t)
  two : Blk W g2 44 (vw c (some ⟨b2, o2, none⟩) n cap2 o t)
  r1 : W.rangeAt b1 (o1 + j * 2) (ln (i, q))
  r2 : W.rangeAt b2 (o2 + j * 2) (ln (i, q))
theorem vc1 {w : World} {g c : Nat} {a : Option Addr} {n cap : Nat} {o : Bool} {t : Nat} (h : Blk w g 44 (vw c a n cap o t)) : w.cell? ⟨g, 1, none⟩ = some (.slice a n cap) := by rw [h.cell]; rfl
def SmR (w : World) (g1 g2 c : Nat) (a1 a2 : Option Addr) (n cap1 cap2 : Nat) (o : Bool) (t : Nat) (ls : List (Nat × Nat)) (u : Value) (W : World) : Prop :=
  ∃ j : Nat, u = .int .i64 (j : Int) ∧ j ≤ n ∧ Hid (Sm w W g1 g2 c a1 a2 n cap1 cap2 o t ls)

theorem items_sub {L : List O} {a b : List Nat} (ha : Items L a) (hb : Items L b) : ∀ x, x ∈ a ↔ x ∈ b := fun x => by rw [ha.mem, hb.mem]
theorem sorted_one : ∀ {a b : List Nat}, a.Pairwise (· < ·) → b.Pairwise (· < ·) → (∀ x, x ∈ a ↔ x ∈ b) → a = b
  | [], [], _, _, _ => rfl
  | [], y :: b, _, _, h => by have := (h y).2 (by simp); simp at this
  | x :: a, [], _, _, h => by have := (h x).1 (by simp); simp at this
  | x :: a, y :: b, ha, hb, h => by
    have ha' := List.pairwise_cons.1 ha
    have hb' := List.pairwise_cons.1 hb
    have e : x = y := by
      have h1 := (h x).1 (by simp)
      have h2 := (h y).2 (by simp)
      rcases List.mem_cons.1 h1 with e | h1
      · exact e
      · rcases List.mem_cons.1 h2 with e | h2
        · exact e.symm
        · have := ha'.1 y h2
          have := hb'.1 x h1
          omega
    subst e
    congr 1
    refine sorted_one ha'.2 hb'.2 fun z => ?_
    constructor
    · intro hz
      rcases List.mem_cons.1 ((h z).1 (List.mem_cons_of_mem _ hz)) with e | hz2
      · have := ha'.1 z hz; omega
      · exact hz2
    · intro hz
      rcases List.mem_cons.1 ((h z).2 (List.mem_cons_of_mem _ hz)) with e | hz2
      · have := hb'.1 z hz; omega
      · exact hz2
theorem items_one {L : List O} {a b : List Nat} (ha : Items L a) (hb : Items L b) : a = b := sorted_one ha.up hb.up (items_sub ha hb)
theorem items_lt {L : List O} {its : List Nat} (h : Items L its) : its.length < 1000000 := by
  have h1 : its.Nodup := List.nodup_iff_pairwise_ne.2 (h.up.imp fun h => by omega)
  have := h1.length_le_of_subset (l₂ := List.range 65536) (fun x hx => List.mem_range.2 ((h.mem x).1 hx).1)
  simp at this
  omega
theorem lines_ln (L : List O) (its : List Nat) : its.map (lineCs L) = (its.map fun i => (i, qtyAt L i)).map ln := by
  rw [List.map_map]; rfl


set_option maxRecDepth 100000 in
set_option maxHeartbeats 2000000 in
theorem same_any (c : Nat) (a1 a2 : Option Addr) (n cap1 cap2 : Nat) (o : Bool) (t : Nat) (ls : List (Nat × Nat)) (w : World) (hn : n < 1000000) (h1 : GL w 2 a1 n (ls.map ln)) (h2 : GL w 2 a2 n (ls.map ln)) : Calls Try.prog 18 #[.agg (vw c a1 n cap1 o t), .agg (vw c a2 n cap2 o t)] w (Says (.bool true) w) := by
  have hb1 := fun (a : Option Addr) (cap : Nat) (w : World) => box44 c a n cap o t w
  have HS0 : Hid (Sm w ((w.alloc (.cells (vw c a1 n cap1 o t) 44)).alloc (.cells (vw c a2 n cap2 o t) 44)) w.heap.size (w.heap.size + 1) c a1 a2 n cap1 cap2 o t ls) := Lib.hid ⟨(Blk.new w 44 _).below (below_one _ _), by
    have h := Blk.new (w.alloc (.cells (vw c a1 n cap1 o t) 44)) 44 (vw c a2 n cap2 o t)
    rw [World.size_alloc] at h
    exact h, h1.below (below_two' _ _ _), h2.below (below_two' _ _ _), below_two' _ _ _⟩
  clear h1 h2
  go_enter Try.func18, Try.ntmps18
  go_upto_region 1 with fail
  clear hb1
  generalize (w.alloc (.cells (vw c a1 n cap1 o t) 44)).alloc (.cells (vw c a2 n cap2 o t) 44) = w0 at HS0
  obtain ⟨g2, hg2⟩ : ∃ g, w.heap.size + 1 = g := ⟨_, rfl⟩
  obtain ⟨g1, hg1⟩ : ∃ g, w.heap.size = g := ⟨_, rfl⟩
  rw [hg2, hg1] at HS0
  rw [hg2, hg1]
  clear hg1 hg2
  have c10 : w0.cell? ⟨g1, 0, none⟩ = some (.int .u16 (c : Int)) := by rw [HS0.out.one.cell]; rfl
  have c11 := vc1 HS0.out.one
  have c12 : w0.cell? ⟨g1, 2, none⟩ = some (.bool o) := by rw [HS0.out.one.cell]; rfl
  have c13 : w0.cell? ⟨g1, 3, none⟩ = some (.int .u32 (t : Int)) := by rw [HS0.out.one.cell]; rfl
  have c20 : w0.cell? ⟨g2, 0, none⟩ = some (.int .u16 (c : Int)) := by rw [HS0.out.two.cell]; rfl
  have c21 := vc1 HS0.out.two
  have c22 : w0.cell? ⟨g2, 2, none⟩ = some (.bool o) := by rw [HS0.out.two.cell]; rfl
  have c23 : w0.cell? ⟨g2, 3, none⟩ = some (.int .u32 (t : Int)) := by rw [HS0.out.two.cell]; rfl
  go_wp2_with fail
  clear c10 c11 c12 c13 c20 c21 c22 c23
  go_loopw [5] (SmR w g1 g2 c a1 a2 n cap1 cap2 o t ls) (fun u _ => n - (numI u).toNat)
  case atStart => exact ⟨0, rfl, Nat.zero_le _, HS0⟩
  case round =>
    obtain ⟨j, rfl, hj, HS⟩ := hrel
    clear HS0
    have c11 := vc1 HS.out.one
    by_cases hlt : j < n
    · have hlen : ls.length = n := by simpa using HS.out.gl1.len
      obtain ⟨⟨i, q⟩, hiq⟩ : ∃ x, ls[j]? = some x := ⟨_, List.getElem?_eq_getElem (by omega)⟩
      obtain ⟨b1, o1, e1, r1⟩ : ∃ b off, a1 = some ⟨b, off, none⟩ ∧ wr.rangeAt b (off + j * 2) (ln (i, q)) := by
        rcases HS.out.gl1.cells with h0 | ⟨b, off, ha, hc⟩
        · omega
        · exact ⟨b, off, ha, hc j _ (by simp [hiq])⟩
      obtain ⟨b2, o2, e2, r2⟩ : ∃ b off, a2 = some ⟨b, off, none⟩ ∧ wr.rangeAt b (off + j * 2) (ln (i, q)) := by
        rcases HS.out.gl2.cells with h0 | ⟨b, off, ha, hc⟩
        · omega
        · exact ⟨b, off, ha, hc j _ (by simp [hiq])⟩
      subst e1 e2
      have HR : Hid (Sr2 wr g1 g2 c b1 b2 o1 o2 n cap1 cap2 j i q o t) := Lib.hid ⟨HS.out.one, HS.out.two, r1, r2⟩
      clear hiq r1 r2 hlen
      go_upto_region 6 with fail
      clear c11
      refine wp_region_held_drew (S := fun w' => Sr2 w' g1 g2 c b1 b2 o1 o2 n cap1 cap2 j i q o t) (by kernel_rfl) ⟨HR.out.one, HR.out.two, HR.out.r1, HR.out.r2⟩ (fun hS => ?_)
      refine held_take 0 41 (.pointer (some ⟨g1, 1, none⟩)) rfl rfl (by kernel_rfl) (by kernel_rfl) (by kernel_rfl) (fun _ _ _ h => h) (by kernel_rfl) (fun _ _ => (by kernel_rfl)) hS ?_
      simp only [Act.put, List.setIfInBounds_toArray, List.set_cons_zero, List.set_cons_succ]
      refine held_take 1 42 (.slice (some ⟨b1, o1, none⟩) n cap1) rfl rfl (by kernel_rfl) (by kernel_rfl) (by kernel_rfl) (fun _ _ _ h => h) (by kernel_rfl) (fun _ h => exec_cell rfl rfl (load_cell (by kernel_rfl) (vc1 h.one))) hS ?_
      simp only [Act.put, List.setIfInBounds_toArray, List.set_cons_zero, List.set_cons_succ]
      refine held_take 2 43 (.int .i64 (j : Int)) rfl rfl (by kernel_rfl) (by kernel_rfl) (by kernel_rfl) (fun _ _ _ h => h) (by kernel_rfl) (fun _ _ => rfl) hS ?_
      simp only [Act.put, List.setIfInBounds_toArray, List.set_cons_zero, List.set_cons_succ]
      refine held_take 3 44 (.pointer (some ⟨b1, o1 + j * 2, none⟩)) rfl rfl (by kernel_rfl) (by kernel_rfl) (by kernel_rfl) (fun _ _ _ h => h) (by kernel_rfl) (fun _ _ => exec_idxL (i := j) rfl rfl rfl rfl hlt) hS ?_
      simp only [Act.put, List.setIfInBounds_toArray, List.set_cons_zero, List.set_cons_succ]
      refine held_take 4 45 (.agg #[.int .u16 (i : Int), .int .u32 (q : Int)]) rfl rfl (by kernel_rfl) (by kernel_rfl) (by kernel_rfl) (fun _ _ _ h => h) (by kernel_rfl) (fun _ h => exec_ld51 rfl rfl h.r1) hS ?_
      simp only [Act.put, List.setIfInBounds_toArray, List.set_cons_zero, List.set_cons_succ]
      refine held_take 5 46 (.pointer (some ⟨g2, 1, none⟩)) rfl rfl (by kernel_rfl) (by kernel_rfl) (by kernel_rfl) (fun _ _ _ h => h) (by kernel_rfl) (fun _ _ => (by kernel_rfl)) hS ?_
      simp only [Act.put, List.setIfInBounds_toArray, List.set_cons_zero, List.set_cons_succ]
      refine held_take 6 47 (.slice (some ⟨b2, o2, none⟩) n cap2) rfl rfl (by kernel_rfl) (by kernel_rfl) (by kernel_rfl) (fun _ _ _ h => h) (by kernel_rfl) (fun _ h => exec_cell rfl rfl (load_cell (by kernel_rfl) (vc1 h.two))) hS ?_
      simp only [Act.put, List.setIfInBounds_toArray, List.set_cons_zero, List.set_cons_succ]
      refine held_take 7 48 (.int .i64 (j : Int)) rfl rfl (by kernel_rfl) (by kernel_rfl) (by kernel_rfl) (fun _ _ _ h => h) (by kernel_rfl) (fun _ _ => rfl) hS ?_
      simp only [Act.put, List.setIfInBounds_toArray, List.set_cons_zero, List.set_cons_succ]
      refine held_take 8 49 (.pointer (some ⟨b2, o2 + j * 2, none⟩)) rfl rfl (by kernel_rfl) (by kernel_rfl) (by kernel_rfl) (fun _ _ _ h => h) (by kernel_rfl) (fun _ _ => exec_idxL (i := j) rfl rfl rfl rfl hlt) hS ?_
      simp only [Act.put, List.setIfInBounds_toArray, List.set_cons_zero, List.set_cons_succ]
      refine held_take 9 50 (.agg #[.int .u16 (i : Int), .int .u32 (q : Int)]) rfl rfl (by kernel_rfl) (by kernel_rfl) (by kernel_rfl) (fun _ _ _ h => h) (by kernel_rfl) (fun _ h => exec_ld51 rfl rfl h.r2) hS ?_
      simp only [Act.put, List.setIfInBounds_toArray, List.set_cons_zero, List.set_cons_succ]
      refine held_take 10 51 (.bool false) rfl rfl (by kernel_rfl) (by kernel_rfl) (by kernel_rfl) (fun _ _ _ h => h) (by kernel_rfl) (fun _ _ => exec_neq51 rfl rfl rfl) hS ?_
      simp only [Act.put, List.setIfInBounds_toArray, List.set_cons_zero, List.set_cons_succ]
      refine wpAnyH_done (by kernel_rfl) ?_ _
      have HSN := Lib.hid (HS.out.below (drew_below wr))
      clear hS
      go_wp2_with fail
      go_roundw
      case rel => exact ⟨j + 1, by go_num, by omega, HSN⟩
      case measure => simp [numI]; omega
    · go_wp2_with fail
      go_ret
      exact ⟨rfl, HS.out.old⟩

end Go.Proofs.Ytmibfbbkjejkmaa
