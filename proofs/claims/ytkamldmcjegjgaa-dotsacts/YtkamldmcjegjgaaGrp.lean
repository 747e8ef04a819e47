/- A set of dots in memory: a block with its vector and its map, and the map's block. -/
import Derived.Test.YtkamldmcjegjgaaHx
import Derived.Test.YtkamldmcjegjgaaKey
namespace Go.Proofs.Ytkamldmcjegjgaa
open Go.RowKit Go.Maps

/-- A vector's cells and one more. -/
def V.obj (c : V) (x : Value) : Array Value := c.arr.push x

/-- Block m is a map whose keys are the dots of L. -/
def Mp (w : World) (m : Nat) (L : List Dt) : Prop := ∃ (D : DataW Unit) (n : Nat), w.ownsMap Try.prog 34 unitElem m n D ∧ ∀ kl, Maps.has D kl = true ↔ ∃ x ∈ L, kl = kd x

/-- The object. -/
structure Grp (w : World) (p m : Nat) (c : V) (L : List Dt) : Prop where
  blk : Blk w p 53 (c.obj (.map (some m)))
  mp : Mp w m L
  srt : Srt L
  raw : ∀ x ∈ L, Raw x

theorem Mp.lt {w : World} {m : Nat} {L : List Dt} (h : Mp w m L) : m < w.heap.size := by
  obtain ⟨D, n, h, _⟩ := h; exact h.lt
theorem Mp.ne {w : World} {m p : Nat} {L : List Dt} {t : TypeId} {cs : Array Value} (h : Mp w m L) (hb : Blk w p t cs) : m ≠ p := by
  obtain ⟨D, n, ⟨es, clock, hm, _⟩, _⟩ := h
  rintro rfl
  unfold Blk at hb
  rw [hm] at hb
  cases hb
theorem Grp.ne {w : World} {p m : Nat} {c : V} {L : List Dt} (h : Grp w p m c L) : m ≠ p := h.mp.ne h.blk
theorem grown_of_kept {S : Nat → Prop} {w w' : World} (k : Kept S w w') {m : Nat} (hn : ¬ S m) {H : Type} {R : Value → Option (DataW H × List MemPlace)} {n : Nat} {D : DataW H} (h : w.ownsMap Try.prog 34 R m n D) : w'.ownsMap Try.prog 34 R m n D := by
  have hlt := h.lt
  obtain ⟨es, clock, hb, rest⟩ := h
  exact ⟨es, clock, (k.block m hlt hn).trans hb, rest⟩
theorem Mp.kept {S : Nat → Prop} {w w' : World} {m : Nat} {L : List Dt} (h : Mp w m L) (k : Kept S w w') (hn : ¬ S m) : Mp w' m L := by
  obtain ⟨D, n, h, h2⟩ := h
  exact ⟨D, n, grown_of_kept k hn h, h2⟩
theorem Grp.kept {S : Nat → Prop} {w w' : World} {p m : Nat} {c : V} {L : List Dt} (h : Grp w p m c L) (k : Kept S w w') (hp : ¬ S p) (hm : ¬ S m) : Grp w' p m c L :=
  ⟨h.blk.kept k hp, h.mp.kept k hm, h.srt, h.raw⟩
theorem Grp.below {w w' : World} {p m : Nat} {c : V} {L : List Dt} (h : Grp w p m c L) (k : Below w.heap.size w w') : Grp w' p m c L :=
  h.kept (S := fun _ => False) (.of_below k) (fun h => h) (fun h => h)
theorem Grp.drew {w : World} {p m : Nat} {c : V} {L : List Dt} (h : Grp w p m c L) : Grp w.drew p m c L := ⟨h.blk, h.mp, h.srt, h.raw⟩

theorem push_at (c : V) (x : Value) {i : Nat} (h : i < 16) : (c.obj x)[i]? = some (.int .u32 (c.at_ i : Int)) := by
  rw [V.obj, Array.getElem?_push, if_neg (by rw [c.arr_size]; omega), c.arr_at h]
theorem push_last (c : V) (x : Value) : (c.obj x)[16]? = some x := by
  rw [V.obj, Array.getElem?_push, if_pos c.arr_size.symm]
theorem Grp.num {w : World} {p m : Nat} {c : V} {L : List Dt} (h : Grp w p m c L) {i : Nat} (hi : i < 16) : w.cell? ⟨p, i, none⟩ = some (.int .u32 (c.at_ i : Int)) := by rw [h.blk.cell, push_at c _ hi]
theorem Grp.map {w : World} {p m : Nat} {c : V} {L : List Dt} (h : Grp w p m c L) : w.cell? ⟨p, 16, none⟩ = some (.map (some m)) := by rw [h.blk.cell, push_last]

theorem und51 : Try.prog.underlying 51 = some (.map 34 62) := by kernel_rfl
theorem zero62 (w : World) : (zeroValue 62).run Try.prog w = .ok (.agg #[]) w := by kernel_rfl

/-- The vector loaded out of the object. -/
theorem load_vec {w : World} {p m : Nat} {c : V} {L : List Dt} (h : Grp w p m c L) : (Instr.loadAt 24 (.pointer (some ⟨p, 0, none⟩))).run Try.prog w = .ok (.agg c.arr) w := by
  have hl := run_loadVar_mid (P := Try.prog) w p 0 24 c.cs _ (by
    intro j u hu
    have hj : j < 16 := by rw [← c.cs_len]; exact (List.getElem?_eq_some_iff.1 hu).1
    rw [Nat.zero_add, h.num hj, ← c.cs_at hj, hu]) und24 rfl (by rw [c.cs_len]; exact size24)
  simp only [Instr.loadAt, Instr.sureAddr, Sem.run_bind, Sem.run_pure, Result.andThen_ok, hl]

theorem Mp.look {w : World} {m : Nat} {L : List Dt} (h : Mp w m L) {x : Dt} (hx : Raw x) (hL : ∀ y ∈ L, Raw y) : (Instr.lookup 51 (.map (some m)) x.val true).run Try.prog w = .ok (.tuple #[.agg #[], .bool (decide (x ∈ L))]) w := by
  obtain ⟨D, n, h, h2⟩ := h
  obtain ⟨v, ps, hrun, hv⟩ := h.look_ok law34 und51 (zero62 w) unitElem_mk (key34 x hx)
  obtain ⟨rfl, _⟩ := unitElem_inv hv
  rw [hrun]
  have : Maps.has D (kd x) = decide (x ∈ L) := by
    rw [Bool.eq_iff_iff, h2, decide_eq_true_eq]
    constructor
    · rintro ⟨y, hy, e⟩
      rwa [kd_inj hx (hL y hy) e]
    · exact fun hx => ⟨x, hx, rfl⟩
  rw [this]

theorem neq51 (m : Option Nat) (w : World) : (binOp .neq 51 (.map m) (.map none)).run Try.prog w = .ok (.bool (!m.isNone)) w := by
  have := run_neq_map_nil w 51 34 62 m und51
  cases m <;> simpa using this

theorem made_any {w : World} {p m : Nat} {c : V} {L : List Dt} (h : Grp w p m c L) : Calls Try.prog 27 #[.pointer (some ⟨p, 0, none⟩)] w fun e w' => e = .returned (.bool true) ∧ w = w' := by
  have c1 := h.map
  clear h
  have hne := fun w => neq51 (some m) w
  go_enter Try.func27, Try.ntmps27
  go_wp2_with fail
  go_ret
  exact ⟨rfl, rfl⟩
theorem made_nil (w : World) : Calls Try.prog 27 #[.pointer none] w fun e w' => e = .returned (.bool false) ∧ w = w' := by
  go_enter Try.func27, Try.ntmps27
  go_wp2_with fail
  go_ret
  exact ⟨rfl, rfl⟩
theorem made_zero {w : World} {p : Nat} (c1 : w.cell? ⟨p, 16, none⟩ = some (.map none)) : Calls Try.prog 27 #[.pointer (some ⟨p, 0, none⟩)] w fun e w' => e = .returned (.bool false) ∧ w = w' := by
  have hne := fun w => neq51 none w
  go_enter Try.func27, Try.ntmps27
  go_wp2_with fail
  go_ret
  exact ⟨rfl, rfl⟩

/-- A call that was handed the object and a dot, and has laid the dot down. -/
structure Gd (w W : World) (p m : Nat) (c : V) (L : List Dt) (x : Dt) : Prop where
  grp : Grp W p m c L
  dot : Blk W w.heap.size 34 #[.int .u8 (x.1 : Int), .int .u32 (x.2 : Int)]
  old : Below w.heap.size w W
  lt : p < w.heap.size ∧ m < w.heap.size
theorem gd_new {w : World} {p m : Nat} {c : V} {L : List Dt} (h : Grp w p m c L) (x : Dt) : Gd w (w.alloc (.cells #[.int .u8 (x.1 : Int), .int .u32 (x.2 : Int)] 34)) p m c L x :=
  ⟨h.below (below_one w _), Blk.new w 34 _, below_one w _, h.blk.lt, h.mp.lt⟩
theorem Gd.drew {w W : World} {p m : Nat} {c : V} {L : List Dt} {x : Dt} (h : Gd w W p m c L x) : Gd w W.drew p m c L x := ⟨h.grp.drew, h.dot, h.old.drew, h.lt⟩
theorem Gd.below {w W W' : World} {p m : Nat} {c : V} {L : List Dt} {x : Dt} (h : Gd w W p m c L x) (hb : Below W.heap.size W W') : Gd w W' p m c L x :=
  ⟨h.grp.below hb, h.dot.below hb, h.old.trans (hb.mono h.old.size), h.lt⟩
theorem Gd.rep {w W : World} {p m : Nat} {c : V} {L : List Dt} {x : Dt} (h : Gd w W p m c L x) : W.cell? ⟨w.heap.size, 0, none⟩ = some (.int .u8 (x.1 : Int)) := by rw [h.dot.cell]; rfl
theorem Gd.seq {w W : World} {p m : Nat} {c : V} {L : List Dt} {x : Dt} (h : Gd w W p m c L x) : W.cell? ⟨w.heap.size, 1, none⟩ = some (.int .u32 (x.2 : Int)) := by rw [h.dot.cell]; rfl

theorem agg51 {w : World} : (isAgg 51).run Try.prog w = .ok false w := by kernel_rfl
theorem agg5 {w : World} : (isAgg 5).run Try.prog w = .ok false w := by kernel_rfl
theorem agg22 {w : World} : (isAgg 22).run Try.prog w = .ok false w := by kernel_rfl

theorem exec_look {ev : Operand → Value} {o : Oper} {y z : Operand} {w : World} {m : Nat} {L : List Dt} {x : Dt} {b : Bool} (ho : o.op = .lookup 51 y z true) (hy : ev y = .map (some m)) (hz : ev z = x.val) (h : Mp w m L) (hx : Raw x) (hL : ∀ y ∈ L, Raw y) (hb : decide (x ∈ L) = b) :
    (execOp ev o).run Try.prog w = .ok (.value (.tuple #[.agg #[], .bool b])) w := by
  unfold execOp
  simp only [ho, hy, hz, Sem.run_bind, h.look hx hL, Result.andThen_ok, hb]
  rfl
theorem exec_loadv {ev : Operand → Value} {o : Oper} {x : Operand} {p m : Nat} {c : V} {L : List Dt} {w : World} (ho : o.op = .load 24 x) (hx : ev x = .pointer (some ⟨p, 0, none⟩)) (h : Grp w p m c L) : (execOp ev o).run Try.prog w = .ok (.value (.agg c.arr)) w := exec_cell ho hx (load_vec h)

theorem exec_alloc62 {ev : Operand → Value} {o : Oper} {w : World} (ho : o.op = .alloc 62) : (execOp ev o).run Try.prog w = .ok (.value (.pointer (some ⟨w.heap.size, 0, none⟩))) (w.alloc (.cells #[] 62)) := by
  unfold execOp
  simp only [ho]
  kernel_rfl
theorem exec_store62 {ev : Operand → Value} {o : Oper} {x y : Operand} {g : Nat} {w : World} (ho : o.op = .store 62 x y) (hx : ev x = .pointer (some ⟨g, 0, none⟩)) (hy : ev y = .agg #[]) : (execOp ev o).run Try.prog w = .ok .skip w := by
  unfold execOp
  simp only [ho, hx, hy]
  kernel_rfl

set_option maxHeartbeats 1000000 in
theorem loose_any {w : World} {p m : Nat} {c : V} {L : List Dt} (h : Grp w p m c L) (x : Dt) (hx : Raw x) : Calls Try.prog 29 #[.pointer (some ⟨p, 0, none⟩), x.val] w (Says (.bool (decide (x ∈ L))) w) := by
  have HT := Lib.hid (gd_new h x)
  have HL := Lib.hid h.raw
  have HX := Lib.hid hx
  obtain ⟨r, s⟩ := x
  clear h hx
  simp only at HT
  generalize hb : decide ((r, s) ∈ L) = b
  have HB := Lib.hid hb
  clear hb
  go_enter Try.func29, Try.ntmps29
  go_wp2_with fail
  generalize w.alloc (.cells #[.int .u8 (r : Int), .int .u32 (s : Int)] 34) = W at HT
  refine wp_region_held_drew (S := fun w' => Gd w w' p m c L (r, s)) (by kernel_rfl) HT.out.drew (fun hS => ?_)
  refine held_take 0 8 (.pointer (some ⟨p, 0, none⟩)) rfl rfl (by kernel_rfl) (by kernel_rfl) (by kernel_rfl) (fun _ _ _ h => h) (by kernel_rfl) (fun _ _ => rfl) hS ?_
  simp only [Act.put, List.setIfInBounds_toArray, List.set_cons_zero, List.set_cons_succ]
  refine held_take 1 9 (.pointer (some ⟨p, 0, none⟩)) rfl rfl (by kernel_rfl) (by kernel_rfl) (by kernel_rfl) (fun _ _ _ h => h) (by kernel_rfl) (fun _ _ => (by kernel_rfl)) hS ?_
  simp only [Act.put, List.setIfInBounds_toArray, List.set_cons_zero, List.set_cons_succ]
  refine held_take 2 10 (.pointer (some ⟨p, 16, none⟩)) rfl rfl (by kernel_rfl) (by kernel_rfl) (by kernel_rfl) (fun _ _ _ h => h) (by kernel_rfl) (fun _ _ => (by kernel_rfl)) hS ?_
  simp only [Act.put, List.setIfInBounds_toArray, List.set_cons_zero, List.set_cons_succ]
  refine held_take 3 11 (.map (some m)) rfl rfl (by kernel_rfl) (by kernel_rfl) (by kernel_rfl) (fun _ _ _ h => h) (by kernel_rfl) (fun _ h => exec_cell rfl rfl (load_cell agg51 h.grp.map)) hS ?_
  simp only [Act.put, List.setIfInBounds_toArray, List.set_cons_zero, List.set_cons_succ]
  refine held_take 4 12 (dotV r s) rfl rfl (by kernel_rfl) (by kernel_rfl) (by kernel_rfl) (fun _ _ _ h => h) (by kernel_rfl) (fun _ h => exec_load34 rfl rfl h.dot) hS ?_
  simp only [Act.put, List.setIfInBounds_toArray, List.set_cons_zero, List.set_cons_succ]
  refine held_take 5 13 (.tuple #[.agg #[], .bool b]) rfl rfl (by kernel_rfl) (by kernel_rfl) (by kernel_rfl) (fun _ _ _ h => h) (by kernel_rfl) (fun _ h => exec_look (x := (r, s)) rfl rfl rfl h.grp.mp HX.out HL.out HB.out) hS ?_
  simp only [Act.put, List.setIfInBounds_toArray, List.set_cons_zero, List.set_cons_succ]
  refine held_take 6 7 (.tuple #[.agg #[], .bool b]) rfl rfl (by kernel_rfl) (by kernel_rfl) (by kernel_rfl) (fun _ _ _ h => h) (by kernel_rfl) (fun _ _ => rfl) hS ?_
  simp only [Act.put, List.setIfInBounds_toArray, List.set_cons_zero, List.set_cons_succ]
  refine held_take 7 14 (.agg #[]) rfl rfl (by kernel_rfl) (by kernel_rfl) (by kernel_rfl) (fun _ _ _ h => h) (by kernel_rfl) (fun _ _ => (by kernel_rfl)) hS ?_
  simp only [Act.put, List.setIfInBounds_toArray, List.set_cons_zero, List.set_cons_succ]
  refine held_take 8 15 (.bool b) rfl rfl (by kernel_rfl) (by kernel_rfl) (by kernel_rfl) (fun _ _ _ h => h) (by kernel_rfl) (fun _ _ => (by kernel_rfl)) hS ?_
  simp only [Act.put, List.setIfInBounds_toArray, List.set_cons_zero, List.set_cons_succ]
  have hS2 := hS.below (below_one W.drew (.cells #[] 62))
  refine held_exec 9 5 (.pointer (some ⟨W.drew.heap.size, 0, none⟩)) rfl rfl (by kernel_rfl) (by kernel_rfl) (exec_alloc62 rfl) hS2 ?_
  simp only [Act.put, List.setIfInBounds_toArray, List.set_cons_zero, List.set_cons_succ]
  refine held_void 10 rfl rfl (by kernel_rfl) (by kernel_rfl) (exec_store62 rfl rfl rfl) hS2 ?_
  refine held_take 11 6 (.bool b) rfl rfl (by kernel_rfl) (by kernel_rfl) (by kernel_rfl) (fun _ _ _ h => h) (by kernel_rfl) (fun _ _ => rfl) hS2 ?_
  simp only [Act.put, List.setIfInBounds_toArray, List.set_cons_zero, List.set_cons_succ]
  refine wpAnyH_done (by kernel_rfl) ?_ _
  go_wp2_with fail
  go_ret
  exact ⟨rfl, hS2.old⟩

end Go.Proofs.Ytkamldmcjegjgaa
