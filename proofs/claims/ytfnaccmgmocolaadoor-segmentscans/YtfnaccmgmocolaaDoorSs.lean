/- Walks of the laws' own 'ours' and of the document's Same: what two segments tell is the same. -/
import Derived.Test.YtfnaccmgmocolaaDoorWo
namespace Go.Proofs.YtfnaccmgmocolaaDoor
open Go.RowKit

theorem ibox44 (id n1 n2 u : Nat) (a1 a2 : Option Addr) (c1 c2 : Nat) (s : Bool) (w : World) : (Instr.box 44 (.agg (infoV id (.slice a1 n1 c1) (.slice a2 n2 c2) s u))).run Tryd.prog w = .ok (.pointer (some ⟨w.heap.size, 0, none⟩)) (w.alloc (.cells (infoV id (.slice a1 n1 c1) (.slice a2 n2 c2) s u) 44)) := by kernel_rfl
theorem ibox47 (id n1 n2 u : Nat) (a1 a2 : Option Addr) (c1 c2 : Nat) (s : Bool) (w : World) : (Instr.box 47 (.agg (infoV id (.slice a1 n1 c1) (.slice a2 n2 c2) s u))).run Tryd.prog w = .ok (.pointer (some ⟨w.heap.size, 0, none⟩)) (w.alloc (.cells (infoV id (.slice a1 n1 c1) (.slice a2 n2 c2) s u) 47)) := by kernel_rfl
section
variable {w : World} {ev : Operand → Value} {q : Oper}
theorem exec_ibuild47 {x0 x1 x2 x3 x4 : Operand} {id n1 n2 u : Nat} {a1 a2 : Option Addr} {c1 c2 : Nat} {s : Bool} (ho : q.op = .build 47 #[(0, x0), (1, x1), (2, x2), (3, x3), (4, x4)]) (h0 : ev x0 = .int .u32 (id : Int)) (h1 : ev x1 = .slice a1 n1 c1) (h2 : ev x2 = .slice a2 n2 c2) (h3 : ev x3 = .bool s) (h4 : ev x4 = .int .i64 (u : Int)) :
    (execOp ev q).run Tryd.prog w = .ok (.value (.agg (infoV id (.slice a1 n1 c1) (.slice a2 n2 c2) s u))) w := by
  have hm : (#[((0 : Nat), x0), (1, x1), (2, x2), (3, x3), (4, x4)]).map (fun (i, x) => (i, ev x)) = #[(0, .int .u32 (id : Int)), (1, .slice a1 n1 c1), (2, .slice a2 n2 c2), (3, .bool s), (4, .int .i64 (u : Int))] := by simp [h0, h1, h2, h3, h4]
  have hb : (Instr.build 47 #[(0, .int .u32 (id : Int)), (1, .slice a1 n1 c1), (2, .slice a2 n2 c2), (3, .bool s), (4, .int .i64 (u : Int))]).run Tryd.prog w = .ok (.agg (infoV id (.slice a1 n1 c1) (.slice a2 n2 c2) s u)) w := run_build w 47 _ _ (by kernel_rfl)
  unfold execOp
  simp only [ho, hm, Sem.run_bind, hb, Result.andThen_ok]
  rfl
end

set_option maxHeartbeats 2000000 in
set_option maxRecDepth 100000 in
theorem ours_any (id n1 n2 u : Nat) (a1 a2 : Option Addr) (c1 c2 : Nat) (s : Bool) (w : World) :
    Calls Tryd.prog 19 #[.agg (infoV id (.slice a1 n1 c1) (.slice a2 n2 c2) s u)] w (Says (.agg (infoV id (.slice a1 n1 c1) (.slice a2 n2 c2) s u)) w) := by
  have bx := ibox44 id n1 n2 u a1 a2 c1 c2 s w
  have hb := below_two' w (.cells (infoV id (.slice a1 n1 c1) (.slice a2 n2 c2) s u) 44) (.cells infoZ 47)
  have hx := (Blk.new w 44 (infoV id (.slice a1 n1 c1) (.slice a2 n2 c2) s u)).below (below_one _ (.cells infoZ 47))
  have HY := Lib.hid (Blk.new (w.alloc (.cells (infoV id (.slice a1 n1 c1) (.slice a2 n2 c2) s u) 44)) 47 infoZ)
  have HB := Lib.hid hb
  have HX := Lib.hid hx
  clear hb hx
  go_enter Tryd.func19, Tryd.ntmps19
  simp only [World.size_alloc] at HY
  go_wp2_with (first | (refine wpList_run rfl (exec_ialloc47 rfl) ?_) | (refine wpList_run rfl (exec_ibuild47 (id := id) (n1 := n1) (n2 := n2) (u := u) (a1 := a1) (a2 := a2) (c1 := c1) (c2 := c2) (s := s) rfl rfl rfl rfl rfl rfl) ?_) | (refine wpList_istop47 rfl ?_))
  refine ⟨?_⟩
  refine wpList_void rfl rfl (exec_istore47 (id := 0) (id2 := id) (a1 := a1) (n1 := n1) (c1 := c1) (a2 := a2) (n2 := n2) (c2 := c2) (s2 := s) (u2 := u) (u := 0) rfl rfl rfl HY.out) ?_
  go_wp2_with fail
  exact bodyPost_ret (iret47 rfl rfl HY.out.row) rfl ⟨rfl, HB.out.trans ((Kept.setRow _ _ _).below HB.out.size (fun i hi => by omega))⟩

/-- Two of them in memory. -/
structure Sq (W : World) (id n n2 u : Nat) (s : Bool) (a1 a2 b1 b2 : Option Addr) (c1 c2 d1 d2 p q : Nat) (ops : List O) (ats : List Nat) : Prop where
  x : Blk W p 47 (infoV id (.slice a1 n c1) (.slice a2 n2 c2) s u)
  y : Blk W q 47 (infoV id (.slice b1 n d1) (.slice b2 n2 d2) s u)
  xo : GL W 23 a1 n (cellsO ops)
  yo : GL W 23 b1 n (cellsO ops)
  xa : GL W 1 a2 n2 (cellsN ats)
  ya : GL W 1 b2 n2 (cellsN ats)
theorem Sq.below {W W' : World} {id n n2 u : Nat} {s : Bool} {a1 a2 b1 b2 : Option Addr} {c1 c2 d1 d2 p q : Nat} {ops : List O} {ats : List Nat} (h : Sq W id n n2 u s a1 a2 b1 b2 c1 c2 d1 d2 p q ops ats) (hb : Below W.heap.size W W') : Sq W' id n n2 u s a1 a2 b1 b2 c1 c2 d1 d2 p q ops ats :=
  ⟨h.x.below hb, h.y.below hb, h.xo.below hb, h.yo.below hb, h.xa.below hb, h.ya.below hb⟩

theorem gl_op {w : World} {n k : Nat} {a : Option Addr} {g : List O} (h : GL w 23 a n (cellsO g)) (hk : k < n) : ∃ b off x, a = some ⟨b, off, none⟩ ∧ g[k]? = some x ∧ w.rangeAt b (off + k * 23) x.cs := OL.at h hk
theorem gl_int {w : World} {n k : Nat} {a : Option Addr} {es : List Nat} (h : GL w 1 a n (cellsN es)) (hk : k < n) : ∃ b off x, a = some ⟨b, off, none⟩ ∧ es[k]? = some x ∧ w.cell? ⟨b, off + k, none⟩ = some (.int .i64 (x : Int)) := by
  have hl : es.length = n := by have := h.len; simpa [cellsN] using this
  rcases h.cells with h0 | ⟨b, off, ha, hc⟩
  · omega
  · obtain ⟨x, hx⟩ : ∃ x, es[k]? = some x := ⟨_, List.getElem?_eq_getElem (by omega)⟩
    have := hc k [.int .i64 (x : Int)] (by simp [cellsN, hx]) 0 _ rfl
    exact ⟨b, off, x, ha, hx, by simpa using this⟩

set_option maxHeartbeats 4000000 in
set_option maxRecDepth 100000 in
theorem same_any (id n n2 u : Nat) (s : Bool) (a1 a2 b1 b2 : Option Addr) (c1 c2 d1 d2 : Nat) (ops : List O) (ats : List Nat) (w : World) (hn : n < 1000000000) (hn2 : n2 < 1000000000) (h1 : GL w 23 a1 n (cellsO ops)) (h2 : GL w 1 a2 n2 (cellsN ats)) (h3 : GL w 23 b1 n (cellsO ops)) (h4 : GL w 1 b2 n2 (cellsN ats)) :
    Calls Tryd.prog 18 #[.agg (infoV id (.slice a1 n c1) (.slice a2 n2 c2) s u), .agg (infoV id (.slice b1 n d1) (.slice b2 n2 d2) s u)] w (Says (.bool true) w) := by
  have bx := ibox47 id n n2 u a1 a2 c1 c2 s w
  have by_ := ibox47 id n n2 u b1 b2 d1 d2 s (w.alloc (.cells (infoV id (.slice a1 n c1) (.slice a2 n2 c2) s u) 47))
  have hb := below_two' w (.cells (infoV id (.slice a1 n c1) (.slice a2 n2 c2) s u) 47) (.cells (infoV id (.slice b1 n d1) (.slice b2 n2 d2) s u) 47)
  have hx := (Blk.new w 47 (infoV id (.slice a1 n c1) (.slice a2 n2 c2) s u)).below (below_one _ (.cells (infoV id (.slice b1 n d1) (.slice b2 n2 d2) s u) 47))
  have hy := Blk.new (w.alloc (.cells (infoV id (.slice a1 n c1) (.slice a2 n2 c2) s u) 47)) 47 (infoV id (.slice b1 n d1) (.slice b2 n2 d2) s u)
  have HS : Hid (Sq _ id n n2 u s a1 a2 b1 b2 c1 c2 d1 d2 _ _ ops ats) := Lib.hid ⟨hx, hy, h1.below hb, h3.below hb, h2.below hb, h4.below hb⟩
  have HB := Lib.hid hb
  clear hb hx hy h1 h2 h3 h4
  go_enter Tryd.func18, Tryd.ntmps18
  go_upto_region 37 with fail
  clear bx by_
  simp only [World.size_alloc] at HS
  generalize (w.alloc (.cells (infoV id (.slice a1 n c1) (.slice a2 n2 c2) s u) 47)).alloc (.cells (infoV id (.slice b1 n d1) (.slice b2 n2 d2) s u) 47) = W at HS HB ⊢
  have x0 : W.cell? ⟨w.heap.size, 0, none⟩ = some (.int .u32 (id : Int)) := by rw [HS.out.x.cell]; rfl
  have x1 : W.cell? ⟨w.heap.size, 1, none⟩ = some (.slice a1 n c1) := by rw [HS.out.x.cell]; rfl
  have x2 : W.cell? ⟨w.heap.size, 2, none⟩ = some (.slice a2 n2 c2) := by rw [HS.out.x.cell]; rfl
  have x3 : W.cell? ⟨w.heap.size, 3, none⟩ = some (.bool s) := by rw [HS.out.x.cell]; rfl
  have x4 : W.cell? ⟨w.heap.size, 4, none⟩ = some (.int .i64 (u : Int)) := by rw [HS.out.x.cell]; rfl
  have y0 : W.cell? ⟨w.heap.size + 1, 0, none⟩ = some (.int .u32 (id : Int)) := by rw [HS.out.y.cell]; rfl
  have y1 : W.cell? ⟨w.heap.size + 1, 1, none⟩ = some (.slice b1 n d1) := by rw [HS.out.y.cell]; rfl
  have y2 : W.cell? ⟨w.heap.size + 1, 2, none⟩ = some (.slice b2 n2 d2) := by rw [HS.out.y.cell]; rfl
  have y3 : W.cell? ⟨w.heap.size + 1, 3, none⟩ = some (.bool s) := by rw [HS.out.y.cell]; rfl
  have y4 : W.cell? ⟨w.heap.size + 1, 4, none⟩ = some (.int .i64 (u : Int)) := by rw [HS.out.y.cell]; rfl
  have hss : (s != s) = false := by simp
  go_wp2_with fail
  clear x0 x1 x2 x3 x4 y0 y1 y2 y3 y4 hss
  obtain ⟨p, hp⟩ : ∃ p, w.heap.size = p := ⟨_, rfl⟩
  rw [hp] at HS
  have HP := Lib.hid hp
  rw [hp]
  clear hp
  go_loopw [5] (fun v wr => ∃ k : Nat, v = .int .i64 (k : Int) ∧ k ≤ n ∧ Hid (Sq wr id n n2 u s a1 a2 b1 b2 c1 c2 d1 d2 p (p + 1) ops ats) ∧ Hid (Below w.heap.size w wr)) (fun v _ => n - (intOf v).toNat)
  case atStart => exact ⟨0, rfl, Nat.zero_le _, HS, HB⟩
  case round =>
    clear HS HB
    obtain ⟨k, rfl, hk, HM, HB⟩ := hrel
    have x1 : wr.cell? ⟨p, 1, none⟩ = some (.slice a1 n c1) := by rw [HM.out.x.cell]; rfl
    by_cases hlt : k < n
    · obtain ⟨e1, f1, x, rfl, hx, hr1⟩ := gl_op HM.out.xo hlt
      obtain ⟨e2, f2, x', rfl, hx', hr2⟩ := gl_op HM.out.yo hlt
      obtain rfl : x = x' := Option.some.inj (hx.symm.trans hx')
      have HX : Hid (World.rangeAt wr e1 (f1 + k * 23) x.cs ∧ World.rangeAt wr e2 (f2 + k * 23) x.cs) := Lib.hid ⟨hr1, hr2⟩
      clear hx hx' hr1 hr2
      go_upto_region 11 with fail
      clear x1
      refine wp_region_held_drew (S := fun w' => (Blk w' p 47 (infoV id (.slice (some ⟨e1, f1, none⟩) n c1) (.slice a2 n2 c2) s u) ∧ Blk w' (p + 1) 47 (infoV id (.slice (some ⟨e2, f2, none⟩) n d1) (.slice b2 n2 d2) s u)) ∧ (World.rangeAt w' e1 (f1 + k * 23) x.cs ∧ World.rangeAt w' e2 (f2 + k * 23) x.cs) ∧ Below wr.heap.size wr w') (by kernel_rfl)
        ⟨⟨HM.out.x.below (drew_below _), HM.out.y.below (drew_below _)⟩, ⟨fun j u hu => below_at (drew_below _) (HX.out.1 j u hu), fun j u hu => below_at (drew_below _) (HX.out.2 j u hu)⟩, drew_below _⟩ (fun hS => ?_)
      refine held_take 0 51 (.pointer (some ⟨p, 1, none⟩)) rfl rfl (by kernel_rfl) (by kernel_rfl) (by kernel_rfl) (fun _ _ _ h => h) (by kernel_rfl) (fun _ _ => (by kernel_rfl)) hS ?_
      simp only [Act.put, List.setIfInBounds_toArray, List.set_cons_zero, List.set_cons_succ]
      refine held_take 1 52 (.slice (some ⟨e1, f1, none⟩) n c1) rfl rfl (by kernel_rfl) (by kernel_rfl) (by kernel_rfl) (fun _ _ _ h => h) (by kernel_rfl) (fun _ h => exec_ldC 41 agg41 rfl rfl (by rw [h.1.1.cell]; rfl)) hS ?_
      simp only [Act.put, List.setIfInBounds_toArray, List.set_cons_zero, List.set_cons_succ]
      refine held_take 2 53 (.int .i64 (k : Int)) rfl rfl (by kernel_rfl) (by kernel_rfl) (by kernel_rfl) (fun _ _ _ h => h) (by kernel_rfl) (fun _ _ => rfl) hS ?_
      simp only [Act.put, List.setIfInBounds_toArray, List.set_cons_zero, List.set_cons_succ]
      refine held_take 3 54 (.pointer (some ⟨e1, f1 + k * 23, none⟩)) rfl rfl (by kernel_rfl) (by kernel_rfl) (by kernel_rfl) (fun _ _ _ h => h) (by kernel_rfl) (fun _ _ => exec_idxO (i := k) rfl rfl rfl rfl hlt) hS ?_
      simp only [Act.put, List.setIfInBounds_toArray, List.set_cons_zero, List.set_cons_succ]
      refine held_take 4 55 (.agg x.arr) rfl rfl (by kernel_rfl) (by kernel_rfl) (by kernel_rfl) (fun _ _ _ h => h) (by kernel_rfl) (fun _ h => exec_ldO (p := x) rfl rfl h.2.1.1) hS ?_
      simp only [Act.put, List.setIfInBounds_toArray, List.set_cons_zero, List.set_cons_succ]
      refine held_take 5 56 (.pointer (some ⟨p + 1, 1, none⟩)) rfl rfl (by kernel_rfl) (by kernel_rfl) (by kernel_rfl) (fun _ _ _ h => h) (by kernel_rfl) (fun _ _ => (by kernel_rfl)) hS ?_
      simp only [Act.put, List.setIfInBounds_toArray, List.set_cons_zero, List.set_cons_succ]
      refine held_take 6 57 (.slice (some ⟨e2, f2, none⟩) n d1) rfl rfl (by kernel_rfl) (by kernel_rfl) (by kernel_rfl) (fun _ _ _ h => h) (by kernel_rfl) (fun _ h => exec_ldC 41 agg41 rfl rfl (by rw [h.1.2.cell]; rfl)) hS ?_
      simp only [Act.put, List.setIfInBounds_toArray, List.set_cons_zero, List.set_cons_succ]
      refine held_take 7 58 (.int .i64 (k : Int)) rfl rfl (by kernel_rfl) (by kernel_rfl) (by kernel_rfl) (fun _ _ _ h => h) (by kernel_rfl) (fun _ _ => rfl) hS ?_
      simp only [Act.put, List.setIfInBounds_toArray, List.set_cons_zero, List.set_cons_succ]
      refine held_take 8 59 (.pointer (some ⟨e2, f2 + k * 23, none⟩)) rfl rfl (by kernel_rfl) (by kernel_rfl) (by kernel_rfl) (fun _ _ _ h => h) (by kernel_rfl) (fun _ _ => exec_idxO (i := k) rfl rfl rfl rfl hlt) hS ?_
      simp only [Act.put, List.setIfInBounds_toArray, List.set_cons_zero, List.set_cons_succ]
      refine held_take 9 60 (.agg x.arr) rfl rfl (by kernel_rfl) (by kernel_rfl) (by kernel_rfl) (fun _ _ _ h => h) (by kernel_rfl) (fun _ h => exec_ldO (p := x) rfl rfl h.2.1.2) hS ?_
      simp only [Act.put, List.setIfInBounds_toArray, List.set_cons_zero, List.set_cons_succ]
      refine held_take 10 61 (.bool false) rfl rfl (by kernel_rfl) (by kernel_rfl) (by kernel_rfl) (fun _ _ _ h => h) (by kernel_rfl) (fun _ _ => exec_neq29 (a := x) (b := x) rfl rfl rfl rfl) hS ?_
      simp only [Act.put, List.setIfInBounds_toArray, List.set_cons_zero, List.set_cons_succ]
      refine wpAnyH_done (by kernel_rfl) ?_ _
      have HM2 := Lib.hid (HM.out.below hS.2.2)
      have HB2 := Lib.hid (HB.out.trans (hS.2.2.mono HB.out.size))
      clear hS HM HB HX
      go_wp2_with fail
      go_roundw
      case rel => exact ⟨k + 1, by go_num, by omega, HM2, HB2⟩
      case measure => simp [intOf]; omega
    · obtain rfl : k = n := by omega
      go_wp2_with fail
      clear x1
      go_loopw [6] (fun v wr => ∃ k2 : Nat, v = .int .i64 (k2 : Int) ∧ k2 ≤ n2 ∧ Hid (Sq wr id k n2 u s a1 a2 b1 b2 c1 c2 d1 d2 p (p + 1) ops ats) ∧ Hid (Below w.heap.size w wr)) (fun v _ => n2 - (intOf v).toNat)
      case atStart => exact ⟨0, rfl, Nat.zero_le _, HM, HB⟩
      case round =>
        clear HM HB
        obtain ⟨k2, rfl, hk2, HM, HB⟩ := hrel
        have x2 : wr.cell? ⟨p, 2, none⟩ = some (.slice a2 n2 c2) := by rw [HM.out.x.cell]; rfl
        by_cases hlt2 : k2 < n2
        · obtain ⟨e1, f1, x, rfl, hx, hr1⟩ := gl_int HM.out.xa hlt2
          obtain ⟨e2, f2, x', rfl, hx', hr2⟩ := gl_int HM.out.ya hlt2
          obtain rfl : x = x' := Option.some.inj (hx.symm.trans hx')
          have HX := Lib.hid (And.intro hr1 hr2)
          clear hx hx' hr1 hr2
          go_upto_region 11 with fail
          clear x2
          refine wp_region_held_drew (S := fun w' => (Blk w' p 47 (infoV id (.slice a1 k c1) (.slice (some ⟨e1, f1, none⟩) n2 c2) s u) ∧ Blk w' (p + 1) 47 (infoV id (.slice b1 k d1) (.slice (some ⟨e2, f2, none⟩) n2 d2) s u)) ∧ (w'.cell? ⟨e1, f1 + k2, none⟩ = some (.int .i64 (x : Int)) ∧ w'.cell? ⟨e2, f2 + k2, none⟩ = some (.int .i64 (x : Int))) ∧ Below wr.heap.size wr w') (by kernel_rfl)
            ⟨⟨HM.out.x.below (drew_below _), HM.out.y.below (drew_below _)⟩, ⟨below_at (drew_below _) HX.out.1, below_at (drew_below _) HX.out.2⟩, drew_below _⟩ (fun hS => ?_)
          refine held_take 0 69 (.pointer (some ⟨p, 2, none⟩)) rfl rfl (by kernel_rfl) (by kernel_rfl) (by kernel_rfl) (fun _ _ _ h => h) (by kernel_rfl) (fun _ _ => (by kernel_rfl)) hS ?_
          simp only [Act.put, List.setIfInBounds_toArray, List.set_cons_zero, List.set_cons_succ]
          refine held_take 1 70 (.slice (some ⟨e1, f1, none⟩) n2 c2) rfl rfl (by kernel_rfl) (by kernel_rfl) (by kernel_rfl) (fun _ _ _ h => h) (by kernel_rfl) (fun _ h => exec_ldC 42 agg42 rfl rfl (by rw [h.1.1.cell]; rfl)) hS ?_
          simp only [Act.put, List.setIfInBounds_toArray, List.set_cons_zero, List.set_cons_succ]
          refine held_take 2 71 (.int .i64 (k2 : Int)) rfl rfl (by kernel_rfl) (by kernel_rfl) (by kernel_rfl) (fun _ _ _ h => h) (by kernel_rfl) (fun _ _ => rfl) hS ?_
          simp only [Act.put, List.setIfInBounds_toArray, List.set_cons_zero, List.set_cons_succ]
          refine held_take 3 72 (.pointer (some ⟨e1, f1 + k2, none⟩)) rfl rfl (by kernel_rfl) (by kernel_rfl) (by kernel_rfl) (fun _ _ _ h => h) (by kernel_rfl) (fun _ _ => exec_idxN (i := k2) rfl rfl rfl rfl hlt2) hS ?_
          simp only [Act.put, List.setIfInBounds_toArray, List.set_cons_zero, List.set_cons_succ]
          refine held_take 4 73 (.int .i64 (x : Int)) rfl rfl (by kernel_rfl) (by kernel_rfl) (by kernel_rfl) (fun _ _ _ h => h) (by kernel_rfl) (fun _ h => exec_ldC 3 agg3 rfl rfl h.2.1.1) hS ?_
          simp only [Act.put, List.setIfInBounds_toArray, List.set_cons_zero, List.set_cons_succ]
          refine held_take 5 74 (.pointer (some ⟨p + 1, 2, none⟩)) rfl rfl (by kernel_rfl) (by kernel_rfl) (by kernel_rfl) (fun _ _ _ h => h) (by kernel_rfl) (fun _ _ => (by kernel_rfl)) hS ?_
          simp only [Act.put, List.setIfInBounds_toArray, List.set_cons_zero, List.set_cons_succ]
          refine held_take 6 75 (.slice (some ⟨e2, f2, none⟩) n2 d2) rfl rfl (by kernel_rfl) (by kernel_rfl) (by kernel_rfl) (fun _ _ _ h => h) (by kernel_rfl) (fun _ h => exec_ldC 42 agg42 rfl rfl (by rw [h.1.2.cell]; rfl)) hS ?_
          simp only [Act.put, List.setIfInBounds_toArray, List.set_cons_zero, List.set_cons_succ]
          refine held_take 7 76 (.int .i64 (k2 : Int)) rfl rfl (by kernel_rfl) (by kernel_rfl) (by kernel_rfl) (fun _ _ _ h => h) (by kernel_rfl) (fun _ _ => rfl) hS ?_
          simp only [Act.put, List.setIfInBounds_toArray, List.set_cons_zero, List.set_cons_succ]
          refine held_take 8 77 (.pointer (some ⟨e2, f2 + k2, none⟩)) rfl rfl (by kernel_rfl) (by kernel_rfl) (by kernel_rfl) (fun _ _ _ h => h) (by kernel_rfl) (fun _ _ => exec_idxN (i := k2) rfl rfl rfl rfl hlt2) hS ?_
          simp only [Act.put, List.setIfInBounds_toArray, List.set_cons_zero, List.set_cons_succ]
          refine held_take 9 78 (.int .i64 (x : Int)) rfl rfl (by kernel_rfl) (by kernel_rfl) (by kernel_rfl) (fun _ _ _ h => h) (by kernel_rfl) (fun _ h => exec_ldC 3 agg3 rfl rfl h.2.1.2) hS ?_
          simp only [Act.put, List.setIfInBounds_toArray, List.set_cons_zero, List.set_cons_succ]
          refine held_take 10 79 (.bool false) rfl rfl (by kernel_rfl) (by kernel_rfl) (by kernel_rfl) (fun _ _ _ h => h) (by kernel_rfl) (fun _ _ => exec_neqI trivial rfl rfl rfl (by simp)) hS ?_
          simp only [Act.put, List.setIfInBounds_toArray, List.set_cons_zero, List.set_cons_succ]
          refine wpAnyH_done (by kernel_rfl) ?_ _
          have HM2 := Lib.hid (HM.out.below hS.2.2)
          have HB2 := Lib.hid (HB.out.trans (hS.2.2.mono HB.out.size))
          clear hS HM HB HX
          go_wp2_with fail
          go_roundw
          case rel => exact ⟨k2 + 1, by go_num, by omega, HM2, HB2⟩
          case measure => simp [intOf]; omega
        · go_wp2_with fail
          go_ret
          exact ⟨rfl, HB.out⟩

end Go.Proofs.YtfnaccmgmocolaaDoor
