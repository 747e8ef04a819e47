import Derived.Test.YtnekpgmgnepdoaaGreatXas
import Derived.Test.YtnekpgmgnepdoaaGreatXbf
section
namespace Go.Proofs.YtnekpgmgnepdoaaGreat
open Go.RowKit
section
variable {ev : Operand → Value} {q : Oper} {w : World}
theorem exec_idxL {x y : Operand} {b off n cap i : Nat} {z : Int} (ho : q.op = .indexAddr 53 x y) (hx : ev x = .slice (some ⟨b, off, none⟩) n cap) (hy : ev y = .int .i64 z) (hz : z = (i : Int)) (hi : i < n) : (execOp ev q).run Tryz.prog w = .ok (.value (.pointer (some ⟨b, off + i * 2, none⟩))) w := by
 subst hz
 have u28 := und53
 unfold execOp
 simp only [ho, hx, hy]
 go_simp
end
abbrev vw (c : Nat) (a : Option Addr) (n cap : Nat) (o : Bool) (t : Nat) : Array Value := #[.int .u16 (c : Int), .slice a n cap, .bool o, .int .u32 (t : Int)]
def ln (x : Nat × Nat) : List Value := [.int .u16 (x.1 : Int), .int .u32 (x.2 : Int)]
section
variable {ev : Operand → Value} {q : Oper} {w : World}
theorem box55 (c : Nat) (a : Option Addr) (n cap : Nat) (o : Bool) (t : Nat) (w : World) : (Instr.box 55 (.agg (vw c a n cap o t))).run Tryz.prog w = .ok (.pointer (some ⟨w.heap.size, 0, none⟩)) (w.alloc (.cells (vw c a n cap o t) 55)) := by
 simp [Instr.box, newVar, newRow, Value.cells, go_sem]
theorem exec_ld86 {x : Operand} {b off i n : Nat} (ho : q.op = .load 86 x) (hx : ev x = .pointer (some ⟨b, off, none⟩)) (h : w.rangeAt b off (ln (i, n))) : (execOp ev q).run Tryz.prog w = .ok (.value (.agg #[.int .u16 (i : Int), .int .u32 (n : Int)])) w := by
 have hl := run_loadVar_mid (P := Tryz.prog) w b off 86 (ln (i, n)) _ h Tryz.underlying86 rfl (by kernel_rfl)
 refine exec_cell ho hx ?_
 simp only [Instr.loadAt, Instr.sureAddr, Sem.run_bind, Sem.run_pure, Result.andThen_ok, hl]
 rfl
theorem exec_neq86 {x y : Operand} {i n : Nat} (ho : q.op = .binOp .neq 86 x y 86) (hx : ev x = .agg #[.int .u16 (i : Int), .int .u32 (n : Int)]) (hy : ev y = .agg #[.int .u16 (i : Int), .int .u32 (n : Int)]) : (execOp ev q).run Tryz.prog w = .ok (.value (.bool false)) w := by
 unfold execOp
 simp only [ho, hx, hy]
 go_simp
end
structure Sm (w W : World) (g1 g2 c : Nat) (a1 a2 : Option Addr) (n cap1 cap2 : Nat) (o : Bool) (t : Nat) (ls : List (Nat × Nat)) : Prop where
 one : Blk W g1 55 (vw c a1 n cap1 o t)
 two : Blk W g2 55 (vw c a2 n cap2 o t)
 gl1 : GL W 2 a1 n (ls.map ln)
 gl2 : GL W 2 a2 n (ls.map ln)
 old : Below w.heap.size w W
theorem Sm.below {w W W' : World} {g1 g2 c n cap1 cap2 t : Nat} {a1 a2 : Option Addr} {o : Bool} {ls : List (Nat × Nat)} (h : Sm w W g1 g2 c a1 a2 n cap1 cap2 o t ls) (hb : Below W.heap.size W W') : Sm w W' g1 g2 c a1 a2 n cap1 cap2 o t ls :=
 ⟨h.one.below hb, h.two.below hb, h.gl1.below hb, h.gl2.below hb, h.old.trans (hb.mono h.old.size)⟩
structure Sr2 (W : World) (g1 g2 c b1 b2 o1 o2 n cap1 cap2 j i q : Nat) (o : Bool) (t : Nat) : Prop where
 one : Blk W g1 55 (vw c (some ⟨b1, o1, none⟩) n cap1 o t)
 two : Blk W g2 55 (vw c (some ⟨b2, o2, none⟩) n cap2 o t)
 r1 : W.rangeAt b1 (o1 + j * 2) (ln (i, q))
 r2 : W.rangeAt b2 (o2 + j * 2) (ln (i, q))
theorem vc1 {w : World} {g c : Nat} {a : Option Addr} {n cap : Nat} {o : Bool} {t : Nat} (h : Blk w g 55 (vw c a n cap o t)) : w.cell? ⟨g, 1, none⟩ = some (.slice a n cap) := by rw [h.cell]; rfl
def SmR (w : World) (g1 g2 c : Nat) (a1 a2 : Option Addr) (n cap1 cap2 : Nat) (o : Bool) (t : Nat) (ls : List (Nat × Nat)) (u : Value) (W : World) : Prop :=
 ∃ j : Nat, u = .int .i64 (j : Int) ∧ j ≤ n ∧ Hid (Sm w W g1 g2 c a1 a2 n cap1 cap2 o t ls)
set_option maxRecDepth 100000 in
set_option maxHeartbeats 2000000 in
theorem vsame_any (c : Nat) (a1 a2 : Option Addr) (n cap1 cap2 : Nat) (o : Bool) (t : Nat) (ls : List (Nat × Nat)) (w : World) (hn : n < 1000000) (h1 : GL w 2 a1 n (ls.map ln)) (h2 : GL w 2 a2 n (ls.map ln)) : Calls Tryz.prog 23 #[.agg (vw c a1 n cap1 o t), .agg (vw c a2 n cap2 o t)] w (Says (.bool true) w) := by
 have hb1 := fun (a : Option Addr) (cap : Nat) (w : World) => box55 c a n cap o t w
 have HS0 : Hid (Sm w ((w.alloc (.cells (vw c a1 n cap1 o t) 55)).alloc (.cells (vw c a2 n cap2 o t) 55)) w.heap.size (w.heap.size + 1) c a1 a2 n cap1 cap2 o t ls) := Lib.hid ⟨(Blk.new w 55 _).below (below_one _ _), by
  have h := Blk.new (w.alloc (.cells (vw c a1 n cap1 o t) 55)) 55 (vw c a2 n cap2 o t)
  rw [World.size_alloc] at h
  exact h, h1.below (below_two' _ _ _), h2.below (below_two' _ _ _), below_two' _ _ _⟩
 clear h1 h2
 go_enter Tryz.func23, Tryz.ntmps23
 go_upto_region 1 with fail
 clear hb1
 generalize (w.alloc (.cells (vw c a1 n cap1 o t) 55)).alloc (.cells (vw c a2 n cap2 o t) 55) = w0 at HS0
 obtain ⟨g2, hg2⟩ : ∃ g, w.heap.size + 1 = g := ⟨_, rfl⟩
 obtain ⟨g1, hg1⟩ : ∃ g, w.heap.size = g := ⟨_, rfl⟩
 rw [hg2, hg1] at HS0
 rw [hg2, hg1]
 clear hg1 hg2
 have c10 : w0.cell? ⟨g1, 0, none⟩ = some (.int .u16 (c : Int)) := by rw [HS0.out.one.cell]; rfl
 have c11 := vc1 HS0.out.one
 have c12 : w0.cell? ⟨g1, 2, none⟩ = some (.bool o) := by rw [HS0.out.one.cell]; rfl
 have c13 : w0.cell? ⟨g1, 3, none⟩ = some (.int .u32 (t : Int)) := by rw [HS0.out.one.cell]; rfl
 have c20 : w0.cell? ⟨g2, 0, none⟩ = some (.int .u16 (c : Int)) := by rw [HS0.out.two.cell]; rfl
 have c21 := vc1 HS0.out.two
 have c22 : w0.cell? ⟨g2, 2, none⟩ = some (.bool o) := by rw [HS0.out.two.cell]; rfl
 have c23 : w0.cell? ⟨g2, 3, none⟩ = some (.int .u32 (t : Int)) := by rw [HS0.out.two.cell]; rfl
 go_wp2_with fail
 clear c10 c11 c12 c13 c20 c21 c22 c23
 go_loopw [5] (SmR w g1 g2 c a1 a2 n cap1 cap2 o t ls) (fun u _ => n - (numI u).toNat)
 case atStart => exact ⟨0, rfl, Nat.zero_le _, HS0⟩
 case round =>
  obtain ⟨j, rfl, hj, HS⟩ := hrel
  clear HS0
  have c11 := vc1 HS.out.one
  by_cases hlt : j < n
  ·have hlen : ls.length = n := by simpa using HS.out.gl1.len
   obtain ⟨⟨i, q⟩, hiq⟩ : ∃ x, ls[j]? = some x := ⟨_, List.getElem?_eq_getElem (by omega)⟩
   obtain ⟨b1, o1, e1, r1⟩ : ∃ b off, a1 = some ⟨b, off, none⟩ ∧ wr.rangeAt b (off + j * 2) (ln (i, q)) := by
    rcases HS.out.gl1.cells with h0 | ⟨b, off, ha, hc⟩
    ·omega
    ·exact ⟨b, off, ha, hc j _ (by simp [hiq])⟩
   obtain ⟨b2, o2, e2, r2⟩ : ∃ b off, a2 = some ⟨b, off, none⟩ ∧ wr.rangeAt b (off + j * 2) (ln (i, q)) := by
    rcases HS.out.gl2.cells with h0 | ⟨b, off, ha, hc⟩
    ·omega
    ·exact ⟨b, off, ha, hc j _ (by simp [hiq])⟩
   subst e1 e2
   have HR : Hid (Sr2 wr g1 g2 c b1 b2 o1 o2 n cap1 cap2 j i q o t) := Lib.hid ⟨HS.out.one, HS.out.two, r1, r2⟩
   clear hiq r1 r2 hlen
   go_upto_region 6 with fail
   clear c11
   refine wp_region_held_drew (S := fun w' => Sr2 w' g1 g2 c b1 b2 o1 o2 n cap1 cap2 j i q o t) (by kernel_rfl) ⟨HR.out.one, HR.out.two, HR.out.r1, HR.out.r2⟩ (fun hS => ?_)
   refine held_tk 0 41 (.pointer (some ⟨g1,1,none⟩)) rfl rfl (by kernel_rfl) (fun _ _ _ h=>h) (fun _ _=>(by kernel_rfl)) hS ?_;simp only [Act.put,ap1,ap2,ap3]
   refine held_tk 1 42 (.slice (some ⟨b1,o1,none⟩) n cap1) rfl rfl (by kernel_rfl) (fun _ _ _ h=>h) (fun _ h=>exec_cell rfl rfl (load_cell (by kernel_rfl) (vc1 h.one))) hS ?_;simp only [Act.put,ap1,ap2,ap3]
   refine held_tk 2 43 (.int .i64 (j : Int)) rfl rfl (by kernel_rfl) (fun _ _ _ h=>h) (fun _ _=>rfl) hS ?_;simp only [Act.put,ap1,ap2,ap3]
   refine held_tk 3 44 (.pointer (some ⟨b1,o1 + j * 2,none⟩)) rfl rfl (by kernel_rfl) (fun _ _ _ h=>h) (fun _ _=>exec_idxL (i:=j) rfl rfl rfl rfl hlt) hS ?_;simp only [Act.put,ap1,ap2,ap3]
   refine held_tk 4 45 (.agg #[.int .u16 (i : Int),.int .u32 (q : Int)]) rfl rfl (by kernel_rfl) (fun _ _ _ h=>h) (fun _ h=>exec_ld86 rfl rfl h.r1) hS ?_;simp only [Act.put,ap1,ap2,ap3]
   refine held_tk 5 46 (.pointer (some ⟨g2,1,none⟩)) rfl rfl (by kernel_rfl) (fun _ _ _ h=>h) (fun _ _=>(by kernel_rfl)) hS ?_;simp only [Act.put,ap1,ap2,ap3]
   refine held_tk 6 47 (.slice (some ⟨b2,o2,none⟩) n cap2) rfl rfl (by kernel_rfl) (fun _ _ _ h=>h) (fun _ h=>exec_cell rfl rfl (load_cell (by kernel_rfl) (vc1 h.two))) hS ?_;simp only [Act.put,ap1,ap2,ap3]
   refine held_tk 7 48 (.int .i64 (j : Int)) rfl rfl (by kernel_rfl) (fun _ _ _ h=>h) (fun _ _=>rfl) hS ?_;simp only [Act.put,ap1,ap2,ap3]
   refine held_tk 8 49 (.pointer (some ⟨b2,o2 + j * 2,none⟩)) rfl rfl (by kernel_rfl) (fun _ _ _ h=>h) (fun _ _=>exec_idxL (i:=j) rfl rfl rfl rfl hlt) hS ?_;simp only [Act.put,ap1,ap2,ap3]
   refine held_tk 9 50 (.agg #[.int .u16 (i : Int),.int .u32 (q : Int)]) rfl rfl (by kernel_rfl) (fun _ _ _ h=>h) (fun _ h=>exec_ld86 rfl rfl h.r2) hS ?_;simp only [Act.put,ap1,ap2,ap3]
   refine held_tk 10 51 (.bool false) rfl rfl (by kernel_rfl) (fun _ _ _ h=>h) (fun _ _=>exec_neq86 rfl rfl rfl) hS ?_;simp only [Act.put,ap1,ap2,ap3]
   refine wpAnyH_done (by kernel_rfl) ?_ _
   have HSN := Lib.hid (HS.out.below (drew_below wr))
   clear hS
   go_wp2_with fail
   go_roundw
   case rel => exact ⟨j + 1, by go_num, by omega, HSN⟩
   case measure => simp [numI]; omega
  ·go_wp2_with fail
   go_ret
   exact ⟨rfl, HS.out.old⟩
section
variable {ev : Operand → Value} {q : Oper} {w : World}
theorem exec_idxN {x y : Operand} {b off n cap i : Nat} {z : Int} (ho : q.op = .indexAddr 59 x y) (hx : ev x = .slice (some ⟨b, off, none⟩) n cap) (hy : ev y = .int .i64 z) (hz : z = (i : Int)) (hi : i < n) : (execOp ev q).run Tryz.prog w = .ok (.value (.pointer (some ⟨b, off + i * 1, none⟩))) w := by
 subst hz
 have u59 := und59u
 unfold execOp
 simp only [ho, hx, hy]
 go_simp
end
structure carteqS (w W : World) (a1 a2 : Option Addr) (n : Nat) (ls : List Nat) : Prop where
 gl1 : GL W 1 a1 n (ones ls)
 gl2 : GL W 1 a2 n (ones ls)
 old : Below w.heap.size w W
theorem carteqS.below {w W W' : World} {a1 a2 : Option Addr} {n : Nat} {ls : List Nat} (h : carteqS w W a1 a2 n ls) (hb : Below W.heap.size W W') : carteqS w W' a1 a2 n ls := ⟨h.gl1.below hb, h.gl2.below hb, h.old.trans (hb.mono h.old.size)⟩
def carteqR (w : World) (a1 a2 : Option Addr) (n : Nat) (ls : List Nat) (u : Value) (W : World) : Prop := ∃ j : Nat, u = .int .i64 (j : Int) ∧ j ≤ n ∧ Hid (carteqS w W a1 a2 n ls)
set_option maxRecDepth 100000 in
set_option maxHeartbeats 2000000 in
theorem carteq_any (a1 a2 : Option Addr) (n cap1 cap2 : Nat) (ls : List Nat) (w : World) (hn : n < 1000000) (h1 : GL w 1 a1 n (ones ls)) (h2 : GL w 1 a2 n (ones ls)) : Calls Tryz.prog 26 #[.slice a1 n cap1, .slice a2 n cap2] w (Says (.bool true) w) := by
 have HS0 : Hid (carteqS w w a1 a2 n ls) := Lib.hid ⟨h1, h2, Below.refl _ _⟩
 clear h1 h2
 go_enter Tryz.func26, Tryz.ntmps26
 go_wp2_with fail
 go_loopw [13] (carteqR w a1 a2 n ls) (fun u _ => n - (numI u).toNat)
 case atStart => exact ⟨0, rfl, Nat.zero_le _, HS0⟩
 case round =>
  obtain ⟨j, rfl, hj, HS⟩ := hrel
  clear HS0
  by_cases hlt : j < n
  ·have hlen : ls.length = n := by simpa [ones] using HS.out.gl1.len
   obtain ⟨x, hx⟩ : ∃ x, ls[j]? = some x := ⟨_, List.getElem?_eq_getElem (by omega)⟩
   obtain ⟨b1, o1, e1, r1⟩ : ∃ b off, a1 = some ⟨b, off, none⟩ ∧ wr.cell? ⟨b, off + j * 1, none⟩ = some (.int .u16 (x : Int)) := by
    rcases HS.out.gl1.cells with h0 | ⟨b, off, ha, hc⟩
    ·omega
    ·exact ⟨b, off, ha, (by have h := hc j [encK x] (by simp [ones, hx]) 0 (encK x) rfl; rw [Nat.add_zero] at h; exact h)⟩
   obtain ⟨b2, o2, e2, r2⟩ : ∃ b off, a2 = some ⟨b, off, none⟩ ∧ wr.cell? ⟨b, off + j * 1, none⟩ = some (.int .u16 (x : Int)) := by
    rcases HS.out.gl2.cells with h0 | ⟨b, off, ha, hc⟩
    ·omega
    ·exact ⟨b, off, ha, (by have h := hc j [encK x] (by simp [ones, hx]) 0 (encK x) rfl; rw [Nat.add_zero] at h; exact h)⟩
   subst e1 e2
   have H1 := Lib.hid r1
   have H2 := Lib.hid r2
   clear hx r1 r2 hlen
   go_upto_region 6 with fail
   refine wp_region_held_drew (S := fun w' => w'.cell? ⟨b1, o1 + j * 1, none⟩ = some (.int .u16 (x : Int)) ∧ w'.cell? ⟨b2, o2 + j * 1, none⟩ = some (.int .u16 (x : Int))) (by kernel_rfl) ⟨H1.out, H2.out⟩ (fun hS => ?_)
   refine held_tk 0 16 (.slice (some ⟨b1,o1,none⟩) n cap1) rfl rfl (by kernel_rfl) (fun _ _ _ h=>h) (fun _ _=>rfl) hS ?_;simp only [Act.put,ap1,ap2,ap3]
   refine held_tk 1 17 (.int .i64 (j : Int)) rfl rfl (by kernel_rfl) (fun _ _ _ h=>h) (fun _ _=>rfl) hS ?_;simp only [Act.put,ap1,ap2,ap3]
   refine held_tk 2 18 (.pointer (some ⟨b1,o1 + j * 1,none⟩)) rfl rfl (by kernel_rfl) (fun _ _ _ h=>h) (fun _ _=>exec_idxN (i:=j) rfl rfl rfl rfl hlt) hS ?_;simp only [Act.put,ap1,ap2,ap3]
   refine held_tk 3 19 (.int .u16 (x : Int)) rfl rfl (by kernel_rfl) (fun _ _ _ h=>h) (fun _ h=>exec_cell rfl rfl (load_cell (by kernel_rfl) h.1)) hS ?_;simp only [Act.put,ap1,ap2,ap3]
   refine held_tk 4 20 (.slice (some ⟨b2,o2,none⟩) n cap2) rfl rfl (by kernel_rfl) (fun _ _ _ h=>h) (fun _ _=>rfl) hS ?_;simp only [Act.put,ap1,ap2,ap3]
   refine held_tk 5 21 (.int .i64 (j : Int)) rfl rfl (by kernel_rfl) (fun _ _ _ h=>h) (fun _ _=>rfl) hS ?_;simp only [Act.put,ap1,ap2,ap3]
   refine held_tk 6 22 (.pointer (some ⟨b2,o2 + j * 1,none⟩)) rfl rfl (by kernel_rfl) (fun _ _ _ h=>h) (fun _ _=>exec_idxN (i:=j) rfl rfl rfl rfl hlt) hS ?_;simp only [Act.put,ap1,ap2,ap3]
   refine held_tk 7 23 (.int .u16 (x : Int)) rfl rfl (by kernel_rfl) (fun _ _ _ h=>h) (fun _ h=>exec_cell rfl rfl (load_cell (by kernel_rfl) h.2)) hS ?_;simp only [Act.put,ap1,ap2,ap3]
   refine held_tk 8 24 (.bool false) rfl rfl (by kernel_rfl) (fun _ _ _ h=>h) (fun _ _=>exec_neqI trivial rfl rfl rfl (by simp)) hS ?_;simp only [Act.put,ap1,ap2,ap3]
   refine wpAnyH_done (by kernel_rfl) ?_ _
   have HSN := Lib.hid (HS.out.below (drew_below wr))
   clear hS
   go_wp2_with fail
   go_roundw
   case rel => exact ⟨j + 1, by go_num, by omega, HSN⟩
   case measure => simp [numI]; omega
  ·go_wp2_with fail
   go_ret
   exact ⟨rfl, HS.out.old⟩
end Go.Proofs.YtnekpgmgnepdoaaGreat
end
section
namespace Go.Proofs.YtnekpgmgnepdoaaGreat
open Go.RowKit
def lv (n : Nat) : V := V.zero.put 0 n
theorem build_lv (n : Nat) (hn : n < 4294967296) (w : World) : (Instr.build 24 #[(0, .int .u32 (n : Int))]).run Tryz.prog w = .ok (.agg (lv n).arr) w := by
 rw [lv, ← V.arr_put V.zero (by omega) hn, zero_arr]
 kernel_rfl
def opA : O := ⟨0, 1, 1, 3, 4, 2, 5, V.zero, by omega, by omega, by omega, by omega, by omega, by omega, by omega⟩
def opB (v : V) : O := ⟨0, 2, 3, 3, 4, 0, 6, v, by omega, by omega, by omega, by omega, by omega, by omega, by omega⟩
theorem build_A (w : World) : (Instr.build 33 #[(0, dotV 0 1), (1, .int .u8 1), (2, .int .u16 3), (3, .int .u16 4), (4, .int .u16 2), (5, .int .u32 5)]).run Tryz.prog w = .ok (.agg opA.arr) w := by
 refine run_build w 33 _ _ ?_
 kernel_rfl
theorem build_B (v : V) (w : World) : (Instr.build 33 #[(0, dotV 0 2), (1, .int .u8 3), (2, .int .u16 3), (3, .int .u16 4), (5, .int .u32 6), (6, .agg v.arr)]).run Tryz.prog w = .ok (.agg (opB v).arr) w := by
 refine run_build w 33 _ _ ?_
 obtain ⟨x0, x1, x2, x3, x4, x5, x6, x7, x8, x9, y0, y1, y2, y3, y4, y5, hv⟩ := sixteen v
 unfold O.arr O.cs O.hd opB V.arr V.cs
 simp only
 rw [hv]
 kernel_rfl
section
variable {ev : Operand → Value} {o : Oper} {w : World}
theorem exec_lv {x : Operand} {n : Nat} {z : V} (hz : lv n = z) (hn : n < 4294967296) (ho : o.op = .build 24 #[(0, x)]) (hx : ev x = .int .u32 (n : Int)) : (execOp ev o).run Tryz.prog w = .ok (.value (.agg z.arr)) w := by
 subst hz
 have hm : (#[((0 : Nat), x)]).map (fun (i, x) => (i, ev x)) = #[(0, .int .u32 (n : Int))] := by simp [hx]
 unfold execOp
 simp only [ho, hm, Sem.run_bind, build_lv n hn w, Result.andThen_ok]
 rfl
theorem exec_A {x0 x1 x2 x3 x4 x5 : Operand} {a : O} (ha : opA = a) (ho : o.op = .build 33 #[(0, x0), (1, x1), (2, x2), (3, x3), (4, x4), (5, x5)]) (h0 : ev x0 = dotV 0 1) (h1 : ev x1 = .int .u8 1) (h2 : ev x2 = .int .u16 3) (h3 : ev x3 = .int .u16 4) (h4 : ev x4 = .int .u16 2) (h5 : ev x5 = .int .u32 5) : (execOp ev o).run Tryz.prog w = .ok (.value (.agg a.arr)) w := by
 subst ha
 have hm : (#[((0 : Nat), x0), (1, x1), (2, x2), (3, x3), (4, x4), (5, x5)]).map (fun (i, x) => (i, ev x)) = #[(0, dotV 0 1), (1, .int .u8 1), (2, .int .u16 3), (3, .int .u16 4), (4, .int .u16 2), (5, .int .u32 5)] := by simp [h0, h1, h2, h3, h4, h5]
 unfold execOp
 simp only [ho, hm, Sem.run_bind, build_A w, Result.andThen_ok]
 rfl
theorem exec_B {x0 x1 x2 x3 x5 x6 : Operand} {v : V} {a : O} (ha : opB v = a) (ho : o.op = .build 33 #[(0, x0), (1, x1), (2, x2), (3, x3), (5, x5), (6, x6)]) (h0 : ev x0 = dotV 0 2) (h1 : ev x1 = .int .u8 3) (h2 : ev x2 = .int .u16 3) (h3 : ev x3 = .int .u16 4) (h5 : ev x5 = .int .u32 6) (h6 : ev x6 = .agg v.arr) : (execOp ev o).run Tryz.prog w = .ok (.value (.agg a.arr)) w := by
 subst ha
 have hm : (#[((0 : Nat), x0), (1, x1), (2, x2), (3, x3), (5, x5), (6, x6)]).map (fun (i, x) => (i, ev x)) = #[(0, dotV 0 2), (1, .int .u8 3), (2, .int .u16 3), (3, .int .u16 4), (5, .int .u32 6), (6, .agg v.arr)] := by simp [h0, h1, h2, h3, h5, h6]
 unfold execOp
 simp only [ho, hm, Sem.run_bind, build_B v w, Result.andThen_ok]
 rfl
theorem exec_fldTk {x : Operand} {c t : Nat} {s : Value} {b : Bool} (ho : o.op = .field 55 x 3) (hx : ev x = .agg (viewV c s b t)) : (execOp ev o).run Tryz.prog w = .ok (.value (.int .u32 (t : Int))) w := by
 have hf : (Instr.field 55 (.agg (viewV c s b t)) 3).run Tryz.prog w = .ok (.int .u32 (t : Int)) w := by unfold viewV; kernel_rfl
 unfold execOp
 simp only [ho, hx, Sem.run_bind, hf, Result.andThen_ok]
 rfl
end
def sA : Sta := applyS Sta.zero opA
def sB : Sta := applyS sA (opB (lv 1))
theorem citems_one {c : Nat} {e : En} {its : List Nat} (h : CItems c [e] its) (hc : e.c = c) (hk : e.k ≠ 4) : its = [e.i] := by
 have hcam : ∀ i, (camTo c [e] [e].length i).isSome = true ↔ e.i = i := fun i => by
  show (camStep c i none e).isSome = true ↔ _
  unfold camStep
  by_cases hi : e.i = i
  ·rw [if_pos ⟨hc, hk, hi⟩]; simp [hi]
  ·rw [if_neg (fun hh => hi hh.2.2)]; simp [hi]
 have hall : ∀ x ∈ its, x = e.i := fun x hx => ((hcam x).1 ((h.mem x).1 hx).2).symm
 have hm : e.i ∈ its := (h.mem e.i).2 ⟨e.hi, (hcam _).2 rfl⟩
 have hup := h.up
 match its, hm, hall, hup with
 | [x], _, hall, _ => rw [hall x (by simp)]
 | x :: y :: t, _, hall, hup =>
  have h1 := hall x (by simp)
  have h2 := hall y (by simp)
  have := (List.pairwise_cons.1 hup).1 y (by simp)
  omega
theorem right_zero : Sta.zero.Right := ⟨by decide, ⟨by simp [Sta.zero], by simp [Sta.zero]⟩, by simp [Sta.zero], by simp [Sta.zero], by simp [Sta.zero]⟩
theorem right_A : sA.Right := ⟨by decide, ⟨by decide, by decide⟩, by decide, by decide, by decide⟩
theorem right_B : sB.Right := ⟨by decide, ⟨by decide, by decide⟩, by decide, by decide, by decide⟩
structure Facts (z a b : Sta) (o1 o2 : O) : Prop where
 e1 : appE z o1 = 0
 s1 : appS z o1 = a
 e2 : appE a o2 = 0
 s2 : appS a o2 = b
 zn : z.es = [] ∧ z.ts = [] ∧ z.v = V.zero
 ra : a.Right
 rb : b.Right
 la : a.es.length = 1 ∧ a.ts.length = 1
 lb : b.es.length = 0 ∧ b.ts.length = 1
 vb : V.eqB b.v (lv 2) = true
 mg : ∀ er m, MgA a b er m → er = 0 ∧ m.es = []
 va : ∀ its, CItems 3 a.es its → its = [4] ∧ cqtyAt 3 a.es 4 = 2
 tb : (tkOf b.ts 3).getD 0 = 6
theorem facts : Facts Sta.zero sA sB opA (opB (lv 1)) := by
 have hA : appE Sta.zero opA = 0 := by unfold appE; rw [if_pos right_zero]; decide
 have hB : appE sA (opB (lv 1)) = 0 := by unfold appE; rw [if_pos right_A]; decide
 refine ⟨hA, by unfold appS; rw [if_pos hA]; rfl, hB, by unfold appS; rw [if_pos hB]; rfl, ⟨rfl, rfl, rfl⟩, right_A, right_B, ⟨by decide, by decide⟩, ⟨by decide, by decide⟩, by decide, ?_, ?_, by decide⟩
 ·intro er m h
  cases h with
  | ok h1 h2 hc hm =>
   refine ⟨rfl, List.eq_nil_iff_forall_not_mem.2 fun e he => ?_⟩
   have h3 : bothE sA sB = [] := by decide
   have := (hm.mem e).1 he
   rw [h3] at this
   simp at this
  | clash h1 h2 hc =>
   obtain ⟨x, hx, y, hy, _⟩ := hc
   have h3 : sB.es = [] := by decide
   rw [h3] at hy
   simp at hy
  | not h => exact absurd ⟨right_A, right_B⟩ h
 ·intro its h
  have h3 : sA.es = [En.made opA] := by decide
  rw [h3] at h ⊢
  exact ⟨citems_one h rfl (by decide), by decide⟩
end Go.Proofs.YtnekpgmgnepdoaaGreat
end
section
namespace Go.Proofs.YtnekpgmgnepdoaaGreat
open Go.RowKit
theorem sorted_one : ∀ {a b : List Nat}, a.Pairwise (· < ·) → b.Pairwise (· < ·) → (∀ x, x ∈ a ↔ x ∈ b) → a = b
 | [], [], _, _, _ => rfl
 | [], y :: b, _, _, h => by have := (h y).2 (by simp); simp at this
 | x :: a, [], _, _, h => by have := (h x).1 (by simp); simp at this
 | x :: a, y :: b, ha, hb, h => by
  have ha' := List.pairwise_cons.1 ha
  have hb' := List.pairwise_cons.1 hb
  have e : x = y := by
   have h1 := (h x).1 (by simp)
   have h2 := (h y).2 (by simp)
   rcases List.mem_cons.1 h1 with e | h1
   ·exact e
   ·rcases List.mem_cons.1 h2 with e | h2
    ·exact e.symm
    ·have := ha'.1 y h2
     have := hb'.1 x h1
     omega
  subst e
  congr 1
  refine sorted_one ha'.2 hb'.2 fun z => ?_
  constructor
  ·intro hz
   rcases List.mem_cons.1 ((h z).1 (List.mem_cons_of_mem _ hz)) with e | hz2
   ·have := ha'.1 z hz; omega
   ·exact hz2
  ·intro hz
   rcases List.mem_cons.1 ((h z).2 (List.mem_cons_of_mem _ hz)) with e | hz2
   ·have := hb'.1 z hz; omega
   ·exact hz2
inductive Seen (s : Sta) (c : Nat) : List (Nat × Nat) → Bool → Nat → Prop where
 | yes (h : s.Right) (its : List Nat) (hi : CItems c s.es its) : Seen s c (its.map fun i => (i, cqtyAt c s.es i)) (coutTo c s.es s.es.length) ((tkOf s.ts c).getD 0)
 | no (h : ¬ s.Right) : Seen s c [] false 0
def SeenP (s : Sta) (c : Nat) (w : World) (e : Ending) (w' : World) : Prop :=
 ∃ ls o t a cap, e = .returned (.agg (vw c a ls.length cap o t)) ∧ Seen s c ls o t ∧ GL w' 2 a ls.length (ls.map ln) ∧ Below w.heap.size w w'
theorem seenP {s : Sta} {c : Nat} {w : World} {e : Ending} {w' : World} (h : CViewP s c w e w') : SeenP s c w e w' := by
 rcases h with ⟨hr, its, a, cap, hi, rfl, ho, hb⟩ | ⟨hr, rfl, hb⟩
 ·refine ⟨its.map fun i => (i, cqtyAt c s.es i), _, _, a, cap, ?_, .yes hr its hi, ?_, hb⟩
  ·rw [List.length_map]; rfl
  ·rw [List.length_map, List.map_map]; exact ho.gl
 ·exact ⟨[], false, 0, none, 0, rfl, .no hr, GL.nil _ _ _, hb⟩
end Go.Proofs.YtnekpgmgnepdoaaGreat
end
section
namespace Go.Proofs.YtnekpgmgnepdoaaGreat
open Fold
theorem cam_iff {c i : Nat} : ∀ (m : List En) (x : Option Ac), (m.foldl (camStep c i) x).isSome = true ↔ x.isSome = true ∨ ∃ e ∈ m, e.c = c ∧ e.k ≠ 4 ∧ e.i = i
 | [], x => by simp
 | e :: m, x => by
  rw [List.foldl_cons, cam_iff m]
  unfold camStep
  by_cases h : e.c = c ∧ e.k ≠ 4 ∧ e.i = i
  ·rw [if_pos h]
   exact ⟨fun _ => .inr ⟨e, List.mem_cons_self, h⟩, fun _ => .inl rfl⟩
  ·rw [if_neg h]
   constructor
   ·rintro (h1 | ⟨e', he, h1⟩)
    ·exact .inl h1
    ·exact .inr ⟨e', List.mem_cons_of_mem _ he, h1⟩
   ·rintro (h1 | ⟨e', he, h1⟩)
    ·exact .inl h1
    ·rcases List.mem_cons.1 he with rfl | he
     ·exact absurd h1 h
     ·exact .inr ⟨e', he, h1⟩
theorem spec_is {s : Sta} {l : List O} (h : Spec s l) (c i : Nat) : (camTo c s.es s.es.length i).isSome = true ↔ l.any (ofB l c i) = true := by
 unfold camTo
 rw [List.take_length, cam_iff, List.any_eq_true]
 constructor
 ·rintro (h1 | ⟨e, he, h1⟩)
  ·cases h1
  ·obtain ⟨o, ho, h2, rfl⟩ := (spec_mem h e).1 he
   refine ⟨o, ho, ?_⟩
   unfold ofB
   rw [h2, Bool.and_true]
   exact decide_eq_true ⟨h1.1, h1.2.2, h1.2.1⟩
 ·rintro ⟨o, ho, h1⟩
  unfold ofB at h1
  rw [Bool.and_eq_true] at h1
  have h2 := of_decide_eq_true h1.1
  exact .inr ⟨En.made o, (spec_mem h _).2 ⟨o, ho, h1.2, rfl⟩, h2.1, h2.2.2, h2.2.1⟩
theorem items_up (l : List O) (c : Nat) : (items l c).Pairwise (· < ·) := by
 unfold items
 exact List.pairwise_lt_range.filter _
theorem spec_lines {s : Sta} {l : List O} (h : Spec s l) (hu : Unlike l) {c : Nat} {its : List Nat} (hi : CItems c s.es its) : (its.map fun i => (i, cqtyAt c s.es i)) = lines l c := by
 have e : its = items l c := sorted_one hi.up (items_up l c) (fun x => by
  rw [hi.mem, spec_is h]
  unfold items
  rw [List.mem_filter, List.mem_range])
 rw [e]
 unfold lines
 exact List.map_congr_left fun i _ => by rw [spec_qty h hu]
theorem seen_fold {s : Sta} {l : List O} (h : Spec s l) (hu : Unlike l) {c : Nat} {ls : List (Nat × Nat)} {o : Bool} {t : Nat} (hs : Seen s c ls o t) : ls = lines l c ∧ o = outB l c ∧ t = tickTo c l := by
 cases hs with
 | yes _ its hi => exact ⟨spec_lines h hu hi, spec_out h c, spec_tick h c⟩
 | no hr => exact absurd h.right hr
end Go.Proofs.YtnekpgmgnepdoaaGreat
end
