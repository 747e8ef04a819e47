/- Walk of 'alive': the answers that the document fixes. -/
import Derived.Test.YtjfcddfnmbeolaaOd
namespace Go.Proofs.Ytjfcddfnmbeolaa
open Go.RowKit

/-- The vector with one number. -/
def lv (n : Nat) : V := V.zero.put 0 n
theorem build_lv (n : Nat) (hn : n < 4294967296) (w : World) : (Instr.build 27 #[(0, .int .u32 (n : Int))]).run Try.prog w = .ok (.agg (lv n).arr) w := by
  rw [lv, ← V.arr_put V.zero (by omega) hn, zero_arr]
  kernel_rfl
/-- The two operations. -/
def opA : O := ⟨0, 1, 1, 3, 4, 1, 0, V.zero, by omega, by omega, by omega, by omega, by omega, by omega, by omega⟩
def opB (v : V) : O := ⟨1, 1, 3, 3, 4, 0, 0, v, by omega, by omega, by omega, by omega, by omega, by omega, by omega⟩
theorem build_A (w : World) : (Instr.build 29 #[(0, dotV 0 1), (1, .int .u8 1), (2, .int .u16 3), (3, .int .u16 4), (4, .int .u16 1)]).run Try.prog w = .ok (.agg opA.arr) w := by
  refine run_build w 29 _ _ ?_
  kernel_rfl
theorem build_B (v : V) (w : World) : (Instr.build 29 #[(0, dotV 1 1), (1, .int .u8 3), (2, .int .u16 3), (3, .int .u16 4), (6, .agg v.arr)]).run Try.prog w = .ok (.agg (opB v).arr) w := by
  refine run_build w 29 _ _ ?_
  obtain ⟨a, b, c, d, e, f, g, h, i, j, k, l, m, n, p, q, hv⟩ := sixteen v
  unfold O.arr V.arr O.cs V.cs
  rw [show (opB v).v = v from rfl, hv]
  kernel_rfl
section
variable {ev : Operand → Value} {o : Oper} {w : World}
theorem exec_lv {x : Operand} {n : Nat} {z : V} (hz : lv n = z) (hn : n < 4294967296) (ho : o.op = .build 27 #[(0, x)]) (hx : ev x = .int .u32 (n : Int)) : (execOp ev o).run Try.prog w = .ok (.value (.agg z.arr)) w := by
  subst hz
  have hm : (#[((0 : Nat), x)]).map (fun (i, x) => (i, ev x)) = #[(0, .int .u32 (n : Int))] := by simp [hx]
  unfold execOp
  simp only [ho, hm, Sem.run_bind, build_lv n hn w, Result.andThen_ok]
  rfl
theorem exec_zero27 {z : V} (hz : V.zero = z) (ho : o.op = .build 27 #[]) : (execOp ev o).run Try.prog w = .ok (.value (.agg z.arr)) w := by
  subst hz
  have hm : ((#[] : Array (Nat × Operand)).map fun (i, x) => (i, ev x)) = #[] := by simp
  unfold execOp
  simp only [ho, hm, Sem.run_bind, build27 w, Result.andThen_ok]
  rfl
theorem exec_A {x0 x1 x2 x3 x4 : Operand} {a : O} (ha : opA = a) (ho : o.op = .build 29 #[(0, x0), (1, x1), (2, x2), (3, x3), (4, x4)]) (h0 : ev x0 = dotV 0 1) (h1 : ev x1 = .int .u8 1) (h2 : ev x2 = .int .u16 3) (h3 : ev x3 = .int .u16 4) (h4 : ev x4 = .int .u16 1) : (execOp ev o).run Try.prog w = .ok (.value (.agg a.arr)) w := by
  subst ha
  have hm : (#[((0 : Nat), x0), (1, x1), (2, x2), (3, x3), (4, x4)]).map (fun (i, x) => (i, ev x)) = #[(0, dotV 0 1), (1, .int .u8 1), (2, .int .u16 3), (3, .int .u16 4), (4, .int .u16 1)] := by simp [h0, h1, h2, h3, h4]
  unfold execOp
  simp only [ho, hm, Sem.run_bind, build_A w, Result.andThen_ok]
  rfl
theorem exec_B {x0 x1 x2 x3 x6 : Operand} {v : V} {b : O} (hb : opB v = b) (ho : o.op = .build 29 #[(0, x0), (1, x1), (2, x2), (3, x3), (6, x6)]) (h0 : ev x0 = dotV 1 1) (h1 : ev x1 = .int .u8 3) (h2 : ev x2 = .int .u16 3) (h3 : ev x3 = .int .u16 4) (h6 : ev x6 = .agg v.arr) : (execOp ev o).run Try.prog w = .ok (.value (.agg b.arr)) w := by
  subst hb
  have hm : (#[((0 : Nat), x0), (1, x1), (2, x2), (3, x3), (6, x6)]).map (fun (i, x) => (i, ev x)) = #[(0, dotV 1 1), (1, .int .u8 3), (2, .int .u16 3), (3, .int .u16 4), (6, .agg v.arr)] := by simp [h0, h1, h2, h3, h6]
  unfold execOp
  simp only [ho, hm, Sem.run_bind, build_B v w, Result.andThen_ok]
  rfl
end

/-- What the two come to. -/
structure Facts (a b : O) (z1 z : V) : Prop where
  a1 : a.rightB 1 = true
  a16 : a.rightB 16 = true
  b1 : b.rightB 1 = false
  b2 : b.rightB 2 = true
  ba : O.endsB b a = true
  ab : O.endsB a b = false
  less : O.lessB a b = true
  cnt : b.count = 2
  gap : O.readyE z b = 9
  ok : O.readyE z1 b = 0
theorem facts : Facts opA (opB (lv 1)) (lv 1) V.zero := ⟨by decide, by decide, by decide, by decide, by decide, by decide, by decide, by decide, by decide, by decide⟩

/-- The two operations in memory. -/
structure Al (w W : World) (g1 g2 : Nat) (a b : O) : Prop where
  one : Blk W g1 29 a.arr
  two : Blk W g2 29 b.arr
  old : Below w.heap.size w W
theorem Al.below {w W W' : World} {g1 g2 : Nat} {a b : O} (h : Al w W g1 g2 a b) (hb : Below W.heap.size W W') : Al w W' g1 g2 a b := ⟨h.one.below hb, h.two.below hb, h.old.trans (hb.mono h.old.size)⟩

structure Al3 (w W : World) (g1 g2 g3 : Nat) (a b : O) : Prop where
  one : Blk W g1 29 a.arr
  two : Blk W g2 29 b.arr
  thr : Blk W g3 29 a.arr
  old : Below w.heap.size w W
theorem Al3.below {w W W' : World} {g1 g2 g3 : Nat} {a b : O} (h : Al3 w W g1 g2 g3 a b) (hb : Below W.heap.size W W') : Al3 w W' g1 g2 g3 a b := ⟨h.one.below hb, h.two.below hb, h.thr.below hb, h.old.trans (hb.mono h.old.size)⟩

theorem encP_ok {o : O} {w w' : World} {e : Ending} (h : o.rightB 16 = true) (hp : EncP o w e w') : ∃ a cap, e = .returned (.tuple #[.slice a o.bytes.length cap, .int .i64 0]) ∧ Own w' w.heap.size a o.bytes.length cap o.bytes ∧ Below w.heap.size w w' := by
  obtain ⟨e1, e2⟩ := enc_yes h
  unfold EncP at hp
  rw [e1, e2] at hp
  exact hp
theorem decP_ok {o : O} {w w' : World} {e : Ending} (h : o.rightB 16 = true) (hp : DecP o.bytes w e w') : Says (.tuple #[.agg o.arr, .int .i64 0]) w e w' := by
  obtain ⟨e1, e2⟩ := O.dec_yes h rfl
  unfold DecP at hp
  rw [e1, e2] at hp
  exact hp
/-- Bytes of an operation that is valid come back. -/
theorem back_op {o : O} {w : World} {a : Option Addr} {B cap : Nat} (h : o.rightB 16 = true) (ho : Own w B a o.bytes.length cap o.bytes) : Calls Try.prog 24 #[.slice a o.bytes.length cap] w (Says (.tuple #[.agg o.arr, .int .i64 0]) w) :=
  (decode_op a o.bytes.length cap o.bytes w (by have := o.bytes_le; omega) (ho.row o.bytes_lt) ho.cap.2.2).mono fun _ _ hp => decP_ok h hp

set_option maxRecDepth 100000 in
set_option maxHeartbeats 4000000 in
theorem alive_any (w : World) : Calls Try.prog 11 #[] w (Says (.bool true) w) := by
  obtain ⟨z1, h1⟩ : ∃ z, lv 1 = z := ⟨_, rfl⟩
  obtain ⟨z, h0⟩ : ∃ z, V.zero = z := ⟨_, rfl⟩
  obtain ⟨zo, ho⟩ : ∃ z, O.zero = z := ⟨_, rfl⟩
  obtain ⟨a, ha⟩ : ∃ a, opA = a := ⟨_, rfl⟩
  have HF := Lib.hid facts
  rw [ha, h1, h0] at HF
  obtain ⟨b, hb⟩ : ∃ b, opB z1 = b := ⟨_, rfl⟩
  rw [hb] at HF
  have H1 := Lib.hid h1
  have H0 := Lib.hid h0
  have HO := Lib.hid ho
  have HA := Lib.hid ha
  have HB := Lib.hid hb
  clear h1 h0 ho ha hb
  go_enter Try.func11, Try.ntmps11
  go_wp2_with (first | (refine wpList_run rfl (exec_A HA.out rfl rfl rfl rfl rfl rfl) ?_) | (refine wpList_run rfl (exec_alloc29z HO.out rfl) ?_) | (refine wpList_stop29 rfl ?_))
  refine ⟨?_⟩
  refine wpList_void rfl rfl (exec_store29 (p := zo) (u := a) rfl rfl rfl (Blk.new w 29 zo.arr)) ?_
  have HX1 : Hid (Ow w ((w.alloc (.cells zo.arr 29)).setRow w.heap.size a.arr) a) := Lib.hid ⟨olaid_blk w zo a, olaid_old w zo a⟩
  generalize (w.alloc (.cells zo.arr 29)).setRow w.heap.size a.arr = w1 at HX1
  go_wp2_with (first | (refine wpList_run rfl (exec_lv H1.out (by omega) rfl rfl) ?_) | (refine wpList_run rfl (exec_B HB.out rfl rfl rfl rfl rfl rfl) ?_) | (refine wpList_run rfl (exec_alloc29z HO.out rfl) ?_) | (refine wpList_stop29 rfl ?_))
  refine ⟨?_⟩
  refine wpList_void rfl rfl (exec_store29 (p := zo) (u := b) rfl rfl rfl (Blk.new w1 29 zo.arr)) ?_
  have HX2 : Hid (Al w ((w1.alloc (.cells zo.arr 29)).setRow w1.heap.size b.arr) w.heap.size w1.heap.size a b) := by
    have hl := olaid_old w1 zo b
    exact Lib.hid ⟨HX1.out.one.below hl, olaid_blk w1 zo b, HX1.out.old.trans (hl.mono HX1.out.old.size)⟩
  clear HX1
  generalize (w1.alloc (.cells zo.arr 29)).setRow w1.heap.size b.arr = w2 at HX2
  generalize w1.heap.size = g2 at HX2
  generalize w.heap.size = g1 at HX2
  go_wp2_with (refine wpList_run rfl (exec_load29 (p := a) rfl rfl HX2.out.one) ?_)
  refine (encode_op a _).mono ?_
  intro e w3 hP
  obtain ⟨ae, ce, rfl, hoe, hbe⟩ := encP_ok HF.out.a16 hP
  have HD := Lib.hid (back_op HF.out.a16 hoe)
  have HX3 := Lib.hid (HX2.out.below hbe)
  clear hP hoe hbe HX2
  generalize a.bytes.length = n at HD
  go_wp2_with fail
  refine HD.out.mono ?_
  rintro e w4 ⟨rfl, hb⟩
  have HX4 := Lib.hid (HX3.out.below hb)
  clear hb HX3 HD
  go_wp2_with (first | (refine wpList_run rfl (exec_alloc29z HO.out rfl) ?_) | (refine wpList_stop29 rfl ?_))
  refine ⟨?_⟩
  refine wpList_void rfl rfl (exec_store29 (p := zo) (u := a) rfl rfl rfl (Blk.new w4 29 zo.arr)) ?_
  have HX5 : Hid (Al3 w ((w4.alloc (.cells zo.arr 29)).setRow w4.heap.size a.arr) g1 g2 w4.heap.size a b) := by
    have hl := olaid_old w4 zo a
    exact Lib.hid ⟨HX4.out.one.below hl, HX4.out.two.below hl, olaid_blk w4 zo a, HX4.out.old.trans (hl.mono HX4.out.old.size)⟩
  clear HX4
  generalize (w4.alloc (.cells zo.arr 29)).setRow w4.heap.size a.arr = w5 at HX5
  generalize w4.heap.size = g3 at HX5
  go_wp2_with (first | (refine wpList_runW (exec_load29 (p := a) rfl rfl HX5.out.one) (by kernel_rfl) ?_) | (refine wpList_runW (exec_load29 (p := b) rfl rfl HX5.out.two) (by kernel_rfl) ?_))
  refine (right_op a 1 _ (by omega) (by omega)).mono ?_
  rintro e v6 ⟨rfl, hb⟩
  rw [HF.out.a1]
  have HX6 := Lib.hid (HX5.out.below hb)
  clear hb HX5
  go_wp2_with (first | (refine wpList_runW (exec_load29 (p := a) rfl rfl HX6.out.one) (by kernel_rfl) ?_) | (refine wpList_runW (exec_load29 (p := b) rfl rfl HX6.out.two) (by kernel_rfl) ?_))
  refine (right_op b 1 _ (by omega) (by omega)).mono ?_
  rintro e v7 ⟨rfl, hb⟩
  rw [HF.out.b1]
  have HX7 := Lib.hid (HX6.out.below hb)
  clear hb HX6
  go_wp2_with (first | (refine wpList_runW (exec_load29 (p := a) rfl rfl HX7.out.one) (by kernel_rfl) ?_) | (refine wpList_runW (exec_load29 (p := b) rfl rfl HX7.out.two) (by kernel_rfl) ?_))
  refine (right_op b 2 _ (by omega) (by omega)).mono ?_
  rintro e v8 ⟨rfl, hb⟩
  rw [HF.out.b2]
  have HX8 := Lib.hid (HX7.out.below hb)
  clear hb HX7
  go_wp2_with (first | (refine wpList_runW (exec_load29 (p := a) rfl rfl HX8.out.one) (by kernel_rfl) ?_) | (refine wpList_runW (exec_load29 (p := b) rfl rfl HX8.out.two) (by kernel_rfl) ?_))
  refine (ends_any b a _).mono ?_
  rintro e v9 ⟨rfl, hb⟩
  rw [HF.out.ba]
  have HX9 := Lib.hid (HX8.out.below hb)
  clear hb HX8
  go_wp2_with (first | (refine wpList_runW (exec_load29 (p := a) rfl rfl HX9.out.one) (by kernel_rfl) ?_) | (refine wpList_runW (exec_load29 (p := b) rfl rfl HX9.out.two) (by kernel_rfl) ?_))
  refine (ends_any a b _).mono ?_
  rintro e v10 ⟨rfl, hb⟩
  rw [HF.out.ab]
  have HX10 := Lib.hid (HX9.out.below hb)
  clear hb HX9
  go_wp2_with (first | (refine wpList_runW (exec_load29 (p := a) rfl rfl HX10.out.one) (by kernel_rfl) ?_) | (refine wpList_runW (exec_load29 (p := b) rfl rfl HX10.out.two) (by kernel_rfl) ?_))
  refine (less_any a b _).mono ?_
  rintro e v11 ⟨rfl, hb⟩
  rw [HF.out.less]
  have HX11 := Lib.hid (HX10.out.below hb)
  clear hb HX10
  go_wp2_with (first | (refine wpList_runW (exec_load29 (p := a) rfl rfl HX11.out.one) (by kernel_rfl) ?_) | (refine wpList_runW (exec_load29 (p := b) rfl rfl HX11.out.two) (by kernel_rfl) ?_))
  refine (count_any b _).mono ?_
  rintro e v12 ⟨rfl, hb⟩
  rw [HF.out.cnt]
  have HX12 := Lib.hid (HX11.out.below hb)
  clear hb HX11
  go_wp2_with (first | (refine wpList_runW (exec_load29 (p := a) rfl rfl HX12.out.one) (by kernel_rfl) ?_) | (refine wpList_runW (exec_load29 (p := b) rfl rfl HX12.out.two) (by kernel_rfl) ?_) | (refine wpList_runW (exec_load29 (p := a) rfl rfl HX12.out.thr) (by kernel_rfl) ?_) | (refine wpList_runW (exec_eql29 (a := a) (b := a) rfl rfl rfl rfl) (by kernel_rfl) ?_) | (refine wpList_runW (exec_zero27 H0.out rfl) (by kernel_rfl) ?_))
  refine (ready_any z b _).mono ?_
  rintro e v13 ⟨rfl, hb⟩
  rw [HF.out.gap]
  have HX13 := Lib.hid (HX12.out.below hb)
  clear hb HX12
  go_wp2_with (first | (refine wpList_runW (exec_load29 (p := a) rfl rfl HX13.out.one) (by kernel_rfl) ?_) | (refine wpList_runW (exec_load29 (p := b) rfl rfl HX13.out.two) (by kernel_rfl) ?_) | (refine wpList_runW (exec_lv H1.out (by omega) rfl rfl) (by kernel_rfl) ?_))
  refine (ready_any z1 b _).mono ?_
  rintro e v14 ⟨rfl, hb⟩
  rw [HF.out.ok]
  have HX14 := Lib.hid (HX13.out.below hb)
  clear hb HX13
  go_wp2_with fail
  go_ret
  exact ⟨rfl, HX14.out.old⟩

end Go.Proofs.Ytjfcddfnmbeolaa
