/- Walk of the law's own 'alive': the answers that the document fixes. -/
import Derived.Test.YtdkdcjmkhldmlaaEnc
import Derived.Test.YtdkdcjmkhldmlaaDot
namespace Go.Proofs.Ytdkdcjmkhldmlaa
open Go.RowKit

theorem str_nil : strOf [] = ByteArray.empty := by decide

theorem conv_any {w : World} {a : Option Addr} {len cap : Nat} {l : List Nat} (h : Row w a len l) :
    (convert 41 9 (.slice a len cap)).run Try.prog w = .ok (.string (strOf l)) w := by
  by_cases h0 : len = 0
  · subst h0
    obtain rfl := List.eq_nil_of_length_eq_zero h.size
    rw [str_nil]
    cases a with
    | none => exact run_convert_bytes_nil w 41 5 Try.underlying41 Try.underlying5 0 cap 9 Try.underlying9
    | some ad => exact run_convert_bytes_back w 41 9 5 ad cap [] Try.underlying41 Try.underlying5 Try.underlying9 (fun j hj => by simp at hj)
  · obtain ⟨b, off, rfl, _⟩ := h.cells.resolve_left h0
    exact conv_row h

/-- A vector of two numbers. -/
def lit (x y : Nat) : V := V.of fun i => if i = 0 then x else if i = 1 then y else 0

section
variable {ops : Array Oper} {rest : List Oper} {o : Oper} {act : Act} {Q : Exit → Act → World → Prop} {W : World}

theorem wpList_load24w {g : Nat} {v : V} {x : Operand} (hw : Region.wanted o (yielded ops act.tmps) = true) (ho : o.op = .load 24 x) (hx : act.eval x = .pointer (some ⟨g, 0, none⟩)) (h : Blk W g 24 v.arr)
    (k : wpList Try.prog ops Q rest (act.put o.dst (.agg v.arr)) W) : wpList Try.prog ops Q (o :: rest) act W :=
  BigFrame.wpList_want hw fun K hK => by
    unfold Oper.wp
    rw [exec_load24 ho hx h]
    exact hK _ _ k

theorem wpList_build24 {v : V} (x y : Int) (hb : ∀ w : World, (Instr.build 24 #[(0, .int .u32 x), (1, .int .u32 y)]).run Try.prog w = .ok (.agg v.arr) w) (hw : Region.wanted o (yielded ops act.tmps) = true) (ho : o.op = .build 24 #[(0, .const (.int .u32 x)), (1, .const (.int .u32 y))])
    (k : wpList Try.prog ops Q rest (act.put o.dst (.agg v.arr)) W) : wpList Try.prog ops Q (o :: rest) act W :=
  BigFrame.wpList_want hw fun K hK => by
    have h1 : (#[((0 : Nat), Operand.const (.int .u32 x)), (1, .const (.int .u32 y))]).map (fun (i, x) => (i, act.eval x)) = #[(0, .int .u32 x), (1, .int .u32 y)] := by simp [Act.eval]
    unfold Oper.wp execOp
    simp only [ho, h1, Sem.run_bind, hb, Result.andThen_ok]
    exact hK _ _ k

theorem wpList_alloc24 {z : V} (hz : V.zero = z) (hgd : o.guard = none) (ho : o.op = .alloc 24)
    (k : wpList Try.prog ops Q rest (act.put o.dst (.pointer (some ⟨W.heap.size, 0, none⟩))) (W.alloc (.cells z.arr 24))) : wpList Try.prog ops Q (o :: rest) act W :=
  wpList_plain hgd fun K hK => by
    subst hz
    unfold Oper.wp execOp
    simp only [ho, Sem.run_bind, alloc24, Result.andThen_ok]
    exact hK _ _ k

theorem wpList_eql24 {x y : Operand} {t : TypeId} {a b : V} (r : Bool) (hw : Region.wanted o (yielded ops act.tmps) = true) (ho : o.op = .binOp .eql 24 x y t) (hx : act.eval x = .agg a.arr) (hy : act.eval y = .agg b.arr) (hr : V.eqB a b = r)
    (k : wpList Try.prog ops Q rest (act.put o.dst (.bool r)) W) : wpList Try.prog ops Q (o :: rest) act W :=
  BigFrame.wpList_want hw fun K hK => by
    unfold Oper.wp
    rw [exec_eql24 ho hx hy hr]
    exact hK _ _ k
end

/-- The walk stands still here. -/
structure Halt_ (p : Prop) : Prop where
  out : p
/-- The walk stands still at a store of a vector. -/
theorem wpList_stop {ops : Array Oper} {rest : List Oper} {o : Oper} {act : Act} {Q : Exit → Act → World → Prop} {W : World} {x y : Operand} (_ho : o.op = .store 24 x y) (k : Halt_ (wpList Try.prog ops Q (o :: rest) act W)) : wpList Try.prog ops Q (o :: rest) act W := k.out

/-! A vector laid down at a new block. -/
theorem laid_blk (w : World) (z v : V) : Blk ((w.alloc (.cells z.arr 24)).setRow w.heap.size v.arr) w.heap.size 24 v.arr := (Blk.new w 24 z.arr).row
theorem laid_old (w : World) (z v : V) : Below w.heap.size w ((w.alloc (.cells z.arr 24)).setRow w.heap.size v.arr) :=
  (below_one w _).trans ((Kept.setRow (w.alloc (.cells z.arr 24)) w.heap.size v.arr).below (by simp) (fun k hk => by omega))

theorem two_laid (w : World) (z a b : V) : Two w ((((w.alloc (.cells z.arr 24)).alloc (.cells z.arr 24)).setRow w.heap.size a.arr).setRow (w.heap.size + 1) b.arr) a b := by
  have h := two_new w z z
  have k1 := Kept.setRow ((w.alloc (.cells z.arr 24)).alloc (.cells z.arr 24)) w.heap.size a.arr
  have k2 := Kept.setRow (((w.alloc (.cells z.arr 24)).alloc (.cells z.arr 24)).setRow w.heap.size a.arr) (w.heap.size + 1) b.arr
  refine ⟨(h.one.row).kept k2 (by omega), (h.two.kept k1 (by omega)).row, (h.old.trans (k1.below h.old.size (fun k hk => by omega))).trans (k2.below (Nat.le_trans h.old.size k1.size) (fun k hk => by omega))⟩
theorem two_mid (w : World) (z a : V) : Blk (((w.alloc (.cells z.arr 24)).alloc (.cells z.arr 24)).setRow w.heap.size a.arr) (w.heap.size + 1) 24 z.arr :=
  (two_new w z z).two.kept (Kept.setRow _ w.heap.size a.arr) (by omega)

theorem Two.laid {w W : World} {a b : V} (h : Two w W a b) (z v : V) : Two w ((W.alloc (.cells z.arr 24)).setRow W.heap.size v.arr) a b := h.below (laid_old W z v)

theorem str_alive : strOf [2, 0, 5] = ⟨#[2, 0, 5]⟩ := by decide
theorem lit_n1 : V.nextV (lit 1 2) 1 3 = lit 1 3 := by decide
theorem lit_e1 : V.nextE (lit 1 2) 1 3 = 0 := by decide
theorem lit_n2 : V.nextV (lit 1 2) 0 3 = V.zero := by decide
theorem lit_e2 : V.nextE (lit 1 2) 0 3 = 9 := by decide
theorem lit_o1 : V.order (lit 1 2) (lit 1 3) = -1 := by decide
theorem lit_o2 : V.order (lit 1 2) (lit 2 1) = 2 := by decide
theorem lit_l : V.belowB (lit 1 2) (lit 1 3) = true := by decide
theorem lit_r : V.rightB (lit 1 2) 2 = true := by decide
theorem lit_s : V.sum (lit 1 3) = 4 := by decide
theorem lit_len : V.len (lit 0 5) = 2 := by decide
theorem lit_0 : (lit 0 5).at_ 0 = 0 := by decide
theorem lit_1 : (lit 0 5).at_ 1 = 5 := by decide
theorem lit_b : V.bytes (lit 0 5) = [2, 0, 5] := by
  rw [V.bytes, lit_len]
  simp only [V.bytesTo, lit_0, lit_1]
  rw [Vint.enc_small (by omega), Vint.enc_small (by omega), Vint.enc_small (by omega)]
  rfl

set_option maxHeartbeats 2000000 in
theorem alive_core (z a b d f : V) (w : World) (HZ : Hid (V.zero = z))
    (HA : Hid (∀ w : World, (Instr.build 24 #[(0, .int .u32 1), (1, .int .u32 2)]).run Try.prog w = .ok (.agg a.arr) w))
    (HB : Hid (∀ w : World, (Instr.build 24 #[(0, .int .u32 1), (1, .int .u32 3)]).run Try.prog w = .ok (.agg b.arr) w))
    (HD : Hid (∀ w : World, (Instr.build 24 #[(0, .int .u32 2), (1, .int .u32 1)]).run Try.prog w = .ok (.agg d.arr) w))
    (HF : Hid (∀ w : World, (Instr.build 24 #[(0, .int .u32 0), (1, .int .u32 5)]).run Try.prog w = .ok (.agg f.arr) w))
    (HN1 : Hid (∀ w : World, Calls Try.prog 24 #[.agg a.arr, .agg #[.int .u8 1, .int .u32 3]] w (Says (.tuple #[.agg b.arr, .int .i64 0]) w)))
    (HN2 : Hid (∀ w : World, Calls Try.prog 24 #[.agg a.arr, .agg #[.int .u8 0, .int .u32 3]] w (Says (.tuple #[.agg z.arr, .int .i64 9]) w)))
    (HO1 : Hid (∀ w : World, Calls Try.prog 16 #[.agg a.arr, .agg b.arr] w (Says (.int .i64 (-1)) w)))
    (HO2 : Hid (∀ w : World, Calls Try.prog 16 #[.agg a.arr, .agg d.arr] w (Says (.int .i64 2) w)))
    (HL : Hid (∀ w : World, Calls Try.prog 14 #[.agg a.arr, .agg b.arr] w (Says (.bool true) w)))
    (HR : Hid (∀ w : World, Calls Try.prog 12 #[.agg a.arr, .int .i64 2] w (Says (.bool true) w)))
    (HS : Hid (∀ w : World, Calls Try.prog 22 #[.agg b.arr] w (Says (.int .u64 4) w)))
    (HE : Hid (∀ w : World, Calls Try.prog 28 #[.agg f.arr] w (Fresh [2, 0, 5] w))) :
    Calls Try.prog 11 #[] w (Says (.bool true) w) := by
  go_enter Try.func11, Try.ntmps11
  go_wp2_with (first
    | (refine wpList_build24 1 2 HA.out (by kernel_rfl) rfl ?_)
    | (refine wpList_build24 1 3 HB.out (by kernel_rfl) rfl ?_)
    | (refine wpList_alloc24 HZ.out rfl rfl ?_)
    | (refine wpList_stop rfl ?_))
  refine ⟨?_⟩
  refine wpList_store24 rfl rfl rfl rfl (two_new w z z).one ?_
  refine wpList_store24 rfl rfl rfl rfl (two_mid w z a) ?_
  have HT := Lib.hid (two_laid w z a b)
  generalize (((w.alloc (.cells z.arr 24)).alloc (.cells z.arr 24)).setRow w.heap.size a.arr).setRow (w.heap.size + 1) b.arr = W at HT
  go_wp2_with (first | (refine wpList_load24w (by kernel_rfl) rfl rfl HT.out.one ?_) | (refine wpList_load24w (by kernel_rfl) rfl rfl HT.out.two ?_) | (refine wpList_alloc24 HZ.out rfl rfl ?_) | (refine wpList_stop rfl ?_))
  refine (HN1.out _).mono ?_
  rintro e w1 ⟨rfl, hb⟩
  have HT1 := Lib.hid (HT.out.below hb)
  clear hb
  go_wp2_with (first | (refine wpList_load24w (by kernel_rfl) rfl rfl HT1.out.one ?_) | (refine wpList_load24w (by kernel_rfl) rfl rfl HT1.out.two ?_) | (refine wpList_alloc24 HZ.out rfl rfl ?_) | (refine wpList_stop rfl ?_))
  refine ⟨?_⟩
  refine wpList_store24 rfl rfl rfl rfl (Blk.new w1 24 z.arr) ?_
  have HC : Hid (Blk ((w1.alloc (.cells z.arr 24)).setRow w1.heap.size b.arr) w1.heap.size 24 b.arr) := Lib.hid (laid_blk w1 z b)
  have HT2 := Lib.hid (HT1.out.laid z b)
  generalize (w1.alloc (.cells z.arr 24)).setRow w1.heap.size b.arr = w2 at HC HT2
  generalize w1.heap.size = q at HC
  go_wp2_with (first | (refine wpList_load24w (by kernel_rfl) rfl rfl HT2.out.one ?_) | (refine wpList_load24w (by kernel_rfl) rfl rfl HT2.out.two ?_) | (refine wpList_alloc24 HZ.out rfl rfl ?_) | (refine wpList_stop rfl ?_))
  refine (HN2.out _).mono ?_
  rintro e w3 ⟨rfl, hb⟩
  have HT3 := Lib.hid (HT2.out.below hb)
  have HC3 := Lib.hid (HC.out.below hb)
  clear hb
  go_wp2_with (first | (refine wpList_load24w (by kernel_rfl) rfl rfl HT3.out.one ?_) | (refine wpList_load24w (by kernel_rfl) rfl rfl HT3.out.two ?_) | (refine wpList_alloc24 HZ.out rfl rfl ?_) | (refine wpList_stop rfl ?_))
  refine ⟨?_⟩
  refine wpList_store24 rfl rfl rfl rfl (Blk.new w3 24 z.arr) ?_
  have HC4 := Lib.hid (HC3.out.below (laid_old w3 z z))
  have HT4 := Lib.hid (HT3.out.laid z z)
  generalize (w3.alloc (.cells z.arr 24)).setRow w3.heap.size z.arr = w4 at HC4 HT4
  generalize w3.heap.size = q2
  go_wp2_with (first | (refine wpList_load24w (by kernel_rfl) rfl rfl HT4.out.one ?_) | (refine wpList_load24w (by kernel_rfl) rfl rfl HT4.out.two ?_) | (refine wpList_alloc24 HZ.out rfl rfl ?_) | (refine wpList_stop rfl ?_))
  refine (HO1.out _).mono ?_
  rintro e w5 ⟨rfl, hb⟩
  have HT5 := Lib.hid (HT4.out.below hb)
  have HC5 := Lib.hid (HC4.out.below hb)
  clear hb
  go_wp2_with (first | (refine wpList_load24w (by kernel_rfl) rfl rfl HT5.out.one ?_) | (refine wpList_load24w (by kernel_rfl) rfl rfl HT5.out.two ?_) | (refine wpList_build24 2 1 HD.out (by kernel_rfl) rfl ?_) | (refine wpList_build24 0 5 HF.out (by kernel_rfl) rfl ?_) | (refine wpList_alloc24 HZ.out rfl rfl ?_) | (refine wpList_stop rfl ?_))
  refine (HO2.out _).mono ?_
  rintro e w6 ⟨rfl, hb⟩
  have HT6 := Lib.hid (HT5.out.below hb)
  have HC6 := Lib.hid (HC5.out.below hb)
  clear hb
  go_wp2_with (first | (refine wpList_load24w (by kernel_rfl) rfl rfl HT6.out.one ?_) | (refine wpList_load24w (by kernel_rfl) rfl rfl HT6.out.two ?_) | (refine wpList_build24 2 1 HD.out (by kernel_rfl) rfl ?_) | (refine wpList_build24 0 5 HF.out (by kernel_rfl) rfl ?_) | (refine wpList_load24w (by kernel_rfl) rfl rfl HC6.out ?_) | (refine wpList_eql24 true (by kernel_rfl) rfl rfl rfl (by simp [V.eqB]) ?_) | (refine wpList_alloc24 HZ.out rfl rfl ?_) | (refine wpList_stop rfl ?_))
  refine (HL.out _).mono ?_
  rintro e w7 ⟨rfl, hb⟩
  have HT7 := Lib.hid (HT6.out.below hb)
  clear hb
  go_wp2_with (first | (refine wpList_load24w (by kernel_rfl) rfl rfl HT7.out.one ?_) | (refine wpList_load24w (by kernel_rfl) rfl rfl HT7.out.two ?_) | (refine wpList_build24 2 1 HD.out (by kernel_rfl) rfl ?_) | (refine wpList_build24 0 5 HF.out (by kernel_rfl) rfl ?_) | (refine wpList_alloc24 HZ.out rfl rfl ?_) | (refine wpList_stop rfl ?_))
  refine (HR.out _).mono ?_
  rintro e w8 ⟨rfl, hb⟩
  have HT8 := Lib.hid (HT7.out.below hb)
  clear hb
  go_wp2_with (first | (refine wpList_load24w (by kernel_rfl) rfl rfl HT8.out.one ?_) | (refine wpList_load24w (by kernel_rfl) rfl rfl HT8.out.two ?_) | (refine wpList_build24 2 1 HD.out (by kernel_rfl) rfl ?_) | (refine wpList_build24 0 5 HF.out (by kernel_rfl) rfl ?_) | (refine wpList_alloc24 HZ.out rfl rfl ?_) | (refine wpList_stop rfl ?_))
  refine (HS.out _).mono ?_
  rintro e w9 ⟨rfl, hb⟩
  have HT9 := Lib.hid (HT8.out.below hb)
  clear hb
  go_wp2_with (first | (refine wpList_load24w (by kernel_rfl) rfl rfl HT9.out.one ?_) | (refine wpList_load24w (by kernel_rfl) rfl rfl HT9.out.two ?_) | (refine wpList_build24 2 1 HD.out (by kernel_rfl) rfl ?_) | (refine wpList_build24 0 5 HF.out (by kernel_rfl) rfl ?_) | (refine wpList_alloc24 HZ.out rfl rfl ?_) | (refine wpList_stop rfl ?_))
  refine (HE.out _).mono ?_
  rintro e w10 ⟨ax, cx, rfl, ho, hb⟩
  have HB10 := Lib.hid (HT9.out.old.trans (hb.mono HT9.out.old.size))
  have hcv : (convert 41 9 (.slice ax 3 cx)).run Try.prog w10 = .ok (.string (strOf [2, 0, 5])) w10 := conv_any (ho.row (by decide))
  rw [str_alive] at hcv
  clear ho hb
  go_wp2_with fail
  go_ret
  exact ⟨rfl, HB10.out⟩

theorem alive_any (w : World) : Calls Try.prog 11 #[] w (Says (.bool true) w) := by
  have n1 : ∀ w, Calls Try.prog 24 #[.agg (lit 1 2).arr, .agg #[.int .u8 1, .int .u32 3]] w (Says (.tuple #[.agg (lit 1 3).arr, .int .i64 0]) w) := fun w => by
    have := next_any (lit 1 2) 1 3 w (by omega) (by omega)
    rwa [Both, lit_n1, lit_e1] at this
  have n2 : ∀ w, Calls Try.prog 24 #[.agg (lit 1 2).arr, .agg #[.int .u8 0, .int .u32 3]] w (Says (.tuple #[.agg V.zero.arr, .int .i64 9]) w) := fun w => by
    have := next_any (lit 1 2) 0 3 w (by omega) (by omega)
    rwa [Both, lit_n2, lit_e2] at this
  refine alive_core V.zero (lit 1 2) (lit 1 3) (lit 2 1) (lit 0 5) w (Lib.hid rfl) (Lib.hid fun _ => by kernel_rfl) (Lib.hid fun _ => by kernel_rfl) (Lib.hid fun _ => by kernel_rfl) (Lib.hid fun _ => by kernel_rfl) (Lib.hid n1) (Lib.hid n2) (Lib.hid fun w => ?_) (Lib.hid fun w => ?_) (Lib.hid fun w => ?_) (Lib.hid fun w => ?_) (Lib.hid fun w => ?_) (Lib.hid fun w => ?_)
  · have := order_any (lit 1 2) (lit 1 3) w
    rwa [lit_o1] at this
  · have := order_any (lit 1 2) (lit 2 1) w
    rwa [lit_o2] at this
  · have := below_any (lit 1 2) (lit 1 3) w
    rwa [lit_l] at this
  · have := right_any (lit 1 2) 2 w (by omega) (by omega)
    rwa [lit_r] at this
  · have := sum_any (lit 1 3) w
    rwa [lit_s] at this
  · have := encode_any (lit 0 5) w
    rwa [lit_b] at this

end Go.Proofs.Ytdkdcjmkhldmlaa
