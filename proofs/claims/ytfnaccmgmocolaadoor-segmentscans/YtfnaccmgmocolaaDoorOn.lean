/- Walks of Encode, the program's, and of bytes and Encode, the document's: the fields of an operation. -/
import Derived.Test.YtfnaccmgmocolaaDoorOk
namespace Go.Proofs.YtfnaccmgmocolaaDoor
open Go.RowKit

/-- What Encode answers: the bytes, or none and an error. -/
def EncP (o : O) (w : World) (e : Ending) (w' : World) : Prop :=
  ∃ a cap, e = .returned (.tuple #[.slice a o.encB.length cap, .int .i64 (o.encE : Int)]) ∧ Own w' w.heap.size a o.encB.length cap o.encB ∧ Below w.heap.size w w'

theorem enc_no {o : O} (h : o.rightB 16 = false) : o.encB = [] ∧ o.encE = 2 := by unfold O.encB O.encE; rw [h]; simp
theorem enc_yes {o : O} (h : o.rightB 16 = true) : o.encB = o.bytes ∧ o.encE = 0 := by unfold O.encB O.encE; rw [h]; simp
theorem encP_no {o : O} {w w' : World} (h : o.rightB 16 = false) (hb : Below w.heap.size w w') : EncP o w (.returned (.tuple #[.slice none 0 0, .int .i64 2])) w' := by
  obtain ⟨e1, e2⟩ := enc_no h
  unfold EncP
  rw [e1, e2]
  exact ⟨none, 0, rfl, own_nil _ _, hb⟩
theorem encP_yes {o : O} {w w' : World} {a : Option Addr} {len cap : Nat} (h : o.rightB 16 = true) (ho : Own w' w.heap.size a len cap o.bytes) (hb : Below w.heap.size w w') : EncP o w (.returned (.tuple #[.slice a len cap, .int .i64 0])) w' := by
  obtain ⟨e1, e2⟩ := enc_yes h
  unfold EncP
  rw [e1, e2]
  obtain rfl := ho.len
  exact ⟨a, cap, rfl, ho, hb⟩

/-- A writer and an operation that a call made: nothing that was there has turned. -/
structure We (w W : World) (p : Nat) (o : O) (bs : List Nat) : Prop where
  wr : ∃ a len cap, Wr W p 0 a len cap bs
  op : Blk W w.heap.size 29 o.arr
  lt : w.heap.size < p
  old : Below w.heap.size w W

theorem We.wrote {w W w' : World} {p : Nat} {o : O} {bs l : List Nat} {e : Ending} {a : Option Addr} {len cap : Nat} (h : We w W p o bs) (hw : Wr W p 0 a len cap bs) (hl : bs.length + l.length ≤ 65536) (hq : Wrote p 0 a bs l W e w') : e = .returned (.int .i64 0) ∧ We w w' p o (bs ++ l) := by
  obtain ⟨a', len', cap', rfl, hw', hk, _⟩ := hq
  obtain ⟨e1, e2⟩ := lay_ok (bs := bs) (l := l) hl
  rw [e1, e2] at hw'
  have hp : ∀ k, Wat p a k → p ≤ k := fun k hk => (hw.at_lt k hk).1
  exact ⟨by rw [e1]; rfl, ⟨a', len', cap', hw'⟩, h.op.kept hk (fun hh => by have := hp _ hh; have := h.lt; omega), h.lt, h.old.trans (hk.below h.old.size (fun k hk => by have := hp _ hk; have := h.lt; omega))⟩

theorem We.num {w W : World} {p : Nat} {o : O} (k x : Nat) (h : We w W p o (O.encs (o.nums.take k))) (hk : k < 7) (hx : o.nums.getD k 0 = x) :
    Calls Tryd.prog 29 #[.pointer (some ⟨p, 0, none⟩), .int .u64 (x : Int)] W fun e w' => e = .returned (.int .i64 0) ∧ We w w' p o (O.encs (o.nums.take (k + 1))) := by
  obtain ⟨a, len, cap, hw⟩ := h.wr
  have hm : x ∈ o.nums := by
    subst hx
    have : k < o.nums.length := hk
    simp [List.getD, this]
  have hx2 := o.nums_lt x hm
  refine (wnum_any p 0 a len cap _ x W hx2 hw).mono fun e w' hq => ?_
  have hle := O.encs_le (l := o.nums.take k) (fun n hn => o.nums_lt n (List.mem_of_mem_take hn))
  have h7 : (o.nums.take k).length ≤ 7 := by rw [List.length_take]; exact Nat.le_trans (Nat.min_le_left _ _) (by omega)
  have := h.wrote hw (by have := Vint.enc_ten hx2; omega) hq
  rw [O.encs_snoc (show k < o.nums.length from hk), hx]
  exact this

theorem We.below {w W W' : World} {p : Nat} {o : O} {bs : List Nat} (h : We w W p o bs) (hb : Below W.heap.size W W') : We w W' p o bs := by
  obtain ⟨a, len, cap, hw⟩ := h.wr
  exact ⟨⟨a, len, cap, hw.below hb⟩, h.op.below hb, h.lt, h.old.trans (hb.mono h.old.size)⟩

theorem We.tail {w W W1 : World} {p : Nat} {o : O} {b : Option Addr} {c : Nat} (h : We w W p o (O.encs (o.nums.take 7))) (hb : Below W.heap.size W W1) (ho : Own W1 W.heap.size b (V.bytes o.v).length c (V.bytes o.v)) :
    Calls Tryd.prog 25 #[.pointer (some ⟨p, 0, none⟩), .slice b (V.bytes o.v).length c] W1 fun e w' => e = .returned (.int .i64 0) ∧ We w w' p o o.bytes := by
  obtain ⟨a, len, cap, hw⟩ := h.wr
  have hw1 := hw.below hb
  have hm := V.bytes_le o.v
  refine (wbytes_any p 0 a len cap _ b (V.bytes o.v).length c (V.bytes o.v) W1 (by omega) hw1 (ho.row (V.bytes_lt o.v)) ho.cap.2.2 (fun ad ha _ hk => by have := (ho.lt ad ha).1; have := (hw.at_lt _ hk).2; omega)).mono fun e w' hq => ?_
  have hle := O.encs_le o.nums_lt
  have h7 : o.nums.length = 7 := rfl
  have ht := O.tail_le o.v
  have := (h.below hb).wrote hw1 (by rw [show o.nums.take 7 = o.nums from rfl]; unfold O.tailB at ht; omega) hq
  exact this
theorem nums7 (o : O) : o.nums.take 7 = o.nums := rfl

set_option maxHeartbeats 4000000 in
theorem encode_op (o : O) (w : World) : Calls Tryd.prog 22 #[.agg o.arr] w (EncP o w) := by
  have hb1 := fun w => box29 o w
  have HT := Lib.hid (ow_new w o)
  have HR := Lib.hid (fun w => right_op o 16 w (by omega) (by omega))
  have HV := Lib.hid (fun w => encode_any o.v w)
  have b0 := o.hr
  have b1 := o.hs
  have b2 := o.hk
  have b3 := o.hc
  have b4 := o.hi
  have b5 := o.hq
  have b6 := o.ht
  go_enter Tryd.func22, Tryd.ntmps22
  go_wp2_with (refine wpList_run rfl (exec_load29 (p := o) rfl rfl HT.out.one) ?_)
  clear hb1
  generalize w.alloc (.cells o.arr 29) = W at HT
  cases hr : o.rightB 16
  · have HN := Lib.hid hr
    rw [hr] at HR
    clear hr
    refine (HR.out _).mono ?_
    rintro e w1 ⟨rfl, hb⟩
    have HT1 := Lib.hid (HT.out.below hb)
    clear hb
    go_wp2_with fail
    go_ret2
    exact encP_no HN.out HT1.out.old
  have HN := Lib.hid hr
  rw [hr] at HR
  clear hr
  refine (HR.out _).mono ?_
  rintro e w1 ⟨rfl, hb⟩
  have HT1 := Lib.hid (HT.out.below hb)
  clear hb HT
  go_wp2_with fail
  refine (new_any _).mono ?_
  rintro e w2 ⟨rfl, hw2, hb⟩
  have HW0 : Hid (We w w2 w1.heap.size o (O.encs (o.nums.take 0))) := Lib.hid ⟨⟨_, _, _, hw2⟩, HT1.out.one.below hb, HT1.out.one.lt, HT1.out.old.trans (hb.mono HT1.out.old.size)⟩
  generalize w1.heap.size = p at HW0
  clear hw2 hb HT1
  have c0 := oc0 HW0.out.op
  go_wp2_with fail
  refine (HW0.out.num 0 o.r (by omega) rfl).mono ?_
  rintro e v1 ⟨rfl, h⟩
  have HW1 := Lib.hid h
  clear h HW0 c0
  have c1 := oc1 HW1.out.op
  go_wp2_with fail
  refine (HW1.out.num 1 o.s (by omega) rfl).mono ?_
  rintro e v2 ⟨rfl, h⟩
  have HW2 := Lib.hid h
  clear h HW1 c1
  have c2 := oc2 HW2.out.op
  go_wp2_with fail
  refine (HW2.out.num 2 o.k (by omega) rfl).mono ?_
  rintro e v3 ⟨rfl, h⟩
  have HW3 := Lib.hid h
  clear h HW2 c2
  have c3 := oc3 HW3.out.op
  go_wp2_with fail
  refine (HW3.out.num 3 o.c (by omega) rfl).mono ?_
  rintro e v4 ⟨rfl, h⟩
  have HW4 := Lib.hid h
  clear h HW3 c3
  have c4 := oc4 HW4.out.op
  go_wp2_with fail
  refine (HW4.out.num 4 o.i (by omega) rfl).mono ?_
  rintro e v5 ⟨rfl, h⟩
  have HW5 := Lib.hid h
  clear h HW4 c4
  have c5 := oc5 HW5.out.op
  go_wp2_with fail
  refine (HW5.out.num 5 o.q (by omega) rfl).mono ?_
  rintro e v6 ⟨rfl, h⟩
  have HW6 := Lib.hid h
  clear h HW5 c5
  have c6 := oc6 HW6.out.op
  go_wp2_with fail
  refine (HW6.out.num 6 o.t (by omega) rfl).mono ?_
  rintro e v7 ⟨rfl, h⟩
  have HW7 := Lib.hid h
  clear h HW6 c6
  go_wp2_with (refine wpList_run rfl (exec_ctx (p := o) rfl rfl HW7.out.op) ?_)
  refine (HV.out _).mono ?_
  rintro e w3 ⟨b, c, rfl, hob, hb⟩
  have HC := Lib.hid (HW7.out.tail hb hob)
  clear hob hb HW7
  generalize (V.bytes o.v).length = m at HC
  go_wp2_with fail
  refine HC.out.mono ?_
  rintro e w4 ⟨rfl, h⟩
  have HW8 := Lib.hid h
  clear h HC
  obtain ⟨a, len, cap, hw⟩ := HW8.out.wr
  have HA := Lib.hid (all_any p 0 a len cap _ w4 hw)
  clear hw
  go_wp2_with fail
  refine HA.out.mono ?_
  rintro e w5 ⟨a5, len5, cap5, rfl, ho, hb⟩
  rw [if_pos rfl] at ho
  have HO5 := Lib.hid (ho.mono HW8.out.old.size)
  have HB5 := Lib.hid (HW8.out.old.trans (hb.mono HW8.out.old.size))
  clear ho hb
  go_wp2_with fail
  go_ret2
  exact encP_yes HN.out HO5.out HB5.out

/-- The seven numbers in a row of their own. -/
abbrev O.na (o : O) : Array Value := #[.int .u64 (o.r : Int), .int .u64 (o.s : Int), .int .u64 (o.k : Int), .int .u64 (o.c : Int), .int .u64 (o.i : Int), .int .u64 (o.q : Int), .int .u64 (o.t : Int)]
theorem O.na_at (o : O) {k : Nat} (hk : k < 7) : o.na[k]? = some (.int .u64 ((o.nums.getD k 0 : Nat) : Int)) := by
  have : k = 0 ∨ k = 1 ∨ k = 2 ∨ k = 3 ∨ k = 4 ∨ k = 5 ∨ k = 6 := by omega
  rcases this with rfl | rfl | rfl | rfl | rfl | rfl | rfl <;> rfl

/-- Bytes of its own, an operation and its numbers that a call made: nothing that was there has turned. -/
structure Oo (w W : World) (o : O) (a : Option Addr) (len cap : Nat) (bs : List Nat) : Prop where
  own : Own W (w.heap.size + 2) a len cap bs
  op : Blk W w.heap.size 29 o.arr
  nm : Blk W (w.heap.size + 1) 63 o.na
  old : Below w.heap.size w W
theorem oo_new (w : World) (o : O) : Oo w ((w.alloc (.cells o.arr 29)).alloc (.cells o.na 63)) o none 0 0 [] := by
  have h1 := Blk.new w 29 o.arr
  have h2 := Blk.new (w.alloc (.cells o.arr 29)) 63 o.na
  have k2 := Kept.alloc (fun _ => False) (w.alloc (.cells o.arr 29)) (.cells o.na 63)
  simp only [World.size_alloc] at h2
  exact ⟨own_nil _ _, h1.kept k2 (fun h => h), h2, below_two' _ _ _⟩
theorem Oo.below {w W W' : World} {o : O} {a : Option Addr} {len cap : Nat} {bs : List Nat} (h : Oo w W o a len cap bs) (hb : Below W.heap.size W W') : Oo w W' o a len cap bs := ⟨h.own.below hb, h.op.below hb, h.nm.below hb, h.old.trans (hb.mono h.old.size)⟩
theorem Oo.add {w W W' : World} {o : O} {a a' : Option Addr} {len cap len' cap' : Nat} {bs bs' : List Nat} (h : Oo w W o a len cap bs) (ho : Own W' (w.heap.size + 2) a' len' cap' bs') (hk : Kept (fun k => ∃ ad, a = some ad ∧ k = ad.block) W W') : Oo w W' o a' len' cap' bs' := by
  have hge : ∀ j, (∃ ad, a = some ad ∧ j = ad.block) → w.heap.size + 2 ≤ j := fun j ⟨ad, h1, h2⟩ => by have := (h.own.lt ad h1).1; omega
  exact ⟨ho, h.op.kept hk (fun hh => by have := hge _ hh; omega), h.nm.kept hk (fun hh => by have := hge _ hh; omega), h.old.trans (hk.below h.old.size (fun j hj => by have := hge _ hj; omega))⟩

set_option maxRecDepth 100000 in
set_option maxHeartbeats 4000000 in
theorem rbytes_op (o : O) (w : World) : Calls Tryd.prog 73 #[.agg o.arr] w (Fresh o.bytes w) := by
  have hb1 := fun w => box29 o w
  have HT := Lib.hid (oo_new w o)
  have HV := Lib.hid (fun w => rencode_any o.v w)
  have HBY : Hid (o.bytes = O.encs (o.nums.take 7) ++ O.tailB o.v) := Lib.hid rfl
  have c0 := oc0 (ow_new w o).one
  have c1 := oc1 (ow_new w o).one
  have c2 := oc2 (ow_new w o).one
  have c3 := oc3 (ow_new w o).one
  have c4 := oc4 (ow_new w o).one
  have c5 := oc5 (ow_new w o).one
  have c6 := oc6 (ow_new w o).one
  have b0 := o.hr
  have b1 := o.hs
  have b2 := o.hk
  have b3 := o.hc
  have b4 := o.hi
  have b5 := o.hq
  have b6 := o.ht
  go_enter Tryd.func73, Tryd.ntmps73
  go_wp2_with fail
  clear hb1 c0 c1 c2 c3 c4 c5 c6
  generalize (w.alloc (.cells o.arr 29)).alloc (.cells o.na 63) = W at HT
  go_loopw [4, 5] (fun b i wr => ∃ (k len cap : Nat) (a : Option Addr), k ≤ 7 ∧ len ≤ 10 * k ∧ i = .int .i64 (k : Int) ∧ b = .slice a len cap ∧ Hid (Oo w wr o a len cap (O.encs (o.nums.take k)))) (fun _ i _ => 7 - (intOf i).toNat)
  case atStart => exact ⟨0, 0, 0, none, by omega, by omega, rfl, rfl, HT⟩
  case round =>
    obtain ⟨k, len, cap, a, hk, hlen, rfl, rfl, HR⟩ := hrel
    by_cases hlt : k < 7
    · have d1 : wr.cell? ⟨w.heap.size + 1, k, none⟩ = some (.int .u64 ((o.nums.getD k 0 : Nat) : Int)) := by rw [HR.out.nm.cell, o.na_at hlt]
      have hxl : o.nums.getD k 0 < 18446744073709551616 := by
        have h7 : k < o.nums.length := hlt
        have : o.nums.getD k 0 ∈ o.nums := by simp [List.getD, h7]
        exact o.nums_lt _ this
      have HX : Hid (O.encs (o.nums.take (k + 1)) = O.encs (o.nums.take k) ++ Vint.enc (o.nums.getD k 0)) := Lib.hid (O.encs_snoc (show k < o.nums.length from hlt))
      generalize o.nums.getD k 0 = x at d1 hxl HX
      have hten : (Vint.enc x).length ≤ 10 := Vint.enc_ten hxl
      have HP := Lib.hid (fun w => rput_any x w hxl)
      have HE := Lib.hid (Vint.enc_lt x)
      generalize Vint.enc x = ex at hten HP HX HE
      generalize hnb : O.encs (o.nums.take (k + 1)) = nb at HX
      have HNB := Lib.hid hnb
      clear hnb
      have HXL := Lib.hid hxl
      clear hxl
      go_wp2_with fail
      refine (HP.out _).mono ?_
      rintro e w2 ⟨g2, cc2, rfl, ho2, hb2⟩
      have HR2 := Lib.hid ((Own.of_made ho2).row HE.out)
      have HO2 := Lib.hid (HR.out.below hb2)
      clear ho2 hb2 d1
      go_wp2_with (at_builtin; refine wpList_append_own_row _ rfl _ _ rfl (w.heap.size + 2) a len cap (O.encs (o.nums.take k)) rfl HO2.out.own (some ⟨g2, 0, none⟩) ex.length cc2 ex rfl HR2.out (fun h => by cases h) (by omega) HO2.out.nm.lt ?_; intro a3 cp3 w3 ho3 hk3 hl3; have HO3 := Lib.hid (HO2.out.add ho3 hk3); clear ho3 hk3 hl3)
      go_roundw
      case rel => exact ⟨k + 1, len + ex.length, cp3, a3, by omega, by omega, by go_num, rfl, Lib.hid (by rw [HNB.out, HX.out]; exact HO3.out)⟩
      case measure => simp [intOf]; omega
    · obtain rfl : k = 7 := by omega
      go_wp2_with (refine wpList_run rfl (exec_ctx (p := o) rfl rfl HR.out.op) ?_)
      refine (HV.out _).mono ?_
      rintro e w2 ⟨b2, cb, rfl, ho2, hb2⟩
      have hvl := V.bytes_le o.v
      have HF : Hid (Calls Tryd.prog 49 #[.slice b2 (V.bytes o.v).length cb] w2 (Fresh (O.tailB o.v) w2)) := Lib.hid (field_any b2 (V.bytes o.v).length cb (V.bytes o.v) w2 (by omega) (ho2.row (V.bytes_lt o.v)) ho2.cap.2.2)
      have HO2 := Lib.hid (HR.out.below hb2)
      have htl := O.tail_le o.v
      have HTL := Lib.hid (O.tail_lt o.v)
      clear ho2 hb2
      generalize (V.bytes o.v).length = m at HF hvl
      generalize O.tailB o.v = tl at HF htl HTL HBY
      go_wp2_with fail
      refine HF.out.mono ?_
      rintro e w3 ⟨b3, cc3, rfl, ho3, hb3⟩
      have HR3 := Lib.hid (ho3.row HTL.out)
      have HZ3 := Lib.hid ho3.cap.2.2
      have HO3 := Lib.hid (HO2.out.below hb3)
      clear ho3 hb3
      go_wp2_with (at_builtin; refine wpList_append_own_row _ rfl _ _ rfl (w.heap.size + 2) a len cap (O.encs (o.nums.take 7)) rfl HO3.out.own b3 tl.length cc3 tl rfl HR3.out HZ3.out (by omega) HO3.out.nm.lt ?_; intro a4 cp4 w4 ho4 hk4 hl4; have HO4 := Lib.hid (HO3.out.add ho4 hk4); clear ho4 hk4 hl4)
      go_ret
      have ho := HO4.out.own
      rw [← HBY.out] at ho
      have hl := ho.len
      exact ⟨a4, cp4, by rw [hl]; rfl, by rw [hl]; exact ho.mono (by omega), HO4.out.old⟩

set_option maxHeartbeats 4000000 in
theorem rencode_op (o : O) (w : World) : Calls Tryd.prog 46 #[.agg o.arr] w (EncP o w) := by
  have hb1 := fun w => box29 o w
  have HT := Lib.hid (ow_new w o)
  have HR := Lib.hid (fun w => rright_op o 16 w (by omega) (by omega))
  have HV := Lib.hid (fun w => rbytes_op o w)
  go_enter Tryd.func46, Tryd.ntmps46
  go_wp2_with (refine wpList_run rfl (exec_load29 (p := o) rfl rfl HT.out.one) ?_)
  clear hb1
  generalize w.alloc (.cells o.arr 29) = W at HT
  cases hr : o.rightB 16
  · have HN := Lib.hid hr
    rw [hr] at HR
    clear hr
    refine (HR.out _).mono ?_
    rintro e w1 ⟨rfl, hb⟩
    have HT1 := Lib.hid (HT.out.below hb)
    clear hb
    go_wp2_with fail
    go_ret2
    exact encP_no HN.out HT1.out.old
  have HN := Lib.hid hr
  rw [hr] at HR
  clear hr
  refine (HR.out _).mono ?_
  rintro e w1 ⟨rfl, hb⟩
  have HT1 := Lib.hid (HT.out.below hb)
  clear hb HT
  go_wp2_with (refine wpList_run rfl (exec_load29 (p := o) rfl rfl HT1.out.one) ?_)
  refine (HV.out _).mono ?_
  rintro e w2 ⟨a, cap, rfl, ho, hb⟩
  have HO := Lib.hid (ho.mono HT1.out.old.size)
  have HB := Lib.hid (HT1.out.old.trans (hb.mono HT1.out.old.size))
  clear ho hb
  go_wp2_with fail
  go_ret2
  exact encP_yes HN.out HO.out HB.out

end Go.Proofs.YtfnaccmgmocolaaDoor
