/- Walks of bytes and Encode of the document. -/
import Derived.Test.YtcgbkfnjohbglaaDoorPe
namespace Go.Proofs.YtcgbkfnjohbglaaDoor
open Go.RowKit

theorem bsN2 (a b : Int) (w : World) : (Instr.buildSlice 83 2 #[(0, .int .u64 a), (1, .int .u64 b)]).run Tryd.prog w = .ok (.slice (some ⟨w.heap.size, 0, none⟩) 2 2) (w.alloc (.cells #[.int .u64 a, .int .u64 b] 72)) := by
  obtain ⟨i0, hi, hz0, hz1, hz2⟩ := info_parts info72
  refine run_buildSlice w 83 72 2 _ _ i0 _ und83 hi hz0 (by rw [hz1]; omega) (by rw [hz1]; omega) ?_
  rw [hz1]
  kernel_rfl
theorem exec_bsN2 {ev : Operand → Value} {q : Oper} {w : World} {x y : Operand} {a b : Int} (ho : q.op = .buildSlice 83 2 #[(0, x), (1, y)]) (hx : ev x = .int .u64 a) (hy : ev y = .int .u64 b) : (execOp ev q).run Tryd.prog w = .ok (.value (.slice (some ⟨w.heap.size, 0, none⟩) 2 2)) (w.alloc (.cells #[.int .u64 a, .int .u64 b] 72)) := by
  have hm : (#[((0 : Nat), x), (1, y)]).map (fun (i, x) => (i, ev x)) = #[(0, Value.int .u64 a), (1, Value.int .u64 b)] := by simp [hx, hy]
  unfold execOp
  simp only [ho, hm, Sem.run_bind, bsN2 a b w, Result.andThen_ok]
  rfl
theorem exec_cvt {ev : Operand → Value} {o : Oper} {w : World} {x : Operand} {n : Nat} (ho : o.op = .convert 28 72 x) (hx : ev x = .int .u32 (n : Int)) (hn : n < 4294967296) : (execOp ev o).run Tryd.prog w = .ok (.value (.int .u64 (n : Int))) w := by
  have e : IntKind.u64.wrap (n : Int) = (n : Int) := by rw [IntKind.wrap_u64]; omega
  unfold execOp
  simp only [ho, hx]
  simp [convert, e, go_sem]


/-- The same, with an empty slice at a new block. -/
def RbI (w W : World) (q : Nat) (lf : Bool) (a1 : Option Addr) (n1 c1 : Nat) (a2 : Option Addr) (n2 c2 : Nat) (a3 : Option Addr) (n3 c3 : Nat) : Prop :=
  Rb w (W.alloc (.cells #[] 5)) q lf a1 n1 c1 a2 n2 c2 a3 n3 c3 (some ⟨W.heap.size, 0, none⟩) 0 0 []
theorem Rb.init {w W : World} {q : Nat} {lf : Bool} {a1 : Option Addr} {n1 c1 : Nat} {a2 : Option Addr} {n2 c2 : Nat} {a3 : Option Addr} {n3 c3 : Nat} {a : Option Addr} {len cap : Nat} {bs : List Nat} (h : Rb w W q lf a1 n1 c1 a2 n2 c2 a3 n3 c3 a len cap bs) : RbI w W q lf a1 n1 c1 a2 n2 c2 a3 n3 c3 :=
  ⟨h.box.below (below_one _ _), (own_empty W).mono (by have := h.box.lt; omega), h.wlt, h.old.trans ((below_one W _).mono h.old.size)⟩
theorem RbI.nums {w W : World} {q : Nat} {lf : Bool} {a1 : Option Addr} {n1 c1 : Nat} {a2 : Option Addr} {n2 c2 : Nat} {a3 : Option Addr} {n3 c3 : Nat} (h : RbI w W q lf a1 n1 c1 a2 n2 c2 a3 n3 c3) (m : Nat) (l : List Nat) (cs : Array Value) (hcs : cs = (l.map fun n : Nat => Value.int .u64 (n : Int)).toArray) (hm : l.length = m) (hs : ∀ x ∈ l, x < 18446744073709551616) (hm5 : m ≤ 5) (_ : True) :
    Calls Tryd.prog 42 #[.slice (some ⟨W.heap.size, 0, none⟩) 0 0, .slice (some ⟨(W.alloc (.cells #[] 5)).heap.size, 0, none⟩) m m] ((W.alloc (.cells #[] 5)).alloc (.cells cs 72)) (RbP w q lf a1 n1 c1 a2 n2 c2 a3 n3 c3 ([] ++ encs l)) :=
  Rb.nums (show Rb w (W.alloc (.cells #[] 5)) q lf a1 n1 c1 a2 n2 c2 a3 n3 c3 (some ⟨W.heap.size, 0, none⟩) 0 0 [] from h) m l cs hcs hm hs hm5 (by simp)

/-- What bytes of the document leaves. -/
def BytesP (P : Pg) (w : World) (e : Ending) (w' : World) : Prop :=
  ∃ a cap, e = .returned (.slice a P.bytes.length cap) ∧ Own w' w.heap.size a P.bytes.length cap P.bytes ∧ Below w.heap.size w w'

set_option maxHeartbeats 4000000 in
set_option maxRecDepth 100000 in
theorem rbytes_yes {P : Pg} {a1 a2 a3 : Option Addr} {n1 n2 n3 : Nat} (c1 c2 c3 : Nat) {w : World} (h : PV w P a1 n1 a2 n2 a3 n3) (hr : P.right = true) :
    Calls Tryd.prog 31 #[.agg #[.bool P.leaf, .slice a1 n1 c1, .slice a2 n2 c2, .slice a3 n3 c3]] w (BytesP P w) := by
  obtain ⟨hr1, hr2, hr3⟩ := Pg.right_iff.1 hr
  have HRR := Lib.hid hr3
  have hn8 : n1 ≤ 8 := by have := h.ks.len'; omega
  have HN1 := Lib.hid h.ks.len'
  have HN2 := Lib.hid h.ls.len'
  have HN3 := Lib.hid h.ds.len'
  have HPV := Lib.hid h
  have HP8 := Lib.hid hr1
  clear hr hr1 hr2 hr3 h
  have H0 : Hid (Rb w (w.alloc (.cells (pgA P.leaf a1 n1 c1 a2 n2 c2 a3 n3 c3) 26)) w.heap.size P.leaf a1 n1 c1 a2 n2 c2 a3 n3 c3 none 0 0 []) := Lib.hid ⟨Blk.new w 26 _, own_nil _ _, Nat.le_refl _, below_one _ _⟩
  generalize hlf : P.leaf = lf at H0 ⊢
  have HLF := Lib.hid hlf
  clear hlf
  go_enter Tryd.func31, Tryd.ntmps31
  go_upto_region 1 with fail
  try simp only [World.size_alloc, Act.put, List.setIfInBounds_toArray, List.set_cons_zero, List.set_cons_succ]
  generalize w.alloc (.cells #[.bool lf, .slice a1 n1 c1, .slice a2 n2 c2, .slice a3 n3 c3] 26) = w0 at H0
  obtain ⟨q, hq⟩ : ∃ q, w.heap.size = q := ⟨_, rfl⟩
  have HWQ : Hid (w.heap.size ≤ q) := Lib.hid (by omega)
  rw [hq] at H0
  rw [hq]
  clear hq
  cases lf
  · have HKZ : Hid ([] ++ encs [0, n1] = encs (P.upto 0)) := Lib.hid (by rw [P.upto_zero2, HLF.out, HN1.out]; rfl)
    have k0 := H0.out.e0
    have k1 : (w0.alloc (.cells #[] 5)).cell? ⟨q, 1, none⟩ = some (.slice a1 n1 c1) := (H0.out.below (below_one _ _)).e1
    have hc0 := H0.out.init.nums 2 [0, n1] #[.int .u64 0, .int .u64 (n1 : Int)] rfl rfl (by intro x hx; simp at hx; omega) (by omega) trivial
    rw [HKZ.out] at hc0
    simp only [World.size_alloc] at hc0
    have HC := Lib.hid hc0
    clear hc0
    clear H0 HKZ
    go_wp2_with fail
    (with_reducible refine HC.out.mono ?_)
    rintro e w2 ⟨a', len', cap', rfl, h2⟩
    have HX := Lib.hid h2
    clear h2 HC k0 k1
    go_wp2_with fail
    go_loopw [4, 5] (fun s i wr => ∃ (k ln cp : Nat) (ad : Option Addr) (bs : List Nat), k ≤ n1 ∧ s = .slice ad ln cp ∧ i = .int .i64 (k : Int) ∧ Hid (encs (P.upto k) = bs) ∧ bs.length ≤ 420 ∧ Hid (Rb w wr q false a1 n1 c1 a2 n2 c2 a3 n3 c3 ad ln cp bs)) (fun _ i _ => n1 - (intOf i).toNat)
    case atStart => exact ⟨0, len', cap', a', _, Nat.zero_le _, rfl, rfl, Lib.hid rfl, P.upto_bytes HP8.out (by omega), HX⟩
    case round =>
      obtain ⟨k, ln, cp, ad, bs, hk, rfl, rfl, HBS, hbs, HX0⟩ := hrel
      clear HX
      have k1 := HX0.out.e1
      by_cases hlt : k < n1
      · obtain ⟨b, off, x, rfl, hx, hrg⟩ := KL.at (HPV.out.ks.below HX0.out.old) hlt
        have HR := Lib.hid hrg
        have HKX : Hid (kyAt P.ks k = x) := Lib.hid (kyAt_of hx)
        obtain ⟨zo, hzo⟩ : ∃ zo, Ky.zero = zo := ⟨_, rfl⟩
        have HZO := Lib.hid hzo
        clear hx hrg hzo
        go_wp2_with (first | (refine wpList_run rfl (exec_idx32 (i := k) rfl rfl rfl rfl hlt) ?_) | (refine wpList_run rfl (exec_ld32 rfl rfl HR.out) ?_) | (refine wpList_run rfl (exec_alloc32z HZO.out rfl) ?_) | (refine wpList_stop32 rfl ?_))
        refine ⟨?_⟩
        refine wpList_void rfl rfl (exec_store32 (p := zo) (u := x) rfl rfl rfl (Blk.new wr 32 zo.arr)) ?_
        have HT := Lib.hid ((below_one wr (.cells zo.arr 32)).trans ((Kept.setRow (wr.alloc (.cells zo.arr 32)) wr.heap.size x.arr).below (B := wr.heap.size) (by simp) (fun k hk => by omega)))
        have HKB := Lib.hid ((Blk.new wr 32 zo.arr).row (ds := x.arr))
        have H1 := Lib.hid (HX0.out.below HT.out)
        generalize (wr.alloc (.cells zo.arr 32)).setRow wr.heap.size x.arr = v0 at H1 HKB HT
        generalize wr.heap.size = g1 at H1 HKB
        clear HX0 HR HZO HT k1
        obtain ⟨q0, q1, q2⟩ := ky3 HKB.out
        have b0 := x.hc
        have b1 := x.hr
        have b2 := x.hs
        have HC := Lib.hid (H1.out.nums 3 [x.c, x.r, x.s] #[.int .u64 (x.c : Int), .int .u64 (x.r : Int), .int .u64 (x.s : Int)] rfl rfl (by intro z hz; simp at hz; omega) (by omega) (by omega))
        have HL10 := Lib.hid (encs_len (l := [x.c, x.r, x.s]) (by intro z hz; simp at hz; omega))
        have k0 := H1.out.e0
        go_wp2_with fail
        (with_reducible refine HC.out.mono ?_)
        rintro e v1 ⟨ax, lx, cx, rfl, h2⟩
        have H2 := Lib.hid h2
        clear h2 HC q0 q1 q2 k0 H1 HKB
        have k0 := H2.out.e0
        have HL3 : Hid (P.ks.length = P.ds.length) := Lib.hid (by rcases HRR.out with h | h; · rw [HLF.out] at h; cases h.1
                                                                  · exact h.2.2.1.symm)
        have hlt3 : k < n3 := by have := HL3.out; have := HN1.out; have := HN3.out; omega
        obtain ⟨b3, off3, y, rfl, hy, hrg3⟩ := DL.at (HPV.out.ds.below H2.out.old) hlt3
        have HKY : Hid (kdAt P.ds k = y) := Lib.hid (kdAt_of hy)
        have b3a := y.hn
        have k3 := H2.out.e3
        have HR3 := Lib.hid hrg3
        clear hy hrg3
        have HC := Lib.hid (H2.out.nums 1 [y.n] #[.int .u64 (y.n : Int)] rfl rfl (by intro z hz; simp at hz; omega) (by omega) (by rw [List.length_append]; have := HL10.out; simp at this; omega))
        go_wp2_with (first | (refine wpList_run rfl (exec_idx28 (i := k) rfl rfl rfl rfl hlt3) ?_) | (refine wpList_run rfl (exec_ld28 rfl rfl HR3.out) ?_))
        (with_reducible refine HC.out.mono ?_)
        rintro e v2 ⟨ay, ly, cy, rfl, h4⟩
        have H5 := Lib.hid h4
        have HE := Lib.hid (Pg.upto_inner2 HLF.out HKX.out HKY.out)
        have HLEN := Lib.hid (P.upto_bytes HP8.out (show k + 1 ≤ 8 by omega))
        clear h4 HC H2 HR3 k0 k3
        go_wp2_with fail
        go_roundw
        case rel => exact ⟨k + 1, _, _, _, _, by omega, rfl, by go_num, Lib.hid (by rw [HE.out, HBS.out]), by rw [← HBS.out, ← HE.out]; exact HLEN.out, H5⟩
        case measure => simp [intOf]; omega
      · obtain rfl : k = n1 := by omega
        have HF : Hid (bs = P.fields) := Lib.hid (by rw [← HBS.out, ← HN1.out]; rfl)
        have hsm : ∀ c ∈ bs, c < 256 := by rw [HF.out]; exact P.fields_small
        have HRW := Lib.hid (HX0.out.own.row hsm)
        have HOC := Lib.hid HX0.out.own
        have hlen5 : ln ≤ 4096 := by have := HX0.out.own.len; omega
        clear hsm
        go_wp2_with fail
        refine (rwrap_any ad ln cp bs wr HRW.out HOC.out.cap.2.2 hlen5).mono ?_
        rintro e w6 ⟨a6, cap6, rfl, ho6, hb6⟩
        have HO6 := Lib.hid (ho6.mono HX0.out.old.size)
        have HB6 := Lib.hid (HX0.out.old.trans (hb6.mono HX0.out.old.size))
        clear ho6 hb6
        go_wp2_with fail
        go_ret
        have hB : P.bytes = Frm.fr bs := by rw [HF.out]; rfl
        unfold BytesP
        rw [hB]
        exact ⟨a6, cap6, rfl, HO6.out, HB6.out⟩
  · have HKZ : Hid ([] ++ encs [1, n1] = encs (P.upto 0)) := Lib.hid (by rw [P.upto_zero2, HLF.out, HN1.out]; rfl)
    have k0 := H0.out.e0
    have k1 : (w0.alloc (.cells #[] 5)).cell? ⟨q, 1, none⟩ = some (.slice a1 n1 c1) := (H0.out.below (below_one _ _)).e1
    have hc0 := H0.out.init.nums 2 [1, n1] #[.int .u64 1, .int .u64 (n1 : Int)] rfl rfl (by intro x hx; simp at hx; omega) (by omega) trivial
    rw [HKZ.out] at hc0
    simp only [World.size_alloc] at hc0
    have HC := Lib.hid hc0
    clear hc0
    clear H0 HKZ
    go_wp2_with fail
    (with_reducible refine HC.out.mono ?_)
    rintro e w2 ⟨a', len', cap', rfl, h2⟩
    have HX := Lib.hid h2
    clear h2 HC k0 k1
    go_wp2_with fail
    go_loopw [4, 5] (fun s i wr => ∃ (k ln cp : Nat) (ad : Option Addr) (bs : List Nat), k ≤ n1 ∧ s = .slice ad ln cp ∧ i = .int .i64 (k : Int) ∧ Hid (encs (P.upto k) = bs) ∧ bs.length ≤ 420 ∧ Hid (Rb w wr q true a1 n1 c1 a2 n2 c2 a3 n3 c3 ad ln cp bs)) (fun _ i _ => n1 - (intOf i).toNat)
    case atStart => exact ⟨0, len', cap', a', _, Nat.zero_le _, rfl, rfl, Lib.hid rfl, P.upto_bytes HP8.out (by omega), HX⟩
    case round =>
      obtain ⟨k, ln, cp, ad, bs, hk, rfl, rfl, HBS, hbs, HX0⟩ := hrel
      clear HX
      have k1 := HX0.out.e1
      by_cases hlt : k < n1
      · obtain ⟨b, off, x, rfl, hx, hrg⟩ := KL.at (HPV.out.ks.below HX0.out.old) hlt
        have HR := Lib.hid hrg
        have HKX : Hid (kyAt P.ks k = x) := Lib.hid (kyAt_of hx)
        obtain ⟨zo, hzo⟩ : ∃ zo, Ky.zero = zo := ⟨_, rfl⟩
        have HZO := Lib.hid hzo
        clear hx hrg hzo
        go_wp2_with (first | (refine wpList_run rfl (exec_idx32 (i := k) rfl rfl rfl rfl hlt) ?_) | (refine wpList_run rfl (exec_ld32 rfl rfl HR.out) ?_) | (refine wpList_run rfl (exec_alloc32z HZO.out rfl) ?_) | (refine wpList_stop32 rfl ?_))
        refine ⟨?_⟩
        refine wpList_void rfl rfl (exec_store32 (p := zo) (u := x) rfl rfl rfl (Blk.new wr 32 zo.arr)) ?_
        have HT := Lib.hid ((below_one wr (.cells zo.arr 32)).trans ((Kept.setRow (wr.alloc (.cells zo.arr 32)) wr.heap.size x.arr).below (B := wr.heap.size) (by simp) (fun k hk => by omega)))
        have HKB := Lib.hid ((Blk.new wr 32 zo.arr).row (ds := x.arr))
        have H1 := Lib.hid (HX0.out.below HT.out)
        generalize (wr.alloc (.cells zo.arr 32)).setRow wr.heap.size x.arr = v0 at H1 HKB HT
        generalize wr.heap.size = g1 at H1 HKB
        clear HX0 HR HZO HT k1
        obtain ⟨q0, q1, q2⟩ := ky3 HKB.out
        have b0 := x.hc
        have b1 := x.hr
        have b2 := x.hs
        have HC := Lib.hid (H1.out.nums 3 [x.c, x.r, x.s] #[.int .u64 (x.c : Int), .int .u64 (x.r : Int), .int .u64 (x.s : Int)] rfl rfl (by intro z hz; simp at hz; omega) (by omega) (by omega))
        have HL10 := Lib.hid (encs_len (l := [x.c, x.r, x.s]) (by intro z hz; simp at hz; omega))
        have k0 := H1.out.e0
        go_wp2_with fail
        (with_reducible refine HC.out.mono ?_)
        rintro e v1 ⟨ax, lx, cx, rfl, h2⟩
        have H2 := Lib.hid h2
        clear h2 HC q0 q1 q2 k0 H1 HKB
        have k0 := H2.out.e0
        have HL3 : Hid (P.ks.length = P.ls.length) := Lib.hid (by rcases HRR.out with h | h; · exact h.2.1.symm
                                                                  · rw [HLF.out] at h; cases h.1)
        have hlt3 : k < n2 := by have := HL3.out; have := HN1.out; have := HN2.out; omega
        obtain ⟨b3, off3, y, rfl, hy, hrg3⟩ := LL.at (HPV.out.ls.below H2.out.old) hlt3
        have HKY : Hid (loAt P.ls k = y) := Lib.hid (loAt_of hy)
        have HY := Lib.hid hy
        have b3a := y.hg
        have b3b := y.ht
        clear hy hrg3
        have HL2 := Lib.hid (HPV.out.ls.below H2.out.old)
        go_wp2_with fail
        refine wp_region_held_drew (S := fun w' => LL w' (some ⟨b3, off3, none⟩) n2 P.ls ∧ Blk w' q 26 (pgA true (some ⟨b, off, none⟩) n1 c1 (some ⟨b3, off3, none⟩) n2 c2 a3 n3 c3) ∧ Below w.heap.size w w') (by kernel_rfl) ⟨HL2.out.below (drew_below _), H2.out.box.below (drew_below _), H2.out.old.trans ((drew_below _).mono H2.out.old.size)⟩ (fun hS => ?_)
        refine held_take 0 47 (.slice ax lx cx) rfl rfl (by kernel_rfl) (by kernel_rfl) (by kernel_rfl) (fun _ _ _ h => h) (by kernel_rfl) (fun _ _ => rfl) hS ?_
        simp only [Act.put, List.setIfInBounds_toArray, List.set_cons_zero, List.set_cons_succ]
        refine held_take 1 48 (.pointer (some ⟨q, 2, none⟩)) rfl rfl (by kernel_rfl) (by kernel_rfl) (by kernel_rfl) (fun _ _ _ h => h) (by kernel_rfl) (fun _ _ => (by kernel_rfl)) hS ?_
        simp only [Act.put, List.setIfInBounds_toArray, List.set_cons_zero, List.set_cons_succ]
        refine held_take 2 49 (.slice (some ⟨b3, off3, none⟩) n2 c2) rfl rfl (by kernel_rfl) (by kernel_rfl) (by kernel_rfl) (fun _ _ _ h => h) (by kernel_rfl) (fun _ h => exec_cell rfl rfl (load_cell (by kernel_rfl) (h.2.1.cell 2))) hS ?_
        simp only [Act.put, List.setIfInBounds_toArray, List.set_cons_zero, List.set_cons_succ]
        refine held_take 3 50 (.int .i64 (k : Int)) rfl rfl (by kernel_rfl) (by kernel_rfl) (by kernel_rfl) (fun _ _ _ h => h) (by kernel_rfl) (fun _ _ => rfl) hS ?_
        simp only [Act.put, List.setIfInBounds_toArray, List.set_cons_zero, List.set_cons_succ]
        refine held_take 4 51 (.pointer (some ⟨b3, off3 + k * 2, none⟩)) rfl rfl (by kernel_rfl) (by kernel_rfl) (by kernel_rfl) (fun _ _ _ h => h) (by kernel_rfl) (fun _ _ => exec_idx67 (i := k) rfl rfl rfl rfl hlt3) hS ?_
        simp only [Act.put, List.setIfInBounds_toArray, List.set_cons_zero, List.set_cons_succ]
        refine held_take 5 52 (.pointer (some ⟨b3, off3 + k * 2, none⟩)) rfl rfl (by kernel_rfl) (by kernel_rfl) (by kernel_rfl) (fun _ _ _ h => h) (by kernel_rfl) (fun _ _ => (by kernel_rfl)) hS ?_
        simp only [Act.put, List.setIfInBounds_toArray, List.set_cons_zero, List.set_cons_succ]
        refine held_take 6 53 (.int .u32 (y.g : Int)) rfl rfl (by kernel_rfl) (by kernel_rfl) (by kernel_rfl) (fun _ _ _ h => h) (by kernel_rfl) (fun _ h => exec_cell rfl rfl (load_cell (by kernel_rfl) (lo_cells (h.1.rng HY.out)).1)) hS ?_
        simp only [Act.put, List.setIfInBounds_toArray, List.set_cons_zero, List.set_cons_succ]
        refine held_take 7 54 (.int .u64 (y.g : Int)) rfl rfl (by kernel_rfl) (by kernel_rfl) (by kernel_rfl) (fun _ _ _ h => h) (by kernel_rfl) (fun _ _ => exec_cvt rfl rfl b3a) hS ?_
        simp only [Act.put, List.setIfInBounds_toArray, List.set_cons_zero, List.set_cons_succ]
        refine held_take 8 55 (.pointer (some ⟨q, 2, none⟩)) rfl rfl (by kernel_rfl) (by kernel_rfl) (by kernel_rfl) (fun _ _ _ h => h) (by kernel_rfl) (fun _ _ => (by kernel_rfl)) hS ?_
        simp only [Act.put, List.setIfInBounds_toArray, List.set_cons_zero, List.set_cons_succ]
        refine held_take 9 56 (.slice (some ⟨b3, off3, none⟩) n2 c2) rfl rfl (by kernel_rfl) (by kernel_rfl) (by kernel_rfl) (fun _ _ _ h => h) (by kernel_rfl) (fun _ h => exec_cell rfl rfl (load_cell (by kernel_rfl) (h.2.1.cell 2))) hS ?_
        simp only [Act.put, List.setIfInBounds_toArray, List.set_cons_zero, List.set_cons_succ]
        refine held_take 10 57 (.int .i64 (k : Int)) rfl rfl (by kernel_rfl) (by kernel_rfl) (by kernel_rfl) (fun _ _ _ h => h) (by kernel_rfl) (fun _ _ => rfl) hS ?_
        simp only [Act.put, List.setIfInBounds_toArray, List.set_cons_zero, List.set_cons_succ]
        refine held_take 11 58 (.pointer (some ⟨b3, off3 + k * 2, none⟩)) rfl rfl (by kernel_rfl) (by kernel_rfl) (by kernel_rfl) (fun _ _ _ h => h) (by kernel_rfl) (fun _ _ => exec_idx67 (i := k) rfl rfl rfl rfl hlt3) hS ?_
        simp only [Act.put, List.setIfInBounds_toArray, List.set_cons_zero, List.set_cons_succ]
        refine held_take 12 59 (.pointer (some ⟨b3, off3 + k * 2 + 1, none⟩)) rfl rfl (by kernel_rfl) (by kernel_rfl) (by kernel_rfl) (fun _ _ _ h => h) (by kernel_rfl) (fun _ _ => (by kernel_rfl)) hS ?_
        simp only [Act.put, List.setIfInBounds_toArray, List.set_cons_zero, List.set_cons_succ]
        refine held_take 13 60 (.int .u32 (y.t : Int)) rfl rfl (by kernel_rfl) (by kernel_rfl) (by kernel_rfl) (fun _ _ _ h => h) (by kernel_rfl) (fun _ h => exec_cell rfl rfl (load_cell (by kernel_rfl) (lo_cells (h.1.rng HY.out)).2)) hS ?_
        simp only [Act.put, List.setIfInBounds_toArray, List.set_cons_zero, List.set_cons_succ]
        refine held_take 14 61 (.int .u64 (y.t : Int)) rfl rfl (by kernel_rfl) (by kernel_rfl) (by kernel_rfl) (fun _ _ _ h => h) (by kernel_rfl) (fun _ _ => exec_cvt rfl rfl b3b) hS ?_
        simp only [Act.put, List.setIfInBounds_toArray, List.set_cons_zero, List.set_cons_succ]
        have H3 := Lib.hid (H2.out.below (drew_below _))
        have HC := Lib.hid (H3.out.nums 2 [y.g, y.t] #[.int .u64 (y.g : Int), .int .u64 (y.t : Int)] rfl rfl (by intro z hz; simp at hz; omega) (by omega) (by rw [List.length_append]; have := HL10.out; simp at this; omega))
        refine held_exec 15 62 _ rfl rfl (by kernel_rfl) (by kernel_rfl) (exec_bsN2 rfl rfl rfl) ⟨hS.1.below (below_one _ _), hS.2.1.below (below_one _ _), hS.2.2.trans ((below_one _ _).mono hS.2.2.size)⟩ ?_
        simp only [Act.put, List.setIfInBounds_toArray, List.set_cons_zero, List.set_cons_succ]
        refine held_callP 16 63 42 _ rfl (by kernel_rfl) rfl (by kernel_rfl) (by kernel_rfl) HC.out (fun e v2 hP => ?_)
        obtain ⟨ay, ly, cy, rfl, h4⟩ := hP
        refine ⟨_, rfl, ⟨HPV.out.ls.below h4.old, h4.box, h4.old⟩, fun hS => ?_⟩
        have H5 := Lib.hid h4
        clear h4
        simp only [Act.put, List.setIfInBounds_toArray, List.set_cons_zero, List.set_cons_succ]
        refine held_take 17 4 (.slice ay ly cy) rfl rfl (by kernel_rfl) (by kernel_rfl) (by kernel_rfl) (fun _ _ _ h => h) (by kernel_rfl) (fun _ _ => rfl) hS ?_
        simp only [Act.put, List.setIfInBounds_toArray, List.set_cons_zero, List.set_cons_succ]
        refine wpAnyH_done (by kernel_rfl) ?_ _
        have HE := Lib.hid (Pg.upto_leaf2 HLF.out HKX.out HKY.out)
        have HLEN := Lib.hid (P.upto_bytes HP8.out (show k + 1 ≤ 8 by omega))
        clear hS H3 HC H2 HL2 k0
        go_wp2_with fail
        go_roundw
        case rel => exact ⟨k + 1, _, _, _, _, by omega, rfl, by go_num, Lib.hid (by rw [HE.out, HBS.out]), by rw [← HBS.out, ← HE.out]; exact HLEN.out, H5⟩
        case measure => simp [intOf]; omega
      · obtain rfl : k = n1 := by omega
        have HF : Hid (bs = P.fields) := Lib.hid (by rw [← HBS.out, ← HN1.out]; rfl)
        have hsm : ∀ c ∈ bs, c < 256 := by rw [HF.out]; exact P.fields_small
        have HRW := Lib.hid (HX0.out.own.row hsm)
        have HOC := Lib.hid HX0.out.own
        have hlen5 : ln ≤ 4096 := by have := HX0.out.own.len; omega
        clear hsm
        go_wp2_with fail
        refine (rwrap_any ad ln cp bs wr HRW.out HOC.out.cap.2.2 hlen5).mono ?_
        rintro e w6 ⟨a6, cap6, rfl, ho6, hb6⟩
        have HO6 := Lib.hid (ho6.mono HX0.out.old.size)
        have HB6 := Lib.hid (HX0.out.old.trans (hb6.mono HX0.out.old.size))
        clear ho6 hb6
        go_wp2_with fail
        go_ret
        have hB : P.bytes = Frm.fr bs := by rw [HF.out]; rfl
        unfold BytesP
        rw [hB]
        exact ⟨a6, cap6, rfl, HO6.out, HB6.out⟩


end Go.Proofs.YtcgbkfnjohbglaaDoor
