/- Walk of the laws' own 'written': a segment's bytes, its operations, and where each of them ends. -/
import Derived.Test.YtfnaccmgmocolaaDoorAl
import Derived.Test.YtfnaccmgmocolaaDoorLw
namespace Go.Proofs.YtfnaccmgmocolaaDoor
open Go.RowKit

namespace Seg
/-- Where each record of a row ends. -/
def stops : Nat → List O → List Nat
  | _, [] => []
  | b, o :: l => (b + (Frm.fr (recB o)).length) :: stops (b + (Frm.fr (recB o)).length) l
theorem stops_len : ∀ (b : Nat) (l : List O), (stops b l).length = l.length
  | _, [] => rfl
  | b, o :: l => by rw [stops, List.length_cons, stops_len, List.length_cons]
theorem stops_snoc : ∀ (b : Nat) (l : List O) (o : O), stops b (l ++ [o]) = stops b l ++ [b + (recs l).length + (Frm.fr (recB o)).length]
  | _, [], _ => by simp [stops, recs, Frm.frs]
  | b, p :: l, o => by rw [List.cons_append, stops, stops, stops_snoc, recs_cons, List.length_append, List.cons_append]; simp [Nat.add_assoc]
/-- The operations that may be, of the first k. -/
def goods (l : List O) (k : Nat) : List O := (l.take k).filter fun o => o.rightB 16
theorem goods_right (l : List O) (k : Nat) : ∀ o ∈ goods l k, o.rightB 16 = true := fun _ ho => (List.mem_filter.1 ho).2
theorem goods_len (l : List O) (k : Nat) : (goods l k).length ≤ k := by
  have h1 := List.length_filter_le (fun o : O => o.rightB 16) (l.take k)
  have h2 : (l.take k).length ≤ k := by rw [List.length_take]; omega
  unfold goods
  omega
theorem goods_zero (l : List O) : goods l 0 = [] := rfl
theorem goods_yes {l : List O} {k : Nat} {x : O} (hx : l[k]? = some x) (hr : x.rightB 16 = true) : goods l (k + 1) = goods l k ++ [x] := by
  unfold goods
  rw [List.take_add_one, hx, List.filter_append]
  simp [hr]
theorem goods_no {l : List O} {k : Nat} {x : O} (hx : l[k]? = some x) (hr : x.rightB 16 = false) : goods l (k + 1) = goods l k := by
  unfold goods
  rw [List.take_add_one, hx, List.filter_append]
  simp [hr]
theorem goods_all {l : List O} {k : Nat} (hk : l.length ≤ k) : goods l k = goods l l.length := by
  unfold goods
  rw [List.take_of_length_le hk, List.take_length]
theorem recs_len (l : List O) : (recs l).length ≤ 440 * l.length := by
  induction l with
  | nil => simp [recs, Frm.frs]
  | cons o l ih =>
    have := fr_rec_le o
    rw [recs_cons, List.length_append, List.length_cons]
    omega
theorem recs_lt (l : List O) : ∀ c ∈ recs l, c < 256 := Frm.frs_small (fun x hx => by
  obtain ⟨o, _, rfl⟩ := List.mem_map.1 hx
  exact rec_lt o)
theorem headrecs_lt (id : Nat) (l : List O) : ∀ c ∈ headB id ++ recs l, c < 256 := fun c hc => by
  rcases List.mem_append.1 hc with h | h
  · exact Frm.fr_lt (pair_lt 1 id) c h
  · exact recs_lt l c h
end Seg

theorem results_tmp4 {fn : Func} {t u v x : Tmp} (h : fn.results = #[.tmp t, .tmp u, .tmp v, .tmp x]) (tmps : Array Value) (P : Program) (w : World) :
    (results fn tmps).run P w = .ok (.tuple #[tmps.getD t undef, tmps.getD u undef, tmps.getD v undef, tmps.getD x undef]) w := by
  simp [results, h]

/-- What was written. -/
structure Wn (w W : World) (id : Nat) (g : List O) (n : Nat) (ba : Option Addr) (nb bc : Nat) (ga : Option Addr) (gc : Nat) (ea : Option Addr) (ec : Nat) : Prop where
  b : Own W w.heap.size ba nb bc (Seg.headB id ++ Seg.recs g)
  o : OwnG W 29 23 w.heap.size ga n gc (cellsO g)
  e : OwnG W 3 1 w.heap.size ea n ec (cellsN (Seg.stops (Seg.headB id).length g))
  old : Below w.heap.size w W
theorem Wn.below {w W W' : World} {id n : Nat} {g : List O} {ba ga ea : Option Addr} {nb bc gc ec : Nat} (h : Wn w W id g n ba nb bc ga gc ea ec) (hb : Below W.heap.size W W') : Wn w W' id g n ba nb bc ga gc ea ec :=
  ⟨h.b.below hb, h.o.below hb, h.e.below hb, h.old.trans (hb.mono h.old.size)⟩
theorem Wn.len {w W : World} {id n : Nat} {g : List O} {ba ga ea : Option Addr} {nb bc gc ec : Nat} (h : Wn w W id g n ba nb bc ga gc ea ec) : g.length = n ∧ (Seg.headB id ++ Seg.recs g).length = nb := by
  have h1 := h.o.len
  have h2 := h.b.len
  simp only [cellsO, List.length_map] at h1
  exact ⟨h1, h2⟩
/-- One record more, step by step. -/
structure Wm (w W : World) (id : Nat) (g : List O) (n : Nat) (x : O) (ba : Option Addr) (nb bc : Nat) (ga : Option Addr) (m gc : Nat) (gs : List O) (ea : Option Addr) (ec : Nat) : Prop where
  b : Own W w.heap.size ba nb bc (Seg.headB id ++ Seg.recs (g ++ [x]))
  o : OwnG W 29 23 w.heap.size ga m gc (cellsO gs)
  e : OwnG W 3 1 w.heap.size ea n ec (cellsN (Seg.stops (Seg.headB id).length g))
  old : Below w.heap.size w W
theorem Wn.push1 {w W W1 : World} {id n : Nat} {g : List O} {x : O} {ba ga ea ba' : Option Addr} {nb bc gc ec m bc' : Nat} (h : Wn w W id g n ba nb bc ga gc ea ec)
    (ho : Own W1 w.heap.size ba' (nb + m) bc' ((Seg.headB id ++ Seg.recs g) ++ Frm.fr (Seg.recB x))) (hk : Kept (At ba) W W1) : Wm w W1 id g n x ba' (nb + m) bc' ga n gc g ea ec := by
  refine ⟨?_, h.o.keep hk (fun ad ha e => kinds_apart h.b h.o.row (by decide) _ e ⟨ad, ha, rfl⟩), h.e.keep hk (fun ad ha e => kinds_apart h.b h.e.row (by decide) _ e ⟨ad, ha, rfl⟩), h.old.trans (hk.below h.old.size (fun i ⟨ad, e1, e2⟩ => by rw [e2]; exact (h.b.lt ad e1).1))⟩
  rw [Seg.recs_snoc, ← List.append_assoc]
  exact ho
theorem Wm.below {w W W1 : World} {id n : Nat} {g gs : List O} {x : O} {ba ga ea : Option Addr} {nb bc gc ec m : Nat} (h : Wm w W id g n x ba nb bc ga m gc gs ea ec) (hb : Below W.heap.size W W1) : Wm w W1 id g n x ba nb bc ga m gc gs ea ec :=
  ⟨h.b.below hb, h.o.below hb, h.e.below hb, h.old.trans (hb.mono h.old.size)⟩
theorem Wm.push2 {w W W1 : World} {id n : Nat} {g : List O} {x : O} {ba ga ea ga' : Option Addr} {nb bc gc ec gc' : Nat} (h : Wm w W id g n x ba nb bc ga n gc g ea ec)
    (ho : OwnG W1 29 23 w.heap.size ga' (n + 1) gc' (cellsO g ++ [x.arr.toList])) (hk : Kept (At ga) W W1) : Wm w W1 id g n x ba nb bc ga' (n + 1) gc' (g ++ [x]) ea ec := by
  refine ⟨h.b.keep hk (fun ad ha e => kinds_apart h.o.row h.b (by decide) _ e ⟨ad, ha, rfl⟩), ?_, h.e.keep hk (fun ad ha e => kinds_apart h.o.row h.e.row (by decide) _ e ⟨ad, ha, rfl⟩), h.old.trans (hk.below h.old.size (fun i ⟨ad, e1, e2⟩ => by rw [e2]; exact (h.o.lt ad e1).1))⟩
  rw [cellsO_snoc]
  have e : x.arr.toList = x.cs := by simp
  rw [e] at ho
  exact ho
theorem Wm.push3 {w W W1 : World} {id n : Nat} {g : List O} {x : O} {ba ga ea ea' : Option Addr} {nb bc gc ec ec' : Nat} (h : Wm w W id g n x ba nb bc ga (n + 1) gc (g ++ [x]) ea ec)
    (ho : OwnG W1 3 1 w.heap.size ea' (n + 1) ec' (cellsN (Seg.stops (Seg.headB id).length g) ++ [[Value.int .i64 (nb : Int)]])) (hk : Kept (At ea) W W1) : Wn w W1 id (g ++ [x]) (n + 1) ba nb bc ga gc ea' ec' := by
  refine ⟨h.b.keep hk (fun ad ha e => kinds_apart h.e.row h.b (by decide) _ e ⟨ad, ha, rfl⟩), h.o.keep hk (fun ad ha e => kinds_apart h.e.row h.o.row (by decide) _ e ⟨ad, ha, rfl⟩), ?_, h.old.trans (hk.below h.old.size (fun i ⟨ad, e1, e2⟩ => by rw [e2]; exact (h.e.lt ad e1).1))⟩
  have hl := h.b.len
  rw [Seg.stops_snoc, cellsN_snoc]
  have e : (Seg.headB id).length + (Seg.recs g).length + (Frm.fr (Seg.recB x)).length = nb := by
    rw [Seg.recs_snoc, List.length_append, List.length_append] at hl
    omega
  rw [e]
  exact ho

/-- What written answers. -/
def WrP (id : Nat) (l : List O) (w : World) (e : Ending) (w' : World) : Prop :=
  ∃ n ba nb bc ga gc ea ec, e = .returned (.tuple #[.slice ba nb bc, .slice ga n gc, .slice ea n ec, .bool true]) ∧ Wn w w' id (Seg.goods l 30) n ba nb bc ga gc ea ec

theorem goodsNum {w W : World} {id m : Nat} {l : List O} {ba ga ea : Option Addr} {nb bc gc ec k0 : Nat} (h : Wn w W id (Seg.goods l k0) m ba nb bc ga gc ea ec) (k : Nat) (hk : k0 = k) : m ≤ k ∧ nb = (Seg.headB id).length + (Seg.recs (Seg.goods l k)).length ∧ (Seg.recs (Seg.goods l k)).length ≤ 440 * k := by
  subst hk
  obtain ⟨h1, h2⟩ := h.len
  have h3 := Seg.goods_len l k0
  have h4 := Seg.recs_len (Seg.goods l k0)
  rw [List.length_append] at h2
  exact ⟨by omega, h2.symm, by omega⟩

set_option maxHeartbeats 4000000 in
set_option maxRecDepth 100000 in
theorem written_any (id : Nat) (a : Option Addr) (n cap : Nat) (l : List O) (w : World) (hT : Tab w) (hid : id < 4294967296) (hn : n ≤ 9223372036854775807) (hl : OL w a n l) :
    Calls Tryd.prog 20 #[.int .u32 (id : Int), .slice a n cap] w (WrP id l w) := by
  have HL := Lib.hid hl
  have HLEN := Lib.hid (OL.len' hl)
  have HT := Lib.hid hT
  clear hl hT
  go_enter Tryd.func20, Tryd.ntmps20
  go_wp2_with fail
  refine (head_any id w HT.out hid).mono ?_
  rintro e w1 ⟨ha, hc, rfl, hho, hhb⟩
  have HW1 : Hid (Wn w w1 id (Seg.goods l 0) 0 ha (Seg.headB id).length hc none 0 none 0) := Lib.hid ⟨by
    have e : Seg.headB id ++ Seg.recs (Seg.goods l 0) = Seg.headB id := by simp [Seg.goods, Seg.recs, Frm.frs]
    rw [e]; exact hho, ownG_nil _ _ _ _, ownG_nil _ _ _ _, hhb⟩
  clear hho hhb
  generalize (Seg.headB id).length = h0 at HW1
  go_wp2_with fail
  go_loopw [8, 9, 10, 11] (fun v8 v9 v10 v11 wr => ∃ (k m nb bc gc ec : Nat) (ba ga ea : Option Addr), k ≤ n ∧ k ≤ 30 ∧ v8 = .slice ba nb bc ∧ v9 = .slice ga m gc ∧ v10 = .slice ea m ec ∧ v11 = .int .i64 (k : Int) ∧ Hid (Wn w wr id (Seg.goods l k) m ba nb bc ga gc ea ec)) (fun _ _ _ i _ => n - (intOf i).toNat)
  case atStart => exact ⟨0, 0, h0, hc, 0, 0, ha, none, none, by omega, by omega, rfl, rfl, rfl, rfl, HW1⟩
  case round =>
    obtain ⟨k, m, nb, bc, gc, ec, ba, ga, ea, hk, hk30, rfl, rfl, rfl, rfl, HM⟩ := hrel
    by_cases hlt : k < n
    · by_cases hlt2 : k < 30
      · obtain ⟨b, off, x, rfl, hx, hr⟩ := OL.at (HL.out.below HM.out.old) hlt
        have HX := Lib.hid hx
        have HR := Lib.hid hr
        have OLAP : Hid (b < w.heap.size) := Lib.hid (by obtain ⟨b', off', x', e1, e2, e3⟩ := OL.at HL.out hlt; obtain ⟨rfl, rfl⟩ : b = b' ∧ off = off' := (by injection e1 with e1; injection e1 with h1 h2; exact ⟨h1, h2⟩); exact block_lt_of_cell (e3 0 _ (by rw [show x'.cs[0]? = some (Value.int .u8 (x'.r : Int)) from rfl])))
        have hhl := Seg.fr_pair_le (k := 1) (n := id) (by omega) (by omega)
        change (Seg.headB id).length ≤ 40 at hhl
        have HREC := Lib.hid (record_any x wr (HT.out.below HM.out.old))
        clear hx hr
        go_wp2_with (first | (refine wpList_run rfl (exec_idxO (i := k) rfl rfl rfl rfl hlt) ?_) | (refine wpList_run rfl (exec_ldO (p := x) rfl rfl HR.out) ?_))
        refine HREC.out.mono ?_
        rintro e w2 ⟨ra, rc, rfl, hro, hrb⟩
        have HM2 := Lib.hid (HM.out.below hrb)
        have HR2 : Hid (World.rangeAt w2 b (off + k * 23) x.cs) := Lib.hid (fun j u hu => below_at hrb (HR.out j u hu))
        have HRG := Lib.hid (fun W => rright_op x 16 W (by omega) (by omega))
        obtain ⟨hm1, hm2, hm3⟩ := goodsNum HM.out k rfl
        have hnb : nb ≤ 13300 := by omega
        clear hm2 hm3
        cases hxr : x.rightB 16
        · have HXR := Lib.hid hxr
          rw [hxr] at HRG
          have e1 : recE x = 2 := by unfold recE; rw [hxr]; rfl
          rw [e1]
          generalize (recF x).length = rl
          clear hro hrb hxr HREC e1
          go_wp2_with (first | (refine wpList_run rfl (exec_idxO (i := k) rfl rfl rfl rfl hlt) ?_) | (refine wpList_run rfl (exec_ldO (p := x) rfl rfl HR2.out) ?_))
          refine (HRG.out w2).mono ?_
          rintro e w3 ⟨rfl, hb3⟩
          have HM3 := Lib.hid (HM2.out.below hb3)
          clear hb3 HM2 HR2 HR HM
          go_wp2_with fail
          go_roundw
          case rel => exact ⟨k + 1, m, nb, bc, gc, ec, ba, ga, ea, by omega, by omega, rfl, rfl, rfl, by go_num, Lib.hid (by rw [Seg.goods_no HX.out HXR.out]; exact HM3.out)⟩
          case measure => simp [intOf]; omega
        · have HXR := Lib.hid hxr
          rw [hxr] at HRG
          have e1 : recE x = 0 := by unfold recE; rw [hxr]; rfl
          have e2 : recF x = Frm.fr (Seg.recB x) := by unfold recF; rw [hxr]; rfl
          rw [e2] at hro
          rw [e1, e2]
          have HRO := Lib.hid hro
          have HRS := Lib.hid (Frm.fr_lt (Seg.rec_lt x))
          have hfl := Seg.fr_rec_le x
          generalize hF : (Frm.fr (Seg.recB x)).length = F at hfl HRO
          clear hro hrb hxr HREC e1 e2
          go_wp2_with (first | (refine wpList_run rfl (exec_idxO (i := k) rfl rfl rfl rfl hlt) ?_) | (refine wpList_run rfl (exec_ldO (p := x) rfl rfl HR2.out) ?_))
          refine (HRG.out w2).mono ?_
          rintro e w3 ⟨rfl, hb3⟩
          have HM3 := Lib.hid (HM2.out.below hb3)
          have HR3 : Hid (World.rangeAt w3 b (off + k * 23) x.cs) := Lib.hid (fun j u hu => below_at hb3 (HR2.out j u hu))
          have HRW := Lib.hid ((HRO.out.row HRS.out).below hb3)
          have HRZ := Lib.hid HRO.out.cap.2.2
          clear hb3 HM2 HR2 HRO
          go_wp2_with (first
            | (at_builtin; refine wpList_append_own_row w3 rfl _ _ rfl w.heap.size ba nb bc _ rfl HM3.out.b ra F rc _ rfl HRW.out HRZ.out (by omega) HM3.out.old.size ?_
               intro ba' bc' w4 ho4 hk4 _
               have HP1 := Lib.hid (HM3.out.push1 ho4 hk4)
               have HR4 : Hid (World.rangeAt w4 b (off + k * 23) x.cs) := Lib.hid (fun j u hu => hk4.at_ (HR3.out j u hu) (fun ⟨ad, e1, e2⟩ => by have h1 := (HM3.out.b.lt ad e1).1; have h2 := OLAP.out; omega))
               generalize hnb' : nb + F = nb' at HP1 ⊢
               clear ho4 hk4)
            | (refine wpList_run rfl (exec_idxO (i := k) rfl rfl rfl rfl hlt) ?_)
            | (refine wpList_run rfl (exec_ldO (p := x) rfl rfl HR4.out) ?_)
            | (refine wpList_run rfl (exec_bsO (p := x) rfl rfl) ?_
               have HP1b := Lib.hid (HP1.out.below (below_one w4 (.cells x.arr 29)))
               have HGB := Lib.hid (Blk.new w4 29 x.arr)
               generalize w4.alloc (.cells x.arr 29) = w5 at HP1b HGB ⊢
               generalize w4.heap.size = g8 at HGB ⊢)
            | (at_builtin; refine wpList_appendG 41 29 23 84 info29b und41 (by rw [show (Value.agg O.zero.arr).cells = O.zero.arr from rfl]; exact O.zero.arr_size) (by decide) (by decide) rfl rfl rfl rfl HP1b.out.o HGB.out x.arr_size (by simpa using x.arr_one) (by omega) HP1b.out.old.size ?_
               intro ga' gc' w6 ho6 hk6 _
               have HP2 := Lib.hid (HP1b.out.push2 ho6 hk6)
               clear ho6 hk6)
            | (refine wpList_run rfl (exec_bsN (n := nb') rfl rfl) ?_
               have HP2b := Lib.hid (HP2.out.below (below_one w6 (.cells #[.int .i64 (nb' : Int)] 3)))
               have HGC := Lib.hid (Blk.new w6 3 #[.int .i64 (nb' : Int)])
               generalize w6.alloc (.cells #[.int .i64 (nb' : Int)] 3) = w7 at HP2b HGC ⊢
               generalize w6.heap.size = g9 at HGC ⊢)
            | (at_builtin; refine wpList_appendG 42 3 1 8 info3 und42n rfl (by decide) (by decide) rfl rfl rfl rfl HP2b.out.e HGC.out rfl (by intro v hv; simp only [List.mem_cons, List.not_mem_nil, or_false] at hv; subst hv; rfl) (by omega) HP2b.out.old.size ?_
               intro ea' ec' w8 ho8 hk8 _
               have HP3 := Lib.hid (HP2b.out.push3 ho8 hk8)
               clear ho8 hk8))
          go_roundw
          case rel => exact ⟨k + 1, m + 1, nb', bc', gc', ec', ba', ga', ea', by omega, by omega, rfl, rfl, rfl, by go_num, Lib.hid (by rw [Seg.goods_yes HX.out HXR.out]; exact HP3.out)⟩
          case measure => simp [intOf]; omega
      · obtain rfl : k = 30 := by omega
        go_wp2_with fail
        exact bodyPost_ret (results_tmp4 rfl _ _ _) rfl ⟨m, ba, nb, bc, ga, gc, ea, ec, rfl, HM.out⟩
    · obtain rfl : k = n := by omega
      have HALL := Lib.hid (Seg.goods_all (l := l) (k := 30) (by rw [HLEN.out]; omega))
      go_wp2_with fail
      exact bodyPost_ret (results_tmp4 rfl _ _ _) rfl ⟨m, ba, nb, bc, ga, gc, ea, ec, rfl, by rw [HALL.out, HLEN.out]; exact HM.out⟩

end Go.Proofs.YtfnaccmgmocolaaDoor
