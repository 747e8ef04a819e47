import Derived.Test.YtnekpgmgnepdoaaGreatXad
section
namespace Go.Proofs.YtnekpgmgnepdoaaGreat
open Go.RowKit
theorem exec_eqlB {ev : Operand → Value} {o : Oper} {x y : Operand} {u t : TypeId} {a b r : Bool} {w : World} (hu : Tryz.prog.underlying u = some .bool) (ho : o.op = .binOp .eql u x y t) (hx : ev x = .bool a) (hy : ev y = .bool b) (hr : (a == b) = r) : (execOp ev o).run Tryz.prog w = .ok (.value (.bool r)) w := by
 subst hr
 unfold execOp
 simp [ho, hx, hy, eqGuard, binOp, run_equal_bool w u a b hu]
end Go.Proofs.YtnekpgmgnepdoaaGreat
end
section
namespace Go.Proofs.YtnekpgmgnepdoaaGreat
open Go.RowKit
theorem with_set {A : Ac} {x : En} (h : ¬ x.k = 1) (hl : En.lessB A.o x = true) : (A.with x).n = A.n ∧ (A.with x).o = x := by
 unfold Ac.with; rw [if_neg h, if_pos hl]; exact ⟨rfl, rfl⟩
theorem less_zero {x : En} (h : 1 ≤ x.n) : En.lessB En.zero x = true := by
 unfold En.lessB; exact decide_eq_true (.inl (by show 0 < x.n; omega))
end Go.Proofs.YtnekpgmgnepdoaaGreat
end
section
namespace Go.Proofs.YtnekpgmgnepdoaaGreat
open Go.RowKit
theorem und4b : Tryz.prog.underlying 4 = some .bool := by kernel_rfl
end Go.Proofs.YtnekpgmgnepdoaaGreat
end
section
namespace Go.Proofs.YtnekpgmgnepdoaaGreat
open Go.RowKit
def setOp (v : V) (c it qy : Nat) (hc : c < 65536) (hi : it < 65536) (hq : qy < 65536) (hs : v.at_ 2 + 1 < 4294967296) : O := ⟨2, v.at_ 2 + 1, 2, c, it, qy, 0, v, by omega, hs, by omega, hc, hi, hq, by omega⟩
theorem set_ready {s : Sta} (h : s.Right) {c it qy : Nat} (hc : c < 65536) (hi : it < 65536) (hq : qy < 65536) (hs : s.v.at_ 2 + 1 < 4294967296) (h1 : s.v.at_ 2 < 1048576) : O.readyE s.v (setOp s.v c it qy hc hi hq hs) = 0 := by
 rw [ready_iff]
 refine ⟨(O.right_iff _ _).2 ⟨?_, rfl, ?_, h.vec, ?_, ?_⟩, ?_, (V.belowB_iff _ _).2 fun i _ => Nat.le_refl _⟩
 ·show V.dotB 2 (s.v.at_ 2 + 1) = true
  unfold V.dotB
  rw [decide_eq_true_eq]
  omega
 ·show ((2 : Nat) : Int) < 16; decide
 ·show 0 ≤ 1073741824; decide
 ·show O.kindB (setOp s.v c it qy hc hi hq hs) = true
  unfold O.kindB
  rw [decide_eq_true_eq]
  exact .inr (.inl rfl)
 ·rw [← Bool.not_eq_true, hasB_iff]
  show ¬ (2 < 16 ∧ 1 ≤ s.v.at_ 2 + 1 ∧ s.v.at_ 2 + 1 ≤ 1048576 ∧ s.v.at_ 2 + 1 ≤ s.v.at_ 2)
  omega
theorem foldl_put {β : Type} {f : β → En → β} {x : En} (h : ∀ a, f a x = a) : ∀ {l : List En} {a : β}, (putE x l).foldl f a = l.foldl f a
 | [], a => by simp [putE, h]
 | y :: l, a => by
  unfold putE
  split
  ·rw [List.foldl_cons, h]
  ·rw [List.foldl_cons, List.foldl_cons, foldl_put h]
theorem foldl_put_one {β : Type} {f : β → En → β} {x : En} : ∀ {l : List En} {a : β}, (∀ y ∈ l, ∀ a, f a y = a) → (putE x l).foldl f a = f a x
 | [], a, _ => by simp [putE]
 | y :: l, a, h => by
  have hl : ∀ {l : List En} {a : β}, (∀ y ∈ l, ∀ a, f a y = a) → l.foldl f a = a := fun {l} => by
   induction l with
   | nil => intro a _; rfl
   | cons z l ih => intro a hz; rw [List.foldl_cons, hz z (by simp), ih fun y hy => hz y (List.mem_cons_of_mem _ hy)]
  unfold putE
  split
  ·rw [List.foldl_cons, List.foldl_cons, h y (by simp), hl fun z hz => h z (List.mem_cons_of_mem _ hz)]
  ·rw [List.foldl_cons, h y (by simp), foldl_put_one fun z hz => h z (List.mem_cons_of_mem _ hz)]
section
variable {s : Sta} (h : s.Right) {c it qy : Nat} (hc : c < 65536) (hi : it < 65536) (hq : qy < 65536) (hs : s.v.at_ 2 + 1 < 4294967296)
include h
theorem set_es : (applyS s (setOp s.v c it qy hc hi hq hs)).es = putE (En.made (setOp s.v c it qy hc hi hq hs)) (s.es.filter fun e => !decide (e.c = c ∧ e.k ≠ 4 ∧ it = e.i)) := by
 have e0 : (applyS s (setOp s.v c it qy hc hi hq hs)).es = applyE s.es (setOp s.v c it qy hc hi hq hs) := rfl
 rw [e0]
 unfold applyE
 rw [if_pos (by unfold O.laysB; rw [decide_eq_true_eq]; exact .inr (.inl rfl))]
 unfold leftE
 congr 1
 refine List.filter_congr fun e he => ?_
 obtain ⟨_, h2, h3, _⟩ := h.has e he
 congr 1
 unfold O.endsB
 rw [decide_eq_decide]
 unfold En.shapedB at h3
 rw [decide_eq_true_eq] at h3
 have hl : e.maker.laysB = true := by
  unfold O.laysB
  rw [decide_eq_true_eq]
  show e.k = 1 ∨ e.k = 2 ∨ e.k = 4
  omega
 constructor
 ·rintro ⟨_, h5, _, h6⟩
  rcases h6 with h6 | ⟨_, h7, h8⟩
  ·exact absurd (show (2 : Nat) = 5 from h6) (by decide)
  ·exact ⟨(show c = e.c from h5).symm, h7, h8⟩
 ·rintro ⟨h5, h6, h7⟩
  exact ⟨hl, show c = e.c from h5.symm, h2, .inr ⟨.inr rfl, h6, h7⟩⟩
theorem set_cam {i : Nat} (hne : ¬ i = it) : camTo c (applyS s (setOp s.v c it qy hc hi hq hs)).es (applyS s (setOp s.v c it qy hc hi hq hs)).es.length i = camTo c s.es s.es.length i := by
 rw [cam_all, cam_all, set_es h]
 rw [foldl_put fun a => if_neg fun hh => hne (show it = i from hh.2.2).symm]
 exact foldl_filter fun e _ hp a => if_neg fun hh => by
  have hp2 : e.c = c ∧ e.k ≠ 4 ∧ it = e.i := by simpa using hp
  exact hne (hh.2.2.symm.trans hp2.2.2.symm)
theorem set_it : camTo c (applyS s (setOp s.v c it qy hc hi hq hs)).es (applyS s (setOp s.v c it qy hc hi hq hs)).es.length it = some (Ac.zero.with (En.made (setOp s.v c it qy hc hi hq hs))) := by
 rw [cam_all, set_es h, foldl_put_one]
 ·exact if_pos ⟨rfl, by show (2 : Nat) ≠ 4; decide, rfl⟩
 ·intro y hy a
  refine if_neg fun hh => ?_
  have := (List.mem_filter.1 hy).2
  simp only [Bool.not_eq_true', decide_eq_false_iff_not] at this
  exact this ⟨hh.1, hh.2.1, hh.2.2.symm⟩
theorem set_qty : cqtyAt c (applyS s (setOp s.v c it qy hc hi hq hs)).es it = qy := by
 unfold cqtyAt
 rw [set_it h]
 have hw := with_set (A := Ac.zero) (x := En.made (setOp s.v c it qy hc hi hq hs)) (by show ¬ (2 : Nat) = 1; decide) (less_zero (by show 1 ≤ O.count _; unfold O.count; omega))
 show ((Ac.zero.with _).n + (Ac.zero.with _).o.q) % 4294967296 = qy
 rw [hw.1, hw.2]
 show (0 + qy) % 4294967296 = qy
 omega
theorem set_out : coutTo c (applyS s (setOp s.v c it qy hc hi hq hs)).es (applyS s (setOp s.v c it qy hc hi hq hs)).es.length = coutTo c s.es s.es.length := by
 rw [cout_all, cout_all, set_es h, Bool.eq_iff_iff, List.any_eq_true, List.any_eq_true]
 constructor
 ·rintro ⟨e, he, hh⟩
  rw [decide_eq_true_eq] at hh
  rcases mem_putE.1 he with rfl | he
  ·exact absurd (show (2 : Nat) = 4 from hh.2) (by decide)
  ·exact ⟨e, (List.mem_filter.1 he).1, decide_eq_true hh⟩
 ·rintro ⟨e, he, hh⟩
  rw [decide_eq_true_eq] at hh
  exact ⟨e, mem_putE.2 (.inr (List.mem_filter.2 ⟨he, by simp [hh.2]⟩)), decide_eq_true hh⟩
end
def oth (it : Nat) (l : List (Nat × Nat)) : List (Nat × Nat) := l.filter fun x => !decide (x.1 = it)
theorem set_seen {s : Sta} (h : s.Right) {c it qy : Nat} (hc : c < 65536) (hi : it < 65536) (hq : qy < 65536) (hs : s.v.at_ 2 + 1 < 4294967296) (ht : (applyS s (setOp s.v c it qy hc hi hq hs)).Right) {ls lt : List (Nat × Nat)} {o o' : Bool} {k k' : Nat} (h1 : Seen s c ls o k) (h2 : Seen (applyS s (setOp s.v c it qy hc hi hq hs)) c lt o' k') : (∀ x ∈ lt, x.1 = it → x.2 = qy) ∧ oth it lt = oth it ls ∧ o' = o := by
 cases h1 with
 | no h1 => exact absurd h h1
 | yes _ is his => cases h2 with
  | no h2 => exact absurd ht h2
  | yes _ it2 hit =>
   refine ⟨fun x hx hxi => ?_, ?_, set_out h hc hi hq hs⟩
   ·obtain ⟨i, _, rfl⟩ := List.mem_map.1 hx
    obtain rfl : i = it := hxi
    exact set_qty h hc hi hq hs
   ·have e : it2.filter (fun i => !decide (i = it)) = is.filter (fun i => !decide (i = it)) := sorted_one (hit.up.sublist List.filter_sublist) (his.up.sublist List.filter_sublist) fun i => by
     rw [List.mem_filter, List.mem_filter, hit.mem, his.mem]
     constructor
     ·rintro ⟨⟨h3, h4⟩, h5⟩
      refine ⟨⟨h3, ?_⟩, h5⟩
      rw [set_cam h hc hi hq hs (by simpa using h5)] at h4
      exact h4
     ·rintro ⟨⟨h3, h4⟩, h5⟩
      refine ⟨⟨h3, ?_⟩, h5⟩
      rw [set_cam h hc hi hq hs (by simpa using h5)]
      exact h4
    unfold oth
    rw [List.filter_map, List.filter_map]
    show (it2.filter fun i => !decide (i = it)).map _ = (is.filter fun i => !decide (i = it)).map _
    rw [e]
    refine List.map_congr_left fun i hmi => ?_
    have hne : ¬ i = it := by simpa using (List.mem_filter.1 hmi).2
    unfold cqtyAt
    rw [set_cam h hc hi hq hs hne]
theorem GL.line {w : World} {a : Option Addr} {n j : Nat} {ls : List (Nat × Nat)} (h : GL w 2 a n (ls.map ln)) (hj : j < n) : ∃ b off x, a = some ⟨b, off, none⟩ ∧ ls[j]? = some x ∧ w.rangeAt b (off + j * 2) (ln x) := by
 have hl : ls.length = n := by have := h.len; simpa using this
 rcases h.cells with h0 | ⟨b, off, ha, hc⟩
 ·omega
 ·have hj' : j < ls.length := by omega
  exact ⟨b, off, ls[j], ha, List.getElem?_eq_getElem hj', hc j _ (by simp [hj'])⟩
theorem gl_tail {W : World} {g off n cap : Nat} {v : List Value} {vs : List (List Value)} (h : GL W 2 (some ⟨g, off, none⟩) n (v :: vs)) (hc : n ≤ cap) : ∃ a', (Instr.slice 53 (.slice (some ⟨g, off, none⟩) n cap) (some (.int .i64 1)) none none).run Tryz.prog W = .ok (.slice a' (n - 1) (cap - 1)) W ∧ GL W 2 a' (n - 1) vs := by
 have hn : 1 ≤ n := by have := h.len; simp at this; omega
 have he : Tryz.prog.elem 53 = 86 := by kernel_rfl
 have ht : Tryz.prog.underlying 53 = some (.slice (Tryz.prog.elem 53)) := by rw [he]; exact und53
 have hz : (Go.sizeOf 86).run Tryz.prog W = .ok 2 W := by
  obtain ⟨i0, hii, _, hz1, _⟩ := info_parts info86
  simp [Go.sizeOf, typeInfo, hii, hz1]
 have hr := run_slice_l (P := Tryz.prog) W 53 (some ⟨g, off, none⟩) n cap ht .i64 1 (by omega) (by omega)
 rw [he, hz] at hr
 have hlen : vs.length = n - 1 := by have := h.len; simp at this; omega
 have hcell : n - 1 = 0 ∨ ∃ b o, (some ⟨g, off + 2, none⟩ : Option Addr) = some ⟨b, o, none⟩ ∧ ∀ i v, vs[i]? = some v → W.rangeAt b (o + i * 2) v := by
  rcases h.cells with h0 | ⟨b, o, e, hh⟩
  ·omega
  ·cases e
   refine .inr ⟨g, off + 2, rfl, fun i u hu => ?_⟩
   have := hh (i + 1) u (by simpa using hu)
   rw [show off + (i + 1) * 2 = off + 2 + i * 2 by omega] at this
   exact this
 by_cases hkc : cap = 1
 ·refine ⟨some ⟨g, off, none⟩, ?_, hlen, .inl (by omega)⟩
  rw [hr]
  simp [Result.andThen, sliced, hkc]
 ·refine ⟨some ⟨g, off + 2, none⟩, ?_, hlen, hcell⟩
  rw [hr]
  simp [Result.andThen, sliced, Addr.add, hkc]
theorem Blk.rangeL {w : World} {g : Nat} {t : TypeId} {cs : Array Value} (h : Blk w g t cs) : w.rangeAt g 0 cs.toList := fun j u hu => by
 rw [h.cell, Nat.zero_add]
 simpa using hu
theorem ownG_cap {w : World} {e size B n cap : Nat} {a : Option Addr} {vs : List (List Value)} (h : OwnG w e size B a n cap vs) : n ≤ cap := by
 rcases h.row.2 with ⟨h1, h2⟩ | ⟨g, c, cur, h1, _, _, h2, _⟩
 ·omega
 ·cases h1; exact h2
theorem seen_some {s : Sta} (h : s.Right) (c : Nat) : ∃ ls o k, Seen s c ls o k := by
 refine ⟨_, _, _, .yes h ((List.range 65536).filter fun i => (camTo c s.es s.es.length i).isSome) ⟨?_, fun i => ?_⟩⟩
 ·exact List.pairwise_lt_range.sublist List.filter_sublist
 ·rw [List.mem_filter, List.mem_range]
theorem und84 : Tryz.prog.underlying 84 = some (.array 3 31) := by kernel_rfl
theorem build_S (v : V) (c it qy : Nat) (hc : c < 65536) (hi : it < 65536) (hq : qy < 65536) (hs : v.at_ 2 + 1 < 4294967296) (w : World) : (Instr.build 33 #[(0, dotV 2 (v.at_ 2 + 1)), (1, .int .u8 2), (2, .int .u16 (c : Int)), (3, .int .u16 (it : Int)), (4, .int .u16 (qy : Int)), (6, .agg v.arr)]).run Tryz.prog w = .ok (.agg (setOp v c it qy hc hi hq hs).arr) w := by
 refine run_build w 33 _ _ ?_
 unfold setOp
 generalize v.at_ 2 + 1 = q at hs
 obtain ⟨x0, x1, x2, x3, x4, x5, x6, x7, x8, x9, y0, y1, y2, y3, y4, y5, hv⟩ := sixteen v
 unfold O.arr O.cs O.hd V.arr V.cs
 simp only
 rw [hv]
 kernel_rfl
section
variable {ev : Operand → Value} {o : Oper} {w : World}
theorem exec_S {x0 x1 x2 x3 x4 x6 : Operand} {v : V} {c it qy : Nat} {hc : c < 65536} {hi : it < 65536} {hqy : qy < 65536} {hs : v.at_ 2 + 1 < 4294967296} {a : O} {q : Nat} (ha : setOp v c it qy hc hi hqy hs = a) (hq : v.at_ 2 + 1 = q) (ho : o.op = .build 33 #[(0, x0), (1, x1), (2, x2), (3, x3), (4, x4), (6, x6)]) (h0 : ev x0 = dotV 2 q) (h1 : ev x1 = .int .u8 2) (h2 : ev x2 = .int .u16 (c : Int)) (h3 : ev x3 = .int .u16 (it : Int)) (h4 : ev x4 = .int .u16 (qy : Int)) (h6 : ev x6 = .agg v.arr) : (execOp ev o).run Tryz.prog w = .ok (.value (.agg a.arr)) w := by
 subst ha hq
 have hm : (#[((0 : Nat), x0), (1, x1), (2, x2), (3, x3), (4, x4), (6, x6)]).map (fun (i, x) => (i, ev x)) = #[(0, dotV 2 (v.at_ 2 + 1)), (1, .int .u8 2), (2, .int .u16 (c : Int)), (3, .int .u16 (it : Int)), (4, .int .u16 (qy : Int)), (6, .agg v.arr)] := by simp [h0, h1, h2, h3, h4, h6]
 unfold execOp
 simp only [ho, hm, Sem.run_bind, build_S v c it qy hc hi hqy hs w, Result.andThen_ok]
 rfl
theorem exec_idx84 {x y : Operand} {b k : Nat} (ho : o.op = .indexAddr 84 x y) (hx : ev x = .pointer (some ⟨b, 0, none⟩)) (hy : ev y = .int .i64 (k : Int)) (hk : k < 3) : (execOp ev o).run Tryz.prog w = .ok (.value (.pointer (some ⟨b, k, none⟩))) w := by
 unfold execOp
 have h2 : (k : Int) < 3 := by omega
 have h0 : (0 : Int) ≤ (k : Int) := by omega
 have hu := und84
 have hz : (Go.sizeOf 31).run Tryz.prog w = .ok 1 w := by kernel_rfl
 simp only [ho, hx, hy]
 go_simp
theorem exec_fldOut {x : Operand} {c n cap t : Nat} {a : Option Addr} {b : Bool} (ho : o.op = .field 55 x 2) (hx : ev x = .agg (vw c a n cap b t)) : (execOp ev o).run Tryz.prog w = .ok (.value (.bool b)) w := by
 have hf : (Instr.field 55 (.agg (vw c a n cap b t)) 2).run Tryz.prog w = .ok (.bool b) w := by unfold vw; kernel_rfl
 unfold execOp
 simp only [ho, hx, Sem.run_bind, hf, Result.andThen_ok]
 rfl
theorem exec_fldLines {x : Operand} {c n cap t : Nat} {a : Option Addr} {b : Bool} (ho : o.op = .field 55 x 1) (hx : ev x = .agg (vw c a n cap b t)) : (execOp ev o).run Tryz.prog w = .ok (.value (.slice a n cap)) w := by
 have hf : (Instr.field 55 (.agg (vw c a n cap b t)) 1).run Tryz.prog w = .ok (.slice a n cap) w := by unfold vw; kernel_rfl
 unfold execOp
 simp only [ho, hx, Sem.run_bind, hf, Result.andThen_ok]
 rfl
end
theorem oth_eq {it : Nat} {l : List (Nat × Nat)} {k : Nat} {x : Nat × Nat} (hx : l[k]? = some x) (h : x.1 = it) : oth it (l.take (k + 1)) = oth it (l.take k) := by
 unfold oth; rw [List.take_add_one, hx, List.filter_append]; simp [h]
theorem oth_ne {it : Nat} {l : List (Nat × Nat)} {k : Nat} {x : Nat × Nat} (hx : l[k]? = some x) (h : ¬ x.1 = it) : oth it (l.take (k + 1)) = oth it (l.take k) ++ [x] := by
 unfold oth; rw [List.take_add_one, hx, List.filter_append]; simp [h]
theorem oth_split {it : Nat} {l : List (Nat × Nat)} {k : Nat} {x : Nat × Nat} (hx : l[k]? = some x) (h : ¬ x.1 = it) {ws : List (Nat × Nat)} (hw : oth it (l.take k) ++ ws = oth it l) : ∃ r, ws = x :: r := by
 have h1 := (List.getElem?_eq_some_iff.1 hx)
 have h2 : l.drop k = x :: l.drop (k + 1) := by rw [List.drop_eq_getElem_cons h1.1, h1.2]
 have e : oth it l = oth it (l.take k) ++ x :: oth it (l.drop (k + 1)) := by
  conv => lhs; rw [← List.take_append_drop k l, h2]
  unfold oth
  rw [List.filter_append, List.filter_cons_of_pos (by simp [h])]
 exact ⟨_, List.append_cancel_left (hw.trans e)⟩
structure SeW (w W : World) (s t : Sta) (p7 p9 : Nat) (a1 : Option Addr) (n1 c1 : Nat) (b1 : Option Addr) (m1 d1 : Nat) (a2 : Option Addr) (n2 c2 : Nat) (b2 : Option Addr) (m2 d2 : Nat) : Prop where
 k7 : Blk W p7 39 (sv s.v a1 n1 c1 b1 m1 d1)
 k9 : Blk W p9 39 (sv t.v a2 n2 c2 b2 m2 d2)
 l7 : SL W s a1 n1 b1 m1
 l9 : SL W t a2 n2 b2 m2
 old : Below w.heap.size w W
section
variable {w W W' : World} {s t : Sta} {p7 p9 : Nat} {a1 : Option Addr} {n1 c1 : Nat} {b1 : Option Addr} {m1 d1 : Nat} {a2 : Option Addr} {n2 c2 : Nat} {b2 : Option Addr} {m2 d2 : Nat}
theorem SeW.below (h : SeW w W s t p7 p9 a1 n1 c1 b1 m1 d1 a2 n2 c2 b2 m2 d2) (hb : Below W.heap.size W W') : SeW w W' s t p7 p9 a1 n1 c1 b1 m1 d1 a2 n2 c2 b2 m2 d2 := ⟨h.k7.below hb, h.k9.below hb, h.l7.below hb, h.l9.below hb, h.old.trans (hb.mono h.old.size)⟩
theorem SeW.drew (h : SeW w W s t p7 p9 a1 n1 c1 b1 m1 d1 a2 n2 c2 b2 m2 d2) : SeW w W.drew s t p7 p9 a1 n1 c1 b1 m1 d1 a2 n2 c2 b2 m2 d2 := ⟨h.k7, h.k9, h.l7.below (drew_below _), h.l9.below (drew_below _), h.old.drew⟩
end
set_option maxRecDepth 100000 in
set_option maxHeartbeats 64000000 in
theorem sets_walk {a : Option Addr} {n cap : Nat} {l : List O} {w : World} (halive : ∀ W, Calls Tryz.prog 12 #[] W (Says (.bool true) W)) (hl : OL w a n l) (hn : n < 9223372036854775808) (hcap : n ≤ cap) (c it qy : Nat) (hc16 : c < 65536) (hi16 : it < 65536) (hq16 : qy < 65536) : Calls Tryz.prog 10 #[.slice a n cap, .agg #[.int .u16 (c : Int), .int .u16 (it : Int), .int .u16 (qy : Int)]] w (Says (.bool true) w) := by
 have HL := Lib.hid hl
 have HLEN := Lib.hid hl.len'
 have HAL := Lib.hid halive
 obtain ⟨z, hz⟩ : ∃ z, V.zero = z := ⟨_, rfl⟩
 have HZ := Lib.hid hz
 have H0 := Lib.hid (Blk.new w 84 #[.int .u16 (c : Int), .int .u16 (it : Int), .int .u16 (qy : Int)])
 have HB0 := Lib.hid (below_one w (.cells #[.int .u16 (c : Int), .int .u16 (it : Int), .int .u16 (qy : Int)] 84))
 clear hl halive hz
 go_enter Tryz.func10, Tryz.ntmps10
 go_upto_region 1 with fail
 generalize w.alloc (.cells #[.int .u16 (c : Int), .int .u16 (it : Int), .int .u16 (qy : Int)] 84) = w0 at H0 HB0 ⊢
 generalize w.heap.size = p3 at H0 ⊢
 go_wp2_with fail
 refine (HAL.out _).mono ?_
 rintro e w1 ⟨rfl, hb⟩
 have H1 := Lib.hid (H0.out.below hb)
 have HB1 := Lib.hid (HB0.out.trans (hb.mono HB0.out.size))
 clear hb H0 HB0
 go_wp2_with fail
 refine (hist_any (HL.out.below HB1.out) hn hcap).mono ?_
 rintro e w2 ⟨hi, rfl, hhi, hb⟩
 have H2a := Lib.hid (H1.out.below hb)
 have H2 := Lib.hid (HB1.out.trans (hb.mono HB1.out.size))
 clear hb H1 HB1
 cases hi
 ·clear hhi
  go_wp2_with fail
  go_ret
  exact ⟨rfl, H2.out⟩
 have HH := Lib.hid (hhi.1 rfl)
 clear hhi hn
 have hn : n ≤ 40 := by have := HH.out.few; have := HLEN.out; omega
 have hsp := spec_of HH.out.runs
 have HSP := Lib.hid hsp
 have HLE := Lib.hid hsp.len
 have HSR := Lib.hid hsp.right
 have HSUM := Lib.hid (sum_st HH.out.runs)
 have HALL := all_any (cap := cap) (HL.out.below H2.out) hn HH.out.runs
 unfold AllP at HALL
 generalize stOf Sta.zero l = s at HLE HSR HSUM HALL HSP
 clear hsp
 have HALL := Lib.hid HALL
 have h1s : s.v.at_ 2 ≤ 40 := by have := at_le_sum s.v (k := 16) (i := 2) (by omega); have h2 := HSUM.out; unfold V.sum at h2; have := HLEN.out; omega
 have hqs : s.v.at_ 2 + 1 < 4294967296 := by omega
 obtain ⟨t, ht⟩ : ∃ t, applyS s (setOp s.v c it qy hc16 hi16 hq16 hqs) = t := ⟨_, rfl⟩
 obtain ⟨op, hop⟩ : ∃ o, setOp s.v c it qy hc16 hi16 hq16 hqs = o := ⟨_, rfl⟩
 have hrdy := set_ready HSR.out hc16 hi16 hq16 hqs (by omega)
 have happ := appS_of HSR.out hrdy
 have HTS := HSP.out.step hrdy
 have HSEEN : Hid (∀ ls lt o o' k k', Seen s c ls o k → Seen t c lt o' k' → (∀ x ∈ lt, x.1 = it → x.2 = qy) ∧ oth it lt = oth it ls ∧ o' = o) := Lib.hid (fun ls lt o o' k k' h1 h2 => set_seen HSR.out hc16 hi16 hq16 hqs HTS.right h1 (by rw [ht]; exact h2))
 have HTL : Hid (t.es.length ≤ 41 ∧ t.ts.length ≤ 41) := Lib.hid (by
  have h := HTS.len
  rw [ht, List.length_append, List.length_singleton] at h
  have := HLEN.out
  omega)
 have HAPP : Hid (appE s op = 0 ∧ appS s op = t) := Lib.hid (by rw [← hop, ← ht]; exact happ)
 have HOP := Lib.hid hop
 obtain ⟨q1, hq1⟩ : ∃ q, s.v.at_ 2 = q := ⟨_, rfl⟩
 have HQ1 : Hid (s.v.at_ 2 = q1) := Lib.hid hq1
 have HQ2 : Hid (s.v.at_ 2 + 1 = q1 + 1) := Lib.hid (by rw [hq1])
 have hq40 : q1 ≤ 40 := by rw [← hq1]; exact h1s
 clear happ ht hop hq1 h1s HSP HTS hrdy
 go_wp2_with fail
 refine HALL.out.mono ?_
 rintro e w5 ⟨a1, n1, c1, b1, m1, d1, rfl, hsl, hb⟩
 have H6a := Lib.hid (H2a.out.below hb)
 have H6 := Lib.hid (H2.out.trans (hb.mono H2.out.size))
 have HS6 := Lib.hid hsl
 have hf1 : n1 ≤ 40 ∧ m1 ≤ 40 := by have h1 := hsl.es.len'; have h2 := hsl.ts.len'; have h3 := HLE.out; have := HLEN.out; omega
 clear hb hsl H2 H2a HALL
 go_wp2_with (first | (refine wpList_run rfl (exec_alloc39z HZ.out rfl) ?_) | (refine wpList_stop39 rfl ?_))
 refine ⟨?_⟩
 refine wpList_void rfl rfl (exec_store39 rfl rfl rfl (Blk.new w5 39 _)) ?_
 have hbo := bo_laid w5 39 (sv z none 0 0 none 0 0) (sv s.v a1 n1 c1 b1 m1 d1)
 have H7a := Lib.hid (H6a.out.below hbo.old)
 have H7 := Lib.hid (H6.out.trans (hbo.old.mono H6.out.size))
 have HS7 := Lib.hid (HS6.out.below hbo.old)
 have HK7 := Lib.hid hbo.one
 clear hbo H6 HS6 H6a
 generalize (w5.alloc (.cells (sv z none 0 0 none 0 0) 39)).setRow w5.heap.size (sv s.v a1 n1 c1 b1 m1 d1) = w7 at H7 HS7 HK7 H7a ⊢
 generalize w5.heap.size = p7 at HK7 ⊢
 go_wp2_with fail
 refine wp_region_held_drew (S := fun W => W.cell? ⟨p3, 0, none⟩ = some (.int .u16 (c : Int)) ∧ W.cell? ⟨p3, 1, none⟩ = some (.int .u16 (it : Int)) ∧ W.cell? ⟨p3, 2, none⟩ = some (.int .u16 (qy : Int))) (by kernel_rfl) (by have h := H7a.out.below (drew_below w7); exact ⟨by rw [h.cell]; rfl, by rw [h.cell]; rfl, by rw [h.cell]; rfl⟩) (fun hS => ?_)
 refine held_tk 0 29 (.pointer (some ⟨p3, 0, none⟩)) rfl rfl (by kernel_rfl) (fun _ _ _ h => h) (fun _ _ => exec_idx84 (k := 0) rfl rfl rfl (by omega)) hS ?_
 simp only [Act.put, ap1, ap2, ap3]
 refine held_tk 1 30 (.int .u16 (c : Int)) rfl rfl (by kernel_rfl) (fun _ _ _ h => h) (fun _ h => exec_cell rfl rfl (load_cell (by kernel_rfl) h.1)) hS ?_
 simp only [Act.put, ap1, ap2, ap3]
 refine held_tk 2 31 (.pointer (some ⟨p3, 1, none⟩)) rfl rfl (by kernel_rfl) (fun _ _ _ h => h) (fun _ _ => exec_idx84 (k := 1) rfl rfl rfl (by omega)) hS ?_
 simp only [Act.put, ap1, ap2, ap3]
 refine held_tk 3 32 (.int .u16 (it : Int)) rfl rfl (by kernel_rfl) (fun _ _ _ h => h) (fun _ h => exec_cell rfl rfl (load_cell (by kernel_rfl) h.2.1)) hS ?_
 simp only [Act.put, ap1, ap2, ap3]
 refine held_tk 4 33 (.pointer (some ⟨p3, 2, none⟩)) rfl rfl (by kernel_rfl) (fun _ _ _ h => h) (fun _ _ => exec_idx84 (k := 2) rfl rfl rfl (by omega)) hS ?_
 simp only [Act.put, ap1, ap2, ap3]
 refine held_tk 5 34 (.int .u16 (qy : Int)) rfl rfl (by kernel_rfl) (fun _ _ _ h => h) (fun _ h => exec_cell rfl rfl (load_cell (by kernel_rfl) h.2.2)) hS ?_
 simp only [Act.put, ap1, ap2, ap3]
 refine held_tk 6 7 (.int .u16 (c : Int)) rfl rfl (by kernel_rfl) (fun _ _ _ h => h) (fun _ _ => rfl) hS ?_
 simp only [Act.put, ap1, ap2, ap3]
 refine held_tk 7 8 (.int .u16 (it : Int)) rfl rfl (by kernel_rfl) (fun _ _ _ h => h) (fun _ _ => rfl) hS ?_
 simp only [Act.put, ap1, ap2, ap3]
 refine held_tk 8 9 (.int .u16 (qy : Int)) rfl rfl (by kernel_rfl) (fun _ _ _ h => h) (fun _ _ => rfl) hS ?_
 simp only [Act.put, ap1, ap2, ap3]
 clear hS
 refine wpAnyH_done (by kernel_rfl) ?_ _
 have H8 := Lib.hid H7.out.drew
 have HS8 := Lib.hid (HS7.out.below (drew_below w7))
 have HK8 := Lib.hid (HK7.out.below (drew_below w7))
 clear H7 HS7 HK7 H7a
 generalize w7.drew = w7 at H8 HS8 HK8 ⊢
 have c1_ : w7.cell? ⟨p7, 2, none⟩ = some (.int .u32 (q1 : Int)) := by rw [stc_at HK8.out (by omega), HQ1.out]
 go_wp2_with (first | (refine wpList_run rfl (exec_load39 rfl rfl HK8.out) ?_) | (refine wpList_run rfl (exec_idx24c (j := 2) rfl rfl rfl (by omega)) ?_) | (refine wpList_run rfl (exec_stV (v := s.v) rfl rfl HK8.out) ?_) | (refine wpList_run rfl (exec_S (q := q1 + 1) HOP.out HQ2.out rfl rfl rfl rfl rfl rfl rfl) ?_))
 clear c1_
 refine (apply_any HS8.out (by omega) (by omega) op).mono ?_
 rw [HAPP.out.1, HAPP.out.2]
 rintro e w8 ⟨a2, n2, c2, b2, m2, d2, rfl, hE, hT, hb⟩
 have H9 := Lib.hid (H8.out.trans (hb.mono H8.out.size))
 have HS9 := Lib.hid (HS8.out.below hb)
 have HK9 := Lib.hid (HK8.out.below hb)
 have HT9 : Hid (SL w8 t a2 n2 b2 m2) := Lib.hid ⟨hE.gl, hT.gl⟩
 have hf2 : n2 ≤ 41 ∧ m2 ≤ 41 := by have h1 := HT9.out.es.len'; have h2 := HT9.out.ts.len'; have h3 := HTL.out; omega
 clear hb hE hT H8 HS8 HK8
 go_wp2_with (first | (refine wpList_run rfl (exec_alloc39z HZ.out rfl) ?_) | (refine wpList_stop39 rfl ?_))
 refine ⟨?_⟩
 refine wpList_void rfl rfl (exec_store39 rfl rfl rfl (Blk.new w8 39 _)) ?_
 have hbo := bo_laid w8 39 (sv z none 0 0 none 0 0) (sv t.v a2 n2 c2 b2 m2 d2)
 have HA : Hid (SeW w ((w8.alloc (.cells (sv z none 0 0 none 0 0) 39)).setRow w8.heap.size (sv t.v a2 n2 c2 b2 m2 d2)) s t p7 w8.heap.size a1 n1 c1 b1 m1 d1 a2 n2 c2 b2 m2 d2) := Lib.hid ⟨HK9.out.below hbo.old, hbo.one, HS9.out.below hbo.old, HT9.out.below hbo.old, H9.out.trans (hbo.old.mono H9.out.size)⟩
 clear hbo H9 HS9 HK9 HT9
 generalize (w8.alloc (.cells (sv z none 0 0 none 0 0) 39)).setRow w8.heap.size (sv t.v a2 n2 c2 b2 m2 d2) = w9 at HA ⊢
 generalize w8.heap.size = p9 at HA ⊢
 go_wp2_with (refine wpList_run rfl (exec_load39 rfl rfl HA.out.k9) ?_)
 refine (view_seen (view_any HA.out.l9 (by omega) (by omega) c hc16)).mono ?_
 rintro e w10 ⟨lt, ot, kt, av, cv, rfl, hIt, hgt, hb⟩
 have HIT := Lib.hid hIt
 have HA1 := Lib.hid (HA.out.below hb)
 have HGT := Lib.hid hgt
 clear hb hIt hgt HA
 obtain ⟨nt, hnt⟩ : ∃ x, lt.length = x := ⟨_, rfl⟩
 have HNT := Lib.hid hnt
 have hnt6 : nt < 1000000 := by rw [← hnt]; exact HIT.out.short
 rw [hnt] at HGT ⊢
 clear hnt
 obtain ⟨B, hB⟩ : ∃ B, w10.heap.size = B := ⟨_, rfl⟩
 have HOW0 : Hid (OwnG w10 86 2 B none 0 0 ((oth it (lt.take 0)).map ln)) := Lib.hid (by simpa [oth] using ownG_nil w10 86 2 B)
 have HBW : Hid (w.heap.size ≤ B) := Lib.hid (by rw [← hB]; exact HA1.out.old.size)
 have HBB : Hid (Below B w10 w10) := Lib.hid (Below.refl _ _)
 have HZ0 : Hid (B ≤ w10.heap.size) := Lib.hid (by omega)
 have HGB : Hid (B = w10.heap.size) := Lib.hid hB.symm
 clear hB
 have HQTY : Hid (∀ x ∈ lt, x.1 = it → x.2 = qy) := Lib.hid (by
  obtain ⟨lsx, ox, kx, hsx⟩ := seen_some HSR.out c
  exact (HSEEN.out _ _ _ _ _ _ hsx HIT.out).1)
 go_wp2_with (refine wpList_run rfl (exec_fldLines rfl rfl) ?_)
 go_loopw [12, 58] (fun wv jv W => ∃ (j m : Nat) (ao : Option Addr) (cp : Nat), j ≤ nt ∧ m ≤ j ∧ wv = .slice ao m cp ∧ jv = .int .i64 (j : Int) ∧ Hid (OwnG W 86 2 B ao m cp ((oth it (lt.take j)).map ln)) ∧ Hid (Below B w10 W) ∧ Hid (B ≤ W.heap.size)) (fun _ jv _ => nt - (intOf jv).toNat)
 case atStart => exact ⟨0, 0, none, 0, Nat.zero_le _, Nat.zero_le _, rfl, rfl, HOW0, HBB, HZ0⟩
 case round =>
  obtain ⟨j, m, ao, cp, hj, hmj, rfl, rfl, HOW, HB, HZ9⟩ := hrel
  clear HOW0 HBB HZ0
  have hbl := fun {W : World} (h : Below B w10 W) => (HGB.out ▸ h : Below w10.heap.size w10 W)
  by_cases hlt : j < nt
  ·obtain ⟨gb, off, x, rfl, hx, hr⟩ := GL.line (HGT.out.below (hbl HB.out)) hlt
   have HX := Lib.hid hx
   have HR := Lib.hid hr
   have HXM : Hid (x ∈ lt) := Lib.hid (List.mem_of_getElem? hx)
   obtain ⟨xi, xq⟩ := x
   have HN1 := Lib.hid (Blk.new wr 86 #[.int .u16 (xi : Int), .int .u32 (xq : Int)])
   have n0 : (wr.alloc (.cells #[.int .u16 (xi : Int), .int .u32 (xq : Int)] 86)).cell? ⟨wr.heap.size, 0, none⟩ = some (.int .u16 (xi : Int)) := by rw [HN1.out.cell]; rfl
   have n1_ : (wr.alloc (.cells #[.int .u16 (xi : Int), .int .u32 (xq : Int)] 86)).cell? ⟨wr.heap.size, 1, none⟩ = some (.int .u32 (xq : Int)) := by rw [HN1.out.cell]; rfl
   have hbn := below_one wr (.cells #[.int .u16 (xi : Int), .int .u32 (xq : Int)] 86)
   have HBN : Hid (Below B w10 (wr.alloc (.cells #[.int .u16 (xi : Int), .int .u32 (xq : Int)] 86))) := Lib.hid (HB.out.trans (hbn.mono HZ9.out))
   have HON := Lib.hid (HOW.out.below hbn)
   have HZN : Hid (B ≤ (wr.alloc (.cells #[.int .u16 (xi : Int), .int .u32 (xq : Int)] 86)).heap.size) := Lib.hid (Nat.le_trans HZ9.out hbn.size)
   clear hx hr hbn
   by_cases he : xi = it
   ·have hq : ((xi : Int) == (it : Int)) = true := by simp; omega
    have hq2 : ((xi : Int) != (it : Int)) = false := by simp; omega
    have hxq : xq = qy := HQTY.out (xi, xq) HXM.out he
    have HOO := Lib.hid (oth_eq (it := it) HX.out he)
    have hqq : ((xq : Int) != ((qy : Int) % 4294967296)) = false := by simp; omega
    clear he hxq
    go_wp2_with (first | (refine wpList_run rfl (exec_idxL (i := j) rfl rfl rfl rfl hlt) ?_) | (refine wpList_run rfl (exec_ld86 (i := xi) (n := xq) rfl rfl HR.out) ?_))
    go_roundw
    case rel => exact ⟨j + 1, m, ao, cp, hlt, by omega, rfl, by go_num, Lib.hid (by rw [HOO.out]; exact HON.out), HBN, HZN⟩
    case measure => simp [intOf]; omega
   ·have hq : ((xi : Int) == (it : Int)) = false := by simp; omega
    have hq2 : ((xi : Int) != (it : Int)) = true := by simp; omega
    have HOO := Lib.hid (oth_ne (it := it) HX.out he)
    clear he
    go_wp2_with (first | (refine wpList_run rfl (exec_idxL (i := j) rfl rfl rfl rfl hlt) ?_) | (refine wpList_run rfl (exec_ld86 (i := xi) (n := xq) rfl rfl HR.out) ?_) | (refine wpList_run rfl (exec_ld86 (i := xi) (n := xq) rfl rfl HN1.out.rangeL) ?_) | (refine wpList_run rfl (exec_bsLine (cs := ln (xi, xq)) rfl rfl rfl) ?_) | (at_builtin; refine wpList_appendG 53 86 2 8 info86 und53 rfl (by decide) (by decide) rfl rfl rfl rfl (HON.out.below (below_one (wr.alloc (.cells #[.int .u16 (xi : Int), .int .u32 (xq : Int)] 86)) _)) (Blk.new (wr.alloc (.cells #[.int .u16 (xi : Int), .int .u32 (xq : Int)] 86)) 86 (ln (xi, xq)).toArray) rfl (by simp [Value.oneCell', ln]) (by omega) (by have := HZN.out; simp at this ⊢; omega) ?_; intro a3 c3 w11 ho hk3 hl3; have HO3 := Lib.hid ho; have HK3 := Lib.hid hk3; clear ho hk3 hl3))
    go_roundw
    case rel =>
     have hat : ∀ k, At ao k → B ≤ k := fun k ⟨ad0, had, e⟩ => by rw [e]; exact (HON.out.lt ad0 had).1
     have h1 := HBN.out.trans ((below_one (wr.alloc (.cells #[.int .u16 (xi : Int), .int .u32 (xq : Int)] 86)) (.cells (ln (xi, xq)).toArray 86)).mono HZN.out)
     exact ⟨j + 1, m + 1, a3, c3, hlt, by omega, rfl, by go_num, Lib.hid (by rw [HOO.out, List.map_append]; exact HO3.out), Lib.hid (h1.trans (HK3.out.below (by have h7 := h1.size; have h8 := HGB.out; omega) hat)), Lib.hid (by have h5 := HK3.out.size; rw [World.size_alloc] at h5; have := HZN.out; omega)⟩
    case measure => simp [intOf]; omega
  ·have hall : lt.take j = lt := List.take_of_length_le (by rw [HNT.out]; omega)
   rw [hall] at HOW
   have HCAP := Lib.hid (ownG_cap HOW.out)
   have HWG := Lib.hid HOW.out.gl
   have HA2 := Lib.hid (HA1.out.below (hbl HB.out))
   have hmm : m < 1000000 := by omega
   clear hall HOW HA1 HB HZ9 HGB HGT hbl hmj
   go_wp2_with (refine wpList_run rfl (exec_load39 rfl rfl HA2.out.k7) ?_)
   refine (view_seen (view_any HA2.out.l7 (by omega) (by omega) c hc16)).mono ?_
   rintro e w13 ⟨ls, os, ks, as_, cs_, rfl, hIs, hgs, hb⟩
   have HOTH : Hid (oth it lt = oth it ls) := Lib.hid (HSEEN.out _ _ _ _ _ _ hIs HIT.out).2.1
   have HSH := Lib.hid hIs.short
   have HA3 := Lib.hid (HA2.out.below hb)
   have HWG3 : Hid (GL w13 2 ao m ((oth it ls).map ln)) := Lib.hid (by rw [← HOTH.out]; exact HWG.out.below hb)
   have HGS := Lib.hid hgs
   clear hb hIs hgs HA2 HWG
   obtain ⟨ns, hns⟩ : ∃ x, ls.length = x := ⟨_, rfl⟩
   have HNS := Lib.hid hns
   have hns6 : ns < 1000000 := by rw [← hns]; exact HSH.out
   rw [hns] at HGS ⊢
   clear hns HSH
   go_wp2_with (refine wpList_run rfl (exec_fldLines rfl rfl) ?_)
   have HBB : Hid (Below w13.heap.size w13 w13) := Lib.hid (Below.refl _ _)
   go_loopw [12, 87] (fun wv jv W => ∃ (j wn wc : Nat) (wa : Option Addr) (ws : List (Nat × Nat)), j ≤ ns ∧ wn ≤ wc ∧ wv = .slice wa wn wc ∧ jv = .int .i64 (j : Int) ∧ Hid (oth it (ls.take j) ++ ws = oth it ls) ∧ Hid (GL W 2 wa wn (ws.map ln)) ∧ Hid (Below w13.heap.size w13 W)) (fun _ jv _ => ns - (intOf jv).toNat)
   case atStart => exact ⟨0, m, cp, ao, oth it ls, Nat.zero_le _, HCAP.out, rfl, rfl, Lib.hid (by simp [oth]), HWG3, HBB⟩
   case round =>
    obtain ⟨j2, wn, wc, wa, ws, hj2, hwc, rfl, rfl, HWS, HWG4, HB4⟩ := hrel
    clear HWG3 HBB
    by_cases hlt2 : j2 < ns
    ·obtain ⟨gb, off, x, rfl, hx, hr⟩ := GL.line (HGS.out.below HB4.out) hlt2
     have HX := Lib.hid hx
     have HR := Lib.hid hr
     obtain ⟨xi, xq⟩ := x
     have HN1 := Lib.hid (Blk.new wr 86 #[.int .u16 (xi : Int), .int .u32 (xq : Int)])
     have n0 : (wr.alloc (.cells #[.int .u16 (xi : Int), .int .u32 (xq : Int)] 86)).cell? ⟨wr.heap.size, 0, none⟩ = some (.int .u16 (xi : Int)) := by rw [HN1.out.cell]; rfl
     have hbn := below_one wr (.cells #[.int .u16 (xi : Int), .int .u32 (xq : Int)] 86)
     have HBN : Hid (Below w13.heap.size w13 (wr.alloc (.cells #[.int .u16 (xi : Int), .int .u32 (xq : Int)] 86))) := Lib.hid (HB4.out.trans (hbn.mono HB4.out.size))
     have HWN1 := Lib.hid (HWG4.out.below hbn)
     clear hx hr hbn
     by_cases he : xi = it
     ·have hq : ((xi : Int) == (it : Int)) = true := by simp; omega
      have HOO := Lib.hid (oth_eq (it := it) HX.out he)
      clear he
      go_wp2_with (first | (refine wpList_run rfl (exec_idxL (i := j2) rfl rfl rfl rfl hlt2) ?_) | (refine wpList_run rfl (exec_ld86 (i := xi) (n := xq) rfl rfl HR.out) ?_))
      go_roundw
      case rel => exact ⟨j2 + 1, wn, wc, wa, ws, hlt2, hwc, rfl, by go_num, Lib.hid (by rw [HOO.out]; exact HWS.out), HWN1, HBN⟩
      case measure => simp [intOf]; omega
     ·have hq : ((xi : Int) == (it : Int)) = false := by simp; omega
      have HOO := Lib.hid (oth_ne (it := it) HX.out he)
      obtain ⟨rs, hrs⟩ := oth_split HX.out he HWS.out
      subst hrs
      have hw1 : 0 < wn := by have h := HWG4.out.len; simp at h; omega
      obtain ⟨gw, ow, y, rfl, hy, hry⟩ := GL.line HWN1.out hw1
      obtain rfl : (xi, xq) = y := by simpa using hy
      have HRY := Lib.hid hry
      have HWN : Hid (((wn : Int) == 0) = false) := Lib.hid (by simp; omega)
      clear he hy hry
      go_wp2_with (first | (refine wpList_run rfl (exec_idxL (i := j2) rfl rfl rfl rfl hlt2) ?_) | (refine wpList_run rfl (exec_ld86 (i := xi) (n := xq) rfl rfl HR.out) ?_))
      clear n0 hq
      obtain ⟨w14, hw14⟩ : ∃ W, wr.alloc (.cells #[.int .u16 (xi : Int), .int .u32 (xq : Int)] 86) = W := ⟨_, rfl⟩
      rw [hw14] at HN1 HBN HWN1 HRY ⊢
      clear hw14
      refine wp_region_held_drew (S := fun W => W.rangeAt gw (ow + 0 * 2) (ln (xi, xq)) ∧ W.rangeAt wr.heap.size 0 (ln (xi, xq))) (by kernel_rfl) ⟨fun j u hu => HRY.out j u hu, fun j u hu => HN1.out.rangeL j u hu⟩ (fun hS => ?_)
      refine held_tk 0 95 (.slice (some ⟨gw, ow, none⟩) wn wc) rfl rfl (by kernel_rfl) (fun _ _ _ h => h) (fun _ _ => rfl) hS ?_
      simp only [Act.put, ap1, ap2, ap3]
      refine held_tk 1 96 (.int .i64 (wn : Int)) rfl rfl (by kernel_rfl) (fun _ _ _ h => h) (fun _ _ => exec_lenS ⟨_, und53⟩ rfl rfl) hS ?_
      simp only [Act.put, ap1, ap2, ap3]
      refine held_tk 2 97 (.bool false) rfl rfl (by kernel_rfl) (fun _ _ _ h => h) (fun _ _ => exec_eqlI trivial rfl rfl rfl HWN.out) hS ?_
      simp only [Act.put, ap1, ap2, ap3]
      refine held_tk 3 98 (.bool false) rfl rfl (by kernel_rfl) (fun _ _ _ h => h) (fun _ _ => rfl) hS ?_
      simp only [Act.put, ap1, ap2, ap3]
      refine held_tk 4 99 (.slice (some ⟨gw, ow, none⟩) wn wc) rfl rfl (by kernel_rfl) (fun _ _ _ h => h) (fun _ _ => rfl) hS ?_
      simp only [Act.put, ap1, ap2, ap3]
      refine held_tk 5 100 (.pointer (some ⟨gw, ow + 0 * 2, none⟩)) rfl rfl (by kernel_rfl) (fun _ _ _ h => h) (fun _ _ => exec_idxL (i := 0) rfl rfl rfl rfl hw1) hS ?_
      simp only [Act.put, ap1, ap2, ap3]
      refine held_tk 6 101 (.agg #[.int .u16 (xi : Int), .int .u32 (xq : Int)]) rfl rfl (by kernel_rfl) (fun _ _ _ h => h) (fun _ h => exec_ld86 rfl rfl h.1) hS ?_
      simp only [Act.put, ap1, ap2, ap3]
      refine held_tk 7 102 (.agg #[.int .u16 (xi : Int), .int .u32 (xq : Int)]) rfl rfl (by kernel_rfl) (fun _ _ _ h => h) (fun _ h => exec_ld86 rfl rfl h.2) hS ?_
      simp only [Act.put, ap1, ap2, ap3]
      refine held_tk 8 103 (.bool false) rfl rfl (by kernel_rfl) (fun _ _ _ h => h) (fun _ _ => exec_neq86 rfl rfl rfl) hS ?_
      simp only [Act.put, ap1, ap2, ap3]
      refine held_tk 9 104 (.bool false) rfl rfl (by kernel_rfl) (fun _ _ _ h => h) (fun _ _ => rfl) hS ?_
      simp only [Act.put, ap1, ap2, ap3]
      clear hS
      refine wpAnyH_done (by kernel_rfl) ?_ _
      have HBD := Lib.hid (HBN.out.trans ((drew_below w14).mono HBN.out.size))
      obtain ⟨a5, hsd, hg5⟩ := gl_tail (cap := wc) (W := w14.drew) (v := ln (xi, xq)) (vs := rs.map ln) (by simpa using HWN1.out.below (drew_below w14)) hwc
      have HGD := Lib.hid hg5
      clear HBN HWN1 HRY HN1 hg5
      generalize w14.drew = w15 at HBD HGD hsd ⊢
      go_wp2_with fail
      clear hsd
      go_roundw
      case rel => exact ⟨j2 + 1, wn - 1, wc - 1, a5, rs, hlt2, by omega, rfl, by go_num, Lib.hid (by rw [HOO.out, List.append_assoc]; exact HWS.out), HGD, HBD⟩
      case measure => simp [intOf]; omega
    ·have hall : ls.take j2 = ls := List.take_of_length_le (by rw [HNS.out]; omega)
     have HWE : Hid (wn = 0) := Lib.hid (by
      have h := HWS.out
      rw [hall] at h
      have h2 : ws = [] := by simpa using h
      have h3 := HWG4.out.len
      rw [h2] at h3
      simpa using h3.symm)
     obtain rfl := HWE.out
     have HA4 := Lib.hid (HA3.out.below HB4.out)
     clear hall HWE HWS HWG4 HB4 HA3 HGS
     go_wp2_with fail
     refine wp_region_held_drew (S := fun w' => SeW w w' s t p7 p9 a1 n1 c1 b1 m1 d1 a2 n2 c2 b2 m2 d2) (by kernel_rfl) HA4.out.drew (fun hS => ?_)
     refine held_tk 0 108 (.slice wa 0 wc) rfl rfl (by kernel_rfl) (fun _ _ _ h => h) (fun _ _ => rfl) hS ?_
     simp only [Act.put, ap1, ap2, ap3]
     refine held_tk 1 109 (.int .i64 ((0 : Nat) : Int)) rfl rfl (by kernel_rfl) (fun _ _ _ h => h) (fun _ _ => exec_lenS ⟨_, und53⟩ rfl rfl) hS ?_
     simp only [Act.put, ap1, ap2, ap3]
     refine held_tk 2 110 (.bool true) rfl rfl (by kernel_rfl) (fun _ _ _ h => h) (fun _ _ => exec_eqlI trivial rfl rfl rfl (by simp)) hS ?_
     simp only [Act.put, ap1, ap2, ap3]
     refine held_tk 3 111 (.bool true) rfl rfl (by kernel_rfl) (fun _ _ _ h => h) (fun _ _ => rfl) hS ?_
     simp only [Act.put, ap1, ap2, ap3]
     refine held_tk 4 112 (.agg (sv t.v a2 n2 c2 b2 m2 d2)) rfl rfl (by kernel_rfl) (fun _ _ _ h => h) (fun _ h => exec_load39 rfl rfl h.k9) hS ?_
     simp only [Act.put, ap1, ap2, ap3]
     refine held_tk 5 113 (.int .u16 (c : Int)) rfl rfl (by kernel_rfl) (fun _ _ _ h => h) (fun _ _ => rfl) hS ?_
     simp only [Act.put, ap1, ap2, ap3]
     refine held_tk 8 116 (.agg (sv s.v a1 n1 c1 b1 m1 d1)) rfl rfl (by kernel_rfl) (fun _ _ _ h => h) (fun _ h => exec_load39 rfl rfl h.k7) hS ?_
     simp only [Act.put, ap1, ap2, ap3]
     refine held_tk 9 117 (.int .u16 (c : Int)) rfl rfl (by kernel_rfl) (fun _ _ _ h => h) (fun _ _ => rfl) hS ?_
     simp only [Act.put, ap1, ap2, ap3]
     refine held_callP 6 114 24 #[.agg (sv t.v a2 n2 c2 b2 m2 d2), .int .u16 (c : Int)] rfl (by kernel_rfl) rfl (by kernel_rfl) (by kernel_rfl) (view_seen (view_any hS.l9 (by omega) (by omega) c hc16)) (fun e x1 hP => ?_)
     obtain ⟨lsa, oa, ka, aa, ca, rfl, hIa, _, hb⟩ := hP
     refine ⟨_, rfl, hS.below hb, fun hS => ?_⟩
     simp only [Act.put, ap1, ap2, ap3]
     refine held_tk 7 115 (.bool oa) rfl rfl (by kernel_rfl) (fun _ _ _ h => h) (fun _ _ => exec_fldOut rfl rfl) hS ?_
     simp only [Act.put, ap1, ap2, ap3]
     refine held_callP 10 118 24 #[.agg (sv s.v a1 n1 c1 b1 m1 d1), .int .u16 (c : Int)] rfl (by kernel_rfl) rfl (by kernel_rfl) (by kernel_rfl) (view_seen (view_any hS.l7 (by omega) (by omega) c hc16)) (fun e x2 hP => ?_)
     obtain ⟨lsb, ob, kb, ab, cb, rfl, hIb, _, hb⟩ := hP
     obtain rfl : oa = ob := (HSEEN.out _ _ _ _ _ _ hIb hIa).2.2
     refine ⟨_, rfl, hS.below hb, fun hS => ?_⟩
     simp only [Act.put, ap1, ap2, ap3]
     refine held_tk 11 119 (.bool oa) rfl rfl (by kernel_rfl) (fun _ _ _ h => h) (fun _ _ => exec_fldOut rfl rfl) hS ?_
     simp only [Act.put, ap1, ap2, ap3]
     refine held_tk 12 120 (.bool true) rfl rfl (by kernel_rfl) (fun _ _ _ h => h) (fun _ _ => exec_eqlB und4b rfl rfl rfl (by simp)) hS ?_
     simp only [Act.put, ap1, ap2, ap3]
     refine held_tk 13 121 (.bool true) rfl rfl (by kernel_rfl) (fun _ _ _ h => h) (fun _ _ => rfl) hS ?_
     simp only [Act.put, ap1, ap2, ap3]
     refine held_tk 14 4 (.bool true) rfl rfl (by kernel_rfl) (fun _ _ _ h => h) (fun _ _ => rfl) hS ?_
     simp only [Act.put, ap1, ap2, ap3]
     have HS9 := Lib.hid hS
     clear hS
     refine wpAnyH_done (by kernel_rfl) ?_ _
     go_wp2_with fail
     go_ret
     exact ⟨rfl, HS9.out.old⟩
end Go.Proofs.YtnekpgmgnepdoaaGreat
end
section
namespace Go.Proofs.YtnekpgmgnepdoaaGreat
open Go.RowKit
theorem cells84' : Tryz.prog.cellsOf 84 = 3 := by kernel_rfl
set_option maxRecDepth 100000 in
theorem okWide_tri16 {W : World} {r : Reach} {b : Nat} {v : Value} (h : Value.okWide Tryz.prog W r b 84 v) : ∃ cs, v = .agg cs ∧ cs.size = 3 := by
 simp only [Value.okWide, und84] at h
 obtain ⟨cs, h1, h2, _⟩ := h
 exact ⟨cs, h1, h2.trans cells84'⟩
set_option maxRecDepth 100000 in
theorem tri16_of {H : Type} {enc : TypeId × Value → H} {W : World} {r : Reach} {b : Nat} {v : Value} {d : DataW H} {p : List MemPlace} (hv : Value.okWide Tryz.prog W r b 84 v)
  (h : DataW.Trod enc Tryz.prog W 0 (fun _ => true) true 84 v d p) : ∃ x y z : Nat, x < 65536 ∧ y < 65536 ∧ z < 65536 ∧ v = .agg #[.int .u16 (x : Int), .int .u16 (y : Int), .int .u16 (z : Int)] := by
 obtain ⟨cs, rfl, hs⟩ := okWide_tri16 hv
 obtain ⟨fuel, hf⟩ := h
 obtain ⟨ys, n, _, _, hlen, hyl, he⟩ := DataW.trod_array und84 hf
 obtain ⟨l, rfl⟩ : ∃ l : List Value, cs = l.toArray := ⟨cs.toList, by simp⟩
 have hl : l.length = 3 := by simpa using hs
 clear hf hlen hs hv
 match l, hl, ys, hyl with
 | [c0, c1, c2], _, [y0, y1, y2], _ =>
  have h0 := he 0 (by omega)
  have h1 := he 1 (by omega)
  have h2 := he 2 (by omega)
  rw [cells31'] at h0 h1 h2
  obtain ⟨x0, l0, rfl⟩ := u16_cell (x := y0) (by simpa [Value.cells] using h0)
  obtain ⟨x1, l1, rfl⟩ := u16_cell (x := y1) (by simpa [Value.cells] using h1)
  obtain ⟨x2, l2, rfl⟩ := u16_cell (x := y2) (by simpa [Value.cells] using h2)
  exact ⟨x0, x1, x2, l0, l1, l2, rfl⟩
end Go.Proofs.YtnekpgmgnepdoaaGreat
end
