import Derived.Test.YtnekpgmgnepdoaaGreatWad
namespace Go.Proofs.YtnekpgmgnepdoaaGreat
open Go.RowKit
theorem drew_below (w : World) : Below w.heap.size w w.drew := (Below.refl _ _).drew
theorem zeroCells_flat (zs : List Value) (size : Nat) (hs : zs.length = size) (hs0 : 0 < size) (n : Nat) : Builtin.zeroCells (Value.agg zs.toArray).cells n = (List.replicate n zs).flatten.toArray := by
 have he : ∀ v ∈ List.replicate n zs, v.length = size := fun v hv => by rw [List.eq_of_mem_replicate hv, hs]
 have hfl := flat_len he
 rw [List.length_replicate] at hfl
 have hsz : (Value.agg zs.toArray).cells.size = size := by simp [Value.cells, hs]
 apply Array.toList_inj.1
 apply List.ext_getElem?
 intro j
 by_cases hj : j < n * size
 ·have hd : j / size < n := by rw [Nat.div_lt_iff_lt_mul hs0]; exact hj
  have hm : j % size < size := Nat.mod_lt _ hs0
  have e1 := flatten_get he (i := j / size) (v := zs) (by simp [hd]) (j := j % size) (u := zs[j % size]'(by omega)) (by simp [hs, hm])
  rw [show j / size * size + j % size = j by rw [Nat.mul_comm]; exact Nat.div_add_mod j size] at e1
  rw [show (List.replicate n zs).flatten.toArray.toList = (List.replicate n zs).flatten from rfl, e1]
  simp only [Builtin.zeroCells, hsz, Array.getElem?_toList, Array.getElem?_map, Array.getElem?_range, Nat.mul_comm n size]
  rw [Nat.mul_comm] at hj
  simp [Value.cells, hs, hm, hj]
 ·have hl1 : (Builtin.zeroCells (Value.agg zs.toArray).cells n).toList.length = n * size := by simp [Builtin.zeroCells, hsz, Nat.mul_comm]
  rw [List.getElem?_eq_none (by rw [hl1]; omega), List.getElem?_eq_none (by rw [show (List.replicate n zs).flatten.toArray.toList = (List.replicate n zs).flatten from rfl, hfl]; omega)]
section
variable {ops : Array Oper} {rest : List Oper} {o : Oper} {act : Act} {Q : Exit → Act → World → Prop} {W : World}
theorem wpList_growZ (t e size bytes : Nat) {zs : List Value} (hinfo : (Tryz.prog.info? e).map (fun i => (i.zero, i.size, i.bytes)) = some (some (.agg zs.toArray), size, bytes)) (ht : Tryz.prog.underlying t = some (.slice e)) (hzs : zs.length = size) (hsz : 0 < size) (hby : bytes ≤ 1000)
  {x y : Operand} {g i k cap : Nat} {z : Int} {vs : List (List Value)} (hgd : o.guard = none) (ho : o.op = .call { callee := .builtin .append, args := #[x, y], argTypes := #[t, 3] })
  (hx : act.eval x = .slice (some ⟨g, 0, none⟩) i cap) (hy : act.eval y = .int .i64 z) (hz : z = (k : Int)) (hrw : Rw W e size g vs) (hi : i ≤ vs.length) (hk : 0 < k) (hroom : cap < i + k) (hn : i + k < 1000000)
  (kk : ∀ h G w', Rw w' e size h (vs.take i ++ List.replicate (G - i) zs) → i + k ≤ G → G ≤ maxLen → W.heap.size ≤ h → Below W.heap.size W w' → wpList Tryz.prog ops Q rest (act.put o.dst (.slice (some ⟨h, 0, none⟩) (i + k) G)) w') : wpList Tryz.prog ops Q (o :: rest) act W := by
 subst hz
 obtain ⟨i0, hi0, hz0, hz1, hz2⟩ := info_parts hinfo
 have ht1 : ∀ v ∈ vs.take i, v.length = size := fun v hv => hrw.each v (List.mem_of_mem_take hv)
 have hbig : (i + k) * bytes ≤ 140737488355328 := by
  have : (i + k) * bytes ≤ 1000000 * 1000 := Nat.mul_le_mul (by omega) hby
  omega
 have hold : (Builtin.firstCells i0.size i (.slice (some ⟨g, 0, none⟩) i cap)).run Tryz.prog W.drew = .ok (vs.take i).flatten.toArray W.drew := by
  rw [hz1]
  exact run_firstCells_some W.drew size i ⟨g, 0, none⟩ i cap (vs.take i).flatten (by rw [flat_len ht1]; simp; rw [Nat.min_eq_left hi]) (fun j v hj => by
   rw [Addr.add_mid]
   exact flat_at0 (w := W) ht1 (fun m u hu => by
    have hm : m < i := by have := (List.getElem?_eq_some_iff.1 hu).1; simp at this; omega
    rw [List.getElem?_take_of_lt hm] at hu
    exact hrw.at hu) j v hj)
 have h := Lib.run_append_grow_zeros W t 3 o.type e i0 _ .i64 .i64 ht Tryz.underlying3 hi0 hz0 (some ⟨g, 0, none⟩) i cap (vs.take i).flatten hold k hk (by omega) hroom (by omega) (by rw [hz2]; have : k * bytes ≤ 1000000 * 1000 := Nat.mul_le_mul (by omega) hby; omega) (by rw [hz2]; exact growslice_fits hroom hbig)
 have hG1 := grownCap_ge W (i + k) cap e
 have hG2 := grownCap_le_maxLen W (i + k) cap e (by unfold maxLen; omega)
 generalize grownCap W (i + k) cap e = G at h hG1 hG2
 refine Lib.wpList_append_run W hgd x y t 3 ho _ _ hx hy _ _ h ?_
 have hrow : (vs.take i).flatten.toArray ++ Builtin.zeroCells (Value.agg zs.toArray).cells k ++ Builtin.zeroCells (Value.agg zs.toArray).cells (G - (i + k)) = (vs.take i ++ List.replicate (G - i) zs).flatten.toArray := by
  have e1 : (vs.take i ++ List.replicate (k + (G - (i + k))) zs).flatten = (vs.take i).flatten ++ (List.replicate k zs).flatten ++ (List.replicate (G - (i + k)) zs).flatten := by
   rw [← List.replicate_append_replicate]
   simp only [List.flatten_append, List.append_assoc]
  rw [zeroCells_flat zs size hzs hsz, zeroCells_flat zs size hzs hsz, show G - i = k + (G - (i + k)) by omega, e1]
  simp
 rw [hrow]
 refine kk W.heap.size G _ ⟨Blk.new W.drew e _, fun v hv => ?_⟩ hG1 hG2 (Nat.le_refl _) ((drew_below W).trans ((below_one W.drew _).mono (Nat.le_refl _)))
 rcases List.mem_append.1 hv with hv | hv
 ·exact ht1 v hv
 ·rw [List.eq_of_mem_replicate hv]; exact hzs
end
theorem ins_room {α : Type} {vs us : List α} {n i : Nat} (v : α) (hn : vs.length = n) (hi : i < n) (hu : 1 ≤ us.length) : (overL (overL (vs ++ us) (i + 1) (vs.drop i)) i [v]).take (n + 1) = vs.take i ++ v :: vs.drop i := by
 subst hn
 have e1 : (overL (vs ++ us) (i + 1) (vs.drop i)).take i = vs.take i := by
  unfold overL
  rw [List.append_assoc, List.take_append_of_le_length (by simp; omega), List.take_take, Nat.min_eq_left (by omega), List.take_append_of_le_length (by omega)]
 have e2 : (overL (vs ++ us) (i + 1) (vs.drop i)).drop (i + 1) = vs.drop i ++ (vs ++ us).drop (i + 1 + (vs.drop i).length) := by
  unfold overL
  rw [List.append_assoc, List.drop_append_of_le_length (by simp; omega), List.drop_of_length_le (by simp; omega), List.nil_append]
 show ((overL (vs ++ us) (i + 1) (vs.drop i)).take i ++ [v] ++ (overL (vs ++ us) (i + 1) (vs.drop i)).drop (i + [v].length)).take (vs.length + 1) = _
 rw [e1, List.length_singleton, e2]
 have e3 : vs.take i ++ [v] ++ (vs.drop i ++ (vs ++ us).drop (i + 1 + (vs.drop i).length)) = (vs.take i ++ v :: vs.drop i) ++ (vs ++ us).drop (i + 1 + (vs.drop i).length) := by simp
 rw [e3, List.take_append_of_le_length (by simp; omega), List.take_of_length_le (by simp; omega)]
theorem ins_grow {α : Type} {vs rs : List α} {n i : Nat} (v : α) (hn : vs.length = n) (hi : i < n) (hr : n + 1 ≤ i + rs.length) : (overL (overL (vs.take i ++ rs) i [v]) (i + 1) (vs.drop i)).take (n + 1) = vs.take i ++ v :: vs.drop i := by
 subst hn
 have hl : (vs.take i).length = i := by simp; omega
 have e1 : overL (vs.take i ++ rs) i [v] = vs.take i ++ [v] ++ rs.drop 1 := by
  unfold overL
  rw [List.take_append_of_le_length (by omega), List.take_of_length_le (by omega), List.drop_append, hl, List.drop_of_length_le (by rw [hl]; simp), List.length_singleton, List.nil_append, show i + 1 - i = 1 by omega]
 rw [e1]
 have e2 : (vs.take i ++ [v] ++ rs.drop 1).take (i + 1) = vs.take i ++ [v] := by
  rw [List.take_append_of_le_length (by simp; omega), List.take_of_length_le (by simp; omega)]
 unfold overL
 rw [e2]
 have e3 : vs.take i ++ [v] ++ vs.drop i = vs.take i ++ v :: vs.drop i := by simp
 rw [e3, List.take_append_of_le_length (by simp; omega), List.take_of_length_le (by simp; omega)]
def InsP (e size : Nat) (w : World) (B : Nat) (a : Option Addr) (vs : List (List Value)) (x : Ending) (w' : World) : Prop :=
 ∃ a' cap', x = .returned (.slice a' vs.length cap') ∧ OwnG w' e size B a' vs.length cap' vs ∧ Kept (At a) w w' ∧ Lies w a a'
theorem shape_blk {w : World} {g : Nat} {t : TypeId} {cs : Array Value} (h : Blk w g t cs) : w.shape? g = some (t, cs.size) := by
 unfold Blk at h
 simp [World.shape?, h]
theorem exec_sliceEnd {ev : Operand → Value} {q : Oper} {w : World} {t e size : Nat} (ht : Tryz.prog.underlying t = some (.slice e)) (hz : ∀ w, (Go.sizeOf e).run Tryz.prog w = .ok size w) {x y : Operand} {g off i : Nat} {z : Int} (ho : q.op = .slice t x (some y) none none) (hx : ev x = .slice (some ⟨g, off, none⟩) i i) (hy : ev y = .int .i64 z) (hzi : z = (i : Int)) : (execOp ev q).run Tryz.prog w = .ok (.value (.slice (some ⟨g, off, none⟩) 0 0)) w := by
 subst hzi
 unfold execOp
 simp only [ho, hx, hy, Option.map_some, Option.map_none]
 go_simp
theorem ins_len {vs : List (List Value)} {n i : Nat} (v : List Value) (hn : vs.length = n) (hi : i ≤ n) : (vs.take i ++ v :: vs.drop i).length = n + 1 := by simp; omega
theorem exec_overE {ev : Operand → Value} {q : Oper} {w : World} {x y : Operand} {p g off n cap : Nat} {cs ds : Array Value} (ho : q.op = .call { callee := .value (.func 127), args := #[x, y], argTypes := #[36, 36] }) (hf : ev (.func 127) = .func (.func 127) #[] #[]) (hx : ev x = .slice (some ⟨p, 0, none⟩) 1 1) (hy : ev y = .slice (some ⟨g, off, none⟩) n cap) (hne : p ≠ g) (hp : Blk w p 72 cs) (hg : Blk w g 72 ds) (hd : ds.size ≠ 0) : (execOp ev q).run Tryz.prog w = .ok (.value (.bool false)) w := by
 have hcf : (callFunc 127 #[.slice (some ⟨p, 0, none⟩) 1 1, .slice (some ⟨g, off, none⟩) n cap]).run Tryz.prog w = .ok (.value (.bool false)) w := by
  rw [run_callFunc_extern Tryz.func127 (by kernel_rfl) (by kernel_rfl) (by kernel_rfl) (e := Extern.SlicesOverlaps.overlaps #[36, 36] #[4]) (by kernel_rfl), Lib.run_overlaps_apart w 36 4 72 und36 7 Tryz.sizeOf72 ⟨p, 0, none⟩ ⟨g, off, none⟩ 1 1 n cap hne 72 72 cs.size ds.size (shape_blk hp) (shape_blk hg) hd (hp.frozen 0) (hp.frozen _)]
  rfl
 unfold execOp
 simp only [ho, hx, hy, hf, resolve, invoke, List.map_toArray, List.map_cons, List.map_nil]
 simp [Deferred.ofValue, hcf]
theorem exec_overL {ev : Operand → Value} {q : Oper} {w : World} {x y : Operand} {p g off n cap : Nat} {cs ds : Array Value} (ho : q.op = .call { callee := .value (.func 129), args := #[x, y], argTypes := #[37, 37] }) (hf : ev (.func 129) = .func (.func 129) #[] #[]) (hx : ev x = .slice (some ⟨p, 0, none⟩) 1 1) (hy : ev y = .slice (some ⟨g, off, none⟩) n cap) (hne : p ≠ g) (hp : Blk w p 96 cs) (hg : Blk w g 96 ds) (hd : ds.size ≠ 0) : (execOp ev q).run Tryz.prog w = .ok (.value (.bool false)) w := by
 have hcf : (callFunc 129 #[.slice (some ⟨p, 0, none⟩) 1 1, .slice (some ⟨g, off, none⟩) n cap]).run Tryz.prog w = .ok (.value (.bool false)) w := by
  rw [run_callFunc_extern Tryz.func129 (by kernel_rfl) (by kernel_rfl) (by kernel_rfl) (e := Extern.SlicesOverlaps.overlaps #[37, 37] #[4]) (by kernel_rfl), Lib.run_overlaps_apart w 37 4 96 und37 2 Tryz.sizeOf96 ⟨p, 0, none⟩ ⟨g, off, none⟩ 1 1 n cap hne 96 96 cs.size ds.size (shape_blk hp) (shape_blk hg) hd (hp.frozen 0) (hp.frozen _)]
  rfl
 unfold execOp
 simp only [ho, hx, hy, hf, resolve, invoke, List.map_toArray, List.map_cons, List.map_nil]
 simp [Deferred.ofValue, hcf]
end Go.Proofs.YtnekpgmgnepdoaaGreat
