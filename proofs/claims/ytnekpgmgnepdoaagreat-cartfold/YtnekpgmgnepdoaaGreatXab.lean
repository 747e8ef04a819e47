import Derived.Shelf.SlSortCmp.WholeK
import Derived.Test.YtnekpgmgnepdoaaGreatWad
namespace Go.Proofs.YtnekpgmgnepdoaaGreat
open Go.Shelf Go.RowKit Go.Lib Go.Sort
instance : Inhabited En := ⟨En.zero⟩
instance : Inhabited La := ⟨La.zero⟩
def renE : Go.Shelf.Ren := ⟨fun | 6 => 100 | 15 => 135 | 14 => 134 | 28 => 155 | 29 => 156 | 20 => 147 | 21 => 148 | 22 => 149 | 23 => 150 | 24 => 151 | 25 => 152 | 26 => 153 | 27 => 154 | 46 => 187 | 47 => 188 | 48 => 189 | 49 => 190 | 50 => 191 | 57 => 201 | n => n, fun | 22 => 36 | 24 => 72 | 25 => 145 | 3 => 3 | 39 => 172 | 0 => 0 | 53 => 22 | 55 => 67 | 4 => 4 | 46 => 197 | 45 => 196 | 50 => 112 | 5 => 5 | 9 => 9 | 66 => 225 | 70 => 229 | 76 => 237 | 77 => 238 | n => n, fun | n => n⟩
theorem laidE : SlLaysF0.n6 Tryz.prog renE := {
 mixed := by kernel_rfl,
 f6 := ⟨Tryz.f100.name, by decide, Tryz.func100.trans (congrArg some (by kernel_rfl))⟩,
 f14 := ⟨Tryz.f134.name, by decide, Tryz.func134.trans (congrArg some (by kernel_rfl))⟩,
 f15 := Tryz.func135.trans (congrArg some (by kernel_rfl)),
 f20 := ⟨Tryz.f147.name, by decide, Tryz.func147.trans (congrArg some (by kernel_rfl))⟩,
 f21 := ⟨Tryz.f148.name, by decide, Tryz.func148.trans (congrArg some (by kernel_rfl))⟩,
 f22 := ⟨Tryz.f149.name, by decide, Tryz.func149.trans (congrArg some (by kernel_rfl))⟩,
 f23 := ⟨Tryz.f150.name, by decide, Tryz.func150.trans (congrArg some (by kernel_rfl))⟩,
 f24 := ⟨Tryz.f151.name, by decide, Tryz.func151.trans (congrArg some (by kernel_rfl))⟩,
 f25 := ⟨Tryz.f152.name, by decide, Tryz.func152.trans (congrArg some (by kernel_rfl))⟩,
 f26 := ⟨Tryz.f153.name, by decide, Tryz.func153.trans (congrArg some (by kernel_rfl))⟩,
 f27 := ⟨Tryz.f154.name, by decide, Tryz.func154.trans (congrArg some (by kernel_rfl))⟩,
 f28 := Tryz.func155.trans (congrArg some (by kernel_rfl)),
 f29 := Tryz.func156.trans (congrArg some (by kernel_rfl)),
 f46 := ⟨Tryz.f187.name, by decide, Tryz.func187.trans (congrArg some (by kernel_rfl))⟩,
 f47 := Tryz.func188.trans (congrArg some (by kernel_rfl)),
 f48 := Tryz.func189.trans (congrArg some (by kernel_rfl)),
 f49 := ⟨Tryz.f190.name, by decide, Tryz.func190.trans (congrArg some (by kernel_rfl))⟩,
 f50 := ⟨Tryz.f191.name, by decide, Tryz.func191.trans (congrArg some (by kernel_rfl))⟩,
 f57 := ⟨Tryz.f201.name, by decide, Tryz.func201.trans (congrArg some (by kernel_rfl))⟩,
 t0 := Tryz.underlying0,
 a0 := Tryz.isAgg0,
 z0 := Tryz.sizeOf0,
 v0 := Tryz.zeroValue0,
 t3 := Tryz.underlying3,
 a3 := Tryz.isAgg3,
 z3 := Tryz.sizeOf3,
 v3 := Tryz.zeroValue3,
 t4 := Tryz.underlying4,
 a4 := Tryz.isAgg4,
 z4 := Tryz.sizeOf4,
 v4 := Tryz.zeroValue4,
 t5 := Tryz.underlying5,
 a5 := Tryz.isAgg5,
 z5 := Tryz.sizeOf5,
 v5 := Tryz.zeroValue5,
 t9 := Tryz.underlying9,
 a9 := Tryz.isAgg9,
 z9 := Tryz.sizeOf9,
 v9 := Tryz.zeroValue9,
 t22 := Tryz.underlying36,
 a22 := Tryz.isAgg36,
 z22 := Tryz.sizeOf36,
 v22 := Tryz.zeroValue36,
 t25 := Tryz.underlying145,
 a25 := Tryz.isAgg145,
 z25 := Tryz.sizeOf145,
 v25 := Tryz.zeroValue145,
 t39 := Tryz.underlying172,
 a39 := Tryz.isAgg172,
 z39 := Tryz.sizeOf172,
 v39 := Tryz.zeroValue172,
 t45 := Tryz.underlying196,
 a45 := Tryz.isAgg196,
 z45 := Tryz.sizeOf196,
 v45 := Tryz.zeroValue196,
 t46 := Tryz.underlying197,
 a46 := Tryz.isAgg197,
 z46 := Tryz.sizeOf197,
 v46 := Tryz.zeroValue197,
 t50 := Tryz.underlying112,
 a50 := Tryz.isAgg112,
 z50 := Tryz.sizeOf112,
 v50 := Tryz.zeroValue112,
 t53 := Tryz.underlying22,
 a53 := Tryz.isAgg22,
 z53 := Tryz.sizeOf22,
 v53 := Tryz.zeroValue22,
 t55 := Tryz.underlying67,
 a55 := Tryz.isAgg67,
 z55 := Tryz.sizeOf67,
 v55 := Tryz.zeroValue67,
 t66 := Tryz.underlying225,
 a66 := Tryz.isAgg225,
 z66 := Tryz.sizeOf225,
 v66 := Tryz.zeroValue225,
 t70 := Tryz.underlying229,
 a70 := Tryz.isAgg229,
 z70 := Tryz.sizeOf229,
 v70 := Tryz.zeroValue229,
 t76 := Tryz.underlying237,
 a76 := Tryz.isAgg237,
 z76 := Tryz.sizeOf237,
 v76 := Tryz.zeroValue237,
 t77 := Tryz.underlying238,
 a77 := Tryz.isAgg238,
 z77 := Tryz.sizeOf238,
 v77 := Tryz.zeroValue238 }
def renL : Go.Shelf.Ren := ⟨fun | 6 => 102 | 15 => 135 | 14 => 137 | 28 => 155 | 29 => 156 | 20 => 157 | 21 => 158 | 22 => 159 | 23 => 160 | 24 => 161 | 25 => 162 | 26 => 163 | 27 => 164 | 46 => 192 | 47 => 188 | 48 => 189 | 49 => 193 | 50 => 194 | 57 => 202 | n => n, fun | 22 => 37 | 24 => 96 | 25 => 160 | 3 => 3 | 39 => 172 | 0 => 0 | 53 => 22 | 55 => 67 | 4 => 4 | 46 => 197 | 45 => 196 | 50 => 112 | 5 => 5 | 9 => 9 | 66 => 225 | 70 => 229 | 76 => 237 | 77 => 238 | n => n, fun | n => n⟩
theorem laidL : SlLaysF0.n6 Tryz.prog renL := {
 mixed := by kernel_rfl,
 f6 := ⟨Tryz.f102.name, by decide, Tryz.func102.trans (congrArg some (by kernel_rfl))⟩,
 f14 := ⟨Tryz.f137.name, by decide, Tryz.func137.trans (congrArg some (by kernel_rfl))⟩,
 f15 := Tryz.func135.trans (congrArg some (by kernel_rfl)),
 f20 := ⟨Tryz.f157.name, by decide, Tryz.func157.trans (congrArg some (by kernel_rfl))⟩,
 f21 := ⟨Tryz.f158.name, by decide, Tryz.func158.trans (congrArg some (by kernel_rfl))⟩,
 f22 := ⟨Tryz.f159.name, by decide, Tryz.func159.trans (congrArg some (by kernel_rfl))⟩,
 f23 := ⟨Tryz.f160.name, by decide, Tryz.func160.trans (congrArg some (by kernel_rfl))⟩,
 f24 := ⟨Tryz.f161.name, by decide, Tryz.func161.trans (congrArg some (by kernel_rfl))⟩,
 f25 := ⟨Tryz.f162.name, by decide, Tryz.func162.trans (congrArg some (by kernel_rfl))⟩,
 f26 := ⟨Tryz.f163.name, by decide, Tryz.func163.trans (congrArg some (by kernel_rfl))⟩,
 f27 := ⟨Tryz.f164.name, by decide, Tryz.func164.trans (congrArg some (by kernel_rfl))⟩,
 f28 := Tryz.func155.trans (congrArg some (by kernel_rfl)),
 f29 := Tryz.func156.trans (congrArg some (by kernel_rfl)),
 f46 := ⟨Tryz.f192.name, by decide, Tryz.func192.trans (congrArg some (by kernel_rfl))⟩,
 f47 := Tryz.func188.trans (congrArg some (by kernel_rfl)),
 f48 := Tryz.func189.trans (congrArg some (by kernel_rfl)),
 f49 := ⟨Tryz.f193.name, by decide, Tryz.func193.trans (congrArg some (by kernel_rfl))⟩,
 f50 := ⟨Tryz.f194.name, by decide, Tryz.func194.trans (congrArg some (by kernel_rfl))⟩,
 f57 := ⟨Tryz.f202.name, by decide, Tryz.func202.trans (congrArg some (by kernel_rfl))⟩,
 t0 := Tryz.underlying0,
 a0 := Tryz.isAgg0,
 z0 := Tryz.sizeOf0,
 v0 := Tryz.zeroValue0,
 t3 := Tryz.underlying3,
 a3 := Tryz.isAgg3,
 z3 := Tryz.sizeOf3,
 v3 := Tryz.zeroValue3,
 t4 := Tryz.underlying4,
 a4 := Tryz.isAgg4,
 z4 := Tryz.sizeOf4,
 v4 := Tryz.zeroValue4,
 t5 := Tryz.underlying5,
 a5 := Tryz.isAgg5,
 z5 := Tryz.sizeOf5,
 v5 := Tryz.zeroValue5,
 t9 := Tryz.underlying9,
 a9 := Tryz.isAgg9,
 z9 := Tryz.sizeOf9,
 v9 := Tryz.zeroValue9,
 t22 := Tryz.underlying37,
 a22 := Tryz.isAgg37,
 z22 := Tryz.sizeOf37,
 v22 := Tryz.zeroValue37,
 t25 := Tryz.underlying160,
 a25 := Tryz.isAgg160,
 z25 := Tryz.sizeOf160,
 v25 := Tryz.zeroValue160,
 t39 := Tryz.underlying172,
 a39 := Tryz.isAgg172,
 z39 := Tryz.sizeOf172,
 v39 := Tryz.zeroValue172,
 t45 := Tryz.underlying196,
 a45 := Tryz.isAgg196,
 z45 := Tryz.sizeOf196,
 v45 := Tryz.zeroValue196,
 t46 := Tryz.underlying197,
 a46 := Tryz.isAgg197,
 z46 := Tryz.sizeOf197,
 v46 := Tryz.zeroValue197,
 t50 := Tryz.underlying112,
 a50 := Tryz.isAgg112,
 z50 := Tryz.sizeOf112,
 v50 := Tryz.zeroValue112,
 t53 := Tryz.underlying22,
 a53 := Tryz.isAgg22,
 z53 := Tryz.sizeOf22,
 v53 := Tryz.zeroValue22,
 t55 := Tryz.underlying67,
 a55 := Tryz.isAgg67,
 z55 := Tryz.sizeOf67,
 v55 := Tryz.zeroValue67,
 t66 := Tryz.underlying225,
 a66 := Tryz.isAgg225,
 z66 := Tryz.sizeOf225,
 v66 := Tryz.zeroValue225,
 t70 := Tryz.underlying229,
 a70 := Tryz.isAgg229,
 z70 := Tryz.sizeOf229,
 v70 := Tryz.zeroValue229,
 t76 := Tryz.underlying237,
 a76 := Tryz.isAgg237,
 z76 := Tryz.sizeOf237,
 v76 := Tryz.zeroValue237,
 t77 := Tryz.underlying238,
 a77 := Tryz.isAgg238,
 z77 := Tryz.sizeOf238,
 v77 := Tryz.zeroValue238 }
theorem heap_id {w : World} {g n : Nat} {os : Array Obj} {cur : Array Value} {e : TypeId} {fr : Nat × Nat} (d : Array Value) (hb : w.heap[g]? = some (.cells cur e fr)) :
  (grow (putRow id (Sort.ahead w n) g 0 d) os).heap[g]? = some (.cells (putCells id 0 d cur) e fr) := by
 have hg : g < w.heap.size := (Array.getElem?_eq_some_iff.1 hb).1
 rw [heap_grow_old _ _ (by simpa using hg)]
 simp [putRow, mapBlock, Sort.ahead, Array.getElem?_modify, hb, onCells]
theorem kept_id {w : World} {g n : Nat} {os : Array Obj} (d : Array Value) : Kept (fun k => k = g) w (grow (putRow id (Sort.ahead w n) g 0 d) os) := by
 refine ⟨rfl, rfl, rfl, by simp, fun k hk hne => ?_⟩
 rw [heap_grow_old _ _ (by simpa using hk)]
 have : g ≠ k := fun e => hne e.symm
 simp [putRow, mapBlock, Sort.ahead, Array.getElem?_modify, this]
theorem take_id (cur : Array Value) (ts : List Value) (h : ts.length ≤ cur.size) : (putCells id 0 ts.toArray cur).toList.take ts.length = ts := by
 apply List.ext_getElem?
 intro j
 by_cases hj : j < ts.length
 ·rw [List.getElem?_take_of_lt hj, Array.getElem?_toList]
  simp [putCells, hj, show j < cur.size by omega]
 ·rw [List.getElem?_take_eq_none (by omega), List.getElem?_eq_none (by omega)]
theorem flatK_cells {α : Type} [Inhabited α] (enc : α → List Value) (size : Nat) (hs : 0 < size) (hk : ∀ x, (enc x).length = size) (l : List α) : flatK enc size l.toArray = (l.map enc).flatten.toArray := by
 have he : ∀ v ∈ l.map enc, v.length = size := fun v hv => by
  obtain ⟨x, _, rfl⟩ := List.mem_map.1 hv
  exact hk x
 have hfl := flat_len he
 rw [List.length_map] at hfl
 apply Array.ext_getElem?
 intro j
 by_cases h : j < l.length * size
 ·have h1 := get_flatK enc size l.toArray j (by simpa using h)
  have h2 : j < (flatK enc size l.toArray).size := by simpa using h
  rw [getElem!_pos _ j h2] at h1
  have hd : j / size < l.length := by rw [Nat.div_lt_iff_lt_mul hs]; exact h
  have hm : j % size < size := Nat.mod_lt _ hs
  have e1 := flatten_get he (i := j / size) (v := enc l[j / size]) (by simp [hd]) (j := j % size) (u := (enc l[j / size])[j % size]'(by rw [hk]; exact hm)) (List.getElem?_eq_getElem _)
  rw [show j / size * size + j % size = j by rw [Nat.mul_comm]; exact Nat.div_add_mod j size] at e1
  rw [Array.getElem?_eq_getElem h2, h1, List.getElem?_toArray, e1, getElem!_pos l.toArray (j / size) (by simpa using hd), getElem!_pos _ _ (by rw [hk]; exact hm)]
  simp
 ·rw [Array.getElem?_eq_none (by simp; omega), Array.getElem?_eq_none (by simp only [List.size_toArray, hfl]; omega)]
theorem swoE : SWO (ltOf En.ord) where
 irrefl x := by unfold ltOf; rw [decide_eq_false_iff_not, En.ord_neg]; exact En.Ahead.irrefl x
 trans x y z h1 h2 := by unfold ltOf at *; rw [decide_eq_true_eq, En.ord_neg] at *; exact h1.trans h2
 ntrans x y z h1 h2 := by
  unfold ltOf at *
  rw [decide_eq_false_iff_not, En.ord_neg] at *
  unfold En.Ahead at *
  omega
theorem ordL_neg (x y : La) : ordL x y < 0 ↔ x.c < y.c ∨ (x.c = y.c ∧ y.t < x.t) := by
 unfold ordL orI cmpN
 repeat' split
 all_goals omega
theorem swoL : SWO (ltOf ordL) where
 irrefl x := by unfold ltOf; rw [decide_eq_false_iff_not, ordL_neg]; omega
 trans x y z h1 h2 := by unfold ltOf at *; rw [decide_eq_true_eq, ordL_neg] at *; omega
 ntrans x y z h1 h2 := by
  unfold ltOf at *
  rw [decide_eq_false_iff_not, ordL_neg] at *
  omega
set_option maxRecDepth 100000 in
theorem insNoneE (a : Option Addr) (cap : Nat) (fv : Value) (w : World) : Calls Tryz.prog 147 #[.slice a 0 cap, .int .i64 0, .int .i64 0, fv] w fun e w' => e = .returned (.tuple #[]) ∧ w = w' := by
 go_enter Tryz.func147, Tryz.ntmps147
 go_wp2
 refine wp_loop_rounds 1 ?_
 rw [rounds_succ]
 go_wp2
 go_end0
 exact ⟨rfl, rfl⟩
set_option maxRecDepth 100000 in
theorem pdqNoneE (a : Option Addr) (cap : Nat) (l : Int) (fv : Value) (w : World) : Calls Tryz.prog 134 #[.slice a 0 cap, .int .i64 0, .int .i64 0, .int .i64 l, fv] w fun e w' => e = .returned (.tuple #[]) ∧ w = w' := by
 go_enter Tryz.func134, Tryz.ntmps134
 go_wp2_with fail
 refine wp_loop_rounds 1 ?_
 rw [rounds_succ]
 go_wp2_with fail
 refine (insNoneE a cap fv w).mono ?_
 rintro e w' ⟨rfl, rfl⟩
 go_wp2_with fail
 (try simp only [Exit.inBlock, Exit.then])
 exact bodyPost_ret (results_none rfl _ _ _) rfl ⟨rfl, rfl⟩
set_option maxRecDepth 100000 in
theorem sortNoneE (a : Option Addr) (cap : Nat) (fv : Value) (w : World) : Calls Tryz.prog 100 #[.slice a 0 cap, fv] w fun e w' => e = .returned (.tuple #[]) ∧ w = w' := by
 go_enter Tryz.func100, Tryz.ntmps100
 go_wp2_with fail
 refine (len_x 0 0 w (by omega) (Lib.hid rfl) (by omega) (by omega)).mono ?_
 rintro e w' ⟨rfl, rfl⟩
 go_wp2_with fail
 refine (pdqNoneE a cap _ fv w).mono ?_
 rintro e w' ⟨rfl, rfl⟩
 go_wp2_with fail
 go_end0
 exact ⟨rfl, rfl⟩
def SortE (w : World) (B : Nat) (a : Option Addr) (n cap : Nat) (l : List En) (e : Ending) (w' : World) : Prop :=
 e = .returned (.tuple #[]) ∧ ∃ m : List En, m.Perm l ∧ m.Pairwise (fun x y => ¬ En.ord y x < 0) ∧ OwnG w' 72 7 B a n cap (cellsE m) ∧ Kept (At a) w w'
theorem sortE_any {a : Option Addr} {n cap B : Nat} {l : List En} {w : World} (h : OwnG w 72 7 B a n cap (cellsE l)) (hn : n < 1000000) : Calls Tryz.prog 100 #[.slice a n cap, .func (.func 91) #[] #[]] w (SortE w B a n cap l) := by
 have hlen : l.length = n := by have := h.len; simpa [cellsE] using this
 rcases h.rw' (by decide) with ⟨rfl, rfl, rfl⟩ | ⟨g, us, rfl, hrw, hcap, hBg, hcm⟩
 ·obtain rfl : l = [] := List.eq_nil_of_length_eq_zero hlen
  exact (sortNoneE none 0 _ w).mono fun e w' ⟨h1, h2⟩ => by subst h2; exact ⟨h1, [], List.Perm.refl _, List.Pairwise.nil, h, Kept.refl _ _⟩
 have eg : ∀ args w, (callFunc 91 args).run Tryz.prog w = .ok (.enter 91 args) w := enters_of Tryz.func91 (by kernel_rfl) rfl
 have hb := hrw.blk
 have hfl : (cellsE l).flatten.length = n * 7 := by rw [flat_len (cellsE_each l)]; simp [cellsE, hlen]
 have hH : HoldsK En.cs 7 w g 0 l.toArray := by
  intro j hj
  have hj' : j < n * 7 := by simpa [hlen] using hj
  refine ⟨?_, hb.frozen _⟩
  rw [flatK_cells En.cs 7 (by decide) (fun _ => rfl), hb.cell, Nat.zero_add, List.getElem?_toArray, List.flatten_append, List.getElem?_append_left (by rw [hfl]; exact hj')]
  rw [getElem!_pos _ j (by simpa [cellsE] using (by rw [← hfl] at hj'; simpa [cellsE] using hj' : j < (l.map En.cs).flatten.length))]
  exact List.getElem?_eq_getElem (by rw [hfl]; exact hj')
 have hcon := AnyQ.slices_SortFunc laidE 7 Tryz.isAgg72 Tryz.sizeOf72 En.cs (fun _ => rfl) (fun x => x.one_cs) En.ord swoE 91 #[] g 0 cap l.toArray w eg
  (fun _ _ _ _ x y => order_any x y _) hH hb.lt (by simp; omega)
 change Calls Tryz.prog 100 _ _ _ at hcon
 simp only [List.size_toArray] at hcon
 rw [hlen] at hcon
 refine hcon.mono ?_
 rintro e w' ⟨rfl, d', q, os, ⟨hp1, _, hp3⟩, hs, rfl⟩
 have hs1 : d'.size = n := by rw [hp1]; simp [hlen]
 have hs2 : d'.toList.length = n := by simp [hs1]
 have hw : sortWorldK En.cs 7 w g 0 q d' os = grow (putRow id (Sort.ahead w q) g 0 (cellsE d'.toList).flatten.toArray) os := by
  have := flatK_cells En.cs 7 (by decide) (fun _ => rfl) d'.toList
  rw [Array.toArray_toList] at this
  unfold cellsE
  rw [← this]; rfl
 have hperm : d'.toList.Perm l := by
  have ht : List.take n d'.toList = d'.toList := List.take_of_length_le (by simp [hs1])
  have ht2 : List.take n l = l := List.take_of_length_le (by omega)
  simpa [ht, ht2] using hp3
 refine ⟨rfl, d'.toList, hperm, ?_, ?_, ?_⟩
 ·rw [List.pairwise_iff_getElem]
  intro i j hi hj hij
  have h2 := hs i j (Nat.zero_le _) hij (by omega)
  unfold ltOf at h2
  rw [decide_eq_false_iff_not, getElem!_pos d' j (by simpa using hj), getElem!_pos d' i (by simpa using hi)] at h2
  simpa using h2
 ·rw [hw]
  have hcl : (cellsE d'.toList).flatten.length = n * 7 := by rw [flat_len (cellsE_each _)]; simp [cellsE, hs1]
  have hcur : (cellsE l ++ us).flatten.toArray.size = cap * 7 := by
   rw [List.size_toArray, flat_len hrw.each]
   simp [cellsE, hlen, hcap]
  refine ⟨⟨by rw [hcl], .inr ⟨g, cap, _, rfl, hBg, heap_id _ hb, by omega, hcm, by simp only [putCells, Array.size_mapIdx]; rw [hcur], ?_⟩⟩, cellsE_each _, by simp [cellsE, hs1]⟩
  have := take_id (cellsE l ++ us).flatten.toArray (cellsE d'.toList).flatten (by rw [hcl, hcur]; exact Nat.mul_le_mul_right _ (by omega))
  rwa [hcl] at this
 ·rw [hw]
  exact (kept_id (w := w) (g := g) (n := q) (os := os) _).mono fun k hk => ⟨⟨g, 0, none⟩, rfl, hk⟩
set_option maxRecDepth 100000 in
theorem insNoneL (a : Option Addr) (cap : Nat) (fv : Value) (w : World) : Calls Tryz.prog 157 #[.slice a 0 cap, .int .i64 0, .int .i64 0, fv] w fun e w' => e = .returned (.tuple #[]) ∧ w = w' := by
 go_enter Tryz.func157, Tryz.ntmps157
 go_wp2
 refine wp_loop_rounds 1 ?_
 rw [rounds_succ]
 go_wp2
 go_end0
 exact ⟨rfl, rfl⟩
set_option maxRecDepth 100000 in
theorem pdqNoneL (a : Option Addr) (cap : Nat) (l : Int) (fv : Value) (w : World) : Calls Tryz.prog 137 #[.slice a 0 cap, .int .i64 0, .int .i64 0, .int .i64 l, fv] w fun e w' => e = .returned (.tuple #[]) ∧ w = w' := by
 go_enter Tryz.func137, Tryz.ntmps137
 go_wp2_with fail
 refine wp_loop_rounds 1 ?_
 rw [rounds_succ]
 go_wp2_with fail
 refine (insNoneL a cap fv w).mono ?_
 rintro e w' ⟨rfl, rfl⟩
 go_wp2_with fail
 (try simp only [Exit.inBlock, Exit.then])
 exact bodyPost_ret (results_none rfl _ _ _) rfl ⟨rfl, rfl⟩
set_option maxRecDepth 100000 in
theorem sortNoneL (a : Option Addr) (cap : Nat) (fv : Value) (w : World) : Calls Tryz.prog 102 #[.slice a 0 cap, fv] w fun e w' => e = .returned (.tuple #[]) ∧ w = w' := by
 go_enter Tryz.func102, Tryz.ntmps102
 go_wp2_with fail
 refine (len_x 0 0 w (by omega) (Lib.hid rfl) (by omega) (by omega)).mono ?_
 rintro e w' ⟨rfl, rfl⟩
 go_wp2_with fail
 refine (pdqNoneL a cap _ fv w).mono ?_
 rintro e w' ⟨rfl, rfl⟩
 go_wp2_with fail
 go_end0
 exact ⟨rfl, rfl⟩
def SortL (w : World) (B : Nat) (a : Option Addr) (n cap : Nat) (l : List La) (e : Ending) (w' : World) : Prop :=
 e = .returned (.tuple #[]) ∧ ∃ m : List La, m.Perm l ∧ m.Pairwise (fun x y => ¬ ordL y x < 0) ∧ OwnG w' 96 2 B a n cap (cellsL m) ∧ Kept (At a) w w'
theorem sortL_any {a : Option Addr} {n cap B : Nat} {l : List La} {w : World} (h : OwnG w 96 2 B a n cap (cellsL l)) (hn : n < 1000000) : Calls Tryz.prog 102 #[.slice a n cap, .func (.func 103) #[] #[]] w (SortL w B a n cap l) := by
 have hlen : l.length = n := by have := h.len; simpa [cellsL] using this
 rcases h.rw' (by decide) with ⟨rfl, rfl, rfl⟩ | ⟨g, us, rfl, hrw, hcap, hBg, hcm⟩
 ·obtain rfl : l = [] := List.eq_nil_of_length_eq_zero hlen
  exact (sortNoneL none 0 _ w).mono fun e w' ⟨h1, h2⟩ => by subst h2; exact ⟨h1, [], List.Perm.refl _, List.Pairwise.nil, h, Kept.refl _ _⟩
 have eg : ∀ args w, (callFunc 103 args).run Tryz.prog w = .ok (.enter 103 args) w := enters_of Tryz.func103 (by kernel_rfl) rfl
 have hb := hrw.blk
 have hfl : (cellsL l).flatten.length = n * 2 := by rw [flat_len (cellsL_each l)]; simp [cellsL, hlen]
 have hH : HoldsK La.cs 2 w g 0 l.toArray := by
  intro j hj
  have hj' : j < n * 2 := by simpa [hlen] using hj
  refine ⟨?_, hb.frozen _⟩
  rw [flatK_cells La.cs 2 (by decide) (fun _ => rfl), hb.cell, Nat.zero_add, List.getElem?_toArray, List.flatten_append, List.getElem?_append_left (by rw [hfl]; exact hj')]
  rw [getElem!_pos _ j (by simpa [cellsL] using (by rw [← hfl] at hj'; simpa [cellsL] using hj' : j < (l.map La.cs).flatten.length))]
  exact List.getElem?_eq_getElem (by rw [hfl]; exact hj')
 have hcon := AnyQ.slices_SortFunc laidL 2 Tryz.isAgg96 Tryz.sizeOf96 La.cs (fun _ => rfl) (fun x => x.one_cs) ordL swoL 103 #[] g 0 cap l.toArray w eg
  (fun _ _ _ _ x y => ordL_any x y _) hH hb.lt (by simp; omega)
 change Calls Tryz.prog 102 _ _ _ at hcon
 simp only [List.size_toArray] at hcon
 rw [hlen] at hcon
 refine hcon.mono ?_
 rintro e w' ⟨rfl, d', q, os, ⟨hp1, _, hp3⟩, hs, rfl⟩
 have hs1 : d'.size = n := by rw [hp1]; simp [hlen]
 have hs2 : d'.toList.length = n := by simp [hs1]
 have hw : sortWorldK La.cs 2 w g 0 q d' os = grow (putRow id (Sort.ahead w q) g 0 (cellsL d'.toList).flatten.toArray) os := by
  have := flatK_cells La.cs 2 (by decide) (fun _ => rfl) d'.toList
  rw [Array.toArray_toList] at this
  unfold cellsL
  rw [← this]; rfl
 have hperm : d'.toList.Perm l := by
  have ht : List.take n d'.toList = d'.toList := List.take_of_length_le (by simp [hs1])
  have ht2 : List.take n l = l := List.take_of_length_le (by omega)
  simpa [ht, ht2] using hp3
 refine ⟨rfl, d'.toList, hperm, ?_, ?_, ?_⟩
 ·rw [List.pairwise_iff_getElem]
  intro i j hi hj hij
  have h2 := hs i j (Nat.zero_le _) hij (by omega)
  unfold ltOf at h2
  rw [decide_eq_false_iff_not, getElem!_pos d' j (by simpa using hj), getElem!_pos d' i (by simpa using hi)] at h2
  simpa using h2
 ·rw [hw]
  have hcl : (cellsL d'.toList).flatten.length = n * 2 := by rw [flat_len (cellsL_each _)]; simp [cellsL, hs1]
  have hcur : (cellsL l ++ us).flatten.toArray.size = cap * 2 := by
   rw [List.size_toArray, flat_len hrw.each]
   simp [cellsL, hlen, hcap]
  refine ⟨⟨by rw [hcl], .inr ⟨g, cap, _, rfl, hBg, heap_id _ hb, by omega, hcm, by simp only [putCells, Array.size_mapIdx]; rw [hcur], ?_⟩⟩, cellsL_each _, by simp [cellsL, hs1]⟩
  have := take_id (cellsL l ++ us).flatten.toArray (cellsL d'.toList).flatten (by rw [hcl, hcur]; exact Nat.mul_le_mul_right _ (by omega))
  rwa [hcl] at this
 ·rw [hw]
  exact (kept_id (w := w) (g := g) (n := q) (os := os) _).mono fun k hk => ⟨⟨g, 0, none⟩, rfl, hk⟩
end Go.Proofs.YtnekpgmgnepdoaaGreat
