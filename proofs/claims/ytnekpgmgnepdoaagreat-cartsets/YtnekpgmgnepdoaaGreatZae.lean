import Derived.Shelf.SlSortCmp.WholeK
import Derived.Test.YtnekpgmgnepdoaaGreatZad
section
namespace Go.Proofs.YtnekpgmgnepdoaaGreat
open Go.Shelf Go.RowKit Go.Lib Go.Sort
instance : Inhabited En := ⟨En.zero⟩
instance : Inhabited La := ⟨La.zero⟩
def renE : Go.Shelf.Ren := ⟨fun | 6 => 100 | 15 => 135 | 14 => 134 | 28 => 155 | 29 => 156 | 20 => 147 | 21 => 148 | 22 => 149 | 23 => 150 | 24 => 151 | 25 => 152 | 26 => 153 | 27 => 154 | 46 => 187 | 47 => 188 | 48 => 189 | 49 => 190 | 50 => 191 | 57 => 201 | n => n, fun | 22 => 36 | 24 => 72 | 25 => 145 | 3 => 3 | 39 => 172 | 0 => 0 | 53 => 22 | 55 => 67 | 4 => 4 | 46 => 197 | 45 => 196 | 50 => 112 | 5 => 5 | 9 => 9 | 66 => 225 | 70 => 229 | 76 => 237 | 77 => 238 | n => n, fun | n => n⟩
theorem laidE : SlLaysF0.n6 Tryz.prog renE := {
 mixed := by kernel_rfl,
 f6 := ⟨Tryz.f100.name, by decide, Tryz.func100.trans (congrArg some (by kernel_rfl))⟩,
 f14 := ⟨Tryz.f134.name, by decide, Tryz.func134.trans (congrArg some (by kernel_rfl))⟩,
 f15 := Tryz.func135.trans (congrArg some (by kernel_rfl)),
 f20 := ⟨Tryz.f147.name, by decide, Tryz.func147.trans (congrArg some (by kernel_rfl))⟩,
 f21 := ⟨Tryz.f148.name, by decide, Tryz.func148.trans (congrArg some (by kernel_rfl))⟩,
 f22 := ⟨Tryz.f149.name, by decide, Tryz.func149.trans (congrArg some (by kernel_rfl))⟩,
 f23 := ⟨Tryz.f150.name, by decide, Tryz.func150.trans (congrArg some (by kernel_rfl))⟩,
 f24 := ⟨Tryz.f151.name, by decide, Tryz.func151.trans (congrArg some (by kernel_rfl))⟩,
 f25 := ⟨Tryz.f152.name, by decide, Tryz.func152.trans (congrArg some (by kernel_rfl))⟩,
 f26 := ⟨Tryz.f153.name, by decide, Tryz.func153.trans (congrArg some (by kernel_rfl))⟩,
 f27 := ⟨Tryz.f154.name, by decide, Tryz.func154.trans (congrArg some (by kernel_rfl))⟩,
 f28 := Tryz.func155.trans (congrArg some (by kernel_rfl)),
 f29 := Tryz.func156.trans (congrArg some (by kernel_rfl)),
 f46 := ⟨Tryz.f187.name, by decide, Tryz.func187.trans (congrArg some (by kernel_rfl))⟩,
 f47 := Tryz.func188.trans (congrArg some (by kernel_rfl)),
 f48 := Tryz.func189.trans (congrArg some (by kernel_rfl)),
 f49 := ⟨Tryz.f190.name, by decide, Tryz.func190.trans (congrArg some (by kernel_rfl))⟩,
 f50 := ⟨Tryz.f191.name, by decide, Tryz.func191.trans (congrArg some (by kernel_rfl))⟩,
 f57 := ⟨Tryz.f201.name, by decide, Tryz.func201.trans (congrArg some (by kernel_rfl))⟩,
 t0 := Tryz.underlying0,
 a0 := Tryz.isAgg0,
 z0 := Tryz.sizeOf0,
 v0 := Tryz.zeroValue0,
 t3 := Tryz.underlying3,
 a3 := Tryz.isAgg3,
 z3 := Tryz.sizeOf3,
 v3 := Tryz.zeroValue3,
 t4 := Tryz.underlying4,
 a4 := Tryz.isAgg4,
 z4 := Tryz.sizeOf4,
 v4 := Tryz.zeroValue4,
 t5 := Tryz.underlying5,
 a5 := Tryz.isAgg5,
 z5 := Tryz.sizeOf5,
 v5 := Tryz.zeroValue5,
 t9 := Tryz.underlying9,
 a9 := Tryz.isAgg9,
 z9 := Tryz.sizeOf9,
 v9 := Tryz.zeroValue9,
 t22 := Tryz.underlying36,
 a22 := Tryz.isAgg36,
 z22 := Tryz.sizeOf36,
 v22 := Tryz.zeroValue36,
 t25 := Tryz.underlying145,
 a25 := Tryz.isAgg145,
 z25 := Tryz.sizeOf145,
 v25 := Tryz.zeroValue145,
 t39 := Tryz.underlying172,
 a39 := Tryz.isAgg172,
 z39 := Tryz.sizeOf172,
 v39 := Tryz.zeroValue172,
 t45 := Tryz.underlying196,
 a45 := Tryz.isAgg196,
 z45 := Tryz.sizeOf196,
 v45 := Tryz.zeroValue196,
 t46 := Tryz.underlying197,
 a46 := Tryz.isAgg197,
 z46 := Tryz.sizeOf197,
 v46 := Tryz.zeroValue197,
 t50 := Tryz.underlying112,
 a50 := Tryz.isAgg112,
 z50 := Tryz.sizeOf112,
 v50 := Tryz.zeroValue112,
 t53 := Tryz.underlying22,
 a53 := Tryz.isAgg22,
 z53 := Tryz.sizeOf22,
 v53 := Tryz.zeroValue22,
 t55 := Tryz.underlying67,
 a55 := Tryz.isAgg67,
 z55 := Tryz.sizeOf67,
 v55 := Tryz.zeroValue67,
 t66 := Tryz.underlying225,
 a66 := Tryz.isAgg225,
 z66 := Tryz.sizeOf225,
 v66 := Tryz.zeroValue225,
 t70 := Tryz.underlying229,
 a70 := Tryz.isAgg229,
 z70 := Tryz.sizeOf229,
 v70 := Tryz.zeroValue229,
 t76 := Tryz.underlying237,
 a76 := Tryz.isAgg237,
 z76 := Tryz.sizeOf237,
 v76 := Tryz.zeroValue237,
 t77 := Tryz.underlying238,
 a77 := Tryz.isAgg238,
 z77 := Tryz.sizeOf238,
 v77 := Tryz.zeroValue238 }
def renL : Go.Shelf.Ren := ⟨fun | 6 => 102 | 15 => 135 | 14 => 137 | 28 => 155 | 29 => 156 | 20 => 157 | 21 => 158 | 22 => 159 | 23 => 160 | 24 => 161 | 25 => 162 | 26 => 163 | 27 => 164 | 46 => 192 | 47 => 188 | 48 => 189 | 49 => 193 | 50 => 194 | 57 => 202 | n => n, fun | 22 => 37 | 24 => 96 | 25 => 160 | 3 => 3 | 39 => 172 | 0 => 0 | 53 => 22 | 55 => 67 | 4 => 4 | 46 => 197 | 45 => 196 | 50 => 112 | 5 => 5 | 9 => 9 | 66 => 225 | 70 => 229 | 76 => 237 | 77 => 238 | n => n, fun | n => n⟩
theorem laidL : SlLaysF0.n6 Tryz.prog renL := {
 mixed := by kernel_rfl,
 f6 := ⟨Tryz.f102.name, by decide, Tryz.func102.trans (congrArg some (by kernel_rfl))⟩,
 f14 := ⟨Tryz.f137.name, by decide, Tryz.func137.trans (congrArg some (by kernel_rfl))⟩,
 f15 := Tryz.func135.trans (congrArg some (by kernel_rfl)),
 f20 := ⟨Tryz.f157.name, by decide, Tryz.func157.trans (congrArg some (by kernel_rfl))⟩,
 f21 := ⟨Tryz.f158.name, by decide, Tryz.func158.trans (congrArg some (by kernel_rfl))⟩,
 f22 := ⟨Tryz.f159.name, by decide, Tryz.func159.trans (congrArg some (by kernel_rfl))⟩,
 f23 := ⟨Tryz.f160.name, by decide, Tryz.func160.trans (congrArg some (by kernel_rfl))⟩,
 f24 := ⟨Tryz.f161.name, by decide, Tryz.func161.trans (congrArg some (by kernel_rfl))⟩,
 f25 := ⟨Tryz.f162.name, by decide, Tryz.func162.trans (congrArg some (by kernel_rfl))⟩,
 f26 := ⟨Tryz.f163.name, by decide, Tryz.func163.trans (congrArg some (by kernel_rfl))⟩,
 f27 := ⟨Tryz.f164.name, by decide, Tryz.func164.trans (congrArg some (by kernel_rfl))⟩,
 f28 := Tryz.func155.trans (congrArg some (by kernel_rfl)),
 f29 := Tryz.func156.trans (congrArg some (by kernel_rfl)),
 f46 := ⟨Tryz.f192.name, by decide, Tryz.func192.trans (congrArg some (by kernel_rfl))⟩,
 f47 := Tryz.func188.trans (congrArg some (by kernel_rfl)),
 f48 := Tryz.func189.trans (congrArg some (by kernel_rfl)),
 f49 := ⟨Tryz.f193.name, by decide, Tryz.func193.trans (congrArg some (by kernel_rfl))⟩,
 f50 := ⟨Tryz.f194.name, by decide, Tryz.func194.trans (congrArg some (by kernel_rfl))⟩,
 f57 := ⟨Tryz.f202.name, by decide, Tryz.func202.trans (congrArg some (by kernel_rfl))⟩,
 t0 := Tryz.underlying0,
 a0 := Tryz.isAgg0,
 z0 := Tryz.sizeOf0,
 v0 := Tryz.zeroValue0,
 t3 := Tryz.underlying3,
 a3 := Tryz.isAgg3,
 z3 := Tryz.sizeOf3,
 v3 := Tryz.zeroValue3,
 t4 := Tryz.underlying4,
 a4 := Tryz.isAgg4,
 z4 := Tryz.sizeOf4,
 v4 := Tryz.zeroValue4,
 t5 := Tryz.underlying5,
 a5 := Tryz.isAgg5,
 z5 := Tryz.sizeOf5,
 v5 := Tryz.zeroValue5,
 t9 := Tryz.underlying9,
 a9 := Tryz.isAgg9,
 z9 := Tryz.sizeOf9,
 v9 := Tryz.zeroValue9,
 t22 := Tryz.underlying37,
 a22 := Tryz.isAgg37,
 z22 := Tryz.sizeOf37,
 v22 := Tryz.zeroValue37,
 t25 := Tryz.underlying160,
 a25 := Tryz.isAgg160,
 z25 := Tryz.sizeOf160,
 v25 := Tryz.zeroValue160,
 t39 := Tryz.underlying172,
 a39 := Tryz.isAgg172,
 z39 := Tryz.sizeOf172,
 v39 := Tryz.zeroValue172,
 t45 := Tryz.underlying196,
 a45 := Tryz.isAgg196,
 z45 := Tryz.sizeOf196,
 v45 := Tryz.zeroValue196,
 t46 := Tryz.underlying197,
 a46 := Tryz.isAgg197,
 z46 := Tryz.sizeOf197,
 v46 := Tryz.zeroValue197,
 t50 := Tryz.underlying112,
 a50 := Tryz.isAgg112,
 z50 := Tryz.sizeOf112,
 v50 := Tryz.zeroValue112,
 t53 := Tryz.underlying22,
 a53 := Tryz.isAgg22,
 z53 := Tryz.sizeOf22,
 v53 := Tryz.zeroValue22,
 t55 := Tryz.underlying67,
 a55 := Tryz.isAgg67,
 z55 := Tryz.sizeOf67,
 v55 := Tryz.zeroValue67,
 t66 := Tryz.underlying225,
 a66 := Tryz.isAgg225,
 z66 := Tryz.sizeOf225,
 v66 := Tryz.zeroValue225,
 t70 := Tryz.underlying229,
 a70 := Tryz.isAgg229,
 z70 := Tryz.sizeOf229,
 v70 := Tryz.zeroValue229,
 t76 := Tryz.underlying237,
 a76 := Tryz.isAgg237,
 z76 := Tryz.sizeOf237,
 v76 := Tryz.zeroValue237,
 t77 := Tryz.underlying238,
 a77 := Tryz.isAgg238,
 z77 := Tryz.sizeOf238,
 v77 := Tryz.zeroValue238 }
theorem heap_id {w : World} {g n : Nat} {os : Array Obj} {cur : Array Value} {e : TypeId} {fr : Nat × Nat} (d : Array Value) (hb : w.heap[g]? = some (.cells cur e fr)) :
  (grow (putRow id (Sort.ahead w n) g 0 d) os).heap[g]? = some (.cells (putCells id 0 d cur) e fr) := by
 have hg : g < w.heap.size := (Array.getElem?_eq_some_iff.1 hb).1
 rw [heap_grow_old _ _ (by simpa using hg)]
 simp [putRow, mapBlock, Sort.ahead, Array.getElem?_modify, hb, onCells]
theorem kept_id {w : World} {g n : Nat} {os : Array Obj} (d : Array Value) : Kept (fun k => k = g) w (grow (putRow id (Sort.ahead w n) g 0 d) os) := by
 refine ⟨rfl, rfl, rfl, by simp, fun k hk hne => ?_⟩
 rw [heap_grow_old _ _ (by simpa using hk)]
 have : g ≠ k := fun e => hne e.symm
 simp [putRow, mapBlock, Sort.ahead, Array.getElem?_modify, this]
theorem take_id (cur : Array Value) (ts : List Value) (h : ts.length ≤ cur.size) : (putCells id 0 ts.toArray cur).toList.take ts.length = ts := by
 apply List.ext_getElem?
 intro j
 by_cases hj : j < ts.length
 ·rw [List.getElem?_take_of_lt hj, Array.getElem?_toList]
  simp [putCells, hj, show j < cur.size by omega]
 ·rw [List.getElem?_take_eq_none (by omega), List.getElem?_eq_none (by omega)]
theorem flatK_cells {α : Type} [Inhabited α] (enc : α → List Value) (size : Nat) (hs : 0 < size) (hk : ∀ x, (enc x).length = size) (l : List α) : flatK enc size l.toArray = (l.map enc).flatten.toArray := by
 have he : ∀ v ∈ l.map enc, v.length = size := fun v hv => by
  obtain ⟨x, _, rfl⟩ := List.mem_map.1 hv
  exact hk x
 have hfl := flat_len he
 rw [List.length_map] at hfl
 apply Array.ext_getElem?
 intro j
 by_cases h : j < l.length * size
 ·have h1 := get_flatK enc size l.toArray j (by simpa using h)
  have h2 : j < (flatK enc size l.toArray).size := by simpa using h
  rw [getElem!_pos _ j h2] at h1
  have hd : j / size < l.length := by rw [Nat.div_lt_iff_lt_mul hs]; exact h
  have hm : j % size < size := Nat.mod_lt _ hs
  have e1 := flatten_get he (i := j / size) (v := enc l[j / size]) (by simp [hd]) (j := j % size) (u := (enc l[j / size])[j % size]'(by rw [hk]; exact hm)) (List.getElem?_eq_getElem _)
  rw [show j / size * size + j % size = j by rw [Nat.mul_comm]; exact Nat.div_add_mod j size] at e1
  rw [Array.getElem?_eq_getElem h2, h1, List.getElem?_toArray, e1, getElem!_pos l.toArray (j / size) (by simpa using hd), getElem!_pos _ _ (by rw [hk]; exact hm)]
  simp
 ·rw [Array.getElem?_eq_none (by simp; omega), Array.getElem?_eq_none (by simp only [List.size_toArray, hfl]; omega)]
theorem swoE : SWO (ltOf En.ord) where
 irrefl x := by unfold ltOf; rw [decide_eq_false_iff_not, En.ord_neg]; exact En.Ahead.irrefl x
 trans x y z h1 h2 := by unfold ltOf at *; rw [decide_eq_true_eq, En.ord_neg] at *; exact h1.trans h2
 ntrans x y z h1 h2 := by
  unfold ltOf at *
  rw [decide_eq_false_iff_not, En.ord_neg] at *
  unfold En.Ahead at *
  omega
theorem ordL_neg (x y : La) : ordL x y < 0 ↔ x.c < y.c ∨ (x.c = y.c ∧ y.t < x.t) := by
 unfold ordL orI cmpN
 repeat' split
 all_goals omega
theorem swoL : SWO (ltOf ordL) where
 irrefl x := by unfold ltOf; rw [decide_eq_false_iff_not, ordL_neg]; omega
 trans x y z h1 h2 := by unfold ltOf at *; rw [decide_eq_true_eq, ordL_neg] at *; omega
 ntrans x y z h1 h2 := by
  unfold ltOf at *
  rw [decide_eq_false_iff_not, ordL_neg] at *
  omega
set_option maxRecDepth 100000 in
theorem insNoneE (a : Option Addr) (cap : Nat) (fv : Value) (w : World) : Calls Tryz.prog 147 #[.slice a 0 cap, .int .i64 0, .int .i64 0, fv] w fun e w' => e = .returned (.tuple #[]) ∧ w = w' := by
 go_enter Tryz.func147, Tryz.ntmps147
 go_wp2
 refine wp_loop_rounds 1 ?_
 rw [rounds_succ]
 go_wp2
 go_end0
 exact ⟨rfl, rfl⟩
set_option maxRecDepth 100000 in
theorem pdqNoneE (a : Option Addr) (cap : Nat) (l : Int) (fv : Value) (w : World) : Calls Tryz.prog 134 #[.slice a 0 cap, .int .i64 0, .int .i64 0, .int .i64 l, fv] w fun e w' => e = .returned (.tuple #[]) ∧ w = w' := by
 go_enter Tryz.func134, Tryz.ntmps134
 go_wp2_with fail
 refine wp_loop_rounds 1 ?_
 rw [rounds_succ]
 go_wp2_with fail
 refine (insNoneE a cap fv w).mono ?_
 rintro e w' ⟨rfl, rfl⟩
 go_wp2_with fail
 (try simp only [Exit.inBlock, Exit.then])
 exact bodyPost_ret (results_none rfl _ _ _) rfl ⟨rfl, rfl⟩
set_option maxRecDepth 100000 in
theorem sortNoneE (a : Option Addr) (cap : Nat) (fv : Value) (w : World) : Calls Tryz.prog 100 #[.slice a 0 cap, fv] w fun e w' => e = .returned (.tuple #[]) ∧ w = w' := by
 go_enter Tryz.func100, Tryz.ntmps100
 go_wp2_with fail
 refine (len_x 0 0 w (by omega) (Lib.hid rfl) (by omega) (by omega)).mono ?_
 rintro e w' ⟨rfl, rfl⟩
 go_wp2_with fail
 refine (pdqNoneE a cap _ fv w).mono ?_
 rintro e w' ⟨rfl, rfl⟩
 go_wp2_with fail
 go_end0
 exact ⟨rfl, rfl⟩
def SortE (w : World) (B : Nat) (a : Option Addr) (n cap : Nat) (l : List En) (e : Ending) (w' : World) : Prop :=
 e = .returned (.tuple #[]) ∧ ∃ m : List En, m.Perm l ∧ m.Pairwise (fun x y => ¬ En.ord y x < 0) ∧ OwnG w' 72 7 B a n cap (cellsE m) ∧ Kept (At a) w w'
theorem sortE_any {a : Option Addr} {n cap B : Nat} {l : List En} {w : World} (h : OwnG w 72 7 B a n cap (cellsE l)) (hn : n < 1000000) : Calls Tryz.prog 100 #[.slice a n cap, .func (.func 91) #[] #[]] w (SortE w B a n cap l) := by
 have hlen : l.length = n := by have := h.len; simpa [cellsE] using this
 rcases h.rw' (by decide) with ⟨rfl, rfl, rfl⟩ | ⟨g, us, rfl, hrw, hcap, hBg, hcm⟩
 ·obtain rfl : l = [] := List.eq_nil_of_length_eq_zero hlen
  exact (sortNoneE none 0 _ w).mono fun e w' ⟨h1, h2⟩ => by subst h2; exact ⟨h1, [], List.Perm.refl _, List.Pairwise.nil, h, Kept.refl _ _⟩
 have eg : ∀ args w, (callFunc 91 args).run Tryz.prog w = .ok (.enter 91 args) w := enters_of Tryz.func91 (by kernel_rfl) rfl
 have hb := hrw.blk
 have hfl : (cellsE l).flatten.length = n * 7 := by rw [flat_len (cellsE_each l)]; simp [cellsE, hlen]
 have hH : HoldsK En.cs 7 w g 0 l.toArray := by
  intro j hj
  have hj' : j < n * 7 := by simpa [hlen] using hj
  refine ⟨?_, hb.frozen _⟩
  rw [flatK_cells En.cs 7 (by decide) (fun _ => rfl), hb.cell, Nat.zero_add, List.getElem?_toArray, List.flatten_append, List.getElem?_append_left (by rw [hfl]; exact hj')]
  rw [getElem!_pos _ j (by simpa [cellsE] using (by rw [← hfl] at hj'; simpa [cellsE] using hj' : j < (l.map En.cs).flatten.length))]
  exact List.getElem?_eq_getElem (by rw [hfl]; exact hj')
 have hcon := AnyQ.slices_SortFunc laidE 7 Tryz.isAgg72 Tryz.sizeOf72 En.cs (fun _ => rfl) (fun x => x.one_cs) En.ord swoE 91 #[] g 0 cap l.toArray w eg
  (fun _ _ _ _ x y => order_any x y _) hH hb.lt (by simp; omega)
 change Calls Tryz.prog 100 _ _ _ at hcon
 simp only [List.size_toArray] at hcon
 rw [hlen] at hcon
 refine hcon.mono ?_
 rintro e w' ⟨rfl, d', q, os, ⟨hp1, _, hp3⟩, hs, rfl⟩
 have hs1 : d'.size = n := by rw [hp1]; simp [hlen]
 have hs2 : d'.toList.length = n := by simp [hs1]
 have hw : sortWorldK En.cs 7 w g 0 q d' os = grow (putRow id (Sort.ahead w q) g 0 (cellsE d'.toList).flatten.toArray) os := by
  have := flatK_cells En.cs 7 (by decide) (fun _ => rfl) d'.toList
  rw [Array.toArray_toList] at this
  unfold cellsE
  rw [← this]; rfl
 have hperm : d'.toList.Perm l := by
  have ht : List.take n d'.toList = d'.toList := List.take_of_length_le (by simp [hs1])
  have ht2 : List.take n l = l := List.take_of_length_le (by omega)
  simpa [ht, ht2] using hp3
 refine ⟨rfl, d'.toList, hperm, ?_, ?_, ?_⟩
 ·rw [List.pairwise_iff_getElem]
  intro i j hi hj hij
  have h2 := hs i j (Nat.zero_le _) hij (by omega)
  unfold ltOf at h2
  rw [decide_eq_false_iff_not, getElem!_pos d' j (by simpa using hj), getElem!_pos d' i (by simpa using hi)] at h2
  simpa using h2
 ·rw [hw]
  have hcl : (cellsE d'.toList).flatten.length = n * 7 := by rw [flat_len (cellsE_each _)]; simp [cellsE, hs1]
  have hcur : (cellsE l ++ us).flatten.toArray.size = cap * 7 := by
   rw [List.size_toArray, flat_len hrw.each]
   simp [cellsE, hlen, hcap]
  refine ⟨⟨by rw [hcl], .inr ⟨g, cap, _, rfl, hBg, heap_id _ hb, by omega, hcm, by simp only [putCells, Array.size_mapIdx]; rw [hcur], ?_⟩⟩, cellsE_each _, by simp [cellsE, hs1]⟩
  have := take_id (cellsE l ++ us).flatten.toArray (cellsE d'.toList).flatten (by rw [hcl, hcur]; exact Nat.mul_le_mul_right _ (by omega))
  rwa [hcl] at this
 ·rw [hw]
  exact (kept_id (w := w) (g := g) (n := q) (os := os) _).mono fun k hk => ⟨⟨g, 0, none⟩, rfl, hk⟩
set_option maxRecDepth 100000 in
theorem insNoneL (a : Option Addr) (cap : Nat) (fv : Value) (w : World) : Calls Tryz.prog 157 #[.slice a 0 cap, .int .i64 0, .int .i64 0, fv] w fun e w' => e = .returned (.tuple #[]) ∧ w = w' := by
 go_enter Tryz.func157, Tryz.ntmps157
 go_wp2
 refine wp_loop_rounds 1 ?_
 rw [rounds_succ]
 go_wp2
 go_end0
 exact ⟨rfl, rfl⟩
set_option maxRecDepth 100000 in
theorem pdqNoneL (a : Option Addr) (cap : Nat) (l : Int) (fv : Value) (w : World) : Calls Tryz.prog 137 #[.slice a 0 cap, .int .i64 0, .int .i64 0, .int .i64 l, fv] w fun e w' => e = .returned (.tuple #[]) ∧ w = w' := by
 go_enter Tryz.func137, Tryz.ntmps137
 go_wp2_with fail
 refine wp_loop_rounds 1 ?_
 rw [rounds_succ]
 go_wp2_with fail
 refine (insNoneL a cap fv w).mono ?_
 rintro e w' ⟨rfl, rfl⟩
 go_wp2_with fail
 (try simp only [Exit.inBlock, Exit.then])
 exact bodyPost_ret (results_none rfl _ _ _) rfl ⟨rfl, rfl⟩
set_option maxRecDepth 100000 in
theorem sortNoneL (a : Option Addr) (cap : Nat) (fv : Value) (w : World) : Calls Tryz.prog 102 #[.slice a 0 cap, fv] w fun e w' => e = .returned (.tuple #[]) ∧ w = w' := by
 go_enter Tryz.func102, Tryz.ntmps102
 go_wp2_with fail
 refine (len_x 0 0 w (by omega) (Lib.hid rfl) (by omega) (by omega)).mono ?_
 rintro e w' ⟨rfl, rfl⟩
 go_wp2_with fail
 refine (pdqNoneL a cap _ fv w).mono ?_
 rintro e w' ⟨rfl, rfl⟩
 go_wp2_with fail
 go_end0
 exact ⟨rfl, rfl⟩
def SortL (w : World) (B : Nat) (a : Option Addr) (n cap : Nat) (l : List La) (e : Ending) (w' : World) : Prop :=
 e = .returned (.tuple #[]) ∧ ∃ m : List La, m.Perm l ∧ m.Pairwise (fun x y => ¬ ordL y x < 0) ∧ OwnG w' 96 2 B a n cap (cellsL m) ∧ Kept (At a) w w'
theorem sortL_any {a : Option Addr} {n cap B : Nat} {l : List La} {w : World} (h : OwnG w 96 2 B a n cap (cellsL l)) (hn : n < 1000000) : Calls Tryz.prog 102 #[.slice a n cap, .func (.func 103) #[] #[]] w (SortL w B a n cap l) := by
 have hlen : l.length = n := by have := h.len; simpa [cellsL] using this
 rcases h.rw' (by decide) with ⟨rfl, rfl, rfl⟩ | ⟨g, us, rfl, hrw, hcap, hBg, hcm⟩
 ·obtain rfl : l = [] := List.eq_nil_of_length_eq_zero hlen
  exact (sortNoneL none 0 _ w).mono fun e w' ⟨h1, h2⟩ => by subst h2; exact ⟨h1, [], List.Perm.refl _, List.Pairwise.nil, h, Kept.refl _ _⟩
 have eg : ∀ args w, (callFunc 103 args).run Tryz.prog w = .ok (.enter 103 args) w := enters_of Tryz.func103 (by kernel_rfl) rfl
 have hb := hrw.blk
 have hfl : (cellsL l).flatten.length = n * 2 := by rw [flat_len (cellsL_each l)]; simp [cellsL, hlen]
 have hH : HoldsK La.cs 2 w g 0 l.toArray := by
  intro j hj
  have hj' : j < n * 2 := by simpa [hlen] using hj
  refine ⟨?_, hb.frozen _⟩
  rw [flatK_cells La.cs 2 (by decide) (fun _ => rfl), hb.cell, Nat.zero_add, List.getElem?_toArray, List.flatten_append, List.getElem?_append_left (by rw [hfl]; exact hj')]
  rw [getElem!_pos _ j (by simpa [cellsL] using (by rw [← hfl] at hj'; simpa [cellsL] using hj' : j < (l.map La.cs).flatten.length))]
  exact List.getElem?_eq_getElem (by rw [hfl]; exact hj')
 have hcon := AnyQ.slices_SortFunc laidL 2 Tryz.isAgg96 Tryz.sizeOf96 La.cs (fun _ => rfl) (fun x => x.one_cs) ordL swoL 103 #[] g 0 cap l.toArray w eg
  (fun _ _ _ _ x y => ordL_any x y _) hH hb.lt (by simp; omega)
 change Calls Tryz.prog 102 _ _ _ at hcon
 simp only [List.size_toArray] at hcon
 rw [hlen] at hcon
 refine hcon.mono ?_
 rintro e w' ⟨rfl, d', q, os, ⟨hp1, _, hp3⟩, hs, rfl⟩
 have hs1 : d'.size = n := by rw [hp1]; simp [hlen]
 have hs2 : d'.toList.length = n := by simp [hs1]
 have hw : sortWorldK La.cs 2 w g 0 q d' os = grow (putRow id (Sort.ahead w q) g 0 (cellsL d'.toList).flatten.toArray) os := by
  have := flatK_cells La.cs 2 (by decide) (fun _ => rfl) d'.toList
  rw [Array.toArray_toList] at this
  unfold cellsL
  rw [← this]; rfl
 have hperm : d'.toList.Perm l := by
  have ht : List.take n d'.toList = d'.toList := List.take_of_length_le (by simp [hs1])
  have ht2 : List.take n l = l := List.take_of_length_le (by omega)
  simpa [ht, ht2] using hp3
 refine ⟨rfl, d'.toList, hperm, ?_, ?_, ?_⟩
 ·rw [List.pairwise_iff_getElem]
  intro i j hi hj hij
  have h2 := hs i j (Nat.zero_le _) hij (by omega)
  unfold ltOf at h2
  rw [decide_eq_false_iff_not, getElem!_pos d' j (by simpa using hj), getElem!_pos d' i (by simpa using hi)] at h2
  simpa using h2
 ·rw [hw]
  have hcl : (cellsL d'.toList).flatten.length = n * 2 := by rw [flat_len (cellsL_each _)]; simp [cellsL, hs1]
  have hcur : (cellsL l ++ us).flatten.toArray.size = cap * 2 := by
   rw [List.size_toArray, flat_len hrw.each]
   simp [cellsL, hlen, hcap]
  refine ⟨⟨by rw [hcl], .inr ⟨g, cap, _, rfl, hBg, heap_id _ hb, by omega, hcm, by simp only [putCells, Array.size_mapIdx]; rw [hcur], ?_⟩⟩, cellsL_each _, by simp [cellsL, hs1]⟩
  have := take_id (cellsL l ++ us).flatten.toArray (cellsL d'.toList).flatten (by rw [hcl, hcur]; exact Nat.mul_le_mul_right _ (by omega))
  rwa [hcl] at this
 ·rw [hw]
  exact (kept_id (w := w) (g := g) (n := q) (os := os) _).mono fun k hk => ⟨⟨g, 0, none⟩, rfl, hk⟩
end Go.Proofs.YtnekpgmgnepdoaaGreat
end
section
namespace Go.Proofs.YtnekpgmgnepdoaaGreat
open Go.RowKit
def OwnsP (e size : Nat) (vs : List (List Value)) (w : World) (x : Ending) (w' : World) : Prop := ∃ a cap, x = .returned (.slice a vs.length cap) ∧ OwnG w' e size w.heap.size a vs.length cap vs ∧ Below w.heap.size w w'
theorem GL.nil_of {w : World} {size n : Nat} {vs : List (List Value)} (h : GL w size none n vs) : n = 0 ∧ vs = [] := by
 have h0 : n = 0 := by
  rcases h.cells with h | ⟨b, off, e, _⟩
  ·exact h
  ·cases e
 exact ⟨h0, List.eq_nil_of_length_eq_zero (by rw [h.len, h0])⟩
def FindP (k : Nat) (b : Bool) (w : World) (e : Ending) (w' : World) : Prop := e = .returned (.tuple #[.int .i64 (k : Int), .bool b]) ∧ Grew w w'
section
variable {ops : Array Oper} {rest : List Oper} {o : Oper} {act : Act} {Q : Exit → Act → World → Prop} {W : World}
theorem wpList_enter (f : FuncId) (args : Array Value) {R : Ending → World → Prop} (hgd : o.guard = .none) (_ho : ∃ c, o.op = .call c) (hrun : (execOp act.eval o).run Tryz.prog W = .ok (.enter f args) W) (hc : Calls Tryz.prog f args W R)
  (k : ∀ e w', R e w' → ∃ v, e = .returned v ∧ wpList Tryz.prog ops Q rest (act.put o.dst v) w') : wpList Tryz.prog ops Q (o :: rest) act W :=
 wpList_plain hgd fun _ hK => by
  unfold Oper.wp
  rw [hrun, Oper.upon_enter]
  refine hc.mono fun e w' hh => ?_
  obtain ⟨v, rfl, hk⟩ := k e w' hh
  exact hK _ _ hk
theorem wpList_enterW (f : FuncId) (args : Array Value) {R : Ending → World → Prop} (hw : Region.wanted o (yielded ops act.tmps) = true) (_ho : ∃ c, o.op = .call c) (hrun : (execOp act.eval o).run Tryz.prog W = .ok (.enter f args) W) (hc : Calls Tryz.prog f args W R)
  (k : ∀ e w', R e w' → ∃ v, e = .returned v ∧ wpList Tryz.prog ops Q rest (act.put o.dst v) w') : wpList Tryz.prog ops Q (o :: rest) act W :=
 BigFrame.wpList_want hw fun _ hK => by
  unfold Oper.wp
  rw [hrun, Oper.upon_enter]
  refine hc.mono fun e w' hh => ?_
  obtain ⟨v, rfl, hk⟩ := k e w' hh
  exact hK _ _ hk
end
theorem count_at {α : Type} (p : α → Bool) : ∀ (l : List α) (k : Nat), k ≤ l.length → (∀ t y, t < k → l[t]? = some y → p y = true) → (∀ t y, k ≤ t → l[t]? = some y → p y = false) → l.countP p = k
 | [], k, hk, _, _ => by simp at hk; simp [hk]
 | a :: l, 0, _, _, h2 => by
  rw [List.countP_eq_zero]
  intro x hx
  obtain ⟨t, ht, rfl⟩ := List.getElem_of_mem hx
  simp [h2 t _ (Nat.zero_le _) (List.getElem?_eq_getElem ht)]
 | a :: l, k + 1, hk, h1, h2 => by
  rw [List.countP_cons_of_pos (h1 0 a (by omega) rfl), count_at p l k (by simpa using hk) (fun t y ht hy => h1 (t + 1) y (by omega) (by simpa using hy)) (fun t y ht hy => h2 (t + 1) y (by omega) (by simpa using hy))]
def BsR {α : Type} (w : World) (l : List α) (n : Nat) (cf : α → Int) (v u : Value) (W : World) : Prop :=
 ∃ lo hi : Nat, v = .int .i64 (lo : Int) ∧ u = .int .i64 (hi : Int) ∧ lo ≤ hi ∧ hi ≤ n ∧ Hid (∀ t y, t < lo → l[t]? = some y → cf y < 0) ∧ Hid (∀ t y, hi ≤ t → l[t]? = some y → 0 ≤ cf y) ∧ Hid (Grew w W)
def Mono {α : Type} (l : List α) (cf : α → Int) : Prop := ∀ (i j : Nat) (x y : α), i ≤ j → l[i]? = some x → l[j]? = some y → cf y < 0 → cf x < 0
def foundB {α : Type} (l : List α) (cf : α → Int) : Bool := match l[l.countP fun y => decide (cf y < 0)]? with
 | none => false
 | some y => decide (cf y = 0)
set_option maxRecDepth 100000 in
set_option maxHeartbeats 1000000 in
theorem cloneE_any {a : Option Addr} {n cap : Nat} {l : List En} {w : World} (hl : EL w a n l) (hn : n < 500000) : Calls Tryz.prog 85 #[.slice a n cap] w (OwnsP 72 7 (cellsE l) w) := by
 have HLEN : Hid ((cellsE l).length = n) := Lib.hid hl.len
 have q1 : ∀ (w : World) (a : Option Addr) (n c n' c' : Nat), (binOp .eql 36 (.slice a n c) (.slice none n' c')).run Tryz.prog w = .ok (.bool a.isNone) w := fun w a n c n' c' => Lib.run_eql_slice_nil w _ _ a n c n' c' und36
 cases a with
 | none =>
  have HE : Hid (OwnsP 72 7 (cellsE l) w (.returned (.slice none 0 0)) w) := by
   have h := (GL.nil_of hl).2
   rw [h]
   exact Lib.hid ⟨none, 0, rfl, ownG_nil _ _ _ _, Below.refl _ _⟩
  clear hl
  go_enter Tryz.func85, Tryz.ntmps85
  go_wp2_with fail
  go_ret
  exact HE.out
 | some ad =>
  have HL := Lib.hid hl
  clear hl
  go_enter Tryz.func85, Tryz.ntmps85
  go_wp2_with (at_builtin; refine wpList_appendR (B := w.heap.size) 36 72 7 24 info72 und36 rfl (by decide) (by decide) rfl rfl rfl rfl (vs := []) ⟨World.ownsRow_made w #[] 0 (Nat.le_refl _) (Nat.zero_le _) (by simp), by simp, rfl⟩ (HL.out.below (below_one w _)) (cellsE_each l) (cellsE_one l) (by omega) (by simp) ?_; intro a3 cap3 w3 ho3 hk3 hl3)
  have HE : Hid (OwnsP 72 7 (cellsE l) w (.returned (.slice a3 n cap3)) w3) := Lib.hid (by
   rw [Nat.zero_add] at ho3
   rw [List.nil_append] at ho3
   refine ⟨a3, cap3, by rw [HLEN.out], by rw [HLEN.out]; exact ho3, (below_one w _).trans (hk3.below (by simp) (fun k hk => ?_))⟩
   obtain ⟨ad, e1, e2⟩ := hk
   cases e1
   rw [e2]
   exact Nat.le_refl _)
  clear ho3 hk3 hl3
  go_wp2_with fail
  go_ret
  exact HE.out
structure BsS (w W : World) (x : En) (b o : Nat) (y : En) : Prop where
 tgt : Blk W w.heap.size 72 x.arr
 el : W.rangeAt b o y.cs
 old : Grew w W
theorem BsS.grew {w W W' : World} {x y : En} {b o : Nat} (h : BsS w W x b o y) (k : Grew W W') : BsS w W' x b o y := ⟨h.tgt.grew k, fun j u hu => below_at k.below (h.el j u hu), h.old.trans k⟩
def BsRE (w : World) (x : En) (l : List En) (n : Nat) (cf : En → Int) (v u : Value) (W : World) : Prop := BsR w l n cf v u W ∧ Hid (Blk W w.heap.size 72 x.arr)
set_option maxRecDepth 100000 in
set_option maxHeartbeats 2000000 in
theorem bsE_any {a : Option Addr} {n cap : Nat} {l : List En} {w : World} (hl : EL w a n l) (hn : n < 500000) (x : En) (hm : Mono l fun y => En.ord y x) :
  Calls Tryz.prog 90 #[.slice a n cap, .agg x.arr, .func (.func 91) #[] #[]] w (FindP (l.countP fun y => decide (En.ord y x < 0)) (foundB l fun y => En.ord y x) w) := by
 have HL := Lib.hid hl
 have hlen := hl.len'
 have HLEN := Lib.hid hlen
 have HM := Lib.hid hm
 have HC := Lib.hid (fun (y : En) w => order_any y x w)
 obtain ⟨cf, hcf⟩ : ∃ cf : En → Int, (fun y => En.ord y x) = cf := ⟨_, rfl⟩
 have HCF : Hid (∀ y, En.ord y x = cf y) := Lib.hid (fun y => by rw [← hcf])
 have HG : Hid (FindP (l.countP fun y => decide (En.ord y x < 0)) (foundB l fun y => En.ord y x) w = FindP (l.countP fun y => decide (cf y < 0)) (foundB l cf) w) := Lib.hid (by rw [← hcf])
 rw [HG.out]
 rw [hcf] at HM
 have HC2 : Hid (∀ (y : En) w, Calls Tryz.prog 91 #[.agg y.arr, .agg x.arr] w (CmpP (cf y) w)) := Lib.hid (fun y w => by rw [← HCF.out]; exact HC.out y w)
 clear hl hlen hm hcf HG HCF HC
 have hb1 := fun (o : En) w => box72 o w
 go_enter Tryz.func90, Tryz.ntmps90
 go_wp2_with fail
 clear hb1
 go_loopw [9, 10] (BsRE w x l n cf) (fun v u _ => (numI u - numI v).toNat)
 case atStart => exact ⟨⟨0, n, rfl, rfl, Nat.zero_le _, Nat.le_refl _, Lib.hid (fun t y h => by omega), Lib.hid (fun t y h1 h2 => by have := (List.getElem?_eq_some_iff.1 h2).1; have := HLEN.out; omega), Lib.hid ((Grew.refl w).alloc _)⟩, Lib.hid (Blk.new w 72 x.arr)⟩
 case round =>
  obtain ⟨⟨lo, hi, rfl, rfl, hlh, hin, HLO, HHI, HW⟩, HT⟩ := hrel
  by_cases hlt : lo < hi
  ·obtain ⟨b, off, y, rfl, hy, hr⟩ := EL.at (HL.out.below HW.out.below) (i := (lo + hi) / 2) (by omega)
   have HY := Lib.hid hy
   have HR := Lib.hid hr
   have HS : Hid (BsS w wr x b (off + (lo + hi) / 2 * 7) y) := Lib.hid ⟨HT.out, hr, HW.out⟩
   clear hy hr
   have hc := fun w => HC2.out y w
   obtain ⟨z, hz⟩ : ∃ z, cf y = z := ⟨_, rfl⟩
   have HZ := Lib.hid hz
   rw [hz] at hc
   clear hz
   by_cases hneg : z < 0
   ·have hd : decide (z < 0) = true := by simpa using hneg
    go_wp2_with fail
    refine wp_region_held_drew (S := fun w' => BsS w w' x b (off + (lo + hi) / 2 * 7) y) (by kernel_rfl) (HS.out.grew (Grew.refl _).drew) (fun hS => ?_)
    refine held_tk 0 24 (.func (.func 91) #[] #[]) rfl rfl (by kernel_rfl) (fun _ _ _ h => h) (fun _ _ => rfl) hS ?_
    simp only [Act.put, ap1, ap2, ap3]
    refine held_tk 1 25 (.slice (some ⟨b, off, none⟩) n cap) rfl rfl (by kernel_rfl) (fun _ _ _ h => h) (fun _ _ => rfl) hS ?_
    simp only [Act.put, ap1, ap2, ap3]
    refine held_tk 2 26 (.int .i64 (((lo : Int) + (hi : Int)) / 2)) rfl rfl (by kernel_rfl) (fun _ _ _ h => h) (fun _ _ => rfl) hS ?_
    simp only [Act.put, ap1, ap2, ap3]
    refine held_tk 3 27 (.pointer (some ⟨b, off + (lo + hi) / 2 * 7, none⟩)) rfl rfl (by kernel_rfl) (fun _ _ _ h => h) (fun _ _ => exec_idx72 (i := (lo + hi) / 2) rfl rfl rfl (by omega) (by omega)) hS ?_
    simp only [Act.put, ap1, ap2, ap3]
    refine held_tk 4 28 (.agg y.arr) rfl rfl (by kernel_rfl) (fun _ _ _ h => h) (fun _ h => exec_ld72 (p := y) rfl rfl h.el) hS ?_
    simp only [Act.put, ap1, ap2, ap3]
    refine held_tk 5 29 (.agg x.arr) rfl rfl (by kernel_rfl) (fun _ _ _ h => h) (fun _ h => exec_load72 (p := x) rfl rfl h.tgt) hS ?_
    simp only [Act.put, ap1, ap2, ap3]
    refine held_callP 6 30 91 #[.agg y.arr, .agg x.arr] rfl (by kernel_rfl) rfl (by kernel_rfl) (by kernel_rfl) (hc _) (fun e w5 hP => ?_)
    obtain ⟨rfl, hg⟩ := hP
    refine ⟨_, rfl, hS.grew hg, fun hS => ?_⟩
    clear hg
    simp only [Act.put, ap1, ap2, ap3]
    refine held_tk 7 31 (.bool true) rfl rfl (by kernel_rfl) (fun _ _ _ h => h) (fun _ _ => exec_lssI rfl rfl rfl hd) hS ?_
    simp only [Act.put, ap1, ap2, ap3]
    refine wpAnyH_done (by kernel_rfl) ?_ _
    have HT2 := Lib.hid hS.tgt
    have HW2 := Lib.hid hS.old
    clear hS
    go_wp2_with fail
    go_roundw
    case rel => exact ⟨⟨(lo + hi) / 2 + 1, hi, congrArg (Value.int .i64) (by omega), rfl, by omega, hin, Lib.hid (fun t u ht hu => HM.out t ((lo + hi) / 2) u y (by omega) hu HY.out (by rw [HZ.out]; exact hneg)), HHI, HW2⟩, HT2⟩
    case measure => simp [numI]; omega
   ·have hd : decide (z < 0) = false := by simpa using hneg
    go_wp2_with fail
    refine wp_region_held_drew (S := fun w' => BsS w w' x b (off + (lo + hi) / 2 * 7) y) (by kernel_rfl) (HS.out.grew (Grew.refl _).drew) (fun hS => ?_)
    refine held_tk 0 24 (.func (.func 91) #[] #[]) rfl rfl (by kernel_rfl) (fun _ _ _ h => h) (fun _ _ => rfl) hS ?_
    simp only [Act.put, ap1, ap2, ap3]
    refine held_tk 1 25 (.slice (some ⟨b, off, none⟩) n cap) rfl rfl (by kernel_rfl) (fun _ _ _ h => h) (fun _ _ => rfl) hS ?_
    simp only [Act.put, ap1, ap2, ap3]
    refine held_tk 2 26 (.int .i64 (((lo : Int) + (hi : Int)) / 2)) rfl rfl (by kernel_rfl) (fun _ _ _ h => h) (fun _ _ => rfl) hS ?_
    simp only [Act.put, ap1, ap2, ap3]
    refine held_tk 3 27 (.pointer (some ⟨b, off + (lo + hi) / 2 * 7, none⟩)) rfl rfl (by kernel_rfl) (fun _ _ _ h => h) (fun _ _ => exec_idx72 (i := (lo + hi) / 2) rfl rfl rfl (by omega) (by omega)) hS ?_
    simp only [Act.put, ap1, ap2, ap3]
    refine held_tk 4 28 (.agg y.arr) rfl rfl (by kernel_rfl) (fun _ _ _ h => h) (fun _ h => exec_ld72 (p := y) rfl rfl h.el) hS ?_
    simp only [Act.put, ap1, ap2, ap3]
    refine held_tk 5 29 (.agg x.arr) rfl rfl (by kernel_rfl) (fun _ _ _ h => h) (fun _ h => exec_load72 (p := x) rfl rfl h.tgt) hS ?_
    simp only [Act.put, ap1, ap2, ap3]
    refine held_callP 6 30 91 #[.agg y.arr, .agg x.arr] rfl (by kernel_rfl) rfl (by kernel_rfl) (by kernel_rfl) (hc _) (fun e w5 hP => ?_)
    obtain ⟨rfl, hg⟩ := hP
    refine ⟨_, rfl, hS.grew hg, fun hS => ?_⟩
    clear hg
    simp only [Act.put, ap1, ap2, ap3]
    refine held_tk 7 31 (.bool false) rfl rfl (by kernel_rfl) (fun _ _ _ h => h) (fun _ _ => exec_lssI rfl rfl rfl hd) hS ?_
    simp only [Act.put, ap1, ap2, ap3]
    refine wpAnyH_done (by kernel_rfl) ?_ _
    have HT2 := Lib.hid hS.tgt
    have HW2 := Lib.hid hS.old
    clear hS
    go_wp2_with fail
    go_roundw
    case rel => exact ⟨⟨lo, (lo + hi) / 2, rfl, congrArg (Value.int .i64) (by omega), by omega, by omega, HLO, Lib.hid (fun t u ht hu => Int.not_lt.1 fun h => by have := HM.out ((lo + hi) / 2) t y u ht HY.out hu h; rw [HZ.out] at this; omega), HW2⟩, HT2⟩
    case measure => simp [numI]; omega
  ·obtain rfl : hi = lo := by omega
   have HK : Hid (l.countP (fun y => decide (cf y < 0)) = hi) := Lib.hid (count_at _ l hi (by rw [HLEN.out]; exact hin) (fun t y ht hy => decide_eq_true (HLO.out t y ht hy)) (fun t y ht hy => decide_eq_false (by have := HHI.out t y ht hy; omega)))
   by_cases hn2 : hi < n
   ·obtain ⟨b, off, y, rfl, hy, hr⟩ := EL.at (HL.out.below HW.out.below) (i := hi) hn2
    have HS : Hid (BsS w wr x b (off + hi * 7) y) := Lib.hid ⟨HT.out, hr, HW.out⟩
    have hc := fun w => HC2.out y w
    have HF : Hid (foundB l cf = decide (cf y = 0)) := Lib.hid (by unfold foundB; rw [HK.out, hy])
    generalize cf y = z at hc HF
    clear hy hr
    by_cases hz : z = 0
    ·have hz2 : (z == 0) = true := by simp [hz]
     have HE : Hid (foundB l cf = true) := Lib.hid (by rw [HF.out]; simp [hz])
     clear hz
     have hd : decide ((hi : Int) < (n : Int)) = true := by simp; omega
     go_wp2_with fail
     refine wp_region_held_drew (S := fun w' => BsS w w' x b (off + hi * 7) y) (by kernel_rfl) (HS.out.grew (Grew.refl _).drew) (fun hS => ?_)
     refine held_tk 0 35 (.int .i64 (hi : Int)) rfl rfl (by kernel_rfl) (fun _ _ _ h => h) (fun _ _ => rfl) hS ?_
     simp only [Act.put, ap1, ap2, ap3]
     refine held_tk 1 36 (.int .i64 (hi : Int)) rfl rfl (by kernel_rfl) (fun _ _ _ h => h) (fun _ _ => rfl) hS ?_
     simp only [Act.put, ap1, ap2, ap3]
     refine held_tk 2 37 (.int .i64 (n : Int)) rfl rfl (by kernel_rfl) (fun _ _ _ h => h) (fun _ _ => rfl) hS ?_
     simp only [Act.put, ap1, ap2, ap3]
     refine held_tk 3 38 (.bool true) rfl rfl (by kernel_rfl) (fun _ _ _ h => h) (fun _ _ => exec_lssI rfl rfl rfl hd) hS ?_
     simp only [Act.put, ap1, ap2, ap3]
     refine held_tk 4 39 (.bool true) rfl rfl (by kernel_rfl) (fun _ _ _ h => h) (fun _ _ => rfl) hS ?_
     simp only [Act.put, ap1, ap2, ap3]
     refine held_tk 5 40 (.func (.func 91) #[] #[]) rfl rfl (by kernel_rfl) (fun _ _ _ h => h) (fun _ _ => rfl) hS ?_
     simp only [Act.put, ap1, ap2, ap3]
     refine held_tk 6 41 (.slice (some ⟨b, off, none⟩) n cap) rfl rfl (by kernel_rfl) (fun _ _ _ h => h) (fun _ _ => rfl) hS ?_
     simp only [Act.put, ap1, ap2, ap3]
     refine held_tk 7 42 (.int .i64 (hi : Int)) rfl rfl (by kernel_rfl) (fun _ _ _ h => h) (fun _ _ => rfl) hS ?_
     simp only [Act.put, ap1, ap2, ap3]
     refine held_tk 8 43 (.pointer (some ⟨b, off + hi * 7, none⟩)) rfl rfl (by kernel_rfl) (fun _ _ _ h => h) (fun _ _ => exec_idx72 (i := hi) rfl rfl rfl rfl hn2) hS ?_
     simp only [Act.put, ap1, ap2, ap3]
     refine held_tk 9 44 (.agg y.arr) rfl rfl (by kernel_rfl) (fun _ _ _ h => h) (fun _ h => exec_ld72 (p := y) rfl rfl h.el) hS ?_
     simp only [Act.put, ap1, ap2, ap3]
     refine held_tk 10 45 (.agg x.arr) rfl rfl (by kernel_rfl) (fun _ _ _ h => h) (fun _ h => exec_load72 (p := x) rfl rfl h.tgt) hS ?_
     simp only [Act.put, ap1, ap2, ap3]
     refine held_callP 11 46 91 #[.agg y.arr, .agg x.arr] rfl (by kernel_rfl) rfl (by kernel_rfl) (by kernel_rfl) (hc _) (fun e w5 hP => ?_)
     obtain ⟨rfl, hg⟩ := hP
     refine ⟨_, rfl, hS.grew hg, fun hS => ?_⟩
     clear hg
     simp only [Act.put, ap1, ap2, ap3]
     refine held_tk 12 47 (.bool true) rfl rfl (by kernel_rfl) (fun _ _ _ h => h) (fun _ _ => exec_eqlI trivial rfl rfl rfl hz2) hS ?_
     simp only [Act.put, ap1, ap2, ap3]
     refine held_tk 13 48 (.bool true) rfl rfl (by kernel_rfl) (fun _ _ _ h => h) (fun _ _ => rfl) hS ?_
     simp only [Act.put, ap1, ap2, ap3]
     refine held_tk 14 6 (.int .i64 (hi : Int)) rfl rfl (by kernel_rfl) (fun _ _ _ h => h) (fun _ _ => rfl) hS ?_
     simp only [Act.put, ap1, ap2, ap3]
     refine held_tk 15 7 (.bool true) rfl rfl (by kernel_rfl) (fun _ _ _ h => h) (fun _ _ => rfl) hS ?_
     simp only [Act.put, ap1, ap2, ap3]
     refine wpAnyH_done (by kernel_rfl) ?_ _
     have HT2 := Lib.hid hS.tgt
     have HW2 := Lib.hid hS.old
     clear hS
     go_wp2_with fail
     go_ret2
     exact ⟨by rw [HK.out, HE.out]; rfl, HW2.out⟩
    ·have hz2 : (z == 0) = false := by simp [hz]
     have HE : Hid (foundB l cf = false) := Lib.hid (by rw [HF.out]; simp [hz])
     clear hz
     have hd : decide ((hi : Int) < (n : Int)) = true := by simp; omega
     go_wp2_with fail
     refine wp_region_held_drew (S := fun w' => BsS w w' x b (off + hi * 7) y) (by kernel_rfl) (HS.out.grew (Grew.refl _).drew) (fun hS => ?_)
     refine held_tk 0 35 (.int .i64 (hi : Int)) rfl rfl (by kernel_rfl) (fun _ _ _ h => h) (fun _ _ => rfl) hS ?_
     simp only [Act.put, ap1, ap2, ap3]
     refine held_tk 1 36 (.int .i64 (hi : Int)) rfl rfl (by kernel_rfl) (fun _ _ _ h => h) (fun _ _ => rfl) hS ?_
     simp only [Act.put, ap1, ap2, ap3]
     refine held_tk 2 37 (.int .i64 (n : Int)) rfl rfl (by kernel_rfl) (fun _ _ _ h => h) (fun _ _ => rfl) hS ?_
     simp only [Act.put, ap1, ap2, ap3]
     refine held_tk 3 38 (.bool true) rfl rfl (by kernel_rfl) (fun _ _ _ h => h) (fun _ _ => exec_lssI rfl rfl rfl hd) hS ?_
     simp only [Act.put, ap1, ap2, ap3]
     refine held_tk 4 39 (.bool true) rfl rfl (by kernel_rfl) (fun _ _ _ h => h) (fun _ _ => rfl) hS ?_
     simp only [Act.put, ap1, ap2, ap3]
     refine held_tk 5 40 (.func (.func 91) #[] #[]) rfl rfl (by kernel_rfl) (fun _ _ _ h => h) (fun _ _ => rfl) hS ?_
     simp only [Act.put, ap1, ap2, ap3]
     refine held_tk 6 41 (.slice (some ⟨b, off, none⟩) n cap) rfl rfl (by kernel_rfl) (fun _ _ _ h => h) (fun _ _ => rfl) hS ?_
     simp only [Act.put, ap1, ap2, ap3]
     refine held_tk 7 42 (.int .i64 (hi : Int)) rfl rfl (by kernel_rfl) (fun _ _ _ h => h) (fun _ _ => rfl) hS ?_
     simp only [Act.put, ap1, ap2, ap3]
     refine held_tk 8 43 (.pointer (some ⟨b, off + hi * 7, none⟩)) rfl rfl (by kernel_rfl) (fun _ _ _ h => h) (fun _ _ => exec_idx72 (i := hi) rfl rfl rfl rfl hn2) hS ?_
     simp only [Act.put, ap1, ap2, ap3]
     refine held_tk 9 44 (.agg y.arr) rfl rfl (by kernel_rfl) (fun _ _ _ h => h) (fun _ h => exec_ld72 (p := y) rfl rfl h.el) hS ?_
     simp only [Act.put, ap1, ap2, ap3]
     refine held_tk 10 45 (.agg x.arr) rfl rfl (by kernel_rfl) (fun _ _ _ h => h) (fun _ h => exec_load72 (p := x) rfl rfl h.tgt) hS ?_
     simp only [Act.put, ap1, ap2, ap3]
     refine held_callP 11 46 91 #[.agg y.arr, .agg x.arr] rfl (by kernel_rfl) rfl (by kernel_rfl) (by kernel_rfl) (hc _) (fun e w5 hP => ?_)
     obtain ⟨rfl, hg⟩ := hP
     refine ⟨_, rfl, hS.grew hg, fun hS => ?_⟩
     clear hg
     simp only [Act.put, ap1, ap2, ap3]
     refine held_tk 12 47 (.bool false) rfl rfl (by kernel_rfl) (fun _ _ _ h => h) (fun _ _ => exec_eqlI trivial rfl rfl rfl hz2) hS ?_
     simp only [Act.put, ap1, ap2, ap3]
     refine held_tk 13 48 (.bool false) rfl rfl (by kernel_rfl) (fun _ _ _ h => h) (fun _ _ => rfl) hS ?_
     simp only [Act.put, ap1, ap2, ap3]
     refine held_tk 14 6 (.int .i64 (hi : Int)) rfl rfl (by kernel_rfl) (fun _ _ _ h => h) (fun _ _ => rfl) hS ?_
     simp only [Act.put, ap1, ap2, ap3]
     refine held_tk 15 7 (.bool false) rfl rfl (by kernel_rfl) (fun _ _ _ h => h) (fun _ _ => rfl) hS ?_
     simp only [Act.put, ap1, ap2, ap3]
     refine wpAnyH_done (by kernel_rfl) ?_ _
     have HT2 := Lib.hid hS.tgt
     have HW2 := Lib.hid hS.old
     clear hS
     go_wp2_with fail
     go_ret2
     exact ⟨by rw [HK.out, HE.out]; rfl, HW2.out⟩
   ·have HE : Hid (foundB l cf = false) := Lib.hid (by unfold foundB; rw [HK.out, List.getElem?_eq_none (by rw [HLEN.out]; omega)])
    have hd : decide ((hi : Int) < (n : Int)) = false := by simp; omega
    go_wp2_with fail
    refine wp_region_held_drew (S := fun w' => Grew w w') (by kernel_rfl) (HW.out.trans (Grew.refl _).drew) (fun hS => ?_)
    refine held_tk 0 35 (.int .i64 (hi : Int)) rfl rfl (by kernel_rfl) (fun _ _ _ h => h) (fun _ _ => rfl) hS ?_
    simp only [Act.put, ap1, ap2, ap3]
    refine held_tk 1 36 (.int .i64 (hi : Int)) rfl rfl (by kernel_rfl) (fun _ _ _ h => h) (fun _ _ => rfl) hS ?_
    simp only [Act.put, ap1, ap2, ap3]
    refine held_tk 2 37 (.int .i64 (n : Int)) rfl rfl (by kernel_rfl) (fun _ _ _ h => h) (fun _ _ => rfl) hS ?_
    simp only [Act.put, ap1, ap2, ap3]
    refine held_tk 3 38 (.bool false) rfl rfl (by kernel_rfl) (fun _ _ _ h => h) (fun _ _ => exec_lssI rfl rfl rfl hd) hS ?_
    simp only [Act.put, ap1, ap2, ap3]
    refine held_tk 4 39 (.bool false) rfl rfl (by kernel_rfl) (fun _ _ _ h => h) (fun _ _ => rfl) hS ?_
    simp only [Act.put, ap1, ap2, ap3]
    refine held_sk 5 40 rfl rfl (by kernel_rfl) (fun _ _ _ h => h) hS ?_
    simp only [Act.put, ap1, ap2, ap3]
    refine held_sk 6 41 rfl rfl (by kernel_rfl) (fun _ _ _ h => h) hS ?_
    simp only [Act.put, ap1, ap2, ap3]
    refine held_sk 7 42 rfl rfl (by kernel_rfl) (fun _ _ _ h => h) hS ?_
    simp only [Act.put, ap1, ap2, ap3]
    refine held_sk 8 43 rfl rfl (by kernel_rfl) (fun _ _ _ h => h) hS ?_
    simp only [Act.put, ap1, ap2, ap3]
    refine held_sk 9 44 rfl rfl (by kernel_rfl) (fun _ _ _ h => h) hS ?_
    simp only [Act.put, ap1, ap2, ap3]
    refine held_sk 10 45 rfl rfl (by kernel_rfl) (fun _ _ _ h => h) hS ?_
    simp only [Act.put, ap1, ap2, ap3]
    refine held_sk 11 46 rfl rfl (by kernel_rfl) (fun _ _ _ h => h) hS ?_
    simp only [Act.put, ap1, ap2, ap3]
    refine held_sk 12 47 rfl rfl (by kernel_rfl) (fun _ _ _ h => h) hS ?_
    simp only [Act.put, ap1, ap2, ap3]
    refine held_tk 13 48 (.bool false) rfl rfl (by kernel_rfl) (fun _ _ _ h => h) (fun _ _ => rfl) hS ?_
    simp only [Act.put, ap1, ap2, ap3]
    refine held_tk 14 6 (.int .i64 (hi : Int)) rfl rfl (by kernel_rfl) (fun _ _ _ h => h) (fun _ _ => rfl) hS ?_
    simp only [Act.put, ap1, ap2, ap3]
    refine held_tk 15 7 (.bool false) rfl rfl (by kernel_rfl) (fun _ _ _ h => h) (fun _ _ => rfl) hS ?_
    simp only [Act.put, ap1, ap2, ap3]
    refine wpAnyH_done (by kernel_rfl) ?_ _
    have HW2 := Lib.hid hS
    clear hS
    go_wp2_with fail
    go_ret2
    exact ⟨by rw [HK.out, HE.out]; rfl, HW2.out⟩
set_option maxRecDepth 100000 in
set_option maxHeartbeats 1000000 in
theorem cloneL_any {a : Option Addr} {n cap : Nat} {l : List La} {w : World} (hl : LL w a n l) (hn : n < 500000) : Calls Tryz.prog 93 #[.slice a n cap] w (OwnsP 96 2 (cellsL l) w) := by
 have HLEN : Hid ((cellsL l).length = n) := Lib.hid hl.len
 have q1 : ∀ (w : World) (a : Option Addr) (n c n' c' : Nat), (binOp .eql 37 (.slice a n c) (.slice none n' c')).run Tryz.prog w = .ok (.bool a.isNone) w := fun w a n c n' c' => Lib.run_eql_slice_nil w _ _ a n c n' c' und37
 cases a with
 | none =>
  have HE : Hid (OwnsP 96 2 (cellsL l) w (.returned (.slice none 0 0)) w) := by
   have h := (GL.nil_of hl).2
   rw [h]
   exact Lib.hid ⟨none, 0, rfl, ownG_nil _ _ _ _, Below.refl _ _⟩
  clear hl
  go_enter Tryz.func93, Tryz.ntmps93
  go_wp2_with fail
  go_ret
  exact HE.out
 | some ad =>
  have HL := Lib.hid hl
  clear hl
  go_enter Tryz.func93, Tryz.ntmps93
  go_wp2_with (at_builtin; refine wpList_appendR (B := w.heap.size) 37 96 2 8 info96 und37 rfl (by decide) (by decide) rfl rfl rfl rfl (vs := []) ⟨World.ownsRow_made w #[] 0 (Nat.le_refl _) (Nat.zero_le _) (by simp), by simp, rfl⟩ (HL.out.below (below_one w _)) (cellsL_each l) (cellsL_one l) (by omega) (by simp) ?_; intro a3 cap3 w3 ho3 hk3 hl3)
  have HE : Hid (OwnsP 96 2 (cellsL l) w (.returned (.slice a3 n cap3)) w3) := Lib.hid (by
   rw [Nat.zero_add] at ho3
   rw [List.nil_append] at ho3
   refine ⟨a3, cap3, by rw [HLEN.out], by rw [HLEN.out]; exact ho3, (below_one w _).trans (hk3.below (by simp) (fun k hk => ?_))⟩
   obtain ⟨ad, e1, e2⟩ := hk
   cases e1
   rw [e2]
   exact Nat.le_refl _)
  clear ho3 hk3 hl3
  go_wp2_with fail
  go_ret
  exact HE.out
set_option maxRecDepth 100000 in
set_option maxHeartbeats 2000000 in
theorem bsL_any {a : Option Addr} {n cap : Nat} {l : List La} {w : World} (hl : LL w a n l) (hn : n < 500000) (c : Nat) (hm : Mono l fun y => cmpN y.c c) :
  Calls Tryz.prog 109 #[.slice a n cap, .int .u16 (c : Int), .func (.func 110) #[] #[]] w (FindP (l.countP fun y => decide (cmpN y.c c < 0)) (foundB l fun y => cmpN y.c c) w) := by
 have HL := Lib.hid hl
 have hlen := hl.len'
 have HLEN := Lib.hid hlen
 have HM := Lib.hid hm
 have HC := Lib.hid (fun (y : La) w => tickCmp_any y c w)
 obtain ⟨cf, hcf⟩ : ∃ cf : La → Int, (fun y => cmpN y.c c) = cf := ⟨_, rfl⟩
 have HCF : Hid (∀ y, cmpN y.c c = cf y) := Lib.hid (fun y => by rw [← hcf])
 have HG : Hid (FindP (l.countP fun y => decide (cmpN y.c c < 0)) (foundB l fun y => cmpN y.c c) w = FindP (l.countP fun y => decide (cf y < 0)) (foundB l cf) w) := Lib.hid (by rw [← hcf])
 rw [HG.out]
 rw [hcf] at HM
 have HC2 : Hid (∀ (y : La) w, Calls Tryz.prog 110 #[.agg y.arr, .int .u16 (c : Int)] w (CmpP (cf y) w)) := Lib.hid (fun y w => by rw [← HCF.out]; exact HC.out y w)
 clear hl hlen hm hcf HG HCF HC
 go_enter Tryz.func109, Tryz.ntmps109
 go_wp2_with fail
 go_loopw [9, 10] (BsR w l n cf) (fun v u _ => (numI u - numI v).toNat)
 case atStart => exact ⟨0, n, rfl, rfl, Nat.zero_le _, Nat.le_refl _, Lib.hid (fun t y h => by omega), Lib.hid (fun t y h1 h2 => by have := (List.getElem?_eq_some_iff.1 h2).1; have := HLEN.out; omega), Lib.hid (Grew.refl w)⟩
 case round =>
  obtain ⟨lo, hi, rfl, rfl, hlh, hin, HLO, HHI, HW⟩ := hrel
  by_cases hlt : lo < hi
  ·obtain ⟨b, off, y, rfl, hy, hr⟩ := LL.at (HL.out.below HW.out.below) (i := (lo + hi) / 2) (by omega)
   have HY := Lib.hid hy
   have HR := Lib.hid hr
   clear hy hr
   have hc := fun w => HC2.out y w
   obtain ⟨z, hz⟩ : ∃ z, cf y = z := ⟨_, rfl⟩
   have HZ := Lib.hid hz
   rw [hz] at hc
   clear hz
   by_cases hneg : z < 0
   ·go_wp2_with (first | (refine wpList_run rfl (exec_idx96 (i := (lo + hi) / 2) rfl rfl rfl (by omega) (by omega)) ?_) | (refine wpList_run rfl (exec_ld96 (p := y) rfl rfl HR.out) ?_) | (refine wpList_enter 110 #[.agg y.arr, .int .u16 (c : Int)] rfl ⟨_, rfl⟩ (by kernel_rfl) (hc _) ?_; intro e w' hP; obtain ⟨rfl, hg⟩ := hP; refine ⟨_, rfl, ?_⟩))
    have HW2 := Lib.hid (HW.out.trans hg)
    clear hg
    go_wp2_with fail
    go_roundw
    case rel => exact ⟨(lo + hi) / 2 + 1, hi, congrArg (Value.int .i64) (by omega), rfl, by omega, hin, Lib.hid (fun t u ht hu => HM.out t ((lo + hi) / 2) u y (by omega) hu HY.out (by rw [HZ.out]; exact hneg)), HHI, HW2⟩
    case measure => simp [numI]; omega
   ·go_wp2_with (first | (refine wpList_run rfl (exec_idx96 (i := (lo + hi) / 2) rfl rfl rfl (by omega) (by omega)) ?_) | (refine wpList_run rfl (exec_ld96 (p := y) rfl rfl HR.out) ?_) | (refine wpList_enter 110 #[.agg y.arr, .int .u16 (c : Int)] rfl ⟨_, rfl⟩ (by kernel_rfl) (hc _) ?_; intro e w' hP; obtain ⟨rfl, hg⟩ := hP; refine ⟨_, rfl, ?_⟩))
    have HW2 := Lib.hid (HW.out.trans hg)
    clear hg
    go_wp2_with fail
    go_roundw
    case rel => exact ⟨lo, (lo + hi) / 2, rfl, congrArg (Value.int .i64) (by omega), by omega, by omega, HLO, Lib.hid (fun t u ht hu => Int.not_lt.1 fun h => by have := HM.out ((lo + hi) / 2) t y u ht HY.out hu h; rw [HZ.out] at this; omega), HW2⟩
    case measure => simp [numI]; omega
  ·obtain rfl : hi = lo := by omega
   have HK : Hid (l.countP (fun y => decide (cf y < 0)) = hi) := Lib.hid (count_at _ l hi (by rw [HLEN.out]; exact hin) (fun t y ht hy => decide_eq_true (HLO.out t y ht hy)) (fun t y ht hy => decide_eq_false (by have := HHI.out t y ht hy; omega)))
   by_cases hn2 : hi < n
   ·obtain ⟨b, off, y, rfl, hy, hr⟩ := LL.at (HL.out.below HW.out.below) (i := hi) hn2
    have HR := Lib.hid hr
    have hc := fun w => HC2.out y w
    have HF : Hid (foundB l cf = decide (cf y = 0)) := Lib.hid (by unfold foundB; rw [HK.out, hy])
    generalize cf y = z at hc HF
    clear hy hr
    by_cases hz : z = 0
    ·have hz2 : (z == 0) = true := by simp [hz]
     have HE : Hid (foundB l cf = true) := Lib.hid (by rw [HF.out]; simp [hz])
     clear hz
     go_wp2_with (first | (refine wpList_runW (exec_idx96 (i := hi) rfl rfl rfl rfl hn2) (by kernel_rfl) ?_) | (refine wpList_runW (exec_ld96 (p := y) rfl rfl HR.out) (by kernel_rfl) ?_) | (refine wpList_enterW 110 #[.agg y.arr, .int .u16 (c : Int)] (by kernel_rfl) ⟨_, rfl⟩ (by kernel_rfl) (hc _) ?_; intro e w' hP; obtain ⟨rfl, hg⟩ := hP; refine ⟨_, rfl, ?_⟩))
     have HW2 := Lib.hid (HW.out.trans hg)
     clear hg
     go_wp2_with fail
     go_ret2
     exact ⟨by rw [HK.out, HE.out]; rfl, HW2.out⟩
    ·have hz2 : (z == 0) = false := by simp [hz]
     have HE : Hid (foundB l cf = false) := Lib.hid (by rw [HF.out]; simp [hz])
     clear hz
     go_wp2_with (first | (refine wpList_runW (exec_idx96 (i := hi) rfl rfl rfl rfl hn2) (by kernel_rfl) ?_) | (refine wpList_runW (exec_ld96 (p := y) rfl rfl HR.out) (by kernel_rfl) ?_) | (refine wpList_enterW 110 #[.agg y.arr, .int .u16 (c : Int)] (by kernel_rfl) ⟨_, rfl⟩ (by kernel_rfl) (hc _) ?_; intro e w' hP; obtain ⟨rfl, hg⟩ := hP; refine ⟨_, rfl, ?_⟩))
     have HW2 := Lib.hid (HW.out.trans hg)
     clear hg
     go_wp2_with fail
     go_ret2
     exact ⟨by rw [HK.out, HE.out]; rfl, HW2.out⟩
   ·have HE : Hid (foundB l cf = false) := Lib.hid (by unfold foundB; rw [HK.out, List.getElem?_eq_none (by rw [HLEN.out]; omega)])
    go_wp2_with fail
    go_ret2
    exact ⟨by rw [HK.out, HE.out]; rfl, HW.out⟩
end Go.Proofs.YtnekpgmgnepdoaaGreat
end
