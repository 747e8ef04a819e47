/- The library's sort of strings and its iterators over a map's keys, as they lie here; walk of List. -/
import Derived.Test.YtjpmjidpdgikgaaKf
import Derived.Shelf.Sort.Plain
import Derived.Shelf.Slices.In.SortNone
import Derived.Shelf.SlIter.Sorted
import Derived.Shelf.SlIter.Keys
import Derived.RangeFuncBound
import Derived.RangeFuncGives
import Derived.TacticsInMore
import Derived.LoopNIn
import Derived.LoopIn
import Derived.Maps.OwnIn
namespace Go.Proofs.Ytjpmjidpdgikgaa
open Go.RowKit Go.Maps Go.Shelf
open Go.Proofs (encStr)

def sortS_ren : Go.Shelf.Ren := ⟨fun | 190 => 33 | 125 => 39 | 258 => 38 | 128 => 49 | 129 => 50 | 302 => 40 | 303 => 41 | 304 => 42 | 305 => 43 | 306 => 44 | 307 => 45 | 308 => 46 | 309 => 47 | 310 => 48 | 333 => 51 | 329 => 52 | 330 => 53 | 334 => 54 | 335 => 55 | 336 => 56 | 344 => 57 | n => n, fun | 31 => 45 | 46 => 72 | 51 => 84 | 53 => 86 | 183 => 76 | 182 => 75 | 131 => 81 | 218 => 87 | 222 => 91 | 228 => 93 | 229 => 94 | n => n, fun n => n⟩
theorem sortS_laid : Lays.n190 Try.prog sortS_ren := {
  mixed := by kernel_rfl,
  f125 := Try.func39.trans (congrArg some (by kernel_rfl)),
  f128 := Try.func49.trans (congrArg some (by kernel_rfl)),
  f129 := Try.func50.trans (congrArg some (by kernel_rfl)),
  f190 := Try.func33.trans (congrArg some (by kernel_rfl)),
  f258 := Try.func38.trans (congrArg some (by kernel_rfl)),
  f302 := Try.func40.trans (congrArg some (by kernel_rfl)),
  f303 := Try.func41.trans (congrArg some (by kernel_rfl)),
  f304 := Try.func42.trans (congrArg some (by kernel_rfl)),
  f305 := Try.func43.trans (congrArg some (by kernel_rfl)),
  f306 := Try.func44.trans (congrArg some (by kernel_rfl)),
  f307 := Try.func45.trans (congrArg some (by kernel_rfl)),
  f308 := Try.func46.trans (congrArg some (by kernel_rfl)),
  f309 := Try.func47.trans (congrArg some (by kernel_rfl)),
  f310 := Try.func48.trans (congrArg some (by kernel_rfl)),
  f329 := Try.func52.trans (congrArg some (by kernel_rfl)),
  f330 := Try.func53.trans (congrArg some (by kernel_rfl)),
  f333 := Try.func51.trans (congrArg some (by kernel_rfl)),
  f334 := Try.func54.trans (congrArg some (by kernel_rfl)),
  f335 := Try.func55.trans (congrArg some (by kernel_rfl)),
  f336 := Try.func56.trans (congrArg some (by kernel_rfl)),
  f344 := Try.func57.trans (congrArg some (by kernel_rfl)),
  t0 := Try.underlying0,
  a0 := Try.isAgg0,
  z0 := Try.sizeOf0,
  v0 := Try.zeroValue0,
  t3 := Try.underlying3,
  a3 := Try.isAgg3,
  z3 := Try.sizeOf3,
  v3 := Try.zeroValue3,
  t4 := Try.underlying4,
  a4 := Try.isAgg4,
  z4 := Try.sizeOf4,
  v4 := Try.zeroValue4,
  t5 := Try.underlying5,
  a5 := Try.isAgg5,
  z5 := Try.sizeOf5,
  v5 := Try.zeroValue5,
  t9 := Try.underlying9,
  a9 := Try.isAgg9,
  z9 := Try.sizeOf9,
  v9 := Try.zeroValue9,
  t31 := Try.underlying45,
  a31 := Try.isAgg45,
  z31 := Try.sizeOf45,
  v31 := Try.zeroValue45,
  t46 := Try.underlying72,
  a46 := Try.isAgg72,
  z46 := Try.sizeOf72,
  v46 := Try.zeroValue72,
  t51 := Try.underlying84,
  a51 := Try.isAgg84,
  z51 := Try.sizeOf84,
  v51 := Try.zeroValue84,
  t53 := Try.underlying86,
  a53 := Try.isAgg86,
  z53 := Try.sizeOf86,
  v53 := Try.zeroValue86,
  t131 := Try.underlying81,
  a131 := Try.isAgg81,
  z131 := Try.sizeOf81,
  v131 := Try.zeroValue81,
  t182 := Try.underlying75,
  a182 := Try.isAgg75,
  z182 := Try.sizeOf75,
  v182 := Try.zeroValue75,
  t183 := Try.underlying76,
  a183 := Try.isAgg76,
  z183 := Try.sizeOf76,
  v183 := Try.zeroValue76,
  t218 := Try.underlying87,
  a218 := Try.isAgg87,
  z218 := Try.sizeOf87,
  v218 := Try.zeroValue87,
  t222 := Try.underlying91,
  a222 := Try.isAgg91,
  z222 := Try.sizeOf91,
  v222 := Try.zeroValue91,
  t228 := Try.underlying93,
  a228 := Try.isAgg93,
  z228 := Try.sizeOf93,
  v228 := Try.zeroValue93,
  t229 := Try.underlying94,
  a229 := Try.isAgg94,
  z229 := Try.sizeOf94,
  v229 := Try.zeroValue94,
}
def iterS_ren : Go.Shelf.Ren := ⟨fun | 6 => 28 | 8 => 32 | 9 => 33 | 11 => 37 | n => n, fun | 24 => 45 | 26 => 9 | 28 => 63 | 33 => 55 | n => n, fun n => n⟩
theorem iterS_laid : SlLaysZ.n6 Try.prog iterS_ren := {
  mixed := by kernel_rfl,
  f6 := ⟨Try.f28.name, by decide, Try.func28.trans (congrArg some (by kernel_rfl))⟩,
  f8 := ⟨Try.f32.name, by decide, Try.func32.trans (congrArg some (by kernel_rfl))⟩,
  f11 := ⟨Try.f37.name, by decide, Try.func37.trans (congrArg some (by kernel_rfl))⟩,
  t0 := Try.underlying0,
  a0 := Try.isAgg0,
  z0 := Try.sizeOf0,
  v0 := Try.zeroValue0,
  t24 := Try.underlying45,
  a24 := Try.isAgg45,
  z24 := Try.sizeOf45,
  v24 := Try.zeroValue45,
  t26 := Try.underlying9,
  a26 := Try.isAgg9,
  z26 := Try.sizeOf9,
  v26 := Try.zeroValue9,
  t28 := Try.underlying63,
  a28 := Try.isAgg63,
  z28 := Try.sizeOf63,
  v28 := Try.zeroValue63,
  i26 := by kernel_rfl,
}

set_option maxRecDepth 100000 in
set_option maxHeartbeats 1000000 in
/-- The iterator over the names, for every loop body that goes on. -/
theorem keys_in34 {f : Lit → Option Value} {m n : Nat} {D : DataW Value} (l Bm : Nat) (J : List (List UInt8) → World → Prop)
    (hY : ∀ pre x W, J pre W → pre.length < n → YieldAt Fence.wide 0 Try.prog l #[encStr x] W fun e W' => e = .returned (.bool true) ∧ J (pre ++ [x]) W' ∧ KeepsWalks W W')
    (W : World) (hJ : AbidesFrom W.heap.size J) (hc : W.cell? ⟨Bm, 0, none⟩ = some (.map (some m))) (hm : MpD W 9 m n f D) (h0 : J [] W) :
    CallsIn Fence.wide 1 Try.prog 34 #[.func (.yield l) #[] #[], .pointer (some ⟨Bm, 0, none⟩)] W fun e W' => (∃ v, e = .returned v) ∧ ∃ ss, (NameL f (ss.map tBA) ∧ ss.length ≤ n) ∧ J ss W' := by
  have HM := Lib.hid hm
  have hown := hm.own
  clear hm
  refine callsIn_of_wp Try.func34 rfl trivial ?_ rfl
  simp only [Try.ntmps34, List.size_toArray, List.length_cons, List.length_nil, Nat.reduceAdd, Nat.reduceSub, Array.replicate_succ, Array.replicate_zero, List.push_toArray, List.append_toArray, List.nil_append, List.cons_append]
  gi_wp2_with (first
    | (gi_at_range; refine wpListIn_range_own _ rfl _ 40 rfl 9 51 law9 Try.underlying40 _ m n _ rfl hown ?_; intro w0 hrg0 hg0 hs0)
    | gi_in)
  go_frame
  gi_loopw [3] (fun _ wr => ∃ (left : Lit → Bool) (cnt : Nat) (ss : List (List UInt8)), wr.ranges Try.prog 9 anyE m W.heap.size n D left cnt ∧ ss.length + cnt ≤ n ∧ Collected D left ss ∧ J ss wr)
    (fun _ wr => wr.rangeLeft m W.heap.size)
  case atStart =>
    exact ⟨_, _, [], hrg0, by rw [HM.out.size]; simp, Collected.start D, hJ [] W w0 none h0 hg0 (fun r e => by cases e)⟩
  case round =>
    obtain ⟨left, cnt, ss, hrg, hcs, hC, hJs⟩ := hrel
    gi_wp2_with (first
      | (gi_at_next; refine wpListIn_next_ranges _ rfl _ rfl 9 law9 anyE encStr id (fun key kl hk => by obtain ⟨x, hx, _⟩ := Maps.keyOf_str Try.underlying9 hk; exact ⟨x, hx⟩) (fun v _ _ => ⟨v, rfl⟩) m W.heap.size n _ _ _ rfl hrg ?_ ?_)
      | gi_in)
    · intro hc0 hl0
      gi_wp2
      go_end0
      exact ⟨⟨_, rfl⟩, ss, ⟨came_names HM.out hC hl0, by omega⟩, hJs⟩
    · intro x c kl yd yp w2 cnt2 hkey hlk hv hat hrg2 hlt hg2 hs2 hen
      obtain ⟨x', ex, rfl, _⟩ := Maps.keyOf_str Try.underlying9 hkey
      obtain rfl : x = x' := encStr_inj ex
      have hJ2 : J ss w2 := hJ ss wr w2 (some W.heap.size) hJs hg2 (fun r e => by cases e; exact ⟨Nat.le_refl _, hrg.iter_walk⟩)
      obtain ⟨fn, tmps, assign, body, hy, hR⟩ := hY ss x w2 hJ2 (by omega)
      clear hs2
      gi_wp2
      refine hR.mono ?_
      have hC2 := hC.step hlk hat
      rintro e W3 ⟨rfl, hJ3, hk3⟩
      gi_wp2
      have hrg3 := hrg2.of_walks hk3
      go_roundw
      case rel => exact ⟨_, cnt2, ss ++ [x], hrg3, by simp; omega, hC2, hJ3⟩
      case measure => rw [hrg3.left_eq, hrg.left_eq]; exact hlt
theorem keys_gives {f : Lit → Option Value} {m n Bm : Nat} (w : World) (hBm : Bm < w.heap.size) (hc : w.cell? ⟨Bm, 0, none⟩ = some (.map (some m))) (hm : MpF w 9 m n f) :
    SeqGives Fence.wide 1 Try.prog 34 #[.pointer (some ⟨Bm, 0, none⟩)] encStr (fun ss => NameL f (ss.map tBA) ∧ ss.length ≤ n) n w := fun l J W hW hJ hY h0 => by
  obtain ⟨D, hD⟩ := hm.kept (S := fun k => w.heap.size ≤ k) ⟨hW.os, hW.tape, hW.output, hW.size, fun k hk _ => hW.block k hk⟩ (by have := hm.lt; omega)
  exact keys_in34 l Bm J hY W hJ ((hW.cell (p := ⟨Bm, 0, none⟩) hBm).trans hc) hD h0
theorem keys29 (m : Option Nat) (w : World) : Calls Try.prog 29 #[.map m] w fun e w' => e = .returned (.func (.func 34) #[] #[.pointer (some ⟨w.heap.size, 0, none⟩)]) ∧ w' = w.alloc (.cells #[.map m] 40) := by
  go_enter Try.func29, Try.ntmps29
  go_wp2
  go_ret
  exact ⟨rfl, rfl⟩
theorem sortsIn : AnyZ.SortsIn Try.prog iterS_ren Fence.wide 3 :=
  ⟨fun blk off cap ss W hH hb hs => callsIn_wide.2 (Any.slices_Sort_string sortS_laid blk off cap ss W hH hb hs), fun p cap W => callsIn_wide.2 (Any.slices_Sort_string_none sortS_laid p cap W)⟩
/-- A slice of strings of the call's own that lists all names. -/
def OwnS (w : World) (B : Nat) (a : Option Addr) (n cap : Nat) (L : List ByteArray) : Prop := w.ownsRow B 9 1 (.slice a n cap) n (L.map Value.string)
def ListP (f : Lit → Option Value) (n : Nat) (w : World) (e : Ending) (w' : World) : Prop := ∃ a cap L, NameL f L ∧ L.length ≤ n ∧ e = .returned (.slice a L.length cap) ∧ OwnS w' w.heap.size a L.length cap L ∧ Below w.heap.size w w'
theorem sorted28 {f : Lit → Option Value} {m n Bm : Nat} (w : World) (hBm : Bm < w.heap.size) (hc : w.cell? ⟨Bm, 0, none⟩ = some (.map (some m))) (hm : MpF w 9 m n f) (hn : n ≤ 1000000) :
    Calls Try.prog 28 #[.func (.func 34) #[] #[.pointer (some ⟨Bm, 0, none⟩)]] w (ListP f n w) := by
  refine (callsIn_wide.1 (AnyZ.sorted_in iterS_laid Fence.wide 4 trivial trivial trivial trivial rfl (by omega) sortsIn (enters_of Try.func33 (by kernel_rfl) rfl) 34 _ trivial (enters_of Try.func34 (by kernel_rfl) rfl) _ n (by unfold maxLen; omega) (by omega) w (keys_gives w hBm hc hm))).mono ?_
  rintro e w' ⟨v, ss, rfl, ⟨hN, hl⟩, hrow, hnil, hb⟩
  have hp := List.mergeSort_perm ss (fun x y => decide (x ≤ y))
  have hL : NameL f ((ss.mergeSort fun x y => decide (x ≤ y)).map tBA) := ⟨(hp.map tBA).nodup_iff.2 hN.1, fun s => by rw [(hp.map tBA).mem_iff]; exact hN.2 s⟩
  have hlen : ((ss.mergeSort fun x y => decide (x ≤ y)).map tBA).length = ss.length := by rw [List.length_map, hp.length_eq]
  have hrow' : w'.ownsRow w.heap.size 9 1 v ss.length (((ss.mergeSort fun x y => decide (x ≤ y)).map tBA).map Value.string) := by
    rw [List.map_map]; exact hrow
  rcases hrow.2 with ⟨rfl, hz⟩ | ⟨g, cap, cur, rfl, _⟩
  · refine ⟨none, 0, _, hL, by omega, by rw [hlen, hz], ?_, hb⟩
    unfold OwnS
    rw [hlen]
    rw [hz] at hrow' ⊢
    exact hrow'
  · refine ⟨_, cap, _, hL, by omega, by rw [hlen], ?_, hb⟩
    unfold OwnS
    rw [hlen]
    exact hrow'
theorem list_any {w : World} {B p room : Nat} {s : Sta} (h : Dz w B p room s) (hk : s.k1 ≤ 1000000) : Calls Try.prog 16 #[.pointer (some ⟨p, 0, none⟩)] w (ListP s.f1 s.k1 w) := by
  have HM := made_any h.blk
  rw [show decide (0 < room) = true by simp [h.room]] at HM
  have HK := Lib.hid hk
  clear hk
  go_enter Try.func16, Try.ntmps16
  go_wp2_with fail
  refine HM.mono ?_
  rintro e w1 ⟨rfl, hb⟩
  have H1 := Lib.hid (h.below hb)
  have HB := Lib.hid hb
  clear h HM hb
  have u2 : w1.cell? ⟨p, 2, none⟩ = some (.map (some s.m1)) := H1.out.blk.cell 2
  have HK29 := Lib.hid (keys29 (some s.m1) w1)
  go_wp2_with fail
  refine HK29.out.mono ?_
  rintro e w2 ⟨rfl, rfl⟩
  have hbw := below_one w1 (.cells #[.map (some s.m1)] 40)
  have HS := Lib.hid (sorted28 (Bm := w1.heap.size) (w1.alloc (.cells #[.map (some s.m1)] 40)) (by simp) ((Blk.new w1 40 #[.map (some s.m1)]).cell 0) (H1.out.below hbw).mp1 HK.out)
  have HB2 := Lib.hid (HB.out.trans (hbw.mono HB.out.size))
  clear hbw u2 HK29
  generalize w1.alloc (.cells #[.map (some s.m1)] 40) = w2 at HS HB2 ⊢
  go_wp2_with fail
  refine HS.out.mono ?_
  rintro e w3 ⟨a, cap, L, hL, hl, rfl, ho, hb3⟩
  have HR : Hid (ListP s.f1 s.k1 w (.returned (.slice a L.length cap)) w3) := Lib.hid ⟨a, cap, L, hL, hl, rfl, ⟨ho.1, ho.2.imp id (fun ⟨g, cap', cur, hv, hB, rest⟩ => ⟨g, cap', cur, hv, Nat.le_trans HB2.out.size hB, rest⟩)⟩, HB2.out.trans (hb3.mono HB2.out.size)⟩
  clear hL hl ho hb3 HS
  go_wp2_with fail
  go_ret
  exact HR.out
end Go.Proofs.Ytjpmjidpdgikgaa
