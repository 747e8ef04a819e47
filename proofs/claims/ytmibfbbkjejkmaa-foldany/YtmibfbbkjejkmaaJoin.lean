/- Walks of Join and Meet, the program's and the document's: they answer the greater, and the smaller, number at each index, and turn nothing that was there. -/
import Derived.Test.YtmibfbbkjejkmaaArr
import Derived.Deep.RegionHeld3
import Derived.Deep.RegionWith
import Derived.StillTailTactics
namespace Go.Proofs.Ytmibfbbkjejkmaa
open Go.RowKit

/-- A vector is answered; nothing that was there has turned. -/
def Gives (v : V) (w : World) (e : Ending) (w' : World) : Prop := e = .returned (.agg v.arr) ∧ Below w.heap.size w w'

theorem max_cast (x y : Nat) : (if (x : Int) < (y : Int) then (y : Int) else (x : Int)) = ((max x y : Nat) : Int) := by split <;> omega
theorem min_cast (x y : Nat) : (if (y : Int) < (x : Int) then (y : Int) else (x : Int)) = ((min x y : Nat) : Int) := by split <;> omega

/-- Three blocks that a call made: two vectors and an answer. -/
structure Three (w W : World) (x b : V) : Prop where
  one : Blk W w.heap.size 25 x.arr
  two : Blk W (w.heap.size + 1) 25 b.arr
  ans : Blk W (w.heap.size + 2) 25 V.zero.arr
  old : Below w.heap.size w W

theorem three_new (w : World) (a b : V) : Three w (((w.alloc (.cells a.arr 25)).alloc (.cells b.arr 25)).alloc (.cells V.zero.arr 25)) a b := by
  have h1 := Blk.new w 25 a.arr
  have h2 := Blk.new (w.alloc (.cells a.arr 25)) 25 b.arr
  have h3 := Blk.new ((w.alloc (.cells a.arr 25)).alloc (.cells b.arr 25)) 25 V.zero.arr
  have k2 := Kept.alloc (fun _ => False) (w.alloc (.cells a.arr 25)) (.cells b.arr 25)
  have k3 := Kept.alloc (fun _ => False) ((w.alloc (.cells a.arr 25)).alloc (.cells b.arr 25)) (.cells V.zero.arr 25)
  simp only [World.size_alloc] at h2 h3
  exact ⟨(h1.kept k2 (fun h => h)).kept k3 (fun h => h), h2.kept k3 (fun h => h), h3, (below_two' _ _ _).alloc (by simp; omega) _⟩

theorem Three.put {w W : World} {x b : V} (h : Three w W x b) {k s : Nat} (hk : k < 16) (hs : s < 4294967296) : Three w (W.setCell ⟨w.heap.size, k, none⟩ (.int .u32 (s : Int))) (x.put k s) b := by
  have k1 := Kept.setCell W ⟨w.heap.size, k, none⟩ (.int .u32 (s : Int))
  refine ⟨?_, h.two.kept k1 (by simp), h.ans.kept k1 (by simp), h.old.setCell (by simp) _⟩
  have := h.one.set k (.int .u32 (s : Int))
  rwa [V.arr_put x hk hs] at this

theorem Three.drew {w W : World} {x b : V} (h : Three w W x b) : Three w W.drew x b := ⟨h.one, h.two, h.ans, h.old.drew⟩

theorem Three.ret {w W : World} {x b : V} (h : Three w W x b) {ds : Array Value} : Below w.heap.size w (W.setRow (w.heap.size + 1 + 1) ds) :=
  ((Kept.of_below (S := fun k => k = w.heap.size + 1 + 1) h.old).trans (Kept.setRow _ _ _) (fun _ h => .inl h)).below (Nat.le_refl _) (fun k hk => by omega)

set_option maxRecDepth 100000 in
set_option maxHeartbeats 1000000 in
theorem join_any (a b : V) (w : World) : Calls Try.prog 27 #[.agg a.arr, .agg b.arr] w (Gives (V.join a b) w) := by
  have hb1 := fun (v : V) (w : World) => box25 v w
  have ha1 := fun (w : World) => alloc25 w
  go_enter Try.func27, Try.ntmps27
  go_wp2_with fail
  clear hb1 ha1
  have HT := Lib.hid (three_new w a b)
  rw [← zero_arr]
  generalize ((w.alloc (.cells a.arr 25)).alloc (.cells b.arr 25)).alloc (.cells V.zero.arr 25) = W at HT

  go_loopw [6] (fun i wr => ∃ k : Nat, k ≤ 16 ∧ i = .int .i64 (k : Int) ∧ Hid (Three w wr (V.joinTo a b k) b)) (fun i _ => 16 - (intOf i).toNat)
  case atStart => exact ⟨0, by omega, rfl, Lib.hid (by rw [V.joinTo_zero]; exact HT.out)⟩
  case round =>
    obtain ⟨k, hk, rfl, HR⟩ := hrel
    by_cases hlt : k < 16
    · have c1 : wr.cell? ⟨w.heap.size, k, none⟩ = some (.int .u32 (a.at_ k : Int)) := by rw [HR.out.one.cell, V.arr_at _ hlt, V.joinTo_here a b hlt]
      have c2 : wr.cell? ⟨w.heap.size + 1, k, none⟩ = some (.int .u32 (b.at_ k : Int)) := by rw [HR.out.two.cell, V.arr_at _ hlt]
      have f1 : wr.frozen? ⟨w.heap.size, k, none⟩ = false := HR.out.one.frozen k
      have l1 := a.lt k
      have l2 := b.lt k
      generalize hx : a.at_ k = x at c1 l1
      generalize hy : b.at_ k = y at c2 l2
      have HX := Lib.hid hx
      have HY := Lib.hid hy
      have hm := max_cast x y
      clear hx hy
      go_wp2_with fail
      go_still_tail 9, (by kernel_rfl)
      go_wp2_with fail
      go_roundw
      case rel =>
        refine ⟨k + 1, by omega, by go_num, Lib.hid ?_⟩
        have := HR.out.put (s := max x y) hlt (by omega)
        rw [V.joinTo_succ a b hlt, HX.out, HY.out]
        rw [← max_cast] at this
        simpa using this.drew
      case measure => simp [intOf]; omega
    · obtain rfl : k = 16 := by omega
      go_wp2_with (first | (refine wpList_load25 rfl rfl rfl HR.out.one ?_) | (refine wpList_store25 rfl rfl rfl rfl HR.out.ans ?_))
      exact bodyPost_ret (ret25 rfl rfl (Blk.row HR.out.ans)) rfl ⟨by rw [V.joinTo_all], HR.out.ret⟩

end Go.Proofs.Ytmibfbbkjejkmaa
