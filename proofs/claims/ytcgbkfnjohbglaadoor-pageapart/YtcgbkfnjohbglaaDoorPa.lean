/- Walks of Less, rising and Right of the program. -/
import Derived.Test.YtcgbkfnjohbglaaDoorEa
namespace Go.Proofs.YtcgbkfnjohbglaaDoor
open Go.RowKit

theorem below_one (w : World) (o : Obj) : Below w.heap.size w (w.alloc o) := (Below.refl _ _).alloc (Nat.le_refl _) _
theorem drew_below (w : World) : Below w.heap.size w w.drew := (Below.refl _ _).drew
theorem Says.below {v : Value} {w w1 w' : World} {e : Ending} (h : Says v w1 e w') (hb : Below w.heap.size w w1) : Says v w e w' := ⟨h.1, hb.trans (h.2.mono hb.size)⟩

set_option maxHeartbeats 1000000 in
theorem less_core (c r s c' r' s' : Nat) (w : World) (b : Bool)
    (hb : (if c ≠ c' then decide (c < c') else if r ≠ r' then decide (r < r') else decide (s < s')) = b) :
    Calls Tryd.prog 16 #[.agg #[.int .u16 (c : Int), .int .u8 (r : Int), .int .u32 (s : Int)], .agg #[.int .u16 (c' : Int), .int .u8 (r' : Int), .int .u32 (s' : Int)]] w (Says (.bool b) w) := by
  have HB := Lib.hid hb
  clear hb
  by_cases h1 : c = c'
  · subst h1
    have q1 : ((c : Int) != (c : Int)) = false := by simp
    by_cases h2 : r = r'
    · subst h2
      have q2 : ((r : Int) != (r : Int)) = false := by simp
      go_enter Tryd.func16, Tryd.ntmps16
      go_wp2_with fail
      go_ret
      exact ⟨ret_bool (by rw [← HB.out]; simp), below_two' _ _ _⟩
    · have q2 : ((r : Int) != (r' : Int)) = true := by simp; omega
      have HR := Lib.hid h2
      clear h2
      go_enter Tryd.func16, Tryd.ntmps16
      go_wp2_with fail
      go_ret
      exact ⟨ret_bool (by rw [← HB.out]; simp [HR.out]), below_two' _ _ _⟩
  · have q1 : ((c : Int) != (c' : Int)) = true := by simp; omega
    have HC := Lib.hid h1
    clear h1
    go_enter Tryd.func16, Tryd.ntmps16
    go_wp2_with fail
    go_ret
    exact ⟨ret_bool (by rw [← HB.out]; simp [HC.out]), below_two' _ _ _⟩
theorem less_any (a b : Ky) (w : World) : Calls Tryd.prog 16 #[.agg a.arr, .agg b.arr] w (Says (.bool (lessK a b)) w) :=
  less_core a.c a.r a.s b.c b.r b.s w _ rfl

set_option maxHeartbeats 1000000 in
theorem rless_core (c r s c' r' s' : Nat) (w : World) (b : Bool)
    (hb : (if c ≠ c' then decide (c < c') else if r ≠ r' then decide (r < r') else decide (s < s')) = b) :
    Calls Tryd.prog 17 #[.agg #[.int .u16 (c : Int), .int .u8 (r : Int), .int .u32 (s : Int)], .agg #[.int .u16 (c' : Int), .int .u8 (r' : Int), .int .u32 (s' : Int)]] w (Says (.bool b) w) := by
  have HB := Lib.hid hb
  clear hb
  by_cases h1 : c = c'
  · subst h1
    have q1 : ((c : Int) != (c : Int)) = false := by simp
    by_cases h2 : r = r'
    · subst h2
      have q2 : ((r : Int) != (r : Int)) = false := by simp
      go_enter Tryd.func17, Tryd.ntmps17
      go_wp2_with fail
      go_ret
      exact ⟨ret_bool (by rw [← HB.out]; simp), below_two' _ _ _⟩
    · have q2 : ((r : Int) != (r' : Int)) = true := by simp; omega
      have HR := Lib.hid h2
      clear h2
      go_enter Tryd.func17, Tryd.ntmps17
      go_wp2_with fail
      go_ret
      exact ⟨ret_bool (by rw [← HB.out]; simp [HR.out]), below_two' _ _ _⟩
  · have q1 : ((c : Int) != (c' : Int)) = true := by simp; omega
    have HC := Lib.hid h1
    clear h1
    go_enter Tryd.func17, Tryd.ntmps17
    go_wp2_with fail
    go_ret
    exact ⟨ret_bool (by rw [← HB.out]; simp [HC.out]), below_two' _ _ _⟩
theorem rless_any (a b : Ky) (w : World) : Calls Tryd.prog 17 #[.agg a.arr, .agg b.arr] w (Says (.bool (lessK a b)) w) :=
  rless_core a.c a.r a.s b.c b.r b.s w _ rfl

theorem exec_sum {ev : Operand → Value} {o : Oper} {w : World} {x y : Operand} {u t : TypeId} {a b c : Int} (ho : o.op = .binOp .add u x y t) (hx : ev x = .int .i64 a) (hy : ev y = .int .i64 b) (hr : IntKind.i64.wrap (a + b) = c) : (execOp ev o).run Tryd.prog w = .ok (.value (.int .i64 c)) w := by
  subst hr
  unfold execOp
  simp [ho, hx, hy, eqGuard, binOp, Op.intArith]
theorem exec_dif {ev : Operand → Value} {o : Oper} {w : World} {x y : Operand} {u t : TypeId} {a b c : Int} (ho : o.op = .binOp .sub u x y t) (hx : ev x = .int .i64 a) (hy : ev y = .int .i64 b) (hr : IntKind.i64.wrap (a - b) = c) : (execOp ev o).run Tryd.prog w = .ok (.value (.int .i64 c)) w := by
  subst hr
  unfold execOp
  simp [ho, hx, hy, eqGuard, binOp, Op.intArith]

set_option maxHeartbeats 1000000 in
set_option maxRecDepth 100000 in
theorem rising_any (a : Option Addr) (n cap : Nat) (l : List Ky) (w : World) (hl : KL w a n l) (hn : n ≤ 1000000) : Calls Tryd.prog 25 #[.slice a n cap] w (Says (.bool (risingB l)) w) := by
  have HL := Lib.hid hl
  have HN := Lib.hid hl.len'
  clear hl
  go_enter Tryd.func25, Tryd.ntmps25
  go_wp2_with fail
  go_loopw [7] (fun i wr => ∃ k : Nat, k ≤ n ∧ i = .int .i64 (k : Int) ∧ Hid (∀ i, i < k → i < n - 1 → lessK (kyAt l i) (kyAt l (i + 1)) = true) ∧ Hid (KL wr a n l) ∧ Hid (Below w.heap.size w wr)) (fun i _ => n - (intOf i).toNat)
  case atStart => exact ⟨0, Nat.zero_le _, rfl, Lib.hid (fun i h => by omega), HL, Lib.hid (Below.refl _ _)⟩
  case round =>
    obtain ⟨k, hk, rfl, HK, HLk, HB⟩ := hrel
    by_cases hlt : k + 1 < n
    · have hlt1 : (k : Int) < (n : Int) - 1 := by omega
      obtain ⟨b, off, x, rfl, hx, _⟩ := HLk.out.at (show k < n by omega)
      obtain ⟨y, hy⟩ : ∃ y, l[k + 1]? = some y := ⟨l[k + 1]'(by have := HN.out; omega), List.getElem?_eq_getElem _⟩
      have HX := Lib.hid hx
      have HY := Lib.hid hy
      have HSUM : Hid (IntKind.i64.wrap ((k : Int) + 1) = (k : Int) + 1) := Lib.hid (by rw [IntKind.wrap_i64]; omega)
      have HE : Hid (lessK (kyAt l k) (kyAt l (k + 1)) = lessK x y) := Lib.hid (by rw [kyAt_of hx, kyAt_of hy])
      have HC := Lib.hid (fun w => less_any x y w)
      clear hx hy
      cases hv : lessK x y
      · rw [hv] at HC
        have HV := Lib.hid hv
        clear hv
        go_wp2_with fail
        refine wp_region_held_drew (S := fun w' => KL w' (some ⟨b, off, none⟩) n l ∧ Below w.heap.size w w') (by kernel_rfl) ⟨HLk.out.below (drew_below wr), HB.out.trans ((drew_below wr).mono HB.out.size)⟩ (fun hS => ?_)
        refine held_take 0 10 (.slice (some ⟨b, off, none⟩) n cap) rfl rfl (by kernel_rfl) (by kernel_rfl) (by kernel_rfl) (fun _ _ _ h => h) (by kernel_rfl) (fun _ _ => rfl) hS ?_
        simp only [Act.put, List.setIfInBounds_toArray, List.set_cons_zero, List.set_cons_succ]
        refine held_take 1 11 (.int .i64 (k : Int)) rfl rfl (by kernel_rfl) (by kernel_rfl) (by kernel_rfl) (fun _ _ _ h => h) (by kernel_rfl) (fun _ _ => rfl) hS ?_
        simp only [Act.put, List.setIfInBounds_toArray, List.set_cons_zero, List.set_cons_succ]
        refine held_take 2 12 (.pointer (some ⟨b, off + k * 3, none⟩)) rfl rfl (by kernel_rfl) (by kernel_rfl) (by kernel_rfl) (fun _ _ _ h => h) (by kernel_rfl) (fun _ _ => exec_idx42 (i := k) rfl rfl rfl rfl (by omega)) hS ?_
        simp only [Act.put, List.setIfInBounds_toArray, List.set_cons_zero, List.set_cons_succ]
        refine held_take 3 13 (.agg x.arr) rfl rfl (by kernel_rfl) (by kernel_rfl) (by kernel_rfl) (fun _ _ _ h => h) (by kernel_rfl) (fun _ h => exec_ld42 rfl rfl (h.1.rng HX.out)) hS ?_
        simp only [Act.put, List.setIfInBounds_toArray, List.set_cons_zero, List.set_cons_succ]
        refine held_take 4 14 (.slice (some ⟨b, off, none⟩) n cap) rfl rfl (by kernel_rfl) (by kernel_rfl) (by kernel_rfl) (fun _ _ _ h => h) (by kernel_rfl) (fun _ _ => rfl) hS ?_
        simp only [Act.put, List.setIfInBounds_toArray, List.set_cons_zero, List.set_cons_succ]
        refine held_take 5 15 (.int .i64 (k : Int)) rfl rfl (by kernel_rfl) (by kernel_rfl) (by kernel_rfl) (fun _ _ _ h => h) (by kernel_rfl) (fun _ _ => rfl) hS ?_
        simp only [Act.put, List.setIfInBounds_toArray, List.set_cons_zero, List.set_cons_succ]
        refine held_take 6 16 (.int .i64 ((k : Int) + 1)) rfl rfl (by kernel_rfl) (by kernel_rfl) (by kernel_rfl) (fun _ _ _ h => h) (by kernel_rfl) (fun _ _ => exec_sum rfl rfl rfl HSUM.out) hS ?_
        simp only [Act.put, List.setIfInBounds_toArray, List.set_cons_zero, List.set_cons_succ]
        refine held_take 7 17 (.pointer (some ⟨b, off + (k + 1) * 3, none⟩)) rfl rfl (by kernel_rfl) (by kernel_rfl) (by kernel_rfl) (fun _ _ _ h => h) (by kernel_rfl) (fun _ _ => exec_idx42 (i := k + 1) rfl rfl rfl (by omega) (by omega)) hS ?_
        simp only [Act.put, List.setIfInBounds_toArray, List.set_cons_zero, List.set_cons_succ]
        refine held_take 8 18 (.agg y.arr) rfl rfl (by kernel_rfl) (by kernel_rfl) (by kernel_rfl) (fun _ _ _ h => h) (by kernel_rfl) (fun _ h => exec_ld42 rfl rfl (h.1.rng HY.out)) hS ?_
        simp only [Act.put, List.setIfInBounds_toArray, List.set_cons_zero, List.set_cons_succ]
        refine held_call 9 19 16 #[(.agg x.arr), (.agg y.arr)] (.bool false) rfl (by kernel_rfl) rfl (by kernel_rfl) (by kernel_rfl) (HC.out _) (fun _ h hb => ⟨h.1.below hb, h.2.trans (hb.mono h.2.size)⟩) hS (fun w109 hS => ?_)
        simp only [Act.put, List.setIfInBounds_toArray, List.set_cons_zero, List.set_cons_succ]
        refine held_take 10 20 (.bool true) rfl rfl (by kernel_rfl) (by kernel_rfl) (by kernel_rfl) (fun _ _ _ h => h) (by kernel_rfl) (fun _ _ => rfl) hS ?_
        simp only [Act.put, List.setIfInBounds_toArray, List.set_cons_zero, List.set_cons_succ]
        refine wpAnyH_done (by kernel_rfl) ?_ _
        go_wp2_with fail
        go_ret
        exact ⟨ret_bool (by rw [rising_not (i := k) (by have := HN.out; omega) (by rw [HE.out, HV.out])]), hS.2⟩
      · rw [hv] at HC
        have HK2 : Hid (∀ i, i < k + 1 → i < n - 1 → lessK (kyAt l i) (kyAt l (i + 1)) = true) := Lib.hid (fun i h1 h2 => by
          by_cases e : i = k
          · subst e; rw [HE.out, hv]
          · exact HK.out i (by omega) h2)
        clear hv
        go_wp2_with fail
        refine wp_region_held_drew (S := fun w' => KL w' (some ⟨b, off, none⟩) n l ∧ Below w.heap.size w w') (by kernel_rfl) ⟨HLk.out.below (drew_below wr), HB.out.trans ((drew_below wr).mono HB.out.size)⟩ (fun hS => ?_)
        refine held_take 0 10 (.slice (some ⟨b, off, none⟩) n cap) rfl rfl (by kernel_rfl) (by kernel_rfl) (by kernel_rfl) (fun _ _ _ h => h) (by kernel_rfl) (fun _ _ => rfl) hS ?_
        simp only [Act.put, List.setIfInBounds_toArray, List.set_cons_zero, List.set_cons_succ]
        refine held_take 1 11 (.int .i64 (k : Int)) rfl rfl (by kernel_rfl) (by kernel_rfl) (by kernel_rfl) (fun _ _ _ h => h) (by kernel_rfl) (fun _ _ => rfl) hS ?_
        simp only [Act.put, List.setIfInBounds_toArray, List.set_cons_zero, List.set_cons_succ]
        refine held_take 2 12 (.pointer (some ⟨b, off + k * 3, none⟩)) rfl rfl (by kernel_rfl) (by kernel_rfl) (by kernel_rfl) (fun _ _ _ h => h) (by kernel_rfl) (fun _ _ => exec_idx42 (i := k) rfl rfl rfl rfl (by omega)) hS ?_
        simp only [Act.put, List.setIfInBounds_toArray, List.set_cons_zero, List.set_cons_succ]
        refine held_take 3 13 (.agg x.arr) rfl rfl (by kernel_rfl) (by kernel_rfl) (by kernel_rfl) (fun _ _ _ h => h) (by kernel_rfl) (fun _ h => exec_ld42 rfl rfl (h.1.rng HX.out)) hS ?_
        simp only [Act.put, List.setIfInBounds_toArray, List.set_cons_zero, List.set_cons_succ]
        refine held_take 4 14 (.slice (some ⟨b, off, none⟩) n cap) rfl rfl (by kernel_rfl) (by kernel_rfl) (by kernel_rfl) (fun _ _ _ h => h) (by kernel_rfl) (fun _ _ => rfl) hS ?_
        simp only [Act.put, List.setIfInBounds_toArray, List.set_cons_zero, List.set_cons_succ]
        refine held_take 5 15 (.int .i64 (k : Int)) rfl rfl (by kernel_rfl) (by kernel_rfl) (by kernel_rfl) (fun _ _ _ h => h) (by kernel_rfl) (fun _ _ => rfl) hS ?_
        simp only [Act.put, List.setIfInBounds_toArray, List.set_cons_zero, List.set_cons_succ]
        refine held_take 6 16 (.int .i64 ((k : Int) + 1)) rfl rfl (by kernel_rfl) (by kernel_rfl) (by kernel_rfl) (fun _ _ _ h => h) (by kernel_rfl) (fun _ _ => exec_sum rfl rfl rfl HSUM.out) hS ?_
        simp only [Act.put, List.setIfInBounds_toArray, List.set_cons_zero, List.set_cons_succ]
        refine held_take 7 17 (.pointer (some ⟨b, off + (k + 1) * 3, none⟩)) rfl rfl (by kernel_rfl) (by kernel_rfl) (by kernel_rfl) (fun _ _ _ h => h) (by kernel_rfl) (fun _ _ => exec_idx42 (i := k + 1) rfl rfl rfl (by omega) (by omega)) hS ?_
        simp only [Act.put, List.setIfInBounds_toArray, List.set_cons_zero, List.set_cons_succ]
        refine held_take 8 18 (.agg y.arr) rfl rfl (by kernel_rfl) (by kernel_rfl) (by kernel_rfl) (fun _ _ _ h => h) (by kernel_rfl) (fun _ h => exec_ld42 rfl rfl (h.1.rng HY.out)) hS ?_
        simp only [Act.put, List.setIfInBounds_toArray, List.set_cons_zero, List.set_cons_succ]
        refine held_call 9 19 16 #[(.agg x.arr), (.agg y.arr)] (.bool true) rfl (by kernel_rfl) rfl (by kernel_rfl) (by kernel_rfl) (HC.out _) (fun _ h hb => ⟨h.1.below hb, h.2.trans (hb.mono h.2.size)⟩) hS (fun w109 hS => ?_)
        simp only [Act.put, List.setIfInBounds_toArray, List.set_cons_zero, List.set_cons_succ]
        refine held_take 10 20 (.bool false) rfl rfl (by kernel_rfl) (by kernel_rfl) (by kernel_rfl) (fun _ _ _ h => h) (by kernel_rfl) (fun _ _ => rfl) hS ?_
        simp only [Act.put, List.setIfInBounds_toArray, List.set_cons_zero, List.set_cons_succ]
        refine wpAnyH_done (by kernel_rfl) ?_ _
        have HS1 := Lib.hid hS.1
        have HS2 := Lib.hid hS.2
        clear hS
        go_wp2_with fail
        go_roundw
        case rel => exact ⟨k + 1, by omega, by go_num, HK2, HS1, HS2⟩
        case measure => simp [intOf]; omega
    · have hlt1 : ¬ ((k : Int) < (n : Int) - 1) := by omega
      have HT : Hid (risingB l = true) := Lib.hid (rising_iff.2 (fun i hi => by rw [HN.out] at hi; exact HK.out i (by omega) hi))
      clear HK
      go_wp2_with fail
      go_ret
      exact ⟨ret_bool (by rw [HT.out]), HB.out⟩

/-- A page's cells, and what they lead to. -/
abbrev pgA (lf : Bool) (a1 : Option Addr) (n1 c1 : Nat) (a2 : Option Addr) (n2 c2 : Nat) (a3 : Option Addr) (n3 c3 : Nat) : Array Value := #[.bool lf, .slice a1 n1 c1, .slice a2 n2 c2, .slice a3 n3 c3]
structure PV (w : World) (P : Pg) (a1 : Option Addr) (n1 : Nat) (a2 : Option Addr) (n2 : Nat) (a3 : Option Addr) (n3 : Nat) : Prop where
  ks : KL w a1 n1 P.ks
  ls : LL w a2 n2 P.ls
  ds : DL w a3 n3 P.ds
theorem PV.below {w w' : World} {P : Pg} {a1 a2 a3 : Option Addr} {n1 n2 n3 : Nat} (h : PV w P a1 n1 a2 n2 a3 n3) (hb : Below w.heap.size w w') : PV w' P a1 n1 a2 n2 a3 n3 := ⟨h.ks.below hb, h.ls.below hb, h.ds.below hb⟩
theorem right_eq {P : Pg} {n1 n2 n3 : Nat} (h1 : P.ks.length = n1) (h2 : P.ls.length = n2) (h3 : P.ds.length = n3) : P.right = (decide (n1 ≤ 8) && risingB P.ks && (if P.leaf then decide (n2 = n1) && decide (n3 = 0) else decide (1 ≤ n1) && decide (n3 = n1) && decide (n2 = 0))) := by
  subst h1; subst h2; subst h3; rfl

set_option maxHeartbeats 1000000 in
set_option maxRecDepth 100000 in
theorem right_core (lf : Bool) (a1 : Option Addr) (n1 c1 : Nat) (a2 : Option Addr) (n2 c2 : Nat) (a3 : Option Addr) (n3 c3 : Nat) (l : List Ky) (w : World) (hl : KL w a1 n1 l) (hn : n1 ≤ 1000000) (b : Bool)
    (hb : (decide (n1 ≤ 8) && risingB l && (if lf then decide (n2 = n1) && decide (n3 = 0) else decide (1 ≤ n1) && decide (n3 = n1) && decide (n2 = 0))) = b) :
    Calls Tryd.prog 14 #[.agg #[.bool lf, .slice a1 n1 c1, .slice a2 n2 c2, .slice a3 n3 c3]] w (Says (.bool b) w) := by
  have HL := Lib.hid hl
  have HB := Lib.hid hb
  clear hl hb
  by_cases h8 : n1 ≤ 8
  case neg =>
    have q8 : decide ((n1 : Int) > 8) = true := by simp; omega
    have q8' : decide ((8 : Int) < (n1 : Int)) = true := by simp; omega
    go_enter Tryd.func14, Tryd.ntmps14
    go_wp2_with fail
    go_ret
    exact ⟨ret_bool (by rw [← HB.out]; simp [h8]), below_one _ _⟩
  have HR := Lib.hid (fun w' hb => rising_any a1 n1 c1 l w' (HL.out.below (w' := w') hb) hn)
  cases hr : risingB l
  · rw [hr] at HR HB
    go_enter Tryd.func14, Tryd.ntmps14
    go_wp2_with fail
    refine (HR.out _ (below_one _ _)).mono ?_
    rintro e w' ⟨rfl, hb⟩
    have HB2 := Lib.hid ((below_one w _).trans (hb.mono (by simp)))
    clear hb
    go_wp2_with fail
    go_ret
    exact ⟨ret_bool (by rw [← HB.out]; simp), HB2.out⟩
  · rw [hr] at HR HB
    clear hr
    cases lf
    · by_cases h1 : 1 ≤ n1
      case neg =>
        have q1 : decide ((n1 : Int) > 0) = false := by simp; omega
        have q1' : decide ((0 : Int) < (n1 : Int)) = false := by simp; omega
        go_enter Tryd.func14, Tryd.ntmps14
        go_wp2_with fail
        refine (HR.out _ (below_one _ _)).mono ?_
        rintro e w' ⟨rfl, hb⟩
        have HK := Lib.hid ((Blk.new w 40 _).below hb)
        have HB2 := Lib.hid ((below_one w _).trans (hb.mono (by simp)))
        clear hb
        have k0 := HK.out.cell 0
        have k1 := HK.out.cell 1
        have k2 := HK.out.cell 2
        have k3 := HK.out.cell 3
        simp at k0 k1 k2 k3
        clear HK
        go_wp2_with fail
        go_ret
        exact ⟨ret_bool (by rw [← HB.out]; simp [h1]), HB2.out⟩
      by_cases h2 : n3 = n1
      case neg =>
        have q1 : (0 : Int) < (n1 : Int) := by omega
        have q2 : ((n3 : Int) == (n1 : Int)) = false := by simp; omega
        go_enter Tryd.func14, Tryd.ntmps14
        go_wp2_with fail
        refine (HR.out _ (below_one _ _)).mono ?_
        rintro e w' ⟨rfl, hb⟩
        have HK := Lib.hid ((Blk.new w 40 _).below hb)
        have HB2 := Lib.hid ((below_one w _).trans (hb.mono (by simp)))
        clear hb
        have k0 := HK.out.cell 0
        have k1 := HK.out.cell 1
        have k2 := HK.out.cell 2
        have k3 := HK.out.cell 3
        simp at k0 k1 k2 k3
        clear HK
        go_wp2_with fail
        go_ret
        exact ⟨ret_bool (by rw [← HB.out]; simp [h2]), HB2.out⟩
      by_cases h3 : n2 = 0
      case neg =>
        have q1 : (0 : Int) < (n1 : Int) := by omega
        have q2 : ((n3 : Int) == (n1 : Int)) = true := by simp; omega
        have q3 : ((n2 : Int) == (0 : Int)) = false := by simp; omega
        go_enter Tryd.func14, Tryd.ntmps14
        go_wp2_with fail
        refine (HR.out _ (below_one _ _)).mono ?_
        rintro e w' ⟨rfl, hb⟩
        have HK := Lib.hid ((Blk.new w 40 _).below hb)
        have HB2 := Lib.hid ((below_one w _).trans (hb.mono (by simp)))
        clear hb
        have k0 := HK.out.cell 0
        have k1 := HK.out.cell 1
        have k2 := HK.out.cell 2
        have k3 := HK.out.cell 3
        simp at k0 k1 k2 k3
        clear HK
        go_wp2_with fail
        go_ret
        exact ⟨ret_bool (by rw [← HB.out]; simp [h3]), HB2.out⟩
      have q1 : (0 : Int) < (n1 : Int) := by omega
      have q2 : ((n3 : Int) == (n1 : Int)) = true := by simp; omega
      have q3 : ((n2 : Int) == (0 : Int)) = true := by simp; omega
      go_enter Tryd.func14, Tryd.ntmps14
      go_wp2_with fail
      refine (HR.out _ (below_one _ _)).mono ?_
      rintro e w' ⟨rfl, hb⟩
      have HK := Lib.hid ((Blk.new w 40 _).below hb)
      have HB2 := Lib.hid ((below_one w _).trans (hb.mono (by simp)))
      clear hb
      have k0 := HK.out.cell 0
      have k1 := HK.out.cell 1
      have k2 := HK.out.cell 2
      have k3 := HK.out.cell 3
      simp at k0 k1 k2 k3
      clear HK
      go_wp2_with fail
      go_ret
      exact ⟨ret_bool (by rw [← HB.out]; simp [h1, h2, h3, h8]), HB2.out⟩
    · by_cases h2 : n2 = n1
      case neg =>
        have q2 : ((n2 : Int) == (n1 : Int)) = false := by simp; omega
        go_enter Tryd.func14, Tryd.ntmps14
        go_wp2_with fail
        refine (HR.out _ (below_one _ _)).mono ?_
        rintro e w' ⟨rfl, hb⟩
        have HK := Lib.hid ((Blk.new w 40 _).below hb)
        have HB2 := Lib.hid ((below_one w _).trans (hb.mono (by simp)))
        clear hb
        have k0 := HK.out.cell 0
        have k1 := HK.out.cell 1
        have k2 := HK.out.cell 2
        have k3 := HK.out.cell 3
        simp at k0 k1 k2 k3
        clear HK
        go_wp2_with fail
        go_ret
        exact ⟨ret_bool (by rw [← HB.out]; simp [h2]), HB2.out⟩
      by_cases h3 : n3 = 0
      case neg =>
        have q2 : ((n2 : Int) == (n1 : Int)) = true := by simp; omega
        have q3 : ((n3 : Int) == (0 : Int)) = false := by simp; omega
        go_enter Tryd.func14, Tryd.ntmps14
        go_wp2_with fail
        refine (HR.out _ (below_one _ _)).mono ?_
        rintro e w' ⟨rfl, hb⟩
        have HK := Lib.hid ((Blk.new w 40 _).below hb)
        have HB2 := Lib.hid ((below_one w _).trans (hb.mono (by simp)))
        clear hb
        have k0 := HK.out.cell 0
        have k1 := HK.out.cell 1
        have k2 := HK.out.cell 2
        have k3 := HK.out.cell 3
        simp at k0 k1 k2 k3
        clear HK
        go_wp2_with fail
        go_ret
        exact ⟨ret_bool (by rw [← HB.out]; simp [h3]), HB2.out⟩
      have q2 : ((n2 : Int) == (n1 : Int)) = true := by simp; omega
      have q3 : ((n3 : Int) == (0 : Int)) = true := by simp; omega
      go_enter Tryd.func14, Tryd.ntmps14
      go_wp2_with fail
      refine (HR.out _ (below_one _ _)).mono ?_
      rintro e w' ⟨rfl, hb⟩
      have HK := Lib.hid ((Blk.new w 40 _).below hb)
      have HB2 := Lib.hid ((below_one w _).trans (hb.mono (by simp)))
      clear hb
      have k0 := HK.out.cell 0
      have k1 := HK.out.cell 1
      have k2 := HK.out.cell 2
      have k3 := HK.out.cell 3
      simp at k0 k1 k2 k3
      clear HK
      go_wp2_with fail
      go_ret
      exact ⟨ret_bool (by rw [← HB.out]; simp [h2, h3, h8]), HB2.out⟩

end Go.Proofs.YtcgbkfnjohbglaaDoor
