/- DotsNobody: a set that no call made answers an error, or nothing. No condition. -/
import Derived.Test.YtkamldmcjegjgaaLaw
namespace Go.Proofs.Ytkamldmcjegjgaa
open Go.ChangeShapes Go.WideShapes Go.ChangeAt Go.RowKit

namespace DotsNobody
/-- A set that no call made. -/
def Nb (w : World) (q : Value) : Prop := q = .pointer none ∨ ∃ p, q = .pointer (some ⟨p, 0, none⟩) ∧ w.cell? ⟨p, 16, none⟩ = some (.map none)
theorem Nb.below {w w' : World} {q : Value} (h : Nb w q) (hb : Below w.heap.size w w') : Nb w' q := by
  rcases h with h | ⟨p, h1, h2⟩
  · exact .inl h
  · exact .inr ⟨p, h1, below_at hb h2⟩
theorem Nb.drew {w : World} {q : Value} (h : Nb w q) : Nb w.drew q := h
theorem Nb.made {w : World} {q : Value} (h : Nb w q) : Calls Try.prog 27 #[q] w (Says (.bool false) w) := by
  rcases h with rfl | ⟨p, rfl, h2⟩
  · exact (made_nil w).mono fun _ _ ⟨he, hw⟩ => ⟨he, hw ▸ Below.refl _ _⟩
  · exact (made_zero h2).mono fun _ _ ⟨he, hw⟩ => ⟨he, hw ▸ Below.refl _ _⟩

/-- Such a set and a dot that a call laid down. -/
structure Nd (w W : World) (q : Value) (r s : Nat) : Prop where
  nb : Nb W q
  dot : Blk W w.heap.size 34 #[.int .u8 (r : Int), .int .u32 (s : Int)]
  old : Below w.heap.size w W
theorem Nd.below {w W W' : World} {q : Value} {r s : Nat} (h : Nd w W q r s) (hb : Below W.heap.size W W') : Nd w W' q r s := ⟨h.nb.below hb, h.dot.below hb, h.old.trans (hb.mono h.old.size)⟩
theorem nd_new {w : World} {q : Value} (h : Nb w q) (r s : Nat) : Nd w (w.alloc (.cells #[.int .u8 (r : Int), .int .u32 (s : Int)] 34)) q r s := ⟨h.below (below_one w _), Blk.new w 34 _, below_one w _⟩

set_option maxHeartbeats 1000000 in
theorem nadd_any {w : World} {q : Value} (h : Nb w q) (r s : Nat) : Calls Try.prog 15 #[q, dotV r s] w (Says (.int .i64 1) w) := by
  have HT := Lib.hid (nd_new h r s)
  clear h
  go_enter Try.func15, Try.ntmps15
  go_wp2_with fail
  generalize w.alloc (.cells #[.int .u8 (r : Int), .int .u32 (s : Int)] 34) = W at HT
  refine HT.out.nb.made.mono ?_
  rintro e w1 ⟨rfl, hb⟩
  have HT1 := Lib.hid (HT.out.below hb)
  clear hb
  go_wp2_with fail
  go_ret
  exact ⟨rfl, HT1.out.old⟩

set_option maxHeartbeats 1000000 in
theorem nhas_any {w : World} {q : Value} (h : Nb w q) (r s : Nat) : Calls Try.prog 12 #[q, dotV r s] w (Says (.bool false) w) := by
  have HT := Lib.hid (nd_new h r s)
  clear h
  go_enter Try.func12, Try.ntmps12
  go_wp2_with fail
  generalize w.alloc (.cells #[.int .u8 (r : Int), .int .u32 (s : Int)] 34) = W at HT
  refine wp_region_held_drew (S := fun w' => Nd w w' q r s) (by kernel_rfl) ⟨HT.out.nb, HT.out.dot, HT.out.old.drew⟩ (fun hS => ?_)
  refine held_take 0 5 q rfl rfl (by kernel_rfl) (by kernel_rfl) (by kernel_rfl) (fun _ _ _ h => h) (by kernel_rfl) (fun _ _ => rfl) hS ?_
  simp only [Act.put, List.setIfInBounds_toArray, List.set_cons_zero, List.set_cons_succ]
  refine held_call 1 6 27 #[q] (.bool false) rfl (by kernel_rfl) rfl (by kernel_rfl) (by kernel_rfl) hS.nb.made (fun _ h hb => h.below hb) hS (fun w101 hS => ?_)
  simp only [Act.put, List.setIfInBounds_toArray, List.set_cons_zero, List.set_cons_succ]
  refine held_take 2 7 (.bool false) rfl rfl (by kernel_rfl) (by kernel_rfl) (by kernel_rfl) (fun _ _ _ h => h) (by kernel_rfl) (fun _ _ => rfl) hS ?_
  simp only [Act.put, List.setIfInBounds_toArray, List.set_cons_zero, List.set_cons_succ]
  refine held_skip 3 8 rfl rfl (by kernel_rfl) (by kernel_rfl) (by kernel_rfl) (fun _ _ _ h => h) (by kernel_rfl) hS ?_
  simp only [Act.put, List.setIfInBounds_toArray, List.set_cons_zero, List.set_cons_succ]
  refine held_skip 4 9 rfl rfl (by kernel_rfl) (by kernel_rfl) (by kernel_rfl) (fun _ _ _ h => h) (by kernel_rfl) hS ?_
  simp only [Act.put, List.setIfInBounds_toArray, List.set_cons_zero, List.set_cons_succ]
  refine held_skip 5 10 rfl rfl (by kernel_rfl) (by kernel_rfl) (by kernel_rfl) (fun _ _ _ h => h) (by kernel_rfl) hS ?_
  simp only [Act.put, List.setIfInBounds_toArray, List.set_cons_zero, List.set_cons_succ]
  refine held_skip 6 11 rfl rfl (by kernel_rfl) (by kernel_rfl) (by kernel_rfl) (fun _ _ _ h => h) (by kernel_rfl) hS ?_
  simp only [Act.put, List.setIfInBounds_toArray, List.set_cons_zero, List.set_cons_succ]
  refine held_skip 7 12 rfl rfl (by kernel_rfl) (by kernel_rfl) (by kernel_rfl) (fun _ _ _ h => h) (by kernel_rfl) hS ?_
  simp only [Act.put, List.setIfInBounds_toArray, List.set_cons_zero, List.set_cons_succ]
  refine held_skip 8 13 rfl rfl (by kernel_rfl) (by kernel_rfl) (by kernel_rfl) (fun _ _ _ h => h) (by kernel_rfl) hS ?_
  simp only [Act.put, List.setIfInBounds_toArray, List.set_cons_zero, List.set_cons_succ]
  refine held_skip 9 14 rfl rfl (by kernel_rfl) (by kernel_rfl) (by kernel_rfl) (fun _ _ _ h => h) (by kernel_rfl) hS ?_
  simp only [Act.put, List.setIfInBounds_toArray, List.set_cons_zero, List.set_cons_succ]
  refine held_skip 10 15 rfl rfl (by kernel_rfl) (by kernel_rfl) (by kernel_rfl) (fun _ _ _ h => h) (by kernel_rfl) hS ?_
  simp only [Act.put, List.setIfInBounds_toArray, List.set_cons_zero, List.set_cons_succ]
  refine held_skip 11 16 rfl rfl (by kernel_rfl) (by kernel_rfl) (by kernel_rfl) (fun _ _ _ h => h) (by kernel_rfl) hS ?_
  simp only [Act.put, List.setIfInBounds_toArray, List.set_cons_zero, List.set_cons_succ]
  refine held_skip 12 17 rfl rfl (by kernel_rfl) (by kernel_rfl) (by kernel_rfl) (fun _ _ _ h => h) (by kernel_rfl) hS ?_
  simp only [Act.put, List.setIfInBounds_toArray, List.set_cons_zero, List.set_cons_succ]
  refine held_skip 13 18 rfl rfl (by kernel_rfl) (by kernel_rfl) (by kernel_rfl) (fun _ _ _ h => h) (by kernel_rfl) hS ?_
  simp only [Act.put, List.setIfInBounds_toArray, List.set_cons_zero, List.set_cons_succ]
  refine held_take 14 19 (.bool false) rfl rfl (by kernel_rfl) (by kernel_rfl) (by kernel_rfl) (fun _ _ _ h => h) (by kernel_rfl) (fun _ _ => rfl) hS ?_
  simp only [Act.put, List.setIfInBounds_toArray, List.set_cons_zero, List.set_cons_succ]
  refine held_take 15 4 (.bool false) rfl rfl (by kernel_rfl) (by kernel_rfl) (by kernel_rfl) (fun _ _ _ h => h) (by kernel_rfl) (fun _ _ => rfl) hS ?_
  simp only [Act.put, List.setIfInBounds_toArray, List.set_cons_zero, List.set_cons_succ]
  refine wpAnyH_done (by kernel_rfl) ?_ _
  go_wp2_with fail
  go_ret
  exact ⟨rfl, hS.old⟩

set_option maxHeartbeats 1000000 in
theorem nclosed_any {w : World} {q : Value} (h : Nb w q) : Calls Try.prog 16 #[q] w (Says (.agg V.zero.arr) w) := by
  have ha1 := fun (w : World) => alloc24 w
  have HN := Lib.hid (h.below (below_one w (.cells V.zero.arr 24)))
  have HA := Lib.hid (Blk.new w 24 V.zero.arr)
  have HO := Lib.hid (below_one w (.cells V.zero.arr 24))
  clear h
  go_enter Try.func16, Try.ntmps16
  go_wp2_with fail
  clear ha1
  rw [← zero_arr]
  generalize w.alloc (.cells V.zero.arr 24) = W at HN HA HO
  refine HN.out.made.mono ?_
  rintro e w1 ⟨rfl, hb⟩
  have HA1 := Lib.hid (HA.out.below hb)
  have HO1 := Lib.hid (HO.out.trans (hb.mono HO.out.size))
  clear hb
  go_wp2_with (first | (refine wpList_store24 (u := V.zero) rfl rfl rfl (congrArg Value.agg zero_arr.symm) HA1.out ?_) | (refine wpList_store24 (u := V.zero) rfl rfl rfl rfl HA1.out ?_))
  exact bodyPost_ret (ret24 rfl rfl (Blk.row HA1.out)) rfl ⟨rfl, ret_row HO1.out (Nat.le_refl _)⟩

set_option maxHeartbeats 1000000 in
theorem nloose_any {w : World} {q : Value} (h : Nb w q) : Calls Try.prog 19 #[q] w (Says (.slice none 0 0) w) := by
  have HN := Lib.hid h
  clear h
  go_enter Try.func19, Try.ntmps19
  go_wp2_with fail
  refine HN.out.made.mono ?_
  rintro e w1 ⟨rfl, hb⟩
  have HO1 := Lib.hid hb
  clear hb
  go_wp2_with fail
  go_ret
  exact ⟨rfl, HO1.out⟩

set_option maxRecDepth 100000 in
set_option maxHeartbeats 1000000 in
theorem nmissing_any {w : World} {q : Value} (h : Nb w q) : Calls Try.prog 21 #[q] w (Says (.slice none 0 0) w) := by
  have HN := Lib.hid h
  clear h
  go_enter Try.func21, Try.ntmps21
  go_wp2_with fail
  refine (nclosed_any HN.out).mono ?_
  rintro e w1 ⟨rfl, hb⟩
  have HN1 := Lib.hid (HN.out.below hb)
  have HO1 := Lib.hid hb
  clear hb
  go_wp2_with (first | (refine wpList_run rfl (exec_alloc24 rfl) ?_) | (refine wpList_void rfl rfl (exec_store24 (u := V.zero) rfl rfl rfl (Blk.new w1 24 V.zero.arr)) ?_))
  have HV := Lib.hid (laid24 w1 V.zero)
  have HN2 := Lib.hid (HN1.out.below HV.out.2)
  have HO2 := Lib.hid (HO1.out.trans (HV.out.2.mono HO1.out.size))
  generalize (w1.alloc (.cells V.zero.arr 24)).setRow w1.heap.size V.zero.arr = W at HN2 HO2
  clear HV
  refine (nloose_any HN2.out).mono ?_
  rintro e w2 ⟨rfl, hb⟩
  have HO3 := Lib.hid (HO2.out.trans (hb.mono HO2.out.size))
  clear hb
  go_wp2_with fail
  go_loop [13, 4] (fun i v => i = .int .i64 0 ∧ v = .slice none 0 0) (fun _ _ => 0)
  case atStart => exact ⟨rfl, rfl⟩
  case round =>
    obtain ⟨rfl, rfl⟩ := hrel
    go_wp2_with fail
    go_ret
    exact ⟨rfl, HO3.out⟩

theorem exec_zero24 {ev : Operand → Value} {o : Oper} {w : World} {z : V} (hz : V.zero = z) (ho : o.op = .build 24 #[]) : (execOp ev o).run Try.prog w = .ok (.value (.agg z.arr)) w := by
  subst hz
  have h1 : (#[] : Array (Nat × Operand)).map (fun (i, x) => (i, ev x)) = #[] := by simp
  unfold execOp
  simp only [ho, h1, Sem.run_bind, build24, Result.andThen_ok]
  rfl

/-- The two sets, and the dot. -/
structure Nw (w W : World) (g r s : Nat) : Prop where
  nb : Nb W (.pointer (some ⟨g, 0, none⟩))
  c0 : W.cell? ⟨g + 1, 0, none⟩ = some (.pointer none)
  c1 : W.cell? ⟨g + 1, 1, none⟩ = some (.pointer (some ⟨g, 0, none⟩))
  dot : Blk W w.heap.size 34 #[.int .u8 (r : Int), .int .u32 (s : Int)]
  old : Below w.heap.size w W
theorem Nw.below {w W W' : World} {g r s : Nat} (h : Nw w W g r s) (hb : Below W.heap.size W W') : Nw w W' g r s := ⟨h.nb.below hb, below_at hb h.c0, below_at hb h.c1, h.dot.below hb, h.old.trans (hb.mono h.old.size)⟩
theorem Nw.rep {w W : World} {g r s : Nat} (h : Nw w W g r s) : W.cell? ⟨w.heap.size, 0, none⟩ = some (.int .u8 (r : Int)) := by rw [h.dot.cell]; rfl
theorem Nw.seq {w W : World} {g r s : Nat} (h : Nw w W g r s) : W.cell? ⟨w.heap.size, 1, none⟩ = some (.int .u32 (s : Int)) := by rw [h.dot.cell]; rfl
theorem nw_new {w w1 : World} {r s : Nat} (hd : Blk w1 w.heap.size 34 #[.int .u8 (r : Int), .int .u32 (s : Int)]) (ho : Below w.heap.size w w1) : Nw w ((w1.alloc (.cells #[.int .u32 0, .int .u32 0, .int .u32 0, .int .u32 0, .int .u32 0, .int .u32 0, .int .u32 0, .int .u32 0, .int .u32 0, .int .u32 0, .int .u32 0, .int .u32 0, .int .u32 0, .int .u32 0, .int .u32 0, .int .u32 0, .map none] 53)).alloc (.cells #[.pointer none, .pointer (some ⟨w1.heap.size, 0, none⟩)] 27)) w1.heap.size r s := by
  have h1 := (Blk.new w1 53 #[.int .u32 0, .int .u32 0, .int .u32 0, .int .u32 0, .int .u32 0, .int .u32 0, .int .u32 0, .int .u32 0, .int .u32 0, .int .u32 0, .int .u32 0, .int .u32 0, .int .u32 0, .int .u32 0, .int .u32 0, .int .u32 0, .map none]).below (below_one _ (.cells #[.pointer none, .pointer (some ⟨w1.heap.size, 0, none⟩)] 27))
  have h2 := Blk.new (w1.alloc (.cells #[.int .u32 0, .int .u32 0, .int .u32 0, .int .u32 0, .int .u32 0, .int .u32 0, .int .u32 0, .int .u32 0, .int .u32 0, .int .u32 0, .int .u32 0, .int .u32 0, .int .u32 0, .int .u32 0, .int .u32 0, .int .u32 0, .map none] 53)) 27 #[.pointer none, .pointer (some ⟨w1.heap.size, 0, none⟩)]
  simp only [World.size_alloc] at h2
  exact ⟨.inr ⟨_, rfl, by rw [h1.cell]; rfl⟩, by rw [h2.cell]; rfl, by rw [h2.cell]; rfl, hd.below (below_two' w1 _ _), ho.trans ((below_two' w1 _ _).mono ho.size)⟩

set_option maxHeartbeats 4000000 in
set_option maxRecDepth 100000 in
theorem walk (r s : Nat) (w : World) (_hr : r < 256) (_hs : s < 4294967296) : Calls Try.prog 7 #[dotV r s] w (Says (.bool true) w) := by
  obtain ⟨z, hz⟩ : ∃ z, V.zero = z := ⟨_, rfl⟩
  have HZ := Lib.hid hz
  clear hz
  have HD := Lib.hid (Blk.new w 34 #[.int .u8 (r : Int), .int .u32 (s : Int)])
  have HO := Lib.hid (below_one w (.cells #[.int .u8 (r : Int), .int .u32 (s : Int)] 34))
  go_enter Try.func7, Try.ntmps7
  go_wp2_with fail
  generalize w.alloc (.cells #[.int .u8 (r : Int), .int .u32 (s : Int)] 34) = W at HD HO
  refine (alive_any _).mono ?_
  rintro e w1 ⟨rfl, hb⟩
  have HD1 := Lib.hid (HD.out.below hb)
  have HO1 := Lib.hid (HO.out.trans (hb.mono HO.out.size))
  clear hb
  go_wp2_with fail
  have HB2 : Hid (Below w1.heap.size w1 ((w1.alloc (.cells #[.int .u32 0, .int .u32 0, .int .u32 0, .int .u32 0, .int .u32 0, .int .u32 0, .int .u32 0, .int .u32 0, .int .u32 0, .int .u32 0, .int .u32 0, .int .u32 0, .int .u32 0, .int .u32 0, .int .u32 0, .int .u32 0, .map none] 53)).alloc (.cells #[.pointer none, .pointer (some ⟨w1.heap.size, 0, none⟩)] 27))) := Lib.hid (below_two' w1 _ _)
  have HN0 : Hid (Nw w ((w1.alloc (.cells #[.int .u32 0, .int .u32 0, .int .u32 0, .int .u32 0, .int .u32 0, .int .u32 0, .int .u32 0, .int .u32 0, .int .u32 0, .int .u32 0, .int .u32 0, .int .u32 0, .int .u32 0, .int .u32 0, .int .u32 0, .int .u32 0, .map none] 53)).alloc (.cells #[.pointer none, .pointer (some ⟨w1.heap.size, 0, none⟩)] 27)) w1.heap.size r s) := Lib.hid (nw_new HD1.out HO1.out)
  generalize ((w1.alloc (.cells #[.int .u32 0, .int .u32 0, .int .u32 0, .int .u32 0, .int .u32 0, .int .u32 0, .int .u32 0, .int .u32 0, .int .u32 0, .int .u32 0, .int .u32 0, .int .u32 0, .int .u32 0, .int .u32 0, .int .u32 0, .int .u32 0, .map none] 53)).alloc (.cells #[.pointer none, .pointer (some ⟨w1.heap.size, 0, none⟩)] 27)) = W3 at HB2 HN0
  obtain ⟨g, hg⟩ : ∃ g, w1.heap.size = g := ⟨_, rfl⟩
  rw [hg] at HN0
  rw [hg]
  clear hg HB2
  go_loopw [11] (fun i wr => ∃ k : Nat, k ≤ 2 ∧ i = .int .i64 (k : Int) ∧ Hid (Nw w wr g r s)) (fun i _ => 2 - (intOf i).toNat)
  case atStart => exact ⟨0, by omega, rfl, HN0⟩
  case round =>
    obtain ⟨k, hk, rfl, HN⟩ := hrel
    by_cases hlt : k < 2
    · have hcase : ∃ q, wr.cell? ⟨g + 1, k, none⟩ = some q ∧ Nb wr q := by
        rcases Nat.eq_zero_or_pos k with rfl | hp
        · exact ⟨_, HN.out.c0, .inl rfl⟩
        · obtain rfl : k = 1 := by omega
          exact ⟨_, HN.out.c1, HN.out.nb⟩
      obtain ⟨q, cq, hq⟩ := hcase
      have HQ := Lib.hid hq
      have c1 := HN.out.rep
      have c2 := HN.out.seq
      clear hq
      go_wp2_with fail
      refine (nadd_any HQ.out r s).mono ?_
      rintro e w4 ⟨rfl, hb⟩
      have HN4 := Lib.hid (HN.out.below hb)
      have HQ4 := Lib.hid (HQ.out.below hb)
      clear hb c1 c2 cq
      have c1 := HN4.out.rep
      have c2 := HN4.out.seq
      go_wp2_with fail
      refine (nhas_any HQ4.out r s).mono ?_
      rintro e w5 ⟨rfl, hb⟩
      have HN5 := Lib.hid (HN4.out.below hb)
      have HQ5 := Lib.hid (HQ4.out.below hb)
      clear hb c1 c2
      go_wp2_with fail
      have hcl := nclosed_any HQ5.out
      rw [HZ.out] at hcl
      refine hcl.mono ?_
      rintro e w6 ⟨rfl, hb⟩
      have HN6 := Lib.hid (HN5.out.below hb)
      have HQ6 := Lib.hid (HQ5.out.below hb)
      clear hb hcl
      go_wp2_with (first | (refine wpList_runW (exec_zero24 HZ.out rfl) (by kernel_rfl) ?_) | (refine wpList_runW (exec_neq24 (r := false) rfl rfl rfl (by simp [V.eqB])) (by kernel_rfl) ?_))
      refine (nloose_any HQ6.out).mono ?_
      rintro e w7 ⟨rfl, hb⟩
      have HN7 := Lib.hid (HN6.out.below hb)
      have HQ7 := Lib.hid (HQ6.out.below hb)
      clear hb
      go_wp2_with fail
      refine (nmissing_any HQ7.out).mono ?_
      rintro e w8 ⟨rfl, hb⟩
      have HN8 := Lib.hid (HN7.out.below hb)
      clear hb
      go_wp2_with fail
      go_roundw
      case rel => exact ⟨k + 1, by omega, by go_num, HN8⟩
      case measure => simp [intOf]; omega
    · obtain rfl : k = 2 := by omega
      go_wp2_with fail
      go_ret
      exact ⟨rfl, HN.out.old⟩

set_option maxRecDepth 100000 in
theorem lifted (os : Os) (started : os.Started) (H : Type) (enc : TypeId × Value → H) :
    ReturnsInHanded {} Try.checked os 7 .any (Rows.dotsNobodySpec.pre6 enc Try.prog Try.f7 Rows.dotsNobodyRow.domain false) (Rows.dotsNobodySpec.post enc Try.prog Try.f7 false true false false) := by
  refine returnsInHanded_of_change (C := Try.checked) own started (by kernel_rfl) Try.func7
    (ChangeSpec.witness6 (enc := enc) (C := Try.checked) false ⟨#[], #[.agg #[.int .u8 0, .int .u32 0]], []⟩ 8 (by kernel_rfl) (by kernel_rfl) (by kernel_rfl) (by kernel_rfl)) ?_
  intro W base args ds gs before hval0 hW hcnd _
  have hval : ∀ (j : Nat) t v, Try.f7.params[j]? = some t → args[j]? = some v → Value.okWide Try.prog W .any base t v := hval0
  have hW' := hW
  obtain ⟨p, q, hA0, hV, rfl, hfz, hnd⟩ := hW
  have hA : DataW.TrodAll enc Try.prog W 0 (fun _ => true) true Try.f7.params.toList args.toList ds p := hA0
  rw [Try.params7] at hA hval
  obtain ⟨v0, d0, rfl, rfl, h0⟩ := trodAll_one hA
  obtain ⟨rfl, rfl⟩ := trodVars_none hV
  have lt0 : ∀ x ∈ p, x.block < W.heap.size := by obtain ⟨m, hm⟩ := h0; exact DataW.trod_lt m _ _ _ hm
  obtain ⟨r0, s0, hr0, hs0, rfl⟩ := dot_of (hval 0 34 v0 rfl rfl) h0
  clear hA0 hval0
  refine (walk r0 s0 W hr0 hs0).mono fun e W' ⟨he, bel⟩ => ?_
  subst he
  exact ⟨_, rfl, _, _, _, [], _, [], hW', trodAll_mk1 (shut_bool Try.underlying4 _), trodAll_mk1 (Below.trod laidOut (by kernel_rfl) (of_decide_eq_true (by kernel_rfl)) h0 bel lt0), rfl, bel.frame _, fun h => by cases h⟩
end DotsNobody

theorem dotsNobody_proved : Rows.DotsNobodySaid :=
  OpenClaim.holds_of_wide 7 Try.f7 rfl rfl rfl rfl rfl rfl rfl ⟨rfl, rfl, rfl, rfl, rfl⟩ rfl rfl rfl rfl rfl (by kernel_rfl) Try.func7 (by kernel_rfl)
    (of_decide_eq_true (by kernel_rfl)) (by unfold Func.isWrapper; first | (rw [if_pos (by decide +kernel)]; kernel_rfl) | (rw [if_neg (by decide +kernel)]; exact ⟨rfl, rfl⟩))
    (fun os started H enc _ => DotsNobody.lifted os started H enc)
#print axioms dotsNobody_proved
end Go.Proofs.Ytkamldmcjegjgaa
