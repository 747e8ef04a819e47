/- Walks of the document's Loose and Missing of a set of dots. -/
import Derived.Test.YtkamldmcjegjgaaRef3
namespace Go.Proofs.Ytkamldmcjegjgaa
open Go.RowKit

theorem topN_snoc (v : V) (r : Nat) (x : Dt) : ∀ l, topN v r (l ++ [x]) = if x.1 = r then max (topN v r l) x.2 else topN v r l
  | [] => by simp [topN]
  | y :: l => by
    have ih := topN_snoc v r x l
    simp only [List.cons_append, topN, ih]
    split <;> split <;> omega

/-- A set that a call laid down. -/
structure Rt (w W : World) (v : V) (a : Option Addr) (n cap : Nat) (l : List Dt) : Prop where
  grp : Blk W w.heap.size 31 (v.obj (.slice a n cap))
  dl : DL W a n l
  old : Below w.heap.size w W
section
variable {w W W' : World} {v : V} {a : Option Addr} {n cap : Nat} {l : List Dt}
theorem Rt.below (h : Rt w W v a n cap l) (hb : Below W.heap.size W W') : Rt w W' v a n cap l := ⟨h.grp.below hb, h.dl.below hb, h.old.trans (hb.mono h.old.size)⟩
theorem rt_new (h : DL w a n l) : Rt w (w.alloc (.cells (v.obj (.slice a n cap)) 31)) v a n cap l := ⟨Blk.new w 31 _, h.below (below_one w _), below_one w _⟩
theorem Rt.slice (h : Rt w W v a n cap l) : W.cell? ⟨w.heap.size, 16, none⟩ = some (.slice a n cap) := by rw [h.grp.cell, push_last]
theorem Rt.num (h : Rt w W v a n cap l) {i : Nat} (hi : i < 16) : W.cell? ⟨w.heap.size, i, none⟩ = some (.int .u32 (v.at_ i : Int)) := by rw [h.grp.cell, push_at v _ hi]
end

set_option maxHeartbeats 1000000 in
theorem rftop_any {w : World} {v : V} {a : Option Addr} {n cap : Nat} {l : List Dt} (h : DL w a n l) (r : Nat) (hr : r < 16) (hn : n < 1000000) : Calls Try.prog 43 #[setV v a n cap, .int .i64 (r : Int)] w (Says (.int .u32 (topN v r l : Int)) w) := by
  have HT := Lib.hid (rt_new (v := v) (cap := cap) h)
  have hb1 := fun w => box31 (v.obj (.slice a n cap)) w
  have HL := Lib.hid h.len
  have HRW := Lib.hid h.raw
  have hi0 : (0 : Int) ≤ (r : Int) := by omega
  have hi1 : (r : Int) < 16 := by omega
  have c1 := HT.out.num hr
  have HV : Hid (v.at_ r = topN v r (l.take 0)) := Lib.hid (by simp [topN])
  obtain ⟨y, hy⟩ : ∃ y, v.at_ r = y := ⟨_, rfl⟩
  rw [hy] at c1 HV
  clear h hy
  go_enter Try.func43, Try.ntmps43
  go_wp2_with fail
  clear hb1 c1
  generalize w.alloc (.cells (v.obj (.slice a n cap)) 31) = W at HT
  go_loop [6, 5] (fun i m => ∃ k t : Nat, k ≤ n ∧ i = .int .i64 (k : Int) ∧ m = .int .u32 (t : Int) ∧ Hid (t = topN v r (l.take k))) (fun i _ => n - (intOf i).toNat)
  case atStart => exact ⟨0, y, by omega, rfl, rfl, HV⟩
  case round =>
    obtain ⟨k, t, hk, rfl, rfl, HM⟩ := hrel
    have c16 := HT.out.slice
    by_cases hlt : k < n
    · obtain ⟨b1, o1, hab, hc1⟩ := HT.out.dl.cells.resolve_left (by omega)
      obtain ⟨⟨r1, s1⟩, hx⟩ : ∃ x, l[k]? = some x := ⟨l[k]'(by rw [HL.out]; exact hlt), by simp⟩
      obtain ⟨c1, c2⟩ := hc1 k _ hx
      have hraw := HRW.out _ (List.mem_of_getElem? hx)
      have htk : l.take (k + 1) = l.take k ++ [(r1, s1)] := by rw [List.take_add_one, hx]; rfl
      have HTK := Lib.hid htk
      have hr1 : r1 < 256 := hraw.1
      subst hab
      simp only at c1 c2
      clear hx hc1 htk hraw
      by_cases he : r1 = r
      · subst he
        have HN : Hid (max t s1 = topN v r1 (l.take (k + 1))) := Lib.hid (by rw [HTK.out, topN_snoc, if_pos rfl, HM.out])
        have HM2 : Hid (max (t : Int) (s1 : Int) = ((max t s1 : Nat) : Int)) := Lib.hid (by omega)
        go_wp2_with fail
        go_round
        case rel => exact ⟨k + 1, max t s1, by omega, by go_num, by rw [HM2.out], HN⟩
        case measure => simp [intOf]; omega
      · have HN : Hid (t = topN v r (l.take (k + 1))) := Lib.hid (by rw [HTK.out, topN_snoc, if_neg he, HM.out])
        have hne : ((r1 : Int) == (r : Int)) = false := by simp; omega
        go_wp2_with fail
        go_round
        case rel => exact ⟨k + 1, t, by omega, by go_num, rfl, HN⟩
        case measure => simp [intOf]; omega
    · obtain rfl : k = n := by omega
      have HN : Hid (t = topN v r l) := Lib.hid (by rw [HM.out, ← HL.out, List.take_length])
      go_wp2_with fail
      go_ret
      exact ⟨by rw [← HN.out]; rfl, HT.out.old⟩

/-- What the document's Loose and Missing have made. -/
structure Rb (w W : World) (v : V) (a : Option Addr) (n cap : Nat) (l : List Dt) (g : Nat) (c : V) (ao : Option Addr) (co : Nat) (out : List Dt) : Prop where
  set : Rt w W v a n cap l
  vec : Blk W g 24 c.arr
  out : OwnD W (w.heap.size + 1) ao out.length co out
  gt : w.heap.size < g
section
variable {w W W' : World} {v : V} {a : Option Addr} {n cap : Nat} {l : List Dt} {g : Nat} {c : V} {ao : Option Addr} {co : Nat} {out : List Dt}
theorem Rb.below (h : Rb w W v a n cap l g c ao co out) (hb : Below W.heap.size W W') : Rb w W' v a n cap l g c ao co out := ⟨h.set.below hb, h.vec.below hb, h.out.below hb, h.gt⟩
theorem Rb.push (h : Rb w W v a n cap l g c ao co out) (hd : ∀ ad, a = some ad → n ≠ 0 → ad.block < w.heap.size) {x : Dt} {ao' : Option Addr} {co' : Nat} (ho : OwnD W' (w.heap.size + 1) ao' (out.length + 1) co' (out ++ [x])) (k : Kept (At ao) W W') : Rb w W' v a n cap l g c ao' co' (out ++ [x]) := by
  refine ⟨⟨h.set.grp.kept k ?_, h.set.dl.keep k ?_, h.set.old.trans (k.below h.set.old.size ?_)⟩, h.vec.kept k ?_, by simpa using ho, h.gt⟩
  · rintro ⟨ad, had, e⟩; have := (h.out.lt ad had).1; omega
  · rintro ad had hn ⟨ad', had', e⟩; have := (h.out.lt ad' had').1; have := hd ad had hn; omega
  · rintro k ⟨ad, had, rfl⟩; have := (h.out.lt ad had).1; omega
  · rintro ⟨ad, had, e⟩; exact h.out.ne_blk h.vec (by decide) ad had e.symm
end

theorem filter_snoc (p : Dt → Bool) (r z j : Nat) : (run r z (j + 1)).filter p = (run r z j).filter p ++ (if p (r, z + j) then [(r, z + j)] else []) := by
  rw [run_succ, List.filter_append]
  cases hp : p (r, z + j) <;> simp [hp]

theorem len_abvTo' (c : V) (t : Nat → Nat) (p : Dt → Bool) (ht : ∀ i, i < 16 → t i ≤ 1048576) : ∀ k, k ≤ 16 → (abvTo c t p k).length ≤ k * 1048576
  | 0, _ => by simp [abvTo]
  | k + 1, hk => by
    have h1 := len_abvTo' c t p ht k (by omega)
    have h2 := List.length_filter_le p (run k (c.at_ k + 1) (t k - c.at_ k))
    rw [len_run] at h2
    have := ht k (by omega)
    simp only [abvTo, List.length_append]
    omega

set_option maxRecDepth 100000 in
set_option maxHeartbeats 2000000 in
theorem rfabove_any {w : World} {v : V} {a : Option Addr} {n cap : Nat} {l : List Dt} {c : V} {L : List Dt} (h : DL w a n l) (K : Link v l c L) (hn : n < 1000000) (b : Bool) : Calls Try.prog 36 #[setV v a n cap, .bool b] w (Lists (abvTo c (fun r => topN v r l) (fun x => rin v l x == b) 16) w) := by
  have HT := Lib.hid (rt_new (v := v) (cap := cap) h)
  have hb1 := fun w => box31 (v.obj (.slice a n cap)) w
  have HK := Lib.hid K
  have HLT := Lib.hid h.lt
  obtain ⟨t, ht⟩ : ∃ t : Nat → Nat, (fun r => topN v r l) = t := ⟨_, rfl⟩
  obtain ⟨p, hp⟩ : ∃ p : Dt → Bool, (fun x => rin v l x == b) = p := ⟨_, rfl⟩
  have HTT : Hid (∀ r, r < 16 → topN v r l = t r ∧ t r ≤ 1048576) := Lib.hid (fun r hr => ⟨by rw [← ht], by rw [← ht]; exact K.topN_le hr⟩)
  have HPP : Hid (∀ x, p x = (rin v l x == b)) := Lib.hid (fun x => by rw [← hp])
  rw [ht, hp]
  clear h K ht hp
  go_enter Try.func36, Try.ntmps36
  go_wp2_with (refine wpList_run rfl (exec_load31 (v := v) rfl rfl (Blk.new w 31 _)) ?_)
  clear hb1
  generalize w.alloc (.cells (v.obj (.slice a n cap)) 31) = W at HT
  refine (rfclosed_any HT.out.dl HK.out hn).mono ?_
  rintro e w1 ⟨rfl, hb⟩
  have HT1 := Lib.hid (HT.out.below hb)
  clear hb
  go_wp2_with (first | (refine wpList_run rfl (exec_alloc24 rfl) ?_) | (refine wpList_void rfl rfl (exec_store24 (u := c) rfl rfl rfl (Blk.new w1 24 V.zero.arr)) ?_))
  have HV := Lib.hid (laid24 w1 c)
  have H0 : Hid (Rb w ((w1.alloc (.cells V.zero.arr 24)).setRow w1.heap.size c.arr) v a n cap l w1.heap.size c none 0 []) := Lib.hid ⟨HT1.out.below HV.out.2, HV.out.1, own_nil _ _, HT1.out.grp.lt⟩
  generalize (w1.alloc (.cells V.zero.arr 24)).setRow w1.heap.size c.arr = W2 at H0
  generalize w1.heap.size = g at H0
  clear HV
  go_loopw [7, 5] (fun i o wr => ∃ (k : Nat) (ao : Option Addr) (co : Nat) (out : List Dt), k ≤ 16 ∧ i = .int .i64 (k : Int) ∧ o = .slice ao out.length co ∧ Hid (Rb w wr v a n cap l g c ao co out) ∧ Hid (out = abvTo c t p k)) (fun i _ _ => 16 - (intOf i).toNat)
  case atStart => exact ⟨0, none, 0, [], by omega, rfl, rfl, H0, Lib.hid rfl⟩
  case round =>
    obtain ⟨k, ao, co, out, hk, rfl, rfl, HR, HO⟩ := hrel
    by_cases hlt : k < 16
    · have hi0 : (0 : Int) ≤ (k : Int) := by omega
      have hi1 : (k : Int) < 16 := by omega
      have hct := HK.out.norm.top k hlt
      have htk := (HTT.out k hlt).2
      obtain ⟨y, hy⟩ : ∃ y, c.at_ k = y := ⟨_, rfl⟩
      obtain ⟨z, hz⟩ : ∃ z, y + 1 = z := ⟨_, rfl⟩
      have HY := Lib.hid hy
      have HZ := Lib.hid hz
      have hw1 := wrap_succ (y := y) (by omega)
      rw [hz] at hw1
      rw [hy] at hct
      have hzb : z ≤ 1048577 := by omega
      obtain ⟨T, hT⟩ : ∃ T, t k = T := ⟨_, rfl⟩
      have HTE := Lib.hid hT
      rw [hT] at htk
      have HTOP : Hid (∀ w', Rt w w' v a n cap l → Calls Try.prog 43 #[setV v a n cap, .int .i64 (k : Int)] w' (Says (.int .u32 (T : Int)) w')) := Lib.hid (fun w' h => by
        have := rftop_any (v := v) (cap := cap) h.dl k hlt hn
        rwa [(HTT.out k hlt).1, hT] at this)
      clear hy hz hT
      go_wp2_with (refine wpList_run rfl (exec_load31 (v := v) rfl rfl HR.out.set.grp) ?_)
      refine (HTOP.out _ HR.out.set).mono ?_
      rintro e w3 ⟨rfl, hb⟩
      have HR3 := Lib.hid (HR.out.below hb)
      clear hb
      have c3 : w3.cell? ⟨g, k, none⟩ = some (.int .u32 (y : Int)) := by rw [HR3.out.vec.cell, V.arr_at _ hlt, HY.out]
      go_wp2_with fail
      clear c3 hw1
      go_loopw [9, 5] (fun q o wr => ∃ (u : Nat) (ao2 : Option Addr) (co2 : Nat) (o2 : List Dt), z ≤ u ∧ (u ≤ T + 1 ∨ u = z) ∧ q = .int .u32 (u : Int) ∧ o = .slice ao2 o2.length co2 ∧ Hid (Rb w wr v a n cap l g c ao2 co2 o2) ∧ Hid (o2 = out ++ (run k z (u - z)).filter p)) (fun q _ _ => T + 1 - (intOf q).toNat)
      case atStart => exact ⟨z, ao, co, out, Nat.le_refl _, .inr rfl, rfl, rfl, HR3, Lib.hid (by simp [run])⟩
      case round =>
        obtain ⟨u, ao2, co2, o2, hzu, huT, rfl, rfl, HR2, HO2⟩ := hrel
        by_cases hut : u ≤ T
        · have hw2 := wrap_succ (y := u) (by omega)
          obtain ⟨u2, hu2⟩ : ∃ u2, u + 1 = u2 := ⟨_, rfl⟩
          rw [hu2] at hw2
          have HU2 := Lib.hid hu2
          clear hu2
          have hcv : IntKind.u8.wrap (k : Int) = (k : Int) := by simp [IntKind.wrap, IntKind.bits, IntKind.signed]; omega
          have HR4 := Lib.hid (HR2.out.below (below_one wr (.cells #[.int .u8 (k : Int), .int .u32 (u : Int)] 34)))
          have HD4 := Lib.hid (Blk.new wr 34 #[.int .u8 (k : Int), .int .u32 (u : Int)])
          have HSZ : Hid (o2.length < 1000000000) := Lib.hid (by
            have h1 := List.length_filter_le p (run k z (u - z))
            rw [len_run] at h1
            have h2 := len_abvTo' c t p (fun i hi => (HTT.out i hi).2) k (by omega)
            rw [HO2.out, HO.out, List.length_append]
            omega)
          have HCL : Hid (∀ w', DL w' a n l → Calls Try.prog 13 #[setV v a n cap, dotV k u] w' (Says (.bool (rin v l (k, u))) w')) := Lib.hid (fun w' h => rfhas_any (v := v) (cap := cap) h k u (by omega) (by omega) hn)
          have hcase : (p (k, u) = true ∧ rin v l (k, u) = b) ∨ (p (k, u) = false ∧ rin v l (k, u) = !b) := by
            rw [HPP.out]
            cases rin v l (k, u) <;> cases b <;> simp
          have HOT : Hid (∀ o3, (o3 = o2 ++ (if p (k, u) then [(k, u)] else [])) → o3 = out ++ (run k z (u2 - z)).filter p) := Lib.hid (fun o3 h3 => by
            have e1 : u2 - z = (u - z) + 1 := by have := HU2.out; omega
            rw [e1, filter_snoc, show z + (u - z) = u by omega, h3, HO2.out, List.append_assoc])
          have HSZW : Hid (w.heap.size + 1 ≤ wr.heap.size) := Lib.hid HR2.out.set.grp.lt
          rcases hcase with ⟨hp, hrn⟩ | ⟨hp, hrn⟩
          · rw [hrn] at HCL
            rw [hp] at HOT
            clear hp hrn
            go_wp2_with (refine wpList_run rfl (exec_load31 (v := v) rfl rfl HR4.out.set.grp) ?_)
            generalize wr.alloc (.cells #[.int .u8 (k : Int), .int .u32 (u : Int)] 34) = W4 at HR4 HD4
            refine (HCL.out _ HR4.out.set.dl).mono ?_
            rintro e w5 ⟨rfl, hb⟩
            have HR5 := Lib.hid (HR4.out.below hb)
            have c1 : w5.cell? ⟨wr.heap.size, 0, none⟩ = some (.int .u8 (k : Int)) := by rw [(HD4.out.below hb).cell]; rfl
            have c2 : w5.cell? ⟨wr.heap.size, 1, none⟩ = some (.int .u32 (u : Int)) := by rw [(HD4.out.below hb).cell]; rfl
            clear hb
            have HR6 := Lib.hid (HR5.out.below (below_one w5 (.cells #[.int .u8 (k : Int), .int .u32 (u : Int)] 34)))
            have HD6 := Lib.hid (Blk.new w5 34 #[.int .u8 (k : Int), .int .u32 (u : Int)])
            have HS6 : Hid (w.heap.size + 1 ≤ (w5.alloc (.cells #[.int .u8 (k : Int), .int .u32 (u : Int)] 34)).heap.size) := Lib.hid (by have := HR6.out.set.grp.lt; omega)
            cases b
            all_goals
              go_wp2_with (at_builtin; refine wpList_appendD rfl rfl rfl rfl HR6.out.out HD6.out HSZ.out HS6.out ?_; intro a7 cap7 w7 ho7 hk7 hl7)
              have HR7 := Lib.hid (HR6.out.push HLT.out ho7 hk7)
              clear ho7 hk7 hl7 c1 c2
              go_wp2_with fail
              go_roundw
              case rel => exact ⟨u2, a7, cap7, o2 ++ [(k, u)], by have := HU2.out; omega, .inl (by have := HU2.out; omega), rfl, by simp, HR7, Lib.hid (HOT.out _ rfl)⟩
              case measure => have := HU2.out; simp [intOf]; omega
          · rw [hrn] at HCL
            rw [hp] at HOT
            clear hp hrn
            go_wp2_with (refine wpList_run rfl (exec_load31 (v := v) rfl rfl HR4.out.set.grp) ?_)
            generalize wr.alloc (.cells #[.int .u8 (k : Int), .int .u32 (u : Int)] 34) = W4 at HR4 HD4
            refine (HCL.out _ HR4.out.set.dl).mono ?_
            rintro e w5 ⟨rfl, hb⟩
            have HR5 := Lib.hid (HR4.out.below hb)
            clear hb
            cases b
            all_goals
              go_wp2_with fail
              go_roundw
              case rel => exact ⟨u2, ao2, co2, o2, by have := HU2.out; omega, .inl (by have := HU2.out; omega), rfl, rfl, HR5, Lib.hid (HOT.out _ (by simp))⟩
              case measure => have := HU2.out; simp [intOf]; omega
        · have HF : Hid (o2 = abvTo c t p (k + 1)) := Lib.hid (by
            have e1 : u - z = T - y := by have := HZ.out; omega
            rw [HO2.out, HO.out, abvTo, HY.out, HTE.out, HZ.out, e1])
          go_wp2_with fail
          go_roundw
          case rel => exact ⟨k + 1, ao2, co2, o2, by omega, by go_num, rfl, HR2, HF⟩
          case measure => simp [intOf]; omega
    · obtain rfl : k = 16 := by omega
      go_wp2_with fail
      go_ret
      rw [← HO.out]
      exact ⟨_, _, rfl, HR.out.out.mono (by omega), HR.out.set.old⟩

theorem Lists.mono {l : List Dt} {w W w' : World} {e : Ending} (h : Lists l W e w') (hb : Below w.heap.size w W) : Lists l w e w' := by
  obtain ⟨a, cap, he, ho, hb2⟩ := h
  exact ⟨a, cap, he, ho.mono hb.size, hb.trans (hb2.mono hb.size)⟩

set_option maxHeartbeats 1000000 in
theorem rfloose_any {w : World} {v : V} {a : Option Addr} {n cap : Nat} {l : List Dt} {c : V} {L : List Dt} (h : DL w a n l) (K : Link v l c L) (hn : n < 1000000) : Calls Try.prog 20 #[setV v a n cap] w (Lists L w) := by
  have HT := Lib.hid (rt_new (v := v) (cap := cap) h)
  have hb1 := fun w => box31 (v.obj (.slice a n cap)) w
  have HC : Hid (∀ w', DL w' a n l → Calls Try.prog 36 #[setV v a n cap, .bool true] w' (Lists L w')) := Lib.hid (fun w' h => by
    have := rfabove_any (v := v) (cap := cap) h K hn true
    rwa [show (fun x => rin v l x == true) = (fun x => rin v l x) by funext x; simp, K.is_loose] at this)
  clear h K
  go_enter Try.func20, Try.ntmps20
  go_wp2_with (refine wpList_run rfl (exec_load31 (v := v) rfl rfl (Blk.new w 31 _)) ?_)
  clear hb1
  generalize w.alloc (.cells (v.obj (.slice a n cap)) 31) = W at HT
  refine (HC.out _ HT.out.dl).mono ?_
  rintro e w1 ⟨a1, cap1, rfl, ho, hb⟩
  have HF := Lib.hid (Lists.mono (w := w) ⟨a1, cap1, rfl, ho, hb⟩ HT.out.old)
  clear ho hb
  go_wp2_with fail
  go_ret
  exact HF.out

set_option maxHeartbeats 1000000 in
theorem rfmissing_any {w : World} {v : V} {a : Option Addr} {n cap : Nat} {l : List Dt} {c : V} {L : List Dt} (h : DL w a n l) (K : Link v l c L) (hn : n < 1000000) : Calls Try.prog 22 #[setV v a n cap] w (Lists (miss c L) w) := by
  have HT := Lib.hid (rt_new (v := v) (cap := cap) h)
  have hb1 := fun w => box31 (v.obj (.slice a n cap)) w
  have HC : Hid (∀ w', DL w' a n l → Calls Try.prog 36 #[setV v a n cap, .bool false] w' (Lists (miss c L) w')) := Lib.hid (fun w' h => by
    have := rfabove_any (v := v) (cap := cap) h K hn false
    rwa [show (fun x => rin v l x == false) = (fun x => !rin v l x) by funext x; cases rin v l x <;> rfl, K.is_missing] at this)
  clear h K
  go_enter Try.func22, Try.ntmps22
  go_wp2_with (refine wpList_run rfl (exec_load31 (v := v) rfl rfl (Blk.new w 31 _)) ?_)
  clear hb1
  generalize w.alloc (.cells (v.obj (.slice a n cap)) 31) = W at HT
  refine (HC.out _ HT.out.dl).mono ?_
  rintro e w1 ⟨a1, cap1, rfl, ho, hb⟩
  have HF := Lib.hid (Lists.mono (w := w) ⟨a1, cap1, rfl, ho, hb⟩ HT.out.old)
  clear ho hb
  go_wp2_with fail
  go_ret
  exact HF.out

end Go.Proofs.Ytkamldmcjegjgaa
