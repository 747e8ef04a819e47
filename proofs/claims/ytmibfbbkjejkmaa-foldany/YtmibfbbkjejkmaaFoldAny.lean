/- FoldAny: what is seen of a cart, which carts there are, and whether a list is closed hang on no order of the operations, if their dots are unlike ones. -/
import Derived.Test.YtmibfbbkjejkmaaAw
import Derived.Test.YtmibfbbkjejkmaaSy
import Derived.Test.YtmibfbbkjejkmaaRows
namespace Go.Proofs.Ytmibfbbkjejkmaa
open Go.ChangeShapes Go.WideShapes Go.ChangeAt Go.RowKit Go.Maps Fold

namespace FoldAny
theorem nums_lt {l : List Nat} (h : l.Pairwise (· < ·)) (hb : ∀ x ∈ l, x < 65536) : l.length < 1000000 := by
  have h1 : l.Nodup := List.nodup_iff_pairwise_ne.2 (h.imp fun h => by omega)
  have := h1.length_le_of_subset (l₂ := List.range 65536) (fun x hx => List.mem_range.2 (hb x hx))
  simp at this
  omega
theorem makeMap36 (w : World) : (Instr.makeMap 36 none).run Try.prog w = .ok (.map (some w.heap.size)) (w.alloc (.map #[] 0)) := by
  unfold Instr.makeMap
  simp only [Sem.run_bind]
  rfl
structure An (w W : World) (a : Option Addr) (n : Nat) (l : List O) (x y : Nat) : Prop where
  box : Blk W w.heap.size 35 #[.int .u8 (x : Int), .int .u8 (y : Int)]
  ol : OL W a n l
  old : Below w.heap.size w W
theorem An.below {w W W' : World} {a : Option Addr} {n x y : Nat} {l : List O} (h : An w W a n l x y) (hb : Below W.heap.size W W') : An w W' a n l x y := ⟨h.box.below hb, h.ol.below hb, h.old.trans (hb.mono h.old.size)⟩
theorem An.kept {w W W' : World} {a : Option Addr} {n x y g : Nat} {l : List O} (h : An w W a n l x y) (hk : Kept (fun i => i = g) W W') (h1 : w.heap.size < g) (h2 : ∀ ad, a = some ad → n ≠ 0 → ad.block < g) : An w W' a n l x y :=
  ⟨h.box.kept hk (by omega), h.ol.keep hk (fun ad e h0 => by have := h2 ad e h0; omega), h.old.trans (hk.below h.old.size (fun i e => by omega))⟩
structure Sn (w W : World) (m : Nat) (a : Option Addr) (n : Nat) (l : List O) (x y k cnt : Nat) (f : Lit → Option Value) : Prop where
  an : An w W a n l x y
  mp : MpF W 38 m cnt f
  cnt : cnt ≤ k
  dom : ∀ r s, r < 256 → s < 4294967296 → ((f (kd r s)).isSome = true ↔ ∃ o ∈ l.take k, o.r = r ∧ o.s = s)
  one : ∀ kl u, f kl = some u → u = .int .i64 1
  differ : Differ (l.take k)
  lt : w.heap.size < m ∧ ∀ ad, a = some ad → n ≠ 0 → ad.block < m
theorem Sn.below {w W W' : World} {m n x y k cnt : Nat} {a : Option Addr} {l : List O} {f : Lit → Option Value} (h : Sn w W m a n l x y k cnt f) (hb : Below W.heap.size W W') : Sn w W' m a n l x y k cnt f :=
  ⟨h.an.below hb, h.mp.below hb, h.cnt, h.dom, h.one, h.differ, h.lt⟩
theorem Sn.step {w W W' : World} {m n x y k cnt : Nat} {a : Option Addr} {l : List O} {f : Lit → Option Value} {o : O} (h : Sn w W m a n l x y k cnt f) (ho : l[k]? = some o) (hf : f (kd o.r o.s) = none) (hm : MpF W' 38 m (if (f (kd o.r o.s)).isSome then cnt else cnt + 1) (upd f (kd o.r o.s) (.int .i64 1))) (hk : Kept (fun i => i = m) W W') : Sn w W' m a n l x y (k + 1) (cnt + 1) (upd f (kd o.r o.s) (.int .i64 1)) := by
  have et : l.take (k + 1) = l.take k ++ [o] := by rw [List.take_add_one, ho]; rfl
  have hd := h.dom o.r o.s o.hr o.hs
  rw [hf] at hm hd
  refine ⟨h.an.kept hk h.lt.1 h.lt.2, hm, by have := h.cnt; omega, fun r s hr hs => ?_, fun kl u hu => ?_, ?_, h.lt⟩
  · rw [et]
    by_cases e : kd r s = kd o.r o.s
    · obtain ⟨rfl, rfl⟩ := kd_inj hr hs o.hr o.hs e
      rw [upd_same]
      exact ⟨fun _ => ⟨o, by simp, rfl, rfl⟩, fun _ => rfl⟩
    · rw [upd_other _ _ e, h.dom r s hr hs]
      constructor
      · rintro ⟨p, hp, h2⟩; exact ⟨p, List.mem_append_left _ hp, h2⟩
      · rintro ⟨p, hp, h2⟩
        rcases List.mem_append.1 hp with hp | hp
        · exact ⟨p, hp, h2⟩
        · obtain rfl : p = o := by simpa using hp
          exact absurd (by rw [h2.1, h2.2]) e
  · by_cases e : kl = kd o.r o.s
    · subst e
      rw [upd_same] at hu
      exact (Option.some.inj hu).symm
    · rw [upd_other _ _ e] at hu
      exact h.one kl u hu
  · rw [et]
    unfold Differ
    rw [List.pairwise_append]
    refine ⟨h.differ, by simp, fun p hp q hq => ?_⟩
    obtain rfl : q = o := by simpa using hq
    intro hh
    have := hd.2 ⟨p, hp, hh.1, hh.2⟩
    cases this
def R (w : World) (m : Nat) (a : Option Addr) (n : Nat) (l : List O) (x y : Nat) (u : Value) (W : World) : Prop :=
  ∃ (k cnt : Nat) (f : Lit → Option Value), u = .int .i64 (k : Int) ∧ k ≤ n ∧ Hid (Sn w W m a n l x y k cnt f)
set_option maxHeartbeats 8000000 in
set_option maxRecDepth 100000 in
theorem walk (a : Option Addr) (n cap : Nat) (l : List O) (c x y : Nat) (w : World) (_hlen : n ≤ maxLen) (hl : OL w a n l) (_hc : c < 65536) (hx : x < 256) (hy : y < 256) : Calls Try.prog 4 #[.slice a n cap, .int .u16 (c : Int), .agg #[.int .u8 (x : Int), .int .u8 (y : Int)]] w (Says (.bool true) w) := by
  obtain ⟨zo, ho⟩ : ∃ z, O.zero = z := ⟨_, rfl⟩
  have HO := Lib.hid ho
  have hb1 := fun (w : World) => box35 x y w
  have HA0 : Hid (An w (w.alloc (.cells #[.int .u8 (x : Int), .int .u8 (y : Int)] 35)) a n l x y) := Lib.hid ⟨Blk.new _ _ _, hl.below (below_one _ _), below_one _ _⟩
  have HLEN := Lib.hid (OL.len' hl)
  have HIN : Hid (∀ ad, a = some ad → n ≠ 0 → ad.block < w.heap.size) := Lib.hid (fun ad e h0 => hl.inside e h0)
  clear hl ho
  go_enter Try.func4, Try.ntmps4
  go_wp2_with fail
  clear hb1
  generalize w.alloc (.cells #[.int .u8 (x : Int), .int .u8 (y : Int)] 35) = w0 at HA0
  refine (alive_any _).mono ?_
  rintro e w1 ⟨rfl, hb⟩
  have HA1 := Lib.hid (HA0.out.below hb)
  clear hb HA0
  by_cases hgt : 40 < n
  · go_wp2_with fail
    go_ret
    exact ⟨rfl, HA1.out.old⟩
  by_cases h0 : n = 0
  · have hq0 : ((n : Int) == 0) = true := by simp; omega
    clear h0
    go_wp2_with fail
    go_ret
    exact ⟨rfl, HA1.out.old⟩
  have hq0 : ((n : Int) == 0) = false := by simp; omega
  have hmm := makeMap36
  go_wp2_with fail
  clear hq0 hmm
  have HS0 : Hid (Sn w (w1.alloc (.map #[] 0)) w1.heap.size a n l x y 0 0 (fun _ => none)) := Lib.hid ⟨HA1.out.below (below_one _ _), mpF_new w1 38, Nat.le_refl _, fun _ _ _ _ => by simp, fun _ _ h => (by cases h), by simp [Differ], HA1.out.box.lt, fun ad e h0 => by have := HIN.out ad e h0; have := HA1.out.box.lt; omega⟩
  generalize w1.alloc (.map #[] 0) = w2 at HS0
  generalize w1.heap.size = m at HS0
  clear HA1
  go_loopw [26] (R w m a n l x y) (fun u _ => n - (numI u).toNat)
  case atStart => exact ⟨0, 0, _, rfl, Nat.zero_le _, HS0⟩
  case round =>
    obtain ⟨k, cnt, f, rfl, hkn, HS⟩ := hrel
    clear HS0
    by_cases hlt : k < n
    · obtain ⟨b, off, o, rfl, hox, hr⟩ := OL.at HS.out.an.ol hlt
      have HX := Lib.hid hox
      have HR := Lib.hid hr
      clear hox hr
      go_wp2_with (first | (refine wpList_run rfl (exec_idxO (i := k) rfl rfl rfl rfl hlt) ?_) | (refine wpList_run rfl (exec_ldO rfl rfl HR.out) ?_) | (refine wpList_run rfl (exec_alloc40z HO.out rfl) ?_) | (refine wpList_stop40 rfl ?_))
      refine ⟨?_⟩
      refine wpList_void rfl rfl (exec_store40 (p := zo) (u := o) rfl rfl rfl (Blk.new wr 40 zo.arr)) ?_
      have H1 : Hid (Ow wr ((wr.alloc (.cells zo.arr 40)).setRow wr.heap.size o.arr) o) := Lib.hid ⟨olaid_blk wr zo o, olaid_old wr zo o⟩
      generalize (wr.alloc (.cells zo.arr 40)).setRow wr.heap.size o.arr = w4 at H1
      have HS4 := Lib.hid (HS.out.below H1.out.old)
      have HO4 := Lib.hid H1.out.one
      generalize wr.heap.size = g9 at HO4
      clear H1 HS HR
      have HNE : Hid (¬ g9 = m) := Lib.hid (fun e => HS4.out.mp.ne HO4.out e.symm)
      obtain ⟨v0, st, w5, he1, hk1, hlk, hst⟩ := entry_run HS4.out.mp.drew (by have := HS4.out.cnt; omega) o.hr o.hs
      obtain ⟨c0, hc0, hcc⟩ : ∃ c0 : Int, (f (kd o.r o.s)).getD (.int .i64 0) = .int .i64 c0 ∧ ((f (kd o.r o.s) = none ∧ c0 = 0) ∨ ((f (kd o.r o.s)).isSome = true ∧ c0 = 1)) := by
        cases hf : f (kd o.r o.s) with
        | none => exact ⟨0, rfl, .inl ⟨rfl, rfl⟩⟩
        | some u => exact ⟨1, HS4.out.one _ _ hf, .inr ⟨rfl, rfl⟩⟩
      have hl0 := HS4.out.mp.drew.look law38 und36 (zero3 _) (key38 o.hr o.hs)
      rw [hc0] at hl0 hlk
      obtain ⟨w6, hst6, hm6, hk2⟩ := hst (.int .i64 (c0 + 1))
      have HE1 := Lib.hid he1
      have HK1 := Lib.hid hk1
      have HLK := Lib.hid hlk
      have HL0 := Lib.hid hl0
      have HST := Lib.hid hst6
      have HK2 := Lib.hid hk2
      have HM6 := Lib.hid hm6
      have HCC := Lib.hid hcc
      have hcb : 0 ≤ c0 ∧ c0 ≤ 1 := by rcases hcc with h | h <;> omega
      clear he1 hk1 hlk hst hc0 hl0 hst6 hk2 hm6 hcc
      go_upto_region 9 with fail
      refine wp_cut (fun act a' w' => a' = (((((((act.put (some 30) (.map (some m))).put (some 31) (.pointer (some ⟨g9, 0, none⟩))).put (some 32) (dotV o.r o.s)).put (some 33) (.int .i64 c0)).put (some 34) (.int .i64 (c0 + 1))).put (some 35) (.tuple #[v0, goInt st])).put (some 36) (goInt st)) ∧ w' = w6) ?cont ?reg
      case reg =>
        refine wp_region_held_drew (S := fun W => Blk W g9 40 o.arr) (by kernel_rfl) (HO4.out.below (drew_below w4)) (fun hS => ?_)
        have hS0 := hS
        refine held_take 0 30 (.map (some m)) rfl rfl (by kernel_rfl) (by kernel_rfl) (by kernel_rfl) (fun _ _ _ h => by cases h.1) (by kernel_rfl) (fun _ _ => rfl) hS ?_
        simp only [Act.put, List.setIfInBounds_toArray, List.set_cons_zero, List.set_cons_succ]
        refine held_take 1 31 (.pointer (some ⟨g9, 0, none⟩)) rfl rfl (by kernel_rfl) (by kernel_rfl) (by kernel_rfl) (fun _ _ _ h => by cases h.1) (by kernel_rfl) (fun _ _ => (by kernel_rfl)) hS ?_
        simp only [Act.put, List.setIfInBounds_toArray, List.set_cons_zero, List.set_cons_succ]
        refine held_take 2 32 (dotV o.r o.s) rfl rfl (by kernel_rfl) (by kernel_rfl) (by kernel_rfl) (fun _ _ _ h => by cases h.1) (by kernel_rfl) (fun _ h => exec_dot (p := o) rfl rfl h) hS ?_
        simp only [Act.put, List.setIfInBounds_toArray, List.set_cons_zero, List.set_cons_succ]
        refine wpAnyH_ready (rs := [3, 5]) (by kernel_rfl) (by simp) ?_
        refine br_exec 3 33 (.int .i64 c0) rfl rfl (by kernel_rfl) (exec_look36 rfl rfl rfl HL0.out) hS ?_ ?_
        · simp only [Act.put, List.setIfInBounds_toArray, List.set_cons_zero, List.set_cons_succ]
          refine held_take 4 34 (.int .i64 (c0 + 1)) rfl rfl (by kernel_rfl) (by kernel_rfl) (by kernel_rfl) (fun _ _ _ h => by cases h.1) (by kernel_rfl) (fun _ _ => exec_addN rfl rfl rfl (by omega) (by omega) (by omega)) hS ?_
          simp only [Act.put, List.setIfInBounds_toArray, List.set_cons_zero, List.set_cons_succ]
          refine held_exec 5 35 (.tuple #[v0, goInt st]) rfl rfl (by kernel_rfl) (by kernel_rfl) (exec_entry rfl rfl rfl HE1.out) (hS0.kept HK1.out HNE.out) ?_
          simp only [Act.put, List.setIfInBounds_toArray, List.set_cons_zero, List.set_cons_succ]
          replace hS := hS0.kept HK1.out HNE.out
          refine held_take 6 36 (goInt st) rfl rfl (by kernel_rfl) (by kernel_rfl) (by kernel_rfl) (fun _ _ _ h => by cases h.1) (by kernel_rfl) (fun _ _ => (by kernel_rfl)) hS ?_
          simp only [Act.put, List.setIfInBounds_toArray, List.set_cons_zero, List.set_cons_succ]
          refine held_void 7 rfl rfl (by kernel_rfl) (by kernel_rfl) (exec_entst rfl rfl rfl rfl HST.out) ((hS0.kept HK1.out HNE.out).kept HK2.out HNE.out) ?_
          refine wpAnyH_done (by kernel_rfl) ?_ _
          exact ⟨rfl, rfl, rfl⟩
        refine br_exec 5 35 (.tuple #[v0, goInt st]) rfl rfl (by kernel_rfl) (exec_entry rfl rfl rfl HE1.out) (hS0.kept HK1.out HNE.out) ?_ AllReadyH.nil
        simp only [Act.put, List.setIfInBounds_toArray, List.set_cons_zero, List.set_cons_succ]
        replace hS := hS0.kept HK1.out HNE.out
        refine held_take 6 36 (goInt st) rfl rfl (by kernel_rfl) (by kernel_rfl) (by kernel_rfl) (fun _ _ _ h => by cases h.1) (by kernel_rfl) (fun _ _ => (by kernel_rfl)) hS ?_
        simp only [Act.put, List.setIfInBounds_toArray, List.set_cons_zero, List.set_cons_succ]
        refine held_exec 3 33 (.int .i64 c0) rfl rfl (by kernel_rfl) (by kernel_rfl) (exec_look36 rfl rfl rfl HLK.out) hS ?_
        simp only [Act.put, List.setIfInBounds_toArray, List.set_cons_zero, List.set_cons_succ]
        refine held_take 4 34 (.int .i64 (c0 + 1)) rfl rfl (by kernel_rfl) (by kernel_rfl) (by kernel_rfl) (fun _ _ _ h => by cases h.1) (by kernel_rfl) (fun _ _ => exec_addN rfl rfl rfl (by omega) (by omega) (by omega)) hS ?_
        simp only [Act.put, List.setIfInBounds_toArray, List.set_cons_zero, List.set_cons_succ]
        refine held_void 7 rfl rfl (by kernel_rfl) (by kernel_rfl) (exec_entst rfl rfl rfl rfl HST.out) ((hS0.kept HK1.out HNE.out).kept HK2.out HNE.out) ?_
        refine wpAnyH_done (by kernel_rfl) ?_ _
        exact ⟨rfl, rfl, rfl⟩
      case cont =>
        rintro _ w7 ⟨rfl, hw7⟩
        simp only [Act.put, List.setIfInBounds_toArray, List.set_cons_zero, List.set_cons_succ]
        rw [hw7]
        clear hw7 w7
        have HO6 : Hid (Blk w6 g9 40 o.arr) := Lib.hid (((HO4.out.below (drew_below w4)).kept HK1.out HNE.out).kept HK2.out HNE.out)
        have HKK : Hid (Kept (fun i => i = m) w4 w6) := Lib.hid (((Kept.of_below (S := fun i => i = m) (drew_below w4)).trans HK1.out (fun _ h => .inl h)).trans HK2.out (fun _ h => .inl h))
        have HL6 : Hid ((Instr.lookup 36 (.map (some m)) (dotV o.r o.s) false).run Try.prog w6 = .ok (.int .i64 (c0 + 1)) w6) := Lib.hid (by
          have h := HM6.out.look law38 und36 (zero3 w6) (key38 o.hr o.hs)
          rw [upd_same] at h
          exact h)
        have HAN := Lib.hid (HS4.out.an.kept HKK.out HS4.out.lt.1 HS4.out.lt.2)
        rcases HCC.out with ⟨hf, rfl⟩ | ⟨hf, rfl⟩
        · have HSN := Lib.hid (HS4.out.step HX.out hf HM6.out HKK.out)
          have hz : ¬ (1 : Int) < 0 + 1 := by omega
          clear hf
          go_wp2_with (first | (refine wpList_run rfl (exec_dot (p := o) rfl rfl HO6.out) ?_) | (refine wpList_run rfl (exec_look36 rfl rfl rfl HL6.out) ?_))
          go_roundw
          case rel => exact ⟨k + 1, cnt + 1, _, by go_num, hlt, HSN⟩
          case measure => simp [numI]; omega
        · have hz : (1 : Int) < 1 + 1 := by omega
          clear hf
          go_wp2_with (first | (refine wpList_run rfl (exec_dot (p := o) rfl rfl HO6.out) ?_) | (refine wpList_run rfl (exec_look36 rfl rfl rfl HL6.out) ?_))
          go_ret
          exact ⟨rfl, HAN.out.old⟩
    · obtain rfl : k = n := by omega
      have HUN : Hid (Unlike l) := Lib.hid (by
        have h := HS.out.differ
        rw [List.take_of_length_le (by rw [HLEN.out]; exact Nat.le_refl _)] at h
        exact unlike_differ h)
      have HAX := Lib.hid HS.out.an
      clear HS hlt hkn
      go_wp2_with (at_builtin; refine wpList_copy (B := wr.heap.size) rfl rfl rfl rfl HAX.out.ol (by omega) (Nat.le_refl _) ?_; intro a2 cap2 w2 ho2 hb2)
      obtain ⟨g2, rfl, hg2, hmx, hcap⟩ := mx_of ho2 (by omega)
      have HA2 := Lib.hid (HAX.out.below hb2)
      have HG2 : Hid (w.heap.size < g2 ∧ ∀ ad, a = some ad → k ≠ 0 → ad.block < g2) := Lib.hid ⟨by have := HAX.out.box.lt; omega, fun ad e h0 => by have := HAX.out.ol.inside e h0; omega⟩
      have HM2 := Lib.hid hmx
      clear ho2 hb2 hg2 hmx HAX
      go_upto_region 14 with fail
      refine wp_region_held_drew (S := fun W => Below w2.heap.size w2 W) (by kernel_rfl) (drew_below w2) (fun hS => ?_)
      refine held_take 0 45 (.pointer (some ⟨w.heap.size, 0, none⟩)) rfl rfl (by kernel_rfl) (by kernel_rfl) (by kernel_rfl) (fun _ _ _ h => h) (by kernel_rfl) (fun _ _ => (by kernel_rfl)) hS ?_
      simp only [Act.put, List.setIfInBounds_toArray, List.set_cons_zero, List.set_cons_succ]
      refine held_take 1 46 (.int .u8 (x : Int)) rfl rfl (by kernel_rfl) (by kernel_rfl) (by kernel_rfl) (fun _ _ _ h => h) (by kernel_rfl) (fun _ h => exec_cell rfl rfl (load_cell (by kernel_rfl) (by rw [(HA2.out.box.below h).cell]; rfl))) hS ?_
      simp only [Act.put, List.setIfInBounds_toArray, List.set_cons_zero, List.set_cons_succ]
      refine held_take 2 47 (.int .i64 (x : Int)) rfl rfl (by kernel_rfl) (by kernel_rfl) (by kernel_rfl) (fun _ _ _ h => h) (by kernel_rfl) (fun _ _ => exec_conv8 rfl rfl hx) hS ?_
      simp only [Act.put, List.setIfInBounds_toArray, List.set_cons_zero, List.set_cons_succ]
      refine held_take 3 48 (.slice (some ⟨g2, 0, none⟩) k cap2) rfl rfl (by kernel_rfl) (by kernel_rfl) (by kernel_rfl) (fun _ _ _ h => h) (by kernel_rfl) (fun _ _ => rfl) hS ?_
      simp only [Act.put, List.setIfInBounds_toArray, List.set_cons_zero, List.set_cons_succ]
      refine held_take 4 49 (.int .i64 (k : Int)) rfl rfl (by kernel_rfl) (by kernel_rfl) (by kernel_rfl) (fun _ _ _ h => h) (by kernel_rfl) (fun _ _ => (by kernel_rfl)) hS ?_
      simp only [Act.put, List.setIfInBounds_toArray, List.set_cons_zero, List.set_cons_succ]
      refine held_take 5 50 (.int .i64 ((x % k : Nat) : Int)) rfl rfl (by kernel_rfl) (by kernel_rfl) (by kernel_rfl) (fun _ _ _ h => h) (by kernel_rfl) (fun _ _ => exec_remN rfl rfl rfl (by omega)) hS ?_
      simp only [Act.put, List.setIfInBounds_toArray, List.set_cons_zero, List.set_cons_succ]
      refine held_take 6 51 (.pointer (some ⟨w.heap.size, 1, none⟩)) rfl rfl (by kernel_rfl) (by kernel_rfl) (by kernel_rfl) (fun _ _ _ h => h) (by kernel_rfl) (fun _ _ => (by kernel_rfl)) hS ?_
      simp only [Act.put, List.setIfInBounds_toArray, List.set_cons_zero, List.set_cons_succ]
      refine held_take 7 52 (.int .u8 (y : Int)) rfl rfl (by kernel_rfl) (by kernel_rfl) (by kernel_rfl) (fun _ _ _ h => h) (by kernel_rfl) (fun _ h => exec_cell rfl rfl (load_cell (by kernel_rfl) (by rw [(HA2.out.box.below h).cell]; rfl))) hS ?_
      simp only [Act.put, List.setIfInBounds_toArray, List.set_cons_zero, List.set_cons_succ]
      refine held_take 8 53 (.int .i64 (y : Int)) rfl rfl (by kernel_rfl) (by kernel_rfl) (by kernel_rfl) (fun _ _ _ h => h) (by kernel_rfl) (fun _ _ => exec_conv8 rfl rfl hy) hS ?_
      simp only [Act.put, List.setIfInBounds_toArray, List.set_cons_zero, List.set_cons_succ]
      refine held_take 9 54 (.slice (some ⟨g2, 0, none⟩) k cap2) rfl rfl (by kernel_rfl) (by kernel_rfl) (by kernel_rfl) (fun _ _ _ h => h) (by kernel_rfl) (fun _ _ => rfl) hS ?_
      simp only [Act.put, List.setIfInBounds_toArray, List.set_cons_zero, List.set_cons_succ]
      refine held_take 10 55 (.int .i64 (k : Int)) rfl rfl (by kernel_rfl) (by kernel_rfl) (by kernel_rfl) (fun _ _ _ h => h) (by kernel_rfl) (fun _ _ => (by kernel_rfl)) hS ?_
      simp only [Act.put, List.setIfInBounds_toArray, List.set_cons_zero, List.set_cons_succ]
      refine held_take 11 56 (.int .i64 ((y % k : Nat) : Int)) rfl rfl (by kernel_rfl) (by kernel_rfl) (by kernel_rfl) (fun _ _ _ h => h) (by kernel_rfl) (fun _ _ => exec_remN rfl rfl rfl (by omega)) hS ?_
      simp only [Act.put, List.setIfInBounds_toArray, List.set_cons_zero, List.set_cons_succ]
      refine held_take 12 11 (.int .i64 ((x % k : Nat) : Int)) rfl rfl (by kernel_rfl) (by kernel_rfl) (by kernel_rfl) (fun _ _ _ h => h) (by kernel_rfl) (fun _ _ => rfl) hS ?_
      simp only [Act.put, List.setIfInBounds_toArray, List.set_cons_zero, List.set_cons_succ]
      refine held_take 13 12 (.int .i64 ((y % k : Nat) : Int)) rfl rfl (by kernel_rfl) (by kernel_rfl) (by kernel_rfl) (fun _ _ _ h => h) (by kernel_rfl) (fun _ _ => rfl) hS ?_
      simp only [Act.put, List.setIfInBounds_toArray, List.set_cons_zero, List.set_cons_succ]
      refine wpAnyH_done (by kernel_rfl) ?_ _
      clear hS
      have HA3 := Lib.hid (HA2.out.below (drew_below w2))
      have HM3 := Lib.hid (HM2.out.below (by omega) (drew_below w2))
      generalize w2.drew = w3 at HA3 HM3
      obtain ⟨i, hie⟩ : ∃ i, x % k = i := ⟨_, rfl⟩
      obtain ⟨j, hje⟩ : ∃ j, y % k = j := ⟨_, rfl⟩
      have hi : i < k := by rw [← hie]; exact Nat.mod_lt _ (by omega)
      have hj : j < k := by rw [← hje]; exact Nat.mod_lt _ (by omega)
      rw [hie, hje]
      clear hie hje HA2 HM2
      have HA4 := Lib.hid (HA3.out.below (drew_below w3))
      have HM4 := Lib.hid (HM3.out.below (by omega) (drew_below w3))
      obtain ⟨p, hp, hrp⟩ := Mx.at HM4.out hi
      obtain ⟨r, hr, hrr⟩ := Mx.at HM4.out hj
      have HRP := Lib.hid hrp
      have HRR := Lib.hid hrr
      have HPERM := Lib.hid (turned_perm hp hr)
      have HM5 := Lib.hid (HM4.out.set hi r)
      have HM6 := Lib.hid (HM5.out.set hj p)
      have HK5 : Hid (Kept (fun z => z = g2) w3.drew ((w3.drew.setCells g2 (0 + i * 23) r.cs).setCells g2 (0 + j * 23) p.cs)) := Lib.hid ((Kept.setCells r.cs (0 + i * 23) w3.drew).trans (Kept.setCells p.cs (0 + j * 23) _) (fun _ h => .inl h))
      have HA6 := Lib.hid (HA4.out.kept HK5.out HG2.out.1 HG2.out.2)
      clear hp hr hrp hrr HK5 HG2 HA3
      go_upto_region 15 with fail
      refine wp_region_held_drew (S := fun _ => True) (by kernel_rfl) trivial (fun hS => ?_)
      refine held_take 0 57 (.slice (some ⟨g2, 0, none⟩) k cap2) rfl rfl (by kernel_rfl) (by kernel_rfl) (by kernel_rfl) (fun _ _ _ h => h) (by kernel_rfl) (fun _ _ => rfl) hS ?_
      simp only [Act.put, List.setIfInBounds_toArray, List.set_cons_zero, List.set_cons_succ]
      refine held_take 1 58 (.int .i64 (i : Int)) rfl rfl (by kernel_rfl) (by kernel_rfl) (by kernel_rfl) (fun _ _ _ h => h) (by kernel_rfl) (fun _ _ => rfl) hS ?_
      simp only [Act.put, List.setIfInBounds_toArray, List.set_cons_zero, List.set_cons_succ]
      refine held_take 2 59 (.slice (some ⟨g2, 0, none⟩) k cap2) rfl rfl (by kernel_rfl) (by kernel_rfl) (by kernel_rfl) (fun _ _ _ h => h) (by kernel_rfl) (fun _ _ => rfl) hS ?_
      simp only [Act.put, List.setIfInBounds_toArray, List.set_cons_zero, List.set_cons_succ]
      refine held_take 3 60 (.int .i64 (j : Int)) rfl rfl (by kernel_rfl) (by kernel_rfl) (by kernel_rfl) (fun _ _ _ h => h) (by kernel_rfl) (fun _ _ => rfl) hS ?_
      simp only [Act.put, List.setIfInBounds_toArray, List.set_cons_zero, List.set_cons_succ]
      refine held_take 4 61 (.slice (some ⟨g2, 0, none⟩) k cap2) rfl rfl (by kernel_rfl) (by kernel_rfl) (by kernel_rfl) (fun _ _ _ h => h) (by kernel_rfl) (fun _ _ => rfl) hS ?_
      simp only [Act.put, List.setIfInBounds_toArray, List.set_cons_zero, List.set_cons_succ]
      refine held_take 5 62 (.int .i64 (j : Int)) rfl rfl (by kernel_rfl) (by kernel_rfl) (by kernel_rfl) (fun _ _ _ h => h) (by kernel_rfl) (fun _ _ => rfl) hS ?_
      simp only [Act.put, List.setIfInBounds_toArray, List.set_cons_zero, List.set_cons_succ]
      refine held_take 6 63 (.pointer (some ⟨g2, 0 + j * 23, none⟩)) rfl rfl (by kernel_rfl) (by kernel_rfl) (by kernel_rfl) (fun _ _ _ h => h) (by kernel_rfl) (fun _ _ => exec_idxO (i := j) rfl rfl rfl rfl hj) hS ?_
      simp only [Act.put, List.setIfInBounds_toArray, List.set_cons_zero, List.set_cons_succ]
      refine held_take 8 65 (.slice (some ⟨g2, 0, none⟩) k cap2) rfl rfl (by kernel_rfl) (by kernel_rfl) (by kernel_rfl) (fun _ _ _ h => h) (by kernel_rfl) (fun _ _ => rfl) hS ?_
      simp only [Act.put, List.setIfInBounds_toArray, List.set_cons_zero, List.set_cons_succ]
      refine held_take 9 66 (.int .i64 (i : Int)) rfl rfl (by kernel_rfl) (by kernel_rfl) (by kernel_rfl) (fun _ _ _ h => h) (by kernel_rfl) (fun _ _ => rfl) hS ?_
      simp only [Act.put, List.setIfInBounds_toArray, List.set_cons_zero, List.set_cons_succ]
      refine held_take 10 67 (.pointer (some ⟨g2, 0 + i * 23, none⟩)) rfl rfl (by kernel_rfl) (by kernel_rfl) (by kernel_rfl) (fun _ _ _ h => h) (by kernel_rfl) (fun _ _ => exec_idxO (i := i) rfl rfl rfl rfl hi) hS ?_
      simp only [Act.put, List.setIfInBounds_toArray, List.set_cons_zero, List.set_cons_succ]
      refine held_two 7 11 64 68 (.agg r.arr) (.agg p.arr) (by decide) (by decide) rfl rfl rfl rfl (by kernel_rfl) (by kernel_rfl) (by kernel_rfl) (by kernel_rfl) (by kernel_rfl) (by kernel_rfl) (by kernel_rfl) (exec_ldO rfl rfl HRR.out) (exec_ldO rfl rfl HRP.out) (exec_ldO rfl rfl HRR.out) (exec_ldO rfl rfl HRP.out) trivial ?_
      simp only [Act.put, List.setIfInBounds_toArray, List.set_cons_zero, List.set_cons_succ]
      refine held_exec 12 69 (.pointer (some ⟨g2, 0 + i * 23, none⟩)) rfl rfl (by kernel_rfl) (by kernel_rfl) (exec_idxO (i := i) rfl rfl rfl rfl hi) trivial ?_
      simp only [Act.put, List.setIfInBounds_toArray, List.set_cons_zero, List.set_cons_succ]
      refine held_void 13 rfl rfl (by kernel_rfl) (by kernel_rfl) (exec_stO rfl rfl rfl HM4.out hi) trivial ?_
      refine held_exec 14 70 (.pointer (some ⟨g2, 0 + j * 23, none⟩)) rfl rfl (by kernel_rfl) (by kernel_rfl) (exec_idxO (i := j) rfl rfl rfl rfl hj) trivial ?_
      simp only [Act.put, List.setIfInBounds_toArray, List.set_cons_zero, List.set_cons_succ]
      refine held_void 15 rfl rfl (by kernel_rfl) (by kernel_rfl) (exec_stO rfl rfl rfl HM5.out hj) trivial ?_
      refine wpAnyH_done (by kernel_rfl) ?_ _
      generalize (w3.drew.setCells g2 (0 + i * 23) r.cs).setCells g2 (0 + j * 23) p.cs = w7 at HM6 HA6
      generalize (l.set i r).set j p = l2 at HM6 HPERM
      clear HM4 HM5 HRP HRR HM3 HA4 hS
      go_upto_region 16 with fail
      refine wp_region_held_drew (S := fun W => Below w7.heap.size w7 W) (by kernel_rfl) (drew_below w7) (fun hS => ?_)
      refine held_take 0 71 (.slice (some ⟨g2, 0, none⟩) k cap2) rfl rfl (by kernel_rfl) (by kernel_rfl) (by kernel_rfl) (fun _ _ _ h => h) (by kernel_rfl) (fun _ _ => rfl) hS ?_
      simp only [Act.put, List.setIfInBounds_toArray, List.set_cons_zero, List.set_cons_succ]
      refine held_take 1 72 (.int .i64 (i : Int)) rfl rfl (by kernel_rfl) (by kernel_rfl) (by kernel_rfl) (fun _ _ _ h => h) (by kernel_rfl) (fun _ _ => rfl) hS ?_
      simp only [Act.put, List.setIfInBounds_toArray, List.set_cons_zero, List.set_cons_succ]
      refine held_take 2 73 (.slice (some ⟨g2, 0, none⟩) k cap2) rfl rfl (by kernel_rfl) (by kernel_rfl) (by kernel_rfl) (fun _ _ _ h => h) (by kernel_rfl) (fun _ _ => rfl) hS ?_
      simp only [Act.put, List.setIfInBounds_toArray, List.set_cons_zero, List.set_cons_succ]
      refine held_take 3 74 (.int .i64 (k : Int)) rfl rfl (by kernel_rfl) (by kernel_rfl) (by kernel_rfl) (fun _ _ _ h => h) (by kernel_rfl) (fun _ _ => (by kernel_rfl)) hS ?_
      simp only [Act.put, List.setIfInBounds_toArray, List.set_cons_zero, List.set_cons_succ]
      refine held_take 4 75 (.slice (some ⟨g2, 0, none⟩) k cap2) rfl rfl (by kernel_rfl) (by kernel_rfl) (by kernel_rfl) (fun _ _ _ h => h) (by kernel_rfl) (fun _ _ => rfl) hS ?_
      simp only [Act.put, List.setIfInBounds_toArray, List.set_cons_zero, List.set_cons_succ]
      refine held_take 5 76 (.int .i64 (k : Int)) rfl rfl (by kernel_rfl) (by kernel_rfl) (by kernel_rfl) (fun _ _ _ h => h) (by kernel_rfl) (fun _ _ => (by kernel_rfl)) hS ?_
      simp only [Act.put, List.setIfInBounds_toArray, List.set_cons_zero, List.set_cons_succ]
      refine held_take 6 77 (.slice (some ⟨g2, 0 + i * 23, none⟩) (k - i) (k - i)) rfl rfl (by kernel_rfl) (by kernel_rfl) (by kernel_rfl) (fun _ _ _ h => h) (by kernel_rfl) (fun _ _ => exec_cut3 rfl rfl rfl rfl rfl hi hcap) hS ?_
      simp only [Act.put, List.setIfInBounds_toArray, List.set_cons_zero, List.set_cons_succ]
      refine held_take 7 78 (.slice (some ⟨g2, 0, none⟩) k cap2) rfl rfl (by kernel_rfl) (by kernel_rfl) (by kernel_rfl) (fun _ _ _ h => h) (by kernel_rfl) (fun _ _ => rfl) hS ?_
      simp only [Act.put, List.setIfInBounds_toArray, List.set_cons_zero, List.set_cons_succ]
      refine held_take 8 79 (.int .i64 (i : Int)) rfl rfl (by kernel_rfl) (by kernel_rfl) (by kernel_rfl) (fun _ _ _ h => h) (by kernel_rfl) (fun _ _ => rfl) hS ?_
      simp only [Act.put, List.setIfInBounds_toArray, List.set_cons_zero, List.set_cons_succ]
      refine held_take 9 80 (.slice (some ⟨g2, 0, none⟩) i cap2) rfl rfl (by kernel_rfl) (by kernel_rfl) (by kernel_rfl) (fun _ _ _ h => h) (by kernel_rfl) (fun _ _ => exec_cutH rfl rfl rfl hi hcap) hS ?_
      simp only [Act.put, List.setIfInBounds_toArray, List.set_cons_zero, List.set_cons_succ]
      refine held_wp 10 81 (R := fun v W' => ∃ a' cap', v = .slice a' k cap' ∧ OL W' a' k (l2.drop i ++ l2.take i) ∧ Below w7.heap.size w7 W') rfl rfl (by kernel_rfl) (by kernel_rfl) (fun K hK => wp_turn rfl rfl rfl (HM6.out.below (by omega) hS) hi (by omega) (fun a' cap' w' h1 h2 => hK _ _ ⟨a', cap', rfl, h1, hS.trans (h2.mono hS.size)⟩)) ?_
      rintro v w8 ⟨a8, cap8, rfl, ho8, hb8⟩
      refine ⟨hb8, ?_⟩
      simp only [Act.put, List.setIfInBounds_toArray, List.set_cons_zero, List.set_cons_succ]
      refine held_exec 11 10 (.slice a8 k cap8) rfl rfl (by kernel_rfl) (by kernel_rfl) rfl hb8 ?_
      simp only [Act.put, List.setIfInBounds_toArray, List.set_cons_zero, List.set_cons_succ]
      refine wpAnyH_done (by kernel_rfl) ?_ _
      have HA8 := Lib.hid (HA6.out.below hb8)
      have HO8 := Lib.hid ho8
      generalize l2.drop i ++ l2.take i = M at HO8 HPERM
      clear ho8 hb8 hS HM6 HA6
      obtain ⟨L, hL⟩ : ∃ L, l.filter (fun o => decide (o.c = c)) = L := ⟨_, rfl⟩
      obtain ⟨LM, hLM⟩ : ∃ L, M.filter (fun o => decide (o.c = c)) = L := ⟨_, rfl⟩
      have HL := Lib.hid hL
      have HLM := Lib.hid hLM
      have HPF : Hid (L.Perm LM) := Lib.hid (by rw [← hL, ← hLM]; exact (HPERM.out.filter _).symm)
      have HUL : Hid (Unlike L) := Lib.hid (by rw [← hL]; exact unlike_filter HUN.out _)
      clear hL hLM
      go_wp2_with fail
      refine (view_lines HA8.out.ol (by omega) c HL.out).mono ?_
      rintro e w9 ⟨its, a9, cap9, hit, rfl, hown, hb⟩
      have HI := Lib.hid hit
      have HG := Lib.hid hown.gl
      have HA9 := Lib.hid (HA8.out.below hb)
      have HO9 := Lib.hid (HO8.out.below hb)
      clear hit hown hb HA8 HO8
      go_wp2_with fail
      refine (view_lines HO9.out (by omega) c HLM.out).mono ?_
      rintro e w10 ⟨its2, a10, cap10, hit2, rfl, hown2, hb⟩
      obtain rfl := items_one (items_perm' HPF.out HI.out) hit2
      have HG4 := Lib.hid (HG.out.below hb)
      have HG5 := Lib.hid hown2.gl
      have hsz : its.length < 1000000 := items_lt hit2
      rw [lines_perm HPF.out HUL.out, lines_ln] at HG5
      rw [lines_ln] at HG4
      rw [← out_perm' HPF.out, ← tick_perm' HPF.out]
      have HA10 := Lib.hid (HA9.out.below hb)
      have HO10 := Lib.hid (HO9.out.below hb)
      clear hit2 hown2 hb HG HA9 HO9
      generalize outTo L L.length = ot
      generalize tkTo L L.length = t
      generalize (its.map fun i => (i, qtyAt L i)) = ls at HG4 HG5
      generalize its.length = nk at HG4 HG5 hsz
      unfold viewV
      go_wp2_with fail
      refine (same_any c a9 a10 nk cap9 cap10 ot t ls _ hsz HG4.out HG5.out).mono ?_
      rintro e w11 ⟨rfl, hb⟩
      have HA11 := Lib.hid (HA10.out.below hb)
      have HO11 := Lib.hid (HO10.out.below hb)
      clear hb HA10 HO10
      go_wp2_with fail
      refine (carts_any HA11.out.ol (by omega)).mono ?_
      rintro e w12 ⟨a12, cap12, c12, rfl, hs12, hm12, hown, hb⟩
      have HG := Lib.hid (ownG_of hown).gl
      have HA12 := Lib.hid (HA11.out.below hb)
      have HO12 := Lib.hid (HO11.out.below hb)
      have HS12 := Lib.hid hs12
      have HM12 := Lib.hid hm12
      have hsz2 : c12.length < 1000000 := nums_lt hs12 (fun z hz => by obtain ⟨o, _, rfl⟩ := (hm12 z).1 hz; exact o.hc)
      clear hown hb HA11 HO11 hs12 hm12 HG4 HG5
      go_wp2_with fail
      refine (carts_any HO12.out (by omega)).mono ?_
      rintro e w13 ⟨a13, cap13, c13, rfl, hs13, hm13, hown, hb⟩
      obtain rfl : c12 = c13 := sorted_one HS12.out hs13 (fun z => by
        rw [HM12.out z, hm13 z]
        constructor
        · rintro ⟨o, h1, h2⟩; exact ⟨o, HPERM.out.mem_iff.2 h1, h2⟩
        · rintro ⟨o, h1, h2⟩; exact ⟨o, HPERM.out.mem_iff.1 h1, h2⟩)
      have HG4 := Lib.hid (HG.out.below hb)
      have HG5 := Lib.hid (ownG_of hown).gl
      have HA13 := Lib.hid (HA12.out.below hb)
      have HO13 := Lib.hid (HO12.out.below hb)
      clear hown hb HA12 HO12 hs13 hm13 HG HS12 HM12
      go_wp2_with fail
      refine (carteq_any a12 a13 c12.length cap12 cap13 c12 _ hsz2 HG4.out HG5.out).mono ?_
      rintro e w14 ⟨rfl, hb⟩
      have HA14 := Lib.hid (HA13.out.below hb)
      have HO14 := Lib.hid (HO13.out.below hb)
      clear hb HA13 HO13
      go_wp2_with fail
      refine (closed_any HA14.out.ol (by omega)).mono ?_
      rintro e w15 ⟨b1, rfl, hiff1, hb⟩
      have HB1 := Lib.hid hiff1
      have HA15 := Lib.hid (HA14.out.below hb)
      have HO15 := Lib.hid (HO14.out.below hb)
      clear hb hiff1 HA14 HO14
      go_wp2_with fail
      refine (closed_any HO15.out (by omega)).mono ?_
      rintro e w16 ⟨b2, rfl, hiff2, hb⟩
      have HA16 := Lib.hid (HA15.out.below hb)
      obtain rfl : b1 = b2 := by
        rw [Bool.eq_iff_iff, HB1.out, hiff2]
        exact ⟨closed_perm HPERM.out.symm, closed_perm HPERM.out⟩
      clear hb hiff2
      cases b1
      all_goals
        go_wp2_with fail
        go_ret
        exact ⟨rfl, HA16.out.old⟩

set_option maxRecDepth 100000 in
theorem lifted (os : Os) (started : os.Started) (H : Type) (enc : TypeId × Value → H) :
    ReturnsInHanded {} Try.checked os 4 .any (Rows.foldAnySpec.pre6 enc Try.prog Try.f4 Rows.foldAnyRow.domain false) (Rows.foldAnySpec.post enc Try.prog Try.f4 false true false false) := by
  refine returnsInHanded_of_change (C := Try.checked) own started (by kernel_rfl) Try.func4
    (ChangeSpec.witness6 (enc := enc) (C := Try.checked) false ⟨#[], #[.slice none 0 0, .int .u16 0, .agg #[.int .u8 0, .int .u8 0]], []⟩ 8 (by kernel_rfl) (by kernel_rfl) (by kernel_rfl) (by kernel_rfl)) ?_
  intro W base args ds gs before hval0 hW hcnd _
  have hval : ∀ (j : Nat) t v, Try.f4.params[j]? = some t → args[j]? = some v → Value.okWide Try.prog W .any base t v := hval0
  have hW' := hW
  obtain ⟨p, q, hA0, hV, rfl, hfz, hnd⟩ := hW
  have hA : DataW.TrodAll enc Try.prog W 0 (fun _ => true) true Try.f4.params.toList args.toList ds p := hA0
  rw [Try.params4] at hA hval
  obtain ⟨v0, v1, v2, d0, d1, d2, p0, p1, p2, rfl, rfl, rfl, h0, h1, h2⟩ := trodAll_three hA
  obtain ⟨rfl, rfl⟩ := trodVars_none hV
  have lt0 : ∀ x ∈ p0, x.block < W.heap.size := by obtain ⟨m, hm⟩ := h0; exact DataW.trod_lt m _ _ _ hm
  obtain ⟨ab, nb, cb, rfl⟩ := okWide_slice Try.underlying22 (hval 0 22 v0 rfl rfl)
  obtain ⟨hl0, l0, hR0⟩ := ops_of h0
  obtain ⟨a1, rfl, rfl, rfl, w1⟩ := open_int Try.underlying34 (hval 1 34 v1 rfl rfl) h1
  have c1 := bounds_u16 w1
  obtain ⟨a1, rfl⟩ := Int.eq_ofNat_of_zero_le c1.1
  have lt2 : ∀ x ∈ p2, x.block < W.heap.size := by obtain ⟨m, hm⟩ := h2; exact DataW.trod_lt m _ _ _ hm
  obtain ⟨x2, y2, hx2, hy2, rfl⟩ := pair_of (hval 2 35 v2 rfl rfl) h2
  clear hA0 hval0
  refine (walk ab nb cb l0 a1 x2 y2 W hl0 hR0 (by omega) hx2 hy2).mono fun e W' ⟨he, bel⟩ => ?_
  subst he
  exact ⟨_, rfl, _, _, _, [], _, [], hW', trodAll_mk1 (shut_bool Try.underlying4 _), trodAll_mk3 (Below.trod laidOut (by kernel_rfl) (of_decide_eq_true (by kernel_rfl)) h0 bel lt0) (shut_int Try.underlying34 w1) (Below.trod laidOut (by kernel_rfl) (of_decide_eq_true (by kernel_rfl)) h2 bel lt2), rfl, bel.frame _, fun h => by cases h⟩
end FoldAny

theorem foldAny_proved : Rows.FoldAnySaid :=
  OpenClaim.holds_of_wide 4 Try.f4 rfl rfl rfl rfl rfl rfl rfl ⟨rfl, rfl, rfl, rfl, rfl⟩ rfl rfl rfl rfl rfl (by kernel_rfl) Try.func4 (by kernel_rfl)
    (of_decide_eq_true (by kernel_rfl)) (by unfold Func.isWrapper; first | (rw [if_pos (by decide +kernel)]; kernel_rfl) | (rw [if_neg (by decide +kernel)]; exact ⟨rfl, rfl⟩))
    (fun os started H enc _ => FoldAny.lifted os started H enc)
#print axioms foldAny_proved
end Go.Proofs.Ytmibfbbkjejkmaa
