/- PackNobody is proved: for every field a writer that New did not make, and a reader that Read did not, answer ErrNil and nothing beside it. No condition. -/
import Derived.Test.YtoogcejfncechaaActs
namespace Go.Proofs.Ytoogcejfncechaa
namespace PackNobody
open Go.ChangeShapes Go.WideShapes Go.ChangeAt Go.RowKit Go.Deep

/-- A pointer that no call made: nil, or one to a zero value. -/
def Nob (w : World) (v : Value) : Prop := v = .pointer none ∨ ∃ p, v = .pointer (some ⟨p, 0, none⟩) ∧ w.cell? ⟨p, 0, none⟩ = some (.bool false)

theorem Nob.below {w w' : World} {v : Value} (h : Nob w v) (hb : Below w.heap.size w w') : Nob w' v := by
  rcases h with h | ⟨p, h, hc⟩
  · exact .inl h
  · exact .inr ⟨p, h, below_at hb hc⟩

theorem no_parts (v u : Value) (w : World) (h : Nob w v) : Calls Try.prog 36 #[v, u] w fun e w' => e = .returned (.int .i64 1) ∧ w = w' := by
  rcases h with rfl | ⟨p, rfl, hc⟩
  · exact parts_nil u w
  · exact parts_zero p u w hc

/-- What a call leaves that answers ErrNil. -/
def NoErr (w : World) (e : Ending) (w' : World) : Prop := e = .returned (.int .i64 1) ∧ Below w.heap.size w w'

set_option maxHeartbeats 400000 in
theorem no_num (v : Value) (n : Nat) (w : World) (hn : n < 18446744073709551616) (h : Nob w v) : Calls Try.prog 22 #[v, .int .u64 (n : Int)] w (NoErr w) := by
  have HP := Lib.hid (vput n w hn)
  have H := Lib.hid h
  clear hn h
  generalize Vint.enc n = l at HP
  generalize hL : l.length = L at HP
  clear hL
  go_enter Try.func22, Try.ntmps22
  go_wp2_with fail
  refine HP.out.mono ?_
  rintro e w1 ⟨g, c1, rfl, hR, hg, hb⟩
  have HB := Lib.hid hb
  have HN := Lib.hid (H.out.below hb)
  clear hR hb hg HP
  go_wp2_with fail
  refine (no_parts v _ _ (HN.out.below ((Below.refl _ _).alloc (Nat.le_refl _) _))).mono ?_
  rintro e w' ⟨rfl, rfl⟩
  go_wp2_with fail
  go_ret
  exact ⟨rfl, HB.out.alloc HB.out.size _⟩

set_option maxHeartbeats 400000 in
theorem no_int (v : Value) (z : Int) (w : World) (h0 : -9223372036854775808 ≤ z) (h1 : z ≤ 9223372036854775807) (h : Nob w v) : Calls Try.prog 23 #[v, .int .i64 z] w (NoErr w) := by
  have hlo := fold_lo z
  have hhi := fold_hi z h0 h1
  have HF : Hid (∀ w, Calls Try.prog 38 #[.int .i64 z] w fun e w' => e = .returned (.int .u64 ((fold z).toNat : Int)) ∧ w = w') := Lib.hid (fun w => by
    rw [show ((fold z).toNat : Int) = fold z by omega]
    exact fold_any z w h0 h1)
  have HP := Lib.hid (vput (fold z).toNat w (by omega))
  have H := Lib.hid h
  clear h0 h1 h hlo hhi
  generalize (fold z).toNat = n at HP HF
  generalize Vint.enc n = l at HP
  generalize hL : l.length = L at HP
  clear hL
  go_enter Try.func23, Try.ntmps23
  go_wp2_with fail
  refine (HF.out w).mono ?_
  rintro e w' ⟨rfl, rfl⟩
  go_wp2_with fail
  refine HP.out.mono ?_
  rintro e w1 ⟨g, c1, rfl, hR, hg, hb⟩
  have HB := Lib.hid hb
  have HN := Lib.hid (H.out.below hb)
  clear hR hb hg HP
  go_wp2_with fail
  refine (no_parts v _ _ (HN.out.below ((Below.refl _ _).alloc (Nat.le_refl _) _))).mono ?_
  rintro e w' ⟨rfl, rfl⟩
  go_wp2_with fail
  go_ret
  exact ⟨rfl, HB.out.alloc HB.out.size _⟩

set_option maxHeartbeats 400000 in
theorem no_bytes (v : Value) (b : Option Addr) (m d : Nat) (w : World) (hm : m ≤ 1000000) (h : Nob w v) : Calls Try.prog 24 #[v, .slice b m d] w (NoErr w) := by
  have HP := Lib.hid (vput m w (by omega))
  have H := Lib.hid h
  clear h
  generalize Vint.enc m = l at HP
  generalize hL : l.length = L at HP
  clear hL
  go_enter Try.func24, Try.ntmps24
  go_wp2_with fail
  refine HP.out.mono ?_
  rintro e w1 ⟨g, c1, rfl, hR, hg, hb⟩
  have HB := Lib.hid hb
  have HN := Lib.hid (H.out.below hb)
  clear hR hb hg HP
  go_wp2_with fail
  refine (no_parts v _ _ (HN.out.below ((Below.refl _ _).alloc (Nat.le_refl _) _))).mono ?_
  rintro e w' ⟨rfl, rfl⟩
  go_wp2_with fail
  go_ret
  exact ⟨rfl, HB.out.alloc HB.out.size _⟩

theorem no_state (v : Value) (w : World) (h : Nob w v) : Calls Try.prog 29 #[v] w fun e w' => e = .returned (.int .i64 1) ∧ w = w' := by
  rcases h with rfl | ⟨p, rfl, hc⟩
  · exact state_nil w
  · exact state_zero p w hc

theorem no_rstate (v : Value) (w : World) (h : Nob w v) : Calls Try.prog 31 #[v] w fun e w' => e = .returned (.int .i64 1) ∧ w = w' := by
  rcases h with rfl | ⟨p, rfl, hc⟩
  · exact rstate_nil w
  · exact rstate_zero p w hc

set_option maxHeartbeats 400000 in
theorem no_all (v : Value) (w : World) (h : Nob w v) : Calls Try.prog 12 #[v] w fun e w' => e = .returned (.tuple #[.slice none 0 0, .int .i64 1]) ∧ w = w' := by
  have H := Lib.hid (no_state v w h)
  clear h
  go_enter Try.func12, Try.ntmps12
  go_wp2_with fail
  refine H.out.mono ?_
  rintro e w' ⟨rfl, rfl⟩
  go_wp2_with fail
  go_ret2
  exact ⟨rfl, rfl⟩

set_option maxHeartbeats 400000 in
theorem no_rnum (v : Value) (w : World) (h : Nob w v) : Calls Try.prog 14 #[v] w fun e w' => e = .returned (.tuple #[.int .u64 0, .int .i64 1]) ∧ w = w' := by
  have H := Lib.hid (no_rstate v w h)
  clear h
  go_enter Try.func14, Try.ntmps14
  go_wp2_with fail
  refine H.out.mono ?_
  rintro e w' ⟨rfl, rfl⟩
  go_wp2_with fail
  go_ret2
  exact ⟨rfl, rfl⟩

set_option maxHeartbeats 400000 in
theorem no_rint (v : Value) (w : World) (h : Nob w v) : Calls Try.prog 16 #[v] w fun e w' => e = .returned (.tuple #[.int .i64 0, .int .i64 1]) ∧ w = w' := by
  have H := Lib.hid (no_rnum v w h)
  clear h
  go_enter Try.func16, Try.ntmps16
  go_wp2_with fail
  refine H.out.mono ?_
  rintro e w' ⟨rfl, rfl⟩
  go_wp2_with fail
  go_ret2
  exact ⟨rfl, rfl⟩

set_option maxHeartbeats 400000 in
theorem no_rbytes (v : Value) (w : World) (h : Nob w v) : Calls Try.prog 18 #[v] w fun e w' => e = .returned (.tuple #[.slice none 0 0, .int .i64 1]) ∧ w = w' := by
  have H := Lib.hid (no_rnum v w h)
  clear h
  go_enter Try.func18, Try.ntmps18
  go_wp2_with fail
  refine H.out.mono ?_
  rintro e w' ⟨rfl, rfl⟩
  go_wp2_with fail
  go_ret2
  exact ⟨rfl, rfl⟩

set_option maxHeartbeats 400000 in
theorem no_done (v : Value) (w : World) (h : Nob w v) : Calls Try.prog 20 #[v] w fun e w' => e = .returned (.bool false) ∧ w = w' := by
  have H := Lib.hid (no_rstate v w h)
  clear h
  go_enter Try.func20, Try.ntmps20
  go_wp2_with fail
  refine H.out.mono ?_
  rintro e w' ⟨rfl, rfl⟩
  go_wp2_with fail
  go_ret
  exact ⟨rfl, rfl⟩

/-- What 'do' leaves of a writer that no call made. -/
def NoDid (w : World) (e : Ending) (w' : World) : Prop := ∃ g m c, e = .returned (.tuple #[.int .i64 1, .slice g m c]) ∧ Below w.heap.size w w'

set_option maxHeartbeats 1000000 in
theorem nodo_num (v : Value) (k n : Nat) (b : Option Addr) (m d : Nat) (w : World) (hk : k < 256) (hk3 : k % 3 = 0) (hn : n < 18446744073709551616) (h : Nob w v) :
    Calls Try.prog 10 #[v, .agg #[.int .u8 (k : Int), .int .u64 (n : Int), .slice b m d]] w (NoDid w) := by
  have hq : ((k : Int) % 3 == 0) = true := by simp; omega
  clear hk3
  have H := Lib.hid h
  have HN := Lib.hid hn
  clear h hn
  go_enter Try.func10, Try.ntmps10
  go_wp2_with fail
  have hal : Below w.heap.size w (w.alloc (.cells #[.int .u8 (k : Int), .int .u64 (n : Int), .slice b m d] 31)) := (Below.refl _ _).alloc (Nat.le_refl _) _
  have HW0 := Lib.hid (H.out.below hal)
  have HAL := Lib.hid hal
  have hc : (w.alloc (.cells #[.int .u8 (k : Int), .int .u64 (n : Int), .slice b m d] 31)).cell? ⟨w.heap.size, 1, none⟩ = some (.int .u64 (n : Int)) := (Blk.new w 31 _).cell 1
  clear hal
  generalize w.alloc (.cells #[.int .u8 (k : Int), .int .u64 (n : Int), .slice b m d] 31) = W0 at HW0 HAL hc
  go_region_held3 (fun w' => w'.cell? ⟨w.heap.size, 1, none⟩ = some (.int .u64 (n : Int))) (first | exact hc | exact kc1 | exact kc2) (first
    | (go_at_call 22; refine (no_num v n _ HN.out (HW0.out.below (Below.refl _ _).drew)).mono ?_; rintro e w2 ⟨rfl, hb2⟩; have HB2 := Lib.hid (HAL.out.drew.trans (hb2.mono HAL.out.size)); have kc1 := below_at hb2 hc; clear hb2)
    | (go_at_call 25; refine (rput_any n _ HN.out).mono ?_; rintro e w3 ⟨g, c3, rfl, ho3, hb3⟩; have HB3 := Lib.hid (HB2.out.trans (hb3.mono HB2.out.size)); have kc2 := below_at hb3 kc1; clear ho3 hb3))
  go_wp2_with fail
  go_ret2
  exact ⟨_, _, _, rfl, HB3.out⟩

set_option maxHeartbeats 1000000 in
theorem nodo_int (v : Value) (k n : Nat) (z : Int) (b : Option Addr) (m d : Nat) (w : World) (hk : k < 256) (hk3 : k % 3 = 1) (hz : IntKind.i64.wrap (n : Int) = z) (h0 : -9223372036854775808 ≤ z) (h1 : z ≤ 9223372036854775807) (h : Nob w v) :
    Calls Try.prog 10 #[v, .agg #[.int .u8 (k : Int), .int .u64 (n : Int), .slice b m d]] w (NoDid w) := by
  have hq : ((k : Int) % 3 == 0) = false := by simp; omega
  have hq1 : ((k : Int) % 3 == 1) = true := by simp; omega
  have hlo := fold_lo z
  have hhi := fold_hi z h0 h1
  have HF : Hid (∀ w, Calls Try.prog 26 #[.int .i64 z] w fun e w' => e = .returned (.int .u64 ((fold z).toNat : Int)) ∧ w = w') := Lib.hid (fun w => by
    rw [show ((fold z).toNat : Int) = fold z by omega]
    exact rfold_any z w h0 h1)
  have HP : Hid (∀ w, Calls Try.prog 25 #[.int .u64 ((fold z).toNat : Int)] w (Made (Vint.enc (fold z).toNat) w)) := Lib.hid (fun w => rput_any _ w (by omega))
  have H := Lib.hid h
  have HI : Hid (∀ w, Nob w v → Calls Try.prog 23 #[v, .int .i64 z] w (NoErr w)) := Lib.hid (fun w h => no_int v z w h0 h1 h)
  clear h hk3 hlo hhi h0 h1
  generalize Vint.enc (fold z).toNat = l at HP
  generalize (fold z).toNat = f at HF HP
  go_enter Try.func10, Try.ntmps10
  go_wp2_with fail
  have hal : Below w.heap.size w (w.alloc (.cells #[.int .u8 (k : Int), .int .u64 (n : Int), .slice b m d] 31)) := (Below.refl _ _).alloc (Nat.le_refl _) _
  have HW0 := Lib.hid (H.out.below hal)
  have HAL := Lib.hid hal
  have hc : (w.alloc (.cells #[.int .u8 (k : Int), .int .u64 (n : Int), .slice b m d] 31)).cell? ⟨w.heap.size, 1, none⟩ = some (.int .u64 (n : Int)) := (Blk.new w 31 _).cell 1
  clear hal
  generalize w.alloc (.cells #[.int .u8 (k : Int), .int .u64 (n : Int), .slice b m d] 31) = W0 at HW0 HAL hc
  go_region_held3 (fun w' => w'.cell? ⟨w.heap.size, 1, none⟩ = some (.int .u64 (n : Int))) (first | exact hc | exact kc1 | exact kc2) (first
    | (go_at_call 23; refine (HI.out _ (HW0.out.below (Below.refl _ _).drew)).mono ?_; rintro e w2 ⟨rfl, hb2⟩; have HB2 := Lib.hid (HAL.out.drew.trans (hb2.mono HAL.out.size)); have kc1 := below_at hb2 hc; clear hb2)
    | (go_at_call 26; refine (HF.out _).mono ?_; rintro e w' ⟨rfl, rfl⟩)
    | (go_at_call 25; refine (HP.out _).mono ?_; rintro e w3 ⟨g, c3, rfl, ho3, hb3⟩; have HB3 := Lib.hid (HB2.out.trans (hb3.mono HB2.out.size)); have kc2 := below_at hb3 kc1; clear ho3 hb3))
  go_wp2_with fail
  go_ret2
  exact ⟨_, _, _, rfl, HB3.out⟩

set_option maxHeartbeats 1000000 in
theorem nodo_bytes (v : Value) (k : Nat) (n : Int) (b : Option Addr) (m d : Nat) (y : List Nat) (w : World) (hk : k < 256) (hk3 : k % 3 = 2) (hm : m ≤ 3000) (h : Nob w v) (hR : Row w b m y) (hz : b = none → m = 0 ∧ d = 0) :
    Calls Try.prog 10 #[v, .agg #[.int .u8 (k : Int), .int .u64 n, .slice b m d]] w (NoDid w) := by
  have hq : ((k : Int) % 3 == 0) = false := by simp; omega
  have hq1 : ((k : Int) % 3 == 1) = false := by simp; omega
  have H := Lib.hid h
  have HR := Lib.hid hR
  have HF : Hid (∀ w, Row w b m y → Calls Try.prog 27 #[.slice b m d] w (Fresh (Vint.enc m ++ y) w)) := Lib.hid (fun w h1 => field_any b m d y w (by omega) h1 hz)
  clear h hR hz hk3
  generalize Vint.enc m ++ y = l at HF
  go_enter Try.func10, Try.ntmps10
  go_wp2_with fail
  have hal : Below w.heap.size w (w.alloc (.cells #[.int .u8 (k : Int), .int .u64 n, .slice b m d] 31)) := (Below.refl _ _).alloc (Nat.le_refl _) _
  have HW0 := Lib.hid (H.out.below hal)
  have HR0 := Lib.hid (HR.out.below hal)
  have HAL := Lib.hid hal
  have hc : (w.alloc (.cells #[.int .u8 (k : Int), .int .u64 n, .slice b m d] 31)).cell? ⟨w.heap.size, 2, none⟩ = some (.slice b m d) := (Blk.new w 31 _).cell 2
  clear hal
  generalize w.alloc (.cells #[.int .u8 (k : Int), .int .u64 n, .slice b m d] 31) = W0 at HW0 HAL hc HR0
  go_region_held3 (fun w' => w'.cell? ⟨w.heap.size, 2, none⟩ = some (.slice b m d)) (first | exact hc | exact kc1 | exact kc2) (first
    | (go_at_call 24; refine (no_bytes v b m d _ (by omega) (HW0.out.below (Below.refl _ _).drew)).mono ?_; rintro e w2 ⟨rfl, hb2⟩; have HB2 := Lib.hid (HAL.out.drew.trans (hb2.mono HAL.out.size)); have kc1 := below_at hb2 hc; have HR2 := Lib.hid ((HR0.out.below (Below.refl _ _).drew).below hb2); clear hb2)
    | (go_at_call 27; refine (HF.out _ HR2.out).mono ?_; rintro e w3 ⟨g, c3, rfl, ho3, hb3⟩; have HB3 := Lib.hid (HB2.out.trans (hb3.mono HB2.out.size)); have kc2 := below_at hb3 kc1; clear ho3 hb3))
  go_wp2_with fail
  go_ret2
  exact ⟨_, _, _, rfl, HB3.out⟩

theorem no_do (v : Value) (x : ActV) (w : World) (hx : x.Ok w) (hm : x.m ≤ 3000) (h : Nob w v) : Calls Try.prog 10 #[v, .agg #[.int .u8 (x.k : Int), .int .u64 (x.n : Int), .slice x.b x.m x.d]] w (NoDid w) := by
  by_cases h0 : x.k % 3 = 0
  · exact nodo_num v x.k x.n x.b x.m x.d w hx.kind h0 hx.num h
  · by_cases h1 : x.k % 3 = 1
    · exact nodo_int v x.k x.n _ x.b x.m x.d w hx.kind h1 rfl (wrap_lo _) (wrap_hi _) h
    · exact nodo_bytes v x.k x.n x.b x.m x.d x.y w hx.kind (by omega) hm h hx.row hx.nil

/-- The two that no call made, in a row of pointers. -/
theorem nobs (w0 : World) (t u : TypeId) (y z : Value) : ∀ w' : World, Below ((w0.alloc (.cells #[.bool false, y, z] t)).alloc (.cells #[.pointer none, .pointer (some ⟨w0.heap.size, 0, none⟩)] u)).heap.size ((w0.alloc (.cells #[.bool false, y, z] t)).alloc (.cells #[.pointer none, .pointer (some ⟨w0.heap.size, 0, none⟩)] u)) w' → ∀ j, j < 2 → ∃ v, w'.cell? ⟨w0.heap.size + 1, j, none⟩ = some v ∧ Nob w' v := by
  intro w' hb j hj
  have b1 : Blk w' w0.heap.size t #[.bool false, y, z] := Blk.below (Blk.kept (S := fun _ => False) (Blk.new w0 t _) (.of_below ((Below.refl _ _).alloc (Nat.le_refl _) _)) (fun h => h)) hb
  have b2 : Blk w' (w0.heap.size + 1) u #[.pointer none, .pointer (some ⟨w0.heap.size, 0, none⟩)] := Blk.below (by simpa using Blk.new (w0.alloc (.cells #[.bool false, y, z] t)) u #[.pointer none, .pointer (some ⟨w0.heap.size, 0, none⟩)]) hb
  have : j = 0 ∨ j = 1 := by omega
  rcases this with rfl | rfl
  · exact ⟨_, b2.cell 0, .inl rfl⟩
  · exact ⟨_, b2.cell 1, .inr ⟨_, rfl, b1.cell 0⟩⟩

set_option maxHeartbeats 2000000 in
set_option maxRecDepth 100000 in
theorem core (x : ActV) (w : World) (hx3 : x.m ≤ 3000) (HX : Hid (x.Ok w)) :
    Calls Try.prog 6 #[.agg #[.int .u8 (x.k : Int), .int .u64 (x.n : Int), .slice x.b x.m x.d]] w fun e w' => e = .returned (.bool true) ∧ Below w.heap.size w w' := by
  go_enter Try.func6, Try.ntmps6
  go_wp2_with fail
  have hal : Below w.heap.size w (w.alloc (.cells #[.int .u8 (x.k : Int), .int .u64 (x.n : Int), .slice x.b x.m x.d] 31)) := (Below.refl _ _).alloc (Nat.le_refl _) _
  have HBk := Lib.hid (Blk.new w 31 #[.int .u8 (x.k : Int), .int .u64 (x.n : Int), .slice x.b x.m x.d])
  refine (alive_any _).mono ?_
  rintro e w0 ⟨rfl, hb0⟩
  have HBl := Lib.hid (HBk.out.below hb0)
  have HB0 := Lib.hid (hal.trans (hb0.mono hal.size))
  have d2 := HBl.out.cell 2
  simp at d2
  clear hal hb0 HBk
  generalize w.heap.size = H0 at HBl d2
  go_wp2_with fail
  have HNo := Lib.hid (nobs w0 57 24 (.int .i64 0) (.slice none 0 0))
  have hal1 := below_two' w0 (.cells #[.bool false, .int .i64 0, .slice none 0 0] 57) (.cells #[.pointer none, .pointer (some ⟨w0.heap.size, 0, none⟩)] 24)
  have HB1 := Lib.hid (HB0.out.trans (hal1.mono HB0.out.size))
  have HBl1 := Lib.hid (HBl.out.below hal1)
  clear hal1 HBl HB0 d2
  generalize (w0.alloc (.cells #[.bool false, .int .i64 0, .slice none 0 0] 57)).alloc (.cells #[.pointer none, .pointer (some ⟨w0.heap.size, 0, none⟩)] 24) = W at HNo HB1 HBl1
  generalize w0.heap.size + 1 = Q at HNo
  go_loopw [27] (fun i wr => ∃ j : Nat, j ≤ 2 ∧ i = .int .i64 (j : Int) ∧ Hid (Below W.heap.size W wr)) (fun i _ => 2 - (intOf i).toNat)
  case atStart => exact ⟨0, by omega, rfl, Lib.hid (Below.refl _ _)⟩
  case round =>
    obtain ⟨j, hj, rfl, HBj⟩ := hrel
    by_cases hjl : j < 2
    · obtain ⟨v, hv, hnv⟩ := HNo.out wr HBj.out j hjl
      have HNv := Lib.hid hnv
      have HBr := Lib.hid (HBl1.out.below HBj.out)
      have HXr := Lib.hid (HX.out.below (HB1.out.trans (HBj.out.mono HB1.out.size)))
      have d0 := HBr.out.cell 0
      have d1 := HBr.out.cell 1
      have d2 := HBr.out.cell 2
      simp at d0 d1 d2
      clear hnv
      go_wp2_with fail
      refine (no_do v x wr HXr.out hx3 HNv.out).mono ?_
      rintro e w2 ⟨g, m, c, rfl, hb2⟩
      have HB2 := Lib.hid (HBj.out.trans (hb2.mono HBj.out.size))
      have HN2 := Lib.hid (HNv.out.below hb2)
      clear hb2 hv d0 d1 d2
      go_wp2_with fail
      refine (no_all v w2 HN2.out).mono ?_
      rintro e w' ⟨rfl, rfl⟩
      go_wp2_with fail
      go_roundw
      case rel => exact ⟨j + 1, by omega, by go_num, HB2⟩
      case measure => simp [intOf]; omega
    · have HB2 := Lib.hid (HB1.out.trans (HBj.out.mono HB1.out.size))
      clear HNo HBj HBl1 HB1
      go_wp2_with fail
      have HNo := Lib.hid (nobs wr 60 40 (.int .i64 0) (.slice none 0 0))
      have hal1 := below_two' wr (.cells #[.bool false, .int .i64 0, .slice none 0 0] 60) (.cells #[.pointer none, .pointer (some ⟨wr.heap.size, 0, none⟩)] 40)
      have HB3 := Lib.hid (HB2.out.trans (hal1.mono HB2.out.size))
      clear hal1 HB2
      generalize (wr.alloc (.cells #[.bool false, .int .i64 0, .slice none 0 0] 60)).alloc (.cells #[.pointer none, .pointer (some ⟨wr.heap.size, 0, none⟩)] 40) = W2 at HNo HB3
      generalize wr.heap.size + 1 = Q2 at HNo
      go_loop [58] (fun i => ∃ j : Nat, j ≤ 2 ∧ i = .int .i64 (j : Int)) (fun i => 2 - (intOf i).toNat)
      case atStart => exact ⟨0, by omega, rfl⟩
      case round =>
        obtain ⟨j, hj, rfl⟩ := hrel
        by_cases hjl : j < 2
        · obtain ⟨v, hv, hnv⟩ := HNo.out W2 (Below.refl _ _) j hjl
          have HNv := Lib.hid hnv
          clear hnv
          go_wp2_with fail
          refine (no_rnum v W2 HNv.out).mono ?_
          rintro e w' ⟨rfl, rfl⟩
          go_wp2_with fail
          refine (no_rint v W2 HNv.out).mono ?_
          rintro e w' ⟨rfl, rfl⟩
          go_wp2_with fail
          refine (no_rbytes v W2 HNv.out).mono ?_
          rintro e w' ⟨rfl, rfl⟩
          go_wp2_with fail
          refine (no_done v W2 HNv.out).mono ?_
          rintro e w' ⟨rfl, rfl⟩
          go_wp2_with fail
          go_round
          case rel => exact ⟨j + 1, by omega, by go_num⟩
          case measure => simp [intOf]; omega
        · go_wp2_with fail
          go_ret
          exact ⟨rfl, HB3.out⟩

set_option maxHeartbeats 400000 in
theorem core_big (x : ActV) (w : World) (hx3 : 3000 < x.m) :
    Calls Try.prog 6 #[.agg #[.int .u8 (x.k : Int), .int .u64 (x.n : Int), .slice x.b x.m x.d]] w fun e w' => e = .returned (.bool true) ∧ Below w.heap.size w w' := by
  go_enter Try.func6, Try.ntmps6
  go_wp2_with fail
  have hal : Below w.heap.size w (w.alloc (.cells #[.int .u8 (x.k : Int), .int .u64 (x.n : Int), .slice x.b x.m x.d] 31)) := (Below.refl _ _).alloc (Nat.le_refl _) _
  have HBk := Lib.hid (Blk.new w 31 #[.int .u8 (x.k : Int), .int .u64 (x.n : Int), .slice x.b x.m x.d])
  refine (alive_any _).mono ?_
  rintro e w0 ⟨rfl, hb0⟩
  have d2 := (HBk.out.below hb0).cell 2
  have HB0 := Lib.hid (hal.trans (hb0.mono hal.size))
  simp at d2
  clear hal hb0 HBk
  go_wp2_with fail
  go_ret
  exact ⟨rfl, HB0.out⟩

theorem walk (x : ActV) (w : World) (hx : x.Ok w) :
    Calls Try.prog 6 #[.agg #[.int .u8 (x.k : Int), .int .u64 (x.n : Int), .slice x.b x.m x.d]] w fun e w' => e = .returned (.bool true) ∧ Below w.heap.size w w' := by
  by_cases h : x.m ≤ 3000
  · exact core x w h (Lib.hid hx)
  · exact core_big x w (by omega)

set_option maxRecDepth 100000 in
theorem lifted (os : Os) (started : os.Started) (H : Type) (enc : TypeId × Value → H) :
    ReturnsInHanded {} Try.checked os 6 .any (Rows.packNobodySpec.pre6 enc Try.prog Try.f6 Rows.packNobodyRow.domain false) (Rows.packNobodySpec.post enc Try.prog Try.f6 false true false false) := by
  refine returnsInHanded_of_change (C := Try.checked) own started (by kernel_rfl) Try.func6
    (ChangeSpec.witness6 (enc := enc) (C := Try.checked) false ⟨#[], #[.agg #[.int .u8 0, .int .u64 0, .slice none 0 0]], []⟩ 8 (by kernel_rfl) (by kernel_rfl) (by kernel_rfl) (by kernel_rfl)) ?_
  intro W base args ds gs before hval0 hW hcnd _
  have hval : ∀ (j : Nat) t v, Try.f6.params[j]? = some t → args[j]? = some v → Value.okWide Try.prog W .any base t v := hval0
  have hW' := hW
  obtain ⟨p, q, hA0, hV, rfl, hfz, hnd⟩ := hW
  have hA : DataW.TrodAll enc Try.prog W 0 (fun _ => true) true Try.f6.params.toList args.toList ds p := hA0
  rw [Try.params6] at hA hval
  obtain ⟨v0, d0, rfl, rfl, h0⟩ := trodAll_one hA
  obtain ⟨rfl, rfl⟩ := trodVars_none hV
  obtain ⟨cs, rfl, hsz⟩ := okWide_struct Try.underlying31 (hval 0 31 v0 rfl rfl)
  have lt0 : ∀ x ∈ p, x.block < W.heap.size := by obtain ⟨m, hm⟩ := h0; exact DataW.trod_lt m _ _ _ hm
  have hx : ∃ x : ActV, x.Ok W ∧ cs = #[.int .u8 (x.k : Int), .int .u64 (x.n : Int), .slice x.b x.m x.d] := by
    obtain ⟨fuel, hf⟩ := h0
    obtain ⟨x, hx, hcs⟩ := act_of hf
    refine ⟨x, hx, ?_⟩
    apply Array.toList_inj.1
    simpa [Value.cells] using hcs
  obtain ⟨x, hx, rfl⟩ := hx
  clear hA0 hval0
  refine (walk x W hx).mono fun e W' ⟨he, bel⟩ => ?_
  subst he
  exact ⟨_, rfl, _, _, _, [], _, [], hW', trodAll_mk1 (shut_bool Try.underlying4 _), trodAll_mk1 (Below.trod laidOut (by kernel_rfl) (of_decide_eq_true (by kernel_rfl)) h0 bel lt0), rfl, bel.frame _, fun h => by cases h⟩
end PackNobody

theorem packNobody_proved : Rows.PackNobodySaid :=
  OpenClaim.holds_of_wide 6 Try.f6 rfl rfl rfl rfl rfl rfl rfl ⟨rfl, rfl, rfl, rfl, rfl⟩ rfl rfl rfl rfl rfl (by kernel_rfl) Try.func6 (by kernel_rfl)
    (of_decide_eq_true (by kernel_rfl)) (by unfold Func.isWrapper; first | (rw [if_pos (by decide +kernel)]; kernel_rfl) | (rw [if_neg (by decide +kernel)]; exact ⟨rfl, rfl⟩))
    (fun os started H enc _ => PackNobody.lifted os started H enc)
#print axioms packNobody_proved
end Go.Proofs.Ytoogcejfncechaa
