/- CrcPieces is proved: for every slice of bytes and every place, the sum of the bytes is the sum of their beginning continued by the rest, and Next from nought is Sum; the table of four bits is tied to the program's text. No other condition. -/
import Derived.Test.YthlbkaenpoeljaaDoorLift
import Derived.Deep.QuietTactic
import Derived.BigQuiet
import Derived.Deep.RegionWith
namespace Go.Proofs.YthlbkaenpoeljaaDoor
namespace CrcPieces
open Go.ChangeShapes Go.WideShapes Go.ChangeAt Go.RowKit

theorem Row.take {w : World} {a : Option Addr} {len : Nat} {bs : List Nat} (h : Row w a len bs) (k : Nat) (hk : k ≤ len) : Row w a k (bs.take k) := by
  refine ⟨by have := h.size; simp; omega, fun c hc => h.small c (List.mem_of_mem_take hc), ?_⟩
  by_cases h0 : k = 0
  · exact .inl h0
  · obtain ⟨b, off, ha, hc⟩ := h.cells.resolve_left (by omega)
    refine .inr ⟨b, off, ha, fun i hi => ?_⟩
    rw [hc i (by omega)]
    simp [List.getD, hi]

/-- What is left of a slice from k on: where it begins. -/
def from_ (x : Addr) (k cap : Nat) : Option Addr := if cap = k then some x else some (x.add k)

theorem Row.drop {w : World} {x : Addr} {len cap : Nat} {bs : List Nat} (h : Row w (some x) len bs) (k : Nat) (hk : k ≤ len) (hc : len ≤ cap) : Row w (from_ x k cap) (len - k) (bs.drop k) := by
  refine ⟨by have := h.size; simp; omega, fun c hc => h.small c (List.mem_of_mem_drop hc), ?_⟩
  by_cases h0 : len - k = 0
  · exact .inl h0
  · obtain ⟨b, off, ha, hcs⟩ := h.cells.resolve_left (by omega)
    obtain rfl := Option.some.inj ha
    refine .inr ⟨b, off + k, ?_, fun i hi => ?_⟩
    · unfold from_
      rw [if_neg (by omega)]
      by_cases hk0 : k = 0
      · subst hk0; simp [Addr.add]
      · simp [Addr.add, hk0]
    · rw [show off + k + i = off + (k + i) by omega, hcs (k + i) (by omega)]
      simp [List.getD]

def Quiet (f : Nat) (args : Array Value) (w : World) (v : Value) : Prop := ∀ n, Calls Tryd.prog f args (w.drewN n) fun e w' => e = .returned v ∧ w' = w.drewN n

theorem tab_drew {w : World} (h : Tab w) (n : Nat) : Tab (w.drewN n) := h
theorem row_drew {w : World} {a : Option Addr} {len : Nat} {bs : List Nat} (h : Row w a len bs) (n : Nat) : Row (w.drewN n) a len bs := ⟨h.size, h.small, h.cells⟩

theorem sum_quiet (a : Option Addr) (len cap : Nat) (bs : List Nat) (w : World) (hT : Tab w) (hR : Row w a len bs) (hl : len ≤ maxLen) : Quiet 9 #[.slice a len cap] w (.int .u32 ((Crc.next 0 bs : Nat) : Int)) :=
  fun n => (sum_any a len cap bs _ (tab_drew hT n) (row_drew hR n) hl).mono fun _ _ h => ⟨h.1, h.2.symm⟩
theorem next_quiet (s : Nat) (a : Option Addr) (len cap : Nat) (bs : List Nat) (w : World) (hT : Tab w) (hR : Row w a len bs) (hl : len ≤ maxLen) (hs : s < 4294967296) : Quiet 11 #[.int .u32 (s : Int), .slice a len cap] w (.int .u32 ((Crc.next s bs : Nat) : Int)) :=
  fun n => (next_any s a len cap bs _ (tab_drew hT n) (row_drew hR n) hl hs).mono fun _ _ h => ⟨h.1, h.2.symm⟩

set_option maxHeartbeats 1000000 in
theorem core_le (a aa : Option Addr) (len cap at_ : Nat) (s y : Nat) (w : World) (hlc : len ≤ cap) (hat : at_ < 65536) (hsm : len ≤ 2000) (hk : at_ ≤ len)
    (haa : ∀ W, (Instr.slice 23 (.slice a len cap) (some (.int .i64 (at_ : Int))) none none).run Tryd.prog W = .ok (.slice aa (len - at_) (cap - at_)) W)
    (HA : Hid (Calls Tryd.prog 8 #[] w fun e w' => e = .returned (.bool true) ∧ Below w.heap.size w w'))
    (q1 : Hid (∀ w1, Below w.heap.size w w1 → Quiet 9 #[.slice a at_ cap] w1 (.int .u32 (s : Int))))
    (q2 : Hid (∀ w1, Below w.heap.size w w1 → Quiet 11 #[.int .u32 (s : Int), .slice aa (len - at_) (cap - at_)] w1 (.int .u32 (y : Int))))
    (q3 : Hid (∀ w1, Below w.heap.size w w1 → Quiet 9 #[.slice a len cap] w1 (.int .u32 (y : Int))))
    (q4 : Hid (∀ w1, Below w.heap.size w w1 → Quiet 11 #[.int .u32 0, .slice a len cap] w1 (.int .u32 (y : Int)))) :
    Calls Tryd.prog 4 #[.slice a len cap, .int .u16 (at_ : Int)] w fun e w' => e = .returned (.bool true) ∧ Below w.heap.size w w' := by
  go_enter Tryd.func4, Tryd.ntmps4
  go_wp2_with fail
  refine HA.out.mono ?_
  rintro e w1 ⟨rfl, hB⟩
  have HB := Lib.hid hB
  have Q1 := Lib.hid (q1.out w1 hB)
  have Q2 := Lib.hid (q2.out w1 hB)
  have Q3 := Lib.hid (q3.out w1 hB)
  have Q4 := Lib.hid (q4.out w1 hB)
  clear hB HA q1 q2 q3 q4
  go_wp2_with fail
  go_quiet ((first | (go_at_call_of 11 (Value.int IntKind.u32 (s : Int)); exact Calls.quiet_of_same (Q2.out _)) | (go_at_call 11; exact Calls.quiet_of_same (Q4.out _)) | (go_at_call_of 9 (Value.slice a len cap); exact Calls.quiet_of_same (Q3.out _)) | (go_at_call 9; exact Calls.quiet_of_same (Q1.out _))))
  go_wp2_with fail
  go_ret
  exact ⟨rfl, below_drewN HB.out _⟩

set_option maxHeartbeats 1000000 in
theorem core_gt (a aa : Option Addr) (len cap at_ : Nat) (s : Nat) (w : World) (hlc : len ≤ cap) (hat : at_ < 65536) (hsm : len ≤ 2000) (hk : len < at_)
    (haa : ∀ W, (Instr.slice 23 (.slice a len cap) (some (.int .i64 (len : Int))) none none).run Tryd.prog W = .ok (.slice aa 0 (cap - len)) W)
    (HA : Hid (Calls Tryd.prog 8 #[] w fun e w' => e = .returned (.bool true) ∧ Below w.heap.size w w'))
    (q1 : Hid (∀ w1, Below w.heap.size w w1 → Quiet 9 #[.slice a len cap] w1 (.int .u32 (s : Int))))
    (q2 : Hid (∀ w1, Below w.heap.size w w1 → Quiet 11 #[.int .u32 (s : Int), .slice aa 0 (cap - len)] w1 (.int .u32 (s : Int))))
    (q4 : Hid (∀ w1, Below w.heap.size w w1 → Quiet 11 #[.int .u32 0, .slice a len cap] w1 (.int .u32 (s : Int)))) :
    Calls Tryd.prog 4 #[.slice a len cap, .int .u16 (at_ : Int)] w fun e w' => e = .returned (.bool true) ∧ Below w.heap.size w w' := by
  go_enter Tryd.func4, Tryd.ntmps4
  go_wp2_with fail
  refine HA.out.mono ?_
  rintro e w1 ⟨rfl, hB⟩
  have HB := Lib.hid hB
  have Q1 := Lib.hid (q1.out w1 hB)
  have Q2 := Lib.hid (q2.out w1 hB)
  have Q4 := Lib.hid (q4.out w1 hB)
  clear hB HA q1 q2 q4
  go_wp2_with fail
  go_quiet ((first | (go_at_call_of 11 (Value.int IntKind.u32 (s : Int)); exact Calls.quiet_of_same (Q2.out _)) | (go_at_call 11; exact Calls.quiet_of_same (Q4.out _)) | (go_at_call 9; exact Calls.quiet_of_same (Q1.out _))))
  go_wp2_with fail
  go_ret
  exact ⟨rfl, below_drewN HB.out _⟩

set_option maxHeartbeats 400000 in
theorem core_big (a : Option Addr) (len cap at_ : Nat) (w : World) (hl : len ≤ 2 ^ 63 - 1) (hb : 2000 < len)
    (HA : Hid (Calls Tryd.prog 8 #[] w fun e w' => e = .returned (.bool true) ∧ Below w.heap.size w w')) :
    Calls Tryd.prog 4 #[.slice a len cap, .int .u16 (at_ : Int)] w fun e w' => e = .returned (.bool true) ∧ Below w.heap.size w w' := by
  go_enter Tryd.func4, Tryd.ntmps4
  go_wp2_with fail
  refine HA.out.mono ?_
  rintro e w1 ⟨rfl, hB⟩
  have HB := Lib.hid hB
  clear hB HA
  go_wp2_with fail
  go_ret
  exact ⟨rfl, HB.out⟩

theorem slice_some (x : Addr) (len cap k : Nat) (hk : k ≤ len) (W : World) : (Instr.slice 23 (.slice (some x) len cap) (some (.int .i64 (k : Int))) none none).run Tryd.prog W = .ok (.slice (from_ x k cap) (len - k) (cap - k)) W := by
  have hs : (sizeOf (Tryd.prog.elem 23)).run Tryd.prog W = .ok 1 W := by kernel_rfl
  rw [run_slice_l (P := Tryd.prog) W 23 (some x) len cap (by kernel_rfl) .i64 (k : Int) (by omega) (by omega), hs]
  simp only [Result.andThen, sliced, from_, Int.toNat_natCast, Nat.mul_one, Option.map_some]

theorem slice_none (W : World) : (Instr.slice 23 (.slice none 0 0) (some (.int .i64 ((0 : Nat) : Int))) none none).run Tryd.prog W = .ok (.slice none (0 - 0) (0 - 0)) W := by
  kernel_rfl

theorem walk (a : Option Addr) (len cap at_ : Nat) (bs : List Nat) (w : World) (hat : at_ < 65536) (hT : Tab w) (hR : Row w a len bs) (hS : (a = none ∧ len = 0 ∧ cap = 0) ∨ ∃ x, a = some x ∧ len ≤ cap ∧ cap ≤ maxLen) :
    Calls Tryd.prog 4 #[.slice a len cap, .int .u16 (at_ : Int)] w fun e w' => e = .returned (.bool true) ∧ Below w.heap.size w w' := by
  have HA := Lib.hid (alive_any w hT)
  have hl : len ≤ maxLen := by rcases hS with ⟨_, rfl, _⟩ | ⟨_, _, h1, h2⟩ <;> omega
  by_cases hbig : 2000 < len
  · exact core_big a len cap at_ w (by unfold maxLen at hl; exact hl) hbig HA
  · have hT1 : ∀ w1, Below w.heap.size w w1 → Tab w1 := fun _ hB => hT.below hB
    have hR1 : ∀ w1, Below w.heap.size w w1 → Row w1 a len bs := fun _ hB => hR.below hB
    have q3 : Hid (∀ w1, Below w.heap.size w w1 → Quiet 9 #[.slice a len cap] w1 (.int .u32 ((Crc.next 0 bs : Nat) : Int))) := Lib.hid fun w1 hB => sum_quiet a len cap bs w1 (hT1 w1 hB) (hR1 w1 hB) hl
    have q4 : Hid (∀ w1, Below w.heap.size w w1 → Quiet 11 #[.int .u32 0, .slice a len cap] w1 (.int .u32 ((Crc.next 0 bs : Nat) : Int))) := Lib.hid fun w1 hB => next_quiet 0 a len cap bs w1 (hT1 w1 hB) (hR1 w1 hB) hl (by omega)
    have hn : ∀ k, Crc.next 0 (bs.take k) < 4294967296 := fun k => Crc.next_lt 0 _ (by omega) (fun c hc => hR.small c (List.mem_of_mem_take hc))
    have he : ∀ k, Crc.next (Crc.next 0 (bs.take k)) (bs.drop k) = Crc.next 0 bs := fun k => by rw [Crc.next_append, List.take_append_drop]
    have hcl : len ≤ cap := by rcases hS with ⟨_, h1, h2⟩ | ⟨_, _, h1, _⟩ <;> omega
    obtain ⟨aa, haa, hrow⟩ : ∃ aa : Nat → Option Addr, (∀ k, k ≤ len → ∀ W, (Instr.slice 23 (.slice a len cap) (some (.int .i64 (k : Int))) none none).run Tryd.prog W = .ok (.slice (aa k) (len - k) (cap - k)) W) ∧ ∀ w1, Below w.heap.size w w1 → ∀ k, k ≤ len → Row w1 (aa k) (len - k) (bs.drop k) := by
      rcases hS with ⟨rfl, rfl, rfl⟩ | ⟨x, rfl, h1, h2⟩
      · refine ⟨fun _ => none, fun k hk W => ?_, fun w1 hB k hk => ?_⟩
        · obtain rfl : k = 0 := by omega
          exact slice_none W
        · obtain rfl : k = 0 := by omega
          exact hR1 w1 hB
      · exact ⟨fun k => from_ x k cap, fun k hk W => slice_some x len cap k hk W, fun w1 hB k hk => Row.drop (hR1 w1 hB) k hk h1⟩
    by_cases hk : at_ ≤ len
    · refine core_le a (aa at_) len cap at_ (Crc.next 0 (bs.take at_)) (Crc.next 0 bs) w hcl hat (by omega) hk (haa at_ hk) HA (Lib.hid fun w1 hB => sum_quiet a at_ cap _ w1 (hT1 w1 hB) (Row.take (hR1 w1 hB) at_ hk) (by omega)) ?_ q3 q4
      refine Lib.hid fun w1 hB => ?_
      have := next_quiet (Crc.next 0 (bs.take at_)) (aa at_) (len - at_) (cap - at_) (bs.drop at_) w1 (hT1 w1 hB) (hrow w1 hB at_ hk) (by omega) (hn at_)
      rw [he] at this
      exact this
    · have h0 := haa len (Nat.le_refl _)
      simp only [Nat.sub_self] at h0
      refine core_gt a (aa len) len cap at_ (Crc.next 0 bs) w hcl hat (by omega) (by omega) h0 HA q3 ?_ q4
      refine Lib.hid fun w1 hB => ?_
      have hr := hrow w1 hB len (Nat.le_refl _)
      rw [Nat.sub_self] at hr
      have h1 := next_quiet (Crc.next 0 (bs.take len)) (aa len) 0 (cap - len) (bs.drop len) w1 (hT1 w1 hB) hr (by omega) (hn len)
      rw [he, List.take_of_length_le (by have := hR.size; omega)] at h1
      exact h1
set_option maxRecDepth 100000 in
theorem lifted (os : Os) (started : os.Started) (H : Type) (enc : TypeId × Value → H) :
    ReturnsInHanded {} Tryd.checked os 4 .any (fun w args => (Rows.crcPiecesSpec.pre enc Tryd.prog Tryd.f4 [] false w args ∧ laidMetH Tryd.prog laid1 w) ∧ sizedMet enc Tryd.prog Tryd.f4 (OpenSpec.ofChange Rows.crcPiecesSpec) false w args)
      (Rows.crcPiecesSpec.post enc Tryd.prog Tryd.f4 false true false false) := by
  refine returnsInHanded_of_change_and (C := Tryd.checked) (X := fun w _ => laidMetH Tryd.prog laid1 w) (fun _ _ _ hh h => h.of_heap hh) own started (by kernel_rfl) Tryd.func4
    (ChangeSpec.witness_shaped (enc := enc) (C := Tryd.checked) (os := os) (X := fun w _ => laidMetH Tryd.prog laid1 w) false (World.doorLaid Tryd.prog 14 os) #[.slice none 0 0, .int .u16 0] 8 rfl (World.shaped_of_RefB (by kernel_rfl) (by kernel_rfl)) (by kernel_rfl) (by kernel_rfl) (by kernel_rfl) (door_met os _)) ?_
  intro W base args ds gs before hval0 hW _ _ hL _
  have hval : ∀ (j : Nat) t v, Tryd.f4.params[j]? = some t → args[j]? = some v → Value.okWide Tryd.prog W .any base t v := hval0
  have hW' := hW
  obtain ⟨p, q, hA0, hV, rfl, hfz, hnd⟩ := hW
  have hA : DataW.TrodAll enc Tryd.prog W 0 (fun _ => true) true Tryd.f4.params.toList args.toList ds p := hA0
  rw [Tryd.params4] at hA hval
  obtain ⟨v0, v1, d0, d1, p0, p1, rfl, rfl, rfl, h0, h1⟩ := trodAll_two hA
  obtain ⟨rfl, rfl⟩ := trodVars_none hV
  obtain ⟨a, len, cap, rfl⟩ := okWide_slice Tryd.underlying23 (hval 0 23 v0 rfl rfl)
  obtain ⟨s, rfl, rfl, rfl, ws⟩ := open_int Tryd.underlying28 (hval 1 28 v1 rfl rfl) h1
  have lt0 : ∀ x ∈ p0, x.block < W.heap.size := by obtain ⟨m, hm⟩ := h0; exact DataW.trod_lt m _ _ _ hm
  obtain ⟨_, hS, bs, hR⟩ := row_of h0
  have hb := bounds_u16 ws
  obtain ⟨n, rfl⟩ := Int.eq_ofNat_of_zero_le hb.1
  clear hA0 hval0
  refine (walk a len cap n bs W (by omega) (of_laid hL) hR hS).mono fun e W' ⟨he, bel⟩ => ?_
  subst he
  exact ⟨_, rfl, _, _, _, [], _, [], hW', trodAll_mk1 (shut_bool Tryd.underlying4 _), trodAll_mk2 (Below.trod laidOut (by kernel_rfl) (of_decide_eq_true (by kernel_rfl)) h0 bel lt0) (shut_int Tryd.underlying28 ws), rfl, bel.frame _, fun h => by cases h⟩

theorem row_holds : Rows.CrcPiecesSaid :=
  OpenClaim.holds_of_wide 4 Tryd.f4 rfl rfl rfl rfl rfl rfl rfl ⟨rfl, rfl, rfl, rfl, rfl⟩ rfl rfl rfl rfl rfl (by kernel_rfl) Tryd.func4 (by kernel_rfl)
    (of_decide_eq_true (by kernel_rfl)) (by unfold Func.isWrapper; first | (rw [if_pos (by decide +kernel)]; kernel_rfl) | (rw [if_neg (by decide +kernel)]; exact ⟨rfl, rfl⟩))
    (fun os started H enc _ => lifted os started H enc)
end CrcPieces

theorem crcPieces_card : Rows.CrcPiecesCardSaid :=
  Claim7.holds_tied_plain_at .later [] [.data] true (true, "04750c20021f63e0bf1dd7265baba7e1902850d1a958cc97a4fe7804d3d7b0d1") false
    CrcPieces.row_holds (fun _ h => by cases h) (by kernel_rfl) (fun _ h => by cases h) crcPieces_row_tie rfl ⟨rfl, rfl⟩ (by kernel_rfl) rfl
    (fun f fn hf hfn => by
      obtain rfl : f = 4 := Option.some.inj ((show Tryd.prog.funcNamed "trug/truglaw01.CrcPieces" = some 4 by kernel_rfl).symm.trans hf) |>.symm
      obtain rfl : fn = Tryd.f4 := (Option.some.inj (Tryd.func4.symm.trans hfn)).symm
      exact ⟨by kernel_rfl, fun j t ht => by
        rw [Tryd.params4] at ht
        have hm : t ∈ [23, 28] := by simpa using Array.mem_of_getElem? ht
        have hall : ([23, 28].all fun u => !Tryd.prog.wantsStandIn u) = true := by kernel_rfl
        exact (show Tryd.prog.wantsStandIn t = false by simpa using List.all_eq_true.1 hall t hm)⟩)
    (by kernel_rfl)
#print axioms crcPieces_card
end Go.Proofs.YthlbkaenpoeljaaDoor
