/- Walks of the writer's inner parts: held, keep, state and put, which appends all parts of a field or none. -/
import Derived.Test.YtcgbkfnjohbglaaDoorMem
namespace Go.Proofs.YtcgbkfnjohbglaaDoor
open Go.RowKit

theorem held_core (p : Nat) (er : Nat) (w : World) (h0 : w.cell? ⟨p, 0, none⟩ = some (.bool true)) (h1 : w.cell? ⟨p, 1, none⟩ = some (.int .i64 (er : Int))) :
    Calls Tryd.prog 52 #[.pointer (some ⟨p, 0, none⟩)] w fun e w' => e = .returned (.int .i64 (er : Int)) ∧ w = w' := by
  go_enter Tryd.func52, Tryd.ntmps52
  go_wp2_with fail
  go_ret
  exact ⟨rfl, rfl⟩

theorem held_zero (p : Nat) (w : World) (h0 : w.cell? ⟨p, 0, none⟩ = some (.bool false)) :
    Calls Tryd.prog 52 #[.pointer (some ⟨p, 0, none⟩)] w fun e w' => e = .returned (.int .i64 1) ∧ w = w' := by
  go_enter Tryd.func52, Tryd.ntmps52
  go_wp2_with fail
  go_ret
  exact ⟨rfl, rfl⟩

theorem keep_core (p er : Nat) (x : Value) (w : World) (h1 : w.cell? ⟨p, 1, none⟩ = some x) (hf : w.frozen? ⟨p, 1, none⟩ = false) :
    Calls Tryd.prog 51 #[.pointer (some ⟨p, 0, none⟩), .int .i64 (er : Int)] w fun e w' => e = .returned (.int .i64 (er : Int)) ∧ w.setCell ⟨p, 1, none⟩ (.int .i64 (er : Int)) = w' := by
  go_enter Tryd.func51, Tryd.ntmps51
  go_wp2_with fail
  go_ret
  exact ⟨rfl, rfl⟩

theorem state_core (p er : Nat) (w : World) (h0 : w.cell? ⟨p, 0, none⟩ = some (.bool true)) (h1 : w.cell? ⟨p, 1, none⟩ = some (.int .i64 (er : Int))) :
    Calls Tryd.prog 39 #[.pointer (some ⟨p, 0, none⟩)] w fun e w' => e = .returned (.int .i64 (er : Int)) ∧ w = w' := by
  have H0 := Lib.hid (held_core p er w h0 h1)
  clear h0 h1
  go_enter Tryd.func39, Tryd.ntmps39
  go_wp2_with fail
  refine H0.out.mono ?_
  rintro e w' ⟨rfl, rfl⟩
  go_wp2_with fail
  go_ret
  exact ⟨rfl, rfl⟩

theorem state_zero (p : Nat) (w : World) (h0 : w.cell? ⟨p, 0, none⟩ = some (.bool false)) :
    Calls Tryd.prog 39 #[.pointer (some ⟨p, 0, none⟩)] w fun e w' => e = .returned (.int .i64 1) ∧ w = w' := by
  have H0 := Lib.hid (held_zero p w h0)
  clear h0
  go_enter Tryd.func39, Tryd.ntmps39
  go_wp2_with fail
  refine H0.out.mono ?_
  rintro e w' ⟨rfl, rfl⟩
  go_wp2_with fail
  go_ret
  exact ⟨rfl, rfl⟩

theorem state_nil (w : World) :
    Calls Tryd.prog 39 #[.pointer none] w fun e w' => e = .returned (.int .i64 1) ∧ w = w' := by
  go_enter Tryd.func39, Tryd.ntmps39
  go_wp2_with fail
  go_ret
  exact ⟨rfl, rfl⟩

/-- A writer at block p: its error, its slice, its bytes. -/
structure Wr (w : World) (p er : Nat) (a : Option Addr) (len cap : Nat) (bs : List Nat) : Prop where
  block : Blk w p 89 #[.bool true, .int .i64 (er : Int), .slice a len cap]
  own : Own w (p + 1) a len cap bs
  small : ∀ c ∈ bs, c < 256
  room : len ≤ 65536

/-- The blocks that a writer is in. -/
def Wat (p : Nat) (a : Option Addr) (k : Nat) : Prop := k = p ∨ ∃ ad, a = some ad ∧ k = ad.block

theorem Wr.keep {S : Nat → Prop} {w w' : World} {p er : Nat} {a : Option Addr} {len cap : Nat} {bs : List Nat} (h : Wr w p er a len cap bs) (k : Kept S w w') (hn : ∀ i, Wat p a i → ¬ S i) : Wr w' p er a len cap bs :=
  ⟨h.block.kept k (hn p (.inl rfl)), h.own.keep k (fun ad ha => hn ad.block (.inr ⟨ad, ha, rfl⟩)), h.small, h.room⟩

theorem Wr.below {w w' : World} {p er : Nat} {a : Option Addr} {len cap : Nat} {bs : List Nat} (h : Wr w p er a len cap bs) (hb : Below w.heap.size w w') : Wr w' p er a len cap bs :=
  h.keep (S := fun _ => False) (.of_below hb) (fun _ _ h => h)

theorem Wr.at_lt {w : World} {p er : Nat} {a : Option Addr} {len cap : Nat} {bs : List Nat} (h : Wr w p er a len cap bs) : ∀ k, Wat p a k → p ≤ k ∧ k < w.heap.size := by
  rintro k (rfl | ⟨ad, ha, rfl⟩)
  · exact ⟨Nat.le_refl _, h.block.lt⟩
  · have := h.own.lt ad ha
    omega

/-- The parts of a field: slices of bytes, in a row at block q. -/
structure Parts (w : World) (q n : Nat) (ls : List (List Nat)) (S : Nat → Prop) : Prop where
  size : ls.length = n
  cells : ∀ i, i < n → ∃ a l c, w.cell? ⟨q, i, none⟩ = some (.slice a l c) ∧ Row w a l (ls.getD i []) ∧ (a = none → l = 0 ∧ c = 0) ∧ (∀ ad, a = some ad → l ≠ 0 → ¬ S ad.block)
  apart : ¬ S q
  lt : q < w.heap.size

theorem Parts.keep {S : Nat → Prop} {w w' : World} {q n : Nat} {ls : List (List Nat)} (h : Parts w q n ls S) (k : Kept S w w') : Parts w' q n ls S := by
  refine ⟨h.size, fun i hi => ?_, h.apart, Nat.lt_of_lt_of_le h.lt k.size⟩
  obtain ⟨a, l, c, h1, h2, h3, h4⟩ := h.cells i hi
  exact ⟨a, l, c, by rw [World.cell?_of_block (w := w) (w' := w') (a := ⟨q, i, none⟩) (k.block q h.lt h.apart)]; exact h1, h2.keep k h4, h3, h4⟩

/-- All parts, one behind the other. -/
def flat (ls : List (List Nat)) : List Nat := ls.flatten

theorem getD_at' {ls : List (List Nat)} {k : Nat} (h : k < ls.length) : ls.getD k [] = ls[k] := by simp [List.getD, h]

theorem flat_snoc {ls : List (List Nat)} {k : Nat} (h : k < ls.length) : flat (ls.take (k + 1)) = flat (ls.take k) ++ ls.getD k [] := by
  rw [List.take_succ_eq_append_getElem h, getD_at' h]
  simp only [flat, List.flatten_append, List.flatten_cons, List.flatten_nil, List.append_nil]

theorem flat_take_le (ls : List (List Nat)) (k : Nat) : (flat (ls.take k)).length ≤ (flat ls).length := by
  conv => rhs; rw [← List.take_append_drop k ls]
  simp only [flat, List.flatten_append, List.length_append]
  omega

/-- The error behind a field of n bytes, where there are m. -/
def layE (er m n : Nat) : Nat := if er = 0 then (if 65536 < m + n then 3 else 0) else er
/-- The bytes behind a field. -/
def layB (er : Nat) (bs l : List Nat) : List Nat := if er = 0 ∧ bs.length + l.length ≤ 65536 then bs ++ l else bs

/-- What a call leaves that lays a field down. -/
def Wrote (p er : Nat) (a : Option Addr) (bs l : List Nat) (w : World) (e : Ending) (w' : World) : Prop :=
  ∃ a' len' cap', e = .returned (.int .i64 (layE er bs.length l.length : Int)) ∧ Wr w' p (layE er bs.length l.length) a' len' cap' (layB er bs l) ∧ Kept (Wat p a) w w' ∧ Lies w a a'

theorem Lies.refl (w : World) (a : Option Addr) : Lies w a a := fun ad h => .inl ⟨ad, h, rfl⟩
theorem Lies.trans {w w' : World} {a b c : Option Addr} (h : Lies w a b) (k : Lies w' b c) (hs : w.heap.size ≤ w'.heap.size) : Lies w a c := by
  intro ad hc
  rcases k ad hc with ⟨ad1, h1, e1⟩ | h1
  · rcases h ad1 h1 with ⟨ad0, h0, e0⟩ | h0
    · exact .inl ⟨ad0, h0, e1.trans e0⟩
    · exact .inr (by omega)
  · exact .inr (by omega)

theorem Lies.wat {w : World} {a a' : Option Addr} {p : Nat} (h : Lies w a a') : ∀ i, Wat p a' i → Wat p a i ∨ w.heap.size ≤ i := by
  rintro i (rfl | ⟨ad, ha, rfl⟩)
  · exact .inl (.inl rfl)
  · rcases h ad ha with ⟨ad0, h0, e⟩ | h0
    · exact .inl (.inr ⟨ad0, h0, e⟩)
    · exact .inr h0

set_option maxHeartbeats 400000 in
theorem parts_err (p er : Nat) (a : Option Addr) (len cap : Nat) (bs l : List Nat) (v : Value) (w : World) (hne : er ≠ 0) (h : Wr w p er a len cap bs) :
    Calls Tryd.prog 37 #[.pointer (some ⟨p, 0, none⟩), v] w (Wrote p er a bs l w) := by
  have H := Lib.hid h
  have H1 := Lib.hid (state_core p er w (h.block.cell 0) (h.block.cell 1))
  have hb : ((er : Int) != 0) = true := by simp; omega
  clear h
  have HN := Lib.hid hne
  clear hne
  go_enter Tryd.func37, Tryd.ntmps37
  go_wp2_with fail
  refine H1.out.mono ?_
  rintro e w' ⟨rfl, rfl⟩
  go_wp2_with fail
  go_ret
  have e1 : layE er bs.length l.length = er := by unfold layE; rw [if_neg HN.out]
  have e2 : layB er bs l = bs := by unfold layB; rw [if_neg (fun h => HN.out h.1)]
  exact ⟨a, len, cap, by rw [e1]; rfl, by rw [e1, e2]; exact H.out, Kept.refl _ _, Lies.refl _ _⟩


set_option maxHeartbeats 1000000 in
set_option maxRecDepth 100000 in
theorem parts_core (p : Nat) (a : Option Addr) (len cap : Nat) (bs : List Nat) (q n c : Nat) (ls : List (List Nat)) (T : Nat) (w : World) (hT : Hid ((flat ls).length = T)) (hn : n ≤ 100)
    (h : Hid (Wr w p 0 a len cap bs)) (hp : Hid (Parts w q n ls (Wat p a))) :
    Calls Tryd.prog 37 #[.pointer (some ⟨p, 0, none⟩), .slice (some ⟨q, 0, none⟩) n c] w (Wrote p 0 a bs (flat ls) w) := by
  have HL : Hid (bs.length = len) := Lib.hid h.out.own.len
  have hlen : len ≤ 65536 := h.out.room
  have H1 := Lib.hid (state_core p 0 w (h.out.block.cell 0) (h.out.block.cell 1))
  have c2 : w.cell? ⟨p, 2, none⟩ = some (.slice a len cap) := h.out.block.cell 2
  have c1 : w.cell? ⟨p, 1, none⟩ = some (.int .i64 0) := h.out.block.cell 1
  have f1 : w.frozen? ⟨p, 1, none⟩ = false := h.out.block.frozen 1
  have H2 := Lib.hid (keep_core p 3 (.int .i64 0) w c1 f1)
  clear c1 f1
  go_enter Tryd.func37, Tryd.ntmps37
  go_wp2_with fail
  refine H1.out.mono ?_
  rintro e w' ⟨rfl, rfl⟩
  go_wp2_with fail
  go_loop [6, 24] (fun r i => ∃ k s : Nat, k ≤ n ∧ i = .int .i64 (k : Int) ∧ s ≤ 65536 - len ∧ r = .int .i64 (65536 - (len : Int) - (s : Int)) ∧ Hid ((flat (ls.take k)).length = s)) (fun _ i => n - (intOf i).toNat)
  case atStart => exact ⟨0, 0, by omega, rfl, by omega, by go_num, Lib.hid (by simp [flat])⟩
  case round =>
    obtain ⟨k, s, hk, rfl, hs, rfl, HS⟩ := hrel
    by_cases hlt : k < n
    · obtain ⟨a1, l1, c1, hc1, hR1, hz1, hn1⟩ := hp.out.cells k hlt
      have HR1 := Lib.hid hR1.size
      have HF : Hid (flat (ls.take (k + 1)) = flat (ls.take k) ++ ls.getD k []) := Lib.hid (flat_snoc (by rw [hp.out.size]; exact hlt))
      have hmore : s + l1 ≤ T := by
        have h1 := flat_take_le ls (k + 1)
        rw [HF.out, List.length_append, HS.out, HR1.out, hT.out] at h1
        exact h1
      have HS1 : Hid ((flat (ls.take (k + 1))).length = s + l1) := Lib.hid (by rw [HF.out, List.length_append, HS.out, HR1.out])
      clear hR1 hz1 hn1 HF HR1
      by_cases hbig : 65536 - len - s < l1
      · have hbig' : 65536 - (len : Int) - (s : Int) < (l1 : Int) := by omega
        go_wp2_with fail
        refine H2.out.mono ?_
        rintro e w' ⟨rfl, rfl⟩
        go_wp2_with fail
        go_ret
        have e1 : layE 0 bs.length (flat ls).length = 3 := by unfold layE; rw [if_pos rfl, if_pos (by rw [HL.out, hT.out]; omega)]
        have e2 : layB 0 bs (flat ls) = bs := by unfold layB; rw [if_neg (by rw [HL.out, hT.out]; omega)]
        have hb := h.out.block.set 1 (.int .i64 3)
        refine ⟨a, len, cap, by rw [e1]; rfl, ?_, (Kept.setCell _ _ _).mono (fun k hk => .inl hk), Lies.refl _ _⟩
        rw [e1, e2]
        exact ⟨hb, h.out.own.keep (Kept.setCell _ _ _) (fun ad ha hk => by have := (h.out.own.lt ad ha).1; simp at hk; omega), h.out.small, hlen⟩
      · have hbig' : (l1 : Int) ≤ 65536 - (len : Int) - (s : Int) := by omega
        go_wp2_with fail
        go_round
        case rel => exact ⟨k + 1, s + l1, by omega, by go_num, by omega, by go_num, HS1⟩
        case measure => simp [intOf]; omega
    · have hST : T ≤ 65536 - len := by
        have h1 := HS.out
        rw [List.take_of_length_le (by rw [hp.out.size]; omega), hT.out] at h1
        omega
      clear HS c2
      go_wp2_with fail
      go_loopw [43] (fun i wr => ∃ (k l2 cp2 : Nat) (a2 : Option Addr), k ≤ n ∧ l2 ≤ 65536 ∧ i = .int .i64 (k : Int) ∧ Hid (Wr wr p 0 a2 l2 cp2 (bs ++ flat (ls.take k))) ∧ Hid (Kept (Wat p a) w wr) ∧ Hid (Lies w a a2)) (fun i _ => n - (intOf i).toNat)
      case atStart => exact ⟨0, len, cap, a, by omega, by omega, rfl, Lib.hid (by simpa [flat] using h.out), Lib.hid (Kept.refl _ _), Lib.hid (Lies.refl _ _)⟩
      case round =>
        obtain ⟨k, l2, cp2, a2, hk, hl2, rfl, HW, HK, HL2⟩ := hrel
        by_cases hlt : k < n
        · obtain ⟨a1, l1, c1, hc1, hR1, hz1, hn1⟩ := (hp.out.keep HK.out).cells k hlt
          have HR1 := Lib.hid hR1
          have HZ1 := Lib.hid hz1
          have HF : Hid (flat (ls.take (k + 1)) = flat (ls.take k) ++ ls.getD k []) := Lib.hid (flat_snoc (by rw [hp.out.size]; exact hlt))
          have hl3 : l2 + l1 ≤ 65536 := by
            have h1 := flat_take_le ls (k + 1)
            rw [HF.out, List.length_append, HR1.out.size, hT.out] at h1
            have h2 := HW.out.own.len
            rw [List.length_append, HL.out] at h2
            omega
          have c2 : wr.cell? ⟨p, 2, none⟩ = some (.slice a2 l2 cp2) := HW.out.block.cell 2
          have hpz : p + 1 ≤ wr.heap.size := HW.out.block.lt
          clear hR1 hz1 hn1
          go_wp2_with (at_builtin; refine wpList_append_own_row wr rfl _ _ rfl (p + 1) a2 l2 cp2 (bs ++ flat (ls.take k)) rfl HW.out.own a1 l1 c1 (ls.getD k []) rfl HR1.out HZ1.out (by omega) hpz ?_; intro a3 cp3 w2 ho3 hk3 hl3'; have HO3 := Lib.hid ho3; have HK3 := Lib.hid hk3; have HL3 := Lib.hid hl3'; have HB2 := Lib.hid (HW.out.block.kept hk3 (fun ⟨ad, ha, e⟩ => by have := (HW.out.own.lt ad ha).1; omega)); have c3 := HB2.out.cell 2; have f3 := HB2.out.frozen 2; simp at c3; clear ho3 hk3 hl3' c2 hc1)
          go_roundw
          case rel =>
            refine ⟨k + 1, l2 + l1, cp3, a3, by omega, by omega, by go_num, Lib.hid ?_, Lib.hid ?_, Lib.hid ?_⟩
            · rw [HF.out, ← List.append_assoc]
              refine ⟨HB2.out.set 2 _, HO3.out.keep (Kept.setCell _ _ _) (fun ad ha hk => by have := (HO3.out.lt ad ha).1; simp at hk; omega), fun c hc => ?_, by omega⟩
              rcases List.mem_append.1 hc with hc | hc
              · exact HW.out.small c hc
              · exact HR1.out.small c hc
            · exact HK.out.trans ((HK3.out.mono (T := Wat p a2) (fun k hk => .inr hk)).trans (T := Wat p a2) ((Kept.setCell _ _ _).mono (fun k hk => .inl hk)) (fun i hi => .inl hi)) HL2.out.wat
            · exact HL2.out.trans HL3.out HK.out.size
          case measure => simp [intOf]; omega
        · have e0 : flat (ls.take k) = flat ls := by rw [List.take_of_length_le (by rw [hp.out.size]; omega)]
          have HE := Lib.hid e0
          clear e0
          go_wp2_with fail
          go_ret
          have e1 : layE 0 bs.length (flat ls).length = 0 := by unfold layE; rw [if_pos rfl, if_neg (by rw [HL.out, hT.out]; omega)]
          have e2 : layB 0 bs (flat ls) = bs ++ flat ls := by unfold layB; rw [if_pos ⟨rfl, by rw [HL.out, hT.out]; omega⟩]
          refine ⟨a2, l2, cp2, by rw [e1]; rfl, ?_, HK.out, HL2.out⟩
          rw [e1, e2, ← HE.out]
          exact HW.out

theorem parts_any (p er : Nat) (a : Option Addr) (len cap : Nat) (bs : List Nat) (q n c : Nat) (ls : List (List Nat)) (w : World) (hn : n ≤ 100) (h : Wr w p er a len cap bs) (hp : Parts w q n ls (Wat p a)) :
    Calls Tryd.prog 37 #[.pointer (some ⟨p, 0, none⟩), .slice (some ⟨q, 0, none⟩) n c] w (Wrote p er a bs (flat ls) w) := by
  by_cases he : er = 0
  · subst he
    exact parts_core p a len cap bs q n c ls _ w (Lib.hid rfl) hn (Lib.hid h) (Lib.hid hp)
  · exact parts_err p er a len cap bs _ _ w he h

set_option maxHeartbeats 400000 in
theorem parts_nil (v : Value) (w : World) : Calls Tryd.prog 37 #[.pointer none, v] w fun e w' => e = .returned (.int .i64 1) ∧ w = w' := by
  go_enter Tryd.func37, Tryd.ntmps37
  go_wp2_with fail
  refine (state_nil w).mono ?_
  rintro e w' ⟨rfl, rfl⟩
  go_wp2_with fail
  go_ret
  exact ⟨rfl, rfl⟩

set_option maxHeartbeats 400000 in
theorem parts_zero (p : Nat) (v : Value) (w : World) (h0 : w.cell? ⟨p, 0, none⟩ = some (.bool false)) : Calls Tryd.prog 37 #[.pointer (some ⟨p, 0, none⟩), v] w fun e w' => e = .returned (.int .i64 1) ∧ w = w' := by
  have H0 := Lib.hid (state_zero p w h0)
  clear h0
  go_enter Tryd.func37, Tryd.ntmps37
  go_wp2_with fail
  refine H0.out.mono ?_
  rintro e w' ⟨rfl, rfl⟩
  go_wp2_with fail
  go_ret
  exact ⟨rfl, rfl⟩

theorem Wrote.since {p er : Nat} {a : Option Addr} {bs l : List Nat} {w w1 : World} {e : Ending} {w' : World} (h : Wrote p er a bs l w1 e w') (hb : Below w.heap.size w w1) : Wrote p er a bs l w e w' := by
  obtain ⟨a', len', cap', he, hw, hk, hl⟩ := h
  exact ⟨a', len', cap', he, hw, (Kept.of_below hb).trans hk (fun i hi => .inl hi), (Lies.refl w a).trans hl hb.size⟩

/-- One part, laid at a new block. -/
theorem parts_one {w : World} {S : Nat → Prop} {a : Option Addr} {l c : Nat} {x : List Nat} (hR : Row w a l x) (hz : a = none → l = 0 ∧ c = 0) (hn : ∀ ad, a = some ad → l ≠ 0 → ¬ S ad.block) (hS : ∀ k, S k → k < w.heap.size) :
    Parts (w.alloc (.cells #[.slice a l c] 48)) w.heap.size 1 [x] S := by
  refine ⟨rfl, fun i hi => ?_, fun h => Nat.lt_irrefl _ (hS _ h), by simp⟩
  obtain rfl : i = 0 := by omega
  exact ⟨a, l, c, (Blk.new w 48 _).cell 0, hR.below ((Below.refl _ _).alloc (Nat.le_refl _) _), hz, hn⟩

theorem parts_two {w : World} {S : Nat → Prop} {a b : Option Addr} {l c m d : Nat} {x y : List Nat} (hR : Row w a l x) (hz : a = none → l = 0 ∧ c = 0) (hn : ∀ ad, a = some ad → l ≠ 0 → ¬ S ad.block) (hR2 : Row w b m y) (hz2 : b = none → m = 0 ∧ d = 0) (hn2 : ∀ ad, b = some ad → m ≠ 0 → ¬ S ad.block) (hS : ∀ k, S k → k < w.heap.size) :
    Parts (w.alloc (.cells #[.slice a l c, .slice b m d] 48)) w.heap.size 2 [x, y] S := by
  refine ⟨rfl, fun i hi => ?_, fun h => Nat.lt_irrefl _ (hS _ h), by simp⟩
  have hb : Below w.heap.size w (w.alloc (.cells #[.slice a l c, .slice b m d] 48)) := (Below.refl _ _).alloc (Nat.le_refl _) _
  have : i = 0 ∨ i = 1 := by omega
  rcases this with rfl | rfl
  · exact ⟨a, l, c, (Blk.new w 48 _).cell 0, hR.below hb, hz, hn⟩
  · exact ⟨b, m, d, (Blk.new w 48 _).cell 1, hR2.below hb, hz2, hn2⟩

/-- What vint.Put leaves, as a slice of the call's own. -/
theorem vput (n : Nat) (w : World) (h : n < 18446744073709551616) : Calls Tryd.prog 38 #[.int .u64 (n : Int)] w fun e w' => ∃ g cap, e = .returned (.slice (some ⟨g, 0, none⟩) (Vint.enc n).length cap) ∧ Row w' (some ⟨g, 0, none⟩) (Vint.enc n).length (Vint.enc n) ∧ w.heap.size ≤ g ∧ Below w.heap.size w w' := by
  refine (put_any n w h).mono ?_
  rintro e w' ⟨g, cap, he, hown, hb⟩
  have ho : Own w' w.heap.size (some ⟨g, 0, none⟩) (Vint.enc n).length cap (Vint.enc n) := hown
  exact ⟨g, cap, he, ho.row (Vint.enc_lt n), (ho.lt _ rfl).1, hb⟩

theorem flat_one (x : List Nat) : flat [x] = x := by simp [flat]
theorem flat_two (x y : List Nat) : flat [x, y] = x ++ y := by simp [flat]

theorem one_put (p er : Nat) (a : Option Addr) (len cap : Nat) (bs : List Nat) (w w1 : World) (g c1 L : Nat) (l : List Nat) (h : Wr w p er a len cap bs) (hR : Row w1 (some ⟨g, 0, none⟩) L l) (hg : w.heap.size ≤ g) (hb : Below w.heap.size w w1) :
    Calls Tryd.prog 37 #[.pointer (some ⟨p, 0, none⟩), .slice (some ⟨w1.heap.size, 0, none⟩) 1 1] (w1.alloc (.cells #[.slice (some ⟨g, 0, none⟩) L c1] 48)) (Wrote p er a bs l w) := by
  have hal : Below w1.heap.size w1 (w1.alloc (.cells #[.slice (some ⟨g, 0, none⟩) L c1] 48)) := (Below.refl _ _).alloc (Nat.le_refl _) _
  have h1 := h.below hb
  have hpt : Parts (w1.alloc (.cells #[.slice (some ⟨g, 0, none⟩) L c1] 48)) w1.heap.size 1 [l] (Wat p a) :=
    parts_one hR (fun h => by cases h) (fun ad e _ hk => by
      obtain rfl := Option.some.inj e
      have := (h.at_lt _ hk).2
      exact absurd hg (by simpa using this)) (fun k hk => (h1.at_lt k hk).2)
  refine (parts_any p er a len cap bs w1.heap.size 1 1 [l] _ (by omega) (h1.below hal) hpt).mono ?_
  intro e w' hW
  rw [flat_one] at hW
  exact hW.since (hb.trans (hal.mono hb.size))

set_option maxHeartbeats 400000 in
theorem wnum_any (p er : Nat) (a : Option Addr) (len cap : Nat) (bs : List Nat) (n : Nat) (w : World) (hn : n < 18446744073709551616) (h : Wr w p er a len cap bs) :
    Calls Tryd.prog 27 #[.pointer (some ⟨p, 0, none⟩), .int .u64 (n : Int)] w (Wrote p er a bs (Vint.enc n) w) := by
  have HP := Lib.hid (vput n w hn)
  have H := Lib.hid h
  clear hn h
  generalize Vint.enc n = l at HP
  generalize hL : l.length = L at HP
  clear hL
  go_enter Tryd.func27, Tryd.ntmps27
  go_wp2_with fail
  refine HP.out.mono ?_
  rintro e w1 ⟨g, c1, rfl, hR, hg, hb⟩
  have HQ := Lib.hid (one_put p er a len cap bs w w1 g c1 L l H.out hR hg hb)
  clear hR hb hg HP
  go_wp2_with fail
  refine HQ.out.mono ?_
  rintro e w' ⟨a', len', cap', rfl, hw, hk, hl⟩
  have HW := Lib.hid hw
  have HK := Lib.hid hk
  have HL := Lib.hid hl
  clear hw hk hl HQ
  go_wp2_with fail
  go_ret
  exact ⟨a', len', cap', rfl, HW.out, HK.out, HL.out⟩

theorem two_put (p er : Nat) (a : Option Addr) (len cap : Nat) (bs : List Nat) (w w1 : World) (g c1 L : Nat) (l : List Nat) (b : Option Addr) (m d : Nat) (y : List Nat) (h : Wr w p er a len cap bs) (hR2 : Row w b m y) (hz2 : b = none → m = 0 ∧ d = 0) (hn2 : ∀ ad, b = some ad → m ≠ 0 → ¬ Wat p a ad.block) (hR : Row w1 (some ⟨g, 0, none⟩) L l) (hg : w.heap.size ≤ g) (hb : Below w.heap.size w w1) :
    Calls Tryd.prog 37 #[.pointer (some ⟨p, 0, none⟩), .slice (some ⟨w1.heap.size, 0, none⟩) 2 2] (w1.alloc (.cells #[.slice (some ⟨g, 0, none⟩) L c1, .slice b m d] 48)) (Wrote p er a bs (l ++ y) w) := by
  have hal : Below w1.heap.size w1 (w1.alloc (.cells #[.slice (some ⟨g, 0, none⟩) L c1, .slice b m d] 48)) := (Below.refl _ _).alloc (Nat.le_refl _) _
  have h1 := h.below hb
  have hpt : Parts (w1.alloc (.cells #[.slice (some ⟨g, 0, none⟩) L c1, .slice b m d] 48)) w1.heap.size 2 [l, y] (Wat p a) :=
    parts_two hR (fun h => by cases h) (fun ad e _ hk => by
      obtain rfl := Option.some.inj e
      have := (h.at_lt _ hk).2
      exact absurd hg (by simpa using this)) (hR2.below hb) hz2 hn2 (fun k hk => (h1.at_lt k hk).2)
  refine (parts_any p er a len cap bs w1.heap.size 2 2 [l, y] _ (by omega) (h1.below hal) hpt).mono ?_
  intro e w' hW
  rw [flat_two] at hW
  exact hW.since (hb.trans (hal.mono hb.size))


end Go.Proofs.YtcgbkfnjohbglaaDoor
