/- Sorted(maps.Keys(m)) of a map of uint16 numbers, fewer than fifty of them. -/
import Derived.Test.YtmibfbbkjejkmaaMc
namespace Go.Proofs.Ytmibfbbkjejkmaa
open Go.RowKit Go.Maps

set_option maxRecDepth 100000 in
theorem insert_none (a : Option Addr) (cap : Nat) (w : World) : Calls Try.prog 48 #[.slice a 0 cap, .int .i64 0, .int .i64 0] w fun e w' => e = .returned (.tuple #[]) ∧ w = w' := by
  go_enter Try.func48, Try.ntmps48
  go_wp2
  go_loopw [6] (fun v W => v = .int .i64 1 ∧ w = W) (fun _ _ => 0)
  case atStart => exact ⟨rfl, rfl⟩
  case round =>
    obtain ⟨rfl, rfl⟩ := hrel
    go_wp2
    go_end0
    exact ⟨rfl, rfl⟩

set_option maxRecDepth 100000 in
theorem pdq_none (a : Option Addr) (cap : Nat) (l : Int) (w : World) : Calls Try.prog 40 #[.slice a 0 cap, .int .i64 0, .int .i64 0, .int .i64 l] w fun e w' => e = .returned (.tuple #[]) ∧ w = w' := by
  go_enter Try.func40, Try.ntmps40
  go_wp2_with fail
  go_loopw [1, 2] (fun v u W => v = .int .i64 0 ∧ u = .int .i64 0 ∧ w = W) (fun _ _ _ => 0)
  case atStart => exact ⟨rfl, rfl, rfl⟩
  case round =>
    obtain ⟨rfl, rfl, rfl⟩ := hrel
    go_wp2_with fail
    refine (insert_none a cap w).mono ?_
    rintro e w' ⟨rfl, rfl⟩
    go_wp2_with fail
    exact bodyPost_ret (results_none rfl _ _ _) rfl ⟨rfl, rfl⟩

set_option maxRecDepth 100000 in
theorem sort_none (a : Option Addr) (cap : Nat) (w : World) : Calls Try.prog 23 #[.slice a 0 cap] w fun e w' => e = .returned (.tuple #[]) ∧ w = w' := by
  go_enter Try.func23, Try.ntmps23
  go_wp2_with fail
  refine (len_x 0 0 w (by omega) (Lib.hid rfl) (by omega) (by omega)).mono ?_
  rintro e w' ⟨rfl, rfl⟩
  go_wp2_with fail
  refine (pdq_none a cap _ w).mono ?_
  rintro e w' ⟨rfl, rfl⟩
  go_wp2_with fail
  go_end0
  exact ⟨rfl, rfl⟩

theorem keys_any (m : Option Nat) (w : World) : Calls Try.prog 35 #[.map m] w fun e w' => e = .returned (.func (.func 46) #[] #[.pointer (some ⟨w.heap.size, 0, none⟩)]) ∧ w' = w.alloc (.cells #[.map m] 65) := by
  go_enter Try.func35, Try.ntmps35
  go_wp2
  go_ret
  exact ⟨rfl, rfl⟩

section
variable {f : Lit → Option Value} {m n Bm : Nat} {w : World}
theorem appendseq_any (hn : n < 1000000) (hBm : Bm < w.heap.size) (hc : w.cell? ⟨Bm, 0, none⟩ = some (.map (some m))) (hm : MpF w 34 m n f) :
    Calls Try.prog 60 #[.slice none 0 0, .func (.func 46) #[] #[.pointer (some ⟨Bm, 0, none⟩)]] w (Colls f w) :=
  callsIn_wide.1 (appendseq_in Fence.wide 3 trivial trivial rfl (by omega) hn w hBm hc hm)
theorem collect_any (hn : n < 1000000) (hBm : Bm < w.heap.size) (hc : w.cell? ⟨Bm, 0, none⟩ = some (.map (some m))) (hm : MpF w 34 m n f) :
    Calls Try.prog 45 #[.func (.func 46) #[] #[.pointer (some ⟨Bm, 0, none⟩)]] w (Colls f w) := by
  have HC := Lib.hid (appendseq_any hn hBm hc hm)
  clear hn hBm hc hm
  go_enter Try.func45, Try.ntmps45
  go_wp2_with fail
  refine HC.out.mono ?_
  rintro e w' ⟨v, ss, rfl, h1, h2, h3, h4⟩
  have HH : Hid (Colls f w (.returned v) w') := Lib.hid ⟨v, ss, rfl, h1, h2, h3, h4⟩
  clear h1 h2 h3 h4
  go_wp2_with fail
  go_ret
  exact HH.out
end

/-- The keys in increasing order, in a slice of the call's own. -/
def SKeys (f : Lit → Option Value) (w : World) (e : Ending) (W' : World) : Prop :=
  ∃ (a : Option Addr) (cap : Nat) (l : List Nat), e = .returned (.slice a l.length cap) ∧ l.Pairwise (· < ·) ∧ (∀ x, x ∈ l ↔ x < 65536 ∧ (f (litK x)).isSome = true) ∧ OwnU W' w.heap.size a l.length cap l ∧ Below w.heap.size w W'

theorem keys_le {f : Lit → Option Value} {ss : List Nat} {w : World} {m n : Nat} (hm : MpF w 34 m n f) (hk : KeysOf f ss) : ss.length ≤ n := by
  obtain ⟨D, hD⟩ := hm
  obtain ⟨es', e1, hp, hl⟩ := hD.own.entries law34
  have hs := hD.size
  subst e1
  have h1 : (ss.map litK).Nodup := by
    rw [List.nodup_iff_pairwise_ne, List.pairwise_map]
    have := List.nodup_iff_pairwise_ne.1 hk.1
    exact this.imp fun hne e => hne (litK_inj e)
  have h2 : ∀ kl ∈ ss.map litK, kl ∈ es'.map (·.1) := by
    intro kl hkl
    obtain ⟨x, hx, rfl⟩ := List.mem_map.1 hkl
    have hh := hD.has (litK x)
    rw [((hk.2 x).1 hx).2, Maps.has_eq] at hh
    obtain ⟨q, hq, e⟩ := List.any_eq_true.1 hh
    exact List.mem_map.2 ⟨q, hq, WideAt.sameKey_eq e⟩
  have h3 := h1.length_le_of_subset h2
  have h4 : es'.length = n := hs
  simp only [List.length_map] at h3
  omega

set_option maxRecDepth 100000 in
theorem sorted_any {f : Lit → Option Value} {m n Bm : Nat} {w : World} (hn : n < 50) (hBm : Bm < w.heap.size) (hc : w.cell? ⟨Bm, 0, none⟩ = some (.map (some m))) (hm : MpF w 34 m n f) :
    Calls Try.prog 34 #[.func (.func 46) #[] #[.pointer (some ⟨Bm, 0, none⟩)]] w (SKeys f w) := by
  have HC := Lib.hid (collect_any (by omega) hBm hc hm)
  have HM := Lib.hid hm
  clear hBm hc hm
  go_enter Try.func34, Try.ntmps34
  go_wp2_with fail
  refine HC.out.mono ?_
  rintro e w1 ⟨v, ss, rfl, h1, h2, h3, h4⟩
  have hlen := keys_le HM.out h1
  cases ss with
  | nil =>
    obtain rfl := h3.2 rfl
    have HH : Hid (SKeys f w (.returned (.slice none 0 0)) w1) := Lib.hid ⟨none, 0, [], rfl, List.Pairwise.nil, h1.2, ownU_nil _ _, h4⟩
    clear h1 h2 h3 h4
    go_wp2_with fail
    refine (sort_none none 0 w1).mono ?_
    rintro e w2 ⟨rfl, rfl⟩
    go_wp2_with fail
    go_ret
    exact HH.out
  | cons y ys =>
    obtain ⟨g, cap, rfl⟩ : ∃ g cap, v = .slice (some ⟨g, 0, none⟩) (y :: ys).length cap := by
      rcases h2.2 with ⟨_, h0⟩ | ⟨g, cap, cur, hv, _⟩
      · simp at h0
      · exact ⟨g, cap, hv⟩
    have ho : OwnU w1 w.heap.size (some ⟨g, 0, none⟩) (y :: ys).length cap (y :: ys) := h2
    have HS := Lib.hid (sortU_any ho (by omega))
    have HF : Hid (KeysOf f (y :: ys) ∧ Below w.heap.size w w1 ∧ w.heap.size ≤ g) := Lib.hid ⟨h1, h4, (ho.lt _ rfl).1⟩
    clear h1 h2 h3 h4 ho hlen
    generalize hN : (y :: ys).length = N at HS
    have HN := Lib.hid hN
    clear hN
    go_wp2_with fail
    refine HS.out.mono ?_
    rintro e w2 ⟨rfl, l, hp, hso, ho, hk⟩
    have HH : Hid (SKeys f w (.returned (.slice (some ⟨g, 0, none⟩) N cap)) w2) := by
      obtain ⟨hk1, hb, hg⟩ := HF.out
      have hl : l.length = N := ho.len
      subst hl
      refine Lib.hid ⟨_, cap, l, rfl, ?_, fun x => by rw [hp.mem_iff]; exact hk1.2 x, ho, hb.trans (hk.below hb.size (fun k hk => by rw [hk]; exact hg))⟩
      have hnd : l.Nodup := hp.nodup_iff.2 hk1.1
      exact (hso.and (List.nodup_iff_pairwise_ne.1 hnd)).imp fun ⟨h1, h2⟩ => by omega
    clear hp hso ho hk
    go_wp2_with fail
    go_ret
    exact HH.out

end Go.Proofs.Ytmibfbbkjejkmaa
