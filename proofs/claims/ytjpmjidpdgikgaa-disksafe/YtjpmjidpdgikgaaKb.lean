/- Walk of Used: the bytes of all names' files, whatever order they come in. -/
import Derived.Test.YtjpmjidpdgikgaaKa
import Derived.Maps.RangeWalk
import Derived.Sort.KeysCollected
namespace Go.Proofs.Ytjpmjidpdgikgaa
open Go.RowKit Go.Maps
open Go.Proofs (encStr)

def tBA (l : List UInt8) : ByteArray := ⟨l.toArray⟩
theorem litS_tBA (l : List UInt8) : litS (tBA l) = .string l := by simp [litS, tBA]
theorem tBA_inj {l m : List UInt8} (h : tBA l = tBA m) : l = m := by simpa [tBA] using h
theorem tBA_data (s : ByteArray) : tBA s.data.toList = s := by cases s; simp [tBA]
theorem nodup_tBA {ss : List (List UInt8)} (h : ss.Nodup) : (ss.map tBA).Nodup := List.pairwise_map.2 (h.imp fun hne e => hne (tBA_inj e))
theorem came_names {w : World} {m n : Nat} {f : Lit → Option Value} {D : DataW Value} (hD : MpD w 9 m n f D) {left : Lit → Bool} {ss : List (List UInt8)} (h : Collected D left ss) (hl : ∀ kl, left kl = false) : NameL f (ss.map tBA) := by
  refine ⟨nodup_tBA h.1, fun s => ?_⟩
  have e : s ∈ ss.map tBA ↔ s.data.toList ∈ ss := by
    rw [List.mem_map]
    constructor
    · rintro ⟨l, hl, rfl⟩; simpa [tBA] using hl
    · intro h; exact ⟨_, h, tBA_data s⟩
  rw [e, h.2, hl]
  show _ ↔ (f (.string s.data.toList)).isSome = true
  rw [← hD.has]
  simp
theorem came_some {w : World} {m n : Nat} {f : Lit → Option Value} {D : DataW Value} (hD : MpD w 9 m n f D) {left : Lit → Bool} {ss : List (List UInt8)} (h : Collected D left ss) : ∀ s ∈ ss.map tBA, (f (litS s)).isSome = true := by
  intro s hs
  obtain ⟨l, hl, rfl⟩ := List.mem_map.1 hs
  rw [litS_tBA, ← hD.has]
  exact ((h.2 l).1 hl).1
theorem usd_le' {f : Lit → Option Value} {F : List Fi} {L : List ByteArray} (hL : L.Nodup) (hs : ∀ s ∈ L, (f (litS s)).isSome = true) (hn : NamesIn f F) (ho : Once f) (hd : (F.map (·.g)).Nodup) : usd f F L ≤ tot F := by
  have key : ∀ s ∈ L, ∃ x ∈ F, f (litS s) = some x.ptr ∧ fil F (f (litS s)) = x := fun s hs' => by
    obtain ⟨v, hv⟩ := Option.isSome_iff_exists.1 (hs s hs')
    obtain ⟨x, hx, rfl⟩ := hn _ _ hv
    exact ⟨x, hx, hv, by rw [hv]; exact fil_of hd hx⟩
  refine sum_le L (fun s => fil F (f (litS s))) F hL (fun s hs => ?_) (fun s hs t ht e => ?_)
  · obtain ⟨x, hx, _, e⟩ := key s hs
    show fil F (f (litS s)) ∈ F
    rw [e]; exact hx
  · obtain ⟨x, hx, h1, e1⟩ := key s hs
    obtain ⟨y, hy, h2, e2⟩ := key t ht
    have exy : x = y := by rw [← e1, ← e2]; exact e
    subst exy
    exact litS_inj (ho _ _ _ h1 h2)
theorem usd_snoc (f : Lit → Option Value) (F : List Fi) (L : List ByteArray) (s : ByteArray) : usd f F (L ++ [s]) = usd f F L + (fil F (f (litS s))).bs.length := by simp [usd]

/-- What Used answers. -/
def UsedP (s : Sta) (w : World) (e : Ending) (w' : World) : Prop := ∃ L, NameL s.f1 L ∧ L.length ≤ s.k1 ∧ e = .returned (.int .i64 (usd s.f1 s.F L : Nat)) ∧ Below w.heap.size w w'
theorem ranges_keep {w w' : World} {S : Nat → Prop} {m q n cnt : Nat} {D : DataW Value} {left : Lit → Bool} (h : w.ranges Try.prog 9 anyE m q n D left cnt) (k : Kept S w w') (hm : ¬ S m) (hq : ¬ S q) : w'.ranges Try.prog 9 anyE m q n D left cnt := by
  have h1 := h.owns.lt
  have h2 := h.lt
  obtain ⟨es, clock, since, seen, c0, hb, F, hs, hD, hr, rest⟩ := h
  exact ⟨es, clock, since, seen, c0, (k.block m h1 hm).trans hb, F, hs, hD, (k.block q h2 hq).trans hr, rest⟩
theorem wrap_add {a b : Nat} (h : a + b < 1000000000000) : IntKind.i64.wrap ((a : Int) + (b : Int)) = ((a + b : Nat) : Int) := by rw [IntKind.wrap_i64]; omega
set_option maxRecDepth 100000 in
set_option maxHeartbeats 1000000 in
theorem used_any {w : World} {B p room : Nat} {s : Sta} (h : Dz w B p room s) (ho : Once s.f1) (ht : tot s.F ≤ 100000000) : Calls Try.prog 17 #[.pointer (some ⟨p, 0, none⟩)] w (UsedP s w) := by
  have HM := made_any h.blk
  rw [show decide (0 < room) = true by simp [h.room]] at HM
  have HT := Lib.hid ht
  have HO := Lib.hid ho
  clear ht ho
  go_enter Try.func17, Try.ntmps17
  go_wp2_with fail
  refine HM.mono ?_
  rintro e w1 ⟨rfl, hb⟩
  have H1 := Lib.hid (h.below hb)
  have HB := Lib.hid hb
  clear h HM hb
  obtain ⟨D, hD⟩ := H1.out.mp1
  have HD := Lib.hid hD
  have u2 : w1.cell? ⟨p, 2, none⟩ = some (.map (some s.m1)) := H1.out.blk.cell 2
  go_wp2_with (first | (at_range; refine wpList_range_own _ rfl _ 40 rfl 9 51 law9 Try.underlying40 _ s.m1 s.k1 D rfl HD.out.own ?_; intro w0 hrg0 hg0 hs0))
  go_frame
  obtain ⟨q, hq⟩ : ∃ q, w1.heap.size = q := ⟨_, rfl⟩
  have HQ : Hid (q = w1.heap.size) := Lib.hid hq.symm
  rw [hq] at hrg0
  rw [hq]
  have HR0 := Lib.hid hrg0
  have HB0 : Hid (Below w1.heap.size w1 w0) := Lib.hid ((Below.refl _ _).grown hg0 (Nat.le_refl _) (fun j hj => by cases hj))
  clear hrg0 hg0 hs0 hD hq u2
  go_loopw [3] (fun v wr => ∃ (left : Lit → Bool) (cnt u : Nat) (ss : List (List UInt8)), v = .int .i64 (u : Int) ∧ Hid (u = usd s.f1 s.F (ss.map tBA)) ∧ Hid (wr.ranges Try.prog 9 anyE s.m1 q s.k1 D left cnt) ∧ Hid (ss.length + cnt ≤ s.k1) ∧ Hid (Collected D left ss) ∧ Hid (Below w1.heap.size w1 wr)) (fun _ wr => wr.rangeLeft s.m1 q)
  case atStart => exact ⟨_, _, 0, [], rfl, Lib.hid rfl, HR0, Lib.hid (by rw [HD.out.size]; simp), Lib.hid (Collected.start D), HB0⟩
  case round =>
    obtain ⟨left, cnt, u, ss, rfl, HU, HR, HN, HC, HB1⟩ := hrel
    go_wp2_with (at_next; refine wpList_next_ranges _ rfl _ rfl 9 law9 anyE (fun x : List UInt8 => encStr x) (fun c : Value => c) (fun key kl hk => by obtain ⟨x, hx, _⟩ := Maps.keyOf_str Try.underlying9 hk; exact ⟨x, hx⟩) (fun v y hv => ⟨v, rfl⟩) s.m1 q s.k1 D left cnt rfl HR.out ?_ ?_)
    · intro hc0 hl0
      have HH : Hid (UsedP s w (.returned (.int .i64 (u : Int))) wr) := Lib.hid ⟨ss.map tBA, came_names HD.out HC.out hl0, by have := HN.out; simp; omega, by rw [HU.out], HB.out.trans (HB1.out.mono HB.out.size)⟩
      clear hc0 hl0
      go_wp2_with fail
      go_ret
      exact HH.out
    · intro x c kl yd yp w2 cnt2 hkey hlk hv hat hrg2 hlt hg2 hs2 hen
      obtain ⟨x', ex, rfl, _⟩ := Maps.keyOf_str Try.underlying9 hkey
      obtain rfl : x = x' := encStr_inj ex
      have hsome : (s.f1 (litS (tBA x))).isSome = true := by rw [litS_tBA, ← HD.out.has]; exact has_true_of_atKey hat
      obtain ⟨v, hfv⟩ := Option.isSome_iff_exists.1 hsome
      have hval := HD.out.val _ _ (by rw [litS_tBA] at hfv; exact hfv) (.held v)
      have hyd := anyE_inv hv
      rw [hat] at hval
      obtain rfl : c = v := by
        simp only [Prod.mk.injEq] at hyd
        rw [hyd.1] at hval
        exact DataW.held.inj hval
      obtain ⟨y, hy, rfl⟩ := H1.out.nms _ _ hfv
      have k2 : Kept (fun k => k = q) wr w2 := (Kept.of_grown hg2).mono (fun k hk => by simpa using hk.symm)
      have HB2 : Hid (Below w1.heap.size w1 w2) := Lib.hid (HB1.out.trans (k2.below HB1.out.size (fun k hk => by rw [hk, HQ.out]; exact Nat.le_refl _)))
      have HR2 := Lib.hid hrg2
      have HLT := Lib.hid hlt
      have HC2 := Lib.hid (HC.out.step hlk hat)
      have v1 : w2.cell? ⟨y.g, 1, none⟩ = some (.slice y.a y.bs.length y.cap) := ((H1.out.fls.blk y hy).below HB2.out).cell 1
      have HU2 : Hid (u + y.bs.length = usd s.f1 s.F ((ss ++ [x]).map tBA)) := Lib.hid (by
        rw [List.map_append, List.map_cons, List.map_nil, usd_snoc, hfv, fil_of H1.out.fls.nodup hy, HU.out])
      have hle : u + y.bs.length ≤ 100000000 := by
        have h1 := usd_le' (f := s.f1) (F := s.F) (L := (ss ++ [x]).map tBA) (nodup_tBA HC2.out.1) (came_some HD.out HC2.out) H1.out.nms HO.out H1.out.fls.nodup
        rw [HU2.out]
        exact Nat.le_trans h1 HT.out
      have hw : IntKind.i64.wrap ((u : Int) + (y.bs.length : Int)) = ((u + y.bs.length : Nat) : Int) := wrap_add (by omega)
      generalize hyl : y.bs.length = yl at v1 HU2 hle hw
      have HYL := Lib.hid hyl
      simp only [Fi.ptr] at hen
      clear hkey hlk hv hat hrg2 hlt hg2 hs2 ex hsome hval hyd hfv k2 hyl
      go_wp2_with fail
      go_roundw
      case rel => exact ⟨_, cnt2, u + yl, ss ++ [x], by simp, HU2, HR2, Lib.hid (by have := HN.out; have := HLT.out; simp; omega), HC2, HB2⟩
      case measure => rw [HR2.out.left_eq, HR.out.left_eq]; exact HLT.out
end Go.Proofs.Ytjpmjidpdgikgaa
