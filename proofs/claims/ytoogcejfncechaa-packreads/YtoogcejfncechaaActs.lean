/- A list of fields that came in: what its memory holds; and 'do' for each of its elements. -/
import Derived.Test.YtoogcejfncechaaDo
import Derived.Deep.Slices
import Derived.Deep.Fields
import Derived.ChangeSame
namespace Go.Proofs.Ytoogcejfncechaa
open Go.ChangeShapes Go.WideShapes Go.RowKit Go.Deep

/-- A field as it came in: its kind, its number, its bytes. -/
structure ActV where
  k : Nat
  n : Nat
  b : Option Addr
  m : Nat
  d : Nat
  y : List Nat

structure ActV.Ok (x : ActV) (w : World) : Prop where
  kind : x.k < 256
  num : x.n < 18446744073709551616
  row : Row w x.b x.m x.y
  nil : x.b = none → x.m = 0 ∧ x.d = 0
  len : x.m ≤ maxLen

theorem ActV.Ok.keep {x : ActV} {S : Nat → Prop} {w w' : World} (h : x.Ok w) (k : Kept S w w') (hn : ∀ ad, x.b = some ad → x.m ≠ 0 → ¬ S ad.block) : x.Ok w' :=
  ⟨h.kind, h.num, h.row.keep k hn, h.nil, h.len⟩

theorem ActV.Ok.below {x : ActV} {w w' : World} (h : x.Ok w) (hb : Below w.heap.size w w') : x.Ok w' :=
  ⟨h.kind, h.num, h.row.below hb, h.nil, h.len⟩

/-- The first 'len' fields behind 'a'. -/
structure Acts (w : World) (a : Option Addr) (len : Nat) (xs : Nat → ActV) : Prop where
  ok : ∀ i, i < len → (xs i).Ok w
  cells : len = 0 ∨ ∃ b off, a = some ⟨b, off, none⟩ ∧ ∀ i, i < len → w.cell? ⟨b, off + i * 3, none⟩ = some (.int .u8 ((xs i).k : Int)) ∧ w.cell? ⟨b, off + i * 3 + 1, none⟩ = some (.int .u64 ((xs i).n : Int)) ∧ w.cell? ⟨b, off + i * 3 + 2, none⟩ = some (.slice (xs i).b (xs i).m (xs i).d)

theorem Acts.below {w w' : World} {a : Option Addr} {len : Nat} {xs : Nat → ActV} (h : Acts w a len xs) (hb : Below w.heap.size w w') : Acts w' a len xs := by
  refine ⟨fun i hi => (h.ok i hi).below hb, ?_⟩
  rcases h.cells with h0 | ⟨b, off, ha, hc⟩
  · exact .inl h0
  · refine .inr ⟨b, off, ha, fun i hi => ?_⟩
    obtain ⟨h1, h2, h3⟩ := hc i hi
    exact ⟨below_at hb h1, below_at hb h2, below_at hb h3⟩

theorem cells31 : Try.prog.cellsOf 31 = 3 := by kernel_rfl
theorem cells26 : Try.prog.cellsOf 26 = 1 := by kernel_rfl

theorem choose_acts {n : Nat} {P : Nat → ActV → Prop} (h : ∀ i, i < n → ∃ x, P i x) : ∃ xs : Nat → ActV, ∀ i, i < n → P i (xs i) := by
  have : ∀ i, ∃ x, i < n → P i x := fun i => by
    by_cases hi : i < n
    · obtain ⟨x, hx⟩ := h i hi
      exact ⟨x, fun _ => hx⟩
    · exact ⟨⟨0, 0, none, 0, 0, []⟩, fun h => absurd h hi⟩
  exact ⟨fun i => (this i).choose, fun i hi => (this i).choose_spec hi⟩

theorem add_lit (b off : Nat) (k : Nat) : (⟨b, off, none⟩ : Addr).add k = ⟨b, off + k, none⟩ := by
  unfold Addr.add
  split
  · subst_vars; rfl
  · rfl

/-- One field that can be read: its cells. -/
theorem act_of {H : Type} {enc : TypeId × Value → H} {W : World} {fuel : Nat} {cs : List Value} {x : DataW H × List MemPlace} (h : DataW.trod enc Try.prog W 0 (fun _ => true) true fuel 31 cs = some x) :
    ∃ v : ActV, v.Ok W ∧ cs = [.int .u8 (v.k : Int), .int .u64 (v.n : Int), .slice v.b v.m v.d] := by
  obtain ⟨ys, n, _, _, hlen, hyl, hf⟩ := DataW.trod_struct Try.underlying31 h
  rw [cells31] at hlen
  match cs, hlen with
  | [c0, c1, c2], _ =>
    have hyl3 : ys.length = 3 := hyl
    match ys, hyl3 with
    | [y0, y1, y2], _ =>
      have h0 : DataW.trod enc Try.prog W 0 (fun _ => true) true n 5 [c0] = some y0 := by
        have := hf 0 _ rfl
        simpa [cells5] using this
      have h1 : DataW.trod enc Try.prog W 0 (fun _ => true) true n 29 [c1] = some y1 := by
        have := hf 1 _ rfl
        simpa [cells29] using this
      have h2 : DataW.trod enc Try.prog W 0 (fun _ => true) true n 26 [c2] = some y2 := by
        have := hf 2 _ rfl
        simpa [cells26] using this
      obtain ⟨z0, e0, _, w0⟩ := DataW.trod_int Try.underlying5 h0
      obtain ⟨z1, e1, _, w1⟩ := DataW.trod_int Try.underlying29 h1
      have b0 := bounds_u8 w0
      have b1 := bounds_u64 w1
      have hs : ∃ a l c, c2 = .slice a l c := by
        rcases DataW.trod_slice Try.underlying26 h2 with ⟨hc, _⟩ | ⟨a, l, c, _, _, _, _, hc, _⟩
        · exact ⟨none, 0, 0, by simpa using hc⟩
        · exact ⟨some a, l, c, by simpa using hc⟩
      obtain ⟨a, l, c, rfl⟩ := hs
      obtain ⟨hl, hz, bs, hR⟩ := row_of (d := y2.1) (p := y2.2) ⟨n, h2⟩
      simp at e0 e1
      subst e0 e1
      refine ⟨⟨z0.toNat, z1.toNat, a, l, c, bs⟩, ⟨by simp; omega, by simp; omega, hR, fun h => ?_, hl⟩, ?_⟩
      · rcases hz with ⟨_, h1, h2⟩ | ⟨x, hx, _⟩
        · exact ⟨h1, h2⟩
        · simp at h; rw [hx] at h; cases h
      · simp; omega

theorem acts_of {H : Type} {enc : TypeId × Value → H} {W : World} {a : Option Addr} {len cap : Nat} {d : DataW H} {p : List MemPlace}
    (h : DataW.Trod enc Try.prog W 0 (fun _ => true) true 22 (.slice a len cap) d p) : len ≤ maxLen ∧ ∃ xs, Acts W a len xs := by
  obtain ⟨fuel, hf⟩ := h
  rcases open_slice Try.underlying22 hf with ⟨hcs, _⟩ | ⟨x, l, c, m, n, D, Pl, hcs, _, hl, hm, hmm, _, hi⟩
  · simp [Value.cells] at hcs
    obtain ⟨rfl, rfl, rfl⟩ := hcs
    exact ⟨Nat.zero_le _, fun _ => ⟨0, 0, none, 0, 0, []⟩, fun i hi => by omega, .inl rfl⟩
  · simp [Value.cells] at hcs
    obtain ⟨rfl, rfl, rfl⟩ := hcs
    simp at hmm
    have hall : ∀ i, i < len → ∃ v : ActV, v.Ok W ∧ W.cell? (x.add (i * 3)) = some (.int .u8 (v.k : Int)) ∧ W.cell? (x.add (i * 3 + 1)) = some (.int .u64 (v.n : Int)) ∧ W.cell? (x.add (i * 3 + 2)) = some (.slice v.b v.m v.d) := by
      intro i hil
      obtain ⟨cs', hc, ht⟩ := hi i (by omega)
      rw [cells31] at hc
      obtain ⟨_, _, hat⟩ := World.cells?_some hc
      obtain ⟨v, hv, rfl⟩ := act_of ht
      refine ⟨v, hv, ?_, ?_, ?_⟩
      · have := hat 0 (by omega); rw [Go.Deep.add_add] at this; simpa using this
      · have := hat 1 (by omega); rw [Go.Deep.add_add] at this; simpa using this
      · have := hat 2 (by omega); rw [Go.Deep.add_add] at this; simpa using this
    obtain ⟨xs, hxs⟩ := choose_acts hall
    refine ⟨by omega, xs, fun i hi => (hxs i hi).1, ?_⟩
    by_cases h0 : len = 0
    · exact .inl h0
    · obtain ⟨b, off, spot⟩ := x
      have hspot : spot = none := by
        have := (hxs 0 (by omega)).2.1
        simpa [Addr.add] using World.cell?_spot this
      subst hspot
      refine .inr ⟨b, off, rfl, fun i hi => ?_⟩
      have := (hxs i hi).2
      rw [add_lit, add_lit, add_lit, ← Nat.add_assoc, ← Nat.add_assoc] at this
      exact this

/-- The bytes of a field. -/
def ActV.bytes (x : ActV) : List Nat :=
  if x.k % 3 = 0 then Vint.enc x.n else if x.k % 3 = 1 then Vint.enc (fold (IntKind.i64.wrap (x.n : Int))).toNat else Vint.enc x.m ++ x.y

theorem wrap_lo (n : Nat) : -9223372036854775808 ≤ IntKind.i64.wrap (n : Int) := by rw [IntKind.wrap_i64]; omega
theorem wrap_hi (n : Nat) : IntKind.i64.wrap (n : Int) ≤ 9223372036854775807 := by rw [IntKind.wrap_i64]; omega

theorem do_any (p er : Nat) (a : Option Addr) (len cap : Nat) (bs : List Nat) (x : ActV) (w : World) (h : Wr w p er a len cap bs) (hx : x.Ok w) (hm : x.m ≤ 3000) (hn : ∀ ad, x.b = some ad → x.m ≠ 0 → ¬ Wat p a ad.block) :
    Calls Try.prog 10 #[.pointer (some ⟨p, 0, none⟩), .agg #[.int .u8 (x.k : Int), .int .u64 (x.n : Int), .slice x.b x.m x.d]] w (Did p er a bs x.bytes w) := by
  unfold ActV.bytes
  by_cases h0 : x.k % 3 = 0
  · rw [if_pos h0]
    exact do_num p er a len cap bs x.k x.n x.b x.m x.d w hx.kind h0 hx.num h
  · rw [if_neg h0]
    by_cases h1 : x.k % 3 = 1
    · rw [if_pos h1]
      exact do_int p er a len cap bs x.k x.n _ x.b x.m x.d w hx.kind h1 rfl (wrap_lo _) (wrap_hi _) h
    · rw [if_neg h1]
      exact do_bytes p er a len cap bs x.k x.n x.b x.m x.d x.y w hx.kind (by omega) hm h hx.row hx.nil hn

theorem bytes_small {x : ActV} {w : World} (hx : x.Ok w) : ∀ c ∈ x.bytes, c < 256 := by
  unfold ActV.bytes
  intro c hc
  split at hc
  · exact Vint.enc_lt _ c hc
  · split at hc
    · exact Vint.enc_lt _ c hc
    · rcases List.mem_append.1 hc with h | h
      · exact Vint.enc_lt _ c h
      · exact hx.row.small c h

theorem bytes_len {x : ActV} {w : World} (hx : x.Ok w) (hm : x.m ≤ 3000) : x.bytes.length ≤ 3010 := by
  unfold ActV.bytes
  have h1 := Vint.enc_ten hx.num
  have h2 := fold_lo (IntKind.i64.wrap (x.n : Int))
  have h3 := fold_hi _ (wrap_lo x.n) (wrap_hi x.n)
  have h4 := Vint.enc_ten (n := (fold (IntKind.i64.wrap (x.n : Int))).toNat) (by omega)
  have h5 := Vint.enc_ten (n := x.m) (by omega)
  split
  · omega
  · split
    · omega
    · rw [List.length_append, hx.row.size]; omega

end Go.Proofs.Ytoogcejfncechaa
