/- PackReads is proved: for every slice of bytes and every list of calls what each of the first sixty takes, and its error, is the document's; what it answered may be written over. No condition. -/
import Derived.Test.YtoogcejfncechaaActs
import Derived.Test.YtoogcejfncechaaRref
namespace Go.Proofs.Ytoogcejfncechaa
namespace PackReads
open Go.ChangeShapes Go.WideShapes Go.ChangeAt Go.RowKit

/-- The document's reader, at block q, beside the program's, at p: both have one error and the same bytes left. -/
structure Pair (w : World) (B p q er : Nat) (a1 : Option Addr) (n1 c1 : Nat) (a2 : Option Addr) (n2 c2 : Nat) (bs : List Nat) : Prop where
  rd : Rd w p er a1 n1 c1 bs
  blk : Blk w q 42 #[.slice a2 n2 c2, .int .i64 (er : Int)]
  sub : Sub w a2 n2 c2 bs B
  lt : p < q
  base : B ≤ p

theorem Pair.below {w w' : World} {B p q er : Nat} {a1 : Option Addr} {n1 c1 : Nat} {a2 : Option Addr} {n2 c2 : Nat} {bs : List Nat} (h : Pair w B p q er a1 n1 c1 a2 n2 c2 bs) (hb : Below w.heap.size w w') : Pair w' B p q er a1 n1 c1 a2 n2 c2 bs :=
  ⟨h.rd.below hb, h.blk.below hb, h.sub.below (hb.mono (by have := h.base; have := h.rd.block.lt; omega)), h.lt, h.base⟩

theorem Pair.keep {S : Nat → Prop} {w w' : World} {B p q er : Nat} {a1 : Option Addr} {n1 c1 : Nat} {a2 : Option Addr} {n2 c2 : Nat} {bs : List Nat} (h : Pair w B p q er a1 n1 c1 a2 n2 c2 bs) (k : Kept S w w') (hS : ∀ i, S i → q < i) : Pair w' B p q er a1 n1 c1 a2 n2 c2 bs :=
  ⟨h.rd.keep k (fun hs => by have := hS _ hs; have := h.lt; omega) (fun ad ha h0 hs => by have := hS _ hs; have := h.rd.apart ad ha h0; have := h.lt; omega), h.blk.kept k (fun hs => by have := hS _ hs; omega),
   h.sub.below (k.below (by have := h.base; have := h.rd.block.lt; omega) (fun i hs => by have := hS _ hs; have := h.base; have := h.lt; omega)), h.lt, h.base⟩

theorem kept_two (w : World) (q : Nat) (u v : Value) : Kept (fun k => k = q) w ((w.setCell ⟨q, 0, none⟩ u).setCell ⟨q, 1, none⟩ v) :=
  (kept_cell _ _ _ _).trans (kept_cell _ _ _ _) (fun _ hi => .inl hi)

/-- Behind a call of each the document's reader is stored anew. -/
theorem pair_step {wr w2 w3 : World} {B p q er er' : Nat} {a1 a2 a3 a5 : Option Addr} {n1 c1 n2 c2 n3 c3 n5 c5 : Nat} {bs bs' : List Nat} {x y : Value} {o : Obj} (HP : Pair wr B p q er a1 n1 c1 a2 n2 c2 bs) (HR : Rd w2 p er' a3 n3 c3 bs') (HB3 : Below w2.heap.size w2 w3) (HQ3 : Blk w3 q 42 #[x, y]) (HS3 : Sub w3 a5 n5 c5 bs' B) :
    Pair (((w3.setCell ⟨q, 0, none⟩ (.slice a5 n5 c5)).setCell ⟨q, 1, none⟩ (.int .i64 (er' : Int))).alloc o) B p q er' a3 n3 c3 a5 n5 c5 bs' := by
  have hk := kept_two w3 q (.slice a5 n5 c5) (.int .i64 (er' : Int))
  have hlt := HP.lt
  have hB := HP.base
  have hal : Below ((w3.setCell ⟨q, 0, none⟩ (.slice a5 n5 c5)).setCell ⟨q, 1, none⟩ (.int .i64 (er' : Int))).heap.size ((w3.setCell ⟨q, 0, none⟩ (.slice a5 n5 c5)).setCell ⟨q, 1, none⟩ (.int .i64 (er' : Int))) (((w3.setCell ⟨q, 0, none⟩ (.slice a5 n5 c5)).setCell ⟨q, 1, none⟩ (.int .i64 (er' : Int))).alloc o) := (Below.refl _ _).alloc (Nat.le_refl _) _
  have hb : Blk ((w3.setCell ⟨q, 0, none⟩ (.slice a5 n5 c5)).setCell ⟨q, 1, none⟩ (.int .i64 (er' : Int))) q 42 #[.slice a5 n5 c5, .int .i64 (er' : Int)] := (HQ3.set 0 (.slice a5 n5 c5)).set 1 (.int .i64 (er' : Int))
  refine Pair.below ⟨(HR.below HB3).keep hk (fun (e : p = q) => by omega) (fun ad ha h0 (e : ad.block = q) => by have := HR.apart ad ha h0; omega), hb, HS3.below (hk.below (by have := HQ3.lt; omega) (fun i (e : i = q) => by omega)), hlt, hB⟩ hal

theorem cells_q {w : World} {B p q er : Nat} {a1 : Option Addr} {n1 c1 : Nat} {a2 : Option Addr} {n2 c2 : Nat} {bs : List Nat} (h : Pair w B p q er a1 n1 c1 a2 n2 c2 bs) : w.cell? ⟨q, 0, none⟩ = some (.slice a2 n2 c2) ∧ w.cell? ⟨q, 1, none⟩ = some (.int .i64 (er : Int)) :=
  ⟨h.blk.cell 0, h.blk.cell 1⟩

theorem numB_small {er : Nat} {bs : List Nat} (hs : ∀ c ∈ bs, c < 256) : ∀ c ∈ numB er bs, c < 256 := by
  unfold numB
  intro c hc
  split at hc
  · exact hs c (List.mem_of_mem_drop hc)
  · exact hs c hc

theorem bytX_small {er : Nat} {bs : List Nat} (hs : ∀ c ∈ bs, c < 256) : ∀ c ∈ bytX er bs, c < 256 := by
  unfold bytX
  intro c hc
  split at hc
  · exact numB_small hs c (List.mem_of_mem_take hc)
  · simp at hc

theorem bytX_len {er : Nat} {bs : List Nat} : (bytX er bs).length ≤ bs.length := by
  have h : (numB er bs).length ≤ bs.length := by
    unfold numB
    split
    · simp
    · omega
  unfold bytX
  split
  · rw [List.length_take]; omega
  · simp

/-- Of what was answered the bytes from place j on are as they were. -/
def Left (x : List Nat) (b : Option Addr) (m j : Nat) (w : World) : Prop := ∀ i, j ≤ i → i < m → ∃ g, b = some ⟨g, 0, none⟩ ∧ w.cell? ⟨g, i, none⟩ = some (.int .u8 ((x.getD i 0 : Nat) : Int)) ∧ w.frozen? ⟨g, i, none⟩ = false

theorem left_start {w : World} {B : Nat} {b : Option Addr} {m d : Nat} {x : List Nat} (h : Own w B b m d x) (hx : ∀ c ∈ x, c < 256) : Left x b m 0 w := by
  intro i _ hi
  have hr := h.row hx
  obtain ⟨g, off, hb, hc⟩ := hr.cells.resolve_left (by omega)
  rcases h.2 with ⟨h', _⟩ | ⟨g', cap', cur, h', _, hg, _⟩
  · simp only [Value.slice.injEq] at h'
    omega
  · simp only [Value.slice.injEq, true_and] at h'
    obtain ⟨rfl, _⟩ := h'
    simp only [Option.some.injEq, Addr.mk.injEq, and_true] at hb
    obtain ⟨rfl, rfl⟩ := hb
    refine ⟨g', rfl, by simpa using hc i hi, ?_⟩
    simp [World.frozen?, hg]

theorem left_next {w : World} {g m j : Nat} {x : List Nat} (h : Left x (some ⟨g, 0, none⟩) m j w) (v : Value) : Left x (some ⟨g, 0, none⟩) m (j + 1) (w.setCell ⟨g, j, none⟩ v) := by
  intro i h1 h2
  obtain ⟨g', hb, hc, hf⟩ := h i (by omega) h2
  simp only [Option.some.injEq, Addr.mk.injEq, and_true] at hb
  subst hb
  refine ⟨g, rfl, ?_, by rw [World.frozen?_setCell]; exact hf⟩
  rw [World.cell?_setCell_other]
  · exact hc
  · intro e
    simp only [Addr.mk.injEq, and_true, true_and] at e
    omega

set_option maxHeartbeats 2000000 in
set_option maxRecDepth 100000 in
theorem core (ab : Option Addr) (nb cb : Nat) (bs0 : List Nat) (a : Option Addr) (len cap K : Nat) (xs : Nat → ActV) (w : World) (hnb : nb ≤ 3000) (hK1 : K ≤ len) (hK2 : K ≤ 60) (hK3 : K = len ∨ K = 60) (_hl : len ≤ 2 ^ 63 - 1) (HSub : Hid (Sub w ab nb cb bs0 w.heap.size)) (HA : Hid (Acts w a len xs)) :
    Calls Try.prog 4 #[.slice ab nb cb, .slice a len cap] w fun e w' => e = .returned (.bool true) ∧ Below w.heap.size w w' := by
  go_enter Try.func4, Try.ntmps4
  go_wp2_with fail
  refine (alive_any w).mono ?_
  rintro e w0 ⟨rfl, hb0⟩
  have HB0 := Lib.hid hb0
  have HS0 := Lib.hid (HSub.out.below hb0)
  clear hb0 HSub
  go_wp2_with fail
  refine (read_any ab nb cb bs0 w0 (by omega) HS0.out.row HS0.out.nil).mono ?_
  rintro e w1 ⟨p, a1, c1, rfl, hp0, hr1, hb1, _⟩
  have HR1 := Lib.hid hr1
  have hp : w.heap.size ≤ p := Nat.le_trans HB0.out.size hp0
  have HB1 := Lib.hid (HB0.out.trans (hb1.mono HB0.out.size))
  have HS1 := Lib.hid (HS0.out.below (hb1.mono HB0.out.size))
  clear hr1 hb1 HB0 HS0 hp0
  go_wp2_with fail
  have hal : Below w1.heap.size w1 (w1.alloc (.cells #[.slice ab nb cb, .int .i64 0] 42)) := (Below.refl _ _).alloc (Nat.le_refl _) _
  have hq : w.heap.size ≤ w1.heap.size := HB1.out.size
  have HP : Hid (Pair (w1.alloc (.cells #[.slice ab nb cb, .int .i64 0] 42)) w.heap.size p w1.heap.size 0 a1 bs0.length c1 ab nb cb bs0) := Lib.hid
    ⟨HR1.out.below hal, Blk.new _ _ _, HS1.out.below (hal.mono hq), HR1.out.block.lt, hp⟩
  have HB2 := Lib.hid (HB1.out.trans (hal.mono hq))
  clear hal HB1 HR1 HS1
  generalize w1.alloc (.cells #[.slice ab nb cb, .int .i64 0] 42) = w2 at HP HB2
  generalize w1.heap.size = q at HP hq
  go_loopw [7] (fun i wr => ∃ (k er n1 c1 n2 c2 : Nat) (a1 a2 : Option Addr) (bs : List Nat), k ≤ K ∧ i = .int .i64 (k : Int) ∧ Hid (Pair wr w.heap.size p q er a1 n1 c1 a2 n2 c2 bs) ∧ Hid (Below w.heap.size w wr)) (fun i _ => K - (intOf i).toNat)
  case atStart => exact ⟨0, 0, bs0.length, c1, nb, cb, a1, ab, bs0, by omega, rfl, HP, HB2⟩
  case round =>
    obtain ⟨k, er, n1, c1, n2, c2, a1, a2, bs, hk, rfl, HP, HB⟩ := hrel
    by_cases hlt : k < K
    · obtain ⟨b, off, ha, hcs⟩ := (HA.out.below HB.out).cells.resolve_left (by omega)
      obtain ⟨h1, h2, h3⟩ := hcs k (by omega)
      have hxk : (xs k).k < 256 := (HA.out.ok k (by omega)).kind
      clear hcs h2 h3
      subst ha
      generalize (xs k).k = kd at h1 hxk
      have hsp : w.heap.size ≤ wr.heap.size := HB.out.size
      by_cases hk0 : kd % 3 = 0
      · have m0 : ((kd : Int) % 3 == 0) = true := by simp; omega
        clear hk0
        go_wp2_with fail
        refine (rnum_any p er a1 n1 c1 bs wr HP.out.rd).mono ?_
        rintro e w2 ⟨a3, n3, c3, rfl, hr2, hk2⟩
        have HQ2 := Lib.hid (HP.out.blk.kept hk2 (fun (e : q = p) => by have := HP.out.lt; omega))
        have HSb := Lib.hid (HP.out.sub.below (hk2.below hsp (fun i (e : i = p) => by omega)))
        have HR2 := Lib.hid hr2
        have HB2 := Lib.hid (HB.out.trans (hk2.below hsp (fun i (e : i = p) => by omega)))
        have q0 := HQ2.out.cell 0
        have q1 := HQ2.out.cell 1
        simp at q0 q1
        clear hr2 hk2
        go_wp2_with fail
        refine (refnum_any er a2 n2 c2 bs w.heap.size w2 HB2.out.size HSb.out).mono ?_
        rintro e w3 ⟨a5, n5, c5, rfl, hs3, hb3⟩
        have HQ3 := Lib.hid (HQ2.out.below hb3)
        clear q0 q1
        have r0 := HQ3.out.cell 0
        have r1 := HQ3.out.cell 1
        have s0 := HQ3.out.frozen 0
        have s1 := HQ3.out.frozen 1
        have hqlt := HQ3.out.lt
        simp at r0 r1
        have HS3 := Lib.hid hs3
        have HB3 := Lib.hid hb3
        clear hs3 hb3 h1
        generalize numX er bs = x at HS3 HR2 HB3
        generalize numE er bs = er' at HS3 HR2 HB3
        generalize numB er bs = bs' at HS3 HR2 HB3
        go_wp2_with fail
        have HP4 := Lib.hid (pair_step (o := .cells #[.slice a5 n5 c5, .int .i64 (er' : Int)] 42) HP.out HR2.out HB3.out HQ3.out HS3.out)
        have HB4 : Hid (Below w.heap.size w (((w3.setCell ⟨q, 0, none⟩ (.slice a5 n5 c5)).setCell ⟨q, 1, none⟩ (.int .i64 (er' : Int))).alloc (.cells #[.slice a5 n5 c5, .int .i64 (er' : Int)] 42))) := Lib.hid
          ((((HB2.out.trans (HB3.out.mono HB2.out.size)).setCell (p := ⟨q, 0, none⟩) hq _).setCell (p := ⟨q, 1, none⟩) hq _).alloc (by simp; omega) _)
        clear HB2 HB3 HR2 HS3 HQ3 HQ2 HSb r0 r1 s0 s1
        generalize ((w3.setCell ⟨q, 0, none⟩ (.slice a5 n5 c5)).setCell ⟨q, 1, none⟩ (.int .i64 (er' : Int))).alloc (.cells #[.slice a5 n5 c5, .int .i64 (er' : Int)] 42) = w4 at HP4 HB4
        obtain ⟨k1, k2⟩ := cells_q HP4.out
        have KA := Lib.hid (cells_q (HP4.out.below (Below.refl _ _).drew))
        have KB := Lib.hid (cells_q (HP4.out.below (((Below.refl w4.heap.size w4).drew).alloc (Nat.le_refl _) (.cells #[.slice a5 n5 c5, .int .i64 (er' : Int)] 42))))
        clear hqlt
        go_region_held3 (fun w' => w'.cell? ⟨q, 0, none⟩ = some (.slice a5 n5 c5) ∧ w'.cell? ⟨q, 1, none⟩ = some (.int .i64 (er' : Int))) (first | exact ⟨k1, k2⟩ | exact KA.out | exact KB.out) (first
          | (go_at_call 20; refine (done_any p er' a3 n3 c3 bs' _ (HP4.out.rd.below (Below.refl _ _).drew)).mono ?_; rintro e w' ⟨rfl, rfl⟩)
          | (go_at_call 21; refine (refdone_any er' a5 n5 c5 bs' _ HP4.out.sub.row.size).mono ?_; rintro e w' ⟨rfl, rfl⟩))
        go_wp2_with fail
        go_roundw
        case rel => exact ⟨k + 1, er', n3, c3, n5, c5, a3, a5, bs', by omega, by go_num, Lib.hid (HP4.out.below (((Below.refl w4.heap.size w4).alloc (Nat.le_refl _) _).drew)), Lib.hid ((HB4.out.alloc HB4.out.size _).drew)⟩
        case measure => simp [intOf]; omega
      · have m0 : ((kd : Int) % 3 == 0) = false := by simp; omega
        by_cases hk1 : kd % 3 = 1
        · have m1 : ((kd : Int) % 3 == 1) = true := by simp; omega
          clear hk0 hk1
          go_wp2_with fail
          refine (rint_any p er a1 n1 c1 bs wr HP.out.rd).mono ?_
          rintro e w2 ⟨a3, n3, c3, rfl, hr2, hk2⟩
          have HQ2 := Lib.hid (HP.out.blk.kept hk2 (fun (e : q = p) => by have := HP.out.lt; omega))
          have HSb := Lib.hid (HP.out.sub.below (hk2.below hsp (fun i (e : i = p) => by omega)))
          have HR2 := Lib.hid hr2
          have HB2 := Lib.hid (HB.out.trans (hk2.below hsp (fun i (e : i = p) => by omega)))
          have q0 := HQ2.out.cell 0
          have q1 := HQ2.out.cell 1
          simp at q0 q1
          clear hr2 hk2
          go_wp2_with fail
          refine (refnum_any er a2 n2 c2 bs w.heap.size w2 HB2.out.size HSb.out).mono ?_
          rintro e w3 ⟨a5, n5, c5, rfl, hs3, hb3⟩
          have HQ3 := Lib.hid (HQ2.out.below hb3)
          clear q0 q1
          have r0 := HQ3.out.cell 0
          have r1 := HQ3.out.cell 1
          have s0 := HQ3.out.frozen 0
          have s1 := HQ3.out.frozen 1
          have hqlt := HQ3.out.lt
          simp at r0 r1
          have HS3 := Lib.hid hs3
          have HB3 := Lib.hid hb3
          clear hs3 hb3 h1
          have HX := Lib.hid (num_lt (er := er) HP.out.sub.row.small)
          generalize numX er bs = x at HS3 HR2 HB3 HX
          generalize numE er bs = er' at HS3 HR2 HB3
          generalize numB er bs = bs' at HS3 HR2 HB3
          go_wp2_with fail
          refine (runfold_any x _ HX.out).mono ?_
          rintro e w' ⟨rfl, rfl⟩
          go_wp2_with fail
          have HP4 := Lib.hid (pair_step (o := .cells #[.slice a5 n5 c5, .int .i64 (er' : Int)] 42) HP.out HR2.out HB3.out HQ3.out HS3.out)
          have HB4 : Hid (Below w.heap.size w (((w3.setCell ⟨q, 0, none⟩ (.slice a5 n5 c5)).setCell ⟨q, 1, none⟩ (.int .i64 (er' : Int))).alloc (.cells #[.slice a5 n5 c5, .int .i64 (er' : Int)] 42))) := Lib.hid
            ((((HB2.out.trans (HB3.out.mono HB2.out.size)).setCell (p := ⟨q, 0, none⟩) hq _).setCell (p := ⟨q, 1, none⟩) hq _).alloc (by simp; omega) _)
          clear HB2 HB3 HR2 HS3 HQ3 HQ2 HSb r0 r1 s0 s1
          generalize ((w3.setCell ⟨q, 0, none⟩ (.slice a5 n5 c5)).setCell ⟨q, 1, none⟩ (.int .i64 (er' : Int))).alloc (.cells #[.slice a5 n5 c5, .int .i64 (er' : Int)] 42) = w4 at HP4 HB4
          obtain ⟨k1, k2⟩ := cells_q HP4.out
          have KA := Lib.hid (cells_q (HP4.out.below (Below.refl _ _).drew))
          have KB := Lib.hid (cells_q (HP4.out.below (((Below.refl w4.heap.size w4).drew).alloc (Nat.le_refl _) (.cells #[.slice a5 n5 c5, .int .i64 (er' : Int)] 42))))
          clear hqlt
          go_region_held3 (fun w' => w'.cell? ⟨q, 0, none⟩ = some (.slice a5 n5 c5) ∧ w'.cell? ⟨q, 1, none⟩ = some (.int .i64 (er' : Int))) (first | exact ⟨k1, k2⟩ | exact KA.out | exact KB.out) (first
            | (go_at_call 20; refine (done_any p er' a3 n3 c3 bs' _ (HP4.out.rd.below (Below.refl _ _).drew)).mono ?_; rintro e w' ⟨rfl, rfl⟩)
            | (go_at_call 21; refine (refdone_any er' a5 n5 c5 bs' _ HP4.out.sub.row.size).mono ?_; rintro e w' ⟨rfl, rfl⟩))
          go_wp2_with fail
          go_roundw
          case rel => exact ⟨k + 1, er', n3, c3, n5, c5, a3, a5, bs', by omega, by go_num, Lib.hid (HP4.out.below (((Below.refl w4.heap.size w4).alloc (Nat.le_refl _) _).drew)), Lib.hid ((HB4.out.alloc HB4.out.size _).drew)⟩
          case measure => simp [intOf]; omega
        · have m1 : ((kd : Int) % 3 == 1) = false := by simp; omega
          clear hk0 hk1
          go_wp2_with fail
          refine (rbytes_any p er a1 n1 c1 bs wr HP.out.rd).mono ?_
          rintro e w2 ⟨bx, mx, dx, a3, n3, c3, rfl, ho2, hr2, hk2⟩
          have HQ2 := Lib.hid (HP.out.blk.kept hk2 (fun (e : q = p) => by have := HP.out.lt; omega))
          have HSb := Lib.hid (HP.out.sub.below (hk2.below hsp (fun i (e : i = p) => by omega)))
          have HR2 := Lib.hid hr2
          have HO2 := Lib.hid ho2
          have HB2 := Lib.hid (HB.out.trans (hk2.below hsp (fun i (e : i = p) => by omega)))
          have hqw : q < wr.heap.size := HP.out.blk.lt
          have q0 := HQ2.out.cell 0
          have q1 := HQ2.out.cell 1
          simp at q0 q1
          have HXS : Hid (∀ c ∈ bytX er bs, c < 256) := Lib.hid (bytX_small HP.out.sub.row.small)
          have hxl := bytX_len (er := er) (bs := bs)
          have hmx : mx ≤ 1000000 := by
            have g1 := ho2.len
            have g2 := HP.out.sub.row.size
            have g3 := HP.out.sub.room
            omega
          clear hr2 hk2 ho2 hxl
          go_wp2_with fail
          refine (refbytes_any er a2 n2 c2 bs w.heap.size w2 HB2.out.size HSb.out).mono ?_
          rintro e w3 ⟨a5, n5, c5, bz, mz, dz, rfl, hs3, hz3, hzlt, hb3⟩
          have HQ3 := Lib.hid (HQ2.out.below hb3)
          clear q0 q1
          have r0 := HQ3.out.cell 0
          have r1 := HQ3.out.cell 1
          have s0 := HQ3.out.frozen 0
          have s1 := HQ3.out.frozen 1
          have hqlt := HQ3.out.lt
          simp at r0 r1
          have HS3 := Lib.hid hs3
          have HB3 := Lib.hid hb3
          have HZ3 := Lib.hid hz3
          have HZL := Lib.hid hzlt
          clear hs3 hb3 h1 hz3 hzlt
          generalize bytX er bs = x at HO2 HZ3 HXS HR2 HS3 HB3
          generalize bytE er bs = er' at HS3 HR2 HB3
          generalize bytB er bs = bs' at HS3 HR2 HB3
          have HP4 := Lib.hid (pair_step (o := .cells #[.slice a5 n5 c5, .int .i64 (er' : Int)] 42) HP.out HR2.out HB3.out HQ3.out HS3.out)
          have HB4 : Hid (Below w.heap.size w (((w3.setCell ⟨q, 0, none⟩ (.slice a5 n5 c5)).setCell ⟨q, 1, none⟩ (.int .i64 (er' : Int))).alloc (.cells #[.slice a5 n5 c5, .int .i64 (er' : Int)] 42))) := Lib.hid
            ((((HB2.out.trans (HB3.out.mono HB2.out.size)).setCell (p := ⟨q, 0, none⟩) hq _).setCell (p := ⟨q, 1, none⟩) hq _).alloc (by simp; omega) _)
          have HK4 : Hid (Kept (fun k => k = q) w3 (((w3.setCell ⟨q, 0, none⟩ (.slice a5 n5 c5)).setCell ⟨q, 1, none⟩ (.int .i64 (er' : Int))).alloc (.cells #[.slice a5 n5 c5, .int .i64 (er' : Int)] 42))) := Lib.hid ((kept_two _ _ _ _).trans (Kept.alloc _ _ _) (fun _ hi => .inl hi))
          have HO4 := Lib.hid ((HO2.out.below HB3.out).keep HK4.out (fun ad ha (e : ad.block = q) => by have := (HO2.out.lt ad ha).1; omega))
          have t1 : (convert 26 9 (.slice bx mx dx)).run Try.prog (((w3.setCell ⟨q, 0, none⟩ (.slice a5 n5 c5)).setCell ⟨q, 1, none⟩ (.int .i64 (er' : Int))).alloc (.cells #[.slice a5 n5 c5, .int .i64 (er' : Int)] 42)) = .ok (.string (strOf x)) (((w3.setCell ⟨q, 0, none⟩ (.slice a5 n5 c5)).setCell ⟨q, 1, none⟩ (.int .i64 (er' : Int))).alloc (.cells #[.slice a5 n5 c5, .int .i64 (er' : Int)] 42)) := conv_any (HO4.out.row HXS.out)
          have t2 : (convert 26 9 (.slice bz mz dz)).run Try.prog (((w3.setCell ⟨q, 0, none⟩ (.slice a5 n5 c5)).setCell ⟨q, 1, none⟩ (.int .i64 (er' : Int))).alloc (.cells #[.slice a5 n5 c5, .int .i64 (er' : Int)] 42)) = .ok (.string (strOf x)) (((w3.setCell ⟨q, 0, none⟩ (.slice a5 n5 c5)).setCell ⟨q, 1, none⟩ (.int .i64 (er' : Int))).alloc (.cells #[.slice a5 n5 c5, .int .i64 (er' : Int)] 42)) := conv_any (HZ3.out.keep HK4.out (fun ad ha h0 (e : ad.block = q) => by have := HZL.out ad ha h0; omega))
          clear HB2 HB3 HR2 HS3 HQ3 HQ2 HSb HO2 HZ3 HK4
          go_wp2_with fail
          clear t1 t2 r0 r1 s0 s1
          generalize ((w3.setCell ⟨q, 0, none⟩ (.slice a5 n5 c5)).setCell ⟨q, 1, none⟩ (.int .i64 (er' : Int))).alloc (.cells #[.slice a5 n5 c5, .int .i64 (er' : Int)] 42) = w4 at HP4 HB4 HO4
          have HL0 := Lib.hid (left_start HO4.out HXS.out)
          have HOL := Lib.hid HO4.out.lt
          clear HO4
          go_loopw [76] (fun i wl => ∃ j : Nat, j ≤ mx ∧ i = .int .i64 (j : Int) ∧ Hid (Left x bx mx j wl) ∧ Hid (Kept (fun k => ∃ ad, bx = some ad ∧ k = ad.block) w4 wl)) (fun i _ => mx - (intOf i).toNat)
          case atStart => exact ⟨0, by omega, rfl, HL0, Lib.hid (Kept.refl _ _)⟩
          case round =>
            obtain ⟨j, hj, rfl, HLj, HKj⟩ := hrel
            by_cases hjl : j < mx
            · obtain ⟨g, hbx, hcj, hfj⟩ := HLj.out j (Nat.le_refl _) hjl
              have HBX := Lib.hid hbx
              subst hbx
              generalize x.getD j 0 = cj at hcj
              go_wp2_with fail
              go_roundw
              case rel => exact ⟨j + 1, by omega, by go_num, Lib.hid (left_next HLj.out _), Lib.hid (HKj.out.trans (kept_cell _ _ _ _) (fun i hi => .inl ⟨_, rfl, hi⟩))⟩
              case measure => simp [intOf]; omega
            · have HP5 := Lib.hid (HP4.out.keep HKj.out (fun i ⟨ad, h1, h2⟩ => by have := (HOL.out ad h1).1; omega))
              have HB5 := Lib.hid (HB4.out.trans (HKj.out.below HB4.out.size (fun i ⟨ad, h1, h2⟩ => by have := (HOL.out ad h1).1; omega)))
              clear HLj HKj HOL HL0
              go_wp2_with fail
              obtain ⟨k1, k2⟩ := cells_q HP5.out
              have KA := Lib.hid (cells_q (HP5.out.below (Below.refl _ _).drew))
              have KB := Lib.hid (cells_q (HP5.out.below (((Below.refl wr.heap.size wr).drew).alloc (Nat.le_refl _) (.cells #[.slice a5 n5 c5, .int .i64 (er' : Int)] 42))))
              clear hqlt
              go_region_held3 (fun w' => w'.cell? ⟨q, 0, none⟩ = some (.slice a5 n5 c5) ∧ w'.cell? ⟨q, 1, none⟩ = some (.int .i64 (er' : Int))) (first | exact ⟨k1, k2⟩ | exact KA.out | exact KB.out) (first
                | (go_at_call 20; refine (done_any p er' a3 n3 c3 bs' _ (HP5.out.rd.below (Below.refl _ _).drew)).mono ?_; rintro e w' ⟨rfl, rfl⟩)
                | (go_at_call 21; refine (refdone_any er' a5 n5 c5 bs' _ HP5.out.sub.row.size).mono ?_; rintro e w' ⟨rfl, rfl⟩))
              go_wp2_with fail
              go_roundw
              case rel => exact ⟨k + 1, er', n3, c3, n5, c5, a3, a5, bs', by omega, by go_num, Lib.hid (HP5.out.below (((Below.refl wr.heap.size wr).alloc (Nat.le_refl _) _).drew)), Lib.hid ((HB5.out.alloc HB5.out.size _).drew)⟩
              case measure => simp [intOf]; omega
    · by_cases hkl : k < len
      · have hk20 : decide ((k : Int) < 60) = false := by simp; omega
        go_wp2_with fail
        go_ret
        exact ⟨rfl, HB.out⟩
      · go_wp2_with fail
        go_ret
        exact ⟨rfl, HB.out⟩

set_option maxHeartbeats 400000 in
theorem core_big (ab : Option Addr) (nb cb : Nat) (v : Value) (w : World) (hnb : 3000 < nb) :
    Calls Try.prog 4 #[.slice ab nb cb, v] w fun e w' => e = .returned (.bool true) ∧ Below w.heap.size w w' := by
  go_enter Try.func4, Try.ntmps4
  go_wp2_with fail
  refine (alive_any w).mono ?_
  rintro e w0 ⟨rfl, hb0⟩
  have HB0 := Lib.hid hb0
  clear hb0
  go_wp2_with fail
  go_ret
  exact ⟨rfl, HB0.out⟩

theorem walk (ab : Option Addr) (nb cb : Nat) (bs0 : List Nat) (a : Option Addr) (len cap : Nat) (xs : Nat → ActV) (w : World) (hR : Row w ab nb bs0) (hle : nb ≤ cb) (hz : ab = none → nb = 0 ∧ cb = 0) (hl : len ≤ maxLen) (hA : Acts w a len xs) :
    Calls Try.prog 4 #[.slice ab nb cb, .slice a len cap] w fun e w' => e = .returned (.bool true) ∧ Below w.heap.size w w' := by
  unfold maxLen at hl
  by_cases hb : 3000 < nb
  · exact core_big ab nb cb _ w hb
  · have hS : Sub w ab nb cb bs0 w.heap.size := ⟨hR, hle, hz, by omega, hR.lt⟩
    by_cases h : len ≤ 60
    · exact core ab nb cb bs0 a len cap len xs w (by omega) (Nat.le_refl _) h (.inl rfl) (by omega) (Lib.hid hS) (Lib.hid hA)
    · exact core ab nb cb bs0 a len cap 60 xs w (by omega) (by omega) (Nat.le_refl _) (.inr rfl) (by omega) (Lib.hid hS) (Lib.hid hA)

set_option maxRecDepth 100000 in
theorem lifted (os : Os) (started : os.Started) (H : Type) (enc : TypeId × Value → H) :
    ReturnsInHanded {} Try.checked os 4 .any (Rows.packReadsSpec.pre6 enc Try.prog Try.f4 Rows.packReadsRow.domain false) (Rows.packReadsSpec.post enc Try.prog Try.f4 false true false false) := by
  refine returnsInHanded_of_change (C := Try.checked) own started (by kernel_rfl) Try.func4
    (ChangeSpec.witness6 (enc := enc) (C := Try.checked) false ⟨#[], #[.slice none 0 0, .slice none 0 0], []⟩ 8 (by kernel_rfl) (by kernel_rfl) (by kernel_rfl) (by kernel_rfl)) ?_
  intro W base args ds gs before hval0 hW hcnd _
  have hval : ∀ (j : Nat) t v, Try.f4.params[j]? = some t → args[j]? = some v → Value.okWide Try.prog W .any base t v := hval0
  have hW' := hW
  obtain ⟨p, q, hA0, hV, rfl, hfz, hnd⟩ := hW
  have hA : DataW.TrodAll enc Try.prog W 0 (fun _ => true) true Try.f4.params.toList args.toList ds p := hA0
  rw [Try.params4] at hA hval
  obtain ⟨v0, v1, d0, d1, p0, p1, rfl, rfl, rfl, h0, h1⟩ := trodAll_two hA
  obtain ⟨rfl, rfl⟩ := trodVars_none hV
  obtain ⟨ab, nb, cb, rfl⟩ := okWide_slice Try.underlying26 (hval 0 26 v0 rfl rfl)
  obtain ⟨a, len, cap, rfl⟩ := okWide_slice Try.underlying22 (hval 1 22 v1 rfl rfl)
  have lt0 : ∀ x ∈ p0, x.block < W.heap.size := by obtain ⟨m, hm⟩ := h0; exact DataW.trod_lt m _ _ _ hm
  have lt1 : ∀ x ∈ p1, x.block < W.heap.size := by obtain ⟨m, hm⟩ := h1; exact DataW.trod_lt m _ _ _ hm
  obtain ⟨_, hz, bs, hR⟩ := row_of h0
  obtain ⟨hl, xs, hX⟩ := acts_of h1
  have hle : nb ≤ cb := by
    rcases hz with ⟨_, h1, h2⟩ | ⟨x, _, h1, _⟩
    · omega
    · exact h1
  clear hA0 hval0
  refine (walk ab nb cb bs a len cap xs W hR hle (fun h => by rcases hz with ⟨_, h1, h2⟩ | ⟨x, hx, _⟩; exact ⟨h1, h2⟩; rw [hx] at h; cases h) hl hX).mono fun e W' ⟨he, bel⟩ => ?_
  subst he
  exact ⟨_, rfl, _, _, _, [], _, [], hW', trodAll_mk1 (shut_bool Try.underlying4 _), trodAll_mk2 (Below.trod laidOut (by kernel_rfl) (of_decide_eq_true (by kernel_rfl)) h0 bel lt0) (Below.trod laidOut (by kernel_rfl) (of_decide_eq_true (by kernel_rfl)) h1 bel lt1), rfl, bel.frame _, fun h => by cases h⟩
end PackReads

theorem packReads_proved : Rows.PackReadsSaid :=
  OpenClaim.holds_of_wide 4 Try.f4 rfl rfl rfl rfl rfl rfl rfl ⟨rfl, rfl, rfl, rfl, rfl⟩ rfl rfl rfl rfl rfl (by kernel_rfl) Try.func4 (by kernel_rfl)
    (of_decide_eq_true (by kernel_rfl)) (by unfold Func.isWrapper; first | (rw [if_pos (by decide +kernel)]; kernel_rfl) | (rw [if_neg (by decide +kernel)]; exact ⟨rfl, rfl⟩))
    (fun os started H enc _ => PackReads.lifted os started H enc)
#print axioms packReads_proved
end Go.Proofs.Ytoogcejfncechaa
