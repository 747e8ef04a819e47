/- PackBack is proved: for every list of fields the first twenty that are laid down come back in the same order, and then nothing is left. No condition. -/
import Derived.Test.YtoogcejfncechaaActs
namespace Go.Proofs.Ytoogcejfncechaa
namespace PackBack
open Go.ChangeShapes Go.WideShapes Go.ChangeAt Go.RowKit

theorem info31 : (Try.prog.info? 31).map (fun i => (i.zero, i.size, i.bytes)) = some (some (.agg #[.int .u8 0, .int .u64 0, .slice none 0 0]), 3, 40) := by kernel_rfl

/-- A field's cells. -/
def cells1 (x : ActV) : List Value := [.int .u8 (x.k : Int), .int .u64 (x.n : Int), .slice x.b x.m x.d]
/-- The cells of fields, one behind the other. -/
def acells (gs : List ActV) : List Value := gs.flatMap cells1

theorem acells_snoc (gs : List ActV) (x : ActV) : acells (gs ++ [x]) = acells gs ++ cells1 x := by simp [acells]

theorem acells_at : ∀ (gs : List ActV) (j : Nat) (x : ActV), gs[j]? = some x → (acells gs)[j * 3]? = some (.int .u8 (x.k : Int)) ∧ (acells gs)[j * 3 + 1]? = some (.int .u64 (x.n : Int)) ∧ (acells gs)[j * 3 + 2]? = some (.slice x.b x.m x.d)
  | [], j, x, h => by simp at h
  | g :: gs, 0, x, h => by
    simp at h
    subst h
    simp [acells, cells1]
  | g :: gs, j + 1, x, h => by
    have ih := acells_at gs j x (by simpa using h)
    have e : acells (g :: gs) = .int .u8 (g.k : Int) :: .int .u64 (g.n : Int) :: .slice g.b g.m g.d :: acells gs := by simp [acells, cells1]
    rw [e, show (j + 1) * 3 = j * 3 + 3 by omega]
    simpa using ih

/-- The bytes of fields, one behind the other. -/
def abytes (gs : List ActV) : List Nat := gs.flatMap ActV.bytes
theorem abytes_snoc (gs : List ActV) (x : ActV) : abytes (gs ++ [x]) = abytes gs ++ x.bytes := by simp [abytes]
theorem abytes_cons (gs : List ActV) (x : ActV) : abytes (x :: gs) = x.bytes ++ abytes gs := by simp [abytes]

/-- Fields of the call's own and a writer lie in unlike blocks. -/
theorem own_apart {w : World} {B p er : Nat} {a : Option Addr} {len cap : Nat} {bs : List Nat} {v : Value} {n : Nat} {cs : List Value} (h : w.ownsRow B 31 3 v n cs) (hw : Wr w p er a len cap bs) : ∀ k, v.ownBlock = some k → ¬ Wat p a k := by
  intro k hk hwat
  rcases h.2 with ⟨rfl, _⟩ | ⟨g, cap', cur, rfl, _, hg, _⟩
  · simp [Value.ownBlock] at hk
  · simp [Value.ownBlock] at hk
    subst hk
    rcases hwat with rfl | ⟨ad, ha, e⟩
    · have := hw.block
      unfold Blk at this
      rw [hg] at this
      simp at this
    · rcases hw.own.2 with ⟨h', _⟩ | ⟨g', cap'', cur', h', _, hg', _⟩
      · simp only [Value.slice.injEq] at h'
        rw [ha] at h'
        simp at h'
      · simp only [Value.slice.injEq, true_and] at h'
        rw [ha] at h'
        obtain ⟨h1, _⟩ := h'
        obtain rfl := Option.some.inj h1
        simp at e
        subst e
        rw [hg] at hg'
        simp at hg'

theorem back_num {n : Nat} (h : n < 18446744073709551616) (rest : List Nat) : numX 0 (Vint.enc n ++ rest) = n ∧ numE 0 (Vint.enc n ++ rest) = 0 ∧ numB 0 (Vint.enc n ++ rest) = rest := by
  unfold numX numE numB
  rw [if_pos rfl, if_pos rfl, if_pos rfl, Vint.G_put h rest]
  exact ⟨rfl, rfl, List.drop_left⟩

theorem back_bytes {m : Nat} (h : m < 18446744073709551616) {y : List Nat} (hy : y.length = m) (rest : List Nat) : bytX 0 (Vint.enc m ++ (y ++ rest)) = y ∧ bytE 0 (Vint.enc m ++ (y ++ rest)) = 0 ∧ bytB 0 (Vint.enc m ++ (y ++ rest)) = rest := by
  obtain ⟨h1, h2, h3⟩ := back_num h (y ++ rest)
  unfold bytX bytE bytB
  rw [h1, h2, h3]
  have hle : m ≤ (y ++ rest).length := by rw [List.length_append]; omega
  rw [if_pos ⟨rfl, hle⟩, if_pos rfl, if_pos hle, if_pos ⟨rfl, hle⟩]
  subst hy
  exact ⟨List.take_left, rfl, List.drop_left⟩

/-- Fields of the call's own, at the block g. -/
def Good (w : World) (B : Nat) (v : Value) (gs : List ActV) : Prop := w.ownsRow B 31 3 v gs.length (acells gs)

theorem good_kept {S : Nat → Prop} {w w' : World} {B : Nat} {v : Value} {gs : List ActV} (h : Good w B v gs) (k : Kept S w w') (hn : ∀ i, v.ownBlock = some i → ¬ S i) : Good w' B v gs := by
  refine ⟨h.1, ?_⟩
  rcases h.2 with h0 | ⟨g, cap', cur, rfl, hB, hg, rest⟩
  · exact .inl h0
  · refine .inr ⟨g, cap', cur, rfl, hB, ?_, rest⟩
    rw [k.block g (Array.getElem?_eq_some_iff.1 hg).1 (hn g rfl)]
    exact hg

theorem good_nil (w : World) (B : Nat) : Good w B (.slice none 0 0) [] := World.ownsRow_nil _ _ _ _

/-- The fields of the call's own, read one by one. -/
theorem good_at {w : World} {B : Nat} {v : Value} {gs : List ActV} (h : Good w B v gs) {j : Nat} {x : ActV} (hj : gs[j]? = some x) : ∃ g cap, v = .slice (some ⟨g, 0, none⟩) gs.length cap ∧ w.cell? ⟨g, j * 3, none⟩ = some (.int .u8 (x.k : Int)) ∧ w.cell? ⟨g, j * 3 + 1, none⟩ = some (.int .u64 (x.n : Int)) ∧ w.cell? ⟨g, j * 3 + 2, none⟩ = some (.slice x.b x.m x.d) := by
  have hlt : j < gs.length := (List.getElem?_eq_some_iff.1 hj).1
  obtain ⟨g, cap, hv, _, _⟩ := World.ownsRow.form h (by omega)
  obtain ⟨h0, h1, h2⟩ := acells_at gs j x hj
  have hc := World.ownsRow.cells h (g := g) (by rw [hv]; rfl)
  refine ⟨g, cap, hv, ?_, ?_, ?_⟩
  · have := hc _ _ h0; rw [add_lit] at this; simpa using this
  · have := hc _ _ h1; rw [add_lit] at this; simpa using this
  · have := hc _ _ h2; rw [add_lit] at this; simpa using this

theorem acts_cells {w : World} {b off len : Nat} {xs : Nat → ActV} (h : Acts w (some ⟨b, off, none⟩) len xs) {k : Nat} (hk : k < len) : ∀ w' : World, Below w.heap.size w w' → w'.cell? ⟨b, off + k * 3, none⟩ = some (.int .u8 ((xs k).k : Int)) ∧ w'.cell? ⟨b, off + k * 3 + 1, none⟩ = some (.int .u64 ((xs k).n : Int)) ∧ w'.cell? ⟨b, off + k * 3 + 2, none⟩ = some (.slice (xs k).b (xs k).m (xs k).d) := by
  intro w' hb
  obtain ⟨b', off', ha, hc⟩ := (h.below hb).cells.resolve_left (by omega)
  simp only [Option.some.injEq, Addr.mk.injEq, and_true] at ha
  obtain ⟨rfl, rfl⟩ := ha
  exact hc k hk

theorem kept_from {B : Nat} {w w' : World} (h : Below B w w') : Kept (fun k => B ≤ k) w w' := ⟨h.os, h.tape, h.output, h.size, fun k _ hn => h.block k (by omega)⟩

theorem rd_num (x : ActV) (rest : List Nat) (p : Nat) (a : Option Addr) (n c : Nat) (w : World) (hx : x.n < 18446744073709551616) (hk : x.k % 3 = 0) (h : Rd w p 0 a n c (x.bytes ++ rest)) : Calls Try.prog 14 #[.pointer (some ⟨p, 0, none⟩)] w (Numd p x.n 0 rest w) := by
  have hr := rnum_any p 0 a n c _ w h
  unfold ActV.bytes at hr
  rw [if_pos hk] at hr
  obtain ⟨h1, h2, h3⟩ := back_num hx rest
  rw [h1, h2, h3] at hr
  exact hr

theorem rd_int (x : ActV) (rest : List Nat) (p : Nat) (a : Option Addr) (n c : Nat) (w : World) (hk : x.k % 3 = 1) (h : Rd w p 0 a n c (x.bytes ++ rest)) : Calls Try.prog 16 #[.pointer (some ⟨p, 0, none⟩)] w (Intd p (IntKind.i64.wrap (x.n : Int)) 0 rest w) := by
  have hr := rint_any p 0 a n c _ w h
  unfold ActV.bytes at hr
  rw [if_neg (by omega), if_pos hk] at hr
  have hlo := fold_lo (IntKind.i64.wrap (x.n : Int))
  have hhi := fold_hi _ (wrap_lo x.n) (wrap_hi x.n)
  obtain ⟨h1, h2, h3⟩ := back_num (n := (fold (IntKind.i64.wrap (x.n : Int))).toNat) (by omega) rest
  rw [h1, h2, h3, show ((fold (IntKind.i64.wrap (x.n : Int))).toNat : Int) = fold (IntKind.i64.wrap (x.n : Int)) by omega, unfold_fold] at hr
  exact hr

theorem rd_bytes (x : ActV) (rest : List Nat) (p : Nat) (a : Option Addr) (n c : Nat) (w : World) (hy : x.y.length = x.m) (hm : x.m ≤ 3000) (hk : x.k % 3 = 2) (h : Rd w p 0 a n c (x.bytes ++ rest)) : Calls Try.prog 18 #[.pointer (some ⟨p, 0, none⟩)] w (Bytd p x.y 0 rest w) := by
  have hr := rbytes_any p 0 a n c _ w h
  unfold ActV.bytes at hr
  rw [if_neg (by omega), if_neg (by omega), List.append_assoc] at hr
  obtain ⟨h1, h2, h3⟩ := back_bytes (m := x.m) (by omega) hy rest
  rw [h1, h2, h3] at hr
  exact hr

theorem rd_end (p : Nat) (a : Option Addr) (n c : Nat) (w : World) (h : Rd w p 0 a n c []) : Calls Try.prog 18 #[.pointer (some ⟨p, 0, none⟩)] w (Bytd p [] 4 [] w) := rbytes_any p 0 a n c [] w h

theorem abytes_drop {gs : List ActV} {j : Nat} (h : j < gs.length) : abytes (gs.drop j) = gs[j].bytes ++ abytes (gs.drop (j + 1)) := by
  rw [List.drop_eq_getElem_cons h, abytes_cons]

set_option maxHeartbeats 2000000 in
set_option maxRecDepth 100000 in
theorem core (a : Option Addr) (len cap K : Nat) (xs : Nat → ActV) (w : World) (hK1 : K ≤ len) (hK2 : K ≤ 20) (hK3 : K = len ∨ K = 20) (_hl : len ≤ 2 ^ 63 - 1) (HA : Hid (Acts w a len xs)) :
    Calls Try.prog 5 #[.slice a len cap] w fun e w' => e = .returned (.bool true) ∧ Below w.heap.size w w' := by
  obtain ⟨i0, hii, hz0, hz1, hz2⟩ := info_parts info31
  have Hi := Lib.hid hii
  have Hz0 := Lib.hid hz0
  have Hz1 := Lib.hid hz1
  have Hz2 := Lib.hid hz2
  clear hii hz0 hz1 hz2
  go_enter Try.func5, Try.ntmps5
  go_wp2_with fail
  refine (alive_any w).mono ?_
  rintro e w0 ⟨rfl, hb0⟩
  have HB0 := Lib.hid hb0
  clear hb0
  go_wp2_with fail
  refine (new_any w0).mono ?_
  rintro e w1 ⟨rfl, hw1, hb1⟩
  have HW1 := Lib.hid hw1
  have hp : w.heap.size ≤ w0.heap.size := HB0.out.size
  have HB1 := Lib.hid (HB0.out.trans (hb1.mono HB0.out.size))
  clear hw1 hb1 HB0
  generalize w0.heap.size = p at HW1 hp
  go_wp2_with fail
  go_loopw [4, 5] (fun v i wr => ∃ (k n1 c1 : Nat) (a1 : Option Addr) (gs : List ActV), k ≤ K ∧ i = .int .i64 (k : Int) ∧ gs.length ≤ k ∧ Hid ((abytes gs).length ≤ 3010 * k) ∧ Hid (∀ x ∈ gs, x.Ok w ∧ x.m ≤ 3000) ∧ Hid (Good wr w.heap.size v gs) ∧ Hid (Wr wr p 0 a1 n1 c1 (abytes gs)) ∧ Hid (Below w.heap.size w wr)) (fun _ i _ => K - (intOf i).toNat)
  case atStart => exact ⟨0, 0, 0, none, [], by omega, rfl, by simp, Lib.hid (by simp [abytes]), Lib.hid (by simp), Lib.hid (good_nil _ _), HW1, HB1⟩
  case round =>
    obtain ⟨k, n1, c1, a1, gs, hk, rfl, hgl, HLen, HGO, HG, HW, HB⟩ := hrel
    by_cases hlt : k < K
    · obtain ⟨b, off, ha, hcs⟩ := (HA.out.below HB.out).cells.resolve_left (by omega)
      obtain ⟨h1, h2, h3⟩ := hcs k (by omega)
      have HX := Lib.hid ((HA.out.below HB.out).ok k (by omega))
      have HX0 := Lib.hid (HA.out.ok k (by omega))
      clear hcs
      subst ha
      have HC := Lib.hid (acts_cells HA.out (k := k) (by omega))
      generalize xs k = x at h1 h2 h3 HX HX0 HC
      by_cases hbig : 3000 < x.m
      · go_wp2_with fail
        go_roundw
        case rel => exact ⟨k + 1, n1, c1, a1, gs, by omega, by go_num, by omega, Lib.hid (by have := HLen.out; omega), HGO, HG, HW, HB⟩
        case measure => simp [intOf]; omega
      · have hx3 : (x.m : Int) ≤ 3000 := by omega
        have HN : Hid (∀ ad, x.b = some ad → x.m ≠ 0 → ¬ Wat p a1 ad.block) := Lib.hid (fun ad ha h0 hk => by
          have g1 := HX0.out.row.lt ad ha h0
          have g2 := (HW.out.at_lt _ hk).1
          omega)
        have HD := Lib.hid (do_any p 0 a1 n1 c1 (abytes gs) x wr HW.out HX.out (by omega) HN.out)
        have HL2 := Lib.hid (bytes_len HX.out (by omega))
        have e1 : layE 0 (abytes gs).length x.bytes.length = 0 := by
          have := HLen.out
          have := HL2.out
          unfold layE; rw [if_pos rfl, if_neg (by omega)]
        have e2 : layB 0 (abytes gs) x.bytes = abytes (gs ++ [x]) := by
          have := HLen.out
          have := HL2.out
          unfold layB; rw [if_pos ⟨rfl, by omega⟩, abytes_snoc]
        unfold Did at HD
        rw [e1, e2] at HD
        clear e1 e2
        go_wp2_with fail
        refine HD.out.mono ?_
        rintro e w2 ⟨a2, n2, c2, g, c3, rfl, hw2, hk2, hl2, ho2, _⟩
        have HBe := Lib.hid (hk2.below HB.out.size (fun i hi => Nat.le_trans hp (HW.out.at_lt i hi).1))
        have HB2 := Lib.hid (HB.out.trans HBe.out)
        have HW2 := Lib.hid hw2
        have HG2 := Lib.hid (good_kept HG.out hk2 (own_apart HG.out HW.out))
        have hsz2 : w.heap.size ≤ w2.heap.size := HB2.out.size
        obtain ⟨l1, l2, l3⟩ := HC.out w2 HB2.out
        clear hw2 hk2 hl2 ho2 HD h1 h2 h3
        go_wp2_with (at_builtin; refine wpList_append_lies _ rfl _ _ 22 rfl w.heap.size 31 i0 (.agg #[.int .u8 0, .int .u64 0, .slice none 0 0]) 3 40 Try.underlying22 Hi.out Hz0.out Hz1.out Hz2.out rfl (by omega) u4 gs.length (acells gs) rfl (HG2.out.alloc _) ⟨w2.heap.size, 0, none⟩ 1 1 (cells1 x) rfl rfl (World.news_of_block (cs := (cells1 x).toArray) (t := 31) (fr := (0, 0)) (heap_alloc_new w2 _)) (by simp [cells1, Value.oneCell']) (by omega) (by unfold maxLen; omega) (by omega) (by simp; omega) (w2.heap.size + 1) (by simp) ?_; intro g4 cp4 w4 hown4 hgrow4 hat4 hlt4; have HO4 := Lib.hid hown4; have HG4 := Lib.hid hgrow4; clear hown4 hgrow4 hat4 hlt4)
        go_roundw
        case rel =>
          have hal := (Below.refl w2.heap.size w2).alloc (Nat.le_refl _) (.cells #[.int .u8 (x.k : Int), .int .u64 (x.n : Int), .slice x.b x.m x.d] 31)
          refine ⟨k + 1, n2, c2, a2, gs ++ [x], by omega, by go_num, by simp; omega, Lib.hid ?_, Lib.hid ?_, Lib.hid ?_, Lib.hid ?_, Lib.hid ?_⟩
          · have g1 := HLen.out
            have g2 := HL2.out
            rw [abytes_snoc, List.length_append]
            omega
          · intro z hz
            rcases List.mem_append.1 hz with hz | hz
            · exact HGO.out z hz
            · obtain rfl := List.mem_singleton.1 hz
              exact ⟨HX0.out, by omega⟩
          · unfold Good
            rw [acells_snoc, List.length_append]
            exact HO4.out
          · exact (HW2.out.below hal).keep (Kept.of_grown HG4.out) (fun i hi hS => own_apart HG2.out HW2.out i hS hi)
          · exact (HB2.out.trans (hal.mono hsz2)).grown HG4.out (by simp; omega) (fun j hj => (World.ownsRow.lt HG2.out j hj).1)
        case measure => simp [intOf]; omega
    · have hform : ∃ ag cg, u4 = .slice ag gs.length cg := by
        rcases HG.out.2 with ⟨h', h0⟩ | ⟨g', cap', cur, h', _⟩
        · exact ⟨none, 0, by rw [h0]; exact h'⟩
        · exact ⟨_, cap', h'⟩
      obtain ⟨ag, cg, rfl⟩ := hform
      have HAL := Lib.hid (al_all p (abytes gs) wr ⟨a1, n1, c1, HW.out⟩)
      have hlb : (abytes gs).length ≤ 60200 := by have := HLen.out; omega
      by_cases hkl : k < len
      case' pos => have hk20 : decide ((k : Int) < 20) = false := by simp; omega
      all_goals
        go_wp2_with fail
        refine HAL.out.mono ?_
        rintro e w2 ⟨a3, c4, rfl, ho3, hb3⟩
        have HRD := Lib.hid (read_any a3 (abytes gs).length c4 (abytes gs) w2 (by omega) (ho3.row HW.out.small) ho3.cap.2.2)
        have HB2 := Lib.hid (HB.out.trans (hb3.mono HB.out.size))
        have HG2 := Lib.hid (good_kept (S := fun _ => False) HG.out (.of_below hb3) (fun _ _ h => h))
        clear ho3 hb3 HAL
        go_wp2_with fail
        refine HRD.out.mono ?_
        rintro e w3 ⟨p2, a4, c5, rfl, hp2, hr3, hb3, _⟩
        have HR3 := Lib.hid hr3
        have HB3 := Lib.hid (HB2.out.trans (hb3.mono HB2.out.size))
        have HG3 := Lib.hid (good_kept (S := fun _ => False) HG2.out (.of_below hb3) (fun _ _ h => h))
        have HGL := Lib.hid (fun i hi => Nat.lt_of_lt_of_le (World.ownsRow.lt HG2.out i hi).2 hp2)
        have hwp : w.heap.size ≤ p2 := Nat.le_trans HB2.out.size hp2
        clear hr3 hb3 HRD HB2 HG2 hp2
        go_wp2_with fail
        go_loopw [77] (fun i wr => ∃ (j n5 c6 : Nat) (a5 : Option Addr), j ≤ gs.length ∧ i = .int .i64 (j : Int) ∧ Hid (Rd wr p2 0 a5 n5 c6 (abytes (gs.drop j))) ∧ Hid (Below p2 w3 wr)) (fun i _ => gs.length - (intOf i).toNat)
        case atStart => exact ⟨0, (abytes gs).length, c5, a4, by omega, rfl, Lib.hid (by simpa using HR3.out), Lib.hid (Below.refl _ _)⟩
        case round =>
          obtain ⟨j, n5, c6, a5, hj, rfl, HRj, HBj⟩ := hrel
          by_cases hjl : j < gs.length
          · have hgj : gs[j]? = some gs[j] := List.getElem?_eq_getElem hjl
            have HRx := Lib.hid HRj.out
            rw [abytes_drop hjl] at HRx
            have HXO := Lib.hid (HGO.out gs[j] (List.getElem_mem hjl))
            obtain ⟨g, cg', hv, l1, l2, l3⟩ := good_at (good_kept HG3.out (kept_from HBj.out) (fun i hi hs => by have := HGL.out i hi; omega)) hgj
            simp only [Value.slice.injEq, true_and] at hv
            obtain ⟨rfl, hcg⟩ := hv
            clear hcg
            have hsz : p2 < wr.heap.size := HRx.out.block.lt
            clear hgj HRj
            generalize gs[j] = x at HRx HXO l1 l2 l3
            generalize hre : abytes (gs.drop (j + 1)) = rest at HRx
            have HRE := Lib.hid hre
            clear hre
            have hxk := HXO.out.1.kind
            have HBw := Lib.hid (HB3.out.trans (HBj.out.mono hwp))
            have HXR := Lib.hid (HXO.out.1.row.below HBw.out)
            have HAl := Lib.hid ((Below.refl wr.heap.size wr).alloc (Nat.le_refl _) (.cells #[.int .u8 (x.k : Int), .int .u64 (x.n : Int), .slice x.b x.m x.d] 31))
            have HNe := Lib.hid (Blk.new wr 31 #[.int .u8 (x.k : Int), .int .u64 (x.n : Int), .slice x.b x.m x.d])
            have HRa := Lib.hid (HRx.out.below ((Below.refl wr.heap.size wr).alloc (Nat.le_refl _) (.cells #[.int .u8 (x.k : Int), .int .u64 (x.n : Int), .slice x.b x.m x.d] 31)))
            by_cases hk0 : x.k % 3 = 0
            · have m0 : ((x.k : Int) % 3 == 0) = true := by simp; omega
              have HCn := Lib.hid (rd_num x rest p2 a5 n5 c6 _ HXO.out.1.num hk0 HRa.out)
              clear hk0
              go_wp2_with fail
              refine HCn.out.mono ?_
              rintro e w5 ⟨a6, n6, c7, rfl, hr5, hk5⟩
              have HR5 := Lib.hid hr5
              have HB5 := Lib.hid (HBj.out.trans ((HAl.out.mono (Nat.le_of_lt hsz)).trans (hk5.below (by simp; omega) (fun i (e : i = p2) => by omega))))
              have d1 := (HNe.out.kept hk5 (fun (e : wr.heap.size = p2) => by omega)).cell 1
              simp at d1
              clear hr5 hk5 HCn l1 l2 l3
              go_wp2_with fail
              go_roundw
              case rel => exact ⟨j + 1, n6, c7, a6, by omega, by go_num, Lib.hid (by rw [HRE.out]; exact HR5.out), HB5⟩
              case measure => simp [intOf]; omega
            · have m0 : ((x.k : Int) % 3 == 0) = false := by simp; omega
              by_cases hk1 : x.k % 3 = 1
              · have m1 : ((x.k : Int) % 3 == 1) = true := by simp; omega
                have HCn := Lib.hid (rd_int x rest p2 a5 n5 c6 _ hk1 HRa.out)
                obtain ⟨z, hz⟩ : ∃ z, IntKind.i64.wrap (x.n : Int) = z := ⟨_, rfl⟩
                rw [hz] at HCn
                clear hk0 hk1
                go_wp2_with fail
                refine HCn.out.mono ?_
                rintro e w5 ⟨a6, n6, c7, rfl, hr5, hk5⟩
                have HR5 := Lib.hid hr5
                have HB5 := Lib.hid (HBj.out.trans ((HAl.out.mono (Nat.le_of_lt hsz)).trans (hk5.below (by simp; omega) (fun i (e : i = p2) => by omega))))
                have d1 := (HNe.out.kept hk5 (fun (e : wr.heap.size = p2) => by omega)).cell 1
                simp at d1
                clear hr5 hk5 HCn l1 l2 l3
                go_wp2_with fail
                go_roundw
                case rel => exact ⟨j + 1, n6, c7, a6, by omega, by go_num, Lib.hid (by rw [HRE.out]; exact HR5.out), HB5⟩
                case measure => simp [intOf]; omega
              · have m1 : ((x.k : Int) % 3 == 1) = false := by simp; omega
                have HCn := Lib.hid (rd_bytes x rest p2 a5 n5 c6 _ HXO.out.1.row.size HXO.out.2 (by omega) HRa.out)
                clear hk0 hk1
                go_wp2_with fail
                refine HCn.out.mono ?_
                rintro e w5 ⟨bx, mx, dx, a6, n6, c7, rfl, ho5, hr5, hk5⟩
                have HR5 := Lib.hid hr5
                have HB5 := Lib.hid (HBj.out.trans ((HAl.out.mono (Nat.le_of_lt hsz)).trans (hk5.below (by simp; omega) (fun i (e : i = p2) => by omega))))
                have d1 := (HNe.out.kept hk5 (fun (e : wr.heap.size = p2) => by omega)).cell 2
                simp at d1
                have t1 : (convert 26 9 (.slice bx mx dx)).run Try.prog w5 = .ok (.string (strOf x.y)) w5 := conv_any (ho5.row HXR.out.small)
                have t2 : (convert 26 9 (.slice x.b x.m x.d)).run Try.prog w5 = .ok (.string (strOf x.y)) w5 := conv_any ((HXR.out.below HAl.out).keep hk5 (fun ad ha h0 (e : ad.block = p2) => by have := HXO.out.1.row.lt ad ha h0; omega))
                clear hr5 hk5 HCn l1 l2 l3 ho5
                go_wp2_with fail
                go_roundw
                case rel => exact ⟨j + 1, n6, c7, a6, by omega, by go_num, Lib.hid (by rw [HRE.out]; exact HR5.out), HB5⟩
                case measure => simp [intOf]; omega
          · have HRe := Lib.hid HRj.out
            rw [List.drop_eq_nil_of_le (by omega)] at HRe
            have HCe := Lib.hid (rd_end p2 a5 n5 c6 wr HRe.out)
            have hsz : p2 < wr.heap.size := HRe.out.block.lt
            go_wp2_with fail
            refine HCe.out.mono ?_
            rintro e w5 ⟨bx, mx, dx, a6, n6, c7, rfl, ho5, hr5, hk5⟩
            have HD5 := Lib.hid (done_any p2 4 a6 n6 c7 [] w5 hr5)
            have HB5 := Lib.hid (HB3.out.trans ((HBj.out.trans (hk5.below (by omega) (fun i (e : i = p2) => by omega))).mono hwp))
            clear ho5 hr5 hk5 HCe
            go_wp2_with fail
            refine HD5.out.mono ?_
            rintro e w' ⟨rfl, rfl⟩
            go_wp2_with fail
            go_ret
            exact ⟨ret_bool rfl, HB5.out⟩

theorem walk (a : Option Addr) (len cap : Nat) (xs : Nat → ActV) (w : World) (hl : len ≤ maxLen) (hA : Acts w a len xs) :
    Calls Try.prog 5 #[.slice a len cap] w fun e w' => e = .returned (.bool true) ∧ Below w.heap.size w w' := by
  unfold maxLen at hl
  by_cases h : len ≤ 20
  · exact core a len cap len xs w (Nat.le_refl _) h (.inl rfl) (by omega) (Lib.hid hA)
  · exact core a len cap 20 xs w (by omega) (Nat.le_refl _) (.inr rfl) (by omega) (Lib.hid hA)

set_option maxRecDepth 100000 in
theorem lifted (os : Os) (started : os.Started) (H : Type) (enc : TypeId × Value → H) :
    ReturnsInHanded {} Try.checked os 5 .any (Rows.packBackSpec.pre6 enc Try.prog Try.f5 Rows.packBackRow.domain false) (Rows.packBackSpec.post enc Try.prog Try.f5 false true false false) := by
  refine returnsInHanded_of_change (C := Try.checked) own started (by kernel_rfl) Try.func5
    (ChangeSpec.witness6 (enc := enc) (C := Try.checked) false ⟨#[], #[.slice none 0 0], []⟩ 8 (by kernel_rfl) (by kernel_rfl) (by kernel_rfl) (by kernel_rfl)) ?_
  intro W base args ds gs before hval0 hW hcnd _
  have hval : ∀ (j : Nat) t v, Try.f5.params[j]? = some t → args[j]? = some v → Value.okWide Try.prog W .any base t v := hval0
  have hW' := hW
  obtain ⟨p, q, hA0, hV, rfl, hfz, hnd⟩ := hW
  have hA : DataW.TrodAll enc Try.prog W 0 (fun _ => true) true Try.f5.params.toList args.toList ds p := hA0
  rw [Try.params5] at hA hval
  obtain ⟨v0, d0, rfl, rfl, h0⟩ := trodAll_one hA
  obtain ⟨rfl, rfl⟩ := trodVars_none hV
  obtain ⟨a, len, cap, rfl⟩ := okWide_slice Try.underlying22 (hval 0 22 v0 rfl rfl)
  have lt0 : ∀ x ∈ p, x.block < W.heap.size := by obtain ⟨m, hm⟩ := h0; exact DataW.trod_lt m _ _ _ hm
  obtain ⟨hl, xs, hX⟩ := acts_of h0
  clear hA0 hval0
  refine (walk a len cap xs W hl hX).mono fun e W' ⟨he, bel⟩ => ?_
  subst he
  exact ⟨_, rfl, _, _, _, [], _, [], hW', trodAll_mk1 (shut_bool Try.underlying4 _), trodAll_mk1 (Below.trod laidOut (by kernel_rfl) (of_decide_eq_true (by kernel_rfl)) h0 bel lt0), rfl, bel.frame _, fun h => by cases h⟩
end PackBack

theorem packBack_proved : Rows.PackBackSaid :=
  OpenClaim.holds_of_wide 5 Try.f5 rfl rfl rfl rfl rfl rfl rfl ⟨rfl, rfl, rfl, rfl, rfl⟩ rfl rfl rfl rfl rfl (by kernel_rfl) Try.func5 (by kernel_rfl)
    (of_decide_eq_true (by kernel_rfl)) (by unfold Func.isWrapper; first | (rw [if_pos (by decide +kernel)]; kernel_rfl) | (rw [if_neg (by decide +kernel)]; exact ⟨rfl, rfl⟩))
    (fun os started H enc _ => PackBack.lifted os started H enc)
#print axioms packBack_proved
end Go.Proofs.Ytoogcejfncechaa
