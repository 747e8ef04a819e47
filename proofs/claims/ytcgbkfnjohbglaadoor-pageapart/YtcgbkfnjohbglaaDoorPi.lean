/- Walk of read of the program. -/
import Derived.Test.YtcgbkfnjohbglaaDoorPh
namespace Go.Proofs.YtcgbkfnjohbglaaDoor
open Go.RowKit

theorem kinds_apart {w : World} {B B' : Nat} {t t' s s' : Nat} {a a' : Option Addr} {n n' c c' : Nat} {xs xs' : List Value} (h : w.ownsRow B t s (.slice a n c) n xs) (h' : w.ownsRow B' t' s' (.slice a' n' c') n' xs') (ht : t ≠ t') : ∀ i, At a i → ¬ At a' i := by
  rintro i ⟨ad, rfl, rfl⟩ ⟨ad', rfl, e⟩
  rcases h.2 with ⟨h0, _⟩ | ⟨g, cap', cur, hv, _, hg, _⟩
  · simp at h0
  · rcases h'.2 with ⟨h0, _⟩ | ⟨g', cap'', cur', hv', _, hg', _⟩
    · simp at h0
    · simp only [Value.slice.injEq, Option.some.injEq] at hv hv'
      obtain ⟨rfl, _⟩ := hv
      obtain ⟨rfl, _⟩ := hv'
      simp only at e
      subst e
      rw [hg] at hg'
      simp only [Option.some.injEq, Obj.cells.injEq] at hg'
      exact ht hg'.2.1
theorem held_appendG {ops : Array Oper} {Q : Exit → Act → World → Prop} {S : World → Prop} {fuel : Nat} {listed : Array Bool} {act : Act} {W : World} (i : Nat) (d : Tmp) {o : Oper} (t e size bytes : Nat) {z : Value} (hinfo : (Tryd.prog.info? e).map (fun i => (i.zero, i.size, i.bytes)) = some (some z, size, bytes)) (ht : Tryd.prog.underlying t = some (.slice e)) (hzs : z.cells.size = size) (hsz : 0 < size) (hby : bytes ≤ 1000)
    {x y : Operand} {B n cap g : Nat} {a : Option Addr} {vs : List (List Value)} {cs : Array Value} (hd : o.dst = some d) (hi0 : ops[i]? = some o) (hr : Region.ready .any ops listed = [i]) (hw : Region.wanted o (yielded ops act.tmps) = true) (ho : o.op = .call { callee := .builtin .append, args := #[x, y], argTypes := #[t, t] })
    (hx : act.eval x = .slice a n cap) (hy : act.eval y = .slice (some ⟨g, 0, none⟩) 1 1) (hown : OwnG W e size B a n cap vs) (hg : Blk W g e cs) (hc : cs.size = size) (h1 : ∀ u ∈ cs.toList, u.oneCell' = true) (hn : n < 1000000000) (hB : B ≤ W.heap.size)
    (k : ∀ a' cap' w', OwnG w' e size B a' (n + 1) cap' (vs ++ [cs.toList]) → Kept (At a) W w' → Lies W a a' → S w' ∧ wpAnyH Tryd.prog .any ops Q S fuel (listed.setIfInBounds i true) (act.put (some d) (.slice a' (n + 1) cap')) w') : wpAnyH Tryd.prog .any ops Q S (fuel + 1) listed act W := by
  obtain ⟨i0, hi, hz0, hz1, hz2⟩ := info_parts hinfo
  have hnb : (n + 1) * bytes ≤ 140737488355328 := by
    have : (n + 1) * bytes ≤ 1000000000 * 1000 := Nat.mul_le_mul (by omega) hby
    omega
  refine wpAnyH_ready (rs := [i]) hr (by simp) (AllReadyH.cons hi0 (fun K hK => ?_) AllReadyH.nil)
  rw [if_pos hw]
  refine wp_append_lies W x y t ho B e i0 _ size bytes ht hi hz0 hz1 hz2 hzs hsz (.slice a n cap) n vs.flatten hx hown.row ⟨g, 0, none⟩ 1 1 cs.toList hy (by simp [hc])
    (World.news_of_block (cs := cs) (t := e) (fr := (0, 0)) hg) h1 (by omega) (by unfold maxLen; omega) hnb hB _ rfl ?_
  intro g' cap' w' h1' h2 h3 h4
  have hh := k _ cap' w' ⟨by simpa using h1', ?_, by simp [hown.len]⟩ ⟨h2.os, h2.tape, h2.output, h2.size, fun k hk hn => h2.block k hk (fun e => hn ?_)⟩ ?_
  · exact hK.out _ _ hh.1 (fun _ => by rw [hd]; exact hh.2)
  · intro v hv
    rcases List.mem_append.1 hv with hv | hv
    · exact hown.each v hv
    · obtain rfl : v = cs.toList := by simpa using hv
      simp [hc]
  · cases a with
    | none => simp [Value.ownBlock] at e
    | some ad => exact ⟨ad, rfl, by simpa [Value.ownBlock] using e⟩
  · rintro ad rfl2
    obtain rfl := Option.some.inj rfl2
    rcases h3 with h3 | h3
    · cases a with
      | none => simp [Value.ownBlock] at h3
      | some ad => exact .inl ⟨ad, rfl, by simpa [Value.ownBlock] using h3.symm⟩
    · exact .inr (by simp [h3])

/-! While the lines are laid. -/

/-! What is read of fields, item by item. -/
def rdItem (lf : Bool) (P : Pg) (s : Nat × List Nat) : Pg × (Nat × List Nat) :=
  if lf then (⟨lf, P.ks ++ [rdKy s], P.ls ++ [rdLo (nx (nx (nx s)))], P.ds⟩, nx (nx (nx (nx (nx s)))))
  else (⟨lf, P.ks ++ [rdKy s], P.ls, P.ds ++ [rdKd (nx (nx (nx s)))]⟩, nx (nx (nx (nx s))))
def rdUpto (lf : Bool) (s : Nat × List Nat) : Nat → Pg × (Nat × List Nat)
  | 0 => (⟨lf, [], [], []⟩, s)
  | k + 1 => rdItem lf (rdUpto lf s k).1 (rdUpto lf s k).2
/-- The page that is read of fields. -/
def rdPg (bs : List Nat) : Pg := (rdUpto (nv (0, bs) == 1) (nx (nx (0, bs))) (min (nv (nx (0, bs))) 8)).1
theorem rdUpto_len (lf : Bool) (s : Nat × List Nat) : ∀ k, (rdUpto lf s k).1.leaf = lf ∧ (rdUpto lf s k).1.ks.length = k ∧ (rdUpto lf s k).1.ls.length ≤ k ∧ (rdUpto lf s k).1.ds.length ≤ k
  | 0 => ⟨rfl, rfl, Nat.le_refl _, Nat.le_refl _⟩
  | k + 1 => by
    obtain ⟨h1, h2, h3, h4⟩ := rdUpto_len lf s k
    unfold rdUpto rdItem
    cases lf <;> simp [h2] <;> omega
theorem rdPg_len (bs : List Nat) : (rdPg bs).ks.length ≤ 8 := by
  unfold rdPg
  rw [(rdUpto_len _ _ _).2.1]
  omega

/-- While a page is read: its block, its slices, the reader. -/
structure Rp (w W : World) (r p g : Nat) (s : Nat × List Nat) (lf : Bool) (ks : List Ky) (ls : List Lo) (ds : List Kd) (a1 : Option Addr) (n1 c1 : Nat) (a2 : Option Addr) (n2 c2 : Nat) (a3 : Option Addr) (n3 c3 : Nat) : Prop where
  res : Blk W r 40 (pgA false none 0 0 none 0 0 none 0 0)
  rd : RdS W p s.1 s.2
  pg : Blk W g 40 (pgA lf a1 n1 c1 a2 n2 c2 a3 n3 c3)
  ok : OwnG W 42 3 (g + 1) a1 n1 c1 (cellsK ks)
  ol : OwnG W 66 2 (g + 1) a2 n2 c2 (cellsL ls)
  od : OwnG W 28 1 (g + 1) a3 n3 c3 (cellsD ds)
  lt : w.heap.size ≤ r ∧ r < p ∧ p < g
  old : Below w.heap.size w W
section
variable {w W W' : World} {r p g : Nat} {s s' : Nat × List Nat} {lf : Bool} {ks : List Ky} {ls : List Lo} {ds : List Kd} {a1 : Option Addr} {n1 c1 : Nat} {a2 : Option Addr} {n2 c2 : Nat} {a3 : Option Addr} {n3 c3 : Nat}
theorem Rp.below (h : Rp w W r p g s lf ks ls ds a1 n1 c1 a2 n2 c2 a3 n3 c3) (hb : Below W.heap.size W W') : Rp w W' r p g s lf ks ls ds a1 n1 c1 a2 n2 c2 a3 n3 c3 :=
  ⟨h.res.below hb, h.rd.keep hb, h.pg.below hb, h.ok.below hb, h.ol.below hb, h.od.below hb, h.lt, h.old.trans (hb.mono h.old.size)⟩
theorem Rp.read (h : Rp w W r p g s lf ks ls ds a1 n1 c1 a2 n2 c2 a3 n3 c3) (hr : RdS W' p s'.1 s'.2) (hk : Kept (fun k => k = p) W W') : Rp w W' r p g s' lf ks ls ds a1 n1 c1 a2 n2 c2 a3 n3 c3 := by
  have hl := h.lt
  exact ⟨h.res.kept hk (by omega), hr, h.pg.kept hk (by omega), h.ok.keep hk (fun ad ha => by have := (h.ok.lt ad ha).1; omega), h.ol.keep hk (fun ad ha => by have := (h.ol.lt ad ha).1; omega), h.od.keep hk (fun ad ha => by have := (h.od.lt ad ha).1; omega), h.lt, h.old.trans (hk.below h.old.size (fun k e => by omega))⟩
theorem Rp.e0 (h : Rp w W r p g s lf ks ls ds a1 n1 c1 a2 n2 c2 a3 n3 c3) : W.cell? ⟨g, 0, none⟩ = some (.bool lf) := h.pg.cell 0
theorem Rp.e1 (h : Rp w W r p g s lf ks ls ds a1 n1 c1 a2 n2 c2 a3 n3 c3) : W.cell? ⟨g, 1, none⟩ = some (.slice a1 n1 c1) := h.pg.cell 1
theorem Rp.e2 (h : Rp w W r p g s lf ks ls ds a1 n1 c1 a2 n2 c2 a3 n3 c3) : W.cell? ⟨g, 2, none⟩ = some (.slice a2 n2 c2) := h.pg.cell 2
theorem Rp.e3 (h : Rp w W r p g s lf ks ls ds a1 n1 c1 a2 n2 c2 a3 n3 c3) : W.cell? ⟨g, 3, none⟩ = some (.slice a3 n3 c3) := h.pg.cell 3
/-- Blocks behind the page's turn, and a cell of the page. -/
theorem RdS.apart {W1 : World} {S : Nat → Prop} {p er : Nat} {bs : List Nat} (h : RdS W p er bs) (k : Kept S W W1) (hS : ∀ i, S i → p < i) : RdS W1 p er bs := by
  obtain ⟨a, len, cap, h⟩ := h
  exact ⟨a, len, cap, h.keep k (fun hh => by have := hS _ hh; omega) (fun ad ha h0 hh => by have := hS _ hh; have := h.apart ad ha h0; omega)⟩
theorem OwnG.two {W1 : World} {S : Nat → Prop} {e size B n cap : Nat} {a : Option Addr} {vs : List (List Value)} (h : OwnG W e size B a n cap vs) (k : Kept S W W1) (hn : ∀ i, At a i → ¬ S i) : OwnG W1 e size B a n cap vs := h.keep k (fun ad ha => hn ad.block ⟨ad, ha, rfl⟩)

theorem Rp.add1 (h : Rp w W r p g s lf ks ls ds a1 n1 c1 a2 n2 c2 a3 n3 c3) {x : Ky} {a' : Option Addr} {c' : Nat} (ho : OwnG W' 42 3 (g + 1) a' (n1 + 1) c' (cellsK ks ++ [x.arr.toList])) (hk : Kept (At a1) W W') :
    Rp w (W'.setCell ⟨g, 1, none⟩ (.slice a' (n1 + 1) c')) r p g s lf (ks ++ [x]) ls ds a' (n1 + 1) c' a2 n2 c2 a3 n3 c3 := by
  have hl := h.lt
  have hge : ∀ i, At a1 i → g < i := fun i ⟨ad, ha, e⟩ => by have := (h.ok.lt ad ha).1; omega
  have hs := Kept.setCell W' ⟨g, 1, none⟩ (.slice a' (n1 + 1) c')
  simp only at hs
  refine ⟨(h.res.kept hk (fun hh => by have := hge _ hh; omega)).kept hs (by omega), (h.rd.apart hk (fun i hi => by have := hge i hi; omega)).apart hs (fun i e => by omega), (h.pg.kept hk (fun hh => by have := hge _ hh; omega)).set 1 _, ((show OwnG W' 42 3 (g + 1) a' (n1 + 1) c' (cellsK (ks ++ [x])) from (by rw [← cellsK_snoc]; exact ho)).two hs (fun i ⟨ad, ha, e⟩ hh => by have := (ho.lt ad ha).1; omega)), ((h.ol.two hk (fun i hi hh => kinds_apart h.ol.row h.ok.row (by decide) i hi hh)).two hs (fun i ⟨ad, ha, e⟩ hh => by have := (h.ol.lt ad ha).1; omega)), ((h.od.two hk (fun i hi hh => kinds_apart h.od.row h.ok.row (by decide) i hi hh)).two hs (fun i ⟨ad, ha, e⟩ hh => by have := (h.od.lt ad ha).1; omega)), h.lt, ?_⟩
  exact (h.old.trans (hk.below h.old.size (fun i hi => by have := hge i hi; omega))).trans (hs.below (Nat.le_trans h.old.size hk.size) (fun i e => by omega))

theorem Rp.add2 (h : Rp w W r p g s lf ks ls ds a1 n1 c1 a2 n2 c2 a3 n3 c3) {x : Lo} {a' : Option Addr} {c' : Nat} (ho : OwnG W' 66 2 (g + 1) a' (n2 + 1) c' (cellsL ls ++ [x.arr.toList])) (hk : Kept (At a2) W W') :
    Rp w (W'.setCell ⟨g, 2, none⟩ (.slice a' (n2 + 1) c')) r p g s lf ks (ls ++ [x]) ds a1 n1 c1 a' (n2 + 1) c' a3 n3 c3 := by
  have hl := h.lt
  have hge : ∀ i, At a2 i → g < i := fun i ⟨ad, ha, e⟩ => by have := (h.ol.lt ad ha).1; omega
  have hs := Kept.setCell W' ⟨g, 2, none⟩ (.slice a' (n2 + 1) c')
  simp only at hs
  refine ⟨(h.res.kept hk (fun hh => by have := hge _ hh; omega)).kept hs (by omega), (h.rd.apart hk (fun i hi => by have := hge i hi; omega)).apart hs (fun i e => by omega), (h.pg.kept hk (fun hh => by have := hge _ hh; omega)).set 2 _, ((h.ok.two hk (fun i hi hh => kinds_apart h.ok.row h.ol.row (by decide) i hi hh)).two hs (fun i ⟨ad, ha, e⟩ hh => by have := (h.ok.lt ad ha).1; omega)), ((show OwnG W' 66 2 (g + 1) a' (n2 + 1) c' (cellsL (ls ++ [x])) from (by rw [← cellsL_snoc]; exact ho)).two hs (fun i ⟨ad, ha, e⟩ hh => by have := (ho.lt ad ha).1; omega)), ((h.od.two hk (fun i hi hh => kinds_apart h.od.row h.ol.row (by decide) i hi hh)).two hs (fun i ⟨ad, ha, e⟩ hh => by have := (h.od.lt ad ha).1; omega)), h.lt, ?_⟩
  exact (h.old.trans (hk.below h.old.size (fun i hi => by have := hge i hi; omega))).trans (hs.below (Nat.le_trans h.old.size hk.size) (fun i e => by omega))

theorem Rp.add3 (h : Rp w W r p g s lf ks ls ds a1 n1 c1 a2 n2 c2 a3 n3 c3) {x : Kd} {a' : Option Addr} {c' : Nat} (ho : OwnG W' 28 1 (g + 1) a' (n3 + 1) c' (cellsD ds ++ [x.arr.toList])) (hk : Kept (At a3) W W') :
    Rp w (W'.setCell ⟨g, 3, none⟩ (.slice a' (n3 + 1) c')) r p g s lf ks ls (ds ++ [x]) a1 n1 c1 a2 n2 c2 a' (n3 + 1) c' := by
  have hl := h.lt
  have hge : ∀ i, At a3 i → g < i := fun i ⟨ad, ha, e⟩ => by have := (h.od.lt ad ha).1; omega
  have hs := Kept.setCell W' ⟨g, 3, none⟩ (.slice a' (n3 + 1) c')
  simp only at hs
  refine ⟨(h.res.kept hk (fun hh => by have := hge _ hh; omega)).kept hs (by omega), (h.rd.apart hk (fun i hi => by have := hge i hi; omega)).apart hs (fun i e => by omega), (h.pg.kept hk (fun hh => by have := hge _ hh; omega)).set 3 _, ((h.ok.two hk (fun i hi hh => kinds_apart h.ok.row h.od.row (by decide) i hi hh)).two hs (fun i ⟨ad, ha, e⟩ hh => by have := (h.ok.lt ad ha).1; omega)), ((h.ol.two hk (fun i hi hh => kinds_apart h.ol.row h.od.row (by decide) i hi hh)).two hs (fun i ⟨ad, ha, e⟩ hh => by have := (h.ol.lt ad ha).1; omega)), ((show OwnG W' 28 1 (g + 1) a' (n3 + 1) c' (cellsD (ds ++ [x])) from (by rw [← cellsD_snoc]; exact ho)).two hs (fun i ⟨ad, ha, e⟩ hh => by have := (ho.lt ad ha).1; omega)), h.lt, ?_⟩
  exact (h.old.trans (hk.below h.old.size (fun i hi => by have := hge i hi; omega))).trans (hs.below (Nat.le_trans h.old.size hk.size) (fun i e => by omega))
end

end Go.Proofs.YtcgbkfnjohbglaaDoor
