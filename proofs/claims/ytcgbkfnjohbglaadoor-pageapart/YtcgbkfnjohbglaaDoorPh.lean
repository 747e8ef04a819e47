/- Walks of Encode of the document, and of number, readKey and readLoc of the program. -/
import Derived.Test.YtcgbkfnjohbglaaDoorPf
namespace Go.Proofs.YtcgbkfnjohbglaaDoor
open Go.RowKit

/-- What the document's Encode leaves. -/
theorem rencode_any {P : Pg} {a1 a2 a3 : Option Addr} {n1 n2 n3 : Nat} (c1 c2 c3 : Nat) {w : World} (h : PV w P a1 n1 a2 n2 a3 n3) (hn : n1 ≤ 1000000) :
    Calls Tryd.prog 19 #[.agg (pgA P.leaf a1 n1 c1 a2 n2 c2 a3 n3 c3)] w (EncP P w) := by
  have HR := Lib.hid (fun w' hb => rright_any c1 c2 c3 (h.below (w' := w') hb) hn)
  have HB := Lib.hid (Blk.new w 26 (pgA P.leaf a1 n1 c1 a2 n2 c2 a3 n3 c3))
  have HY := Lib.hid (fun (w' : World) hb hr => rbytes_yes c1 c2 c3 (h.below (w' := w') hb) hr)
  clear h
  cases hr : P.right
  · have HRT := Lib.hid hr
    rw [hr] at HR
    clear hr HY
    generalize P.leaf = lf at HR HB
    show Calls Tryd.prog 19 #[.agg #[.bool lf, .slice a1 n1 c1, .slice a2 n2 c2, .slice a3 n3 c3]] w (EncP P w)
    go_enter Tryd.func19, Tryd.ntmps19
    go_wp2_with (refine wpList_run rfl (exec_load26 rfl rfl HB.out) ?_)
    refine (HR.out _ (below_one _ _)).mono ?_
    rintro e w1 ⟨rfl, hb⟩
    have HB2 := Lib.hid ((below_one w _).trans (hb.mono (by simp)))
    clear hb
    go_wp2_with fail
    go_ret2
    exact ⟨.inl ⟨HRT.out, rfl⟩, HB2.out⟩
  · have HRT := Lib.hid hr
    have HY2 := Lib.hid (fun w' hb => HY.out w' hb hr)
    rw [hr] at HR
    clear hr HY
    generalize P.leaf = lf at HR HB HY2
    show Calls Tryd.prog 19 #[.agg #[.bool lf, .slice a1 n1 c1, .slice a2 n2 c2, .slice a3 n3 c3]] w (EncP P w)
    go_enter Tryd.func19, Tryd.ntmps19
    go_wp2_with (refine wpList_run rfl (exec_load26 rfl rfl HB.out) ?_)
    refine (HR.out _ (below_one _ _)).mono ?_
    rintro e w1 ⟨rfl, hb⟩
    have HB2 := Lib.hid ((below_one w (.cells (pgA lf a1 n1 c1 a2 n2 c2 a3 n3 c3) 26)).trans (hb.mono (by simp)))
    have HB3 := Lib.hid (HB.out.below hb)
    clear hb
    go_wp2_with (refine wpList_run rfl (exec_load26 rfl rfl HB3.out) ?_)
    refine (HY2.out _ HB2.out).mono ?_
    rintro e w2 ⟨a, cap, rfl, ho, hb⟩
    have HO := Lib.hid (ho.mono HB2.out.size)
    have HB4 := Lib.hid (HB2.out.trans (hb.mono HB2.out.size))
    clear ho hb
    go_wp2_with fail
    go_ret2
    exact ⟨.inr ⟨HRT.out, a, cap, rfl, HO.out⟩, HB4.out⟩

/-- A reader: its error, what remains. -/
def RdS (w : World) (p er : Nat) (bs : List Nat) : Prop := ∃ a len cap, Rd w p er a len cap bs
theorem RdS.keep {w w' : World} {p er : Nat} {bs : List Nat} (h : RdS w p er bs) (hb : Below w.heap.size w w') : RdS w' p er bs := by
  obtain ⟨a, len, cap, h⟩ := h
  exact ⟨a, len, cap, h.below hb⟩
theorem RdS.lt {w : World} {p er : Nat} {bs : List Nat} (h : RdS w p er bs) : p < w.heap.size := by
  obtain ⟨a, len, cap, h⟩ := h
  exact h.block.lt
theorem RdS.small {w : World} {p er : Nat} {bs : List Nat} (h : RdS w p er bs) : ∀ c ∈ bs, c < 256 := by
  obtain ⟨a, len, cap, h⟩ := h
  exact h.row.small
/-- What number leaves. -/
def NumP (p x er : Nat) (bs : List Nat) (w : World) (e : Ending) (w' : World) : Prop :=
  e = .returned (.int .u64 (x : Int)) ∧ RdS w' p er bs ∧ Kept (fun k => k = p) w w'
theorem number_any {p er : Nat} {bs : List Nat} {w : World} (h : RdS w p er bs) :
    Calls Tryd.prog 46 #[.pointer (some ⟨p, 0, none⟩)] w (NumP p (numX er bs) (numE er bs) (numB er bs) w) := by
  obtain ⟨a, len, cap, h⟩ := h
  have HN := Lib.hid (rnum_any p er a len cap bs w h)
  clear h
  generalize numX er bs = x at HN ⊢
  generalize numE er bs = er' at HN ⊢
  generalize numB er bs = bs' at HN ⊢
  go_enter Tryd.func46, Tryd.ntmps46
  go_wp2_with fail
  refine HN.out.mono ?_
  rintro e w' ⟨a', len', cap', rfl, hr, hk⟩
  have HR := Lib.hid hr
  have HK := Lib.hid hk
  clear hr hk
  go_wp2_with fail
  go_ret
  exact ⟨rfl, ⟨_, _, _, HR.out⟩, HK.out⟩

/-- What a row of readings leaves. -/
def nx (s : Nat × List Nat) : Nat × List Nat := (numE s.1 s.2, numB s.1 s.2)
def nv (s : Nat × List Nat) : Nat := numX s.1 s.2
def rdKy (s : Nat × List Nat) : Ky := ⟨nv s % 65536, nv (nx s) % 256, nv (nx (nx s)) % 4294967296, Nat.mod_lt _ (by omega), Nat.mod_lt _ (by omega), Nat.mod_lt _ (by omega)⟩
def rdLo (s : Nat × List Nat) : Lo := ⟨nv s % 4294967296, nv (nx s) % 4294967296, Nat.mod_lt _ (by omega), Nat.mod_lt _ (by omega)⟩
def rdKd (s : Nat × List Nat) : Kd := ⟨nv s % 4294967296, Nat.mod_lt _ (by omega)⟩
def RdP (p : Nat) (v : Value) (s : Nat × List Nat) (w : World) (e : Ending) (w' : World) : Prop :=
  e = .returned v ∧ RdS w' p s.1 s.2 ∧ Kept (fun k => k = p) w w'
theorem number_nx {p : Nat} {s : Nat × List Nat} {w : World} (h : RdS w p s.1 s.2) : Calls Tryd.prog 46 #[.pointer (some ⟨p, 0, none⟩)] w (RdP p (.int .u64 (nv s : Int)) (nx s) w) := number_any h
theorem nv_lt {p : Nat} {s : Nat × List Nat} {w : World} (h : RdS w p s.1 s.2) : nv s < 18446744073709551616 := num_lt h.small

/-- A result that lies in a cell. -/
theorem retC {fn : Func} {t : Tmp} {T : TypeId} (h : fn.results = #[.cell t T]) {tmps : Array Value} {w : World} {g : Nat} {v : Value} (hx : tmps.getD t undef = .pointer (some ⟨g, 0, none⟩)) (hb : (loadVar T ⟨g, 0, none⟩).run Tryd.prog w = .ok v w) :
    (results fn tmps).run Tryd.prog w = .ok v w := by
  have hx' : tmps[t]?.getD undef = .pointer (some ⟨g, 0, none⟩) := by rw [← hx]; simp [Array.getD_eq_getD_getElem?]
  simp only [results, h]
  simp [hx', asAddr, hb]
theorem retC_two {fn : Func} {t s : Tmp} {T : TypeId} (h : fn.results = #[.cell t T, .tmp s]) {tmps : Array Value} {w : World} {g : Nat} {v y : Value} (hx : tmps.getD t undef = .pointer (some ⟨g, 0, none⟩)) (hy : tmps.getD s undef = y) (hb : (loadVar T ⟨g, 0, none⟩).run Tryd.prog w = .ok v w) :
    (results fn tmps).run Tryd.prog w = .ok (.tuple #[v, y]) w := by
  rw [results_cell_tmp h, hx, hy]
  simp [Result.andThen, asAddr, hb]

set_option maxHeartbeats 1000000 in
set_option maxRecDepth 100000 in
theorem readKey_any {p : Nat} {s : Nat × List Nat} {w : World} (h : RdS w p s.1 s.2) : Calls Tryd.prog 47 #[.pointer (some ⟨p, 0, none⟩)] w (RdP p (.agg (rdKy s).arr) (nx (nx (nx s))) w) := by
  have hp := h.lt
  have H0 := Lib.hid (h.keep (below_one w (.cells #[.int .u16 0, .int .u8 0, .int .u32 0] 42)))
  have B0 : Hid (Blk (w.alloc (.cells #[.int .u16 0, .int .u8 0, .int .u32 0] 42)) w.heap.size 42 Ky.zero.arr) := Lib.hid (Blk.new w 42 _)
  have K0 := Lib.hid (Kept.alloc (fun k => k = p) w (.cells #[.int .u16 0, .int .u8 0, .int .u32 0] 42))
  clear h
  obtain ⟨key, hkey⟩ : ∃ key, rdKy s = key := ⟨_, rfl⟩
  have V0 : Hid (nv (s) % 65536 = key.c) := Lib.hid (by rw [← hkey]; rfl)
  have V1 : Hid (nv (nx s) % 256 = key.r) := Lib.hid (by rw [← hkey]; rfl)
  have V2 : Hid (nv (nx (nx s)) % 4294967296 = key.s) := Lib.hid (by rw [← hkey]; rfl)
  rw [hkey]
  clear hkey
  go_enter Tryd.func47, Tryd.ntmps47
  go_upto_region 1 with fail
  try simp only [World.size_alloc, Act.put, List.setIfInBounds_toArray, List.set_cons_zero, List.set_cons_succ]
  generalize w.alloc (.cells #[.int .u16 0, .int .u8 0, .int .u32 0] 42) = w0 at H0 B0 K0
  obtain ⟨g, hg⟩ : ∃ g, w.heap.size = g := ⟨_, rfl⟩
  have HG : Hid (w.heap.size ≤ g) := Lib.hid (by omega)
  rw [hg] at B0 hp
  rw [hg]
  have hgp : ¬ g = p := by omega
  clear hg
  have X0 := nv_lt H0.out
  go_wp2_with fail
  refine (number_nx (s := s) H0.out).mono ?_
  rintro e w1 ⟨rfl, hr, hk⟩
  have H1 := Lib.hid hr
  have B1 := Lib.hid (B0.out.kept hk hgp)
  have K1 := Lib.hid (K0.out.trans hk (fun i hi => .inl hi))
  clear hr hk H0 B0 K0
  generalize nv (s) = x0 at V0 X0 ⊢
  have X1 := nv_lt H1.out
  go_wp2_with fail
  refine (number_nx (s := nx s) H1.out).mono ?_
  rintro e w2 ⟨rfl, hr, hk⟩
  have H2 := Lib.hid hr
  have B2 := Lib.hid (B1.out.kept hk hgp)
  have K2 := Lib.hid (K1.out.trans hk (fun i hi => .inl hi))
  clear hr hk H1 B1 K1
  generalize nv (nx s) = x1 at V1 X1 ⊢
  have X2 := nv_lt H2.out
  go_wp2_with fail
  refine (number_nx (s := nx (nx s)) H2.out).mono ?_
  rintro e w3 ⟨rfl, hr, hk⟩
  have H3 := Lib.hid hr
  have B3 := Lib.hid (B2.out.kept hk hgp)
  have K3 := Lib.hid (K2.out.trans hk (fun i hi => .inl hi))
  clear hr hk H2 B2 K2
  generalize nv (nx (nx s)) = x2 at V2 X2 ⊢
  have E0 : IntKind.u16.wrap (x0 : Int) = (key.c : Int) := by have := V0.out; rw [IntKind.wrap_u16]; omega
  have E1 : (x1 : Int) % 256 = (key.r : Int) := by have := V1.out; omega
  have E2 : (x2 : Int) % 4294967296 = (key.s : Int) := by have := V2.out; omega
  go_wp2_with (refine wpList_stop42 rfl ?_)
  refine ⟨?_⟩
  refine wpList_void rfl rfl (exec_store42 (p := Ky.zero) (u := key) rfl rfl rfl B3.out) ?_
  have HB := Lib.hid (B3.out.row (ds := key.arr))
  obtain ⟨a, len, cap, hr⟩ := H3.out
  have HR := Lib.hid (hr.keep (Kept.setRow w3 g key.arr) (by omega) (fun ad ha h0 => by have := hr.apart ad ha h0; omega))
  have HK := Lib.hid (K3.out.trans (T := fun k => k = g) (Kept.setRow w3 g key.arr) (fun i hi => .inr (by have := HG.out; omega)))
  clear hr
  generalize w3.setRow g key.arr = w9 at HB HR HK
  go_wp2_with fail
  exact bodyPost_ret (v := .agg key.arr) (retC Tryd.results47 rfl (loadVar42 HB.out)) rfl ⟨rfl, ⟨a, len, cap, HR.out⟩, HK.out⟩

set_option maxHeartbeats 1000000 in
set_option maxRecDepth 100000 in
theorem readLoc_any {p : Nat} {s : Nat × List Nat} {w : World} (h : RdS w p s.1 s.2) : Calls Tryd.prog 48 #[.pointer (some ⟨p, 0, none⟩)] w (RdP p (.agg (rdLo s).arr) (nx (nx s)) w) := by
  have hp := h.lt
  have H0 := Lib.hid (h.keep (below_one w (.cells #[.int .u32 0, .int .u32 0] 66)))
  have B0 : Hid (Blk (w.alloc (.cells #[.int .u32 0, .int .u32 0] 66)) w.heap.size 66 Lo.zero.arr) := Lib.hid (Blk.new w 66 _)
  have K0 := Lib.hid (Kept.alloc (fun k => k = p) w (.cells #[.int .u32 0, .int .u32 0] 66))
  clear h
  obtain ⟨key, hkey⟩ : ∃ key, rdLo s = key := ⟨_, rfl⟩
  have V0 : Hid (nv (s) % 4294967296 = key.g) := Lib.hid (by rw [← hkey]; rfl)
  have V1 : Hid (nv (nx s) % 4294967296 = key.t) := Lib.hid (by rw [← hkey]; rfl)
  rw [hkey]
  clear hkey
  go_enter Tryd.func48, Tryd.ntmps48
  go_upto_region 1 with fail
  try simp only [World.size_alloc, Act.put, List.setIfInBounds_toArray, List.set_cons_zero, List.set_cons_succ]
  generalize w.alloc (.cells #[.int .u32 0, .int .u32 0] 66) = w0 at H0 B0 K0
  obtain ⟨g, hg⟩ : ∃ g, w.heap.size = g := ⟨_, rfl⟩
  have HG : Hid (w.heap.size ≤ g) := Lib.hid (by omega)
  rw [hg] at B0 hp
  rw [hg]
  have hgp : ¬ g = p := by omega
  clear hg
  have X0 := nv_lt H0.out
  go_wp2_with fail
  refine (number_nx (s := s) H0.out).mono ?_
  rintro e w1 ⟨rfl, hr, hk⟩
  have H1 := Lib.hid hr
  have B1 := Lib.hid (B0.out.kept hk hgp)
  have K1 := Lib.hid (K0.out.trans hk (fun i hi => .inl hi))
  clear hr hk H0 B0 K0
  generalize nv (s) = x0 at V0 X0 ⊢
  have X1 := nv_lt H1.out
  go_wp2_with fail
  refine (number_nx (s := nx s) H1.out).mono ?_
  rintro e w2 ⟨rfl, hr, hk⟩
  have H2 := Lib.hid hr
  have B2 := Lib.hid (B1.out.kept hk hgp)
  have K2 := Lib.hid (K1.out.trans hk (fun i hi => .inl hi))
  clear hr hk H1 B1 K1
  generalize nv (nx s) = x1 at V1 X1 ⊢
  have E0 : (x0 : Int) % 4294967296 = (key.g : Int) := by have := V0.out; omega
  have E1 : (x1 : Int) % 4294967296 = (key.t : Int) := by have := V1.out; omega
  go_wp2_with (refine wpList_stop66 rfl ?_)
  refine ⟨?_⟩
  refine wpList_void rfl rfl (exec_store66 (p := Lo.zero) (u := key) rfl rfl rfl B2.out) ?_
  have HB := Lib.hid (B2.out.row (ds := key.arr))
  obtain ⟨a, len, cap, hr⟩ := H2.out
  have HR := Lib.hid (hr.keep (Kept.setRow w2 g key.arr) (by omega) (fun ad ha h0 => by have := hr.apart ad ha h0; omega))
  have HK := Lib.hid (K2.out.trans (T := fun k => k = g) (Kept.setRow w2 g key.arr) (fun i hi => .inr (by have := HG.out; omega)))
  clear hr
  generalize w2.setRow g key.arr = w9 at HB HR HK
  go_wp2_with fail
  exact bodyPost_ret (v := .agg key.arr) (retC Tryd.results48 rfl (loadVar66 HB.out)) rfl ⟨rfl, ⟨a, len, cap, HR.out⟩, HK.out⟩

end Go.Proofs.YtcgbkfnjohbglaaDoor
