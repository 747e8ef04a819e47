/- Walk of Crash. -/
import Derived.Test.YtjpmjidpdgikgaaKd
namespace Go.Proofs.Ytjpmjidpdgikgaa
open Go.RowKit Go.Maps
open Go.Proofs (encStr)

theorem slice_h41 (a : Option Addr) (len cap k : Nat) (W : World) (hk : k ≤ cap) :
    (Instr.slice 41 (.slice a len cap) none (some (.int .i64 (k : Int))) none).run Try.prog W = .ok (.slice a k cap) W := by
  have he : Try.prog.elem 41 = 54 := by kernel_rfl
  have ht : Try.prog.underlying 41 = some (.slice (Try.prog.elem 41)) := by rw [he]; exact Try.underlying41
  have hz : (Go.sizeOf 54).run Try.prog W = .ok 3 W := Try.sizeOf54 W
  rw [run_slice_h (P := Try.prog) W 41 a len cap ht .i64 (k : Int) (by omega) (by omega), he, hz]
  cases a <;> simp [Result.andThen, sliced, Addr.add]
theorem exec_ld54 {ev : Operand → Value} {q : Oper} {w : World} {x : Operand} {b off : Nat} {c : Chg} (ho : q.op = .load 54 x) (hx : ev x = .pointer (some ⟨b, off, none⟩)) (h : w.rangeAt b off c.cells) : (execOp ev q).run Try.prog w = .ok (.value (.agg #[.string c.gone, .string c.set, .pointer c.v])) w := by
  have hl := run_loadVar_mid (P := Try.prog) w b off 54 c.cells _ h und54 rfl size54
  refine exec_cell ho hx ?_
  simp only [Instr.loadAt, Instr.sureAddr, Sem.run_bind, Sem.run_pure, Result.andThen_ok, hl]
  rfl
theorem exec_store54 {ev : Operand → Value} {q : Oper} {w : World} {x y : Operand} {g : Nat} {s r s2 r2 : ByteArray} {v v2 : Option Addr} (ho : q.op = .store 54 x y) (hx : ev x = .pointer (some ⟨g, 0, none⟩)) (hy : ev y = .agg #[.string s, .string r, .pointer v]) (h : Blk w g 54 #[.string s2, .string r2, .pointer v2]) : (execOp ev q).run Try.prog w = .ok .skip (w.setRow g #[.string s, .string r, .pointer v]) := by
  have hs : (Instr.storeAt 54 (.pointer (some ⟨g, 0, none⟩)) (.agg #[.string s, .string r, .pointer v])).run Try.prog w = .ok () (w.setRow g #[.string s, .string r, .pointer v]) := by
    simp only [Instr.storeAt, Instr.sureAddr, Sem.run_bind, Sem.run_pure, Result.andThen]
    exact run_storeVar_row _ _ 54 54 #[.string s2, .string r2, .pointer v2] #[.string s, .string r, .pointer v] h size54 rfl (by simp [Value.oneCell'])
  unfold execOp
  simp only [ho, hx, hy, Sem.run_bind, hs, Result.andThen_ok]
  rfl
theorem wpList_stop54 {ops : Array Oper} {rest : List Oper} {o : Oper} {act : Act} {Q : Exit → Act → World → Prop} {W : World} {x y : Operand} (_ho : o.op = .store 54 x y) (k : Halt_ (wpList Try.prog ops Q (o :: rest) act W)) : wpList Try.prog ops Q (o :: rest) act W := k.out
/-- A row of pending changes, cell by cell. -/
theorem chg_at {w : World} {B : Nat} {pa : Option Addr} {pn pc : Nat} {cs : List Chg} (h : OwnG w 54 3 B pa pn pc (cs.map Chg.cells)) {i : Nat} (hi : i < cs.length) : ∃ g c, pa = some ⟨g, 0, none⟩ ∧ cs[i]? = some c ∧ w.rangeAt g (0 + i * 3) c.cells := by
  have hn : cs.length = pn := by have := h.len; simpa using this
  rcases h.row.2 with ⟨_, h0⟩ | ⟨g, cap', cur, hv, _⟩
  · omega
  · simp only [Value.slice.injEq, true_and] at hv
    obtain ⟨rfl, _⟩ := hv
    obtain ⟨c, hc⟩ : ∃ c, cs[i]? = some c := ⟨cs[i], List.getElem?_eq_getElem hi⟩
    rcases h.gl.cells with h0 | ⟨b, off, hb, hcells⟩
    · omega
    · have hb' : (⟨g, 0, none⟩ : Addr) = ⟨b, off, none⟩ := Option.some.inj hb
      simp only [Addr.mk.injEq, and_true] at hb'
      obtain ⟨rfl, rfl⟩ := hb'
      exact ⟨g, c, rfl, hc, hcells i c.cells (by rw [List.getElem?_map, hc]; rfl)⟩
theorem laid54 {w : World} {s r s2 r2 : ByteArray} {v v2 : Option Addr} : Blk ((w.alloc (.cells #[.string s, .string r, .pointer v] 54)).setRow w.heap.size #[.string s2, .string r2, .pointer v2]) w.heap.size 54 #[.string s2, .string r2, .pointer v2] ∧ Below w.heap.size w ((w.alloc (.cells #[.string s, .string r, .pointer v] 54)).setRow w.heap.size #[.string s2, .string r2, .pointer v2]) :=
  ⟨(Blk.new w 54 _).row, (below_one w _).trans ((Kept.setRow _ w.heap.size _).below (B := w.heap.size) (by simp) (fun k hk => by omega))⟩
theorem Own.upto {w : World} {B : Nat} {a : Option Addr} {len cap : Nat} {bs : List Nat} (h : Own w B a len cap bs) {k : Nat} (hk : k ≤ len) : Own w B a k cap (bs.take k) := by
  have hl := h.len
  rcases h.2 with ⟨hv, h0⟩ | ⟨g, cap', cur, hv, hB, hg, h1, h2, h3, h4⟩
  · simp only [Value.slice.injEq] at hv
    obtain ⟨rfl, rfl, rfl⟩ := hv
    obtain rfl : k = 0 := by omega
    exact own_nil _ _
  · simp only [Value.slice.injEq, true_and] at hv
    obtain ⟨rfl, rfl⟩ := hv
    refine ⟨by simp [cellsOf]; omega, .inr ⟨g, cap, cur, rfl, hB, hg, by omega, h2, h3, ?_⟩⟩
    have e := congrArg (List.take k) h4
    rw [List.take_take, Nat.min_eq_left (by omega)] at e
    rw [show k * 1 = k by omega, e]
    simp [cellsOf, List.map_take]
/-- What settle leaves is a disk whose durable names are its names. -/
theorem Mv.settle {w w1 w2 : World} {B p room m m3 k : Nat} {s s1 : Sta} {f : Lit → Option Value} (h : Mv w B p room s w1 s1) (hk : Kept (fun i => i = p) w1 w2) (hm : m = s1.m1 ∨ m = s1.m2) (hd : Dk w2 p room s1.n (some m) (some m3) none 0 0) (h3 : w1.heap.size ≤ m3) (hf3 : MpF w2 9 m3 k f) (hf : MpF w2 9 m k f) (hn : NamesIn f s1.F) :
    Mv w B p room s w2 { n := s1.n, m1 := m, m2 := m3, k1 := k, k2 := k, pa := none, pn := 0, pc := 0, f1 := f, f2 := f, vs := [], F := s1.F } := by
  have hat : s1.at_ p m := by rcases hm with rfl | rfl; exact .inr (.inl rfl); exact .inr (.inr (.inl rfl))
  have hml := h.now.at_lt hat
  refine ⟨⟨hd, h.now.room, hf, hf3, by show m ≠ m3; omega, ownG_nil _ _ _ _, h.now.fls.keep hk ?_, hn, ⟨h.now.low.1, hml.1, by show B ≤ m3; omega⟩⟩, h.kept.trans hk (fun i hi => h.new i (.inl hi)), ?_⟩
  · rintro i ⟨x, hx, rfl | hi⟩ e
    · exact (h.now.fls.blk x hx).ne_type h.now.blk (by decide) e
    · exact own_notBlk (h.now.fls.own x hx) h.now.blk (by decide) (e ▸ hi)
  · rintro i (hi | hi | hi | ⟨ad, ha, _⟩ | hi)
    · exact h.new i (.inl hi)
    · exact h.new i (by rw [show i = m from hi]; exact hat)
    · exact .inr (by have := h.kept.size; rw [show i = m3 from hi]; omega)
    · cases ha
    · exact h.new i (.inr (.inr (.inr (.inr hi))))
theorem crV_get {f : Lit → Option Value} {V : List ByteArray} {cuts : List Nat} {F : List Fi} {y : Fi} (hy : y ∈ F) (hd : y.dur ≤ y.bs.length) : ∃ z ∈ crV f V cuts F, z.g = y.g ∧ z.cr cuts = y.cr cuts ∧ z.num = y.num ∧ z.bs.length ≤ y.bs.length := by
  by_cases h : ∃ s ∈ V, f (litS s) = some y.ptr
  · refine ⟨y.cr cuts, List.mem_map.2 ⟨y, hy, by rw [if_pos h]⟩, rfl, Fi.cr_cr cuts hd, rfl, ?_⟩
    rw [Fi.cr_len cuts hd]
    exact Fi.cut_le cuts hd
  · exact ⟨y, List.mem_map.2 ⟨y, hy, by rw [if_neg h]⟩, rfl, rfl, rfl, Nat.le_refl _⟩
theorem iter_notBlk {w : World} {m q n cnt g t : Nat} {D : DataW Value} {left : Lit → Bool} {cs : Array Value} (h : w.ranges Try.prog 9 anyE m q n D left cnt) (hb : Blk w g t cs) : g ≠ q := by
  rintro rfl
  obtain ⟨_, _, _, _, _, _, _, _, _, hit, _⟩ := h
  unfold Blk at hb
  rw [hit] at hb
  cases hb
/-- What Crash leaves. -/
def Crashed (B p room j : Nat) (cs : List Chg) (cuts : List Nat) (s : Sta) (w : World) (e : Ending) (w' : World) : Prop :=
  e = .returned (.int .i64 0) ∧ ∃ m1 m2 k, Mv w B p room s w' { n := s.n, m1 := m1, m2 := m2, k1 := k, k2 := k, pa := none, pn := 0, pc := 0, f1 := iterF s.f2 (cs.take j), f2 := iterF s.f2 (cs.take j), vs := [], F := crF (iterF s.f2 (cs.take j)) cuts s.F }
set_option maxRecDepth 100000 in
set_option maxHeartbeats 2000000 in
theorem crash_any {w : World} {B p room c : Nat} {s : Sta} {cs : List Chg} (h : Dz w B p room s) (ok : Ok s cs c) (hc : c ≤ 5000) (ch : Nat) (hch : ch < 256) {ca : Option Addr} {cl cc : Nat} {cuts : List Nat} (hr : Row w ca cl cuts) (hfar : ∀ ad, ca = some ad → cl ≠ 0 → ¬ s.at_ p ad.block) :
    Calls Try.prog 14 #[.pointer (some ⟨p, 0, none⟩), .int .u8 (ch : Int), .slice ca cl cc] w (Crashed B p room (ch % (cs.length + 1)) cs cuts s w) := by
  have HMd := made_any h.blk
  rw [show decide (0 < room) = true by simp [h.room]] at HMd
  have HOK := Lib.hid ok
  have HRW := Lib.hid hr
  have HFAR := Lib.hid hfar
  have hpn : s.pn = cs.length := by have := h.pend.len; rw [ok.vs] at this; simpa using this.symm
  have H := Lib.hid h
  obtain ⟨j, hj⟩ : ∃ j, ch % (cs.length + 1) = j := ⟨_, rfl⟩
  rw [hj]
  have hjl : j ≤ cs.length := by have := Nat.mod_lt ch (show cs.length + 1 > 0 by omega); omega
  have HJ := Lib.hid hjl
  have hcap : s.pn ≤ s.pc := by
    rcases h.pend.row.2 with ⟨hv, h0⟩ | ⟨g, cap', cur, hv, _, _, h1, _⟩
    · omega
    · simp only [Value.slice.injEq, true_and] at hv; omega
  have HC5 : Hid (c ≤ 5000) := Lib.hid hc
  have HPN := Lib.hid hpn
  clear h ok hr hfar hpn
  go_enter Try.func14, Try.ntmps14
  go_wp2_with fail
  refine HMd.mono ?_
  rintro e w1 ⟨rfl, hb⟩
  have H1 : Hid (Mv w B p room s w1 s) := Lib.hid (Mv.below H.out hb)
  clear HMd hb
  have u5 : w1.cell? ⟨p, 5, none⟩ = some (.bool false) := H1.out.now.blk.cell 5
  have u6 : w1.cell? ⟨p, 6, none⟩ = some (.int .i64 0) := H1.out.now.blk.cell 6
  have z5 : w1.frozen? ⟨p, 5, none⟩ = false := H1.out.now.blk.frozen 5
  have z6 : w1.frozen? ⟨p, 6, none⟩ = false := H1.out.now.blk.frozen 6
  go_upto_region 4 with fail
  have H2 : Hid (Mv w B p room s ((w1.setCell ⟨p, 5, none⟩ (.bool false)).setCell ⟨p, 6, none⟩ (.int .i64 0)) s) := Lib.hid (H1.out.trans (H1.out.now.upP ((H1.out.now.blk.set 5 (.bool false)).set 6 (.int .i64 0)) ((Kept.setCell w1 ⟨p, 5, none⟩ (.bool false)).trans (Kept.setCell _ ⟨p, 6, none⟩ (.int .i64 0)) (fun i hi => .inl hi))))
  generalize (w1.setCell ⟨p, 5, none⟩ (.bool false)).setCell ⟨p, 6, none⟩ (.int .i64 0) = w2 at H2 ⊢
  clear u5 u6 z5 z6 H1
  have u4 : w2.cell? ⟨p, 4, none⟩ = some (.slice s.pa s.pn s.pc) := H2.out.now.blk.cell 4
  have ej : (ch : Int) % ((s.pn : Int) + 1) = (j : Int) := by rw [HPN.out, ← hj, Int.natCast_emod]; rfl
  have w3 : IntKind.i64.wrap (ch : Int) = (ch : Int) := by rw [IntKind.wrap_i64]; omega
  have w4 : IntKind.i64.wrap ((s.pn : Int) + 1) = (s.pn : Int) + 1 := by have := HOK.out.len; have := HPN.out; rw [IntKind.wrap_i64]; omega
  have ey : ((s.pn : Int) + 1 == 0) = false := by simp; omega
  have ey2 : ¬ ((s.pn : Int) + 1 = 0) := by omega
  have hjc : j ≤ s.pc := by have := HPN.out; omega
  go_region
  have H3 : Hid (Mv w B p room s w2.drew s) := Lib.hid (H2.out.belowR (drew_below w2))
  clear u4 ej w3 w4 ey ey2 H2
  generalize w2.drew = w3 at H3 ⊢
  go_wp2_with fail
  go_loopw [35] (fun iv wr => ∃ i k' : Nat, i ≤ j ∧ iv = .int .i64 (i : Int) ∧ Hid (Mv w B p room s wr { s with k2 := k', f2 := iterF s.f2 (cs.take i) })) (fun iv _ => j - (intOf iv).toNat)
  case atStart => exact ⟨0, s.k2, Nat.zero_le _, rfl, H3⟩
  case round =>
    obtain ⟨i, k', hij, rfl, HV⟩ := hrel
    by_cases hi : i < j
    case' pos =>
      have hd : decide ((i : Int) < (j : Int)) = true := by simp; omega
      obtain ⟨g, c1, hpa, hcg, hrng⟩ := chg_at (by have := HV.out.now.pend; rw [show ({ s with k2 := k', f2 := iterF s.f2 (cs.take i) } : Sta).vs = cs.map Chg.cells from HOK.out.vs] at this; exact this) (show i < cs.length by omega)
      have hpa' : s.pa = some ⟨g, 0, none⟩ := hpa
      have hsz := HOK.out.sz c1 (List.mem_of_getElem? hcg)
      have hk' : k' < 900000 := by
        have h1 := (HOK.out.pre i (by omega)).count HV.out.now.fls.nodup HV.out.now.mp2
        have h2 := HOK.out.cnt
        have h3 := HC5.out
        have h4 : k' ≤ s.F.length := h1
        omega
      rw [hpa']
      have HG : Hid (wr.rangeAt g (i * 3) c1.cells) := Lib.hid (by rw [Nat.zero_add] at hrng; exact hrng)
      have HCG := Lib.hid hcg
      have HPA := Lib.hid hpa'
      have HSZ := Lib.hid hsz
      have HKK := Lib.hid hk'
      clear hpa hpa' hcg hrng hsz hk'
      go_upto_region 7 with (first | (refine wpList_run rfl (exec_ld54 rfl rfl HG.out) ?_) | (refine wpList_stop54 rfl ?_))
      refine ⟨?_⟩
      refine wpList_void rfl rfl (exec_store54 rfl rfl rfl (Blk.new wr 54 #[.string ⟨#[]⟩, .string ⟨#[]⟩, .pointer none])) ?_
      obtain ⟨hu, hbw⟩ := laid54 (w := wr) (s := ⟨#[]⟩) (r := ⟨#[]⟩) (v := none) (s2 := c1.gone) (r2 := c1.set) (v2 := c1.v)
      have HU := Lib.hid hu
      have HV5 := Lib.hid (HV.out.belowR hbw)
      clear hu hbw HG
      generalize (wr.alloc (.cells #[.string ⟨#[]⟩, .string ⟨#[]⟩, .pointer none] 54)).setRow wr.heap.size #[.string c1.gone, .string c1.set, .pointer c1.v] = w5 at HU HV5 ⊢
      generalize wr.heap.size = q at HU ⊢
      go_upto_region 7 with fail
      have HV6 := Lib.hid (HV5.out.belowR (drew_below w5))
      have HAP := Lib.hid (apply_any (w := w5.drew) c1.gone c1.set (.pointer c1.v) HV6.out.now.mp2 HKK.out (by have := HSZ.out; omega) (by have := HSZ.out; omega))
      have HNQ : Hid (¬ q = s.m2) := Lib.hid (fun e => HV5.out.now.mp2.ne HU.out e.symm)
      have HNP : Hid (¬ p = s.m2) := Lib.hid (fun e => HV5.out.now.mp2.ne HV5.out.now.blk e.symm)
      refine wp_region_held_drew (S := fun W => Blk W q 54 #[.string c1.gone, .string c1.set, .pointer c1.v] ∧ Dk W p room s.n (some s.m1) (some s.m2) s.pa s.pn s.pc) (by kernel_rfl) ⟨HU.out.below (drew_below w5), HV6.out.now.blk⟩ (fun hS => ?_)
      refine held_take 0 39 (.agg #[.string c1.gone, .string c1.set, .pointer c1.v]) rfl rfl (by kernel_rfl) (by kernel_rfl) (by kernel_rfl) (fun _ _ _ h => h) (by kernel_rfl) (fun _ h => exec_load54 rfl rfl h.1) hS ?_
      simp only [Act.put, List.setIfInBounds_toArray, List.set_cons_zero, List.set_cons_succ]
      refine held_take 1 40 (.pointer (some ⟨p, 0, none⟩)) rfl rfl (by kernel_rfl) (by kernel_rfl) (by kernel_rfl) (fun _ _ _ h => h) (by kernel_rfl) (fun _ _ => rfl) hS ?_
      simp only [Act.put, List.setIfInBounds_toArray, List.set_cons_zero, List.set_cons_succ]
      refine held_take 2 41 (.pointer (some ⟨p, 0, none⟩)) rfl rfl (by kernel_rfl) (by kernel_rfl) (by kernel_rfl) (fun _ _ _ h => h) (by kernel_rfl) (fun _ _ => exec_nil rfl rfl) hS ?_
      simp only [Act.put, List.setIfInBounds_toArray, List.set_cons_zero, List.set_cons_succ]
      refine held_take 3 42 (.pointer (some ⟨p, 3, none⟩)) rfl rfl (by kernel_rfl) (by kernel_rfl) (by kernel_rfl) (fun _ _ _ h => h) (by kernel_rfl) (fun _ _ => (by kernel_rfl)) hS ?_
      simp only [Act.put, List.setIfInBounds_toArray, List.set_cons_zero, List.set_cons_succ]
      refine held_take 4 43 (.map (some s.m2)) rfl rfl (by kernel_rfl) (by kernel_rfl) (by kernel_rfl) (fun _ _ _ h => h) (by kernel_rfl) (fun _ h => exec_cell rfl rfl (load_cell (by kernel_rfl) (h.2.cell 3))) hS ?_
      simp only [Act.put, List.setIfInBounds_toArray, List.set_cons_zero, List.set_cons_succ]
      refine held_callP 5 44 25 #[(.agg #[.string c1.gone, .string c1.set, .pointer c1.v]), (.map (some s.m2))] rfl (by kernel_rfl) rfl (by kernel_rfl) (by kernel_rfl) HAP.out (fun e w105 hP => ?_)
      obtain ⟨rfl, ⟨k2, hk2, hm2⟩, kp2⟩ := hP
      refine ⟨_, rfl, ⟨hS.1.kept kp2 HNQ.out, hS.2.kept kp2 HNP.out⟩, fun hS => ?_⟩
      simp only [Act.put, List.setIfInBounds_toArray, List.set_cons_zero, List.set_cons_succ]
      refine wpAnyH_done (by kernel_rfl) ?_ _
      clear hS
      have HV7 : Hid (Mv w B p room s w105 { s with k2 := k2, f2 := iterF s.f2 (cs.take (i + 1)) }) := Lib.hid (by
        rw [iterF_take s.f2 HCG.out]
        exact HV6.out.trans (HV6.out.now.upM2 hm2 kp2))
      clear hm2 kp2 HU HV5 HV6 HAP HNQ HNP hk2
      have hw : IntKind.i64.wrap ((i : Int) + 1) = ((i + 1 : Nat) : Int) := by have := HOK.out.len; have := HC5.out; rw [IntKind.wrap_i64]; omega
      go_wp2_with fail
      go_roundw
      case rel => exact ⟨i + 1, k2, by omega, by simp, by rw [← HPA.out]; exact HV7⟩
      case measure => simp only [intOf]; omega
    obtain rfl : i = j := by omega
    have hd : decide ((i : Int) < (i : Int)) = false := by simp
    have u3 : wr.cell? ⟨p, 3, none⟩ = some (.map (some s.m2)) := HV.out.now.blk.cell 3
    have u2 : wr.cell? ⟨p, 2, none⟩ = some (.map (some s.m1)) := HV.out.now.blk.cell 2
    have z2 : wr.frozen? ⟨p, 2, none⟩ = false := HV.out.now.blk.frozen 2
    go_upto_region 10 with fail
    have HK4 : Hid (Dk (wr.setCell ⟨p, 2, none⟩ (.map (some s.m2))) p room s.n (some s.m2) (some s.m2) s.pa s.pn s.pc) := Lib.hid (HV.out.now.blk.set 2 (.map (some s.m2)))
    have HM4 : Hid (MpF (wr.setCell ⟨p, 2, none⟩ (.map (some s.m2))) 9 s.m2 k' (iterF s.f2 (cs.take i))) := Lib.hid (HV.out.now.mp2.kept (Kept.setCell wr ⟨p, 2, none⟩ (.map (some s.m2))) (HV.out.now.mp2.ne HV.out.now.blk))
    have HKP : Hid (Kept (fun b => b = p) wr (wr.setCell ⟨p, 2, none⟩ (.map (some s.m2)))) := Lib.hid (Kept.setCell wr ⟨p, 2, none⟩ (.map (some s.m2)))
    generalize wr.setCell ⟨p, 2, none⟩ (.map (some s.m2)) = w4 at HK4 HM4 HKP ⊢
    have HSE := Lib.hid (settle_any HK4.out HM4.out)
    clear u3 u2 z2
    go_wp2_with fail
    refine HSE.out.mono ?_
    rintro e w5 ⟨rfl, m3, h3, hd5, hf3, hf5, hk5⟩
    have HV5 := Lib.hid (HV.out.settle (m := s.m2) (HKP.out.trans hk5 (fun b hb => .inl hb)) (.inr rfl) hd5 (Nat.le_trans HKP.out.size h3) hf3 hf5 (HOK.out.pre i HJ.out).ins)
    clear h3 hd5 hf3 hf5 hk5 HSE HK4 HM4 HKP HV
    obtain ⟨f', hf'⟩ : ∃ f', iterF s.f2 (cs.take i) = f' := ⟨_, rfl⟩
    have HGO : Hid (Good f' s.F) := Lib.hid (hf' ▸ HOK.out.pre i HJ.out)
    have HF := Lib.hid hf'
    rw [hf'] at HV5
    clear hf'
    obtain ⟨D, hD⟩ := HV5.out.now.mp1
    have HD := Lib.hid hD
    have u2 : w5.cell? ⟨p, 2, none⟩ = some (.map (some s.m2)) := HV5.out.now.blk.cell 2
    go_wp2_with (first | (at_range; refine wpList_range_own _ rfl _ 40 rfl 9 51 law9 Try.underlying40 _ s.m2 k' D rfl HD.out.own ?_; intro w0 hrg0 hg0 hs0))
    go_frame
    obtain ⟨q, hq⟩ : ∃ q, w5.heap.size = q := ⟨_, rfl⟩
    have HQ : Hid (w.heap.size ≤ q) := Lib.hid (by rw [← hq]; exact HV5.out.kept.size)
    have HNAT : Hid (∀ b, ({ n := s.n, m1 := s.m2, m2 := m3, k1 := k', k2 := k', pa := none, pn := 0, pc := 0, f1 := f', f2 := f', vs := [], F := s.F } : Sta).at_ p b → ¬ b = q) := Lib.hid (fun b hb e => by have := (HV5.out.now.at_lt hb).2; omega)
    have HV6 := Lib.hid (HV5.out.belowR ((Below.refl _ _).grown hg0 (Nat.le_refl _) (fun b hb => by cases hb)))
    rw [hq] at hrg0
    rw [hq]
    have HR0 := Lib.hid hrg0
    clear hrg0 hg0 hs0 hD hq u2 HV5
    go_loopw [10] (fun _ wr => ∃ (left : Lit → Bool) (cnt : Nat) (ss : List (List UInt8)), Hid (wr.ranges Try.prog 9 anyE s.m2 q k' D left cnt) ∧ Hid (Collected D left ss) ∧ Hid (Mv w B p room s wr { n := s.n, m1 := s.m2, m2 := m3, k1 := k', k2 := k', pa := none, pn := 0, pc := 0, f1 := f', f2 := f', vs := [], F := crV f' (ss.map tBA) cuts s.F })) (fun _ wr => wr.rangeLeft s.m2 q)
    case atStart => exact ⟨_, _, [], HR0, Lib.hid (Collected.start D), Lib.hid (by rw [List.map_nil, crV_nil]; exact HV6.out)⟩
    case round =>
      obtain ⟨left, cnt, ss, HR, HC, HV7⟩ := hrel
      go_wp2_with (at_next; refine wpList_next_ranges _ rfl _ rfl 9 law9 anyE (fun x : List UInt8 => encStr x) (fun c : Value => c) (fun key kl hk => by obtain ⟨x, hx, _⟩ := Maps.keyOf_str Try.underlying9 hk; exact ⟨x, hx⟩) (fun v y hv => ⟨v, rfl⟩) s.m2 q k' D left cnt rfl HR.out ?_ ?_)
      · intro hc0 hl0
        have HH : Hid (∃ m1 m2 k, Mv w B p room s wr { n := s.n, m1 := m1, m2 := m2, k1 := k, k2 := k, pa := none, pn := 0, pc := 0, f1 := f', f2 := f', vs := [], F := crF f' cuts s.F }) := Lib.hid ⟨s.m2, m3, k', by rw [← crV_all (came_names HD.out HC.out hl0)]; exact HV7.out⟩
        clear hc0 hl0
        go_wp2_with fail
        go_ret
        exact ⟨rfl, by rw [HF.out]; exact HH.out⟩
      · intro x c kl yd yp w2 cnt2 hkey hlk hv hat hrg2 hlt hg2 hs2 hen
        obtain ⟨x', ex, rfl, _⟩ := Maps.keyOf_str Try.underlying9 hkey
        obtain rfl : x = x' := encStr_inj ex
        have hsome : (f' (litS (tBA x))).isSome = true := by rw [litS_tBA, ← HD.out.has]; exact has_true_of_atKey hat
        obtain ⟨v, hfv⟩ := Option.isSome_iff_exists.1 hsome
        have hval := HD.out.val _ _ (by rw [litS_tBA] at hfv; exact hfv) (.held v)
        have hyd := anyE_inv hv
        rw [hat] at hval
        obtain rfl : c = v := by
          simp only [Prod.mk.injEq] at hyd
          rw [hyd.1] at hval
          exact DataW.held.inj hval
        obtain ⟨y, hy, rfl⟩ := HGO.out.ins _ _ hfv
        have k2 : Kept (fun k => k = q) wr w2 := (Kept.of_grown hg2).mono (fun k hk => by simpa using hk.symm)
        have hyd' : y.dur ≤ y.bs.length ∧ y.num ≤ 1000000 ∧ y.bs.length ≤ 100000000 := by
          have h1 := HOK.out.num y hy
          have h2 := tot_mem hy
          have h3 := HOK.out.tot
          have h4 := HC5.out
          exact ⟨H.out.fls.dur y hy, by omega, by omega⟩
        obtain ⟨z, hz, hzg, hzc, hzn, hzl⟩ := crV_get (f := f') (V := ss.map tBA) (cuts := cuts) hy hyd'.1
        have hat7 : ∀ b, ({ n := s.n, m1 := s.m2, m2 := m3, k1 := k', k2 := k', pa := none, pn := 0, pc := 0, f1 := f', f2 := f', vs := [], F := crV f' (ss.map tBA) cuts s.F } : Sta).at_ p b → ¬ b = q := by
          rintro b hb rfl
          rcases hb with hb | hb | hb | hb | ⟨u, hu, hb⟩
          · exact HNAT.out _ (.inl hb) rfl
          · exact HNAT.out _ (.inr (.inl hb)) rfl
          · exact HNAT.out _ (.inr (.inr (.inl hb))) rfl
          · exact HNAT.out _ (.inr (.inr (.inr (.inl hb)))) rfl
          · obtain ⟨u0, hu0, rfl⟩ := List.mem_map.1 hu
            refine HNAT.out _ (.inr (.inr (.inr (.inr ⟨u0, hu0, ?_⟩)))) rfl
            split at hb <;> exact hb
        have HV8 := Lib.hid (HV7.out.aside k2 hat7 (fun b hb => by rw [hb]; exact HQ.out))
        have HR2 := Lib.hid hrg2
        have HLT := Lib.hid hlt
        have HC2 := Lib.hid (HC.out.step hlk hat)
        have hrow8 : Row w2 ca cl cuts := HRW.out.keep HV8.out.kept (fun ad ha h0 => HFAR.out ad ha h0)
        have hcall := icrash_any (w := w2) z ca cl cc cuts (HV8.out.now.fls.blk z hz) (HV8.out.now.fls.dur z hz) (by omega) (HV8.out.now.fls.own z hz).cap.1 hrow8 (by omega)
        rw [hzg] at hcall
        have HCALL := Lib.hid hcall
        have HZ : Hid (z ∈ crV f' (ss.map tBA) cuts s.F ∧ z.g = y.g ∧ z.cr cuts = y.cr cuts) := Lib.hid ⟨hz, hzg, hzc⟩
        have HYM := Lib.hid hy
        have HFV := Lib.hid hfv
        simp only [Fi.ptr] at hen
        clear hkey hlk hv hat hrg2 hlt hg2 hs2 ex hsome hval hyd hyd' hfv k2 hat7 hrow8 hcall hz hzg hzc hzn hzl hy
        go_wp2_with fail
        refine HCALL.out.mono ?_
        rintro e w9 ⟨rfl, hb9, hk9⟩
        obtain ⟨hz, hzg, hzc⟩ := HZ.out
        have hdz := HV8.out.now.fls.dur z hz
        have hlz := z.cr_len cuts hdz
        have ho9 : Own w9 B z.a (z.cr cuts).bs.length z.cap (z.cr cuts).bs := by
          have h1 := ((HV8.out.now.fls.own z hz).upto (Fi.cut_le cuts hdz)).keep hk9 (fun ad ha e => own_notBlk (HV8.out.now.fls.own z hz) (HV8.out.now.fls.blk z hz) (by decide) ⟨ad, ha, e.symm⟩)
          rw [hlz]
          exact h1
        have hup := HV8.out.now.up (x := z) (x' := z.cr cuts) hz rfl hb9 ho9 (by rw [hlz]; exact Nat.le_refl _) (fun b hb => HV8.out.now.fls.byte z hz b (List.mem_of_mem_take hb)) (hk9.mono fun i hi => .inl hi) (fun ad ha => .inl ⟨ad, ha, rfl⟩)
        have HV9 : Hid (Mv w B p room s w9 { n := s.n, m1 := s.m2, m2 := m3, k1 := k', k2 := k', pa := none, pn := 0, pc := 0, f1 := f', f2 := f', vs := [], F := crV f' ((ss ++ [x]).map tBA) cuts s.F }) := Lib.hid (by
          have h1 := HV8.out.trans hup
          rw [hzc] at h1
          rw [List.map_append, List.map_cons, List.map_nil, ← crV_step H.out.fls.nodup HYM.out HFV.out]
          exact h1)
        have HR9 : Hid (w9.ranges Try.prog 9 anyE s.m2 q k' D (fun u => left u && !u.sameKey (.string x)) cnt2) := Lib.hid (ranges_keep HR2.out hk9 (fun e => HV8.out.now.mp1.ne (HV8.out.now.fls.blk z hz) e) (fun e => iter_notBlk HR2.out (HV8.out.now.fls.blk z hz) e.symm))
        clear hb9 hk9 hz hzg hzc hdz hlz ho9 hup HCALL HZ HYM HFV
        go_wp2_with fail
        go_roundw
        case rel => exact ⟨_, cnt2, ss ++ [x], HR9, HC2, HV9⟩
        case measure => rw [HR9.out.left_eq, HR.out.left_eq]; exact HLT.out
end Go.Proofs.Ytjpmjidpdgikgaa
