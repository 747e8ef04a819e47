/- Walk of Append, where the name is valid and there is room; a change of names noted. -/
import Derived.Test.YtjpmjidpdgikgaaKe
namespace Go.Proofs.Ytjpmjidpdgikgaa
open Go.RowKit Go.Maps

theorem chF_in {f : Lit → Option Value} {F F' : List Fi} {gone set : ByteArray} {v : Value} (h : NamesIn f F) (hF : ∀ x ∈ F, x ∈ F') (hv : set.size ≠ 0 → ∃ x ∈ F', v = x.ptr) : NamesIn (chF f gone set v) F' := by
  have hc : NamesIn (cutF f (litS gone)) F' := fun kl u hu => by
    unfold cutF at hu
    split at hu
    · cases hu
    · obtain ⟨x, hx, e⟩ := h kl u hu
      exact ⟨x, hF x hx, e⟩
  unfold chF
  split
  · exact hc
  · rename_i h0
    intro kl u hu
    unfold upd at hu
    split at hu
    · obtain rfl := Option.some.inj hu
      exact hv h0
    · exact hc kl u hu
/-- A change of names noted. -/
theorem Dz.note {w w' : World} {B p room : Nat} {s : Sta} (h : Dz w B p room s) {gone set : ByteArray} {v : Option Addr} {e : Ending} (hv : set.size ≠ 0 → ∃ x ∈ s.F, Value.pointer v = x.ptr) (hn : Noted B p room s.n s.m1 s.k1 (some s.m2) s.f1 s.pa s.vs gone set v w e w') :
    ∃ k' qa qn qc, Mv w B p room s w' { s with k1 := k', pa := qa, pn := qn, pc := qc, f1 := chF s.f1 gone set (.pointer v), vs := addCh s.vs gone set v } := by
  obtain ⟨_, k', qa, qn, qc, _, h1, h2, h3, h4, h5⟩ := hn
  have nP : ∀ i, i = p ∨ i = s.m1 ∨ At s.pa i → s.at_ p i := fun i hi => by
    rcases hi with hi | hi | hi
    · exact .inl hi
    · exact .inr (.inl hi)
    · exact .inr (.inr (.inr (.inl hi)))
  refine ⟨k', qa, qn, qc, ⟨h1, h.room, h2, h.mp2.kept h5 ?_, h.ne, h3, h.fls.keep h5 ?_, chF_in h.nms (fun _ hx => hx) hv, h.low⟩, h5.mono nP, ?_⟩
  · rintro (e | e | e)
    · exact h.mp2.ne h.blk e
    · exact h.ne e.symm
    · exact ownG_notMap h.pend h.mp2 e
  · rintro i ⟨x, hx, rfl | hi⟩ (e | e | e)
    · exact (h.fls.blk x hx).ne_type h.blk (by decide) e
    · exact h.mp1.ne (h.fls.blk x hx) e.symm
    · exact ownG_notBlk h.pend (h.fls.blk x hx) (by decide) e
    · exact own_notBlk (h.fls.own x hx) h.blk (by decide) (e ▸ hi)
    · exact own_notMap (h.fls.own x hx) h.mp1 (e ▸ hi)
    · exact own_notOwnG (h.fls.own x hx) h.pend (by decide) hi e
  · rintro i (hi | hi | hi | ⟨ad, ha, rfl⟩ | hi)
    · exact .inl (.inl hi)
    · exact .inl (.inr (.inl hi))
    · exact .inl (.inr (.inr (.inl hi)))
    · rcases h4 ad ha with ⟨ad0, h0, e0⟩ | hw
      · exact .inl (.inr (.inr (.inr (.inl ⟨ad0, h0, e0⟩))))
      · exact .inr hw
    · exact .inl (.inr (.inr (.inr (.inr hi))))
theorem exec_addI {ev : Operand → Value} {o : Oper} {w : World} {x y : Operand} {t : TypeId} {k : IntKind} {a b z : Int} (ho : o.op = .binOp .add 3 x y t) (hx : ev x = .int k a) (hy : ev y = .int k b) (hz : k.wrap (a + b) = z) : (execOp ev o).run Try.prog w = .ok (.value (.int k z)) w := by
  subst hz
  unfold execOp
  simp [ho, hx, hy, eqGuard, binOp, Op.intArith]
theorem exec_eqlP {ev : Operand → Value} {o : Oper} {w : World} {x y : Operand} {t : TypeId} {v : Option Addr} {r : Bool} (ho : o.op = .binOp .eql 51 x y t) (hx : ev x = .pointer v) (hy : ev y = .pointer none) (hr : v.isNone = r) : (execOp ev o).run Try.prog w = .ok (.value (.bool r)) w := by
  subst hr
  unfold execOp
  simp only [ho, hx, hy]
  cases v <;> go_simp
/-- What Append leaves where the name is one. -/
def AppOld (B p room : Nat) (x : Fi) (bs : List Nat) (s : Sta) (w : World) (e : Ending) (w' : World) : Prop := e = .returned (.int .i64 0) ∧ ∃ a cap, Mv w B p room s w' { s with F := upF s.F { x with a := a, cap := cap, bs := x.bs ++ bs } }
set_option maxRecDepth 100000 in
set_option maxHeartbeats 2000000 in
theorem dappend_old {w : World} {B p room : Nat} {s : Sta} (h : Dz w B p room s) (hg : Good s.f1 s.F) (ht : tot s.F ≤ 900000) {name : ByteArray} (hn : 1 ≤ name.size ∧ name.size ≤ 32) {x : Fi} (hx : x ∈ s.F) (hf : s.f1 (litS name) = some x.ptr) {ba : Option Addr} {bl bc : Nat} {bs : List Nat} (hr : Row w ba bl bs) (hbz : ba = none → bl = 0 ∧ bc = 0) (hbl : bl ≤ 65536)
    (hfar : ∀ ad, ba = some ad → bl ≠ 0 → ¬ s.at_ p ad.block) (hfit : tot s.F + bl ≤ room) (hroom : room ≤ 16777216) : Calls Try.prog 11 #[.pointer (some ⟨p, 0, none⟩), .string name, .slice ba bl bc] w (AppOld B p room x bs s w) := by
  have HMd := begin_any h.blk h.room
  have HV := valid_any name
  rw [show decide (1 ≤ name.size ∧ name.size ≤ 32) = true by simpa using hn] at HV
  have HUS1 := Lib.hid (fun W (hW : Below w.heap.size w W) => used_any (h.below hW) hg.once (by omega))
  have HFIT : Hid (∀ L, NameL s.f1 L → usd s.f1 s.F L + bl ≤ room) := Lib.hid (fun L hL => by have := usd_le hL hg.ins hg.once h.fls.nodup; omega)
  have HROOM := Lib.hid hroom
  have HSM : Hid (x.bs.length + bl ≤ 1000000) := Lib.hid (by have := tot_mem hx; omega)
  have HBZ := Lib.hid hbz
  have q3 : decide ((bl : Int) > 65536) = false := by simp; omega
  have HH := Lib.hid h
  have HX := Lib.hid hx
  have HF := Lib.hid hf
  have HR := Lib.hid hr
  have HFAR := Lib.hid hfar
  have HNS : Hid (name.size ≤ 1000000) := Lib.hid (by omega)
  clear h hg ht hx hf hr hbz hbl hfar hfit hroom hn
  go_enter Try.func11, Try.ntmps11
  go_wp2_with fail
  refine HMd.mono ?_
  rintro e w1 ⟨rfl, hb⟩
  have HB1 := Lib.hid hb
  clear hb HMd
  go_wp2_with fail
  refine (HV w1).mono ?_
  rintro e w2 ⟨rfl, hb⟩
  have HB2 := Lib.hid (HB1.out.trans (hb.mono HB1.out.size))
  clear hb HB1 HV
  have u2 : w2.cell? ⟨p, 2, none⟩ = some (.map (some s.m1)) := (HH.out.below HB2.out).blk.cell 2
  have hl := look_any (HH.out.below HB2.out).mp1 HNS.out
  rw [HF.out] at hl
  simp only [Option.getD_some, Fi.ptr] at hl
  go_upto_region 7 with fail
  clear u2 hl q3
  have HUS := Lib.hid (HUS1.out w2.drew (HB2.out.trans ((drew_below w2).mono HB2.out.size)))
  have HB3 := Lib.hid (HB2.out.trans ((drew_below w2).mono HB2.out.size))
  refine wp_region_held_drew (S := fun W => Dz W B p room s) (by kernel_rfl) (HH.out.below HB3.out) (fun hS => ?_)
  refine held_take 0 28 (.pointer (some ⟨p, 0, none⟩)) rfl rfl (by kernel_rfl) (by kernel_rfl) (by kernel_rfl) (fun _ _ _ h => h) (by kernel_rfl) (fun _ _ => rfl) hS ?_
  simp only [Act.put, List.setIfInBounds_toArray, List.set_cons_zero, List.set_cons_succ]
  refine held_take 2 30 (.slice ba bl bc) rfl rfl (by kernel_rfl) (by kernel_rfl) (by kernel_rfl) (fun _ _ _ h => h) (by kernel_rfl) (fun _ _ => rfl) hS ?_
  simp only [Act.put, List.setIfInBounds_toArray, List.set_cons_zero, List.set_cons_succ]
  refine held_take 3 31 (.int .i64 (bl : Int)) rfl rfl (by kernel_rfl) (by kernel_rfl) (by kernel_rfl) (fun _ _ _ h => h) (by kernel_rfl) (fun _ _ => by kernel_rfl) hS ?_
  simp only [Act.put, List.setIfInBounds_toArray, List.set_cons_zero, List.set_cons_succ]
  refine held_take 5 33 (.pointer (some ⟨p, 0, none⟩)) rfl rfl (by kernel_rfl) (by kernel_rfl) (by kernel_rfl) (fun _ _ _ h => h) (by kernel_rfl) (fun _ _ => rfl) hS ?_
  simp only [Act.put, List.setIfInBounds_toArray, List.set_cons_zero, List.set_cons_succ]
  refine held_take 6 34 (.pointer (some ⟨p, 0, none⟩)) rfl rfl (by kernel_rfl) (by kernel_rfl) (by kernel_rfl) (fun _ _ _ h => h) (by kernel_rfl) (fun _ _ => exec_nil rfl rfl) hS ?_
  simp only [Act.put, List.setIfInBounds_toArray, List.set_cons_zero, List.set_cons_succ]
  refine held_take 7 35 (.pointer (some ⟨p, 0, none⟩)) rfl rfl (by kernel_rfl) (by kernel_rfl) (by kernel_rfl) (fun _ _ _ h => h) (by kernel_rfl) (fun _ _ => (by kernel_rfl)) hS ?_
  simp only [Act.put, List.setIfInBounds_toArray, List.set_cons_zero, List.set_cons_succ]
  refine held_take 8 36 (.int .i64 (room : Int)) rfl rfl (by kernel_rfl) (by kernel_rfl) (by kernel_rfl) (fun _ _ _ h => h) (by kernel_rfl) (fun _ h => exec_cell rfl rfl (load_cell (by kernel_rfl) (h.blk.cell 0))) hS ?_
  simp only [Act.put, List.setIfInBounds_toArray, List.set_cons_zero, List.set_cons_succ]
  refine held_callP 1 29 17 #[(.pointer (some ⟨p, 0, none⟩))] rfl (by kernel_rfl) rfl (by kernel_rfl) (by kernel_rfl) HUS.out (fun e w101 hP => ?_)
  obtain ⟨L, hL, hLk, rfl, hbu⟩ := hP
  refine ⟨_, rfl, hS.below hbu, fun hS => ?_⟩
  have hle : usd s.f1 s.F L + bl ≤ room := HFIT.out L hL
  have hadd : IntKind.i64.wrap (((usd s.f1 s.F L : Nat) : Int) + (bl : Int)) = ((usd s.f1 s.F L + bl : Nat) : Int) := wrap_add (by have := HROOM.out; omega)
  have hgt : decide ((room : Int) < ((usd s.f1 s.F L + bl : Nat) : Int)) = false := by simp; omega
  simp only [Act.put, List.setIfInBounds_toArray, List.set_cons_zero, List.set_cons_succ]
  refine held_take 4 32 (.int .i64 ((usd s.f1 s.F L + bl : Nat) : Int)) rfl rfl (by kernel_rfl) (by kernel_rfl) (by kernel_rfl) (fun _ _ _ h => h) (by kernel_rfl) (fun _ _ => exec_addI rfl rfl rfl hadd) hS ?_
  simp only [Act.put, List.setIfInBounds_toArray, List.set_cons_zero, List.set_cons_succ]
  refine held_take 9 37 (.bool false) rfl rfl (by kernel_rfl) (by kernel_rfl) (by kernel_rfl) (fun _ _ _ h => h) (by kernel_rfl) (fun _ _ => exec_gtrI rfl rfl rfl hgt) hS ?_
  simp only [Act.put, List.setIfInBounds_toArray, List.set_cons_zero, List.set_cons_succ]
  refine held_take 10 38 (.bool false) rfl rfl (by kernel_rfl) (by kernel_rfl) (by kernel_rfl) (fun _ _ _ h => h) (by kernel_rfl) (fun _ _ => rfl) hS ?_
  simp only [Act.put, List.setIfInBounds_toArray, List.set_cons_zero, List.set_cons_succ]
  refine held_take 11 39 (.pointer (some ⟨x.g, 0, none⟩)) rfl rfl (by kernel_rfl) (by kernel_rfl) (by kernel_rfl) (fun _ _ _ h => h) (by kernel_rfl) (fun _ _ => rfl) hS ?_
  simp only [Act.put, List.setIfInBounds_toArray, List.set_cons_zero, List.set_cons_succ]
  refine held_take 12 40 (.bool false) rfl rfl (by kernel_rfl) (by kernel_rfl) (by kernel_rfl) (fun _ _ _ h => h) (by kernel_rfl) (fun _ _ => exec_eqlP rfl rfl rfl rfl) hS ?_
  simp only [Act.put, List.setIfInBounds_toArray, List.set_cons_zero, List.set_cons_succ]
  refine held_take 13 41 (.bool false) rfl rfl (by kernel_rfl) (by kernel_rfl) (by kernel_rfl) (fun _ _ _ h => h) (by kernel_rfl) (fun _ _ => rfl) hS ?_
  simp only [Act.put, List.setIfInBounds_toArray, List.set_cons_zero, List.set_cons_succ]
  refine held_skip 14 42 rfl rfl (by kernel_rfl) (by kernel_rfl) (by kernel_rfl) (fun _ _ _ h => h) (by kernel_rfl) hS ?_
  simp only [Act.put, List.setIfInBounds_toArray, List.set_cons_zero, List.set_cons_succ]
  refine held_skip 15 43 rfl rfl (by kernel_rfl) (by kernel_rfl) (by kernel_rfl) (fun _ _ _ h => h) (by kernel_rfl) hS ?_
  simp only [Act.put, List.setIfInBounds_toArray, List.set_cons_zero, List.set_cons_succ]
  refine held_skip 16 44 rfl rfl (by kernel_rfl) (by kernel_rfl) (by kernel_rfl) (fun _ _ _ h => h) (by kernel_rfl) hS ?_
  simp only [Act.put, List.setIfInBounds_toArray, List.set_cons_zero, List.set_cons_succ]
  refine held_skip 17 45 rfl rfl (by kernel_rfl) (by kernel_rfl) (by kernel_rfl) (fun _ _ _ h => h) (by kernel_rfl) hS ?_
  simp only [Act.put, List.setIfInBounds_toArray, List.set_cons_zero, List.set_cons_succ]
  refine held_skip 18 46 rfl rfl (by kernel_rfl) (by kernel_rfl) (by kernel_rfl) (fun _ _ _ h => h) (by kernel_rfl) hS ?_
  simp only [Act.put, List.setIfInBounds_toArray, List.set_cons_zero, List.set_cons_succ]
  refine held_take 19 47 (.bool false) rfl rfl (by kernel_rfl) (by kernel_rfl) (by kernel_rfl) (fun _ _ _ h => h) (by kernel_rfl) (fun _ _ => rfl) hS ?_
  simp only [Act.put, List.setIfInBounds_toArray, List.set_cons_zero, List.set_cons_succ]
  refine held_take 20 48 (.bool false) rfl rfl (by kernel_rfl) (by kernel_rfl) (by kernel_rfl) (fun _ _ _ h => h) (by kernel_rfl) (fun _ _ => rfl) hS ?_
  simp only [Act.put, List.setIfInBounds_toArray, List.set_cons_zero, List.set_cons_succ]
  refine wpAnyH_done (by kernel_rfl) ?_ _
  have HS := Lib.hid (And.intro hS (HB3.out.trans (hbu.mono HB3.out.size)))
  clear hS hbu hL hLk hle hadd hgt HUS HUS1 HFIT
  generalize w101 = W at HS ⊢
  have HB13 : Hid (Blk W x.g 57 x.cells) := Lib.hid (HS.out.1.fls.blk x HX.out)
  have HO13 : Hid (Own W B x.a x.bs.length x.cap x.bs) := Lib.hid (HS.out.1.fls.own x HX.out)
  have HR13 : Hid (Row W ba bl bs) := Lib.hid (HR.out.below HS.out.2)
  have HLOW : Hid (B ≤ W.heap.size) := Lib.hid HS.out.1.hB
  have v1 : W.cell? ⟨x.g, 1, none⟩ = some (.slice x.a x.bs.length x.cap) := HB13.out.cell 1
  go_wp2_with (at_builtin; refine wpList_append_own_row _ rfl _ _ rfl B x.a x.bs.length x.cap x.bs rfl HO13.out ba bl bc bs rfl HR13.out HBZ.out (by have := HSM.out; omega) HLOW.out ?_; intro a' c' w14 ho hk hl; have HO14 := Lib.hid ho; have HK14 := Lib.hid hk; have HL14 := Lib.hid hl; clear ho hk hl; have HB14 := Lib.hid (HB13.out.kept HK14.out (fun hh => own_notBlk HO13.out HB13.out (by decide) hh)); have v14 : w14.cell? ⟨x.g, 1, none⟩ = some (.slice x.a x.bs.length x.cap) := HB14.out.cell 1; have z14 : w14.frozen? ⟨x.g, 1, none⟩ = false := HB14.out.frozen 1)
  go_ret
  have hb15 := HB14.out.set 1 (.slice a' (x.bs.length + bl) c')
  have ho15 := HO14.out.keep (Kept.setCell w14 ⟨x.g, 1, none⟩ (.slice a' (x.bs.length + bl) c')) (fun ad ha e => own_notBlk HO14.out HB14.out (by decide) ⟨ad, ha, e.symm⟩)
  have hk15 := (HK14.out.mono (T := fun i => i = x.g ∨ At x.a i) (fun i hi => .inr hi)).trans (Kept.setCell w14 ⟨x.g, 1, none⟩ (.slice a' (x.bs.length + bl) c')) (fun i hi => .inl (.inl hi))
  have hm := HS.out.1.up (x := x) (x' := { x with a := a', cap := c', bs := x.bs ++ bs }) HX.out rfl (by unfold Fi.cells; rw [List.length_append, HR13.out.size]; exact hb15) (by show Own _ _ _ (x.bs ++ bs).length _ _; rw [List.length_append, HR13.out.size]; exact ho15) (by have := HS.out.1.fls.dur x HX.out; show x.dur ≤ (x.bs ++ bs).length; rw [List.length_append]; omega)
    (fun u hu => (List.mem_append.1 hu).elim (HS.out.1.fls.byte x HX.out u) (HR13.out.small u)) hk15 HL14.out
  exact ⟨rfl, a', c', Mv.belowL HS.out.2 hm⟩

theorem upF_snoc {F : List Fi} {x x' : Fi} (h : ∀ y ∈ F, y.g ≠ x'.g) (e : x.g = x'.g) : upF (F ++ [x]) x' = F ++ [x'] := by
  unfold upF
  rw [List.map_append, List.map_cons, List.map_nil, if_pos e]
  congr 1
  rw [List.map_congr_left (g := id) (fun y hy => by rw [if_neg (h y hy)]; rfl), List.map_id]
/-- A new file, not named yet. -/
theorem Dz.fresh {w : World} {B p room : Nat} {s : Sta} (h : Dz w B p room s) : Mv w B p room s ((w.alloc (.cells #[.int .i64 (s.n : Int), .slice none 0 0, .int .i64 0] 57)).setCell ⟨p, 1, none⟩ (.int .i64 ((s.n + 1 : Nat) : Int))) { s with n := s.n + 1, F := s.F ++ [⟨w.heap.size, s.n, none, 0, 0, []⟩] } := by
  have hb := below_one w (.cells #[.int .i64 (s.n : Int), .slice none 0 0, .int .i64 0] 57)
  have h4 := h.below hb
  have hg : Blk (w.alloc (.cells #[.int .i64 (s.n : Int), .slice none 0 0, .int .i64 0] 57)) w.heap.size 57 #[.int .i64 (s.n : Int), .slice none 0 0, .int .i64 0] := Blk.new w 57 _
  have hB := h.hB
  have hf := h4.fls.snoc (x := ⟨w.heap.size, s.n, none, 0, 0, []⟩) hg (own_nil _ _) (Nat.le_refl _) hB (by simp) (fun y hy e => by have := (h.fls.blk y hy).lt; simp only at e; omega) (fun _ _ _ _ hh => by obtain ⟨ad, ha, _⟩ := hh; cases ha)
  generalize w.alloc (.cells #[.int .i64 (s.n : Int), .slice none 0 0, .int .i64 0] 57) = w4 at hb h4 hg hf
  have k := Kept.setCell w4 ⟨p, 1, none⟩ (.int .i64 ((s.n + 1 : Nat) : Int))
  refine ⟨⟨h4.blk.set 1 _, h4.room, h4.mp1.kept k (h4.mp1.ne h4.blk), h4.mp2.kept k (h4.mp2.ne h4.blk), h4.ne, h4.pend.keep k (fun ad ha e => ownG_notBlk h4.pend h4.blk (by decide) ⟨ad, ha, e.symm⟩), hf.keep k ?_, fun kl v hv => ?_, h4.low⟩, (Kept.of_below hb).trans k (fun i hi => .inl (.inl hi)), ?_⟩
  · rintro i ⟨x, hx, rfl | hi⟩ e
    · exact (hf.blk x hx).ne_type h4.blk (by decide) e
    · exact own_notBlk (hf.own x hx) h4.blk (by decide) ((show i = p from e) ▸ hi)
  · obtain ⟨x, hx, e⟩ := h4.nms kl v hv
    exact ⟨x, List.mem_append_left _ hx, e⟩
  · rintro i (hi | hi | hi | hi | ⟨x, hx, hi⟩)
    · exact .inl (.inl hi)
    · exact .inl (.inr (.inl hi))
    · exact .inl (.inr (.inr (.inl hi)))
    · exact .inl (.inr (.inr (.inr (.inl hi))))
    · rcases List.mem_append.1 hx with hx | hx
      · exact .inl (.inr (.inr (.inr (.inr ⟨x, hx, hi⟩))))
      · rw [List.mem_singleton.1 hx] at hi
        rcases hi with hi | ⟨ad, ha, _⟩
        · exact .inr (Nat.le_of_eq hi.symm)
        · cases ha
/-- What Append leaves where the name is none. -/
def AppNew (B p room : Nat) (name : ByteArray) (bs : List Nat) (s : Sta) (w : World) (e : Ending) (w' : World) : Prop := e = .returned (.int .i64 0) ∧ ∃ g a cap k qa qn qc, Mv w B p room s w' { s with n := s.n + 1, k1 := k, pa := qa, pn := qn, pc := qc, f1 := chF s.f1 ⟨#[]⟩ name (.pointer (some ⟨g, 0, none⟩)), vs := addCh s.vs ⟨#[]⟩ name (some ⟨g, 0, none⟩), F := s.F ++ [⟨g, s.n, a, cap, 0, bs⟩] }
set_option maxRecDepth 100000 in
set_option maxHeartbeats 2000000 in
theorem dappend_new {w : World} {B p room : Nat} {s : Sta} (h : Dz w B p room s) (hg : Good s.f1 s.F) (ht : tot s.F ≤ 900000) {name : ByteArray} (hn : 1 ≤ name.size ∧ name.size ≤ 32) (hf : s.f1 (litS name) = none) (hsn : s.n < 4096) (hk1 : s.k1 < 900000) {ba : Option Addr} {bl bc : Nat} {bs : List Nat} (hr : Row w ba bl bs) (hbz : ba = none → bl = 0 ∧ bc = 0) (hbl : bl ≤ 65536)
    (hfar : ∀ ad, ba = some ad → bl ≠ 0 → ¬ s.at_ p ad.block) (hfit : tot s.F + bl ≤ room) (hroom : room ≤ 16777216) : Calls Try.prog 11 #[.pointer (some ⟨p, 0, none⟩), .string name, .slice ba bl bc] w (AppNew B p room name bs s w) := by
  have HMd := begin_any h.blk h.room
  have HV := valid_any name
  rw [show decide (1 ≤ name.size ∧ name.size ≤ 32) = true by simpa using hn] at HV
  have HUS1 := Lib.hid (fun W (hW : Below w.heap.size w W) => used_any (h.below hW) hg.once (by omega))
  have HFIT : Hid (∀ L, NameL s.f1 L → usd s.f1 s.F L + bl ≤ room) := Lib.hid (fun L hL => by have := usd_le hL hg.ins hg.once h.fls.nodup; omega)
  have HROOM := Lib.hid hroom
  have HSM : Hid (0 + bl ≤ 1000000) := Lib.hid (by omega)
  have HBZ := Lib.hid hbz
  have q3 : decide ((bl : Int) > 65536) = false := by simp; omega
  have hnn : ((s.n : Int) == 4096) = false := by simp; omega
  have HH := Lib.hid h
  have HF := Lib.hid hf
  have HR := Lib.hid hr
  have HFAR := Lib.hid hfar
  have HNS : Hid (name.size ≤ 1000000) := Lib.hid (by omega)
  have HNZ : Hid (name.size ≠ 0) := Lib.hid (by omega)
  have HK1 := Lib.hid hk1
  have HSN := Lib.hid hsn
  clear h hg ht hf hr hbz hbl hfar hfit hroom hn hk1 hsn
  go_enter Try.func11, Try.ntmps11
  go_wp2_with fail
  refine HMd.mono ?_
  rintro e w1 ⟨rfl, hb⟩
  have HB1 := Lib.hid hb
  clear hb HMd
  go_wp2_with fail
  refine (HV w1).mono ?_
  rintro e w2 ⟨rfl, hb⟩
  have HB2 := Lib.hid (HB1.out.trans (hb.mono HB1.out.size))
  clear hb HB1 HV
  have u2 : w2.cell? ⟨p, 2, none⟩ = some (.map (some s.m1)) := (HH.out.below HB2.out).blk.cell 2
  have hl := look_any (HH.out.below HB2.out).mp1 HNS.out
  rw [HF.out] at hl
  simp only [Option.getD_none] at hl
  go_upto_region 7 with fail
  clear u2 hl q3
  have HUS := Lib.hid (HUS1.out w2.drew (HB2.out.trans ((drew_below w2).mono HB2.out.size)))
  have HB3 := Lib.hid (HB2.out.trans ((drew_below w2).mono HB2.out.size))
  refine wp_region_held_drew (S := fun W => Dz W B p room s) (by kernel_rfl) (HH.out.below HB3.out) (fun hS => ?_)
  refine held_take 0 28 (.pointer (some ⟨p, 0, none⟩)) rfl rfl (by kernel_rfl) (by kernel_rfl) (by kernel_rfl) (fun _ _ _ h => h) (by kernel_rfl) (fun _ _ => rfl) hS ?_
  simp only [Act.put, List.setIfInBounds_toArray, List.set_cons_zero, List.set_cons_succ]
  refine held_take 2 30 (.slice ba bl bc) rfl rfl (by kernel_rfl) (by kernel_rfl) (by kernel_rfl) (fun _ _ _ h => h) (by kernel_rfl) (fun _ _ => rfl) hS ?_
  simp only [Act.put, List.setIfInBounds_toArray, List.set_cons_zero, List.set_cons_succ]
  refine held_take 3 31 (.int .i64 (bl : Int)) rfl rfl (by kernel_rfl) (by kernel_rfl) (by kernel_rfl) (fun _ _ _ h => h) (by kernel_rfl) (fun _ _ => by kernel_rfl) hS ?_
  simp only [Act.put, List.setIfInBounds_toArray, List.set_cons_zero, List.set_cons_succ]
  refine held_take 5 33 (.pointer (some ⟨p, 0, none⟩)) rfl rfl (by kernel_rfl) (by kernel_rfl) (by kernel_rfl) (fun _ _ _ h => h) (by kernel_rfl) (fun _ _ => rfl) hS ?_
  simp only [Act.put, List.setIfInBounds_toArray, List.set_cons_zero, List.set_cons_succ]
  refine held_take 6 34 (.pointer (some ⟨p, 0, none⟩)) rfl rfl (by kernel_rfl) (by kernel_rfl) (by kernel_rfl) (fun _ _ _ h => h) (by kernel_rfl) (fun _ _ => exec_nil rfl rfl) hS ?_
  simp only [Act.put, List.setIfInBounds_toArray, List.set_cons_zero, List.set_cons_succ]
  refine held_take 7 35 (.pointer (some ⟨p, 0, none⟩)) rfl rfl (by kernel_rfl) (by kernel_rfl) (by kernel_rfl) (fun _ _ _ h => h) (by kernel_rfl) (fun _ _ => (by kernel_rfl)) hS ?_
  simp only [Act.put, List.setIfInBounds_toArray, List.set_cons_zero, List.set_cons_succ]
  refine held_take 8 36 (.int .i64 (room : Int)) rfl rfl (by kernel_rfl) (by kernel_rfl) (by kernel_rfl) (fun _ _ _ h => h) (by kernel_rfl) (fun _ h => exec_cell rfl rfl (load_cell (by kernel_rfl) (h.blk.cell 0))) hS ?_
  simp only [Act.put, List.setIfInBounds_toArray, List.set_cons_zero, List.set_cons_succ]
  refine held_callP 1 29 17 #[(.pointer (some ⟨p, 0, none⟩))] rfl (by kernel_rfl) rfl (by kernel_rfl) (by kernel_rfl) HUS.out (fun e w101 hP => ?_)
  obtain ⟨L, hL, hLk, rfl, hbu⟩ := hP
  refine ⟨_, rfl, hS.below hbu, fun hS => ?_⟩
  have hle : usd s.f1 s.F L + bl ≤ room := HFIT.out L hL
  have hadd : IntKind.i64.wrap (((usd s.f1 s.F L : Nat) : Int) + (bl : Int)) = ((usd s.f1 s.F L + bl : Nat) : Int) := wrap_add (by have := HROOM.out; omega)
  have hgt : decide ((room : Int) < ((usd s.f1 s.F L + bl : Nat) : Int)) = false := by simp; omega
  simp only [Act.put, List.setIfInBounds_toArray, List.set_cons_zero, List.set_cons_succ]
  refine held_take 4 32 (.int .i64 ((usd s.f1 s.F L + bl : Nat) : Int)) rfl rfl (by kernel_rfl) (by kernel_rfl) (by kernel_rfl) (fun _ _ _ h => h) (by kernel_rfl) (fun _ _ => exec_addI rfl rfl rfl hadd) hS ?_
  simp only [Act.put, List.setIfInBounds_toArray, List.set_cons_zero, List.set_cons_succ]
  refine held_take 9 37 (.bool false) rfl rfl (by kernel_rfl) (by kernel_rfl) (by kernel_rfl) (fun _ _ _ h => h) (by kernel_rfl) (fun _ _ => exec_gtrI rfl rfl rfl hgt) hS ?_
  simp only [Act.put, List.setIfInBounds_toArray, List.set_cons_zero, List.set_cons_succ]
  refine held_take 10 38 (.bool false) rfl rfl (by kernel_rfl) (by kernel_rfl) (by kernel_rfl) (fun _ _ _ h => h) (by kernel_rfl) (fun _ _ => rfl) hS ?_
  simp only [Act.put, List.setIfInBounds_toArray, List.set_cons_zero, List.set_cons_succ]
  refine held_take 11 39 (.pointer none) rfl rfl (by kernel_rfl) (by kernel_rfl) (by kernel_rfl) (fun _ _ _ h => h) (by kernel_rfl) (fun _ _ => rfl) hS ?_
  simp only [Act.put, List.setIfInBounds_toArray, List.set_cons_zero, List.set_cons_succ]
  refine held_take 12 40 (.bool true) rfl rfl (by kernel_rfl) (by kernel_rfl) (by kernel_rfl) (fun _ _ _ h => h) (by kernel_rfl) (fun _ _ => exec_eqlP rfl rfl rfl rfl) hS ?_
  simp only [Act.put, List.setIfInBounds_toArray, List.set_cons_zero, List.set_cons_succ]
  refine held_take 13 41 (.bool true) rfl rfl (by kernel_rfl) (by kernel_rfl) (by kernel_rfl) (fun _ _ _ h => h) (by kernel_rfl) (fun _ _ => rfl) hS ?_
  simp only [Act.put, List.setIfInBounds_toArray, List.set_cons_zero, List.set_cons_succ]
  refine held_take 14 42 (.pointer (some ⟨p, 0, none⟩)) rfl rfl (by kernel_rfl) (by kernel_rfl) (by kernel_rfl) (fun _ _ _ h => h) (by kernel_rfl) (fun _ _ => rfl) hS ?_
  simp only [Act.put, List.setIfInBounds_toArray, List.set_cons_zero, List.set_cons_succ]
  refine held_take 15 43 (.pointer (some ⟨p, 0, none⟩)) rfl rfl (by kernel_rfl) (by kernel_rfl) (by kernel_rfl) (fun _ _ _ h => h) (by kernel_rfl) (fun _ _ => exec_nil rfl rfl) hS ?_
  simp only [Act.put, List.setIfInBounds_toArray, List.set_cons_zero, List.set_cons_succ]
  refine held_take 16 44 (.pointer (some ⟨p, 1, none⟩)) rfl rfl (by kernel_rfl) (by kernel_rfl) (by kernel_rfl) (fun _ _ _ h => h) (by kernel_rfl) (fun _ _ => (by kernel_rfl)) hS ?_
  simp only [Act.put, List.setIfInBounds_toArray, List.set_cons_zero, List.set_cons_succ]
  refine held_take 17 45 (.int .i64 (s.n : Int)) rfl rfl (by kernel_rfl) (by kernel_rfl) (by kernel_rfl) (fun _ _ _ h => h) (by kernel_rfl) (fun _ h => exec_cell rfl rfl (load_cell (by kernel_rfl) (h.blk.cell 1))) hS ?_
  simp only [Act.put, List.setIfInBounds_toArray, List.set_cons_zero, List.set_cons_succ]
  refine held_take 18 46 (.bool false) rfl rfl (by kernel_rfl) (by kernel_rfl) (by kernel_rfl) (fun _ _ _ h => h) (by kernel_rfl) (fun _ _ => exec_eqlI trivial rfl rfl rfl hnn) hS ?_
  simp only [Act.put, List.setIfInBounds_toArray, List.set_cons_zero, List.set_cons_succ]
  refine held_take 19 47 (.bool false) rfl rfl (by kernel_rfl) (by kernel_rfl) (by kernel_rfl) (fun _ _ _ h => h) (by kernel_rfl) (fun _ _ => rfl) hS ?_
  simp only [Act.put, List.setIfInBounds_toArray, List.set_cons_zero, List.set_cons_succ]
  refine held_take 20 48 (.bool false) rfl rfl (by kernel_rfl) (by kernel_rfl) (by kernel_rfl) (fun _ _ _ h => h) (by kernel_rfl) (fun _ _ => rfl) hS ?_
  simp only [Act.put, List.setIfInBounds_toArray, List.set_cons_zero, List.set_cons_succ]
  refine wpAnyH_done (by kernel_rfl) ?_ _
  have HS := Lib.hid (And.intro hS (HB3.out.trans (hbu.mono HB3.out.size)))
  clear hS hbu hL hLk hle hadd hgt HUS HUS1 HFIT hnn
  generalize w101 = W0 at HS ⊢
  have u1 : W0.cell? ⟨p, 1, none⟩ = some (.int .i64 (s.n : Int)) := HS.out.1.blk.cell 1
  go_upto_region 11 with fail
  have HFR := Lib.hid HS.out.1.fresh
  have u1 : (W0.alloc (.cells #[.int .i64 (s.n : Int), .slice none 0 0, .int .i64 0] 57)).cell? ⟨p, 1, none⟩ = some (.int .i64 (s.n : Int)) := (HS.out.1.below (below_one W0 _)).blk.cell 1
  have z1 : (W0.alloc (.cells #[.int .i64 (s.n : Int), .slice none 0 0, .int .i64 0] 57)).frozen? ⟨p, 1, none⟩ = false := (HS.out.1.below (below_one W0 _)).blk.frozen 1
  have hw : IntKind.i64.wrap ((s.n : Int) + 1) = ((s.n + 1 : Nat) : Int) := by have := HSN.out; rw [IntKind.wrap_i64]; omega
  generalize hg : W0.heap.size = g at HFR ⊢
  generalize W0.alloc (.cells #[.int .i64 (s.n : Int), .slice none 0 0, .int .i64 0] 57) = w4 at u1 z1 HFR ⊢
  go_upto_region 12 with fail
  have e1 : (.int .i64 ((s.n : Int) + 1) : Value) = .int .i64 ((s.n + 1 : Nat) : Int) := by rw [Int.natCast_succ]
  rw [e1]
  clear e1 u1 z1 hw hg
  generalize w4.setCell ⟨p, 1, none⟩ (.int .i64 ((s.n + 1 : Nat) : Int)) = w5 at HFR ⊢
  have HNO := Lib.hid (note_any ⟨#[]⟩ name (some ⟨g, 0, none⟩) HFR.out.now.blk HFR.out.now.mp1 HFR.out.now.pend HFR.out.now.hB HK1.out (by decide) HNS.out)
  go_wp2_with fail
  refine HNO.out.mono ?_
  intro e W hn
  obtain rfl := hn.1
  obtain ⟨k', qa, qn, qc, hm6⟩ := HFR.out.now.note (fun _ => ⟨⟨g, s.n, none, 0, 0, []⟩, List.mem_append_right _ (List.mem_singleton.2 rfl), rfl⟩) hn
  have HM6 := Lib.hid (HFR.out.trans hm6)
  clear hn hm6 HNO HFR
  have hx6 : (⟨g, s.n, none, 0, 0, []⟩ : Fi) ∈ s.F ++ [⟨g, s.n, none, 0, 0, []⟩] := List.mem_append_right _ (List.mem_singleton.2 rfl)
  have HB13 : Hid (Blk W g 57 (inA s.n none 0 0 0)) := Lib.hid (HM6.out.now.fls.blk _ hx6)
  have HO13 : Hid (Own W B none 0 0 []) := Lib.hid (own_nil W B)
  have HR13 : Hid (Row W ba bl bs) := Lib.hid ((HR.out.below HS.out.2).keep HM6.out.kept (fun ad ha h0 => HFAR.out ad ha h0))
  have HLOW : Hid (B ≤ W.heap.size) := Lib.hid HM6.out.now.hB
  have HX6 := Lib.hid hx6
  clear hx6
  have v1 : W.cell? ⟨g, 1, none⟩ = some (.slice none 0 0) := HB13.out.cell 1
  go_wp2_with (at_builtin; refine wpList_append_own_row _ rfl _ _ rfl B none 0 0 [] rfl HO13.out ba bl bc bs rfl HR13.out HBZ.out (by have := HSM.out; omega) HLOW.out ?_; intro a' c' w14 ho hk hl; have HO14 := Lib.hid ho; have HK14 := Lib.hid hk; have HL14 := Lib.hid hl; clear ho hk hl; have HB14 := Lib.hid (HB13.out.kept HK14.out (fun hh => own_notBlk HO13.out HB13.out (by decide) hh)); have v14 : w14.cell? ⟨g, 1, none⟩ = some (.slice none 0 0) := HB14.out.cell 1; have z14 : w14.frozen? ⟨g, 1, none⟩ = false := HB14.out.frozen 1)
  go_ret
  have hb15 := HB14.out.set 1 (.slice a' (0 + bl) c')
  have ho15 := HO14.out.keep (Kept.setCell w14 ⟨g, 1, none⟩ (.slice a' (0 + bl) c')) (fun ad ha e => own_notBlk HO14.out HB14.out (by decide) ⟨ad, ha, e.symm⟩)
  have hk15 := (HK14.out.mono (T := fun i => i = g ∨ At none i) (fun i hi => .inr hi)).trans (Kept.setCell w14 ⟨g, 1, none⟩ (.slice a' (0 + bl) c')) (fun i hi => .inl (.inl hi))
  have hm := HM6.out.now.up (x := ⟨g, s.n, none, 0, 0, []⟩) (x' := ⟨g, s.n, a', c', 0, bs⟩) HX6.out rfl (by unfold Fi.cells; show Blk _ g 57 (inA s.n a' bs.length c' 0); rw [HR13.out.size]; have hq := hb15; simp only [Nat.zero_add] at hq ⊢; exact hq) (by show Own _ _ _ bs.length _ _; rw [HR13.out.size]; simpa only [Nat.zero_add, List.nil_append] using ho15) (Nat.zero_le _)
    (fun u hu => HR13.out.small u hu) (by simpa only [Nat.zero_add] using hk15) HL14.out
  have hne : ∀ y ∈ s.F, y.g ≠ g := fun y hy e => by
    have hnd := HM6.out.now.fls.nodup
    rw [List.map_append, List.nodup_append] at hnd
    exact hnd.2.2 y.g (List.mem_map_of_mem (f := (·.g)) hy) g (by simp) e
  have hm' := Mv.belowL HS.out.2 (HM6.out.trans hm)
  have e2 : upF (s.F ++ [⟨g, s.n, none, 0, 0, []⟩]) ⟨g, s.n, a', c', 0, bs⟩ = s.F ++ [⟨g, s.n, a', c', 0, bs⟩] := upF_snoc hne rfl
  refine ⟨rfl, g, a', c', k', qa, qn, qc, ?_⟩
  rw [← e2]
  simpa only [Nat.zero_add] using hm'
end Go.Proofs.Ytjpmjidpdgikgaa
