/- Walks of Add of a set of dots, and of what it calls. -/
import Derived.Test.YtkamldmcjegjgaaGrp2
namespace Go.Proofs.Ytkamldmcjegjgaa
open Go.RowKit Go.Maps

/-- How many entries block m has. -/
def mapLen (w : World) (m : Nat) : Nat := match w.heap[m]? with | some (.map es _) => es.size | _ => 0

theorem Mp.tight {w : World} {m : Nat} {L : List Dt} (h : Mp w m L) (hs : Srt L) (hr : ∀ x ∈ L, Raw x) : ∃ D : DataW Unit, w.ownsMap Try.prog 34 unitElem m L.length D ∧ (∀ kl, Maps.has D kl = true ↔ ∃ x ∈ L, kl = kd x) ∧ Maps.size D = L.length ∧ mapLen w m = L.length := by
  obtain ⟨D, n, ho, hk⟩ := h
  obtain ⟨es', rfl, hp, hl⟩ := ho.entries law34
  have hlen : es'.length = L.length := by
    have h1 : (es'.map (·.1)).Nodup := by
      rw [List.nodup_iff_pairwise_ne, List.pairwise_map]; exact hp
    have h2 : (L.map kd).Nodup := by
      rw [List.nodup_iff_pairwise_ne, List.pairwise_map]
      refine List.Pairwise.imp_of_mem (fun {a b} ha hb hab e => ?_) hs
      exact Dlt.irrefl b (kd_inj (hr a ha) (hr b hb) e ▸ hab)
    have h3 : (es'.map (·.1)).Perm (L.map kd) := by
      rw [List.perm_ext_iff_of_nodup h1 h2]
      intro kl
      have := hk kl
      rw [Maps.has_eq] at this
      rw [List.mem_map, List.mem_map]
      constructor
      · rintro ⟨q, hq, rfl⟩
        obtain ⟨x, hx, e⟩ := this.1 (List.any_eq_true.2 ⟨q, hq, WideAt.sameKey_self (hl q hq)⟩)
        exact ⟨x, hx, e.symm⟩
      · rintro ⟨x, hx, rfl⟩
        obtain ⟨q, hq, e⟩ := List.any_eq_true.1 (this.2 ⟨x, hx, rfl⟩)
        exact ⟨q, hq, WideAt.sameKey_eq e⟩
    simpa using h3.length_eq
  obtain ⟨es, clock, hb, F, hle, hD⟩ := ho
  have hes : es.size = L.length := by
    have := congrArg Maps.size hD
    simp only [Maps.size, length_sorted, List.length_map, Array.length_toList] at this
    omega
  exact ⟨_, ⟨es, clock, hb, F, by omega, hD⟩, hk, hlen, by simp [mapLen, hb, hes]⟩

theorem Mp.put {w : World} {m : Nat} {L : List Dt} (h : Mp w m L) (hs : Srt L) (hr : ∀ x ∈ L, Raw x) {x : Dt} (hx : Raw x) (hl : L.length < 1000000) :
    ∃ w2, (Instr.mapUpdate 51 (.map (some m)) x.val (.agg #[])).run Try.prog w = .ok () w2 ∧ Mp w2 m (ins x L) ∧ Kept (fun k => k = m) w w2 := by
  obtain ⟨D, ho, hk, _, _⟩ := h.tight hs hr
  obtain ⟨es', e1, hp, hkl⟩ := ho.entries law34
  obtain ⟨w2, hrun, ho2, hg⟩ := ho.update law34 und51 (by unfold maxLen; omega) (key34 x hx) unitElem_mk
  refine ⟨w2, hrun, ⟨_, _, ho2, fun kl => ?_⟩, (Kept.of_grown hg).mono fun k hk => by simpa using hk.symm⟩
  by_cases e : kl = kd x
  · subst e
    rw [has_put_same ⟨es', e1⟩ (law34.key (key34 x hx))]
    simp only [true_iff]
    exact ⟨x, (mem_ins _ _ _).2 (.inl rfl), rfl⟩
  · rw [has_put_other e, hk kl]
    constructor
    · rintro ⟨y, hy, rfl⟩; exact ⟨y, (mem_ins _ _ _).2 (.inr hy), rfl⟩
    · rintro ⟨y, hy, rfl⟩
      rcases (mem_ins _ _ _).1 hy with rfl | hy
      · exact absurd rfl e
      · exact ⟨y, hy, rfl⟩

theorem Mp.drop {w : World} {m : Nat} {L : List Dt} (h : Mp w m L) (hr : ∀ x ∈ L, Raw x) {x : Dt} (hx : Raw x) (ty : TypeId) :
    ∃ w2, (Builtin.delete_ #[51, 34] ty #[.map (some m), x.val]).run Try.prog w = .ok (.tuple #[]) w2 ∧ Mp w2 m (del x L) ∧ Kept (fun k => k = m) w w2 := by
  obtain ⟨D, n, ho, hk⟩ := h
  obtain ⟨w2, hrun, ho2, hg⟩ := ho.drop law34 und51 (key34 x hx) ty
  refine ⟨w2, hrun, ⟨_, _, ho2, fun kl => ?_⟩, (Kept.of_grown hg.grown).mono fun k hk => by simpa using hk.symm⟩
  by_cases e : kl = kd x
  · subst e
    rw [has_del_same]
    simp only [Bool.false_eq_true, false_iff]
    rintro ⟨y, hy, e⟩
    obtain ⟨hy, hne⟩ := (mem_del _ _ _).1 hy
    exact hne (kd_inj hx (hr y hy) e).symm
  · rw [has_del_other e, hk kl]
    constructor
    · rintro ⟨y, hy, rfl⟩; exact ⟨y, (mem_del _ _ _).2 ⟨hy, fun e2 => e (by rw [e2])⟩, rfl⟩
    · rintro ⟨y, hy, rfl⟩; exact ⟨y, ((mem_del _ _ _).1 hy).1, rfl⟩

theorem exec_put {ev : Operand → Value} {o : Oper} {y z u : Operand} {w w2 : World} {m : Nat} {x : Dt} (ho : o.op = .mapUpdate 51 y z u) (hy : ev y = .map (some m)) (hz : ev z = x.val) (hu : ev u = .agg #[]) (h : (Instr.mapUpdate 51 (.map (some m)) x.val (.agg #[])).run Try.prog w = .ok () w2) :
    (execOp ev o).run Try.prog w = .ok .skip w2 := by
  unfold execOp
  simp only [ho, hy, hz, hu, Sem.run_bind, h, Result.andThen_ok]
  rfl
theorem exec_drop {ev : Operand → Value} {o : Oper} {y z : Operand} {w w2 : World} {m : Nat} {x : Dt} (ho : o.op = Op.call { callee := Callee.builtin Builtin.delete, args := #[y, z], argTypes := #[51, 34] }) (hy : ev y = .map (some m)) (hz : ev z = x.val) (h : (Builtin.delete_ #[51, 34] o.type #[.map (some m), x.val]).run Try.prog w = .ok (.tuple #[]) w2) :
    (execOp ev o).run Try.prog w = .ok (.value (.tuple #[])) w2 := by
  unfold execOp
  simp [ho, resolve, invoke, builtin, hy, hz, h]

/-- What a region of the object's methods reads. -/
structure Lk (w W : World) (p m : Nat) (x : Dt) : Prop where
  map : W.cell? ⟨p, 16, none⟩ = some (.map (some m))
  dot : Blk W w.heap.size 34 #[.int .u8 (x.1 : Int), .int .u32 (x.2 : Int)]
theorem Gd.lk {w W : World} {p m : Nat} {c : V} {L : List Dt} {x : Dt} (h : Gd w W p m c L x) : Lk w W p m x := ⟨h.grp.map, h.dot⟩

/-- What addLoose answers. -/
structure Laid (p m : Nat) (c : V) (L : List Dt) (x : Dt) (w : World) (e : Ending) (w' : World) : Prop where
  ret : e = .returned (.int .i64 (addE c L x : Int))
  grp : Grp w' p m c (if addE c L x = 0 then ins x L else L)
  old : Kept (fun k => k = m) w w'

theorem addE_have {c : V} {L : List Dt} {x : Dt} (hd : V.dotB x.1 x.2 = true) (h : inB c L x = true) : addE c L x = 8 := by simp [addE, hd, h]
theorem addE_full {c : V} {L : List Dt} {x : Dt} (hd : V.dotB x.1 x.2 = true) (h : inB c L x = false) (h2 : c.at_ x.1 + 256 < x.2) : addE c L x = 10 := by simp [addE, hd, h, h2]
theorem addE_ok {c : V} {L : List Dt} {x : Dt} (hd : V.dotB x.1 x.2 = true) (h : inB c L x = false) (h2 : ¬ c.at_ x.1 + 256 < x.2) : addE c L x = 0 := by simp [addE, hd, h, h2]
theorem inB_loose {c : V} {L : List Dt} {x : Dt} (h : V.hasB c x.1 x.2 = false) : inB c L x = decide (x ∈ L) := by simp [inB, h]

set_option maxHeartbeats 1000000 in
theorem addloose_any {w : World} {p m : Nat} {c : V} {L : List Dt} (h : Grp w p m c L) (x : Dt) (hd : V.dotB x.1 x.2 = true) (hh : V.hasB c x.1 x.2 = false) (hl : L.length < 1000000) : Calls Try.prog 33 #[.pointer (some ⟨p, 0, none⟩), x.val] w (Laid p m c L x w) := by
  have hok := (dotB_iff _ _).1 hd
  have hx : Raw x := ⟨by omega, by omega⟩
  have hgt : c.at_ x.1 < x.2 := by
    rcases Nat.lt_or_ge (c.at_ x.1) x.2 with h1 | h1
    · exact h1
    · rw [(hasB_iff _ _ _).2 ⟨hok, h1⟩] at hh; cases hh
  have HT := Lib.hid (gd_new h x)
  have HX := Lib.hid hx
  have HD := Lib.hid hd
  have HH := Lib.hid (inB_loose (L := L) hh)
  have HN := Lib.hid hl
  have hr1 : x.1 < 16 := hok.1
  have hs : x.2 < 4294967296 := hx.2
  have hi0 : (0 : Int) ≤ (x.1 : Int) := by omega
  have hi1 : (x.1 : Int) < 16 := by omega
  obtain ⟨r, s⟩ := x
  clear h hx hl hd hh hok
  simp only at HT HD HH hgt hr1 hs hi0 hi1
  by_cases hm : (r, s) ∈ L
  · have HE := Lib.hid (addE_have HD.out (HH.out.trans (decide_eq_true hm)))
    have HM := Lib.hid hm
    clear hm hgt hs
    go_enter Try.func33, Try.ntmps33
    go_wp2_with fail
    generalize w.alloc (.cells #[.int .u8 (r : Int), .int .u32 (s : Int)] 34) = W at HT
    refine (loose_any HT.out.grp (r, s) HX.out).mono ?_
    rintro e w1 ⟨rfl, hb⟩
    have HT1 := Lib.hid (HT.out.below hb)
    clear hb
    rw [decide_eq_true HM.out]
    go_wp2_with fail
    go_ret
    exact ⟨by rw [HE.out]; rfl, by rw [if_neg (by rw [HE.out]; omega)]; exact HT1.out.grp, .of_below HT1.out.old⟩
  · have HM := Lib.hid (decide_eq_false hm)
    by_cases hf : c.at_ r + 256 < s
    · have HE := Lib.hid (addE_full HD.out (HH.out.trans HM.out) hf)
      clear hm
      go_enter Try.func33, Try.ntmps33
      go_wp2_with fail
      generalize w.alloc (.cells #[.int .u8 (r : Int), .int .u32 (s : Int)] 34) = W at HT
      refine (loose_any HT.out.grp (r, s) HX.out).mono ?_
      rintro e w1 ⟨rfl, hb⟩
      have HT1 := Lib.hid (HT.out.below hb)
      clear hb
      rw [HM.out]
      have c1 := HT1.out.rep
      have c2 := HT1.out.seq
      have c3 := HT1.out.grp.num hr1
      simp only at c1 c2
      generalize c.at_ r = y at c3 hgt hf
      have hwr := wrap_sub s y hs (by omega)
      have hg1 : (256 : Int) < (s : Int) - (y : Int) := by omega
      go_wp2_with fail
      go_region_held3 (fun w' => w'.cell? ⟨w.heap.size, 0, none⟩ = some (.int .u8 (r : Int)) ∧ w'.cell? ⟨w.heap.size, 1, none⟩ = some (.int .u32 (s : Int)) ∧ w'.cell? ⟨p, r, none⟩ = some (.int .u32 (y : Int))) (exact ⟨c1, c2, c3⟩) (fail)
      go_wp2_with fail
      go_ret
      exact ⟨by rw [HE.out]; rfl, by rw [if_neg (by rw [HE.out]; omega)]; exact HT1.out.grp.drew, .of_below HT1.out.old.drew⟩
    · have HE := Lib.hid (addE_ok HD.out (HH.out.trans HM.out) hf)
      have HM2 := Lib.hid hm
      clear hm
      go_enter Try.func33, Try.ntmps33
      go_wp2_with fail
      generalize w.alloc (.cells #[.int .u8 (r : Int), .int .u32 (s : Int)] 34) = W at HT
      refine (loose_any HT.out.grp (r, s) HX.out).mono ?_
      rintro e w1 ⟨rfl, hb⟩
      have HT1 := Lib.hid (HT.out.below hb)
      clear hb
      rw [HM.out]
      have c1 := HT1.out.rep
      have c2 := HT1.out.seq
      have c3 := HT1.out.grp.num hr1
      simp only at c1 c2
      generalize c.at_ r = y at c3 hgt hf
      have hwr := wrap_sub s y hs (by omega)
      have hg1 : (s : Int) - (y : Int) ≤ 256 := by omega
      go_wp2_with fail
      go_region_held3 (fun w' => w'.cell? ⟨w.heap.size, 0, none⟩ = some (.int .u8 (r : Int)) ∧ w'.cell? ⟨w.heap.size, 1, none⟩ = some (.int .u32 (s : Int)) ∧ w'.cell? ⟨p, r, none⟩ = some (.int .u32 (y : Int))) (exact ⟨c1, c2, c3⟩) (fail)
      have HT2 := Lib.hid HT1.out.drew
      clear c1 c2 c3
      go_wp2_with fail
      have HT3 := Lib.hid HT2.out.drew
      obtain ⟨w2, hrun, hmp, hk⟩ := HT3.out.grp.mp.put HT3.out.grp.srt HT3.out.grp.raw HX.out HN.out
      have hne := HT3.out.grp.ne
      have hlt := HT3.out.lt
      have hmp' := Lib.hid hmp
      have hk' := Lib.hid hk
      have hS2 : Lk w w2 p m (r, s) := ⟨(hk.at_ HT3.out.grp.map (fun e => hne e.symm)), HT3.out.dot.kept hk (by omega)⟩
      refine wp_region_held_drew (S := fun w' => Lk w w' p m (r, s)) (by kernel_rfl) HT3.out.lk (fun hS => ?_)
      refine held_take 0 19 (.pointer (some ⟨p, 0, none⟩)) rfl rfl (by kernel_rfl) (by kernel_rfl) (by kernel_rfl) (fun _ _ _ h => h) (by kernel_rfl) (fun _ _ => rfl) hS ?_
      simp only [Act.put, List.setIfInBounds_toArray, List.set_cons_zero, List.set_cons_succ]
      refine held_take 1 20 (.pointer (some ⟨p, 0, none⟩)) rfl rfl (by kernel_rfl) (by kernel_rfl) (by kernel_rfl) (fun _ _ _ h => h) (by kernel_rfl) (fun _ _ => (by kernel_rfl)) hS ?_
      simp only [Act.put, List.setIfInBounds_toArray, List.set_cons_zero, List.set_cons_succ]
      refine held_take 2 21 (.pointer (some ⟨p, 16, none⟩)) rfl rfl (by kernel_rfl) (by kernel_rfl) (by kernel_rfl) (fun _ _ _ h => h) (by kernel_rfl) (fun _ _ => (by kernel_rfl)) hS ?_
      simp only [Act.put, List.setIfInBounds_toArray, List.set_cons_zero, List.set_cons_succ]
      refine held_take 3 22 (.map (some m)) rfl rfl (by kernel_rfl) (by kernel_rfl) (by kernel_rfl) (fun _ _ _ h => h) (by kernel_rfl) (fun _ h => exec_cell rfl rfl (load_cell agg51 h.map)) hS ?_
      simp only [Act.put, List.setIfInBounds_toArray, List.set_cons_zero, List.set_cons_succ]
      refine held_take 4 23 (dotV r s) rfl rfl (by kernel_rfl) (by kernel_rfl) (by kernel_rfl) (fun _ _ _ h => h) (by kernel_rfl) (fun _ h => exec_load34 rfl rfl h.dot) hS ?_
      simp only [Act.put, List.setIfInBounds_toArray, List.set_cons_zero, List.set_cons_succ]
      refine held_take 5 24 (.agg #[]) rfl rfl (by kernel_rfl) (by kernel_rfl) (by kernel_rfl) (fun _ _ _ h => h) (by kernel_rfl) (fun _ _ => (by kernel_rfl)) hS ?_
      simp only [Act.put, List.setIfInBounds_toArray, List.set_cons_zero, List.set_cons_succ]
      refine held_void 6 rfl rfl (by kernel_rfl) (by kernel_rfl) (exec_put (x := (r, s)) rfl rfl rfl rfl hrun) hS2 ?_
      refine wpAnyH_done (by kernel_rfl) ?_ _
      clear hrun hmp hk hS hS2
      go_wp2_with fail
      go_ret
      refine ⟨by rw [HE.out]; rfl, ?_, (Kept.of_below HT3.out.old).trans hk'.out (fun _ h => .inl h)⟩
      rw [if_pos HE.out]
      refine ⟨HT3.out.grp.blk.kept hk'.out (fun e => hne e.symm), hmp'.out, srt_ins _ _ HT3.out.grp.srt HM2.out, fun y hy => ?_⟩
      rcases (mem_ins _ _ _).1 hy with rfl | hy
      · exact HX.out
      · exact HT3.out.grp.raw y hy

end Go.Proofs.Ytkamldmcjegjgaa
