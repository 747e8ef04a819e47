/- Segments as plain lists: what the frames of one tell, one behind the other. No program. More of segments as plain lists: what stands behind the head, beginnings of a segment, tails. No program. -/
import Derived.Test.YtfnaccmgmocolaaDoorOd
import Derived.Test.YtfnaccmgmocolaaDoorFf
namespace Go.Proofs.YtfnaccmgmocolaaDoor

namespace Seg

/-- The content of a frame of a number, and of an operation. -/
def pairB (k n : Nat) : List Nat := Vint.enc k ++ Vint.enc n
def recB (o : O) : List Nat := Vint.enc 2 ++ (Vint.enc o.bytes.length ++ o.bytes)

theorem pair_lt (k n : Nat) : ∀ c ∈ pairB k n, c < 256 := fun c h => by
  rcases List.mem_append.1 h with h | h
  · exact Vint.enc_lt _ c h
  · exact Vint.enc_lt _ c h
theorem rec_lt (o : O) : ∀ c ∈ recB o, c < 256 := fun c h => by
  rcases List.mem_append.1 h with h | h
  · exact Vint.enc_lt _ c h
  · rcases List.mem_append.1 h with h | h
    · exact Vint.enc_lt _ c h
    · exact o.bytes_lt c h
theorem pair_le {k n : Nat} (hk : k < 18446744073709551616) (hn : n < 18446744073709551616) : (pairB k n).length ≤ 20 := by
  have h1 := Vint.enc_ten hk
  have h2 := Vint.enc_ten hn
  unfold pairB
  rw [List.length_append]
  omega
theorem rec_le (o : O) : (recB o).length ≤ 420 := by
  have h1 := Vint.enc_ten (n := 2) (by omega)
  have h3 := o.bytes_le
  have h2 := Vint.enc_ten (n := o.bytes.length) (by omega)
  unfold recB
  rw [List.length_append, List.length_append]
  omega
theorem fr_rec_le (o : O) : (Frm.fr (recB o)).length ≤ 440 := by
  have h1 := rec_le o
  have h2 := Vint.enc_ten (n := (recB o).length) (by omega)
  rw [Frm.fr_len]
  omega
theorem fr_pair_le {k n : Nat} (hk : k < 18446744073709551616) (hn : n < 18446744073709551616) : (Frm.fr (pairB k n)).length ≤ 40 := by
  have h1 := pair_le hk hn
  have h2 := Vint.enc_ten (n := (pairB k n).length) (by omega)
  rw [Frm.fr_len]
  omega

theorem enc_cut {n m : Nat} {x y : List Nat} (hn : n < 18446744073709551616) (hm : m < 18446744073709551616) (h : Vint.enc n ++ x = Vint.enc m ++ y) : n = m ∧ x = y := by
  have h1 := num_enc hn x
  have h2 := num_enc hm y
  rw [h] at h1
  exact ⟨h1.1.symm.trans h2.1, h1.2.2.symm.trans h2.2.2⟩
theorem pair_inj {k n k' n' : Nat} (hk : k < 18446744073709551616) (hn : n < 18446744073709551616) (hk' : k' < 18446744073709551616) (hn' : n' < 18446744073709551616) (h : pairB k n = pairB k' n') : k = k' ∧ n = n' := by
  obtain ⟨h1, h2⟩ := enc_cut hk hk' h
  have := enc_cut (x := []) (y := []) hn hn' (by simpa using h2)
  exact ⟨h1, this.1⟩
theorem rec_pair {o : O} {k n : Nat} (hk : k < 18446744073709551616) (h : recB o = pairB k n) : k = 2 :=
  (enc_cut (n := 2) (by omega) hk h).1.symm
theorem rec_inj {o p : O} (h : recB o = recB p) : o = p := by
  have h1 := (enc_cut (n := 2) (m := 2) (by omega) (by omega) h).2
  have ho := o.bytes_le
  have hp := p.bytes_le
  exact O.bytes_inj (enc_cut (by omega) (by omega) h1).2

/-- The number behind a kind's, if the bytes are just these two. -/
noncomputable def num (k most : Nat) (fs : List Nat) : Option Nat := @dite _ (∃ n, n ≤ most ∧ fs = pairB k n) (Classical.propDecidable _) (fun h => some h.choose) (fun _ => none)
theorem num_some {k most n : Nat} {fs : List Nat} (hk : k < 18446744073709551616) (hm : most < 18446744073709551616) (hn : n ≤ most) (h : fs = pairB k n) : num k most fs = some n := by
  have hex : ∃ n, n ≤ most ∧ fs = pairB k n := ⟨n, hn, h⟩
  unfold num
  rw [dif_pos hex]
  have := hex.choose_spec
  exact congrArg some (pair_inj hk (by omega) hk (by omega) (this.2.symm.trans h)).2
theorem num_none {k most : Nat} {fs : List Nat} (h : ∀ n, n ≤ most → fs ≠ pairB k n) : num k most fs = none := by
  unfold num
  rw [dif_neg]
  rintro ⟨n, h1, h2⟩
  exact h n h1 h2
theorem num_two {k most : Nat} (fs : List Nat) : (∃ n, n ≤ most ∧ fs = pairB k n ∧ num k most fs = some n) ∨ ((∀ n, n ≤ most → fs ≠ pairB k n) ∧ num k most fs = none) := by
  by_cases h : ∃ n, n ≤ most ∧ fs = pairB k n
  · refine .inl ⟨h.choose, h.choose_spec.1, h.choose_spec.2, ?_⟩
    unfold num
    rw [dif_pos h]
  · have : ∀ n, n ≤ most → fs ≠ pairB k n := fun n h1 h2 => h ⟨n, h1, h2⟩
    exact .inr ⟨this, num_none this⟩

/-- The operation of a record. -/
noncomputable def opr (fs : List Nat) : Option O := @dite _ (∃ o : O, o.rightB 16 = true ∧ fs = recB o) (Classical.propDecidable _) (fun h => some h.choose) (fun _ => none)
theorem opr_some {o : O} {fs : List Nat} (hr : o.rightB 16 = true) (h : fs = recB o) : opr fs = some o := by
  have hex : ∃ o : O, o.rightB 16 = true ∧ fs = recB o := ⟨o, hr, h⟩
  unfold opr
  rw [dif_pos hex]
  exact congrArg some (rec_inj (hex.choose_spec.2.symm.trans h))
theorem opr_none {fs : List Nat} (h : ∀ o : O, o.rightB 16 = true → fs ≠ recB o) : opr fs = none := by
  unfold opr
  rw [dif_neg]
  rintro ⟨n, h1, h2⟩
  exact h n h1 h2
theorem opr_two (fs : List Nat) : (∃ o : O, o.rightB 16 = true ∧ fs = recB o ∧ opr fs = some o) ∨ ((∀ o : O, o.rightB 16 = true → fs ≠ recB o) ∧ opr fs = none) := by
  by_cases h : ∃ o : O, o.rightB 16 = true ∧ fs = recB o
  · refine .inl ⟨h.choose, h.choose_spec.1, h.choose_spec.2, ?_⟩
    unfold opr
    rw [dif_pos h]
  · have : ∀ o : O, o.rightB 16 = true → fs ≠ recB o := fun n h1 h2 => h ⟨n, h1, h2⟩
    exact .inr ⟨this, opr_none this⟩

/-! What a reader that takes a number, or bytes, behind a kind's number comes to. -/
/-- The two numbers are all that there is. -/
def pairD (k : Nat) (fs : List Nat) : Bool := decide (numX 0 fs = k ∧ doneB (numE (numE 0 fs) (numB 0 fs)) (numB (numE 0 fs) (numB 0 fs)) = true)
def pairN (fs : List Nat) : Nat := numX (numE 0 fs) (numB 0 fs)
theorem done_iff (er : Nat) (l : List Nat) : doneB er l = true ↔ er = 0 ∧ l = [] := by
  unfold doneB
  rw [decide_eq_true_eq, List.length_eq_zero_iff]
theorem pair_yes {k : Nat} {fs : List Nat} (hk : k ≠ 0) (hs : ∀ c ∈ fs, c < 256) (h : pairD k fs = true) : fs = pairB k (pairN fs) ∧ pairN fs < 18446744073709551616 := by
  unfold pairD at h
  rw [decide_eq_true_eq, done_iff] at h
  obtain ⟨h1, h2, h3⟩ := h
  have h0 : numE 0 fs = 0 := Decidable.byContradiction fun hne => hk (h1.symm.trans (num_zero hs hne))
  have e1 := (num_split hs h0).2
  have hs1 := numB_lt (er := 0) hs
  have e2 := (num_split hs1 h2).2
  rw [h3, List.append_nil] at e2
  refine ⟨?_, num_lt hs1⟩
  unfold pairB pairN
  rw [← e2, ← h1]
  exact e1
theorem pair_fwd {k n : Nat} (hk : k < 18446744073709551616) (hn : n < 18446744073709551616) : pairD k (pairB k n) = true ∧ pairN (pairB k n) = n := by
  obtain ⟨a1, a2, a3⟩ := num_enc hk (Vint.enc n)
  have b := num_enc hn []
  rw [List.append_nil] at b
  obtain ⟨b1, b2, b3⟩ := b
  unfold pairD pairN pairB
  rw [a1, a2, a3, b1, b2, b3]
  exact ⟨by simp [done_iff], rfl⟩
/-- What numberOf answers. -/
theorem num_pair {k most : Nat} (fs : List Nat) (hk0 : k ≠ 0) (hk : k < 18446744073709551616) (hm : most < 18446744073709551616) (hs : ∀ c ∈ fs, c < 256) :
    num k most fs = if pairD k fs = true ∧ pairN fs ≤ most then some (pairN fs) else none := by
  by_cases h : pairD k fs = true ∧ pairN fs ≤ most
  · rw [if_pos h]
    exact num_some hk hm h.2 (pair_yes hk0 hs h.1).1
  · rw [if_neg h]
    refine num_none fun n hn e => h ?_
    have := pair_fwd hk (n := n) (by omega)
    rw [← e] at this
    exact ⟨this.1, by rw [this.2]; exact hn⟩

def recD (fs : List Nat) : Bool := decide (numX 0 fs = 2 ∧ doneB (bytE (numE 0 fs) (numB 0 fs)) (bytB (numE 0 fs) (numB 0 fs)) = true)
def recN (fs : List Nat) : List Nat := bytX (numE 0 fs) (numB 0 fs)
theorem rec_yes {fs : List Nat} (hs : ∀ c ∈ fs, c < 256) (h : recD fs = true) : fs = Vint.enc 2 ++ (Vint.enc (recN fs).length ++ recN fs) := by
  unfold recD at h
  rw [decide_eq_true_eq, done_iff] at h
  obtain ⟨h1, h2, h3⟩ := h
  have h0 : numE 0 fs = 0 := Decidable.byContradiction fun hne => by have := num_zero hs hne; omega
  have e1 := (num_split hs h0).2
  have hs1 := numB_lt (er := 0) hs
  rw [h0] at h2 h3
  unfold recN
  rw [h0]
  generalize hb : numB 0 fs = b at e1 hs1 h2 h3
  have hE : numE 0 b = 0 := by
    unfold bytE at h2
    split at h2
    · assumption
    · exact h2
  have e2 := (num_split hs1 hE).2
  have hle : numX 0 b ≤ (numB 0 b).length := by
    unfold bytE at h2
    rw [if_pos hE] at h2
    split at h2
    · assumption
    · omega
  have hX : bytX 0 b = (numB 0 b).take (numX 0 b) := by unfold bytX; rw [if_pos ⟨hE, hle⟩]
  have hB : bytB 0 b = (numB 0 b).drop (numX 0 b) := by unfold bytB; rw [if_pos ⟨hE, hle⟩]
  rw [hB, List.drop_eq_nil_iff] at h3
  rw [hX, List.take_of_length_le h3]
  have : (numB 0 b).length = numX 0 b := by omega
  rw [this, ← e2, ← h1]
  exact e1
theorem rec_fwd (o : O) : recD (recB o) = true ∧ recN (recB o) = o.bytes := by
  have hl := o.bytes_le
  obtain ⟨a1, a2, a3⟩ := num_enc (n := 2) (by omega) (Vint.enc o.bytes.length ++ o.bytes)
  obtain ⟨b1, b2, b3⟩ := num_enc (n := o.bytes.length) (by omega) o.bytes
  unfold recD recN recB
  rw [a1, a2, a3]
  unfold bytE bytB bytX
  rw [b1, b2, b3]
  simp [done_iff]
/-- What recordOf answers. -/
theorem opr_rec (fs : List Nat) (hs : ∀ c ∈ fs, c < 256) : opr fs = if recD fs = true ∧ O.decE (recN fs) = 0 then some (O.decO (recN fs)) else none := by
  by_cases h : recD fs = true ∧ O.decE (recN fs) = 0
  · rw [if_pos h]
    have e := rec_yes hs h.1
    rcases O.dec_two (recN fs) with ⟨_, hr, hb⟩ | ⟨h5, _⟩
    · refine opr_some hr ?_
      unfold recB
      rw [hb]
      exact e
    · omega
  · rw [if_neg h]
    refine opr_none fun o hr e => h ?_
    have := rec_fwd o
    rw [← e] at this
    exact ⟨this.1, by rw [this.2]; exact (O.dec_yes hr rfl).1⟩

/-! The scan. -/
structure St where
  ops : List O
  ats : List Nat
  used : Nat
  shut : Bool

/-- One frame more, if it may stand there. -/
noncomputable def take (s : St) (c : List Nat) : Option St :=
  match opr c with
  | some o => some ⟨s.ops ++ [o], s.ats ++ [s.used], s.used + (Frm.fr c).length, false⟩
  | none => match num 3 4096 c with
    | some n => if n = s.ops.length then some ⟨s.ops, s.ats, s.used + (Frm.fr c).length, true⟩ else none
    | none => none
noncomputable def run : St → List (List Nat) → St
  | s, [] => s
  | s, c :: cs => if s.shut = true then s else match take s c with
    | some t => run t cs
    | none => s
theorem run_shut {s : St} (h : s.shut = true) (cs : List (List Nat)) : run s cs = s := by
  cases cs with
  | nil => rfl
  | cons c cs => rw [run, if_pos h]
theorem run_stop {s : St} {c : List Nat} (h : take s c = none) (cs : List (List Nat)) : run s (c :: cs) = s := by
  rw [run, h]
  split <;> rfl
theorem run_step {s t : St} {c : List Nat} (hs : s.shut = false) (h : take s c = some t) (cs : List (List Nat)) : run s (c :: cs) = run t cs := by
  rw [run, h, hs]
  rfl
theorem take_rec {s : St} {o : O} (hr : o.rightB 16 = true) : take s (recB o) = some ⟨s.ops ++ [o], s.ats ++ [s.used], s.used + (Frm.fr (recB o)).length, false⟩ := by
  unfold take
  rw [opr_some hr rfl]
theorem opr_pair {k n : Nat} (hk : k < 18446744073709551616) (h2 : k ≠ 2) : opr (pairB k n) = none := opr_none fun _ _ e => h2 (rec_pair hk e.symm)
theorem take_foot {s : St} (h : s.ops.length ≤ 4096) : take s (pairB 3 s.ops.length) = some ⟨s.ops, s.ats, s.used + (Frm.fr (pairB 3 s.ops.length)).length, true⟩ := by
  unfold take
  rw [opr_pair (by omega) (by omega), num_some (by omega) (by omega) h rfl]
  simp
/-- Where each record of a row begins. -/
def starts : Nat → List O → List Nat
  | _, [] => []
  | b, o :: l => b :: starts (b + (Frm.fr (recB o)).length) l
def recs (l : List O) : List Nat := Frm.frs (l.map recB)
theorem starts_len : ∀ (b : Nat) (l : List O), (starts b l).length = l.length
  | _, [] => rfl
  | b, o :: l => by rw [starts, List.length_cons, starts_len, List.length_cons]
theorem recs_cons (o : O) (l : List O) : recs (o :: l) = Frm.fr (recB o) ++ recs l := rfl
theorem recs_snoc (l : List O) (o : O) : recs (l ++ [o]) = recs l ++ Frm.fr (recB o) := by
  unfold recs
  rw [List.map_append, List.map_cons, List.map_nil, Frm.frs_snoc]
theorem starts_snoc : ∀ (b : Nat) (l : List O) (o : O), starts b (l ++ [o]) = starts b l ++ [b + (recs l).length]
  | b, [], o => by simp [starts, recs, Frm.frs]
  | b, p :: l, o => by rw [List.cons_append, starts, starts, starts_snoc, recs_cons, List.length_append, List.cons_append]; simp [Nat.add_assoc]
theorem run_recs : ∀ (l : List O) (s : St) (cs : List (List Nat)), (∀ o ∈ l, o.rightB 16 = true) → s.shut = false →
    run s (l.map recB ++ cs) = run ⟨s.ops ++ l, s.ats ++ starts s.used l, s.used + (recs l).length, false⟩ cs
  | [], s, cs, _, hs => by
    obtain ⟨a, b, c, d⟩ := s
    simp only at hs
    subst hs
    simp [starts, recs, Frm.frs]
  | o :: l, s, cs, hr, hs => by
    rw [List.map_cons, List.cons_append, run_step hs (take_rec (hr o List.mem_cons_self)), run_recs l _ cs (fun p hp => hr p (List.mem_cons_of_mem _ hp)) rfl, recs_cons, List.length_append, starts]
    simp [Nat.add_assoc]

/-- The greatest number of a segment. -/
def big : Nat := 4294967295
theorem big_eq : big = 4294967295 := rfl

/-- What the bytes of a segment tell. -/
noncomputable def tell : List (List Nat) → Option (Nat × St)
  | [] => none
  | c :: cs => match num 1 big c with
    | some id => some (id, run ⟨[], [], (Frm.fr c).length, false⟩ cs)
    | none => none
noncomputable def scan (bs : List Nat) : Option (Nat × St) := tell (Frm.scan bs).1
theorem num_head {id m : Nat} (hm : m = 4294967295) (hid : id < 4294967296) : num 1 m (pairB 1 id) = some id := num_some (by omega) (by omega) (by omega) rfl
theorem tell_cons {c : List Nat} {id : Nat} (cs : List (List Nat)) (hn : num 1 big c = some id) : tell (c :: cs) = some (id, run ⟨[], [], (Frm.fr c).length, false⟩ cs) := by
  rw [tell, hn]
theorem tell_none {c : List Nat} (cs : List (List Nat)) (hn : num 1 big c = none) : tell (c :: cs) = none := by
  rw [tell, hn]
theorem scan_cons {bs c : List Nat} {id : Nat} {cs : List (List Nat)} (h : (Frm.scan bs).1 = c :: cs) (hn : num 1 big c = some id) : scan bs = some (id, run ⟨[], [], (Frm.fr c).length, false⟩ cs) :=
  (congrArg tell h).trans (tell_cons cs hn)
theorem num_one {id : Nat} (hid : id < 4294967296) : num 1 big (pairB 1 id) = some id := num_head big_eq hid
theorem scan_head {bs : List Nat} {id : Nat} {cs : List (List Nat)} (hid : id < 4294967296) (h : (Frm.scan bs).1 = pairB 1 id :: cs) : scan bs = some (id, run ⟨[], [], (Frm.fr (pairB 1 id)).length, false⟩ cs) :=
  scan_cons h (num_one hid)
def headB (id : Nat) : List Nat := Frm.fr (pairB 1 id)
def footB (n : Nat) : List Nat := Frm.fr (pairB 3 n)
theorem scan_tail {id : Nat} {l : List O} {t : List Nat} (hid : id < 4294967296) (hr : ∀ o ∈ l, o.rightB 16 = true) :
    scan (headB id ++ (recs l ++ t)) = some (id, run ⟨l, starts (headB id).length l, (headB id).length + (recs l).length, false⟩ (Frm.scan t).1) := by
  have e : headB id ++ (recs l ++ t) = Frm.frs (pairB 1 id :: l.map recB) ++ t := by
    rw [Frm.frs_cons, List.append_assoc]; rfl
  have hs := Frm.scan_frs (pairB 1 id :: l.map recB) t (fun c hc => by
    rcases List.mem_cons.1 hc with rfl | hc
    · have := pair_le (k := 1) (n := id) (by omega) (by omega); omega
    · obtain ⟨o, _, rfl⟩ := List.mem_map.1 hc
      have := rec_le o; omega)
  rw [← e] at hs
  have hh : (Frm.scan (headB id ++ (recs l ++ t))).1 = pairB 1 id :: (l.map recB ++ (Frm.scan t).1) := by rw [hs]; rfl
  rw [scan_head hid hh, run_recs l _ _ hr rfl]
  simp [headB]
theorem scan_plain {id : Nat} {l : List O} (hid : id < 4294967296) (hr : ∀ o ∈ l, o.rightB 16 = true) :
    scan (headB id ++ recs l) = some (id, ⟨l, starts (headB id).length l, (headB id).length + (recs l).length, false⟩) := by
  have := scan_tail (t := []) hid hr
  rw [List.append_nil, Frm.scan_nil] at this
  exact this
theorem scan_foot {id : Nat} {l : List O} (hid : id < 4294967296) (hr : ∀ o ∈ l, o.rightB 16 = true) (hl : l.length ≤ 4096) (t : List Nat) :
    scan (headB id ++ (recs l ++ (footB l.length ++ t))) = some (id, ⟨l, starts (headB id).length l, (headB id).length + (recs l).length + (footB l.length).length, true⟩) := by
  have hf : Frm.scan (footB l.length ++ t) = (pairB 3 l.length :: (Frm.scan t).1, (footB l.length).length + (Frm.scan t).2) := by
    have := Frm.scan_frs [pairB 3 l.length] t (fun c hc => by
      obtain rfl := List.mem_singleton.1 hc
      have := pair_le (k := 3) (n := l.length) (by omega) (by omega); omega)
    simpa [Frm.frs, footB] using this
  rw [scan_tail hid hr, hf, run_step rfl (take_foot (s := ⟨l, starts (headB id).length l, (headB id).length + (recs l).length, false⟩) hl), run_shut rfl]
  rfl
end Seg

end Go.Proofs.YtfnaccmgmocolaaDoor

namespace Go.Proofs.YtfnaccmgmocolaaDoor

namespace Seg

theorem headB_scan {id : Nat} (hid : id < 4294967296) (t : List Nat) : (Frm.scan (headB id ++ t)).1 = pairB 1 id :: (Frm.scan t).1 := by
  have := Frm.scan_frs [pairB 1 id] t (fun c hc => by
    obtain rfl := List.mem_singleton.1 hc
    have := pair_le (k := 1) (n := id) (by omega) (by omega); omega)
  have e : Frm.frs [pairB 1 id] = headB id := by simp [Frm.frs, headB]
  rw [e] at this
  rw [this]
  rfl
theorem scan_open {id : Nat} (hid : id < 4294967296) (t : List Nat) : scan (headB id ++ t) = some (id, run ⟨[], [], (headB id).length, false⟩ (Frm.scan t).1) := scan_head hid (headB_scan hid t)
theorem scan_new {id : Nat} (hid : id < 4294967296) : scan (headB id) = some (id, ⟨[], [], (headB id).length, false⟩) := by
  have := scan_plain (l := []) hid (by simp)
  simpa [recs, Frm.frs, starts] using this

/-- How many of some operations' records are whole among so many bytes. -/
def wholes : Nat → List O → Nat
  | _, [] => 0
  | k, o :: l => if (Frm.fr (recB o)).length ≤ k then wholes (k - (Frm.fr (recB o)).length) l + 1 else 0
theorem wholes_eq : ∀ (k : Nat) (l : List O), (Frm.whole k (l.map recB)).1 = wholes k l
  | _, [] => rfl
  | k, o :: l => by
    rw [List.map_cons, Frm.whole, wholes]
    split
    · simp only [wholes_eq]
    · rfl
theorem wholes_le : ∀ (k : Nat) (l : List O), wholes k l ≤ l.length
  | _, [] => Nat.le_refl _
  | k, o :: l => by
    rw [wholes]
    split
    · have := wholes_le (k - (Frm.fr (recB o)).length) l
      simp; omega
    · omega
theorem wholes_len : ∀ (k : Nat) (l : List O), (recs (l.take (wholes k l))).length ≤ k
  | _, [] => by simp [recs, Frm.frs]
  | k, o :: l => by
    rw [wholes]
    split
    · have := wholes_len (k - (Frm.fr (recB o)).length) l
      rw [List.take_succ_cons, recs_cons, List.length_append]
      omega
    · simp [recs, Frm.frs]
theorem scan_cut {id : Nat} {l : List O} (hid : id < 4294967296) (hr : ∀ o ∈ l, o.rightB 16 = true) (k : Nat) :
    scan (headB id ++ (recs l).take k) = some (id, ⟨l.take (wholes k l), starts (headB id).length (l.take (wholes k l)), (headB id).length + (recs (l.take (wholes k l))).length, false⟩) := by
  have hs := Frm.scan_cut (l.map recB) k (fun c hc => by
    obtain ⟨o, _, rfl⟩ := List.mem_map.1 hc
    have := rec_le o; omega)
  rw [wholes_eq, ← List.map_take] at hs
  have hr2 := run_recs (l.take (wholes k l)) ⟨[], [], (headB id).length, false⟩ [] (fun o ho => hr o (List.mem_of_mem_take ho)) rfl
  rw [List.append_nil] at hr2
  rw [scan_open hid]
  have e : (Frm.scan ((recs l).take k)).1 = (l.take (wholes k l)).map recB := by
    show (Frm.scan ((Frm.frs (l.map recB)).take k)).1 = _
    rw [hs]
  rw [e, hr2]
  simp [run]
/-- A record at the beginning is no segment. -/
theorem scan_rec (o : O) (t : List Nat) : scan (Frm.fr (recB o) ++ t) = none := by
  have hs := Frm.scan_frs [recB o] t (fun c hc => by
    obtain rfl := List.mem_singleton.1 hc
    have := rec_le o; omega)
  have e : Frm.frs [recB o] = Frm.fr (recB o) := by simp [Frm.frs]
  rw [e] at hs
  unfold scan
  rw [hs]
  refine tell_none _ (num_none fun n hn h => ?_)
  have := rec_pair (k := 1) (by omega) h
  omega
end Seg

end Go.Proofs.YtfnaccmgmocolaaDoor
