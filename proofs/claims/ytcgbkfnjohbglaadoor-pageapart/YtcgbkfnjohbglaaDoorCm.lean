/- Plain facts about the check sum's arithmetic on natural numbers: four bits by a table are four single steps, a step is linear over xor, and no two registers step to one. No condition but the sizes that each fact names. -/
import Derived.Laws.BitsAllLaws
namespace Go.Proofs.YtcgbkfnjohbglaaDoor
namespace Crc

/-- One step of the register, as the document says it. -/
def bit (r : Nat) : Nat := if r % 2 = 1 then r / 2 ^^^ 3988292384 else r / 2

def tab : List Nat := [0, 498536548, 997073096, 651767980, 1994146192, 1802195444, 1303535960, 1342533948, 3988292384, 4027552580, 3604390888, 3412177804, 2607071920, 2262029012, 2685067896, 3183342108]

def four (r : Nat) : Nat := r / 16 ^^^ tab.getD (r % 16) 0
def byte (r c : Nat) : Nat := four (four (r ^^^ c))
def eight (r : Nat) : Nat := bit (bit (bit (bit (bit (bit (bit (bit r)))))))
def run (r : Nat) (bs : List Nat) : Nat := bs.foldl byte r
def next (sum : Nat) (bs : List Nat) : Nat := run (sum ^^^ 4294967295) bs ^^^ 4294967295

theorem xor_back (a m : Nat) : (a ^^^ m) ^^^ m = a := by rw [Nat.xor_assoc, Nat.xor_self, Nat.xor_zero]
theorem cancel_right {a b m : Nat} (h : a ^^^ m = b ^^^ m) : a = b := by rw [← xor_back a m, h, xor_back]
theorem cancel_left {a b m : Nat} (h : m ^^^ a = m ^^^ b) : a = b := cancel_right (m := m) (by rw [Nat.xor_comm a, Nat.xor_comm b]; exact h)

theorem xor_div2 (a b : Nat) : (a ^^^ b) / 2 = a / 2 ^^^ b / 2 := by
  have := Nat.shiftRight_xor_distrib (a := a) (b := b) (i := 1)
  simpa [Nat.shiftRight_succ] using this

theorem xor_mod2 (a b : Nat) : (a ^^^ b) % 2 = (a + b) % 2 := by
  have h := Nat.testBit_xor a b 0
  simp only [Nat.testBit_zero] at h
  rcases Nat.mod_two_eq_zero_or_one a with ha | ha <;> rcases Nat.mod_two_eq_zero_or_one b with hb | hb <;> rcases Nat.mod_two_eq_zero_or_one (a ^^^ b) with hx | hx <;> simp [ha, hb, hx] at h <;> omega

theorem bit_xor (a b : Nat) : bit (a ^^^ b) = bit a ^^^ bit b := by
  have h := xor_mod2 a b
  unfold bit
  rw [xor_div2]
  rcases Nat.mod_two_eq_zero_or_one a with ha | ha <;> rcases Nat.mod_two_eq_zero_or_one b with hb | hb
  · rw [if_neg (by omega), if_neg (by omega), if_neg (by omega)]
  · rw [if_pos (by omega), if_neg (by omega), if_pos (by omega), Nat.xor_assoc]
  · rw [if_pos (by omega), if_pos (by omega), if_neg (by omega), Nat.xor_assoc, Nat.xor_assoc, Nat.xor_comm (b / 2)]
  · rw [if_neg (by omega), if_pos (by omega), if_pos (by omega)]
    have e : (a / 2 ^^^ 3988292384) ^^^ (b / 2 ^^^ 3988292384) = (a / 2 ^^^ b / 2) ^^^ (3988292384 ^^^ 3988292384) := by
      simp only [Nat.xor_assoc]
      congr 1
      rw [← Nat.xor_assoc, Nat.xor_comm 3988292384, Nat.xor_assoc]
    rw [e, Nat.xor_self, Nat.xor_zero]

theorem eight_xor (a b : Nat) : eight (a ^^^ b) = eight a ^^^ eight b := by simp only [eight, bit_xor]

theorem bit_double (q : Nat) : bit (2 * q) = q := by unfold bit; rw [if_neg (by omega)]; omega

theorem four_low : ∀ l, l < 16 → bit (bit (bit (bit l))) = tab.getD l 0 := by decide

theorem split16 (r : Nat) : r = 2 * (2 * (2 * (2 * (r / 16)))) ^^^ r % 16 := by
  have h1 : 2 * (2 * (2 * (2 * (r / 16)))) = (r / 16) * 2 ^ 4 := by omega
  have h2 := Nat.two_pow_add_eq_or_of_lt (i := 4) (b := r % 16) (by omega) (r / 16)
  have h3 : (r / 16) * 2 ^ 4 ^^^ r % 16 = (r / 16) * 2 ^ 4 ||| r % 16 := by
    apply Nat.eq_of_testBit_eq
    intro i
    rw [Nat.testBit_xor, Nat.testBit_or, Nat.testBit_mul_two_pow]
    by_cases hi : i < 4
    · have : ¬ 4 ≤ i := by omega
      simp [this]
    · have hf : (r % 16).testBit i = false := Nat.testBit_lt_two_pow (Nat.lt_of_lt_of_le (Nat.mod_lt _ (by omega)) (by
        have : 2 ^ 4 ≤ 2 ^ i := Nat.pow_le_pow_right (by omega) (by omega)
        simpa using this))
      simp [hf]
  rw [h1, h3, Nat.mul_comm, ← h2]
  omega

theorem four_eq (r : Nat) : four r = bit (bit (bit (bit r))) := by
  have h := split16 r
  have e : bit (bit (bit (bit (2 * (2 * (2 * (2 * (r / 16)))) ^^^ r % 16)))) = r / 16 ^^^ tab.getD (r % 16) 0 := by
    simp only [bit_xor, bit_double]
    rw [four_low _ (Nat.mod_lt _ (by omega))]
  rw [← h] at e
  exact e.symm

theorem byte_eq (r c : Nat) : byte r c = eight (r ^^^ c) := by simp only [byte, four_eq, eight]

theorem xor4 (a b c d : Nat) : (a ^^^ b) ^^^ (c ^^^ d) = (a ^^^ c) ^^^ (b ^^^ d) := by
  simp only [Nat.xor_assoc]
  congr 1
  rw [← Nat.xor_assoc, Nat.xor_comm b, Nat.xor_assoc]

theorem byte_xor (a b c d : Nat) : byte (a ^^^ b) (c ^^^ d) = byte a c ^^^ byte b d := by
  simp only [byte_eq]
  rw [xor4, eight_xor]

theorem run_xor : ∀ (x y : List Nat) (r s : Nat), x.length = y.length → run (r ^^^ s) (List.zipWith (· ^^^ ·) x y) = run r x ^^^ run s y
  | [], [], r, s, _ => rfl
  | a :: x, b :: y, r, s, h => by
    have := run_xor x y (byte r a) (byte s b) (by simpa using h)
    simpa [run, byte_xor] using this

theorem bit_lt (r : Nat) (h : r < 4294967296) : bit r < 4294967296 := by
  unfold bit
  split
  · exact Nat.xor_lt_two_pow (n := 32) (by omega) (by omega)
  · omega

theorem bit_inj {a b : Nat} (ha : a < 4294967296) (hb : b < 4294967296) (h : bit a = bit b) : a = b := by
  unfold bit at h
  have key : ∀ x y : Nat, x < 2147483648 → y < 2147483648 → x ^^^ 3988292384 ≠ y := by
    intro x y hx hy e
    have e2 : 3988292384 = x ^^^ y := by rw [← e, ← Nat.xor_assoc, Nat.xor_self, Nat.zero_xor]
    have : x ^^^ y < 2 ^ 31 := Nat.xor_lt_two_pow (by omega) (by omega)
    omega
  rcases Nat.mod_two_eq_zero_or_one a with pa | pa <;> rcases Nat.mod_two_eq_zero_or_one b with pb | pb
  · rw [if_neg (by omega), if_neg (by omega)] at h; omega
  · rw [if_neg (by omega), if_pos (by omega)] at h
    exact absurd h.symm (key _ _ (by omega) (by omega))
  · rw [if_pos (by omega), if_neg (by omega)] at h
    exact absurd h (key _ _ (by omega) (by omega))
  · rw [if_pos (by omega), if_pos (by omega)] at h
    have := cancel_right h
    omega

theorem eight_lt (r : Nat) (h : r < 4294967296) : eight r < 4294967296 := by
  unfold eight; repeat (first | exact h | apply bit_lt)

theorem eight_inj {a b : Nat} (ha : a < 4294967296) (hb : b < 4294967296) (h : eight a = eight b) : a = b := by
  unfold eight at h
  repeat (first | exact h | refine bit_inj ?_ ?_ ?_ | exact ha | exact hb | apply bit_lt)

theorem xor_lt32 {a b : Nat} (ha : a < 4294967296) (hb : b < 4294967296) : a ^^^ b < 4294967296 :=
  Nat.xor_lt_two_pow (n := 32) (by omega) (by omega)

theorem tab_lt : ∀ i, i < 16 → tab.getD i 0 < 4294967296 := by decide

theorem four_lt (r : Nat) (h : r < 4294967296) : four r < 4294967296 := by
  rw [four_eq]; repeat (first | exact h | apply bit_lt)

theorem byte_lt {r c : Nat} (h : r < 4294967296) (hc : c < 256) : byte r c < 4294967296 := by
  rw [byte_eq]; exact eight_lt _ (xor_lt32 h (by omega))

theorem run_lt : ∀ (x : List Nat) (r : Nat), r < 4294967296 → (∀ c ∈ x, c < 256) → run r x < 4294967296
  | [], r, h, _ => h
  | a :: x, r, h, hc => run_lt x (byte r a) (byte_lt h (hc a (by simp))) (fun c m => hc c (by simp [m]))

theorem next_lt (s : Nat) (x : List Nat) (h : s < 4294967296) (hc : ∀ c ∈ x, c < 256) : next s x < 4294967296 :=
  xor_lt32 (run_lt x _ (xor_lt32 h (by omega)) hc) (by omega)

theorem run_inj : ∀ (x : List Nat) (r s : Nat), r < 4294967296 → s < 4294967296 → (∀ c ∈ x, c < 256) → run r x = run s x → r = s
  | [], r, s, _, _, _, h => h
  | a :: x, r, s, hr, hs, hc, h => by
    have ha : a < 256 := hc a (by simp)
    have := run_inj x (byte r a) (byte s a) (byte_lt hr ha) (byte_lt hs ha) (fun c m => hc c (by simp [m])) h
    rw [byte_eq, byte_eq] at this
    exact cancel_right (eight_inj (xor_lt32 hr (by omega)) (xor_lt32 hs (by omega)) this)

theorem run_append (x y : List Nat) (r : Nat) : run r (x ++ y) = run (run r x) y := by simp [run]

theorem next_append (s : Nat) (x y : List Nat) : next (next s x) y = next s (x ++ y) := by
  simp only [next, xor_back, run_append]

theorem zip3 : ∀ x y z : List Nat, x.length = y.length → x.length = z.length → next 0 (List.zipWith (· ^^^ ·) (List.zipWith (· ^^^ ·) x y) z) = (next 0 x ^^^ next 0 y) ^^^ next 0 z := by
  intro x y z h1 h2
  have e : (0 ^^^ 4294967295 : Nat) = ((0 ^^^ 4294967295) ^^^ (0 ^^^ 4294967295)) ^^^ (0 ^^^ 4294967295) := by decide
  simp only [next]
  rw [show run (0 ^^^ 4294967295) (List.zipWith (· ^^^ ·) (List.zipWith (· ^^^ ·) x y) z) = (run (0 ^^^ 4294967295) x ^^^ run (0 ^^^ 4294967295) y) ^^^ run (0 ^^^ 4294967295) z by
    conv => lhs; rw [e]
    rw [run_xor _ _ _ _ (by simp; omega), run_xor _ _ _ _ h1]]
  generalize run (0 ^^^ 4294967295) x = a
  generalize run (0 ^^^ 4294967295) y = b
  generalize run (0 ^^^ 4294967295) z = c
  rw [xor4 a, Nat.xor_self, Nat.xor_zero, Nat.xor_assoc (a ^^^ b)]

theorem zip2 (x y : List Nat) (h1 : x.length = y.length) : next 0 (List.zipWith (· ^^^ ·) x y) ^^^ next 0 (List.replicate x.length 0) = next 0 x ^^^ next 0 y := by
  have hz : ∀ l : List Nat, List.zipWith (· ^^^ ·) l (List.replicate l.length 0) = l := by
    intro l; induction l with
    | nil => rfl
    | cons a l ih => simp [List.replicate_succ, ih]
  have h := zip3 (List.zipWith (· ^^^ ·) x y) (List.replicate x.length 0) (List.replicate x.length 0) (by simp; omega) (by simp; omega)
  have h3 := zip3 x y (List.replicate x.length 0) h1 (by simp)
  have hl : (List.zipWith (· ^^^ ·) x y).length = x.length := by simp; omega
  have hz2 := hz (List.zipWith (· ^^^ ·) x y)
  rw [hl] at hz2
  rw [hz2] at h3
  rw [h3, xor_back]

theorem turned (p q : List Nat) (a b : Nat) (ha : a < 256) (hb : b < 256) (hp : ∀ c ∈ p, c < 256) (hq : ∀ c ∈ q, c < 256) (h : next 0 (p ++ a :: q) = next 0 (p ++ b :: q)) : a = b := by
  have h1 := cancel_right h
  rw [run_append, run_append] at h1
  have hr : run (0 ^^^ 4294967295) p < 4294967296 := run_lt p _ (by decide) hp
  have h2 := run_inj q _ _ (byte_lt hr ha) (byte_lt hr hb) hq h1
  rw [byte_eq, byte_eq] at h2
  exact cancel_left (eight_inj (xor_lt32 hr (by omega)) (xor_lt32 hr (by omega)) h2)

theorem known : next 0 [49, 50, 51, 52, 53, 54, 55, 56, 57] = 3421780262 := by decide +kernel
theorem known0 : next 0 [] = 0 := by decide

end Crc
end Go.Proofs.YtcgbkfnjohbglaaDoor
