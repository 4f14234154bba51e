/-
  WHAT IS PROVED: (1) plain facts on the CRC-32: by half bytes out of a table it is the same as bit by bit; two lists of bytes of one length that differ in up to four bytes side by side alone have other sums. NO CONDITION beside those that each lemma names.
-/

namespace Go.Proofs.YtadlhnjnhllpfaaDoor
namespace Fr

/-- One bit's step, of a number below 2^32. -/
def bitStep (s : Nat) : Nat := s / 2 ^^^ (if s % 2 = 1 then 3988292384 else 0)
def bitSteps : Nat → Nat → Nat
  | 0, s => s
  | k + 1, s => bitSteps k (bitStep s)

theorem xor_zero_eq {a b : Nat} (h : a ^^^ b = 0) : a = b := by
  have e : a ^^^ b ^^^ b = 0 ^^^ b := by rw [h]
  simpa [Nat.xor_assoc] using e
theorem xor_div2 (a b : Nat) : (a ^^^ b) / 2 = a / 2 ^^^ b / 2 := by
  have := Nat.shiftRight_xor_distrib (a := a) (b := b) (i := 1)
  simpa [Nat.shiftRight_eq_div_pow] using this
theorem xor_mod2 (a b : Nat) : (a ^^^ b) % 2 = (a % 2 + b % 2) % 2 := by
  have h : ∀ n : Nat, n % 2 = if n.testBit 0 then 1 else 0 := by
    intro n
    simp only [Nat.testBit_zero]
    by_cases h : n % 2 = 1 <;> simp [h]
    omega
  rw [h (a ^^^ b), h a, h b, Nat.testBit_xor]
  cases a.testBit 0 <;> cases b.testBit 0 <;> rfl

theorem bitStep_xor (a b : Nat) : bitStep (a ^^^ b) = bitStep a ^^^ bitStep b := by
  unfold bitStep
  rw [xor_div2, xor_mod2]
  have ha : a % 2 = 0 ∨ a % 2 = 1 := by omega
  have hb : b % 2 = 0 ∨ b % 2 = 1 := by omega
  rcases ha with ha | ha <;> rcases hb with hb | hb <;> simp only [ha, hb] <;> simp
  · rw [Nat.xor_assoc]
  · rw [Nat.xor_assoc, Nat.xor_assoc, Nat.xor_comm (b / 2)]
  · rw [Nat.xor_assoc, Nat.xor_comm 3988292384, Nat.xor_assoc, Nat.xor_self, Nat.xor_zero]
theorem bitSteps_xor : ∀ (k a b : Nat), bitSteps k (a ^^^ b) = bitSteps k a ^^^ bitSteps k b := by
  intro k
  induction k with
  | zero => intro a b; rfl
  | succ k ih => intro a b; simp only [bitSteps]; rw [bitStep_xor, ih]
theorem bitSteps_zero : ∀ k : Nat, bitSteps k 0 = 0 := by
  intro k
  induction k with
  | zero => rfl
  | succ k ih => simpa [bitSteps, bitStep] using ih
theorem bitSteps_add : ∀ (j k s : Nat), bitSteps (j + k) s = bitSteps k (bitSteps j s) := by
  intro j
  induction j with
  | zero => intro k s; simp [bitSteps]
  | succ j ih => intro k s; rw [Nat.add_right_comm]; simp only [bitSteps]; rw [ih]

theorem bitStep_lt {s : Nat} (h : s < 4294967296) : bitStep s < 4294967296 := by
  unfold bitStep
  exact Nat.xor_lt_two_pow (n := 32) (by omega) (by split <;> omega)
theorem bitSteps_lt : ∀ (k : Nat) {s : Nat}, s < 4294967296 → bitSteps k s < 4294967296 := by
  intro k
  induction k with
  | zero => intro s h; exact h
  | succ k ih => intro s h; exact ih (bitStep_lt h)

/-- Low bits that are 0 are shifted out. -/
theorem bitSteps_shift : ∀ (k m : Nat), bitSteps k (m * 2 ^ k) = m := by
  intro k
  induction k with
  | zero => intro m; simp [bitSteps]
  | succ k ih =>
    intro m
    simp only [bitSteps]
    have e : bitStep (m * 2 ^ (k + 1)) = m * 2 ^ k := by
      unfold bitStep
      rw [Nat.pow_succ, ← Nat.mul_assoc]
      rw [if_neg (by omega)]
      simp
    rw [e, ih]

/-- Only 0 is stepped to 0. -/
theorem bitStep_eq_zero {s : Nat} (h : s < 4294967296) (h0 : bitStep s = 0) : s = 0 := by
  unfold bitStep at h0
  by_cases hs : s % 2 = 1
  · rw [if_pos hs] at h0
    have := xor_zero_eq h0
    omega
  · rw [if_neg hs] at h0
    simp at h0
    omega
theorem bitSteps_eq_zero : ∀ (k : Nat) {s : Nat}, s < 4294967296 → bitSteps k s = 0 → s = 0 := by
  intro k
  induction k with
  | zero => intro s _ h; exact h
  | succ k ih => intro s hs h; exact bitStep_eq_zero hs (ih (bitStep_lt hs) h)

/-- The checksum's state behind a byte, and behind bytes. -/
def crcByte (s : Nat) (b : UInt8) : Nat := bitSteps 8 (s ^^^ b.toNat)
def crcFrom (s : Nat) (l : List UInt8) : Nat := l.foldl crcByte s
def crc (l : List UInt8) : Nat := crcFrom 4294967295 l ^^^ 4294967295

theorem u8_lt32 (b : UInt8) : b.toNat < 4294967296 := by have := b.toNat_lt; omega
theorem xor_lt32 {a b : Nat} (ha : a < 4294967296) (hb : b < 4294967296) : a ^^^ b < 4294967296 := Nat.xor_lt_two_pow (n := 32) (by omega) (by omega)
theorem crcByte_lt {s : Nat} (h : s < 4294967296) (b : UInt8) : crcByte s b < 4294967296 := bitSteps_lt 8 (xor_lt32 h (u8_lt32 b))
theorem crcFrom_lt : ∀ (l : List UInt8) {s : Nat}, s < 4294967296 → crcFrom s l < 4294967296 := by
  intro l
  induction l with
  | nil => intro s h; exact h
  | cons b r ih => intro s h; exact ih (crcByte_lt h b)
theorem crc_lt (l : List UInt8) : crc l < 4294967296 := xor_lt32 (crcFrom_lt l (by omega)) (by omega)
theorem crcFrom_append (s : Nat) (a b : List UInt8) : crcFrom s (a ++ b) = crcFrom (crcFrom s a) b := by simp [crcFrom]
theorem crcFrom_take_succ {l : List UInt8} {i : Nat} (h : i < l.length) (s : Nat) : crcFrom s (l.take (i + 1)) = crcByte (crcFrom s (l.take i)) (l[i]) := by
  rw [List.take_succ_eq_append_getElem h, crcFrom_append]; rfl

/-- The table's half byte step. -/
def tab : List Nat := [0, 498536548, 997073096, 651767980, 1994146192, 1802195444, 1303535960, 1342533948, 3988292384, 4027552580, 3604390888, 3412177804, 2607071920, 2262029012, 2685067896, 3183342108]
theorem tab_lt : ∀ i, i < 16 → tab[i]?.getD 0 < 4294967296 := by decide
def half (s : Nat) : Nat := s / 16 ^^^ tab[s % 16]?.getD 0
theorem half_lt {s : Nat} (h : s < 4294967296) : half s < 4294967296 := xor_lt32 (by omega) (tab_lt _ (by omega))
theorem tab_steps : ∀ i, i < 16 → bitSteps 4 i = tab[i]?.getD 0 := by decide
theorem split16 (s : Nat) : s = s / 16 * 2 ^ 4 ^^^ s % 16 := by
  have h : s = s / 16 * 2 ^ 4 + s % 16 := by omega
  have h2 : s / 16 * 2 ^ 4 ^^^ s % 16 = s / 16 * 2 ^ 4 + s % 16 := by
    apply Nat.eq_of_testBit_eq
    intro i
    rw [Nat.testBit_xor, Nat.mul_comm, Nat.testBit_two_pow_mul_add _ (by omega), Nat.testBit_two_pow_mul]
    by_cases hi : i < 4
    · simp [hi, Nat.not_le.2 hi]
    · rw [if_neg hi, Nat.testBit_lt_two_pow (x := s % 16) (i := i)]
      · simp; omega
      · have : 2 ^ 4 ≤ 2 ^ i := Nat.pow_le_pow_right (by omega) (by omega)
        omega
  omega
theorem half_eq (s : Nat) : half s = bitSteps 4 s := by
  have h := split16 s
  have e : bitSteps 4 s = bitSteps 4 (s / 16 * 2 ^ 4) ^^^ bitSteps 4 (s % 16) := by rw [← bitSteps_xor, ← h]
  rw [e, bitSteps_shift, tab_steps _ (by omega)]
  rfl
theorem half_half (s : Nat) : half (half s) = bitSteps 8 s := by
  rw [half_eq, half_eq, ← bitSteps_add]

/-- Bit by bit, the byte's bits fed in one by one. -/
def feed (c bit : Nat) : Nat := c / 2 ^^^ (if bit = 1 then 3988292384 else 0)
def feeds (b : UInt8) (s : Nat) : Nat → Nat
  | 0 => s
  | k + 1 => feed (feeds b s k) ((b.toNat / 2 ^ k ^^^ feeds b s k) % 2)
theorem feed_lt {c bit : Nat} (h : c < 4294967296) : feed c bit < 4294967296 := by
  unfold feed
  exact xor_lt32 (by omega) (by split <;> omega)
theorem feeds_lt (b : UInt8) {s : Nat} (h : s < 4294967296) : ∀ k, feeds b s k < 4294967296 := by
  intro k
  induction k with
  | zero => exact h
  | succ k ih => exact feed_lt ih
theorem feeds_eq (b : UInt8) (s : Nat) : ∀ k, feeds b s k ^^^ b.toNat / 2 ^ k = bitSteps k (s ^^^ b.toNat) := by
  intro k
  induction k with
  | zero => simp [feeds, bitSteps]
  | succ k ih =>
    rw [bitSteps_add, ← ih]
    simp only [feeds, bitSteps, feed, bitStep]
    rw [xor_div2, Nat.xor_comm (b.toNat / 2 ^ k), Nat.pow_succ, Nat.div_div_eq_div_mul]
    rw [Nat.xor_assoc, Nat.xor_comm _ (b.toNat / (2 ^ k * 2)), ← Nat.xor_assoc]
theorem feeds_byte (b : UInt8) (s : Nat) : feeds b s 8 = crcByte s b := by
  have h := feeds_eq b s 8
  have hb := b.toNat_lt
  rw [Nat.div_eq_of_lt (by omega), Nat.xor_zero] at h
  exact h

/-! ### What a burst changes -/
theorem crcByte_xor (s t : Nat) (b : UInt8) : crcByte s b ^^^ crcByte t b = bitSteps 8 (s ^^^ t) := by
  unfold crcByte
  rw [← bitSteps_xor]
  congr 1
  rw [Nat.xor_comm t, Nat.xor_assoc, ← Nat.xor_assoc b.toNat, Nat.xor_self, Nat.zero_xor]
/-- Equal bytes keep two states apart. -/
theorem crcFrom_ne : ∀ (l : List UInt8) {s t : Nat}, s < 4294967296 → t < 4294967296 → s ≠ t → crcFrom s l ≠ crcFrom t l := by
  intro l
  induction l with
  | nil => intro s t _ _ h; exact h
  | cons b r ih =>
    intro s t hs ht h
    refine ih (crcByte_lt hs b) (crcByte_lt ht b) (fun e => h ?_)
    have hx : crcByte s b ^^^ crcByte t b = 0 := by rw [e, Nat.xor_self]
    rw [crcByte_xor] at hx
    exact xor_zero_eq (bitSteps_eq_zero 8 (xor_lt32 hs ht) hx)
/-- A word of bytes, the lowest first. -/
def word : List UInt8 → Nat
  | [] => 0
  | b :: r => b.toNat + 256 * word r
theorem word_lt (l : List UInt8) : word l < 2 ^ (8 * l.length) := by
  induction l with
  | nil => simp [word]
  | cons b r ih =>
    have hb := b.toNat_lt
    have e : 2 ^ (8 * (b :: r).length) = 256 * 2 ^ (8 * r.length) := by
      rw [List.length_cons, Nat.mul_add, Nat.pow_add, Nat.mul_comm]
    rw [e]
    simp only [word]
    omega
theorem word_xor_low (b : UInt8) (m : Nat) : b.toNat + 256 * m = m * 2 ^ 8 ^^^ b.toNat := by
  have hb := b.toNat_lt
  apply Nat.eq_of_testBit_eq
  intro i
  rw [Nat.testBit_xor, show b.toNat + 256 * m = 2 ^ 8 * m + b.toNat by omega, Nat.mul_comm m, Nat.testBit_two_pow_mul_add _ (by omega), Nat.testBit_two_pow_mul]
  by_cases hi : i < 8
  · simp [hi, Nat.not_le.2 hi]
  · rw [if_neg hi, Nat.testBit_lt_two_pow (x := b.toNat) (i := i)]
    · simp; omega
    · have : 2 ^ 8 ≤ 2 ^ i := Nat.pow_le_pow_right (by omega) (by omega)
      omega
/-- Up to four bytes are taken in as one word. -/
theorem crcFrom_word : ∀ (l : List UInt8) (s : Nat), crcFrom s l = bitSteps (8 * l.length) (s ^^^ word l) := by
  intro l
  induction l with
  | nil => intro s; simp [crcFrom, word, bitSteps]
  | cons b r ih =>
    intro s
    show crcFrom (crcByte s b) r = _
    rw [ih, List.length_cons, Nat.mul_add, Nat.add_comm (8 * r.length), bitSteps_add]
    congr 1
    simp only [word, crcByte]
    rw [word_xor_low, Nat.xor_comm (word r * 2 ^ 8), ← Nat.xor_assoc, bitSteps_xor 8 (s ^^^ b.toNat), bitSteps_shift]
theorem word_inj : ∀ (a b : List UInt8), a.length = b.length → word a = word b → a = b := by
  intro a
  induction a with
  | nil => intro b hl _; cases b with
    | nil => rfl
    | cons _ _ => simp at hl
  | cons x r ih =>
    intro b hl hw
    cases b with
    | nil => simp at hl
    | cons y t =>
      have hx := x.toNat_lt
      have hy := y.toNat_lt
      simp only [word] at hw
      have e1 : x.toNat = y.toNat := by omega
      have e2 : word r = word t := by omega
      rw [ih t (by simpa using hl) e2]
      congr 1
      have := congrArg UInt8.ofNat e1
      simpa using this
/-- BURSTS: between equal beginnings and equal ends, up to four bytes that are not the same make another sum. -/
theorem crc_burst (p d e q : List UInt8) (hl : d.length = e.length) (h4 : d.length ≤ 4) (hne : d ≠ e) : crc (p ++ d ++ q) ≠ crc (p ++ e ++ q) := by
  have hs := crcFrom_lt p (s := 4294967295) (by omega)
  have hpow : 2 ^ (8 * d.length) ≤ 2 ^ 32 := Nat.pow_le_pow_right (by omega) (by omega)
  have hd := word_lt d
  have he := word_lt e
  rw [← hl] at he
  have hd32 : word d < 4294967296 := by omega
  have he32 : word e < 4294967296 := by omega
  have hw : word d ≠ word e := fun h => hne (word_inj d e hl h)
  have hmid : crcFrom (crcFrom 4294967295 p) d ≠ crcFrom (crcFrom 4294967295 p) e := by
    intro h
    rw [crcFrom_word d, crcFrom_word e, ← hl] at h
    have h0 : bitSteps (8 * d.length) ((crcFrom 4294967295 p ^^^ word d) ^^^ (crcFrom 4294967295 p ^^^ word e)) = 0 := by
      rw [bitSteps_xor, h, Nat.xor_self]
    have h1 := bitSteps_eq_zero _ (xor_lt32 (xor_lt32 hs hd32) (xor_lt32 hs he32)) h0
    rw [Nat.xor_comm (crcFrom 4294967295 p), Nat.xor_assoc, ← Nat.xor_assoc (crcFrom 4294967295 p), Nat.xor_self, Nat.zero_xor] at h1
    exact hw (xor_zero_eq h1)
  intro h
  unfold crc at h
  rw [List.append_assoc, List.append_assoc, crcFrom_append, crcFrom_append, crcFrom_append, crcFrom_append] at h
  have hf := crcFrom_ne q (crcFrom_lt d hs) (crcFrom_lt e hs) hmid
  apply hf
  have := congrArg (· ^^^ 4294967295) h
  simpa [Nat.xor_assoc] using this
end Fr
end Go.Proofs.YtadlhnjnhllpfaaDoor
