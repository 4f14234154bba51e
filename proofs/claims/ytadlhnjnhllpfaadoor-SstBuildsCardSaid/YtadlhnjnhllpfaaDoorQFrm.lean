/-
  WHAT IS PROVED: (1) plain facts on texts and frames as bytes: what is written is read back whatever stands behind it; frames cut anywhere are read so far as they are whole; a frame in which a burst was turned is none. NO CONDITION beside those that each lemma names.
-/
import Derived.Test.YtadlhnjnhllpfaaDoorQNum
import Derived.Test.YtadlhnjnhllpfaaDoorQCrc
namespace Go.Proofs.YtadlhnjnhllpfaaDoor
namespace Fr

def textOf (s : List UInt8) : List UInt8 := enc s.length ++ s
/-- The text at the front and its size; ([], 0): there is none. -/
def takeText (l : List UInt8) : List UInt8 × Nat :=
  if (dec l).2 = 0 ∨ (dec l).1 > l.length - (dec l).2 then ([], 0) else ((l.drop (dec l).2).take (dec l).1, (dec l).2 + (dec l).1)
theorem takeText_textOf (s b : List UInt8) (h : s.length < 18446744073709551616) : takeText (textOf s ++ b) = (s, (textOf s).length) := by
  unfold takeText textOf
  rw [List.append_assoc, dec_enc h]
  have hp := len_enc_pos s.length
  simp only [List.length_append]
  rw [if_neg (by omega)]
  simp

/-- Four bytes of a number, the lowest first. -/
def le4 (n : Nat) : List UInt8 := [UInt8.ofNat (n % 256), UInt8.ofNat (n / 256 % 256), UInt8.ofNat (n / 65536 % 256), UInt8.ofNat (n / 16777216 % 256)]
theorem le4_length (n : Nat) : (le4 n).length = 4 := rfl
theorem le4_take_succ (n : Nat) {j : Nat} (h : j < 4) : (le4 n).take (j + 1) = (le4 n).take j ++ [UInt8.ofNat (n / 256 ^ j % 256)] := by
  match j, h with
  | 0, _ => simp [le4]
  | 1, _ => rfl
  | 2, _ => rfl
  | 3, _ => rfl
theorem word_le4 {n : Nat} (h : n < 4294967296) : word (le4 n) = n := by
  simp only [le4, word]
  rw [ofNat_toNat (by omega), ofNat_toNat (by omega), ofNat_toNat (by omega), ofNat_toNat (by omega)]
  omega
theorem le4_word {l : List UInt8} (h : l.length = 4) : le4 (word l) = l := by
  match l, h with
  | [a, b, c, d], _ =>
    have ha := a.toNat_lt
    have hb := b.toNat_lt
    have hc := c.toNat_lt
    have hd := d.toNat_lt
    simp only [word, le4]
    congr 1
    · apply u8_ext; rw [ofNat_toNat (by omega)]; omega
    congr 1
    · apply u8_ext; rw [ofNat_toNat (by omega)]; omega
    congr 1
    · apply u8_ext; rw [ofNat_toNat (by omega)]; omega
    congr 1
    apply u8_ext; rw [ofNat_toNat (by omega)]; omega
theorem word_lt4 {l : List UInt8} (h : l.length = 4) : word l < 4294967296 := by
  have := word_lt l
  rw [h] at this
  exact this

def sealOf (p : List UInt8) : List UInt8 := enc p.length ++ le4 (crc p) ++ p
theorem sealOf_length (p : List UInt8) : (sealOf p).length = (enc p.length).length + 4 + p.length := by simp only [sealOf, List.length_append, le4_length]
/-- Is a frame at the front? Its payload's place is behind the size and the sum. -/
def isFrame (l : List UInt8) : Bool :=
  decide ((dec l).2 ≠ 0 ∧ (dec l).1 ≤ 4096 ∧ (dec l).2 + 4 + (dec l).1 ≤ l.length) && decide (crc ((l.drop ((dec l).2 + 4)).take (dec l).1) = word ((l.drop (dec l).2).take 4))
/-- The payload at the front, the frame's size; ([], 0): there is none. -/
def takeF (l : List UInt8) : List UInt8 × Nat :=
  if isFrame l then ((l.drop ((dec l).2 + 4)).take (dec l).1, (dec l).2 + 4 + (dec l).1) else ([], 0)
theorem takeF_yes {l : List UInt8} (h : isFrame l = true) : takeF l = ((l.drop ((dec l).2 + 4)).take (dec l).1, (dec l).2 + 4 + (dec l).1) := by unfold takeF; rw [if_pos h]
theorem takeF_no {l : List UInt8} (h : isFrame l = false) : takeF l = ([], 0) := by unfold takeF; rw [h]; rfl
theorem isFrame_fits {l : List UInt8} (h : isFrame l = true) : (dec l).2 ≠ 0 ∧ (dec l).1 ≤ 4096 ∧ (dec l).2 + 4 + (dec l).1 ≤ l.length ∧ crc ((l.drop ((dec l).2 + 4)).take (dec l).1) = word ((l.drop (dec l).2).take 4) := by
  unfold isFrame at h
  simp only [Bool.and_eq_true, decide_eq_true_eq] at h
  exact ⟨h.1.1, h.1.2.1, h.1.2.2, h.2⟩
theorem isFrame_iff {l : List UInt8} (h1 : (dec l).2 ≠ 0) (h2 : (dec l).1 ≤ 4096) (h3 : (dec l).2 + 4 + (dec l).1 ≤ l.length) : isFrame l = decide (crc ((l.drop ((dec l).2 + 4)).take (dec l).1) = word ((l.drop (dec l).2).take 4)) := by
  unfold isFrame
  rw [decide_eq_true ⟨h1, h2, h3⟩, Bool.true_and]
theorem isFrame_unfit {l : List UInt8} (h : (dec l).2 = 0 ∨ 4096 < (dec l).1 ∨ l.length < (dec l).2 + 4 + (dec l).1) : isFrame l = false := by
  unfold isFrame
  rw [decide_eq_false, Bool.false_and]
  omega
theorem takeF_size (l : List UInt8) : (takeF l).2 ≤ l.length := by
  cases h : isFrame l
  · rw [takeF_no h]; simp
  · rw [takeF_yes h]; have := isFrame_fits h; omega
theorem takeF_len (l : List UInt8) : (takeF l).1.length ≤ 4096 := by
  cases h : isFrame l
  · rw [takeF_no h]; simp
  · rw [takeF_yes h]; have := isFrame_fits h; simp; omega
theorem takeF_pos (l : List UInt8) : isFrame l = decide (0 < (takeF l).2) := by
  cases h : isFrame l
  · rw [takeF_no h]; rfl
  · rw [takeF_yes h]
    have := isFrame_fits h
    exact (decide_eq_true (by show 0 < _; omega)).symm
/-- What stands at the front of a list that begins with a frame's form. -/
theorem dec_sealOf {p : List UInt8} (h : p.length ≤ 4096) (b : List UInt8) : dec (sealOf p ++ b) = (p.length, (enc p.length).length) := by
  unfold sealOf
  rw [List.append_assoc, List.append_assoc]
  exact dec_enc (by omega) _
theorem drop_sealOf (p b : List UInt8) : (sealOf p ++ b).drop ((enc p.length).length + 4) = p ++ b := by
  have e : (enc p.length).length + 4 = (enc p.length ++ le4 (crc p)).length := by simp [le4_length]
  unfold sealOf
  rw [e, List.append_assoc, List.drop_left]
theorem sum_sealOf (p b : List UInt8) : ((sealOf p ++ b).drop (enc p.length).length).take 4 = le4 (crc p) := by
  unfold sealOf
  rw [List.append_assoc, List.append_assoc, List.drop_left, show 4 = (le4 (crc p)).length from rfl, List.take_left]
theorem isFrame_sealOf {p : List UInt8} (h : p.length ≤ 4096) (b : List UInt8) : isFrame (sealOf p ++ b) = true := by
  have hp := len_enc_pos p.length
  have hd := dec_sealOf h b
  rw [isFrame_iff (by rw [hd]; show _ ≠ 0; omega) (by rw [hd]; exact h) (by rw [hd, List.length_append, sealOf_length]; omega), hd]
  simp only
  rw [drop_sealOf, sum_sealOf, List.take_left, word_le4 (crc_lt p)]
  simp
theorem takeF_sealOf {p : List UInt8} (h : p.length ≤ 4096) (b : List UInt8) : takeF (sealOf p ++ b) = (p, (sealOf p).length) := by
  rw [takeF_yes (isFrame_sealOf h b), dec_sealOf h b]
  simp only
  rw [drop_sealOf, List.take_left, sealOf_length]
/-- The reference's question: the payload's own frame stands there. -/
theorem ref_frame {l : List UInt8} (h1 : (dec l).2 ≠ 0) (h3 : (dec l).2 + 4 + (dec l).1 ≤ l.length) :
    (sealOf ((l.drop ((dec l).2 + 4)).take (dec l).1) = l.take ((dec l).2 + 4 + (dec l).1)) ↔ crc ((l.drop ((dec l).2 + 4)).take (dec l).1) = word ((l.drop (dec l).2).take 4) := by
  obtain ⟨hf, hl⟩ := dec_form h1
  obtain ⟨p, hp⟩ : ∃ p, p = (l.drop ((dec l).2 + 4)).take (dec l).1 := ⟨_, rfl⟩
  have hpl : p.length = (dec l).1 := by rw [hp]; simp; omega
  have hs4 : ((l.drop (dec l).2).take 4).length = 4 := by simp; omega
  rw [← hp]
  have hsplit : l.take ((dec l).2 + 4 + (dec l).1) = enc (dec l).1 ++ (l.drop (dec l).2).take 4 ++ p := by
    rw [hf, hp, List.append_assoc, Nat.add_assoc, List.take_add, List.take_add, List.drop_drop]
  rw [hsplit]
  unfold sealOf
  rw [hpl]
  constructor
  · intro h
    have h2 := List.append_cancel_right h
    have h3 := List.append_cancel_left h2
    rw [← h3, word_le4 (crc_lt p)]
  · intro h
    rw [h, le4_word hs4]

/-! ### Frames one behind the other -/
def scanF : Nat → List UInt8 → List (List UInt8) × Nat
  | 0, _ => ([], 0)
  | k + 1, l => if isFrame l then ((takeF l).1 :: (scanF k (l.drop (takeF l).2)).1, (takeF l).2 + (scanF k (l.drop (takeF l).2)).2) else ([], 0)
def scan (l : List UInt8) : List (List UInt8) × Nat := scanF l.length l
theorem isFrame_pos {l : List UInt8} (h : isFrame l = true) : 0 < (takeF l).2 := by
  rw [takeF_yes h]; have := isFrame_fits h; show 0 < _; omega
theorem scanF_more : ∀ (k m : Nat) (l : List UInt8), l.length ≤ k → l.length ≤ m → scanF k l = scanF m l := by
  intro k
  induction k with
  | zero =>
    intro m l h _
    have hl : l = [] := List.eq_nil_of_length_eq_zero (by omega)
    subst hl
    cases m with
    | zero => rfl
    | succ m => simp only [scanF]; rw [if_neg (by decide)]
  | succ k ih =>
    intro m l h hm
    cases m with
    | zero =>
      have hl : l = [] := List.eq_nil_of_length_eq_zero (by omega)
      subst hl
      simp only [scanF]; rw [if_neg (by decide)]
    | succ m =>
      simp only [scanF]
      by_cases hf : isFrame l = true
      · have hp := isFrame_pos hf
        have hle : (l.drop (takeF l).2).length ≤ k ∧ (l.drop (takeF l).2).length ≤ m := by rw [List.length_drop]; omega
        rw [if_pos hf, if_pos hf, ih m _ hle.1 hle.2]
      · rw [if_neg hf, if_neg hf]
theorem scan_yes {l : List UInt8} (h : isFrame l = true) : scan l = ((takeF l).1 :: (scan (l.drop (takeF l).2)).1, (takeF l).2 + (scan (l.drop (takeF l).2)).2) := by
  have hp := isFrame_pos h
  have hs := takeF_size l
  unfold scan
  obtain ⟨k, hk⟩ : ∃ k, l.length = k + 1 := ⟨l.length - 1, by omega⟩
  rw [hk]
  simp only [scanF]
  rw [if_pos h, scanF_more k _ _ (by rw [List.length_drop]; omega) (Nat.le_refl _)]
theorem scan_no {l : List UInt8} (h : isFrame l = false) : scan l = ([], 0) := by
  unfold scan
  cases hk : l.length with
  | zero => rfl
  | succ k => simp only [scanF]; rw [if_neg (by rw [h]; decide)]
theorem scan_size : ∀ (k : Nat) (l : List UInt8), l.length ≤ k → (scan l).2 ≤ l.length := by
  intro k
  induction k with
  | zero =>
    intro l h
    have hl : l = [] := List.eq_nil_of_length_eq_zero (by omega)
    subst hl
    simp [scan, scanF]
  | succ k ih =>
    intro l h
    cases hf : isFrame l
    · rw [scan_no hf]; simp
    · have hp := isFrame_pos hf
      have hs := takeF_size l
      rw [scan_yes hf]
      have := ih (l.drop (takeF l).2) (by rw [List.length_drop]; omega)
      rw [List.length_drop] at this
      show _ + _ ≤ _
      omega
theorem scan_len : ∀ (k : Nat) (l : List UInt8), l.length ≤ k → (scan l).1.length ≤ l.length := by
  intro k
  induction k with
  | zero =>
    intro l h
    have hl : l = [] := List.eq_nil_of_length_eq_zero (by omega)
    subst hl
    simp [scan, scanF]
  | succ k ih =>
    intro l h
    cases hf : isFrame l
    · rw [scan_no hf]; simp
    · have hp := isFrame_pos hf
      have hs := takeF_size l
      rw [scan_yes hf]
      have := ih (l.drop (takeF l).2) (by rw [List.length_drop]; omega)
      rw [List.length_drop] at this
      simp only [List.length_cons]
      omega
end Fr
end Go.Proofs.YtadlhnjnhllpfaaDoor
