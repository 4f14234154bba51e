/-
  WHAT IS PROVED: (1) plain facts on the names of segments: six digits, their value, their order. NO CONDITION beside those that each lemma names.
-/
import Derived.Lib.ItoaNum
import Derived.Lib.AtoiAll
namespace Go.Proofs.YtbfmjonabndhaaaGreatDoor
open Go
namespace Wl

abbrev Bs := List UInt8
/-- One digit. -/
def dg (k : Nat) : UInt8 := UInt8.ofNat (48 + k)
/-- So many digits of a number. -/
def digs : Nat → Nat → Bs
  | 0, _ => []
  | k + 1, n => digs k (n / 10) ++ [dg (n % 10)]
/-- Six digits. -/
def dig6 (n : Nat) : Bs := digs 6 n
theorem digs_len : ∀ k n, (digs k n).length = k
  | 0, _ => rfl
  | k + 1, n => by rw [digs, List.length_append, digs_len k]; rfl
theorem dig6_len (n : Nat) : (dig6 n).length = 6 := digs_len 6 n
def pre : Bs := [119, 97, 108, 45]
/-- The name of a segment; the empty text for a number that no segment has. -/
def seg (n : Int) : Bs := if 1 ≤ n ∧ n ≤ 999999 then pre ++ dig6 n.toNat else []

theorem dg_toNat {k : Nat} (h : k < 10) : (dg k).toNat = 48 + k := by
  have h2 : 48 + k < 256 := by omega
  simp [dg, UInt8.toNat_ofNat', Nat.mod_eq_of_lt h2]
theorem dec_step {u : Nat} (h : 10 ≤ u) : Lib.decDigits u = Lib.decDigits (u / 10) ++ [dg (u % 10)] := by
  rw [Lib.decDigits, dif_neg (by omega)]
  rfl
theorem dec_digs : ∀ (k n : Nat), n < 10 ^ k → Lib.decDigits (10 ^ k + n) = 49 :: digs k n
  | 0, n, h => by
    have : n = 0 := by simpa using h
    subst this
    rw [Nat.pow_zero, Nat.add_zero, Lib.decDigits_one (by decide)]
    rfl
  | k + 1, n, h => by
    have hp : 1 ≤ 10 ^ k := Nat.one_le_pow _ _ (by decide)
    rw [Nat.pow_succ] at h ⊢
    have h1 : 10 ≤ 10 ^ k * 10 + n := by omega
    have h2 : (10 ^ k * 10 + n) / 10 = 10 ^ k + n / 10 := by omega
    have h3 : (10 ^ k * 10 + n) % 10 = n % 10 := by omega
    rw [dec_step h1, h2, h3, dec_digs k (n / 10) (by omega)]
    rfl
theorem dec_dig6 {n : Nat} (h : n ≤ 999999) : Lib.decDigits (1000000 + n) = 49 :: dig6 n := dec_digs 6 n (by omega)
theorem itoa_dig6 {n : Int} (h1 : 1 ≤ n) (h2 : n ≤ 999999) : Lib.itoa (1000000 + n) = 49 :: dig6 n.toNat := by
  rw [Lib.itoa, if_neg (by omega), show (1000000 + n).toNat = 1000000 + n.toNat by omega, dec_dig6 (by omega)]
theorem seg_in {n : Int} (h1 : 1 ≤ n) (h2 : n ≤ 999999) : seg n = pre ++ dig6 n.toNat := if_pos ⟨h1, h2⟩
theorem seg_out {n : Int} (h : ¬ (1 ≤ n ∧ n ≤ 999999)) : seg n = [] := if_neg h
theorem seg_ne {n : Int} (h1 : 1 ≤ n) (h2 : n ≤ 999999) : seg n ≠ [] := by rw [seg_in h1 h2]; simp [pre]
theorem seg_len {n : Int} (h1 : 1 ≤ n) (h2 : n ≤ 999999) : (seg n).length = 10 := by rw [seg_in h1 h2]; simp [pre, dig6_len]

/-! ### the value -/
theorem p10_step {acc k : Nat} (r : Bs) (hk : k < 10) (ha : acc ≤ 1000000) : Lib.parseUint10 acc (dg k :: r) = Lib.parseUint10 (acc * 10 + k) r := by
  rw [Lib.parseUint10, dg_toNat hk, if_pos (by omega), if_neg (by omega), if_neg (by omega), Nat.add_sub_cancel_left]
theorem p10_digs : ∀ (k n : Nat) (r : Bs), n < 10 ^ k → n ≤ 999999 → Lib.parseUint10 0 (digs k n ++ r) = Lib.parseUint10 n r
  | 0, n, r, h, _ => by
    have : n = 0 := by simpa using h
    subst this
    rfl
  | k + 1, n, r, h, h6 => by
    rw [Nat.pow_succ] at h
    have h1 : n / 10 * 10 + n % 10 = n := by omega
    rw [digs, List.append_assoc, List.singleton_append, p10_digs k (n / 10) _ (by omega) (by omega), p10_step _ (by omega) (by omega), h1]
theorem p10_dig6 {n : Nat} (h : n ≤ 999999) : Lib.parseUint10 0 (dig6 n) = .ok n := by
  have := p10_digs 6 n [] (by omega) h
  rw [List.append_nil] at this
  rw [dig6, this, Lib.parseUint10]
theorem dig6_head (n : Nat) : ∃ k r, k < 10 ∧ dig6 n = dg k :: r := ⟨n / 10 / 10 / 10 / 10 / 10 % 10, _, Nat.mod_lt _ (by decide), rfl⟩
theorem atoi_dig6 {n : Nat} (h : n ≤ 999999) : Lib.atoiAll (dig6 n) = .ok (n : Int) := by
  have h5 := p10_dig6 h
  obtain ⟨k, r, hk, e⟩ := dig6_head n
  have hd : (dg k).toNat = 48 + k := dg_toNat hk
  rw [e] at h5 ⊢
  unfold Lib.atoiAll
  simp only
  rw [if_neg (by omega), Lib.parseMag, if_neg (by simp), h5]
  simp only
  rw [if_neg (by omega), if_neg (by omega), if_neg (by omega)]

/-! ### the order -/
theorem dg_lt {a b : Nat} (ha : a < 10) (hb : b < 10) : dg a < dg b ↔ a < b := by
  rw [UInt8.lt_iff_toNat_lt, dg_toNat ha, dg_toNat hb]
  omega
theorem dg_inj {a b : Nat} (ha : a < 10) (hb : b < 10) (h : dg a = dg b) : a = b := by
  have := congrArg UInt8.toNat h
  rw [dg_toNat ha, dg_toNat hb] at this
  omega
theorem lt_append : ∀ (l m : Bs) (r s : Bs), l.length = m.length → l < m → l ++ r < m ++ s
  | [], [], _, _, _, h => absurd h (List.lt_irrefl _)
  | [], _ :: _, _, _, h, _ => by cases h
  | _ :: _, [], _, _, h, _ => by cases h
  | a :: l, b :: m, r, s, hl, h => by
    rw [List.cons_lt_cons_iff] at h
    rw [List.cons_append, List.cons_append, List.cons_lt_cons_iff]
    rcases h with h | ⟨h, k⟩
    · exact .inl h
    · exact .inr ⟨h, lt_append l m r s (by simpa using hl) k⟩
theorem append_lt : ∀ (l : Bs) {r s : Bs}, r < s → l ++ r < l ++ s
  | [], _, _, h => h
  | a :: l, r, s, h => by
    rw [List.cons_append, List.cons_append, List.cons_lt_cons_iff]
    exact .inr ⟨rfl, append_lt l h⟩
theorem digs_lt : ∀ (k a b : Nat), b < 10 ^ k → a < b → digs k a < digs k b
  | 0, a, b, h, h2 => by
    have : b = 0 := by simpa using h
    omega
  | k + 1, a, b, h, h2 => by
    rw [Nat.pow_succ] at h
    rw [digs, digs]
    rcases Nat.lt_or_ge (a / 10) (b / 10) with q | q
    · exact lt_append _ _ _ _ (by rw [digs_len, digs_len]) (digs_lt k _ _ (by omega) q)
    · have e : a / 10 = b / 10 := by omega
      rw [e]
      refine append_lt _ ?_
      rw [List.cons_lt_cons_iff]
      exact .inl ((dg_lt (by omega) (by omega)).2 (by omega))
theorem dig6_lt {a b : Nat} (hb : b ≤ 999999) (h : a < b) : dig6 a < dig6 b := digs_lt 6 a b (by omega) h
theorem dig6_inj {a b : Nat} (ha : a ≤ 999999) (hb : b ≤ 999999) (h : dig6 a = dig6 b) : a = b := by
  rcases Nat.lt_trichotomy a b with k | k | k
  · exact absurd (h ▸ dig6_lt hb k) (List.lt_irrefl _)
  · exact k
  · exact absurd (h ▸ dig6_lt ha k) (List.lt_irrefl _)
theorem seg_inj {a b : Int} (h1 : 1 ≤ a) (h2 : a ≤ 999999) (h3 : 1 ≤ b) (h4 : b ≤ 999999) (h : seg a = seg b) : a = b := by
  rw [seg_in h1 h2, seg_in h3 h4] at h
  have := dig6_inj (by omega) (by omega) (List.append_cancel_left h)
  omega
theorem seg_lt {a b : Int} (h1 : 1 ≤ a) (h4 : b ≤ 999999) (h : a < b) : seg a < seg b := by
  rw [seg_in h1 (by omega), seg_in (by omega) h4]
  have := dig6_lt (a := a.toNat) (b := b.toNat) (by omega) (by omega)
  exact append_lt pre this

/-! ### the number of a name -/
/-- 0 if no segment has this name. -/
noncomputable def num (l : Bs) : Int := open Classical in if h : ∃ n : Int, 1 ≤ n ∧ n ≤ 999999 ∧ seg n = l then h.choose else 0
theorem num_seg {n : Int} (h1 : 1 ≤ n) (h2 : n ≤ 999999) : num (seg n) = n := by
  have h : ∃ m : Int, 1 ≤ m ∧ m ≤ 999999 ∧ seg m = seg n := ⟨n, h1, h2, rfl⟩
  unfold num
  rw [dif_pos h]
  obtain ⟨a, b, c⟩ := h.choose_spec
  exact seg_inj a b h1 h2 c
theorem num_none {l : Bs} (h : ∀ n : Int, 1 ≤ n → n ≤ 999999 → seg n ≠ l) : num l = 0 := by
  unfold num
  rw [dif_neg]
  rintro ⟨n, a, b, c⟩
  exact h n a b c
theorem num_cases (l : Bs) : num l = 0 ∧ (∀ n : Int, 1 ≤ n → n ≤ 999999 → seg n ≠ l) ∨ 1 ≤ num l ∧ num l ≤ 999999 ∧ seg (num l) = l := by
  by_cases h : ∃ n : Int, 1 ≤ n ∧ n ≤ 999999 ∧ seg n = l
  · obtain ⟨n, a, b, rfl⟩ := h
    rw [num_seg a b]
    exact .inr ⟨a, b, rfl⟩
  · have k : ∀ n : Int, 1 ≤ n → n ≤ 999999 → seg n ≠ l := fun n a b c => h ⟨n, a, b, c⟩
    exact .inl ⟨num_none k, k⟩

end Wl
end Go.Proofs.YtbfmjonabndhaaaGreatDoor
