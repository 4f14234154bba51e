/-
  WHAT IS PROVED: (1) plain facts on numbers as bytes (seven bits a byte, the lowest first, the shortest form): every number has one form, and of any bytes just the forms are read. NO CONDITION beside those that each lemma names.
-/

namespace Go.Proofs.YtadlhnjnhllpfaaDoor
namespace Fr

/-- The bytes of a number. -/
def enc (n : Nat) : List UInt8 := if n < 128 then [UInt8.ofNat n] else UInt8.ofNat (n % 128 + 128) :: enc (n / 128)
  termination_by n
  decreasing_by omega

/-- What bytes are worth. -/
def val : List UInt8 → Nat
  | [] => 0
  | b :: r => b.toNat % 128 + 128 * val r

theorem enc_lt {n : Nat} (h : n < 128) : enc n = [UInt8.ofNat n] := by rw [enc]; simp [h]
theorem enc_ge {n : Nat} (h : 128 ≤ n) : enc n = UInt8.ofNat (n % 128 + 128) :: enc (n / 128) := by
  rw [enc]; rw [if_neg (by omega)]
theorem enc_ne (n : Nat) : enc n ≠ [] := by
  rw [enc]; split <;> simp

theorem ofNat_toNat {n : Nat} (h : n < 256) : (UInt8.ofNat n).toNat = n := by
  simp [UInt8.toNat_ofNat']; omega
theorem ofNat_eq (b : UInt8) : UInt8.ofNat b.toNat = b := by simp
theorem u8_ext {a b : UInt8} (h : a.toNat = b.toNat) : a = b := by
  rw [← ofNat_eq a, ← ofNat_eq b, h]

theorem val_enc : ∀ n : Nat, val (enc n) = n := by
  intro n
  induction n using Nat.strongRecOn with
  | ind n ih =>
    by_cases h : n < 128
    · rw [enc_lt h]; simp only [val]; rw [ofNat_toNat (by omega)]; omega
    · rw [enc_ge (by omega)]; simp only [val]; rw [ofNat_toNat (by omega), ih (n / 128) (by omega)]; omega

theorem val_append (a b : List UInt8) : val (a ++ b) = val a + 128 ^ a.length * val b := by
  induction a with
  | nil => simp [val]
  | cons x r ih =>
    simp only [List.cons_append, val, ih, List.length_cons, Nat.pow_succ]
    rw [Nat.mul_add, ← Nat.mul_assoc, Nat.mul_comm 128 (128 ^ r.length)]
    omega

theorem val_lt (l : List UInt8) : val l < 128 ^ l.length := by
  induction l with
  | nil => simp [val]
  | cons x r ih =>
    simp only [val, List.length_cons, Nat.pow_succ]
    omega

theorem len_enc : ∀ (k n : Nat), n < 128 ^ (k + 1) → (enc n).length ≤ k + 1 := by
  intro k
  induction k with
  | zero => intro n h; rw [enc_lt (by simpa using h)]; simp
  | succ k ih =>
    intro n h
    by_cases hn : n < 128
    · rw [enc_lt hn]; simp
    · rw [enc_ge (by omega)]
      have := ih (n / 128) (by rw [Nat.pow_succ] at h; omega)
      simp only [List.length_cons]; omega

theorem len_enc10 {n : Nat} (h : n < 18446744073709551616) : (enc n).length ≤ 10 := len_enc 9 n (by simp only [Nat.reduceAdd, Nat.reducePow]; omega)
theorem len_enc2 {n : Nat} (h : n ≤ 4096) : (enc n).length ≤ 2 := len_enc 1 n (by simp only [Nat.reduceAdd, Nat.reducePow]; omega)
theorem len_enc_pos (n : Nat) : 0 < (enc n).length := List.length_pos_iff.2 (enc_ne n)

/-- All of l but its last byte are 128 or more. -/
def Hi (l : List UInt8) : Prop := ∀ b ∈ l, 128 ≤ b.toNat

/-- The shape of a form: high bytes, then a low one, which is 0 only if it stands alone. -/
theorem enc_shape (n : Nat) : ∃ p c, enc n = p ++ [c] ∧ Hi p ∧ c.toNat < 128 ∧ (c.toNat ≠ 0 ∨ p = []) := by
  induction n using Nat.strongRecOn with
  | ind n ih =>
    by_cases h : n < 128
    · exact ⟨[], UInt8.ofNat n, by rw [enc_lt h]; rfl, by intro b hb; simp at hb, by rw [ofNat_toNat (by omega)]; omega, .inr rfl⟩
    · obtain ⟨p, c, e, hp, hc, hz⟩ := ih (n / 128) (by omega)
      refine ⟨UInt8.ofNat (n % 128 + 128) :: p, c, by rw [enc_ge (by omega), e]; rfl, ?_, hc, ?_⟩
      · intro b hb
        rcases List.mem_cons.1 hb with rfl | hb
        · rw [ofNat_toNat (by omega)]; omega
        · exact hp b hb
      · left
        intro h0
        rcases hz with h1 | rfl
        · exact h1 h0
        · have hv := val_enc (n / 128)
          rw [e] at hv
          simp [val, h0] at hv
          omega

theorem enc_of_shape : ∀ (p : List UInt8) (c : UInt8), Hi p → c.toNat < 128 → (c.toNat ≠ 0 ∨ p = []) → enc (val (p ++ [c])) = p ++ [c] := by
  intro p
  induction p with
  | nil =>
    intro c _ hc _
    simp only [List.nil_append, val]
    rw [enc_lt (by omega)]
    congr 1
    apply u8_ext
    rw [ofNat_toNat (by omega)]; omega
  | cons x r ih =>
    intro c hp hc hz
    have hx : 128 ≤ x.toNat := hp x (by simp)
    have hx2 := x.toNat_lt
    have hc0 : c.toNat ≠ 0 := by
      rcases hz with h | h
      · exact h
      · cases h
    have hr := ih c (fun b hb => hp b (by simp [hb])) hc (.inl hc0)
    have hpos : 0 < val (r ++ [c]) := by
      have : val (r ++ [c]) = val r + 128 ^ r.length * (c.toNat % 128 + 128 * 0) := by rw [val_append]; rfl
      have h1 : 0 < 128 ^ r.length := Nat.pow_pos (by omega)
      have h2 : 0 < 128 ^ r.length * (c.toNat % 128 + 128 * 0) := Nat.mul_pos h1 (by omega)
      omega
    simp only [List.cons_append, val]
    rw [enc_ge (by omega)]
    have e1 : (x.toNat % 128 + 128 * val (r ++ [c])) / 128 = val (r ++ [c]) := by omega
    have e2 : (x.toNat % 128 + 128 * val (r ++ [c])) % 128 = x.toNat % 128 := by omega
    rw [e1, e2, hr]
    congr 1
    apply u8_ext
    rw [ofNat_toNat (by omega)]; omega

/-- How many high bytes stand at the front. -/
def lead : List UInt8 → Nat
  | [] => 0
  | b :: r => if 128 ≤ b.toNat then lead r + 1 else 0

theorem lead_le (l : List UInt8) : lead l ≤ l.length := by
  induction l with
  | nil => simp [lead]
  | cons b r ih => simp only [lead, List.length_cons]; split <;> omega
theorem lead_take {l : List UInt8} : ∀ {i : Nat}, i ≤ l.length → Hi (l.take i) → lead l = i + lead (l.drop i) := by
  induction l with
  | nil => intro i hi _; simp at hi; subst hi; simp [lead]
  | cons b r ih =>
    intro i hi hh
    cases i with
    | zero => simp
    | succ i =>
      have hb : 128 ≤ b.toNat := hh b (by simp)
      simp only [lead, if_pos hb, List.drop_succ_cons]
      rw [ih (by simpa using hi) (fun x hx => hh x (by simp [hx]))]
      omega
theorem hi_lead (l : List UInt8) : Hi (l.take (lead l)) := by
  induction l with
  | nil => intro b hb; simp at hb
  | cons x r ih =>
    intro b hb
    by_cases h : 128 ≤ x.toNat
    · simp only [lead, if_pos h, List.take_succ_cons, List.mem_cons] at hb
      rcases hb with rfl | hb
      · exact h
      · exact ih b hb
    · simp [lead, h] at hb
theorem lead_low {l : List UInt8} (h : lead l < l.length) : (l[lead l]).toNat < 128 := by
  induction l with
  | nil => simp at h
  | cons x r ih =>
    by_cases hx : 128 ≤ x.toNat
    · simp only [lead, if_pos hx, List.length_cons] at h ⊢
      simpa using ih (by omega)
    · simp only [lead, if_neg hx] at h ⊢
      simp; omega

/-- The number at the front, and its size; (0, 0): there is none. -/
def dec (l : List UInt8) : Nat × Nat :=
  if lead l < l.length ∧ lead l < 10 ∧ enc (val (l.take (lead l + 1))) = l.take (lead l + 1) ∧ val (l.take (lead l + 1)) < 18446744073709551616 then (val (l.take (lead l + 1)), lead l + 1) else (0, 0)

theorem dec_lt (l : List UInt8) : (dec l).1 < 18446744073709551616 := by
  unfold dec; split <;> simp_all
theorem dec_size (l : List UInt8) : (dec l).2 ≤ l.length ∧ (dec l).2 ≤ 10 := by
  unfold dec; split
  · simp; omega
  · simp
theorem dec_none {l : List UInt8} (h : (dec l).2 = 0) : dec l = (0, 0) := by
  unfold dec at h ⊢; split
  · rename_i hc; rw [if_pos hc] at h; simp at h
  · rfl
/-- Where a number is read, its form stands there. -/
theorem dec_form {l : List UInt8} (h : (dec l).2 ≠ 0) : enc (dec l).1 = l.take (dec l).2 ∧ (enc (dec l).1).length = (dec l).2 := by
  have hs := (dec_size l).1
  have e : enc (dec l).1 = l.take (dec l).2 := by
    unfold dec at h ⊢; split
    · rename_i hc; exact hc.2.2.1
    · rename_i hc; rw [if_neg hc] at h; simp at h
  exact ⟨e, by rw [e, List.length_take]; omega⟩

/-- Of high bytes p, a low byte c and whatever follows. -/
theorem lead_shape {p : List UInt8} {c : UInt8} {r : List UInt8} (hp : Hi p) (hc : c.toNat < 128) : lead (p ++ c :: r) = p.length := by
  have h := lead_take (l := p ++ c :: r) (i := p.length) (by simp) (by simpa using hp)
  rw [h]
  simp [lead]; omega

/-- Every number is read back whatever stands behind it. -/
theorem dec_enc {n : Nat} (h : n < 18446744073709551616) (b : List UInt8) : dec (enc n ++ b) = (n, (enc n).length) := by
  obtain ⟨p, c, e, hp, hc, _⟩ := enc_shape n
  have hl : lead (enc n ++ b) = p.length := by rw [e]; simpa using lead_shape (r := b) hp hc
  have hlen : (enc n).length = p.length + 1 := by rw [e]; simp
  have ht : (enc n ++ b).take (p.length + 1) = enc n := by rw [← hlen]; simp
  have h10 := len_enc10 h
  unfold dec
  rw [hl, ht, val_enc, if_pos ⟨by simp; omega, by omega, rfl, h⟩, hlen]

theorem pow_128_mono {a b : Nat} (h : a ≤ b) : 128 ^ a ≤ 128 ^ b := Nat.pow_le_pow_right (by omega) h

theorem take_succ {l : List UInt8} {i : Nat} (h : i < l.length) : l.take (i + 1) = l.take i ++ [l[i]] := by
  rw [List.take_succ_eq_append_getElem h]
theorem val_take_succ {l : List UInt8} {i : Nat} (h : i < l.length) : val (l.take (i + 1)) = val (l.take i) + (l[i]).toNat % 128 * 128 ^ i := by
  rw [take_succ h, val_append, List.length_take, Nat.min_eq_left (by omega)]
  simp only [val]
  rw [Nat.mul_zero, Nat.add_zero, Nat.mul_comm]
theorem val_take_lt (l : List UInt8) (i : Nat) : val (l.take i) < 128 ^ i := by
  have h1 := val_lt (l.take i)
  have h2 : 128 ^ (l.take i).length ≤ 128 ^ i := pow_128_mono (by simp; omega)
  omega
theorem hi_take_succ {l : List UInt8} {i : Nat} (h : i < l.length) (hh : Hi (l.take i)) (hc : 128 ≤ (l[i]).toNat) : Hi (l.take (i + 1)) := by
  intro b hb
  rw [take_succ h] at hb
  rcases List.mem_append.1 hb with hb | hb
  · exact hh b hb
  · simp at hb; subst hb; exact hc

theorem lead_at {l : List UInt8} {i : Nat} (h : i < l.length) (hh : Hi (l.take i)) (hc : (l[i]).toNat < 128) : lead l = i := by
  rw [lead_take (by omega) hh, List.drop_eq_getElem_cons h]
  simp [lead]; omega

/-- The four ends of the reading loop at place i, where all bytes ahead of i are high. -/
theorem dec_big {l : List UInt8} (h : 9 < l.length) (hh : Hi (l.take 9)) (hc : 1 < (l[9]).toNat) : dec l = (0, 0) := by
  unfold dec
  rw [if_neg]
  rintro ⟨h1, h2, h3, h4⟩
  have hl : lead l = 9 := by
    by_cases hl : (l[9]).toNat < 128
    · exact lead_at h hh hl
    · have := lead_take (l := l) (i := 10) (by omega) (hi_take_succ h hh (by omega))
      omega
  have hlow := lead_low h1
  have hlow' : (l[9]).toNat < 128 := by
    have : l[lead l] = l[9] := by congr 1
    rw [← this]; exact hlow
  rw [hl, val_take_succ h] at h4
  simp only [Nat.reducePow] at h4
  omega
theorem dec_zero {l : List UInt8} {i : Nat} (h : i < l.length) (hh : Hi (l.take i)) (hc : (l[i]).toNat = 0) (h0 : 0 < i) : dec l = (0, 0) := by
  have hl := lead_at h hh (by omega)
  unfold dec
  rw [if_neg]
  rintro ⟨_, _, h3, _⟩
  rw [hl] at h3
  have hv : val (l.take (i + 1)) = val (l.take i) := by rw [val_take_succ h, hc]; simp
  have hb := val_take_lt l i
  have hle := len_enc (i - 1) (val (l.take (i + 1))) (by rw [hv, Nat.sub_add_cancel h0]; exact hb)
  rw [h3, List.length_take] at hle
  omega
theorem dec_ok {l : List UInt8} {i : Nat} (h : i < l.length) (h10 : i < 10) (hh : Hi (l.take i)) (hc : (l[i]).toNat < 128) (hz : (l[i]).toNat ≠ 0 ∨ i = 0) (hb : val (l.take (i + 1)) < 18446744073709551616) :
    dec l = (val (l.take (i + 1)), i + 1) := by
  have hl := lead_at h hh hc
  unfold dec
  rw [hl, if_pos]
  refine ⟨h, h10, ?_, hb⟩
  rw [take_succ h]
  exact enc_of_shape _ _ hh hc (by rcases hz with hz | hz; exact .inl hz; subst hz; exact .inr rfl)
theorem dec_long {l : List UInt8} {i : Nat} (h : i = l.length ∨ i = 10) (hi : i ≤ l.length) (hh : Hi (l.take i)) : dec l = (0, 0) := by
  unfold dec
  have hl := lead_take hi hh
  have hle := lead_le (l.drop i)
  rw [List.length_drop] at hle
  rw [if_neg]
  rintro ⟨h1, h2, _⟩
  rcases h with h | h <;> omega
/-- The value's bound where the last byte is the tenth, 0 or 1. -/
theorem val_small {l : List UInt8} {i : Nat} (h : i < l.length) (h10 : i < 10) (hc : (l[i]).toNat < 128) (h9 : i = 9 → (l[i]).toNat ≤ 1) : val (l.take (i + 1)) < 18446744073709551616 := by
  by_cases h8 : i = 9
  · subst h8
    have h1 := val_take_lt l 9
    rw [val_take_succ h]
    have h2 := h9 rfl
    simp only [Nat.reducePow] at h1 ⊢
    have : (l[9]).toNat % 128 = 0 ∨ (l[9]).toNat % 128 = 1 := by omega
    rcases this with e | e <;> rw [e] <;> omega
  · have h1 := val_take_lt l (i + 1)
    have h2 : 128 ^ (i + 1) ≤ 128 ^ 9 := pow_128_mono (by omega)
    simp only [Nat.reducePow] at h2
    omega
/-- Cut to 64 bits. -/
def m64 (n : Nat) : Nat := n % 18446744073709551616
theorem m64_lt (n : Nat) : m64 n < 18446744073709551616 := by unfold m64; omega
theorem m64_step (V y : Nat) : (m64 V * 128 + y) % 18446744073709551616 = m64 (y + 128 * V) := by unfold m64; omega
theorem val_drop_pred {l : List UInt8} {j : Nat} (h : j < l.length) : val (l.drop j) = (l[j]).toNat % 128 + 128 * val (l.drop (j + 1)) := by
  rw [List.drop_eq_getElem_cons h]; rfl
/-- What the reference asks: that the number's form, cut to 64 bits, stands there. -/
theorem dec_ref {l : List UInt8} (h : lead l < l.length) (h10 : lead l < 10) :
    dec l = if enc (m64 (val (l.take (lead l + 1)))) = l.take (lead l + 1) then (m64 (val (l.take (lead l + 1))), lead l + 1) else (0, 0) := by
  unfold dec m64
  by_cases hb : val (l.take (lead l + 1)) < 18446744073709551616
  · rw [Nat.mod_eq_of_lt hb]
    simp only [h, h10, hb, true_and, and_true]
  · rw [if_neg (by omega), if_neg]
    intro he
    have := val_enc (val (l.take (lead l + 1)) % 18446744073709551616)
    rw [he] at this
    omega
theorem dec_ref_none {l : List UInt8} (h : lead l = l.length ∨ 10 ≤ lead l) : dec l = (0, 0) := by
  unfold dec
  rw [if_neg]
  rintro ⟨h1, h2, _⟩
  rcases h with h | h <;> omega
end Fr
end Go.Proofs.YtadlhnjnhllpfaaDoor
