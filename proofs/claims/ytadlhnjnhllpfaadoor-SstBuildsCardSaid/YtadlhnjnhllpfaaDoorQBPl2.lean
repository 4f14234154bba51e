/-
  WHAT IS PROVED: (1) plain facts: what May answers of a filter that was built. NO CONDITION beside those that each lemma names.
-/
import Derived.Test.YtadlhnjnhllpfaaDoorQBNum
namespace Go.Proofs.YtadlhnjnhllpfaaDoor
open Go
namespace Bl
theorem bit_filt {keys : List Bs} {per : Int} {p : Nat} (hp : p < 8 * sizeOf keys.length per) (hs : 0 < sizeOf keys.length per) : bit (filt keys per) p = decide (∃ key ∈ keys, p ∈ places key (8 * sizeOf keys.length per) (kOf per)) := by
  rw [← bitsOf_bit _ _ hs]
  unfold bit filt
  rw [List.getElem?_set_ne (by omega)]
theorem last_filt (keys : List Bs) (per : Int) : (((filt keys per)[sizeOf keys.length per]?).getD 0).toNat = kOf per := by
  have h := kOf_le per
  have hl := bitsOf_len (sizeOf keys.length per) (kOf per) keys
  unfold filt
  rw [List.getElem?_set_self (by omega), Option.getD_some, UInt8.toNat_ofNat', Nat.mod_eq_of_lt (by omega)]
theorem may_filt {keys : List Bs} {per : Int} (hn : keys.length ≤ 200) (key : Bs) : may (filt keys per) key = (places key (8 * sizeOf keys.length per) (kOf per)).all fun p => decide (∃ k ∈ keys, p ∈ places k (8 * sizeOf keys.length per) (kOf per)) := by
  have h1 := sizeOf_le keys.length per hn
  have h2 := kOf_le per
  have hl := filt_len keys per
  have hk := last_filt keys per
  unfold may
  rw [hl, Nat.add_sub_cancel, hk, if_neg (by omega), if_neg (by omega), Bool.eq_iff_iff, List.all_eq_true, List.all_eq_true]
  constructor
  · intro h p hp
    rw [← bit_filt (places_lt (by omega) hp) (by omega)]
    exact h p hp
  · intro h p hp
    rw [bit_filt (places_lt (by omega) hp) (by omega)]
    exact h p hp
/-- None is forgotten. -/
theorem may_keeps {keys : List Bs} {per : Int} (hn : keys.length ≤ 200) {key : Bs} (hk : key ∈ keys) : may (filt keys per) key = true := by
  rw [may_filt hn, List.all_eq_true]
  intro p hp
  exact decide_eq_true ⟨key, hk, hp⟩
/-- A filter of no keys. -/
theorem may_none (per : Int) (key : Bs) : may (filt [] per) key = false := by
  rw [may_filt (by simp), List.all_eq_false]
  have h2 := kOf_le per
  obtain ⟨k, hk⟩ : ∃ k, kOf per = k + 1 := ⟨kOf per - 1, by omega⟩
  exact ⟨spot (fnv key) k % (8 * sizeOf ([] : List Bs).length per), by rw [hk, places_succ]; simp, by simp⟩
theorem size_small {n : Nat} {per : Int} (hn : n ≤ 6) (hp : per ≤ 10) : sizeOf n per = 8 := by
  have h := per1_le per
  have h1 : per1 per ≤ 10 := by unfold per1; omega
  have h2 : n * per1 per ≤ 6 * 10 := Nat.mul_le_mul hn h1
  unfold sizeOf
  omega
/-- Fewer keys in the same room. -/
theorem may_fewer {keys : List Bs} {per : Int} (j : Nat) (hn : keys.length ≤ 6) (hp : per ≤ 10) (key : Bs) (h : may (filt (keys.take j) per) key = true) : may (filt keys per) key = true := by
  have hj : (keys.take j).length ≤ 6 := by rw [List.length_take]; omega
  rw [may_filt (by omega), List.all_eq_true] at h
  rw [may_filt (by omega), List.all_eq_true]
  rw [size_small hn hp]
  rw [size_small hj hp] at h
  intro p hp
  have := h p hp
  simp only [decide_eq_true_eq] at this ⊢
  obtain ⟨k, h1, h2⟩ := this
  exact ⟨k, List.mem_of_mem_take h1, h2⟩
end Bl
end Go.Proofs.YtadlhnjnhllpfaaDoor
