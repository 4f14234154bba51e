/-
  WHAT IS PROVED: (1) plain facts on looking for a key block by block. NO CONDITION beside those that each lemma names.
-/
import Derived.Test.YtadlhnjnhllpfaaDoorQSParse
import Derived.Test.YtadlhnjnhllpfaaDoorQBMay
import Derived.Test.YtadlhnjnhllpfaaDoorQBPl2
import Derived.Test.YtadlhnjnhllpfaaDoorQMRef
namespace Go.Proofs.YtadlhnjnhllpfaaDoor
open Go Go.RowKit Go.Shelf Go.Maps Go.Sort Go.Proofs.YtadlhnjnhllpfaaDoor.Mm Go.Proofs.YtadlhnjnhllpfaaDoor.Fr
namespace Ss
/-- Nothing is found in block x. -/
def NoHit (L : List En) (key : ByteArray) (q : Int) (x : Nat) : Prop := ∀ (j : Nat) (e : En), j < 3 → L[3 * x + j]? = some e → Mm.hit key.toList q e = false
theorem hit_no {k : List UInt8} {q : Int} {e : En} (h : e.k ≠ k) : Mm.hit k q e = false := by simp [Mm.hit, h]
theorem hit_bef {k : List UInt8} {q : Int} {e : En} (h : bef e k q) : Mm.hit k q e = false := by
  rw [Bool.eq_false_iff]
  intro h2
  obtain ⟨h3, h4⟩ := Mm.hit_iff.1 h2
  rcases h with h | ⟨_, h⟩
  · rw [h3] at h; exact List.lt_irrefl _ h
  · omega
theorem lt_of_not {a b : List UInt8} (h1 : ¬ a < b) (h2 : a ≠ b) : b < a := by
  rcases Nat.lt_or_ge 0 1 with _ | h
  · exact Classical.byContradiction fun h3 => h2 (List.le_antisymm (List.not_lt.1 h3) (List.not_lt.1 h1))
  · omega
theorem hit_yes {k : List UInt8} {q : Int} {e : En} (h : ¬ bef e k q) (h2 : e.k = k) : Mm.hit k q e = true := Mm.hit_iff.2 ⟨h2, by
  rcases Int.lt_or_le q e.seq with h3 | h3
  · exact absurd (Or.inr ⟨h2, h3⟩) h
  · exact h3⟩
theorem hit_after {k : List UInt8} {q : Int} {e : En} (h : ¬ bef e k q) (h2 : e.k ≠ k) : k < e.k := lt_of_not (fun h3 => h (.inl h3)) h2
section
variable {L : List En} {key : ByteArray} {q : Int} {x : Nat}
theorem key_mono (hs : L.Pairwise fun a b => bef a b.k b.seq) {i j : Nat} {a b : En} (hij : i < j) (ha : L[i]? = some a) (hb : L[j]? = some b) : ¬ b.k < a.k := by
  obtain ⟨hi, rfl⟩ := List.getElem?_eq_some_iff.1 ha
  obtain ⟨hj, rfl⟩ := List.getElem?_eq_some_iff.1 hb
  intro h
  rcases List.pairwise_iff_getElem.1 hs i j hi hj hij with h1 | ⟨h1, _⟩
  · exact List.lt_irrefl _ (List.lt_trans h h1)
  · rw [h1] at h; exact List.lt_irrefl _ h
theorem after_all (hs : L.Pairwise fun a b => bef a b.k b.seq) {i : Nat} {a : En} (ha : L[i]? = some a) (h : key.toList < a.k) : ∀ (i' : Nat) (e : En), i ≤ i' → L[i']? = some e → Mm.hit key.toList q e = false := fun i' e hi he => by
  rcases Nat.lt_or_ge i i' with h1 | h1
  · refine hit_no fun h2 => key_mono hs h1 ha he ?_
    rw [h2]; exact h
  · obtain rfl : i' = i := by omega
    rw [ha] at he
    cases he
    exact hit_no fun h2 => by rw [h2] at h; exact List.lt_irrefl _ h
theorem low_all (hs : L.Pairwise fun a b => bef a b.k b.seq) {z : En} {t : Nat} (hz : L[t]? = some z) (h : z.k < key.toList) (ht : ∀ (j : Nat) (e : En), j < 3 → L[3 * x + j]? = some e → 3 * x + j ≤ t) : NoHit L key q x := fun j e hj he => by
  have h1 := ht j e hj he
  refine hit_no fun h2 => ?_
  rcases Nat.lt_or_ge (3 * x + j) t with h3 | h3
  · refine key_mono hs h3 he hz ?_
    rw [h2]; exact h
  · obtain rfl : 3 * x + j = t := by omega
    rw [he] at hz
    cases hz
    rw [h2] at h
    exact List.lt_irrefl _ h
theorem seen_none (h : ∀ (i : Nat) (e : En), L[i]? = some e → Mm.hit key.toList q e = false) : Mm.seen L key.toList q = none := by
  unfold Mm.seen
  refine List.find?_eq_none.2 fun e he => ?_
  obtain ⟨i, hi⟩ := List.getElem?_of_mem he
  rw [h i e hi]
  exact Bool.false_ne_true
theorem seen_some {i : Nat} {e : En} (he : L[i]? = some e) (hh : Mm.hit key.toList q e = true) (h : ∀ (i' : Nat) (e' : En), i' < i → L[i']? = some e' → Mm.hit key.toList q e' = false) : Mm.seen L key.toList q = some e := by
  obtain ⟨hi, rfl⟩ := List.getElem?_eq_some_iff.1 he
  unfold Mm.seen
  refine List.find?_eq_some_iff_append.2 ⟨hh, L.take i, L.drop (i + 1), ?_, fun a ha => ?_⟩
  · rw [← List.drop_eq_getElem_cons hi, List.take_append_drop]
  · obtain ⟨j, hj⟩ := List.getElem?_of_mem ha
    have hji : j < i := by
      have := (List.getElem?_eq_some_iff.1 hj).1
      rw [List.length_take] at this
      omega
    rw [List.getElem?_take_of_lt hji] at hj
    rw [h j a hji hj]
    rfl
/-- What the blocks before x hold isn't found. -/
theorem front_no {xs : List Nat} (hp : xs = List.range x) (h : ∀ y ∈ xs, NoHit L key q y) : ∀ (i : Nat) (e : En), i < 3 * x → L[i]? = some e → Mm.hit key.toList q e = false := fun i e hi he => by
  refine h (i / 3) (by rw [hp, List.mem_range]; omega) (i % 3) e (by omega) ?_
  rw [show 3 * (i / 3) + i % 3 = i by omega]
  exact he
theorem no_key {k : ByteArray} (hm : Bl.may (Bl.filt (keysB L) 10) k.toList = false) (hl : L.length ≤ 84) : Mm.seen L k.toList q = none := seen_none fun i e he => hit_no fun h2 => by
  have hmem : ∀ (l : List En) (p : Option Bs), e ∈ l → p ≠ some (kB e) → kB e ∈ keysF p l := fun l => by
    induction l with
    | nil => intro _ h; cases h
    | cons y r ih =>
      intro p h hp
      simp only [keysF]
      rcases List.mem_cons.1 h with h1 | h1
      · subst h1
        rw [if_neg hp]
        exact List.mem_cons_self
      · split
        · exact ih p h1 hp
        · by_cases h3 : kB y = kB e
          · rw [h3]; exact List.mem_cons_self
          · exact List.mem_cons_of_mem _ (ih _ h1 fun h4 => h3 (Option.some.inj h4))
  have h3 : kB e ∈ keysB L := hmem L none (List.mem_of_getElem? he) (by simp)
  have h4 := Bl.may_keeps (per := 10) (Nat.le_trans (keys_le L none) (by omega)) h3
  have h5 : kB e = k.toList := (k_data e).trans h2
  rw [h5] at h4
  have h6 : Bl.may (Bl.filt (keysB L) 10) k.toList = true := h4
  rw [h6] at hm
  cases hm
end
end Ss
end Go.Proofs.YtadlhnjnhllpfaaDoor
