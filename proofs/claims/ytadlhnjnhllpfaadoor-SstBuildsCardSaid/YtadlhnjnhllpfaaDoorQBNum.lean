/-
  WHAT IS PROVED: (1) plain facts on the hash of a key, its places, and the bits of a filter. NO CONDITION beside those that each lemma names.
-/
import Derived.Test.YtadlhnjnhllpfaaDoorQMem
namespace Go.Proofs.YtadlhnjnhllpfaaDoor
open Go
namespace Bl
open Go.Proofs.YtadlhnjnhllpfaaDoor.Fr (bv bv_length bv_append)

abbrev Bs := List UInt8
/-- The hash, byte by byte. -/
def step (h : Nat) (b : UInt8) : Nat := (h ^^^ b.toNat) * 16777619 % 4294967296
def fnvFrom (h : Nat) (l : Bs) : Nat := l.foldl step h
def fnv (l : Bs) : Nat := fnvFrom 2166136261 l
theorem step_lt (h : Nat) (b : UInt8) : step h b < 4294967296 := Nat.mod_lt _ (by decide)
theorem fnvFrom_lt : ∀ (l : Bs) {h : Nat}, h < 4294967296 → fnvFrom h l < 4294967296
  | [], _, h => h
  | b :: r, h, _ => fnvFrom_lt r (step_lt h b)
theorem fnv_lt (l : Bs) : fnv l < 4294967296 := fnvFrom_lt l (by decide)
theorem fnv_take {l : Bs} {i : Nat} (h : i < l.length) : fnv (l.take (i + 1)) = step (fnv (l.take i)) l[i] := by
  unfold fnv fnvFrom
  rw [List.take_succ_eq_append_getElem h, List.foldl_append, List.foldl_cons, List.foldl_nil]
/-- The rotation by 17 bits. -/
def turn (h : Nat) : Nat := h / 131072 + h % 131072 * 32768
theorem turn_lt {h : Nat} (hh : h < 4294967296) : turn h < 4294967296 := by unfold turn; omega
/-- The places: the number of one, and all. -/
def spot (h i : Nat) : Nat := (h + i * turn h) % 4294967296
theorem spot_zero {h : Nat} (hh : h < 4294967296) : spot h 0 = h := by unfold spot; omega
theorem spot_succ (h i : Nat) : spot h (i + 1) = (spot h i + turn h) % 4294967296 := by unfold spot; rw [Nat.add_mul, Nat.one_mul]; omega
theorem spot_lt (h i : Nat) : spot h i < 4294967296 := Nat.mod_lt _ (by decide)
def places (key : Bs) (n k : Nat) : List Nat := (List.range k).map fun i => spot (fnv key) i % n
theorem places_len (key : Bs) (n k : Nat) : (places key n k).length = k := by simp [places]
theorem places_get {key : Bs} {n k i : Nat} (h : i < k) : (places key n k)[i]? = some (spot (fnv key) i % n) := by simp [places, h]
theorem places_succ (key : Bs) (n k : Nat) : places key n (k + 1) = places key n k ++ [spot (fnv key) k % n] := by simp [places, List.range_succ]
theorem places_lt {key : Bs} {n k p : Nat} (hn : 0 < n) (h : p ∈ places key n k) : p < n := by
  simp only [places, List.mem_map] at h
  obtain ⟨i, _, rfl⟩ := h
  exact Nat.mod_lt _ hn
/-- Bit p of a filter, and the filter with that bit. -/
def bit (f : Bs) (p : Nat) : Bool := ((f[p / 8]?.getD 0).toNat).testBit (p % 8)
def put (f : Bs) (p : Nat) : Bs := f.set (p / 8) (UInt8.ofNat ((f[p / 8]?.getD 0).toNat ||| 2 ^ (p % 8)))
theorem put_len (f : Bs) (p : Nat) : (put f p).length = f.length := by simp [put]
def puts (f : Bs) (ps : List Nat) : Bs := ps.foldl put f
theorem puts_len : ∀ (ps : List Nat) (f : Bs), (puts f ps).length = f.length
  | [], _ => rfl
  | p :: r, f => (puts_len r (put f p)).trans (put_len f p)
theorem puts_append (f : Bs) (a b : List Nat) : puts f (a ++ b) = puts (puts f a) b := by simp [puts]
theorem puts_one (f : Bs) (p : Nat) : puts f [p] = put f p := rfl
theorem or_lt8 (b : UInt8) (j : Nat) (hj : j < 8) : b.toNat ||| 2 ^ j < 256 := by
  have h1 := b.toNat_lt
  have h2 : (2 : Nat) ^ j ≤ 2 ^ 7 := Nat.pow_le_pow_right (by decide) (by omega)
  exact Nat.or_lt_two_pow (n := 8) h1 (by omega)
theorem put_get (f : Bs) (p q : Nat) (hp : p / 8 < f.length) : ((put f p)[q]?.getD 0).toNat = if q = p / 8 then (f[q]?.getD 0).toNat ||| 2 ^ (p % 8) else (f[q]?.getD 0).toNat := by
  unfold put
  rw [List.getElem?_set]
  by_cases h : p / 8 = q
  · subst h
    rw [if_pos rfl, if_pos hp, if_pos rfl, Option.getD_some, UInt8.toNat_ofNat', Nat.mod_eq_of_lt (or_lt8 _ _ (Nat.mod_lt _ (by decide)))]
  · rw [if_neg h, if_neg (fun e => h e.symm)]
theorem bit_put (f : Bs) (p q : Nat) (hp : p / 8 < f.length) : bit (put f p) q = (bit f q || decide (q = p)) := by
  unfold bit
  rw [put_get f p _ hp]
  by_cases h : q / 8 = p / 8
  · rw [if_pos h, Nat.testBit_or]
    congr 1
    rw [Nat.testBit_two_pow, decide_eq_decide]
    omega
  · rw [if_neg h, show decide (q = p) = false from decide_eq_false (by rintro rfl; exact h rfl), Bool.or_false]
theorem bit_puts : ∀ (ps : List Nat) (f : Bs) (q : Nat), (∀ p ∈ ps, p / 8 < f.length) → bit (puts f ps) q = (bit f q || decide (q ∈ ps))
  | [], f, q, _ => by simp [puts]
  | p :: r, f, q, h => by
    have h1 := bit_puts r (put f p) q fun x hx => by rw [put_len]; exact h x (List.mem_cons_of_mem _ hx)
    rw [show puts f (p :: r) = puts (put f p) r from rfl, h1, bit_put f p q (h p (by simp)), Bool.or_assoc, ← Bool.decide_or]
    simp
/-- The numbers of a filter: bits a key, places a key, bytes. -/
def per1 (per : Int) : Nat := (min (max per 1) 24).toNat
def kOf (per : Int) : Nat := max (per1 per * 69 / 100) 1
def sizeOf (n : Nat) (per : Int) : Nat := (max (n * per1 per) 64 + 7) / 8
theorem per1_le (per : Int) : 1 ≤ per1 per ∧ per1 per ≤ 24 := by unfold per1; omega
theorem kOf_le (per : Int) : 1 ≤ kOf per ∧ kOf per ≤ 16 := by have := per1_le per; unfold kOf; omega
theorem sizeOf_le (n : Nat) (per : Int) (hn : n ≤ 200) : 8 ≤ sizeOf n per ∧ sizeOf n per ≤ 600 := by
  have h := per1_le per
  have h2 : n * per1 per ≤ 200 * 24 := Nat.mul_le_mul hn h.2
  unfold sizeOf; omega
/-- The filter's bits, with the last byte 0: of the keys that have come. -/
def bitsOf (size k : Nat) (keys : List Bs) : Bs := keys.foldl (fun f key => puts f (places key (8 * size) k)) (List.replicate (size + 1) 0)
theorem bitsOf_len (size k : Nat) (keys : List Bs) : (bitsOf size k keys).length = size + 1 := by
  have : ∀ (keys : List Bs) (f : Bs), (keys.foldl (fun f key => puts f (places key (8 * size) k)) f).length = f.length := by
    intro keys
    induction keys with
    | nil => intro f; rfl
    | cons a r ih => intro f; rw [List.foldl_cons, ih, puts_len]
  rw [bitsOf, this, List.length_replicate]
theorem bitsOf_snoc (size k : Nat) (keys : List Bs) (key : Bs) : bitsOf size k (keys ++ [key]) = puts (bitsOf size k keys) (places key (8 * size) k) := by simp [bitsOf]
def filt (keys : List Bs) (per : Int) : Bs := (bitsOf (sizeOf keys.length per) (kOf per) keys).set (sizeOf keys.length per) (UInt8.ofNat (kOf per))
theorem filt_len (keys : List Bs) (per : Int) : (filt keys per).length = sizeOf keys.length per + 1 := by rw [filt, List.length_set, bitsOf_len]
/-- What May answers. -/
def may (f : Bs) (key : Bs) : Bool :=
  if f.length < 2 ∨ 1048576 < f.length then true
  else if (f[f.length - 1]?.getD 0).toNat < 1 ∨ 16 < (f[f.length - 1]?.getD 0).toNat then true
  else (places key (8 * (f.length - 1)) (f[f.length - 1]?.getD 0).toNat).all (bit f)

theorem bit_zero (n q : Nat) : bit (List.replicate n 0) q = false := by
  unfold bit
  rw [List.getElem?_replicate]
  split <;> simp
theorem fold_bit (size k : Nat) (hs : 0 < size) : ∀ (keys : List Bs) (f : Bs) (q : Nat), f.length = size + 1 → bit (keys.foldl (fun f key => puts f (places key (8 * size) k)) f) q = (bit f q || decide (∃ key ∈ keys, q ∈ places key (8 * size) k))
  | [], f, q, _ => by simp
  | a :: l, f, q, h => by
    rw [List.foldl_cons, fold_bit size k hs l _ q ((puts_len _ _).trans h), bit_puts _ _ _ (fun p hp => by have := places_lt (by omega) hp; omega), Bool.or_assoc, ← Bool.decide_or]
    congr 1
    simp
theorem bitsOf_bit (size k : Nat) (hs : 0 < size) (keys : List Bs) (q : Nat) : bit (bitsOf size k keys) q = decide (∃ key ∈ keys, q ∈ places key (8 * size) k) := by
  rw [bitsOf, fold_bit size k hs keys _ q (by simp), bit_zero, Bool.false_or]
end Bl
end Go.Proofs.YtadlhnjnhllpfaaDoor
