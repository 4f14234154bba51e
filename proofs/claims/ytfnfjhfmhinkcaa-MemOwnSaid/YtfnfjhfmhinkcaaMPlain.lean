/-
  WHAT IS PROVED: plain facts on entries in order, on towers and on who comes next. NO CONDITION beside those that each lemma names.
-/
import Derived.Test.YtfnfjhfmhinkcaaMBase
namespace Go.Proofs.Ytfnfjhfmhinkcaa
open Go Go.RowKit Go.Maps Go.Proofs.Ytfnfjhfmhinkcaa.Fr
namespace Mm

/-- An entry. -/
structure En where
  key : ByteArray
  seq : Int
  del : Bool
  val : ByteArray
def En.k (e : En) : List UInt8 := e.key.toList
/-- Does it come before this key and number? -/
def bef (e : En) (k : List UInt8) (q : Int) : Prop := e.k < k ∨ (e.k = k ∧ q < e.seq)
instance (e : En) (k : List UInt8) (q : Int) : Decidable (bef e k q) := by unfold bef; infer_instance
theorem bef_trans {a b : En} {k : List UInt8} {q : Int} (h : bef a b.k b.seq) (h2 : bef b k q) : bef a k q := by
  rcases h with h | ⟨h, h'⟩
  · rcases h2 with k | ⟨k, _⟩
    · exact .inl (List.lt_trans h k)
    · exact .inl (k ▸ h)
  · rcases h2 with k | ⟨k, k'⟩
    · exact .inl (h ▸ k)
    · exact .inr ⟨h.trans k, by omega⟩
/-- What is wrong with an entry by itself. -/
def entryErr (e : En) : Int := if 64 < e.key.size ∨ 1024 < e.val.size then 3 else if e.seq < 1 ∨ 4611686018427387904 < e.seq ∨ (e.del = true ∧ e.val.toList.isEmpty = false) then 1 else 0
/-- A node: its block, its entry, how many were ahead of it, its height. -/
structure Nd where
  blk : Nat
  e : En
  older : Nat
  h : Nat
def Sorted (ns : List Nd) : Prop := ns.Pairwise fun a b => bef a.e b.e.k b.e.seq
/-- The first that is higher than l. -/
def nextAt (ns : List Nd) (l : Nat) : Option Nat := (ns.find? fun n => decide (l < n.h)).map (·.blk)
/-- The last that is higher than l; T if none is. -/
def predAt (T : Nat) (pre : List Nd) (l : Nat) : Nat := ((pre.reverse.find? fun n => decide (l < n.h)).map (·.blk)).getD T
def ptr : Option Nat → Value
  | none => .pointer none
  | some b => .pointer (some ⟨b, 0, none⟩)
theorem nextAt_none {ns : List Nd} {l : Nat} (h : nextAt ns l = none) : ∀ n ∈ ns, ¬ l < n.h := by
  unfold nextAt at h
  rw [Option.map_eq_none_iff, List.find?_eq_none] at h
  intro n hn
  simpa using h n hn
theorem nextAt_some {ns : List Nd} {l b : Nat} (h : nextAt ns l = some b) : ∃ a n r, ns = a ++ n :: r ∧ (∀ x ∈ a, ¬ l < x.h) ∧ l < n.h ∧ n.blk = b := by
  unfold nextAt at h
  obtain ⟨n, hn, rfl⟩ := Option.map_eq_some_iff.1 h
  obtain ⟨h1, a, r, h2, h3⟩ := List.find?_eq_some_iff_append.1 hn
  exact ⟨a, n, r, h2, fun x hx => by simpa using h3 x hx, by simpa using h1, rfl⟩
theorem nextAt_skip {a : List Nd} {l : Nat} (h : ∀ x ∈ a, ¬ l < x.h) (r : List Nd) : nextAt (a ++ r) l = nextAt r l := by
  unfold nextAt
  rw [List.find?_append, List.find?_eq_none.2 (fun x hx => by simpa using h x hx), Option.none_or]
theorem nextAt_cons_yes {n : Nd} {l : Nat} (h : l < n.h) (r : List Nd) : nextAt (n :: r) l = some n.blk := by simp [nextAt, h]
theorem nextAt_cons_no {n : Nd} {l : Nat} (h : ¬ l < n.h) (r : List Nd) : nextAt (n :: r) l = nextAt r l := by simp [nextAt, h]
theorem nextAt_hit {a : List Nd} {l : Nat} {x : Nd} (hx : x ∈ a) (h : l < x.h) (r r' : List Nd) : nextAt (a ++ r) l = nextAt (a ++ r') l := by
  unfold nextAt
  rw [List.find?_append, List.find?_append]
  cases hf : a.find? fun n => decide (l < n.h) with
  | none => exact absurd h (by simpa using List.find?_eq_none.1 hf x hx)
  | some y => rfl
theorem predAt_head {T : Nat} {pre : List Nd} {l : Nat} (h : ∀ x ∈ pre, ¬ l < x.h) : predAt T pre l = T := by
  unfold predAt
  rw [List.find?_eq_none.2 (fun x hx => by simpa using h x (List.mem_reverse.1 hx))]
  rfl
theorem predAt_last {T : Nat} {a b : List Nd} {m : Nd} {l : Nat} (hm : l < m.h) (h : ∀ x ∈ b, ¬ l < x.h) : predAt T (a ++ m :: b) l = m.blk := by
  unfold predAt
  rw [List.reverse_append, List.reverse_cons, List.append_assoc, List.find?_append, List.find?_eq_none.2 (fun x hx => by simpa using h x (List.mem_reverse.1 hx)), Option.none_or]
  simp [hm]
/-- What is ahead of a key and number, and what isn't. -/
def pre (ns : List Nd) (k : List UInt8) (q : Int) : List Nd := ns.takeWhile fun n => decide (bef n.e k q)
def post (ns : List Nd) (k : List UInt8) (q : Int) : List Nd := ns.dropWhile fun n => decide (bef n.e k q)
theorem pre_post (ns : List Nd) (k : List UInt8) (q : Int) : pre ns k q ++ post ns k q = ns := List.takeWhile_append_dropWhile
theorem pre_bef {k : List UInt8} {q : Int} : ∀ {ns : List Nd}, ∀ n ∈ pre ns k q, bef n.e k q
  | [], n, hn => by cases hn
  | a :: r, n, hn => by
    unfold pre at hn
    by_cases h : bef a.e k q
    · rw [List.takeWhile_cons_of_pos (by simpa using h)] at hn
      rcases List.mem_cons.1 hn with rfl | hn
      · exact h
      · exact pre_bef (ns := r) n hn
    · rw [List.takeWhile_cons_of_neg (by simpa using h)] at hn
      cases hn
theorem pre_eq {a b : List Nd} {k : List UInt8} {q : Int} (ha : ∀ n ∈ a, bef n.e k q) (hb : ∀ n r, b = n :: r → ¬ bef n.e k q) : pre (a ++ b) k q = a := by
  unfold pre
  rw [List.takeWhile_append_of_pos (fun n hn => by simpa using ha n hn)]
  cases b with
  | nil => simp
  | cons n r => rw [List.takeWhile_cons_of_neg (by simpa using hb n r rfl), List.append_nil]
theorem Sorted.mid {a b : List Nd} {n : Nd} (h : Sorted (a ++ n :: b)) : (∀ x ∈ a, bef x.e n.e.k n.e.seq) ∧ ∀ x ∈ b, bef n.e x.e.k x.e.seq := by
  unfold Sorted at h
  rw [List.pairwise_append, List.pairwise_cons] at h
  exact ⟨fun x hx => h.2.2 x hx n (by simp), h.2.1.1⟩

end Mm
end Go.Proofs.Ytfnfjhfmhinkcaa
