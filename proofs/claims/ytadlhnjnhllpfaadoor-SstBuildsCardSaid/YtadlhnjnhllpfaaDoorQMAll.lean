/-
  WHAT IS PROVED: (1) what From answers. CONDITIONS: the table and its nodes stand in memory as named. (2) From's iterator yields the entries from a key on that were there when it was asked for, in their order, to whatever body leaves the table's nodes as they are. CONDITIONS: the nodes and its two boxes stand in memory as named. (3) what slices.AppendSeq leaves of a row of entries and From's iterator. CONDITIONS: the row, the nodes and the iterator's boxes stand in memory as named. (4) what All answers. CONDITIONS: the table and its nodes stand in memory as named.
-/
import Derived.Test.YtadlhnjnhllpfaaDoorQMOpen
import Derived.RangeFuncNested
import Derived.RangeFuncBound
import Derived.RangeFuncCalls
import Derived.RangeFuncLeaves
import Derived.RangeFuncBox
import Derived.Shelf.Abstract
import Derived.Shelf.RegionOpen
import Derived.OwnWalkIn
import Derived.TacticsInMore
import Derived.LoopNIn
import Derived.LoopIn
namespace Go.Proofs.YtadlhnjnhllpfaaDoor
open Go Go.RowKit Go.Maps Go.Sort Go.Proofs.YtadlhnjnhllpfaaDoor.Fr
namespace Mm
/-- From this key on: those whose key isn't ahead of it. -/
def fromN (ns : List Nd) (k : List UInt8) : List Nd := post ns k 9223372036854775807
section
variable {w w' : World} {T : Nat} {ns : List Nd} {cnt byt : Int}
theorem facts2 {W W2 : World} (h : Below W.heap.size W W2) {b : Nat} {t : TypeId} {cs : Array Value} {u : Value} (hb : Blk W b t cs) (hu : cs[0]? = some u) :
    W2.cell? ⟨b, 0, none⟩ = some u ∧ W2.frozen? ⟨b, 0, none⟩ = false ∧ (∀ o, (W2.alloc o).cell? ⟨b, 0, none⟩ = some u) ∧ (∀ o, (W2.alloc o).frozen? ⟨b, 0, none⟩ = false) ∧ ¬ W2.heap.size = b ∧ ¬ b = W2.heap.size :=
  have h1 : Blk W2 b t cs := hb.same (h.block b hb.lt)
  ⟨(h1.cell 0).trans hu, h1.frozen 0, fun o => ((h1.alloc o).cell 0).trans hu, fun o => (h1.alloc o).frozen 0, fun e => absurd h1.lt (by omega), fun e => absurd h1.lt (by omega)⟩
theorem blk_new2 (W : World) (o : Obj) (t : TypeId) (cs : Array Value) : Blk ((W.alloc o).alloc (.cells cs t)) (W.heap.size + 1) t cs := by
  have := Blk.new (W.alloc o) t cs
  rwa [World.size_alloc] at this
theorem bel_alloc {w w' : World} (h : Below w.heap.size w w') (o : Obj) : Below w.heap.size w (w'.alloc o) := h.alloc h.size o
end
end Mm
end Go.Proofs.YtadlhnjnhllpfaaDoor
namespace Go.Proofs.YtadlhnjnhllpfaaDoor
open Go Go.RowKit Go.Shelf Go.Maps Go.Sort Go.Proofs.YtadlhnjnhllpfaaDoor.Fr
namespace Mm
/-- What a round must keep: the blocks of S. -/
def KpS (S : Nat → Prop) (W W' : World) : Prop := ∀ b, S b → W'.heap[b]? = W.heap[b]?
theorem kpS_t {S : Nat → Prop} {X Y Z : World} (h : KpS S X Y) (k : KpS S Y Z) : KpS S X Z := fun b hb => (k b hb).trans (h b hb)
theorem kpS_b {S : Nat → Prop} {w : World} (hS : ∀ b, S b → b < w.heap.size) (W : World) (l : Nat) (o o' : Obj) (hl : w.heap.size ≤ l) (_ : W.heap[l]? = some o) (_ : o.isCells = false) (_ : o.isWalk = false) : KpS S W (W.putObj l o') := fun b hb => by
  have := hS b hb
  exact World.putObj_heap_other (show b ≠ l by omega)
/-- The entries that were there. -/
def olds (ns : List Nd) (cnt : Int) : List En := (ns.filter fun n => decide ((n.older : Int) < cnt)).map (·.e)
def yv (e : En) : Array Value := #[.agg #[.string e.key, .int .i64 e.seq, .bool e.del, .string e.val]]
/-- The blocks that the iterator reads. -/
def FrS (b1 b2 : Nat) (ns : List Nd) (k : Nat) : Prop := k = b1 ∨ k = b2 ∨ ∃ n ∈ ns, k = n.blk
theorem ptr_cases (o : Option Nat) : ∃ p, ptr o = .pointer p := by cases o <;> exact ⟨_, rfl⟩
theorem olds_yes {n : Nd} {r : List Nd} {cnt : Int} (h : (n.older : Int) < cnt) : olds (n :: r) cnt = n.e :: olds r cnt := by simp [olds, h]
theorem olds_no {n : Nd} {r : List Nd} {cnt : Int} (h : ¬ (n.older : Int) < cnt) : olds (n :: r) cnt = olds r cnt := by simp [olds, h]
/-- How many nodes are left from this block on. -/
def blkOf : Value → Option Nat
  | .pointer (some a) => some a.block
  | _ => none
def leftAt : List Nd → Option Nat → Nat
  | [], _ => 0
  | n :: r, k => if k = some n.blk then r.length + 1 else leftAt r k
theorem leftAt_none : ∀ ns : List Nd, leftAt ns none = 0
  | [] => rfl
  | n :: r => by rw [leftAt, if_neg (by simp)]; exact leftAt_none r
theorem leftAt_mid : ∀ (a : List Nd) (n : Nd) (r : List Nd), ((a ++ n :: r).map (·.blk)).Nodup → leftAt (a ++ n :: r) (some n.blk) = r.length + 1
  | [], n, r, _ => by rw [List.nil_append, leftAt, if_pos rfl]
  | m :: a, n, r, h => by
    rw [List.cons_append, List.map_cons, List.nodup_cons] at h
    rw [List.cons_append, leftAt, if_neg (fun e => h.1 (by rw [← Option.some.inj e]; simp))]
    exact leftAt_mid a n r h.2
theorem leftAt_ptr {a b : List Nd} {q : Option Addr} (h : ((a ++ b).map (·.blk)).Nodup) (hq : ptr (b.head?.map (·.blk)) = .pointer q) : leftAt (a ++ b) (blkOf (.pointer q)) = b.length := by
  cases b with
  | nil =>
    obtain rfl : q = none := by simpa [ptr, eq_comm] using hq
    exact leftAt_none _
  | cons n r =>
    obtain rfl : q = some ⟨n.blk, 0, none⟩ := by simpa [ptr, eq_comm] using hq
    exact leftAt_mid a n r h
theorem yield_bool {e : Ending} {A B : Prop} (h : (e = .returned (.bool true) ∧ A) ∨ (e = .returned (.bool false) ∧ B)) : ∃ r, e = .returned (.bool r) ∧ ((r = true ∧ A) ∨ (r = false ∧ B)) := by
  rcases h with ⟨rfl, h⟩ | ⟨rfl, h⟩
  · exact ⟨true, rfl, .inl ⟨rfl, h⟩⟩
  · exact ⟨false, rfl, .inr ⟨rfl, h⟩⟩
theorem olds_snoc (a : List Nd) (n : Nd) (cnt : Int) : olds (a ++ [n]) cnt = olds a cnt ++ (if (n.older : Int) < cnt then [n.e] else []) := by
  by_cases h : (n.older : Int) < cnt <;> simp [olds, h]
theorem olds_len (a : List Nd) (cnt : Int) : (olds a cnt).length ≤ a.length := by
  unfold olds
  rw [List.length_map]
  exact List.length_filter_le _ _
theorem olds_prefix {a : List Nd} {n : Nd} {r : List Nd} {cnt : Int} (h : (n.older : Int) < cnt) : olds a cnt ++ [n.e] <+: olds (a ++ n :: r) cnt := ⟨olds r cnt, by simp [olds, h]⟩
section
variable {w : World} {b1 b2 l : Nat} {ns : List Nd} {cnt : Int}
end
end Mm
end Go.Proofs.YtadlhnjnhllpfaaDoor
namespace Go.Proofs.YtadlhnjnhllpfaaDoor
open Go Go.RowKit Go.Shelf Go.Maps Go.Sort Go.Proofs.YtadlhnjnhllpfaaDoor.Fr
attribute [local go_sem] Oper.semAt_some
namespace Mm
theorem blk_kept {W W' : World} {row : Option Nat} {g : Nat} {t : TypeId} {cs : Array Value} (h : Blk W g t cs) (hg : W.grownBy W' row) (hr : ∀ r, row = some r → ∃ o : Obj, W.heap[r]? = some o ∧ o.isCells = false) : Blk W' g t cs := by
  refine h.same (hg.block _ h.lt fun e => ?_)
  obtain ⟨o, ho, hc⟩ := hr _ e.symm
  rw [show W.heap[g]? = _ from h] at ho
  cases ho
  cases hc
theorem own_kept {W W' : World} {row : Option Nat} {base : Nat} {e : TypeId} {size n : Nat} {v : Value} {xs : List Value} (h : W.ownsRow base e size v n xs) (hg : W.grownBy W' row) (hr : ∀ r, row = some r → ∃ o : Obj, W.heap[r]? = some o ∧ o.isCells = false) : W'.ownsRow base e size v n xs :=
  own_same h fun k hk => by
    obtain ⟨cur, hb⟩ := own_blk h hk
    exact (blk_kept hb hg hr).trans hb.symm
theorem ev_len (l : List En) : (ev l).length = l.length * 4 := by
  induction l with
  | nil => rfl
  | cons a r ih => rw [show ev (a :: r) = ecells a ++ ev r by simp [ev], List.length_append, ih, List.length_cons]; simp [ecells]; omega
section
variable {base b1 b2 : Nat} {W0 W W' : World} {ns : List Nd} {cnt : Int} {pre : List En}
end
theorem box_after {W w3 : World} {v : Value} {g base k : Nat} {xs : List Value} {o : Obj} (hrow : W.ownsRow base 42 4 v k xs) (hv : Blk W g 22 #[v]) (hg : (W.alloc o).grownBy w3 v.ownBlock) : w3.cell? ⟨g, 0, none⟩ = some v ∧ w3.frozen? ⟨g, 0, none⟩ = false := by
  have h : Blk w3 g 22 #[v] := (hv.alloc o).same (hg.block _ (by have := hv.lt; simp; omega) fun e => by
    rcases own_ne_b hrow hv (by decide) with h | h
    · rw [h] at e; cases e
    · exact h e.symm)
  exact ⟨h.cell 0, h.frozen 0⟩
section
variable {base b1 b2 : Nat} {W0 : World} {ns : List Nd} {cnt : Int} {A0 : Option Addr} {c0 : Nat}
end
end Mm
end Go.Proofs.YtadlhnjnhllpfaaDoor
namespace Go.Proofs.YtadlhnjnhllpfaaDoor
open Go Go.RowKit Go.Maps Go.Sort Go.Proofs.YtadlhnjnhllpfaaDoor.Fr
namespace Mm
/-- Each node came when there were fewer, and its entry is good. -/
def Val (ns : List Nd) : Prop := ∀ n ∈ ns, n.older < ns.length ∧ entryErr n.e = 0
theorem Val.nil : Val [] := fun n h => by cases h
theorem Val.put {ns : List Nd} (h : Val ns) {e : En} (he : entryErr e = 0) (N H : Nat) : Val (pre ns e.k e.seq ++ (⟨N, e, ns.length, H⟩ : Nd) :: post ns e.k e.seq) := by
  have hl : (pre ns e.k e.seq ++ (⟨N, e, ns.length, H⟩ : Nd) :: post ns e.k e.seq).length = ns.length + 1 := by
    have := congrArg List.length (pre_post ns e.k e.seq)
    simp only [List.length_append, List.length_cons] at this ⊢
    omega
  intro n hn
  rw [hl]
  have hin : n ∈ ns ∨ n = ⟨N, e, ns.length, H⟩ := by
    rcases List.mem_append.1 hn with h1 | h1
    · exact .inl (by rw [← pre_post ns e.k e.seq]; exact List.mem_append.2 (.inl h1))
    · rcases List.mem_cons.1 h1 with h2 | h2
      · exact .inr h2
      · exact .inl (by rw [← pre_post ns e.k e.seq]; exact List.mem_append.2 (.inr h2))
  rcases hin with h1 | rfl
  · have := h n h1
    exact ⟨by omega, this.2⟩
  · exact ⟨by simp, he⟩
theorem err_seq {e : En} (h : entryErr e = 0) : 1 ≤ e.seq ∧ e.seq ≤ 4611686018427387904 := by
  unfold entryErr at h
  split at h
  · omega
  · split at h
    · omega
    · omega
theorem bef_from {e : En} (h : entryErr e = 0) (k : List UInt8) : bef e k 9223372036854775807 ↔ e.k < k := by
  have := err_seq h
  exact ⟨fun h => h.elim id fun h => by omega, .inl⟩
theorem fromN_all {ns : List Nd} (h : Val ns) : fromN ns [] = ns := by
  unfold fromN post
  cases ns with
  | nil => rfl
  | cons n r =>
    rw [List.dropWhile_cons_of_neg]
    have := bef_from (h n (by simp)).2 []
    simp only [decide_eq_true_eq]
    intro hb
    exact absurd (this.1 hb) (by simp)
theorem olds_all {ns : List Nd} {c : Int} (h : ∀ n ∈ ns, (n.older : Int) < c) : olds ns c = ns.map (·.e) := by
  unfold olds
  rw [List.filter_eq_self.2 fun n hn => by simpa using h n hn]
section
variable {w w' : World} {T : Nat} {ns : List Nd} {byt : Int}
/-- A row that was made with no entry. -/
theorem made_row (W : World) (base N : Nat) (hb : base ≤ W.heap.size) (hN : N ≤ 100000) (M : Array Value) (hM : M.size = N * 4) : (W.alloc (.cells M 42)).ownsRow base 42 4 (.slice (some ⟨W.heap.size, 0, none⟩) 0 N) 0 [] :=
  ⟨rfl, .inr ⟨W.heap.size, N, M, rfl, hb, Blk.new W _ _, Nat.zero_le _, by unfold maxLen; omega, hM, by simp⟩⟩
theorem own_belowN {base : Nat} {W W' : World} {e : TypeId} {size n : Nat} {v : Value} {xs : List Value} (h : W.ownsRow base e size v n xs) (hb : Below W.heap.size W W') : W'.ownsRow base e size v n xs :=
  own_same h fun k hk => by
    obtain ⟨cur, hbl⟩ := own_blk h hk
    exact hb.block k hbl.lt
end
end Mm
end Go.Proofs.YtadlhnjnhllpfaaDoor
