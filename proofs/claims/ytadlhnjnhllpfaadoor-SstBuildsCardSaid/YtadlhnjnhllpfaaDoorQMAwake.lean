/-
  WHAT IS PROVED: (1) what Put does. CONDITIONS: the table and its nodes stand in memory as named. (2) what Put does. CONDITIONS: the table and its nodes stand in memory as named. (3) what Put does when a node follows, of another key or number. CONDITIONS: the table and its nodes stand in memory as named. (4) what Put does when a node follows, of the same key and number. CONDITIONS: the table and its nodes stand in memory as named. (5) what Put does, all cases in one. CONDITIONS: the table and its nodes stand in memory as named. (6) the document's example answers as it says. CONDITIONS: none.
-/
import Derived.Test.YtadlhnjnhllpfaaDoorQMIns
import Derived.Deep.Cut
import Derived.Deep.DeepCutAuto
namespace Go.Proofs.YtadlhnjnhllpfaaDoor
open Go Go.RowKit Go.Maps Go.Sort Go.Proofs.YtadlhnjnhllpfaaDoor.Fr
namespace Mm

def toE (e : En) : Value := .agg #[.string e.key, .int .i64 e.seq, .bool e.del, .string e.val]
section
variable {w0 w w' : World} {T : Nat} {ns : List Nd} {byt : Int}
/-- What Put leaves: the tables' own blocks alone have turned. -/
def Own (T : Nat) (ns : List Nd) (k : Nat) : Prop := k = T ∨ ∃ n ∈ ns, k = n.blk
section
variable {p s : List Nd} {n : Nd} {cnt : Int} {PA E j : Nat} {e : En} {W : World}
theorem pred_own (hm : ns = p ++ s) : Own T ns (predAt T p j) := by
  obtain ⟨a1, b1, h1, _, h3⟩ := pred_pos T j p
  rcases h3 with ⟨_, h4⟩ | ⟨a', m, h4, h5, _⟩
  · exact .inl h4
  · exact .inr ⟨m, by rw [hm, h1, h4]; simp, h5⟩
theorem up_nodup (k : Nat) (h : ((p ++ n.up j :: s).map (·.blk)).Nodup) : ((p ++ n.up k :: s).map (·.blk)).Nodup := by simpa [Nd.up] using h
end
end

end Mm
end Go.Proofs.YtadlhnjnhllpfaaDoor
namespace Go.Proofs.YtadlhnjnhllpfaaDoor
open Go Go.RowKit Go.Maps Go.Sort Go.Proofs.YtadlhnjnhllpfaaDoor.Fr
namespace Mm

section
variable {w0 w w1 w2 w3 : World} {T : Nat} {ns : List Nd} {byt : Int} {P : Array Value} {t : TypeId}
theorem put_path (h1 : Below w.heap.size w w1) (h2 : Below w1.heap.size w1 w2) (h3 : Below w2.heap.size w2 w3) : Below w.heap.size w (w3.alloc (.cells P t)) := by
  have h := (h1.trans (h2.mono h1.size)).trans (h3.mono (Nat.le_trans h1.size h2.size))
  exact h.alloc h.size _
theorem put_path2 (h2 : Below w1.heap.size w1 w2) (h3 : Below w2.heap.size w2 w3) : Below w1.heap.size w1 (w3.alloc (.cells P t)) := by
  have h := h2.trans (h3.mono h2.size)
  exact h.alloc h.size _
/-- What the new node is made of. -/
def PuS (E T : Nat) (e : En) (cnt : Int) (W : World) : Prop := W.cell? ⟨E, 0, none⟩ = some (.string e.key) ∧ W.cell? ⟨E, 1, none⟩ = some (.int .i64 e.seq) ∧ W.cell? ⟨E, 2, none⟩ = some (.bool e.del) ∧ W.cell? ⟨E, 3, none⟩ = some (.string e.val) ∧ W.cell? ⟨T, 17, none⟩ = some (.int .i64 cnt)
theorem PuS.drew {e : En} {W : World} {E : Nat} {cnt : Int} (h : PuS E T e cnt W) : PuS E T e cnt W.drew := h
theorem PuS.alloc {e : En} {W : World} {E : Nat} {cnt : Int} (h : PuS E T e cnt W) (o : Obj) : PuS E T e cnt (W.alloc o) := by
  obtain ⟨a, b, c, d, f⟩ := h
  have l1 := World.block_lt_of_cell? W _ a
  have l2 := World.block_lt_of_cell? W _ f
  exact ⟨(World.cell?_alloc_lt W o ⟨E, 0, none⟩ l1).trans a, (World.cell?_alloc_lt W o ⟨E, 1, none⟩ l1).trans b, (World.cell?_alloc_lt W o ⟨E, 2, none⟩ l1).trans c, (World.cell?_alloc_lt W o ⟨E, 3, none⟩ l1).trans d, (World.cell?_alloc_lt W o ⟨T, 17, none⟩ l2).trans f⟩
def PuG (T E : Nat) (e : En) (W : World) : Prop := E ≠ T ∧ W.cell? ⟨E, 0, none⟩ = some (.string e.key) ∧ W.cell? ⟨E, 3, none⟩ = some (.string e.val)
theorem PuG.drew {E : Nat} {e : En} {W : World} (h : PuG T E e W) : PuG T E e W.drew := h
theorem PuG.set {E i : Nat} {e : En} {W : World} (h : PuG T E e W) (v : Value) : PuG T E e (W.setCell ⟨T, i, none⟩ v) :=
  ⟨h.1, (World.cell?_setCell_other _ _ _ _ (fun e2 => h.1 (congrArg Addr.block e2).symm)).trans h.2.1, (World.cell?_setCell_other _ _ _ _ (fun e2 => h.1 (congrArg Addr.block e2).symm)).trans h.2.2⟩
/-- What a round reads and writes. -/
def PuF (PA c N j : Nat) (z : Value) (W : World) : Prop := W.cell? ⟨PA, j, none⟩ = some (.pointer (some ⟨c, 0, none⟩)) ∧ W.cell? ⟨c, 5 + j, none⟩ = some z ∧ (∃ u, W.cell? ⟨N, 5 + j, none⟩ = some u) ∧ W.frozen? ⟨N, 5 + j, none⟩ = false
theorem PuF.drew {PA c N j : Nat} {z : Value} {W : World} (h : PuF PA c N j z W) : PuF PA c N j z W.drew := h
theorem entry_sizes {e : En} (h : entryErr e = 0) : (e.key.size : Int) ≤ 64 ∧ (e.val.size : Int) ≤ 1024 := by
  unfold entryErr at h
  split at h
  · simp at h
  · rename_i h2
    omega
theorem ptr_form (x : Option Nat) : ∃ o, ptr x = .pointer o := by cases x <;> exact ⟨_, rfl⟩
theorem setCell_some {W : World} {a : Addr} {u z : Value} (h : W.cell? a = some u) : ∃ v, (W.setCell a z).cell? a = some v := ⟨z, World.cell?_setCell_same W a z h⟩
theorem setCell_froz2 {W : World} {a p : Addr} {z : Value} {b : Bool} (h : W.frozen? a = b) : (W.setCell p z).frozen? a = b := by rw [World.frozen?_setCell]; exact h
theorem setCell_froz {W : World} {a : Addr} {z : Value} {b : Bool} (h : W.frozen? a = b) : (W.setCell a z).frozen? a = b := by rw [World.frozen?_setCell]; exact h
end

end Mm
end Go.Proofs.YtadlhnjnhllpfaaDoor
namespace Go.Proofs.YtadlhnjnhllpfaaDoor
open Go Go.RowKit Go.Maps Go.Sort Go.Proofs.YtadlhnjnhllpfaaDoor.Fr
namespace Mm

section
variable {w0 w w1 w2 w3 : World} {T : Nat} {ns : List Nd} {byt : Int} {P : Array Value} {t : TypeId}
theorem ltot (a b : List UInt8) (h : ¬ a < b) (hne : a ≠ b) : b < a := by
  rcases Std.lt_trichotomy a b with h1 | h1 | h1
  · exact absurd h1 h
  · exact absurd h1 hne
  · exact h1
theorem bef_turn {a b : En} (h : ¬ bef a b.k b.seq) (hne : a.k ≠ b.k ∨ a.seq ≠ b.seq) : bef b a.k a.seq := by
  unfold bef at h ⊢
  by_cases hk : a.k = b.k
  · refine .inr ⟨hk.symm, ?_⟩
    have h1 : ¬ b.seq < a.seq := fun h2 => h (.inr ⟨hk, h2⟩)
    rcases hne with h2 | h2
    · exact absurd hk h2
    · omega
  · exact .inl (ltot _ _ (fun h1 => h (.inl h1)) hk)
theorem post_head {k : List UInt8} {q : Int} {m : Nd} {r : List Nd} (h : post ns k q = m :: r) : ¬ bef m.e k q := by
  unfold post at h
  intro hb
  have := List.head_dropWhile_not (p := fun n : Nd => decide (bef n.e k q)) (l := ns) (by rw [h]; simp)
  simp only [h, List.head_cons] at this
  simp [hb] at this
end

end Mm
end Go.Proofs.YtadlhnjnhllpfaaDoor
namespace Go.Proofs.YtadlhnjnhllpfaaDoor
open Go Go.RowKit Go.Maps Go.Sort Go.Proofs.YtadlhnjnhllpfaaDoor.Fr
namespace Mm

section
variable {w0 w w1 w2 w3 : World} {T : Nat} {ns : List Nd} {byt : Int} {P : Array Value} {t : TypeId}
end

end Mm
end Go.Proofs.YtadlhnjnhllpfaaDoor
namespace Go.Proofs.YtadlhnjnhllpfaaDoor
open Go Go.RowKit Go.Maps Go.Sort Go.Proofs.YtadlhnjnhllpfaaDoor.Fr
namespace Mm

section
variable {w0 w : World} {T : Nat} {ns : List Nd} {byt : Int}
/-- Is there an entry of this key and number? -/
def twice (ns : List Nd) (e : En) : Prop := ∃ m ∈ ns, m.e.k = e.k ∧ m.e.seq = e.seq
/-- What Put answers. -/
def putErr (ns : List Nd) (e : En) (z : Int) : Prop := (z ≠ 0 ∧ entryErr e = z) ∨ (entryErr e = 0 ∧ twice ns e ∧ z = 2)
theorem twice_iff (hs : Sorted ns) (e : En) : twice ns e ↔ ∃ m r, post ns e.k e.seq = m :: r ∧ m.e.k = e.k ∧ m.e.seq = e.seq := by
  constructor
  · rintro ⟨m, hm, hk, hq⟩
    obtain ⟨a, b, rfl⟩ := List.append_of_mem hm
    have h1 := (Sorted.mid hs).1
    rw [hk, hq] at h1
    have hnb : ¬ bef m.e e.k e.seq := by
      rw [← hk, ← hq]
      rintro (h | ⟨_, h⟩)
      · exact absurd h (List.lt_irrefl _)
      · omega
    refine ⟨m, b, ?_, hk, hq⟩
    have hp := pre_eq (a := a) (b := m :: b) h1 (fun n r e2 => by cases e2; exact hnb)
    have := pre_post (a ++ m :: b) e.k e.seq
    rw [hp] at this
    exact List.append_cancel_left this
  · rintro ⟨m, r, h, hk, hq⟩
    exact ⟨m, by rw [← pre_post ns e.k e.seq, h]; simp, hk, hq⟩
end

end Mm
end Go.Proofs.YtadlhnjnhllpfaaDoor
namespace Go.Proofs.YtadlhnjnhllpfaaDoor
open Go Go.RowKit Go.Maps Go.Sort Go.Proofs.YtadlhnjnhllpfaaDoor.Fr
namespace Mm

section
variable {w0 w : World} {T : Nat} {ns : List Nd} {byt : Int}
def ea1 : En := ⟨⟨#[97]⟩, 1, false, ⟨#[120]⟩⟩
def ea3 : En := ⟨⟨#[97]⟩, 3, false, ⟨#[122]⟩⟩
theorem ea1_ok : entryErr ea1 = 0 := by decide +kernel
theorem ea3_ok : entryErr ea3 = 0 := by decide +kernel
end

end Mm
end Go.Proofs.YtadlhnjnhllpfaaDoor
