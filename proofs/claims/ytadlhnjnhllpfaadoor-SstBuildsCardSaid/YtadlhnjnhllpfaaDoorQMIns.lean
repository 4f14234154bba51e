/-
  WHAT IS PROVED: (1) when memory holds a table; what isBefore, New, Len and Bytes answer. CONDITIONS: the table and its nodes stand in memory as named. (2) what path answers: on each level the last node ahead of a key and number. CONDITIONS: the table and its nodes stand in memory as named. (3) what seek and Get answer. CONDITIONS: the table and its nodes stand in memory as named. (4) what a new node changes of a table, level by level. CONDITIONS: the table and its nodes stand in memory as named.
-/
import Derived.Test.YtadlhnjnhllpfaaDoorQMCmp
import Derived.Laws.ResultCell
namespace Go.Proofs.YtadlhnjnhllpfaaDoor
open Go Go.RowKit Go.Maps Go.Sort Go.Proofs.YtadlhnjnhllpfaaDoor.Fr
namespace Mm

section
variable {w : World} {n : Nd} {r : List Nd} {cs : Array Value}
end

end Mm
end Go.Proofs.YtadlhnjnhllpfaaDoor
namespace Go.Proofs.YtadlhnjnhllpfaaDoor
open Go Go.RowKit Go.Maps Go.Sort Go.Proofs.YtadlhnjnhllpfaaDoor.Fr
namespace Mm

section
variable {w w' : World} {T : Nat} {ns a b : List Nd} {cnt byt : Int} {l c : Nat}
/-- Where the descent stands: behind all of a, on a node that is at least so high. -/
def Pos (T : Nat) (a : List Nd) (l c : Nat) : Prop := (a = [] ∧ c = T) ∨ ∃ a' m, a = a' ++ [m] ∧ c = m.blk ∧ l ≤ m.h
theorem Pos.low (h : Pos T a (l + 1) c) : Pos T a l c := h.imp id fun ⟨a', m, h1, h2, h3⟩ => ⟨a', m, h1, h2, by omega⟩
theorem Pos.pred (hp : Pos T a (l + 1) c) {b1 : List Nd} (hb : ∀ x ∈ b1, ¬ l < x.h) : predAt T (a ++ b1) l = c := by
  rcases hp with ⟨rfl, rfl⟩ | ⟨a', m, rfl, rfl, hm⟩
  · exact predAt_head hb
  · rw [List.append_assoc]
    exact predAt_last (by omega) hb
theorem pre_behind {k : List UInt8} {q : Int} (ha : ∀ n ∈ a, bef n.e k q) : pre (a ++ b) k q = a ++ pre b k q := by
  unfold pre
  rw [List.takeWhile_append_of_pos fun n hn => by simpa using ha n hn]
theorem pre_sub {k : List UInt8} {q : Int} : ∀ {b1 : List Nd} {n : Nd} {b2 : List Nd}, ¬ bef n.e k q → ∀ x ∈ pre (b1 ++ n :: b2) k q, x ∈ b1
  | [], n, b2, hn, x, hx => by
    unfold pre at hx
    rw [List.nil_append, List.takeWhile_cons_of_neg (by simpa using hn)] at hx
    exact hx
  | m :: b1, n, b2, hn, x, hx => by
    unfold pre at hx
    by_cases hm : bef m.e k q
    · rw [List.cons_append, List.takeWhile_cons_of_pos (by simpa using hm)] at hx
      rcases List.mem_cons.1 hx with rfl | hx
      · simp
      · exact List.mem_cons_of_mem _ (pre_sub (b1 := b1) (b2 := b2) hn x hx)
    · rw [List.cons_append, List.takeWhile_cons_of_neg (by simpa using hm)] at hx
      cases hx
end
theorem below_set {B : Nat} {w w' : World} (h : Below B w w') {p : Addr} (hp : B ≤ p.block) (u : Value) : Below B w (w'.setCell p u) :=
  ⟨h.os, h.tape, h.output, by simpa [World.setCell] using h.size, fun k hk => (Below.heap_setCell _ _ _ _ (by omega)).trans (h.block k hk)⟩
theorem bel12 {B g : Nat} {w w' : World} (h : Below B w w') (hg : B ≤ g) (u0 u1 u2 u3 u4 u5 u6 u7 u8 u9 u10 u11 : Value) :
    Below B w ((((((((((((w'.setCell ⟨g, 0, none⟩ u0).setCell ⟨g, 1, none⟩ u1).setCell ⟨g, 2, none⟩ u2).setCell ⟨g, 3, none⟩ u3).setCell ⟨g, 4, none⟩ u4).setCell ⟨g, 5, none⟩ u5).setCell ⟨g, 6, none⟩ u6).setCell ⟨g, 7, none⟩ u7).setCell ⟨g, 8, none⟩ u8).setCell ⟨g, 9, none⟩ u9).setCell ⟨g, 10, none⟩ u10).setCell ⟨g, 11, none⟩ u11) :=
  below_set (below_set (below_set (below_set (below_set (below_set (below_set (below_set (below_set (below_set (below_set (below_set h hg _) hg _) hg _) hg _) hg _) hg _) hg _) hg _) hg _) hg _) hg _) hg _
theorem set12 {w : World} {g : Nat} {t : TypeId} {a0 a1 a2 a3 a4 a5 a6 a7 a8 a9 a10 a11 : Value} (h : Blk w g t #[a0, a1, a2, a3, a4, a5, a6, a7, a8, a9, a10, a11]) (u0 u1 u2 u3 u4 u5 u6 u7 u8 u9 u10 u11 : Value) : Blk ((((((((((((w.setCell ⟨g, 0, none⟩ u0).setCell ⟨g, 1, none⟩ u1).setCell ⟨g, 2, none⟩ u2).setCell ⟨g, 3, none⟩ u3).setCell ⟨g, 4, none⟩ u4).setCell ⟨g, 5, none⟩ u5).setCell ⟨g, 6, none⟩ u6).setCell ⟨g, 7, none⟩ u7).setCell ⟨g, 8, none⟩ u8).setCell ⟨g, 9, none⟩ u9).setCell ⟨g, 10, none⟩ u10).setCell ⟨g, 11, none⟩ u11) g t #[u0, u1, u2, u3, u4, u5, u6, u7, u8, u9, u10, u11] := by
  have := (((((((((((h.set 0 u0).set 1 u1).set 2 u2).set 3 u3).set 4 u4).set 5 u5).set 6 u6).set 7 u7).set 8 u8).set 9 u9).set 10 u10).set 11 u11
  simpa using this
section
variable {w wx : World} {T : Nat} {ns a b : List Nd} {cnt byt : Int} {k : List UInt8} {q : Int} {R P g c : Nat}
theorem pre_mem {x : Nd} (hx : x ∈ pre b k q) : x ∈ b := (List.takeWhile_sublist _).subset hx
end
end Mm
end Go.Proofs.YtadlhnjnhllpfaaDoor
namespace Go.Proofs.YtadlhnjnhllpfaaDoor
open Go Go.RowKit Go.Maps Go.Sort Go.Proofs.YtadlhnjnhllpfaaDoor.Fr
namespace Mm

theorem results_cell_row_tmp {P : Program} {fn : Func} {p u : Tmp} {ty : TypeId} (h : fn.results = #[.cell p ty, .tmp u]) (tmps : Array Value) (w : World) (g : Nat) (t : TypeId) (cs : Array Value) (fr : Nat × Nat) (d : TypeDesc)
    (hp : tmps.getD p undef = .pointer (some ⟨g, 0, none⟩)) (hg : w.heap[g]? = some (.cells cs t fr))
    (hu : P.underlying ty = some d) (hd : (match d with | .struct _ | .array _ _ => true | _ => false) = true) (hi : (P.info? ty).map (·.size) = some cs.size) :
    (results fn tmps).run P w = .ok (.tuple #[.agg cs, tmps.getD u undef]) w := by
  rw [results_cell_tmp h, hp]
  simp [asAddr, run_loadVar_row w g t ty cs fr d hg hu hd hi, Result.andThen]
section
variable {w w' : World} {T : Nat} {ns a b : List Nd} {cnt byt : Int} {l c : Nat}
theorem pred_pos (T : Nat) (l : Nat) : ∀ (pr : List Nd), ∃ a b1, pr = a ++ b1 ∧ (∀ x ∈ b1, ¬ l < x.h) ∧ Pos T a (l + 1) (predAt T pr l) := by
  intro pr
  unfold predAt
  cases hf : pr.reverse.find? fun n => decide (l < n.h) with
  | none =>
    refine ⟨[], pr, rfl, fun x hx => ?_, .inl ⟨rfl, rfl⟩⟩
    simpa using List.find?_eq_none.1 hf x (List.mem_reverse.2 hx)
  | some m =>
    obtain ⟨h1, r, s, h2, h3⟩ := List.find?_eq_some_iff_append.1 hf
    have e : pr = (s.reverse ++ [m]) ++ r.reverse := by
      have := congrArg List.reverse h2
      simpa using this
    exact ⟨s.reverse ++ [m], r.reverse, e, fun x hx => by simpa using h3 x (List.mem_reverse.1 hx), .inr ⟨s.reverse, m, rfl, rfl, Nat.succ_le_of_lt (of_decide_eq_true h1)⟩⟩
def Good (ns : List Nd) : Prop := ∀ n ∈ ns, 1 ≤ n.h ∧ n.h ≤ 12
theorem nextAt_zero (h : Good ns) : nextAt ns 0 = ns.head?.map (·.blk) := by
  cases ns with
  | nil => rfl
  | cons n r => rw [nextAt_cons_yes (by have := (h n (by simp)).1; omega)]; rfl
/-- The first that isn't ahead, if it has this key. -/
def getN (ns : List Nd) (k : List UInt8) (q : Int) : Option Nd := (post ns k q).head?.filter fun n => decide (n.e.k = k)
def noE : En := ⟨⟨#[]⟩, 0, false, ⟨#[]⟩⟩
def getE (ns : List Nd) (k : List UInt8) (q : Int) : En := (((getN ns k q)).map (·.e)).getD noE
theorem cells4 {w : World} {g : Nat} {t : TypeId} {a b c d : Value} (h : Blk w g t #[a, b, c, d]) : (w.cell? ⟨g, 0, none⟩ = some a ∧ w.cell? ⟨g, 1, none⟩ = some b ∧ w.cell? ⟨g, 2, none⟩ = some c ∧ w.cell? ⟨g, 3, none⟩ = some d) ∧ w.frozen? ⟨g, 0, none⟩ = false ∧ w.frozen? ⟨g, 1, none⟩ = false ∧ w.frozen? ⟨g, 2, none⟩ = false ∧ w.frozen? ⟨g, 3, none⟩ = false :=
  ⟨⟨h.cell 0, h.cell 1, h.cell 2, h.cell 3⟩, h.frozen 0, h.frozen 1, h.frozen 2, h.frozen 3⟩
theorem set4 {w : World} {g : Nat} {t : TypeId} {a b c d : Value} (h : Blk w g t #[a, b, c, d]) (u0 u1 u2 u3 : Value) : Blk ((((w.setCell ⟨g, 0, none⟩ u0).setCell ⟨g, 1, none⟩ u1).setCell ⟨g, 2, none⟩ u2).setCell ⟨g, 3, none⟩ u3) g t #[u0, u1, u2, u3] := by
  have := (((h.set 0 u0).set 1 u1).set 2 u2).set 3 u3
  simpa using this
theorem bel4 {B g : Nat} {w w' : World} (h : Below B w w') (hg : B ≤ g) (u0 u1 u2 u3 : Value) : Below B w ((((w'.setCell ⟨g, 0, none⟩ u0).setCell ⟨g, 1, none⟩ u1).setCell ⟨g, 2, none⟩ u2).setCell ⟨g, 3, none⟩ u3) :=
  below_set (below_set (below_set (below_set h hg _) hg _) hg _) hg _
theorem infoEn : (Tryd.prog.info? 42).map (·.size) = some 4 := by kernel_rfl
end

end Mm
end Go.Proofs.YtadlhnjnhllpfaaDoor
namespace Go.Proofs.YtadlhnjnhllpfaaDoor
open Go Go.RowKit Go.Maps Go.Sort Go.Proofs.YtadlhnjnhllpfaaDoor.Fr
namespace Mm

theorem split3 {x y : Nd} : ∀ {a p r s : List Nd}, a ++ x :: r = p ++ y :: s → (∃ b, p = a ++ x :: b ∧ r = b ++ y :: s) ∨ (a = p ∧ x = y ∧ r = s) ∨ ∃ c, a = p ++ y :: c ∧ s = c ++ x :: r
  | [], [], r, s, h => by
    simp only [List.nil_append, List.cons.injEq] at h
    exact .inr (.inl ⟨rfl, h.1, h.2⟩)
  | [], m :: p, r, s, h => by
    simp only [List.nil_append, List.cons_append, List.cons.injEq] at h
    exact .inl ⟨p, by rw [h.1]; rfl, h.2⟩
  | m :: a, [], r, s, h => by
    simp only [List.nil_append, List.cons_append, List.cons.injEq] at h
    exact .inr (.inr ⟨a, by rw [h.1]; rfl, h.2.symm⟩)
  | m :: a, k :: p, r, s, h => by
    simp only [List.cons_append, List.cons.injEq] at h
    rcases split3 (a := a) (p := p) h.2 with ⟨b, h1, h2⟩ | ⟨h1, h2, h3⟩ | ⟨c, h1, h2⟩
    · exact .inl ⟨b, by rw [h1, h.1]; rfl, h2⟩
    · exact .inr (.inl ⟨by rw [h1, h.1], h2, h3⟩)
    · exact .inr (.inr ⟨c, by rw [h1, h.1]; rfl, h2⟩)
section
variable {w w' : World} {T : Nat} {ns p s : List Nd} {cnt byt : Int} {j N : Nat} {n : Nd}
/-- A node with another height. -/
def Nd.up (n : Nd) (j : Nat) : Nd := { n with h := j }
theorem next_up {l : Nat} (hl : l ≠ j) (b s : List Nd) : nextAt (b ++ n.up (j + 1) :: s) l = nextAt (b ++ n.up j :: s) l := by
  unfold nextAt
  rw [List.find?_append, List.find?_append]
  by_cases h : l < j
  · have h1 : l < (n.up (j + 1)).h := by show l < j + 1; omega
    have h2 : l < (n.up j).h := h
    rw [List.find?_cons_of_pos (by simpa using h1), List.find?_cons_of_pos (by simpa using h2)]
    cases b.find? fun n => decide (l < n.h) <;> rfl
  · have h1 : ¬ l < (n.up (j + 1)).h := by show ¬ l < j + 1; omega
    have h2 : ¬ l < (n.up j).h := h
    rw [List.find?_cons_of_neg (by simpa using h1), List.find?_cons_of_neg (by simpa using h2)]
theorem next_low {b : List Nd} (hb : ∀ x ∈ b, ¬ j < x.h) (s : List Nd) : nextAt (b ++ n.up (j + 1) :: s) j = some n.blk := by
  rw [nextAt_skip hb, nextAt_cons_yes (show j < (n.up (j + 1)).h from Nat.lt_succ_self j)]; rfl
def World.two (w : World) (N c j : Nat) (u v : Value) : World := (w.setCell ⟨N, 5 + j, none⟩ u).setCell ⟨c, 5 + j, none⟩ v
theorem two_off {N c j k : Nat} {u v : Value} (h1 : k ≠ N) (h2 : k ≠ c) : (World.two w N c j u v).heap[k]? = w.heap[k]? :=
  (Below.heap_setCell _ _ _ _ h2).trans (Below.heap_setCell _ _ _ _ h1)
theorem up_sorted (h : Sorted (p ++ n.up j :: s)) (k : Nat) : Sorted (p ++ n.up k :: s) := by
  have e : ∀ l m : List Nd, l.map (·.e) = m.map (·.e) → Sorted l → Sorted m := fun l m he hs => by
    have h1 : ∀ l : List Nd, Sorted l ↔ (l.map (·.e)).Pairwise fun a b => bef a b.k b.seq := fun l => by unfold Sorted; rw [List.pairwise_map]
    rw [h1] at hs ⊢
    rw [← he]; exact hs
  exact e _ _ (by simp [Nd.up]) h
end

end Mm
end Go.Proofs.YtadlhnjnhllpfaaDoor
