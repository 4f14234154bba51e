/-
  WHAT IS PROVED: what a new node changes of a table, level by level. CONDITIONS: the table and its nodes stand in memory as named.
-/
import Derived.Test.YtfnfjhfmhinkcaaMGet
namespace Go.Proofs.Ytfnfjhfmhinkcaa
open Go Go.RowKit Go.Maps Go.Sort Go.Proofs.Ytfnfjhfmhinkcaa.Fr
namespace Mm

theorem split3 {x y : Nd} : ∀ {a p r s : List Nd}, a ++ x :: r = p ++ y :: s → (∃ b, p = a ++ x :: b ∧ r = b ++ y :: s) ∨ (a = p ∧ x = y ∧ r = s) ∨ ∃ c, a = p ++ y :: c ∧ s = c ++ x :: r
  | [], [], r, s, h => by
    simp only [List.nil_append, List.cons.injEq] at h
    exact .inr (.inl ⟨rfl, h.1, h.2⟩)
  | [], m :: p, r, s, h => by
    simp only [List.nil_append, List.cons_append, List.cons.injEq] at h
    exact .inl ⟨p, by rw [h.1]; rfl, h.2⟩
  | m :: a, [], r, s, h => by
    simp only [List.nil_append, List.cons_append, List.cons.injEq] at h
    exact .inr (.inr ⟨a, by rw [h.1]; rfl, h.2.symm⟩)
  | m :: a, k :: p, r, s, h => by
    simp only [List.cons_append, List.cons.injEq] at h
    rcases split3 (a := a) (p := p) h.2 with ⟨b, h1, h2⟩ | ⟨h1, h2, h3⟩ | ⟨c, h1, h2⟩
    · exact .inl ⟨b, by rw [h1, h.1]; rfl, h2⟩
    · exact .inr (.inl ⟨by rw [h1, h.1], h2, h3⟩)
    · exact .inr (.inr ⟨c, by rw [h1, h.1]; rfl, h2⟩)
section
variable {w w' : World} {T : Nat} {ns p s : List Nd} {cnt byt : Int} {j N : Nat} {n : Nd}
theorem Chain.of : ∀ {ns : List Nd}, (∀ a n r, ns = a ++ n :: r → ∃ cs, NodeAt w n r cs) → Chain w ns
  | [], _ => trivial
  | n :: r, h => ⟨h [] n r rfl, Chain.of fun a m t e => h (n :: a) m t (by rw [e]; rfl)⟩
/-- A node with another height. -/
def Nd.up (n : Nd) (j : Nat) : Nd := { n with h := j }
theorem next_up {l : Nat} (hl : l ≠ j) (b s : List Nd) : nextAt (b ++ n.up (j + 1) :: s) l = nextAt (b ++ n.up j :: s) l := by
  unfold nextAt
  rw [List.find?_append, List.find?_append]
  by_cases h : l < j
  · have h1 : l < (n.up (j + 1)).h := by show l < j + 1; omega
    have h2 : l < (n.up j).h := h
    rw [List.find?_cons_of_pos (by simpa using h1), List.find?_cons_of_pos (by simpa using h2)]
    cases b.find? fun n => decide (l < n.h) <;> rfl
  · have h1 : ¬ l < (n.up (j + 1)).h := by show ¬ l < j + 1; omega
    have h2 : ¬ l < (n.up j).h := h
    rw [List.find?_cons_of_neg (by simpa using h1), List.find?_cons_of_neg (by simpa using h2)]
theorem next_low {b : List Nd} (hb : ∀ x ∈ b, ¬ j < x.h) (s : List Nd) : nextAt (b ++ n.up (j + 1) :: s) j = some n.blk := by
  rw [nextAt_skip hb, nextAt_cons_yes (show j < (n.up (j + 1)).h from Nat.lt_succ_self j)]; rfl
theorem NodeAt.next_of {r r' : List Nd} {cs : Array Value} {m : Nd} (h : NodeAt w m r cs) (hr : ∀ l, l < m.h → nextAt r' l = nextAt r l) : NodeAt w m r' cs := { h with next := fun l hl => by rw [hr l hl]; exact h.next l hl }
def World.two (w : World) (N c j : Nat) (u v : Value) : World := (w.setCell ⟨N, 5 + j, none⟩ u).setCell ⟨c, 5 + j, none⟩ v
theorem two_off {N c j k : Nat} {u v : Value} (h1 : k ≠ N) (h2 : k ≠ c) : (World.two w N c j u v).heap[k]? = w.heap[k]? :=
  (Below.heap_setCell _ _ _ _ h2).trans (Below.heap_setCell _ _ _ _ h1)
theorem up_sorted (h : Sorted (p ++ n.up j :: s)) (k : Nat) : Sorted (p ++ n.up k :: s) := by
  have e : ∀ l m : List Nd, l.map (·.e) = m.map (·.e) → Sorted l → Sorted m := fun l m he hs => by
    have h1 : ∀ l : List Nd, Sorted l ↔ (l.map (·.e)).Pairwise fun a b => bef a b.k b.seq := fun l => by unfold Sorted; rw [List.pairwise_map]
    rw [h1] at hs ⊢
    rw [← he]; exact hs
  exact e _ _ (by simp [Nd.up]) h
theorem Rep.raise (h : Rep w T (p ++ n.up j :: s) cnt byt) (hj : j < 12) (hnd : ((p ++ n.up j :: s).map (·.blk)).Nodup) : Rep (World.two w n.blk (predAt T p j) j (ptr (nextAt s j)) (ptr (some n.blk))) T (p ++ n.up (j + 1) :: s) cnt byt := by
  obtain ⟨cN, hN⟩ := Chain.at_ h.chain
  obtain ⟨cT, hT1, hT2, hT3, hT4, hT5⟩ := h.tab
  have hNb : Blk w n.blk 52 cN := hN.blk
  have hTN : T ≠ n.blk := Blk.ne hT1 hNb (by decide)
  obtain ⟨a1, b1, hp, hb1, hpos⟩ := pred_pos T j p
  have hN' : Blk (World.two w n.blk (predAt T p j) j (ptr (nextAt s j)) (ptr (some n.blk))) n.blk 52 (cN.setIfInBounds (5 + j) (ptr (nextAt s j))) ∨ predAt T p j = n.blk := by
    by_cases e : predAt T p j = n.blk
    · exact .inr e
    · exact .inl ((hNb.set (5 + j) _).same (Below.heap_setCell _ _ _ _ fun e2 => e e2.symm))
  have memP : ∀ x ∈ p, x.blk ≠ n.blk := fun x hx e => by
    rw [List.map_append, List.nodup_append] at hnd
    exact hnd.2.2 x.blk (List.mem_map.2 ⟨x, hx, rfl⟩) n.blk (by simp [Nd.up]) e
  have memS : ∀ x ∈ s, x.blk ≠ n.blk := fun x hx e => by
    rw [List.map_append, List.nodup_append, List.map_cons, List.nodup_cons] at hnd
    exact hnd.2.1.1 (List.mem_map.2 ⟨x, hx, e⟩)
  have cross : ∀ x ∈ p, ∀ y ∈ s, x.blk ≠ y.blk := fun x hx y hy => by
    rw [List.map_append, List.nodup_append] at hnd
    exact hnd.2.2 x.blk (List.mem_map.2 ⟨x, hx, rfl⟩) y.blk (by simp; exact .inr ⟨y, hy, rfl⟩)
  have hpN : predAt T p j ≠ n.blk := by
    rcases hpos with ⟨_, h2⟩ | ⟨a', m, h1, h2, _⟩
    · rw [h2]; exact hTN
    · rw [h2]; exact memP m (by rw [hp, h1]; simp)
  have hN2 := hN'.resolve_right hpN
  have hsz : cN.size = 17 := hN.size
  refine ⟨?_, Chain.of fun a x r e => ?_, up_sorted h.sorted _⟩
  · -- the table's own row
    rcases hpos with ⟨h1, h2⟩ | ⟨a', m, h1, h2, hm⟩
    · rw [h2]
      have hall : ∀ x ∈ p, ¬ j < x.h := by rw [hp, h1]; simpa using hb1
      refine ⟨cT.setIfInBounds (5 + j) (ptr (some n.blk)), ?_, by simp [hT2], fun l hl => ?_, ?_, ?_⟩
      · exact (hT1.same (Below.heap_setCell _ _ _ _ hTN)).set (5 + j) _
      · by_cases e : l = j
        · subst e
          rw [Array.getElem?_setIfInBounds_self_of_lt (by omega), next_low hall]
        · rw [Array.getElem?_setIfInBounds_ne (by omega), hT3 l hl, next_up e]
      · rw [Array.getElem?_setIfInBounds_ne (by omega)]; exact hT4
      · rw [Array.getElem?_setIfInBounds_ne (by omega)]; exact hT5
    · have hTp : T ≠ predAt T p j := by
        rw [h2]
        obtain ⟨cm, hcm⟩ := Chain.at_ (a := a') (n := m) (r := b1 ++ n.up j :: s) (by have := h.chain; rw [hp, h1] at this; simpa using this)
        exact Blk.ne hT1 hcm.blk (by decide)
      refine ⟨cT, hT1.same (two_off hTN hTp), hT2, fun l hl => ?_, hT4, hT5⟩
      rw [hT3 l hl]
      by_cases e : l = j
      · subst e
        rw [nextAt_hit (x := m) (by rw [hp, h1]; simp) (by omega)]
      · rw [next_up e]
  · rcases split3 e.symm with ⟨b, h1, h2⟩ | ⟨h1, h2, h3⟩ | ⟨c, h1, h2⟩
    · -- ahead of the new one
      obtain ⟨cx, hx⟩ := Chain.at_ (a := a) (n := x) (r := b ++ n.up j :: s) (by have := h.chain; rw [h1] at this; simpa using this)
      have hxp : x ∈ p := by rw [h1]; simp
      have hxN := memP x hxp
      subst h2
      by_cases hxc : x.blk = predAt T p j
      · rcases hpos with ⟨_, h4⟩ | ⟨a', m, h3, h4, hm⟩
        · exact absurd (hxc.trans h4) (Blk.ne hT1 hx.blk (by decide)).symm
        · have hxm : x.blk = m.blk := hxc.trans h4
          have hnp : (p.map (·.blk)).Nodup := by rw [List.map_append, List.nodup_append] at hnd; exact hnd.1
          have hsp : a = a' ∧ x = m ∧ b = b1 := by
            have e3 : a ++ x :: b = a' ++ m :: b1 := by rw [← h1, hp, h3]; simp
            rcases split3 e3 with ⟨c, q1, q2⟩ | q | ⟨c, q1, q2⟩
            · exfalso
              rw [h1, q2] at hnp
              simp only [List.map_append, List.map_cons, List.nodup_append, List.nodup_cons] at hnp
              exact hnp.2.1.1 (by rw [hxm]; simp)
            · exact q
            · exfalso
              rw [h1, q1] at hnp
              simp only [List.map_append, List.map_cons, List.nodup_append, List.nodup_cons, List.mem_append, List.mem_cons] at hnp
              exact hnp.2.2 m.blk (by simp) x.blk (by simp) hxm.symm
          obtain ⟨rfl, rfl, rfl⟩ := hsp
          refine ⟨cx.setIfInBounds (5 + j) (ptr (some n.blk)), ?_, by simp [hx.size], ?_, ?_, ?_, ?_, ?_, fun l hl => ?_⟩
          · unfold World.two
            rw [← hxc]
            exact (hx.blk.same (Below.heap_setCell _ _ _ _ hxN)).set (5 + j) _
          · rw [Array.getElem?_setIfInBounds_ne (by omega)]; exact hx.c0
          · rw [Array.getElem?_setIfInBounds_ne (by omega)]; exact hx.c1
          · rw [Array.getElem?_setIfInBounds_ne (by omega)]; exact hx.c2
          · rw [Array.getElem?_setIfInBounds_ne (by omega)]; exact hx.c3
          · rw [Array.getElem?_setIfInBounds_ne (by omega)]; exact hx.c4
          · by_cases el : l = j
            · subst el
              rw [Array.getElem?_setIfInBounds_self_of_lt (by rw [hx.size]; omega), next_low hb1]
            · rw [Array.getElem?_setIfInBounds_ne (by omega), hx.next l hl, next_up el]
      · refine ⟨cx, (hx.same (two_off hxN hxc)).next_of fun l hl => ?_⟩
        by_cases el : l = j
        · subst el
          -- it has the last one ahead behind it, or it would be the last one itself
          rcases hpos with ⟨h3, _⟩ | ⟨a', m, h3, h4, hm⟩
          · exact absurd hl (hb1 x (by rw [h3] at hp; rw [← hp.trans (List.nil_append _)]; exact hxp))
          · have e3 : a ++ x :: b = a' ++ m :: b1 := by rw [← h1, hp, h3]; simp
            rcases split3 e3 with ⟨c, q1, q2⟩ | ⟨_, q, _⟩ | ⟨c, q1, q2⟩
            · rw [q2]
              exact nextAt_hit (x := m) (by simp) (by omega) _ _
            · exact absurd (by rw [q, h4]) hxc
            · exact absurd hl (hb1 x (by rw [q2]; simp))
        · exact next_up el b s
    · -- the new one
      subst h1 h2 h3
      refine ⟨_, hN2, by simp [hsz], ?_, ?_, ?_, ?_, ?_, fun l hl => ?_⟩
      · rw [Array.getElem?_setIfInBounds_ne (by omega)]; exact hN.c0
      · rw [Array.getElem?_setIfInBounds_ne (by omega)]; exact hN.c1
      · rw [Array.getElem?_setIfInBounds_ne (by omega)]; exact hN.c2
      · rw [Array.getElem?_setIfInBounds_ne (by omega)]; exact hN.c3
      · rw [Array.getElem?_setIfInBounds_ne (by omega)]; exact hN.c4
      · by_cases el : l = j
        · subst el
          rw [Array.getElem?_setIfInBounds_self_of_lt (by omega)]
        · have hl2 : l < j + 1 := hl
          rw [Array.getElem?_setIfInBounds_ne (by omega)]
          exact hN.next l (show l < j by omega)
    · -- behind the new one
      obtain ⟨cx, hx⟩ := Chain.at_ (a := p ++ n.up j :: c) (n := x) (r := r) (by have := h.chain; rw [h2] at this; simpa using this)
      have hxs : x ∈ s := by rw [h2]; simp
      refine ⟨cx, hx.same (two_off (memS x hxs) fun e2 => ?_)⟩
      rcases hpos with ⟨_, h4⟩ | ⟨a', m, h3, h4, _⟩
      · exact absurd (e2.trans h4) (Blk.ne hT1 hx.blk (by decide)).symm
      · exact cross m (by rw [hp, h3]; simp) x hxs (e2.trans h4).symm
end

end Mm
end Go.Proofs.Ytfnfjhfmhinkcaa
