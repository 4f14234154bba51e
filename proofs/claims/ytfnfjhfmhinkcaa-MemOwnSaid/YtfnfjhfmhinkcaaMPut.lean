/-
  WHAT IS PROVED: what Put does. CONDITIONS: the table and its nodes stand in memory as named.
-/
import Derived.Test.YtfnfjhfmhinkcaaMIns
import Derived.Deep.Cut
import Derived.Deep.DeepCutAuto
namespace Go.Proofs.Ytfnfjhfmhinkcaa
open Go Go.RowKit Go.Maps Go.Sort Go.Proofs.Ytfnfjhfmhinkcaa.Fr
namespace Mm

/-- A TABLE IN MEMORY, newer than w0. -/
structure Tb (w0 w : World) (T : Nat) (ns : List Nd) (byt : Int) : Prop where
  rep : Rep w T ns (ns.length : Int) byt
  good : Good ns
  nodup : (ns.map (·.blk)).Nodup
  newT : w0.heap.size ≤ T
  newN : ∀ n ∈ ns, w0.heap.size ≤ n.blk
  bel : Below w0.heap.size w0 w
  b0 : 0 ≤ byt
  b1 : byt ≤ 2000 * (ns.length : Int)
def toE (e : En) : Value := .agg #[.string e.key, .int .i64 e.seq, .bool e.del, .string e.val]
section
variable {w0 w w' : World} {T : Nat} {ns : List Nd} {byt : Int}
theorem Tb.below (h : Tb w0 w T ns byt) (hb : Below w.heap.size w w') : Tb w0 w' T ns byt := { h with rep := h.rep.below hb, bel := h.bel.trans (hb.mono h.bel.size) }
theorem put_bad (w : World) (e : En) (hgt : Int) {z : Int} (hz : entryErr e = z) (hz0 : (z == 0) = false) :
    Calls Try.prog 16 #[.pointer (some ⟨T, 0, none⟩), .agg #[.string e.key, .int .i64 e.seq, .bool e.del, .string e.val], .int .i64 hgt] w fun x w' => x = .returned (.int .i64 z) ∧ Below w.heap.size w w' := by
  have hE := check_any (w.alloc (.cells #[.string e.key, .int .i64 e.seq, .bool e.del, .string e.val] 30)) e
  rw [hz] at hE
  have HE := Lib.hid hE
  clear hE hz
  go_enter Try.func16, Try.ntmps16
  go_wp2_with (go_at_call 22; refine HE.out.mono ?_; rintro e w2 ⟨rfl, hb2⟩)
  go_ret
  exact ⟨rfl, ((Below.refl _ _).alloc (Nat.le_refl _) _).trans (hb2.mono (by simp))⟩
/-- What Put leaves: the tables' own blocks alone have turned. -/
def Own (T : Nat) (ns : List Nd) (k : Nat) : Prop := k = T ∨ ∃ n ∈ ns, k = n.blk
/-- While the new node is raised. -/
structure PuAt (w : World) (T : Nat) (ns p s : List Nd) (n : Nd) (cnt byt : Int) (PA E : Nat) (e : En) (j : Nat) (W : World) : Prop where
  rep : Rep W T (p ++ n.up j :: s) cnt byt
  path : PathAt W PA T p 0
  ent : Blk W E 30 #[.string e.key, .int .i64 e.seq, .bool e.del, .string e.val]
  mod : Mod (Own T ns) w W
  split : ns = p ++ s
  newN : w.heap.size ≤ n.blk
section
variable {p s : List Nd} {n : Nd} {cnt : Int} {PA E j : Nat} {e : En} {W : World}
theorem Rep.spot (h : Rep W T ns cnt byt) (hn : ns = p ++ s) : (∃ t cs, Blk W (predAt T p j) t cs ∧ (t = 54 ∨ t = 52)) ∧ W.frozen? ⟨predAt T p j, 5 + j, none⟩ = false := by
  obtain ⟨a1, b1, h1, _, h3⟩ := pred_pos T j p
  rcases h3 with ⟨_, h4⟩ | ⟨a', m, h4, h5, _⟩
  · rw [h4]
    obtain ⟨cT, hT, _⟩ := h.tab
    exact ⟨⟨_, _, hT, .inl rfl⟩, hT.frozen _⟩
  · rw [h5]
    obtain ⟨cs, hc⟩ := Chain.at_ (a := a') (n := m) (r := b1 ++ s) (by have := h.chain; rw [hn, h1, h4] at this; simpa using this)
    exact ⟨⟨_, _, hc.blk, .inr rfl⟩, hc.blk.frozen _⟩
theorem PuAt.facts (h : PuAt w T ns p s n cnt byt PA E e j W) (hj : j < 12) :
    W.cell? ⟨PA, j, none⟩ = some (.pointer (some ⟨predAt T p j, 0, none⟩)) ∧ W.cell? ⟨predAt T p j, 5 + j, none⟩ = some (ptr (nextAt s j)) ∧ (∃ u, W.cell? ⟨n.blk, 5 + j, none⟩ = some u) ∧ W.frozen? ⟨n.blk, 5 + j, none⟩ = false := by
  obtain ⟨cs, h1, _, h3⟩ := h.path
  obtain ⟨cN, hN⟩ := Chain.at_ h.rep.chain
  refine ⟨(h1.cell j).trans (h3 j (Nat.zero_le _) hj), ?_, ⟨cN[5 + j]'(by rw [hN.size]; omega), (hN.blk.cell _).trans (Array.getElem?_eq_getElem _)⟩, hN.blk.frozen _⟩
  rw [h.rep.afterPred rfl hj, nextAt_cons_no (show ¬ j < (n.up j).h from Nat.lt_irrefl j)]
theorem PuAt.drew (h : PuAt w T ns p s n cnt byt PA E e j W) : PuAt w T ns p s n cnt byt PA E e j W.drew :=
  ⟨h.rep.below (below_drewN (Below.refl _ _) 1), h.path, h.ent, h.mod.drew, h.split, h.newN⟩
theorem PuAt.facts2 (h : PuAt w T ns p s n cnt byt PA E e j W) (hj : j < 12) (hnd : ((p ++ n.up j :: s).map (·.blk)).Nodup) (u : Value) :
    (W.setCell ⟨n.blk, 5 + j, none⟩ u).cell? ⟨predAt T p j, 5 + j, none⟩ = some (ptr (nextAt s j)) ∧ (W.setCell ⟨n.blk, 5 + j, none⟩ u).frozen? ⟨predAt T p j, 5 + j, none⟩ = false ∧ (W.setCell ⟨n.blk, 5 + j, none⟩ u).cell? ⟨PA, j, none⟩ = some (.pointer (some ⟨predAt T p j, 0, none⟩)) := by
  obtain ⟨f1, f2, _, _⟩ := h.facts hj
  obtain ⟨⟨t, cs, hb, _⟩, _⟩ := h.rep.spot (p := p) (s := n.up j :: s) (j := j) rfl
  obtain ⟨cN, hN⟩ := Chain.at_ h.rep.chain
  obtain ⟨cP, hP, _, _⟩ := h.path
  have hNb : Blk W n.blk 52 cN := hN.blk
  have hne : predAt T p j ≠ n.blk := by
    obtain ⟨a1, b1, h1, _, h3⟩ := pred_pos T j p
    rcases h3 with ⟨_, h4⟩ | ⟨a', m, h4, h5, _⟩
    · rw [h4]
      obtain ⟨cT, hT, _⟩ := h.rep.tab
      exact Blk.ne hT hNb (by decide)
    · rw [h5]
      intro e2
      rw [List.map_append, List.nodup_append] at hnd
      exact hnd.2.2 m.blk (List.mem_map.2 ⟨m, by rw [h1, h4]; simp, rfl⟩) n.blk (by simp [Nd.up]) e2
  have hb2 := hb.same (Below.heap_setCell W ⟨n.blk, 5 + j, none⟩ u _ hne)
  have hP2 := hP.same (Below.heap_setCell W ⟨n.blk, 5 + j, none⟩ u _ (Blk.ne hP hNb (by decide)))
  exact ⟨((hb2.cell _).trans (hb.cell _).symm).trans f2, hb2.frozen _, ((hP2.cell _).trans (hP.cell _).symm).trans f1⟩
theorem pred_own (hm : ns = p ++ s) : Own T ns (predAt T p j) := by
  obtain ⟨a1, b1, h1, _, h3⟩ := pred_pos T j p
  rcases h3 with ⟨_, h4⟩ | ⟨a', m, h4, h5, _⟩
  · exact .inl h4
  · exact .inr ⟨m, by rw [hm, h1, h4]; simp, h5⟩
theorem PuAt.step (h : PuAt w T ns p s n cnt byt PA E e j W) (hj : j < 12) (hnd : ((p ++ n.up j :: s).map (·.blk)).Nodup) : PuAt w T ns p s n cnt byt PA E e (j + 1) ((W.setCell ⟨n.blk, 5 + j, none⟩ (ptr (nextAt s j))).setCell ⟨predAt T p j, 5 + j, none⟩ (.pointer (some ⟨n.blk, 0, none⟩))) := by
  obtain ⟨⟨t, cs, hb, ht⟩, _⟩ := h.rep.spot (p := p) (s := n.up j :: s) (j := j) rfl
  obtain ⟨cN, hN⟩ := Chain.at_ h.rep.chain
  have hNb : Blk W n.blk 52 cN := hN.blk
  obtain ⟨cP, hP, hP2, hP3⟩ := h.path
  have n1 : PA ≠ n.blk := Blk.ne hP hNb (by decide)
  have n2 : PA ≠ predAt T p j := Blk.ne hP hb (by rcases ht with rfl | rfl <;> decide)
  have n3 : E ≠ n.blk := Blk.ne h.ent hNb (by decide)
  have n4 : E ≠ predAt T p j := Blk.ne h.ent hb (by rcases ht with rfl | rfl <;> decide)
  refine ⟨h.rep.raise hj hnd, ⟨cP, hP.same (two_off n1 n2), hP2, hP3⟩, h.ent.same (two_off n3 n4), ?_, h.split, h.newN⟩
  exact (h.mod.setCell (p := ⟨n.blk, 5 + j, none⟩) (fun hlt => absurd hlt (Nat.not_lt.2 h.newN)) _).setCell (p := ⟨predAt T p j, 5 + j, none⟩) (fun _ => pred_own h.split) _
theorem up_nodup (k : Nat) (h : ((p ++ n.up j :: s).map (·.blk)).Nodup) : ((p ++ n.up k :: s).map (·.blk)).Nodup := by simpa [Nd.up] using h
/-- The node is made, on no level yet. -/
theorem PuAt.make {w3 : World} (h : Tb w0 w T ns byt) (hs : ns = p ++ s) (hp : p = pre ns e.k e.seq) (hno : ∀ m r, s = m :: r → bef ⟨e.key, e.seq, e.del, e.val⟩ m.e.k m.e.seq) (hb3 : Below w.heap.size w w3) (hEb : Blk w3 E 30 #[.string e.key, .int .i64 e.seq, .bool e.del, .string e.val])
    (hpath : PathAt w3 PA T p 0) (cnt' : Nat) (hc : cnt = (ns.length : Int)) (hc' : cnt' = ns.length) :
    PuAt w T ns p s ⟨w3.heap.size, e, cnt', 0⟩ cnt byt PA E e 0 (w3.alloc (.cells #[.string e.key, .int .i64 e.seq, .bool e.del, .string e.val, .int .i64 cnt, .pointer none, .pointer none, .pointer none, .pointer none, .pointer none, .pointer none, .pointer none, .pointer none, .pointer none, .pointer none, .pointer none, .pointer none] 52)) ∧ ((p ++ (⟨w3.heap.size, e, cnt', 0⟩ : Nd).up 0 :: s).map (·.blk)).Nodup := by
  have hr3 := h.rep.below hb3
  have ha : Below w3.heap.size w3 (w3.alloc (.cells #[.string e.key, .int .i64 e.seq, .bool e.del, .string e.val, .int .i64 cnt, .pointer none, .pointer none, .pointer none, .pointer none, .pointer none, .pointer none, .pointer none, .pointer none, .pointer none, .pointer none, .pointer none, .pointer none] 52)) := (Below.refl _ _).alloc (Nat.le_refl _) _
  have hr4 := hr3.below ha
  have hN : Blk (w3.alloc (.cells #[.string e.key, .int .i64 e.seq, .bool e.del, .string e.val, .int .i64 cnt, .pointer none, .pointer none, .pointer none, .pointer none, .pointer none, .pointer none, .pointer none, .pointer none, .pointer none, .pointer none, .pointer none, .pointer none] 52)) w3.heap.size 52 #[.string e.key, .int .i64 e.seq, .bool e.del, .string e.val, .int .i64 cnt, .pointer none, .pointer none, .pointer none, .pointer none, .pointer none, .pointer none, .pointer none, .pointer none, .pointer none, .pointer none, .pointer none, .pointer none] := Blk.new _ _ _
  have nx : ∀ (b : List Nd) (l : Nat), nextAt (b ++ (⟨w3.heap.size, e, cnt', 0⟩ : Nd).up 0 :: s) l = nextAt (b ++ s) l := fun b l => by
    unfold nextAt
    rw [List.find?_append, List.find?_append, List.find?_cons_of_neg (by simp [Nd.up])]
  subst hs
  have hlt := hr3.chain.lt
  have hnd : ((p ++ (⟨w3.heap.size, e, cnt', 0⟩ : Nd).up 0 :: s).map (·.blk)).Nodup := by
    have h1 := h.nodup
    rw [List.map_append, List.nodup_append] at h1
    rw [List.map_append, List.map_cons, List.nodup_append, List.nodup_cons]
    refine ⟨h1.1, ⟨fun hm => ?_, h1.2.1⟩, fun x hx y hy => ?_⟩
    · obtain ⟨m, hm1, hm2⟩ := List.mem_map.1 hm
      have := hlt m (by simp [hm1])
      simp only [Nd.up] at hm2
      omega
    · rcases List.mem_cons.1 hy with rfl | hy
      · obtain ⟨m, hm1, rfl⟩ := List.mem_map.1 hx
        have := hlt m (by simp [hm1])
        simp only [Nd.up]
        omega
      · exact h1.2.2 x hx y hy
  refine ⟨⟨⟨?_, Chain.of fun a x r e2 => ?_, ?_⟩, ?_, hEb.same (ha.block _ hEb.lt), Mod.below (hb3.trans (ha.mono hb3.size)), rfl, hb3.size⟩, hnd⟩
  · obtain ⟨cs, h1, h2, h3, h4, h5⟩ := hr4.tab
    exact ⟨cs, h1, h2, fun l hl => by rw [h3 l hl, nx], h4.trans (by rw [hc]), h5⟩
  · rcases split3 e2.symm with ⟨b, h1, h2⟩ | ⟨h1, h2, h3⟩ | ⟨c, h1, h2⟩
    · obtain ⟨cs, hx⟩ := Chain.at_ (a := a) (n := x) (r := b ++ s) (by have := hr4.chain; rw [h1] at this; simpa using this)
      exact ⟨cs, hx.next_of fun l _ => by rw [h2]; exact nx b l⟩
    · subst h1 h2 h3
      exact ⟨_, hN, rfl, rfl, rfl, rfl, rfl, by rw [hc]; simp [Nd.up, hc'], fun l hl => absurd hl (by simp [Nd.up])⟩
    · exact Chain.at_ (a := p ++ c) (n := x) (r := r) (by have := hr4.chain; rw [h2] at this; simpa using this)
  · have hso := hr3.sorted
    unfold Sorted at hso ⊢
    rw [List.pairwise_append] at hso
    rw [List.pairwise_append, List.pairwise_cons]
    have hb : ∀ x ∈ p, bef x.e e.k e.seq := fun x hx => by rw [hp] at hx; exact pre_bef x hx
    have hsf : ∀ y ∈ s, bef e y.e.k y.e.seq := by
      cases s with
      | nil => intro y hy; cases hy
      | cons m r =>
        intro y hy
        have h1 := hno m r rfl
        rcases List.mem_cons.1 hy with rfl | hy
        · exact h1
        · have h2 := hso.2.1
          rw [List.pairwise_cons] at h2
          exact bef_trans h1 (h2.1 y hy)
    refine ⟨hso.1, ⟨fun y hy => hsf y hy, hso.2.1⟩, fun x hx y hy => ?_⟩
    rcases List.mem_cons.1 hy with rfl | hy
    · exact hb x hx
    · exact hso.2.2 x hx y hy
  · obtain ⟨cP, hP, hP2, hP3⟩ := hpath
    exact ⟨cP, hP.same (ha.block _ hP.lt), hP2, hP3⟩
end
end

end Mm
end Go.Proofs.Ytfnfjhfmhinkcaa
