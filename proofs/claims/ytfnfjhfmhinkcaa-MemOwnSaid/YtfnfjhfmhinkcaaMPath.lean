/-
  WHAT IS PROVED: what path answers: on each level the last node ahead of a key and number. CONDITIONS: the table and its nodes stand in memory as named.
-/
import Derived.Test.YtfnfjhfmhinkcaaMWalkA
namespace Go.Proofs.Ytfnfjhfmhinkcaa
open Go Go.RowKit Go.Maps Go.Sort Go.Proofs.Ytfnfjhfmhinkcaa.Fr
namespace Mm

/-- A TABLE IN MEMORY. -/
structure Rep (w : World) (T : Nat) (ns : List Nd) (cnt byt : Int) : Prop where
  tab : TabAt w T ns cnt byt
  chain : Chain w ns
  sorted : Sorted ns
section
variable {w w' : World} {T : Nat} {ns a b : List Nd} {cnt byt : Int} {l c : Nat}
theorem TabAt.same (h : TabAt w T ns cnt byt) (hb : w'.heap[T]? = w.heap[T]?) : TabAt w' T ns cnt byt := let ⟨cs, h1, h2⟩ := h; ⟨cs, h1.same hb, h2⟩
theorem NodeAt.same {n : Nd} {r : List Nd} {cs : Array Value} (h : NodeAt w n r cs) (hb : w'.heap[n.blk]? = w.heap[n.blk]?) : NodeAt w' n r cs := { h with blk := h.blk.same hb }
theorem Chain.same : ∀ {ns : List Nd}, Chain w ns → (∀ n ∈ ns, w'.heap[n.blk]? = w.heap[n.blk]?) → Chain w' ns
  | [], _, _ => trivial
  | n :: r, h, hb => ⟨let ⟨cs, h1⟩ := h.1; ⟨cs, h1.same (hb n (by simp))⟩, h.2.same fun m hm => hb m (by simp [hm])⟩
theorem Chain.lt : ∀ {ns : List Nd}, Chain w ns → ∀ n ∈ ns, n.blk < w.heap.size
  | [], _, n, hn => by cases hn
  | m :: r, h, n, hn => by
    rcases List.mem_cons.1 hn with rfl | hn
    · obtain ⟨cs, h1⟩ := h.1; exact h1.blk.lt
    · exact Chain.lt h.2 n hn
theorem Rep.lt (h : Rep w T ns cnt byt) : T < w.heap.size := let ⟨⟨_, h1, _⟩, _, _⟩ := h; h1.lt
theorem Rep.below (h : Rep w T ns cnt byt) (hb : Below w.heap.size w w') : Rep w' T ns cnt byt :=
  ⟨h.tab.same (hb.block T h.lt), h.chain.same fun n hn => hb.block _ (h.chain.lt n hn), h.sorted⟩
/-- Where the descent stands: behind all of a, on a node that is at least so high. -/
def Pos (T : Nat) (a : List Nd) (l c : Nat) : Prop := (a = [] ∧ c = T) ∨ ∃ a' m, a = a' ++ [m] ∧ c = m.blk ∧ l ≤ m.h
theorem Pos.low (h : Pos T a (l + 1) c) : Pos T a l c := h.imp id fun ⟨a', m, h1, h2, h3⟩ => ⟨a', m, h1, h2, by omega⟩
theorem Rep.nextCell (h : Rep w T ns cnt byt) (hn : ns = a ++ b) (hp : Pos T a (l + 1) c) (hl : l < 12) : w.cell? ⟨c, 5 + l, none⟩ = some (ptr (nextAt b l)) := by
  subst hn
  rcases hp with ⟨rfl, rfl⟩ | ⟨a', m, rfl, rfl, hm⟩
  · obtain ⟨cs, h1, _, h2, _⟩ := h.tab
    exact (h1.cell _).trans (h2 l hl)
  · obtain ⟨cs, h1⟩ := Chain.at_ (a := a') (n := m) (r := b) (by have := h.chain; simpa using this)
    exact (h1.blk.cell _).trans (h1.next l (by omega))
theorem Pos.pred (hp : Pos T a (l + 1) c) {b1 : List Nd} (hb : ∀ x ∈ b1, ¬ l < x.h) : predAt T (a ++ b1) l = c := by
  rcases hp with ⟨rfl, rfl⟩ | ⟨a', m, rfl, rfl, hm⟩
  · exact predAt_head hb
  · rw [List.append_assoc]
    exact predAt_last (by omega) hb
theorem pre_behind {k : List UInt8} {q : Int} (ha : ∀ n ∈ a, bef n.e k q) : pre (a ++ b) k q = a ++ pre b k q := by
  unfold pre
  rw [List.takeWhile_append_of_pos fun n hn => by simpa using ha n hn]
theorem pre_sub {k : List UInt8} {q : Int} : ∀ {b1 : List Nd} {n : Nd} {b2 : List Nd}, ¬ bef n.e k q → ∀ x ∈ pre (b1 ++ n :: b2) k q, x ∈ b1
  | [], n, b2, hn, x, hx => by
    unfold pre at hx
    rw [List.nil_append, List.takeWhile_cons_of_neg (by simpa using hn)] at hx
    exact hx
  | m :: b1, n, b2, hn, x, hx => by
    unfold pre at hx
    by_cases hm : bef m.e k q
    · rw [List.cons_append, List.takeWhile_cons_of_pos (by simpa using hm)] at hx
      rcases List.mem_cons.1 hx with rfl | hx
      · simp
      · exact List.mem_cons_of_mem _ (pre_sub (b1 := b1) (b2 := b2) hn x hx)
    · rw [List.cons_append, List.takeWhile_cons_of_neg (by simpa using hm)] at hx
      cases hx
end
/-- The array of the last nodes, from level g on. -/
def PathAt (w : World) (P T : Nat) (pr : List Nd) (g : Nat) : Prop := ∃ cs : Array Value, Blk w P 50 cs ∧ cs.size = 12 ∧ ∀ l, g ≤ l → l < 12 → cs[l]? = some (.pointer (some ⟨predAt T pr l, 0, none⟩))
theorem PathAt.set {w : World} {P T g : Nat} {pr : List Nd} (h : PathAt w P T pr (g + 1)) (hg : g < 12) {c : Nat} (hc : predAt T pr g = c) : PathAt (w.setCell ⟨P, g, none⟩ (.pointer (some ⟨c, 0, none⟩))) P T pr g := by
  obtain ⟨cs, h1, h2, h3⟩ := h
  refine ⟨_, h1.set g _, by simp [h2], fun l hl hl2 => ?_⟩
  rcases Nat.lt_or_ge g l with h4 | h4
  · rw [Array.getElem?_setIfInBounds_ne (by omega)]; exact h3 l h4 hl2
  · obtain rfl : l = g := by omega
    rw [Array.getElem?_setIfInBounds_self_of_lt (by omega), hc]
theorem PathAt.cell {w : World} {P T g : Nat} {pr : List Nd} (h : PathAt w P T pr g) (l : Nat) (hl : l < 12) : (∃ u, w.cell? ⟨P, l, none⟩ = some u) ∧ w.frozen? ⟨P, l, none⟩ = false := by
  obtain ⟨cs, h1, h2, h3⟩ := h
  exact ⟨⟨cs[l], (h1.cell l).trans (Array.getElem?_eq_getElem _)⟩, h1.frozen l⟩
theorem below_set {B : Nat} {w w' : World} (h : Below B w w') {p : Addr} (hp : B ≤ p.block) (u : Value) : Below B w (w'.setCell p u) :=
  ⟨h.os, h.tape, h.output, by simpa [World.setCell] using h.size, fun k hk => (Below.heap_setCell _ _ _ _ (by omega)).trans (h.block k hk)⟩
theorem bel12 {B g : Nat} {w w' : World} (h : Below B w w') (hg : B ≤ g) (u0 u1 u2 u3 u4 u5 u6 u7 u8 u9 u10 u11 : Value) :
    Below B w ((((((((((((w'.setCell ⟨g, 0, none⟩ u0).setCell ⟨g, 1, none⟩ u1).setCell ⟨g, 2, none⟩ u2).setCell ⟨g, 3, none⟩ u3).setCell ⟨g, 4, none⟩ u4).setCell ⟨g, 5, none⟩ u5).setCell ⟨g, 6, none⟩ u6).setCell ⟨g, 7, none⟩ u7).setCell ⟨g, 8, none⟩ u8).setCell ⟨g, 9, none⟩ u9).setCell ⟨g, 10, none⟩ u10).setCell ⟨g, 11, none⟩ u11) :=
  below_set (below_set (below_set (below_set (below_set (below_set (below_set (below_set (below_set (below_set (below_set (below_set h hg _) hg _) hg _) hg _) hg _) hg _) hg _) hg _) hg _) hg _) hg _) hg _
theorem infoArr : (Try.prog.info? 50).map (·.size) = some 12 := by kernel_rfl
theorem set12 {w : World} {g : Nat} {t : TypeId} {a0 a1 a2 a3 a4 a5 a6 a7 a8 a9 a10 a11 : Value} (h : Blk w g t #[a0, a1, a2, a3, a4, a5, a6, a7, a8, a9, a10, a11]) (u0 u1 u2 u3 u4 u5 u6 u7 u8 u9 u10 u11 : Value) : Blk ((((((((((((w.setCell ⟨g, 0, none⟩ u0).setCell ⟨g, 1, none⟩ u1).setCell ⟨g, 2, none⟩ u2).setCell ⟨g, 3, none⟩ u3).setCell ⟨g, 4, none⟩ u4).setCell ⟨g, 5, none⟩ u5).setCell ⟨g, 6, none⟩ u6).setCell ⟨g, 7, none⟩ u7).setCell ⟨g, 8, none⟩ u8).setCell ⟨g, 9, none⟩ u9).setCell ⟨g, 10, none⟩ u10).setCell ⟨g, 11, none⟩ u11) g t #[u0, u1, u2, u3, u4, u5, u6, u7, u8, u9, u10, u11] := by
  have := (((((((((((h.set 0 u0).set 1 u1).set 2 u2).set 3 u3).set 4 u4).set 5 u5).set 6 u6).set 7 u7).set 8 u8).set 9 u9).set 10 u10).set 11 u11
  simpa using this
/-- What the descent has. -/
structure PtAt (w : World) (T : Nat) (ns : List Nd) (cnt byt : Int) (k : List UInt8) (q : Int) (R P g c : Nat) (a b : List Nd) (wx : World) : Prop where
  rep : Rep wx T ns cnt byt
  split : ns = a ++ b
  ahead : ∀ n ∈ a, bef n.e k q
  pos : Pos T a g c
  path : PathAt wx P T (pre ns k q) g
  res : Blk wx R 50 #[.pointer none, .pointer none, .pointer none, .pointer none, .pointer none, .pointer none, .pointer none, .pointer none, .pointer none, .pointer none, .pointer none, .pointer none]
  bel : Below w.heap.size w wx
  new : w.heap.size ≤ P ∧ P ≠ R
section
variable {w wx : World} {T : Nat} {ns a b : List Nd} {cnt byt : Int} {k : List UInt8} {q : Int} {R P g c : Nat}
theorem pre_mem {x : Nd} (hx : x ∈ pre b k q) : x ∈ b := (List.takeWhile_sublist _).subset hx
theorem PtAt.below {wy : World} (h : PtAt w T ns cnt byt k q R P g c a b wx) (hb : Below wx.heap.size wx wy) : PtAt w T ns cnt byt k q R P g c a b wy := by
  obtain ⟨cs, h1, h2, h3⟩ := h.path
  exact { h with rep := h.rep.below hb, path := ⟨cs, h1.same (hb.block _ h1.lt), h2, h3⟩, res := h.res.same (hb.block _ h.res.lt), bel := h.bel.trans (hb.mono h.bel.size) }
theorem PtAt.lt (h : PtAt w T ns cnt byt k q R P g c a b wx) : P < wx.heap.size := let ⟨_, h1, _⟩ := h.path; h1.lt
/-- The level is done. -/
theorem PtAt.stop (h : PtAt w T ns cnt byt k q R P (g + 1) c a b wx) (hg : g < 12) (hb : ∀ x ∈ pre b k q, ¬ g < x.h) : PtAt w T ns cnt byt k q R P g c a b (wx.setCell ⟨P, g, none⟩ (.pointer (some ⟨c, 0, none⟩))) := by
  have hm : Mod (fun j => j = P) wx (wx.setCell ⟨P, g, none⟩ (.pointer (some ⟨c, 0, none⟩))) := (Mod.refl (fun j => j = P) wx).setCell (p := ⟨P, g, none⟩) (fun _ => rfl) _
  obtain ⟨hn1, hn2⟩ := h.new
  obtain ⟨cs, hP, _⟩ := h.path
  have hT : T ≠ P := by
    obtain ⟨cT, h1, _⟩ := h.rep.tab
    exact Blk.ne h1 hP (by decide)
  have hN : ∀ n ∈ ns, n.blk ≠ P := fun n hn => by
    obtain ⟨a', r, hs⟩ := List.append_of_mem hn
    have hch := h.rep.chain
    rw [hs] at hch
    obtain ⟨cn, h1⟩ := Chain.at_ hch
    exact Blk.ne h1.blk hP (by decide)
  refine ⟨⟨h.rep.tab.same (hm.block T h.rep.lt hT), h.rep.chain.same fun n hn => hm.block _ (h.rep.chain.lt n hn) (hN n hn), h.rep.sorted⟩, h.split, h.ahead, h.pos.low, h.path.set hg ?_, h.res.same (hm.block R h.res.lt fun e => hn2 e.symm), h.bel.trans (hm.to_below (fun j e => by subst e; exact hn1) h.bel.size), h.new⟩
  rw [h.split, pre_behind h.ahead]
  exact h.pos.pred hb
/-- One node further. -/
theorem PtAt.move {b1 b2 : List Nd} {m : Nd} (h : PtAt w T ns cnt byt k q R P (g + 1) c a (b1 ++ m :: b2) wx) (_ : ∀ x ∈ b1, ¬ g < x.h) (hm : g < m.h) (hb : bef m.e k q) : PtAt w T ns cnt byt k q R P (g + 1) m.blk (a ++ b1 ++ [m]) b2 wx := by
  have hs := h.rep.sorted
  rw [h.split, ← List.append_assoc] at hs
  refine { h with split := by rw [h.split]; simp, ahead := fun n hn => ?_, pos := .inr ⟨a ++ b1, m, rfl, rfl, hm⟩ }
  rcases List.mem_append.1 hn with hn | hn
  · exact bef_trans (hs.mid.1 n hn) hb
  · obtain rfl := List.mem_singleton.1 hn; exact hb
end
set_option maxHeartbeats 3200000 in
set_option maxRecDepth 100000 in
theorem path_any {w : World} {T : Nat} {ns : List Nd} {cnt byt : Int} (h : Rep w T ns cnt byt) (k : ByteArray) (q : Int) :
    Calls Try.prog 23 #[.pointer (some ⟨T, 0, none⟩), .string k, .int .i64 q] w fun e w' => ∃ ps : Array Value, e = .returned (.agg ps) ∧ ps.size = 12 ∧ (∀ l, l < 12 → ps[l]? = some (.pointer (some ⟨predAt T (pre ns k.toList q) l, 0, none⟩))) ∧ Below w.heap.size w w' := by
  have H := Lib.hid h
  clear h
  have hb0 : Below w.heap.size w ((w.alloc (.cells #[.pointer none, .pointer none, .pointer none, .pointer none, .pointer none, .pointer none, .pointer none, .pointer none, .pointer none, .pointer none, .pointer none, .pointer none] 50)).alloc (.cells #[.pointer none, .pointer none, .pointer none, .pointer none, .pointer none, .pointer none, .pointer none, .pointer none, .pointer none, .pointer none, .pointer none, .pointer none] 50)) := ((Below.refl _ _).alloc (Nat.le_refl _) _).alloc (by simp) _
  have h0 : PtAt w T ns cnt byt k.toList q w.heap.size (w.heap.size + 1) 12 T [] ns ((w.alloc (.cells #[.pointer none, .pointer none, .pointer none, .pointer none, .pointer none, .pointer none, .pointer none, .pointer none, .pointer none, .pointer none, .pointer none, .pointer none] 50)).alloc (.cells #[.pointer none, .pointer none, .pointer none, .pointer none, .pointer none, .pointer none, .pointer none, .pointer none, .pointer none, .pointer none, .pointer none, .pointer none] 50)) :=
    ⟨H.out.below hb0, rfl, fun n hn => absurd hn (by simp), .inl ⟨rfl, rfl⟩, ⟨_, by have := Blk.new (w.alloc (.cells #[.pointer none, .pointer none, .pointer none, .pointer none, .pointer none, .pointer none, .pointer none, .pointer none, .pointer none, .pointer none, .pointer none, .pointer none] 50)) 50 #[.pointer none, .pointer none, .pointer none, .pointer none, .pointer none, .pointer none, .pointer none, .pointer none, .pointer none, .pointer none, .pointer none, .pointer none]; rw [World.size_alloc] at this; exact this, rfl, fun l hl hl2 => by omega⟩,
      (Blk.new w _ _).alloc _, hb0, ⟨by omega, by omega⟩⟩
  have H0 := Lib.hid h0
  clear h0 hb0
  go_enter Try.func23, Try.ntmps23
  go_wp2
  go_step3
  go_wp2
  go_step3
  go_wp2
  go_loopg [8, 9] 12 (fun g s8 s9 wx => ∃ (z : Int) (c : Nat) (a b : List Nd), g ≤ 12 ∧ s8 = .pointer (some ⟨c, 0, none⟩) ∧ s9 = .int .i64 z ∧ Hid (z = (g : Int) - 1) ∧ Hid (PtAt w T ns cnt byt k.toList q w.heap.size (w.heap.size + 1) g c a b wx))
  case atStart => exact ⟨11, T, [], ns, by omega, rfl, rfl, (show (11 : Int) = ((12 : Nat) : Int) - 1 by omega), H0.out⟩
  case round =>
    clear H0
    obtain ⟨z, c, a, b, hg12, rfl, rfl, HZ, HP⟩ := hrel
    cases gk with
    | zero =>
      obtain rfl : z = -1 := by have := HZ.out; omega
      obtain ⟨P, hP⟩ : ∃ P, P = w.heap.size + 1 := ⟨_, rfl⟩
      rw [← hP] at HP
      obtain ⟨pr, hpr⟩ : ∃ pr, pr = pre ns k.toList q := ⟨_, rfl⟩
      obtain ⟨cs, hc1, hc2, hc3⟩ := HP.out.path
      have hres := HP.out.res
      rw [← hpr] at hc3
      obtain ⟨p0, hp0⟩ : ∃ p, p = predAt T pr 0 := ⟨_, rfl⟩
      have c0 := (hc1.cell 0).trans (hc3 0 (by omega) (by omega))
      have r0 : wr.cell? ⟨w.heap.size, 0, none⟩ = some (.pointer none) := hres.cell 0
      have f0 : wr.frozen? ⟨w.heap.size, 0, none⟩ = false := hres.frozen 0
      rw [← hp0] at c0
      obtain ⟨p1, hp1⟩ : ∃ p, p = predAt T pr 1 := ⟨_, rfl⟩
      have c1 := (hc1.cell 1).trans (hc3 1 (by omega) (by omega))
      have r1 : wr.cell? ⟨w.heap.size, 1, none⟩ = some (.pointer none) := hres.cell 1
      have f1 : wr.frozen? ⟨w.heap.size, 1, none⟩ = false := hres.frozen 1
      rw [← hp1] at c1
      obtain ⟨p2, hp2⟩ : ∃ p, p = predAt T pr 2 := ⟨_, rfl⟩
      have c2 := (hc1.cell 2).trans (hc3 2 (by omega) (by omega))
      have r2 : wr.cell? ⟨w.heap.size, 2, none⟩ = some (.pointer none) := hres.cell 2
      have f2 : wr.frozen? ⟨w.heap.size, 2, none⟩ = false := hres.frozen 2
      rw [← hp2] at c2
      obtain ⟨p3, hp3⟩ : ∃ p, p = predAt T pr 3 := ⟨_, rfl⟩
      have c3 := (hc1.cell 3).trans (hc3 3 (by omega) (by omega))
      have r3 : wr.cell? ⟨w.heap.size, 3, none⟩ = some (.pointer none) := hres.cell 3
      have f3 : wr.frozen? ⟨w.heap.size, 3, none⟩ = false := hres.frozen 3
      rw [← hp3] at c3
      obtain ⟨p4, hp4⟩ : ∃ p, p = predAt T pr 4 := ⟨_, rfl⟩
      have c4 := (hc1.cell 4).trans (hc3 4 (by omega) (by omega))
      have r4 : wr.cell? ⟨w.heap.size, 4, none⟩ = some (.pointer none) := hres.cell 4
      have f4 : wr.frozen? ⟨w.heap.size, 4, none⟩ = false := hres.frozen 4
      rw [← hp4] at c4
      obtain ⟨p5, hp5⟩ : ∃ p, p = predAt T pr 5 := ⟨_, rfl⟩
      have c5 := (hc1.cell 5).trans (hc3 5 (by omega) (by omega))
      have r5 : wr.cell? ⟨w.heap.size, 5, none⟩ = some (.pointer none) := hres.cell 5
      have f5 : wr.frozen? ⟨w.heap.size, 5, none⟩ = false := hres.frozen 5
      rw [← hp5] at c5
      obtain ⟨p6, hp6⟩ : ∃ p, p = predAt T pr 6 := ⟨_, rfl⟩
      have c6 := (hc1.cell 6).trans (hc3 6 (by omega) (by omega))
      have r6 : wr.cell? ⟨w.heap.size, 6, none⟩ = some (.pointer none) := hres.cell 6
      have f6 : wr.frozen? ⟨w.heap.size, 6, none⟩ = false := hres.frozen 6
      rw [← hp6] at c6
      obtain ⟨p7, hp7⟩ : ∃ p, p = predAt T pr 7 := ⟨_, rfl⟩
      have c7 := (hc1.cell 7).trans (hc3 7 (by omega) (by omega))
      have r7 : wr.cell? ⟨w.heap.size, 7, none⟩ = some (.pointer none) := hres.cell 7
      have f7 : wr.frozen? ⟨w.heap.size, 7, none⟩ = false := hres.frozen 7
      rw [← hp7] at c7
      obtain ⟨p8, hp8⟩ : ∃ p, p = predAt T pr 8 := ⟨_, rfl⟩
      have c8 := (hc1.cell 8).trans (hc3 8 (by omega) (by omega))
      have r8 : wr.cell? ⟨w.heap.size, 8, none⟩ = some (.pointer none) := hres.cell 8
      have f8 : wr.frozen? ⟨w.heap.size, 8, none⟩ = false := hres.frozen 8
      rw [← hp8] at c8
      obtain ⟨p9, hp9⟩ : ∃ p, p = predAt T pr 9 := ⟨_, rfl⟩
      have c9 := (hc1.cell 9).trans (hc3 9 (by omega) (by omega))
      have r9 : wr.cell? ⟨w.heap.size, 9, none⟩ = some (.pointer none) := hres.cell 9
      have f9 : wr.frozen? ⟨w.heap.size, 9, none⟩ = false := hres.frozen 9
      rw [← hp9] at c9
      obtain ⟨p10, hp10⟩ : ∃ p, p = predAt T pr 10 := ⟨_, rfl⟩
      have c10 := (hc1.cell 10).trans (hc3 10 (by omega) (by omega))
      have r10 : wr.cell? ⟨w.heap.size, 10, none⟩ = some (.pointer none) := hres.cell 10
      have f10 : wr.frozen? ⟨w.heap.size, 10, none⟩ = false := hres.frozen 10
      rw [← hp10] at c10
      obtain ⟨p11, hp11⟩ : ∃ p, p = predAt T pr 11 := ⟨_, rfl⟩
      have c11 := (hc1.cell 11).trans (hc3 11 (by omega) (by omega))
      have r11 : wr.cell? ⟨w.heap.size, 11, none⟩ = some (.pointer none) := hres.cell 11
      have f11 : wr.frozen? ⟨w.heap.size, 11, none⟩ = false := hres.frozen 11
      rw [← hp11] at c11
      have HPS := Lib.hid (show ∀ l, l < 12 → (#[.pointer (some ⟨p0, 0, none⟩), .pointer (some ⟨p1, 0, none⟩), .pointer (some ⟨p2, 0, none⟩), .pointer (some ⟨p3, 0, none⟩), .pointer (some ⟨p4, 0, none⟩), .pointer (some ⟨p5, 0, none⟩), .pointer (some ⟨p6, 0, none⟩), .pointer (some ⟨p7, 0, none⟩), .pointer (some ⟨p8, 0, none⟩), .pointer (some ⟨p9, 0, none⟩), .pointer (some ⟨p10, 0, none⟩), .pointer (some ⟨p11, 0, none⟩)] : Array Value)[l]? = some (.pointer (some ⟨predAt T (pre ns k.toList q) l, 0, none⟩)) from by
        rw [← hpr]
        intro l hl
        match l, hl with
        | 0, _ => rw [← hp0]; rfl
        | 1, _ => rw [← hp1]; rfl
        | 2, _ => rw [← hp2]; rfl
        | 3, _ => rw [← hp3]; rfl
        | 4, _ => rw [← hp4]; rfl
        | 5, _ => rw [← hp5]; rfl
        | 6, _ => rw [← hp6]; rfl
        | 7, _ => rw [← hp7]; rfl
        | 8, _ => rw [← hp8]; rfl
        | 9, _ => rw [← hp9]; rfl
        | 10, _ => rw [← hp10]; rfl
        | 11, _ => rw [← hp11]; rfl
      )
      have HB := Lib.hid HP.out.bel
      have HRES := Lib.hid hres
      clear hc1 hc2 hc3 hres hpr hp0 hp1 hp2 hp3 hp4 hp5 hp6 hp7 hp8 hp9 hp10 hp11
      rw [hP] at *
      go_wp2
      (try simp only [Exit.inBlock, Exit.then])
      refine bodyPost_ret (results_cell_row rfl _ _ w.heap.size 50 #[.pointer (some ⟨p0, 0, none⟩), .pointer (some ⟨p1, 0, none⟩), .pointer (some ⟨p2, 0, none⟩), .pointer (some ⟨p3, 0, none⟩), .pointer (some ⟨p4, 0, none⟩), .pointer (some ⟨p5, 0, none⟩), .pointer (some ⟨p6, 0, none⟩), .pointer (some ⟨p7, 0, none⟩), .pointer (some ⟨p8, 0, none⟩), .pointer (some ⟨p9, 0, none⟩), .pointer (some ⟨p10, 0, none⟩), .pointer (some ⟨p11, 0, none⟩)] (0, 0) _ rfl (set12 HRES.out _ _ _ _ _ _ _ _ _ _ _ _) Try.underlying50 rfl infoArr) rfl ⟨_, rfl, rfl, HPS.out, bel12 HB.out (Nat.le_refl _) _ _ _ _ _ _ _ _ _ _ _ _⟩
    | succ g =>
      obtain rfl : z = (g : Int) := by have := HZ.out; omega
      have hg1 : (0 : Int) ≤ (g : Int) := by omega
      have hg2 : (g : Int) < 12 := by omega
      have hg3 : g < 12 := by omega
      go_wp2
      go_loopg [8] b.length (fun h s8 wx => ∃ (c : Nat) (a b : List Nd), b.length ≤ h ∧ s8 = .pointer (some ⟨c, 0, none⟩) ∧ Hid (PtAt w T ns cnt byt k.toList q w.heap.size (w.heap.size + 1) (g + 1) c a b wx))
      case atStart => exact ⟨c, a, b, Nat.le_refl _, rfl, HP.out⟩
      case round =>
        clear HP
        obtain ⟨c, a, b, hbl, rfl, HP⟩ := hrel
        obtain ⟨⟨up, qp⟩, fp⟩ := HP.out.path.cell g hg3
        have hcell := HP.out.rep.nextCell HP.out.split HP.out.pos hg3
        cases hn : nextAt b g with
        | none =>
          rw [hn] at hcell
          have qn : wr.cell? ⟨c, 5 + g, none⟩ = some (.pointer none) := hcell
          have HS := Lib.hid (PtAt.stop HP.out hg3 (fun x hx => nextAt_none hn x (pre_mem hx)))
          clear hcell hn
          go_wp2
          go_roundg g
          case rel => exact ⟨(g : Int) - 1, c, a, b, by omega, rfl, rfl, (rfl : (g : Int) - 1 = (g : Int) - 1), HS.out⟩
          case measure => exact Nat.lt_succ_self _
        | some d =>
          rw [hn] at hcell
          have qn : wr.cell? ⟨c, 5 + g, none⟩ = some (.pointer (some ⟨d, 0, none⟩)) := hcell
          obtain ⟨b1, m, b2, hb, hb1, hm, hmd⟩ := nextAt_some hn
          subst hb hmd
          obtain ⟨cs, hnode⟩ := Chain.at_ (a := a ++ b1) (n := m) (r := b2) (by have := HP.out.rep.chain; rw [HP.out.split] at this; simpa using this)
          have hib := isBefore_any hnode k q
          have HSP := Lib.hid hb1
          clear hcell hn hnode hb1
          by_cases hbf : bef m.e k.toList q
          · rw [decide_eq_true hbf] at hib
            have HIB := Lib.hid hib
            clear hib
            cases gk with
            | zero => simp at hbl
            | succ h =>
              go_wp2_with (go_at_call 27; refine HIB.out.mono ?_; rintro e w2 ⟨rfl, hb2⟩; have HM := Lib.hid (PtAt.move (HP.out.below hb2) HSP.out hm hbf); clear hb2)
              go_roundg h
              case rel => exact ⟨m.blk, a ++ b1 ++ [m], b2, by simp at hbl; omega, rfl, HM.out⟩
              case measure => exact Nat.lt_succ_self _
          · rw [decide_eq_false hbf] at hib
            have HIB := Lib.hid hib
            clear hib
            go_wp2_with (go_at_call 27; refine HIB.out.mono ?_; rintro e w2 ⟨rfl, hb2⟩; have hp2 := HP.out.below hb2; obtain ⟨⟨u2, q2⟩, f2⟩ := hp2.path.cell g hg3; have HS := Lib.hid (PtAt.stop hp2 hg3 (fun x hx => HSP.out x (pre_sub hbf x hx))); clear hb2 hp2)
            go_roundg g
            case rel => exact ⟨(g : Int) - 1, c, a, b1 ++ m :: b2, by omega, rfl, rfl, (rfl : (g : Int) - 1 = (g : Int) - 1), HS.out⟩
            case measure => exact Nat.lt_succ_self _

end Mm
end Go.Proofs.Ytfnfjhfmhinkcaa
