/-
  WHAT IS PROVED: what slices.AppendSeq leaves of a row of entries and From's iterator. CONDITIONS: the row, the nodes and the iterator's boxes stand in memory as named.
-/
import Derived.Test.YtfnfjhfmhinkcaaMIter
namespace Go.Proofs.Ytfnfjhfmhinkcaa
open Go Go.RowKit Go.Shelf Go.Maps Go.Sort Go.Proofs.Ytfnfjhfmhinkcaa.Fr
attribute [local go_sem] Oper.semAt_some
namespace Mm
theorem blk_kept {W W' : World} {row : Option Nat} {g : Nat} {t : TypeId} {cs : Array Value} (h : Blk W g t cs) (hg : W.grownBy W' row) (hr : ∀ r, row = some r → ∃ o : Obj, W.heap[r]? = some o ∧ o.isCells = false) : Blk W' g t cs := by
  refine h.same (hg.block _ h.lt fun e => ?_)
  obtain ⟨o, ho, hc⟩ := hr _ e.symm
  rw [show W.heap[g]? = _ from h] at ho
  cases ho
  cases hc
theorem own_kept {W W' : World} {row : Option Nat} {base : Nat} {e : TypeId} {size n : Nat} {v : Value} {xs : List Value} (h : W.ownsRow base e size v n xs) (hg : W.grownBy W' row) (hr : ∀ r, row = some r → ∃ o : Obj, W.heap[r]? = some o ∧ o.isCells = false) : W'.ownsRow base e size v n xs :=
  own_same h fun k hk => by
    obtain ⟨cur, hb⟩ := own_blk h hk
    exact (blk_kept hb hg hr).trans hb.symm
theorem ev_len (l : List En) : (ev l).length = l.length * 4 := by
  induction l with
  | nil => rfl
  | cons a r ih => rw [show ev (a :: r) = ecells a ++ ev r by simp [ev], List.length_append, ih, List.length_cons]; simp [ecells]; omega
theorem FrAt.typed {W : World} {b1 b2 : Nat} {ns : List Nd} {cnt : Int} (h : FrAt W b1 b2 ns cnt) : ∀ b, FrS b1 b2 ns b → ∃ t cs, Blk W b t cs ∧ t ≠ 30 := fun b hb => by
  rcases hb with rfl | rfl | ⟨n, hn, rfl⟩
  · exact ⟨_, _, h.one, by decide⟩
  · exact ⟨_, _, h.two, by decide⟩
  · obtain ⟨a, r, e2⟩ := List.append_of_mem hn
    obtain ⟨cN, hN⟩ := Chain.at_ (a := a) (n := n) (r := r) (by have := h.chain; rw [e2] at this; exact this)
    exact ⟨_, _, hN.blk, by decide⟩
/-- Between two rounds of AppendSeq: the box, the row, the iterator's memory. -/
structure SqI (base : Nat) (W0 : World) (b1 b2 : Nat) (ns : List Nd) (cnt : Int) (pre : List En) (W : World) : Prop where
  box : ∃ v, Blk W W0.heap.size 26 #[v] ∧ W.ownsRow base 30 4 v pre.length (ev pre)
  bel : Below base W0 W
  fr : FrAt W b1 b2 ns cnt
  lt : ∀ b, FrS b1 b2 ns b → b < W0.heap.size
section
variable {base b1 b2 : Nat} {W0 W W' : World} {ns : List Nd} {cnt : Int} {pre : List En}
theorem SqI.own {B : Nat} (hb : base ≤ W0.heap.size) (hB : W0.heap.size ≤ B) : OwnFrom B (SqI base W0 b1 b2 ns cnt) := fun s W W' row h hg hr => by
  obtain ⟨v, h1, h2⟩ := h.box
  refine ⟨⟨v, blk_kept h1 hg fun r e => (hr r e).2, own_kept h2 hg fun r e => (hr r e).2⟩, h.bel.grown hg (Nat.le_trans hb h.bel.size) fun k e => by have := (hr k e).1; omega, h.fr.same fun b hS => ?_, h.lt⟩
  have := h.lt b hS
  exact hg.block b (h.fr.lt b hS) fun e => by have := (hr b e.symm).1; omega
theorem SqI.alloc (h : SqI base W0 b1 b2 ns cnt pre W) (hb : base ≤ W0.heap.size) (o : Obj) : SqI base W0 b1 b2 ns cnt pre (W.alloc o) := by
  obtain ⟨v, h1, h2⟩ := h.box
  exact ⟨⟨v, h1.alloc o, h2.alloc o⟩, h.bel.alloc (Nat.le_trans hb h.bel.size) o, h.fr.same fun b hS => Below.heap_alloc W o b (h.fr.lt b hS), h.lt⟩
/-- One round: the row has grown, its box is filled anew. -/
theorem SqI.step {v v' : Value} {w3 : World} {o : Obj} {x : En} (h : SqI base W0 b1 b2 ns cnt pre W) (hb : base ≤ W0.heap.size) (hbox : Blk W W0.heap.size 26 #[v]) (hrow : W.ownsRow base 30 4 v pre.length (ev pre)) (ho : w3.ownsRow base 30 4 v' (pre.length + 1) (ev pre ++ ecells x)) (hg : (W.alloc o).grownBy w3 v.ownBlock) :
    KeepsOthers W (w3.setCell ⟨W0.heap.size, 0, none⟩ v') ∧ KpS (FrS b1 b2 ns) W (w3.setCell ⟨W0.heap.size, 0, none⟩ v') ∧ SqI base W0 b1 b2 ns cnt (pre ++ [x]) (w3.setCell ⟨W0.heap.size, 0, none⟩ v') := by
  have hs := h.bel.size
  have hb3 : Below base W w3 := ((Below.refl _ W).alloc (Nat.le_trans hb hs) o).grown hg (by simp; omega) fun k e => own_rowN hrow k e
  have hko : KeepsOthers W w3 := (KeepsOthers.alloc W o).trans (KeepsOthers.of_grownBy hg fun j ob hj hob => by
    obtain ⟨_, hbl⟩ := own_blk hrow hj
    rw [(hbl.alloc o : Blk (W.alloc o) _ _ _)] at hob
    cases hob
    rfl)
  have hk : KpS (FrS b1 b2 ns) W (w3.setCell ⟨W0.heap.size, 0, none⟩ v') := fun b hS => by
    have h0 := h.lt b hS
    have h1 := h.fr.lt b hS
    obtain ⟨t, cs, h2, h3⟩ := h.fr.typed b hS
    refine (Below.heap_setCell _ _ _ _ (by show b ≠ W0.heap.size; omega)).trans ((hg.block b (by simp; omega) fun e => ?_).trans (Below.heap_alloc W o b h1))
    rcases own_ne_b hrow h2 h3 with h4 | h4
    · rw [h4] at e; cases e
    · exact h4 e.symm
  have hv3 : Blk w3 W0.heap.size 26 #[v] := (hbox.alloc o).same (hg.block _ (by have := hbox.lt; simp; omega) fun e => by
    rcases own_ne_b hrow hbox (by decide) with h4 | h4
    · rw [h4] at e; cases e
    · exact h4 e.symm)
  refine ⟨hko.trans (KeepsOthers.setCell _ _ _), hk, ⟨v', hv3.set 0 v', ?_⟩, (h.bel.trans hb3).setCell (p := ⟨W0.heap.size, 0, none⟩) hb _, h.fr.same hk, h.lt⟩
  rw [ev_snoc, List.length_append, List.length_singleton]
  refine own_same ho fun k hk => Below.heap_setCell _ _ _ _ fun e => ?_
  rcases own_ne_b ho hv3 (by decide) with h4 | h4
  · rw [h4] at hk; cases hk
  · rw [hk] at h4; exact h4 (by rw [e])
end
theorem box_after {W w3 : World} {v : Value} {g base k : Nat} {xs : List Value} {o : Obj} (hrow : W.ownsRow base 30 4 v k xs) (hv : Blk W g 26 #[v]) (hg : (W.alloc o).grownBy w3 v.ownBlock) : w3.cell? ⟨g, 0, none⟩ = some v ∧ w3.frozen? ⟨g, 0, none⟩ = false := by
  have h : Blk w3 g 26 #[v] := (hv.alloc o).same (hg.block _ (by have := hv.lt; simp; omega) fun e => by
    rcases own_ne_b hrow hv (by decide) with h | h
    · rw [h] at e; cases e
    · exact h e.symm)
  exact ⟨h.cell 0, h.frozen 0⟩
section
variable {base b1 b2 : Nat} {W0 : World} {ns : List Nd} {cnt : Int} {A0 : Option Addr} {c0 : Nat}
set_option maxRecDepth 100000 in
set_option maxHeartbeats 2000000 in
theorem appSeq_in (hrow : W0.ownsRow base 30 4 (.slice A0 0 c0) 0 []) (hF : FrAt W0 b1 b2 ns cnt) (hbase : base ≤ W0.heap.size) (hl : ns.length ≤ 100000) (hnd : (ns.map (·.blk)).Nodup) (hgood : Good ns) :
    CallsIn Fence.wide 3 Try.prog 21 #[.slice A0 0 c0, .func (.func 20) #[] #[.pointer (some ⟨b1, 0, none⟩), .pointer (some ⟨b2, 0, none⟩)]] W0 fun e w' => ∃ v, e = .returned v ∧ w'.ownsRow base 30 4 v (olds ns cnt).length (ev (olds ns cnt)) ∧ Below base W0 w' := by
  obtain ⟨ie, hie, hiz, hiz1, hiz2⟩ := info_parts info_entry
  refine callsIn_of_wp_marks Try.func21 rfl trivial ?_ rfl
  simp only [Try.ntmps21, List.size_toArray, List.length_cons, List.length_nil, Nat.reduceAdd, Nat.reduceSub, Array.replicate_succ, Array.replicate_zero, List.push_toArray, List.append_toArray, List.nil_append, List.cons_append]
  have hlt := hF.lt
  gi_wp2
  have hI0 : SqI base W0 b1 b2 ns cnt [] (W0.alloc (.cells #[.slice A0 0 c0] 26)) := ⟨⟨_, Blk.new _ _ _, hrow.alloc _⟩, (Below.refl _ _).alloc hbase _, hF.same fun b hS => Below.heap_alloc _ _ _ (hlt b hS), hlt⟩
  refine wpIn_rangeFunc_ownH rfl (by omega) (gf := 20) (lb := #[.pointer (some ⟨b1, 0, none⟩), .pointer (some ⟨b2, 0, none⟩)]) rfl trivial (enters_of Try.func20 (by kernel_rfl) rfl)
    (fr_stops (3 - 1) (by omega) hnd hgood (hF.below ((Below.refl _ W0).alloc (Nat.le_refl _) (.cells #[.slice A0 0 c0] 26)))) kpS_t (kpS_b (fun b hb => by have := hlt b hb; simp; omega)) (Below.refl _ _) (fun _ => rfl)
    (SqI base W0 b1 b2 ns cnt) (fun _ _ _ => False) (SqI.own hbase (by simp)) (fun _ _ _ _ _ hs _ _ => hs) hI0
    (fun x a' W => ∃ E, Blk W E 30 #[.string x.key, .int .i64 x.seq, .bool x.del, .string x.val] ∧ a' = { tmps := #[.slice A0 0 c0, .func (.func 20) #[] #[.pointer (some ⟨b1, 0, none⟩), .pointer (some ⟨b2, 0, none⟩)], .pointer (some ⟨W0.heap.size, 0, none⟩), undef, .slice none 0 0, .pointer (some ⟨E, 0, none⟩), .func (.func 20) #[] #[.pointer (some ⟨b1, 0, none⟩), .pointer (some ⟨b2, 0, none⟩)], .agg #[.string x.key, .int .i64 x.seq, .bool x.del, .string x.val], undef, undef, undef, undef, undef], defers := [] })
    (fun x a' s W W' row h hg hr => by obtain ⟨E, h1, h2⟩ := h; exact ⟨E, blk_kept h1 hg fun r e => (hr r e).2, h2⟩) ?assign ?body ?done ?stop
  case assign =>
    intro l pre x W K hI hK
    dsimp only [yv]
    gi_wp2
    exact hK _ _ ((KeepsOthers.alloc _ _).from _) (fun b hS => Below.heap_alloc W _ b (hI.fr.lt b hS)) (hI.alloc hbase _) ⟨W.heap.size, Blk.new W _ _, rfl⟩
  case body =>
    rintro l pre x a' W _ _ hI ⟨E, hE, rfl⟩ hlen
    obtain ⟨v, hv, hrow⟩ := hI.box
    obtain ⟨A4, c4, rfl, hc41, hc42⟩ := own_shapeN hrow
    have hc2 := hv.cell 0
    have hf2 := hv.frozen 0
    obtain ⟨⟨e0, e1, e2, e3⟩, _⟩ := cells4 hE
    have hbs := hI.bel.size
    simp only [List.getElem?_toArray, List.getElem?_cons_zero] at hc2
    have HROW := Lib.hid hrow
    have HV := Lib.hid hv
    have HI := Lib.hid hI
    have hle : ∀ o : Obj, base ≤ (W.alloc o).heap.size := fun o => by simp; omega
    clear hrow hv hI hE
    gi_wp2_with (gi_at_builtin; refine wpListIn_append_own _ rfl _ _ 26 rfl base 30 ie _ 4 48 Try.underlying26 hie hiz hiz1 hiz2 rfl (by decide) _ _ _ rfl (HROW.out.alloc _) ⟨W.heap.size, 0, none⟩ 1 1 (ecells x) rfl rfl (one_cells _ _ _) (ecells_one _) (by unfold maxLen; omega) (by omega) (hle _) ?_; intro v' w3 hown' hg3 hnil3; obtain ⟨A5, c5, rfl, hc51, hc52⟩ := own_shapeN hown'; have HO := Lib.hid hown'; have HG := Lib.hid hg3; obtain ⟨hc3, hf3⟩ := box_after HROW.out HV.out hg3; clear hown' hg3 hnil3 hc51 hc52)
    obtain ⟨h1, h2, h3⟩ := HI.out.step hbase HV.out HROW.out HO.out HG.out
    exact ⟨h1.from _, h2, h3⟩
  case done =>
    rintro D xs W hD rfl hI hK
    obtain ⟨v, hv, hrow⟩ := hI.box
    obtain ⟨A4, c4, rfl, hc41, hc42⟩ := own_shapeN hrow
    have hc2 := hv.cell 0
    simp only [List.getElem?_toArray, List.getElem?_cons_zero] at hc2
    have HROW := Lib.hid hrow
    have HI := Lib.hid hI
    clear hrow hv hc41 hc42 hI
    gi_wp2
    refine ⟨by simp, .inl ⟨_, _, rfl, run_takeDeferred hK, ?_⟩⟩
    have hDb : base ≤ D := by simp at hD; omega
    exact ⟨_, results_tmp rfl _ _ _, _, rfl, own_kept HROW.out (grownBy_putObj' _ D (.deferred none)) (fun r e => by cases e; exact ⟨_, hK, rfl⟩), HI.out.bel.grown (grownBy_putObj' _ D (.deferred none)) (Nat.le_trans hbase HI.out.bel.size) fun k e => by cases e; exact hDb⟩
  case stop =>
    rintro D c pre W _ _ h _
    exact h.elim
end
end Mm
end Go.Proofs.Ytfnfjhfmhinkcaa
