/-
  WHAT IS PROVED: rows of bytes that are written over, one behind the other, and what stays. NO CONDITION beside those that each lemma names.
-/
import Derived.Test.YtnijonjepgdinaaDoorWDrops
namespace Go.Proofs.YtnijonjepgdinaaDoor
open Go Go.RowKit Go.Maps Go.Proofs.YtnijonjepgdinaaDoor.Fr Go.Proofs.YtnijonjepgdinaaDoor.Dr
namespace Wl

theorem own_mod {w w' : World} {S : Nat → Prop} {base e n : Nat} {v : Value} {xs : List Value} (h : w.ownsRow base e 1 v n xs) (hm : Mod S w w') (hs : ∀ k, v.ownBlock = some k → ¬ S k) : w'.ownsRow base e 1 v n xs :=
  own_same h fun k hk => hm.block k (h.lt k hk).2 (hs k hk)
theorem OwnL.mod {w w' : World} {S : Nat → Prop} {B : Nat} {vs : List Value} {ls : List Bs} (h : OwnL w B vs ls) (hm : Mod S w w') (hs : ∀ u ∈ vs, ∀ k, u.ownBlock = some k → ¬ S k) : OwnL w' B vs ls :=
  ⟨h.1, fun i v l hv hl => by
    obtain ⟨b, hb, ho, hd⟩ := h.2 i v l hv hl
    exact ⟨b, hb, own_mod ho hm (hs v (List.mem_of_getElem? hv)), hd⟩⟩
theorem OwnL.ge {w : World} {B : Nat} {vs : List Value} {ls : List Bs} (h : OwnL w B vs ls) : ∀ u ∈ vs, ∀ k, u.ownBlock = some k → B ≤ k ∧ k < w.heap.size := by
  intro u hu k hk
  obtain ⟨i, hi, rfl⟩ := List.getElem_of_mem hu
  obtain ⟨b, hb, ho, _⟩ := h.2 i _ _ (List.getElem?_eq_getElem hi) (List.getElem?_eq_getElem (by rw [← h.1]; exact hi))
  exact ⟨Nat.le_trans hb (ho.lt k hk).1, (ho.lt k hk).2⟩
theorem OwnL.tail {w : World} {B : Nat} {v : Value} {l : Bs} {vs : List Value} {ls : List Bs} (h : OwnL w B (v :: vs) (l :: ls)) : OwnL w B vs ls ∧ (∃ b, B ≤ b ∧ w.ownsRow b 5 1 v l.length (bv l)) ∧ ∀ u ∈ vs, ∀ k, u.ownBlock = some k → v.ownBlock ≠ some k := by
  refine ⟨⟨by have := h.1; simpa using this, fun i u m hu hm => ?_⟩, ?_, fun u hu k hk e => ?_⟩
  · obtain ⟨b, hb, ho, hd⟩ := h.2 (i + 1) u m (by simpa using hu) (by simpa using hm)
    exact ⟨b, hb, ho, fun j u' q hj hu' hq => hd (j + 1) u' q (by omega) (by simpa using hu') hq⟩
  · obtain ⟨b, hb, ho, _⟩ := h.2 0 v l rfl rfl
    exact ⟨b, hb, ho⟩
  · obtain ⟨i, hi, rfl⟩ := List.getElem_of_mem hu
    have h1 := h.1
    simp only [List.length_cons] at h1
    obtain ⟨b, hb, ho, hd⟩ := h.2 (i + 1) vs[i] (ls[i]'(by omega)) (by simp) (by simp)
    have h2 := hd 0 v k (by omega) rfl e
    have h3 := (ho.lt k hk).1
    omega
/-- The list of rows from place i on, all that was there of them left as it was; Y: the blocks that may have turned. -/
structure PAt (B1 : Nat) (Y : Nat → Prop) (w3 : World) (V : Value) (k : Nat) (vs : List Value) (ls : List Bs) (i : Nat) (W : World) : Prop where
  row : ∃ us, W.ownsRow B1 42 1 V k us ∧ ∀ j, i ≤ j → us[j]? = vs[j]?
  rest : OwnL W B1 (vs.drop i) (ls.drop i)
  mod : Mod Y w3 W
  inY : ∀ q, V.ownBlock = some q → Y q
  elY : ∀ u ∈ vs.drop i, ∀ q, u.ownBlock = some q → Y q
/-- .. while the one at place i is being written. -/
structure CAt (B1 : Nat) (Y : Nat → Prop) (w3 : World) (V : Value) (k : Nat) (vs : List Value) (ls : List Bs) (i : Nat) (v : Value) (n : Nat) (ys : List Value) (W : World) : Prop where
  row : ∃ us, W.ownsRow B1 42 1 V k us ∧ us[i]? = some v ∧ ∀ j, i < j → us[j]? = vs[j]?
  cur : W.ownsRow B1 5 1 v n ys
  rest : OwnL W B1 (vs.drop (i + 1)) (ls.drop (i + 1))
  dis : ∀ u ∈ vs.drop (i + 1), ∀ q, u.ownBlock = some q → v.ownBlock ≠ some q
  mod : Mod Y w3 W
  inY : ∀ q, V.ownBlock = some q → Y q
  elY : ∀ u ∈ vs.drop (i + 1), ∀ q, u.ownBlock = some q → Y q
  curY : ∀ q, v.ownBlock = some q → Y q ∨ w3.heap.size ≤ q
section
variable {B1 : Nat} {Y : Nat → Prop} {w3 W W' : World} {V v v' : Value} {k i n : Nat} {vs ys : List Value} {ls : List Bs}
theorem PAt.begin (h : PAt B1 Y w3 V k vs ls i W) {l : Bs} (hv : vs[i]? = some v) (hl : ls[i]? = some l) : CAt B1 Y w3 V k vs ls i v l.length (bv l) W := by
  obtain ⟨us, h1, h2⟩ := h.row
  have e1 : vs.drop i = v :: vs.drop (i + 1) := by
    obtain ⟨hi, e⟩ := List.getElem?_eq_some_iff.1 hv
    rw [List.drop_eq_getElem_cons hi, e]
  have e2 : ls.drop i = l :: ls.drop (i + 1) := by
    obtain ⟨hi, e⟩ := List.getElem?_eq_some_iff.1 hl
    rw [List.drop_eq_getElem_cons hi, e]
  have hr := h.rest
  have he := h.elY
  rw [e1] at hr he
  rw [e2] at hr
  obtain ⟨t1, ⟨b, hb, t2⟩, t3⟩ := OwnL.tail hr
  exact ⟨⟨us, h1, by rw [h2 i (Nat.le_refl _), hv], fun j hj => h2 j (by omega)⟩, own_mono t2 hb, t1, t3, h.mod, h.inY, fun u hu => he u (by simp [hu]), fun q hq => .inl (he v (by simp) q hq)⟩
theorem CAt.done (h : CAt B1 Y w3 V k vs ls i v n ys W) : PAt B1 Y w3 V k vs ls (i + 1) W := by
  obtain ⟨us, h1, _, h3⟩ := h.row
  exact ⟨⟨us, h1, fun j hj => h3 j (by omega)⟩, h.rest, h.mod, h.inY, h.elY⟩
theorem mod_of_grown {S : Nat → Prop} {row : Option Nat} (h : Mod S w3 W) (hg : W.grownBy W' row) (hs : ∀ q, row = some q → S q ∨ w3.heap.size ≤ q) : Mod S w3 W' :=
  h.trans (S' := fun q => row = some q) (Mod.grown hg fun _ e => e) fun q hq e => (hs q e).resolve_right fun h => by omega
/-- The row itself is written, or grows. -/
theorem CAt.grown (h : CAt B1 Y w3 V k vs ls i v n ys W) (hg : W.grownBy W' v.ownBlock) : (∃ us, W'.ownsRow B1 42 1 V k us ∧ us[i]? = some v ∧ ∀ j, i < j → us[j]? = vs[j]?) ∧ OwnL W' B1 (vs.drop (i + 1)) (ls.drop (i + 1)) ∧ Mod Y w3 W' := by
  obtain ⟨us, h1, h2, h3⟩ := h.row
  refine ⟨⟨us, h1.kept hg (own_ne h1 h.cur (by decide)), h2, h3⟩, ?_, mod_of_grown h.mod hg h.curY⟩
  exact OwnL.mod h.rest (Mod.grown (S := fun q => v.ownBlock = some q) hg fun _ e => e) fun u hu q hq e => h.dis u hu q hq e
theorem CAt.write (h : CAt B1 Y w3 V k vs ls i v n ys W) {ys' : List Value} (hc : W'.ownsRow B1 5 1 v n ys') (hg : W.grownBy W' v.ownBlock) : CAt B1 Y w3 V k vs ls i v n ys' W' :=
  let ⟨a, b, c⟩ := h.grown hg
  ⟨a, hc, b, h.dis, c, h.inY, h.elY, h.curY⟩
theorem CAt.news (h : CAt B1 Y w3 V k vs ls i v n ys W) (hb : Below W.heap.size W W') : CAt B1 Y w3 V k vs ls i v n ys W' := by
  obtain ⟨us, h1, h2, h3⟩ := h.row
  exact ⟨⟨us, own_below h1 hb (Nat.le_refl _), h2, h3⟩, own_below h.cur hb (Nat.le_refl _), OwnL.below h.rest hb, h.dis, h.mod.trans (S' := fun _ => False) (Mod.below hb) fun _ _ e => e.elim, h.inY, h.elY, h.curY⟩
/-- The row that has grown is put back at its place. -/
theorem CAt.put (h : CAt B1 Y w3 V k vs ls i v n ys W) {m : Nat} {ys' : List Value} (hc : W'.ownsRow B1 5 1 v' m ys') (hg : W.grownBy W' v.ownBlock) (h8 : v'.ownBlock = v.ownBlock ∨ v'.ownBlock = some W.heap.size)
    {g cap : Nat} (hV : V = .slice (some ⟨g, 0, none⟩) k cap) (hik : i < k) : CAt B1 Y w3 V k vs ls i v' m ys' (W'.setCell ⟨g, i, none⟩ v') := by
  obtain ⟨⟨us, h1, h2, h3⟩, b, c⟩ := h.grown hg
  subst hV
  have hx : us.length = k := by have := h1.1; omega
  obtain ⟨s1, s2⟩ := h1.stored i v'
  have hY : ∀ q, (Value.slice (some ⟨g, 0, none⟩) k cap).ownBlock = some q → Y q ∨ w3.heap.size ≤ q := fun q hq => .inl (h.inY q hq)
  have old : ∀ u ∈ vs.drop (i + 1), ∀ q, u.ownBlock = some q → q < W.heap.size := fun u hu q hq => (OwnL.ge h.rest u hu q hq).2
  refine ⟨⟨us.set i v', s1, by rw [List.getElem?_set_self (by omega)], fun j hj => by rw [List.getElem?_set_ne (by omega)]; exact h3 j hj⟩, hc.kept s2 (own_ne hc h1 (by decide)), ?_, ?_, mod_of_grown c s2 hY, h.inY, h.elY, ?_⟩
  · exact OwnL.keep b fun _ _ _ _ ho => ho.kept s2 (own_ne ho h1 (by decide))
  · intro u hu q hq e
    rcases h8 with h8 | h8
    · exact h.dis u hu q hq (h8 ▸ e)
    · have := old u hu q hq
      rw [h8] at e
      have := Option.some.inj e
      omega
  · intro q hq
    rcases h8 with h8 | h8
    · exact h.curY q (h8 ▸ hq)
    · rw [h8] at hq
      have := Option.some.inj hq
      have := h.mod.size
      exact .inr (by omega)
end

end Wl
end Go.Proofs.YtnijonjepgdinaaDoor
