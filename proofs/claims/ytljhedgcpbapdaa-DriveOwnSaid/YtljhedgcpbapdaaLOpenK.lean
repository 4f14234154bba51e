/-
  WHAT IS PROVED: rows of numbers that came in as an argument, opened; a row of numbers; a row of bytes. NO CONDITION beside those that each lemma names.
-/
import Derived.Test.YtljhedgcpbapdaaLOpen
import Derived.Test.YtljhedgcpbapdaaLCrash
import Derived.Deep.Matrix
namespace Go.Proofs.Ytljhedgcpbapdaa
open Go Go.ChangeShapes Go.WideShapes Go.ChangeAt Go.RowKit Go.Deep Go.Proofs.Ytljhedgcpbapdaa.Fr
namespace Dr
theorem cellsInts : Try.prog.cellsOf 41 = 1 := by kernel_rfl
section
variable {W : World} {H : Type} {enc : TypeId × Value → H}
-- a row of numbers that came in
set_option maxRecDepth 100000 in
theorem krow_open {v : Value} {d : DataW H} {p : List MemPlace} {base : Nat} (hv : Value.okWide Try.prog W .any base 41 v) (h : DataW.Trod enc Try.prog W 0 (fun _ => true) true 41 v d p) (hsz : ∀ k ∈ d.weights Try.prog 41, k ≤ reachBytes) :
    ∃ A n c ks, v = .slice A n c ∧ KRow W A n c ks := by
  obtain ⟨a0, len, cap, rfl⟩ := okWide_slice Try.underlying41 hv
  obtain ⟨fuel, hf⟩ := h
  obtain ⟨A, m, cp, l, he, h1, h2, h3, h4, h5⟩ := open_i64 hf hsz
  exact ⟨A, m, cp, l, he, h1, h2, Nat.le_trans h2 h3, h4, h5⟩
-- a row of bytes that came in
set_option maxRecDepth 100000 in
theorem brow_open {v : Value} {d : DataW H} {p : List MemPlace} {base : Nat} (hv : Value.okWide Try.prog W .any base 33 v) (h : DataW.Trod enc Try.prog W 0 (fun _ => true) true 33 v d p) (hsz : ∀ k ∈ d.weights Try.prog 33, k ≤ reachBytes) :
    ∃ A n c l, v = .slice A n c ∧ l.length = n ∧ n ≤ c ∧ c ≤ 140737488351232 ∧ Rd W A (bv l) := by
  obtain ⟨a0, len, cap, rfl⟩ := okWide_slice Try.underlying33 hv
  obtain ⟨fuel, hf⟩ := h
  exact open_u8 hf hsz
-- rows of numbers that came in
set_option maxRecDepth 100000 in
theorem krows_open {v : Value} {d : DataW H} {p : List MemPlace} {base : Nat} (hv : Value.okWide Try.prog W .any base 45 v) (h : DataW.Trod enc Try.prog W 0 (fun _ => true) true 45 v d p) (hsz : ∀ k ∈ d.weights Try.prog 45, k ≤ reachBytes) :
    ∃ A n c K, v = .slice A n c ∧ K.length = n ∧ KRows W A K := by
  obtain ⟨a0, len, cap, rfl⟩ := okWide_slice Try.underlying45 hv
  obtain ⟨fuel, hf⟩ := h
  rcases open_slice Try.underlying45 hf with ⟨hcs, hx⟩ | ⟨a, len', cap', m, n, D, Pl, hcs, _, hl, hm, hmm, hx, hi⟩
  · simp only [Value.cells, List.cons.injEq, Value.slice.injEq, and_true] at hcs
    obtain ⟨rfl, rfl, rfl⟩ := hcs
    exact ⟨none, 0, 0, [], rfl, rfl, fun i m h => by simp at h, fun m h => by cases h⟩
  · simp only [Value.cells, List.cons.injEq, Value.slice.injEq, and_true] at hcs
    obtain ⟨rfl, rfl, rfl⟩ := hcs
    simp only [if_true] at hmm
    simp only [Prod.mk.injEq] at hx
    have each : ∀ i, i < len → ∃ k : KM, W.cell? (a.add i) = some (.slice k.A k.n k.c) ∧ KRow W k.A k.n k.c k.ks := fun i hlt => by
      obtain ⟨cs', hc, ht⟩ := hi i (by omega)
      rw [cellsInts, Nat.mul_one] at hc
      obtain ⟨_, hcl, hat⟩ := World.cells?_some hc
      match cs', hcl with
      | [c0], _ =>
        obtain ⟨A, m, cp, l, rfl, h1, h2, h3, h4, h5⟩ := open_i64 ht fun k hk => hsz k (by
          rw [hx.1]
          simp only [DataW.weights, Try.underlying45]
          exact List.mem_cons_of_mem _ (List.mem_append_left _ (weights_in (List.mem_map.2 ⟨i, List.mem_range.2 hlt, rfl⟩) hk)))
        have c0 := hat 0 (by omega)
        have hz : (a.add i).add 0 = a.add i := by generalize a.add i = x; unfold Addr.add; split <;> simp_all
        rw [hz] at c0
        exact ⟨⟨A, m, cp, l⟩, c0, h1, h2, Nat.le_trans h2 h3, h4, h5⟩
    rcases Nat.eq_zero_or_pos len with h0 | h0
    · subst h0
      exact ⟨some a, 0, cap, [], rfl, rfl, fun i m h => by simp at h, fun m h => by cases h⟩
    · have hz : a.add 0 = a := by unfold Addr.add; split <;> simp_all
      obtain ⟨_, ha, _⟩ := each 0 h0
      rw [hz] at ha
      obtain ⟨g, p, rfl, hg⟩ := spot_none ha
      let M : Fin len → KM := fun i => (each i.1 i.2).choose
      have hM : ∀ i : Fin len, W.cell? ((⟨g, p, none⟩ : Addr).add i.1) = some (.slice (M i).A (M i).n (M i).c) ∧ KRow W (M i).A (M i).n (M i).c (M i).ks := fun i => (each i.1 i.2).choose_spec
      refine ⟨some ⟨g, p, none⟩, len, cap, List.ofFn M, rfl, by simp, fun i k hk => ?_, fun k hk => ?_⟩
      · obtain ⟨hlt, rfl⟩ := List.getElem?_eq_some_iff.1 hk
        rw [List.length_ofFn] at hlt
        refine ⟨g, p, rfl, hg, ?_⟩
        rw [List.getElem_ofFn, ← add_none]
        exact (hM ⟨i, hlt⟩).1
      · obtain ⟨i, rfl⟩ := List.mem_ofFn.1 hk
        exact (hM i).2
end
end Dr
end Go.Proofs.Ytljhedgcpbapdaa
