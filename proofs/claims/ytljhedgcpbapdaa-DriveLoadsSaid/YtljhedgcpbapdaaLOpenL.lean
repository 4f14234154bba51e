/-
  WHAT IS PROVED: names and rows of bytes that came in as arguments, opened; what the law DriveLoads answers. NO CONDITION beside those that each lemma names.
-/
import Derived.Test.YtljhedgcpbapdaaLOpen
import Derived.Test.YtljhedgcpbapdaaLLoads
namespace Go.Proofs.Ytljhedgcpbapdaa
open Go Go.ChangeShapes Go.WideShapes Go.ChangeAt Go.RowKit Go.Deep Go.Proofs.Ytljhedgcpbapdaa.Fr
namespace Dr
theorem cellsBs : Try.prog.cellsOf 33 = 1 := by kernel_rfl
theorem cellsSt : Try.prog.cellsOf 9 = 1 := by kernel_rfl
theorem enc_data (s : ByteArray) : encStr s.data.toList = .string s := by
  show Value.string ⟨s.data.toList.toArray⟩ = _
  rw [Array.toArray_toList]
section
variable {W : World} {H : Type} {enc : TypeId × Value → H}
set_option maxRecDepth 100000 in
-- names that came in
theorem names_open {v : Value} {d : DataW H} {p : List MemPlace} {base : Nat} (hv : Value.okWide Try.prog W .any base 31 v) (h : DataW.Trod enc Try.prog W 0 (fun _ => true) true 31 v d p) (_ : ∀ k ∈ d.weights Try.prog 31, k ≤ reachBytes) :
    ∃ A n c ns, v = .slice A n c ∧ ns.length = n ∧ Nms W A ns := by
  obtain ⟨a0, len, cap, rfl⟩ := okWide_slice Try.underlying31 hv
  obtain ⟨fuel, hf⟩ := h
  rcases open_slice Try.underlying31 hf with ⟨hcs, hx⟩ | ⟨a, len', cap', m, n, D, Pl, hcs, _, hl, hm, hmm, hx, hi⟩
  · simp only [Value.cells, List.cons.injEq, Value.slice.injEq, and_true] at hcs
    obtain ⟨rfl, rfl, rfl⟩ := hcs
    exact ⟨none, 0, 0, [], rfl, rfl, Rd.nil, fun x h => by cases h⟩
  · simp only [Value.cells, List.cons.injEq, Value.slice.injEq, and_true] at hcs
    obtain ⟨rfl, rfl, rfl⟩ := hcs
    simp only [if_true] at hmm
    have each : ∀ i, i < len → ∃ s : ByteArray, W.cell? (a.add i) = some (.string s) ∧ s.size ≤ maxLen := fun i hlt => by
      obtain ⟨cs', hc, ht⟩ := hi i (by omega)
      rw [cellsSt, Nat.mul_one] at hc
      obtain ⟨_, hcl, hat⟩ := World.cells?_some hc
      obtain ⟨s, e, _, hs⟩ := DataW.trod_string Try.underlying9 ht
      subst e
      have c0 := hat 0 (by omega)
      have hz : (a.add i).add 0 = a.add i := by generalize a.add i = x; unfold Addr.add; split <;> simp_all
      rw [hz] at c0
      exact ⟨s, c0, hs⟩
    let M : Fin len → Bs := fun i => (each i.1 i.2).choose.data.toList
    have hM : ∀ i : Fin len, W.cell? (a.add i.1) = some (encStr (M i)) ∧ (⟨(M i).toArray⟩ : ByteArray).size ≤ maxLen := fun i => by
      have h := (each i.1 i.2).choose_spec
      have e : encStr (M i) = .string (each i.1 i.2).choose := enc_data _
      have e2 : (⟨(M i).toArray⟩ : ByteArray) = (each i.1 i.2).choose := by
        show (⟨(each i.1 i.2).choose.data.toList.toArray⟩ : ByteArray) = _
        rw [Array.toArray_toList]
      rw [e, e2]
      exact h
    refine ⟨some a, len, cap, List.ofFn M, rfl, by simp, rd_vals fun i hi2 => ?_, fun x hx2 => ?_⟩
    · simp only [List.length_map, List.length_ofFn] at hi2
      rw [List.getElem_map, List.getElem_ofFn]
      exact (hM ⟨i, hi2⟩).1
    · obtain ⟨i, rfl⟩ := List.mem_ofFn.1 hx2
      exact (hM i).2
set_option maxRecDepth 100000 in
-- rows of bytes that came in
theorem brows_open {v : Value} {d : DataW H} {p : List MemPlace} {base : Nat} (hv : Value.okWide Try.prog W .any base 32 v) (h : DataW.Trod enc Try.prog W 0 (fun _ => true) true 32 v d p) (hsz : ∀ k ∈ d.weights Try.prog 32, k ≤ reachBytes) :
    ∃ A n c K, v = .slice A n c ∧ K.length = n ∧ BRows W A K := by
  obtain ⟨a0, len, cap, rfl⟩ := okWide_slice Try.underlying32 hv
  obtain ⟨fuel, hf⟩ := h
  rcases open_slice Try.underlying32 hf with ⟨hcs, hx⟩ | ⟨a, len', cap', m, n, D, Pl, hcs, _, hl, hm, hmm, hx, hi⟩
  · simp only [Value.cells, List.cons.injEq, Value.slice.injEq, and_true] at hcs
    obtain ⟨rfl, rfl, rfl⟩ := hcs
    exact ⟨none, 0, 0, [], rfl, rfl, fun i m h => by simp at h, fun m h => by cases h⟩
  · simp only [Value.cells, List.cons.injEq, Value.slice.injEq, and_true] at hcs
    obtain ⟨rfl, rfl, rfl⟩ := hcs
    simp only [if_true] at hmm
    simp only [Prod.mk.injEq] at hx
    have each : ∀ i, i < len → ∃ k : BM, W.cell? (a.add i) = some (.slice k.A k.n k.c) ∧ k.l.length = k.n ∧ k.n ≤ k.c ∧ k.n ≤ 140737488351232 ∧ Rd W k.A (bv k.l) := fun i hlt => by
      obtain ⟨cs', hc, ht⟩ := hi i (by omega)
      rw [cellsBs, Nat.mul_one] at hc
      obtain ⟨_, hcl, hat⟩ := World.cells?_some hc
      match cs', hcl with
      | [c0], _ =>
        obtain ⟨A, m, cp, l, rfl, h1, h2, h3, h4⟩ := open_u8 ht fun k hk => hsz k (by
          rw [hx.1]
          simp only [DataW.weights, Try.underlying32]
          exact List.mem_cons_of_mem _ (List.mem_append_left _ (weights_in (List.mem_map.2 ⟨i, List.mem_range.2 hlt, rfl⟩) hk)))
        have c0 := hat 0 (by omega)
        have hz : (a.add i).add 0 = a.add i := by generalize a.add i = x; unfold Addr.add; split <;> simp_all
        rw [hz] at c0
        exact ⟨⟨A, m, cp, l⟩, c0, h1, h2, Nat.le_trans h2 h3, h4⟩
    rcases Nat.eq_zero_or_pos len with h0 | h0
    · subst h0
      exact ⟨some a, 0, cap, [], rfl, rfl, fun i m h => by simp at h, fun m h => by cases h⟩
    · have hz : a.add 0 = a := by unfold Addr.add; split <;> simp_all
      obtain ⟨_, ha, _⟩ := each 0 h0
      rw [hz] at ha
      obtain ⟨g, p, rfl, hg⟩ := spot_none ha
      let M : Fin len → BM := fun i => (each i.1 i.2).choose
      have hM : ∀ i : Fin len, W.cell? ((⟨g, p, none⟩ : Addr).add i.1) = some (.slice (M i).A (M i).n (M i).c) ∧ (M i).l.length = (M i).n ∧ (M i).n ≤ (M i).c ∧ (M i).n ≤ 140737488351232 ∧ Rd W (M i).A (bv (M i).l) := fun i => (each i.1 i.2).choose_spec
      refine ⟨some ⟨g, p, none⟩, len, cap, List.ofFn M, rfl, by simp, fun i k hk => ?_, fun k hk => ?_⟩
      · obtain ⟨hlt, rfl⟩ := List.getElem?_eq_some_iff.1 hk
        rw [List.length_ofFn] at hlt
        refine ⟨g, p, rfl, hg, ?_⟩
        rw [List.getElem_ofFn, ← add_none]
        exact (hM ⟨i, hlt⟩).1
      · obtain ⟨i, rfl⟩ := List.mem_ofFn.1 hk
        exact (hM i).2
end
theorem loads_any (w : World) (A : Option Addr) (n c : Nat) (ns : List Bs) (hl : ns.length = n) (h : Nms w A ns) (A2 : Option Addr) (n2 c2 : Nat) (K : List BM) (hl2 : K.length = n2) (h2 : BRows w A2 K) (A3 : Option Addr) (n3 c3 : Nat) (L : List OpM) (hl3 : L.length = n3) (hL : Script w A3 L) :
    Calls Try.prog 4 #[.slice A n c, .slice A2 n2 c2, .slice A3 n3 c3] w fun e w' => e = .returned (.bool true) ∧ Below w.heap.size w w' := by
  by_cases hbig : 300 < n ∨ 300 < n2
  · exact loads_big w A n c A2 n2 c2 A3 n3 c3 hbig
  · by_cases hk : loadErr ns (K.map (·.l)) = 0
    · have hne : n2 = n := by
        unfold loadErr at hk
        split at hk
        · cases hk
        · rename_i h1
          rw [List.length_map, hl, hl2] at h1
          omega
      subst hne
      exact loads_ok w A n2 c ns hl h (by omega) A2 c2 K hl2 h2 A3 n3 c3 L hl3 hL hk
    · exact loads_bad w A n c ns hl h (by omega) A2 n2 c2 K hl2 h2 (by omega) A3 n3 c3 rfl hk
end Dr
end Go.Proofs.Ytljhedgcpbapdaa
