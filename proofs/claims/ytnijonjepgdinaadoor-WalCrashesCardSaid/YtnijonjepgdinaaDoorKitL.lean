/-
  WHAT IS PROVED: a slice of slices of bytes that came in, opened: the lists of bytes that it reads as, and that each is no longer than its datum. NO CONDITION beside those that each lemma names.
-/
import Derived.Test.YtnijonjepgdinaaDoorKit
import Derived.Test.YtnijonjepgdinaaDoorWalkH
import Derived.Deep.Matrix
namespace Go.Proofs.YtnijonjepgdinaaDoor
open Go Go.ChangeShapes Go.WideShapes Go.ChangeAt Go.RowKit
namespace Fr

section
variable {H : Type} {enc : TypeId × Value → H} {P : Program} {W : World}
/-- Numbers at an address, as the bytes that they are. -/
theorem rd_bytes {a : Addr} {zs : List Int} {n c : Nat} (hn : n ≤ c) (hz : zs.length = c) (hw : ∀ z ∈ zs, (Lit.int .u8 z).wf = true) (hc : ∀ i, i < c → W.cell? (a.add i) = some (.int .u8 (zs.getD i 0))) : Rd W (some a) (bv (u8s (zs.take n))) := by
  intro hne
  have h0 : 0 < n := by
    rcases Nat.eq_zero_or_pos n with h0 | h0
    · subst h0; simp [u8s, bv] at hne
    · exact h0
  obtain ⟨b, off, spot⟩ := a
  have hc0 := hc 0 (by omega)
  have hspot : spot = none := by simpa [Addr.add] using World.cell?_spot hc0
  subst hspot
  refine ⟨b, off, rfl, ?_, fun i hi => ?_⟩
  · have := World.block_lt_of_cell? W _ hc0
    simpa [Addr.add] using this
  · rw [bv_length, u8s_length, List.length_take] at hi
    have hci := hc i (by omega)
    have hadd : (⟨b, off, none⟩ : Addr).add i = ⟨b, off + i, none⟩ := by unfold Addr.add; split <;> simp_all
    rw [hadd] at hci
    rw [hci, bv_get (by rw [u8s_length, List.length_take]; omega)]
    have hiz : i < zs.length := by omega
    have hrange : 0 ≤ zs[i] ∧ zs[i] ≤ 255 := bounds_u8 (hw (zs[i]) (List.getElem_mem hiz))
    simp only [u8s, List.getElem_map, List.getElem_take, List.getD_eq_getElem?_getD, List.getElem?_eq_getElem hiz, Option.getD_some]
    rw [ofNat_toNat (by omega)]
    congr 2
    omega
/-- A SLICE OF SLICES OF BYTES THAT CAME IN. -/
theorem open_list {t e q base : Nat} {v : Value} {d : DataW H} {p : List MemPlace} (ht : P.underlying t = some (.slice e)) (he : P.underlying e = some (.slice q)) (hq : P.underlying q = some (.int .u8)) (ce : P.cellsOf e = 1) (cq : P.cellsOf q = 1)
    (hv : Value.okWide P W .any base t v) (h : DataW.Trod enc P W 0 (fun _ => true) true t v d p) :
    ∃ A n c vs ls, v = .slice A n c ∧ ls.length = n ∧ n ≤ c ∧ Rd W A vs ∧ RdL W vs ls ∧ ∀ l ∈ ls, l = [] ∨ ∃ (elems spare : List (DataW H)) (x y : List Int), d = .slice elems spare ∧ .slice (lits .u8 x) (lits .u8 y) ∈ elems ∧ l.length = x.length := by
  obtain ⟨a0, len, cap, rfl⟩ := okWide_slice ht hv
  obtain ⟨fuel, hf⟩ := h
  rcases Deep.open_int_rows ht he hq ce cq hf with ⟨hcs, hx⟩ | ⟨a, len', cap', A, L, C, Z, hcs, _, hl, _, hx, hrow⟩
  · simp only [Value.cells, List.cons.injEq, Value.slice.injEq, and_true] at hcs
    obtain ⟨rfl, rfl, rfl⟩ := hcs
    exact ⟨none, 0, 0, [], [], rfl, rfl, Nat.le_refl _, Rd.nil, ⟨rfl, fun i v l h => by simp at h⟩, fun l hl => by simp at hl⟩
  · simp only [Value.cells, List.cons.injEq, Value.slice.injEq, and_true] at hcs
    obtain ⟨rfl, rfl, rfl⟩ := hcs
    simp only [Prod.mk.injEq] at hx
    refine ⟨some a, len, cap, (List.range len).map fun r => .slice (A r) (L r) (C r), (List.range len).map fun r => u8s ((Z r).take (L r)), rfl, by simp, hl, ?_, ⟨by simp, ?_⟩, ?_⟩
    · intro hne
      have h0 : 0 < len := by
        rcases Nat.eq_zero_or_pos len with h0 | h0
        · subst h0; simp at hne
        · exact h0
      obtain ⟨b, off, spot⟩ := a
      have hc0 := (hrow 0 (by omega)).1
      have hspot : spot = none := by simpa [Addr.add] using World.cell?_spot hc0
      subst hspot
      refine ⟨b, off, rfl, ?_, fun i hi => ?_⟩
      · have := World.block_lt_of_cell? W _ hc0
        simpa [Addr.add] using this
      · simp only [List.length_map, List.length_range] at hi
        have hci := (hrow i (by omega)).1
        have hadd : (⟨b, off, none⟩ : Addr).add i = ⟨b, off + i, none⟩ := by unfold Addr.add; split <;> simp_all
        rw [hadd] at hci
        rw [hci]
        simp
    · intro i v l hv hl'
      by_cases hi : i < len
      · rw [List.getElem?_map, List.getElem?_range hi] at hv hl'
        simp only [Option.map_some, Option.some.injEq] at hv hl'
        subst hv hl'
        obtain ⟨_, r1, _, r3, r4, r5, r6⟩ := hrow i (by omega)
        refine ⟨A i, L i, C i, rfl, by rw [u8s_length, List.length_take, r3]; omega, r1, ?_⟩
        cases hA : A i with
        | none =>
          have h0 : L i = 0 := by have := r5 hA; omega
          rw [h0]
          exact Rd.nil
        | some a' => exact rd_bytes r1 r3 r4 (r6 a' hA).2
      · rw [List.getElem?_eq_none (by simp; omega)] at hv
        cases hv
    · intro l hl'
      simp only [List.mem_map, List.mem_range] at hl'
      obtain ⟨r, hr, rfl⟩ := hl'
      obtain ⟨_, r1, _, r3, r4, r5, r6⟩ := hrow r (by omega)
      cases hA : A r with
      | none =>
        left
        have h0 : L r = 0 := by have := r5 hA; omega
        rw [h0]; rfl
      | some a' =>
        right
        refine ⟨_, _, (Z r).take (L r), (Z r).drop (L r), hx.1, ?_, u8s_length _⟩
        refine List.mem_map.2 ⟨r, List.mem_range.2 hr, ?_⟩
        simp only [Deep.intRow, hA]
end
/-- The weights of a list of data have all of each one's. -/
theorem weights_in {H : Type} {P : Program} {e : TypeId} {d : DataW H} {n : Nat} : ∀ {l : List (DataW H)}, d ∈ l → n ∈ d.weights P e → n ∈ DataW.weightsAll P e l := by
  intro l
  induction l with
  | nil => intro h; cases h
  | cons x r ih =>
    intro h hn
    unfold DataW.weightsAll
    cases h with
    | head => exact List.mem_append_left _ hn
    | tail _ h => exact List.mem_append_right _ (ih h hn)
/-- A row's own size, where the whole argument's is bounded. -/
theorem row_sized {H : Type} {P : Program} {ts : List TypeId} {ds : List (DataW H)} (h : (DataW.weightsEach P ts ds).all (· ≤ reachBytes) = true) {j : Nat} {t e q : TypeId} {elems spare x y : List (DataW H)}
    (ht : ts[j]? = some t) (hd : ds[j]? = some (.slice elems spare)) (hu : P.underlying t = some (.slice e)) (hu2 : P.underlying e = some (.slice q)) (hx : DataW.slice x y ∈ elems) : (x.length + y.length) * P.bytesOf q ≤ reachBytes := by
  have key : (x.length + y.length) * P.bytesOf q ∈ DataW.weightsEach P ts ds := by
    refine DataW.weights_mem_each ht hd _ ?_
    simp only [DataW.weights, hu]
    refine List.mem_cons_of_mem _ (List.mem_append_left _ (weights_in hx ?_))
    simp only [DataW.weights, hu2]
    exact List.mem_cons_self
  simpa using List.all_eq_true.1 h _ key
theorem cellsSl : Tryd.prog.cellsOf 42 = 1 := by kernel_rfl
end Fr
end Go.Proofs.YtnijonjepgdinaaDoor
