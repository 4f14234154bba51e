/-
  WHAT IS PROVED: keys and bytes that came in as arguments, opened. NO CONDITION beside those that each lemma names.
-/
import Derived.Test.YtalmjpklfkjbmaaBLawA
import Derived.Test.YtalmjpklfkjbmaaRows
import Derived.ProofKit
import Derived.OpenShut
import Derived.Carry
import Derived.SizedLaws
import Derived.SliceStrings
import Derived.Deep.Slices
import Derived.ChangeSame
namespace Go.Proofs.Ytalmjpklfkjbmaa
open Go Go.ChangeShapes Go.WideShapes Go.ChangeAt Go.RowKit Go.Deep Go.Proofs.Ytalmjpklfkjbmaa.Fr
namespace Bl
theorem own : ownKnob Try.prog.godebug = none := by kernel_rfl
theorem laidOut : laidOutB Try.prog = true := by kernel_rfl
theorem cellsU8 : Try.prog.cellsOf 5 = 1 := by kernel_rfl
theorem bytesU8 : Try.prog.bytesOf 5 = 1 := by kernel_rfl
theorem cellsSt : Try.prog.cellsOf 9 = 1 := by kernel_rfl
/-- Numbers that are bytes, as bytes. -/
def u8s (zs : List Int) : List UInt8 := zs.map fun z => UInt8.ofNat z.toNat
theorem u8s_length (zs : List Int) : (u8s zs).length = zs.length := by simp [u8s]
section
variable {W : World}
theorem spot_none {a : Addr} {v : Value} (h : W.cell? a = some v) : ∃ b o, a = ⟨b, o, none⟩ ∧ b < W.heap.size := by
  obtain ⟨b, o, spot⟩ := a
  have hspot : spot = none := World.cell?_spot h
  subst hspot
  exact ⟨b, o, rfl, World.block_lt_of_cell? W _ h⟩
theorem add_none (b o j : Nat) : (⟨b, o, none⟩ : Addr).add j = ⟨b, o + j, none⟩ := by unfold Addr.add; split <;> simp_all
/-- Values at an address, as a slice that reads so. -/
theorem rd_vals {a : Addr} {xs : List Value} (hc : ∀ i (h : i < xs.length), W.cell? (a.add i) = some xs[i]) : Rd W (some a) xs := by
  intro hne
  have h0 : 0 < xs.length := List.length_pos_iff.2 hne
  have hc0 := hc 0 h0
  have hz : a.add 0 = a := by unfold Addr.add; split <;> simp_all
  rw [hz] at hc0
  obtain ⟨b, o, rfl, hb⟩ := spot_none hc0
  exact ⟨b, o, rfl, hb, fun i hi => by rw [← add_none]; exact hc i hi⟩
theorem rd_bytes {a : Addr} {zs : List Int} {n : Nat} (hw : ∀ z ∈ zs, (Lit.int .u8 z).wf = true) (hc : ∀ i, i < zs.length → W.cell? (a.add i) = some (.int .u8 (zs.getD i 0))) : Rd W (some a) (bv (u8s (zs.take n))) := by
  refine rd_vals fun i hi => ?_
  rw [bv_length, u8s_length, List.length_take] at hi
  have hiz : i < zs.length := by omega
  rw [hc i hiz, bv_get (by rw [u8s_length, List.length_take]; omega)]
  have hrange : 0 ≤ zs[i] ∧ zs[i] ≤ 255 := bounds_u8 (hw (zs[i]) (List.getElem_mem hiz))
  simp only [u8s, List.getElem_map, List.getElem_take, List.getD_eq_getElem?_getD, List.getElem?_eq_getElem hiz, Option.getD_some]
  rw [ofNat_toNat (by omega)]
  congr 2
  omega
section
variable {H : Type} {enc : TypeId × Value → H}
theorem weights_of {ts : List TypeId} {ds : List (DataW H)} (h : (DataW.weightsEach Try.prog ts ds).all (· ≤ reachBytes) = true) {j : Nat} {t : TypeId} {d : DataW H} (ht : ts[j]? = some t) (hd : ds[j]? = some d) : ∀ n ∈ d.weights Try.prog t, n ≤ reachBytes :=
  fun n hn => by simpa using List.all_eq_true.1 h n (DataW.weights_mem_each ht hd n hn)
-- a row of bytes that came in
theorem brow_open {v : Value} {d : DataW H} {p : List MemPlace} {base : Nat} (hv : Value.okWide Try.prog W .any base 25 v) (h : DataW.Trod enc Try.prog W 0 (fun _ => true) true 25 v d p) (hsz : ∀ k ∈ d.weights Try.prog 25, k ≤ reachBytes) :
    ∃ A n c l, v = .slice A n c ∧ l.length = n ∧ n ≤ 140737488351232 ∧ Rd W A (bv l) := by
  obtain ⟨a0, len, cap, rfl⟩ := okWide_slice Try.underlying25 hv
  obtain ⟨fuel, hf⟩ := h
  rcases open_ints Try.underlying25 Try.underlying5 cellsU8 hf with ⟨hcs, hx⟩ | ⟨a, len', cap', zs, hcs, _, hl, hm, hz, hx, hcell, hwz⟩
  · simp only [Value.cells, List.cons.injEq, Value.slice.injEq, and_true] at hcs
    obtain ⟨rfl, rfl, rfl⟩ := hcs
    exact ⟨none, 0, 0, [], rfl, rfl, by omega, Rd.nil⟩
  · simp only [Value.cells, List.cons.injEq, Value.slice.injEq, and_true] at hcs
    obtain ⟨rfl, rfl, rfl⟩ := hcs
    simp only [if_true] at hz
    refine ⟨some a, len, cap, u8s (zs.take len), rfl, by rw [u8s_length, List.length_take]; omega, ?_, rd_bytes hwz hcell⟩
    have := hsz ((lits .u8 (zs.take len) : List (DataW H)).length + (lits .u8 (zs.drop len) : List (DataW H)).length) (by
      simp only [Prod.mk.injEq] at hx
      rw [hx.1]
      simp [DataW.weights, Try.underlying25, bytesU8])
    simp only [lits, List.length_map, List.length_take, List.length_drop, reachBytes] at this
    omega
-- keys that came in
theorem keys_open {v : Value} {d : DataW H} {p : List MemPlace} {base : Nat} (hv : Value.okWide Try.prog W .any base 22 v) (h : DataW.Trod enc Try.prog W 0 (fun _ => true) true 22 v d p) :
    ∃ A n c ks, v = .slice A n c ∧ ks.length = n ∧ n ≤ c ∧ Rd W A (kv ks) ∧ ∀ s ∈ ks, s.size ≤ maxLen := by
  obtain ⟨a0, len, cap, rfl⟩ := okWide_slice Try.underlying22 hv
  obtain ⟨fuel, hf⟩ := h
  rcases open_strings Try.underlying22 Try.underlying9 cellsSt hf with ⟨hcs, hx⟩ | ⟨a, len', cap', ss, hcs, _, hl, hm, hz, hx, hcell, hsz⟩
  · simp only [Value.cells, List.cons.injEq, Value.slice.injEq, and_true] at hcs
    obtain ⟨rfl, rfl, rfl⟩ := hcs
    exact ⟨none, 0, 0, [], rfl, rfl, Nat.le_refl _, Rd.nil, fun s h => by cases h⟩
  · simp only [Value.cells, List.cons.injEq, Value.slice.injEq, and_true] at hcs
    obtain ⟨rfl, rfl, rfl⟩ := hcs
    simp only [if_true] at hz
    refine ⟨some a, len, cap, ss.take len, rfl, by rw [List.length_take]; omega, hl, rd_vals fun i hi => ?_, fun s h => hsz s (List.mem_of_mem_take h)⟩
    rw [kv_len, List.length_take] at hi
    rw [hcell i (by omega)]
    simp [kv, List.getElem?_eq_getElem (show i < ss.length by omega)]
end
end
end Bl
end Go.Proofs.Ytalmjpklfkjbmaa
