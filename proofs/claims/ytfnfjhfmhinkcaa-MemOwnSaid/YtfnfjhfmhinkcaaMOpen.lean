/-
  WHAT IS PROVED: a script of table calls that came in as an argument, opened. NO CONDITION beside those that each lemma names.
-/
import Derived.Test.YtfnfjhfmhinkcaaMNew
import Derived.Test.YtfnfjhfmhinkcaaRows
import Derived.ProofKit
import Derived.OpenShut
import Derived.Carry
import Derived.SizedLaws
import Derived.Deep.Slices
import Derived.Deep.Fields
import Derived.ChangeSame
namespace Go.Proofs.Ytfnfjhfmhinkcaa
open Go Go.ChangeShapes Go.WideShapes Go.ChangeAt Go.RowKit Go.Deep Go.Proofs.Ytfnfjhfmhinkcaa.Fr
namespace Mm
theorem own : ownKnob Try.prog.godebug = none := by kernel_rfl
theorem laidOut : laidOutB Try.prog = true := by kernel_rfl
section
variable {W : World}
theorem spot_none {a : Addr} {v : Value} (h : W.cell? a = some v) : ∃ b o, a = ⟨b, o, none⟩ ∧ b < W.heap.size := by
  obtain ⟨b, o, spot⟩ := a
  have hspot : spot = none := World.cell?_spot h
  subst hspot
  exact ⟨b, o, rfl, World.block_lt_of_cell? W _ h⟩
theorem add_none (b o j : Nat) : (⟨b, o, none⟩ : Addr).add j = ⟨b, o + j, none⟩ := by unfold Addr.add; split <;> simp_all
section
variable {H : Type} {enc : TypeId × Value → H}
theorem cellsOp : Try.prog.cellsOf 32 = 6 := by kernel_rfl
theorem cellsEn : Try.prog.cellsOf 30 = 4 := by kernel_rfl
theorem cellsB : Try.prog.cellsOf 4 = 1 := by kernel_rfl
theorem cellsI : Try.prog.cellsOf 3 = 1 := by kernel_rfl
theorem cellsS : Try.prog.cellsOf 9 = 1 := by kernel_rfl
-- one entry, by its cells
set_option maxRecDepth 100000 in
theorem entry_open {cs : List Value} {n : Nat} {x : DataW H × List MemPlace} (hcl : cs.length = 4) (h : DataW.trod enc Try.prog W 0 (fun _ => true) true n 30 cs = some x) :
    ∃ e : En, cs = ecells e := by
  obtain ⟨ys, n', _, hx, hlen, hyl, hf⟩ := DataW.trod_struct Try.underlying30 h
  match cs, hcl with
  | [c0, c1, c2, c3], _ =>
    match ys, hyl with
    | [y0, y1, y2, y3], _ =>
      have f0 : DataW.trod enc Try.prog W 0 (fun _ => true) true n' 9 [c0] = some y0 := by simpa [cellsS] using hf 0 _ rfl
      have f1 : DataW.trod enc Try.prog W 0 (fun _ => true) true n' 3 [c1] = some y1 := by simpa [cellsI] using hf 1 _ rfl
      have f2 : DataW.trod enc Try.prog W 0 (fun _ => true) true n' 4 [c2] = some y2 := by simpa [cellsB] using hf 2 _ rfl
      have f3 : DataW.trod enc Try.prog W 0 (fun _ => true) true n' 9 [c3] = some y3 := by simpa [cellsS] using hf 3 _ rfl
      obtain ⟨s0, e0, _, _⟩ := DataW.trod_string Try.underlying9 f0
      obtain ⟨z1, e1, _, _⟩ := DataW.trod_int Try.underlying3 f1
      obtain ⟨b2, e2, _⟩ := DataW.trod_bool Try.underlying4 f2
      obtain ⟨s3, e3, _, _⟩ := DataW.trod_string Try.underlying9 f3
      simp only [List.cons.injEq, and_true] at e0 e1 e2 e3
      subst e0 e1 e2 e3
      exact ⟨⟨s0, z1, b2, s3⟩, rfl⟩
-- one op that came in
set_option maxRecDepth 100000 in
theorem op_open {a : Addr} {cs : List Value} {n : Nat} {x : DataW H × List MemPlace} (hc : W.cells? 0 a 6 = some cs) (h : DataW.trod enc Try.prog W 0 (fun _ => true) true n 32 cs = some x) :
    ∃ (m : MOp) (g p : Nat), a = ⟨g, p, none⟩ ∧ g < W.heap.size ∧ OpC W g p m := by
  obtain ⟨_, hcl, hat⟩ := World.cells?_some hc
  obtain ⟨ys, n', _, hx, hlen, hyl, hf⟩ := DataW.trod_struct Try.underlying32 h
  match cs, hcl with
  | [c0, c1, c2, c3, c4, c5], _ =>
    match ys, hyl with
    | [y0, y1, y2], _ =>
      have f0 : DataW.trod enc Try.prog W 0 (fun _ => true) true n' 4 [c0] = some y0 := by simpa [cellsB] using hf 0 _ rfl
      have f1 : DataW.trod enc Try.prog W 0 (fun _ => true) true n' 30 [c1, c2, c3, c4] = some y1 := by simpa [cellsEn] using hf 1 _ rfl
      have f2 : DataW.trod enc Try.prog W 0 (fun _ => true) true n' 3 [c5] = some y2 := by simpa [cellsI] using hf 2 _ rfl
      obtain ⟨b0, e0, _⟩ := DataW.trod_bool Try.underlying4 f0
      obtain ⟨e, e1⟩ := entry_open rfl f1
      obtain ⟨z5, e5, _, _⟩ := DataW.trod_int Try.underlying3 f2
      simp only [ecells, List.cons.injEq, and_true] at e0 e1 e5
      obtain ⟨rfl, rfl, rfl, rfl⟩ := e1
      subst e0 e5
      have c0 := hat 0 (by omega)
      have hz : a.add 0 = a := by unfold Addr.add; split <;> simp_all
      rw [hz] at c0
      obtain ⟨g, p, rfl, hg⟩ := spot_none (c0.trans rfl)
      have at_ : ∀ j, j < 6 → W.cell? ⟨g, p + j, none⟩ = ([.bool b0, .string e.key, .int .i64 e.seq, .bool e.del, .string e.val, .int .i64 z5] : List Value)[j]? := fun j hj => by rw [← add_none]; exact hat j hj
      exact ⟨⟨b0, e, z5⟩, g, p, rfl, hg, at_ 0 (by omega), at_ 1 (by omega), at_ 2 (by omega), at_ 3 (by omega), at_ 4 (by omega), at_ 5 (by omega)⟩
-- a script that came in
set_option maxRecDepth 100000 in
theorem script_open {v : Value} {d : DataW H} {p : List MemPlace} {base : Nat} (hv : Value.okWide Try.prog W .any base 22 v) (h : DataW.Trod enc Try.prog W 0 (fun _ => true) true 22 v d p) :
    ∃ A n c L, v = .slice A n c ∧ L.length = n ∧ MScript W A L := by
  obtain ⟨a0, len, cap, rfl⟩ := okWide_slice Try.underlying22 hv
  obtain ⟨fuel, hf⟩ := h
  rcases open_slice Try.underlying22 hf with ⟨hcs, hx⟩ | ⟨a, len', cap', m, n, D, Pl, hcs, _, hl, hm, hmm, hx, hi⟩
  · simp only [Value.cells, List.cons.injEq, Value.slice.injEq, and_true] at hcs
    obtain ⟨rfl, rfl, rfl⟩ := hcs
    exact ⟨none, 0, 0, [], rfl, rfl, ⟨fun i m h => by simp at h⟩⟩
  · simp only [Value.cells, List.cons.injEq, Value.slice.injEq, and_true] at hcs
    obtain ⟨rfl, rfl, rfl⟩ := hcs
    simp only [if_true] at hmm
    have each : ∀ i, i < len → ∃ (m : MOp) (g p : Nat), a.add (i * 6) = ⟨g, p, none⟩ ∧ g < W.heap.size ∧ OpC W g p m := fun i hlt => by
      obtain ⟨cs', hc, ht⟩ := hi i (by omega)
      rw [cellsOp] at hc
      exact op_open hc ht
    rcases Nat.eq_zero_or_pos len with h0 | h0
    · subst h0
      exact ⟨some a, 0, cap, [], rfl, rfl, ⟨fun i m h => by simp at h⟩⟩
    · obtain ⟨_, g, p, ha, hg, _⟩ := each 0 h0
      have hz : a.add (0 * 6) = a := by rw [Nat.zero_mul]; unfold Addr.add; split <;> simp_all
      rw [hz] at ha
      subst ha
      have each' : ∀ i : Fin len, ∃ m : MOp, OpC W g (p + i.1 * 6) m := fun i => by
        obtain ⟨m, g', p', ha, _, h1⟩ := each i.1 i.2
        rw [add_none] at ha
        cases ha
        exact ⟨m, h1⟩
      refine ⟨some ⟨g, p, none⟩, len, cap, List.ofFn fun i => (each' i).choose, rfl, by simp, ⟨fun i m hm => ?_⟩⟩
      obtain ⟨hlt, rfl⟩ := List.getElem?_eq_some_iff.1 hm
      rw [List.length_ofFn] at hlt
      refine ⟨g, p, rfl, hg, ?_⟩
      rw [List.getElem_ofFn]
      exact (each' ⟨i, hlt⟩).choose_spec
end
end
end Mm
end Go.Proofs.Ytfnfjhfmhinkcaa
