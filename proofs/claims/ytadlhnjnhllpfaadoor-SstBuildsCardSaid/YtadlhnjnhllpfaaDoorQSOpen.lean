/-
  WHAT IS PROVED: (1) the reference's Same answers true of two rows that read alike. CONDITIONS: the rows stand in memory as named. (2) entries that came in as an argument, opened. NO CONDITION beside those that each lemma names.
-/
import Derived.Test.YtadlhnjnhllpfaaDoorQMAll
import Derived.Test.YtadlhnjnhllpfaaDoorQMOpen
import Derived.Deep.Cut
namespace Go.Proofs.YtadlhnjnhllpfaaDoor
open Go Go.RowKit Go.Maps Go.Sort Go.Proofs.YtadlhnjnhllpfaaDoor.Fr
namespace Mm
theorem neq_entry (w : World) (x y : En) : (binOp .neq 42 (.agg #[.string x.key, .int .i64 x.seq, .bool x.del, .string x.val]) (.agg #[.string y.key, .int .i64 y.seq, .bool y.del, .string y.val])).run Tryd.prog w = .ok (.bool (!enEq x y)) w := by
  have h := eq_entry w x y
  rw [run_eql_struct] at h
  rw [run_neq_struct]
  revert h
  generalize (Op.equalIn 10000 42 (Value.agg #[.string x.key, .int .i64 x.seq, .bool x.del, .string x.val]) (Value.agg #[.string y.key, .int .i64 y.seq, .bool y.del, .string y.val])).run Tryd.prog w = r
  cases r with
  | ok b w' =>
    intro h
    simp only [Result.andThen, Result.ok.injEq, Value.bool.injEq] at h ⊢
    obtain ⟨rfl, rfl⟩ := h
    exact ⟨rfl, rfl⟩
  | halt x w' => intro h; cases h
theorem neq_same (w : World) (x : En) : (binOp .neq 42 (.agg #[.string x.key, .int .i64 x.seq, .bool x.del, .string x.val]) (.agg #[.string x.key, .int .i64 x.seq, .bool x.del, .string x.val])).run Tryd.prog w = .ok (.bool false) w := by
  rw [neq_entry, (enEq_iff x x).2 rfl]
  rfl
section
variable {w w' : World} {A B : Option Addr} {l : List En} {n c d : Nat}
theorem rd_ownN {base : Nat} {e : TypeId} {size n c : Nat} {xs : List Value} (h : w.ownsRow base e size (.slice A n c) n xs) : Rd w A xs := fun hx => by
  rcases h.2 with ⟨h1, h2⟩ | ⟨g, cap, cur, h1, _, h2, h3, _, h5, h4⟩
  · have := h.1
    rw [h2, Nat.zero_mul] at this
    exact absurd (List.length_eq_zero_iff.1 this) hx
  · cases h1
    refine ⟨g, 0, rfl, (Array.getElem?_eq_some_iff.1 h2).1, fun i hi => ?_⟩
    rw [cell_of_row w g (0 + i) cur e (0, 0) h2, Nat.zero_add]
    have hl := h.1
    rw [← List.getElem?_eq_getElem hi, ← h4, List.getElem?_take_of_lt (by omega), Array.getElem?_toList]
/-- An entry of a row. -/
theorem erd_at (h : Rd w A (ev l)) {j : Nat} {x : En} (hx : l[j]? = some x) : ∃ g p, A = some ⟨g, p, none⟩ ∧ g < w.heap.size ∧ w.cell? ⟨g, p + j * 4, none⟩ = some (.string x.key) ∧ w.cell? ⟨g, p + j * 4 + 1, none⟩ = some (.int .i64 x.seq) ∧ w.cell? ⟨g, p + j * 4 + 2, none⟩ = some (.bool x.del) ∧ w.cell? ⟨g, p + j * 4 + 3, none⟩ = some (.string x.val) := by
  have hj : j < l.length := (List.getElem?_eq_some_iff.1 hx).1
  have hlen := ev_len l
  obtain ⟨g, p, e, hg, hc⟩ := h (by intro e; rw [e] at hlen; simp at hlen; omega)
  have key : ∀ t, t < 4 → w.cell? ⟨g, p + (j * 4 + t), none⟩ = (ecells x)[t]? := fun t ht => by
    rw [hc (j * 4 + t) (by omega), ← ev_get hx t ht, List.getElem?_eq_getElem]
  exact ⟨g, p, e, hg, key 0 (by omega), key 1 (by omega), key 2 (by omega), key 3 (by omega)⟩
set_option maxRecDepth 100000 in
set_option maxHeartbeats 1600000 in
theorem same_any (hl : l.length = n) (hn : n ≤ 100000) (hA : Rd w A (ev l)) (hB : Rd w B (ev l)) :
    Calls Tryd.prog 15 #[.slice A n c, .slice B n d] w (Yes w) := by
  have HL := Lib.hid hl
  have HA := Lib.hid hA
  have HB := Lib.hid hB
  clear hl hA hB
  go_enter Tryd.func15, Tryd.ntmps15
  go_wp2
  go_loopw [13] (fun p wr => ∃ i : Nat, i ≤ n ∧ p = .int .i64 (i : Int) ∧ Hid (Below w.heap.size w wr)) (fun p _ => n - (intOf p).toNat)
  case atStart => exact ⟨0, Nat.zero_le _, rfl, Lib.hid (Below.refl _ _)⟩
  case round =>
    obtain ⟨i, hi, rfl, HW⟩ := hrel
    by_cases hlt : i < n
    · obtain ⟨x, hx⟩ : ∃ x, l[i]? = some x := ⟨l[i]'(by have := HL.out; omega), List.getElem?_eq_getElem _⟩
      obtain ⟨g, p, rfl, hg, a0, a1, a2, a3⟩ := erd_at (HA.out.below HW.out) hx
      obtain ⟨g', p', rfl, hg', z0, z1, z2, z3⟩ := erd_at (HB.out.below HW.out) hx
      have q3 := fun (W : World) => neq_same W x
      have k1 : (i : Int) < (n : Int) := by omega
      have k2 : (0 : Int) ≤ (i : Int) := by omega
      clear hx
      go_upto_region 6 with fail
      refine wp_region_held_drew (S := fun W => (W.cell? ⟨g, p + i * 4, none⟩ = some (.string x.key) ∧ W.cell? ⟨g, p + i * 4 + 1, none⟩ = some (.int .i64 x.seq) ∧ W.cell? ⟨g, p + i * 4 + 2, none⟩ = some (.bool x.del) ∧ W.cell? ⟨g, p + i * 4 + 3, none⟩ = some (.string x.val)) ∧ W.cell? ⟨g', p' + i * 4, none⟩ = some (.string x.key) ∧ W.cell? ⟨g', p' + i * 4 + 1, none⟩ = some (.int .i64 x.seq) ∧ W.cell? ⟨g', p' + i * 4 + 2, none⟩ = some (.bool x.del) ∧ W.cell? ⟨g', p' + i * 4 + 3, none⟩ = some (.string x.val)) (by kernel_rfl) (by (exact ⟨⟨a0, a1, a2, a3⟩, z0, z1, z2, z3⟩)) (fun hHeld => ?_)
      refine wpAnyH_take (i := 0) (v := ?vr1_0) (Fr.take_at rfl) (by kernel_rfl) (by kernel_rfl) (by kernel_rfl) (fun _ _ _ h => h) (Or.inl ⟨by rfl, ?yr1_0⟩) (by assumption) ?nr1_0
      case yr1_0 => (intro w_ hSw; obtain ⟨⟨y0, y1, y2, y3⟩, y4, y5, y6, y7⟩ := hSw; go_simp; (try with_reducible rfl))
      try simp only [Act.put, List.setIfInBounds_toArray, List.set_cons_zero, List.set_cons_succ]
      refine wpAnyH_take (i := 1) (v := ?vr1_1) (Fr.take_at rfl) (by kernel_rfl) (by kernel_rfl) (by kernel_rfl) (fun _ _ _ h => h) (Or.inl ⟨by rfl, ?yr1_1⟩) (by assumption) ?nr1_1
      case yr1_1 => (intro w_ hSw; obtain ⟨⟨y0, y1, y2, y3⟩, y4, y5, y6, y7⟩ := hSw; go_simp; (try with_reducible rfl))
      try simp only [Act.put, List.setIfInBounds_toArray, List.set_cons_zero, List.set_cons_succ]
      refine wpAnyH_take (i := 2) (v := ?vr1_2) (Fr.take_at rfl) (by kernel_rfl) (by kernel_rfl) (by kernel_rfl) (fun _ _ _ h => h) (Or.inl ⟨by rfl, ?yr1_2⟩) (by assumption) ?nr1_2
      case yr1_2 => (intro w_ hSw; obtain ⟨⟨y0, y1, y2, y3⟩, y4, y5, y6, y7⟩ := hSw; go_simp; (try with_reducible rfl))
      try simp only [Act.put, List.setIfInBounds_toArray, List.set_cons_zero, List.set_cons_succ]
      refine wpAnyH_take (i := 3) (v := ?vr1_3) (Fr.take_at rfl) (by kernel_rfl) (by kernel_rfl) (by kernel_rfl) (fun _ _ _ h => h) (Or.inl ⟨by rfl, ?yr1_3⟩) (by assumption) ?nr1_3
      case yr1_3 => (intro w_ hSw; obtain ⟨⟨y0, y1, y2, y3⟩, y4, y5, y6, y7⟩ := hSw; go_simp; (try with_reducible rfl))
      try simp only [Act.put, List.setIfInBounds_toArray, List.set_cons_zero, List.set_cons_succ]
      refine wpAnyH_take (i := 4) (v := ?vr1_4) (Fr.take_at rfl) (by kernel_rfl) (by kernel_rfl) (by kernel_rfl) (fun _ _ _ h => h) (Or.inl ⟨by rfl, ?yr1_4⟩) (by assumption) ?nr1_4
      case yr1_4 => (intro w_ hSw; obtain ⟨⟨y0, y1, y2, y3⟩, y4, y5, y6, y7⟩ := hSw; go_simp; (try with_reducible rfl))
      try simp only [Act.put, List.setIfInBounds_toArray, List.set_cons_zero, List.set_cons_succ]
      refine wpAnyH_take (i := 5) (v := ?vr1_5) (Fr.take_at rfl) (by kernel_rfl) (by kernel_rfl) (by kernel_rfl) (fun _ _ _ h => h) (Or.inl ⟨by rfl, ?yr1_5⟩) (by assumption) ?nr1_5
      case yr1_5 => (intro w_ hSw; obtain ⟨⟨y0, y1, y2, y3⟩, y4, y5, y6, y7⟩ := hSw; go_simp; (try with_reducible rfl))
      try simp only [Act.put, List.setIfInBounds_toArray, List.set_cons_zero, List.set_cons_succ]
      refine wpAnyH_take (i := 6) (v := ?vr1_6) (Fr.take_at rfl) (by kernel_rfl) (by kernel_rfl) (by kernel_rfl) (fun _ _ _ h => h) (Or.inl ⟨by rfl, ?yr1_6⟩) (by assumption) ?nr1_6
      case yr1_6 => (intro w_ hSw; obtain ⟨⟨y0, y1, y2, y3⟩, y4, y5, y6, y7⟩ := hSw; go_simp; (try with_reducible rfl))
      try simp only [Act.put, List.setIfInBounds_toArray, List.set_cons_zero, List.set_cons_succ]
      refine wpAnyH_take (i := 7) (v := ?vr1_7) (Fr.take_at rfl) (by kernel_rfl) (by kernel_rfl) (by kernel_rfl) (fun _ _ _ h => h) (Or.inl ⟨by rfl, ?yr1_7⟩) (by assumption) ?nr1_7
      case yr1_7 => (intro w_ hSw; obtain ⟨⟨y0, y1, y2, y3⟩, y4, y5, y6, y7⟩ := hSw; go_simp; (try with_reducible rfl))
      try simp only [Act.put, List.setIfInBounds_toArray, List.set_cons_zero, List.set_cons_succ]
      refine wpAnyH_take (i := 8) (v := ?vr1_8) (Fr.take_at rfl) (by kernel_rfl) (by kernel_rfl) (by kernel_rfl) (fun _ _ _ h => h) (Or.inl ⟨by rfl, ?yr1_8⟩) (by assumption) ?nr1_8
      case yr1_8 => (intro w_ hSw; obtain ⟨⟨y0, y1, y2, y3⟩, y4, y5, y6, y7⟩ := hSw; go_simp; (try with_reducible rfl))
      try simp only [Act.put, List.setIfInBounds_toArray, List.set_cons_zero, List.set_cons_succ]
      refine wpAnyH_done (by kernel_rfl) ?_ _
      clear a0 a1 a2 a3 z0 z1 z2 z3 q3
      go_wp2
      go_roundw
      case rel => exact ⟨i + 1, by omega, by simp, Lib.hid (below_drewN HW.out 1)⟩
      case measure => simp [intOf]; omega
    · obtain rfl : i = n := by omega
      have k1 : ¬ (i : Int) < (i : Int) := by omega
      go_wp2
      go_ret
      exact Yes.mk HW.out
end
end Mm
end Go.Proofs.YtadlhnjnhllpfaaDoor
namespace Go.Proofs.YtadlhnjnhllpfaaDoor
open Go Go.ChangeShapes Go.WideShapes Go.ChangeAt Go.RowKit Go.Deep Go.Proofs.YtadlhnjnhllpfaaDoor.Fr Go.Proofs.YtadlhnjnhllpfaaDoor.Mm
namespace Ss
section
variable {W : World} {H : Type} {enc : TypeId × Value → H}
theorem rd_valsE {a : Addr} {xs : List Value} (hc : ∀ i (h : i < xs.length), W.cell? (a.add i) = some xs[i]) : Rd W (some a) xs := by
  intro hne
  have h0 : 0 < xs.length := List.length_pos_iff.2 hne
  have hc0 := hc 0 h0
  have hz : a.add 0 = a := by unfold Addr.add; split <;> simp_all
  rw [hz] at hc0
  obtain ⟨b, o, rfl, hb⟩ := Mm.spot_none hc0
  exact ⟨b, o, rfl, hb, fun i hi => by rw [← Mm.add_none]; exact hc i hi⟩
theorem add_add (a : Addr) (i j : Nat) (h : a.spot = none) : (a.add i).add j = a.add (i + j) := by
  obtain ⟨b, o, s⟩ := a
  cases h
  rw [Mm.add_none, Mm.add_none, Mm.add_none, Nat.add_assoc]
-- a list of entries that came in
set_option maxRecDepth 100000 in
theorem entries_open {v : Value} {d : DataW H} {p : List MemPlace} {base : Nat} (hv : Value.okWide Tryd.prog W .any base 22 v) (h : DataW.Trod enc Tryd.prog W 0 (fun _ => true) true 22 v d p) :
    ∃ A n c l, v = .slice A n c ∧ l.length = n ∧ n ≤ c ∧ Rd W A (ev l) := by
  obtain ⟨a0, len, cap, rfl⟩ := okWide_slice Tryd.underlying22 hv
  obtain ⟨fuel, hf⟩ := h
  rcases open_slice Tryd.underlying22 hf with ⟨hcs, hx⟩ | ⟨a, len', cap', m, n, D, Pl, hcs, _, hl, hm, hmm, hx, hi⟩
  · simp only [Value.cells, List.cons.injEq, Value.slice.injEq, and_true] at hcs
    obtain ⟨rfl, rfl, rfl⟩ := hcs
    exact ⟨none, 0, 0, [], rfl, rfl, Nat.le_refl _, Rd.nil⟩
  · simp only [Value.cells, List.cons.injEq, Value.slice.injEq, and_true] at hcs
    obtain ⟨rfl, rfl, rfl⟩ := hcs
    simp only [if_true] at hmm
    have each : ∀ i : Fin len, ∃ e : En, ∀ j, j < 4 → W.cell? ((a.add (i.1 * 4)).add j) = (ecells e)[j]? := fun i => by
      obtain ⟨cs', hc, ht⟩ := hi i.1 (by have := i.2; omega)
      rw [cellsEn] at hc
      obtain ⟨_, hcl, hat⟩ := World.cells?_some hc
      obtain ⟨e, rfl⟩ := entry_open hcl ht
      exact ⟨e, hat⟩
    rcases Nat.eq_zero_or_pos len with h0 | h0
    · subst h0
      exact ⟨some a, 0, cap, [], rfl, rfl, Nat.zero_le _, Rd.nil⟩
    · have hs : a.spot = none := by
        have h1 := (each ⟨0, h0⟩).choose_spec 0 (by omega)
        have h2 : W.cell? ((a.add (0 * 4)).add 0) = some (.string ((each ⟨0, h0⟩).choose).key) := h1
        obtain ⟨b, o, e, _⟩ := Mm.spot_none h2
        have hz : (a.add (0 * 4)).add 0 = a := by unfold Addr.add; split <;> simp_all
        rw [hz] at e
        rw [e]
      refine ⟨some a, len, cap, List.ofFn fun i => (each i).choose, rfl, by simp, hl, rd_valsE fun k hk => ?_⟩
      have hlen := ev_len (List.ofFn fun i => (each i).choose)
      rw [List.length_ofFn] at hlen
      have hi4 : k / 4 < len := by omega
      have hx : (List.ofFn fun i => (each i).choose)[k / 4]? = some (each ⟨k / 4, hi4⟩).choose := by
        rw [List.getElem?_eq_getElem (by rw [List.length_ofFn]; exact hi4), List.getElem_ofFn]
      have h1 := ev_get hx (k % 4) (by omega)
      have h2 := (each ⟨k / 4, hi4⟩).choose_spec (k % 4) (by omega)
      rw [add_add _ _ _ hs, ← h1] at h2
      rw [show k / 4 * 4 + k % 4 = k by omega] at h2
      rw [h2, List.getElem?_eq_getElem hk]
end
end Ss
end Go.Proofs.YtadlhnjnhllpfaaDoor
