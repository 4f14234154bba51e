/-
  WHAT IS PROVED: (1) what the reference's Error, four and Entry answer of tables. CONDITIONS: the entries stand in memory as named.
-/
import Derived.Test.YtadlhnjnhllpfaaDoorQSList
import Derived.Test.YtadlhnjnhllpfaaDoorQSBuP
import Derived.Test.YtadlhnjnhllpfaaDoorQWalkH
import Derived.Test.YtadlhnjnhllpfaaDoorQMRef
namespace Go.Proofs.YtadlhnjnhllpfaaDoor
open Go Go.RowKit Go.Maps Go.Sort Go.Proofs.YtadlhnjnhllpfaaDoor.Mm Go.Proofs.YtadlhnjnhllpfaaDoor.Fr
namespace Ss
theorem rerror_z {x : En} {z : Int} (h : entryErr x = z) : ∀ W : World, Calls Tryd.prog 37 #[.agg #[.string x.key, .int .i64 x.seq, .bool x.del, .string x.val]] W fun e W' => e = .returned (.int .i64 z) ∧ Below W.heap.size W W' := fun W => by
  have := error_any W x
  rwa [h] at this
theorem rbefore_z {y x : En} {b : Bool} (h : decide (bef y x.k x.seq) = b) : ∀ W : World, Calls Tryd.prog 38 #[.agg #[.string y.key, .int .i64 y.seq, .bool y.del, .string y.val], .agg #[.string x.key, .int .i64 x.seq, .bool x.del, .string x.val]] W fun e W' => e = .returned (.bool b) ∧ Below W.heap.size W W' := fun W => by
  have := before_any W y x
  rwa [h] at this
/-- The one before, and the one at hand, in the row. -/
structure ReS (g p q : Nat) (y x : En) (W : World) : Prop where
  y : W.cell? ⟨g, p, none⟩ = some (.string y.key) ∧ W.cell? ⟨g, p + 1, none⟩ = some (.int .i64 y.seq) ∧ W.cell? ⟨g, p + 2, none⟩ = some (.bool y.del) ∧ W.cell? ⟨g, p + 3, none⟩ = some (.string y.val)
  x : W.cell? ⟨g, q, none⟩ = some (.string x.key) ∧ W.cell? ⟨g, q + 1, none⟩ = some (.int .i64 x.seq) ∧ W.cell? ⟨g, q + 2, none⟩ = some (.bool x.del) ∧ W.cell? ⟨g, q + 3, none⟩ = some (.string x.val)
  hg : g < W.heap.size
theorem ReS.drew {g p q : Nat} {y x : En} {W : World} (h : ReS g p q y x W) : ReS g p q y x W.drew := ⟨h.y, h.x, h.hg⟩
theorem ReS.below {g p q : Nat} {y x : En} {W W' : World} (h : ReS g p q y x W) (hb : Below W.heap.size W W') : ReS g p q y x W' := by
  have k := fun o => hb.cell (p := ⟨g, o, none⟩) h.hg
  exact ⟨⟨(k _).trans h.y.1, (k _).trans h.y.2.1, (k _).trans h.y.2.2.1, (k _).trans h.y.2.2.2⟩, ⟨(k _).trans h.x.1, (k _).trans h.x.2.1, (k _).trans h.x.2.2.1, (k _).trans h.x.2.2.2⟩, Nat.lt_of_lt_of_le h.hg hb.size⟩
section
variable {w : World} {A : Option Addr} {n c : Nat} {l : List En}
set_option maxRecDepth 100000 in
set_option maxHeartbeats 1600000 in
theorem rlistErr_any (hl : l.length = n) (hr : Rd w A (ev l)) (hn : n ≤ 1000000) {z : Int} (hz : listErr l = z) :
    Calls Tryd.prog 11 #[.slice A n c] w fun e w' => e = .returned (.int .i64 z) ∧ Below w.heap.size w w' := by
  replace hz := hz.symm
  unfold listErr at hz
  rw [hl] at hz
  have HL := Lib.hid hl
  have HR := Lib.hid hr
  clear hl hr
  by_cases h0 : n = 0
  · rw [if_pos h0] at hz
    subst hz h0
    go_enter Tryd.func11, Tryd.ntmps11
    go_wp2
    go_ret
    exact ⟨rfl, Below.refl _ _⟩
  rw [if_neg h0] at hz
  have k0 : ((n : Int) == 0) = false := by rw [beq_eq_false_iff_ne]; omega
  by_cases h84 : 84 < n
  · rw [if_pos h84] at hz
    subst hz
    have k1 : (84 : Int) < (n : Int) := by omega
    go_enter Tryd.func11, Tryd.ntmps11
    go_wp2
    go_ret
    exact ⟨rfl, Below.refl _ _⟩
  rw [if_neg h84] at hz
  have k1 : ¬ (84 : Int) < (n : Int) := by omega
  have HZ : Hid (listF (prevAt l 0) (l.drop 0) = z) := Lib.hid (by rw [hz]; rfl)
  clear hz
  go_enter Tryd.func11, Tryd.ntmps11
  go_wp2
  go_loopw [3] (fun i wr => ∃ j : Nat, j ≤ n ∧ i = .int .i64 (j : Int) ∧ Hid (listF (prevAt l j) (l.drop j) = z) ∧ Hid (Below w.heap.size w wr)) (fun i _ => n - (intOf i).toNat)
  case atStart => exact ⟨0, by omega, rfl, HZ, Lib.hid (Below.refl _ _)⟩
  case round =>
    clear HZ
    obtain ⟨j, hj, rfl, HZ, HB⟩ := hrel
    by_cases hlt : j < n
    · obtain ⟨x, hx⟩ : ∃ x, l[j]? = some x := ⟨l[j]'(by have := HL.out; omega), List.getElem?_eq_getElem _⟩
      have hdr : l.drop j = x :: l.drop (j + 1) := by
        obtain ⟨h1, h2⟩ := List.getElem?_eq_some_iff.1 hx
        rw [← h2, List.drop_eq_getElem_cons h1]
      have hZ := HZ.out
      rw [hdr] at hZ
      obtain ⟨g, p, rfl, hg, x0, x1, x2, x3⟩ := erd_at (HR.out.below HB.out) hx
      have k2 : (j : Int) < (n : Int) := by omega
      have k3 : (0 : Int) ≤ (j : Int) := by omega
      obtain ⟨q, hq⟩ : ∃ q, entryErr x = q := ⟨_, rfl⟩
      have HC := Lib.hid (rerror_z hq)
      have HX := Lib.hid hx
      clear hx hdr
      by_cases hq0 : q = 0
      · subst hq0
        rcases Nat.eq_zero_or_pos j with hj0 | hjp
        · subst hj0
          simp only [Nat.zero_mul, Nat.add_zero] at x0 x1 x2 x3
          have HNx := Lib.hid (show listF (prevAt l 1) (l.drop 1) = z by rw [← hZ]; unfold prevAt; rw [if_neg (by omega), if_pos rfl, listF_first hq, HX.out])
          clear hZ hq
          go_wp2_with (go_at_call 37; refine (HC.out _).mono ?_; rintro e w2 ⟨rfl, hb2⟩)
          refine wp_region_held_drew (S := fun _ => True) (by kernel_rfl) (by (exact True.intro)) (fun hHeld => ?_)
          refine wpAnyH_take (i := 0) (v := ?vr1_0) (Fr.take_at rfl) (by kernel_rfl) (by kernel_rfl) (by kernel_rfl) (fun _ _ _ h => h) (Or.inl ⟨by rfl, ?yr1_0⟩) (by assumption) ?nr1_0
          case yr1_0 => (intro w_ hSw; (try dsimp only at hSw); go_simp; (try with_reducible rfl))
          try simp only [Act.put, List.setIfInBounds_toArray, List.set_cons_zero, List.set_cons_succ]
          refine wpAnyH_take (i := 1) (v := ?vr1_1) (Fr.take_at rfl) (by kernel_rfl) (by kernel_rfl) (by kernel_rfl) (fun _ _ _ h => h) (Or.inl ⟨by rfl, ?yr1_1⟩) (by assumption) ?nr1_1
          case yr1_1 => (intro w_ hSw; (try dsimp only at hSw); go_simp; (try with_reducible rfl))
          try simp only [Act.put, List.setIfInBounds_toArray, List.set_cons_zero, List.set_cons_succ]
          refine wpAnyH_take (i := 2) (v := ?vr1_2) (Fr.take_at rfl) (by kernel_rfl) (by kernel_rfl) (by kernel_rfl) (fun _ _ _ h => h) (Or.inl ⟨by rfl, ?yr1_2⟩) (by assumption) ?nr1_2
          case yr1_2 => (intro w_ hSw; (try dsimp only at hSw); go_simp; (try with_reducible rfl))
          try simp only [Act.put, List.setIfInBounds_toArray, List.set_cons_zero, List.set_cons_succ]
          refine wpAnyH_take (i := 3) (v := undef) (Fr.take_at rfl) (by kernel_rfl) (by kernel_rfl) (by kernel_rfl) (fun _ _ _ h => h) (Or.inr ⟨by rfl, rfl⟩) (by assumption) ?_
          try simp only [Act.put, List.setIfInBounds_toArray, List.set_cons_zero, List.set_cons_succ]
          refine wpAnyH_take (i := 4) (v := undef) (Fr.take_at rfl) (by kernel_rfl) (by kernel_rfl) (by kernel_rfl) (fun _ _ _ h => h) (Or.inr ⟨by rfl, rfl⟩) (by assumption) ?_
          try simp only [Act.put, List.setIfInBounds_toArray, List.set_cons_zero, List.set_cons_succ]
          refine wpAnyH_take (i := 5) (v := undef) (Fr.take_at rfl) (by kernel_rfl) (by kernel_rfl) (by kernel_rfl) (fun _ _ _ h => h) (Or.inr ⟨by rfl, rfl⟩) (by assumption) ?_
          try simp only [Act.put, List.setIfInBounds_toArray, List.set_cons_zero, List.set_cons_succ]
          refine wpAnyH_take (i := 6) (v := undef) (Fr.take_at rfl) (by kernel_rfl) (by kernel_rfl) (by kernel_rfl) (fun _ _ _ h => h) (Or.inr ⟨by rfl, rfl⟩) (by assumption) ?_
          try simp only [Act.put, List.setIfInBounds_toArray, List.set_cons_zero, List.set_cons_succ]
          refine wpAnyH_take (i := 7) (v := undef) (Fr.take_at rfl) (by kernel_rfl) (by kernel_rfl) (by kernel_rfl) (fun _ _ _ h => h) (Or.inr ⟨by rfl, rfl⟩) (by assumption) ?_
          try simp only [Act.put, List.setIfInBounds_toArray, List.set_cons_zero, List.set_cons_succ]
          refine wpAnyH_take (i := 8) (v := undef) (Fr.take_at rfl) (by kernel_rfl) (by kernel_rfl) (by kernel_rfl) (fun _ _ _ h => h) (Or.inr ⟨by rfl, rfl⟩) (by assumption) ?_
          try simp only [Act.put, List.setIfInBounds_toArray, List.set_cons_zero, List.set_cons_succ]
          refine wpAnyH_take (i := 9) (v := undef) (Fr.take_at rfl) (by kernel_rfl) (by kernel_rfl) (by kernel_rfl) (fun _ _ _ h => h) (Or.inr ⟨by rfl, rfl⟩) (by assumption) ?_
          try simp only [Act.put, List.setIfInBounds_toArray, List.set_cons_zero, List.set_cons_succ]
          refine wpAnyH_take (i := 10) (v := undef) (Fr.take_at rfl) (by kernel_rfl) (by kernel_rfl) (by kernel_rfl) (fun _ _ _ h => h) (Or.inr ⟨by rfl, rfl⟩) (by assumption) ?_
          try simp only [Act.put, List.setIfInBounds_toArray, List.set_cons_zero, List.set_cons_succ]
          refine wpAnyH_take (i := 11) (v := undef) (Fr.take_at rfl) (by kernel_rfl) (by kernel_rfl) (by kernel_rfl) (fun _ _ _ h => h) (Or.inr ⟨by rfl, rfl⟩) (by assumption) ?_
          try simp only [Act.put, List.setIfInBounds_toArray, List.set_cons_zero, List.set_cons_succ]
          refine wpAnyH_take (i := 12) (v := undef) (Fr.take_at rfl) (by kernel_rfl) (by kernel_rfl) (by kernel_rfl) (fun _ _ _ h => h) (Or.inr ⟨by rfl, rfl⟩) (by assumption) ?_
          try simp only [Act.put, List.setIfInBounds_toArray, List.set_cons_zero, List.set_cons_succ]
          refine wpAnyH_take (i := 13) (v := undef) (Fr.take_at rfl) (by kernel_rfl) (by kernel_rfl) (by kernel_rfl) (fun _ _ _ h => h) (Or.inr ⟨by rfl, rfl⟩) (by assumption) ?_
          try simp only [Act.put, List.setIfInBounds_toArray, List.set_cons_zero, List.set_cons_succ]
          refine wpAnyH_take (i := 14) (v := ?vr1_14) (Fr.take_at rfl) (by kernel_rfl) (by kernel_rfl) (by kernel_rfl) (fun _ _ _ h => h) (Or.inl ⟨by rfl, ?yr1_14⟩) (by assumption) ?nr1_14
          case yr1_14 => (intro w_ hSw; (try dsimp only at hSw); go_simp; (try with_reducible rfl))
          try simp only [Act.put, List.setIfInBounds_toArray, List.set_cons_zero, List.set_cons_succ]
          refine wpAnyH_done (by kernel_rfl) ?_ _
          go_wp2
          go_roundw
          case rel => exact ⟨1, by omega, by go_num, HNx, Lib.hid ((HB.out.trans (hb2.mono HB.out.size)).drew)⟩
          case measure => simp [intOf]; omega
        · obtain ⟨i, rfl⟩ : ∃ i, j = i + 1 := ⟨j - 1, by omega⟩
          obtain ⟨y, hy⟩ : ∃ y, l[i]? = some y := ⟨l[i]'(by have := HL.out; omega), List.getElem?_eq_getElem _⟩
          obtain ⟨u, hu⟩ : ∃ u, decide (bef y x.k x.seq) = u := ⟨_, rfl⟩
          have HCM := Lib.hid (rbefore_z hu)
          have hpr : prevAt l (i + 1) = some y := by unfold prevAt; rw [if_neg (by omega), Nat.add_sub_cancel, hy]
          have hpr2 : prevAt l (i + 1 + 1) = some x := by unfold prevAt; rw [if_neg (by omega), Nat.add_sub_cancel, HX.out]
          rw [hpr, listF_next hq] at hZ
          have k4 : (0 : Int) < (i : Int) + 1 := by omega
          have k5 : (i : Int) + 1 - 1 = (i : Int) := by omega
          have k6 : (0 : Int) ≤ (i : Int) := by omega
          have k7 : (i : Int) < (n : Int) := by omega
          have k9 : (0 : Int) ≤ (i : Int) + 1 := by omega
          have k8 : IntKind.i64.wrap (i : Int) = (i : Int) := IntWalk.i64_in _ (by omega)
          have HPR2 := Lib.hid hpr2
          have HS1 : Hid (ReS g (p + i * 4) (p + (i + 1) * 4) y x wr) := by
            obtain ⟨g', p', e', hg', u0, u1, u2, u3⟩ := erd_at (HR.out.below HB.out) hy
            cases e'
            exact Lib.hid ⟨⟨u0, u1, u2, u3⟩, ⟨x0, x1, x2, x3⟩, hg'⟩
          clear hpr hpr2 hy hq
          cases u with
          | true =>
            have hbf : bef y x.k x.seq := of_decide_eq_true hu
            rw [if_pos hbf] at hZ
            have HNx := Lib.hid (show listF (prevAt l (i + 1 + 1)) (l.drop (i + 1 + 1)) = z by rw [HPR2.out]; exact hZ)
            clear hZ hbf hu
            go_wp2_with (go_at_call 37; refine (HC.out _).mono ?_; rintro e w2 ⟨rfl, hb2⟩)
            have hb2' : Below w.heap.size w w2 := HB.out.trans (hb2.mono HB.out.size)
            have hS1 : ReS g (p + i * 4) (p + (i + 1) * 4) y x w2 := ReS.below (HS1.out) hb2
            refine wp_region_held_drew (S := ReS g (p + i * 4) (p + (i + 1) * 4) y x) (by kernel_rfl) (by (first | (with_reducible assumption) | (with_reducible exact ReS.drew (by assumption)))) (fun hHeld => ?_)
            refine wpAnyH_take (i := 0) (v := ?vr2_0) (Fr.take_at rfl) (by kernel_rfl) (by kernel_rfl) (by kernel_rfl) (fun _ _ _ h => h) (Or.inl ⟨by rfl, ?yr2_0⟩) (by assumption) ?nr2_0
            case yr2_0 => (intro w_ hSw; obtain ⟨⟨q0, q1, q2, q3⟩, ⟨q4, q5, q6, q7⟩, _⟩ := hSw; go_simp; (try with_reducible rfl))
            try simp only [Act.put, List.setIfInBounds_toArray, List.set_cons_zero, List.set_cons_succ]
            refine wpAnyH_take (i := 1) (v := ?vr2_1) (Fr.take_at rfl) (by kernel_rfl) (by kernel_rfl) (by kernel_rfl) (fun _ _ _ h => h) (Or.inl ⟨by rfl, ?yr2_1⟩) (by assumption) ?nr2_1
            case yr2_1 => (intro w_ hSw; obtain ⟨⟨q0, q1, q2, q3⟩, ⟨q4, q5, q6, q7⟩, _⟩ := hSw; go_simp; (try with_reducible rfl))
            try simp only [Act.put, List.setIfInBounds_toArray, List.set_cons_zero, List.set_cons_succ]
            refine wpAnyH_take (i := 2) (v := ?vr2_2) (Fr.take_at rfl) (by kernel_rfl) (by kernel_rfl) (by kernel_rfl) (fun _ _ _ h => h) (Or.inl ⟨by rfl, ?yr2_2⟩) (by assumption) ?nr2_2
            case yr2_2 => (intro w_ hSw; obtain ⟨⟨q0, q1, q2, q3⟩, ⟨q4, q5, q6, q7⟩, _⟩ := hSw; go_simp; (try with_reducible rfl))
            try simp only [Act.put, List.setIfInBounds_toArray, List.set_cons_zero, List.set_cons_succ]
            refine wpAnyH_take (i := 3) (v := ?vr2_3) (Fr.take_at rfl) (by kernel_rfl) (by kernel_rfl) (by kernel_rfl) (fun _ _ _ h => h) (Or.inl ⟨by rfl, ?yr2_3⟩) (by assumption) ?nr2_3
            case yr2_3 => (intro w_ hSw; obtain ⟨⟨q0, q1, q2, q3⟩, ⟨q4, q5, q6, q7⟩, _⟩ := hSw; go_simp; (try with_reducible rfl))
            try simp only [Act.put, List.setIfInBounds_toArray, List.set_cons_zero, List.set_cons_succ]
            refine wpAnyH_take (i := 4) (v := ?vr2_4) (Fr.take_at rfl) (by kernel_rfl) (by kernel_rfl) (by kernel_rfl) (fun _ _ _ h => h) (Or.inl ⟨by rfl, ?yr2_4⟩) (by assumption) ?nr2_4
            case yr2_4 => (intro w_ hSw; obtain ⟨⟨q0, q1, q2, q3⟩, ⟨q4, q5, q6, q7⟩, _⟩ := hSw; go_simp; (try with_reducible rfl))
            try simp only [Act.put, List.setIfInBounds_toArray, List.set_cons_zero, List.set_cons_succ]
            refine wpAnyH_take (i := 5) (v := ?vr2_5) (Fr.take_at rfl) (by kernel_rfl) (by kernel_rfl) (by kernel_rfl) (fun _ _ _ h => h) (Or.inl ⟨by rfl, ?yr2_5⟩) (by assumption) ?nr2_5
            case yr2_5 => (intro w_ hSw; obtain ⟨⟨q0, q1, q2, q3⟩, ⟨q4, q5, q6, q7⟩, _⟩ := hSw; go_simp; (try with_reducible rfl))
            try simp only [Act.put, List.setIfInBounds_toArray, List.set_cons_zero, List.set_cons_succ]
            refine wpAnyH_take (i := 6) (v := ?vr2_6) (Fr.take_at rfl) (by kernel_rfl) (by kernel_rfl) (by kernel_rfl) (fun _ _ _ h => h) (Or.inl ⟨by rfl, ?yr2_6⟩) (by assumption) ?nr2_6
            case yr2_6 => (intro w_ hSw; obtain ⟨⟨q0, q1, q2, q3⟩, ⟨q4, q5, q6, q7⟩, _⟩ := hSw; go_simp; (try with_reducible rfl))
            try simp only [Act.put, List.setIfInBounds_toArray, List.set_cons_zero, List.set_cons_succ]
            refine wpAnyH_take (i := 7) (v := ?vr2_7) (Fr.take_at rfl) (by kernel_rfl) (by kernel_rfl) (by kernel_rfl) (fun _ _ _ h => h) (Or.inl ⟨by rfl, ?yr2_7⟩) (by assumption) ?nr2_7
            case yr2_7 => (intro w_ hSw; obtain ⟨⟨q0, q1, q2, q3⟩, ⟨q4, q5, q6, q7⟩, _⟩ := hSw; go_simp; (try with_reducible rfl))
            try simp only [Act.put, List.setIfInBounds_toArray, List.set_cons_zero, List.set_cons_succ]
            refine wpAnyH_take (i := 8) (v := ?vr2_8) (Fr.take_at rfl) (by kernel_rfl) (by kernel_rfl) (by kernel_rfl) (fun _ _ _ h => h) (Or.inl ⟨by rfl, ?yr2_8⟩) (by assumption) ?nr2_8
            case yr2_8 => (intro w_ hSw; obtain ⟨⟨q0, q1, q2, q3⟩, ⟨q4, q5, q6, q7⟩, _⟩ := hSw; go_simp; (try with_reducible rfl))
            try simp only [Act.put, List.setIfInBounds_toArray, List.set_cons_zero, List.set_cons_succ]
            refine wpAnyH_take (i := 9) (v := ?vr2_9) (Fr.take_at rfl) (by kernel_rfl) (by kernel_rfl) (by kernel_rfl) (fun _ _ _ h => h) (Or.inl ⟨by rfl, ?yr2_9⟩) (by assumption) ?nr2_9
            case yr2_9 => (intro w_ hSw; obtain ⟨⟨q0, q1, q2, q3⟩, ⟨q4, q5, q6, q7⟩, _⟩ := hSw; go_simp; (try with_reducible rfl))
            try simp only [Act.put, List.setIfInBounds_toArray, List.set_cons_zero, List.set_cons_succ]
            refine wpAnyH_take (i := 10) (v := ?vr2_10) (Fr.take_at rfl) (by kernel_rfl) (by kernel_rfl) (by kernel_rfl) (fun _ _ _ h => h) (Or.inl ⟨by rfl, ?yr2_10⟩) (by assumption) ?nr2_10
            case yr2_10 => (intro w_ hSw; obtain ⟨⟨q0, q1, q2, q3⟩, ⟨q4, q5, q6, q7⟩, _⟩ := hSw; go_simp; (try with_reducible rfl))
            try simp only [Act.put, List.setIfInBounds_toArray, List.set_cons_zero, List.set_cons_succ]
            refine wpAnyH_take (i := 11) (v := ?vr2_11) (Fr.take_at rfl) (by kernel_rfl) (by kernel_rfl) (by kernel_rfl) (fun _ _ _ h => h) (Or.inl ⟨by rfl, ?yr2_11⟩) (by assumption) ?nr2_11
            case yr2_11 => (intro w_ hSw; obtain ⟨⟨q0, q1, q2, q3⟩, ⟨q4, q5, q6, q7⟩, _⟩ := hSw; go_simp; (try with_reducible rfl))
            try simp only [Act.put, List.setIfInBounds_toArray, List.set_cons_zero, List.set_cons_succ]
            refine wpAnyH_ready (rs := [12]) (by kernel_rfl) (by simp) ?_
            refine AllReadyH.cons (Fr.take_at rfl) (fun K hK => ?_) AllReadyH.nil
            go_simp
            (go_at_call 38; refine (HCM.out _).mono ?_; rintro e w9 ⟨rfl, hb9⟩; have hS9 := ReS.below hHeld hb9; have hb10 : Below w.heap.size w w9 := Below.trans (Below.drew hb2') (hb9.mono (Below.size (Below.drew hb2'))))
            try go_wp2_with fail
            refine hK.out _ _ (by (first | (with_reducible assumption) | (with_reducible exact ReS.drew (by assumption)))) (fun hHeld => ?_)
            clear hK K
            try simp only [Act.put, List.setIfInBounds_toArray, List.set_cons_zero, List.set_cons_succ]
            refine wpAnyH_take (i := 13) (v := ?vr2_13) (Fr.take_at rfl) (by kernel_rfl) (by kernel_rfl) (by kernel_rfl) (fun _ _ _ h => h) (Or.inl ⟨by rfl, ?yr2_13⟩) (by assumption) ?nr2_13
            case yr2_13 => (intro w_ hSw; obtain ⟨⟨q0, q1, q2, q3⟩, ⟨q4, q5, q6, q7⟩, _⟩ := hSw; go_simp; (try with_reducible rfl))
            try simp only [Act.put, List.setIfInBounds_toArray, List.set_cons_zero, List.set_cons_succ]
            refine wpAnyH_take (i := 14) (v := ?vr2_14) (Fr.take_at rfl) (by kernel_rfl) (by kernel_rfl) (by kernel_rfl) (fun _ _ _ h => h) (Or.inl ⟨by rfl, ?yr2_14⟩) (by assumption) ?nr2_14
            case yr2_14 => (intro w_ hSw; obtain ⟨⟨q0, q1, q2, q3⟩, ⟨q4, q5, q6, q7⟩, _⟩ := hSw; go_simp; (try with_reducible rfl))
            try simp only [Act.put, List.setIfInBounds_toArray, List.set_cons_zero, List.set_cons_succ]
            refine wpAnyH_done (by kernel_rfl) ?_ _
            go_wp2
            go_roundw
            case rel => exact ⟨i + 1 + 1, by omega, by go_num, HNx, Lib.hid hb10⟩
            case measure => simp [intOf]; omega
          | false =>
            have hbf : ¬ bef y x.k x.seq := of_decide_eq_false hu
            rw [if_neg hbf] at hZ
            subst hZ
            clear hbf hu
            go_wp2_with (go_at_call 37; refine (HC.out _).mono ?_; rintro e w2 ⟨rfl, hb2⟩)
            have hb2' : Below w.heap.size w w2 := HB.out.trans (hb2.mono HB.out.size)
            have hS1 : ReS g (p + i * 4) (p + (i + 1) * 4) y x w2 := ReS.below (HS1.out) hb2
            refine wp_region_held_drew (S := ReS g (p + i * 4) (p + (i + 1) * 4) y x) (by kernel_rfl) (by (first | (with_reducible assumption) | (with_reducible exact ReS.drew (by assumption)))) (fun hHeld => ?_)
            refine wpAnyH_take (i := 0) (v := ?vr3_0) (Fr.take_at rfl) (by kernel_rfl) (by kernel_rfl) (by kernel_rfl) (fun _ _ _ h => h) (Or.inl ⟨by rfl, ?yr3_0⟩) (by assumption) ?nr3_0
            case yr3_0 => (intro w_ hSw; obtain ⟨⟨q0, q1, q2, q3⟩, ⟨q4, q5, q6, q7⟩, _⟩ := hSw; go_simp; (try with_reducible rfl))
            try simp only [Act.put, List.setIfInBounds_toArray, List.set_cons_zero, List.set_cons_succ]
            refine wpAnyH_take (i := 1) (v := ?vr3_1) (Fr.take_at rfl) (by kernel_rfl) (by kernel_rfl) (by kernel_rfl) (fun _ _ _ h => h) (Or.inl ⟨by rfl, ?yr3_1⟩) (by assumption) ?nr3_1
            case yr3_1 => (intro w_ hSw; obtain ⟨⟨q0, q1, q2, q3⟩, ⟨q4, q5, q6, q7⟩, _⟩ := hSw; go_simp; (try with_reducible rfl))
            try simp only [Act.put, List.setIfInBounds_toArray, List.set_cons_zero, List.set_cons_succ]
            refine wpAnyH_take (i := 2) (v := ?vr3_2) (Fr.take_at rfl) (by kernel_rfl) (by kernel_rfl) (by kernel_rfl) (fun _ _ _ h => h) (Or.inl ⟨by rfl, ?yr3_2⟩) (by assumption) ?nr3_2
            case yr3_2 => (intro w_ hSw; obtain ⟨⟨q0, q1, q2, q3⟩, ⟨q4, q5, q6, q7⟩, _⟩ := hSw; go_simp; (try with_reducible rfl))
            try simp only [Act.put, List.setIfInBounds_toArray, List.set_cons_zero, List.set_cons_succ]
            refine wpAnyH_take (i := 3) (v := ?vr3_3) (Fr.take_at rfl) (by kernel_rfl) (by kernel_rfl) (by kernel_rfl) (fun _ _ _ h => h) (Or.inl ⟨by rfl, ?yr3_3⟩) (by assumption) ?nr3_3
            case yr3_3 => (intro w_ hSw; obtain ⟨⟨q0, q1, q2, q3⟩, ⟨q4, q5, q6, q7⟩, _⟩ := hSw; go_simp; (try with_reducible rfl))
            try simp only [Act.put, List.setIfInBounds_toArray, List.set_cons_zero, List.set_cons_succ]
            refine wpAnyH_take (i := 4) (v := ?vr3_4) (Fr.take_at rfl) (by kernel_rfl) (by kernel_rfl) (by kernel_rfl) (fun _ _ _ h => h) (Or.inl ⟨by rfl, ?yr3_4⟩) (by assumption) ?nr3_4
            case yr3_4 => (intro w_ hSw; obtain ⟨⟨q0, q1, q2, q3⟩, ⟨q4, q5, q6, q7⟩, _⟩ := hSw; go_simp; (try with_reducible rfl))
            try simp only [Act.put, List.setIfInBounds_toArray, List.set_cons_zero, List.set_cons_succ]
            refine wpAnyH_take (i := 5) (v := ?vr3_5) (Fr.take_at rfl) (by kernel_rfl) (by kernel_rfl) (by kernel_rfl) (fun _ _ _ h => h) (Or.inl ⟨by rfl, ?yr3_5⟩) (by assumption) ?nr3_5
            case yr3_5 => (intro w_ hSw; obtain ⟨⟨q0, q1, q2, q3⟩, ⟨q4, q5, q6, q7⟩, _⟩ := hSw; go_simp; (try with_reducible rfl))
            try simp only [Act.put, List.setIfInBounds_toArray, List.set_cons_zero, List.set_cons_succ]
            refine wpAnyH_take (i := 6) (v := ?vr3_6) (Fr.take_at rfl) (by kernel_rfl) (by kernel_rfl) (by kernel_rfl) (fun _ _ _ h => h) (Or.inl ⟨by rfl, ?yr3_6⟩) (by assumption) ?nr3_6
            case yr3_6 => (intro w_ hSw; obtain ⟨⟨q0, q1, q2, q3⟩, ⟨q4, q5, q6, q7⟩, _⟩ := hSw; go_simp; (try with_reducible rfl))
            try simp only [Act.put, List.setIfInBounds_toArray, List.set_cons_zero, List.set_cons_succ]
            refine wpAnyH_take (i := 7) (v := ?vr3_7) (Fr.take_at rfl) (by kernel_rfl) (by kernel_rfl) (by kernel_rfl) (fun _ _ _ h => h) (Or.inl ⟨by rfl, ?yr3_7⟩) (by assumption) ?nr3_7
            case yr3_7 => (intro w_ hSw; obtain ⟨⟨q0, q1, q2, q3⟩, ⟨q4, q5, q6, q7⟩, _⟩ := hSw; go_simp; (try with_reducible rfl))
            try simp only [Act.put, List.setIfInBounds_toArray, List.set_cons_zero, List.set_cons_succ]
            refine wpAnyH_take (i := 8) (v := ?vr3_8) (Fr.take_at rfl) (by kernel_rfl) (by kernel_rfl) (by kernel_rfl) (fun _ _ _ h => h) (Or.inl ⟨by rfl, ?yr3_8⟩) (by assumption) ?nr3_8
            case yr3_8 => (intro w_ hSw; obtain ⟨⟨q0, q1, q2, q3⟩, ⟨q4, q5, q6, q7⟩, _⟩ := hSw; go_simp; (try with_reducible rfl))
            try simp only [Act.put, List.setIfInBounds_toArray, List.set_cons_zero, List.set_cons_succ]
            refine wpAnyH_take (i := 9) (v := ?vr3_9) (Fr.take_at rfl) (by kernel_rfl) (by kernel_rfl) (by kernel_rfl) (fun _ _ _ h => h) (Or.inl ⟨by rfl, ?yr3_9⟩) (by assumption) ?nr3_9
            case yr3_9 => (intro w_ hSw; obtain ⟨⟨q0, q1, q2, q3⟩, ⟨q4, q5, q6, q7⟩, _⟩ := hSw; go_simp; (try with_reducible rfl))
            try simp only [Act.put, List.setIfInBounds_toArray, List.set_cons_zero, List.set_cons_succ]
            refine wpAnyH_take (i := 10) (v := ?vr3_10) (Fr.take_at rfl) (by kernel_rfl) (by kernel_rfl) (by kernel_rfl) (fun _ _ _ h => h) (Or.inl ⟨by rfl, ?yr3_10⟩) (by assumption) ?nr3_10
            case yr3_10 => (intro w_ hSw; obtain ⟨⟨q0, q1, q2, q3⟩, ⟨q4, q5, q6, q7⟩, _⟩ := hSw; go_simp; (try with_reducible rfl))
            try simp only [Act.put, List.setIfInBounds_toArray, List.set_cons_zero, List.set_cons_succ]
            refine wpAnyH_take (i := 11) (v := ?vr3_11) (Fr.take_at rfl) (by kernel_rfl) (by kernel_rfl) (by kernel_rfl) (fun _ _ _ h => h) (Or.inl ⟨by rfl, ?yr3_11⟩) (by assumption) ?nr3_11
            case yr3_11 => (intro w_ hSw; obtain ⟨⟨q0, q1, q2, q3⟩, ⟨q4, q5, q6, q7⟩, _⟩ := hSw; go_simp; (try with_reducible rfl))
            try simp only [Act.put, List.setIfInBounds_toArray, List.set_cons_zero, List.set_cons_succ]
            refine wpAnyH_ready (rs := [12]) (by kernel_rfl) (by simp) ?_
            refine AllReadyH.cons (Fr.take_at rfl) (fun K hK => ?_) AllReadyH.nil
            go_simp
            (go_at_call 38; refine (HCM.out _).mono ?_; rintro e w9 ⟨rfl, hb9⟩; have hS9 := ReS.below hHeld hb9; have hb10 : Below w.heap.size w w9 := Below.trans (Below.drew hb2') (hb9.mono (Below.size (Below.drew hb2'))))
            try go_wp2_with fail
            refine hK.out _ _ (by (first | (with_reducible assumption) | (with_reducible exact ReS.drew (by assumption)))) (fun hHeld => ?_)
            clear hK K
            try simp only [Act.put, List.setIfInBounds_toArray, List.set_cons_zero, List.set_cons_succ]
            refine wpAnyH_take (i := 13) (v := ?vr3_13) (Fr.take_at rfl) (by kernel_rfl) (by kernel_rfl) (by kernel_rfl) (fun _ _ _ h => h) (Or.inl ⟨by rfl, ?yr3_13⟩) (by assumption) ?nr3_13
            case yr3_13 => (intro w_ hSw; obtain ⟨⟨q0, q1, q2, q3⟩, ⟨q4, q5, q6, q7⟩, _⟩ := hSw; go_simp; (try with_reducible rfl))
            try simp only [Act.put, List.setIfInBounds_toArray, List.set_cons_zero, List.set_cons_succ]
            refine wpAnyH_take (i := 14) (v := ?vr3_14) (Fr.take_at rfl) (by kernel_rfl) (by kernel_rfl) (by kernel_rfl) (fun _ _ _ h => h) (Or.inl ⟨by rfl, ?yr3_14⟩) (by assumption) ?nr3_14
            case yr3_14 => (intro w_ hSw; obtain ⟨⟨q0, q1, q2, q3⟩, ⟨q4, q5, q6, q7⟩, _⟩ := hSw; go_simp; (try with_reducible rfl))
            try simp only [Act.put, List.setIfInBounds_toArray, List.set_cons_zero, List.set_cons_succ]
            refine wpAnyH_done (by kernel_rfl) ?_ _
            go_wp2
            go_ret
            exact ⟨rfl, hb10⟩
      · have kq : (q != 0) = true := by simpa using hq0
        have HQ := Lib.hid (show q = z by rw [← hZ, listF_bad (by rw [hq]; exact hq0), hq])
        clear hZ hq
        go_wp2_with (go_at_call 37; refine (HC.out _).mono ?_; rintro e w2 ⟨rfl, hb2⟩)
        go_ret
        exact ⟨by rw [← HQ.out]; rfl, HB.out.trans (hb2.mono HB.out.size)⟩
    · obtain rfl : j = n := by omega
      have k2 : ¬ (j : Int) < (j : Int) := by omega
      have hZ := HZ.out
      rw [List.drop_eq_nil_of_le (by have := HL.out; omega), listF] at hZ
      subst hZ
      go_wp2
      go_ret
      exact ⟨rfl, HB.out⟩
end
/-- Four bytes. -/
theorem four_any (z : Nat) (w : World) (hz : z < 4294967296) : Calls Tryd.prog 43 #[.int .i64 (z : Int)] w fun e w' => e = .returned (.slice (some ⟨w.heap.size, 0, none⟩) 4 4) ∧ Rd w' (some ⟨w.heap.size, 0, none⟩) (bv (le4 z)) ∧ Below w.heap.size w w' := by
  have hle := le4_rd hz 5 w
  have HLE := Lib.hid hle
  clear hle
  go_enter Tryd.func43, Tryd.ntmps43
  go_wp2
  go_ret
  exact ⟨rfl, HLE.out, (Below.refl _ _).alloc (Nat.le_refl _) _⟩
end Ss
end Go.Proofs.YtadlhnjnhllpfaaDoor
