/-
  WHAT IS PROVED: (1) what listError of package sstable answers. CONDITIONS: the entries stand in memory as named.
-/
import Derived.Test.YtadlhnjnhllpfaaDoorQSPlain
import Derived.Test.YtadlhnjnhllpfaaDoorQSOpen
import Derived.Test.YtadlhnjnhllpfaaDoorQMCmp
namespace Go.Proofs.YtadlhnjnhllpfaaDoor
open Go Go.RowKit Go.Maps Go.Sort Go.Proofs.YtadlhnjnhllpfaaDoor.Mm Go.Proofs.YtadlhnjnhllpfaaDoor.Fr
namespace Ss
def prevAt (l : List En) (j : Nat) : Option En := if j = 0 then none else l[j - 1]?
/-- The one before, and the one at hand in its box. -/
structure LeS (g p E : Nat) (y x : En) (W : World) : Prop where
  y : W.cell? ⟨g, p, none⟩ = some (.string y.key) ∧ W.cell? ⟨g, p + 1, none⟩ = some (.int .i64 y.seq) ∧ W.cell? ⟨g, p + 2, none⟩ = some (.bool y.del) ∧ W.cell? ⟨g, p + 3, none⟩ = some (.string y.val)
  x : W.cell? ⟨E, 0, none⟩ = some (.string x.key) ∧ W.cell? ⟨E, 1, none⟩ = some (.int .i64 x.seq) ∧ W.cell? ⟨E, 2, none⟩ = some (.bool x.del) ∧ W.cell? ⟨E, 3, none⟩ = some (.string x.val)
  hg : g < W.heap.size
  hE : E < W.heap.size
theorem LeS.drew {g p E : Nat} {y x : En} {W : World} (h : LeS g p E y x W) : LeS g p E y x W.drew := ⟨h.y, h.x, h.hg, h.hE⟩
theorem LeS.below {g p E : Nat} {y x : En} {W W' : World} (h : LeS g p E y x W) (hb : Below W.heap.size W W') : LeS g p E y x W' := by
  have k := fun o => hb.cell (p := ⟨g, o, none⟩) h.hg
  have k2 := fun o => hb.cell (p := ⟨E, o, none⟩) h.hE
  exact ⟨⟨(k _).trans h.y.1, (k _).trans h.y.2.1, (k _).trans h.y.2.2.1, (k _).trans h.y.2.2.2⟩, ⟨(k2 _).trans h.x.1, (k2 _).trans h.x.2.1, (k2 _).trans h.x.2.2.1, (k2 _).trans h.x.2.2.2⟩, Nat.lt_of_lt_of_le h.hg hb.size, Nat.lt_of_lt_of_le h.hE hb.size⟩
theorem listF_bad {p : Option En} {x : En} {r : List En} (h : entryErr x ≠ 0) : listF p (x :: r) = entryErr x := by unfold listF; rw [if_pos h]
theorem listF_first {x : En} {r : List En} (h : entryErr x = 0) : listF none (x :: r) = listF (some x) r := by rw [listF, if_neg (by simpa using h)]
theorem listF_next {y x : En} {r : List En} (h : entryErr x = 0) : listF (some y) (x :: r) = if bef y x.k x.seq then listF (some x) r else 60 := by rw [listF, if_neg (by simpa using h)]
section
variable {w : World} {A : Option Addr} {n c : Nat} {l : List En}
theorem check_z {x : En} {z : Int} (h : entryErr x = z) : ∀ W : World, Calls Tryd.prog 57 #[.agg #[.string x.key, .int .i64 x.seq, .bool x.del, .string x.val]] W fun e W' => e = .returned (.int .i64 z) ∧ Below W.heap.size W W' := fun W => by
  have := check_any W x
  rwa [h] at this
theorem compare_z {y x : En} {z : Int} (h : cmpE y x = z) : ∀ W : World, Calls Tryd.prog 51 #[.agg #[.string y.key, .int .i64 y.seq, .bool y.del, .string y.val], .agg #[.string x.key, .int .i64 x.seq, .bool x.del, .string x.val]] W fun e W' => e = .returned (.int .i64 z) ∧ Below W.heap.size W W' := fun W => by
  have := compare_any W y x
  rwa [h] at this
set_option maxRecDepth 100000 in
set_option maxHeartbeats 1600000 in
theorem listError_any (hl : l.length = n) (hr : Rd w A (ev l)) (hn : n ≤ 1000000) :
    Calls Tryd.prog 27 #[.slice A n c] w fun e w' => e = .returned (.int .i64 (listErr l)) ∧ Below w.heap.size w w' := by
  obtain ⟨z, hz⟩ : ∃ z, z = listErr l := ⟨_, rfl⟩
  rw [← hz]
  unfold listErr at hz
  rw [hl] at hz
  have HL := Lib.hid hl
  have HR := Lib.hid hr
  clear hl hr
  by_cases h0 : n = 0
  · rw [if_pos h0] at hz
    subst hz h0
    go_enter Tryd.func27, Tryd.ntmps27
    go_wp2
    go_ret
    exact ⟨rfl, Below.refl _ _⟩
  rw [if_neg h0] at hz
  have k0 : ((n : Int) == 0) = false := by rw [beq_eq_false_iff_ne]; omega
  by_cases h84 : 84 < n
  · rw [if_pos h84] at hz
    subst hz
    have k1 : (84 : Int) < (n : Int) := by omega
    go_enter Tryd.func27, Tryd.ntmps27
    go_wp2
    go_ret
    exact ⟨rfl, Below.refl _ _⟩
  rw [if_neg h84] at hz
  have k1 : ¬ (84 : Int) < (n : Int) := by omega
  have HZ : Hid (listF (prevAt l 0) (l.drop 0) = z) := Lib.hid (by rw [hz]; rfl)
  clear hz
  go_enter Tryd.func27, Tryd.ntmps27
  go_wp2
  go_loopw [14] (fun i wr => ∃ j : Nat, j ≤ n ∧ i = .int .i64 (j : Int) ∧ Hid (listF (prevAt l j) (l.drop j) = z) ∧ Hid (Below w.heap.size w wr)) (fun i _ => n - (intOf i).toNat)
  case atStart => exact ⟨0, by omega, rfl, HZ, Lib.hid (Below.refl _ _)⟩
  case round =>
    clear HZ
    obtain ⟨j, hj, rfl, HZ, HB⟩ := hrel
    by_cases hlt : j < n
    · obtain ⟨x, hx⟩ : ∃ x, l[j]? = some x := ⟨l[j]'(by have := HL.out; omega), List.getElem?_eq_getElem _⟩
      have hdr : l.drop j = x :: l.drop (j + 1) := by
        obtain ⟨h1, h2⟩ := List.getElem?_eq_some_iff.1 hx
        rw [← h2, List.drop_eq_getElem_cons h1]
      have hZ := HZ.out
      rw [hdr] at hZ
      obtain ⟨g, p, rfl, hg, x0, x1, x2, x3⟩ := erd_at (HR.out.below HB.out) hx
      have k2 : (j : Int) < (n : Int) := by omega
      have k3 : (0 : Int) ≤ (j : Int) := by omega
      obtain ⟨q, hq⟩ : ∃ q, entryErr x = q := ⟨_, rfl⟩
      have HC := Lib.hid (check_z hq)
      obtain ⟨W1, hW1⟩ : ∃ W1, W1 = wr.alloc (.cells #[.string x.key, .int .i64 x.seq, .bool x.del, .string x.val] 42) := ⟨_, rfl⟩
      obtain ⟨E, hE⟩ : ∃ E, E = wr.heap.size := ⟨_, rfl⟩
      have hbx : Blk W1 E 42 #[.string x.key, .int .i64 x.seq, .bool x.del, .string x.val] := by rw [hW1, hE]; exact Blk.new _ _ _
      have hb1 : Below w.heap.size w W1 := by rw [hW1]; exact HB.out.alloc HB.out.size _
      have HBX := Lib.hid hbx
      have HB1 := Lib.hid hb1
      have HX := Lib.hid hx
      have HDR := Lib.hid hdr
      have HHW := Lib.hid hW1
      have HHE := Lib.hid hE
      clear hbx hb1 hx hdr hW1 hE
      go_upto_region 8 with fail
      rw [← HHW.out, ← HHE.out]
      obtain ⟨⟨y0, y1, y2, y3⟩, _⟩ := cells4 HBX.out
      clear HHW HHE x0 x1 x2 x3
      by_cases hq0 : q = 0
      · subst hq0
        rcases Nat.eq_zero_or_pos j with hj0 | hjp
        · subst hj0
          have HN := Lib.hid (show listF (prevAt l 1) (l.drop 1) = z by rw [← hZ]; unfold prevAt; rw [if_neg (by omega), if_pos rfl, listF_first hq, HX.out])
          clear hZ hq
          go_wp2_with (go_at_call 57; refine (HC.out _).mono ?_; rintro e w2 ⟨rfl, hb2⟩)
          refine wp_region_held_drew (S := fun _ => True) (by kernel_rfl) (by (exact True.intro)) (fun hHeld => ?_)
          refine wpAnyH_take (i := 0) (v := ?vr1_0) (Fr.take_at rfl) (by kernel_rfl) (by kernel_rfl) (by kernel_rfl) (fun _ _ _ h => h) (Or.inl ⟨by rfl, ?yr1_0⟩) (by assumption) ?nr1_0
          case yr1_0 => (intro w_ hSw; (try dsimp only at hSw); go_simp; (try with_reducible rfl))
          try simp only [Act.put, List.setIfInBounds_toArray, List.set_cons_zero, List.set_cons_succ]
          refine wpAnyH_take (i := 1) (v := ?vr1_1) (Fr.take_at rfl) (by kernel_rfl) (by kernel_rfl) (by kernel_rfl) (fun _ _ _ h => h) (Or.inl ⟨by rfl, ?yr1_1⟩) (by assumption) ?nr1_1
          case yr1_1 => (intro w_ hSw; (try dsimp only at hSw); go_simp; (try with_reducible rfl))
          try simp only [Act.put, List.setIfInBounds_toArray, List.set_cons_zero, List.set_cons_succ]
          refine wpAnyH_take (i := 2) (v := ?vr1_2) (Fr.take_at rfl) (by kernel_rfl) (by kernel_rfl) (by kernel_rfl) (fun _ _ _ h => h) (Or.inl ⟨by rfl, ?yr1_2⟩) (by assumption) ?nr1_2
          case yr1_2 => (intro w_ hSw; (try dsimp only at hSw); go_simp; (try with_reducible rfl))
          try simp only [Act.put, List.setIfInBounds_toArray, List.set_cons_zero, List.set_cons_succ]
          refine wpAnyH_take (i := 3) (v := undef) (Fr.take_at rfl) (by kernel_rfl) (by kernel_rfl) (by kernel_rfl) (fun _ _ _ h => h) (Or.inr ⟨by rfl, rfl⟩) (by assumption) ?_
          try simp only [Act.put, List.setIfInBounds_toArray, List.set_cons_zero, List.set_cons_succ]
          refine wpAnyH_take (i := 4) (v := undef) (Fr.take_at rfl) (by kernel_rfl) (by kernel_rfl) (by kernel_rfl) (fun _ _ _ h => h) (Or.inr ⟨by rfl, rfl⟩) (by assumption) ?_
          try simp only [Act.put, List.setIfInBounds_toArray, List.set_cons_zero, List.set_cons_succ]
          refine wpAnyH_take (i := 5) (v := undef) (Fr.take_at rfl) (by kernel_rfl) (by kernel_rfl) (by kernel_rfl) (fun _ _ _ h => h) (Or.inr ⟨by rfl, rfl⟩) (by assumption) ?_
          try simp only [Act.put, List.setIfInBounds_toArray, List.set_cons_zero, List.set_cons_succ]
          refine wpAnyH_take (i := 6) (v := undef) (Fr.take_at rfl) (by kernel_rfl) (by kernel_rfl) (by kernel_rfl) (fun _ _ _ h => h) (Or.inr ⟨by rfl, rfl⟩) (by assumption) ?_
          try simp only [Act.put, List.setIfInBounds_toArray, List.set_cons_zero, List.set_cons_succ]
          refine wpAnyH_take (i := 7) (v := undef) (Fr.take_at rfl) (by kernel_rfl) (by kernel_rfl) (by kernel_rfl) (fun _ _ _ h => h) (Or.inr ⟨by rfl, rfl⟩) (by assumption) ?_
          try simp only [Act.put, List.setIfInBounds_toArray, List.set_cons_zero, List.set_cons_succ]
          refine wpAnyH_take (i := 8) (v := undef) (Fr.take_at rfl) (by kernel_rfl) (by kernel_rfl) (by kernel_rfl) (fun _ _ _ h => h) (Or.inr ⟨by rfl, rfl⟩) (by assumption) ?_
          try simp only [Act.put, List.setIfInBounds_toArray, List.set_cons_zero, List.set_cons_succ]
          refine wpAnyH_take (i := 9) (v := undef) (Fr.take_at rfl) (by kernel_rfl) (by kernel_rfl) (by kernel_rfl) (fun _ _ _ h => h) (Or.inr ⟨by rfl, rfl⟩) (by assumption) ?_
          try simp only [Act.put, List.setIfInBounds_toArray, List.set_cons_zero, List.set_cons_succ]
          refine wpAnyH_take (i := 10) (v := undef) (Fr.take_at rfl) (by kernel_rfl) (by kernel_rfl) (by kernel_rfl) (fun _ _ _ h => h) (Or.inr ⟨by rfl, rfl⟩) (by assumption) ?_
          try simp only [Act.put, List.setIfInBounds_toArray, List.set_cons_zero, List.set_cons_succ]
          refine wpAnyH_take (i := 11) (v := ?vr1_11) (Fr.take_at rfl) (by kernel_rfl) (by kernel_rfl) (by kernel_rfl) (fun _ _ _ h => h) (Or.inl ⟨by rfl, ?yr1_11⟩) (by assumption) ?nr1_11
          case yr1_11 => (intro w_ hSw; (try dsimp only at hSw); go_simp; (try with_reducible rfl))
          try simp only [Act.put, List.setIfInBounds_toArray, List.set_cons_zero, List.set_cons_succ]
          refine wpAnyH_done (by kernel_rfl) ?_ _
          go_wp2
          go_roundw
          case rel => exact ⟨1, by omega, by go_num, HN, Lib.hid ((HB1.out.trans (hb2.mono HB1.out.size)).drew)⟩
          case measure => simp [intOf]; omega
        · obtain ⟨i, rfl⟩ : ∃ i, j = i + 1 := ⟨j - 1, by omega⟩
          obtain ⟨y, hy⟩ : ∃ y, l[i]? = some y := ⟨l[i]'(by have := HL.out; omega), List.getElem?_eq_getElem _⟩
          obtain ⟨u, hu⟩ : ∃ u, cmpE y x = u := ⟨_, rfl⟩
          have HCM := Lib.hid (compare_z hu)
          have hpr : prevAt l (i + 1) = some y := by unfold prevAt; rw [if_neg (by omega), Nat.add_sub_cancel, hy]
          have hpr2 : prevAt l (i + 1 + 1) = some x := by unfold prevAt; rw [if_neg (by omega), Nat.add_sub_cancel, HX.out]
          rw [hpr, listF_next hq] at hZ
          have k4 : (0 : Int) < (i : Int) + 1 := by omega
          have k5 : (i : Int) + 1 - 1 = (i : Int) := by omega
          have k6 : (0 : Int) ≤ (i : Int) := by omega
          have k7 : (i : Int) < (n : Int) := by omega
          have k8 : IntKind.i64.wrap (i : Int) = (i : Int) := IntWalk.i64_in _ (by omega)
          have HPR2 := Lib.hid hpr2
          have HS1 : Hid (LeS g (p + i * 4) E y x W1) := by
            obtain ⟨g', p', e', hg', u0, u1, u2, u3⟩ := erd_at (HR.out.below HB1.out) hy
            cases e'
            exact Lib.hid ⟨⟨u0, u1, u2, u3⟩, ⟨y0, y1, y2, y3⟩, hg', HBX.out.lt⟩
          have hlt2 := cmpE_lt y x
          rw [hu] at hlt2
          clear hpr hpr2 hy hq hu
          by_cases hbf : bef y x.k x.seq
          · rw [if_pos hbf] at hZ
            have HN := Lib.hid (show listF (prevAt l (i + 1 + 1)) (l.drop (i + 1 + 1)) = z by rw [HPR2.out]; exact hZ)
            have kd : decide ((0 : Int) ≤ u) = false := by have := hlt2.2 hbf; simp; omega
            clear hZ hbf hlt2
            go_wp2_with (go_at_call 57; refine (HC.out _).mono ?_; rintro e w2 ⟨rfl, hb2⟩)
            have hb2' : Below w.heap.size w w2 := HB1.out.trans (hb2.mono HB1.out.size)
            have hS1 : LeS g (p + i * 4) E y x w2 := LeS.below (HS1.out) hb2
            refine wp_region_held_drew (S := LeS g (p + i * 4) E y x) (by kernel_rfl) (by (first | (with_reducible assumption) | (with_reducible exact LeS.drew (by assumption)))) (fun hHeld => ?_)
            refine wpAnyH_take (i := 0) (v := ?vr2_0) (Fr.take_at rfl) (by kernel_rfl) (by kernel_rfl) (by kernel_rfl) (fun _ _ _ h => h) (Or.inl ⟨by rfl, ?yr2_0⟩) (by assumption) ?nr2_0
            case yr2_0 => (intro w_ hSw; obtain ⟨⟨q0, q1, q2, q3⟩, ⟨q4, q5, q6, q7⟩, _, _⟩ := hSw; go_simp; (try with_reducible rfl))
            try simp only [Act.put, List.setIfInBounds_toArray, List.set_cons_zero, List.set_cons_succ]
            refine wpAnyH_take (i := 1) (v := ?vr2_1) (Fr.take_at rfl) (by kernel_rfl) (by kernel_rfl) (by kernel_rfl) (fun _ _ _ h => h) (Or.inl ⟨by rfl, ?yr2_1⟩) (by assumption) ?nr2_1
            case yr2_1 => (intro w_ hSw; obtain ⟨⟨q0, q1, q2, q3⟩, ⟨q4, q5, q6, q7⟩, _, _⟩ := hSw; go_simp; (try with_reducible rfl))
            try simp only [Act.put, List.setIfInBounds_toArray, List.set_cons_zero, List.set_cons_succ]
            refine wpAnyH_take (i := 2) (v := ?vr2_2) (Fr.take_at rfl) (by kernel_rfl) (by kernel_rfl) (by kernel_rfl) (fun _ _ _ h => h) (Or.inl ⟨by rfl, ?yr2_2⟩) (by assumption) ?nr2_2
            case yr2_2 => (intro w_ hSw; obtain ⟨⟨q0, q1, q2, q3⟩, ⟨q4, q5, q6, q7⟩, _, _⟩ := hSw; go_simp; (try with_reducible rfl))
            try simp only [Act.put, List.setIfInBounds_toArray, List.set_cons_zero, List.set_cons_succ]
            refine wpAnyH_take (i := 3) (v := ?vr2_3) (Fr.take_at rfl) (by kernel_rfl) (by kernel_rfl) (by kernel_rfl) (fun _ _ _ h => h) (Or.inl ⟨by rfl, ?yr2_3⟩) (by assumption) ?nr2_3
            case yr2_3 => (intro w_ hSw; obtain ⟨⟨q0, q1, q2, q3⟩, ⟨q4, q5, q6, q7⟩, _, _⟩ := hSw; go_simp; (try with_reducible rfl))
            try simp only [Act.put, List.setIfInBounds_toArray, List.set_cons_zero, List.set_cons_succ]
            refine wpAnyH_take (i := 4) (v := ?vr2_4) (Fr.take_at rfl) (by kernel_rfl) (by kernel_rfl) (by kernel_rfl) (fun _ _ _ h => h) (Or.inl ⟨by rfl, ?yr2_4⟩) (by assumption) ?nr2_4
            case yr2_4 => (intro w_ hSw; obtain ⟨⟨q0, q1, q2, q3⟩, ⟨q4, q5, q6, q7⟩, _, _⟩ := hSw; go_simp; (try with_reducible rfl))
            try simp only [Act.put, List.setIfInBounds_toArray, List.set_cons_zero, List.set_cons_succ]
            refine wpAnyH_take (i := 5) (v := ?vr2_5) (Fr.take_at rfl) (by kernel_rfl) (by kernel_rfl) (by kernel_rfl) (fun _ _ _ h => h) (Or.inl ⟨by rfl, ?yr2_5⟩) (by assumption) ?nr2_5
            case yr2_5 => (intro w_ hSw; obtain ⟨⟨q0, q1, q2, q3⟩, ⟨q4, q5, q6, q7⟩, _, _⟩ := hSw; go_simp; (try with_reducible rfl))
            try simp only [Act.put, List.setIfInBounds_toArray, List.set_cons_zero, List.set_cons_succ]
            refine wpAnyH_take (i := 6) (v := ?vr2_6) (Fr.take_at rfl) (by kernel_rfl) (by kernel_rfl) (by kernel_rfl) (fun _ _ _ h => h) (Or.inl ⟨by rfl, ?yr2_6⟩) (by assumption) ?nr2_6
            case yr2_6 => (intro w_ hSw; obtain ⟨⟨q0, q1, q2, q3⟩, ⟨q4, q5, q6, q7⟩, _, _⟩ := hSw; go_simp; (try with_reducible rfl))
            try simp only [Act.put, List.setIfInBounds_toArray, List.set_cons_zero, List.set_cons_succ]
            refine wpAnyH_take (i := 7) (v := ?vr2_7) (Fr.take_at rfl) (by kernel_rfl) (by kernel_rfl) (by kernel_rfl) (fun _ _ _ h => h) (Or.inl ⟨by rfl, ?yr2_7⟩) (by assumption) ?nr2_7
            case yr2_7 => (intro w_ hSw; obtain ⟨⟨q0, q1, q2, q3⟩, ⟨q4, q5, q6, q7⟩, _, _⟩ := hSw; go_simp; (try with_reducible rfl))
            try simp only [Act.put, List.setIfInBounds_toArray, List.set_cons_zero, List.set_cons_succ]
            refine wpAnyH_take (i := 8) (v := ?vr2_8) (Fr.take_at rfl) (by kernel_rfl) (by kernel_rfl) (by kernel_rfl) (fun _ _ _ h => h) (Or.inl ⟨by rfl, ?yr2_8⟩) (by assumption) ?nr2_8
            case yr2_8 => (intro w_ hSw; obtain ⟨⟨q0, q1, q2, q3⟩, ⟨q4, q5, q6, q7⟩, _, _⟩ := hSw; go_simp; (try with_reducible rfl))
            try simp only [Act.put, List.setIfInBounds_toArray, List.set_cons_zero, List.set_cons_succ]
            refine wpAnyH_ready (rs := [9]) (by kernel_rfl) (by simp) ?_
            refine AllReadyH.cons (Fr.take_at rfl) (fun K hK => ?_) AllReadyH.nil
            go_simp
            (go_at_call 51; refine (HCM.out _).mono ?_; rintro e w9 ⟨rfl, hb9⟩; have hS9 := LeS.below hHeld hb9; have hb10 : Below w.heap.size w w9 := Below.trans (Below.drew hb2') (hb9.mono (Below.size (Below.drew hb2'))))
            try go_wp2_with fail
            refine hK.out _ _ (by (first | (with_reducible assumption) | (with_reducible exact LeS.drew (by assumption)))) (fun hHeld => ?_)
            clear hK K
            try simp only [Act.put, List.setIfInBounds_toArray, List.set_cons_zero, List.set_cons_succ]
            refine wpAnyH_take (i := 10) (v := ?vr2_10) (Fr.take_at rfl) (by kernel_rfl) (by kernel_rfl) (by kernel_rfl) (fun _ _ _ h => h) (Or.inl ⟨by rfl, ?yr2_10⟩) (by assumption) ?nr2_10
            case yr2_10 => (intro w_ hSw; obtain ⟨⟨q0, q1, q2, q3⟩, ⟨q4, q5, q6, q7⟩, _, _⟩ := hSw; go_simp; (try with_reducible rfl))
            try simp only [Act.put, List.setIfInBounds_toArray, List.set_cons_zero, List.set_cons_succ]
            refine wpAnyH_take (i := 11) (v := ?vr2_11) (Fr.take_at rfl) (by kernel_rfl) (by kernel_rfl) (by kernel_rfl) (fun _ _ _ h => h) (Or.inl ⟨by rfl, ?yr2_11⟩) (by assumption) ?nr2_11
            case yr2_11 => (intro w_ hSw; obtain ⟨⟨q0, q1, q2, q3⟩, ⟨q4, q5, q6, q7⟩, _, _⟩ := hSw; go_simp; (try with_reducible rfl))
            try simp only [Act.put, List.setIfInBounds_toArray, List.set_cons_zero, List.set_cons_succ]
            refine wpAnyH_done (by kernel_rfl) ?_ _
            go_wp2
            go_roundw
            case rel => exact ⟨i + 1 + 1, by omega, by go_num, HN, Lib.hid hb10⟩
            case measure => simp [intOf]; omega
          · rw [if_neg hbf] at hZ
            subst hZ
            have kd : decide ((0 : Int) ≤ u) = true := by have h3 : ¬ u < 0 := fun h => hbf (hlt2.1 h); simp; omega
            clear hbf hlt2
            go_wp2_with (go_at_call 57; refine (HC.out _).mono ?_; rintro e w2 ⟨rfl, hb2⟩)
            have hb2' : Below w.heap.size w w2 := HB1.out.trans (hb2.mono HB1.out.size)
            have hS1 : LeS g (p + i * 4) E y x w2 := LeS.below (HS1.out) hb2
            refine wp_region_held_drew (S := LeS g (p + i * 4) E y x) (by kernel_rfl) (by (first | (with_reducible assumption) | (with_reducible exact LeS.drew (by assumption)))) (fun hHeld => ?_)
            refine wpAnyH_take (i := 0) (v := ?vr3_0) (Fr.take_at rfl) (by kernel_rfl) (by kernel_rfl) (by kernel_rfl) (fun _ _ _ h => h) (Or.inl ⟨by rfl, ?yr3_0⟩) (by assumption) ?nr3_0
            case yr3_0 => (intro w_ hSw; obtain ⟨⟨q0, q1, q2, q3⟩, ⟨q4, q5, q6, q7⟩, _, _⟩ := hSw; go_simp; (try with_reducible rfl))
            try simp only [Act.put, List.setIfInBounds_toArray, List.set_cons_zero, List.set_cons_succ]
            refine wpAnyH_take (i := 1) (v := ?vr3_1) (Fr.take_at rfl) (by kernel_rfl) (by kernel_rfl) (by kernel_rfl) (fun _ _ _ h => h) (Or.inl ⟨by rfl, ?yr3_1⟩) (by assumption) ?nr3_1
            case yr3_1 => (intro w_ hSw; obtain ⟨⟨q0, q1, q2, q3⟩, ⟨q4, q5, q6, q7⟩, _, _⟩ := hSw; go_simp; (try with_reducible rfl))
            try simp only [Act.put, List.setIfInBounds_toArray, List.set_cons_zero, List.set_cons_succ]
            refine wpAnyH_take (i := 2) (v := ?vr3_2) (Fr.take_at rfl) (by kernel_rfl) (by kernel_rfl) (by kernel_rfl) (fun _ _ _ h => h) (Or.inl ⟨by rfl, ?yr3_2⟩) (by assumption) ?nr3_2
            case yr3_2 => (intro w_ hSw; obtain ⟨⟨q0, q1, q2, q3⟩, ⟨q4, q5, q6, q7⟩, _, _⟩ := hSw; go_simp; (try with_reducible rfl))
            try simp only [Act.put, List.setIfInBounds_toArray, List.set_cons_zero, List.set_cons_succ]
            refine wpAnyH_take (i := 3) (v := ?vr3_3) (Fr.take_at rfl) (by kernel_rfl) (by kernel_rfl) (by kernel_rfl) (fun _ _ _ h => h) (Or.inl ⟨by rfl, ?yr3_3⟩) (by assumption) ?nr3_3
            case yr3_3 => (intro w_ hSw; obtain ⟨⟨q0, q1, q2, q3⟩, ⟨q4, q5, q6, q7⟩, _, _⟩ := hSw; go_simp; (try with_reducible rfl))
            try simp only [Act.put, List.setIfInBounds_toArray, List.set_cons_zero, List.set_cons_succ]
            refine wpAnyH_take (i := 4) (v := ?vr3_4) (Fr.take_at rfl) (by kernel_rfl) (by kernel_rfl) (by kernel_rfl) (fun _ _ _ h => h) (Or.inl ⟨by rfl, ?yr3_4⟩) (by assumption) ?nr3_4
            case yr3_4 => (intro w_ hSw; obtain ⟨⟨q0, q1, q2, q3⟩, ⟨q4, q5, q6, q7⟩, _, _⟩ := hSw; go_simp; (try with_reducible rfl))
            try simp only [Act.put, List.setIfInBounds_toArray, List.set_cons_zero, List.set_cons_succ]
            refine wpAnyH_take (i := 5) (v := ?vr3_5) (Fr.take_at rfl) (by kernel_rfl) (by kernel_rfl) (by kernel_rfl) (fun _ _ _ h => h) (Or.inl ⟨by rfl, ?yr3_5⟩) (by assumption) ?nr3_5
            case yr3_5 => (intro w_ hSw; obtain ⟨⟨q0, q1, q2, q3⟩, ⟨q4, q5, q6, q7⟩, _, _⟩ := hSw; go_simp; (try with_reducible rfl))
            try simp only [Act.put, List.setIfInBounds_toArray, List.set_cons_zero, List.set_cons_succ]
            refine wpAnyH_take (i := 6) (v := ?vr3_6) (Fr.take_at rfl) (by kernel_rfl) (by kernel_rfl) (by kernel_rfl) (fun _ _ _ h => h) (Or.inl ⟨by rfl, ?yr3_6⟩) (by assumption) ?nr3_6
            case yr3_6 => (intro w_ hSw; obtain ⟨⟨q0, q1, q2, q3⟩, ⟨q4, q5, q6, q7⟩, _, _⟩ := hSw; go_simp; (try with_reducible rfl))
            try simp only [Act.put, List.setIfInBounds_toArray, List.set_cons_zero, List.set_cons_succ]
            refine wpAnyH_take (i := 7) (v := ?vr3_7) (Fr.take_at rfl) (by kernel_rfl) (by kernel_rfl) (by kernel_rfl) (fun _ _ _ h => h) (Or.inl ⟨by rfl, ?yr3_7⟩) (by assumption) ?nr3_7
            case yr3_7 => (intro w_ hSw; obtain ⟨⟨q0, q1, q2, q3⟩, ⟨q4, q5, q6, q7⟩, _, _⟩ := hSw; go_simp; (try with_reducible rfl))
            try simp only [Act.put, List.setIfInBounds_toArray, List.set_cons_zero, List.set_cons_succ]
            refine wpAnyH_take (i := 8) (v := ?vr3_8) (Fr.take_at rfl) (by kernel_rfl) (by kernel_rfl) (by kernel_rfl) (fun _ _ _ h => h) (Or.inl ⟨by rfl, ?yr3_8⟩) (by assumption) ?nr3_8
            case yr3_8 => (intro w_ hSw; obtain ⟨⟨q0, q1, q2, q3⟩, ⟨q4, q5, q6, q7⟩, _, _⟩ := hSw; go_simp; (try with_reducible rfl))
            try simp only [Act.put, List.setIfInBounds_toArray, List.set_cons_zero, List.set_cons_succ]
            refine wpAnyH_ready (rs := [9]) (by kernel_rfl) (by simp) ?_
            refine AllReadyH.cons (Fr.take_at rfl) (fun K hK => ?_) AllReadyH.nil
            go_simp
            (go_at_call 51; refine (HCM.out _).mono ?_; rintro e w9 ⟨rfl, hb9⟩; have hS9 := LeS.below hHeld hb9; have hb10 : Below w.heap.size w w9 := Below.trans (Below.drew hb2') (hb9.mono (Below.size (Below.drew hb2'))))
            try go_wp2_with fail
            refine hK.out _ _ (by (first | (with_reducible assumption) | (with_reducible exact LeS.drew (by assumption)))) (fun hHeld => ?_)
            clear hK K
            try simp only [Act.put, List.setIfInBounds_toArray, List.set_cons_zero, List.set_cons_succ]
            refine wpAnyH_take (i := 10) (v := ?vr3_10) (Fr.take_at rfl) (by kernel_rfl) (by kernel_rfl) (by kernel_rfl) (fun _ _ _ h => h) (Or.inl ⟨by rfl, ?yr3_10⟩) (by assumption) ?nr3_10
            case yr3_10 => (intro w_ hSw; obtain ⟨⟨q0, q1, q2, q3⟩, ⟨q4, q5, q6, q7⟩, _, _⟩ := hSw; go_simp; (try with_reducible rfl))
            try simp only [Act.put, List.setIfInBounds_toArray, List.set_cons_zero, List.set_cons_succ]
            refine wpAnyH_take (i := 11) (v := ?vr3_11) (Fr.take_at rfl) (by kernel_rfl) (by kernel_rfl) (by kernel_rfl) (fun _ _ _ h => h) (Or.inl ⟨by rfl, ?yr3_11⟩) (by assumption) ?nr3_11
            case yr3_11 => (intro w_ hSw; obtain ⟨⟨q0, q1, q2, q3⟩, ⟨q4, q5, q6, q7⟩, _, _⟩ := hSw; go_simp; (try with_reducible rfl))
            try simp only [Act.put, List.setIfInBounds_toArray, List.set_cons_zero, List.set_cons_succ]
            refine wpAnyH_done (by kernel_rfl) ?_ _
            go_wp2
            go_ret
            exact ⟨rfl, hb10⟩
      · have kq : (q != 0) = true := by simpa using hq0
        have HQ := Lib.hid (show q = z by rw [← hZ, listF_bad (by rw [hq]; exact hq0), hq])
        clear hZ hq
        go_wp2_with (go_at_call 57; refine (HC.out _).mono ?_; rintro e w2 ⟨rfl, hb2⟩)
        go_ret
        exact ⟨by rw [← HQ.out]; rfl, HB1.out.trans (hb2.mono HB1.out.size)⟩
    · obtain rfl : j = n := by omega
      have k2 : ¬ (j : Int) < (j : Int) := by omega
      have hZ := HZ.out
      rw [List.drop_eq_nil_of_le (by have := HL.out; omega), listF] at hZ
      subst hZ
      go_wp2
      go_ret
      exact ⟨rfl, HB.out⟩
end
end Ss
end Go.Proofs.YtadlhnjnhllpfaaDoor
