/-
  WHAT IS PROVED: (1) what the reference's Entry of a table answers. CONDITIONS: the entry is good.
-/
import Derived.Test.YtadlhnjnhllpfaaDoorQSRErr
import Derived.Test.YtadlhnjnhllpfaaDoorQWalkE
namespace Go.Proofs.YtadlhnjnhllpfaaDoor
open Go Go.RowKit Go.Maps Go.Sort Go.Proofs.YtadlhnjnhllpfaaDoor.Mm Go.Proofs.YtadlhnjnhllpfaaDoor.Fr
namespace Ss
theorem le_alloc_ {w : World} {b : Nat} (h : b ≤ w.heap.size) (o : Obj) : b ≤ (w.alloc o).heap.size := by simp; omega
set_option maxRecDepth 100000 in
set_option maxHeartbeats 1000000 in
theorem rentry_any (x : En) (w : World) (hok : entryErr x = 0) :
    Calls Tryd.prog 39 #[.agg #[.string x.key, .int .i64 x.seq, .bool x.del, .string x.val]] w (MadeRet 5 w (encE x)) := by
  obtain ⟨i0, hi, hz, hz1, hz2⟩ := info_parts Fr.info_u8
  obtain ⟨z1, z2, z3, z4⟩ := entry_ok hok
  obtain ⟨N, hN⟩ : ∃ N : Nat, x.seq = (N : Int) := ⟨x.seq.toNat, by omega⟩
  have hNt : x.seq.toNat = N := by omega
  have hel := (encE_len hok).1
  rw [hN]
  obtain ⟨W1, hW1⟩ : ∃ W1, W1 = w.alloc (.cells #[.string x.key, .int .i64 (N : Int), .bool x.del, .string x.val] 42) := ⟨_, rfl⟩
  have hbx : Blk W1 w.heap.size 42 #[.string x.key, .int .i64 (N : Int), .bool x.del, .string x.val] := by rw [hW1]; exact Blk.new _ _ _
  have hb1 : Below w.heap.size w W1 := by rw [hW1]; exact (Below.refl _ _).alloc (Nat.le_refl _) _
  obtain ⟨s1, hs1⟩ : ∃ s, s = textOf x.key.data.toList := ⟨_, rfl⟩
  obtain ⟨s2, hs2⟩ : ∃ s, s = enc N := ⟨_, rfl⟩
  obtain ⟨s3, hs3⟩ : ∃ s, s = textOf x.val.data.toList := ⟨_, rfl⟩
  have hE : encE x = s1 ++ s2 ++ [delB x.del] ++ s3 := by rw [hs1, hs2, hs3, ← hNt]; rfl
  have hl1 : s1.length ≤ 65 := by rw [hs1]; exact text_len z1
  have hl2 : s2.length ≤ 10 := by rw [hs2]; exact len_enc10 (by omega)
  have hl3 : s3.length ≤ 1101 := by rw [hE] at hel; simp only [List.length_append] at hel; omega
  have ht1 := fun W : World => Rtext_any x.key W (by omega)
  have ht2 := fun W : World => Ruint_any N W (by omega)
  have ht3 := fun W : World => Rtext_any x.val W (by omega)
  rw [← hs1] at ht1
  rw [← hs2] at ht2
  rw [← hs3] at ht3
  have HT1 := Lib.hid ht1
  have HT2 := Lib.hid ht2
  have HT3 := Lib.hid ht3
  have HE := Lib.hid hE
  have HBX := Lib.hid hbx
  have HB1 := Lib.hid hb1
  have hwr : IntKind.u64.wrap (N : Int) = (N : Int) := by rw [IntKind.wrap_u64]; omega
  have cc : W1.cell? ⟨w.heap.size, 0, none⟩ = some (.string x.key) ∧ W1.cell? ⟨w.heap.size, 1, none⟩ = some (.int .i64 (N : Int)) := ⟨hbx.cell 0, hbx.cell 1⟩
  clear hs1 hs2 hs3 ht1 ht2 ht3 hE hbx hb1 hel hN hNt z3 z4 hok
  go_enter Tryd.func39, Tryd.ntmps39
  go_upto_region 1 with fail
  rw [← hW1]
  clear hW1
  refine wp_region_held_drew (S := fun W' => W'.cell? ⟨w.heap.size, 0, none⟩ = some (.string x.key) ∧ W'.cell? ⟨w.heap.size, 1, none⟩ = some (.int .i64 (N : Int))) (by kernel_rfl) (by (first | exact cc | (with_reducible assumption))) (fun hHeld => ?_)
  refine wpAnyH_take (i := 0) (v := ?vr1_0) (Fr.take_at rfl) (by kernel_rfl) (by kernel_rfl) (by kernel_rfl) (fun _ _ _ h => h) (Or.inl ⟨by rfl, ?yr1_0⟩) (by assumption) ?nr1_0
  case yr1_0 => (intro w_ hSw; obtain ⟨u0_, u1_⟩ := hSw; go_simp; (try with_reducible rfl))
  try simp only [Act.put, List.setIfInBounds_toArray, List.set_cons_zero, List.set_cons_succ]
  refine wpAnyH_take (i := 1) (v := ?vr1_1) (Fr.take_at rfl) (by kernel_rfl) (by kernel_rfl) (by kernel_rfl) (fun _ _ _ h => h) (Or.inl ⟨by rfl, ?yr1_1⟩) (by assumption) ?nr1_1
  case yr1_1 => (intro w_ hSw; obtain ⟨u0_, u1_⟩ := hSw; go_simp; (try with_reducible rfl))
  try simp only [Act.put, List.setIfInBounds_toArray, List.set_cons_zero, List.set_cons_succ]
  refine wpAnyH_take (i := 3) (v := ?vr1_3) (Fr.take_at rfl) (by kernel_rfl) (by kernel_rfl) (by kernel_rfl) (fun _ _ _ h => h) (Or.inl ⟨by rfl, ?yr1_3⟩) (by assumption) ?nr1_3
  case yr1_3 => (intro w_ hSw; obtain ⟨u0_, u1_⟩ := hSw; go_simp; (try with_reducible rfl))
  try simp only [Act.put, List.setIfInBounds_toArray, List.set_cons_zero, List.set_cons_succ]
  refine wpAnyH_take (i := 4) (v := ?vr1_4) (Fr.take_at rfl) (by kernel_rfl) (by kernel_rfl) (by kernel_rfl) (fun _ _ _ h => h) (Or.inl ⟨by rfl, ?yr1_4⟩) (by assumption) ?nr1_4
  case yr1_4 => (intro w_ hSw; obtain ⟨u0_, u1_⟩ := hSw; go_simp; (try with_reducible rfl))
  try simp only [Act.put, List.setIfInBounds_toArray, List.set_cons_zero, List.set_cons_succ]
  refine wpAnyH_take (i := 5) (v := ?vr1_5) (Fr.take_at rfl) (by kernel_rfl) (by kernel_rfl) (by kernel_rfl) (fun _ _ _ h => h) (Or.inl ⟨by rfl, ?yr1_5⟩) (by assumption) ?nr1_5
  case yr1_5 => (intro w_ hSw; obtain ⟨u0_, u1_⟩ := hSw; go_simp; (try with_reducible rfl))
  try simp only [Act.put, List.setIfInBounds_toArray, List.set_cons_zero, List.set_cons_succ]
  refine wpAnyH_ready (rs := [2]) (by kernel_rfl) (by simp) ?_
  refine AllReadyH.cons (Fr.take_at rfl) (fun K hK => ?_) AllReadyH.nil
  go_simp
  (go_at_call 41; refine (HT1.out _).mono ?_; rintro e w2 ⟨v2, rfl, A2, m2, c2, rfl, hm2, hc2, hown2, hb2⟩; have hx2 := HBX.out.same (hb2.block _ HBX.out.lt); have s2_ : w2.cell? ⟨w.heap.size, 0, none⟩ = some (.string x.key) ∧ w2.cell? ⟨w.heap.size, 1, none⟩ = some (.int .i64 (N : Int)) := ⟨hx2.cell 0, hx2.cell 1⟩)
  try go_wp2_with fail
  refine hK.out _ _ (by (first | exact cc | (with_reducible assumption))) (fun hHeld => ?_)
  clear hK K
  try simp only [Act.put, List.setIfInBounds_toArray, List.set_cons_zero, List.set_cons_succ]
  refine wpAnyH_ready (rs := [6]) (by kernel_rfl) (by simp) ?_
  refine AllReadyH.cons (Fr.take_at rfl) (fun K hK => ?_) AllReadyH.nil
  go_simp
  (go_at_call 42; refine (HT2.out _).mono ?_; rintro e w3 ⟨v3, rfl, A3, m3, c3, rfl, hm3, hc3, hown3, hb3⟩; have hx3 := hx2.same (hb3.block _ hx2.lt); have s3_ : w3.cell? ⟨w.heap.size, 0, none⟩ = some (.string x.key) ∧ w3.cell? ⟨w.heap.size, 1, none⟩ = some (.int .i64 (N : Int)) := ⟨hx3.cell 0, hx3.cell 1⟩; have hB3 := (HB1.out.drew.trans (hb2.mono HB1.out.drew.size)).trans (hb3.mono (HB1.out.drew.trans (hb2.mono HB1.out.drew.size)).size))
  try go_wp2_with fail
  refine hK.out _ _ (by (first | exact cc | (with_reducible assumption))) (fun hHeld => ?_)
  clear hK K
  try simp only [Act.put, List.setIfInBounds_toArray, List.set_cons_zero, List.set_cons_succ]
  refine wpAnyH_ready (rs := [7]) (by kernel_rfl) (by simp) ?_
  refine AllReadyH.cons (Fr.take_at rfl) (fun K hK => ?_) AllReadyH.nil
  rw [if_pos (by rfl)]
  (refine wp_app w3 (.tmp 6) (.tmp 10) _ (by rfl) w.heap.size 5 i0 _ 1 Tryd.underlying25 hi hz hz1 hz2 (by rfl) (.slice A2 m2 c2) m2 (bv s1) (by rfl) (own_mono (own_below hown2 hb3 (Nat.le_refl _)) HB1.out.drew.size) A3 m3 c3 (bv s2) (by rfl) (by rw [bv_length]; exact hm3) (Rd.own hown3) (bv_one _) (m2 + m3) rfl (by unfold maxLen; omega) (by omega) hB3.size ?_; intro A4 c4 w4 hown4 hb4 hg4 _; have hx4 := blk_grown hx3 (own_mono (own_below hown2 hb3 (Nat.le_refl _)) HB1.out.drew.size) (by decide) hg4; have s4_ : w4.cell? ⟨w.heap.size, 0, none⟩ = some (.string x.key) ∧ w4.cell? ⟨w.heap.size, 1, none⟩ = some (.int .i64 (N : Int)) := ⟨hx4.cell 0, hx4.cell 1⟩)
  refine hK.out _ _ (by (first | exact cc | (with_reducible assumption))) (fun hHeld => ?_)
  clear hK K
  try simp only [Act.put, List.setIfInBounds_toArray, List.set_cons_zero, List.set_cons_succ]
  refine wpAnyH_take (i := 8) (v := ?vr1_8) (Fr.take_at rfl) (by kernel_rfl) (by kernel_rfl) (by kernel_rfl) (fun _ _ _ h => h) (Or.inl ⟨by rfl, ?yr1_8⟩) (by assumption) ?nr1_8
  case yr1_8 => (intro w_ hSw; obtain ⟨u0_, u1_⟩ := hSw; go_simp; (try with_reducible rfl))
  try simp only [Act.put, List.setIfInBounds_toArray, List.set_cons_zero, List.set_cons_succ]
  refine wpAnyH_done (by kernel_rfl) ?_ _
  have hB4 := hB3.trans hb4
  have c42 : w4.cell? ⟨w.heap.size, 2, none⟩ = some (.bool x.del) := hx4.cell 2
  have HX4 := Lib.hid hx4
  have HO4 := Lib.hid hown4
  have HB4 := Lib.hid hB4
  have HM2 := Lib.hid hm2
  have HM3 := Lib.hid hm3
  have hm2b : m2 ≤ 65 := by omega
  have hm3b : m3 ≤ 10 := by omega
  clear hx2 hx3 hx4 hown2 hown3 hown4 hb2 hb3 hb4 hB3 hB4 hm2 hm3 hg4 s2_ s3_ s4_ cc HBX HB1 hHeld
  cases hd : x.del with
  | true =>
    rw [hd] at c42
    go_wp2_with (first
      | (at_builtin; refine wpList_app _ rfl (.tmp 14) (.tmp 15) _ rfl w.heap.size 5 i0 _ 1 Tryd.underlying25 hi hz hz1 hz2 rfl (.slice A4 (m2 + m3) c4) (m2 + m3) (bv s1 ++ bv s2) rfl (HO4.out.alloc _) (some ⟨w4.heap.size, 0, none⟩) 1 1 [.int .u8 1] rfl rfl (Rd.one _ _ _ _ _ rfl) (by intro u hu; simp at hu; subst hu; rfl) (m2 + m3 + 1) rfl (by unfold maxLen; omega) (by omega) (le_alloc_ HB4.out.size _) ?_; intro A5 c5 w5 hown5 hb5 hg5 _; have hx5 := blk_grown (HX4.out.alloc (.cells #[.int .u8 1] 5)) (HO4.out.alloc (.cells #[.int .u8 1] 5)) (by decide) hg5; have c53 : w5.cell? ⟨w.heap.size, 3, none⟩ = some (.string x.val) := hx5.cell 3; have hB5 := (HB4.out.alloc HB4.out.size (.cells #[.int .u8 1] 5)).trans hb5; have HO5 := Lib.hid hown5; have HB5 := Lib.hid hB5)
      | (go_at_call 41; refine (HT3.out _).mono ?_; rintro e w6 ⟨v6, rfl, A6, m6, c6, rfl, hm6, hc6, hown6, hb6⟩; have hB6 := HB5.out.trans (hb6.mono HB5.out.size); have hm6b : m6 ≤ 1101 := hm6 ▸ hl3)
      | (at_builtin; refine wpList_app _ rfl (.tmp 20) (.tmp 23) _ rfl w.heap.size 5 i0 _ 1 Tryd.underlying25 hi hz hz1 hz2 rfl (.slice A5 (m2 + m3 + 1) c5) (m2 + m3 + 1) (bv s1 ++ bv s2 ++ [.int .u8 1]) rfl (own_below HO5.out hb6 (Nat.le_refl _)) A6 m6 c6 (bv s3) rfl (by rw [bv_length]; exact hm6) (Rd.own hown6) (bv_one _) (m2 + m3 + 1 + m6) rfl (by unfold maxLen; omega) (by omega) hB6.size ?_; intro A7 c7 w7 hown7 hb7 _ _))
    go_ret
    refine MadeRet.mk (n := m2 + m3 + 1 + m6) ?_ ?_ (hB6.trans hb7)
    · rw [HE.out]; simp only [List.length_append, List.length_singleton, HM2.out, HM3.out, hm6]
    · rw [HE.out, hd]; simp only [bv_append]; exact hown7
  | false =>
    rw [hd] at c42
    go_wp2_with (first
      | (at_builtin; refine wpList_app _ rfl (.tmp 17) (.tmp 18) _ rfl w.heap.size 5 i0 _ 1 Tryd.underlying25 hi hz hz1 hz2 rfl (.slice A4 (m2 + m3) c4) (m2 + m3) (bv s1 ++ bv s2) rfl (HO4.out.alloc _) (some ⟨w4.heap.size, 0, none⟩) 1 1 [.int .u8 0] rfl rfl (Rd.one _ _ _ _ _ rfl) (by intro u hu; simp at hu; subst hu; rfl) (m2 + m3 + 1) rfl (by unfold maxLen; omega) (by omega) (le_alloc_ HB4.out.size _) ?_; intro A5 c5 w5 hown5 hb5 hg5 _; have hx5 := blk_grown (HX4.out.alloc (.cells #[.int .u8 0] 5)) (HO4.out.alloc (.cells #[.int .u8 0] 5)) (by decide) hg5; have c53 : w5.cell? ⟨w.heap.size, 3, none⟩ = some (.string x.val) := hx5.cell 3; have hB5 := (HB4.out.alloc HB4.out.size (.cells #[.int .u8 0] 5)).trans hb5; have HO5 := Lib.hid hown5; have HB5 := Lib.hid hB5)
      | (go_at_call 41; refine (HT3.out _).mono ?_; rintro e w6 ⟨v6, rfl, A6, m6, c6, rfl, hm6, hc6, hown6, hb6⟩; have hB6 := HB5.out.trans (hb6.mono HB5.out.size); have hm6b : m6 ≤ 1101 := hm6 ▸ hl3)
      | (at_builtin; refine wpList_app _ rfl (.tmp 20) (.tmp 23) _ rfl w.heap.size 5 i0 _ 1 Tryd.underlying25 hi hz hz1 hz2 rfl (.slice A5 (m2 + m3 + 1) c5) (m2 + m3 + 1) (bv s1 ++ bv s2 ++ [.int .u8 0]) rfl (own_below HO5.out hb6 (Nat.le_refl _)) A6 m6 c6 (bv s3) rfl (by rw [bv_length]; exact hm6) (Rd.own hown6) (bv_one _) (m2 + m3 + 1 + m6) rfl (by unfold maxLen; omega) (by omega) hB6.size ?_; intro A7 c7 w7 hown7 hb7 _ _))
    go_ret
    refine MadeRet.mk (n := m2 + m3 + 1 + m6) ?_ ?_ (hB6.trans hb7)
    · rw [HE.out]; simp only [List.length_append, List.length_singleton, HM2.out, HM3.out, hm6]
    · rw [HE.out, hd]; simp only [bv_append]; exact hown7
end Ss
end Go.Proofs.YtadlhnjnhllpfaaDoor
