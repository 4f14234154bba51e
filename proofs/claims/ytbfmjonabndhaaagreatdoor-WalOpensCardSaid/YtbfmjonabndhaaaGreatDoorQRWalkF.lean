/-
  WHAT IS PROVED: (1) what the reference's Append does with a file that is there. CONDITIONS: the list stands in memory as named.
-/
import Derived.Test.YtbfmjonabndhaaaGreatDoorQRWalkE
import Derived.Deep.Cut
namespace Go.Proofs.YtbfmjonabndhaaaGreatDoor
open Go Go.RowKit Go.Maps Go.Proofs.YtbfmjonabndhaaaGreatDoor.Fr
namespace Dr

section
variable {w : World} {T : Nat → Prop} {v : Value} {st : St}
set_option maxRecDepth 100000 in
set_option maxHeartbeats 1000000 in
theorem rappend_yes (h : RefRep w T v st) (hok : st.Ok) (hstep : st.steps + 1 ≤ 9223372036854775807) (s t : ByteArray) (hs : s.size ≤ maxLen) (ht : t.size ≤ 140737488355328) (hn : nameOk s.data.toList = true) {f : Fl} (hfind : find st.files s.data.toList = some f) :
    Calls Tryz.prog 43 #[v, .string s, .string t] w (RRet2 T w (st.append s.data.toList t.data.toList)) := by
  have hc := fun W => rname_any s W hs
  rw [hn] at hc
  have HREP := Lib.hid fun W (hb : Below w.heap.size w W) => h.below hb
  have HOK := Lib.hid hok
  have HN := Lib.hid hn
  have HFI := Lib.hid hfind
  have HAT := Lib.hid fun W (hb : Below w.heap.size w W) => at_any (h.below hb) hok s
  have HDD := Lib.hid fun W (hb : Below w.heap.size w W) => rdead_any (h.below hb)
  have hfew := hok.few
  obtain ⟨A, c, rfl, hl, hlc⟩ := refV_of h
  have HL := Lib.hid hl
  have hfo := hok.file f (find_some hfind).1
  obtain ⟨hf1, hf2, _⟩ := hfo
  obtain ⟨t2, ht2⟩ : ∃ t2 : ByteArray, t2 = ⟨(f.dat ++ t.data.toList).toArray⟩ := ⟨_, rfl⟩
  have hcat : (⟨f.dat.toArray⟩ : ByteArray) ++ t = t2 := by rw [ht2]; apply ByteArray.ext; simp
  have HT2 := Lib.hid ht2
  clear ht2
  clear h hl hok hn hfind
  go_enter Tryz.func43, Tryz.ntmps43
  go_wp2_with (go_at_call 20; refine (hc _).mono ?_; rintro e w' ⟨rfl, rfl⟩)
  obtain ⟨W1, hW1⟩ : ∃ W1, W1 = ((w.alloc (.cells #[.slice A st.files.length c, .int .i64 (st.steps : Int), .bool st.armed, .int .i64 (st.left : Int)] 35)).alloc (.cells #[.slice none 0 0, .int .i64 0, .bool false, .int .i64 0] 35)).alloc (.cells #[.string s, .string ⟨#[]⟩, .int .i64 0] 64) := ⟨_, rfl⟩
  rw [← hW1]
  have hs1 : W1.heap.size = w.heap.size + 3 := by rw [hW1]; simp
  have hbw1 : Below w.heap.size w W1 := by rw [hW1]; exact (((Below.refl _ _).alloc (Nat.le_refl _) _).alloc (by simp) _).alloc (by simp; omega) _
  have k1 : Blk W1 w.heap.size 35 #[.slice A st.files.length c, .int .i64 (st.steps : Int), .bool st.armed, .int .i64 (st.left : Int)] := by rw [hW1]; exact ((Blk.new w _ _).alloc _).alloc _
  have k2 : Blk W1 (w.heap.size + 1) 35 #[.slice none 0 0, .int .i64 0, .bool false, .int .i64 0] := by rw [hW1]; exact (blk_new' (by simp)).alloc _
  have k3 : Blk W1 (w.heap.size + 1 + 1) 64 #[.string s, .string ⟨#[]⟩, .int .i64 0] := by rw [hW1]; exact blk_new' (by simp)
  clear hW1
  refine (HAT.out W1 hbw1).mono ?_
  intro e w2 hra
  obtain ⟨i, f', HI, rfl, hb2⟩ := rat_some hra HFI.out
  obtain ⟨hi, rfl⟩ := HI.out
  have hil : i < st.files.length := (List.getElem?_eq_some_iff.1 hi).1
  clear hra
  have hs2 := hb2.size
  have hbw2 : Below w.heap.size w w2 := hbw1.trans (hb2.mono hbw1.size)
  have HK1 := Lib.hid (k1.under hb2 (by omega))
  have HK2 := Lib.hid (k2.under hb2 (by omega))
  have HK3 := Lib.hid (k3.under hb2 (by omega))
  clear k1 k2 k3
  obtain ⟨gb, rfl, hgb, x0, x1, x2⟩ := (HL.out.below hbw2).file hi
  obtain ⟨a0, a1, a2, a3⟩ := blk_cells4 HK1.out
  obtain ⟨d0, d1, d2⟩ := blk_cells3 HK3.out
  have fd0 : w2.frozen? ⟨w.heap.size + 1 + 1, 0, none⟩ = false := HK3.out.frozen 0
  have fd1 : w2.frozen? ⟨w.heap.size + 1 + 1, 1, none⟩ = false := HK3.out.frozen 1
  have fd2 : w2.frozen? ⟨w.heap.size + 1 + 1, 2, none⟩ = false := HK3.out.frozen 2
  clear hi HI
  go_upto_region 7 with (fail)
  obtain ⟨W2, hW2⟩ : ∃ W2, W2 = ((w2.setCell ⟨w.heap.size + 1 + 1, 0, none⟩ (.string ⟨f'.name.toArray⟩)).setCell ⟨w.heap.size + 1 + 1, 1, none⟩ (.string ⟨f'.dat.toArray⟩)).setCell ⟨w.heap.size + 1 + 1, 2, none⟩ (.int .i64 (f'.syn : Int)) := ⟨_, rfl⟩
  rw [← hW2]
  have hsz2 : W2.heap.size = w2.heap.size := by rw [hW2]; simp [World.setCell]
  have hbw2' : Below w.heap.size w W2 := by rw [hW2]; exact ((hbw2.setCell (p := ⟨w.heap.size + 1 + 1, 0, none⟩) (by show w.heap.size ≤ w.heap.size + 1 + 1; omega) _).setCell (p := ⟨w.heap.size + 1 + 1, 1, none⟩) (by show w.heap.size ≤ w.heap.size + 1 + 1; omega) _).setCell (p := ⟨w.heap.size + 1 + 1, 2, none⟩) (by show w.heap.size ≤ w.heap.size + 1 + 1; omega) _
  have hfar : ∀ k, k ≠ w.heap.size + 1 + 1 → W2.heap[k]? = w2.heap[k]? := fun k hk => by rw [hW2, Below.heap_setCell _ _ _ _ hk, Below.heap_setCell _ _ _ _ hk, Below.heap_setCell _ _ _ _ hk]
  have HK1' := Lib.hid (HK1.out.same (hfar _ (by omega)))
  have HK2' := Lib.hid (HK2.out.same (hfar _ (by omega)))
  have hk3 : Blk W2 (w.heap.size + 1 + 1) 64 #[.string ⟨f'.name.toArray⟩, .string ⟨f'.dat.toArray⟩, .int .i64 (f'.syn : Int)] := by
    have := ((HK3.out.set 0 (.string ⟨f'.name.toArray⟩)).set 1 (.string ⟨f'.dat.toArray⟩)).set 2 (.int .i64 (f'.syn : Int))
    rw [← hW2] at this
    simpa using this
  have HK3' := Lib.hid hk3
  clear hk3 hW2 hfar a0 a1 a2 a3 d0 d1 d2 fd0 fd1 fd2 HK1 HK2 HK3 x0 x1 x2
  have HK1 := HK1'
  have HK2 := HK2'
  have HK3 := HK3'
  clear HK1' HK2' HK3'
  obtain ⟨a0, a1, a2, a3⟩ := blk_cells4 HK1.out
  obtain ⟨b0, b1, b2, b3⟩ := blk_cells4 HK2.out
  obtain ⟨f0, f1, f2, f3⟩ := blk_free4 HK2.out
  obtain ⟨d0, d1, d2⟩ := blk_cells3 HK3.out
  have fd1 : W2.frozen? ⟨w.heap.size + 1 + 1, 1, none⟩ = false := HK3.out.frozen 1
  by_cases hlong : 262144 < f'.dat.length + t.size
  · have HE := Lib.hid (append_long (st := st) (l := t.data.toList) HN.out (by rw [sizeOf_some HFI.out, size_list]; omega))
    go_wp2
    rw [HE.out]
    exact bodyPost_ret (results_cell_tmp (by rfl) _ _ _ _ _ _ _ _ (by rfl) (by rfl) (set4_blk HK2.out) Tryz.underlying35 (by rfl) (by kernel_rfl)) rfl (RRet2.same HL.out hbw2' (by omega) rfl)
  · have hno : ¬ ((find st.files s.data.toList = none ∧ 256 ≤ st.files.length) ∨ 262144 < st.sizeOf s.data.toList + t.data.toList.length) := by
      rw [sizeOf_some HFI.out, size_list, HFI.out]
      rintro (⟨h, _⟩ | h)
      · cases h
      · omega
    have hlong' : f'.dat.length + t.size ≤ 262144 := by omega
    clear hlong
    have hdd := HDD.out W2 hbw2'
    cases hd : st.dead
    · have HE := Lib.hid (append_more HN.out hno hd HFI.out)
      have HD := Lib.hid hd
      rw [hd] at hdd
      clear hno hd
      go_wp2_with (go_at_call 31; refine hdd.mono ?_; rintro e w3 ⟨rfl, hb3⟩; have j1 := HK1.out.under hb3 HK1.out.lt; have j2 := HK2.out.under hb3 HK2.out.lt; have j3 := HK3.out.under hb3 HK3.out.lt; have J1 := Lib.hid j1; have J2 := Lib.hid j2; have J3 := Lib.hid j3; obtain ⟨a0', a1', a2', a3'⟩ := blk_cells4 j1; obtain ⟨d0', d1', d2'⟩ := blk_cells3 j3; have fd1' := j3.frozen 1; clear j1 j2 j3)
      obtain ⟨W4, hW4⟩ : ∃ W4, W4 = w3.setCell ⟨w.heap.size + 1 + 1, 1, none⟩ (.string t2) := ⟨_, rfl⟩
      rw [← hW4]
      have hs4 : W4.heap.size = w3.heap.size := by rw [hW4]; simp [World.setCell]
      have hs3 := hb3.size
      have hbw4 : Below w.heap.size w W4 := by rw [hW4]; exact (hbw2'.trans (hb3.mono hbw2'.size)).setCell (p := ⟨w.heap.size + 1 + 1, 1, none⟩) (by show w.heap.size ≤ w.heap.size + 1 + 1; omega) _
      have l1 : Blk W4 w.heap.size 35 #[.slice (some ⟨gb, 0, none⟩) st.files.length c, .int .i64 (st.steps : Int), .bool st.armed, .int .i64 (st.left : Int)] := by rw [hW4]; exact J1.out.same (Below.heap_setCell _ _ _ _ (by show w.heap.size ≠ w.heap.size + 1 + 1; omega))
      have l2 : Blk W4 (w.heap.size + 1) 35 #[.slice none 0 0, .int .i64 0, .bool false, .int .i64 0] := by rw [hW4]; exact J2.out.same (Below.heap_setCell _ _ _ _ (by show w.heap.size + 1 ≠ w.heap.size + 1 + 1; omega))
      have l3 : Blk W4 (w.heap.size + 1 + 1) 64 #[.string ⟨f'.name.toArray⟩, .string t2, .int .i64 (f'.syn : Int)] := by rw [hW4]; have := J3.out.set 1 (.string t2); simpa using this
      have L1 := Lib.hid l1
      have L2 := Lib.hid l2
      have L3 := Lib.hid l3
      have HSTEP : Hid (∀ W, Below w.heap.size w W → Calls Tryz.prog 66 #[.agg #[.slice (some ⟨gb, 0, none⟩) st.files.length c, .int .i64 (st.steps : Int), .bool st.armed, .int .i64 (st.left : Int)]] W (RRet T W st.step)) := fun W hb => rstep_any (HREP.out W hb) HD.out hstep HOK.out.left
      have HWF : Hid (∀ (W : World) (v5 : Value) (T5 : Nat → Prop), RefRep W T5 v5 st.step → Calls Tryz.prog 22 #[v5, .agg #[.string ⟨f'.name.toArray⟩, .string t2, .int .i64 (f'.syn : Int)]] W (RRet T5 W { st.step with files := put ⟨f'.name, f'.dat ++ t.data.toList, f'.syn⟩ st.step.files })) := fun W v5 T5 hr => by
        have := with_any hr HOK.out.step ⟨f'.name, f'.dat ++ t.data.toList, f'.syn⟩
        unfold fileV at this
        rw [← HT2.out] at this
        exact this
      clear l1 l2 l3 a0 a1 a2 a3 b0 b1 b2 b3 f0 f1 f2 f3 d0 d1 d2 a0' a1' a2' a3' d0' d1' d2' fd1 fd1'
      obtain ⟨a0, a1, a2, a3⟩ := blk_cells4 L1.out
      obtain ⟨d0, d1, d2⟩ := blk_cells3 L3.out
      clear hW4
      refine wp_region_held_drew (S := fun W => W.cell? ⟨w.heap.size, 0, none⟩ = some (.slice (some ⟨gb, 0, none⟩) st.files.length c) ∧ W.cell? ⟨w.heap.size, 1, none⟩ = some (.int .i64 (st.steps : Int)) ∧ W.cell? ⟨w.heap.size, 2, none⟩ = some (.bool st.armed) ∧ W.cell? ⟨w.heap.size, 3, none⟩ = some (.int .i64 (st.left : Int)) ∧ W.cell? ⟨w.heap.size + 1 + 1, 0, none⟩ = some (.string ⟨f'.name.toArray⟩) ∧ W.cell? ⟨w.heap.size + 1 + 1, 1, none⟩ = some (.string t2) ∧ W.cell? ⟨w.heap.size + 1 + 1, 2, none⟩ = some (.int .i64 (f'.syn : Int))) (by kernel_rfl) (by (first | (refine ⟨?_, ?_, ?_, ?_, ?_, ?_, ?_⟩ <;> with_reducible assumption) | go_keep)) (fun hHeld => ?_)
      refine wpAnyH_take (i := 0) (v := ?vr1_0) (Fr.take_at rfl) (by kernel_rfl) (by kernel_rfl) (by kernel_rfl) (fun _ _ _ h => h) (Or.inl ⟨by rfl, ?yr1_0⟩) (by assumption) ?nr1_0
      case yr1_0 => (intro w_ hSw; (try dsimp only at hSw); go_simp; (try with_reducible rfl))
      try simp only [Act.put, List.setIfInBounds_toArray, List.set_cons_zero, List.set_cons_succ]
      refine wpAnyH_take (i := 2) (v := ?vr1_2) (Fr.take_at rfl) (by kernel_rfl) (by kernel_rfl) (by kernel_rfl) (fun _ _ _ h => h) (Or.inl ⟨by rfl, ?yr1_2⟩) (by assumption) ?nr1_2
      case yr1_2 => (intro w_ hSw; (try dsimp only at hSw); go_simp; (try with_reducible rfl))
      try simp only [Act.put, List.setIfInBounds_toArray, List.set_cons_zero, List.set_cons_succ]
      refine wpAnyH_ready (rs := [1]) (by kernel_rfl) (by simp) ?_
      refine AllReadyH.cons (Fr.take_at rfl) (fun K hK => ?_) AllReadyH.nil
      go_simp
      (go_at_call 66; refine (HSTEP.out _ hbw4.drew).mono ?_; rintro e w5 ⟨v5, rfl, hrep5, hb5⟩; have hb5' := below_of_drew hb5; have m1 := L1.out.under hb5' L1.out.lt; have m3 := L3.out.under hb5' L3.out.lt; obtain ⟨g0, g1, g2, g3⟩ := blk_cells4 m1; obtain ⟨i0, i1, i2⟩ := blk_cells3 m3; have HWITH := Lib.hid (HWF.out _ _ _ hrep5))
      try go_wp2_with fail
      refine hK.out _ _ (by (first | (refine ⟨?_, ?_, ?_, ?_, ?_, ?_, ?_⟩ <;> with_reducible assumption) | go_keep)) (fun hHeld => ?_)
      clear hK K
      try simp only [Act.put, List.setIfInBounds_toArray, List.set_cons_zero, List.set_cons_succ]
      refine wpAnyH_ready (rs := [3]) (by kernel_rfl) (by simp) ?_
      refine AllReadyH.cons (Fr.take_at rfl) (fun K hK => ?_) AllReadyH.nil
      go_simp
      (go_at_call 22; refine HWITH.out.mono ?_; intro e w6 hret; obtain ⟨A6, c6, rfl, hl6, hb6⟩ := hret.open_; clear hret; have p1 := m1.under hb6 m1.lt; have p3 := m3.under hb6 m3.lt; have p2 := (L2.out.under hb5' L2.out.lt).under hb6 (L2.out.under hb5' L2.out.lt).lt; have P2 := Lib.hid p2; obtain ⟨n0, n1, n2, n3⟩ := blk_cells4 p1; obtain ⟨o0, o1, o2⟩ := blk_cells3 p3; obtain ⟨q0, q1, q2, q3⟩ := blk_cells4 p2; obtain ⟨z0, z1, z2, z3⟩ := blk_free4 p2)
      try go_wp2_with fail
      refine hK.out _ _ (by (first | (refine ⟨?_, ?_, ?_, ?_, ?_, ?_, ?_⟩ <;> with_reducible assumption) | go_keep)) (fun hHeld => ?_)
      clear hK K
      try simp only [Act.put, List.setIfInBounds_toArray, List.set_cons_zero, List.set_cons_succ]
      refine wpAnyH_ready (rs := [4]) (by kernel_rfl) (by simp) ?_
      refine AllReadyH.cons (Fr.take_at rfl) (fun K hK => ?_) AllReadyH.nil
      go_simp
      refine hK.out _ _ (by (first | (refine ⟨?_, ?_, ?_, ?_, ?_, ?_, ?_⟩ <;> with_reducible assumption) | go_keep)) (fun hHeld => ?_)
      clear hK K
      try simp only [Act.put, List.setIfInBounds_toArray, List.set_cons_zero, List.set_cons_succ]
      refine wpAnyH_take (i := 5) (v := ?vr1_5) (Fr.take_at rfl) (by kernel_rfl) (by kernel_rfl) (by kernel_rfl) (fun _ _ _ h => h) (Or.inl ⟨by rfl, ?yr1_5⟩) (by assumption) ?nr1_5
      case yr1_5 => (intro w_ hSw; (try dsimp only at hSw); go_simp; (try with_reducible rfl))
      try simp only [Act.put, List.setIfInBounds_toArray, List.set_cons_zero, List.set_cons_succ]
      refine wpAnyH_done (by kernel_rfl) ?_ _
      go_wp2
      rw [HE.out]
      have hb56 : Below w.heap.size w w6 := (hbw4.trans ((below_of_drew hb5).mono hbw4.size)).trans (hb6.mono (Nat.le_trans hbw4.size (below_of_drew hb5).size))
      have hs5 := (below_of_drew hb5).size
      have hset : ListAt w6 _ _ _ := hl6
      exact bodyPost_ret (results_cell_tmp (by rfl) _ _ _ _ _ _ _ _ (by rfl) (by rfl) (set4_blk P2.out) Tryz.underlying35 (by rfl) (by kernel_rfl)) rfl
        (RRet2.mk (ListAt.settle hset (B := W4.heap.size) (ext_two (Nat.le_refl _) hs5) (by omega) (by omega) HL.out.lt hb56) rfl (set4_below hb56 (by omega)) rfl)
    · have HE := Lib.hid (append_dead HN.out hno hd)
      rw [hd] at hdd
      clear hno hd
      go_wp2_with (go_at_call 31; refine hdd.mono ?_; rintro e w3 ⟨rfl, hb3⟩; have j1 := HK1.out.under hb3 HK1.out.lt; have j2 := HK2.out.under hb3 HK2.out.lt; have J2 := Lib.hid j2; obtain ⟨a0', a1', a2', a3'⟩ := blk_cells4 j1; obtain ⟨b0', b1', b2', b3'⟩ := blk_cells4 j2; obtain ⟨f0', f1', f2', f3'⟩ := blk_free4 j2; clear j1 j2)
      rw [HE.out]
      exact bodyPost_ret (results_cell_tmp (by rfl) _ _ _ _ _ _ _ _ (by rfl) (by rfl) (set4_blk J2.out) Tryz.underlying35 (by rfl) (by kernel_rfl)) rfl (RRet2.same HL.out (hbw2'.trans (hb3.mono hbw2'.size)) (by omega) rfl)
/-- Append, whatever comes in. -/
theorem rappend_any (h : RefRep w T v st) (hok : st.Ok) (hstep : st.steps + 1 ≤ 9223372036854775807) (s t : ByteArray) (hs : s.size ≤ maxLen) (ht : t.size ≤ 140737488355328) :
    Calls Tryz.prog 43 #[v, .string s, .string t] w (RRet2 T w (st.append s.data.toList t.data.toList)) := by
  cases hn : nameOk s.data.toList
  · exact rappend_bad h s t hs hn
  · cases hf : find st.files s.data.toList with
    | none => exact rappend_no h hok hstep s t hs (by unfold maxLen; omega) hn hf
    | some f => exact rappend_yes h hok hstep s t hs ht hn hf
end
end Dr
end Go.Proofs.YtbfmjonabndhaaaGreatDoor
