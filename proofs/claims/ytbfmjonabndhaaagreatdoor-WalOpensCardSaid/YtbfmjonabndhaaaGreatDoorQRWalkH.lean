/-
  WHAT IS PROVED: (1) what the reference's Delete and Arm do. CONDITIONS: the list stands in memory as named. (2) what the reference's Sync does. CONDITIONS: the list stands in memory as named.
-/
import Derived.Test.YtbfmjonabndhaaaGreatDoorQRWalkF
import Derived.Deep.DeepCutAuto
namespace Go.Proofs.YtbfmjonabndhaaaGreatDoor
open Go Go.RowKit Go.Maps Go.Proofs.YtbfmjonabndhaaaGreatDoor.Fr
namespace Dr

section
variable {w : World} {T : Nat → Prop} {v : Value} {st : St}
end
end Dr
end Go.Proofs.YtbfmjonabndhaaaGreatDoor
namespace Go.Proofs.YtbfmjonabndhaaaGreatDoor
open Go Go.RowKit Go.Maps Go.Proofs.YtbfmjonabndhaaaGreatDoor.Fr
namespace Dr

/-- Behind the taking of a file out of the list. -/
def Took (w : World) (A : Option Addr) (c : Nat) (st : St) (g' : Nat) (f : Fl) (s7 : Value) (wx : World) : Prop :=
  ∃ g : Nat, s7 = .pointer (some ⟨g, 0, none⟩) ∧ g' < g ∧ Below w.heap.size w wx ∧ Blk wx w.heap.size 35 #[.slice A st.files.length c, .int .i64 (st.steps : Int), .bool st.armed, .int .i64 (st.left : Int)] ∧ Blk wx g' 35 #[.slice none 0 0, .int .i64 0, .bool false, .int .i64 0] ∧
    Blk wx g 64 #[.string ⟨f.name.toArray⟩, .string ⟨f.dat.toArray⟩, .int .i64 (f.syn : Int)]
theorem box3_facts {w w1 : World} {t : TypeId} {a0 a1 a2 : Value} (hb : Below ((w.drew).alloc (.cells #[a0, a1, a2] t)).heap.size ((w.drew).alloc (.cells #[a0, a1, a2] t)) w1) :
    Hid (Blk w1 w.heap.size t #[a0, a1, a2]) ∧ w1.cell? ⟨w.heap.size, 0, none⟩ = some a0 ∧ w1.cell? ⟨w.heap.size, 1, none⟩ = some a1 ∧ w1.cell? ⟨w.heap.size, 2, none⟩ = some a2 ∧ w1.frozen? ⟨w.heap.size, 0, none⟩ = false ∧ w1.frozen? ⟨w.heap.size, 1, none⟩ = false ∧ w1.frozen? ⟨w.heap.size, 2, none⟩ = false := by
  have h1 : Blk w1 w.heap.size t #[a0, a1, a2] := (Blk.new w.drew t _).same (hb.block _ (by simp))
  exact ⟨h1, h1.cell 0, h1.cell 1, h1.cell 2, h1.frozen 0, h1.frozen 1, h1.frozen 2⟩
theorem took_below {w w2 w3 : World} {o : Obj} (h : Below w.heap.size w w2) (k : Below w2.heap.size w2 w3) : Below w.heap.size w (w3.alloc o) := (h.trans (k.mono h.size)).alloc (Nat.le_trans h.size k.size) o
theorem far3 {W : World} {g g' : Nat} {t : TypeId} {cs : Array Value} {a0 a1 a2 : Value} (h : Blk W g t cs) (hne : g ≠ g') : Blk (((W.setCell ⟨g', 0, none⟩ a0).setCell ⟨g', 1, none⟩ a1).setCell ⟨g', 2, none⟩ a2) g t cs :=
  ((h.same (Below.heap_setCell _ _ _ _ hne)).same (Below.heap_setCell _ _ _ _ hne)).same (Below.heap_setCell _ _ _ _ hne)
theorem idx_unique {l : List Fl} (hr : Rising l) {i j : Nat} {f : Fl} (hi : l[i]? = some f) (hj : l[j]? = some f) : j = i := by
  obtain ⟨hi1, hi2⟩ := List.getElem?_eq_some_iff.1 hi
  obtain ⟨hj1, hj2⟩ := List.getElem?_eq_some_iff.1 hj
  rcases Nat.lt_trichotomy i j with h | h | h
  · have := List.pairwise_iff_getElem.1 hr i j hi1 hj1 h
    rw [hi2, hj2] at this
    exact absurd this (lt_irrefl _)
  · exact h.symm
  · have := List.pairwise_iff_getElem.1 hr j i hj1 hi1 h
    rw [hi2, hj2] at this
    exact absurd this (lt_irrefl _)
section
variable {w : World} {T : Nat → Prop} {v : Value} {st : St}
set_option maxRecDepth 100000 in
set_option maxHeartbeats 2000000 in
theorem rsync_any (h : RefRep w T v st) (hok : st.Ok) (hstep : st.steps + 1 ≤ 9223372036854775807) (s : ByteArray) (hs : s.size ≤ maxLen) :
    Calls Tryz.prog 80 #[v, .string s] w (RRet2 T w (st.sync s.data.toList)) := by
  have HREP := Lib.hid fun W (hb : Below w.heap.size w W) => h.below hb
  have HOK := Lib.hid hok
  have HLOOK := Lib.hid fun W (hb : Below w.heap.size w W) => rlook_any (h.below hb) hok s hs
  have HAT := Lib.hid fun W (hb : Below w.heap.size w W) => at_any (h.below hb) hok s
  obtain ⟨A, c, rfl, hl, hlc⟩ := refV_of h
  have HL := Lib.hid hl
  obtain ⟨k, hk⟩ : ∃ k, st.look s.data.toList = k := ⟨_, rfl⟩
  rw [hk] at HLOOK
  have HKK := Lib.hid hk
  clear h hl hok hk
  go_enter Tryz.func80, Tryz.ntmps80
  go_wp2_with fail
  obtain ⟨W1, hW1⟩ : ∃ W1, W1 = (w.alloc (.cells #[.slice A st.files.length c, .int .i64 (st.steps : Int), .bool st.armed, .int .i64 (st.left : Int)] 35)).alloc (.cells #[.slice none 0 0, .int .i64 0, .bool false, .int .i64 0] 35) := ⟨_, rfl⟩
  rw [← hW1]
  have hs1 : W1.heap.size = w.heap.size + 2 := by rw [hW1]; simp
  have hbw1 : Below w.heap.size w W1 := by rw [hW1]; exact ((Below.refl _ _).alloc (Nat.le_refl _) _).alloc (by simp) _
  have k1 : Blk W1 w.heap.size 35 #[.slice A st.files.length c, .int .i64 (st.steps : Int), .bool st.armed, .int .i64 (st.left : Int)] := by rw [hW1]; exact (Blk.new w _ _).alloc _
  have k2 : Blk W1 (w.heap.size + 1) 35 #[.slice none 0 0, .int .i64 0, .bool false, .int .i64 0] := by rw [hW1]; exact blk_new' (by simp)
  clear hW1
  refine (HLOOK.out W1 hbw1).mono ?_
  rintro e w2 ⟨rfl, hb2⟩
  have hs2 := hb2.size
  have hbw2 : Below w.heap.size w w2 := hbw1.trans (hb2.mono hbw1.size)
  have HK1 := Lib.hid (k1.under hb2 (by omega))
  have HK2 := Lib.hid (k2.under hb2 (by omega))
  clear k1 k2
  by_cases hz : k = 0
  · have HZ := Lib.hid (show st.look s.data.toList = 0 by rw [HKK.out]; exact hz)
    obtain ⟨_, ⟨f, hfi⟩, hd⟩ := look_zero HZ.out
    have HE := Lib.hid (sync_ok HZ.out hfi)
    subst hz
    have HD := Lib.hid hd
    have HFI := Lib.hid hfi
    obtain ⟨i, hi⟩ : ∃ i : Nat, st.files[i]? = some f := by
      obtain ⟨i, hi, he⟩ := List.getElem_of_mem (find_some hfi).1
      exact ⟨i, by rw [List.getElem?_eq_getElem hi, he]⟩
    have hlen := HOK.out.file f (find_some hfi).1
    obtain ⟨hf1, hf2, _⟩ := hlen
    have HUNI : Hid (∀ j, st.files[j]? = some f → j = i) := fun j hj => idx_unique HOK.out.rising hi hj
    obtain ⟨gb, rfl, hgb, x0, x1, x2⟩ := (HL.out.below hbw2).file hi
    have hil : i < st.files.length := (List.getElem?_eq_some_iff.1 hi).1
    have hfew := HOK.out.few
    obtain ⟨a0, a1, a2, a3⟩ := blk_cells4 HK1.out
    have hgw : w.heap.size < w2.heap.size := by omega
    have hne1 : ¬ w.heap.size = w2.heap.size := by omega
    have hne2 : ¬ gb = w2.heap.size := by omega
    have hne3 : ¬ w2.heap.size = w.heap.size := by omega
    have hne4 : ¬ w2.heap.size = gb := by omega
    clear hd hfi hi
    go_upto_region 4 with (fail)
    go_cut [7] (Took w (some ⟨gb, 0, none⟩) c st (w.heap.size + 1) f)
    case first =>
      go_region_held3 (fun W => W.cell? ⟨w.heap.size, 0, none⟩ = some (.slice (some ⟨gb, 0, none⟩) st.files.length c) ∧ W.cell? ⟨w.heap.size, 1, none⟩ = some (.int .i64 (st.steps : Int)) ∧ W.cell? ⟨w.heap.size, 2, none⟩ = some (.bool st.armed) ∧ W.cell? ⟨w.heap.size, 3, none⟩ = some (.int .i64 (st.left : Int)) ∧ W.cell? ⟨gb, i * 3, none⟩ = some (.string ⟨f.name.toArray⟩) ∧ W.cell? ⟨gb, i * 3 + 1, none⟩ = some (.string ⟨f.dat.toArray⟩) ∧ W.cell? ⟨gb, i * 3 + 2, none⟩ = some (.int .i64 (f.syn : Int)))
        (first | (refine ⟨?_, ?_, ?_, ?_, ?_, ?_, ?_⟩ <;> with_reducible assumption) | go_keep)
        (first
          | (go_at_call 21; refine (HAT.out _ hbw2.drew).mono ?_; intro e w3 hra; have hra2 := rat_some hra HFI.out; obtain ⟨j, f'', HI, rfl, hb3⟩ := hra2; clear hra; have hb3' := below_of_drew hb3; have hij := HUNI.out j (HI.out.2 ▸ HI.out.1); subst hij; have kc := fun b o (h : b < w2.heap.size) => hb3'.cell (p := ⟨b, o, none⟩) h; have y0 := (kc _ _ hgb).trans x0; have y1 := (kc _ _ hgb).trans x1; have y2 := (kc _ _ hgb).trans x2; have c0 := (kc _ _ hgw).trans a0; have c1 := (kc _ _ hgw).trans a1; have c2 := (kc _ _ hgw).trans a2; have c3 := (kc _ _ hgw).trans a3; clear kc)
          | (go_at_call 21; refine (HAT.out _ (hbw2.drew.alloc hbw2.size _)).mono ?_; intro e w3 hra; have hra2 := rat_some hra HFI.out; obtain ⟨j, f'', HI, rfl, hb3⟩ := hra2; clear hra; have hb3' := below_of_drew (box_trans hb3); obtain ⟨HZB, z0, z1, z2, u0, u1, u2⟩ := box3_facts hb3; have hij := HUNI.out j (HI.out.2 ▸ HI.out.1); subst hij; have kc := fun b o (h : b < w2.heap.size) => hb3'.cell (p := ⟨b, o, none⟩) h; have y0 := (kc _ _ hgb).trans x0; have y1 := (kc _ _ hgb).trans x1; have y2 := (kc _ _ hgb).trans x2; have c0 := (kc _ _ hgw).trans a0; have c1 := (kc _ _ hgw).trans a1; have c2 := (kc _ _ hgw).trans a2; have c3 := (kc _ _ hgw).trans a3; clear kc))
      · go_wp2_with fail
        go_meet
        case rel => exact ⟨w3.heap.size, rfl, by have := hb3'.size; omega, took_below hbw2 hb3', (HK1.out.under hb3' HK1.out.lt).alloc _, (HK2.out.under hb3' HK2.out.lt).alloc _, Blk.new w3 _ _⟩
      · go_wp2_with fail
        go_meet
        case rel =>
          have n1 := HK1.out.under hb3' HK1.out.lt
          have n2 := HK2.out.under hb3' HK2.out.lt
          have hb3w : Below w.heap.size w w3 := hbw2.trans (hb3'.mono hbw2.size)
          refine ⟨w2.heap.size, rfl, by omega, ((hb3w.setCell (p := ⟨w2.heap.size, 0, none⟩) hbw2.size _).setCell (p := ⟨w2.heap.size, 1, none⟩) hbw2.size _).setCell (p := ⟨w2.heap.size, 2, none⟩) hbw2.size _, far3 n1 hne1, far3 n2 (by omega), ?_⟩
          have := ((HZB.out.set 0 (.string ⟨f.name.toArray⟩)).set 1 (.string ⟨f.dat.toArray⟩)).set 2 (.int .i64 (f.syn : Int))
          simpa using this
    case rest =>
      obtain ⟨g, rfl, hg, hbwc, B1, B2, B3⟩ := hcut
      have J1 := Lib.hid B1
      have J2 := Lib.hid B2
      have J3 := Lib.hid B3
      clear B1 B2 B3 x0 x1 x2 a0 a1 a2 a3
      have hgl : g < wc.heap.size := J3.out.lt
      have hng1 : ¬ g = w.heap.size + 1 := by omega
      have hng2 : ¬ w.heap.size + 1 = g := by omega
      have hng3 : ¬ g = w.heap.size := by omega
      have hng4 : ¬ w.heap.size = g := by omega
      obtain ⟨a0, a1, a2, a3⟩ := blk_cells4 J1.out
      obtain ⟨d0, d1, d2⟩ := blk_cells3 J3.out
      have fd2 : wc.frozen? ⟨g, 2, none⟩ = false := J3.out.frozen 2
      go_upto_region 6 with (fail)
      obtain ⟨W4, hW4⟩ : ∃ W4, W4 = wc.setCell ⟨g, 2, none⟩ (.int .i64 (f.dat.length : Int)) := ⟨_, rfl⟩
      rw [← hW4]
      have hs4 : W4.heap.size = wc.heap.size := by rw [hW4]; simp [World.setCell]
      have hbw4 : Below w.heap.size w W4 := by rw [hW4]; exact hbwc.setCell (p := ⟨g, 2, none⟩) (by show w.heap.size ≤ g; omega) _
      have l1 : Blk W4 w.heap.size 35 #[.slice (some ⟨gb, 0, none⟩) st.files.length c, .int .i64 (st.steps : Int), .bool st.armed, .int .i64 (st.left : Int)] := by rw [hW4]; exact J1.out.same (Below.heap_setCell _ _ _ _ (by show w.heap.size ≠ g; omega))
      have l2 : Blk W4 (w.heap.size + 1) 35 #[.slice none 0 0, .int .i64 0, .bool false, .int .i64 0] := by rw [hW4]; exact J2.out.same (Below.heap_setCell _ _ _ _ (by show w.heap.size + 1 ≠ g; omega))
      have l3 : Blk W4 (g) 64 #[.string ⟨f.name.toArray⟩, .string ⟨f.dat.toArray⟩, .int .i64 (f.dat.length : Int)] := by rw [hW4]; have := J3.out.set 2 (.int .i64 (f.dat.length : Int)); simpa using this
      have L1 := Lib.hid l1
      have L2 := Lib.hid l2
      have L3 := Lib.hid l3
      have HSTEP : Hid (∀ W, Below w.heap.size w W → Calls Tryz.prog 66 #[.agg #[.slice (some ⟨gb, 0, none⟩) st.files.length c, .int .i64 (st.steps : Int), .bool st.armed, .int .i64 (st.left : Int)]] W (RRet T W st.step)) := fun W hb => rstep_any (HREP.out W hb) HD.out hstep HOK.out.left
      clear l1 l2 l3 a0 a1 a2 a3 d0 d1 d2 fd2
      obtain ⟨a0, a1, a2, a3⟩ := blk_cells4 L1.out
      obtain ⟨d0, d1, d2⟩ := blk_cells3 L3.out
      clear hW4
      refine wp_region_held_drew (S := fun W => W.cell? ⟨w.heap.size, 0, none⟩ = some (.slice (some ⟨gb, 0, none⟩) st.files.length c) ∧ W.cell? ⟨w.heap.size, 1, none⟩ = some (.int .i64 (st.steps : Int)) ∧ W.cell? ⟨w.heap.size, 2, none⟩ = some (.bool st.armed) ∧ W.cell? ⟨w.heap.size, 3, none⟩ = some (.int .i64 (st.left : Int)) ∧ W.cell? ⟨g, 0, none⟩ = some (.string ⟨f.name.toArray⟩) ∧ W.cell? ⟨g, 1, none⟩ = some (.string ⟨f.dat.toArray⟩) ∧ W.cell? ⟨g, 2, none⟩ = some (.int .i64 (f.dat.length : Int))) (by kernel_rfl) (by (first | (refine ⟨?_, ?_, ?_, ?_, ?_, ?_, ?_⟩ <;> with_reducible assumption) | go_keep)) (fun hHeld => ?_)
      refine wpAnyH_take (i := 0) (v := ?vr1_0) (Fr.take_at rfl) (by kernel_rfl) (by kernel_rfl) (by kernel_rfl) (fun _ _ _ h => h) (Or.inl ⟨by rfl, ?yr1_0⟩) (by assumption) ?nr1_0
      case yr1_0 => (intro w_ hSw; (try dsimp only at hSw); go_simp; (try with_reducible rfl))
      try simp only [Act.put, List.setIfInBounds_toArray, List.set_cons_zero, List.set_cons_succ]
      refine wpAnyH_take (i := 2) (v := ?vr1_2) (Fr.take_at rfl) (by kernel_rfl) (by kernel_rfl) (by kernel_rfl) (fun _ _ _ h => h) (Or.inl ⟨by rfl, ?yr1_2⟩) (by assumption) ?nr1_2
      case yr1_2 => (intro w_ hSw; (try dsimp only at hSw); go_simp; (try with_reducible rfl))
      try simp only [Act.put, List.setIfInBounds_toArray, List.set_cons_zero, List.set_cons_succ]
      refine wpAnyH_ready (rs := [1]) (by kernel_rfl) (by simp) ?_
      refine AllReadyH.cons (Fr.take_at rfl) (fun K hK => ?_) AllReadyH.nil
      go_simp
      (go_at_call 66; refine (HSTEP.out _ hbw4.drew).mono ?_; rintro e w5 ⟨v5, rfl, hrep5, hb5⟩; have hb5' := below_of_drew hb5; have m1 := L1.out.under hb5' L1.out.lt; have m3 := L3.out.under hb5' L3.out.lt; obtain ⟨g0, g1, g2, g3⟩ := blk_cells4 m1; obtain ⟨i0, i1, i2⟩ := blk_cells3 m3; have HWITH := Lib.hid (with_any hrep5 HOK.out.step ⟨f.name, f.dat, f.dat.length⟩))
      try go_wp2_with fail
      refine hK.out _ _ (by (first | (refine ⟨?_, ?_, ?_, ?_, ?_, ?_, ?_⟩ <;> with_reducible assumption) | go_keep)) (fun hHeld => ?_)
      clear hK K
      try simp only [Act.put, List.setIfInBounds_toArray, List.set_cons_zero, List.set_cons_succ]
      refine wpAnyH_ready (rs := [3]) (by kernel_rfl) (by simp) ?_
      refine AllReadyH.cons (Fr.take_at rfl) (fun K hK => ?_) AllReadyH.nil
      go_simp
      (go_at_call 22; refine HWITH.out.mono ?_; intro e w6 hret; obtain ⟨A6, c6, rfl, hl6, hb6⟩ := hret.open_; clear hret; have p1 := m1.under hb6 m1.lt; have p3 := m3.under hb6 m3.lt; have p2 := (L2.out.under hb5' L2.out.lt).under hb6 (L2.out.under hb5' L2.out.lt).lt; have P2 := Lib.hid p2; obtain ⟨n0, n1, n2, n3⟩ := blk_cells4 p1; obtain ⟨o0, o1, o2⟩ := blk_cells3 p3; obtain ⟨q0, q1, q2, q3⟩ := blk_cells4 p2; obtain ⟨z0, z1, z2, z3⟩ := blk_free4 p2)
      try go_wp2_with fail
      refine hK.out _ _ (by (first | (refine ⟨?_, ?_, ?_, ?_, ?_, ?_, ?_⟩ <;> with_reducible assumption) | go_keep)) (fun hHeld => ?_)
      clear hK K
      try simp only [Act.put, List.setIfInBounds_toArray, List.set_cons_zero, List.set_cons_succ]
      refine wpAnyH_ready (rs := [4]) (by kernel_rfl) (by simp) ?_
      refine AllReadyH.cons (Fr.take_at rfl) (fun K hK => ?_) AllReadyH.nil
      go_simp
      refine hK.out _ _ (by (first | (refine ⟨?_, ?_, ?_, ?_, ?_, ?_, ?_⟩ <;> with_reducible assumption) | go_keep)) (fun hHeld => ?_)
      clear hK K
      try simp only [Act.put, List.setIfInBounds_toArray, List.set_cons_zero, List.set_cons_succ]
      refine wpAnyH_take (i := 5) (v := ?vr1_5) (Fr.take_at rfl) (by kernel_rfl) (by kernel_rfl) (by kernel_rfl) (fun _ _ _ h => h) (Or.inl ⟨by rfl, ?yr1_5⟩) (by assumption) ?nr1_5
      case yr1_5 => (intro w_ hSw; (try dsimp only at hSw); go_simp; (try with_reducible rfl))
      try simp only [Act.put, List.setIfInBounds_toArray, List.set_cons_zero, List.set_cons_succ]
      refine wpAnyH_done (by kernel_rfl) ?_ _
      go_wp2
      rw [HE.out]
      have hb56 : Below w.heap.size w w6 := (hbw4.trans ((below_of_drew hb5).mono hbw4.size)).trans (hb6.mono (Nat.le_trans hbw4.size (below_of_drew hb5).size))
      have hs5 := (below_of_drew hb5).size
      have hset : ListAt w6 _ _ _ := hl6
      exact bodyPost_ret (results_cell_tmp (by rfl) _ _ _ _ _ _ _ _ (by rfl) (by rfl) (set4_blk P2.out) Tryz.underlying35 (by rfl) (by kernel_rfl)) rfl
        (RRet2.mk (ListAt.settle hset (B := W4.heap.size) (ext_two (Nat.le_refl _) hs5) (by omega) (by omega) HL.out.lt hb56) rfl (set4_below hb56 (by omega)) rfl)
  · obtain ⟨a0, a1, a2, a3⟩ := blk_cells4 HK1.out
    obtain ⟨b0, b1, b2, b3⟩ := blk_cells4 HK2.out
    obtain ⟨f0, f1, f2, f3⟩ := blk_free4 HK2.out
    have HE := Lib.hid (sync_err HKK.out hz)
    have e1 : ((k : Int) == 0) = false := by rw [beq_eq_false_iff_ne]; omega
    have e2 : ((k : Int) != 0) = true := by simp; omega
    clear hz
    go_wp2
    rw [HE.out]
    exact bodyPost_ret (results_cell_tmp (by rfl) _ _ _ _ _ _ _ _ (by rfl) (by rfl) (set4_blk HK2.out) Tryz.underlying35 (by rfl) (by kernel_rfl)) rfl (RRet2.same HL.out hbw2 (by omega) rfl)
end
end Dr
end Go.Proofs.YtbfmjonabndhaaaGreatDoor
