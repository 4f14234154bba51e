/-
  WHAT IS PROVED: what the reference's Rename does. CONDITIONS: the list stands in memory as named.
-/
import Derived.Test.YtljhedgcpbapdaaRWalkH
namespace Go.Proofs.Ytljhedgcpbapdaa
open Go Go.RowKit Go.Maps Go.Proofs.Ytljhedgcpbapdaa.Fr
namespace Dr

theorem ok_del {st : St} {n : Bs} (h : st.Ok) : ({ st with files := del n st.files } : St).Ok := ⟨h.rising.del n, Nat.le_trans (length_del_le _ _) h.few, fun f hf => h.file f (mem_del hf).1, h.left⟩
theorem ext_three {T : Nat → Prop} {W W5 W5' W6 w7 : World} {w6 : World} {B : Nat} (h1 : B ≤ W.heap.size) (h2 : W.heap.size ≤ W5'.heap.size) (h3 : W.heap.size ≤ W6.heap.size) : ∀ k, Dr.ext (Dr.ext (Dr.ext T W W5) W5' w6) W6 w7 k → T k ∨ B ≤ k := fun k hk => by
  rcases hk with hk | hk
  · exact ext_two h1 h2 k hk
  · exact .inr (by omega)
theorem ext_four {T : Nat → Prop} {W W5 W5' W6 w7 W9 w8 : World} {w6 : World} {B : Nat} (h1 : B ≤ W.heap.size) (h2 : W.heap.size ≤ W5'.heap.size) (h3 : W.heap.size ≤ W6.heap.size) (h4 : W.heap.size ≤ W9.heap.size) : ∀ k, Dr.ext (Dr.ext (Dr.ext (Dr.ext T W W5) W5' w6) W6 w7) W9 w8 k → T k ∨ B ≤ k := fun k hk => by
  rcases hk with hk | hk
  · exact ext_three h1 h2 h3 k hk
  · exact .inr (by omega)
theorem far4 {W : World} {g g' : Nat} {t : TypeId} {cs : Array Value} {a0 a1 a2 a3 : Value} (h : Blk W g t cs) (hne : g ≠ g') : Blk (set4 W g' a0 a1 a2 a3) g t cs :=
  (((h.same (Below.heap_setCell _ _ _ _ hne)).same (Below.heap_setCell _ _ _ _ hne)).same (Below.heap_setCell _ _ _ _ hne)).same (Below.heap_setCell _ _ _ _ hne)
section
variable {w : World} {T : Nat → Prop} {v : Value} {st : St}
set_option maxRecDepth 100000 in
set_option maxHeartbeats 2000000 in
theorem rrename_any (h : RefRep w T v st) (hok : st.Ok) (hstep : st.steps + 1 ≤ 9223372036854775807) (s u : ByteArray) (hs : s.size ≤ maxLen) (hu : u.size ≤ maxLen) :
    Calls Try.prog 39 #[v, .string s, .string u] w (RRet2 T w (st.rename s.data.toList u.data.toList)) := by
  have HREP := Lib.hid fun W (hb : Below w.heap.size w W) => h.below hb
  have HOK := Lib.hid hok
  have HLOOK := Lib.hid fun W (hb : Below w.heap.size w W) => rlook_any (h.below hb) hok s hs
  have HAT := Lib.hid fun W (hb : Below w.heap.size w W) => at_any (h.below hb) hok s
  obtain ⟨A, c, rfl, hl, hlc⟩ := refV_of h
  have HL := Lib.hid hl
  obtain ⟨k, hk⟩ : ∃ k, st.look s.data.toList = k := ⟨_, rfl⟩
  rw [hk] at HLOOK
  have HKK := Lib.hid hk
  have hc := fun W => rname_any u W hu
  clear h hl hok hk
  cases hnu : nameOk u.data.toList
  · have HE := Lib.hid (rename_bad (st := st) (n := s.data.toList) hnu)
    rw [hnu] at hc
    clear hnu
    go_enter Try.func39, Try.ntmps39
    go_wp2_with (go_at_call 32; refine (hc _).mono ?_; rintro e w' ⟨rfl, rfl⟩)
    have hb : Below w.heap.size w _ := ((Below.refl w.heap.size w).alloc (Nat.le_refl _) (.cells #[.slice A st.files.length c, .int .i64 (st.steps : Int), .bool st.armed, .int .i64 (st.left : Int)] 26)).alloc (by simp) (.cells #[.slice A st.files.length c, .int .i64 (st.steps : Int), .bool st.armed, .int .i64 (st.left : Int)] 26)
    rw [HE.out]
    exact bodyPost_ret (v := .tuple #[.agg #[.slice A st.files.length c, .int .i64 (st.steps : Int), .bool st.armed, .int .i64 (st.left : Int)], .int .i64 20]) (by simp [results, Try.results39, go_sem]) rfl (RRet2.mk (HL.out.ext hb) rfl hb rfl)
  rw [hnu] at hc
  have HNU := Lib.hid hnu
  clear hnu
  go_enter Try.func39, Try.ntmps39
  go_wp2_with (go_at_call 32; refine (hc _).mono ?_; rintro e w' ⟨rfl, rfl⟩)
  obtain ⟨W1, hW1⟩ : ∃ W1, W1 = (w.alloc (.cells #[.slice A st.files.length c, .int .i64 (st.steps : Int), .bool st.armed, .int .i64 (st.left : Int)] 26)).alloc (.cells #[.slice none 0 0, .int .i64 0, .bool false, .int .i64 0] 26) := ⟨_, rfl⟩
  rw [← hW1]
  have hs1 : W1.heap.size = w.heap.size + 2 := by rw [hW1]; simp
  have hbw1 : Below w.heap.size w W1 := by rw [hW1]; exact ((Below.refl _ _).alloc (Nat.le_refl _) _).alloc (by simp) _
  have k1 : Blk W1 w.heap.size 26 #[.slice A st.files.length c, .int .i64 (st.steps : Int), .bool st.armed, .int .i64 (st.left : Int)] := by rw [hW1]; exact (Blk.new w _ _).alloc _
  have k2 : Blk W1 (w.heap.size + 1) 26 #[.slice none 0 0, .int .i64 0, .bool false, .int .i64 0] := by rw [hW1]; exact blk_new' (by simp)
  clear hW1
  refine (HLOOK.out W1 hbw1).mono ?_
  rintro e w2 ⟨rfl, hb2⟩
  have hs2 := hb2.size
  have hbw2 : Below w.heap.size w w2 := hbw1.trans (hb2.mono hbw1.size)
  have HK1 := Lib.hid (k1.under hb2 (by omega))
  have HK2 := Lib.hid (k2.under hb2 (by omega))
  clear k1 k2
  by_cases hz : k = 0
  · have HZ := Lib.hid (show st.look s.data.toList = 0 by rw [HKK.out]; exact hz)
    obtain ⟨_, ⟨f, hfi⟩, hd⟩ := look_zero HZ.out
    have HE := Lib.hid (rename_ok HNU.out HZ.out hfi)
    subst hz
    have HD := Lib.hid hd
    have HFI := Lib.hid hfi
    obtain ⟨i, hi⟩ : ∃ i : Nat, st.files[i]? = some f := by
      obtain ⟨i, hi, he⟩ := List.getElem_of_mem (find_some hfi).1
      exact ⟨i, by rw [List.getElem?_eq_getElem hi, he]⟩
    have hlen := HOK.out.file f (find_some hfi).1
    obtain ⟨hf1, hf2, _⟩ := hlen
    have HUNI : Hid (∀ j, st.files[j]? = some f → j = i) := fun j hj => idx_unique HOK.out.rising hi hj
    obtain ⟨gb, rfl, hgb, x0, x1, x2⟩ := (HL.out.below hbw2).file hi
    have hil : i < st.files.length := (List.getElem?_eq_some_iff.1 hi).1
    have hfew := HOK.out.few
    obtain ⟨a0, a1, a2, a3⟩ := blk_cells4 HK1.out
    have hgw : w.heap.size < w2.heap.size := by omega
    have hne1 : ¬ w.heap.size = w2.heap.size := by omega
    have hne2 : ¬ gb = w2.heap.size := by omega
    have hne3 : ¬ w2.heap.size = w.heap.size := by omega
    have hne4 : ¬ w2.heap.size = gb := by omega
    clear hd hfi hi
    go_upto_region 6 with (fail)
    go_cut [9] (Took w (some ⟨gb, 0, none⟩) c st (w.heap.size + 1) f)
    case first =>
      go_region_held3 (fun W => W.cell? ⟨w.heap.size, 0, none⟩ = some (.slice (some ⟨gb, 0, none⟩) st.files.length c) ∧ W.cell? ⟨w.heap.size, 1, none⟩ = some (.int .i64 (st.steps : Int)) ∧ W.cell? ⟨w.heap.size, 2, none⟩ = some (.bool st.armed) ∧ W.cell? ⟨w.heap.size, 3, none⟩ = some (.int .i64 (st.left : Int)) ∧ W.cell? ⟨gb, i * 3, none⟩ = some (.string ⟨f.name.toArray⟩) ∧ W.cell? ⟨gb, i * 3 + 1, none⟩ = some (.string ⟨f.dat.toArray⟩) ∧ W.cell? ⟨gb, i * 3 + 2, none⟩ = some (.int .i64 (f.syn : Int)))
        (first | (refine ⟨?_, ?_, ?_, ?_, ?_, ?_, ?_⟩ <;> with_reducible assumption) | go_keep)
        (first
          | (go_at_call 33; refine (HAT.out _ hbw2.drew).mono ?_; intro e w3 hra; have hra2 := rat_some hra HFI.out; obtain ⟨j, f'', HI, rfl, hb3⟩ := hra2; clear hra; have hb3' := below_of_drew hb3; have hij := HUNI.out j (HI.out.2 ▸ HI.out.1); subst hij; have kc := fun b o (h : b < w2.heap.size) => hb3'.cell (p := ⟨b, o, none⟩) h; have y0 := (kc _ _ hgb).trans x0; have y1 := (kc _ _ hgb).trans x1; have y2 := (kc _ _ hgb).trans x2; have c0 := (kc _ _ hgw).trans a0; have c1 := (kc _ _ hgw).trans a1; have c2 := (kc _ _ hgw).trans a2; have c3 := (kc _ _ hgw).trans a3; clear kc)
          | (go_at_call 33; refine (HAT.out _ (hbw2.drew.alloc hbw2.size _)).mono ?_; intro e w3 hra; have hra2 := rat_some hra HFI.out; obtain ⟨j, f'', HI, rfl, hb3⟩ := hra2; clear hra; have hb3' := below_of_drew (box_trans hb3); obtain ⟨HZB, z0, z1, z2, u0, u1, u2⟩ := box3_facts hb3; have hij := HUNI.out j (HI.out.2 ▸ HI.out.1); subst hij; have kc := fun b o (h : b < w2.heap.size) => hb3'.cell (p := ⟨b, o, none⟩) h; have y0 := (kc _ _ hgb).trans x0; have y1 := (kc _ _ hgb).trans x1; have y2 := (kc _ _ hgb).trans x2; have c0 := (kc _ _ hgw).trans a0; have c1 := (kc _ _ hgw).trans a1; have c2 := (kc _ _ hgw).trans a2; have c3 := (kc _ _ hgw).trans a3; clear kc))
      · go_wp2_with fail
        go_meet
        case rel => exact ⟨w3.heap.size, rfl, by have := hb3'.size; omega, took_below hbw2 hb3', (HK1.out.under hb3' HK1.out.lt).alloc _, (HK2.out.under hb3' HK2.out.lt).alloc _, Blk.new w3 _ _⟩
      · go_wp2_with fail
        go_meet
        case rel =>
          have n1 := HK1.out.under hb3' HK1.out.lt
          have n2 := HK2.out.under hb3' HK2.out.lt
          have hb3w : Below w.heap.size w w3 := hbw2.trans (hb3'.mono hbw2.size)
          refine ⟨w2.heap.size, rfl, by omega, ((hb3w.setCell (p := ⟨w2.heap.size, 0, none⟩) hbw2.size _).setCell (p := ⟨w2.heap.size, 1, none⟩) hbw2.size _).setCell (p := ⟨w2.heap.size, 2, none⟩) hbw2.size _, far3 n1 hne1, far3 n2 (by omega), ?_⟩
          have := ((HZB.out.set 0 (.string ⟨f.name.toArray⟩)).set 1 (.string ⟨f.dat.toArray⟩)).set 2 (.int .i64 (f.syn : Int))
          simpa using this
    case rest =>
      obtain ⟨g, rfl, hg, hbwc, B1, B2, B3⟩ := hcut
      have J1 := Lib.hid B1
      have J2 := Lib.hid B2
      have J3 := Lib.hid B3
      clear B1 B2 B3 x0 x1 x2 a0 a1 a2 a3
      have hgl : g < wc.heap.size := J3.out.lt
      have hng1 : ¬ g = w.heap.size + 1 := by omega
      have hng2 : ¬ w.heap.size + 1 = g := by omega
      have hng3 : ¬ g = w.heap.size := by omega
      have hng4 : ¬ w.heap.size = g := by omega
      obtain ⟨a0, a1, a2, a3⟩ := blk_cells4 J1.out
      have HSTEP : Hid (∀ W, Below w.heap.size w W → Calls Try.prog 48 #[.agg #[.slice (some ⟨gb, 0, none⟩) st.files.length c, .int .i64 (st.steps : Int), .bool st.armed, .int .i64 (st.left : Int)]] W (RRet T W st.step)) := fun W hb => rstep_any (HREP.out W hb) HD.out hstep HOK.out.left
      go_upto_region 9 with (first
        | (go_at_call 48; refine (HSTEP.out _ hbwc).mono ?_; rintro e w5 ⟨v5, rfl, hrep5, hb5⟩; have HW5 := Lib.hid (without_any hrep5 HOK.out.step s))
        | (go_at_call_of 58 v5; refine HW5.out.mono ?_; rintro e w6 ⟨v6, rfl, hrep6, hb6⟩; have HW6 := Lib.hid (without_any hrep6 (ok_del HOK.out.step) u))
        | (go_at_call_of 58 v6; refine HW6.out.mono ?_; rintro e w7 hret; obtain ⟨A7, c7, rfl, hl7, hb7⟩ := hret.open_; clear hret; have hb57 := (hb5.trans (hb6.mono hb5.size)).trans (hb7.mono (Nat.le_trans hb5.size hb6.size)); have p1 := J1.out.under hb57 J1.out.lt; have p2 := J2.out.under hb57 J2.out.lt; have p3 := J3.out.under hb57 J3.out.lt; have P1 := Lib.hid p1; have P2 := Lib.hid p2; have P3 := Lib.hid p3; obtain ⟨q0, q1, q2, q3⟩ := blk_cells4 p1; obtain ⟨z0, z1, z2, z3⟩ := blk_free4 p1; obtain ⟨d0, d1, d2⟩ := blk_cells3 p3; have fd0 := p3.frozen 0; clear p1 p2 p3))
      obtain ⟨st7, hst7⟩ : ∃ st7 : St, st7 = { st.step with files := del u.data.toList (del s.data.toList st.step.files) } := ⟨_, rfl⟩
      have hok7 : st7.Ok := by rw [hst7]; exact ok_del (ok_del HOK.out.step)
      obtain ⟨W9, hW9⟩ : ∃ W9, W9 = (set4 w7 w.heap.size (.slice A7 (del u.data.toList (del s.data.toList st.step.files)).length c7) (.int .i64 (st.step.steps : Int)) (.bool st.step.armed) (.int .i64 (st.step.left : Int))).setCell ⟨g, 0, none⟩ (.string u) := ⟨_, rfl⟩
      have hbw7 : Below w.heap.size w w7 := hbwc.trans (hb57.mono hbwc.size)
      have hs57 := hb57.size
      have hs9 : W9.heap.size = w7.heap.size := by rw [hW9]; simp [set4, World.setCell]
      have hbw9 : Below w.heap.size w W9 := by rw [hW9]; exact (set4_below hbw7 (Nat.le_refl _)).setCell (p := ⟨g, 0, none⟩) (by show w.heap.size ≤ g; omega) _
      have l1 : Blk W9 w.heap.size 26 #[.slice A7 st7.files.length c7, .int .i64 (st7.steps : Int), .bool st7.armed, .int .i64 (st7.left : Int)] := by rw [hW9, hst7]; exact (set4_blk P1.out).same (Below.heap_setCell _ _ _ _ (by show w.heap.size ≠ g; omega))
      have l2 : Blk W9 (w.heap.size + 1) 26 #[.slice none 0 0, .int .i64 0, .bool false, .int .i64 0] := by rw [hW9]; exact (far4 P2.out (by omega)).same (Below.heap_setCell _ _ _ _ (by show w.heap.size + 1 ≠ g; omega))
      have l3 : Blk W9 g 74 #[.string u, .string ⟨f.dat.toArray⟩, .int .i64 (f.syn : Int)] := by
        rw [hW9]
        have := (far4 (a0 := (.slice A7 (del u.data.toList (del s.data.toList st.step.files)).length c7)) (a1 := (.int .i64 (st.step.steps : Int))) (a2 := (.bool st.step.armed)) (a3 := (.int .i64 (st.step.left : Int))) P3.out (show g ≠ w.heap.size by omega)).set 0 (.string u)
        simpa using this
      have hrep9 : RefRep W9 (ext (ext (ext T wc w5) w5 w6) w6 w7) (.agg #[.slice A7 st7.files.length c7, .int .i64 (st7.steps : Int), .bool st7.armed, .int .i64 (st7.left : Int)]) st7 := by
        refine ⟨.slice A7 st7.files.length c7, rfl, ?_⟩
        rw [hst7]
        refine hl7.same (fun k hk => ?_) (by omega)
        have h3 := ext_three (B := wc.heap.size) (Nat.le_refl _) hb5.size (Nat.le_trans hb5.size hb6.size) k hk
        have hne : k ≠ g ∧ k ≠ w.heap.size := by
          rcases h3 with h3 | h3
          · have := HL.out.lt k h3; omega
          · omega
        rw [hW9, Below.heap_setCell _ _ _ _ hne.1]
        unfold set4
        rw [Below.heap_setCell _ _ _ _ hne.2, Below.heap_setCell _ _ _ _ hne.2, Below.heap_setCell _ _ _ _ hne.2, Below.heap_setCell _ _ _ _ hne.2]
      have HWITH := Lib.hid (with_any hrep9 hok7 ⟨u.data.toList, f.dat, f.syn⟩)
      unfold set4 at hW9
      rw [← hW9]
      have L2 := Lib.hid l2
      clear q0 q1 q2 q3 z0 z1 z2 z3 d0 d1 d2 fd0 a0 a1 a2 a3 P1 P2 P3
      obtain ⟨a0, a1, a2, a3⟩ := blk_cells4 l1
      obtain ⟨d0, d1, d2⟩ := blk_cells3 l3
      have HST7 := Lib.hid hst7
      clear hW9 l1 l2 l3 hst7 hrep9
      go_wp2_with (go_at_call 34; refine HWITH.out.mono ?_; intro e w8 hret; obtain ⟨A8, c8, rfl, hl8, hb8⟩ := hret.open_; clear hret; have p2 := L2.out.under hb8 L2.out.lt; have P2 := Lib.hid p2; obtain ⟨q0, q1, q2, q3⟩ := blk_cells4 p2; obtain ⟨z0, z1, z2, z3⟩ := blk_free4 p2; clear p2)
      rw [HE.out]
      have hb58 : Below w.heap.size w w8 := hbw9.trans (hb8.mono hbw9.size)
      have hfin : ({ st7 with files := put ⟨u.data.toList, f.dat, f.syn⟩ st7.files } : St) = { st.step with files := put { f with name := u.data.toList } (del s.data.toList st.files) } := by
        rw [HST7.out]
        have := putBy_del (k := fun f : Fl => f.name) (⟨u.data.toList, f.dat, f.syn⟩ : Fl) (del s.data.toList st.step.files)
        show ({ st.step with files := put _ (del u.data.toList _) } : St) = _
        rw [put_by, del_by u.data.toList, this]
        rfl
      rw [← hfin]
      exact bodyPost_ret (results_cell_tmp (by rfl) _ _ _ _ _ _ _ _ (by rfl) (by rfl) (set4_blk P2.out) Try.underlying26 (by rfl) (by kernel_rfl)) rfl
        (RRet2.mk (ListAt.settle hl8 (B := wc.heap.size) (ext_four (Nat.le_refl _) hb5.size (Nat.le_trans hb5.size hb6.size) (by omega)) (by omega) (by omega) HL.out.lt hb58) rfl (set4_below hb58 (by omega)) rfl)
  · obtain ⟨a0, a1, a2, a3⟩ := blk_cells4 HK1.out
    obtain ⟨b0, b1, b2, b3⟩ := blk_cells4 HK2.out
    obtain ⟨f0, f1, f2, f3⟩ := blk_free4 HK2.out
    have HE := Lib.hid (rename_err HNU.out HKK.out hz)
    have e1 : ((k : Int) == 0) = false := by rw [beq_eq_false_iff_ne]; omega
    have e2 : ((k : Int) != 0) = true := by simp; omega
    clear hz
    go_wp2
    rw [HE.out]
    exact bodyPost_ret (results_cell_tmp (by rfl) _ _ _ _ _ _ _ _ (by rfl) (by rfl) (set4_blk HK2.out) Try.underlying26 (by rfl) (by kernel_rfl)) rfl (RRet2.same HL.out hbw2 (by omega) rfl)
end
end Dr
end Go.Proofs.Ytljhedgcpbapdaa
