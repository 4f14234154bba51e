/-
  WHAT IS PROVED: what the reference's Delete and Arm do. CONDITIONS: the list stands in memory as named.
-/
import Derived.Test.YtljhedgcpbapdaaRWalkF
namespace Go.Proofs.Ytljhedgcpbapdaa
open Go Go.RowKit Go.Maps Go.Proofs.Ytljhedgcpbapdaa.Fr
namespace Dr

section
variable {w : World} {T : Nat → Prop} {v : Value} {st : St}
set_option maxRecDepth 100000 in
set_option maxHeartbeats 1000000 in
theorem rdelete_any (h : RefRep w T v st) (hok : st.Ok) (hstep : st.steps + 1 ≤ 9223372036854775807) (s : ByteArray) (hs : s.size ≤ maxLen) :
    Calls Try.prog 40 #[v, .string s] w (RRet2 T w (st.delete s.data.toList)) := by
  have HREP := Lib.hid fun W (hb : Below w.heap.size w W) => h.below hb
  have HOK := Lib.hid hok
  have HLOOK := Lib.hid fun W (hb : Below w.heap.size w W) => rlook_any (h.below hb) hok s hs
  obtain ⟨A, c, rfl, hl, hlc⟩ := refV_of h
  have HL := Lib.hid hl
  obtain ⟨k, hk⟩ : ∃ k, st.look s.data.toList = k := ⟨_, rfl⟩
  rw [hk] at HLOOK
  have HKK := Lib.hid hk
  clear h hl hok hk
  go_enter Try.func40, Try.ntmps40
  go_wp2_with fail
  obtain ⟨W1, hW1⟩ : ∃ W1, W1 = (w.alloc (.cells #[.slice A st.files.length c, .int .i64 (st.steps : Int), .bool st.armed, .int .i64 (st.left : Int)] 26)).alloc (.cells #[.slice none 0 0, .int .i64 0, .bool false, .int .i64 0] 26) := ⟨_, rfl⟩
  rw [← hW1]
  have hs1 : W1.heap.size = w.heap.size + 2 := by rw [hW1]; simp
  have hbw1 : Below w.heap.size w W1 := by rw [hW1]; exact ((Below.refl _ _).alloc (Nat.le_refl _) _).alloc (by simp) _
  have k1 : Blk W1 w.heap.size 26 #[.slice A st.files.length c, .int .i64 (st.steps : Int), .bool st.armed, .int .i64 (st.left : Int)] := by rw [hW1]; exact (Blk.new w _ _).alloc _
  have k2 : Blk W1 (w.heap.size + 1) 26 #[.slice none 0 0, .int .i64 0, .bool false, .int .i64 0] := by rw [hW1]; exact blk_new' (by simp)
  clear hW1
  refine (HLOOK.out W1 hbw1).mono ?_
  rintro e w2 ⟨rfl, hb2⟩
  have hs2 := hb2.size
  have hbw2 : Below w.heap.size w w2 := hbw1.trans (hb2.mono hbw1.size)
  have HK1 := Lib.hid (k1.under hb2 (by omega))
  have HK2 := Lib.hid (k2.under hb2 (by omega))
  clear k1 k2
  obtain ⟨a0, a1, a2, a3⟩ := blk_cells4 HK1.out
  obtain ⟨b0, b1, b2, b3⟩ := blk_cells4 HK2.out
  obtain ⟨f0, f1, f2, f3⟩ := blk_free4 HK2.out
  by_cases hz : k = 0
  · have HZ := Lib.hid (show st.look s.data.toList = 0 by rw [HKK.out]; exact hz)
    have HE := Lib.hid (delete_ok HZ.out)
    subst hz
    have hd := (look_zero HZ.out).2.2
    have HD := Lib.hid hd
    clear hd
    have HSTEP : Hid (∀ W, Below w.heap.size w W → Calls Try.prog 48 #[.agg #[.slice A st.files.length c, .int .i64 (st.steps : Int), .bool st.armed, .int .i64 (st.left : Int)]] W (RRet T W st.step)) := fun W hb => rstep_any (HREP.out W hb) HD.out hstep HOK.out.left
    go_wp2_with (first
      | (go_at_call 48; refine (HSTEP.out _ hbw2).mono ?_; rintro e w5 ⟨v5, rfl, hrep5, hb5⟩; have m2 := HK2.out.under hb5 HK2.out.lt; have M2 := Lib.hid m2; have HWITH := Lib.hid (without_any hrep5 HOK.out.step s); clear m2)
      | (go_at_call 58; refine HWITH.out.mono ?_; intro e w6 hret; obtain ⟨A6, c6, rfl, hl6, hb6⟩ := hret.open_; clear hret; have p2 := M2.out.under hb6 M2.out.lt; have P2 := Lib.hid p2; obtain ⟨q0, q1, q2, q3⟩ := blk_cells4 p2; obtain ⟨z0, z1, z2, z3⟩ := blk_free4 p2; clear p2))
    rw [HE.out]
    have hb56 : Below w.heap.size w w6 := (hbw2.trans (hb5.mono hbw2.size)).trans (hb6.mono (Nat.le_trans hbw2.size hb5.size))
    have hs5 := hb5.size
    exact bodyPost_ret (results_cell_tmp (by rfl) _ _ _ _ _ _ _ _ (by rfl) (by rfl) (set4_blk P2.out) Try.underlying26 (by rfl) (by kernel_rfl)) rfl
      (RRet2.mk (ListAt.settle hl6 (B := w2.heap.size) (ext_two (Nat.le_refl _) hs5) (by omega) (by omega) HL.out.lt hb56) rfl (set4_below hb56 (by omega)) rfl)
  · have HE := Lib.hid (delete_err HKK.out hz)
    have e1 : ((k : Int) == 0) = false := by rw [beq_eq_false_iff_ne]; omega
    have e2 : ((k : Int) != 0) = true := by simp; omega
    clear hz
    go_wp2
    rw [HE.out]
    exact bodyPost_ret (results_cell_tmp (by rfl) _ _ _ _ _ _ _ _ (by rfl) (by rfl) (set4_blk HK2.out) Try.underlying26 (by rfl) (by kernel_rfl)) rfl (RRet2.same HL.out hbw2 (by omega) rfl)

theorem rarm_any (h : RefRep w T v st) (k : Int) (h0 : -9223372036854775808 ≤ k) (h1 : k ≤ 9223372036854775807) :
    Calls Try.prog 42 #[v, .int .i64 k] w (RRet2 T w (st.arm k)) := by
  have HDD := Lib.hid fun W (hb : Below w.heap.size w W) => rdead_any (h.below hb)
  obtain ⟨A, c, rfl, hl, hlc⟩ := refV_of h
  have HL := Lib.hid hl
  clear h hl
  by_cases hk : k < 0
  · have he : st.arm k = (st, 1) := by unfold St.arm; rw [if_pos hk]
    have HE := Lib.hid he
    clear he
    go_enter Try.func42, Try.ntmps42
    go_wp2
    have hb : Below w.heap.size w _ := ((Below.refl w.heap.size w).alloc (Nat.le_refl _) (.cells #[.slice A st.files.length c, .int .i64 (st.steps : Int), .bool st.armed, .int .i64 (st.left : Int)] 26)).alloc (by simp) (.cells #[.slice A st.files.length c, .int .i64 (st.steps : Int), .bool st.armed, .int .i64 (st.left : Int)] 26)
    rw [HE.out]
    exact bodyPost_ret (v := .tuple #[.agg #[.slice A st.files.length c, .int .i64 (st.steps : Int), .bool st.armed, .int .i64 (st.left : Int)], .int .i64 1]) (by simp [results, Try.results42, go_sem]) rfl (RRet2.mk (HL.out.ext hb) rfl hb rfl)
  · have hk' : 0 ≤ k := by omega
    cases hd : st.dead
    all_goals
      first
        | (have he : st.arm k = ({ st with armed := true, left := k.toNat }, 0) := by (unfold St.arm; rw [if_neg hk, hd]; rfl))
        | (have he : st.arm k = (st, 6) := by (unfold St.arm; rw [if_neg hk, hd]; rfl))
      have HE := Lib.hid he
      have HD := Lib.hid hd
      clear he hk hd
      go_enter Try.func42, Try.ntmps42
      go_wp2_with fail
      obtain ⟨W1, hW1⟩ : ∃ W1, W1 = (w.alloc (.cells #[.slice A st.files.length c, .int .i64 (st.steps : Int), .bool st.armed, .int .i64 (st.left : Int)] 26)).alloc (.cells #[.slice none 0 0, .int .i64 0, .bool false, .int .i64 0] 26) := ⟨_, rfl⟩
      rw [← hW1]
      have hs1 : W1.heap.size = w.heap.size + 2 := by rw [hW1]; simp
      have hbw1 : Below w.heap.size w W1 := by rw [hW1]; exact ((Below.refl _ _).alloc (Nat.le_refl _) _).alloc (by simp) _
      have k1 : Blk W1 w.heap.size 26 #[.slice A st.files.length c, .int .i64 (st.steps : Int), .bool st.armed, .int .i64 (st.left : Int)] := by rw [hW1]; exact (Blk.new w _ _).alloc _
      have k2 : Blk W1 (w.heap.size + 1) 26 #[.slice none 0 0, .int .i64 0, .bool false, .int .i64 0] := by rw [hW1]; exact blk_new' (by simp)
      clear hW1
      refine (HDD.out W1 hbw1).mono ?_
      rw [HD.out]
      rintro e w2 ⟨rfl, hb2⟩
      have hs2 := hb2.size
      have hbw2 : Below w.heap.size w w2 := hbw1.trans (hb2.mono hbw1.size)
      have HK1 := Lib.hid (k1.under hb2 (by omega))
      have HK2 := Lib.hid (k2.under hb2 (by omega))
      clear k1 k2
      obtain ⟨a0, a1, a2, a3⟩ := blk_cells4 HK1.out
      obtain ⟨g0, g1, g2, g3⟩ := blk_free4 HK1.out
      obtain ⟨b0, b1, b2, b3⟩ := blk_cells4 HK2.out
      obtain ⟨f0, f1, f2, f3⟩ := blk_free4 HK2.out
    · go_wp2
      rw [HE.out]
      have hb3 : Below w.heap.size w ((w2.setCell ⟨w.heap.size, 2, none⟩ (.bool true)).setCell ⟨w.heap.size, 3, none⟩ (.int .i64 k)) := (hbw2.setCell (p := ⟨w.heap.size, 2, none⟩) (Nat.le_refl _) _).setCell (p := ⟨w.heap.size, 3, none⟩) (Nat.le_refl _) _
      have hk2 : Blk ((w2.setCell ⟨w.heap.size, 2, none⟩ (.bool true)).setCell ⟨w.heap.size, 3, none⟩ (.int .i64 k)) (w.heap.size + 1) 26 #[.slice none 0 0, .int .i64 0, .bool false, .int .i64 0] :=
        (HK2.out.same (Below.heap_setCell w2 ⟨w.heap.size, 2, none⟩ (.bool true) (w.heap.size + 1) (by show w.heap.size + 1 ≠ w.heap.size; omega))).same (Below.heap_setCell _ ⟨w.heap.size, 3, none⟩ _ (w.heap.size + 1) (by show w.heap.size + 1 ≠ w.heap.size; omega))
      exact bodyPost_ret (results_cell_tmp (by rfl) _ _ _ _ _ _ _ _ (by rfl) (by rfl) (set4_blk hk2) Try.underlying26 (by rfl) (by kernel_rfl)) rfl (RRet2.mk (HL.out.ext (set4_below hb3 (by omega))) rfl (set4_below hb3 (by omega)) (refV_mk rfl rfl (by simp; omega)))
    · go_wp2
      rw [HE.out]
      exact bodyPost_ret (results_cell_tmp (by rfl) _ _ _ _ _ _ _ _ (by rfl) (by rfl) (set4_blk HK2.out) Try.underlying26 (by rfl) (by kernel_rfl)) rfl (RRet2.same HL.out hbw2 (by omega) rfl)
end
end Dr
end Go.Proofs.Ytljhedgcpbapdaa
