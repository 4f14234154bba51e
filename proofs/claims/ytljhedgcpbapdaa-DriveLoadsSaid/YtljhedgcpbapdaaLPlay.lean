/-
  WHAT IS PROVED: what the law's 'play' answers, by the kind of the op. CONDITIONS: the drive and the reference stand in memory as one plain drive; the op's rows lie outside the drive's blocks.
-/
import Derived.Test.YtljhedgcpbapdaaLPlayA
namespace Go.Proofs.Ytljhedgcpbapdaa
open Go Go.RowKit Go.Maps Go.Proofs.Ytljhedgcpbapdaa.Fr
namespace Dr
section
variable {w : World} {S T : Nat → Prop} {b : Nat} {st : St} {v : Value} {o : POp} {AB AK : Option Addr} {nB cB nK cK : Nat}
set_option maxRecDepth 100000 in
theorem play_k2 (hd : DriveRep w S b st) (hr : RefRep w T v st) (hST : ∀ k, S k → ¬ T k) (hok : st.Ok) (hstep : st.steps + 1 ≤ 9223372036854775807) (ho : OpAt w S o AB nB cB AK nK cK) (hk : o.kind = 2) :
    Calls Try.prog 14 #[.pointer (some ⟨b, 0, none⟩), v, .agg (opV o AB nB cB AK nK cK)] w (PlayRet S T w (o.run st)) := by
  obtain ⟨st', k, hp⟩ : ∃ st' k, st.sync o.name.data.toList = (st', k) := ⟨_, _, rfl⟩
  have hrun : o.run st = st' := by unfold POp.run; rw [if_neg (by omega), if_pos hk, hp]
  have hok' : st'.Ok := by have := hok.sync o.name.data.toList; rw [hp] at this; exact this
  rw [hrun]
  obtain ⟨A, c, rfl, hl, _⟩ := refV_of hr
  have HD := Lib.hid hd
  have HR := Lib.hid hr
  have HST := Lib.hid hST
  have HOK := Lib.hid hok
  have HO := Lib.hid ho
  have HSTEP := Lib.hid hstep
  have HOK' := Lib.hid hok'
  have HP := Lib.hid hp
  clear hd hr hST hok hok' hrun hp hl ho hstep
  unfold opV
  go_enter Try.func14, Try.ntmps14
  go_upto_region 7 with fail
  obtain ⟨W1, hW1⟩ : ∃ W1, W1 = (((w.alloc (.cells #[.slice A st.files.length c, .int .i64 (st.steps : Int), .bool st.armed, .int .i64 (st.left : Int)] 26)).alloc (.cells #[.int .i64 2, .string o.name, .string o.tgt, .slice AB nB cB, .int .i64 o.n, .slice AK nK cK] 43)).alloc (.cells #[.slice none 0 0, .int .i64 0, .bool false, .int .i64 0] 26)) := ⟨_, rfl⟩
  rw [← hW1]
  have hb1 : Below w.heap.size w W1 := by rw [hW1]; exact (((Below.refl _ _).alloc (Nat.le_refl _) _).alloc (by simp) _).alloc (by simp; omega) _
  have h41 : Blk W1 w.heap.size 26 #[.slice A st.files.length c, .int .i64 (st.steps : Int), .bool st.armed, .int .i64 (st.left : Int)] := by rw [hW1]; exact ((Blk.new w _ _).alloc _).alloc _
  have h51 : Blk W1 (w.heap.size + 1) 43 #[.int .i64 2, .string o.name, .string o.tgt, .slice AB nB cB, .int .i64 o.n, .slice AK nK cK] := by rw [hW1]; exact (blk_new' (by simp)).alloc _
  have h71 : Blk W1 (w.heap.size + 2) 26 #[.slice none 0 0, .int .i64 0, .bool false, .int .i64 0] := by rw [hW1]; exact blk_new' (by simp)
  have hs1 : w.heap.size + 3 ≤ W1.heap.size := by rw [hW1]; simp
  have hP1 := PlayS.start HD.out HR.out HST.out hb1 hs1 h51 ⟨_, _, _, _, h41⟩ ⟨_, _, _, _, h71⟩
  obtain ⟨p0, p1, p2, p3, p4, p5⟩ := op_cells hP1
  have H41 := Lib.hid h41
  clear hW1 h51 h71 h41 hs1
  go_upto_region 22 with (first
    | (go_at_call 21; refine (PlayS.dcall hP1 H41.out (Below.refl _ _) HP.out (fun S' hr _ => sync_any hr HOK.out HSTEP.out o.name HO.out.name)).mono ?_; rintro e w5 ⟨rfl, hP5, h45, hk5⟩; clear hk5; obtain ⟨a0, a1, a2, a3⟩ := blk_cells4 h45; obtain ⟨r0, r1, r2, r3, r4, r5⟩ := op_cells hP5)
    | (go_at_call 38; refine (PlayS.rcall hP5 HP.out (fun T' hr => rsync_any hr HOK.out HSTEP.out o.name HO.out.name)).mono ?_; rintro e w6 ⟨A6, c6, rfl, hP6, hb6⟩; obtain ⟨x0, x1, x2, x3, hx, ⟨y0, y1, y2, y3⟩, ⟨z0, z1, z2, z3⟩⟩ := box4 hP6))
  have hF7 := PlayF.made hP6 rfl
  clear hP1 hP5 h45 hP6 y0 y1 y2 y3 z0 z1 z2 z3 hb6 p0 p1 p2 p3 p4 p5 r0 r1 r2 r3 r4 r5 a0 a1 a2 a3
  refine wp_region_held_drew (S := PlayF w S T #[.int .i64 2, .string o.name, .string o.tgt, .slice AB nB cB, .int .i64 o.n, .slice AK nK cK] b st' A6 c6) (by kernel_rfl) (by (first | assumption | (exact PlayF.drew (by assumption)) | (exact PlayF.fill (by assumption) _ _ _ _))) (fun hHeld => ?_)
  refine wpAnyH_take (i := 0) (v := ?vr1_0) (Fr.take_at rfl) (by kernel_rfl) (by kernel_rfl) (by kernel_rfl) (fun _ _ _ h => h) (Or.inl ⟨by rfl, ?yr1_0⟩) (by assumption) ?nr1_0
  case yr1_0 => (intro w_ hSw; obtain ⟨q0, q1, q2, q3⟩ := PlayF.cells hSw; go_simp; (try with_reducible rfl))
  try simp only [Act.put, List.setIfInBounds_toArray, List.set_cons_zero, List.set_cons_succ]
  refine wpAnyH_take (i := 1) (v := ?vr1_1) (Fr.take_at rfl) (by kernel_rfl) (by kernel_rfl) (by kernel_rfl) (fun _ _ _ h => h) (Or.inl ⟨by rfl, ?yr1_1⟩) (by assumption) ?nr1_1
  case yr1_1 => (intro w_ hSw; obtain ⟨q0, q1, q2, q3⟩ := PlayF.cells hSw; go_simp; (try with_reducible rfl))
  try simp only [Act.put, List.setIfInBounds_toArray, List.set_cons_zero, List.set_cons_succ]
  refine wpAnyH_take (i := 2) (v := ?vr1_2) (Fr.take_at rfl) (by kernel_rfl) (by kernel_rfl) (by kernel_rfl) (fun _ _ _ h => h) (Or.inl ⟨by rfl, ?yr1_2⟩) (by assumption) ?nr1_2
  case yr1_2 => (intro w_ hSw; obtain ⟨q0, q1, q2, q3⟩ := PlayF.cells hSw; go_simp; (try with_reducible rfl))
  try simp only [Act.put, List.setIfInBounds_toArray, List.set_cons_zero, List.set_cons_succ]
  refine wpAnyH_take (i := 3) (v := ?vr1_3) (Fr.take_at rfl) (by kernel_rfl) (by kernel_rfl) (by kernel_rfl) (fun _ _ _ h => h) (Or.inl ⟨by rfl, ?yr1_3⟩) (by assumption) ?nr1_3
  case yr1_3 => (intro w_ hSw; obtain ⟨q0, q1, q2, q3⟩ := PlayF.cells hSw; go_simp; (try with_reducible rfl))
  try simp only [Act.put, List.setIfInBounds_toArray, List.set_cons_zero, List.set_cons_succ]
  refine wpAnyH_take (i := 4) (v := ?vr1_4) (Fr.take_at rfl) (by kernel_rfl) (by kernel_rfl) (by kernel_rfl) (fun _ _ _ h => h) (Or.inl ⟨by rfl, ?yr1_4⟩) (by assumption) ?nr1_4
  case yr1_4 => (intro w_ hSw; obtain ⟨q0, q1, q2, q3⟩ := PlayF.cells hSw; go_simp; (try with_reducible rfl))
  try simp only [Act.put, List.setIfInBounds_toArray, List.set_cons_zero, List.set_cons_succ]
  refine wpAnyH_take (i := 5) (v := ?vr1_5) (Fr.take_at rfl) (by kernel_rfl) (by kernel_rfl) (by kernel_rfl) (fun _ _ _ h => h) (Or.inl ⟨by rfl, ?yr1_5⟩) (by assumption) ?nr1_5
  case yr1_5 => (intro w_ hSw; obtain ⟨q0, q1, q2, q3⟩ := PlayF.cells hSw; go_simp; (try with_reducible rfl))
  try simp only [Act.put, List.setIfInBounds_toArray, List.set_cons_zero, List.set_cons_succ]
  refine wpAnyH_take (i := 6) (v := ?vr1_6) (Fr.take_at rfl) (by kernel_rfl) (by kernel_rfl) (by kernel_rfl) (fun _ _ _ h => h) (Or.inl ⟨by rfl, ?yr1_6⟩) (by assumption) ?nr1_6
  case yr1_6 => (intro w_ hSw; obtain ⟨q0, q1, q2, q3⟩ := PlayF.cells hSw; go_simp; (try with_reducible rfl))
  try simp only [Act.put, List.setIfInBounds_toArray, List.set_cons_zero, List.set_cons_succ]
  refine wpAnyH_take (i := 7) (v := ?vr1_7) (Fr.take_at rfl) (by kernel_rfl) (by kernel_rfl) (by kernel_rfl) (fun _ _ _ h => h) (Or.inl ⟨by rfl, ?yr1_7⟩) (by assumption) ?nr1_7
  case yr1_7 => (intro w_ hSw; obtain ⟨q0, q1, q2, q3⟩ := PlayF.cells hSw; go_simp; (try with_reducible rfl))
  try simp only [Act.put, List.setIfInBounds_toArray, List.set_cons_zero, List.set_cons_succ]
  refine wpAnyH_ready (rs := [8]) (by kernel_rfl) (by simp) ?_
  refine AllReadyH.cons (Fr.take_at rfl) (fun K hK => ?_) AllReadyH.nil
  go_simp
  (go_at_call 13; refine (hHeld.p.tells HOK'.out).mono ?_; rintro e w8 ⟨rfl, hb8⟩; have hF8 := hHeld.below hb8; obtain ⟨u0, u1, u2, u3, hx7, ⟨e0, e1, e2, e3⟩, ⟨f0, f1, f2, f3⟩⟩ := box7 hF8.p)
  try go_wp2_with fail
  refine hK.out _ _ (by (first | assumption | (exact PlayF.drew (by assumption)) | (exact PlayF.fill (by assumption) _ _ _ _))) (fun hHeld => ?_)
  clear hK K
  try simp only [Act.put, List.setIfInBounds_toArray, List.set_cons_zero, List.set_cons_succ]
  refine wpAnyH_take (i := 9) (v := ?vr1_9) (Fr.take_at rfl) (by kernel_rfl) (by kernel_rfl) (by kernel_rfl) (fun _ _ _ h => h) (Or.inl ⟨by rfl, ?yr1_9⟩) (by assumption) ?nr1_9
  case yr1_9 => (intro w_ hSw; obtain ⟨q0, q1, q2, q3⟩ := PlayF.cells hSw; go_simp; (try with_reducible rfl))
  try simp only [Act.put, List.setIfInBounds_toArray, List.set_cons_zero, List.set_cons_succ]
  refine wpAnyH_take (i := 10) (v := ?vr1_10) (Fr.take_at rfl) (by kernel_rfl) (by kernel_rfl) (by kernel_rfl) (fun _ _ _ h => h) (Or.inl ⟨by rfl, ?yr1_10⟩) (by assumption) ?nr1_10
  case yr1_10 => (intro w_ hSw; obtain ⟨q0, q1, q2, q3⟩ := PlayF.cells hSw; go_simp; (try with_reducible rfl))
  try simp only [Act.put, List.setIfInBounds_toArray, List.set_cons_zero, List.set_cons_succ]
  refine wpAnyH_ready (rs := [11]) (by kernel_rfl) (by simp) ?_
  refine AllReadyH.cons (Fr.take_at rfl) (fun K hK => ?_) AllReadyH.nil
  go_simp
  refine hK.out _ _ (by (first | assumption | (exact PlayF.drew (by assumption)) | (exact PlayF.fill (by assumption) _ _ _ _))) (fun hHeld => ?_)
  clear hK K
  try simp only [Act.put, List.setIfInBounds_toArray, List.set_cons_zero, List.set_cons_succ]
  refine wpAnyH_take (i := 12) (v := ?vr1_12) (Fr.take_at rfl) (by kernel_rfl) (by kernel_rfl) (by kernel_rfl) (fun _ _ _ h => h) (Or.inl ⟨by rfl, ?yr1_12⟩) (by assumption) ?nr1_12
  case yr1_12 => (intro w_ hSw; obtain ⟨q0, q1, q2, q3⟩ := PlayF.cells hSw; go_simp; (try with_reducible rfl))
  try simp only [Act.put, List.setIfInBounds_toArray, List.set_cons_zero, List.set_cons_succ]
  refine wpAnyH_done (by kernel_rfl) ?_ _
  go_wp2
  exact bodyPost_ret (results_tmp_cell_tmp (by rfl) _ _ _ _ _ _ _ _ _ (by rfl) (by rfl) (by rfl) (set4_blk hx7.out) Try.underlying26 (by rfl) (by kernel_rfl)) rfl hHeld.p.ret
set_option maxRecDepth 100000 in
theorem play_k3 (hd : DriveRep w S b st) (hr : RefRep w T v st) (hST : ∀ k, S k → ¬ T k) (hok : st.Ok) (hstep : st.steps + 1 ≤ 9223372036854775807) (ho : OpAt w S o AB nB cB AK nK cK) (hk : o.kind = 3) :
    Calls Try.prog 14 #[.pointer (some ⟨b, 0, none⟩), v, .agg (opV o AB nB cB AK nK cK)] w (PlayRet S T w (o.run st)) := by
  obtain ⟨st', k, hp⟩ : ∃ st' k, st.rename o.name.data.toList o.tgt.data.toList = (st', k) := ⟨_, _, rfl⟩
  have hrun : o.run st = st' := by unfold POp.run; rw [if_neg (by omega), if_neg (by omega), if_pos hk, hp]
  have hok' : st'.Ok := by have := hok.rename o.name.data.toList o.tgt.data.toList; rw [hp] at this; exact this
  rw [hrun]
  obtain ⟨A, c, rfl, hl, _⟩ := refV_of hr
  have HD := Lib.hid hd
  have HR := Lib.hid hr
  have HST := Lib.hid hST
  have HOK := Lib.hid hok
  have HO := Lib.hid ho
  have HSTEP := Lib.hid hstep
  have HOK' := Lib.hid hok'
  have HP := Lib.hid hp
  clear hd hr hST hok hok' hrun hp hl ho hstep
  unfold opV
  go_enter Try.func14, Try.ntmps14
  go_upto_region 10 with fail
  obtain ⟨W1, hW1⟩ : ∃ W1, W1 = (((w.alloc (.cells #[.slice A st.files.length c, .int .i64 (st.steps : Int), .bool st.armed, .int .i64 (st.left : Int)] 26)).alloc (.cells #[.int .i64 3, .string o.name, .string o.tgt, .slice AB nB cB, .int .i64 o.n, .slice AK nK cK] 43)).alloc (.cells #[.slice none 0 0, .int .i64 0, .bool false, .int .i64 0] 26)) := ⟨_, rfl⟩
  rw [← hW1]
  have hb1 : Below w.heap.size w W1 := by rw [hW1]; exact (((Below.refl _ _).alloc (Nat.le_refl _) _).alloc (by simp) _).alloc (by simp; omega) _
  have h41 : Blk W1 w.heap.size 26 #[.slice A st.files.length c, .int .i64 (st.steps : Int), .bool st.armed, .int .i64 (st.left : Int)] := by rw [hW1]; exact ((Blk.new w _ _).alloc _).alloc _
  have h51 : Blk W1 (w.heap.size + 1) 43 #[.int .i64 3, .string o.name, .string o.tgt, .slice AB nB cB, .int .i64 o.n, .slice AK nK cK] := by rw [hW1]; exact (blk_new' (by simp)).alloc _
  have h71 : Blk W1 (w.heap.size + 2) 26 #[.slice none 0 0, .int .i64 0, .bool false, .int .i64 0] := by rw [hW1]; exact blk_new' (by simp)
  have hs1 : w.heap.size + 3 ≤ W1.heap.size := by rw [hW1]; simp
  have hP1 := PlayS.start HD.out HR.out HST.out hb1 hs1 h51 ⟨_, _, _, _, h41⟩ ⟨_, _, _, _, h71⟩
  obtain ⟨p0, p1, p2, p3, p4, p5⟩ := op_cells hP1
  have H41 := Lib.hid h41
  clear hW1 h51 h71 h41 hs1
  go_upto_region 22 with (first
    | (go_at_call 25; refine (PlayS.dcall hP1 H41.out (Below.refl _ _) HP.out (fun S' hr _ => rename_any hr HOK.out HSTEP.out o.name o.tgt HO.out.name HO.out.tgt)).mono ?_; rintro e w5 ⟨rfl, hP5, h45, hk5⟩; clear hk5; obtain ⟨a0, a1, a2, a3⟩ := blk_cells4 h45; obtain ⟨r0, r1, r2, r3, r4, r5⟩ := op_cells hP5)
    | (go_at_call 39; refine (PlayS.rcall hP5 HP.out (fun T' hr => rrename_any hr HOK.out HSTEP.out o.name o.tgt HO.out.name HO.out.tgt)).mono ?_; rintro e w6 ⟨A6, c6, rfl, hP6, hb6⟩; obtain ⟨x0, x1, x2, x3, hx, ⟨y0, y1, y2, y3⟩, ⟨z0, z1, z2, z3⟩⟩ := box4 hP6))
  have hF7 := PlayF.made hP6 rfl
  clear hP1 hP5 h45 hP6 y0 y1 y2 y3 z0 z1 z2 z3 hb6 p0 p1 p2 p3 p4 p5 r0 r1 r2 r3 r4 r5 a0 a1 a2 a3
  refine wp_region_held_drew (S := PlayF w S T #[.int .i64 3, .string o.name, .string o.tgt, .slice AB nB cB, .int .i64 o.n, .slice AK nK cK] b st' A6 c6) (by kernel_rfl) (by (first | assumption | (exact PlayF.drew (by assumption)) | (exact PlayF.fill (by assumption) _ _ _ _))) (fun hHeld => ?_)
  refine wpAnyH_take (i := 0) (v := ?vr2_0) (Fr.take_at rfl) (by kernel_rfl) (by kernel_rfl) (by kernel_rfl) (fun _ _ _ h => h) (Or.inl ⟨by rfl, ?yr2_0⟩) (by assumption) ?nr2_0
  case yr2_0 => (intro w_ hSw; obtain ⟨q0, q1, q2, q3⟩ := PlayF.cells hSw; go_simp; (try with_reducible rfl))
  try simp only [Act.put, List.setIfInBounds_toArray, List.set_cons_zero, List.set_cons_succ]
  refine wpAnyH_take (i := 1) (v := ?vr2_1) (Fr.take_at rfl) (by kernel_rfl) (by kernel_rfl) (by kernel_rfl) (fun _ _ _ h => h) (Or.inl ⟨by rfl, ?yr2_1⟩) (by assumption) ?nr2_1
  case yr2_1 => (intro w_ hSw; obtain ⟨q0, q1, q2, q3⟩ := PlayF.cells hSw; go_simp; (try with_reducible rfl))
  try simp only [Act.put, List.setIfInBounds_toArray, List.set_cons_zero, List.set_cons_succ]
  refine wpAnyH_take (i := 2) (v := ?vr2_2) (Fr.take_at rfl) (by kernel_rfl) (by kernel_rfl) (by kernel_rfl) (fun _ _ _ h => h) (Or.inl ⟨by rfl, ?yr2_2⟩) (by assumption) ?nr2_2
  case yr2_2 => (intro w_ hSw; obtain ⟨q0, q1, q2, q3⟩ := PlayF.cells hSw; go_simp; (try with_reducible rfl))
  try simp only [Act.put, List.setIfInBounds_toArray, List.set_cons_zero, List.set_cons_succ]
  refine wpAnyH_take (i := 3) (v := ?vr2_3) (Fr.take_at rfl) (by kernel_rfl) (by kernel_rfl) (by kernel_rfl) (fun _ _ _ h => h) (Or.inl ⟨by rfl, ?yr2_3⟩) (by assumption) ?nr2_3
  case yr2_3 => (intro w_ hSw; obtain ⟨q0, q1, q2, q3⟩ := PlayF.cells hSw; go_simp; (try with_reducible rfl))
  try simp only [Act.put, List.setIfInBounds_toArray, List.set_cons_zero, List.set_cons_succ]
  refine wpAnyH_take (i := 4) (v := ?vr2_4) (Fr.take_at rfl) (by kernel_rfl) (by kernel_rfl) (by kernel_rfl) (fun _ _ _ h => h) (Or.inl ⟨by rfl, ?yr2_4⟩) (by assumption) ?nr2_4
  case yr2_4 => (intro w_ hSw; obtain ⟨q0, q1, q2, q3⟩ := PlayF.cells hSw; go_simp; (try with_reducible rfl))
  try simp only [Act.put, List.setIfInBounds_toArray, List.set_cons_zero, List.set_cons_succ]
  refine wpAnyH_take (i := 5) (v := ?vr2_5) (Fr.take_at rfl) (by kernel_rfl) (by kernel_rfl) (by kernel_rfl) (fun _ _ _ h => h) (Or.inl ⟨by rfl, ?yr2_5⟩) (by assumption) ?nr2_5
  case yr2_5 => (intro w_ hSw; obtain ⟨q0, q1, q2, q3⟩ := PlayF.cells hSw; go_simp; (try with_reducible rfl))
  try simp only [Act.put, List.setIfInBounds_toArray, List.set_cons_zero, List.set_cons_succ]
  refine wpAnyH_take (i := 6) (v := ?vr2_6) (Fr.take_at rfl) (by kernel_rfl) (by kernel_rfl) (by kernel_rfl) (fun _ _ _ h => h) (Or.inl ⟨by rfl, ?yr2_6⟩) (by assumption) ?nr2_6
  case yr2_6 => (intro w_ hSw; obtain ⟨q0, q1, q2, q3⟩ := PlayF.cells hSw; go_simp; (try with_reducible rfl))
  try simp only [Act.put, List.setIfInBounds_toArray, List.set_cons_zero, List.set_cons_succ]
  refine wpAnyH_take (i := 7) (v := ?vr2_7) (Fr.take_at rfl) (by kernel_rfl) (by kernel_rfl) (by kernel_rfl) (fun _ _ _ h => h) (Or.inl ⟨by rfl, ?yr2_7⟩) (by assumption) ?nr2_7
  case yr2_7 => (intro w_ hSw; obtain ⟨q0, q1, q2, q3⟩ := PlayF.cells hSw; go_simp; (try with_reducible rfl))
  try simp only [Act.put, List.setIfInBounds_toArray, List.set_cons_zero, List.set_cons_succ]
  refine wpAnyH_ready (rs := [8]) (by kernel_rfl) (by simp) ?_
  refine AllReadyH.cons (Fr.take_at rfl) (fun K hK => ?_) AllReadyH.nil
  go_simp
  (go_at_call 13; refine (hHeld.p.tells HOK'.out).mono ?_; rintro e w8 ⟨rfl, hb8⟩; have hF8 := hHeld.below hb8; obtain ⟨u0, u1, u2, u3, hx7, ⟨e0, e1, e2, e3⟩, ⟨f0, f1, f2, f3⟩⟩ := box7 hF8.p)
  try go_wp2_with fail
  refine hK.out _ _ (by (first | assumption | (exact PlayF.drew (by assumption)) | (exact PlayF.fill (by assumption) _ _ _ _))) (fun hHeld => ?_)
  clear hK K
  try simp only [Act.put, List.setIfInBounds_toArray, List.set_cons_zero, List.set_cons_succ]
  refine wpAnyH_take (i := 9) (v := ?vr2_9) (Fr.take_at rfl) (by kernel_rfl) (by kernel_rfl) (by kernel_rfl) (fun _ _ _ h => h) (Or.inl ⟨by rfl, ?yr2_9⟩) (by assumption) ?nr2_9
  case yr2_9 => (intro w_ hSw; obtain ⟨q0, q1, q2, q3⟩ := PlayF.cells hSw; go_simp; (try with_reducible rfl))
  try simp only [Act.put, List.setIfInBounds_toArray, List.set_cons_zero, List.set_cons_succ]
  refine wpAnyH_take (i := 10) (v := ?vr2_10) (Fr.take_at rfl) (by kernel_rfl) (by kernel_rfl) (by kernel_rfl) (fun _ _ _ h => h) (Or.inl ⟨by rfl, ?yr2_10⟩) (by assumption) ?nr2_10
  case yr2_10 => (intro w_ hSw; obtain ⟨q0, q1, q2, q3⟩ := PlayF.cells hSw; go_simp; (try with_reducible rfl))
  try simp only [Act.put, List.setIfInBounds_toArray, List.set_cons_zero, List.set_cons_succ]
  refine wpAnyH_ready (rs := [11]) (by kernel_rfl) (by simp) ?_
  refine AllReadyH.cons (Fr.take_at rfl) (fun K hK => ?_) AllReadyH.nil
  go_simp
  refine hK.out _ _ (by (first | assumption | (exact PlayF.drew (by assumption)) | (exact PlayF.fill (by assumption) _ _ _ _))) (fun hHeld => ?_)
  clear hK K
  try simp only [Act.put, List.setIfInBounds_toArray, List.set_cons_zero, List.set_cons_succ]
  refine wpAnyH_take (i := 12) (v := ?vr2_12) (Fr.take_at rfl) (by kernel_rfl) (by kernel_rfl) (by kernel_rfl) (fun _ _ _ h => h) (Or.inl ⟨by rfl, ?yr2_12⟩) (by assumption) ?nr2_12
  case yr2_12 => (intro w_ hSw; obtain ⟨q0, q1, q2, q3⟩ := PlayF.cells hSw; go_simp; (try with_reducible rfl))
  try simp only [Act.put, List.setIfInBounds_toArray, List.set_cons_zero, List.set_cons_succ]
  refine wpAnyH_done (by kernel_rfl) ?_ _
  go_wp2
  exact bodyPost_ret (results_tmp_cell_tmp (by rfl) _ _ _ _ _ _ _ _ _ (by rfl) (by rfl) (by rfl) (set4_blk hx7.out) Try.underlying26 (by rfl) (by kernel_rfl)) rfl hHeld.p.ret
set_option maxRecDepth 100000 in
theorem play_k4 (hd : DriveRep w S b st) (hr : RefRep w T v st) (hST : ∀ k, S k → ¬ T k) (hok : st.Ok) (hstep : st.steps + 1 ≤ 9223372036854775807) (ho : OpAt w S o AB nB cB AK nK cK) (hk : o.kind = 4) :
    Calls Try.prog 14 #[.pointer (some ⟨b, 0, none⟩), v, .agg (opV o AB nB cB AK nK cK)] w (PlayRet S T w (o.run st)) := by
  obtain ⟨st', k, hp⟩ : ∃ st' k, st.delete o.name.data.toList = (st', k) := ⟨_, _, rfl⟩
  have hrun : o.run st = st' := by unfold POp.run; rw [if_neg (by omega), if_neg (by omega), if_neg (by omega), if_pos hk, hp]
  have hok' : st'.Ok := by have := hok.delete o.name.data.toList; rw [hp] at this; exact this
  rw [hrun]
  obtain ⟨A, c, rfl, hl, _⟩ := refV_of hr
  have HD := Lib.hid hd
  have HR := Lib.hid hr
  have HST := Lib.hid hST
  have HOK := Lib.hid hok
  have HO := Lib.hid ho
  have HSTEP := Lib.hid hstep
  have HOK' := Lib.hid hok'
  have HP := Lib.hid hp
  clear hd hr hST hok hok' hrun hp hl ho hstep
  unfold opV
  go_enter Try.func14, Try.ntmps14
  go_upto_region 13 with fail
  obtain ⟨W1, hW1⟩ : ∃ W1, W1 = (((w.alloc (.cells #[.slice A st.files.length c, .int .i64 (st.steps : Int), .bool st.armed, .int .i64 (st.left : Int)] 26)).alloc (.cells #[.int .i64 4, .string o.name, .string o.tgt, .slice AB nB cB, .int .i64 o.n, .slice AK nK cK] 43)).alloc (.cells #[.slice none 0 0, .int .i64 0, .bool false, .int .i64 0] 26)) := ⟨_, rfl⟩
  rw [← hW1]
  have hb1 : Below w.heap.size w W1 := by rw [hW1]; exact (((Below.refl _ _).alloc (Nat.le_refl _) _).alloc (by simp) _).alloc (by simp; omega) _
  have h41 : Blk W1 w.heap.size 26 #[.slice A st.files.length c, .int .i64 (st.steps : Int), .bool st.armed, .int .i64 (st.left : Int)] := by rw [hW1]; exact ((Blk.new w _ _).alloc _).alloc _
  have h51 : Blk W1 (w.heap.size + 1) 43 #[.int .i64 4, .string o.name, .string o.tgt, .slice AB nB cB, .int .i64 o.n, .slice AK nK cK] := by rw [hW1]; exact (blk_new' (by simp)).alloc _
  have h71 : Blk W1 (w.heap.size + 2) 26 #[.slice none 0 0, .int .i64 0, .bool false, .int .i64 0] := by rw [hW1]; exact blk_new' (by simp)
  have hs1 : w.heap.size + 3 ≤ W1.heap.size := by rw [hW1]; simp
  have hP1 := PlayS.start HD.out HR.out HST.out hb1 hs1 h51 ⟨_, _, _, _, h41⟩ ⟨_, _, _, _, h71⟩
  obtain ⟨p0, p1, p2, p3, p4, p5⟩ := op_cells hP1
  have H41 := Lib.hid h41
  clear hW1 h51 h71 h41 hs1
  go_upto_region 22 with (first
    | (go_at_call 26; refine (PlayS.dcall hP1 H41.out (Below.refl _ _) HP.out (fun S' hr _ => delete_any hr HOK.out HSTEP.out o.name HO.out.name)).mono ?_; rintro e w5 ⟨rfl, hP5, h45, hk5⟩; clear hk5; obtain ⟨a0, a1, a2, a3⟩ := blk_cells4 h45; obtain ⟨r0, r1, r2, r3, r4, r5⟩ := op_cells hP5)
    | (go_at_call 40; refine (PlayS.rcall hP5 HP.out (fun T' hr => rdelete_any hr HOK.out HSTEP.out o.name HO.out.name)).mono ?_; rintro e w6 ⟨A6, c6, rfl, hP6, hb6⟩; obtain ⟨x0, x1, x2, x3, hx, ⟨y0, y1, y2, y3⟩, ⟨z0, z1, z2, z3⟩⟩ := box4 hP6))
  have hF7 := PlayF.made hP6 rfl
  clear hP1 hP5 h45 hP6 y0 y1 y2 y3 z0 z1 z2 z3 hb6 p0 p1 p2 p3 p4 p5 r0 r1 r2 r3 r4 r5 a0 a1 a2 a3
  refine wp_region_held_drew (S := PlayF w S T #[.int .i64 4, .string o.name, .string o.tgt, .slice AB nB cB, .int .i64 o.n, .slice AK nK cK] b st' A6 c6) (by kernel_rfl) (by (first | assumption | (exact PlayF.drew (by assumption)) | (exact PlayF.fill (by assumption) _ _ _ _))) (fun hHeld => ?_)
  refine wpAnyH_take (i := 0) (v := ?vr3_0) (Fr.take_at rfl) (by kernel_rfl) (by kernel_rfl) (by kernel_rfl) (fun _ _ _ h => h) (Or.inl ⟨by rfl, ?yr3_0⟩) (by assumption) ?nr3_0
  case yr3_0 => (intro w_ hSw; obtain ⟨q0, q1, q2, q3⟩ := PlayF.cells hSw; go_simp; (try with_reducible rfl))
  try simp only [Act.put, List.setIfInBounds_toArray, List.set_cons_zero, List.set_cons_succ]
  refine wpAnyH_take (i := 1) (v := ?vr3_1) (Fr.take_at rfl) (by kernel_rfl) (by kernel_rfl) (by kernel_rfl) (fun _ _ _ h => h) (Or.inl ⟨by rfl, ?yr3_1⟩) (by assumption) ?nr3_1
  case yr3_1 => (intro w_ hSw; obtain ⟨q0, q1, q2, q3⟩ := PlayF.cells hSw; go_simp; (try with_reducible rfl))
  try simp only [Act.put, List.setIfInBounds_toArray, List.set_cons_zero, List.set_cons_succ]
  refine wpAnyH_take (i := 2) (v := ?vr3_2) (Fr.take_at rfl) (by kernel_rfl) (by kernel_rfl) (by kernel_rfl) (fun _ _ _ h => h) (Or.inl ⟨by rfl, ?yr3_2⟩) (by assumption) ?nr3_2
  case yr3_2 => (intro w_ hSw; obtain ⟨q0, q1, q2, q3⟩ := PlayF.cells hSw; go_simp; (try with_reducible rfl))
  try simp only [Act.put, List.setIfInBounds_toArray, List.set_cons_zero, List.set_cons_succ]
  refine wpAnyH_take (i := 3) (v := ?vr3_3) (Fr.take_at rfl) (by kernel_rfl) (by kernel_rfl) (by kernel_rfl) (fun _ _ _ h => h) (Or.inl ⟨by rfl, ?yr3_3⟩) (by assumption) ?nr3_3
  case yr3_3 => (intro w_ hSw; obtain ⟨q0, q1, q2, q3⟩ := PlayF.cells hSw; go_simp; (try with_reducible rfl))
  try simp only [Act.put, List.setIfInBounds_toArray, List.set_cons_zero, List.set_cons_succ]
  refine wpAnyH_take (i := 4) (v := ?vr3_4) (Fr.take_at rfl) (by kernel_rfl) (by kernel_rfl) (by kernel_rfl) (fun _ _ _ h => h) (Or.inl ⟨by rfl, ?yr3_4⟩) (by assumption) ?nr3_4
  case yr3_4 => (intro w_ hSw; obtain ⟨q0, q1, q2, q3⟩ := PlayF.cells hSw; go_simp; (try with_reducible rfl))
  try simp only [Act.put, List.setIfInBounds_toArray, List.set_cons_zero, List.set_cons_succ]
  refine wpAnyH_take (i := 5) (v := ?vr3_5) (Fr.take_at rfl) (by kernel_rfl) (by kernel_rfl) (by kernel_rfl) (fun _ _ _ h => h) (Or.inl ⟨by rfl, ?yr3_5⟩) (by assumption) ?nr3_5
  case yr3_5 => (intro w_ hSw; obtain ⟨q0, q1, q2, q3⟩ := PlayF.cells hSw; go_simp; (try with_reducible rfl))
  try simp only [Act.put, List.setIfInBounds_toArray, List.set_cons_zero, List.set_cons_succ]
  refine wpAnyH_take (i := 6) (v := ?vr3_6) (Fr.take_at rfl) (by kernel_rfl) (by kernel_rfl) (by kernel_rfl) (fun _ _ _ h => h) (Or.inl ⟨by rfl, ?yr3_6⟩) (by assumption) ?nr3_6
  case yr3_6 => (intro w_ hSw; obtain ⟨q0, q1, q2, q3⟩ := PlayF.cells hSw; go_simp; (try with_reducible rfl))
  try simp only [Act.put, List.setIfInBounds_toArray, List.set_cons_zero, List.set_cons_succ]
  refine wpAnyH_take (i := 7) (v := ?vr3_7) (Fr.take_at rfl) (by kernel_rfl) (by kernel_rfl) (by kernel_rfl) (fun _ _ _ h => h) (Or.inl ⟨by rfl, ?yr3_7⟩) (by assumption) ?nr3_7
  case yr3_7 => (intro w_ hSw; obtain ⟨q0, q1, q2, q3⟩ := PlayF.cells hSw; go_simp; (try with_reducible rfl))
  try simp only [Act.put, List.setIfInBounds_toArray, List.set_cons_zero, List.set_cons_succ]
  refine wpAnyH_ready (rs := [8]) (by kernel_rfl) (by simp) ?_
  refine AllReadyH.cons (Fr.take_at rfl) (fun K hK => ?_) AllReadyH.nil
  go_simp
  (go_at_call 13; refine (hHeld.p.tells HOK'.out).mono ?_; rintro e w8 ⟨rfl, hb8⟩; have hF8 := hHeld.below hb8; obtain ⟨u0, u1, u2, u3, hx7, ⟨e0, e1, e2, e3⟩, ⟨f0, f1, f2, f3⟩⟩ := box7 hF8.p)
  try go_wp2_with fail
  refine hK.out _ _ (by (first | assumption | (exact PlayF.drew (by assumption)) | (exact PlayF.fill (by assumption) _ _ _ _))) (fun hHeld => ?_)
  clear hK K
  try simp only [Act.put, List.setIfInBounds_toArray, List.set_cons_zero, List.set_cons_succ]
  refine wpAnyH_take (i := 9) (v := ?vr3_9) (Fr.take_at rfl) (by kernel_rfl) (by kernel_rfl) (by kernel_rfl) (fun _ _ _ h => h) (Or.inl ⟨by rfl, ?yr3_9⟩) (by assumption) ?nr3_9
  case yr3_9 => (intro w_ hSw; obtain ⟨q0, q1, q2, q3⟩ := PlayF.cells hSw; go_simp; (try with_reducible rfl))
  try simp only [Act.put, List.setIfInBounds_toArray, List.set_cons_zero, List.set_cons_succ]
  refine wpAnyH_take (i := 10) (v := ?vr3_10) (Fr.take_at rfl) (by kernel_rfl) (by kernel_rfl) (by kernel_rfl) (fun _ _ _ h => h) (Or.inl ⟨by rfl, ?yr3_10⟩) (by assumption) ?nr3_10
  case yr3_10 => (intro w_ hSw; obtain ⟨q0, q1, q2, q3⟩ := PlayF.cells hSw; go_simp; (try with_reducible rfl))
  try simp only [Act.put, List.setIfInBounds_toArray, List.set_cons_zero, List.set_cons_succ]
  refine wpAnyH_ready (rs := [11]) (by kernel_rfl) (by simp) ?_
  refine AllReadyH.cons (Fr.take_at rfl) (fun K hK => ?_) AllReadyH.nil
  go_simp
  refine hK.out _ _ (by (first | assumption | (exact PlayF.drew (by assumption)) | (exact PlayF.fill (by assumption) _ _ _ _))) (fun hHeld => ?_)
  clear hK K
  try simp only [Act.put, List.setIfInBounds_toArray, List.set_cons_zero, List.set_cons_succ]
  refine wpAnyH_take (i := 12) (v := ?vr3_12) (Fr.take_at rfl) (by kernel_rfl) (by kernel_rfl) (by kernel_rfl) (fun _ _ _ h => h) (Or.inl ⟨by rfl, ?yr3_12⟩) (by assumption) ?nr3_12
  case yr3_12 => (intro w_ hSw; obtain ⟨q0, q1, q2, q3⟩ := PlayF.cells hSw; go_simp; (try with_reducible rfl))
  try simp only [Act.put, List.setIfInBounds_toArray, List.set_cons_zero, List.set_cons_succ]
  refine wpAnyH_done (by kernel_rfl) ?_ _
  go_wp2
  exact bodyPost_ret (results_tmp_cell_tmp (by rfl) _ _ _ _ _ _ _ _ _ (by rfl) (by rfl) (by rfl) (set4_blk hx7.out) Try.underlying26 (by rfl) (by kernel_rfl)) rfl hHeld.p.ret
set_option maxRecDepth 100000 in
theorem play_k5 (hd : DriveRep w S b st) (hr : RefRep w T v st) (hST : ∀ k, S k → ¬ T k) (hok : st.Ok) (hstep : st.steps + 1 ≤ 9223372036854775807) (ho : OpAt w S o AB nB cB AK nK cK) (hk : o.kind = 5) :
    Calls Try.prog 14 #[.pointer (some ⟨b, 0, none⟩), v, .agg (opV o AB nB cB AK nK cK)] w (PlayRet S T w (o.run st)) := by
  obtain ⟨st', k, hp⟩ : ∃ st' k, st.arm o.n = (st', k) := ⟨_, _, rfl⟩
  have hrun : o.run st = st' := by unfold POp.run; rw [if_neg (by omega), if_neg (by omega), if_neg (by omega), if_neg (by omega), if_pos hk, hp]
  have hok' : st'.Ok := by have := hok.arm ho.n1; rw [hp] at this; exact this
  rw [hrun]
  obtain ⟨A, c, rfl, hl, _⟩ := refV_of hr
  have HD := Lib.hid hd
  have HR := Lib.hid hr
  have HST := Lib.hid hST
  have HOK := Lib.hid hok
  have HO := Lib.hid ho
  have HSTEP := Lib.hid hstep
  have HOK' := Lib.hid hok'
  have HP := Lib.hid hp
  clear hd hr hST hok hok' hrun hp hl ho hstep
  unfold opV
  go_enter Try.func14, Try.ntmps14
  go_upto_region 16 with fail
  obtain ⟨W1, hW1⟩ : ∃ W1, W1 = (((w.alloc (.cells #[.slice A st.files.length c, .int .i64 (st.steps : Int), .bool st.armed, .int .i64 (st.left : Int)] 26)).alloc (.cells #[.int .i64 5, .string o.name, .string o.tgt, .slice AB nB cB, .int .i64 o.n, .slice AK nK cK] 43)).alloc (.cells #[.slice none 0 0, .int .i64 0, .bool false, .int .i64 0] 26)) := ⟨_, rfl⟩
  rw [← hW1]
  have hb1 : Below w.heap.size w W1 := by rw [hW1]; exact (((Below.refl _ _).alloc (Nat.le_refl _) _).alloc (by simp) _).alloc (by simp; omega) _
  have h41 : Blk W1 w.heap.size 26 #[.slice A st.files.length c, .int .i64 (st.steps : Int), .bool st.armed, .int .i64 (st.left : Int)] := by rw [hW1]; exact ((Blk.new w _ _).alloc _).alloc _
  have h51 : Blk W1 (w.heap.size + 1) 43 #[.int .i64 5, .string o.name, .string o.tgt, .slice AB nB cB, .int .i64 o.n, .slice AK nK cK] := by rw [hW1]; exact (blk_new' (by simp)).alloc _
  have h71 : Blk W1 (w.heap.size + 2) 26 #[.slice none 0 0, .int .i64 0, .bool false, .int .i64 0] := by rw [hW1]; exact blk_new' (by simp)
  have hs1 : w.heap.size + 3 ≤ W1.heap.size := by rw [hW1]; simp
  have hP1 := PlayS.start HD.out HR.out HST.out hb1 hs1 h51 ⟨_, _, _, _, h41⟩ ⟨_, _, _, _, h71⟩
  obtain ⟨p0, p1, p2, p3, p4, p5⟩ := op_cells hP1
  have H41 := Lib.hid h41
  clear hW1 h51 h71 h41 hs1
  go_upto_region 22 with (first
    | (go_at_call 41; refine (PlayS.dcall hP1 H41.out (Below.refl _ _) HP.out (fun S' hr _ => arm_any hr o.n HO.out.n0 HO.out.n1)).mono ?_; rintro e w5 ⟨rfl, hP5, h45, hk5⟩; clear hk5; obtain ⟨a0, a1, a2, a3⟩ := blk_cells4 h45; obtain ⟨r0, r1, r2, r3, r4, r5⟩ := op_cells hP5)
    | (go_at_call 42; refine (PlayS.rcall hP5 HP.out (fun T' hr => rarm_any hr o.n HO.out.n0 HO.out.n1)).mono ?_; rintro e w6 ⟨A6, c6, rfl, hP6, hb6⟩; obtain ⟨x0, x1, x2, x3, hx, ⟨y0, y1, y2, y3⟩, ⟨z0, z1, z2, z3⟩⟩ := box4 hP6))
  have hF7 := PlayF.made hP6 rfl
  clear hP1 hP5 h45 hP6 y0 y1 y2 y3 z0 z1 z2 z3 hb6 p0 p1 p2 p3 p4 p5 r0 r1 r2 r3 r4 r5 a0 a1 a2 a3
  refine wp_region_held_drew (S := PlayF w S T #[.int .i64 5, .string o.name, .string o.tgt, .slice AB nB cB, .int .i64 o.n, .slice AK nK cK] b st' A6 c6) (by kernel_rfl) (by (first | assumption | (exact PlayF.drew (by assumption)) | (exact PlayF.fill (by assumption) _ _ _ _))) (fun hHeld => ?_)
  refine wpAnyH_take (i := 0) (v := ?vr4_0) (Fr.take_at rfl) (by kernel_rfl) (by kernel_rfl) (by kernel_rfl) (fun _ _ _ h => h) (Or.inl ⟨by rfl, ?yr4_0⟩) (by assumption) ?nr4_0
  case yr4_0 => (intro w_ hSw; obtain ⟨q0, q1, q2, q3⟩ := PlayF.cells hSw; go_simp; (try with_reducible rfl))
  try simp only [Act.put, List.setIfInBounds_toArray, List.set_cons_zero, List.set_cons_succ]
  refine wpAnyH_take (i := 1) (v := ?vr4_1) (Fr.take_at rfl) (by kernel_rfl) (by kernel_rfl) (by kernel_rfl) (fun _ _ _ h => h) (Or.inl ⟨by rfl, ?yr4_1⟩) (by assumption) ?nr4_1
  case yr4_1 => (intro w_ hSw; obtain ⟨q0, q1, q2, q3⟩ := PlayF.cells hSw; go_simp; (try with_reducible rfl))
  try simp only [Act.put, List.setIfInBounds_toArray, List.set_cons_zero, List.set_cons_succ]
  refine wpAnyH_take (i := 2) (v := ?vr4_2) (Fr.take_at rfl) (by kernel_rfl) (by kernel_rfl) (by kernel_rfl) (fun _ _ _ h => h) (Or.inl ⟨by rfl, ?yr4_2⟩) (by assumption) ?nr4_2
  case yr4_2 => (intro w_ hSw; obtain ⟨q0, q1, q2, q3⟩ := PlayF.cells hSw; go_simp; (try with_reducible rfl))
  try simp only [Act.put, List.setIfInBounds_toArray, List.set_cons_zero, List.set_cons_succ]
  refine wpAnyH_take (i := 3) (v := ?vr4_3) (Fr.take_at rfl) (by kernel_rfl) (by kernel_rfl) (by kernel_rfl) (fun _ _ _ h => h) (Or.inl ⟨by rfl, ?yr4_3⟩) (by assumption) ?nr4_3
  case yr4_3 => (intro w_ hSw; obtain ⟨q0, q1, q2, q3⟩ := PlayF.cells hSw; go_simp; (try with_reducible rfl))
  try simp only [Act.put, List.setIfInBounds_toArray, List.set_cons_zero, List.set_cons_succ]
  refine wpAnyH_take (i := 4) (v := ?vr4_4) (Fr.take_at rfl) (by kernel_rfl) (by kernel_rfl) (by kernel_rfl) (fun _ _ _ h => h) (Or.inl ⟨by rfl, ?yr4_4⟩) (by assumption) ?nr4_4
  case yr4_4 => (intro w_ hSw; obtain ⟨q0, q1, q2, q3⟩ := PlayF.cells hSw; go_simp; (try with_reducible rfl))
  try simp only [Act.put, List.setIfInBounds_toArray, List.set_cons_zero, List.set_cons_succ]
  refine wpAnyH_take (i := 5) (v := ?vr4_5) (Fr.take_at rfl) (by kernel_rfl) (by kernel_rfl) (by kernel_rfl) (fun _ _ _ h => h) (Or.inl ⟨by rfl, ?yr4_5⟩) (by assumption) ?nr4_5
  case yr4_5 => (intro w_ hSw; obtain ⟨q0, q1, q2, q3⟩ := PlayF.cells hSw; go_simp; (try with_reducible rfl))
  try simp only [Act.put, List.setIfInBounds_toArray, List.set_cons_zero, List.set_cons_succ]
  refine wpAnyH_take (i := 6) (v := ?vr4_6) (Fr.take_at rfl) (by kernel_rfl) (by kernel_rfl) (by kernel_rfl) (fun _ _ _ h => h) (Or.inl ⟨by rfl, ?yr4_6⟩) (by assumption) ?nr4_6
  case yr4_6 => (intro w_ hSw; obtain ⟨q0, q1, q2, q3⟩ := PlayF.cells hSw; go_simp; (try with_reducible rfl))
  try simp only [Act.put, List.setIfInBounds_toArray, List.set_cons_zero, List.set_cons_succ]
  refine wpAnyH_take (i := 7) (v := ?vr4_7) (Fr.take_at rfl) (by kernel_rfl) (by kernel_rfl) (by kernel_rfl) (fun _ _ _ h => h) (Or.inl ⟨by rfl, ?yr4_7⟩) (by assumption) ?nr4_7
  case yr4_7 => (intro w_ hSw; obtain ⟨q0, q1, q2, q3⟩ := PlayF.cells hSw; go_simp; (try with_reducible rfl))
  try simp only [Act.put, List.setIfInBounds_toArray, List.set_cons_zero, List.set_cons_succ]
  refine wpAnyH_ready (rs := [8]) (by kernel_rfl) (by simp) ?_
  refine AllReadyH.cons (Fr.take_at rfl) (fun K hK => ?_) AllReadyH.nil
  go_simp
  (go_at_call 13; refine (hHeld.p.tells HOK'.out).mono ?_; rintro e w8 ⟨rfl, hb8⟩; have hF8 := hHeld.below hb8; obtain ⟨u0, u1, u2, u3, hx7, ⟨e0, e1, e2, e3⟩, ⟨f0, f1, f2, f3⟩⟩ := box7 hF8.p)
  try go_wp2_with fail
  refine hK.out _ _ (by (first | assumption | (exact PlayF.drew (by assumption)) | (exact PlayF.fill (by assumption) _ _ _ _))) (fun hHeld => ?_)
  clear hK K
  try simp only [Act.put, List.setIfInBounds_toArray, List.set_cons_zero, List.set_cons_succ]
  refine wpAnyH_take (i := 9) (v := ?vr4_9) (Fr.take_at rfl) (by kernel_rfl) (by kernel_rfl) (by kernel_rfl) (fun _ _ _ h => h) (Or.inl ⟨by rfl, ?yr4_9⟩) (by assumption) ?nr4_9
  case yr4_9 => (intro w_ hSw; obtain ⟨q0, q1, q2, q3⟩ := PlayF.cells hSw; go_simp; (try with_reducible rfl))
  try simp only [Act.put, List.setIfInBounds_toArray, List.set_cons_zero, List.set_cons_succ]
  refine wpAnyH_take (i := 10) (v := ?vr4_10) (Fr.take_at rfl) (by kernel_rfl) (by kernel_rfl) (by kernel_rfl) (fun _ _ _ h => h) (Or.inl ⟨by rfl, ?yr4_10⟩) (by assumption) ?nr4_10
  case yr4_10 => (intro w_ hSw; obtain ⟨q0, q1, q2, q3⟩ := PlayF.cells hSw; go_simp; (try with_reducible rfl))
  try simp only [Act.put, List.setIfInBounds_toArray, List.set_cons_zero, List.set_cons_succ]
  refine wpAnyH_ready (rs := [11]) (by kernel_rfl) (by simp) ?_
  refine AllReadyH.cons (Fr.take_at rfl) (fun K hK => ?_) AllReadyH.nil
  go_simp
  refine hK.out _ _ (by (first | assumption | (exact PlayF.drew (by assumption)) | (exact PlayF.fill (by assumption) _ _ _ _))) (fun hHeld => ?_)
  clear hK K
  try simp only [Act.put, List.setIfInBounds_toArray, List.set_cons_zero, List.set_cons_succ]
  refine wpAnyH_take (i := 12) (v := ?vr4_12) (Fr.take_at rfl) (by kernel_rfl) (by kernel_rfl) (by kernel_rfl) (fun _ _ _ h => h) (Or.inl ⟨by rfl, ?yr4_12⟩) (by assumption) ?nr4_12
  case yr4_12 => (intro w_ hSw; obtain ⟨q0, q1, q2, q3⟩ := PlayF.cells hSw; go_simp; (try with_reducible rfl))
  try simp only [Act.put, List.setIfInBounds_toArray, List.set_cons_zero, List.set_cons_succ]
  refine wpAnyH_done (by kernel_rfl) ?_ _
  go_wp2
  exact bodyPost_ret (results_tmp_cell_tmp (by rfl) _ _ _ _ _ _ _ _ _ (by rfl) (by rfl) (by rfl) (set4_blk hx7.out) Try.underlying26 (by rfl) (by kernel_rfl)) rfl hHeld.p.ret
set_option maxRecDepth 100000 in
theorem play_k0 (hd : DriveRep w S b st) (hr : RefRep w T v st) (hST : ∀ k, S k → ¬ T k) (hok : st.Ok) (hstep : st.steps + 1 ≤ 9223372036854775807) (ho : OpAt w S o AB nB cB AK nK cK) (hk1 : o.kind ≠ 1) (hk2 : o.kind ≠ 2) (hk3 : o.kind ≠ 3) (hk4 : o.kind ≠ 4) (hk5 : o.kind ≠ 5) (hk6 : o.kind ≠ 6) :
    Calls Try.prog 14 #[.pointer (some ⟨b, 0, none⟩), v, .agg (opV o AB nB cB AK nK cK)] w (PlayRet S T w (o.run st)) := by
  have hrun : o.run st = st := by unfold POp.run; rw [if_neg hk1, if_neg hk2, if_neg hk3, if_neg hk4, if_neg hk5, if_neg hk6]
  rw [hrun]
  obtain ⟨A, c, rfl, hl, _⟩ := refV_of hr
  have HD := Lib.hid hd
  have HR := Lib.hid hr
  have HST := Lib.hid hST
  have HOK := Lib.hid hok
  have HO := Lib.hid ho
  have HSTEP := Lib.hid hstep
  clear hd hr hST hok hrun hl ho hstep
  unfold opV
  go_enter Try.func14, Try.ntmps14
  go_upto_region 22 with fail
  obtain ⟨W1, hW1⟩ : ∃ W1, W1 = (((w.alloc (.cells #[.slice A st.files.length c, .int .i64 (st.steps : Int), .bool st.armed, .int .i64 (st.left : Int)] 26)).alloc (.cells #[.int .i64 o.kind, .string o.name, .string o.tgt, .slice AB nB cB, .int .i64 o.n, .slice AK nK cK] 43)).alloc (.cells #[.slice none 0 0, .int .i64 0, .bool false, .int .i64 0] 26)) := ⟨_, rfl⟩
  rw [← hW1]
  have hb1 : Below w.heap.size w W1 := by rw [hW1]; exact (((Below.refl _ _).alloc (Nat.le_refl _) _).alloc (by simp) _).alloc (by simp; omega) _
  have h41 : Blk W1 w.heap.size 26 #[.slice A st.files.length c, .int .i64 (st.steps : Int), .bool st.armed, .int .i64 (st.left : Int)] := by rw [hW1]; exact ((Blk.new w _ _).alloc _).alloc _
  have h51 : Blk W1 (w.heap.size + 1) 43 #[.int .i64 o.kind, .string o.name, .string o.tgt, .slice AB nB cB, .int .i64 o.n, .slice AK nK cK] := by rw [hW1]; exact (blk_new' (by simp)).alloc _
  have h71 : Blk W1 (w.heap.size + 2) 26 #[.slice none 0 0, .int .i64 0, .bool false, .int .i64 0] := by rw [hW1]; exact blk_new' (by simp)
  have hs1 : w.heap.size + 3 ≤ W1.heap.size := by rw [hW1]; simp
  have hP1 := PlayS.start HD.out HR.out HST.out hb1 hs1 h51 ⟨_, _, _, _, h41⟩ ⟨_, _, _, _, h71⟩
  obtain ⟨p0, p1, p2, p3, p4, p5⟩ := op_cells hP1
  have H41 := Lib.hid h41
  clear hW1 h51 h71 h41 hs1
  have hF7 : PlayF w S T #[.int .i64 o.kind, .string o.name, .string o.tgt, .slice AB nB cB, .int .i64 o.n, .slice AK nK cK] b st A c W1 := ⟨hP1, H41.out⟩
  clear hP1 p0 p1 p2 p3 p4 p5
  refine wp_region_held_drew (S := PlayF w S T #[.int .i64 o.kind, .string o.name, .string o.tgt, .slice AB nB cB, .int .i64 o.n, .slice AK nK cK] b st A c) (by kernel_rfl) (by (first | assumption | (exact PlayF.drew (by assumption)) | (exact PlayF.fill (by assumption) _ _ _ _))) (fun hHeld => ?_)
  refine wpAnyH_take (i := 0) (v := ?vr5_0) (Fr.take_at rfl) (by kernel_rfl) (by kernel_rfl) (by kernel_rfl) (fun _ _ _ h => h) (Or.inl ⟨by rfl, ?yr5_0⟩) (by assumption) ?nr5_0
  case yr5_0 => (intro w_ hSw; obtain ⟨q0, q1, q2, q3⟩ := PlayF.cells hSw; go_simp; (try with_reducible rfl))
  try simp only [Act.put, List.setIfInBounds_toArray, List.set_cons_zero, List.set_cons_succ]
  refine wpAnyH_take (i := 1) (v := ?vr5_1) (Fr.take_at rfl) (by kernel_rfl) (by kernel_rfl) (by kernel_rfl) (fun _ _ _ h => h) (Or.inl ⟨by rfl, ?yr5_1⟩) (by assumption) ?nr5_1
  case yr5_1 => (intro w_ hSw; obtain ⟨q0, q1, q2, q3⟩ := PlayF.cells hSw; go_simp; (try with_reducible rfl))
  try simp only [Act.put, List.setIfInBounds_toArray, List.set_cons_zero, List.set_cons_succ]
  refine wpAnyH_take (i := 2) (v := ?vr5_2) (Fr.take_at rfl) (by kernel_rfl) (by kernel_rfl) (by kernel_rfl) (fun _ _ _ h => h) (Or.inl ⟨by rfl, ?yr5_2⟩) (by assumption) ?nr5_2
  case yr5_2 => (intro w_ hSw; obtain ⟨q0, q1, q2, q3⟩ := PlayF.cells hSw; go_simp; (try with_reducible rfl))
  try simp only [Act.put, List.setIfInBounds_toArray, List.set_cons_zero, List.set_cons_succ]
  refine wpAnyH_take (i := 3) (v := ?vr5_3) (Fr.take_at rfl) (by kernel_rfl) (by kernel_rfl) (by kernel_rfl) (fun _ _ _ h => h) (Or.inl ⟨by rfl, ?yr5_3⟩) (by assumption) ?nr5_3
  case yr5_3 => (intro w_ hSw; obtain ⟨q0, q1, q2, q3⟩ := PlayF.cells hSw; go_simp; (try with_reducible rfl))
  try simp only [Act.put, List.setIfInBounds_toArray, List.set_cons_zero, List.set_cons_succ]
  refine wpAnyH_take (i := 4) (v := ?vr5_4) (Fr.take_at rfl) (by kernel_rfl) (by kernel_rfl) (by kernel_rfl) (fun _ _ _ h => h) (Or.inl ⟨by rfl, ?yr5_4⟩) (by assumption) ?nr5_4
  case yr5_4 => (intro w_ hSw; obtain ⟨q0, q1, q2, q3⟩ := PlayF.cells hSw; go_simp; (try with_reducible rfl))
  try simp only [Act.put, List.setIfInBounds_toArray, List.set_cons_zero, List.set_cons_succ]
  refine wpAnyH_take (i := 5) (v := ?vr5_5) (Fr.take_at rfl) (by kernel_rfl) (by kernel_rfl) (by kernel_rfl) (fun _ _ _ h => h) (Or.inl ⟨by rfl, ?yr5_5⟩) (by assumption) ?nr5_5
  case yr5_5 => (intro w_ hSw; obtain ⟨q0, q1, q2, q3⟩ := PlayF.cells hSw; go_simp; (try with_reducible rfl))
  try simp only [Act.put, List.setIfInBounds_toArray, List.set_cons_zero, List.set_cons_succ]
  refine wpAnyH_take (i := 6) (v := ?vr5_6) (Fr.take_at rfl) (by kernel_rfl) (by kernel_rfl) (by kernel_rfl) (fun _ _ _ h => h) (Or.inl ⟨by rfl, ?yr5_6⟩) (by assumption) ?nr5_6
  case yr5_6 => (intro w_ hSw; obtain ⟨q0, q1, q2, q3⟩ := PlayF.cells hSw; go_simp; (try with_reducible rfl))
  try simp only [Act.put, List.setIfInBounds_toArray, List.set_cons_zero, List.set_cons_succ]
  refine wpAnyH_take (i := 7) (v := ?vr5_7) (Fr.take_at rfl) (by kernel_rfl) (by kernel_rfl) (by kernel_rfl) (fun _ _ _ h => h) (Or.inl ⟨by rfl, ?yr5_7⟩) (by assumption) ?nr5_7
  case yr5_7 => (intro w_ hSw; obtain ⟨q0, q1, q2, q3⟩ := PlayF.cells hSw; go_simp; (try with_reducible rfl))
  try simp only [Act.put, List.setIfInBounds_toArray, List.set_cons_zero, List.set_cons_succ]
  refine wpAnyH_ready (rs := [8]) (by kernel_rfl) (by simp) ?_
  refine AllReadyH.cons (Fr.take_at rfl) (fun K hK => ?_) AllReadyH.nil
  go_simp
  (go_at_call 13; refine (hHeld.p.tells HOK.out).mono ?_; rintro e w8 ⟨rfl, hb8⟩; have hF8 := hHeld.below hb8; obtain ⟨u0, u1, u2, u3, hx7, ⟨e0, e1, e2, e3⟩, ⟨f0, f1, f2, f3⟩⟩ := box7 hF8.p)
  try go_wp2_with fail
  refine hK.out _ _ (by (first | assumption | (exact PlayF.drew (by assumption)) | (exact PlayF.fill (by assumption) _ _ _ _))) (fun hHeld => ?_)
  clear hK K
  try simp only [Act.put, List.setIfInBounds_toArray, List.set_cons_zero, List.set_cons_succ]
  refine wpAnyH_take (i := 9) (v := ?vr5_9) (Fr.take_at rfl) (by kernel_rfl) (by kernel_rfl) (by kernel_rfl) (fun _ _ _ h => h) (Or.inl ⟨by rfl, ?yr5_9⟩) (by assumption) ?nr5_9
  case yr5_9 => (intro w_ hSw; obtain ⟨q0, q1, q2, q3⟩ := PlayF.cells hSw; go_simp; (try with_reducible rfl))
  try simp only [Act.put, List.setIfInBounds_toArray, List.set_cons_zero, List.set_cons_succ]
  refine wpAnyH_take (i := 10) (v := ?vr5_10) (Fr.take_at rfl) (by kernel_rfl) (by kernel_rfl) (by kernel_rfl) (fun _ _ _ h => h) (Or.inl ⟨by rfl, ?yr5_10⟩) (by assumption) ?nr5_10
  case yr5_10 => (intro w_ hSw; obtain ⟨q0, q1, q2, q3⟩ := PlayF.cells hSw; go_simp; (try with_reducible rfl))
  try simp only [Act.put, List.setIfInBounds_toArray, List.set_cons_zero, List.set_cons_succ]
  refine wpAnyH_ready (rs := [11]) (by kernel_rfl) (by simp) ?_
  refine AllReadyH.cons (Fr.take_at rfl) (fun K hK => ?_) AllReadyH.nil
  go_simp
  refine hK.out _ _ (by (first | assumption | (exact PlayF.drew (by assumption)) | (exact PlayF.fill (by assumption) _ _ _ _))) (fun hHeld => ?_)
  clear hK K
  try simp only [Act.put, List.setIfInBounds_toArray, List.set_cons_zero, List.set_cons_succ]
  refine wpAnyH_take (i := 12) (v := ?vr5_12) (Fr.take_at rfl) (by kernel_rfl) (by kernel_rfl) (by kernel_rfl) (fun _ _ _ h => h) (Or.inl ⟨by rfl, ?yr5_12⟩) (by assumption) ?nr5_12
  case yr5_12 => (intro w_ hSw; obtain ⟨q0, q1, q2, q3⟩ := PlayF.cells hSw; go_simp; (try with_reducible rfl))
  try simp only [Act.put, List.setIfInBounds_toArray, List.set_cons_zero, List.set_cons_succ]
  refine wpAnyH_done (by kernel_rfl) ?_ _
  go_wp2
  exact bodyPost_ret (results_tmp_cell_tmp (by rfl) _ _ _ _ _ _ _ _ _ (by rfl) (by rfl) (by rfl) (set4_blk hx7.out) Try.underlying26 (by rfl) (by kernel_rfl)) rfl hHeld.p.ret
end
end Dr
end Go.Proofs.Ytljhedgcpbapdaa
