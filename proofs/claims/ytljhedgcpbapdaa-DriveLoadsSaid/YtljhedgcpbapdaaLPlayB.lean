/-
  WHAT IS PROVED: what the law's 'play' answers, where the op is an Append. CONDITIONS: the drive and the reference stand in memory as one plain drive; the op's rows lie outside the drive's blocks.
-/
import Derived.Test.YtljhedgcpbapdaaLPlayA
namespace Go.Proofs.Ytljhedgcpbapdaa
open Go Go.RowKit Go.Maps Go.Proofs.Ytljhedgcpbapdaa.Fr
namespace Dr
/-- The cells of the op's box, whatever state the drive is in. -/
def PlayE (w : World) (S T : Nat → Prop) (cs : Array Value) (b : Nat) (sr : St) (v : Value) (X : World) : Prop := ∃ sd, PlayS w S T cs b sd sr v X
section
variable {w X X' : World} {S T : Nat → Prop} {cs : Array Value} {b : Nat} {sr : St} {v : Value}
theorem PlayE.below (h : PlayE w S T cs b sr v X) (hb : Below X.heap.size X X') : PlayE w S T cs b sr v X' := let ⟨sd, h⟩ := h; ⟨sd, h.below hb⟩
theorem PlayE.drew (h : PlayE w S T cs b sr v X) : PlayE w S T cs b sr v X.drew := h.below (below_drewN (Below.refl _ _) 1)
theorem PlayE.alloc (h : PlayE w S T cs b sr v X) (o : Obj) : PlayE w S T cs b sr v (X.alloc o) := h.below ((Below.refl _ _).alloc (Nat.le_refl _) o)
theorem PlayE.cells {a0 a1 a2 a3 a4 a5 : Value} (h : PlayE w S T #[a0, a1, a2, a3, a4, a5] b sr v X) : X.cell? ⟨w.heap.size + 1, 1, none⟩ = some a1 ∧ X.cell? ⟨w.heap.size + 1, 3, none⟩ = some a3 ∧ X.cell? ⟨w.heap.size + 1, 5, none⟩ = some a5 := let ⟨_, h⟩ := h; let ⟨_, h1, _, h3, _, h5⟩ := op_cells h; ⟨h1, h3, h5⟩
theorem rd_past {A : Option Addr} {xs : List Value} {Y : World} (h : Rd w A xs) (hS : xs ≠ [] → ∀ a, A = some a → ¬ S a.block) (hb : Below w.heap.size w X) (hk : ∀ A xs, Rd X A xs → (∀ a, A = some a → ¬ S a.block ∧ a.block < w.heap.size) → Rd Y A xs) : Rd Y A xs := by
  by_cases hx : xs = []
  · subst hx; exact Rd.nil
  · obtain ⟨g, o, rfl, hg, _⟩ := h hx
    exact hk _ _ (h.below hb) fun a ha => ⟨hS hx a ha, by cases ha; exact hg⟩
theorem own_not {W Y : World} {A : Option Addr} {e : TypeId} {n c : Nat} {xs : List Value} (h : Y.ownsRow W.heap.size e 1 (.slice A n c) n xs) {S' : Nat → Prop} (hS : ∀ k, S' k → k < W.heap.size) : ∀ a, A = some a → ¬ S' a.block := fun a ha hs => by
  subst ha
  have h1 := own_row h a.block rfl
  have h2 := hS _ hs
  omega
theorem lit_own (W : World) : (W.alloc (.cells #[] 5)).ownsRow W.heap.size 5 1 (.slice (some ⟨W.heap.size, 0, none⟩) 0 0) 0 [] := World.ownsRow_lit W #[] 0 (Nat.le_refl _) (by decide) rfl
end
section
variable {w : World} {S T : Nat → Prop} {b : Nat} {st : St} {v : Value} {o : POp} {AB AK : Option Addr} {nB cB nK cK : Nat}
set_option maxRecDepth 100000 in
theorem play_k1 (hd : DriveRep w S b st) (hr : RefRep w T v st) (hST : ∀ k, S k → ¬ T k) (hok : st.Ok) (hstep : st.steps + 1 ≤ 9223372036854775807) (ho : OpAt w S o AB nB cB AK nK cK) (hk : o.kind = 1) :
    Calls Try.prog 14 #[.pointer (some ⟨b, 0, none⟩), v, .agg (opV o AB nB cB AK nK cK)] w (PlayRet S T w (o.run st)) := by
  obtain ⟨st', k, hp⟩ : ∃ st' k, st.append o.name.data.toList o.b = (st', k) := ⟨_, _, rfl⟩
  have hrun : o.run st = st' := by unfold POp.run; rw [if_pos hk, hp]
  have hok' : st'.Ok := by have := hok.append o.name.data.toList o.b; rw [hp] at this; exact this
  rw [hrun]
  obtain ⟨ii, hii, hiz, hiz1, hiz2⟩ := info_parts info_u8
  obtain ⟨A, c, rfl, hl, _⟩ := refV_of hr
  have HD := Lib.hid hd
  have HR := Lib.hid hr
  have HST := Lib.hid hST
  have HOK := Lib.hid hok
  have HO := Lib.hid ho
  have HSTEP := Lib.hid hstep
  have HOK' := Lib.hid hok'
  have HP := Lib.hid hp
  clear hd hr hST hok hok' hrun hp hl ho hstep
  unfold opV
  go_enter Try.func14, Try.ntmps14
  go_upto_region 4 with fail
  obtain ⟨W1, hW1⟩ : ∃ W1, W1 = (((w.alloc (.cells #[.slice A st.files.length c, .int .i64 (st.steps : Int), .bool st.armed, .int .i64 (st.left : Int)] 26)).alloc (.cells #[.int .i64 1, .string o.name, .string o.tgt, .slice AB nB cB, .int .i64 o.n, .slice AK nK cK] 43)).alloc (.cells #[.slice none 0 0, .int .i64 0, .bool false, .int .i64 0] 26)) := ⟨_, rfl⟩
  rw [← hW1]
  have hb1 : Below w.heap.size w W1 := by rw [hW1]; exact (((Below.refl _ _).alloc (Nat.le_refl _) _).alloc (by simp) _).alloc (by simp; omega) _
  have h41 : Blk W1 w.heap.size 26 #[.slice A st.files.length c, .int .i64 (st.steps : Int), .bool st.armed, .int .i64 (st.left : Int)] := by rw [hW1]; exact ((Blk.new w _ _).alloc _).alloc _
  have h51 : Blk W1 (w.heap.size + 1) 43 #[.int .i64 1, .string o.name, .string o.tgt, .slice AB nB cB, .int .i64 o.n, .slice AK nK cK] := by rw [hW1]; exact (blk_new' (by simp)).alloc _
  have h71 : Blk W1 (w.heap.size + 2) 26 #[.slice none 0 0, .int .i64 0, .bool false, .int .i64 0] := by rw [hW1]; exact blk_new' (by simp)
  have hs1 : w.heap.size + 3 ≤ W1.heap.size := by rw [hW1]; simp
  have hP1 := PlayS.start HD.out HR.out HST.out hb1 hs1 h51 ⟨_, _, _, _, h41⟩ ⟨_, _, _, _, h71⟩
  obtain ⟨p0, p1, p2, p3, p4, p5⟩ := op_cells hP1
  have H41 := Lib.hid h41
  clear hW1 h51 h71 h41 hs1
  have hE1 : PlayE w S T #[.int .i64 1, .string o.name, .string o.tgt, .slice AB nB cB, .int .i64 o.n, .slice AK nK cK] b st (.agg #[.slice A st.files.length c, .int .i64 (st.steps : Int), .bool st.armed, .int .i64 (st.left : Int)]) W1 := ⟨_, hP1⟩
  have HRB : Hid (Rd (W1.alloc (.cells #[] 5)) AB (bv o.b)) := (HO.out.rB.below hb1).alloc _
  have HLO := Lib.hid (lit_own W1)
  have HMB := Lib.hid HO.out.mB
  clear p0 p1 p2 p3 p4 p5
  refine wp_region_held_drew (S := PlayE w S T #[.int .i64 1, .string o.name, .string o.tgt, .slice AB nB cB, .int .i64 o.n, .slice AK nK cK] b st (.agg #[.slice A st.files.length c, .int .i64 (st.steps : Int), .bool st.armed, .int .i64 (st.left : Int)])) (by kernel_rfl) (by (first | assumption | (exact PlayE.drew (by assumption)) | (exact PlayE.alloc (by assumption) _) | (exact PlayE.below (by assumption) (by assumption)) | (exact ⟨_, by assumption⟩))) (fun hHeld => ?_)
  refine wpAnyH_take (i := 0) (v := ?vr1_0) (Fr.take_at rfl) (by kernel_rfl) (by kernel_rfl) (by kernel_rfl) (fun _ _ _ h => h) (Or.inl ⟨by rfl, ?yr1_0⟩) (by assumption) ?nr1_0
  case yr1_0 => (intro w_ hSw; obtain ⟨q1, q3, q5⟩ := PlayE.cells hSw; go_simp; (try with_reducible rfl))
  try simp only [Act.put, List.setIfInBounds_toArray, List.set_cons_zero, List.set_cons_succ]
  refine wpAnyH_take (i := 1) (v := ?vr1_1) (Fr.take_at rfl) (by kernel_rfl) (by kernel_rfl) (by kernel_rfl) (fun _ _ _ h => h) (Or.inl ⟨by rfl, ?yr1_1⟩) (by assumption) ?nr1_1
  case yr1_1 => (intro w_ hSw; obtain ⟨q1, q3, q5⟩ := PlayE.cells hSw; go_simp; (try with_reducible rfl))
  try simp only [Act.put, List.setIfInBounds_toArray, List.set_cons_zero, List.set_cons_succ]
  refine wpAnyH_take (i := 2) (v := ?vr1_2) (Fr.take_at rfl) (by kernel_rfl) (by kernel_rfl) (by kernel_rfl) (fun _ _ _ h => h) (Or.inl ⟨by rfl, ?yr1_2⟩) (by assumption) ?nr1_2
  case yr1_2 => (intro w_ hSw; obtain ⟨q1, q3, q5⟩ := PlayE.cells hSw; go_simp; (try with_reducible rfl))
  try simp only [Act.put, List.setIfInBounds_toArray, List.set_cons_zero, List.set_cons_succ]
  refine wpAnyH_take (i := 4) (v := ?vr1_4) (Fr.take_at rfl) (by kernel_rfl) (by kernel_rfl) (by kernel_rfl) (fun _ _ _ h => h) (Or.inl ⟨by rfl, ?yr1_4⟩) (by assumption) ?nr1_4
  case yr1_4 => (intro w_ hSw; obtain ⟨q1, q3, q5⟩ := PlayE.cells hSw; go_simp; (try with_reducible rfl))
  try simp only [Act.put, List.setIfInBounds_toArray, List.set_cons_zero, List.set_cons_succ]
  refine wpAnyH_take (i := 5) (v := ?vr1_5) (Fr.take_at rfl) (by kernel_rfl) (by kernel_rfl) (by kernel_rfl) (fun _ _ _ h => h) (Or.inl ⟨by rfl, ?yr1_5⟩) (by assumption) ?nr1_5
  case yr1_5 => (intro w_ hSw; obtain ⟨q1, q3, q5⟩ := PlayE.cells hSw; go_simp; (try with_reducible rfl))
  try simp only [Act.put, List.setIfInBounds_toArray, List.set_cons_zero, List.set_cons_succ]
  refine wpAnyH_ready (rs := [3]) (by kernel_rfl) (by simp) ?_
  refine AllReadyH.cons (Fr.take_at rfl) (fun K hK => ?_) AllReadyH.nil
  go_simp
  refine hK.out _ _ (by (first | assumption | (exact PlayE.drew (by assumption)) | (exact PlayE.alloc (by assumption) _) | (exact PlayE.below (by assumption) (by assumption)) | (exact ⟨_, by assumption⟩))) (fun hHeld => ?_)
  clear hK K
  try simp only [Act.put, List.setIfInBounds_toArray, List.set_cons_zero, List.set_cons_succ]
  refine wpAnyH_ready (rs := [6]) (by kernel_rfl) (by simp) ?_
  refine AllReadyH.cons (Fr.take_at rfl) (fun K hK => ?_) AllReadyH.nil
  rw [if_pos (by rfl)]
  (refine wp_app _ (.tmp 20) (.tmp 22) 33 (by rfl) W1.heap.size 5 ii _ 1 Try.underlying33 hii hiz hiz1 hiz2 (by rfl) (.slice (some ⟨W1.heap.size, 0, none⟩) 0 0) 0 [] (by rfl) HLO.out AB nB cB (bv o.b) (by rfl) (by rw [bv_length]; exact HO.out.lB) HRB.out (bv_one _) nB (by omega) (by have := HMB.out; simp only [maxLen]; omega) (by have := HMB.out; omega) (by simp) ?_; intro A2 c2 w2 hown2 hb2 hg2 hl2; clear hg2 hl2; have hb2' : Below W1.heap.size W1 w2 := (below_drewN ((Below.refl W1.heap.size W1).alloc (Nat.le_refl _) (.cells #[] 5)) 1).trans hb2; have hown2' : w2.ownsRow W1.heap.size 5 1 (.slice A2 nB c2) nB (bv o.b) := hown2; clear hb2 hown2; have hE2 := hE1.below hb2')
  refine hK.out _ _ (by (first | assumption | (exact PlayE.drew (by assumption)) | (exact PlayE.alloc (by assumption) _) | (exact PlayE.below (by assumption) (by assumption)) | (exact ⟨_, by assumption⟩))) (fun hHeld => ?_)
  clear hK K
  try simp only [Act.put, List.setIfInBounds_toArray, List.set_cons_zero, List.set_cons_succ]
  refine wpAnyH_ready (rs := [7]) (by kernel_rfl) (by simp) ?_
  refine AllReadyH.cons (Fr.take_at rfl) (fun K hK => ?_) AllReadyH.nil
  go_simp
  (go_at_call 24; refine (PlayS.dcall hP1 H41.out hb2' HP.out (fun S' hr hlt => append_any hr HOK.out HSTEP.out o.name HO.out.name A2 nB c2 o.b HO.out.lB (Nat.le_trans HMB.out (by decide)) (Rd.own hown2') (own_not hown2' hlt))).mono ?_; rintro e w5 ⟨rfl, hP5, h45, hk5⟩)
  try go_wp2_with fail
  refine hK.out _ _ (by (first | assumption | (exact PlayE.drew (by assumption)) | (exact PlayE.alloc (by assumption) _) | (exact PlayE.below (by assumption) (by assumption)) | (exact ⟨_, by assumption⟩))) (fun hHeld => ?_)
  clear hK K
  try simp only [Act.put, List.setIfInBounds_toArray, List.set_cons_zero, List.set_cons_succ]
  refine wpAnyH_take (i := 8) (v := ?vr1_8) (Fr.take_at rfl) (by kernel_rfl) (by kernel_rfl) (by kernel_rfl) (fun _ _ _ h => h) (Or.inl ⟨by rfl, ?yr1_8⟩) (by assumption) ?nr1_8
  case yr1_8 => (intro w_ hSw; obtain ⟨q1, q3, q5⟩ := PlayE.cells hSw; go_simp; (try with_reducible rfl))
  try simp only [Act.put, List.setIfInBounds_toArray, List.set_cons_zero, List.set_cons_succ]
  refine wpAnyH_done (by kernel_rfl) ?_ _
  have hr5 := rd_past HO.out.rB (fun h => HO.out.sB (bv_ne h)) (hb1.trans (hb2'.mono hb1.size)) hk5
  have hst5 := run_str (P := Try.prog) w5 33 9 5 Try.underlying33 Try.underlying5 Try.underlying9 AB nB cB o.b HO.out.lB hr5
  have HBS : Hid ((⟨o.b.toArray⟩ : ByteArray).size ≤ 140737488355328) := by
    have h1 : (⟨o.b.toArray⟩ : ByteArray).size = o.b.length := by show o.b.toArray.size = _; simp
    have := HMB.out
    have := HO.out.lB
    show (⟨o.b.toArray⟩ : ByteArray).size ≤ _
    omega
  obtain ⟨bs, hbs⟩ : ∃ bs : ByteArray, bs = ⟨o.b.toArray⟩ := ⟨_, rfl⟩
  have HPB : Hid (st.append o.name.data.toList bs.data.toList = (st', k)) := by rw [hbs]; exact HP.out
  rw [← hbs] at hst5 HBS
  obtain ⟨a0, a1, a2, a3⟩ := blk_cells4 h45
  obtain ⟨r0, r1, r2, r3, r4, r5⟩ := op_cells hP5
  clear hbs hk5 hr5 hP1 hE1 hE2 hown2' hb2' h45
  go_upto_region 22 with (go_at_call 28; refine (PlayS.rcall hP5 HPB.out (fun T' hr => rappend_any hr HOK.out HSTEP.out o.name bs HO.out.name HBS.out)).mono ?_; rintro e w6 ⟨A6, c6, rfl, hP6, hb6⟩; obtain ⟨x0, x1, x2, x3, hx, ⟨y0, y1, y2, y3⟩, ⟨z0, z1, z2, z3⟩⟩ := box4 hP6)
  have hF7 := PlayF.made hP6 rfl
  clear hP5 hP6 y0 y1 y2 y3 z0 z1 z2 z3 hb6 r0 r1 r2 r3 r4 r5 a0 a1 a2 a3 hst5
  refine wp_region_held_drew (S := PlayF w S T #[.int .i64 1, .string o.name, .string o.tgt, .slice AB nB cB, .int .i64 o.n, .slice AK nK cK] b st' A6 c6) (by kernel_rfl) (by (first | assumption | (exact PlayF.drew (by assumption)) | (exact PlayF.fill (by assumption) _ _ _ _))) (fun hHeld => ?_)
  refine wpAnyH_take (i := 0) (v := ?vr2_0) (Fr.take_at rfl) (by kernel_rfl) (by kernel_rfl) (by kernel_rfl) (fun _ _ _ h => h) (Or.inl ⟨by rfl, ?yr2_0⟩) (by assumption) ?nr2_0
  case yr2_0 => (intro w_ hSw; obtain ⟨q0, q1, q2, q3⟩ := PlayF.cells hSw; go_simp; (try with_reducible rfl))
  try simp only [Act.put, List.setIfInBounds_toArray, List.set_cons_zero, List.set_cons_succ]
  refine wpAnyH_take (i := 1) (v := ?vr2_1) (Fr.take_at rfl) (by kernel_rfl) (by kernel_rfl) (by kernel_rfl) (fun _ _ _ h => h) (Or.inl ⟨by rfl, ?yr2_1⟩) (by assumption) ?nr2_1
  case yr2_1 => (intro w_ hSw; obtain ⟨q0, q1, q2, q3⟩ := PlayF.cells hSw; go_simp; (try with_reducible rfl))
  try simp only [Act.put, List.setIfInBounds_toArray, List.set_cons_zero, List.set_cons_succ]
  refine wpAnyH_take (i := 2) (v := ?vr2_2) (Fr.take_at rfl) (by kernel_rfl) (by kernel_rfl) (by kernel_rfl) (fun _ _ _ h => h) (Or.inl ⟨by rfl, ?yr2_2⟩) (by assumption) ?nr2_2
  case yr2_2 => (intro w_ hSw; obtain ⟨q0, q1, q2, q3⟩ := PlayF.cells hSw; go_simp; (try with_reducible rfl))
  try simp only [Act.put, List.setIfInBounds_toArray, List.set_cons_zero, List.set_cons_succ]
  refine wpAnyH_take (i := 3) (v := ?vr2_3) (Fr.take_at rfl) (by kernel_rfl) (by kernel_rfl) (by kernel_rfl) (fun _ _ _ h => h) (Or.inl ⟨by rfl, ?yr2_3⟩) (by assumption) ?nr2_3
  case yr2_3 => (intro w_ hSw; obtain ⟨q0, q1, q2, q3⟩ := PlayF.cells hSw; go_simp; (try with_reducible rfl))
  try simp only [Act.put, List.setIfInBounds_toArray, List.set_cons_zero, List.set_cons_succ]
  refine wpAnyH_take (i := 4) (v := ?vr2_4) (Fr.take_at rfl) (by kernel_rfl) (by kernel_rfl) (by kernel_rfl) (fun _ _ _ h => h) (Or.inl ⟨by rfl, ?yr2_4⟩) (by assumption) ?nr2_4
  case yr2_4 => (intro w_ hSw; obtain ⟨q0, q1, q2, q3⟩ := PlayF.cells hSw; go_simp; (try with_reducible rfl))
  try simp only [Act.put, List.setIfInBounds_toArray, List.set_cons_zero, List.set_cons_succ]
  refine wpAnyH_take (i := 5) (v := ?vr2_5) (Fr.take_at rfl) (by kernel_rfl) (by kernel_rfl) (by kernel_rfl) (fun _ _ _ h => h) (Or.inl ⟨by rfl, ?yr2_5⟩) (by assumption) ?nr2_5
  case yr2_5 => (intro w_ hSw; obtain ⟨q0, q1, q2, q3⟩ := PlayF.cells hSw; go_simp; (try with_reducible rfl))
  try simp only [Act.put, List.setIfInBounds_toArray, List.set_cons_zero, List.set_cons_succ]
  refine wpAnyH_take (i := 6) (v := ?vr2_6) (Fr.take_at rfl) (by kernel_rfl) (by kernel_rfl) (by kernel_rfl) (fun _ _ _ h => h) (Or.inl ⟨by rfl, ?yr2_6⟩) (by assumption) ?nr2_6
  case yr2_6 => (intro w_ hSw; obtain ⟨q0, q1, q2, q3⟩ := PlayF.cells hSw; go_simp; (try with_reducible rfl))
  try simp only [Act.put, List.setIfInBounds_toArray, List.set_cons_zero, List.set_cons_succ]
  refine wpAnyH_take (i := 7) (v := ?vr2_7) (Fr.take_at rfl) (by kernel_rfl) (by kernel_rfl) (by kernel_rfl) (fun _ _ _ h => h) (Or.inl ⟨by rfl, ?yr2_7⟩) (by assumption) ?nr2_7
  case yr2_7 => (intro w_ hSw; obtain ⟨q0, q1, q2, q3⟩ := PlayF.cells hSw; go_simp; (try with_reducible rfl))
  try simp only [Act.put, List.setIfInBounds_toArray, List.set_cons_zero, List.set_cons_succ]
  refine wpAnyH_ready (rs := [8]) (by kernel_rfl) (by simp) ?_
  refine AllReadyH.cons (Fr.take_at rfl) (fun K hK => ?_) AllReadyH.nil
  go_simp
  (go_at_call 13; refine (hHeld.p.tells HOK'.out).mono ?_; rintro e w8 ⟨rfl, hb8⟩; have hF8 := hHeld.below hb8; obtain ⟨u0, u1, u2, u3, hx7, ⟨e0, e1, e2, e3⟩, ⟨f0, f1, f2, f3⟩⟩ := box7 hF8.p)
  try go_wp2_with fail
  refine hK.out _ _ (by (first | assumption | (exact PlayF.drew (by assumption)) | (exact PlayF.fill (by assumption) _ _ _ _))) (fun hHeld => ?_)
  clear hK K
  try simp only [Act.put, List.setIfInBounds_toArray, List.set_cons_zero, List.set_cons_succ]
  refine wpAnyH_take (i := 9) (v := ?vr2_9) (Fr.take_at rfl) (by kernel_rfl) (by kernel_rfl) (by kernel_rfl) (fun _ _ _ h => h) (Or.inl ⟨by rfl, ?yr2_9⟩) (by assumption) ?nr2_9
  case yr2_9 => (intro w_ hSw; obtain ⟨q0, q1, q2, q3⟩ := PlayF.cells hSw; go_simp; (try with_reducible rfl))
  try simp only [Act.put, List.setIfInBounds_toArray, List.set_cons_zero, List.set_cons_succ]
  refine wpAnyH_take (i := 10) (v := ?vr2_10) (Fr.take_at rfl) (by kernel_rfl) (by kernel_rfl) (by kernel_rfl) (fun _ _ _ h => h) (Or.inl ⟨by rfl, ?yr2_10⟩) (by assumption) ?nr2_10
  case yr2_10 => (intro w_ hSw; obtain ⟨q0, q1, q2, q3⟩ := PlayF.cells hSw; go_simp; (try with_reducible rfl))
  try simp only [Act.put, List.setIfInBounds_toArray, List.set_cons_zero, List.set_cons_succ]
  refine wpAnyH_ready (rs := [11]) (by kernel_rfl) (by simp) ?_
  refine AllReadyH.cons (Fr.take_at rfl) (fun K hK => ?_) AllReadyH.nil
  go_simp
  refine hK.out _ _ (by (first | assumption | (exact PlayF.drew (by assumption)) | (exact PlayF.fill (by assumption) _ _ _ _))) (fun hHeld => ?_)
  clear hK K
  try simp only [Act.put, List.setIfInBounds_toArray, List.set_cons_zero, List.set_cons_succ]
  refine wpAnyH_take (i := 12) (v := ?vr2_12) (Fr.take_at rfl) (by kernel_rfl) (by kernel_rfl) (by kernel_rfl) (fun _ _ _ h => h) (Or.inl ⟨by rfl, ?yr2_12⟩) (by assumption) ?nr2_12
  case yr2_12 => (intro w_ hSw; obtain ⟨q0, q1, q2, q3⟩ := PlayF.cells hSw; go_simp; (try with_reducible rfl))
  try simp only [Act.put, List.setIfInBounds_toArray, List.set_cons_zero, List.set_cons_succ]
  refine wpAnyH_done (by kernel_rfl) ?_ _
  go_wp2
  exact bodyPost_ret (results_tmp_cell_tmp (by rfl) _ _ _ _ _ _ _ _ _ (by rfl) (by rfl) (by rfl) (set4_blk hx7.out) Try.underlying26 (by rfl) (by kernel_rfl)) rfl hHeld.p.ret
end
end Dr
end Go.Proofs.Ytljhedgcpbapdaa
