/-
  WHAT IS PROVED: what the law's 'play' answers, where the op is a Crash. CONDITIONS: the drive and the reference stand in memory as one plain drive; the op's rows lie outside the drive's blocks.
-/
import Derived.Test.YtljhedgcpbapdaaLPlayB
namespace Go.Proofs.Ytljhedgcpbapdaa
open Go Go.RowKit Go.Maps Go.Proofs.Ytljhedgcpbapdaa.Fr
namespace Dr
/-- The old drive and the old reference, in their boxes. -/
structure PlayD (w : World) (S T : Nat → Prop) (cs : Array Value) (b : Nat) (st : St) (A : Option Addr) (c g12 : Nat) (X : World) : Prop where
  p : PlayS w S T cs b st st (.agg (refC A c st)) X
  m : Blk X g12 26 (refC A c st)
  hg : w.heap.size + 3 ≤ g12
/-- And the new ones. -/
structure PlayC (w : World) (S T : Nat → Prop) (cs : Array Value) (b b2 : Nat) (st st6 : St) (A : Option Addr) (c g12 : Nat) (A6 : Option Addr) (c6 : Nat) (X : World) : Prop where
  d : PlayD w S T cs b st A c g12 X
  m : Blk X w.heap.size 26 (refC A6 c6 st6)
  n : ∃ S2 T2, DriveRep X S2 b2 st6 ∧ RefRep X T2 (.agg (refC A6 c6 st6)) st6 ∧ (∀ k, S2 k → w.heap.size + 3 ≤ k) ∧ (∀ k, T2 k → T k ∨ w.heap.size + 3 ≤ k) ∧ ∀ k, S2 k → ¬ T2 k
section
variable {w X X' X3 : World} {S T : Nat → Prop} {cs : Array Value} {b b2 : Nat} {st st6 : St} {A A6 : Option Addr} {c c6 g12 : Nat}
theorem PlayD.below (h : PlayD w S T cs b st A c g12 X) (hb : Below X.heap.size X X') : PlayD w S T cs b st A c g12 X' := ⟨h.p.below hb, h.m.same (hb.block _ h.m.lt), h.hg⟩
theorem PlayD.drew (h : PlayD w S T cs b st A c g12 X) : PlayD w S T cs b st A c g12 X.drew := h.below (below_drewN (Below.refl _ _) 1)
theorem PlayD.fill (h : PlayD w S T cs b st A c g12 X) {g : Nat} (hg : g = w.heap.size ∨ g = w.heap.size + 2) (a0 a1 a2 a3 : Value) : PlayD w S T cs b st A c g12 (set4 X g a0 a1 a2 a3) :=
  ⟨h.p.fill hg a0 a1 a2 a3, h.m.same (set4_off X a0 a1 a2 a3 (by have := h.hg; omega)), h.hg⟩
theorem PlayD.op5 {a0 a1 a2 a3 a4 a5 : Value} (h : PlayD w S T #[a0, a1, a2, a3, a4, a5] b st A c g12 X) : X.cell? ⟨w.heap.size + 1, 5, none⟩ = some a5 := (op_cells h.p).2.2.2.2.2
theorem PlayD.crash (h : PlayD w S T cs b st A c g12 X) (hok : st.Ok) {o : POp} {AB AK : Option Addr} {nB cB nK cK : Nat} (ho : OpAt w S o AB nB cB AK nK cK) (h6 : st.crash o.ks = st6) :
    Calls Try.prog 15 #[.pointer (some ⟨b, 0, none⟩), .slice AK nK cK] X fun e X' => ∃ b2, e = .returned (.pointer (some ⟨b2, 0, none⟩)) ∧ DriveRep X' (New X X') b2 st6 ∧ Below X.heap.size X X' := by
  obtain ⟨S', T', h1, _⟩ := h.p.reps
  have h2 := crash_any h1 hok AK nK cK o.ks ho.lK ho.cK (rd_mod' ho.rK h.p.mod fun h => ho.sK (iv_ne h))
  rw [h6] at h2
  exact h2
theorem PlayD.rcrash (h : PlayD w S T cs b st A c g12 X) (hb : Below X.heap.size X X') (hok : st.Ok) {o : POp} {AB AK : Option Addr} {nB cB nK cK : Nat} (ho : OpAt w S o AB nB cB AK nK cK) (h6 : st.crash o.ks = st6) :
    Calls Try.prog 16 #[.agg (refC A c st), .slice AK nK cK] X' fun e X3 => ∃ A6 c6, e = .returned (.agg #[.slice A6 st6.files.length c6, .int .i64 (st6.steps : Int), .bool st6.armed, .int .i64 (st6.left : Int)]) ∧ (∃ T', (∀ k, T' k → (T k ∨ w.heap.size + 3 ≤ k) ∧ k < X.heap.size) ∧ RefRep X3 (ext T' X' X3) (.agg (refC A6 c6 st6)) st6) ∧ Below X'.heap.size X' X3 := by
  obtain ⟨S', T', h1, h2, _, h4, _⟩ := h.p.reps
  have h3 := rcrash_any (h2.below hb) hok AK nK cK o.ks ho.lK ((rd_mod' ho.rK h.p.mod fun h => ho.sK (iv_ne h)).below hb) ho.mK ho.iK
  rw [h6] at h3
  refine h3.mono fun e X3 ⟨v', h7, h8, h9⟩ => ?_
  obtain ⟨A6, c6, rfl, _, _⟩ := refV_of h8
  exact ⟨A6, c6, h7, ⟨T', fun k hk => ⟨h4 k hk, h2.lt k hk⟩, h8⟩, h9⟩
theorem PlayC.made (h : PlayD w S T cs b st A c g12 X) (hb : Below X.heap.size X X') (hN : DriveRep X' (New X X') b2 st6) (hT : ∃ T', (∀ k, T' k → (T k ∨ w.heap.size + 3 ≤ k) ∧ k < X.heap.size) ∧ RefRep X3 (ext T' X' X3) (.agg (refC A6 c6 st6)) st6) (hb3 : Below X'.heap.size X' X3) :
    PlayC w S T cs b b2 st st6 A c g12 A6 c6 (set4 X3 w.heap.size (.slice A6 st6.files.length c6) (.int .i64 (st6.steps : Int)) (.bool st6.armed) (.int .i64 (st6.left : Int))) := by
  obtain ⟨T', h1, h2⟩ := hT
  have hs := h.p.size
  have hs2 := hb.size
  have hX3 := (h.below hb).below hb3
  obtain ⟨x0, x1, x2, x3, hx⟩ := hX3.p.b4
  have oS : ∀ k, New X X' k → k ≠ w.heap.size := fun k hk e => by have := hk.1; omega
  have oT : ∀ k, ext T' X' X3 k → k ≠ w.heap.size := fun k hk e => by
    rcases hk with hk | hk
    · rcases (h1 k hk).1 with h3 | h3
      · have := h.p.lt k h3; omega
      · omega
    · omega
  refine ⟨hX3.fill (.inl rfl) _ _ _ _, set4_blk hx, New X X', ext T' X' X3, (hN.below hb3).same (fun k hk => set4_off X3 _ _ _ _ (oS k hk)) (by rw [set4_size]; exact Nat.le_refl _), h2.same (fun k hk => set4_off X3 _ _ _ _ (oT k hk)) (by rw [set4_size]; exact Nat.le_refl _), fun k hk => by have := hk.1; omega, fun k hk => ?_, fun k hk h3 => ?_⟩
  · rcases hk with hk | hk
    · exact (h1 k hk).1
    · exact .inr (by omega)
  · rcases h3 with h3 | h3
    · have := (h1 k h3).2; have := hk.1; omega
    · have := hk.2; omega
theorem PlayC.below (h : PlayC w S T cs b b2 st st6 A c g12 A6 c6 X) (hb : Below X.heap.size X X') : PlayC w S T cs b b2 st st6 A c g12 A6 c6 X' :=
  let ⟨S2, T2, h1, h2, h3⟩ := h.n; ⟨h.d.below hb, h.m.same (hb.block _ h.m.lt), S2, T2, h1.below hb, h2.below hb, h3⟩
theorem PlayC.drew (h : PlayC w S T cs b b2 st st6 A c g12 A6 c6 X) : PlayC w S T cs b b2 st st6 A c g12 A6 c6 X.drew := h.below (below_drewN (Below.refl _ _) 1)
theorem PlayC.fill (h : PlayC w S T cs b b2 st st6 A c g12 A6 c6 X) (a0 a1 a2 a3 : Value) : PlayC w S T cs b b2 st st6 A c g12 A6 c6 (set4 X (w.heap.size + 2) a0 a1 a2 a3) := by
  obtain ⟨S2, T2, h1, h2, h3, h4, h5⟩ := h.n
  refine ⟨h.d.fill (.inr rfl) a0 a1 a2 a3, h.m.same (set4_off X a0 a1 a2 a3 (by omega)), S2, T2, h1.same (fun k hk => set4_off X a0 a1 a2 a3 (by have := h3 k hk; omega)) (by rw [set4_size]; exact Nat.le_refl _), h2.same (fun k hk => set4_off X a0 a1 a2 a3 (by
    rcases h4 k hk with h6 | h6
    · have := h.d.p.lt k h6; omega
    · omega)) (by rw [set4_size]; exact Nat.le_refl _), h3, h4, h5⟩
theorem PlayC.cells (h : PlayC w S T cs b b2 st st6 A c g12 A6 c6 X) : (X.cell? ⟨w.heap.size, 0, none⟩ = some (.slice A6 st6.files.length c6) ∧ X.cell? ⟨w.heap.size, 1, none⟩ = some (.int .i64 (st6.steps : Int)) ∧ X.cell? ⟨w.heap.size, 2, none⟩ = some (.bool st6.armed) ∧ X.cell? ⟨w.heap.size, 3, none⟩ = some (.int .i64 (st6.left : Int))) ∧
    (X.cell? ⟨g12, 0, none⟩ = some (.slice A st.files.length c) ∧ X.cell? ⟨g12, 1, none⟩ = some (.int .i64 (st.steps : Int)) ∧ X.cell? ⟨g12, 2, none⟩ = some (.bool st.armed) ∧ X.cell? ⟨g12, 3, none⟩ = some (.int .i64 (st.left : Int))) := ⟨blk_cells4 h.m, blk_cells4 h.d.m⟩
theorem PlayC.tnew (h : PlayC w S T cs b b2 st st6 A c g12 A6 c6 X) (hok : st6.Ok) : Calls Try.prog 13 #[.pointer (some ⟨b2, 0, none⟩), .agg (refC A6 c6 st6)] X fun e X' => e = .returned (.bool true) ∧ Below X.heap.size X X' :=
  let ⟨_, _, h1, h2, _⟩ := h.n; tells_any h1 h2 hok
theorem PlayC.told (h : PlayC w S T cs b b2 st st6 A c g12 A6 c6 X) (hok : st.Ok) : Calls Try.prog 13 #[.pointer (some ⟨b, 0, none⟩), .agg (refC A c st)] X fun e X' => e = .returned (.bool true) ∧ Below X.heap.size X X' := h.d.p.tells hok
theorem PlayC.ret (h : PlayC w S T cs b b2 st st6 A c g12 A6 c6 X) : PlayRet S T w st6 (.returned (.tuple #[.pointer (some ⟨b2, 0, none⟩), .agg (refC A6 c6 st6), .bool true])) X :=
  let ⟨S2, T2, h1, h2, h3, h4, h5⟩ := h.n; ⟨b2, S2, _, T2, rfl, h1, h2, fun k hk => .inr (by have := h3 k hk; omega), fun k hk => (h4 k hk).imp id fun h => by omega, h5, h.d.p.mod⟩
theorem PlayF.alloc (h : PlayF w S T cs b st A c X) (o : Obj) : PlayF w S T cs b st A c (X.alloc o) := h.below ((Below.refl _ _).alloc (Nat.le_refl _) o)
theorem blk_past {W X2 : World} {g : Nat} {t : TypeId} {cs : Array Value} (h : Blk W g t cs) (hb : Below W.drew.heap.size W.drew X2) : Blk X2 g t cs := h.same (hb.block g h.lt)
theorem b19 (W : World) (o : Obj) (a0 a1 a2 a3 : Value) : Below W.heap.size W (set4 (W.drew.alloc o) W.heap.size a0 a1 a2 a3) := set4_below ((below_drewN (Below.refl _ _) 1).alloc (Nat.le_refl _) o) (Nat.le_refl _)
end
section
variable {w : World} {S T : Nat → Prop} {b : Nat} {st : St} {v : Value} {o : POp} {AB AK : Option Addr} {nB cB nK cK : Nat}
set_option maxRecDepth 100000 in
set_option maxHeartbeats 1000000 in
theorem play_k6 (hd : DriveRep w S b st) (hr : RefRep w T v st) (hST : ∀ k, S k → ¬ T k) (hok : st.Ok) (hstep : st.steps + 1 ≤ 9223372036854775807) (ho : OpAt w S o AB nB cB AK nK cK) (hk : o.kind = 6) :
    Calls Try.prog 14 #[.pointer (some ⟨b, 0, none⟩), v, .agg (opV o AB nB cB AK nK cK)] w (PlayRet S T w (o.run st)) := by
  obtain ⟨st6, h6⟩ : ∃ st6, st.crash o.ks = st6 := ⟨_, rfl⟩
  have hrun : o.run st = st6 := by unfold POp.run; rw [if_neg (by omega), if_neg (by omega), if_neg (by omega), if_neg (by omega), if_neg (by omega), if_pos hk, h6]
  have hok' : st6.Ok := by rw [← h6]; exact hok.crash o.ks
  rw [hrun]
  obtain ⟨A, c, rfl, hl, _⟩ := refV_of hr
  have HD := Lib.hid hd
  have HR := Lib.hid hr
  have HST := Lib.hid hST
  have HOK := Lib.hid hok
  have HO := Lib.hid ho
  have HSTEP := Lib.hid hstep
  have HOK' := Lib.hid hok'
  have H6 := Lib.hid h6
  clear hd hr hST hok hok' hrun h6 hl ho hstep
  unfold opV
  go_enter Try.func14, Try.ntmps14
  go_upto_region 19 with fail
  obtain ⟨W1, hW1⟩ : ∃ W1, W1 = (((w.alloc (.cells #[.slice A st.files.length c, .int .i64 (st.steps : Int), .bool st.armed, .int .i64 (st.left : Int)] 26)).alloc (.cells #[.int .i64 6, .string o.name, .string o.tgt, .slice AB nB cB, .int .i64 o.n, .slice AK nK cK] 43)).alloc (.cells #[.slice none 0 0, .int .i64 0, .bool false, .int .i64 0] 26)) := ⟨_, rfl⟩
  rw [← hW1]
  have hb1 : Below w.heap.size w W1 := by rw [hW1]; exact (((Below.refl _ _).alloc (Nat.le_refl _) _).alloc (by simp) _).alloc (by simp; omega) _
  have h41 : Blk W1 w.heap.size 26 #[.slice A st.files.length c, .int .i64 (st.steps : Int), .bool st.armed, .int .i64 (st.left : Int)] := by rw [hW1]; exact ((Blk.new w _ _).alloc _).alloc _
  have h51 : Blk W1 (w.heap.size + 1) 43 #[.int .i64 6, .string o.name, .string o.tgt, .slice AB nB cB, .int .i64 o.n, .slice AK nK cK] := by rw [hW1]; exact (blk_new' (by simp)).alloc _
  have h71 : Blk W1 (w.heap.size + 2) 26 #[.slice none 0 0, .int .i64 0, .bool false, .int .i64 0] := by rw [hW1]; exact blk_new' (by simp)
  have hs1 : w.heap.size + 3 ≤ W1.heap.size := by rw [hW1]; simp
  have hP1 := PlayS.start HD.out HR.out HST.out hb1 hs1 h51 ⟨_, _, _, _, h41⟩ ⟨_, _, _, _, h71⟩
  obtain ⟨p0, p1, p2, p3, p4, p5⟩ := op_cells hP1
  have H41 := Lib.hid h41
  clear hW1 h51 h71 h41 hs1
  have hF1 : PlayF w S T #[.int .i64 6, .string o.name, .string o.tgt, .slice AB nB cB, .int .i64 o.n, .slice AK nK cK] b st A c W1 := ⟨hP1, H41.out⟩
  have hs1 := hP1.size
  have HS1 := Lib.hid hs1
  clear p0 p1 p2 p3 p4 p5 hs1
  refine wp_region_held_drew (S := PlayF w S T #[.int .i64 6, .string o.name, .string o.tgt, .slice AB nB cB, .int .i64 o.n, .slice AK nK cK] b st A c) (by kernel_rfl) (by (first | (with_reducible assumption) | (with_reducible exact PlayF.drew (by assumption)) | (with_reducible exact PlayF.alloc (by assumption) _) | (with_reducible exact PlayF.drew (PlayF.alloc hF1 _)))) (fun hHeld => ?_)
  refine wpAnyH_take (i := 0) (v := ?vr1_0) (Fr.take_at rfl) (by kernel_rfl) (by kernel_rfl) (by kernel_rfl) (fun _ _ _ h => h) (Or.inl ⟨by rfl, ?yr1_0⟩) (by assumption) ?nr1_0
  case yr1_0 => (intro w_ hSw; obtain ⟨q0, q1, q2, q3⟩ := PlayF.cells hSw; go_simp; (try with_reducible rfl))
  try simp only [Act.put, List.setIfInBounds_toArray, List.set_cons_zero, List.set_cons_succ]
  refine wpAnyH_take (i := 1) (v := ?vr1_1) (Fr.take_at rfl) (by kernel_rfl) (by kernel_rfl) (by kernel_rfl) (fun _ _ _ h => h) (Or.inl ⟨by rfl, ?yr1_1⟩) (by assumption) ?nr1_1
  case yr1_1 => (intro w_ hSw; obtain ⟨q0, q1, q2, q3⟩ := PlayF.cells hSw; go_simp; (try with_reducible rfl))
  try simp only [Act.put, List.setIfInBounds_toArray, List.set_cons_zero, List.set_cons_succ]
  refine wpAnyH_ready (rs := [2]) (by kernel_rfl) (by simp) ?_
  refine AllReadyH.cons (Fr.take_at rfl) (fun K hK => ?_) AllReadyH.nil
  go_simp
  refine hK.out _ _ (by (first | (with_reducible assumption) | (with_reducible exact PlayF.drew (by assumption)) | (with_reducible exact PlayF.alloc (by assumption) _) | (with_reducible exact PlayF.drew (PlayF.alloc hF1 _)))) (fun hHeld => ?_)
  clear hK K
  try simp only [Act.put, List.setIfInBounds_toArray, List.set_cons_zero, List.set_cons_succ]
  refine wpAnyH_take (i := 3) (v := ?vr1_3) (Fr.take_at rfl) (by kernel_rfl) (by kernel_rfl) (by kernel_rfl) (fun _ _ _ h => h) (Or.inl ⟨by rfl, ?yr1_3⟩) (by assumption) ?nr1_3
  case yr1_3 => (intro w_ hSw; obtain ⟨q0, q1, q2, q3⟩ := PlayF.cells hSw; go_simp; (try with_reducible rfl))
  try simp only [Act.put, List.setIfInBounds_toArray, List.set_cons_zero, List.set_cons_succ]
  refine wpAnyH_ready (rs := [4]) (by kernel_rfl) (by simp) ?_
  refine AllReadyH.cons (Fr.take_at rfl) (fun K hK => ?_) AllReadyH.nil
  go_simp
  refine hK.out _ _ (by (first | (with_reducible assumption) | (with_reducible exact PlayF.drew (by assumption)) | (with_reducible exact PlayF.alloc (by assumption) _) | (with_reducible exact PlayF.drew (PlayF.alloc hF1 _)))) (fun hHeld => ?_)
  clear hK K
  try simp only [Act.put, List.setIfInBounds_toArray, List.set_cons_zero, List.set_cons_succ]
  refine wpAnyH_done (by kernel_rfl) ?_ _
  obtain ⟨W3, hW3⟩ : ∃ W3, W3 = (W1.alloc (.cells #[.slice A st.files.length c, .int .i64 (st.steps : Int), .bool st.armed, .int .i64 (st.left : Int)] 26)).drew := ⟨_, rfl⟩
  rw [← hW3] at hHeld ⊢
  have hD3 : PlayD w S T #[.int .i64 6, .string o.name, .string o.tgt, .slice AB nB cB, .int .i64 o.n, .slice AK nK cK] b st A c W1.heap.size W3 := ⟨hHeld.p, by rw [hW3]; exact Blk.new W1 _ _, HS1.out⟩
  have H43 := Lib.hid hHeld.m
  obtain ⟨a0, a1, a2, a3⟩ := PlayF.cells hHeld
  have p5 := hD3.op5
  clear hF1 hP1 hHeld hW3
  go_upto_region 20 with fail
  refine wp_region_held_drew (S := PlayD w S T #[.int .i64 6, .string o.name, .string o.tgt, .slice AB nB cB, .int .i64 o.n, .slice AK nK cK] b st A c W1.heap.size) (by kernel_rfl) (by (first | (with_reducible assumption) | (with_reducible exact PlayD.drew (by assumption)) | (exact PlayD.fill hD6 (Or.inl rfl) _ _ _ _))) (fun hHeld => ?_)
  refine wpAnyH_take (i := 0) (v := ?vr2x_0) (Fr.take_at rfl) (by kernel_rfl) (by kernel_rfl) (by kernel_rfl) (fun _ _ _ h => h) (Or.inl ⟨by rfl, ?yr2x_0⟩) (by assumption) ?nr2x_0
  case yr2x_0 => (intro w_ hSw; have q5 := PlayD.op5 hSw; go_simp; (try with_reducible rfl))
  try simp only [Act.put, List.setIfInBounds_toArray, List.set_cons_zero, List.set_cons_succ]
  refine wpAnyH_take (i := 1) (v := ?vr2x_1) (Fr.take_at rfl) (by kernel_rfl) (by kernel_rfl) (by kernel_rfl) (fun _ _ _ h => h) (Or.inl ⟨by rfl, ?yr2x_1⟩) (by assumption) ?nr2x_1
  case yr2x_1 => (intro w_ hSw; have q5 := PlayD.op5 hSw; go_simp; (try with_reducible rfl))
  try simp only [Act.put, List.setIfInBounds_toArray, List.set_cons_zero, List.set_cons_succ]
  refine wpAnyH_take (i := 2) (v := ?vr2x_2) (Fr.take_at rfl) (by kernel_rfl) (by kernel_rfl) (by kernel_rfl) (fun _ _ _ h => h) (Or.inl ⟨by rfl, ?yr2x_2⟩) (by assumption) ?nr2x_2
  case yr2x_2 => (intro w_ hSw; have q5 := PlayD.op5 hSw; go_simp; (try with_reducible rfl))
  try simp only [Act.put, List.setIfInBounds_toArray, List.set_cons_zero, List.set_cons_succ]
  refine wpAnyH_take (i := 5) (v := ?vr2x_5) (Fr.take_at rfl) (by kernel_rfl) (by kernel_rfl) (by kernel_rfl) (fun _ _ _ h => h) (Or.inl ⟨by rfl, ?yr2x_5⟩) (by assumption) ?nr2x_5
  case yr2x_5 => (intro w_ hSw; have q5 := PlayD.op5 hSw; go_simp; (try with_reducible rfl))
  try simp only [Act.put, List.setIfInBounds_toArray, List.set_cons_zero, List.set_cons_succ]
  refine wpAnyH_take (i := 6) (v := ?vr2x_6) (Fr.take_at rfl) (by kernel_rfl) (by kernel_rfl) (by kernel_rfl) (fun _ _ _ h => h) (Or.inl ⟨by rfl, ?yr2x_6⟩) (by assumption) ?nr2x_6
  case yr2x_6 => (intro w_ hSw; have q5 := PlayD.op5 hSw; go_simp; (try with_reducible rfl))
  try simp only [Act.put, List.setIfInBounds_toArray, List.set_cons_zero, List.set_cons_succ]
  refine wpAnyH_ready (rs := [3, 4]) (by kernel_rfl) (by simp) ?_
  refine AllReadyH.cons (Fr.take_at rfl) (fun K hK => ?_) (AllReadyH.cons (Fr.take_at rfl) (fun K hK => ?_) AllReadyH.nil)
  go_simp
  (go_at_call 15; refine (PlayD.crash hHeld HOK.out HO.out H6.out).mono ?_; rintro e w5 ⟨b2, rfl, hN5, hb5⟩; have hDX := hHeld; have hD5 := hHeld.below hb5; have h45 := blk_past H43.out hb5; obtain ⟨d0, d1, d2, d3⟩ := blk_cells4 h45; clear h45)
  try go_wp2_with fail
  refine hK.out _ _ (by (first | (with_reducible assumption) | (with_reducible exact PlayD.drew (by assumption)) | (exact PlayD.fill hD6 (Or.inl rfl) _ _ _ _))) (fun hHeld => ?_)
  clear hK K
  try simp only [Act.put, List.setIfInBounds_toArray, List.set_cons_zero, List.set_cons_succ]
  refine wpAnyH_ready (rs := [4]) (by kernel_rfl) (by simp) ?_
  refine AllReadyH.cons (Fr.take_at rfl) (fun K hK => ?_) AllReadyH.nil
  go_simp
  refine hK.out _ _ (by (first | (with_reducible assumption) | (with_reducible exact PlayD.drew (by assumption)) | (exact PlayD.fill hD6 (Or.inl rfl) _ _ _ _))) (fun hHeld => ?_)
  clear hK K
  try simp only [Act.put, List.setIfInBounds_toArray, List.set_cons_zero, List.set_cons_succ]
  refine wpAnyH_ready (rs := [7]) (by kernel_rfl) (by simp) ?_
  refine AllReadyH.cons (Fr.take_at rfl) (fun K hK => ?_) AllReadyH.nil
  go_simp
  (go_at_call 16; refine (PlayD.rcrash hDX hb5 HOK.out HO.out H6.out).mono ?_; rintro e w6 ⟨A6, c6, rfl, hT6, hb6⟩; have hD6 := hD5.below hb6; obtain ⟨x0, x1, x2, x3, hx, ⟨y0, y1, y2, y3⟩, ⟨z0, z1, z2, z3⟩⟩ := box4 hD6.p)
  try go_wp2_with fail
  refine hK.out _ _ (by (first | (with_reducible assumption) | (with_reducible exact PlayD.drew (by assumption)) | (exact PlayD.fill hD6 (Or.inl rfl) _ _ _ _))) (fun hHeld => ?_)
  clear hK K
  try simp only [Act.put, List.setIfInBounds_toArray, List.set_cons_zero, List.set_cons_succ]
  refine wpAnyH_take (i := 8) (v := ?vr2a_8) (Fr.take_at rfl) (by kernel_rfl) (by kernel_rfl) (by kernel_rfl) (fun _ _ _ h => h) (Or.inl ⟨by rfl, ?yr2a_8⟩) (by assumption) ?nr2a_8
  case yr2a_8 => (intro w_ hSw; have q5 := PlayD.op5 hSw; go_simp; (try with_reducible rfl))
  try simp only [Act.put, List.setIfInBounds_toArray, List.set_cons_zero]
  refine wpAnyH_ready (rs := [9]) (by kernel_rfl) (by simp) ?_
  refine AllReadyH.cons (Fr.take_at rfl) (fun K hK => ?_) AllReadyH.nil
  go_simp
  refine hK.out _ _ (by (first | (with_reducible assumption) | (with_reducible exact PlayD.drew (by assumption)) | (exact PlayD.fill hD6 (Or.inl rfl) _ _ _ _))) (fun hHeld => ?_)
  clear hK K
  try simp only [Act.put, List.setIfInBounds_toArray, List.set_cons_zero, List.set_cons_succ]
  refine wpAnyH_done (by kernel_rfl) ?_ _
  rotate_left
  go_simp
  refine hK.out _ _ (by (first | (with_reducible assumption) | (with_reducible exact PlayD.drew (by assumption)) | (exact PlayD.fill hD6 (Or.inl rfl) _ _ _ _))) (fun hHeld => ?_)
  clear hK K
  try simp only [Act.put, List.setIfInBounds_toArray, List.set_cons_zero, List.set_cons_succ]
  refine wpAnyH_ready (rs := [3]) (by kernel_rfl) (by simp) ?_
  refine AllReadyH.cons (Fr.take_at rfl) (fun K hK => ?_) AllReadyH.nil
  go_simp
  (go_at_call 15; refine (PlayD.crash hHeld HOK.out HO.out H6.out).mono ?_; rintro e w5 ⟨b2, rfl, hN5, hb5⟩; have hDX := hHeld; have hD5 := hHeld.below hb5; have h45 := blk_past H43.out hb5; obtain ⟨d0, d1, d2, d3⟩ := blk_cells4 h45; clear h45)
  try go_wp2_with fail
  refine hK.out _ _ (by (first | (with_reducible assumption) | (with_reducible exact PlayD.drew (by assumption)) | (exact PlayD.fill hD6 (Or.inl rfl) _ _ _ _))) (fun hHeld => ?_)
  clear hK K
  try simp only [Act.put, List.setIfInBounds_toArray, List.set_cons_zero, List.set_cons_succ]
  refine wpAnyH_ready (rs := [7]) (by kernel_rfl) (by simp) ?_
  refine AllReadyH.cons (Fr.take_at rfl) (fun K hK => ?_) AllReadyH.nil
  go_simp
  (go_at_call 16; refine (PlayD.rcrash hDX hb5 HOK.out HO.out H6.out).mono ?_; rintro e w6 ⟨A6, c6, rfl, hT6, hb6⟩; have hD6 := hD5.below hb6; obtain ⟨x0, x1, x2, x3, hx, ⟨y0, y1, y2, y3⟩, ⟨z0, z1, z2, z3⟩⟩ := box4 hD6.p)
  try go_wp2_with fail
  refine hK.out _ _ (by (first | (with_reducible assumption) | (with_reducible exact PlayD.drew (by assumption)) | (exact PlayD.fill hD6 (Or.inl rfl) _ _ _ _))) (fun hHeld => ?_)
  clear hK K
  try simp only [Act.put, List.setIfInBounds_toArray, List.set_cons_zero, List.set_cons_succ]
  refine wpAnyH_take (i := 8) (v := ?vr2b_8) (Fr.take_at rfl) (by kernel_rfl) (by kernel_rfl) (by kernel_rfl) (fun _ _ _ h => h) (Or.inl ⟨by rfl, ?yr2b_8⟩) (by assumption) ?nr2b_8
  case yr2b_8 => (intro w_ hSw; have q5 := PlayD.op5 hSw; go_simp; (try with_reducible rfl))
  try simp only [Act.put, List.setIfInBounds_toArray, List.set_cons_zero]
  refine wpAnyH_ready (rs := [9]) (by kernel_rfl) (by simp) ?_
  refine AllReadyH.cons (Fr.take_at rfl) (fun K hK => ?_) AllReadyH.nil
  go_simp
  refine hK.out _ _ (by (first | (with_reducible assumption) | (with_reducible exact PlayD.drew (by assumption)) | (exact PlayD.fill hD6 (Or.inl rfl) _ _ _ _))) (fun hHeld => ?_)
  clear hK K
  try simp only [Act.put, List.setIfInBounds_toArray, List.set_cons_zero, List.set_cons_succ]
  refine wpAnyH_done (by kernel_rfl) ?_ _
  · have hC := PlayC.made hDX hb5 hN5 hT6 hb6
    clear hHeld hD6 hD5 hDX hN5 hb5 hT6 hb6 d0 d1 d2 d3 y0 y1 y2 y3 z0 z1 z2 z3 hx hD3 a0 a1 a2 a3 p5
    go_upto_region 21 with fail
    refine wp_region_held_drew (S := PlayC w S T #[.int .i64 6, .string o.name, .string o.tgt, .slice AB nB cB, .int .i64 o.n, .slice AK nK cK] b b2 st st6 A c W1.heap.size A6 c6) (by kernel_rfl) (by (first | (with_reducible assumption) | (with_reducible exact PlayC.drew (by assumption)) | (exact PlayC.drew hC) | (exact PlayC.fill hC9 _ _ _ _))) (fun hHeld => ?_)
    refine wpAnyH_take (i := 0) (v := ?vr3_0) (Fr.take_at rfl) (by kernel_rfl) (by kernel_rfl) (by kernel_rfl) (fun _ _ _ h => h) (Or.inl ⟨by rfl, ?yr3_0⟩) (by assumption) ?nr3_0
    case yr3_0 => (intro w_ hSw; obtain ⟨⟨q0, q1, q2, q3⟩, s0, s1, s2, s3⟩ := PlayC.cells hSw; go_simp; (try with_reducible rfl))
    try simp only [Act.put, List.setIfInBounds_toArray, List.set_cons_zero, List.set_cons_succ]
    refine wpAnyH_take (i := 1) (v := ?vr3_1) (Fr.take_at rfl) (by kernel_rfl) (by kernel_rfl) (by kernel_rfl) (fun _ _ _ h => h) (Or.inl ⟨by rfl, ?yr3_1⟩) (by assumption) ?nr3_1
    case yr3_1 => (intro w_ hSw; obtain ⟨⟨q0, q1, q2, q3⟩, s0, s1, s2, s3⟩ := PlayC.cells hSw; go_simp; (try with_reducible rfl))
    try simp only [Act.put, List.setIfInBounds_toArray, List.set_cons_zero, List.set_cons_succ]
    refine wpAnyH_take (i := 2) (v := ?vr3_2) (Fr.take_at rfl) (by kernel_rfl) (by kernel_rfl) (by kernel_rfl) (fun _ _ _ h => h) (Or.inl ⟨by rfl, ?yr3_2⟩) (by assumption) ?nr3_2
    case yr3_2 => (intro w_ hSw; obtain ⟨⟨q0, q1, q2, q3⟩, s0, s1, s2, s3⟩ := PlayC.cells hSw; go_simp; (try with_reducible rfl))
    try simp only [Act.put, List.setIfInBounds_toArray, List.set_cons_zero, List.set_cons_succ]
    refine wpAnyH_take (i := 3) (v := ?vr3_3) (Fr.take_at rfl) (by kernel_rfl) (by kernel_rfl) (by kernel_rfl) (fun _ _ _ h => h) (Or.inl ⟨by rfl, ?yr3_3⟩) (by assumption) ?nr3_3
    case yr3_3 => (intro w_ hSw; obtain ⟨⟨q0, q1, q2, q3⟩, s0, s1, s2, s3⟩ := PlayC.cells hSw; go_simp; (try with_reducible rfl))
    try simp only [Act.put, List.setIfInBounds_toArray, List.set_cons_zero, List.set_cons_succ]
    refine wpAnyH_take (i := 4) (v := ?vr3_4) (Fr.take_at rfl) (by kernel_rfl) (by kernel_rfl) (by kernel_rfl) (fun _ _ _ h => h) (Or.inl ⟨by rfl, ?yr3_4⟩) (by assumption) ?nr3_4
    case yr3_4 => (intro w_ hSw; obtain ⟨⟨q0, q1, q2, q3⟩, s0, s1, s2, s3⟩ := PlayC.cells hSw; go_simp; (try with_reducible rfl))
    try simp only [Act.put, List.setIfInBounds_toArray, List.set_cons_zero, List.set_cons_succ]
    refine wpAnyH_take (i := 5) (v := ?vr3_5) (Fr.take_at rfl) (by kernel_rfl) (by kernel_rfl) (by kernel_rfl) (fun _ _ _ h => h) (Or.inl ⟨by rfl, ?yr3_5⟩) (by assumption) ?nr3_5
    case yr3_5 => (intro w_ hSw; obtain ⟨⟨q0, q1, q2, q3⟩, s0, s1, s2, s3⟩ := PlayC.cells hSw; go_simp; (try with_reducible rfl))
    try simp only [Act.put, List.setIfInBounds_toArray, List.set_cons_zero, List.set_cons_succ]
    refine wpAnyH_take (i := 6) (v := ?vr3_6) (Fr.take_at rfl) (by kernel_rfl) (by kernel_rfl) (by kernel_rfl) (fun _ _ _ h => h) (Or.inl ⟨by rfl, ?yr3_6⟩) (by assumption) ?nr3_6
    case yr3_6 => (intro w_ hSw; obtain ⟨⟨q0, q1, q2, q3⟩, s0, s1, s2, s3⟩ := PlayC.cells hSw; go_simp; (try with_reducible rfl))
    try simp only [Act.put, List.setIfInBounds_toArray, List.set_cons_zero, List.set_cons_succ]
    refine wpAnyH_ready (rs := [7]) (by kernel_rfl) (by simp) ?_
    refine AllReadyH.cons (Fr.take_at rfl) (fun K hK => ?_) AllReadyH.nil
    go_simp
    (go_at_call 13; refine (hHeld.tnew HOK'.out).mono ?_; rintro e w8 ⟨rfl, hb8⟩; have hC8 := hHeld.below hb8)
    try go_wp2_with fail
    refine hK.out _ _ (by (first | (with_reducible assumption) | (with_reducible exact PlayC.drew (by assumption)) | (exact PlayC.drew hC) | (exact PlayC.fill hC9 _ _ _ _))) (fun hHeld => ?_)
    clear hK K
    try simp only [Act.put, List.setIfInBounds_toArray, List.set_cons_zero, List.set_cons_succ]
    refine wpAnyH_take (i := 8) (v := ?vr3_8) (Fr.take_at rfl) (by kernel_rfl) (by kernel_rfl) (by kernel_rfl) (fun _ _ _ h => h) (Or.inl ⟨by rfl, ?yr3_8⟩) (by assumption) ?nr3_8
    case yr3_8 => (intro w_ hSw; obtain ⟨⟨q0, q1, q2, q3⟩, s0, s1, s2, s3⟩ := PlayC.cells hSw; go_simp; (try with_reducible rfl))
    try simp only [Act.put, List.setIfInBounds_toArray, List.set_cons_zero, List.set_cons_succ]
    refine wpAnyH_take (i := 9) (v := ?vr3_9) (Fr.take_at rfl) (by kernel_rfl) (by kernel_rfl) (by kernel_rfl) (fun _ _ _ h => h) (Or.inl ⟨by rfl, ?yr3_9⟩) (by assumption) ?nr3_9
    case yr3_9 => (intro w_ hSw; obtain ⟨⟨q0, q1, q2, q3⟩, s0, s1, s2, s3⟩ := PlayC.cells hSw; go_simp; (try with_reducible rfl))
    try simp only [Act.put, List.setIfInBounds_toArray, List.set_cons_zero, List.set_cons_succ]
    refine wpAnyH_take (i := 10) (v := ?vr3_10) (Fr.take_at rfl) (by kernel_rfl) (by kernel_rfl) (by kernel_rfl) (fun _ _ _ h => h) (Or.inl ⟨by rfl, ?yr3_10⟩) (by assumption) ?nr3_10
    case yr3_10 => (intro w_ hSw; obtain ⟨⟨q0, q1, q2, q3⟩, s0, s1, s2, s3⟩ := PlayC.cells hSw; go_simp; (try with_reducible rfl))
    try simp only [Act.put, List.setIfInBounds_toArray, List.set_cons_zero, List.set_cons_succ]
    refine wpAnyH_take (i := 11) (v := ?vr3_11) (Fr.take_at rfl) (by kernel_rfl) (by kernel_rfl) (by kernel_rfl) (fun _ _ _ h => h) (Or.inl ⟨by rfl, ?yr3_11⟩) (by assumption) ?nr3_11
    case yr3_11 => (intro w_ hSw; obtain ⟨⟨q0, q1, q2, q3⟩, s0, s1, s2, s3⟩ := PlayC.cells hSw; go_simp; (try with_reducible rfl))
    try simp only [Act.put, List.setIfInBounds_toArray, List.set_cons_zero, List.set_cons_succ]
    refine wpAnyH_ready (rs := [12]) (by kernel_rfl) (by simp) ?_
    refine AllReadyH.cons (Fr.take_at rfl) (fun K hK => ?_) AllReadyH.nil
    go_simp
    (go_at_call 13; refine (hHeld.told HOK.out).mono ?_; rintro e w9 ⟨rfl, hb9⟩; have hC9 := hHeld.below hb9; obtain ⟨u0, u1, u2, u3, hx7, ⟨e0, e1, e2, e3⟩, ⟨f0, f1, f2, f3⟩⟩ := box7 hC9.d.p)
    try go_wp2_with fail
    refine hK.out _ _ (by (first | (with_reducible assumption) | (with_reducible exact PlayC.drew (by assumption)) | (exact PlayC.drew hC) | (exact PlayC.fill hC9 _ _ _ _))) (fun hHeld => ?_)
    clear hK K
    try simp only [Act.put, List.setIfInBounds_toArray, List.set_cons_zero, List.set_cons_succ]
    refine wpAnyH_take (i := 13) (v := ?vr3_13) (Fr.take_at rfl) (by kernel_rfl) (by kernel_rfl) (by kernel_rfl) (fun _ _ _ h => h) (Or.inl ⟨by rfl, ?yr3_13⟩) (by assumption) ?nr3_13
    case yr3_13 => (intro w_ hSw; obtain ⟨⟨q0, q1, q2, q3⟩, s0, s1, s2, s3⟩ := PlayC.cells hSw; go_simp; (try with_reducible rfl))
    try simp only [Act.put, List.setIfInBounds_toArray, List.set_cons_zero, List.set_cons_succ]
    refine wpAnyH_take (i := 14) (v := ?vr3_14) (Fr.take_at rfl) (by kernel_rfl) (by kernel_rfl) (by kernel_rfl) (fun _ _ _ h => h) (Or.inl ⟨by rfl, ?yr3_14⟩) (by assumption) ?nr3_14
    case yr3_14 => (intro w_ hSw; obtain ⟨⟨q0, q1, q2, q3⟩, s0, s1, s2, s3⟩ := PlayC.cells hSw; go_simp; (try with_reducible rfl))
    try simp only [Act.put, List.setIfInBounds_toArray, List.set_cons_zero, List.set_cons_succ]
    refine wpAnyH_ready (rs := [15]) (by kernel_rfl) (by simp) ?_
    refine AllReadyH.cons (Fr.take_at rfl) (fun K hK => ?_) AllReadyH.nil
    go_simp
    refine hK.out _ _ (by (first | (with_reducible assumption) | (with_reducible exact PlayC.drew (by assumption)) | (exact PlayC.drew hC) | (exact PlayC.fill hC9 _ _ _ _))) (fun hHeld => ?_)
    clear hK K
    try simp only [Act.put, List.setIfInBounds_toArray, List.set_cons_zero, List.set_cons_succ]
    refine wpAnyH_take (i := 16) (v := ?vr3_16) (Fr.take_at rfl) (by kernel_rfl) (by kernel_rfl) (by kernel_rfl) (fun _ _ _ h => h) (Or.inl ⟨by rfl, ?yr3_16⟩) (by assumption) ?nr3_16
    case yr3_16 => (intro w_ hSw; obtain ⟨⟨q0, q1, q2, q3⟩, s0, s1, s2, s3⟩ := PlayC.cells hSw; go_simp; (try with_reducible rfl))
    try simp only [Act.put, List.setIfInBounds_toArray, List.set_cons_zero, List.set_cons_succ]
    refine wpAnyH_done (by kernel_rfl) ?_ _
    go_wp2
    exact bodyPost_ret (results_tmp_cell_tmp (by rfl) _ _ _ _ _ _ _ _ _ (by rfl) (by rfl) (by rfl) (set4_blk hx7.out) Try.underlying26 (by rfl) (by kernel_rfl)) rfl hHeld.ret
  · have hC := PlayC.made hDX hb5 hN5 hT6 hb6
    clear hHeld hD6 hD5 hDX hN5 hb5 hT6 hb6 d0 d1 d2 d3 y0 y1 y2 y3 z0 z1 z2 z3 hx hD3 a0 a1 a2 a3 p5
    go_upto_region 21 with fail
    refine wp_region_held_drew (S := PlayC w S T #[.int .i64 6, .string o.name, .string o.tgt, .slice AB nB cB, .int .i64 o.n, .slice AK nK cK] b b2 st st6 A c W1.heap.size A6 c6) (by kernel_rfl) (by (first | (with_reducible assumption) | (with_reducible exact PlayC.drew (by assumption)) | (exact PlayC.drew hC) | (exact PlayC.fill hC9 _ _ _ _))) (fun hHeld => ?_)
    refine wpAnyH_take (i := 0) (v := ?vr4_0) (Fr.take_at rfl) (by kernel_rfl) (by kernel_rfl) (by kernel_rfl) (fun _ _ _ h => h) (Or.inl ⟨by rfl, ?yr4_0⟩) (by assumption) ?nr4_0
    case yr4_0 => (intro w_ hSw; obtain ⟨⟨q0, q1, q2, q3⟩, s0, s1, s2, s3⟩ := PlayC.cells hSw; go_simp; (try with_reducible rfl))
    try simp only [Act.put, List.setIfInBounds_toArray, List.set_cons_zero, List.set_cons_succ]
    refine wpAnyH_take (i := 1) (v := ?vr4_1) (Fr.take_at rfl) (by kernel_rfl) (by kernel_rfl) (by kernel_rfl) (fun _ _ _ h => h) (Or.inl ⟨by rfl, ?yr4_1⟩) (by assumption) ?nr4_1
    case yr4_1 => (intro w_ hSw; obtain ⟨⟨q0, q1, q2, q3⟩, s0, s1, s2, s3⟩ := PlayC.cells hSw; go_simp; (try with_reducible rfl))
    try simp only [Act.put, List.setIfInBounds_toArray, List.set_cons_zero, List.set_cons_succ]
    refine wpAnyH_take (i := 2) (v := ?vr4_2) (Fr.take_at rfl) (by kernel_rfl) (by kernel_rfl) (by kernel_rfl) (fun _ _ _ h => h) (Or.inl ⟨by rfl, ?yr4_2⟩) (by assumption) ?nr4_2
    case yr4_2 => (intro w_ hSw; obtain ⟨⟨q0, q1, q2, q3⟩, s0, s1, s2, s3⟩ := PlayC.cells hSw; go_simp; (try with_reducible rfl))
    try simp only [Act.put, List.setIfInBounds_toArray, List.set_cons_zero, List.set_cons_succ]
    refine wpAnyH_take (i := 3) (v := ?vr4_3) (Fr.take_at rfl) (by kernel_rfl) (by kernel_rfl) (by kernel_rfl) (fun _ _ _ h => h) (Or.inl ⟨by rfl, ?yr4_3⟩) (by assumption) ?nr4_3
    case yr4_3 => (intro w_ hSw; obtain ⟨⟨q0, q1, q2, q3⟩, s0, s1, s2, s3⟩ := PlayC.cells hSw; go_simp; (try with_reducible rfl))
    try simp only [Act.put, List.setIfInBounds_toArray, List.set_cons_zero, List.set_cons_succ]
    refine wpAnyH_take (i := 4) (v := ?vr4_4) (Fr.take_at rfl) (by kernel_rfl) (by kernel_rfl) (by kernel_rfl) (fun _ _ _ h => h) (Or.inl ⟨by rfl, ?yr4_4⟩) (by assumption) ?nr4_4
    case yr4_4 => (intro w_ hSw; obtain ⟨⟨q0, q1, q2, q3⟩, s0, s1, s2, s3⟩ := PlayC.cells hSw; go_simp; (try with_reducible rfl))
    try simp only [Act.put, List.setIfInBounds_toArray, List.set_cons_zero, List.set_cons_succ]
    refine wpAnyH_take (i := 5) (v := ?vr4_5) (Fr.take_at rfl) (by kernel_rfl) (by kernel_rfl) (by kernel_rfl) (fun _ _ _ h => h) (Or.inl ⟨by rfl, ?yr4_5⟩) (by assumption) ?nr4_5
    case yr4_5 => (intro w_ hSw; obtain ⟨⟨q0, q1, q2, q3⟩, s0, s1, s2, s3⟩ := PlayC.cells hSw; go_simp; (try with_reducible rfl))
    try simp only [Act.put, List.setIfInBounds_toArray, List.set_cons_zero, List.set_cons_succ]
    refine wpAnyH_take (i := 6) (v := ?vr4_6) (Fr.take_at rfl) (by kernel_rfl) (by kernel_rfl) (by kernel_rfl) (fun _ _ _ h => h) (Or.inl ⟨by rfl, ?yr4_6⟩) (by assumption) ?nr4_6
    case yr4_6 => (intro w_ hSw; obtain ⟨⟨q0, q1, q2, q3⟩, s0, s1, s2, s3⟩ := PlayC.cells hSw; go_simp; (try with_reducible rfl))
    try simp only [Act.put, List.setIfInBounds_toArray, List.set_cons_zero, List.set_cons_succ]
    refine wpAnyH_ready (rs := [7]) (by kernel_rfl) (by simp) ?_
    refine AllReadyH.cons (Fr.take_at rfl) (fun K hK => ?_) AllReadyH.nil
    go_simp
    (go_at_call 13; refine (hHeld.tnew HOK'.out).mono ?_; rintro e w8 ⟨rfl, hb8⟩; have hC8 := hHeld.below hb8)
    try go_wp2_with fail
    refine hK.out _ _ (by (first | (with_reducible assumption) | (with_reducible exact PlayC.drew (by assumption)) | (exact PlayC.drew hC) | (exact PlayC.fill hC9 _ _ _ _))) (fun hHeld => ?_)
    clear hK K
    try simp only [Act.put, List.setIfInBounds_toArray, List.set_cons_zero, List.set_cons_succ]
    refine wpAnyH_take (i := 8) (v := ?vr4_8) (Fr.take_at rfl) (by kernel_rfl) (by kernel_rfl) (by kernel_rfl) (fun _ _ _ h => h) (Or.inl ⟨by rfl, ?yr4_8⟩) (by assumption) ?nr4_8
    case yr4_8 => (intro w_ hSw; obtain ⟨⟨q0, q1, q2, q3⟩, s0, s1, s2, s3⟩ := PlayC.cells hSw; go_simp; (try with_reducible rfl))
    try simp only [Act.put, List.setIfInBounds_toArray, List.set_cons_zero, List.set_cons_succ]
    refine wpAnyH_take (i := 9) (v := ?vr4_9) (Fr.take_at rfl) (by kernel_rfl) (by kernel_rfl) (by kernel_rfl) (fun _ _ _ h => h) (Or.inl ⟨by rfl, ?yr4_9⟩) (by assumption) ?nr4_9
    case yr4_9 => (intro w_ hSw; obtain ⟨⟨q0, q1, q2, q3⟩, s0, s1, s2, s3⟩ := PlayC.cells hSw; go_simp; (try with_reducible rfl))
    try simp only [Act.put, List.setIfInBounds_toArray, List.set_cons_zero, List.set_cons_succ]
    refine wpAnyH_take (i := 10) (v := ?vr4_10) (Fr.take_at rfl) (by kernel_rfl) (by kernel_rfl) (by kernel_rfl) (fun _ _ _ h => h) (Or.inl ⟨by rfl, ?yr4_10⟩) (by assumption) ?nr4_10
    case yr4_10 => (intro w_ hSw; obtain ⟨⟨q0, q1, q2, q3⟩, s0, s1, s2, s3⟩ := PlayC.cells hSw; go_simp; (try with_reducible rfl))
    try simp only [Act.put, List.setIfInBounds_toArray, List.set_cons_zero, List.set_cons_succ]
    refine wpAnyH_take (i := 11) (v := ?vr4_11) (Fr.take_at rfl) (by kernel_rfl) (by kernel_rfl) (by kernel_rfl) (fun _ _ _ h => h) (Or.inl ⟨by rfl, ?yr4_11⟩) (by assumption) ?nr4_11
    case yr4_11 => (intro w_ hSw; obtain ⟨⟨q0, q1, q2, q3⟩, s0, s1, s2, s3⟩ := PlayC.cells hSw; go_simp; (try with_reducible rfl))
    try simp only [Act.put, List.setIfInBounds_toArray, List.set_cons_zero, List.set_cons_succ]
    refine wpAnyH_ready (rs := [12]) (by kernel_rfl) (by simp) ?_
    refine AllReadyH.cons (Fr.take_at rfl) (fun K hK => ?_) AllReadyH.nil
    go_simp
    (go_at_call 13; refine (hHeld.told HOK.out).mono ?_; rintro e w9 ⟨rfl, hb9⟩; have hC9 := hHeld.below hb9; obtain ⟨u0, u1, u2, u3, hx7, ⟨e0, e1, e2, e3⟩, ⟨f0, f1, f2, f3⟩⟩ := box7 hC9.d.p)
    try go_wp2_with fail
    refine hK.out _ _ (by (first | (with_reducible assumption) | (with_reducible exact PlayC.drew (by assumption)) | (exact PlayC.drew hC) | (exact PlayC.fill hC9 _ _ _ _))) (fun hHeld => ?_)
    clear hK K
    try simp only [Act.put, List.setIfInBounds_toArray, List.set_cons_zero, List.set_cons_succ]
    refine wpAnyH_take (i := 13) (v := ?vr4_13) (Fr.take_at rfl) (by kernel_rfl) (by kernel_rfl) (by kernel_rfl) (fun _ _ _ h => h) (Or.inl ⟨by rfl, ?yr4_13⟩) (by assumption) ?nr4_13
    case yr4_13 => (intro w_ hSw; obtain ⟨⟨q0, q1, q2, q3⟩, s0, s1, s2, s3⟩ := PlayC.cells hSw; go_simp; (try with_reducible rfl))
    try simp only [Act.put, List.setIfInBounds_toArray, List.set_cons_zero, List.set_cons_succ]
    refine wpAnyH_take (i := 14) (v := ?vr4_14) (Fr.take_at rfl) (by kernel_rfl) (by kernel_rfl) (by kernel_rfl) (fun _ _ _ h => h) (Or.inl ⟨by rfl, ?yr4_14⟩) (by assumption) ?nr4_14
    case yr4_14 => (intro w_ hSw; obtain ⟨⟨q0, q1, q2, q3⟩, s0, s1, s2, s3⟩ := PlayC.cells hSw; go_simp; (try with_reducible rfl))
    try simp only [Act.put, List.setIfInBounds_toArray, List.set_cons_zero, List.set_cons_succ]
    refine wpAnyH_ready (rs := [15]) (by kernel_rfl) (by simp) ?_
    refine AllReadyH.cons (Fr.take_at rfl) (fun K hK => ?_) AllReadyH.nil
    go_simp
    refine hK.out _ _ (by (first | (with_reducible assumption) | (with_reducible exact PlayC.drew (by assumption)) | (exact PlayC.drew hC) | (exact PlayC.fill hC9 _ _ _ _))) (fun hHeld => ?_)
    clear hK K
    try simp only [Act.put, List.setIfInBounds_toArray, List.set_cons_zero, List.set_cons_succ]
    refine wpAnyH_take (i := 16) (v := ?vr4_16) (Fr.take_at rfl) (by kernel_rfl) (by kernel_rfl) (by kernel_rfl) (fun _ _ _ h => h) (Or.inl ⟨by rfl, ?yr4_16⟩) (by assumption) ?nr4_16
    case yr4_16 => (intro w_ hSw; obtain ⟨⟨q0, q1, q2, q3⟩, s0, s1, s2, s3⟩ := PlayC.cells hSw; go_simp; (try with_reducible rfl))
    try simp only [Act.put, List.setIfInBounds_toArray, List.set_cons_zero, List.set_cons_succ]
    refine wpAnyH_done (by kernel_rfl) ?_ _
    go_wp2
    exact bodyPost_ret (results_tmp_cell_tmp (by rfl) _ _ _ _ _ _ _ _ _ (by rfl) (by rfl) (by rfl) (set4_blk hx7.out) Try.underlying26 (by rfl) (by kernel_rfl)) rfl hHeld.ret
end
end Dr
end Go.Proofs.Ytljhedgcpbapdaa
