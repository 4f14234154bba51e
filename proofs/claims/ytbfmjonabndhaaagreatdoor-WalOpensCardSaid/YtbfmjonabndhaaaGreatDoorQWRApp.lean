/-
  WHAT IS PROVED: (1) what both Opens answer for a number that no segment has; what the reference's Append does on a log whose segment has no file. CONDITIONS: the drive stands in memory as named.
-/
import Derived.Test.YtbfmjonabndhaaaGreatDoorQWROpen
import Derived.Test.YtbfmjonabndhaaaGreatDoorQWAppA
import Derived.Test.YtbfmjonabndhaaaGreatDoorQRWalkF
namespace Go.Proofs.YtbfmjonabndhaaaGreatDoor
open Go Go.RowKit Go.Maps Go.Proofs.YtbfmjonabndhaaaGreatDoor.Dr Go.Proofs.YtbfmjonabndhaaaGreatDoor.Fr
namespace Wl
theorem open_out (d : Nat) (a : Int) (w : World) (h : a < 1 ∨ 999999 < a) : Calls Tryz.prog 8 #[.pointer (some ⟨d, 0, none⟩), .int .i64 a] w fun e w' => e = .returned (.tuple #[.pointer none, .slice none 0 0, .int .i64 1]) ∧ Below w.heap.size w w' := by
  rcases Int.lt_or_le a 1 with h1 | h1
  · have e1 : decide (a < 1) = true := decide_eq_true h1
    go_enter Tryz.func8, Tryz.ntmps8
    go_wp2
    go_ret3
    exact ⟨rfl, Below.refl _ _⟩
  · have h2 : 999999 < a := by omega
    have e1 : decide (a < 1) = false := decide_eq_false (by omega)
    have e2 : decide (999999 < a) = true := decide_eq_true h2
    go_enter Tryz.func8, Tryz.ntmps8
    go_wp2
    go_ret3
    exact ⟨rfl, Below.refl _ _⟩
theorem cells4D {W : World} {D : Nat} {t : TypeId} {x0 x1 x2 x3 : Value} (h : Blk W D t #[x0, x1, x2, x3]) : W.cell? ⟨D, 0, none⟩ = some x0 ∧ W.cell? ⟨D, 1, none⟩ = some x1 ∧ W.cell? ⟨D, 2, none⟩ = some x2 ∧ W.cell? ⟨D, 3, none⟩ = some x3 := ⟨h.cell 0, h.cell 1, h.cell 2, h.cell 3⟩
theorem cells3F {W : World} {F : Nat} {t : TypeId} {x0 x1 x2 : Value} (h : Blk W F t #[x0, x1, x2]) : (W.cell? ⟨F, 0, none⟩ = some x0 ∧ W.cell? ⟨F, 1, none⟩ = some x1 ∧ W.cell? ⟨F, 2, none⟩ = some x2) ∧ W.frozen? ⟨F, 0, none⟩ = false ∧ W.frozen? ⟨F, 1, none⟩ = false ∧ W.frozen? ⟨F, 2, none⟩ = false := ⟨⟨h.cell 0, h.cell 1, h.cell 2⟩, h.frozen 0, h.frozen 1, h.frozen 2⟩
theorem find_seg0 {fs : List Fl} {M : Nat} {s : ByteArray} (h1 : s.data.toList = rname M) (h2 : seg (M : Int) = rname M) (h3 : find fs (seg (M : Int)) = none) : find fs s.data.toList = none := by rw [h1, ← h2]; exact h3
theorem file_zero {w W : World} {F : Nat} {t : TypeId} (h : Blk W F t #[.string ⟨#[]⟩, .string ⟨#[]⟩, .int .i64 0]) (hb : Below w.heap.size w W) (hF : w.heap.size ≤ F) :
    Blk (((W.setCell ⟨F, 0, none⟩ (.string ⟨#[]⟩)).setCell ⟨F, 1, none⟩ (.string ⟨#[]⟩)).setCell ⟨F, 2, none⟩ (.int .i64 0)) F t #[.string ⟨#[]⟩, .string ⟨#[]⟩, .int .i64 0] ∧ Below w.heap.size w (((W.setCell ⟨F, 0, none⟩ (.string ⟨#[]⟩)).setCell ⟨F, 1, none⟩ (.string ⟨#[]⟩)).setCell ⟨F, 2, none⟩ (.int .i64 0)) :=
  ⟨((h.set 0 _).set 1 _).set 2 _, ((hb.setCell (p := ⟨F, 0, none⟩) hF _).setCell (p := ⟨F, 1, none⟩) hF _).setCell (p := ⟨F, 2, none⟩) hF _⟩
section
variable {w : World} {T : Nat → Prop} {v : Value} {st : St}
set_option maxRecDepth 100000 in
theorem ropen_out (h : RefRep w T v st) (a : Int) (ha : a < 1 ∨ 999999 < a) : Calls Tryz.prog 9 #[v, .int .i64 a] w fun e w' => e = .returned (.tuple #[.agg #[.int .i64 0, .bool false], .slice none 0 0, .int .i64 1]) ∧ Below w.heap.size w w' := by
  obtain ⟨A0, c0, rfl, hl, hlc⟩ := refV_of h
  obtain ⟨N, hN⟩ : ∃ N, N = st.files.length := ⟨_, rfl⟩
  rw [← hN]
  obtain ⟨W1, hW1⟩ : ∃ W1, W1 = (w.alloc (.cells #[.slice A0 N c0, .int .i64 (st.steps : Int), .bool st.armed, .int .i64 (st.left : Int)] 35)).alloc (.cells #[.int .i64 0, .bool false] 42) := ⟨_, rfl⟩
  have hb : Below w.heap.size w W1 := by rw [hW1]; exact ((Below.refl _ _).alloc (Nat.le_refl _) _).alloc (by simp) _
  have hr : Blk W1 (w.heap.size + 1) 42 #[.int .i64 0, .bool false] := by
    have h1 := Blk.new (w.alloc (.cells #[.slice A0 N c0, .int .i64 (st.steps : Int), .bool st.armed, .int .i64 (st.left : Int)] 35)) 42 #[.int .i64 0, .bool false]
    rw [World.size_alloc] at h1
    rw [hW1]; exact h1
  have HR := Lib.hid hr
  have HB := Lib.hid hb
  have hbR := (hb.setCell (p := ⟨w.heap.size + 1, 0, none⟩) (Nat.le_succ _) (.int .i64 0)).setCell (p := ⟨w.heap.size + 1, 1, none⟩) (Nat.le_succ _) (.bool false)
  have hR : Blk ((W1.setCell ⟨w.heap.size + 1, 0, none⟩ (.int .i64 0)).setCell ⟨w.heap.size + 1, 1, none⟩ (.bool false)) (w.heap.size + 1) 42 #[.int .i64 0, .bool false] := (hr.set 0 (.int .i64 0)).set 1 (.bool false)
  have HBR := Lib.hid hbR
  have HRR := Lib.hid hR
  have r0 : W1.cell? ⟨w.heap.size + 1, 0, none⟩ = some (.int .i64 0) := hr.cell 0
  have r1 : W1.cell? ⟨w.heap.size + 1, 1, none⟩ = some (.bool false) := hr.cell 1
  have f0 := hr.frozen 0
  have f1 := hr.frozen 1
  clear hb hr hbR hR h hl hlc hN
  rcases Int.lt_or_le a 1 with h1 | h1
  · have e1 : decide (a < 1) = true := decide_eq_true h1
    go_enter Tryz.func9, Tryz.ntmps9
    go_upto_region 1 with fail
    rw [← hW1]
    clear hW1
    go_wp2
    refine bodyPost_ret (results_c2 (by rfl) _ _ (w.heap.size + 1) 42 #[.int .i64 0, .bool false] (0, 0) _ _ _ (by rfl) (by rfl) (by rfl) HRR.out Tryz.underlying42 (by rfl) (by kernel_rfl)) rfl ⟨rfl, HBR.out⟩
  · have h2 : 999999 < a := by omega
    have e1 : decide (a < 1) = false := decide_eq_false (by omega)
    have e2 : decide (999999 < a) = true := decide_eq_true h2
    go_enter Tryz.func9, Tryz.ntmps9
    go_upto_region 1 with fail
    rw [← hW1]
    clear hW1
    go_wp2
    refine bodyPost_ret (results_c2 (by rfl) _ _ (w.heap.size + 1) 42 #[.int .i64 0, .bool false] (0, 0) _ _ _ (by rfl) (by rfl) (by rfl) HRR.out Tryz.underlying42 (by rfl) (by kernel_rfl)) rfl ⟨rfl, HBR.out⟩
/-- The file of a log's segment: there is none. -/
def RfRet (w : World) (e : Ending) (w' : World) : Prop := e = .returned (.tuple #[.agg #[.string ⟨#[]⟩, .string ⟨#[]⟩, .int .i64 0], .bool false]) ∧ Below w.heap.size w w'
set_option maxRecDepth 100000 in
set_option maxHeartbeats 1600000 in
theorem rfile_none (h : RefRep w T v st) (hok : st.Ok) (g : Int) (dd : Bool) (hg1 : 1 ≤ g) (hg2 : g ≤ 1000000) (hf : find st.files (seg g) = none) :
    Calls Tryz.prog 41 #[v, .agg #[.int .i64 g, .bool dd]] w (RfRet w) := by
  have HAT := Lib.hid (fun (W : World) (hW : Below w.heap.size w W) (s : ByteArray) (hs : find st.files s.data.toList = none) => Wl.rat_none (h.below hW) hok s hs)
  obtain ⟨A0, c0, rfl, hl, hlc⟩ := refV_of h
  obtain ⟨N, hN⟩ : ∃ N, N = st.files.length := ⟨_, rfl⟩
  rw [← hN] at HAT ⊢
  obtain ⟨M, rfl⟩ : ∃ M : Nat, g = (M : Int) := ⟨g.toNat, by omega⟩
  obtain ⟨W1, hW1⟩ : ∃ W1, W1 = ((w.alloc (.cells #[.slice A0 N c0, .int .i64 (st.steps : Int), .bool st.armed, .int .i64 (st.left : Int)] 35)).alloc (.cells #[.int .i64 (M : Int), .bool dd] 42)).alloc (.cells #[.string ⟨#[]⟩, .string ⟨#[]⟩, .int .i64 0] 64) := ⟨_, rfl⟩
  obtain ⟨D, hD⟩ : ∃ D, D = w.heap.size := ⟨_, rfl⟩
  obtain ⟨G, hG⟩ : ∃ G, G = D + 1 := ⟨_, rfl⟩
  obtain ⟨F, hF⟩ : ∃ F, F = G + 1 := ⟨_, rfl⟩
  have hb : Below w.heap.size w W1 := by rw [hW1]; exact (((Below.refl _ _).alloc (Nat.le_refl _) _).alloc (by simp) _).alloc (by simp; omega) _
  have hd : Blk W1 D 35 #[.slice A0 N c0, .int .i64 (st.steps : Int), .bool st.armed, .int .i64 (st.left : Int)] := by rw [hW1, hD]; exact ((Blk.new w _ _).alloc _).alloc _
  have hg : Blk W1 G 42 #[.int .i64 (M : Int), .bool dd] := by
    have h1 := Blk.new (w.alloc (.cells #[.slice A0 N c0, .int .i64 (st.steps : Int), .bool st.armed, .int .i64 (st.left : Int)] 35)) 42 #[.int .i64 (M : Int), .bool dd]
    rw [World.size_alloc] at h1
    rw [hW1, hG, hD]; exact h1.alloc _
  have hfb : Blk W1 F 64 #[.string ⟨#[]⟩, .string ⟨#[]⟩, .int .i64 0] := by
    have h1 := Blk.new ((w.alloc (.cells #[.slice A0 N c0, .int .i64 (st.steps : Int), .bool st.armed, .int .i64 (st.left : Int)] 35)).alloc (.cells #[.int .i64 (M : Int), .bool dd] 42)) 64 #[.string ⟨#[]⟩, .string ⟨#[]⟩, .int .i64 0]
    rw [World.size_alloc, World.size_alloc] at h1
    rw [hW1, hF, hG, hD]; exact h1
  have HB := Lib.hid hb
  have HD := Lib.hid hd
  have HG := Lib.hid hg
  have HFB := Lib.hid hfb
  have HFN := Lib.hid hf
  have hFs : w.heap.size ≤ F := by omega
  have HFS := Lib.hid hFs
  have g0 : W1.cell? ⟨G, 0, none⟩ = some (.int .i64 (M : Int)) := hg.cell 0
  clear hb hd hg hfb hf h hl hlc hN hFs
  have HEND := Lib.hid (fun (W : World) (hW : Below W1.heap.size W1 W) => file_zero (HFB.out.same (hW.block _ HFB.out.lt)) (HB.out.trans (hW.mono HB.out.size)) HFS.out)
  have HOP := Lib.hid (fun (W : World) (hW : Below W1.heap.size W1 W) => And.intro (cells4D (HD.out.same (hW.block _ HD.out.lt))) ((hW.cell (p := ⟨G, 0, none⟩) HG.out.lt).trans g0))
  have HFC := Lib.hid (fun (W : World) (hW : Below W1.heap.size W1 W) => cells3F (HFB.out.same (hW.block _ HFB.out.lt)))
  go_enter Tryz.func41, Tryz.ntmps41
  go_upto_region 1 with fail
  rw [← hW1, ← hD, ← hG, ← hF]
  clear hW1 hD hG hF
  by_cases hM : M ≤ 999999
  · have k1 : ¬ 999999 < (M : Int) := by omega
    have HSR := Lib.hid (seg_rname (n := M) (by omega) hM)
    go_upto_region 3 with fail
    clear g0
    refine wp_region_held_drew (S := (fun W => Below W1.heap.size W1 W)) (by kernel_rfl) (by (first | (with_reducible assumption) | exact below_drewN (Below.refl _ _) 1 | exact below_drewN (by assumption) 1)) (fun hHeld => ?_)
    refine wpAnyH_take (i := 0) (v := ?vr1_0) (Fr.take_at rfl) (by kernel_rfl) (by kernel_rfl) (by kernel_rfl) (fun _ _ _ h => h) (Or.inl ⟨by rfl, ?yr1_0⟩) (by assumption) ?nr1_0
    case yr1_0 => (intro w_ hSw; obtain ⟨⟨u0, u1, u2, u3⟩, u4⟩ := HOP.out _ hSw; go_simp; (try with_reducible rfl))
    try simp only [Act.put, List.setIfInBounds_toArray, List.set_cons_zero, List.set_cons_succ]
    refine wpAnyH_take (i := 1) (v := ?vr1_1) (Fr.take_at rfl) (by kernel_rfl) (by kernel_rfl) (by kernel_rfl) (fun _ _ _ h => h) (Or.inl ⟨by rfl, ?yr1_1⟩) (by assumption) ?nr1_1
    case yr1_1 => (intro w_ hSw; obtain ⟨⟨u0, u1, u2, u3⟩, u4⟩ := HOP.out _ hSw; go_simp; (try with_reducible rfl))
    try simp only [Act.put, List.setIfInBounds_toArray, List.set_cons_zero, List.set_cons_succ]
    refine wpAnyH_take (i := 2) (v := ?vr1_2) (Fr.take_at rfl) (by kernel_rfl) (by kernel_rfl) (by kernel_rfl) (fun _ _ _ h => h) (Or.inl ⟨by rfl, ?yr1_2⟩) (by assumption) ?nr1_2
    case yr1_2 => (intro w_ hSw; obtain ⟨⟨u0, u1, u2, u3⟩, u4⟩ := HOP.out _ hSw; go_simp; (try with_reducible rfl))
    try simp only [Act.put, List.setIfInBounds_toArray, List.set_cons_zero, List.set_cons_succ]
    refine wpAnyH_ready (rs := [3]) (by kernel_rfl) (by simp) ?_
    refine AllReadyH.cons (Fr.take_at rfl) (fun K hK => ?_) AllReadyH.nil
    go_simp
    (go_at_call 5; refine (rname_any M _ (by omega)).mono ?_; rintro e w3 ⟨s3, rfl, hs3, hz3, hb3⟩; have hb3' := (by assumption : Below W1.heap.size W1 _).trans (hb3.mono (Below.size (by assumption))))
    try go_wp2_with fail
    refine hK.out _ _ (by (first | (with_reducible assumption) | exact below_drewN (Below.refl _ _) 1 | exact below_drewN (by assumption) 1)) (fun hHeld => ?_)
    clear hK K
    try simp only [Act.put, List.setIfInBounds_toArray, List.set_cons_zero, List.set_cons_succ]
    refine wpAnyH_ready (rs := [4]) (by kernel_rfl) (by simp) ?_
    refine AllReadyH.cons (Fr.take_at rfl) (fun K hK => ?_) AllReadyH.nil
    go_simp
    (go_at_call 21; refine (HAT.out _ (HB.out.trans ((by assumption : Below W1.heap.size W1 _).mono HB.out.size)) s3 (find_seg0 hs3 HSR.out HFN.out)).mono ?_; rintro e w4 ⟨rfl, hb4⟩; have hb4' := (by assumption : Below W1.heap.size W1 _).trans (hb4.mono (Below.size (by assumption))))
    try go_wp2_with fail
    refine hK.out _ _ (by (first | (with_reducible assumption) | exact below_drewN (Below.refl _ _) 1 | exact below_drewN (by assumption) 1)) (fun hHeld => ?_)
    clear hK K
    try simp only [Act.put, List.setIfInBounds_toArray, List.set_cons_zero, List.set_cons_succ]
    refine wpAnyH_take (i := 5) (v := ?vr1_5) (Fr.take_at rfl) (by kernel_rfl) (by kernel_rfl) (by kernel_rfl) (fun _ _ _ h => h) (Or.inl ⟨by rfl, ?yr1_5⟩) (by assumption) ?nr1_5
    case yr1_5 => (intro w_ hSw; obtain ⟨⟨u0, u1, u2, u3⟩, u4⟩ := HOP.out _ hSw; go_simp; (try with_reducible rfl))
    try simp only [Act.put, List.setIfInBounds_toArray, List.set_cons_zero, List.set_cons_succ]
    refine wpAnyH_done (by kernel_rfl) ?_ _
    obtain ⟨⟨y0, y1, y2⟩, z0, z1, z2⟩ := HFC.out _ hb4'
    go_wp2
    obtain ⟨e1, e2⟩ := HEND.out _ hb4'
    exact bodyPost_ret (Dr.results_cell_tmp (by rfl) _ _ _ _ _ _ _ _ (by rfl) (by rfl) e1 Tryz.underlying64 (by rfl) (by kernel_rfl)) rfl ⟨rfl, e2⟩
  · have k1 : 999999 < (M : Int) := by omega
    obtain ⟨⟨y0, y1, y2⟩, z0, z1, z2⟩ := HFC.out _ (Below.refl _ _)
    go_wp2
    obtain ⟨e1, e2⟩ := HEND.out _ (Below.refl _ _)
    exact bodyPost_ret (Dr.results_cell_tmp (by rfl) _ _ _ _ _ _ _ _ (by rfl) (by rfl) e1 Tryz.underlying64 (by rfl) (by kernel_rfl)) rfl ⟨rfl, e2⟩
/-- The boxes of Append. -/
structure RaB (W : World) (D G R S : Nat) (cd cg : Array Value) : Prop where
  d : Blk W D 35 cd
  g : Blk W G 42 cg
  r : Blk W R 35 #[.slice none 0 0, .int .i64 0, .bool false, .int .i64 0]
  s : Blk W S 42 #[.int .i64 0, .bool false]
theorem RaB.below {W W' : World} {D G R S : Nat} {cd cg : Array Value} (h : RaB W D G R S cd cg) (hb : Below W.heap.size W W') : RaB W' D G R S cd cg :=
  ⟨h.d.same (hb.block _ h.d.lt), h.g.same (hb.block _ h.g.lt), h.r.same (hb.block _ h.r.lt), h.s.same (hb.block _ h.s.lt)⟩
/-- What the last region reads, and what it leaves. -/
def RaL (D G : Nat) (a b c d e f : Value) (W : World) : Prop := (W.cell? ⟨D, 0, none⟩ = some a ∧ W.cell? ⟨D, 1, none⟩ = some b ∧ W.cell? ⟨D, 2, none⟩ = some c ∧ W.cell? ⟨D, 3, none⟩ = some d) ∧ W.cell? ⟨G, 0, none⟩ = some e ∧ W.cell? ⟨G, 1, none⟩ = some f
theorem RaL.drew {D G : Nat} {a b c d e f : Value} {W : World} (h : RaL D G a b c d e f W) : RaL D G a b c d e f W.drew := h
def st4 (W : World) (R : Nat) (a b c d : Value) : World := (((W.setCell ⟨R, 0, none⟩ a).setCell ⟨R, 1, none⟩ b).setCell ⟨R, 2, none⟩ c).setCell ⟨R, 3, none⟩ d
def st2 (W : World) (S : Nat) (e f : Value) : World := (W.setCell ⟨S, 0, none⟩ e).setCell ⟨S, 1, none⟩ f
theorem st4_off (W : World) {R k : Nat} (a b c d : Value) (h : k ≠ R) : (st4 W R a b c d).heap[k]? = W.heap[k]? :=
  (((Below.heap_setCell _ ⟨R, 3, none⟩ _ _ h).trans (Below.heap_setCell _ ⟨R, 2, none⟩ _ _ h)).trans (Below.heap_setCell _ ⟨R, 1, none⟩ _ _ h)).trans (Below.heap_setCell _ ⟨R, 0, none⟩ _ _ h)
theorem st2_off (W : World) {S k : Nat} (e f : Value) (h : k ≠ S) : (st2 W S e f).heap[k]? = W.heap[k]? := (Below.heap_setCell _ ⟨S, 1, none⟩ _ _ h).trans (Below.heap_setCell _ ⟨S, 0, none⟩ _ _ h)
theorem RaB.dset {W : World} {D G R S : Nat} {x0 x1 x2 x3 : Value} {cg : Array Value} (h : RaB W D G R S #[x0, x1, x2, x3] cg) (h1 : D ≠ R) (a b c d : Value) : RaB (st4 W D a b c d) D G R S #[a, b, c, d] cg := by
  have n2 : D ≠ S := Blk.ne h.d h.s (by decide)
  have n3 : G ≠ D := Blk.ne h.g h.d (by decide)
  refine ⟨?_, h.g.same (st4_off W a b c d n3), h.r.same (st4_off W a b c d h1.symm), h.s.same (st4_off W a b c d n2.symm)⟩
  have := (((h.d.set 0 a).set 1 b).set 2 c).set 3 d
  unfold st4
  simpa using this
theorem RaB.gset {W : World} {D G R S : Nat} {e f : Value} {cd : Array Value} (h : RaB W D G R S cd #[e, f]) (h2 : G ≠ S) (f' : Value) : RaB (W.setCell ⟨G, 1, none⟩ f') D G R S cd #[e, f'] := by
  have n1 : R ≠ G := Blk.ne h.r h.g (by decide)
  have n2 : D ≠ G := Blk.ne h.d h.g (by decide)
  refine ⟨h.d.same (Below.heap_setCell _ _ _ _ n2), ?_, h.r.same (Below.heap_setCell _ _ _ _ n1), h.s.same (Below.heap_setCell _ _ _ _ h2.symm)⟩
  have := h.g.set 1 f'
  simpa using this
/-- Only these have turned. -/
theorem st4_mod {W W' : World} {D : Nat} {P : Nat → Prop} (h : Mod P W W') (hD : P D) (a b c d : Value) : Mod P W (st4 W' D a b c d) := (((h.setCell (p := ⟨D, 0, none⟩) (fun _ => hD) a).setCell (p := ⟨D, 1, none⟩) (fun _ => hD) b).setCell (p := ⟨D, 2, none⟩) (fun _ => hD) c).setCell (p := ⟨D, 3, none⟩) (fun _ => hD) d
theorem st2_mod {W W' : World} {S : Nat} {P : Nat → Prop} (h : Mod P W W') (hD : P S) (e f : Value) : Mod P W (st2 W' S e f) := (h.setCell (p := ⟨S, 0, none⟩) (fun _ => hD) e).setCell (p := ⟨S, 1, none⟩) (fun _ => hD) f
theorem lput_new {M : Nat} {st : St} {l : Bs} {p : St × Nat} {dd : Bool} (hM : M ≤ 999999) (hp : p = st.append (seg (M : Int)) (sealOf l)) (hdd : ((p.2 : Int) == 6) = dd) : lput (M : Int) false st l = (((M : Int), dd, p.1), p.2) := by
  subst hp hdd
  unfold lput
  rw [if_neg (by omega), Bool.false_or]
  generalize (st.append (seg (M : Int)) (sealOf l)) = q
  have e : decide (q.2 = 6) = ((q.2 : Int) == 6) := by
    rw [Bool.eq_iff_iff, decide_eq_true_eq, beq_iff_eq]
    omega
  rw [e]
/-- Both orders of the two stores. -/
structure RaF (w W : World) (D G R S : Nat) (a b c d e f : Value) : Prop where
  l0 : RaL D G a b c d e f W
  r : (W.cell? ⟨R, 0, none⟩ = some (.slice none 0 0) ∧ W.cell? ⟨R, 1, none⟩ = some (.int .i64 0) ∧ W.cell? ⟨R, 2, none⟩ = some (.bool false) ∧ W.cell? ⟨R, 3, none⟩ = some (.int .i64 0)) ∧ W.frozen? ⟨R, 0, none⟩ = false ∧ W.frozen? ⟨R, 1, none⟩ = false ∧ W.frozen? ⟨R, 2, none⟩ = false ∧ W.frozen? ⟨R, 3, none⟩ = false
  s : (W.cell? ⟨S, 0, none⟩ = some (.int .i64 0) ∧ W.cell? ⟨S, 1, none⟩ = some (.bool false)) ∧ W.frozen? ⟨S, 0, none⟩ = false ∧ W.frozen? ⟨S, 1, none⟩ = false
  l1 : RaL D G a b c d e f (st4 W R a b c d)
  l2 : RaL D G a b c d e f (st2 W S e f)
  l3 : RaL D G a b c d e f (st2 (st4 W R a b c d) S e f)
  l4 : RaL D G a b c d e f (st4 (st2 W S e f) R a b c d)
  s1 : ((st4 W R a b c d).cell? ⟨S, 0, none⟩ = some (.int .i64 0) ∧ (st4 W R a b c d).cell? ⟨S, 1, none⟩ = some (.bool false)) ∧ (st4 W R a b c d).frozen? ⟨S, 0, none⟩ = false ∧ (st4 W R a b c d).frozen? ⟨S, 1, none⟩ = false
  r2 : ((st2 W S e f).cell? ⟨R, 0, none⟩ = some (.slice none 0 0) ∧ (st2 W S e f).cell? ⟨R, 1, none⟩ = some (.int .i64 0) ∧ (st2 W S e f).cell? ⟨R, 2, none⟩ = some (.bool false) ∧ (st2 W S e f).cell? ⟨R, 3, none⟩ = some (.int .i64 0)) ∧ (st2 W S e f).frozen? ⟨R, 0, none⟩ = false ∧ (st2 W S e f).frozen? ⟨R, 1, none⟩ = false ∧ (st2 W S e f).frozen? ⟨R, 2, none⟩ = false ∧ (st2 W S e f).frozen? ⟨R, 3, none⟩ = false
  e3 : Blk (st2 (st4 W R a b c d) S e f) R 35 #[a, b, c, d] ∧ Blk (st2 (st4 W R a b c d) S e f) S 42 #[e, f]
  e4 : Blk (st4 (st2 W S e f) R a b c d) R 35 #[a, b, c, d] ∧ Blk (st4 (st2 W S e f) R a b c d) S 42 #[e, f]
  o3 : ∀ k, k ≠ R → k ≠ S → (st2 (st4 W R a b c d) S e f).heap[k]? = W.heap[k]?
  o4 : ∀ k, k ≠ R → k ≠ S → (st4 (st2 W S e f) R a b c d).heap[k]? = W.heap[k]?
  b3 : Below w.heap.size w (st2 (st4 W R a b c d) S e f)
  b4 : Below w.heap.size w (st4 (st2 W S e f) R a b c d)
theorem _root_.Go.RowKit.Below.drewS {B : Nat} {w W : World} (h : Below B w W) : Below B w W.drew := below_drewN h 1
theorem blk_drew {W : World} {g : Nat} {t : TypeId} {cs : Array Value} (h : Blk W g t cs) : W.drew.heap[g]? = some (.cells cs t (0, 0)) := h
theorem ra_l {W : World} {D G : Nat} {a b c d e f : Value} (hd : Blk W D 35 #[a, b, c, d]) (hg : Blk W G 42 #[e, f]) : RaL D G a b c d e f W := ⟨⟨hd.cell 0, hd.cell 1, hd.cell 2, hd.cell 3⟩, hg.cell 0, hg.cell 1⟩
theorem ra_r {W : World} {R : Nat} (h : Blk W R 35 #[.slice none 0 0, .int .i64 0, .bool false, .int .i64 0]) : (W.cell? ⟨R, 0, none⟩ = some (.slice none 0 0) ∧ W.cell? ⟨R, 1, none⟩ = some (.int .i64 0) ∧ W.cell? ⟨R, 2, none⟩ = some (.bool false) ∧ W.cell? ⟨R, 3, none⟩ = some (.int .i64 0)) ∧ W.frozen? ⟨R, 0, none⟩ = false ∧ W.frozen? ⟨R, 1, none⟩ = false ∧ W.frozen? ⟨R, 2, none⟩ = false ∧ W.frozen? ⟨R, 3, none⟩ = false := ⟨⟨h.cell 0, h.cell 1, h.cell 2, h.cell 3⟩, h.frozen 0, h.frozen 1, h.frozen 2, h.frozen 3⟩
theorem ra_s {W : World} {S : Nat} (h : Blk W S 42 #[.int .i64 0, .bool false]) : (W.cell? ⟨S, 0, none⟩ = some (.int .i64 0) ∧ W.cell? ⟨S, 1, none⟩ = some (.bool false)) ∧ W.frozen? ⟨S, 0, none⟩ = false ∧ W.frozen? ⟨S, 1, none⟩ = false := ⟨⟨h.cell 0, h.cell 1⟩, h.frozen 0, h.frozen 1⟩
theorem RaB.fin {w W : World} {D G R S : Nat} {a b c d e f : Value} (h : RaB W D G R S #[a, b, c, d] #[e, f]) (h1 : D ≠ R) (h2 : G ≠ S) (hR : w.heap.size ≤ R) (hS : w.heap.size ≤ S) (hb : Below w.heap.size w W) : RaF w W D G R S a b c d e f := by
  have n1 : G ≠ R := Blk.ne h.g h.r (by decide)
  have n2 : D ≠ S := Blk.ne h.d h.s (by decide)
  have n3 : R ≠ S := Blk.ne h.r h.s (by decide)
  have d1 := h.d.same (st4_off W a b c d h1)
  have g1 := h.g.same (st4_off W a b c d n1)
  have s1 := h.s.same (st4_off W a b c d n3.symm)
  have r1 : Blk (st4 W R a b c d) R 35 #[a, b, c, d] := by
    have := (((h.r.set 0 a).set 1 b).set 2 c).set 3 d
    unfold st4
    simpa using this
  have d2 := h.d.same (st2_off W e f n2)
  have g2 := h.g.same (st2_off W e f h2)
  have r2 := h.r.same (st2_off W e f n3)
  have s2 : Blk (st2 W S e f) S 42 #[e, f] := by
    have := (h.s.set 0 e).set 1 f
    unfold st2
    simpa using this
  have s3 : Blk (st2 (st4 W R a b c d) S e f) S 42 #[e, f] := by
    have := (s1.set 0 e).set 1 f
    unfold st2
    simpa using this
  have r4 : Blk (st4 (st2 W S e f) R a b c d) R 35 #[a, b, c, d] := by
    have := (((r2.set 0 a).set 1 b).set 2 c).set 3 d
    unfold st4
    simpa using this
  have bR : ∀ X : World, Below w.heap.size w X → Below w.heap.size w (st4 X R a b c d) := fun X hX => (((hX.setCell (p := ⟨R, 0, none⟩) hR _).setCell (p := ⟨R, 1, none⟩) hR _).setCell (p := ⟨R, 2, none⟩) hR _).setCell (p := ⟨R, 3, none⟩) hR _
  have bS : ∀ X : World, Below w.heap.size w X → Below w.heap.size w (st2 X S e f) := fun X hX => (hX.setCell (p := ⟨S, 0, none⟩) hS _).setCell (p := ⟨S, 1, none⟩) hS _
  exact ⟨ra_l h.d h.g, ra_r h.r, ra_s h.s, ra_l d1 g1, ra_l d2 g2, ra_l (d1.same (st2_off _ e f n2)) (g1.same (st2_off _ e f h2)), ra_l (d2.same (st4_off _ a b c d h1)) (g2.same (st4_off _ a b c d n1)), ra_s s1, ra_r r2,
    ⟨r1.same (st2_off _ e f n3), s3⟩, ⟨r4, s2.same (st4_off _ a b c d n3.symm)⟩, fun k k1 k2 => (st2_off _ e f k2).trans (st4_off _ a b c d k1), fun k k1 k2 => (st4_off _ a b c d k1).trans (st2_off _ e f k2), bS _ (bR _ hb), bR _ (bS _ hb)⟩
theorem results_c3 {P : Program} {fn : Func} {p q r : Tmp} {ty ty2 : TypeId} (h : fn.results = #[.cell p ty, .cell q ty2, .tmp r]) (tmps : Array Value) (w : World) (g g2 : Nat) (t t2 : TypeId) (cs cs2 : Array Value) (fr fr2 : Nat × Nat) (d d2 : TypeDesc) (x : Value)
    (hp : tmps.getD p undef = .pointer (some ⟨g, 0, none⟩)) (hq : tmps.getD q undef = .pointer (some ⟨g2, 0, none⟩)) (hr : tmps.getD r undef = x) (hg : w.heap[g]? = some (.cells cs t fr)) (hg2 : w.heap[g2]? = some (.cells cs2 t2 fr2))
    (hu : P.underlying ty = some d) (hd : (match d with | .struct _ | .array _ _ => true | _ => false) = true) (hi : (P.info? ty).map (·.size) = some cs.size)
    (hu2 : P.underlying ty2 = some d2) (hd2 : (match d2 with | .struct _ | .array _ _ => true | _ => false) = true) (hi2 : (P.info? ty2).map (·.size) = some cs2.size) :
    (results fn tmps).run P w = .ok (.tuple #[.agg cs, .agg cs2, x]) w := by
  have hp' : tmps[p]?.getD undef = .pointer (some ⟨g, 0, none⟩) := by simpa using hp
  have hq' : tmps[q]?.getD undef = .pointer (some ⟨g2, 0, none⟩) := by simpa using hq
  have hr' : tmps[r]?.getD undef = x := by simpa using hr
  simp [results, h, hp', hq', hr', asAddr, run_loadVar_row w g t ty cs fr d hg hu hd hi, run_loadVar_row w g2 t2 ty2 cs2 fr2 d2 hg2 hu2 hd2 hi2]
/-- What the reference's Append answers. -/
def RApRet (w : World) (p : (Int × Bool × St) × Nat) (e : Ending) (w' : World) : Prop :=
  ∃ v' T', e = .returned (.tuple #[v', .agg #[.int .i64 p.1.1, .bool p.1.2.1], .int .i64 (p.2 : Int)]) ∧ RefRep w' T' v' p.1.2.2 ∧ Below w.heap.size w w'
set_option maxRecDepth 100000 in
set_option maxHeartbeats 1000000 in
theorem rapp_new (h : RefRep w T v st) (hok : st.Ok) (hst : st.steps + 1 ≤ 9223372036854775807) (M : Nat) (hM1 : 1 ≤ M) (hM2 : M ≤ 1000000) (hf : find st.files (seg (M : Int)) = none) {A : Option Addr} {n c : Nat} {l : Bs} (hl : l.length = n) (hr : Rd w A (bv l)) (hn : n ≤ 4096) :
    Calls Tryz.prog 13 #[v, .agg #[.int .i64 (M : Int), .bool false], .slice A n c] w (RApRet w (lput (M : Int) false st l)) := by
  have HFI := Lib.hid (fun (W : World) (hW : Below w.heap.size w W) => rfile_none (h.below hW) hok (M : Int) false (by omega) (by omega) hf)
  have HRW := Lib.hid (fun (W : World) (hW : Below w.heap.size w W) => h.below hW)
  obtain ⟨A0, c0, rfl, hL, hlc⟩ := refV_of h
  obtain ⟨N, hN⟩ : ∃ N, N = st.files.length := ⟨_, rfl⟩
  rw [← hN] at HFI HRW ⊢
  obtain ⟨W1, hW1⟩ : ∃ W1, W1 = (((w.alloc (.cells #[.slice A0 N c0, .int .i64 (st.steps : Int), .bool st.armed, .int .i64 (st.left : Int)] 35)).alloc (.cells #[.int .i64 (M : Int), .bool false] 42)).alloc (.cells #[.slice none 0 0, .int .i64 0, .bool false, .int .i64 0] 35)).alloc (.cells #[.int .i64 0, .bool false] 42) := ⟨_, rfl⟩
  obtain ⟨D, hD⟩ : ∃ D, D = w.heap.size := ⟨_, rfl⟩
  obtain ⟨G, hG⟩ : ∃ G, G = D + 1 := ⟨_, rfl⟩
  obtain ⟨R, hR⟩ : ∃ R, R = G + 1 := ⟨_, rfl⟩
  obtain ⟨S, hS⟩ : ∃ S, S = R + 1 := ⟨_, rfl⟩
  have hb : Below w.heap.size w W1 := by rw [hW1]; exact ((((Below.refl _ _).alloc (Nat.le_refl _) _).alloc (by simp) _).alloc (by simp; omega) _).alloc (by simp; omega) _
  have hbx : RaB W1 D G R S #[.slice A0 N c0, .int .i64 (st.steps : Int), .bool st.armed, .int .i64 (st.left : Int)] #[.int .i64 (M : Int), .bool false] := by
    refine ⟨?_, ?_, ?_, ?_⟩
    · rw [hW1, hD]; exact (((Blk.new w _ _).alloc _).alloc _).alloc _
    · have h1 := Blk.new (w.alloc (.cells #[.slice A0 N c0, .int .i64 (st.steps : Int), .bool st.armed, .int .i64 (st.left : Int)] 35)) 42 #[.int .i64 (M : Int), .bool false]
      rw [World.size_alloc] at h1
      rw [hW1, hG, hD]; exact (h1.alloc _).alloc _
    · have h1 := Blk.new ((w.alloc (.cells #[.slice A0 N c0, .int .i64 (st.steps : Int), .bool st.armed, .int .i64 (st.left : Int)] 35)).alloc (.cells #[.int .i64 (M : Int), .bool false] 42)) 35 #[.slice none 0 0, .int .i64 0, .bool false, .int .i64 0]
      rw [World.size_alloc, World.size_alloc] at h1
      rw [hW1, hR, hG, hD]; exact h1.alloc _
    · have h1 := Blk.new (((w.alloc (.cells #[.slice A0 N c0, .int .i64 (st.steps : Int), .bool st.armed, .int .i64 (st.left : Int)] 35)).alloc (.cells #[.int .i64 (M : Int), .bool false] 42)).alloc (.cells #[.slice none 0 0, .int .i64 0, .bool false, .int .i64 0] 35)) 42 #[.int .i64 0, .bool false]
      rw [World.size_alloc, World.size_alloc, World.size_alloc] at h1
      rw [hW1, hS, hR, hG, hD]; exact h1
  have HB := Lib.hid hb
  have HBX := Lib.hid hbx
  have HNE := Lib.hid (show D ≠ R ∧ G ≠ S ∧ w.heap.size ≤ D ∧ w.heap.size ≤ G ∧ w.heap.size ≤ R ∧ w.heap.size ≤ S by omega)
  have HSE := Lib.hid (Rseal_any A n c l W1 hl (hr.below hb) (by omega))
  have HTL := Lib.hid h.lt
  have HOK := Lib.hid hok
  have HLN := Lib.hid (show (sealOf l).length ≤ 5000 by have := len_enc2 (n := l.length) (by omega); rw [sealOf_length]; omega)
  clear h hl hr hL hlc hb hbx hN hf hok
  go_enter Tryz.func13, Tryz.ntmps13
  go_upto_region 1 with fail
  rw [← hW1, ← hD, ← hG, ← hR, ← hS]
  have HDD := Lib.hid hD
  clear hW1 hD hG hR hS
  obtain ⟨x0, x1, x2, x3⟩ := cells4D HBX.out.d
  have y0 : W1.cell? ⟨G, 0, none⟩ = some (.int .i64 (M : Int)) := HBX.out.g.cell 0
  have y1 : W1.cell? ⟨G, 1, none⟩ = some (.bool false) := HBX.out.g.cell 1
  go_upto_region 8 with (first
    | (go_at_call 40; refine HSE.out.mono ?_; rintro e w3 ⟨v3, rfl, A3, m3, c3, rfl, hm3, hc3, hr3, hb3⟩; have hx3 := HBX.out.below hb3; obtain ⟨z0, z1, z2, z3⟩ := cells4D hx3.d; have z4 : w3.cell? ⟨G, 0, none⟩ = some (.int .i64 (M : Int)) := hx3.g.cell 0; have z5 : w3.cell? ⟨G, 1, none⟩ = some (.bool false) := hx3.g.cell 1; have HB3 := Lib.hid (HB.out.trans (hb3.mono HB.out.size)); have HX3 := Lib.hid hx3; have HM3 := Lib.hid hm3; have HR3 := Lib.hid hr3; clear hb3 hx3 hm3 hr3)
    | (go_at_call 41; refine (HFI.out w3 HB3.out).mono ?_; rintro e w4 ⟨rfl, hb4⟩))
  clear x0 x1 x2 x3 y0 y1 z0 z1 z2 z3 z4 z5
  obtain ⟨W5, hW5⟩ : ∃ W5, W5 = w4.alloc (.cells #[.string ⟨#[]⟩, .string ⟨#[]⟩, .int .i64 0] 64) := ⟨_, rfl⟩
  have hb35 : Below w3.heap.size w3 W5 := by rw [hW5]; exact hb4.alloc hb4.size _
  have hx5 := HX3.out.below hb35
  have hb5 := HB3.out.trans (hb35.mono HB3.out.size)
  have hF5 : W5.cell? ⟨w4.heap.size, 1, none⟩ = some (.string ⟨#[]⟩) := by rw [hW5]; exact (Blk.new w4 64 #[.string ⟨#[]⟩, .string ⟨#[]⟩, .int .i64 0]).cell 1
  have y0 : W5.cell? ⟨G, 0, none⟩ = some (.int .i64 (M : Int)) := hx5.g.cell 0
  obtain ⟨n1, n2, n3, n4, n5, n6⟩ := HNE.out
  have hfin := hx5.fin n1 n2 n5 n6 hb5
  rw [← hW5]
  have HX5 := Lib.hid hx5
  have HB5 := Lib.hid hb5
  have HR5 := Lib.hid (own_below HR3.out hb35 (Nat.le_refl _))
  have HFN := Lib.hid hfin
  obtain ⟨FB, hFB⟩ : ∃ FB, FB = w4.heap.size := ⟨_, rfl⟩
  rw [← hFB] at hF5 ⊢
  clear hW5 hb35 hx5 hb5 hb4 hFB hfin HX3 HB3
  by_cases hM : M ≤ 999999
  · have k1 : ¬ 999999 < (M : Int) := by omega
    have hsr := seg_rname (n := M) (by omega) hM
    obtain ⟨p, hp⟩ : ∃ p, p = st.append (seg (M : Int)) (sealOf l) := ⟨_, rfl⟩
    obtain ⟨t, ht⟩ : ∃ t : ByteArray, t = ⟨(sealOf l).toArray⟩ := ⟨_, rfl⟩
    have htl : t.data.toList = sealOf l := by rw [ht]
    have hts : t.size ≤ 5000 := by rw [ht]; show (sealOf l).toArray.size ≤ 5000; rw [List.size_toArray]; exact HLN.out
    have HAP := Lib.hid (fun (W : World) (hW : Below w.heap.size w W) (s3 : ByteArray) (hs : s3.data.toList = rname M) (hz : s3.size ≤ 100) => show Calls Tryz.prog 43 #[.agg #[.slice A0 N c0, .int .i64 (st.steps : Int), .bool st.armed, .int .i64 (st.left : Int)], .string s3, .string t] W (RRet2 T W p) from by
      have h1 := rappend_any (HRW.out W hW) HOK.out hst s3 t (by unfold maxLen; omega) (by omega)
      rw [hs, ← hsr, htl, ← hp] at h1
      exact h1)
    have HCV := Lib.hid (fun (W : World) (hW : Mod (fun k => k = D) W5 W) => show (convert 28 9 (.slice A3 m3 c3)).run Tryz.prog W = .ok (.string t) W from by
      rw [ht]
      refine run_str (P := Tryz.prog) W 28 9 5 Tryz.underlying28 Tryz.underlying5 Tryz.underlying9 A3 m3 c3 (sealOf l) HM3.out (Rd.own (own_same HR5.out fun k hk => hW.block k (HR5.out.lt k hk).2 fun e => ?_))
      have e' : k = D := e
      subst e'
      exact own_not_box HR5.out HX5.out.d (by decide) hk)
    have HGC := Lib.hid (fun (W : World) (hW : Mod (fun k => k = D) W5 W) => show W.cell? ⟨G, 0, none⟩ = some (.int .i64 (M : Int)) from (HX5.out.g.same (hW.block _ HX5.out.g.lt (Blk.ne HX5.out.g HX5.out.d (by decide)))).cell 0)
    have HP := Lib.hid hp
    obtain ⟨x0, x1, x2, x3⟩ := cells4D HX5.out.d
    obtain ⟨dd, hdd⟩ : ∃ dd : Bool, ((p.2 : Int) == 6) = dd := ⟨_, rfl⟩
    have HDD2 := Lib.hid hdd
    have hm0 : Mod (fun k => k = D) W5 W5.drew := (Mod.refl _ W5).drew
    clear hsr hp ht htl hts
    go_upto_region 14 with fail
    clear y0 hF5
    refine wp_region_held_drew (S := (fun W => Mod (fun k => k = D) W5 W)) (by kernel_rfl) (by (first | (with_reducible assumption) | exact (((((by assumption : Mod (fun k => k = D) W5 _).setCell (p := ⟨D, 0, none⟩) (fun _ => rfl) _).setCell (p := ⟨D, 1, none⟩) (fun _ => rfl) _).setCell (p := ⟨D, 2, none⟩) (fun _ => rfl) _).setCell (p := ⟨D, 3, none⟩) (fun _ => rfl) _))) (fun hHeld => ?_)
    refine wpAnyH_take (i := 1) (v := ?vr2x_1) (Fr.take_at rfl) (by kernel_rfl) (by kernel_rfl) (by kernel_rfl) (fun _ _ _ h => h) (Or.inl ⟨by rfl, ?yr2x_1⟩) (by assumption) ?nr2x_1
    case yr2x_1 => (intro w_ hSw; have u0 := HGC.out _ hSw; have u1 := HCV.out _ hSw; go_simp; (try with_reducible rfl))
    try simp only [Act.put, List.setIfInBounds_toArray, List.set_cons_zero, List.set_cons_succ]
    refine wpAnyH_take (i := 2) (v := ?vr2x_2) (Fr.take_at rfl) (by kernel_rfl) (by kernel_rfl) (by kernel_rfl) (fun _ _ _ h => h) (Or.inl ⟨by rfl, ?yr2x_2⟩) (by assumption) ?nr2x_2
    case yr2x_2 => (intro w_ hSw; have u0 := HGC.out _ hSw; have u1 := HCV.out _ hSw; go_simp; (try with_reducible rfl))
    try simp only [Act.put, List.setIfInBounds_toArray, List.set_cons_zero, List.set_cons_succ]
    refine wpAnyH_take (i := 4) (v := ?vr2x_4) (Fr.take_at rfl) (by kernel_rfl) (by kernel_rfl) (by kernel_rfl) (fun _ _ _ h => h) (Or.inl ⟨by rfl, ?yr2x_4⟩) (by assumption) ?nr2x_4
    case yr2x_4 => (intro w_ hSw; have u0 := HGC.out _ hSw; have u1 := HCV.out _ hSw; go_simp; (try with_reducible rfl))
    try simp only [Act.put, List.setIfInBounds_toArray, List.set_cons_zero, List.set_cons_succ]
    refine wpAnyH_take (i := 5) (v := ?vr2x_5) (Fr.take_at rfl) (by kernel_rfl) (by kernel_rfl) (by kernel_rfl) (fun _ _ _ h => h) (Or.inl ⟨by rfl, ?yr2x_5⟩) (by assumption) ?nr2x_5
    case yr2x_5 => (intro w_ hSw; have u0 := HGC.out _ hSw; have u1 := HCV.out _ hSw; go_simp; (try with_reducible rfl))
    try simp only [Act.put, List.setIfInBounds_toArray, List.set_cons_zero, List.set_cons_succ]
    refine wpAnyH_ready (rs := [0, 3]) (by kernel_rfl) (by simp) ?_
    refine AllReadyH.cons (Fr.take_at rfl) (fun K hK => ?_) (AllReadyH.cons (Fr.take_at rfl) (fun K hK => ?_) AllReadyH.nil)
    go_simp
    refine hK.out _ _ (by (first | (with_reducible assumption) | exact (((((by assumption : Mod (fun k => k = D) W5 _).setCell (p := ⟨D, 0, none⟩) (fun _ => rfl) _).setCell (p := ⟨D, 1, none⟩) (fun _ => rfl) _).setCell (p := ⟨D, 2, none⟩) (fun _ => rfl) _).setCell (p := ⟨D, 3, none⟩) (fun _ => rfl) _))) (fun hHeld => ?_)
    clear hK K
    try simp only [Act.put, List.setIfInBounds_toArray, List.set_cons_zero, List.set_cons_succ]
    refine wpAnyH_ready (rs := [3]) (by kernel_rfl) (by simp) ?_
    refine AllReadyH.cons (Fr.take_at rfl) (fun K hK => ?_) AllReadyH.nil
    go_simp
    (go_at_call 5; refine (rname_any M _ (by omega)).mono ?_; rintro e w6 ⟨s3, rfl, hs3, hz3, hb6⟩; have hb56 := below_of_drewN (n := 1) hb6; have hm6 := Mod.below (S := fun k => k = D) hb56; obtain ⟨z0, z1, z2, z3⟩ := cells4D (HX5.out.d.same (hb56.block _ HX5.out.d.lt)))
    try go_wp2_with fail
    refine hK.out _ _ (by (first | (with_reducible assumption) | exact (((((by assumption : Mod (fun k => k = D) W5 _).setCell (p := ⟨D, 0, none⟩) (fun _ => rfl) _).setCell (p := ⟨D, 1, none⟩) (fun _ => rfl) _).setCell (p := ⟨D, 2, none⟩) (fun _ => rfl) _).setCell (p := ⟨D, 3, none⟩) (fun _ => rfl) _))) (fun hHeld => ?_)
    clear hK K
    try simp only [Act.put, List.setIfInBounds_toArray, List.set_cons_zero, List.set_cons_succ]
    refine wpAnyH_ready (rs := [6]) (by kernel_rfl) (by simp) ?_
    refine AllReadyH.cons (Fr.take_at rfl) (fun K hK => ?_) AllReadyH.nil
    go_simp
    (go_at_call 43; refine (HAP.out _ (HB5.out.trans (hb56.mono HB5.out.size)) s3 hs3 hz3).mono ?_; rintro e w7 ⟨v7, rfl, hr7, hb7⟩; obtain ⟨A7, c7, rfl, hl7, hlc7⟩ := refV_of hr7; have hb57 := hb56.trans (hb7.mono hb56.size); have hm7 := Mod.below (S := fun k => k = D) hb57; have hd7 := HX5.out.d.same (hb57.block _ HX5.out.d.lt); obtain ⟨z0, z1, z2, z3⟩ := cells4D hd7; have g0 := hd7.frozen 0; have g1 := hd7.frozen 1; have g2 := hd7.frozen 2; have g3 := hd7.frozen 3; have hx8 := (HX5.out.below hb57).dset HNE.out.1 (.slice A7 p.1.files.length c7) (.int .i64 (p.1.steps : Int)) (.bool p.1.armed) (.int .i64 (p.1.left : Int)); have HX8 := Lib.hid hx8; have w8c := hx8.g.cell 1; have w8f := hx8.g.frozen 1; unfold st4 at w8c w8f; simp only [List.getElem?_toArray, List.getElem?_cons_zero, List.getElem?_cons_succ] at w8c; clear hx8)
    try go_wp2_with fail
    refine hK.out _ _ (by (first | (with_reducible assumption) | exact (((((by assumption : Mod (fun k => k = D) W5 _).setCell (p := ⟨D, 0, none⟩) (fun _ => rfl) _).setCell (p := ⟨D, 1, none⟩) (fun _ => rfl) _).setCell (p := ⟨D, 2, none⟩) (fun _ => rfl) _).setCell (p := ⟨D, 3, none⟩) (fun _ => rfl) _))) (fun hHeld => ?_)
    clear hK K
    try simp only [Act.put, List.setIfInBounds_toArray, List.set_cons_zero, List.set_cons_succ]
    refine wpAnyH_take (i := 7) (v := ?vr2L1_7) (Fr.take_at rfl) (by kernel_rfl) (by kernel_rfl) (by kernel_rfl) (fun _ _ _ h => h) (Or.inl ⟨by rfl, ?yr2L1_7⟩) (by assumption) ?nr2L1_7
    case yr2L1_7 => (intro w_ hSw; have u0 := HGC.out _ hSw; have u1 := HCV.out _ hSw; go_simp; (try with_reducible rfl))
    try simp only [Act.put, List.setIfInBounds_toArray, List.set_cons_zero, List.set_cons_succ]
    refine wpAnyH_take (i := 8) (v := ?vr2L1_8) (Fr.take_at rfl) (by kernel_rfl) (by kernel_rfl) (by kernel_rfl) (fun _ _ _ h => h) (Or.inl ⟨by rfl, ?yr2L1_8⟩) (by assumption) ?nr2L1_8
    case yr2L1_8 => (intro w_ hSw; have u0 := HGC.out _ hSw; have u1 := HCV.out _ hSw; go_simp; (try with_reducible rfl))
    try simp only [Act.put, List.setIfInBounds_toArray, List.set_cons_zero, List.set_cons_succ]
    refine wpAnyH_take (i := 9) (v := ?vr2L1_9) (Fr.take_at rfl) (by kernel_rfl) (by kernel_rfl) (by kernel_rfl) (fun _ _ _ h => h) (Or.inl ⟨by rfl, ?yr2L1_9⟩) (by assumption) ?nr2L1_9
    case yr2L1_9 => (intro w_ hSw; have u0 := HGC.out _ hSw; have u1 := HCV.out _ hSw; go_simp; (try with_reducible rfl))
    try simp only [Act.put, List.setIfInBounds_toArray, List.set_cons_zero, List.set_cons_succ]
    refine wpAnyH_ready (rs := [10]) (by kernel_rfl) (by simp) ?_
    refine AllReadyH.cons (Fr.take_at rfl) (fun K hK => ?_) AllReadyH.nil
    go_simp
    refine hK.out _ _ (by (first | (with_reducible assumption) | exact (((((by assumption : Mod (fun k => k = D) W5 _).setCell (p := ⟨D, 0, none⟩) (fun _ => rfl) _).setCell (p := ⟨D, 1, none⟩) (fun _ => rfl) _).setCell (p := ⟨D, 2, none⟩) (fun _ => rfl) _).setCell (p := ⟨D, 3, none⟩) (fun _ => rfl) _))) (fun hHeld => ?_)
    clear hK K
    try simp only [Act.put, List.setIfInBounds_toArray, List.set_cons_zero, List.set_cons_succ]
    refine wpAnyH_take (i := 11) (v := ?vr2L1_11) (Fr.take_at rfl) (by kernel_rfl) (by kernel_rfl) (by kernel_rfl) (fun _ _ _ h => h) (Or.inl ⟨by rfl, ?yr2L1_11⟩) (by assumption) ?nr2L1_11
    case yr2L1_11 => (intro w_ hSw; have u0 := HGC.out _ hSw; have u1 := HCV.out _ hSw; go_simp; (try with_reducible rfl))
    try simp only [Act.put, List.setIfInBounds_toArray, List.set_cons_zero, List.set_cons_succ]
    refine wpAnyH_done (by kernel_rfl) ?_ _
    rotate_left
    go_simp
    (go_at_call 5; refine (rname_any M _ (by omega)).mono ?_; rintro e w6 ⟨s3, rfl, hs3, hz3, hb6⟩; have hb56 := below_of_drewN (n := 1) hb6; have hm6 := Mod.below (S := fun k => k = D) hb56; obtain ⟨z0, z1, z2, z3⟩ := cells4D (HX5.out.d.same (hb56.block _ HX5.out.d.lt)))
    try go_wp2_with fail
    refine hK.out _ _ (by (first | (with_reducible assumption) | exact (((((by assumption : Mod (fun k => k = D) W5 _).setCell (p := ⟨D, 0, none⟩) (fun _ => rfl) _).setCell (p := ⟨D, 1, none⟩) (fun _ => rfl) _).setCell (p := ⟨D, 2, none⟩) (fun _ => rfl) _).setCell (p := ⟨D, 3, none⟩) (fun _ => rfl) _))) (fun hHeld => ?_)
    clear hK K
    try simp only [Act.put, List.setIfInBounds_toArray, List.set_cons_zero, List.set_cons_succ]
    refine wpAnyH_ready (rs := [0]) (by kernel_rfl) (by simp) ?_
    refine AllReadyH.cons (Fr.take_at rfl) (fun K hK => ?_) AllReadyH.nil
    go_simp
    refine hK.out _ _ (by (first | (with_reducible assumption) | exact (((((by assumption : Mod (fun k => k = D) W5 _).setCell (p := ⟨D, 0, none⟩) (fun _ => rfl) _).setCell (p := ⟨D, 1, none⟩) (fun _ => rfl) _).setCell (p := ⟨D, 2, none⟩) (fun _ => rfl) _).setCell (p := ⟨D, 3, none⟩) (fun _ => rfl) _))) (fun hHeld => ?_)
    clear hK K
    try simp only [Act.put, List.setIfInBounds_toArray, List.set_cons_zero, List.set_cons_succ]
    refine wpAnyH_ready (rs := [6]) (by kernel_rfl) (by simp) ?_
    refine AllReadyH.cons (Fr.take_at rfl) (fun K hK => ?_) AllReadyH.nil
    go_simp
    (go_at_call 43; refine (HAP.out _ (HB5.out.trans (hb56.mono HB5.out.size)) s3 hs3 hz3).mono ?_; rintro e w7 ⟨v7, rfl, hr7, hb7⟩; obtain ⟨A7, c7, rfl, hl7, hlc7⟩ := refV_of hr7; have hb57 := hb56.trans (hb7.mono hb56.size); have hm7 := Mod.below (S := fun k => k = D) hb57; have hd7 := HX5.out.d.same (hb57.block _ HX5.out.d.lt); obtain ⟨z0, z1, z2, z3⟩ := cells4D hd7; have g0 := hd7.frozen 0; have g1 := hd7.frozen 1; have g2 := hd7.frozen 2; have g3 := hd7.frozen 3; have hx8 := (HX5.out.below hb57).dset HNE.out.1 (.slice A7 p.1.files.length c7) (.int .i64 (p.1.steps : Int)) (.bool p.1.armed) (.int .i64 (p.1.left : Int)); have HX8 := Lib.hid hx8; have w8c := hx8.g.cell 1; have w8f := hx8.g.frozen 1; unfold st4 at w8c w8f; simp only [List.getElem?_toArray, List.getElem?_cons_zero, List.getElem?_cons_succ] at w8c; clear hx8)
    try go_wp2_with fail
    refine hK.out _ _ (by (first | (with_reducible assumption) | exact (((((by assumption : Mod (fun k => k = D) W5 _).setCell (p := ⟨D, 0, none⟩) (fun _ => rfl) _).setCell (p := ⟨D, 1, none⟩) (fun _ => rfl) _).setCell (p := ⟨D, 2, none⟩) (fun _ => rfl) _).setCell (p := ⟨D, 3, none⟩) (fun _ => rfl) _))) (fun hHeld => ?_)
    clear hK K
    try simp only [Act.put, List.setIfInBounds_toArray, List.set_cons_zero, List.set_cons_succ]
    refine wpAnyH_take (i := 7) (v := ?vr2L2_7) (Fr.take_at rfl) (by kernel_rfl) (by kernel_rfl) (by kernel_rfl) (fun _ _ _ h => h) (Or.inl ⟨by rfl, ?yr2L2_7⟩) (by assumption) ?nr2L2_7
    case yr2L2_7 => (intro w_ hSw; have u0 := HGC.out _ hSw; have u1 := HCV.out _ hSw; go_simp; (try with_reducible rfl))
    try simp only [Act.put, List.setIfInBounds_toArray, List.set_cons_zero, List.set_cons_succ]
    refine wpAnyH_take (i := 8) (v := ?vr2L2_8) (Fr.take_at rfl) (by kernel_rfl) (by kernel_rfl) (by kernel_rfl) (fun _ _ _ h => h) (Or.inl ⟨by rfl, ?yr2L2_8⟩) (by assumption) ?nr2L2_8
    case yr2L2_8 => (intro w_ hSw; have u0 := HGC.out _ hSw; have u1 := HCV.out _ hSw; go_simp; (try with_reducible rfl))
    try simp only [Act.put, List.setIfInBounds_toArray, List.set_cons_zero, List.set_cons_succ]
    refine wpAnyH_take (i := 9) (v := ?vr2L2_9) (Fr.take_at rfl) (by kernel_rfl) (by kernel_rfl) (by kernel_rfl) (fun _ _ _ h => h) (Or.inl ⟨by rfl, ?yr2L2_9⟩) (by assumption) ?nr2L2_9
    case yr2L2_9 => (intro w_ hSw; have u0 := HGC.out _ hSw; have u1 := HCV.out _ hSw; go_simp; (try with_reducible rfl))
    try simp only [Act.put, List.setIfInBounds_toArray, List.set_cons_zero, List.set_cons_succ]
    refine wpAnyH_ready (rs := [10]) (by kernel_rfl) (by simp) ?_
    refine AllReadyH.cons (Fr.take_at rfl) (fun K hK => ?_) AllReadyH.nil
    go_simp
    refine hK.out _ _ (by (first | (with_reducible assumption) | exact (((((by assumption : Mod (fun k => k = D) W5 _).setCell (p := ⟨D, 0, none⟩) (fun _ => rfl) _).setCell (p := ⟨D, 1, none⟩) (fun _ => rfl) _).setCell (p := ⟨D, 2, none⟩) (fun _ => rfl) _).setCell (p := ⟨D, 3, none⟩) (fun _ => rfl) _))) (fun hHeld => ?_)
    clear hK K
    try simp only [Act.put, List.setIfInBounds_toArray, List.set_cons_zero, List.set_cons_succ]
    refine wpAnyH_take (i := 11) (v := ?vr2L2_11) (Fr.take_at rfl) (by kernel_rfl) (by kernel_rfl) (by kernel_rfl) (fun _ _ _ h => h) (Or.inl ⟨by rfl, ?yr2L2_11⟩) (by assumption) ?nr2L2_11
    case yr2L2_11 => (intro w_ hSw; have u0 := HGC.out _ hSw; have u1 := HCV.out _ hSw; go_simp; (try with_reducible rfl))
    try simp only [Act.put, List.setIfInBounds_toArray, List.set_cons_zero, List.set_cons_succ]
    refine wpAnyH_done (by kernel_rfl) ?_ _
    rotate_left
    · go_upto_region 16 with fail
      obtain ⟨W9, hW9⟩ : ∃ W9, W9 = ((((w7.setCell ⟨D, 0, none⟩ (.slice A7 p.1.files.length c7)).setCell ⟨D, 1, none⟩ (.int .i64 (p.1.steps : Int))).setCell ⟨D, 2, none⟩ (.bool p.1.armed)).setCell ⟨D, 3, none⟩ (.int .i64 (p.1.left : Int))).setCell ⟨G, 1, none⟩ (.bool dd) := ⟨_, rfl⟩
      obtain ⟨m1, m2, m3, m4, m5, m6⟩ := HNE.out
      have hx9 := HX8.out.gset m2 (.bool dd)
      have hmod : Mod (fun k => k = D ∨ k = G ∨ k = R ∨ k = S) w7 W9 := by rw [hW9]; exact (st4_mod (Mod.refl _ w7) (.inl rfl) _ _ _ _).setCell (p := ⟨G, 1, none⟩) (fun _ => .inr (.inl rfl)) _
      have hb9 : Below w.heap.size w W9 := (HB5.out.trans (hb57.mono HB5.out.size)).trans (hmod.to_below (fun k hk => by rcases hk with rfl | rfl | rfl | rfl <;> assumption) (Nat.le_trans HB5.out.size hb57.size))
      unfold st4 at hx9
      rw [← hW9] at hx9 ⊢
      have hfin := hx9.fin m1 m2 m5 m6 hb9
      have HFN := Lib.hid hfin
      have HMD := Lib.hid hmod
      have HR7 := Lib.hid hr7
      have HDG := Lib.hid (show D < w7.heap.size ∧ G < w7.heap.size ∧ R < w7.heap.size ∧ S < w7.heap.size from ⟨Nat.lt_of_lt_of_le HX5.out.d.lt hb57.size, Nat.lt_of_lt_of_le HX5.out.g.lt hb57.size, Nat.lt_of_lt_of_le HX5.out.r.lt hb57.size, Nat.lt_of_lt_of_le HX5.out.s.lt hb57.size⟩)
      have HS56 := Lib.hid (show D < w6.heap.size ∧ G < w6.heap.size ∧ R < w6.heap.size ∧ S < w6.heap.size from ⟨Nat.lt_of_lt_of_le HX5.out.d.lt hb56.size, Nat.lt_of_lt_of_le HX5.out.g.lt hb56.size, Nat.lt_of_lt_of_le HX5.out.r.lt hb56.size, Nat.lt_of_lt_of_le HX5.out.s.lt hb56.size⟩)
      clear hW9 hx9 hmod hb9 hfin hHeld w8c w8f g0 g1 g2 g3 z0 z1 z2 z3 x0 x1 x2 x3 hm7 hm6 hm0 hd7 hb7 hb6 hl7
      obtain ⟨⟨r0, r1, r2, r3⟩, q0, q1, q2, q3⟩ := HFN.out.r
      obtain ⟨⟨a0, a1⟩, b0, b1⟩ := HFN.out.s1
      unfold st4 at a0 a1 b0 b1
      have Ll0 := HFN.out.l0.drew
      have Ll1 := HFN.out.l1.drew
      have Ll3 := HFN.out.l3.drew
      unfold st4 at Ll1
      unfold st2 st4 at Ll3
      refine wp_region_held_drew (S := (RaL D G (.slice A7 p.1.files.length c7) (.int .i64 (p.1.steps : Int)) (.bool p.1.armed) (.int .i64 (p.1.left : Int)) (.int .i64 (M : Int)) (.bool dd))) (by kernel_rfl) (by ((with_reducible assumption))) (fun hHeld => ?_)
      refine wpAnyH_take (i := 0) (v := ?vr3_0) (Fr.take_at rfl) (by kernel_rfl) (by kernel_rfl) (by kernel_rfl) (fun _ _ _ h => h) (Or.inl ⟨by rfl, ?yr3_0⟩) (by assumption) ?nr3_0
      case yr3_0 => (intro w_ hSw; obtain ⟨⟨u0, u1, u2, u3⟩, u4, u5⟩ := hSw; go_simp; (try with_reducible rfl))
      try simp only [Act.put, List.setIfInBounds_toArray, List.set_cons_zero, List.set_cons_succ]
      refine wpAnyH_take (i := 1) (v := ?vr3_1) (Fr.take_at rfl) (by kernel_rfl) (by kernel_rfl) (by kernel_rfl) (fun _ _ _ h => h) (Or.inl ⟨by rfl, ?yr3_1⟩) (by assumption) ?nr3_1
      case yr3_1 => (intro w_ hSw; obtain ⟨⟨u0, u1, u2, u3⟩, u4, u5⟩ := hSw; go_simp; (try with_reducible rfl))
      try simp only [Act.put, List.setIfInBounds_toArray, List.set_cons_zero, List.set_cons_succ]
      refine wpAnyH_take (i := 2) (v := ?vr3_2) (Fr.take_at rfl) (by kernel_rfl) (by kernel_rfl) (by kernel_rfl) (fun _ _ _ h => h) (Or.inl ⟨by rfl, ?yr3_2⟩) (by assumption) ?nr3_2
      case yr3_2 => (intro w_ hSw; obtain ⟨⟨u0, u1, u2, u3⟩, u4, u5⟩ := hSw; go_simp; (try with_reducible rfl))
      try simp only [Act.put, List.setIfInBounds_toArray, List.set_cons_zero, List.set_cons_succ]
      refine wpAnyH_ready (rs := [3]) (by kernel_rfl) (by simp) ?_
      refine AllReadyH.cons (Fr.take_at rfl) (fun K hK => ?_) AllReadyH.nil
      go_simp
      refine hK.out _ _ (by ((with_reducible assumption))) (fun hHeld => ?_)
      clear hK K
      try simp only [Act.put, List.setIfInBounds_toArray, List.set_cons_zero, List.set_cons_succ]
      refine wpAnyH_ready (rs := [4]) (by kernel_rfl) (by simp) ?_
      refine AllReadyH.cons (Fr.take_at rfl) (fun K hK => ?_) AllReadyH.nil
      go_simp
      refine hK.out _ _ (by ((with_reducible assumption))) (fun hHeld => ?_)
      clear hK K
      try simp only [Act.put, List.setIfInBounds_toArray, List.set_cons_zero, List.set_cons_succ]
      refine wpAnyH_take (i := 5) (v := ?vr3_5) (Fr.take_at rfl) (by kernel_rfl) (by kernel_rfl) (by kernel_rfl) (fun _ _ _ h => h) (Or.inl ⟨by rfl, ?yr3_5⟩) (by assumption) ?nr3_5
      case yr3_5 => (intro w_ hSw; obtain ⟨⟨u0, u1, u2, u3⟩, u4, u5⟩ := hSw; go_simp; (try with_reducible rfl))
      try simp only [Act.put, List.setIfInBounds_toArray, List.set_cons_zero, List.set_cons_succ]
      refine wpAnyH_done (by kernel_rfl) ?_ _
      go_wp2
      have E1 := blk_drew HFN.out.e3.1
      have E2 := blk_drew HFN.out.e3.2
      have HE := HFN.out.b3.drewS
      have hmm := (st2_mod (st4_mod HMD.out (D := R) (.inr (.inr (.inl rfl))) (.slice A7 p.1.files.length c7) (.int .i64 (p.1.steps : Int)) (.bool p.1.armed) (.int .i64 (p.1.left : Int))) (S := S) (.inr (.inr (.inr rfl))) (.int .i64 (M : Int)) (.bool dd)).drew
      have HW := HR7.out.mod hmm (fun k hk hk2 => by
        have t1 := HNE.out
        have t2 := HS56.out
        rcases hk with hk | hk
        · have t3 := HTL.out k hk
          rcases hk2 with rfl | rfl | rfl | rfl <;> omega
        · have t4 := hk.1
          rcases hk2 with rfl | rfl | rfl | rfl <;> omega)
      unfold st2 st4 at E1 E2 HE HW
      have hpp := lput_new (l := l) hM HP.out HDD2.out
      rw [hpp]
      exact bodyPost_ret (results_c3 (by rfl) _ _ R S 35 42 _ _ (0, 0) (0, 0) _ _ _ (by rfl) (by rfl) (by rfl) E1 E2 Tryz.underlying35 (by rfl) (by kernel_rfl) Tryz.underlying42 (by rfl) (by kernel_rfl)) rfl ⟨_, _, rfl, HW, HE⟩
    · go_upto_region 16 with fail
      obtain ⟨W9, hW9⟩ : ∃ W9, W9 = ((((w7.setCell ⟨D, 0, none⟩ (.slice A7 p.1.files.length c7)).setCell ⟨D, 1, none⟩ (.int .i64 (p.1.steps : Int))).setCell ⟨D, 2, none⟩ (.bool p.1.armed)).setCell ⟨D, 3, none⟩ (.int .i64 (p.1.left : Int))).setCell ⟨G, 1, none⟩ (.bool dd) := ⟨_, rfl⟩
      obtain ⟨m1, m2, m3, m4, m5, m6⟩ := HNE.out
      have hx9 := HX8.out.gset m2 (.bool dd)
      have hmod : Mod (fun k => k = D ∨ k = G ∨ k = R ∨ k = S) w7 W9 := by rw [hW9]; exact (st4_mod (Mod.refl _ w7) (.inl rfl) _ _ _ _).setCell (p := ⟨G, 1, none⟩) (fun _ => .inr (.inl rfl)) _
      have hb9 : Below w.heap.size w W9 := (HB5.out.trans (hb57.mono HB5.out.size)).trans (hmod.to_below (fun k hk => by rcases hk with rfl | rfl | rfl | rfl <;> assumption) (Nat.le_trans HB5.out.size hb57.size))
      unfold st4 at hx9
      rw [← hW9] at hx9 ⊢
      have hfin := hx9.fin m1 m2 m5 m6 hb9
      have HFN := Lib.hid hfin
      have HMD := Lib.hid hmod
      have HR7 := Lib.hid hr7
      have HDG := Lib.hid (show D < w7.heap.size ∧ G < w7.heap.size ∧ R < w7.heap.size ∧ S < w7.heap.size from ⟨Nat.lt_of_lt_of_le HX5.out.d.lt hb57.size, Nat.lt_of_lt_of_le HX5.out.g.lt hb57.size, Nat.lt_of_lt_of_le HX5.out.r.lt hb57.size, Nat.lt_of_lt_of_le HX5.out.s.lt hb57.size⟩)
      have HS56 := Lib.hid (show D < w6.heap.size ∧ G < w6.heap.size ∧ R < w6.heap.size ∧ S < w6.heap.size from ⟨Nat.lt_of_lt_of_le HX5.out.d.lt hb56.size, Nat.lt_of_lt_of_le HX5.out.g.lt hb56.size, Nat.lt_of_lt_of_le HX5.out.r.lt hb56.size, Nat.lt_of_lt_of_le HX5.out.s.lt hb56.size⟩)
      clear hW9 hx9 hmod hb9 hfin hHeld w8c w8f g0 g1 g2 g3 z0 z1 z2 z3 x0 x1 x2 x3 hm7 hm6 hm0 hd7 hb7 hb6 hl7
      obtain ⟨⟨r0, r1, r2, r3⟩, q0, q1, q2, q3⟩ := HFN.out.r
      obtain ⟨⟨a0, a1⟩, b0, b1⟩ := HFN.out.s1
      unfold st4 at a0 a1 b0 b1
      have Ll0 := HFN.out.l0.drew
      have Ll1 := HFN.out.l1.drew
      have Ll3 := HFN.out.l3.drew
      unfold st4 at Ll1
      unfold st2 st4 at Ll3
      refine wp_region_held_drew (S := (RaL D G (.slice A7 p.1.files.length c7) (.int .i64 (p.1.steps : Int)) (.bool p.1.armed) (.int .i64 (p.1.left : Int)) (.int .i64 (M : Int)) (.bool dd))) (by kernel_rfl) (by ((with_reducible assumption))) (fun hHeld => ?_)
      refine wpAnyH_take (i := 0) (v := ?vr4_0) (Fr.take_at rfl) (by kernel_rfl) (by kernel_rfl) (by kernel_rfl) (fun _ _ _ h => h) (Or.inl ⟨by rfl, ?yr4_0⟩) (by assumption) ?nr4_0
      case yr4_0 => (intro w_ hSw; obtain ⟨⟨u0, u1, u2, u3⟩, u4, u5⟩ := hSw; go_simp; (try with_reducible rfl))
      try simp only [Act.put, List.setIfInBounds_toArray, List.set_cons_zero, List.set_cons_succ]
      refine wpAnyH_take (i := 1) (v := ?vr4_1) (Fr.take_at rfl) (by kernel_rfl) (by kernel_rfl) (by kernel_rfl) (fun _ _ _ h => h) (Or.inl ⟨by rfl, ?yr4_1⟩) (by assumption) ?nr4_1
      case yr4_1 => (intro w_ hSw; obtain ⟨⟨u0, u1, u2, u3⟩, u4, u5⟩ := hSw; go_simp; (try with_reducible rfl))
      try simp only [Act.put, List.setIfInBounds_toArray, List.set_cons_zero, List.set_cons_succ]
      refine wpAnyH_take (i := 2) (v := ?vr4_2) (Fr.take_at rfl) (by kernel_rfl) (by kernel_rfl) (by kernel_rfl) (fun _ _ _ h => h) (Or.inl ⟨by rfl, ?yr4_2⟩) (by assumption) ?nr4_2
      case yr4_2 => (intro w_ hSw; obtain ⟨⟨u0, u1, u2, u3⟩, u4, u5⟩ := hSw; go_simp; (try with_reducible rfl))
      try simp only [Act.put, List.setIfInBounds_toArray, List.set_cons_zero, List.set_cons_succ]
      refine wpAnyH_ready (rs := [3]) (by kernel_rfl) (by simp) ?_
      refine AllReadyH.cons (Fr.take_at rfl) (fun K hK => ?_) AllReadyH.nil
      go_simp
      refine hK.out _ _ (by ((with_reducible assumption))) (fun hHeld => ?_)
      clear hK K
      try simp only [Act.put, List.setIfInBounds_toArray, List.set_cons_zero, List.set_cons_succ]
      refine wpAnyH_ready (rs := [4]) (by kernel_rfl) (by simp) ?_
      refine AllReadyH.cons (Fr.take_at rfl) (fun K hK => ?_) AllReadyH.nil
      go_simp
      refine hK.out _ _ (by ((with_reducible assumption))) (fun hHeld => ?_)
      clear hK K
      try simp only [Act.put, List.setIfInBounds_toArray, List.set_cons_zero, List.set_cons_succ]
      refine wpAnyH_take (i := 5) (v := ?vr4_5) (Fr.take_at rfl) (by kernel_rfl) (by kernel_rfl) (by kernel_rfl) (fun _ _ _ h => h) (Or.inl ⟨by rfl, ?yr4_5⟩) (by assumption) ?nr4_5
      case yr4_5 => (intro w_ hSw; obtain ⟨⟨u0, u1, u2, u3⟩, u4, u5⟩ := hSw; go_simp; (try with_reducible rfl))
      try simp only [Act.put, List.setIfInBounds_toArray, List.set_cons_zero, List.set_cons_succ]
      refine wpAnyH_done (by kernel_rfl) ?_ _
      go_wp2
      have E1 := blk_drew HFN.out.e3.1
      have E2 := blk_drew HFN.out.e3.2
      have HE := HFN.out.b3.drewS
      have hmm := (st2_mod (st4_mod HMD.out (D := R) (.inr (.inr (.inl rfl))) (.slice A7 p.1.files.length c7) (.int .i64 (p.1.steps : Int)) (.bool p.1.armed) (.int .i64 (p.1.left : Int))) (S := S) (.inr (.inr (.inr rfl))) (.int .i64 (M : Int)) (.bool dd)).drew
      have HW := HR7.out.mod hmm (fun k hk hk2 => by
        have t1 := HNE.out
        have t2 := HS56.out
        rcases hk with hk | hk
        · have t3 := HTL.out k hk
          rcases hk2 with rfl | rfl | rfl | rfl <;> omega
        · have t4 := hk.1
          rcases hk2 with rfl | rfl | rfl | rfl <;> omega)
      unfold st2 st4 at E1 E2 HE HW
      have hpp := lput_new (l := l) hM HP.out HDD2.out
      rw [hpp]
      exact bodyPost_ret (results_c3 (by rfl) _ _ R S 35 42 _ _ (0, 0) (0, 0) _ _ _ (by rfl) (by rfl) (by rfl) E1 E2 Tryz.underlying35 (by rfl) (by kernel_rfl) Tryz.underlying42 (by rfl) (by kernel_rfl)) rfl ⟨_, _, rfl, HW, HE⟩
  · have k1 : 999999 < (M : Int) := by omega
    go_upto_region 13 with fail
    obtain ⟨⟨r0, r1, r2, r3⟩, q0, q1, q2, q3⟩ := HFN.out.r
    obtain ⟨⟨s0, s1⟩, t0, t1⟩ := HFN.out.s
    obtain ⟨⟨a0, a1⟩, b0, b1⟩ := HFN.out.s1
    unfold st4 at a0 a1 b0 b1
    clear y0 hF5
    have Ll0 := HFN.out.l0.drew
    have Ll1 := HFN.out.l1.drew
    have Ll3 := HFN.out.l3.drew
    unfold st4 at Ll1
    unfold st2 st4 at Ll3
    refine wp_region_held_drew (S := (RaL D G (.slice A0 N c0) (.int .i64 (st.steps : Int)) (.bool st.armed) (.int .i64 (st.left : Int)) (.int .i64 (M : Int)) (.bool false))) (by kernel_rfl) (by ((with_reducible assumption))) (fun hHeld => ?_)
    refine wpAnyH_take (i := 0) (v := ?vr5_0) (Fr.take_at rfl) (by kernel_rfl) (by kernel_rfl) (by kernel_rfl) (fun _ _ _ h => h) (Or.inl ⟨by rfl, ?yr5_0⟩) (by assumption) ?nr5_0
    case yr5_0 => (intro w_ hSw; obtain ⟨⟨u0, u1, u2, u3⟩, u4, u5⟩ := hSw; go_simp; (try with_reducible rfl))
    try simp only [Act.put, List.setIfInBounds_toArray, List.set_cons_zero, List.set_cons_succ]
    refine wpAnyH_take (i := 1) (v := ?vr5_1) (Fr.take_at rfl) (by kernel_rfl) (by kernel_rfl) (by kernel_rfl) (fun _ _ _ h => h) (Or.inl ⟨by rfl, ?yr5_1⟩) (by assumption) ?nr5_1
    case yr5_1 => (intro w_ hSw; obtain ⟨⟨u0, u1, u2, u3⟩, u4, u5⟩ := hSw; go_simp; (try with_reducible rfl))
    try simp only [Act.put, List.setIfInBounds_toArray, List.set_cons_zero, List.set_cons_succ]
    refine wpAnyH_ready (rs := [2]) (by kernel_rfl) (by simp) ?_
    refine AllReadyH.cons (Fr.take_at rfl) (fun K hK => ?_) AllReadyH.nil
    go_simp
    refine hK.out _ _ (by ((with_reducible assumption))) (fun hHeld => ?_)
    clear hK K
    try simp only [Act.put, List.setIfInBounds_toArray, List.set_cons_zero, List.set_cons_succ]
    refine wpAnyH_ready (rs := [3]) (by kernel_rfl) (by simp) ?_
    refine AllReadyH.cons (Fr.take_at rfl) (fun K hK => ?_) AllReadyH.nil
    go_simp
    refine hK.out _ _ (by ((with_reducible assumption))) (fun hHeld => ?_)
    clear hK K
    try simp only [Act.put, List.setIfInBounds_toArray, List.set_cons_zero, List.set_cons_succ]
    refine wpAnyH_take (i := 4) (v := ?vr5_4) (Fr.take_at rfl) (by kernel_rfl) (by kernel_rfl) (by kernel_rfl) (fun _ _ _ h => h) (Or.inl ⟨by rfl, ?yr5_4⟩) (by assumption) ?nr5_4
    case yr5_4 => (intro w_ hSw; obtain ⟨⟨u0, u1, u2, u3⟩, u4, u5⟩ := hSw; go_simp; (try with_reducible rfl))
    try simp only [Act.put, List.setIfInBounds_toArray, List.set_cons_zero, List.set_cons_succ]
    refine wpAnyH_done (by kernel_rfl) ?_ _
    go_wp2
    have E1 := blk_drew HFN.out.e3.1
    have E2 := blk_drew HFN.out.e3.2
    have HE := HFN.out.b3.drewS
    have HW := HRW.out _ (HE)
    unfold st2 st4 at E1 E2 HE HW
    have hp : lput (M : Int) false st l = (((M : Int), false, st), 5) := by unfold lput; rw [if_pos k1]
    rw [hp]
    exact bodyPost_ret (results_c3 (by rfl) _ _ R S 35 42 _ _ (0, 0) (0, 0) _ _ _ (by rfl) (by rfl) (by rfl) E1 E2 Tryz.underlying35 (by rfl) (by kernel_rfl) Tryz.underlying42 (by rfl) (by kernel_rfl)) rfl ⟨_, T, rfl, HW, HE⟩
end
end Wl
end Go.Proofs.YtbfmjonabndhaaaGreatDoor
