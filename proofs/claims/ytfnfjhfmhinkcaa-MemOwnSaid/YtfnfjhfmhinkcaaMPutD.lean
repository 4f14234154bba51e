/-
  WHAT IS PROVED: what Put does when a node follows, of the same key and number. CONDITIONS: the table and its nodes stand in memory as named.
-/
import Derived.Test.YtfnfjhfmhinkcaaMPutC
namespace Go.Proofs.Ytfnfjhfmhinkcaa
open Go Go.RowKit Go.Maps Go.Sort Go.Proofs.Ytfnfjhfmhinkcaa.Fr
namespace Mm

section
variable {w0 w w1 w2 w3 : World} {T : Nat} {ns : List Nd} {byt : Int} {P : Array Value} {t : TypeId}
set_option maxHeartbeats 6400000 in
set_option maxRecDepth 100000 in
theorem put_twice {m : Nd} {r : List Nd} (h : Tb w0 w T ns byt) (e : En) (hgt : Int) (hz : entryErr e = 0) (hpo : post ns e.k e.seq = m :: r) (hk : m.e.k = e.k ∧ m.e.seq = e.seq) :
    Calls Try.prog 16 #[.pointer (some ⟨T, 0, none⟩), .agg #[.string e.key, .int .i64 e.seq, .bool e.del, .string e.val], .int .i64 hgt] w fun x w' => x = .returned (.int .i64 2) ∧ Below w.heap.size w w' := by
  have hb1 : Below w.heap.size w (w.alloc (.cells #[.string e.key, .int .i64 e.seq, .bool e.del, .string e.val] 30)) := (Below.refl _ _).alloc (Nat.le_refl _) _
  have hE := check_any (w.alloc (.cells #[.string e.key, .int .i64 e.seq, .bool e.del, .string e.val] 30)) e
  rw [hz] at hE
  have HE := Lib.hid hE
  have hblk : Blk (w.alloc (.cells #[.string e.key, .int .i64 e.seq, .bool e.del, .string e.val] 30)) w.heap.size 30 #[.string e.key, .int .i64 e.seq, .bool e.del, .string e.val] := Blk.new _ _ _
  have HBK := Lib.hid (fun (W : World) (hW : Below (w.alloc (.cells #[.string e.key, .int .i64 e.seq, .bool e.del, .string e.val] 30)).heap.size (w.alloc (.cells #[.string e.key, .int .i64 e.seq, .bool e.del, .string e.val] 30)) W) => hblk.same (w' := W) (hW.block _ hblk.lt))
  have HW1 := Lib.hid hb1
  have HTB := Lib.hid h
  have HNX := Lib.hid (fun (W : World) (hW : Below w.heap.size w W) => (h.rep.below hW).afterPred (pre_post ns e.k e.seq).symm (l := 0) (by omega))
  have hgood : Good (post ns e.k e.seq) := fun n hn => h.good n ((List.dropWhile_sublist _).subset hn)
  rw [nextAt_zero hgood] at HNX
  have HPT := Lib.hid (fun (W : World) (hW : Below w.heap.size w W) => path_lit (h.rep.below hW) e.key e.seq)
  obtain ⟨p, hp⟩ : ∃ p, p = pre ns e.key.toList e.seq := ⟨_, rfl⟩
  have hp' : pre ns e.k e.seq = p := hp.symm
  rw [← hp] at HPT
  rw [hp'] at HNX
  obtain ⟨p0, hp0⟩ : ∃ q, q = predAt T p 0 := ⟨_, rfl⟩
  obtain ⟨p1, hp1⟩ : ∃ q, q = predAt T p 1 := ⟨_, rfl⟩
  obtain ⟨p2, hp2⟩ : ∃ q, q = predAt T p 2 := ⟨_, rfl⟩
  obtain ⟨p3, hp3⟩ : ∃ q, q = predAt T p 3 := ⟨_, rfl⟩
  obtain ⟨p4, hp4⟩ : ∃ q, q = predAt T p 4 := ⟨_, rfl⟩
  obtain ⟨p5, hp5⟩ : ∃ q, q = predAt T p 5 := ⟨_, rfl⟩
  obtain ⟨p6, hp6⟩ : ∃ q, q = predAt T p 6 := ⟨_, rfl⟩
  obtain ⟨p7, hp7⟩ : ∃ q, q = predAt T p 7 := ⟨_, rfl⟩
  obtain ⟨p8, hp8⟩ : ∃ q, q = predAt T p 8 := ⟨_, rfl⟩
  obtain ⟨p9, hp9⟩ : ∃ q, q = predAt T p 9 := ⟨_, rfl⟩
  obtain ⟨p10, hp10⟩ : ∃ q, q = predAt T p 10 := ⟨_, rfl⟩
  obtain ⟨p11, hp11⟩ : ∃ q, q = predAt T p 11 := ⟨_, rfl⟩
  have HPL := Lib.hid (show ∀ l, l < 12 → (#[.pointer (some ⟨p0, 0, none⟩), .pointer (some ⟨p1, 0, none⟩), .pointer (some ⟨p2, 0, none⟩), .pointer (some ⟨p3, 0, none⟩), .pointer (some ⟨p4, 0, none⟩), .pointer (some ⟨p5, 0, none⟩), .pointer (some ⟨p6, 0, none⟩), .pointer (some ⟨p7, 0, none⟩), .pointer (some ⟨p8, 0, none⟩), .pointer (some ⟨p9, 0, none⟩), .pointer (some ⟨p10, 0, none⟩), .pointer (some ⟨p11, 0, none⟩)] : Array Value)[l]? = some (.pointer (some ⟨predAt T p l, 0, none⟩)) from by
    intro l hl
    match l, hl with
    | 0, _ => rw [← hp0]; rfl
    | 1, _ => rw [← hp1]; rfl
    | 2, _ => rw [← hp2]; rfl
    | 3, _ => rw [← hp3]; rfl
    | 4, _ => rw [← hp4]; rfl
    | 5, _ => rw [← hp5]; rfl
    | 6, _ => rw [← hp6]; rfl
    | 7, _ => rw [← hp7]; rfl
    | 8, _ => rw [← hp8]; rfl
    | 9, _ => rw [← hp9]; rfl
    | 10, _ => rw [← hp10]; rfl
    | 11, _ => rw [← hp11]; rfl
    )
  rw [← hp0, ← hp1, ← hp2, ← hp3, ← hp4, ← hp5, ← hp6, ← hp7, ← hp8, ← hp9, ← hp10, ← hp11] at HPT
  rw [← hp0] at HNX
  have HP := Lib.hid hp'
  have HNY := Lib.hid (fun (W : World) (hW : Below w.heap.size w W) => (show W.cell? ⟨p0, 5, none⟩ = some (.pointer (some ⟨m.blk, 0, none⟩)) from by have := HNX.out W hW; rw [hpo] at this; exact this))
  have HM := Lib.hid (fun (W : World) (hW : Below w.heap.size w W) => (show W.cell? ⟨m.blk, 0, none⟩ = some (.string m.e.key) ∧ W.cell? ⟨m.blk, 1, none⟩ = some (.int .i64 m.e.seq) ∧ W.cell? ⟨m.blk, 2, none⟩ = some (.bool m.e.del) ∧ W.cell? ⟨m.blk, 3, none⟩ = some (.string m.e.val) from by
    have hc := (h.rep.below hW).chain
    rw [← pre_post ns e.k e.seq, hpo] at hc
    obtain ⟨cs, hx⟩ := Chain.at_ hc
    exact ⟨(hx.blk.cell 0).trans hx.c0, (hx.blk.cell 1).trans hx.c1, (hx.blk.cell 2).trans hx.c2, (hx.blk.cell 3).trans hx.c3⟩))
  have hcmp := fun W => compare_any W m.e e
  have hceq := cmpE_eq m.e e
  obtain ⟨z, hz9⟩ : ∃ z, z = cmpE m.e e := ⟨_, rfl⟩
  rw [← hz9] at hcmp hceq
  have HC := Lib.hid hcmp
  have hz8 : (z == 0) = true := by simpa using hceq.2 hk
  clear hk
  clear hcmp hceq hz9 hE hz hblk hb1 hgood hp hp' hp0 hp1 hp2 hp3 hp4 hp5 hp6 hp7 hp8 hp9 hp10 hp11
  go_enter Try.func16, Try.ntmps16
  go_upto_region 6 with (first
    | (go_at_call 22; refine HE.out.mono ?_; rintro x w2 ⟨rfl, hb2⟩; have hc2 := (cells4 (HBK.out w2 hb2)).1; obtain ⟨y0, y1, y2, y3⟩ := hc2; have HB2 := Lib.hid hb2; clear hb2)
    | (go_at_call 23; refine (HPT.out w2 (HW1.out.trans (HB2.out.mono HW1.out.size))).mono ?_; rintro x w3 ⟨rfl, hb3⟩; have hb4 := put_path (t := 50) (P := #[.pointer (some ⟨p0, 0, none⟩), .pointer (some ⟨p1, 0, none⟩), .pointer (some ⟨p2, 0, none⟩), .pointer (some ⟨p3, 0, none⟩), .pointer (some ⟨p4, 0, none⟩), .pointer (some ⟨p5, 0, none⟩), .pointer (some ⟨p6, 0, none⟩), .pointer (some ⟨p7, 0, none⟩), .pointer (some ⟨p8, 0, none⟩), .pointer (some ⟨p9, 0, none⟩), .pointer (some ⟨p10, 0, none⟩), .pointer (some ⟨p11, 0, none⟩)]) HW1.out HB2.out hb3; have q5 := HNY.out _ hb4; have HB4 := Lib.hid hb4; have HE4 := Lib.hid (HBK.out _ (put_path2 (t := 50) (P := #[.pointer (some ⟨p0, 0, none⟩), .pointer (some ⟨p1, 0, none⟩), .pointer (some ⟨p2, 0, none⟩), .pointer (some ⟨p3, 0, none⟩), .pointer (some ⟨p4, 0, none⟩), .pointer (some ⟨p5, 0, none⟩), .pointer (some ⟨p6, 0, none⟩), .pointer (some ⟨p7, 0, none⟩), .pointer (some ⟨p8, 0, none⟩), .pointer (some ⟨p9, 0, none⟩), .pointer (some ⟨p10, 0, none⟩), .pointer (some ⟨p11, 0, none⟩)]) HB2.out hb3)); clear hb3 hb4))
  obtain ⟨W4, hW4⟩ : ∃ W4, W4 = w3.alloc (.cells #[.pointer (some ⟨p0, 0, none⟩), .pointer (some ⟨p1, 0, none⟩), .pointer (some ⟨p2, 0, none⟩), .pointer (some ⟨p3, 0, none⟩), .pointer (some ⟨p4, 0, none⟩), .pointer (some ⟨p5, 0, none⟩), .pointer (some ⟨p6, 0, none⟩), .pointer (some ⟨p7, 0, none⟩), .pointer (some ⟨p8, 0, none⟩), .pointer (some ⟨p9, 0, none⟩), .pointer (some ⟨p10, 0, none⟩), .pointer (some ⟨p11, 0, none⟩)] 50) := ⟨_, rfl⟩
  have HB5 := Lib.hid (show Below w.heap.size w W4 by rw [hW4]; exact HB4.out)
  have HE5 := Lib.hid (show Blk W4 w.heap.size 30 #[.string e.key, .int .i64 e.seq, .bool e.del, .string e.val] by rw [hW4]; exact HE4.out)
  have HQ5 := Lib.hid (show Blk W4 w3.heap.size 50 #[.pointer (some ⟨p0, 0, none⟩), .pointer (some ⟨p1, 0, none⟩), .pointer (some ⟨p2, 0, none⟩), .pointer (some ⟨p3, 0, none⟩), .pointer (some ⟨p4, 0, none⟩), .pointer (some ⟨p5, 0, none⟩), .pointer (some ⟨p6, 0, none⟩), .pointer (some ⟨p7, 0, none⟩), .pointer (some ⟨p8, 0, none⟩), .pointer (some ⟨p9, 0, none⟩), .pointer (some ⟨p10, 0, none⟩), .pointer (some ⟨p11, 0, none⟩)] by rw [hW4]; exact Blk.new w3 _ _)
  have HR := Lib.hid (fun (W : World) (hW : Below W4.heap.size W4 W) => And.intro (HM.out W (HB5.out.trans (hW.mono HB5.out.size))) (cells4 (HE5.out.same (hW.block _ HE5.out.lt))).1)
  rw [← hW4]
  clear HB4 HE4 hW4 q5 y0 y1 y2 y3
  refine wp_region_held_drew (S := fun W => Below W4.heap.size W4 W) (by kernel_rfl) (by (first | (with_reducible assumption) | exact below_drewN (Below.refl _ _) 1 | exact below_drewN (by assumption) 1)) (fun hHeld => ?_)
  refine wpAnyH_take (i := 0) (v := ?vr1_0) (Fr.take_at rfl) (by kernel_rfl) (by kernel_rfl) (by kernel_rfl) (fun _ _ _ h => h) (Or.inl ⟨by rfl, ?yr1_0⟩) (by assumption) ?nr1_0
  case yr1_0 => (intro w_ hSw; obtain ⟨⟨q0, q1, q2, q3⟩, q4, q5, q6, q7⟩ := HR.out _ hSw; go_simp; (try with_reducible rfl))
  try simp only [Act.put, List.setIfInBounds_toArray, List.set_cons_zero, List.set_cons_succ]
  refine wpAnyH_take (i := 1) (v := ?vr1_1) (Fr.take_at rfl) (by kernel_rfl) (by kernel_rfl) (by kernel_rfl) (fun _ _ _ h => h) (Or.inl ⟨by rfl, ?yr1_1⟩) (by assumption) ?nr1_1
  case yr1_1 => (intro w_ hSw; obtain ⟨⟨q0, q1, q2, q3⟩, q4, q5, q6, q7⟩ := HR.out _ hSw; go_simp; (try with_reducible rfl))
  try simp only [Act.put, List.setIfInBounds_toArray, List.set_cons_zero, List.set_cons_succ]
  refine wpAnyH_take (i := 2) (v := ?vr1_2) (Fr.take_at rfl) (by kernel_rfl) (by kernel_rfl) (by kernel_rfl) (fun _ _ _ h => h) (Or.inl ⟨by rfl, ?yr1_2⟩) (by assumption) ?nr1_2
  case yr1_2 => (intro w_ hSw; obtain ⟨⟨q0, q1, q2, q3⟩, q4, q5, q6, q7⟩ := HR.out _ hSw; go_simp; (try with_reducible rfl))
  try simp only [Act.put, List.setIfInBounds_toArray, List.set_cons_zero, List.set_cons_succ]
  refine wpAnyH_take (i := 3) (v := ?vr1_3) (Fr.take_at rfl) (by kernel_rfl) (by kernel_rfl) (by kernel_rfl) (fun _ _ _ h => h) (Or.inl ⟨by rfl, ?yr1_3⟩) (by assumption) ?nr1_3
  case yr1_3 => (intro w_ hSw; obtain ⟨⟨q0, q1, q2, q3⟩, q4, q5, q6, q7⟩ := HR.out _ hSw; go_simp; (try with_reducible rfl))
  try simp only [Act.put, List.setIfInBounds_toArray, List.set_cons_zero, List.set_cons_succ]
  refine wpAnyH_take (i := 4) (v := ?vr1_4) (Fr.take_at rfl) (by kernel_rfl) (by kernel_rfl) (by kernel_rfl) (fun _ _ _ h => h) (Or.inl ⟨by rfl, ?yr1_4⟩) (by assumption) ?nr1_4
  case yr1_4 => (intro w_ hSw; obtain ⟨⟨q0, q1, q2, q3⟩, q4, q5, q6, q7⟩ := HR.out _ hSw; go_simp; (try with_reducible rfl))
  try simp only [Act.put, List.setIfInBounds_toArray, List.set_cons_zero, List.set_cons_succ]
  refine wpAnyH_take (i := 5) (v := ?vr1_5) (Fr.take_at rfl) (by kernel_rfl) (by kernel_rfl) (by kernel_rfl) (fun _ _ _ h => h) (Or.inl ⟨by rfl, ?yr1_5⟩) (by assumption) ?nr1_5
  case yr1_5 => (intro w_ hSw; obtain ⟨⟨q0, q1, q2, q3⟩, q4, q5, q6, q7⟩ := HR.out _ hSw; go_simp; (try with_reducible rfl))
  try simp only [Act.put, List.setIfInBounds_toArray, List.set_cons_zero, List.set_cons_succ]
  refine wpAnyH_take (i := 6) (v := ?vr1_6) (Fr.take_at rfl) (by kernel_rfl) (by kernel_rfl) (by kernel_rfl) (fun _ _ _ h => h) (Or.inl ⟨by rfl, ?yr1_6⟩) (by assumption) ?nr1_6
  case yr1_6 => (intro w_ hSw; obtain ⟨⟨q0, q1, q2, q3⟩, q4, q5, q6, q7⟩ := HR.out _ hSw; go_simp; (try with_reducible rfl))
  try simp only [Act.put, List.setIfInBounds_toArray, List.set_cons_zero, List.set_cons_succ]
  refine wpAnyH_take (i := 7) (v := ?vr1_7) (Fr.take_at rfl) (by kernel_rfl) (by kernel_rfl) (by kernel_rfl) (fun _ _ _ h => h) (Or.inl ⟨by rfl, ?yr1_7⟩) (by assumption) ?nr1_7
  case yr1_7 => (intro w_ hSw; obtain ⟨⟨q0, q1, q2, q3⟩, q4, q5, q6, q7⟩ := HR.out _ hSw; go_simp; (try with_reducible rfl))
  try simp only [Act.put, List.setIfInBounds_toArray, List.set_cons_zero, List.set_cons_succ]
  refine wpAnyH_ready (rs := [8]) (by kernel_rfl) (by simp) ?_
  refine AllReadyH.cons (Fr.take_at rfl) (fun K hK => ?_) AllReadyH.nil
  go_simp
  (go_at_call 24; refine (HC.out _).mono ?_; rintro x w6 ⟨rfl, hb6⟩; have hb7 : Below W4.heap.size W4 w6 := (by assumption : Below W4.heap.size W4 _).trans (hb6.mono (Below.size (by assumption))))
  try go_wp2_with fail
  refine hK.out _ _ (by (first | (with_reducible assumption) | exact below_drewN (Below.refl _ _) 1 | exact below_drewN (by assumption) 1)) (fun hHeld => ?_)
  clear hK K
  try simp only [Act.put, List.setIfInBounds_toArray, List.set_cons_zero, List.set_cons_succ]
  refine wpAnyH_take (i := 9) (v := ?vr1_9) (Fr.take_at rfl) (by kernel_rfl) (by kernel_rfl) (by kernel_rfl) (fun _ _ _ h => h) (Or.inl ⟨by rfl, ?yr1_9⟩) (by assumption) ?nr1_9
  case yr1_9 => (intro w_ hSw; obtain ⟨⟨q0, q1, q2, q3⟩, q4, q5, q6, q7⟩ := HR.out _ hSw; go_simp; (try with_reducible rfl))
  try simp only [Act.put, List.setIfInBounds_toArray, List.set_cons_zero, List.set_cons_succ]
  refine wpAnyH_take (i := 10) (v := ?vr1_10) (Fr.take_at rfl) (by kernel_rfl) (by kernel_rfl) (by kernel_rfl) (fun _ _ _ h => h) (Or.inl ⟨by rfl, ?yr1_10⟩) (by assumption) ?nr1_10
  case yr1_10 => (intro w_ hSw; obtain ⟨⟨q0, q1, q2, q3⟩, q4, q5, q6, q7⟩ := HR.out _ hSw; go_simp; (try with_reducible rfl))
  try simp only [Act.put, List.setIfInBounds_toArray, List.set_cons_zero, List.set_cons_succ]
  refine wpAnyH_done (by kernel_rfl) ?_ _
  have HB6 := Lib.hid (HB5.out.trans (hHeld.mono HB5.out.size))
  have HE6 := Lib.hid (HE5.out.same (hHeld.block _ HE5.out.lt))
  have HQ6 := Lib.hid (HQ5.out.same (hHeld.block _ HQ5.out.lt))
  clear hHeld HB5 HE5 HQ5 HR
  go_wp2
  go_ret
  exact ⟨rfl, HB6.out⟩
end

end Mm
end Go.Proofs.Ytfnfjhfmhinkcaa
