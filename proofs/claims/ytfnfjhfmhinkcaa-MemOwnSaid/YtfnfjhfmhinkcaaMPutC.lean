/-
  WHAT IS PROVED: what Put does when a node follows, of another key or number. CONDITIONS: the table and its nodes stand in memory as named.
-/
import Derived.Test.YtfnfjhfmhinkcaaMPutB
namespace Go.Proofs.Ytfnfjhfmhinkcaa
open Go Go.RowKit Go.Maps Go.Sort Go.Proofs.Ytfnfjhfmhinkcaa.Fr
namespace Mm

section
variable {w0 w w1 w2 w3 : World} {T : Nat} {ns : List Nd} {byt : Int} {P : Array Value} {t : TypeId}
theorem ltot (a b : List UInt8) (h : ¬ a < b) (hne : a ≠ b) : b < a := by
  rcases Std.lt_trichotomy a b with h1 | h1 | h1
  · exact absurd h1 h
  · exact absurd h1 hne
  · exact h1
theorem bef_turn {a b : En} (h : ¬ bef a b.k b.seq) (hne : a.k ≠ b.k ∨ a.seq ≠ b.seq) : bef b a.k a.seq := by
  unfold bef at h ⊢
  by_cases hk : a.k = b.k
  · refine .inr ⟨hk.symm, ?_⟩
    have h1 : ¬ b.seq < a.seq := fun h2 => h (.inr ⟨hk, h2⟩)
    rcases hne with h2 | h2
    · exact absurd hk h2
    · omega
  · exact .inl (ltot _ _ (fun h1 => h (.inl h1)) hk)
theorem post_head {k : List UInt8} {q : Int} {m : Nd} {r : List Nd} (h : post ns k q = m :: r) : ¬ bef m.e k q := by
  unfold post at h
  intro hb
  have := List.head_dropWhile_not (p := fun n : Nd => decide (bef n.e k q)) (l := ns) (by rw [h]; simp)
  simp only [h, List.head_cons] at this
  simp [hb] at this
set_option maxHeartbeats 6400000 in
set_option maxRecDepth 100000 in
theorem put_other {m : Nd} {r : List Nd} (h : Tb w0 w T ns byt) (e : En) (hgt : Int) (hn : (ns.length : Int) < 1000000000) (hz : entryErr e = 0) (hpo : post ns e.k e.seq = m :: r) (hk : ¬ (m.e.k = e.k ∧ m.e.seq = e.seq)) :
    Calls Try.prog 16 #[.pointer (some ⟨T, 0, none⟩), .agg #[.string e.key, .int .i64 e.seq, .bool e.del, .string e.val], .int .i64 hgt] w (PutRet w0 w T ns byt e) := by
  have hb1 : Below w.heap.size w (w.alloc (.cells #[.string e.key, .int .i64 e.seq, .bool e.del, .string e.val] 30)) := (Below.refl _ _).alloc (Nat.le_refl _) _
  have hE := check_any (w.alloc (.cells #[.string e.key, .int .i64 e.seq, .bool e.del, .string e.val] 30)) e
  rw [hz] at hE
  have HE := Lib.hid hE
  have hb0 := h.b0
  have hb9 := h.b1
  obtain ⟨hk64, hv1024⟩ := entry_sizes hz
  have hblk : Blk (w.alloc (.cells #[.string e.key, .int .i64 e.seq, .bool e.del, .string e.val] 30)) w.heap.size 30 #[.string e.key, .int .i64 e.seq, .bool e.del, .string e.val] := Blk.new _ _ _
  have HBK := Lib.hid (fun (W : World) (hW : Below (w.alloc (.cells #[.string e.key, .int .i64 e.seq, .bool e.del, .string e.val] 30)).heap.size (w.alloc (.cells #[.string e.key, .int .i64 e.seq, .bool e.del, .string e.val] 30)) W) => hblk.same (w' := W) (hW.block _ hblk.lt))
  have HW1 := Lib.hid hb1
  have HTB := Lib.hid h
  have HNX := Lib.hid (fun (W : World) (hW : Below w.heap.size w W) => (h.rep.below hW).afterPred (pre_post ns e.k e.seq).symm (l := 0) (by omega))
  have hgood : Good (post ns e.k e.seq) := fun n hn => h.good n ((List.dropWhile_sublist _).subset hn)
  rw [nextAt_zero hgood] at HNX
  have HPT := Lib.hid (fun (W : World) (hW : Below w.heap.size w W) => path_lit (h.rep.below hW) e.key e.seq)
  obtain ⟨p, hp⟩ : ∃ p, p = pre ns e.key.toList e.seq := ⟨_, rfl⟩
  have hp' : pre ns e.k e.seq = p := hp.symm
  rw [← hp] at HPT
  rw [hp'] at HNX
  obtain ⟨p0, hp0⟩ : ∃ q, q = predAt T p 0 := ⟨_, rfl⟩
  obtain ⟨p1, hp1⟩ : ∃ q, q = predAt T p 1 := ⟨_, rfl⟩
  obtain ⟨p2, hp2⟩ : ∃ q, q = predAt T p 2 := ⟨_, rfl⟩
  obtain ⟨p3, hp3⟩ : ∃ q, q = predAt T p 3 := ⟨_, rfl⟩
  obtain ⟨p4, hp4⟩ : ∃ q, q = predAt T p 4 := ⟨_, rfl⟩
  obtain ⟨p5, hp5⟩ : ∃ q, q = predAt T p 5 := ⟨_, rfl⟩
  obtain ⟨p6, hp6⟩ : ∃ q, q = predAt T p 6 := ⟨_, rfl⟩
  obtain ⟨p7, hp7⟩ : ∃ q, q = predAt T p 7 := ⟨_, rfl⟩
  obtain ⟨p8, hp8⟩ : ∃ q, q = predAt T p 8 := ⟨_, rfl⟩
  obtain ⟨p9, hp9⟩ : ∃ q, q = predAt T p 9 := ⟨_, rfl⟩
  obtain ⟨p10, hp10⟩ : ∃ q, q = predAt T p 10 := ⟨_, rfl⟩
  obtain ⟨p11, hp11⟩ : ∃ q, q = predAt T p 11 := ⟨_, rfl⟩
  have HPL := Lib.hid (show ∀ l, l < 12 → (#[.pointer (some ⟨p0, 0, none⟩), .pointer (some ⟨p1, 0, none⟩), .pointer (some ⟨p2, 0, none⟩), .pointer (some ⟨p3, 0, none⟩), .pointer (some ⟨p4, 0, none⟩), .pointer (some ⟨p5, 0, none⟩), .pointer (some ⟨p6, 0, none⟩), .pointer (some ⟨p7, 0, none⟩), .pointer (some ⟨p8, 0, none⟩), .pointer (some ⟨p9, 0, none⟩), .pointer (some ⟨p10, 0, none⟩), .pointer (some ⟨p11, 0, none⟩)] : Array Value)[l]? = some (.pointer (some ⟨predAt T p l, 0, none⟩)) from by
    intro l hl
    match l, hl with
    | 0, _ => rw [← hp0]; rfl
    | 1, _ => rw [← hp1]; rfl
    | 2, _ => rw [← hp2]; rfl
    | 3, _ => rw [← hp3]; rfl
    | 4, _ => rw [← hp4]; rfl
    | 5, _ => rw [← hp5]; rfl
    | 6, _ => rw [← hp6]; rfl
    | 7, _ => rw [← hp7]; rfl
    | 8, _ => rw [← hp8]; rfl
    | 9, _ => rw [← hp9]; rfl
    | 10, _ => rw [← hp10]; rfl
    | 11, _ => rw [← hp11]; rfl
    )
  rw [← hp0, ← hp1, ← hp2, ← hp3, ← hp4, ← hp5, ← hp6, ← hp7, ← hp8, ← hp9, ← hp10, ← hp11] at HPT
  rw [← hp0] at HNX
  have HP := Lib.hid hp'
  have HNY := Lib.hid (fun (W : World) (hW : Below w.heap.size w W) => (show W.cell? ⟨p0, 5, none⟩ = some (.pointer (some ⟨m.blk, 0, none⟩)) from by have := HNX.out W hW; rw [hpo] at this; exact this))
  have HM := Lib.hid (fun (W : World) (hW : Below w.heap.size w W) => (show W.cell? ⟨m.blk, 0, none⟩ = some (.string m.e.key) ∧ W.cell? ⟨m.blk, 1, none⟩ = some (.int .i64 m.e.seq) ∧ W.cell? ⟨m.blk, 2, none⟩ = some (.bool m.e.del) ∧ W.cell? ⟨m.blk, 3, none⟩ = some (.string m.e.val) from by
    have hc := (h.rep.below hW).chain
    rw [← pre_post ns e.k e.seq, hpo] at hc
    obtain ⟨cs, hx⟩ := Chain.at_ hc
    exact ⟨(hx.blk.cell 0).trans hx.c0, (hx.blk.cell 1).trans hx.c1, (hx.blk.cell 2).trans hx.c2, (hx.blk.cell 3).trans hx.c3⟩))
  have hnb := post_head hpo
  have hcmp := fun W => compare_any W m.e e
  have hceq := cmpE_eq m.e e
  obtain ⟨z, hz9⟩ : ∃ z, z = cmpE m.e e := ⟨_, rfl⟩
  rw [← hz9] at hcmp hceq
  have HC := Lib.hid hcmp
  have hz8 : (z == 0) = false := by simpa using fun e2 => hk (hceq.1 e2)
  have HNO := Lib.hid (show ∀ m r, post ns e.k e.seq = m :: r → bef e m.e.k m.e.seq from fun m' r' h2 => by rw [hpo] at h2; cases h2; exact bef_turn hnb (Decidable.not_and_iff_not_or_not.1 hk))
  clear hcmp hceq hz9 hE hz hblk hb1 hgood hnb hp hp' hp0 hp1 hp2 hp3 hp4 hp5 hp6 hp7 hp8 hp9 hp10 hp11
  obtain ⟨H, hH1, hH2, hH⟩ : ∃ H : Nat, 1 ≤ H ∧ H ≤ 12 ∧ min (max hgt 1) 12 = (H : Int) := ⟨(min (max hgt 1) 12).toNat, by omega, by omega, by omega⟩
  go_enter Try.func16, Try.ntmps16
  go_upto_region 6 with (first
    | (go_at_call 22; refine HE.out.mono ?_; rintro x w2 ⟨rfl, hb2⟩; have hc2 := (cells4 (HBK.out w2 hb2)).1; obtain ⟨y0, y1, y2, y3⟩ := hc2; have HB2 := Lib.hid hb2; clear hb2)
    | (go_at_call 23; refine (HPT.out w2 (HW1.out.trans (HB2.out.mono HW1.out.size))).mono ?_; rintro x w3 ⟨rfl, hb3⟩; have hb4 := put_path (t := 50) (P := #[.pointer (some ⟨p0, 0, none⟩), .pointer (some ⟨p1, 0, none⟩), .pointer (some ⟨p2, 0, none⟩), .pointer (some ⟨p3, 0, none⟩), .pointer (some ⟨p4, 0, none⟩), .pointer (some ⟨p5, 0, none⟩), .pointer (some ⟨p6, 0, none⟩), .pointer (some ⟨p7, 0, none⟩), .pointer (some ⟨p8, 0, none⟩), .pointer (some ⟨p9, 0, none⟩), .pointer (some ⟨p10, 0, none⟩), .pointer (some ⟨p11, 0, none⟩)]) HW1.out HB2.out hb3; have q5 := HNY.out _ hb4; have HB4 := Lib.hid hb4; have HE4 := Lib.hid (HBK.out _ (put_path2 (t := 50) (P := #[.pointer (some ⟨p0, 0, none⟩), .pointer (some ⟨p1, 0, none⟩), .pointer (some ⟨p2, 0, none⟩), .pointer (some ⟨p3, 0, none⟩), .pointer (some ⟨p4, 0, none⟩), .pointer (some ⟨p5, 0, none⟩), .pointer (some ⟨p6, 0, none⟩), .pointer (some ⟨p7, 0, none⟩), .pointer (some ⟨p8, 0, none⟩), .pointer (some ⟨p9, 0, none⟩), .pointer (some ⟨p10, 0, none⟩), .pointer (some ⟨p11, 0, none⟩)]) HB2.out hb3)); clear hb3 hb4))
  obtain ⟨W4, hW4⟩ : ∃ W4, W4 = w3.alloc (.cells #[.pointer (some ⟨p0, 0, none⟩), .pointer (some ⟨p1, 0, none⟩), .pointer (some ⟨p2, 0, none⟩), .pointer (some ⟨p3, 0, none⟩), .pointer (some ⟨p4, 0, none⟩), .pointer (some ⟨p5, 0, none⟩), .pointer (some ⟨p6, 0, none⟩), .pointer (some ⟨p7, 0, none⟩), .pointer (some ⟨p8, 0, none⟩), .pointer (some ⟨p9, 0, none⟩), .pointer (some ⟨p10, 0, none⟩), .pointer (some ⟨p11, 0, none⟩)] 50) := ⟨_, rfl⟩
  have HB5 := Lib.hid (show Below w.heap.size w W4 by rw [hW4]; exact HB4.out)
  have HE5 := Lib.hid (show Blk W4 w.heap.size 30 #[.string e.key, .int .i64 e.seq, .bool e.del, .string e.val] by rw [hW4]; exact HE4.out)
  have HQ5 := Lib.hid (show Blk W4 w3.heap.size 50 #[.pointer (some ⟨p0, 0, none⟩), .pointer (some ⟨p1, 0, none⟩), .pointer (some ⟨p2, 0, none⟩), .pointer (some ⟨p3, 0, none⟩), .pointer (some ⟨p4, 0, none⟩), .pointer (some ⟨p5, 0, none⟩), .pointer (some ⟨p6, 0, none⟩), .pointer (some ⟨p7, 0, none⟩), .pointer (some ⟨p8, 0, none⟩), .pointer (some ⟨p9, 0, none⟩), .pointer (some ⟨p10, 0, none⟩), .pointer (some ⟨p11, 0, none⟩)] by rw [hW4]; exact Blk.new w3 _ _)
  have HR := Lib.hid (fun (W : World) (hW : Below W4.heap.size W4 W) => And.intro (HM.out W (HB5.out.trans (hW.mono HB5.out.size))) (cells4 (HE5.out.same (hW.block _ HE5.out.lt))).1)
  rw [← hW4]
  clear HB4 HE4 hW4 q5 y0 y1 y2 y3
  refine wp_region_held_drew (S := fun W => Below W4.heap.size W4 W) (by kernel_rfl) (by (first | (with_reducible assumption) | exact below_drewN (Below.refl _ _) 1 | exact below_drewN (by assumption) 1)) (fun hHeld => ?_)
  refine wpAnyH_take (i := 0) (v := ?vr1_0) (Fr.take_at rfl) (by kernel_rfl) (by kernel_rfl) (by kernel_rfl) (fun _ _ _ h => h) (Or.inl ⟨by rfl, ?yr1_0⟩) (by assumption) ?nr1_0
  case yr1_0 => (intro w_ hSw; obtain ⟨⟨q0, q1, q2, q3⟩, q4, q5, q6, q7⟩ := HR.out _ hSw; go_simp; (try with_reducible rfl))
  try simp only [Act.put, List.setIfInBounds_toArray, List.set_cons_zero, List.set_cons_succ]
  refine wpAnyH_take (i := 1) (v := ?vr1_1) (Fr.take_at rfl) (by kernel_rfl) (by kernel_rfl) (by kernel_rfl) (fun _ _ _ h => h) (Or.inl ⟨by rfl, ?yr1_1⟩) (by assumption) ?nr1_1
  case yr1_1 => (intro w_ hSw; obtain ⟨⟨q0, q1, q2, q3⟩, q4, q5, q6, q7⟩ := HR.out _ hSw; go_simp; (try with_reducible rfl))
  try simp only [Act.put, List.setIfInBounds_toArray, List.set_cons_zero, List.set_cons_succ]
  refine wpAnyH_take (i := 2) (v := ?vr1_2) (Fr.take_at rfl) (by kernel_rfl) (by kernel_rfl) (by kernel_rfl) (fun _ _ _ h => h) (Or.inl ⟨by rfl, ?yr1_2⟩) (by assumption) ?nr1_2
  case yr1_2 => (intro w_ hSw; obtain ⟨⟨q0, q1, q2, q3⟩, q4, q5, q6, q7⟩ := HR.out _ hSw; go_simp; (try with_reducible rfl))
  try simp only [Act.put, List.setIfInBounds_toArray, List.set_cons_zero, List.set_cons_succ]
  refine wpAnyH_take (i := 3) (v := ?vr1_3) (Fr.take_at rfl) (by kernel_rfl) (by kernel_rfl) (by kernel_rfl) (fun _ _ _ h => h) (Or.inl ⟨by rfl, ?yr1_3⟩) (by assumption) ?nr1_3
  case yr1_3 => (intro w_ hSw; obtain ⟨⟨q0, q1, q2, q3⟩, q4, q5, q6, q7⟩ := HR.out _ hSw; go_simp; (try with_reducible rfl))
  try simp only [Act.put, List.setIfInBounds_toArray, List.set_cons_zero, List.set_cons_succ]
  refine wpAnyH_take (i := 4) (v := ?vr1_4) (Fr.take_at rfl) (by kernel_rfl) (by kernel_rfl) (by kernel_rfl) (fun _ _ _ h => h) (Or.inl ⟨by rfl, ?yr1_4⟩) (by assumption) ?nr1_4
  case yr1_4 => (intro w_ hSw; obtain ⟨⟨q0, q1, q2, q3⟩, q4, q5, q6, q7⟩ := HR.out _ hSw; go_simp; (try with_reducible rfl))
  try simp only [Act.put, List.setIfInBounds_toArray, List.set_cons_zero, List.set_cons_succ]
  refine wpAnyH_take (i := 5) (v := ?vr1_5) (Fr.take_at rfl) (by kernel_rfl) (by kernel_rfl) (by kernel_rfl) (fun _ _ _ h => h) (Or.inl ⟨by rfl, ?yr1_5⟩) (by assumption) ?nr1_5
  case yr1_5 => (intro w_ hSw; obtain ⟨⟨q0, q1, q2, q3⟩, q4, q5, q6, q7⟩ := HR.out _ hSw; go_simp; (try with_reducible rfl))
  try simp only [Act.put, List.setIfInBounds_toArray, List.set_cons_zero, List.set_cons_succ]
  refine wpAnyH_take (i := 6) (v := ?vr1_6) (Fr.take_at rfl) (by kernel_rfl) (by kernel_rfl) (by kernel_rfl) (fun _ _ _ h => h) (Or.inl ⟨by rfl, ?yr1_6⟩) (by assumption) ?nr1_6
  case yr1_6 => (intro w_ hSw; obtain ⟨⟨q0, q1, q2, q3⟩, q4, q5, q6, q7⟩ := HR.out _ hSw; go_simp; (try with_reducible rfl))
  try simp only [Act.put, List.setIfInBounds_toArray, List.set_cons_zero, List.set_cons_succ]
  refine wpAnyH_take (i := 7) (v := ?vr1_7) (Fr.take_at rfl) (by kernel_rfl) (by kernel_rfl) (by kernel_rfl) (fun _ _ _ h => h) (Or.inl ⟨by rfl, ?yr1_7⟩) (by assumption) ?nr1_7
  case yr1_7 => (intro w_ hSw; obtain ⟨⟨q0, q1, q2, q3⟩, q4, q5, q6, q7⟩ := HR.out _ hSw; go_simp; (try with_reducible rfl))
  try simp only [Act.put, List.setIfInBounds_toArray, List.set_cons_zero, List.set_cons_succ]
  refine wpAnyH_ready (rs := [8]) (by kernel_rfl) (by simp) ?_
  refine AllReadyH.cons (Fr.take_at rfl) (fun K hK => ?_) AllReadyH.nil
  go_simp
  (go_at_call 24; refine (HC.out _).mono ?_; rintro x w6 ⟨rfl, hb6⟩; have hb7 : Below W4.heap.size W4 w6 := (by assumption : Below W4.heap.size W4 _).trans (hb6.mono (Below.size (by assumption))))
  try go_wp2_with fail
  refine hK.out _ _ (by (first | (with_reducible assumption) | exact below_drewN (Below.refl _ _) 1 | exact below_drewN (by assumption) 1)) (fun hHeld => ?_)
  clear hK K
  try simp only [Act.put, List.setIfInBounds_toArray, List.set_cons_zero, List.set_cons_succ]
  refine wpAnyH_take (i := 9) (v := ?vr1_9) (Fr.take_at rfl) (by kernel_rfl) (by kernel_rfl) (by kernel_rfl) (fun _ _ _ h => h) (Or.inl ⟨by rfl, ?yr1_9⟩) (by assumption) ?nr1_9
  case yr1_9 => (intro w_ hSw; obtain ⟨⟨q0, q1, q2, q3⟩, q4, q5, q6, q7⟩ := HR.out _ hSw; go_simp; (try with_reducible rfl))
  try simp only [Act.put, List.setIfInBounds_toArray, List.set_cons_zero, List.set_cons_succ]
  refine wpAnyH_take (i := 10) (v := ?vr1_10) (Fr.take_at rfl) (by kernel_rfl) (by kernel_rfl) (by kernel_rfl) (fun _ _ _ h => h) (Or.inl ⟨by rfl, ?yr1_10⟩) (by assumption) ?nr1_10
  case yr1_10 => (intro w_ hSw; obtain ⟨⟨q0, q1, q2, q3⟩, q4, q5, q6, q7⟩ := HR.out _ hSw; go_simp; (try with_reducible rfl))
  try simp only [Act.put, List.setIfInBounds_toArray, List.set_cons_zero, List.set_cons_succ]
  refine wpAnyH_done (by kernel_rfl) ?_ _
  have HB6 := Lib.hid (HB5.out.trans (hHeld.mono HB5.out.size))
  have HE6 := Lib.hid (HE5.out.same (hHeld.block _ HE5.out.lt))
  have HQ6 := Lib.hid (HQ5.out.same (hHeld.block _ HQ5.out.lt))
  clear hHeld HB5 HE5 HQ5 HR
  go_upto_region 8 with fail
  have hS0 := PuS.mk (w := w) HTB.out HB6.out HE6.out
  refine wp_region_held_drew (S := PuS w.heap.size T e (ns.length : Int)) (by kernel_rfl) (by (first | (with_reducible assumption) | (with_reducible exact PuS.drew (by assumption)) | (with_reducible exact PuS.alloc (by assumption) _) | (with_reducible exact PuS.drew (PuS.drew (by assumption))) | (with_reducible exact PuS.alloc (PuS.drew (by assumption)) _) | (with_reducible exact PuS.drew (PuS.alloc hS0 _)))) (fun hHeld => ?_)
  refine wpAnyH_take (i := 0) (v := ?vr2_0) (Fr.take_at rfl) (by kernel_rfl) (by kernel_rfl) (by kernel_rfl) (fun _ _ _ h => h) (Or.inl ⟨by rfl, ?yr2_0⟩) (by assumption) ?nr2_0
  case yr2_0 => (intro w_ hSw; obtain ⟨q0, q1, q2, q3, q4⟩ := hSw; go_simp; (try with_reducible rfl))
  try simp only [Act.put, List.setIfInBounds_toArray, List.set_cons_zero, List.set_cons_succ]
  refine wpAnyH_take (i := 1) (v := ?vr2_1) (Fr.take_at rfl) (by kernel_rfl) (by kernel_rfl) (by kernel_rfl) (fun _ _ _ h => h) (Or.inl ⟨by rfl, ?yr2_1⟩) (by assumption) ?nr2_1
  case yr2_1 => (intro w_ hSw; obtain ⟨q0, q1, q2, q3, q4⟩ := hSw; go_simp; (try with_reducible rfl))
  try simp only [Act.put, List.setIfInBounds_toArray, List.set_cons_zero, List.set_cons_succ]
  refine wpAnyH_take (i := 2) (v := ?vr2_2) (Fr.take_at rfl) (by kernel_rfl) (by kernel_rfl) (by kernel_rfl) (fun _ _ _ h => h) (Or.inl ⟨by rfl, ?yr2_2⟩) (by assumption) ?nr2_2
  case yr2_2 => (intro w_ hSw; obtain ⟨q0, q1, q2, q3, q4⟩ := hSw; go_simp; (try with_reducible rfl))
  try simp only [Act.put, List.setIfInBounds_toArray, List.set_cons_zero, List.set_cons_succ]
  refine wpAnyH_take (i := 3) (v := ?vr2_3) (Fr.take_at rfl) (by kernel_rfl) (by kernel_rfl) (by kernel_rfl) (fun _ _ _ h => h) (Or.inl ⟨by rfl, ?yr2_3⟩) (by assumption) ?nr2_3
  case yr2_3 => (intro w_ hSw; obtain ⟨q0, q1, q2, q3, q4⟩ := hSw; go_simp; (try with_reducible rfl))
  try simp only [Act.put, List.setIfInBounds_toArray, List.set_cons_zero, List.set_cons_succ]
  refine wpAnyH_take (i := 4) (v := ?vr2_4) (Fr.take_at rfl) (by kernel_rfl) (by kernel_rfl) (by kernel_rfl) (fun _ _ _ h => h) (Or.inl ⟨by rfl, ?yr2_4⟩) (by assumption) ?nr2_4
  case yr2_4 => (intro w_ hSw; obtain ⟨q0, q1, q2, q3, q4⟩ := hSw; go_simp; (try with_reducible rfl))
  try simp only [Act.put, List.setIfInBounds_toArray, List.set_cons_zero, List.set_cons_succ]
  refine wpAnyH_take (i := 5) (v := ?vr2_5) (Fr.take_at rfl) (by kernel_rfl) (by kernel_rfl) (by kernel_rfl) (fun _ _ _ h => h) (Or.inl ⟨by rfl, ?yr2_5⟩) (by assumption) ?nr2_5
  case yr2_5 => (intro w_ hSw; obtain ⟨q0, q1, q2, q3, q4⟩ := hSw; go_simp; (try with_reducible rfl))
  try simp only [Act.put, List.setIfInBounds_toArray, List.set_cons_zero, List.set_cons_succ]
  refine wpAnyH_ready (rs := [6]) (by kernel_rfl) (by simp) ?_
  refine AllReadyH.cons (Fr.take_at rfl) (fun K hK => ?_) AllReadyH.nil
  go_simp
  refine hK.out _ _ (by (first | (with_reducible assumption) | (with_reducible exact PuS.drew (by assumption)) | (with_reducible exact PuS.alloc (by assumption) _) | (with_reducible exact PuS.drew (PuS.drew (by assumption))) | (with_reducible exact PuS.alloc (PuS.drew (by assumption)) _) | (with_reducible exact PuS.drew (PuS.alloc hS0 _)))) (fun hHeld => ?_)
  clear hK K
  try simp only [Act.put, List.setIfInBounds_toArray, List.set_cons_zero, List.set_cons_succ]
  refine wpAnyH_take (i := 7) (v := ?vr2_7) (Fr.take_at rfl) (by kernel_rfl) (by kernel_rfl) (by kernel_rfl) (fun _ _ _ h => h) (Or.inl ⟨by rfl, ?yr2_7⟩) (by assumption) ?nr2_7
  case yr2_7 => (intro w_ hSw; obtain ⟨q0, q1, q2, q3, q4⟩ := hSw; go_simp; (try with_reducible rfl))
  try simp only [Act.put, List.setIfInBounds_toArray, List.set_cons_zero, List.set_cons_succ]
  refine wpAnyH_done (by kernel_rfl) ?_ _
  have hmk := PuAt.make (p := p) (s := post ns e.k e.seq) (cnt := (ns.length : Int)) (byt := byt) (PA := w3.heap.size) HTB.out (by rw [← HP.out, pre_post]) HP.out.symm HNO.out HB6.out HE6.out ⟨_, HQ6.out, rfl, fun l _ hl => HPL.out l hl⟩ ns.length rfl rfl
  obtain ⟨N, hN⟩ : ∃ N, N = w6.heap.size := ⟨_, rfl⟩
  rw [← hN] at hmk
  rw [← hN]
  have HMK := Lib.hid hmk.1.drew
  have HND := Lib.hid hmk.2
  have HNN := Lib.hid hN
  clear hN hmk
  go_wp2
  go_loopw [50] (PuInv w T ns p (post ns e.k e.seq) ⟨N, e, ns.length, 0⟩ (ns.length : Int) byt w3.heap.size w.heap.size e H) (fun x _ => H - (intOf x).toNat)
  case atStart => exact ⟨0, by omega, rfl, HMK.out⟩
  case round =>
    clear HMK
    obtain ⟨j, hj, rfl, HJ⟩ := hrel
    by_cases hjl : j < H
    · have hj12 : j < 12 := by omega
      have hjc : (j : Int) < (H : Int) := by omega
      have k1 : (0 : Int) ≤ (j : Int) := by omega
      have k2 : (j : Int) < 12 := by omega
      obtain ⟨f1, f2, ⟨u, f3⟩, f4⟩ := HJ.out.facts hj12
      obtain ⟨g1, g2, g3⟩ := HJ.out.facts2 hj12 (up_nodup j HND.out) (ptr (nextAt (post ns e.k e.seq) j))
      have hst := HJ.out.step hj12 (up_nodup j HND.out)
      have HST := Lib.hid hst
      obtain ⟨c, hc⟩ : ∃ c, c = predAt T p j := ⟨_, rfl⟩
      obtain ⟨o, hz⟩ : ∃ o, ptr (nextAt (post ns e.k e.seq) j) = .pointer o := ptr_form _
      rw [← hc] at f1 f2 g1 g2 g3 HST
      rw [hz] at f2 g1 g2 g3 HST
      have G2 := Lib.hid g2
      have hP0 : PuF w3.heap.size c N j (.pointer o) wr := ⟨f1, f2, ⟨u, f3⟩, f4⟩
      have hP1 : PuF w3.heap.size c N j (.pointer o) (wr.setCell ⟨N, 5 + j, none⟩ (.pointer o)) := ⟨g3, g1, setCell_some f3, setCell_froz f4⟩
      have f5 : wr.cell? ⟨N, 5 + j, none⟩ = some u := f3
      have f6 : wr.frozen? ⟨N, 5 + j, none⟩ = false := f4
      clear hst hc hz f3 f4 g1 g2 g3
      have g4 := hP1.2.1
      have g5 : (wr.setCell ⟨N, 5 + j, none⟩ (.pointer o)).frozen? ⟨c, 5 + j, none⟩ = false := G2.out
      have g6 := hP1.1
      go_upto_region 12 with fail
      refine wp_region_held_drew (S := PuF w3.heap.size c N j (.pointer o)) (by kernel_rfl) (by (first | (with_reducible assumption) | (with_reducible exact PuF.drew (by assumption)) | (with_reducible exact PuF.drew (PuF.drew (by assumption))))) (fun hHeld => ?_)
      refine wpAnyH_take (i := 0) (v := ?vr3_0) (Fr.take_at rfl) (by kernel_rfl) (by kernel_rfl) (by kernel_rfl) (fun _ _ _ h => h) (Or.inl ⟨by rfl, ?yr3_0⟩) (by assumption) ?nr3_0
      case yr3_0 => (intro w_ hSw; obtain ⟨z1, z2, ⟨uu, z3⟩, z4⟩ := hSw; go_simp; (try with_reducible rfl))
      try simp only [Act.put, List.setIfInBounds_toArray, List.set_cons_zero, List.set_cons_succ]
      refine wpAnyH_take (i := 1) (v := ?vr3_1) (Fr.take_at rfl) (by kernel_rfl) (by kernel_rfl) (by kernel_rfl) (fun _ _ _ h => h) (Or.inl ⟨by rfl, ?yr3_1⟩) (by assumption) ?nr3_1
      case yr3_1 => (intro w_ hSw; obtain ⟨z1, z2, ⟨uu, z3⟩, z4⟩ := hSw; go_simp; (try with_reducible rfl))
      try simp only [Act.put, List.setIfInBounds_toArray, List.set_cons_zero, List.set_cons_succ]
      refine wpAnyH_take (i := 2) (v := ?vr3_2) (Fr.take_at rfl) (by kernel_rfl) (by kernel_rfl) (by kernel_rfl) (fun _ _ _ h => h) (Or.inl ⟨by rfl, ?yr3_2⟩) (by assumption) ?nr3_2
      case yr3_2 => (intro w_ hSw; obtain ⟨z1, z2, ⟨uu, z3⟩, z4⟩ := hSw; go_simp; (try with_reducible rfl))
      try simp only [Act.put, List.setIfInBounds_toArray, List.set_cons_zero, List.set_cons_succ]
      refine wpAnyH_take (i := 3) (v := ?vr3_3) (Fr.take_at rfl) (by kernel_rfl) (by kernel_rfl) (by kernel_rfl) (fun _ _ _ h => h) (Or.inl ⟨by rfl, ?yr3_3⟩) (by assumption) ?nr3_3
      case yr3_3 => (intro w_ hSw; obtain ⟨z1, z2, ⟨uu, z3⟩, z4⟩ := hSw; go_simp; (try with_reducible rfl))
      try simp only [Act.put, List.setIfInBounds_toArray, List.set_cons_zero, List.set_cons_succ]
      refine wpAnyH_take (i := 4) (v := ?vr3_4) (Fr.take_at rfl) (by kernel_rfl) (by kernel_rfl) (by kernel_rfl) (fun _ _ _ h => h) (Or.inl ⟨by rfl, ?yr3_4⟩) (by assumption) ?nr3_4
      case yr3_4 => (intro w_ hSw; obtain ⟨z1, z2, ⟨uu, z3⟩, z4⟩ := hSw; go_simp; (try with_reducible rfl))
      try simp only [Act.put, List.setIfInBounds_toArray, List.set_cons_zero, List.set_cons_succ]
      refine wpAnyH_take (i := 5) (v := ?vr3_5) (Fr.take_at rfl) (by kernel_rfl) (by kernel_rfl) (by kernel_rfl) (fun _ _ _ h => h) (Or.inl ⟨by rfl, ?yr3_5⟩) (by assumption) ?nr3_5
      case yr3_5 => (intro w_ hSw; obtain ⟨z1, z2, ⟨uu, z3⟩, z4⟩ := hSw; go_simp; (try with_reducible rfl))
      try simp only [Act.put, List.setIfInBounds_toArray, List.set_cons_zero, List.set_cons_succ]
      refine wpAnyH_take (i := 6) (v := ?vr3_6) (Fr.take_at rfl) (by kernel_rfl) (by kernel_rfl) (by kernel_rfl) (fun _ _ _ h => h) (Or.inl ⟨by rfl, ?yr3_6⟩) (by assumption) ?nr3_6
      case yr3_6 => (intro w_ hSw; obtain ⟨z1, z2, ⟨uu, z3⟩, z4⟩ := hSw; go_simp; (try with_reducible rfl))
      try simp only [Act.put, List.setIfInBounds_toArray, List.set_cons_zero, List.set_cons_succ]
      refine wpAnyH_take (i := 7) (v := ?vr3_7) (Fr.take_at rfl) (by kernel_rfl) (by kernel_rfl) (by kernel_rfl) (fun _ _ _ h => h) (Or.inl ⟨by rfl, ?yr3_7⟩) (by assumption) ?nr3_7
      case yr3_7 => (intro w_ hSw; obtain ⟨z1, z2, ⟨uu, z3⟩, z4⟩ := hSw; go_simp; (try with_reducible rfl))
      try simp only [Act.put, List.setIfInBounds_toArray, List.set_cons_zero, List.set_cons_succ]
      refine wpAnyH_take (i := 8) (v := ?vr3_8) (Fr.take_at rfl) (by kernel_rfl) (by kernel_rfl) (by kernel_rfl) (fun _ _ _ h => h) (Or.inl ⟨by rfl, ?yr3_8⟩) (by assumption) ?nr3_8
      case yr3_8 => (intro w_ hSw; obtain ⟨z1, z2, ⟨uu, z3⟩, z4⟩ := hSw; go_simp; (try with_reducible rfl))
      try simp only [Act.put, List.setIfInBounds_toArray, List.set_cons_zero, List.set_cons_succ]
      refine wpAnyH_take (i := 9) (v := ?vr3_9) (Fr.take_at rfl) (by kernel_rfl) (by kernel_rfl) (by kernel_rfl) (fun _ _ _ h => h) (Or.inl ⟨by rfl, ?yr3_9⟩) (by assumption) ?nr3_9
      case yr3_9 => (intro w_ hSw; obtain ⟨z1, z2, ⟨uu, z3⟩, z4⟩ := hSw; go_simp; (try with_reducible rfl))
      try simp only [Act.put, List.setIfInBounds_toArray, List.set_cons_zero, List.set_cons_succ]
      refine wpAnyH_take (i := 10) (v := ?vr3_10) (Fr.take_at rfl) (by kernel_rfl) (by kernel_rfl) (by kernel_rfl) (fun _ _ _ h => h) (Or.inl ⟨by rfl, ?yr3_10⟩) (by assumption) ?nr3_10
      case yr3_10 => (intro w_ hSw; obtain ⟨z1, z2, ⟨uu, z3⟩, z4⟩ := hSw; go_simp; (try with_reducible rfl))
      try simp only [Act.put, List.setIfInBounds_toArray, List.set_cons_zero, List.set_cons_succ]
      refine wpAnyH_take (i := 11) (v := ?vr3_11) (Fr.take_at rfl) (by kernel_rfl) (by kernel_rfl) (by kernel_rfl) (fun _ _ _ h => h) (Or.inl ⟨by rfl, ?yr3_11⟩) (by assumption) ?nr3_11
      case yr3_11 => (intro w_ hSw; obtain ⟨z1, z2, ⟨uu, z3⟩, z4⟩ := hSw; go_simp; (try with_reducible rfl))
      try simp only [Act.put, List.setIfInBounds_toArray, List.set_cons_zero, List.set_cons_succ]
      refine wpAnyH_take (i := 12) (v := ?vr3_12) (Fr.take_at rfl) (by kernel_rfl) (by kernel_rfl) (by kernel_rfl) (fun _ _ _ h => h) (Or.inl ⟨by rfl, ?yr3_12⟩) (by assumption) ?nr3_12
      case yr3_12 => (intro w_ hSw; obtain ⟨z1, z2, ⟨uu, z3⟩, z4⟩ := hSw; go_simp; (try with_reducible rfl))
      try simp only [Act.put, List.setIfInBounds_toArray, List.set_cons_zero, List.set_cons_succ]
      refine wpAnyH_ready (rs := [13]) (by kernel_rfl) (by simp) ?_
      refine AllReadyH.cons (Fr.take_at rfl) (fun K hK => ?_) AllReadyH.nil
      go_simp
      refine hK.out _ _ (by (first | (with_reducible assumption) | (with_reducible exact PuF.drew (by assumption)) | (with_reducible exact PuF.drew (PuF.drew (by assumption))))) (fun hHeld => ?_)
      clear hK K
      try simp only [Act.put, List.setIfInBounds_toArray, List.set_cons_zero, List.set_cons_succ]
      refine wpAnyH_done (by kernel_rfl) ?_ _
      go_wp2
      go_roundw
      case rel => exact ⟨j + 1, by omega, by simp, Lib.hid HST.out.drew⟩
      case measure => simp [intOf]; omega
    · have hjc : ¬ (j : Int) < (H : Int) := by omega
      obtain rfl : j = H := by omega
      obtain ⟨a1, a2, a3, a4, a5, a6, a7, a8⟩ := HJ.out.ends
      have hl1 : ((ns.length : Int) + 1) = ((ns.length + 1 : Nat) : Int) := by omega
      have hF0 : PuG T w.heap.size e (wr.setCell ⟨T, 17, none⟩ (.int .i64 ((ns.length : Int) + 1))) := PuG.mk HJ.out
      clear hl1
      go_wp2
      have b2 : (wr.setCell ⟨T, 17, none⟩ (.int .i64 ((ns.length : Int) + 1))).cell? ⟨T, 18, none⟩ = some (.int .i64 byt) := (World.cell?_setCell_other _ _ _ _ (by simp)).trans a2
      have b4 : (wr.setCell ⟨T, 17, none⟩ (.int .i64 ((ns.length : Int) + 1))).frozen? ⟨T, 18, none⟩ = false := setCell_froz2 a4
      refine wp_region_held_drew (S := PuG T w.heap.size e) (by kernel_rfl) (by (first | (with_reducible assumption) | (with_reducible exact PuG.drew (by assumption)) | (with_reducible exact PuG.drew (PuG.drew (by assumption))) | exact PuG.set (by assumption) _ | exact (PuG.set hF0 _).drew)) (fun hHeld => ?_)
      refine wpAnyH_take (i := 0) (v := ?vr4_0) (Fr.take_at rfl) (by kernel_rfl) (by kernel_rfl) (by kernel_rfl) (fun _ _ _ h => h) (Or.inl ⟨by rfl, ?yr4_0⟩) (by assumption) ?nr4_0
      case yr4_0 => (intro w_ hSw; obtain ⟨z1, z2, z3⟩ := hSw; go_simp; (try with_reducible rfl))
      try simp only [Act.put, List.setIfInBounds_toArray, List.set_cons_zero, List.set_cons_succ]
      refine wpAnyH_take (i := 1) (v := ?vr4_1) (Fr.take_at rfl) (by kernel_rfl) (by kernel_rfl) (by kernel_rfl) (fun _ _ _ h => h) (Or.inl ⟨by rfl, ?yr4_1⟩) (by assumption) ?nr4_1
      case yr4_1 => (intro w_ hSw; obtain ⟨z1, z2, z3⟩ := hSw; go_simp; (try with_reducible rfl))
      try simp only [Act.put, List.setIfInBounds_toArray, List.set_cons_zero, List.set_cons_succ]
      refine wpAnyH_take (i := 2) (v := ?vr4_2) (Fr.take_at rfl) (by kernel_rfl) (by kernel_rfl) (by kernel_rfl) (fun _ _ _ h => h) (Or.inl ⟨by rfl, ?yr4_2⟩) (by assumption) ?nr4_2
      case yr4_2 => (intro w_ hSw; obtain ⟨z1, z2, z3⟩ := hSw; go_simp; (try with_reducible rfl))
      try simp only [Act.put, List.setIfInBounds_toArray, List.set_cons_zero, List.set_cons_succ]
      refine wpAnyH_take (i := 4) (v := ?vr4_4) (Fr.take_at rfl) (by kernel_rfl) (by kernel_rfl) (by kernel_rfl) (fun _ _ _ h => h) (Or.inl ⟨by rfl, ?yr4_4⟩) (by assumption) ?nr4_4
      case yr4_4 => (intro w_ hSw; obtain ⟨z1, z2, z3⟩ := hSw; go_simp; (try with_reducible rfl))
      try simp only [Act.put, List.setIfInBounds_toArray, List.set_cons_zero, List.set_cons_succ]
      refine wpAnyH_take (i := 5) (v := ?vr4_5) (Fr.take_at rfl) (by kernel_rfl) (by kernel_rfl) (by kernel_rfl) (fun _ _ _ h => h) (Or.inl ⟨by rfl, ?yr4_5⟩) (by assumption) ?nr4_5
      case yr4_5 => (intro w_ hSw; obtain ⟨z1, z2, z3⟩ := hSw; go_simp; (try with_reducible rfl))
      try simp only [Act.put, List.setIfInBounds_toArray, List.set_cons_zero, List.set_cons_succ]
      refine wpAnyH_take (i := 6) (v := ?vr4_6) (Fr.take_at rfl) (by kernel_rfl) (by kernel_rfl) (by kernel_rfl) (fun _ _ _ h => h) (Or.inl ⟨by rfl, ?yr4_6⟩) (by assumption) ?nr4_6
      case yr4_6 => (intro w_ hSw; obtain ⟨z1, z2, z3⟩ := hSw; go_simp; (try with_reducible rfl))
      try simp only [Act.put, List.setIfInBounds_toArray, List.set_cons_zero, List.set_cons_succ]
      refine wpAnyH_take (i := 7) (v := ?vr4_7) (Fr.take_at rfl) (by kernel_rfl) (by kernel_rfl) (by kernel_rfl) (fun _ _ _ h => h) (Or.inl ⟨by rfl, ?yr4_7⟩) (by assumption) ?nr4_7
      case yr4_7 => (intro w_ hSw; obtain ⟨z1, z2, z3⟩ := hSw; go_simp; (try with_reducible rfl))
      try simp only [Act.put, List.setIfInBounds_toArray, List.set_cons_zero, List.set_cons_succ]
      refine wpAnyH_take (i := 8) (v := ?vr4_8) (Fr.take_at rfl) (by kernel_rfl) (by kernel_rfl) (by kernel_rfl) (fun _ _ _ h => h) (Or.inl ⟨by rfl, ?yr4_8⟩) (by assumption) ?nr4_8
      case yr4_8 => (intro w_ hSw; obtain ⟨z1, z2, z3⟩ := hSw; go_simp; (try with_reducible rfl))
      try simp only [Act.put, List.setIfInBounds_toArray, List.set_cons_zero, List.set_cons_succ]
      refine wpAnyH_take (i := 9) (v := ?vr4_9) (Fr.take_at rfl) (by kernel_rfl) (by kernel_rfl) (by kernel_rfl) (fun _ _ _ h => h) (Or.inl ⟨by rfl, ?yr4_9⟩) (by assumption) ?nr4_9
      case yr4_9 => (intro w_ hSw; obtain ⟨z1, z2, z3⟩ := hSw; go_simp; (try with_reducible rfl))
      try simp only [Act.put, List.setIfInBounds_toArray, List.set_cons_zero, List.set_cons_succ]
      refine wpAnyH_take (i := 10) (v := ?vr4_10) (Fr.take_at rfl) (by kernel_rfl) (by kernel_rfl) (by kernel_rfl) (fun _ _ _ h => h) (Or.inl ⟨by rfl, ?yr4_10⟩) (by assumption) ?nr4_10
      case yr4_10 => (intro w_ hSw; obtain ⟨z1, z2, z3⟩ := hSw; go_simp; (try with_reducible rfl))
      try simp only [Act.put, List.setIfInBounds_toArray, List.set_cons_zero, List.set_cons_succ]
      refine wpAnyH_ready (rs := [3]) (by kernel_rfl) (by simp) ?_
      refine AllReadyH.cons (Fr.take_at rfl) (fun K hK => ?_) AllReadyH.nil
      go_simp
      refine hK.out _ _ (by (first | (with_reducible assumption) | (with_reducible exact PuG.drew (by assumption)) | (with_reducible exact PuG.drew (PuG.drew (by assumption))) | exact PuG.set (by assumption) _ | exact (PuG.set hF0 _).drew)) (fun hHeld => ?_)
      clear hK K
      try simp only [Act.put, List.setIfInBounds_toArray, List.set_cons_zero, List.set_cons_succ]
      refine wpAnyH_take (i := 11) (v := ?vr4_11) (Fr.take_at rfl) (by kernel_rfl) (by kernel_rfl) (by kernel_rfl) (fun _ _ _ h => h) (Or.inl ⟨by rfl, ?yr4_11⟩) (by assumption) ?nr4_11
      case yr4_11 => (intro w_ hSw; obtain ⟨z1, z2, z3⟩ := hSw; go_simp; (try with_reducible rfl))
      try simp only [Act.put, List.setIfInBounds_toArray, List.set_cons_zero, List.set_cons_succ]
      refine wpAnyH_take (i := 12) (v := ?vr4_12) (Fr.take_at rfl) (by kernel_rfl) (by kernel_rfl) (by kernel_rfl) (fun _ _ _ h => h) (Or.inl ⟨by rfl, ?yr4_12⟩) (by assumption) ?nr4_12
      case yr4_12 => (intro w_ hSw; obtain ⟨z1, z2, z3⟩ := hSw; go_simp; (try with_reducible rfl))
      try simp only [Act.put, List.setIfInBounds_toArray, List.set_cons_zero, List.set_cons_succ]
      refine wpAnyH_take (i := 13) (v := ?vr4_13) (Fr.take_at rfl) (by kernel_rfl) (by kernel_rfl) (by kernel_rfl) (fun _ _ _ h => h) (Or.inl ⟨by rfl, ?yr4_13⟩) (by assumption) ?nr4_13
      case yr4_13 => (intro w_ hSw; obtain ⟨z1, z2, z3⟩ := hSw; go_simp; (try with_reducible rfl))
      try simp only [Act.put, List.setIfInBounds_toArray, List.set_cons_zero, List.set_cons_succ]
      refine wpAnyH_ready (rs := [14]) (by kernel_rfl) (by simp) ?_
      refine AllReadyH.cons (Fr.take_at rfl) (fun K hK => ?_) AllReadyH.nil
      go_simp
      refine hK.out _ _ (by (first | (with_reducible assumption) | (with_reducible exact PuG.drew (by assumption)) | (with_reducible exact PuG.drew (PuG.drew (by assumption))) | exact PuG.set (by assumption) _ | exact (PuG.set hF0 _).drew)) (fun hHeld => ?_)
      clear hK K
      try simp only [Act.put, List.setIfInBounds_toArray, List.set_cons_zero, List.set_cons_succ]
      refine wpAnyH_done (by kernel_rfl) ?_ _
      go_wp2
      go_ret
      refine ⟨rfl, N, j, hH1, hH2, ?_⟩
      have hw : IntKind.i64.wrap (byt + IntKind.i64.wrap ((e.key.size : Int) + (e.val.size : Int))) = byt + ((e.key.size : Int) + (e.val.size : Int)) := by
        rw [IntWalk.i64_in ((e.key.size : Int) + (e.val.size : Int)) (by omega), IntWalk.i64_in _ (by omega)]
      rw [hw, HP.out]
      have hd := HJ.out.done HTB.out ⟨hH1, hH2⟩ (up_nodup j HND.out) (byt' := byt + ((e.key.size : Int) + (e.val.size : Int))) (by omega)
      exact ⟨HJ.out.newN, hd.1, hd.2⟩
end

end Mm
end Go.Proofs.Ytfnfjhfmhinkcaa
