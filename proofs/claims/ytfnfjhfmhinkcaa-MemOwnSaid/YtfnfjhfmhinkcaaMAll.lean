/-
  WHAT IS PROVED: what All answers. CONDITIONS: the table and its nodes stand in memory as named.
-/
import Derived.Test.YtfnfjhfmhinkcaaMSeq
namespace Go.Proofs.Ytfnfjhfmhinkcaa
open Go Go.RowKit Go.Maps Go.Sort Go.Proofs.Ytfnfjhfmhinkcaa.Fr
namespace Mm
/-- Each node came when there were fewer, and its entry is good. -/
def Val (ns : List Nd) : Prop := ∀ n ∈ ns, n.older < ns.length ∧ entryErr n.e = 0
theorem Val.nil : Val [] := fun n h => by cases h
theorem Val.put {ns : List Nd} (h : Val ns) {e : En} (he : entryErr e = 0) (N H : Nat) : Val (pre ns e.k e.seq ++ (⟨N, e, ns.length, H⟩ : Nd) :: post ns e.k e.seq) := by
  have hl : (pre ns e.k e.seq ++ (⟨N, e, ns.length, H⟩ : Nd) :: post ns e.k e.seq).length = ns.length + 1 := by
    have := congrArg List.length (pre_post ns e.k e.seq)
    simp only [List.length_append, List.length_cons] at this ⊢
    omega
  intro n hn
  rw [hl]
  have hin : n ∈ ns ∨ n = ⟨N, e, ns.length, H⟩ := by
    rcases List.mem_append.1 hn with h1 | h1
    · exact .inl (by rw [← pre_post ns e.k e.seq]; exact List.mem_append.2 (.inl h1))
    · rcases List.mem_cons.1 h1 with h2 | h2
      · exact .inr h2
      · exact .inl (by rw [← pre_post ns e.k e.seq]; exact List.mem_append.2 (.inr h2))
  rcases hin with h1 | rfl
  · have := h n h1
    exact ⟨by omega, this.2⟩
  · exact ⟨by simp, he⟩
theorem err_seq {e : En} (h : entryErr e = 0) : 1 ≤ e.seq ∧ e.seq ≤ 4611686018427387904 := by
  unfold entryErr at h
  split at h
  · omega
  · split at h
    · omega
    · omega
theorem bef_from {e : En} (h : entryErr e = 0) (k : List UInt8) : bef e k 9223372036854775807 ↔ e.k < k := by
  have := err_seq h
  exact ⟨fun h => h.elim id fun h => by omega, .inl⟩
theorem fromN_all {ns : List Nd} (h : Val ns) : fromN ns [] = ns := by
  unfold fromN post
  cases ns with
  | nil => rfl
  | cons n r =>
    rw [List.dropWhile_cons_of_neg]
    have := bef_from (h n (by simp)).2 []
    simp only [decide_eq_true_eq]
    intro hb
    exact absurd (this.1 hb) (by simp)
theorem olds_all {ns : List Nd} {c : Int} (h : ∀ n ∈ ns, (n.older : Int) < c) : olds ns c = ns.map (·.e) := by
  unfold olds
  rw [List.filter_eq_self.2 fun n hn => by simpa using h n hn]
section
variable {w w' : World} {T : Nat} {ns : List Nd} {byt : Int}
theorem from_fr (h : Rep w T ns (ns.length : Int) byt) (hg : Good ns) (hv : Val ns) :
    Calls Try.prog 11 #[.pointer (some ⟨T, 0, none⟩), .string ⟨#[]⟩] w fun e w' => ∃ b1 b2, e = .returned (.func (.func 20) #[] #[.pointer (some ⟨b1, 0, none⟩), .pointer (some ⟨b2, 0, none⟩)]) ∧ FrAt w' b1 b2 ns (ns.length : Int) ∧ Below w.heap.size w w' := by
  refine (from_any h hg ⟨#[]⟩).mono ?_
  rintro e w' ⟨b1, b2, rfl, h1, h2, _, _, _, hb⟩
  rw [show (⟨#[]⟩ : ByteArray).toList = [] by rw [Lib.toList_data], fromN_all hv] at h1
  exact ⟨b1, b2, rfl, ⟨h1, h2, (h.below hb).chain⟩, hb⟩
/-- A row that was made with no entry. -/
theorem made_row (W : World) (base N : Nat) (hb : base ≤ W.heap.size) (hN : N ≤ 100000) (M : Array Value) (hM : M.size = N * 4) : (W.alloc (.cells M 30)).ownsRow base 30 4 (.slice (some ⟨W.heap.size, 0, none⟩) 0 N) 0 [] :=
  ⟨rfl, .inr ⟨W.heap.size, N, M, rfl, hb, Blk.new W _ _, Nat.zero_le _, by unfold maxLen; omega, hM, by simp⟩⟩
theorem appSeq_any {base b1 b2 : Nat} {W0 : World} {cnt : Int} {A0 : Option Addr} {c0 n : Nat} {l : List En} (ho : olds ns cnt = l) (hn : l.length = n) (hrow : W0.ownsRow base 30 4 (.slice A0 0 c0) 0 []) (hF : FrAt W0 b1 b2 ns cnt) (hbase : base ≤ W0.heap.size) (hl : ns.length ≤ 100000) (hnd : (ns.map (·.blk)).Nodup) (hgood : Good ns) :
    Calls Try.prog 21 #[.slice A0 0 c0, .func (.func 20) #[] #[.pointer (some ⟨b1, 0, none⟩), .pointer (some ⟨b2, 0, none⟩)]] W0 fun e w' => ∃ A c, e = .returned (.slice A n c) ∧ w'.ownsRow base 30 4 (.slice A n c) n (ev l) ∧ Below base W0 w' := by
  subst ho hn
  refine (callsIn_wide.1 (appSeq_in hrow hF hbase hl hnd hgood)).mono ?_
  rintro e w' ⟨v, rfl, h1, h2⟩
  obtain ⟨A, c, rfl, _, _⟩ := own_shapeN h1
  exact ⟨A, c, rfl, h1, h2⟩
theorem own_belowN {base : Nat} {W W' : World} {e : TypeId} {size n : Nat} {v : Value} {xs : List Value} (h : W.ownsRow base e size v n xs) (hb : Below W.heap.size W W') : W'.ownsRow base e size v n xs :=
  own_same h fun k hk => by
    obtain ⟨cur, hbl⟩ := own_blk h hk
    exact hb.block k hbl.lt
theorem FrAt.alloc {W : World} {b1 b2 : Nat} {cnt : Int} (h : FrAt W b1 b2 ns cnt) (o : Obj) : FrAt (W.alloc o) b1 b2 ns cnt := h.below ((Below.refl _ W).alloc (Nat.le_refl _) o)
set_option maxRecDepth 100000 in
set_option maxHeartbeats 1600000 in
theorem all_any (h : Rep w T ns (ns.length : Int) byt) (hg : Good ns) (hv : Val ns) (hnd : (ns.map (·.blk)).Nodup) (hl : ns.length ≤ 100000) :
    Calls Try.prog 13 #[.pointer (some ⟨T, 0, none⟩)] w fun e w' => ∃ A c, e = .returned (.slice A ns.length c) ∧ w'.ownsRow w.heap.size 30 4 (.slice A ns.length c) ns.length (ev (ns.map (·.e))) ∧ Below w.heap.size w w' := by
  obtain ⟨ie, hie, hiz, hiz1, hiz2⟩ := info_parts info_entry
  have hlt := h.lt
  have hc := h.counts
  have hf := fun W (hW : Below w.heap.size w W) => from_fr (h.below hW) hg hv
  have ho : olds ns (ns.length : Int) = ns.map (·.e) := olds_all fun n hn => by have := (hv n hn).1; omega
  obtain ⟨n, hn⟩ : ∃ n, ns.length = n := ⟨_, rfl⟩
  obtain ⟨l, hll⟩ : ∃ l, l = ns.map (·.e) := ⟨_, rfl⟩
  have hln : l.length = n := by rw [hll, List.length_map, hn]
  rw [hn] at hc hf ho
  rw [← hll] at ho ⊢
  rw [hn]
  have hq : ∀ W, Below w.heap.size w W → W.cell? ⟨T, 17, none⟩ = some (.int .i64 (n : Int)) := fun W hW => (hW.cell (p := ⟨T, 17, none⟩) hlt).trans hc
  obtain ⟨M, hM⟩ : ∃ M, M = madeCells (Value.agg #[.string ⟨#[]⟩, .int .i64 0, .bool false, .string ⟨#[]⟩]).cells (n * 4) := ⟨_, rfl⟩
  have hMs : M.size = n * 4 := by rw [hM, size_madeCells]
  have mk : ∀ W : World, (Instr.makeSlice 26 (.int .i64 0) (.int .i64 (n : Int))).run Try.prog W = .ok (.slice (some ⟨W.heap.size, 0, none⟩) 0 n) (W.alloc (.cells M 30)) := fun W => by
    have h := run_make (P := Try.prog) W 26 30 ie _ Try.underlying26 hie hiz .i64 .i64 0 n (by omega) (by omega) (by rw [hiz2]; omega) (by omega)
    rw [hiz1, Int.toNat_natCast, ← hM] at h
    exact h
  have hs := fun base (b1 b2 : Nat) (W0 : World) (A0 : Option Addr) (c0 : Nat) (h1 : W0.ownsRow base 30 4 (.slice A0 0 c0) 0 []) (h2 : FrAt W0 b1 b2 ns (n : Int)) (h3 : base ≤ W0.heap.size) => appSeq_any ho hln h1 h2 h3 hl hnd hg
  have hrw := fun (W : World) (hW : w.heap.size ≤ W.heap.size) => made_row W w.heap.size n hW (by omega) M hMs
  have HRW := Lib.hid hrw
  have HF := Lib.hid hf
  have HS := Lib.hid hs
  have HQ := Lib.hid hq
  have HMS := Lib.hid hMs
  have HLN := Lib.hid hln
  have hN : n ≤ 100000 := by omega
  have k0 : (0 : Int) ≤ (n : Int) := by omega
  clear hrw hf hs hq hM hMs hln hc ho hn hll h hg hv hnd hl
  go_enter Try.func13, Try.ntmps13
  go_wp2
  refine wp_region_held_drew (S := fun W => Below w.heap.size w W) (by kernel_rfl) (by (first | assumption | exact below_drewN (Below.refl _ _) 1 | exact bel_alloc (by assumption) _)) (fun hHeld => ?_)
  refine wpAnyH_take (i := 0) (v := ?vr1x_0) (Fr.take_at rfl) (by kernel_rfl) (by kernel_rfl) (by kernel_rfl) (fun _ _ _ h => h) (Or.inl ⟨by rfl, ?yr1x_0⟩) (by assumption) ?nr1x_0
  case yr1x_0 => (intro w_ hSw; have q0 := HQ.out _ hSw; go_simp; (try with_reducible rfl))
  try simp only [Act.put, List.setIfInBounds_toArray, List.set_cons_zero, List.set_cons_succ]
  refine wpAnyH_take (i := 1) (v := ?vr1x_1) (Fr.take_at rfl) (by kernel_rfl) (by kernel_rfl) (by kernel_rfl) (fun _ _ _ h => h) (Or.inl ⟨by rfl, ?yr1x_1⟩) (by assumption) ?nr1x_1
  case yr1x_1 => (intro w_ hSw; have q0 := HQ.out _ hSw; go_simp; (try with_reducible rfl))
  try simp only [Act.put, List.setIfInBounds_toArray, List.set_cons_zero, List.set_cons_succ]
  refine wpAnyH_take (i := 2) (v := ?vr1x_2) (Fr.take_at rfl) (by kernel_rfl) (by kernel_rfl) (by kernel_rfl) (fun _ _ _ h => h) (Or.inl ⟨by rfl, ?yr1x_2⟩) (by assumption) ?nr1x_2
  case yr1x_2 => (intro w_ hSw; have q0 := HQ.out _ hSw; go_simp; (try with_reducible rfl))
  try simp only [Act.put, List.setIfInBounds_toArray, List.set_cons_zero, List.set_cons_succ]
  refine wpAnyH_take (i := 3) (v := ?vr1x_3) (Fr.take_at rfl) (by kernel_rfl) (by kernel_rfl) (by kernel_rfl) (fun _ _ _ h => h) (Or.inl ⟨by rfl, ?yr1x_3⟩) (by assumption) ?nr1x_3
  case yr1x_3 => (intro w_ hSw; have q0 := HQ.out _ hSw; go_simp; (try with_reducible rfl))
  try simp only [Act.put, List.setIfInBounds_toArray, List.set_cons_zero, List.set_cons_succ]
  refine wpAnyH_take (i := 5) (v := ?vr1x_5) (Fr.take_at rfl) (by kernel_rfl) (by kernel_rfl) (by kernel_rfl) (fun _ _ _ h => h) (Or.inl ⟨by rfl, ?yr1x_5⟩) (by assumption) ?nr1x_5
  case yr1x_5 => (intro w_ hSw; have q0 := HQ.out _ hSw; go_simp; (try with_reducible rfl))
  try simp only [Act.put, List.setIfInBounds_toArray, List.set_cons_zero, List.set_cons_succ]
  refine wpAnyH_ready (rs := [4, 6]) (by kernel_rfl) (by simp) ?_
  refine AllReadyH.cons (Fr.take_at rfl) (fun K hK => ?_) (AllReadyH.cons (Fr.take_at rfl) (fun K hK => ?_) AllReadyH.nil)
  go_simp
  refine hK.out _ _ (by (first | assumption | exact below_drewN (Below.refl _ _) 1 | exact bel_alloc (by assumption) _)) (fun hHeld => ?_)
  clear hK K
  (try have hfr2 := hfr.alloc (.cells M 30))
  try simp only [Act.put, List.setIfInBounds_toArray, List.set_cons_zero, List.set_cons_succ]
  refine wpAnyH_ready (rs := [6]) (by kernel_rfl) (by simp) ?_
  refine AllReadyH.cons (Fr.take_at rfl) (fun K hK => ?_) AllReadyH.nil
  go_simp
  (go_at_call 11; refine (HF.out _ hHeld).mono ?_; rintro e w2 ⟨b1, b2, rfl, hfr, hb2⟩; have hb3 : Below w.heap.size w w2 := (Below.trans hHeld (hb2.mono (Below.size hHeld))); (try have hrow2 := own_belowN (HRW.out w.drew (Nat.le_refl _)) hb2))
  try go_wp2_with fail
  refine hK.out _ _ (by (first | assumption | exact below_drewN (Below.refl _ _) 1 | exact bel_alloc (by assumption) _)) (fun hHeld => ?_)
  clear hK K
  try simp only [Act.put, List.setIfInBounds_toArray, List.set_cons_zero, List.set_cons_succ]
  refine wpAnyH_ready (rs := [7]) (by kernel_rfl) (by simp) ?_
  refine AllReadyH.cons (Fr.take_at rfl) (fun K hK => ?_) AllReadyH.nil
  go_simp
  (go_at_call 21; refine (HS.out w.heap.size b1 b2 _ _ _ (by first | exact hrow2 | exact HRW.out w2 hb3.size) (by assumption) (Below.size hHeld)).mono ?_; rintro e w9 ⟨A9, c9, rfl, hrow9, hb9⟩; have hb10 : Below w.heap.size w w9 := Below.trans hHeld hb9)
  try go_wp2_with fail
  refine hK.out _ _ (by (first | assumption | exact below_drewN (Below.refl _ _) 1 | exact bel_alloc (by assumption) _)) (fun hHeld => ?_)
  clear hK K
  try simp only [Act.put, List.setIfInBounds_toArray, List.set_cons_zero, List.set_cons_succ]
  refine wpAnyH_take (i := 8) (v := ?vr1L1_8) (Fr.take_at rfl) (by kernel_rfl) (by kernel_rfl) (by kernel_rfl) (fun _ _ _ h => h) (Or.inl ⟨by rfl, ?yr1L1_8⟩) (by assumption) ?nr1L1_8
  case yr1L1_8 => (intro w_ hSw; have q0 := HQ.out _ hSw; go_simp; (try with_reducible rfl))
  try simp only [Act.put, List.setIfInBounds_toArray, List.set_cons_zero, List.set_cons_succ]
  refine wpAnyH_done (by kernel_rfl) ?_ _
  rotate_left
  go_simp
  (go_at_call 11; refine (HF.out _ hHeld).mono ?_; rintro e w2 ⟨b1, b2, rfl, hfr, hb2⟩; have hb3 : Below w.heap.size w w2 := (Below.trans hHeld (hb2.mono (Below.size hHeld))); (try have hrow2 := own_belowN (HRW.out w.drew (Nat.le_refl _)) hb2))
  try go_wp2_with fail
  refine hK.out _ _ (by (first | assumption | exact below_drewN (Below.refl _ _) 1 | exact bel_alloc (by assumption) _)) (fun hHeld => ?_)
  clear hK K
  try simp only [Act.put, List.setIfInBounds_toArray, List.set_cons_zero, List.set_cons_succ]
  refine wpAnyH_ready (rs := [4]) (by kernel_rfl) (by simp) ?_
  refine AllReadyH.cons (Fr.take_at rfl) (fun K hK => ?_) AllReadyH.nil
  go_simp
  refine hK.out _ _ (by (first | assumption | exact below_drewN (Below.refl _ _) 1 | exact bel_alloc (by assumption) _)) (fun hHeld => ?_)
  clear hK K
  (try have hfr2 := hfr.alloc (.cells M 30))
  try simp only [Act.put, List.setIfInBounds_toArray, List.set_cons_zero, List.set_cons_succ]
  refine wpAnyH_ready (rs := [7]) (by kernel_rfl) (by simp) ?_
  refine AllReadyH.cons (Fr.take_at rfl) (fun K hK => ?_) AllReadyH.nil
  go_simp
  (go_at_call 21; refine (HS.out w.heap.size b1 b2 _ _ _ (by first | exact hrow2 | exact HRW.out w2 hb3.size) (by assumption) (Below.size hHeld)).mono ?_; rintro e w9 ⟨A9, c9, rfl, hrow9, hb9⟩; have hb10 : Below w.heap.size w w9 := Below.trans hHeld hb9)
  try go_wp2_with fail
  refine hK.out _ _ (by (first | assumption | exact below_drewN (Below.refl _ _) 1 | exact bel_alloc (by assumption) _)) (fun hHeld => ?_)
  clear hK K
  try simp only [Act.put, List.setIfInBounds_toArray, List.set_cons_zero, List.set_cons_succ]
  refine wpAnyH_take (i := 8) (v := ?vr1L2_8) (Fr.take_at rfl) (by kernel_rfl) (by kernel_rfl) (by kernel_rfl) (fun _ _ _ h => h) (Or.inl ⟨by rfl, ?yr1L2_8⟩) (by assumption) ?nr1L2_8
  case yr1L2_8 => (intro w_ hSw; have q0 := HQ.out _ hSw; go_simp; (try with_reducible rfl))
  try simp only [Act.put, List.setIfInBounds_toArray, List.set_cons_zero, List.set_cons_succ]
  refine wpAnyH_done (by kernel_rfl) ?_ _
  rotate_left
  all_goals (try go_wp2)
  all_goals go_ret
  all_goals exact ⟨A9, c9, rfl, hrow9, hb10⟩
end
end Mm
end Go.Proofs.Ytfnfjhfmhinkcaa
