/-
  WHAT IS PROVED: BloomBuilds answers true. CONDITIONS: what came in stands in memory as named.
-/
import Derived.Test.YtalmjpklfkjbmaaBKeep
namespace Go.Proofs.Ytalmjpklfkjbmaa
open Go Go.RowKit
namespace Bl
open Go.Proofs.Ytalmjpklfkjbmaa.Fr
section
variable {w : World} {A : Option Addr} {n c : Nat} {ks : List ByteArray} {per : Int} {key : ByteArray}
set_option maxRecDepth 100000 in
set_option maxHeartbeats 2000000 in
theorem builds_any (hl : ks.length = n) (hnc : n ≤ c) (hr : Rd w A (kv ks)) (hs : ∀ s ∈ ks, s.size ≤ maxLen) (hk : key.size ≤ maxLen) :
    Calls Try.prog 3 #[.slice A n c, .int .i64 per, .string key] w (Yes w) := by
  obtain ⟨ks2, hk2⟩ : ∃ ks2, ks2 = ks.take 200 := ⟨_, rfl⟩
  have hs2 : ∀ s ∈ ks2, s.size ≤ maxLen := fun s h => hs s (List.mem_of_mem_take (by rw [← hk2]; exact h))
  have hl2 : ks2.length ≤ 200 := by rw [hk2, List.length_take]; omega
  have hc := fun W hb => cut_any (w := W) (c := c) hl hnc (hr.below (w' := W) hb)
  rw [← hk2] at hc
  have hc2 : ∀ W B m d, ks2.length = m → m ≤ d → Rd W B (kv ks2) → Calls Try.prog 9 #[.slice B m d] W (KRet W ks2) := fun W B m d h1 h2 h3 => by
    have := cut_any h1 h2 h3
    rwa [List.take_of_length_le hl2] at this
  have hB : ∀ W A m c, ks2.length = m → m ≤ c → Rd W A (kv ks2) → Calls Try.prog 10 #[.slice A m c, .int .i64 per] W (MadeRet 5 W (filt (ks2.map (·.toList)) per)) := fun W A m c h1 h2 h3 => build_any h1 h3 hs2 (by omega) h2
  have hRB : ∀ W A m c, ks2.length = m → Rd W A (kv ks2) → Calls Try.prog 11 #[.slice A m c, .int .i64 per] W (MadeRet 5 W (filt (ks2.map (·.toList)) per)) := fun W A m c h1 h3 => rbuild_any h1 h3 hs2 (by omega)
  have hfl := filt_len (ks2.map (·.toList)) per
  have hsz := sizeOf_le (ks2.map (·.toList)).length per (by rw [List.length_map]; exact hl2)
  obtain ⟨F, hF⟩ : ∃ F, F = filt (ks2.map (·.toList)) per := ⟨_, rfl⟩
  rw [← hF] at hB hRB hfl
  have hF6 : F.length ≤ 601 := by omega
  obtain ⟨t, ht⟩ : ∃ t, may F key.toList = t := ⟨_, rfl⟩
  have hM : ∀ W A c (m : Nat), F.length = m → Rd W A (bv F) → Calls Try.prog 14 #[.slice A m c, .string key] W fun e w' => e = .returned (.bool t) ∧ Below W.heap.size W w' := fun W A c m h1 h2 => by
    rw [← ht]; exact may_any h1 h2 (by omega) hk
  have hRM : ∀ W A c (m : Nat), F.length = m → Rd W A (bv F) → Calls Try.prog 15 #[.slice A m c, .string key] W fun e w' => e = .returned (.bool t) ∧ Below W.heap.size W w' := fun W A c m h1 h2 => by
    rw [← ht]; exact rmay_any h1 h2 (by omega) hk
  have hH := fun W => hash_any key hk W
  have hRH := fun W => rhash_any key hk W
  have hlt := fnv_lt key.toList
  obtain ⟨h, hh⟩ : ∃ h, h = fnv key.toList := ⟨_, rfl⟩
  rw [← hh] at hH hRH hlt
  have hcs := fun (W : World) => run_str (P := Try.prog) W 25 9 5 Try.underlying25 Try.underlying5 Try.underlying9
  have HC := Lib.hid hc
  have HC2 := Lib.hid hc2
  have HB := Lib.hid hB
  have HRB := Lib.hid hRB
  have HM := Lib.hid hM
  have HRM := Lib.hid hRM
  have HH := Lib.hid hH
  have HRH := Lib.hid hRH
  have HCS := Lib.hid hcs
  clear hl hr hs hk2 hs2 hl2 hc hc2 hB hRB hfl hsz hF hF6 hM hRM ht hH hRH hh hcs hk
  go_enter Try.func3, Try.ntmps3
  go_wp2_with (first
    | (go_at_call 8; refine (awake_any w).mono ?_; rintro e w1 ⟨rfl, hb1⟩)
    | (go_at_call_of 9 A; refine (HC.out w1 hb1).mono ?_; rintro e w2 ⟨A2, m2, c2, rfl, hm2, hc2, hown2, hb2⟩; have HO2 := Lib.hid hown2; have HM2 := Lib.hid hm2; have HB2 := Lib.hid (hb1.trans (hb2.mono hb1.size)); clear hm2 hown2 hb1 hb2)
    | (go_at_call_of 9 A2; refine (HC2.out w2 A2 m2 c2 HM2.out hc2 (Rd.own HO2.out)).mono ?_; rintro e w3 ⟨A3, m3, c3, rfl, hm3, hc3, hown3, hb3⟩; have HO3 := Lib.hid hown3; have HM3 := Lib.hid hm3; have HR23 := Lib.hid ((Rd.own HO2.out).below hb3); have HB3 := Lib.hid (HB2.out.trans (hb3.mono HB2.out.size)); clear hm3 hown3 hb3)
    | (go_at_call 10; refine (HB.out w3 A3 m3 c3 HM3.out hc3 (Rd.own HO3.out)).mono ?_; rintro e w4 ⟨v, rfl, A4, m4, c4, rfl, hm4, hc4, hown4, hb4⟩; have HO4 := Lib.hid hown4; have HM4 := Lib.hid hm4; have HR24 := Lib.hid (HR23.out.below hb4); have HB4 := Lib.hid (HB3.out.trans (hb4.mono HB3.out.size)); clear hm4 hown4 hb4))
  have HR4 := Lib.hid (Rd.own HO4.out)
  have hx4 := HCS.out w4.drew A4 m4 c4 F HM4.out HR4.out
  clear hc2 hc3 hc4
  have hwh : IntKind.i64.wrap (h : Int) = (h : Int) := IntWalk.i64_in _ (by omega)
  refine wp_region_held_drew (S := fun W => (convert 25 9 (.slice A4 m4 c4)).run Try.prog W = .ok (.string ⟨F.toArray⟩) W) (by kernel_rfl) (by (first | assumption | go_keep)) (fun hHeld => ?_)
  refine wpAnyH_take (i := 0) (v := ?vr1_0) (Fr.take_at rfl) (by kernel_rfl) (by kernel_rfl) (by kernel_rfl) (fun _ _ _ h => h) (Or.inl ⟨by rfl, ?yr1_0⟩) (by assumption) ?nr1_0
  case yr1_0 => (intro w_ hSw; (try dsimp only at hSw); go_simp; (try with_reducible rfl))
  try simp only [Act.put, List.setIfInBounds_toArray, List.set_cons_zero, List.set_cons_succ]
  refine wpAnyH_take (i := 1) (v := ?vr1_1) (Fr.take_at rfl) (by kernel_rfl) (by kernel_rfl) (by kernel_rfl) (fun _ _ _ h => h) (Or.inl ⟨by rfl, ?yr1_1⟩) (by assumption) ?nr1_1
  case yr1_1 => (intro w_ hSw; (try dsimp only at hSw); go_simp; (try with_reducible rfl))
  try simp only [Act.put, List.setIfInBounds_toArray, List.set_cons_zero, List.set_cons_succ]
  refine wpAnyH_take (i := 2) (v := ?vr1_2) (Fr.take_at rfl) (by kernel_rfl) (by kernel_rfl) (by kernel_rfl) (fun _ _ _ h => h) (Or.inl ⟨by rfl, ?yr1_2⟩) (by assumption) ?nr1_2
  case yr1_2 => (intro w_ hSw; (try dsimp only at hSw); go_simp; (try with_reducible rfl))
  try simp only [Act.put, List.setIfInBounds_toArray, List.set_cons_zero, List.set_cons_succ]
  refine wpAnyH_take (i := 3) (v := ?vr1_3) (Fr.take_at rfl) (by kernel_rfl) (by kernel_rfl) (by kernel_rfl) (fun _ _ _ h => h) (Or.inl ⟨by rfl, ?yr1_3⟩) (by assumption) ?nr1_3
  case yr1_3 => (intro w_ hSw; (try dsimp only at hSw); go_simp; (try with_reducible rfl))
  try simp only [Act.put, List.setIfInBounds_toArray, List.set_cons_zero, List.set_cons_succ]
  refine wpAnyH_ready (rs := [4]) (by kernel_rfl) (by simp) ?_
  refine AllReadyH.cons (Fr.take_at rfl) (fun K hK => ?_) AllReadyH.nil
  go_simp
  (go_at_call 11; refine (HRB.out w4.drew A2 m2 c2 HM2.out HR24.out).mono ?_; rintro e w8 ⟨v, rfl, A8, m8, c8, rfl, hm8, hc8, hown8, hb8⟩; have hy8 := HCS.out w8 A8 m8 c8 F hm8 (Rd.own hown8); have HR48 := Lib.hid (HR4.out.below (below_of_drew hb8)); have hx8 := HCS.out w8 A4 m4 c4 F HM4.out HR48.out; have HB8 := Lib.hid (HB4.out.trans ((below_of_drew hb8).mono HB4.out.size)); clear hm8 hown8 hb8 hc8)
  try go_wp2_with fail
  refine hK.out _ _ (by (first | assumption | go_keep)) (fun hHeld => ?_)
  clear hK K
  try simp only [Act.put, List.setIfInBounds_toArray, List.set_cons_zero, List.set_cons_succ]
  refine wpAnyH_ready (rs := [5]) (by kernel_rfl) (by simp) ?_
  refine AllReadyH.cons (Fr.take_at rfl) (fun K hK => ?_) AllReadyH.nil
  go_simp
  refine hK.out _ _ (by (first | assumption | go_keep)) (fun hHeld => ?_)
  clear hK K
  try simp only [Act.put, List.setIfInBounds_toArray, List.set_cons_zero, List.set_cons_succ]
  refine wpAnyH_take (i := 6) (v := ?vr1_6) (Fr.take_at rfl) (by kernel_rfl) (by kernel_rfl) (by kernel_rfl) (fun _ _ _ h => h) (Or.inl ⟨by rfl, ?yr1_6⟩) (by assumption) ?nr1_6
  case yr1_6 => (intro w_ hSw; (try dsimp only at hSw); go_simp; (try with_reducible rfl))
  try simp only [Act.put, List.setIfInBounds_toArray, List.set_cons_zero, List.set_cons_succ]
  refine wpAnyH_take (i := 7) (v := ?vr1_7) (Fr.take_at rfl) (by kernel_rfl) (by kernel_rfl) (by kernel_rfl) (fun _ _ _ h => h) (Or.inl ⟨by rfl, ?yr1_7⟩) (by assumption) ?nr1_7
  case yr1_7 => (intro w_ hSw; (try dsimp only at hSw); go_simp; (try with_reducible rfl))
  try simp only [Act.put, List.setIfInBounds_toArray, List.set_cons_zero, List.set_cons_succ]
  refine wpAnyH_take (i := 8) (v := ?vr1_8) (Fr.take_at rfl) (by kernel_rfl) (by kernel_rfl) (by kernel_rfl) (fun _ _ _ h => h) (Or.inl ⟨by rfl, ?yr1_8⟩) (by assumption) ?nr1_8
  case yr1_8 => (intro w_ hSw; (try dsimp only at hSw); go_simp; (try with_reducible rfl))
  try simp only [Act.put, List.setIfInBounds_toArray, List.set_cons_zero, List.set_cons_succ]
  refine wpAnyH_take (i := 11) (v := ?vr1_11) (Fr.take_at rfl) (by kernel_rfl) (by kernel_rfl) (by kernel_rfl) (fun _ _ _ h => h) (Or.inl ⟨by rfl, ?yr1_11⟩) (by assumption) ?nr1_11
  case yr1_11 => (intro w_ hSw; (try dsimp only at hSw); go_simp; (try with_reducible rfl))
  try simp only [Act.put, List.setIfInBounds_toArray, List.set_cons_zero, List.set_cons_succ]
  refine wpAnyH_ready (rs := [9]) (by kernel_rfl) (by simp) ?_
  refine AllReadyH.cons (Fr.take_at rfl) (fun K hK => ?_) AllReadyH.nil
  go_simp
  (go_at_call 12; refine (HH.out w8).mono ?_; rintro e w9 ⟨rfl, rfl⟩)
  try go_wp2_with fail
  refine hK.out _ _ (by (first | assumption | go_keep)) (fun hHeld => ?_)
  clear hK K
  try simp only [Act.put, List.setIfInBounds_toArray, List.set_cons_zero, List.set_cons_succ]
  refine wpAnyH_take (i := 10) (v := ?vr1_10) (Fr.take_at rfl) (by kernel_rfl) (by kernel_rfl) (by kernel_rfl) (fun _ _ _ h => h) (Or.inl ⟨by rfl, ?yr1_10⟩) (by assumption) ?nr1_10
  case yr1_10 => (intro w_ hSw; (try dsimp only at hSw); go_simp; (try with_reducible rfl))
  try simp only [Act.put, List.setIfInBounds_toArray, List.set_cons_zero, List.set_cons_succ]
  refine wpAnyH_ready (rs := [12]) (by kernel_rfl) (by simp) ?_
  refine AllReadyH.cons (Fr.take_at rfl) (fun K hK => ?_) AllReadyH.nil
  go_simp
  (go_at_call 13; refine (HRH.out w8).mono ?_; rintro e w10 ⟨rfl, rfl⟩)
  try go_wp2_with fail
  refine hK.out _ _ (by (first | assumption | go_keep)) (fun hHeld => ?_)
  clear hK K
  try simp only [Act.put, List.setIfInBounds_toArray, List.set_cons_zero, List.set_cons_succ]
  refine wpAnyH_take (i := 13) (v := ?vr1_13) (Fr.take_at rfl) (by kernel_rfl) (by kernel_rfl) (by kernel_rfl) (fun _ _ _ h => h) (Or.inl ⟨by rfl, ?yr1_13⟩) (by assumption) ?nr1_13
  case yr1_13 => (intro w_ hSw; (try dsimp only at hSw); go_simp; (try with_reducible rfl))
  try simp only [Act.put, List.setIfInBounds_toArray, List.set_cons_zero, List.set_cons_succ]
  refine wpAnyH_take (i := 14) (v := ?vr1_14) (Fr.take_at rfl) (by kernel_rfl) (by kernel_rfl) (by kernel_rfl) (fun _ _ _ h => h) (Or.inl ⟨by rfl, ?yr1_14⟩) (by assumption) ?nr1_14
  case yr1_14 => (intro w_ hSw; (try dsimp only at hSw); go_simp; (try with_reducible rfl))
  try simp only [Act.put, List.setIfInBounds_toArray, List.set_cons_zero, List.set_cons_succ]
  refine wpAnyH_take (i := 15) (v := ?vr1_15) (Fr.take_at rfl) (by kernel_rfl) (by kernel_rfl) (by kernel_rfl) (fun _ _ _ h => h) (Or.inl ⟨by rfl, ?yr1_15⟩) (by assumption) ?nr1_15
  case yr1_15 => (intro w_ hSw; (try dsimp only at hSw); go_simp; (try with_reducible rfl))
  try simp only [Act.put, List.setIfInBounds_toArray, List.set_cons_zero, List.set_cons_succ]
  refine wpAnyH_take (i := 16) (v := ?vr1_16) (Fr.take_at rfl) (by kernel_rfl) (by kernel_rfl) (by kernel_rfl) (fun _ _ _ h => h) (Or.inl ⟨by rfl, ?yr1_16⟩) (by assumption) ?nr1_16
  case yr1_16 => (intro w_ hSw; (try dsimp only at hSw); go_simp; (try with_reducible rfl))
  try simp only [Act.put, List.setIfInBounds_toArray, List.set_cons_zero, List.set_cons_succ]
  refine wpAnyH_take (i := 17) (v := ?vr1_17) (Fr.take_at rfl) (by kernel_rfl) (by kernel_rfl) (by kernel_rfl) (fun _ _ _ h => h) (Or.inl ⟨by rfl, ?yr1_17⟩) (by assumption) ?nr1_17
  case yr1_17 => (intro w_ hSw; (try dsimp only at hSw); go_simp; (try with_reducible rfl))
  try simp only [Act.put, List.setIfInBounds_toArray, List.set_cons_zero, List.set_cons_succ]
  refine wpAnyH_take (i := 19) (v := ?vr1_19) (Fr.take_at rfl) (by kernel_rfl) (by kernel_rfl) (by kernel_rfl) (fun _ _ _ h => h) (Or.inl ⟨by rfl, ?yr1_19⟩) (by assumption) ?nr1_19
  case yr1_19 => (intro w_ hSw; (try dsimp only at hSw); go_simp; (try with_reducible rfl))
  try simp only [Act.put, List.setIfInBounds_toArray, List.set_cons_zero, List.set_cons_succ]
  refine wpAnyH_take (i := 20) (v := ?vr1_20) (Fr.take_at rfl) (by kernel_rfl) (by kernel_rfl) (by kernel_rfl) (fun _ _ _ h => h) (Or.inl ⟨by rfl, ?yr1_20⟩) (by assumption) ?nr1_20
  case yr1_20 => (intro w_ hSw; (try dsimp only at hSw); go_simp; (try with_reducible rfl))
  try simp only [Act.put, List.setIfInBounds_toArray, List.set_cons_zero, List.set_cons_succ]
  refine wpAnyH_ready (rs := [18]) (by kernel_rfl) (by simp) ?_
  refine AllReadyH.cons (Fr.take_at rfl) (fun K hK => ?_) AllReadyH.nil
  go_simp
  (go_at_call 14; refine (HM.out w8 A4 c4 m4 HM4.out HR48.out).mono ?_; rintro e w11 ⟨rfl, hb11⟩; have HR11 := Lib.hid (HR48.out.below hb11); have hx11 := HCS.out w11 A4 m4 c4 F HM4.out HR11.out; have HB11 := Lib.hid (HB8.out.trans (hb11.mono HB8.out.size)); clear hb11)
  try go_wp2_with fail
  refine hK.out _ _ (by (first | assumption | go_keep)) (fun hHeld => ?_)
  clear hK K
  try simp only [Act.put, List.setIfInBounds_toArray, List.set_cons_zero, List.set_cons_succ]
  refine wpAnyH_ready (rs := [21]) (by kernel_rfl) (by simp) ?_
  refine AllReadyH.cons (Fr.take_at rfl) (fun K hK => ?_) AllReadyH.nil
  go_simp
  (go_at_call 15; refine (HRM.out w11 A4 c4 m4 HM4.out HR11.out).mono ?_; rintro e w12 ⟨rfl, hb12⟩; have hx12 := HCS.out w12 A4 m4 c4 F HM4.out (HR11.out.below hb12); have HB12 := Lib.hid (HB11.out.trans (hb12.mono HB11.out.size)); clear hb12)
  try go_wp2_with fail
  refine hK.out _ _ (by (first | assumption | go_keep)) (fun hHeld => ?_)
  clear hK K
  try simp only [Act.put, List.setIfInBounds_toArray, List.set_cons_zero, List.set_cons_succ]
  refine wpAnyH_take (i := 22) (v := ?vr1_22) (Fr.take_at rfl) (by kernel_rfl) (by kernel_rfl) (by kernel_rfl) (fun _ _ _ h => h) (Or.inl ⟨by rfl, ?yr1_22⟩) (by assumption) ?nr1_22
  case yr1_22 => (intro w_ hSw; (try dsimp only at hSw); go_simp; (try with_reducible rfl))
  try simp only [Act.put, List.setIfInBounds_toArray, List.set_cons_zero, List.set_cons_succ]
  refine wpAnyH_take (i := 23) (v := ?vr1_23) (Fr.take_at rfl) (by kernel_rfl) (by kernel_rfl) (by kernel_rfl) (fun _ _ _ h => h) (Or.inl ⟨by rfl, ?yr1_23⟩) (by assumption) ?nr1_23
  case yr1_23 => (intro w_ hSw; (try dsimp only at hSw); go_simp; (try with_reducible rfl))
  try simp only [Act.put, List.setIfInBounds_toArray, List.set_cons_zero, List.set_cons_succ]
  refine wpAnyH_take (i := 24) (v := ?vr1_24) (Fr.take_at rfl) (by kernel_rfl) (by kernel_rfl) (by kernel_rfl) (fun _ _ _ h => h) (Or.inl ⟨by rfl, ?yr1_24⟩) (by assumption) ?nr1_24
  case yr1_24 => (intro w_ hSw; (try dsimp only at hSw); go_simp; (try with_reducible rfl))
  try simp only [Act.put, List.setIfInBounds_toArray, List.set_cons_zero, List.set_cons_succ]
  refine wpAnyH_done (by kernel_rfl) ?_ _
  go_wp2
  go_ret
  exact Yes.mk HB12.out
end
end Bl
end Go.Proofs.Ytalmjpklfkjbmaa
