/-
  WHAT IS PROVED: (1) what a log's Append does where it must roll. CONDITIONS: the log and its drive are newer than a world in which the library's variables lie as laid. (2) what a log's Append does, all its cases in one. CONDITIONS: the log and its drive are newer than a world in which the library's variables lie as laid.
-/
import Derived.Test.YtbfmjonabndhaaaGreatDoorQWApp
namespace Go.Proofs.YtbfmjonabndhaaaGreatDoor
open Go Go.RowKit Go.Maps Go.Proofs.YtbfmjonabndhaaaGreatDoor.Fr Go.Proofs.YtbfmjonabndhaaaGreatDoor.Dr
namespace Wl

theorem row_on {w w' : World} {X : Nat → Prop} {A : Option Addr} {xs : List Value} (h : Rd w A xs) (hk : ∀ k, Xa X A k → w'.heap[k]? = w.heap[k]?) : Rd w' A xs := fun hx => by
  obtain ⟨b, o, rfl, hb, hc⟩ := h hx
  have hs := hk b (.inr ⟨_, rfl, rfl⟩)
  refine ⟨b, o, rfl, ?_, fun i hi => (World.cell?_of_block hs).trans (hc i hi)⟩
  rw [Array.getElem?_eq_getElem hb] at hs
  exact (Array.getElem?_eq_some_iff.1 hs).1
section
variable {w0 w : World} {X : Nat → Prop} {b d B : Nat} {g : Int} {st : St}
set_option maxHeartbeats 3200000 in
theorem lapp_roll_bad (h : LS w0 w X b d g false st) (hL : Lb B w0) (hok : st.Ok) (hst : st.steps + 1 ≤ 9223372036854775807) (hg1 : 1 ≤ g) (hg : g ≤ 1000000) (A : Option Addr) (n c : Nat) (l : Bs) (hl : l.length = n) (hr : Rd w A (bv l)) (hn : n ≤ 4096) (hz : 0 < st.sizeOf (seg g)) (hf : 1024 < st.sizeOf (seg g) + (sealOf l).length) (hsz : st.sizeOf (seg g) ≤ 262144)
    {g2 n2 : Int} {dead2 : Bool} {st2 : St} {k2 : Nat} (hp : lroll g false st = ((g2, dead2, st2), n2, k2)) (hk : k2 ≠ 0) :
    Calls Tryz.prog 12 #[.pointer (some ⟨b, 0, none⟩), .slice A n c] w (LSOp w0 X b d g2 dead2 (st2, k2) w) := by
  have HS := Lib.hid (ls_seal h hL A n c l hl hr hn)
  obtain ⟨q, hq⟩ : ∃ q, q = (⟨(seg g).toArray⟩ : ByteArray) := ⟨_, rfl⟩
  have HQ := Lib.hid hq
  obtain ⟨s, hs⟩ : ∃ s, s = sealOf l := ⟨_, rfl⟩
  rw [← hs] at HS hf
  have HN := Lib.hid (fun (W : World) (Y : Nat → Prop) (hW : LS w0 W Y b d g false st) => ls_name hW hL g HQ)
  obtain ⟨z, hzz⟩ : ∃ z, z = st.sizeOf (seg g) := ⟨_, rfl⟩
  have HZ := Lib.hid (fun (W : World) (Y : Nat → Prop) (hW : LS w0 W Y b d g false st) => ls_size hW HQ)
  rw [← hzz] at HZ hz hf hsz
  have hz' : (0 : Int) < (z : Int) := by omega
  have HP := Lib.hid (fun (W : World) (Y : Nat → Prop) (hW : LS w0 W Y b d g false st) => lroll_any hW hL hok hst hg1 hg)
  rw [hp] at HP
  have e8 : ((k2 : Int) == 0) = false := by rw [beq_eq_false_iff_ne]; omega
  clear h hL hl hr hq hs hzz hok hst hp
  go_enter Tryz.func12, Tryz.ntmps12
  go_wp2_with (go_at_call 35; ((with_reducible refine HS.out.mono ?_); rintro e w2 ⟨A5, m5, c5, rfl, hm5, h45, hr5, h5, hk5⟩; have q2 := h5.c2; have hS2 := h5.lc; have HM5 := Lib.hid hm5; have HR5 := Lib.hid hr5; have HK5 := Lib.hid hk5; have H5 := Lib.hid h5; clear h5 hr5 hm5 hk5))
  refine wp_region_held_drew (S := LC b d g) (by kernel_rfl) (by (first | (with_reducible assumption) | (with_reducible exact LC.drew (by assumption)))) (fun hHeld => ?_)
  refine wpAnyH_take (i := 0) (v := ?vr1_0) (Fr.take_at rfl) (by kernel_rfl) (by kernel_rfl) (by kernel_rfl) (fun _ _ _ h => h) (Or.inl ⟨by rfl, ?yr1_0⟩) (by assumption) ?nr1_0
  case yr1_0 => (intro w_ hSw; obtain ⟨q0, q1⟩ := hSw; go_simp; (try with_reducible rfl))
  try simp only [Act.put, List.setIfInBounds_toArray, List.set_cons_zero, List.set_cons_succ]
  refine wpAnyH_take (i := 1) (v := ?vr1_1) (Fr.take_at rfl) (by kernel_rfl) (by kernel_rfl) (by kernel_rfl) (fun _ _ _ h => h) (Or.inl ⟨by rfl, ?yr1_1⟩) (by assumption) ?nr1_1
  case yr1_1 => (intro w_ hSw; obtain ⟨q0, q1⟩ := hSw; go_simp; (try with_reducible rfl))
  try simp only [Act.put, List.setIfInBounds_toArray, List.set_cons_zero, List.set_cons_succ]
  refine wpAnyH_take (i := 2) (v := ?vr1_2) (Fr.take_at rfl) (by kernel_rfl) (by kernel_rfl) (by kernel_rfl) (fun _ _ _ h => h) (Or.inl ⟨by rfl, ?yr1_2⟩) (by assumption) ?nr1_2
  case yr1_2 => (intro w_ hSw; obtain ⟨q0, q1⟩ := hSw; go_simp; (try with_reducible rfl))
  try simp only [Act.put, List.setIfInBounds_toArray, List.set_cons_zero, List.set_cons_succ]
  refine wpAnyH_take (i := 3) (v := ?vr1_3) (Fr.take_at rfl) (by kernel_rfl) (by kernel_rfl) (by kernel_rfl) (fun _ _ _ h => h) (Or.inl ⟨by rfl, ?yr1_3⟩) (by assumption) ?nr1_3
  case yr1_3 => (intro w_ hSw; obtain ⟨q0, q1⟩ := hSw; go_simp; (try with_reducible rfl))
  try simp only [Act.put, List.setIfInBounds_toArray, List.set_cons_zero, List.set_cons_succ]
  refine wpAnyH_take (i := 4) (v := ?vr1_4) (Fr.take_at rfl) (by kernel_rfl) (by kernel_rfl) (by kernel_rfl) (fun _ _ _ h => h) (Or.inl ⟨by rfl, ?yr1_4⟩) (by assumption) ?nr1_4
  case yr1_4 => (intro w_ hSw; obtain ⟨q0, q1⟩ := hSw; go_simp; (try with_reducible rfl))
  try simp only [Act.put, List.setIfInBounds_toArray, List.set_cons_zero, List.set_cons_succ]
  refine wpAnyH_take (i := 5) (v := ?vr1_5) (Fr.take_at rfl) (by kernel_rfl) (by kernel_rfl) (by kernel_rfl) (fun _ _ _ h => h) (Or.inl ⟨by rfl, ?yr1_5⟩) (by assumption) ?nr1_5
  case yr1_5 => (intro w_ hSw; obtain ⟨q0, q1⟩ := hSw; go_simp; (try with_reducible rfl))
  try simp only [Act.put, List.setIfInBounds_toArray, List.set_cons_zero, List.set_cons_succ]
  refine wpAnyH_take (i := 6) (v := ?vr1_6) (Fr.take_at rfl) (by kernel_rfl) (by kernel_rfl) (by kernel_rfl) (fun _ _ _ h => h) (Or.inl ⟨by rfl, ?yr1_6⟩) (by assumption) ?nr1_6
  case yr1_6 => (intro w_ hSw; obtain ⟨q0, q1⟩ := hSw; go_simp; (try with_reducible rfl))
  try simp only [Act.put, List.setIfInBounds_toArray, List.set_cons_zero, List.set_cons_succ]
  refine wpAnyH_take (i := 7) (v := ?vr1_7) (Fr.take_at rfl) (by kernel_rfl) (by kernel_rfl) (by kernel_rfl) (fun _ _ _ h => h) (Or.inl ⟨by rfl, ?yr1_7⟩) (by assumption) ?nr1_7
  case yr1_7 => (intro w_ hSw; obtain ⟨q0, q1⟩ := hSw; go_simp; (try with_reducible rfl))
  try simp only [Act.put, List.setIfInBounds_toArray, List.set_cons_zero, List.set_cons_succ]
  refine wpAnyH_ready (rs := [8]) (by kernel_rfl) (by simp) ?_
  refine AllReadyH.cons (Fr.take_at rfl) (fun K hK => ?_) AllReadyH.nil
  go_simp
  (go_at_call 36; refine (HN.out _ _ H5.out.drew).mono ?_; rintro e w3 ⟨rfl, h6, hb6⟩; have hS3 := h6.lc; have H6 := Lib.hid h6; have HB6 := Lib.hid hb6; have HR6 := Lib.hid (HR5.out.below (below_of_drew hb6)); clear h6 hb6)
  try go_wp2_with fail
  refine hK.out _ _ (by (first | (with_reducible assumption) | (with_reducible exact LC.drew (by assumption)))) (fun hHeld => ?_)
  clear hK K
  try simp only [Act.put, List.setIfInBounds_toArray, List.set_cons_zero, List.set_cons_succ]
  refine wpAnyH_ready (rs := [9]) (by kernel_rfl) (by simp) ?_
  refine AllReadyH.cons (Fr.take_at rfl) (fun K hK => ?_) AllReadyH.nil
  go_simp
  (go_at_call 33; refine (HZ.out _ _ H6.out).mono ?_; rintro e w4 ⟨rfl, rfl⟩)
  try go_wp2_with fail
  refine hK.out _ _ (by (first | (with_reducible assumption) | (with_reducible exact LC.drew (by assumption)))) (fun hHeld => ?_)
  clear hK K
  try simp only [Act.put, List.setIfInBounds_toArray, List.set_cons_zero, List.set_cons_succ]
  refine wpAnyH_take (i := 10) (v := ?vr1_10) (Fr.take_at rfl) (by kernel_rfl) (by kernel_rfl) (by kernel_rfl) (fun _ _ _ h => h) (Or.inl ⟨by rfl, ?yr1_10⟩) (by assumption) ?nr1_10
  case yr1_10 => (intro w_ hSw; obtain ⟨q0, q1⟩ := hSw; go_simp; (try with_reducible rfl))
  try simp only [Act.put, List.setIfInBounds_toArray, List.set_cons_zero, List.set_cons_succ]
  refine wpAnyH_done (by kernel_rfl) ?_ _
  obtain ⟨z0, z1⟩ := hS3
  have hf1 : 1024 < z + m5 := by rw [← HM5.out]; exact hf
  have e6 : wrap64 ((z : Int) + (m5 : Int)) = (z : Int) + (m5 : Int) := by unfold wrap64; omega
  have e7 : (1024 : Int) < (z : Int) + (m5 : Int) := by omega
  have hS4 : LC b d g w3 := ⟨z0, z1⟩
  go_wp2_with (go_at_call 37; ((with_reducible refine (HP.out _ _ H6.out).mono ?_); rintro e w8 ⟨rfl, h10, hk10⟩; have q10 := h10.c1; have hS8 := h10.lc; have H10 := Lib.hid h10; have HK10 := Lib.hid hk10; clear h10 hk10))
  go_ret
  exact ⟨rfl, H10.out.weak fun _ hk => .inl hk, fun x hx => (HK10.out x (.inl hx)).trans (((below_of_drew HB6.out).block x (H5.out.xlt (.inl hx))).trans (HK5.out x hx))⟩
set_option maxHeartbeats 3200000 in
theorem lapp_roll_full (h : LS w0 w X b d g false st) (hL : Lb B w0) (hok : st.Ok) (hst : st.steps + 1 ≤ 9223372036854775807) (hg1 : 1 ≤ g) (hg : g ≤ 1000000) (A : Option Addr) (n c : Nat) (l : Bs) (hl : l.length = n) (hr : Rd w A (bv l)) (hn : n ≤ 4096) (hz : 0 < st.sizeOf (seg g)) (hf : 1024 < st.sizeOf (seg g) + (sealOf l).length) (hsz : st.sizeOf (seg g) ≤ 262144)
    {g2 n2 : Int} {dead2 : Bool} {st2 : St} {k2 : Nat} (hp : lroll g false st = ((g2, dead2, st2), n2, k2)) (hk : k2 = 0) (hg2 : 999999 < g2) :
    Calls Tryz.prog 12 #[.pointer (some ⟨b, 0, none⟩), .slice A n c] w (LSOp w0 X b d g2 dead2 (st2, 5) w) := by
  have HS := Lib.hid (ls_seal h hL A n c l hl hr hn)
  obtain ⟨q, hq⟩ : ∃ q, q = (⟨(seg g).toArray⟩ : ByteArray) := ⟨_, rfl⟩
  have HQ := Lib.hid hq
  obtain ⟨s, hs⟩ : ∃ s, s = sealOf l := ⟨_, rfl⟩
  rw [← hs] at HS hf
  have HN := Lib.hid (fun (W : World) (Y : Nat → Prop) (hW : LS w0 W Y b d g false st) => ls_name hW hL g HQ)
  obtain ⟨z, hzz⟩ : ∃ z, z = st.sizeOf (seg g) := ⟨_, rfl⟩
  have HZ := Lib.hid (fun (W : World) (Y : Nat → Prop) (hW : LS w0 W Y b d g false st) => ls_size hW HQ)
  rw [← hzz] at HZ hz hf hsz
  have hz' : (0 : Int) < (z : Int) := by omega
  have HP := Lib.hid (fun (W : World) (Y : Nat → Prop) (hW : LS w0 W Y b d g false st) => lroll_any hW hL hok hst hg1 hg)
  rw [hp] at HP
  have e3 : decide (999999 < g2) = true := decide_eq_true hg2
  subst hk
  clear h hL hl hr hq hs hzz hok hst hp
  go_enter Tryz.func12, Tryz.ntmps12
  go_wp2_with (go_at_call 35; ((with_reducible refine HS.out.mono ?_); rintro e w2 ⟨A5, m5, c5, rfl, hm5, h45, hr5, h5, hk5⟩; have q2 := h5.c2; have hS2 := h5.lc; have HM5 := Lib.hid hm5; have HR5 := Lib.hid hr5; have HK5 := Lib.hid hk5; have H5 := Lib.hid h5; clear h5 hr5 hm5 hk5))
  refine wp_region_held_drew (S := LC b d g) (by kernel_rfl) (by (first | (with_reducible assumption) | (with_reducible exact LC.drew (by assumption)))) (fun hHeld => ?_)
  refine wpAnyH_take (i := 0) (v := ?vr2_0) (Fr.take_at rfl) (by kernel_rfl) (by kernel_rfl) (by kernel_rfl) (fun _ _ _ h => h) (Or.inl ⟨by rfl, ?yr2_0⟩) (by assumption) ?nr2_0
  case yr2_0 => (intro w_ hSw; obtain ⟨q0, q1⟩ := hSw; go_simp; (try with_reducible rfl))
  try simp only [Act.put, List.setIfInBounds_toArray, List.set_cons_zero, List.set_cons_succ]
  refine wpAnyH_take (i := 1) (v := ?vr2_1) (Fr.take_at rfl) (by kernel_rfl) (by kernel_rfl) (by kernel_rfl) (fun _ _ _ h => h) (Or.inl ⟨by rfl, ?yr2_1⟩) (by assumption) ?nr2_1
  case yr2_1 => (intro w_ hSw; obtain ⟨q0, q1⟩ := hSw; go_simp; (try with_reducible rfl))
  try simp only [Act.put, List.setIfInBounds_toArray, List.set_cons_zero, List.set_cons_succ]
  refine wpAnyH_take (i := 2) (v := ?vr2_2) (Fr.take_at rfl) (by kernel_rfl) (by kernel_rfl) (by kernel_rfl) (fun _ _ _ h => h) (Or.inl ⟨by rfl, ?yr2_2⟩) (by assumption) ?nr2_2
  case yr2_2 => (intro w_ hSw; obtain ⟨q0, q1⟩ := hSw; go_simp; (try with_reducible rfl))
  try simp only [Act.put, List.setIfInBounds_toArray, List.set_cons_zero, List.set_cons_succ]
  refine wpAnyH_take (i := 3) (v := ?vr2_3) (Fr.take_at rfl) (by kernel_rfl) (by kernel_rfl) (by kernel_rfl) (fun _ _ _ h => h) (Or.inl ⟨by rfl, ?yr2_3⟩) (by assumption) ?nr2_3
  case yr2_3 => (intro w_ hSw; obtain ⟨q0, q1⟩ := hSw; go_simp; (try with_reducible rfl))
  try simp only [Act.put, List.setIfInBounds_toArray, List.set_cons_zero, List.set_cons_succ]
  refine wpAnyH_take (i := 4) (v := ?vr2_4) (Fr.take_at rfl) (by kernel_rfl) (by kernel_rfl) (by kernel_rfl) (fun _ _ _ h => h) (Or.inl ⟨by rfl, ?yr2_4⟩) (by assumption) ?nr2_4
  case yr2_4 => (intro w_ hSw; obtain ⟨q0, q1⟩ := hSw; go_simp; (try with_reducible rfl))
  try simp only [Act.put, List.setIfInBounds_toArray, List.set_cons_zero, List.set_cons_succ]
  refine wpAnyH_take (i := 5) (v := ?vr2_5) (Fr.take_at rfl) (by kernel_rfl) (by kernel_rfl) (by kernel_rfl) (fun _ _ _ h => h) (Or.inl ⟨by rfl, ?yr2_5⟩) (by assumption) ?nr2_5
  case yr2_5 => (intro w_ hSw; obtain ⟨q0, q1⟩ := hSw; go_simp; (try with_reducible rfl))
  try simp only [Act.put, List.setIfInBounds_toArray, List.set_cons_zero, List.set_cons_succ]
  refine wpAnyH_take (i := 6) (v := ?vr2_6) (Fr.take_at rfl) (by kernel_rfl) (by kernel_rfl) (by kernel_rfl) (fun _ _ _ h => h) (Or.inl ⟨by rfl, ?yr2_6⟩) (by assumption) ?nr2_6
  case yr2_6 => (intro w_ hSw; obtain ⟨q0, q1⟩ := hSw; go_simp; (try with_reducible rfl))
  try simp only [Act.put, List.setIfInBounds_toArray, List.set_cons_zero, List.set_cons_succ]
  refine wpAnyH_take (i := 7) (v := ?vr2_7) (Fr.take_at rfl) (by kernel_rfl) (by kernel_rfl) (by kernel_rfl) (fun _ _ _ h => h) (Or.inl ⟨by rfl, ?yr2_7⟩) (by assumption) ?nr2_7
  case yr2_7 => (intro w_ hSw; obtain ⟨q0, q1⟩ := hSw; go_simp; (try with_reducible rfl))
  try simp only [Act.put, List.setIfInBounds_toArray, List.set_cons_zero, List.set_cons_succ]
  refine wpAnyH_ready (rs := [8]) (by kernel_rfl) (by simp) ?_
  refine AllReadyH.cons (Fr.take_at rfl) (fun K hK => ?_) AllReadyH.nil
  go_simp
  (go_at_call 36; refine (HN.out _ _ H5.out.drew).mono ?_; rintro e w3 ⟨rfl, h6, hb6⟩; have hS3 := h6.lc; have H6 := Lib.hid h6; have HB6 := Lib.hid hb6; have HR6 := Lib.hid (HR5.out.below (below_of_drew hb6)); clear h6 hb6)
  try go_wp2_with fail
  refine hK.out _ _ (by (first | (with_reducible assumption) | (with_reducible exact LC.drew (by assumption)))) (fun hHeld => ?_)
  clear hK K
  try simp only [Act.put, List.setIfInBounds_toArray, List.set_cons_zero, List.set_cons_succ]
  refine wpAnyH_ready (rs := [9]) (by kernel_rfl) (by simp) ?_
  refine AllReadyH.cons (Fr.take_at rfl) (fun K hK => ?_) AllReadyH.nil
  go_simp
  (go_at_call 33; refine (HZ.out _ _ H6.out).mono ?_; rintro e w4 ⟨rfl, rfl⟩)
  try go_wp2_with fail
  refine hK.out _ _ (by (first | (with_reducible assumption) | (with_reducible exact LC.drew (by assumption)))) (fun hHeld => ?_)
  clear hK K
  try simp only [Act.put, List.setIfInBounds_toArray, List.set_cons_zero, List.set_cons_succ]
  refine wpAnyH_take (i := 10) (v := ?vr2_10) (Fr.take_at rfl) (by kernel_rfl) (by kernel_rfl) (by kernel_rfl) (fun _ _ _ h => h) (Or.inl ⟨by rfl, ?yr2_10⟩) (by assumption) ?nr2_10
  case yr2_10 => (intro w_ hSw; obtain ⟨q0, q1⟩ := hSw; go_simp; (try with_reducible rfl))
  try simp only [Act.put, List.setIfInBounds_toArray, List.set_cons_zero, List.set_cons_succ]
  refine wpAnyH_done (by kernel_rfl) ?_ _
  obtain ⟨z0, z1⟩ := hS3
  have hf1 : 1024 < z + m5 := by rw [← HM5.out]; exact hf
  have e6 : wrap64 ((z : Int) + (m5 : Int)) = (z : Int) + (m5 : Int) := by unfold wrap64; omega
  have e7 : (1024 : Int) < (z : Int) + (m5 : Int) := by omega
  have hS4 : LC b d g w3 := ⟨z0, z1⟩
  go_wp2_with (go_at_call 37; ((with_reducible refine (HP.out _ _ H6.out).mono ?_); rintro e w8 ⟨rfl, h10, hk10⟩; have q10 := h10.c1; have hS8 := h10.lc; have H10 := Lib.hid h10; have HK10 := Lib.hid hk10; clear h10 hk10))
  go_ret
  exact ⟨rfl, H10.out.weak fun _ hk => .inl hk, fun x hx => (HK10.out x (.inl hx)).trans (((below_of_drew HB6.out).block x (H5.out.xlt (.inl hx))).trans (HK5.out x hx))⟩
set_option maxHeartbeats 3200000 in
theorem lapp_roll_good (h : LS w0 w X b d g false st) (hL : Lb B w0) (hok : st.Ok) (hst : st.steps + 1 ≤ 9223372036854775807) (hg1 : 1 ≤ g) (hg : g ≤ 1000000) (A : Option Addr) (n c : Nat) (l : Bs) (hl : l.length = n) (hr : Rd w A (bv l)) (hn : n ≤ 4096) (hz : 0 < st.sizeOf (seg g)) (hf : 1024 < st.sizeOf (seg g) + (sealOf l).length) (hsz : st.sizeOf (seg g) ≤ 262144)
    {g2 n2 : Int} {dead2 : Bool} {st2 : St} {k2 : Nat} (hp : lroll g false st = ((g2, dead2, st2), n2, k2)) (hk : k2 = 0) (hg2 : g2 ≤ 999999) (hok2 : st2.Ok) (hst2 : st2.steps + 1 ≤ 9223372036854775807) :
    Calls Tryz.prog 12 #[.pointer (some ⟨b, 0, none⟩), .slice A n c] w (LSOp w0 X b d g2 (dead2 || decide ((st2.append (seg g2) (sealOf l)).2 = 6)) (st2.append (seg g2) (sealOf l)) w) := by
  have HS := Lib.hid (ls_seal h hL A n c l hl hr hn)
  obtain ⟨q, hq⟩ : ∃ q, q = (⟨(seg g).toArray⟩ : ByteArray) := ⟨_, rfl⟩
  have HQ := Lib.hid hq
  obtain ⟨s, hs⟩ : ∃ s, s = sealOf l := ⟨_, rfl⟩
  rw [← hs] at HS hf ⊢
  have HN := Lib.hid (fun (W : World) (Y : Nat → Prop) (hW : LS w0 W Y b d g false st) => ls_name hW hL g HQ)
  obtain ⟨z, hzz⟩ : ∃ z, z = st.sizeOf (seg g) := ⟨_, rfl⟩
  have HZ := Lib.hid (fun (W : World) (Y : Nat → Prop) (hW : LS w0 W Y b d g false st) => ls_size hW HQ)
  rw [← hzz] at HZ hz hf hsz
  have hz' : (0 : Int) < (z : Int) := by omega
  have HP := Lib.hid (fun (W : World) (Y : Nat → Prop) (hW : LS w0 W Y b d g false st) => lroll_any hW hL hok hst hg1 hg)
  rw [hp] at HP
  have e3 : decide (999999 < g2) = false := decide_eq_false (by omega)
  obtain ⟨qb, hqb⟩ : ∃ qb, qb = (⟨(seg g2).toArray⟩ : ByteArray) := ⟨_, rfl⟩
  have HQB := Lib.hid hqb
  have HN2 := Lib.hid (fun (W : World) (Y : Nat → Prop) (hW : LS w0 W Y b d g2 dead2 st2) => ls_name hW hL g2 HQB)
  have HA := Lib.hid (fun (W : World) (A : Option Addr) (m c : Nat) (hW : LS w0 W (Xa X A) b d g2 dead2 st2) (h1 : s.length = m) (h2 : m ≤ maxLen) (h3 : Rd W A (bv s)) => ls_append (c := c) hW hok2 hst2 HQB h1 h2 h3)
  obtain ⟨r, hr'⟩ : ∃ r, r = st2.append (seg g2) s := ⟨_, rfl⟩
  rw [← hr'] at HA ⊢
  obtain ⟨st', k⟩ := r
  subst hk
  clear h hL hl hr hq hs hzz hok hst hp hr' hok2 hst2 hqb
  go_enter Tryz.func12, Tryz.ntmps12
  go_wp2_with (go_at_call 35; ((with_reducible refine HS.out.mono ?_); rintro e w2 ⟨A5, m5, c5, rfl, hm5, h45, hr5, h5, hk5⟩; have q2 := h5.c2; have hS2 := h5.lc; have HM5 := Lib.hid hm5; have HR5 := Lib.hid hr5; have HK5 := Lib.hid hk5; have H5 := Lib.hid h5; clear h5 hr5 hm5 hk5))
  refine wp_region_held_drew (S := LC b d g) (by kernel_rfl) (by (first | (with_reducible assumption) | (with_reducible exact LC.drew (by assumption)))) (fun hHeld => ?_)
  refine wpAnyH_take (i := 0) (v := ?vr3_0) (Fr.take_at rfl) (by kernel_rfl) (by kernel_rfl) (by kernel_rfl) (fun _ _ _ h => h) (Or.inl ⟨by rfl, ?yr3_0⟩) (by assumption) ?nr3_0
  case yr3_0 => (intro w_ hSw; obtain ⟨q0, q1⟩ := hSw; go_simp; (try with_reducible rfl))
  try simp only [Act.put, List.setIfInBounds_toArray, List.set_cons_zero, List.set_cons_succ]
  refine wpAnyH_take (i := 1) (v := ?vr3_1) (Fr.take_at rfl) (by kernel_rfl) (by kernel_rfl) (by kernel_rfl) (fun _ _ _ h => h) (Or.inl ⟨by rfl, ?yr3_1⟩) (by assumption) ?nr3_1
  case yr3_1 => (intro w_ hSw; obtain ⟨q0, q1⟩ := hSw; go_simp; (try with_reducible rfl))
  try simp only [Act.put, List.setIfInBounds_toArray, List.set_cons_zero, List.set_cons_succ]
  refine wpAnyH_take (i := 2) (v := ?vr3_2) (Fr.take_at rfl) (by kernel_rfl) (by kernel_rfl) (by kernel_rfl) (fun _ _ _ h => h) (Or.inl ⟨by rfl, ?yr3_2⟩) (by assumption) ?nr3_2
  case yr3_2 => (intro w_ hSw; obtain ⟨q0, q1⟩ := hSw; go_simp; (try with_reducible rfl))
  try simp only [Act.put, List.setIfInBounds_toArray, List.set_cons_zero, List.set_cons_succ]
  refine wpAnyH_take (i := 3) (v := ?vr3_3) (Fr.take_at rfl) (by kernel_rfl) (by kernel_rfl) (by kernel_rfl) (fun _ _ _ h => h) (Or.inl ⟨by rfl, ?yr3_3⟩) (by assumption) ?nr3_3
  case yr3_3 => (intro w_ hSw; obtain ⟨q0, q1⟩ := hSw; go_simp; (try with_reducible rfl))
  try simp only [Act.put, List.setIfInBounds_toArray, List.set_cons_zero, List.set_cons_succ]
  refine wpAnyH_take (i := 4) (v := ?vr3_4) (Fr.take_at rfl) (by kernel_rfl) (by kernel_rfl) (by kernel_rfl) (fun _ _ _ h => h) (Or.inl ⟨by rfl, ?yr3_4⟩) (by assumption) ?nr3_4
  case yr3_4 => (intro w_ hSw; obtain ⟨q0, q1⟩ := hSw; go_simp; (try with_reducible rfl))
  try simp only [Act.put, List.setIfInBounds_toArray, List.set_cons_zero, List.set_cons_succ]
  refine wpAnyH_take (i := 5) (v := ?vr3_5) (Fr.take_at rfl) (by kernel_rfl) (by kernel_rfl) (by kernel_rfl) (fun _ _ _ h => h) (Or.inl ⟨by rfl, ?yr3_5⟩) (by assumption) ?nr3_5
  case yr3_5 => (intro w_ hSw; obtain ⟨q0, q1⟩ := hSw; go_simp; (try with_reducible rfl))
  try simp only [Act.put, List.setIfInBounds_toArray, List.set_cons_zero, List.set_cons_succ]
  refine wpAnyH_take (i := 6) (v := ?vr3_6) (Fr.take_at rfl) (by kernel_rfl) (by kernel_rfl) (by kernel_rfl) (fun _ _ _ h => h) (Or.inl ⟨by rfl, ?yr3_6⟩) (by assumption) ?nr3_6
  case yr3_6 => (intro w_ hSw; obtain ⟨q0, q1⟩ := hSw; go_simp; (try with_reducible rfl))
  try simp only [Act.put, List.setIfInBounds_toArray, List.set_cons_zero, List.set_cons_succ]
  refine wpAnyH_take (i := 7) (v := ?vr3_7) (Fr.take_at rfl) (by kernel_rfl) (by kernel_rfl) (by kernel_rfl) (fun _ _ _ h => h) (Or.inl ⟨by rfl, ?yr3_7⟩) (by assumption) ?nr3_7
  case yr3_7 => (intro w_ hSw; obtain ⟨q0, q1⟩ := hSw; go_simp; (try with_reducible rfl))
  try simp only [Act.put, List.setIfInBounds_toArray, List.set_cons_zero, List.set_cons_succ]
  refine wpAnyH_ready (rs := [8]) (by kernel_rfl) (by simp) ?_
  refine AllReadyH.cons (Fr.take_at rfl) (fun K hK => ?_) AllReadyH.nil
  go_simp
  (go_at_call 36; refine (HN.out _ _ H5.out.drew).mono ?_; rintro e w3 ⟨rfl, h6, hb6⟩; have hS3 := h6.lc; have H6 := Lib.hid h6; have HB6 := Lib.hid hb6; have HR6 := Lib.hid (HR5.out.below (below_of_drew hb6)); clear h6 hb6)
  try go_wp2_with fail
  refine hK.out _ _ (by (first | (with_reducible assumption) | (with_reducible exact LC.drew (by assumption)))) (fun hHeld => ?_)
  clear hK K
  try simp only [Act.put, List.setIfInBounds_toArray, List.set_cons_zero, List.set_cons_succ]
  refine wpAnyH_ready (rs := [9]) (by kernel_rfl) (by simp) ?_
  refine AllReadyH.cons (Fr.take_at rfl) (fun K hK => ?_) AllReadyH.nil
  go_simp
  (go_at_call 33; refine (HZ.out _ _ H6.out).mono ?_; rintro e w4 ⟨rfl, rfl⟩)
  try go_wp2_with fail
  refine hK.out _ _ (by (first | (with_reducible assumption) | (with_reducible exact LC.drew (by assumption)))) (fun hHeld => ?_)
  clear hK K
  try simp only [Act.put, List.setIfInBounds_toArray, List.set_cons_zero, List.set_cons_succ]
  refine wpAnyH_take (i := 10) (v := ?vr3_10) (Fr.take_at rfl) (by kernel_rfl) (by kernel_rfl) (by kernel_rfl) (fun _ _ _ h => h) (Or.inl ⟨by rfl, ?yr3_10⟩) (by assumption) ?nr3_10
  case yr3_10 => (intro w_ hSw; obtain ⟨q0, q1⟩ := hSw; go_simp; (try with_reducible rfl))
  try simp only [Act.put, List.setIfInBounds_toArray, List.set_cons_zero, List.set_cons_succ]
  refine wpAnyH_done (by kernel_rfl) ?_ _
  obtain ⟨z0, z1⟩ := hS3
  have hf1 : 1024 < z + m5 := by rw [← HM5.out]; exact hf
  have e6 : wrap64 ((z : Int) + (m5 : Int)) = (z : Int) + (m5 : Int) := by unfold wrap64; omega
  have e7 : (1024 : Int) < (z : Int) + (m5 : Int) := by omega
  have hS4 : LC b d g w3 := ⟨z0, z1⟩
  go_upto_region 13 with (go_at_call 37; ((with_reducible refine (HP.out _ _ H6.out).mono ?_); rintro e w8 ⟨rfl, h10, hk10⟩; have q10 := h10.c1; have hS8 := h10.lc; have H10 := Lib.hid h10; have HK10 := Lib.hid hk10; have HR10 := Lib.hid (row_on HR6.out hk10); clear h10 hk10))
  refine wp_region_held_drew (S := LC b d g2) (by kernel_rfl) (by (first | (with_reducible assumption) | (with_reducible exact LC.drew (by assumption)))) (fun hHeld => ?_)
  refine wpAnyH_take (i := 0) (v := ?vr4_0) (Fr.take_at rfl) (by kernel_rfl) (by kernel_rfl) (by kernel_rfl) (fun _ _ _ h => h) (Or.inl ⟨by rfl, ?yr4_0⟩) (by assumption) ?nr4_0
  case yr4_0 => (intro w_ hSw; obtain ⟨q0, q1⟩ := hSw; go_simp; (try with_reducible rfl))
  try simp only [Act.put, List.setIfInBounds_toArray, List.set_cons_zero, List.set_cons_succ]
  refine wpAnyH_take (i := 1) (v := ?vr4_1) (Fr.take_at rfl) (by kernel_rfl) (by kernel_rfl) (by kernel_rfl) (fun _ _ _ h => h) (Or.inl ⟨by rfl, ?yr4_1⟩) (by assumption) ?nr4_1
  case yr4_1 => (intro w_ hSw; obtain ⟨q0, q1⟩ := hSw; go_simp; (try with_reducible rfl))
  try simp only [Act.put, List.setIfInBounds_toArray, List.set_cons_zero, List.set_cons_succ]
  refine wpAnyH_take (i := 2) (v := ?vr4_2) (Fr.take_at rfl) (by kernel_rfl) (by kernel_rfl) (by kernel_rfl) (fun _ _ _ h => h) (Or.inl ⟨by rfl, ?yr4_2⟩) (by assumption) ?nr4_2
  case yr4_2 => (intro w_ hSw; obtain ⟨q0, q1⟩ := hSw; go_simp; (try with_reducible rfl))
  try simp only [Act.put, List.setIfInBounds_toArray, List.set_cons_zero, List.set_cons_succ]
  refine wpAnyH_take (i := 3) (v := ?vr4_3) (Fr.take_at rfl) (by kernel_rfl) (by kernel_rfl) (by kernel_rfl) (fun _ _ _ h => h) (Or.inl ⟨by rfl, ?yr4_3⟩) (by assumption) ?nr4_3
  case yr4_3 => (intro w_ hSw; obtain ⟨q0, q1⟩ := hSw; go_simp; (try with_reducible rfl))
  try simp only [Act.put, List.setIfInBounds_toArray, List.set_cons_zero, List.set_cons_succ]
  refine wpAnyH_take (i := 4) (v := ?vr4_4) (Fr.take_at rfl) (by kernel_rfl) (by kernel_rfl) (by kernel_rfl) (fun _ _ _ h => h) (Or.inl ⟨by rfl, ?yr4_4⟩) (by assumption) ?nr4_4
  case yr4_4 => (intro w_ hSw; obtain ⟨q0, q1⟩ := hSw; go_simp; (try with_reducible rfl))
  try simp only [Act.put, List.setIfInBounds_toArray, List.set_cons_zero, List.set_cons_succ]
  refine wpAnyH_take (i := 5) (v := ?vr4_5) (Fr.take_at rfl) (by kernel_rfl) (by kernel_rfl) (by kernel_rfl) (fun _ _ _ h => h) (Or.inl ⟨by rfl, ?yr4_5⟩) (by assumption) ?nr4_5
  case yr4_5 => (intro w_ hSw; obtain ⟨q0, q1⟩ := hSw; go_simp; (try with_reducible rfl))
  try simp only [Act.put, List.setIfInBounds_toArray, List.set_cons_zero, List.set_cons_succ]
  refine wpAnyH_take (i := 6) (v := ?vr4_6) (Fr.take_at rfl) (by kernel_rfl) (by kernel_rfl) (by kernel_rfl) (fun _ _ _ h => h) (Or.inl ⟨by rfl, ?yr4_6⟩) (by assumption) ?nr4_6
  case yr4_6 => (intro w_ hSw; obtain ⟨q0, q1⟩ := hSw; go_simp; (try with_reducible rfl))
  try simp only [Act.put, List.setIfInBounds_toArray, List.set_cons_zero, List.set_cons_succ]
  refine wpAnyH_take (i := 7) (v := ?vr4_7) (Fr.take_at rfl) (by kernel_rfl) (by kernel_rfl) (by kernel_rfl) (fun _ _ _ h => h) (Or.inl ⟨by rfl, ?yr4_7⟩) (by assumption) ?nr4_7
  case yr4_7 => (intro w_ hSw; obtain ⟨q0, q1⟩ := hSw; go_simp; (try with_reducible rfl))
  try simp only [Act.put, List.setIfInBounds_toArray, List.set_cons_zero, List.set_cons_succ]
  refine wpAnyH_take (i := 8) (v := ?vr4_8) (Fr.take_at rfl) (by kernel_rfl) (by kernel_rfl) (by kernel_rfl) (fun _ _ _ h => h) (Or.inl ⟨by rfl, ?yr4_8⟩) (by assumption) ?nr4_8
  case yr4_8 => (intro w_ hSw; obtain ⟨q0, q1⟩ := hSw; go_simp; (try with_reducible rfl))
  try simp only [Act.put, List.setIfInBounds_toArray, List.set_cons_zero, List.set_cons_succ]
  refine wpAnyH_take (i := 10) (v := ?vr4_10) (Fr.take_at rfl) (by kernel_rfl) (by kernel_rfl) (by kernel_rfl) (fun _ _ _ h => h) (Or.inl ⟨by rfl, ?yr4_10⟩) (by assumption) ?nr4_10
  case yr4_10 => (intro w_ hSw; obtain ⟨q0, q1⟩ := hSw; go_simp; (try with_reducible rfl))
  try simp only [Act.put, List.setIfInBounds_toArray, List.set_cons_zero, List.set_cons_succ]
  refine wpAnyH_ready (rs := [9]) (by kernel_rfl) (by simp) ?_
  refine AllReadyH.cons (Fr.take_at rfl) (fun K hK => ?_) AllReadyH.nil
  go_simp
  (go_at_call 36; refine (HN2.out _ _ H10.out.drew).mono ?_; rintro e w5 ⟨rfl, h7, hb7⟩; have hS5 := h7.lc; have H7 := Lib.hid h7; have HB7 := Lib.hid hb7; have HR7 := Lib.hid (HR10.out.below (below_of_drew hb7)); clear h7 hb7)
  try go_wp2_with fail
  refine hK.out _ _ (by (first | (with_reducible assumption) | (with_reducible exact LC.drew (by assumption)))) (fun hHeld => ?_)
  clear hK K
  try simp only [Act.put, List.setIfInBounds_toArray, List.set_cons_zero, List.set_cons_succ]
  refine wpAnyH_ready (rs := [11]) (by kernel_rfl) (by simp) ?_
  refine AllReadyH.cons (Fr.take_at rfl) (fun K hK => ?_) AllReadyH.nil
  go_simp
  (go_at_call 39; refine (HA.out _ A5 m5 c5 H7.out HM5.out (le_max h45) HR7.out).mono ?_; rintro e w6 ⟨rfl, h8, hk8⟩; have hS6 := h8.lc; have H8 := Lib.hid h8; have HK8 := Lib.hid hk8; clear h8 hk8)
  try go_wp2_with fail
  refine hK.out _ _ (by (first | (with_reducible assumption) | (with_reducible exact LC.drew (by assumption)))) (fun hHeld => ?_)
  clear hK K
  try simp only [Act.put, List.setIfInBounds_toArray, List.set_cons_zero, List.set_cons_succ]
  refine wpAnyH_ready (rs := [12]) (by kernel_rfl) (by simp) ?_
  refine AllReadyH.cons (Fr.take_at rfl) (fun K hK => ?_) AllReadyH.nil
  go_simp
  (go_at_call 38; refine (ls_noted H8.out k).mono ?_; rintro e w7 ⟨rfl, h9, hk9⟩; have hS7 := h9.lc; have H9 := Lib.hid h9; have HK9 := Lib.hid hk9; clear h9 hk9)
  try go_wp2_with fail
  refine hK.out _ _ (by (first | (with_reducible assumption) | (with_reducible exact LC.drew (by assumption)))) (fun hHeld => ?_)
  clear hK K
  try simp only [Act.put, List.setIfInBounds_toArray, List.set_cons_zero, List.set_cons_succ]
  refine wpAnyH_take (i := 13) (v := ?vr4_13) (Fr.take_at rfl) (by kernel_rfl) (by kernel_rfl) (by kernel_rfl) (fun _ _ _ h => h) (Or.inl ⟨by rfl, ?yr4_13⟩) (by assumption) ?nr4_13
  case yr4_13 => (intro w_ hSw; obtain ⟨q0, q1⟩ := hSw; go_simp; (try with_reducible rfl))
  try simp only [Act.put, List.setIfInBounds_toArray, List.set_cons_zero, List.set_cons_succ]
  refine wpAnyH_done (by kernel_rfl) ?_ _
  go_wp2
  go_ret
  refine ⟨rfl, H9.out.weak fun _ hk => .inl hk, fun x hx => ?_⟩
  have y1 : x < w2.heap.size := H5.out.xlt (.inl hx)
  have y2 : x < w8.heap.size := H10.out.xlt (.inl hx)
  exact (HK9.out x (.inl hx)).trans ((HK8.out x (.inl hx)).trans (((below_of_drew HB7.out).block x y2).trans ((HK10.out x (.inl hx)).trans (((below_of_drew HB6.out).block x y1).trans (HK5.out x hx)))))
end

end Wl
end Go.Proofs.YtbfmjonabndhaaaGreatDoor
namespace Go.Proofs.YtbfmjonabndhaaaGreatDoor
open Go Go.RowKit Go.Maps Go.Proofs.YtbfmjonabndhaaaGreatDoor.Fr Go.Proofs.YtbfmjonabndhaaaGreatDoor.Dr
namespace Wl

/-- A payload is put into the log's segment. -/
def lput (g : Int) (dead : Bool) (st : St) (l : Bs) : (Int × Bool × St) × Nat :=
  if 999999 < g then ((g, dead, st), 5) else ((g, dead || decide ((st.append (seg g) (sealOf l)).2 = 6), (st.append (seg g) (sealOf l)).1), (st.append (seg g) (sealOf l)).2)
/-- What Append does. -/
def lapp (g : Int) (dead : Bool) (st : St) (l : Bs) : (Int × Bool × St) × Nat :=
  if 4096 < l.length then ((g, dead, st), 3)
  else if dead then ((g, dead, st), 6)
  else if 0 < st.sizeOf (seg g) ∧ 1024 < st.sizeOf (seg g) + (sealOf l).length then
    if (lroll g dead st).2.2 = 0 then lput (lroll g dead st).1.1 (lroll g dead st).1.2.1 (lroll g dead st).1.2.2 l else ((lroll g dead st).1, (lroll g dead st).2.2)
  else lput g dead st l
def LAppRet (w0 : World) (X : Nat → Prop) (b d : Nat) (p : (Int × Bool × St) × Nat) (w : World) : Ending → World → Prop := LSOp w0 X b d p.1.1 p.1.2.1 (p.1.2.2, p.2) w
section
variable {w0 w : World} {X : Nat → Prop} {b d B : Nat} {g : Int} {dead : Bool} {st : St}
set_option maxHeartbeats 3200000 in
theorem lapp_full (h : LS w0 w X b d g false st) (hL : Lb B w0) (hg : 999999 < g) (A : Option Addr) (n c : Nat) (l : Bs) (hl : l.length = n) (hr : Rd w A (bv l)) (hn : n ≤ 4096) (hz : st.sizeOf (seg g) = 0) :
    Calls Tryz.prog 12 #[.pointer (some ⟨b, 0, none⟩), .slice A n c] w (LSOp w0 X b d g false (st, 5) w) := by
  have HS := Lib.hid (ls_seal h hL A n c l hl hr hn)
  obtain ⟨q, hq⟩ : ∃ q, q = (⟨(seg g).toArray⟩ : ByteArray) := ⟨_, rfl⟩
  have HQ := Lib.hid hq
  obtain ⟨s, hs⟩ : ∃ s, s = sealOf l := ⟨_, rfl⟩
  rw [← hs] at HS
  have HN := Lib.hid (fun (W : World) (Y : Nat → Prop) (hW : LS w0 W Y b d g false st) => ls_name hW hL g HQ)
  have HZ := Lib.hid (fun (W : World) (Y : Nat → Prop) (hW : LS w0 W Y b d g false st) => hz ▸ ls_size hW HQ)
  have e3 : decide (999999 < g) = true := decide_eq_true hg
  clear h hL hl hr hq hs hz
  go_enter Tryz.func12, Tryz.ntmps12
  go_wp2_with (go_at_call 35; ((with_reducible refine HS.out.mono ?_); rintro e w2 ⟨A5, m5, c5, rfl, hm5, h45, hr5, h5, hk5⟩; have q2 := h5.c2; have hS2 := h5.lc; have HM5 := Lib.hid hm5; have HR5 := Lib.hid hr5; have HK5 := Lib.hid hk5; have H5 := Lib.hid h5; clear h5 hr5 hm5 hk5))
  refine wp_region_held_drew (S := LC b d g) (by kernel_rfl) (by (first | (with_reducible assumption) | (with_reducible exact LC.drew (by assumption)))) (fun hHeld => ?_)
  refine wpAnyH_take (i := 0) (v := ?vr1_0) (Fr.take_at rfl) (by kernel_rfl) (by kernel_rfl) (by kernel_rfl) (fun _ _ _ h => h) (Or.inl ⟨by rfl, ?yr1_0⟩) (by assumption) ?nr1_0
  case yr1_0 => (intro w_ hSw; obtain ⟨q0, q1⟩ := hSw; go_simp; (try with_reducible rfl))
  try simp only [Act.put, List.setIfInBounds_toArray, List.set_cons_zero, List.set_cons_succ]
  refine wpAnyH_take (i := 1) (v := ?vr1_1) (Fr.take_at rfl) (by kernel_rfl) (by kernel_rfl) (by kernel_rfl) (fun _ _ _ h => h) (Or.inl ⟨by rfl, ?yr1_1⟩) (by assumption) ?nr1_1
  case yr1_1 => (intro w_ hSw; obtain ⟨q0, q1⟩ := hSw; go_simp; (try with_reducible rfl))
  try simp only [Act.put, List.setIfInBounds_toArray, List.set_cons_zero, List.set_cons_succ]
  refine wpAnyH_take (i := 2) (v := ?vr1_2) (Fr.take_at rfl) (by kernel_rfl) (by kernel_rfl) (by kernel_rfl) (fun _ _ _ h => h) (Or.inl ⟨by rfl, ?yr1_2⟩) (by assumption) ?nr1_2
  case yr1_2 => (intro w_ hSw; obtain ⟨q0, q1⟩ := hSw; go_simp; (try with_reducible rfl))
  try simp only [Act.put, List.setIfInBounds_toArray, List.set_cons_zero, List.set_cons_succ]
  refine wpAnyH_take (i := 3) (v := ?vr1_3) (Fr.take_at rfl) (by kernel_rfl) (by kernel_rfl) (by kernel_rfl) (fun _ _ _ h => h) (Or.inl ⟨by rfl, ?yr1_3⟩) (by assumption) ?nr1_3
  case yr1_3 => (intro w_ hSw; obtain ⟨q0, q1⟩ := hSw; go_simp; (try with_reducible rfl))
  try simp only [Act.put, List.setIfInBounds_toArray, List.set_cons_zero, List.set_cons_succ]
  refine wpAnyH_take (i := 4) (v := ?vr1_4) (Fr.take_at rfl) (by kernel_rfl) (by kernel_rfl) (by kernel_rfl) (fun _ _ _ h => h) (Or.inl ⟨by rfl, ?yr1_4⟩) (by assumption) ?nr1_4
  case yr1_4 => (intro w_ hSw; obtain ⟨q0, q1⟩ := hSw; go_simp; (try with_reducible rfl))
  try simp only [Act.put, List.setIfInBounds_toArray, List.set_cons_zero, List.set_cons_succ]
  refine wpAnyH_take (i := 5) (v := ?vr1_5) (Fr.take_at rfl) (by kernel_rfl) (by kernel_rfl) (by kernel_rfl) (fun _ _ _ h => h) (Or.inl ⟨by rfl, ?yr1_5⟩) (by assumption) ?nr1_5
  case yr1_5 => (intro w_ hSw; obtain ⟨q0, q1⟩ := hSw; go_simp; (try with_reducible rfl))
  try simp only [Act.put, List.setIfInBounds_toArray, List.set_cons_zero, List.set_cons_succ]
  refine wpAnyH_take (i := 6) (v := ?vr1_6) (Fr.take_at rfl) (by kernel_rfl) (by kernel_rfl) (by kernel_rfl) (fun _ _ _ h => h) (Or.inl ⟨by rfl, ?yr1_6⟩) (by assumption) ?nr1_6
  case yr1_6 => (intro w_ hSw; obtain ⟨q0, q1⟩ := hSw; go_simp; (try with_reducible rfl))
  try simp only [Act.put, List.setIfInBounds_toArray, List.set_cons_zero, List.set_cons_succ]
  refine wpAnyH_take (i := 7) (v := ?vr1_7) (Fr.take_at rfl) (by kernel_rfl) (by kernel_rfl) (by kernel_rfl) (fun _ _ _ h => h) (Or.inl ⟨by rfl, ?yr1_7⟩) (by assumption) ?nr1_7
  case yr1_7 => (intro w_ hSw; obtain ⟨q0, q1⟩ := hSw; go_simp; (try with_reducible rfl))
  try simp only [Act.put, List.setIfInBounds_toArray, List.set_cons_zero, List.set_cons_succ]
  refine wpAnyH_ready (rs := [8]) (by kernel_rfl) (by simp) ?_
  refine AllReadyH.cons (Fr.take_at rfl) (fun K hK => ?_) AllReadyH.nil
  go_simp
  (go_at_call 36; refine (HN.out _ _ H5.out.drew).mono ?_; rintro e w3 ⟨rfl, h6, hb6⟩; have hS3 := h6.lc; have H6 := Lib.hid h6; have HB6 := Lib.hid hb6; have HR6 := Lib.hid (HR5.out.below (below_of_drew hb6)); clear h6 hb6)
  try go_wp2_with fail
  refine hK.out _ _ (by (first | (with_reducible assumption) | (with_reducible exact LC.drew (by assumption)))) (fun hHeld => ?_)
  clear hK K
  try simp only [Act.put, List.setIfInBounds_toArray, List.set_cons_zero, List.set_cons_succ]
  refine wpAnyH_ready (rs := [9]) (by kernel_rfl) (by simp) ?_
  refine AllReadyH.cons (Fr.take_at rfl) (fun K hK => ?_) AllReadyH.nil
  go_simp
  (go_at_call 33; refine (HZ.out _ _ H6.out).mono ?_; rintro e w4 ⟨rfl, rfl⟩)
  try go_wp2_with fail
  refine hK.out _ _ (by (first | (with_reducible assumption) | (with_reducible exact LC.drew (by assumption)))) (fun hHeld => ?_)
  clear hK K
  try simp only [Act.put, List.setIfInBounds_toArray, List.set_cons_zero, List.set_cons_succ]
  refine wpAnyH_take (i := 10) (v := ?vr1_10) (Fr.take_at rfl) (by kernel_rfl) (by kernel_rfl) (by kernel_rfl) (fun _ _ _ h => h) (Or.inl ⟨by rfl, ?yr1_10⟩) (by assumption) ?nr1_10
  case yr1_10 => (intro w_ hSw; obtain ⟨q0, q1⟩ := hSw; go_simp; (try with_reducible rfl))
  try simp only [Act.put, List.setIfInBounds_toArray, List.set_cons_zero, List.set_cons_succ]
  refine wpAnyH_done (by kernel_rfl) ?_ _
  obtain ⟨z0, z1⟩ := hS3
  go_wp2
  go_ret
  exact ⟨rfl, H6.out.weak fun _ hk => .inl hk, fun x hx => ((below_of_drew HB6.out).block x (H5.out.xlt (.inl hx))).trans (HK5.out x hx)⟩

theorem sync_steps (st : St) (n : Bs) : (st.sync n).1.steps ≤ st.steps + 1 := by
  unfold St.sync
  repeat' split
  all_goals simp [St.step]
theorem lsync_ok (hok : st.Ok) : (lsync g dead st).2.1.Ok ∧ (lsync g dead st).2.1.steps ≤ st.steps + 1 := by
  unfold lsync
  split
  · exact ⟨hok, by simp⟩
  · split
    · exact ⟨hok, by simp⟩
    · exact ⟨hok.sync _, sync_steps _ _⟩
theorem lroll_ok (hok : st.Ok) : (lroll g dead st).1.2.2.Ok ∧ (lroll g dead st).1.2.2.steps ≤ st.steps + 1 := by
  unfold lroll
  split <;> exact lsync_ok hok
theorem size_le (hok : st.Ok) (n : Bs) : st.sizeOf n ≤ 262144 := by
  unfold St.sizeOf
  split
  · next f hf => exact (hok.file f (find_some hf).1).1
  · omega
theorem size_out (hok : st.Ok) (hg : 999999 < g) : st.sizeOf (seg g) = 0 := by
  rw [seg_out (by omega)]
  unfold St.sizeOf
  split
  · next f hf =>
    have h1 := (hok.file f (find_some hf).1).2.2
    rw [(find_some hf).2] at h1
    simp [nameOk] at h1
  · rfl
theorem lapp_any (h : LS w0 w X b d g dead st) (hL : Lb B w0) (hok : st.Ok) (hst : st.steps + 2 ≤ 9223372036854775807) (hg1 : 1 ≤ g) (hg : g ≤ 1000000) (A : Option Addr) (n c : Nat) (l : Bs) (hl : l.length = n) (hr : Rd w A (bv l)) :
    Calls Tryz.prog 12 #[.pointer (some ⟨b, 0, none⟩), .slice A n c] w (LAppRet w0 X b d (lapp g dead st l) w) := by
  unfold lapp
  by_cases hn : 4096 < l.length
  · rw [if_pos hn]; exact lapp_long h A n c (by omega)
  rw [if_neg hn]
  cases dead with
  | true => exact lapp_dead h hL A n c l hl hr (by omega)
  | false =>
    rw [if_neg (by simp)]
    by_cases hz : 0 < st.sizeOf (seg g) ∧ 1024 < st.sizeOf (seg g) + (sealOf l).length
    · rw [if_pos hz]
      have h2 := lroll_ok (g := g) (dead := false) hok
      obtain ⟨⟨⟨g2, dead2, st2⟩, n2, k2⟩, hp⟩ : ∃ p, lroll g false st = p := ⟨_, rfl⟩
      rw [hp] at h2 ⊢
      simp only at h2 ⊢
      by_cases hk : k2 = 0
      · rw [if_pos hk]
        unfold lput
        by_cases hg2 : 999999 < g2
        · rw [if_pos hg2]; exact lapp_roll_full h hL hok (by omega) hg1 hg A n c l hl hr (by omega) hz.1 hz.2 (size_le hok _) hp hk hg2
        · rw [if_neg hg2]; exact lapp_roll_good h hL hok (by omega) hg1 hg A n c l hl hr (by omega) hz.1 hz.2 (size_le hok _) hp hk (Int.not_lt.1 hg2) h2.1 (by omega)
      · rw [if_neg hk]; exact lapp_roll_bad h hL hok (by omega) hg1 hg A n c l hl hr (by omega) hz.1 hz.2 (size_le hok _) hp hk
    · rw [if_neg hz]
      unfold lput
      by_cases hg2 : 999999 < g
      · rw [if_pos hg2]; exact lapp_full h hL hg2 A n c l hl hr (by omega) (size_out hok hg2)
      · rw [if_neg hg2]
        rcases Nat.eq_zero_or_pos (st.sizeOf (seg g)) with h0 | h0
        · exact lapp_stay h hL hok (by omega) (by omega) A n c l hl hr (by omega) h0
        · exact lapp_room h hL hok (by omega) (by omega) A n c l hl hr (by omega) h0 (by omega)
end

end Wl
end Go.Proofs.YtbfmjonabndhaaaGreatDoor
