/-
  WHAT IS PROVED: (1) what a log's Append does, where it needn't roll. CONDITIONS: the log and its drive are newer than a world in which the library's variables lie as laid.
-/
import Derived.Test.YtbfmjonabndhaaaGreatDoorQWRoll
import Derived.Test.YtbfmjonabndhaaaGreatDoorQTorn
import Derived.Deep.RegionHeld3
import Derived.Deep.RegionWith
namespace Go.Proofs.YtbfmjonabndhaaaGreatDoor
open Go Go.RowKit Go.Maps Go.Proofs.YtbfmjonabndhaaaGreatDoor.Fr Go.Proofs.YtbfmjonabndhaaaGreatDoor.Dr
namespace Wl

/-- The two cells of a log that its calls read. -/
def LC (b d : Nat) (g : Int) (w : World) : Prop := w.cell? ⟨b, 0, none⟩ = some (.pointer (some ⟨d, 0, none⟩)) ∧ w.cell? ⟨b, 1, none⟩ = some (.int .i64 g)
/-- .. and the blocks of this row. -/
def Xa (X : Nat → Prop) (A : Option Addr) (k : Nat) : Prop := X k ∨ ∃ a, A = some a ∧ a.block = k
section
variable {w0 w w' : World} {X : Nat → Prop} {b d B : Nat} {g : Int} {dead : Bool} {st : St}
theorem LC.drew (h : LC b d g w) : LC b d g w.drew := h
theorem LS.lc (h : LS w0 w X b d g dead st) : LC b d g w := ⟨h.c0, h.c1⟩
theorem LS.drew (h : LS w0 w X b d g dead st) : LS w0 w.drew X b d g dead st := h.below (Below.refl _ _).drew
theorem LS.row (h : LS w0 w X b d g dead st) {A : Option Addr} {n c : Nat} {xs : List Value} (hb : Below w.heap.size w w') (hr : w'.ownsRow w.heap.size 5 1 (.slice A n c) n xs) : LS w0 w' (Xa X A) b d g dead st := by
  have hx : ∀ a, A = some a → w.heap.size ≤ a.block ∧ a.block < w'.heap.size := by
    rintro a rfl
    exact hr.lt a.block rfl
  refine ⟨h.ds.add hb fun k hk => ?_, h.log.same (hb.block b h.log.lt), h.new, ?_⟩
  · rcases hk with (hk | ⟨a, e, rfl⟩) | hk
    · exact .inl (.inl hk)
    · exact .inr (hx a e)
    · exact .inl (.inr hk)
  · rintro (hk | ⟨a, e, he⟩)
    · exact h.off hk
    · have := (hx a e).1; have := h.log.lt; omega
theorem LS.weak {X' : Nat → Prop} (h : LS w0 w X b d g dead st) (hx : ∀ k, X' k → X k) : LS w0 w X' b d g dead st :=
  ⟨h.ds.weak fun k hk => hk.elim (fun e => .inl (hx k e)) .inr, h.log, h.new, fun e => h.off (hx b e)⟩
theorem ls_size (h : LS w0 w X b d g dead st) {n : Int} {q : ByteArray} (HQ : Hid (q = (⟨(seg n).toArray⟩ : ByteArray))) :
    Calls Tryz.prog 33 #[.pointer (some ⟨d, 0, none⟩), .string q] w fun e w' => e = .returned (.int .i64 (st.sizeOf (seg n) : Int)) ∧ w = w' := by
  obtain ⟨S, h1, _⟩ := h.ds
  have hc := size_any h1 q (by rw [HQ.out]; exact seg_size n)
  rw [show q.data.toList = seg n by rw [HQ.out]] at hc
  exact hc
theorem ls_append {A : Option Addr} (h : LS w0 w (Xa X A) b d g dead st) (hok : st.Ok) (hst : st.steps + 1 ≤ 9223372036854775807) {n : Int} {q : ByteArray} (HQ : Hid (q = (⟨(seg n).toArray⟩ : ByteArray))) {m c : Nat} {l : Bs} (hl : l.length = m) (hm : m ≤ maxLen) (hr : Rd w A (bv l)) :
    Calls Tryz.prog 39 #[.pointer (some ⟨d, 0, none⟩), .string q, .slice A m c] w (LSOp w0 (Xa X A) b d g dead (st.append (seg n) l) w) := by
  refine h.op fun S h1 h2 => ?_
  have hc := append_any h1 hok hst q (by rw [HQ.out]; exact seg_size n) A m c l hl hm hr (fun a e => h2 _ (.inr ⟨a, e, rfl⟩))
  rw [show q.data.toList = seg n by rw [HQ.out]] at hc
  exact hc
theorem le_max {m : Nat} (h : m ≤ 4102) : m ≤ maxLen := by unfold maxLen; omega
theorem lapp_long (h : LS w0 w X b d g dead st) (A : Option Addr) (n c : Nat) (hn : 4096 < n) :
    Calls Tryz.prog 12 #[.pointer (some ⟨b, 0, none⟩), .slice A n c] w (LSOp w0 X b d g dead (st, 3) w) := by
  have H := Lib.hid h
  clear h
  go_enter Tryz.func12, Tryz.ntmps12
  go_wp2_with (go_at_call 35; ((with_reducible refine (Fseal_no A n c w hn).mono ?_); rintro e w2 ⟨rfl, rfl⟩))
  go_ret
  exact ⟨rfl, H.out, fun _ _ => rfl⟩
theorem ls_seal (h : LS w0 w X b d g dead st) (hL : Lb B w0) (A : Option Addr) (n c : Nat) (l : Bs) (hl : l.length = n) (hr : Rd w A (bv l)) (hn : n ≤ 4096) :
    Calls Tryz.prog 35 #[.slice A n c] w fun e w' => ∃ A5 m5 c5, e = .returned (.tuple #[.slice A5 m5 c5, .int .i64 0]) ∧ (sealOf l).length = m5 ∧ m5 ≤ 4102 ∧ Rd w' A5 (bv (sealOf l)) ∧ LS w0 w' (Xa X A5) b d g dead st ∧ ∀ k, X k → w'.heap[k]? = w.heap[k]? := by
  refine (Fseal_yes A n c l w hl hr hn (h.lib hL).tab).mono ?_
  rintro e w' ⟨v, rfl, A5, m5, c5, rfl, hm5, _, hown, hb⟩
  exact ⟨A5, m5, c5, rfl, hm5, hm5 ▸ sealOf_size (hl ▸ hn), Rd.own hown, h.row hb hown, fun k hk => hb.block k (h.xlt hk)⟩
theorem lapp_dead (h : LS w0 w X b d g true st) (hL : Lb B w0) (A : Option Addr) (n c : Nat) (l : Bs) (hl : l.length = n) (hr : Rd w A (bv l)) (hn : n ≤ 4096) :
    Calls Tryz.prog 12 #[.pointer (some ⟨b, 0, none⟩), .slice A n c] w (LSOp w0 X b d g true (st, 6) w) := by
  have HS := Lib.hid (ls_seal h hL A n c l hl hr hn)
  clear h hL hl hr
  go_enter Tryz.func12, Tryz.ntmps12
  go_wp2_with (go_at_call 35; ((with_reducible refine HS.out.mono ?_); rintro e w2 ⟨A5, m5, c5, rfl, hm5, h45, hr5, h5, hk5⟩; have q2 := h5.c2; have H5 := Lib.hid h5; clear h5 hr5 hm5))
  go_ret
  exact ⟨rfl, H5.out.weak fun _ hk => .inl hk, hk5⟩
set_option maxHeartbeats 3200000 in
theorem lapp_stay (h : LS w0 w X b d g false st) (hL : Lb B w0) (hok : st.Ok) (hst : st.steps + 1 ≤ 9223372036854775807) (hg : g ≤ 999999) (A : Option Addr) (n c : Nat) (l : Bs) (hl : l.length = n) (hr : Rd w A (bv l)) (hn : n ≤ 4096) (hz : st.sizeOf (seg g) = 0) :
    Calls Tryz.prog 12 #[.pointer (some ⟨b, 0, none⟩), .slice A n c] w (LSOp w0 X b d g (decide ((st.append (seg g) (sealOf l)).2 = 6)) (st.append (seg g) (sealOf l)) w) := by
  have HS := Lib.hid (ls_seal h hL A n c l hl hr hn)
  obtain ⟨q, hq⟩ : ∃ q, q = (⟨(seg g).toArray⟩ : ByteArray) := ⟨_, rfl⟩
  have HQ := Lib.hid hq
  obtain ⟨s, hs⟩ : ∃ s, s = sealOf l := ⟨_, rfl⟩
  rw [← hs] at HS ⊢
  have HN := Lib.hid (fun (W : World) (Y : Nat → Prop) (hW : LS w0 W Y b d g false st) => ls_name hW hL g HQ)
  have HZ := Lib.hid (fun (W : World) (Y : Nat → Prop) (hW : LS w0 W Y b d g false st) => hz ▸ ls_size hW HQ)
  have HA := Lib.hid (fun (W : World) (A : Option Addr) (m c : Nat) (hW : LS w0 W (Xa X A) b d g false st) (h1 : s.length = m) (h2 : m ≤ maxLen) (h3 : Rd W A (bv s)) => ls_append (c := c) hW hok hst HQ h1 h2 h3)
  obtain ⟨r, hr'⟩ : ∃ r, r = st.append (seg g) s := ⟨_, rfl⟩
  rw [← hr'] at HA ⊢
  obtain ⟨st', k⟩ := r
  have e3 : decide (999999 < g) = false := decide_eq_false (by omega)
  clear h hL hl hr hq hs hz hr' hok hst
  go_enter Tryz.func12, Tryz.ntmps12
  go_wp2_with (go_at_call 35; ((with_reducible refine HS.out.mono ?_); rintro e w2 ⟨A5, m5, c5, rfl, hm5, h45, hr5, h5, hk5⟩; have q2 := h5.c2; have hS2 := h5.lc; have HM5 := Lib.hid hm5; have HR5 := Lib.hid hr5; have HK5 := Lib.hid hk5; have H5 := Lib.hid h5; clear h5 hr5 hm5 hk5))
  refine wp_region_held_drew (S := LC b d g) (by kernel_rfl) (by (first | (with_reducible assumption) | (with_reducible exact LC.drew (by assumption)))) (fun hHeld => ?_)
  refine wpAnyH_take (i := 0) (v := ?vr1_0) (Fr.take_at rfl) (by kernel_rfl) (by kernel_rfl) (by kernel_rfl) (fun _ _ _ h => h) (Or.inl ⟨by rfl, ?yr1_0⟩) (by assumption) ?nr1_0
  case yr1_0 => (intro w_ hSw; obtain ⟨q0, q1⟩ := hSw; go_simp; (try with_reducible rfl))
  try simp only [Act.put, List.setIfInBounds_toArray, List.set_cons_zero, List.set_cons_succ]
  refine wpAnyH_take (i := 1) (v := ?vr1_1) (Fr.take_at rfl) (by kernel_rfl) (by kernel_rfl) (by kernel_rfl) (fun _ _ _ h => h) (Or.inl ⟨by rfl, ?yr1_1⟩) (by assumption) ?nr1_1
  case yr1_1 => (intro w_ hSw; obtain ⟨q0, q1⟩ := hSw; go_simp; (try with_reducible rfl))
  try simp only [Act.put, List.setIfInBounds_toArray, List.set_cons_zero, List.set_cons_succ]
  refine wpAnyH_take (i := 2) (v := ?vr1_2) (Fr.take_at rfl) (by kernel_rfl) (by kernel_rfl) (by kernel_rfl) (fun _ _ _ h => h) (Or.inl ⟨by rfl, ?yr1_2⟩) (by assumption) ?nr1_2
  case yr1_2 => (intro w_ hSw; obtain ⟨q0, q1⟩ := hSw; go_simp; (try with_reducible rfl))
  try simp only [Act.put, List.setIfInBounds_toArray, List.set_cons_zero, List.set_cons_succ]
  refine wpAnyH_take (i := 3) (v := ?vr1_3) (Fr.take_at rfl) (by kernel_rfl) (by kernel_rfl) (by kernel_rfl) (fun _ _ _ h => h) (Or.inl ⟨by rfl, ?yr1_3⟩) (by assumption) ?nr1_3
  case yr1_3 => (intro w_ hSw; obtain ⟨q0, q1⟩ := hSw; go_simp; (try with_reducible rfl))
  try simp only [Act.put, List.setIfInBounds_toArray, List.set_cons_zero, List.set_cons_succ]
  refine wpAnyH_take (i := 4) (v := ?vr1_4) (Fr.take_at rfl) (by kernel_rfl) (by kernel_rfl) (by kernel_rfl) (fun _ _ _ h => h) (Or.inl ⟨by rfl, ?yr1_4⟩) (by assumption) ?nr1_4
  case yr1_4 => (intro w_ hSw; obtain ⟨q0, q1⟩ := hSw; go_simp; (try with_reducible rfl))
  try simp only [Act.put, List.setIfInBounds_toArray, List.set_cons_zero, List.set_cons_succ]
  refine wpAnyH_take (i := 5) (v := ?vr1_5) (Fr.take_at rfl) (by kernel_rfl) (by kernel_rfl) (by kernel_rfl) (fun _ _ _ h => h) (Or.inl ⟨by rfl, ?yr1_5⟩) (by assumption) ?nr1_5
  case yr1_5 => (intro w_ hSw; obtain ⟨q0, q1⟩ := hSw; go_simp; (try with_reducible rfl))
  try simp only [Act.put, List.setIfInBounds_toArray, List.set_cons_zero, List.set_cons_succ]
  refine wpAnyH_take (i := 6) (v := ?vr1_6) (Fr.take_at rfl) (by kernel_rfl) (by kernel_rfl) (by kernel_rfl) (fun _ _ _ h => h) (Or.inl ⟨by rfl, ?yr1_6⟩) (by assumption) ?nr1_6
  case yr1_6 => (intro w_ hSw; obtain ⟨q0, q1⟩ := hSw; go_simp; (try with_reducible rfl))
  try simp only [Act.put, List.setIfInBounds_toArray, List.set_cons_zero, List.set_cons_succ]
  refine wpAnyH_take (i := 7) (v := ?vr1_7) (Fr.take_at rfl) (by kernel_rfl) (by kernel_rfl) (by kernel_rfl) (fun _ _ _ h => h) (Or.inl ⟨by rfl, ?yr1_7⟩) (by assumption) ?nr1_7
  case yr1_7 => (intro w_ hSw; obtain ⟨q0, q1⟩ := hSw; go_simp; (try with_reducible rfl))
  try simp only [Act.put, List.setIfInBounds_toArray, List.set_cons_zero, List.set_cons_succ]
  refine wpAnyH_ready (rs := [8]) (by kernel_rfl) (by simp) ?_
  refine AllReadyH.cons (Fr.take_at rfl) (fun K hK => ?_) AllReadyH.nil
  go_simp
  (go_at_call 36; refine (HN.out _ _ H5.out.drew).mono ?_; rintro e w3 ⟨rfl, h6, hb6⟩; have hS3 := h6.lc; have H6 := Lib.hid h6; have HB6 := Lib.hid hb6; have HR6 := Lib.hid (HR5.out.below (below_of_drew hb6)); clear h6 hb6)
  try go_wp2_with fail
  refine hK.out _ _ (by (first | (with_reducible assumption) | (with_reducible exact LC.drew (by assumption)))) (fun hHeld => ?_)
  clear hK K
  try simp only [Act.put, List.setIfInBounds_toArray, List.set_cons_zero, List.set_cons_succ]
  refine wpAnyH_ready (rs := [9]) (by kernel_rfl) (by simp) ?_
  refine AllReadyH.cons (Fr.take_at rfl) (fun K hK => ?_) AllReadyH.nil
  go_simp
  (go_at_call 33; refine (HZ.out _ _ H6.out).mono ?_; rintro e w4 ⟨rfl, rfl⟩)
  try go_wp2_with fail
  refine hK.out _ _ (by (first | (with_reducible assumption) | (with_reducible exact LC.drew (by assumption)))) (fun hHeld => ?_)
  clear hK K
  try simp only [Act.put, List.setIfInBounds_toArray, List.set_cons_zero, List.set_cons_succ]
  refine wpAnyH_take (i := 10) (v := ?vr1_10) (Fr.take_at rfl) (by kernel_rfl) (by kernel_rfl) (by kernel_rfl) (fun _ _ _ h => h) (Or.inl ⟨by rfl, ?yr1_10⟩) (by assumption) ?nr1_10
  case yr1_10 => (intro w_ hSw; obtain ⟨q0, q1⟩ := hSw; go_simp; (try with_reducible rfl))
  try simp only [Act.put, List.setIfInBounds_toArray, List.set_cons_zero, List.set_cons_succ]
  refine wpAnyH_done (by kernel_rfl) ?_ _
  obtain ⟨z0, z1⟩ := hS3
  have hS4 : LC b d g w3 := ⟨z0, z1⟩
  go_upto_region 13 with fail
  refine wp_region_held_drew (S := LC b d g) (by kernel_rfl) (by (first | (with_reducible assumption) | (with_reducible exact LC.drew (by assumption)))) (fun hHeld => ?_)
  refine wpAnyH_take (i := 0) (v := ?vr2_0) (Fr.take_at rfl) (by kernel_rfl) (by kernel_rfl) (by kernel_rfl) (fun _ _ _ h => h) (Or.inl ⟨by rfl, ?yr2_0⟩) (by assumption) ?nr2_0
  case yr2_0 => (intro w_ hSw; obtain ⟨q0, q1⟩ := hSw; go_simp; (try with_reducible rfl))
  try simp only [Act.put, List.setIfInBounds_toArray, List.set_cons_zero, List.set_cons_succ]
  refine wpAnyH_take (i := 1) (v := ?vr2_1) (Fr.take_at rfl) (by kernel_rfl) (by kernel_rfl) (by kernel_rfl) (fun _ _ _ h => h) (Or.inl ⟨by rfl, ?yr2_1⟩) (by assumption) ?nr2_1
  case yr2_1 => (intro w_ hSw; obtain ⟨q0, q1⟩ := hSw; go_simp; (try with_reducible rfl))
  try simp only [Act.put, List.setIfInBounds_toArray, List.set_cons_zero, List.set_cons_succ]
  refine wpAnyH_take (i := 2) (v := ?vr2_2) (Fr.take_at rfl) (by kernel_rfl) (by kernel_rfl) (by kernel_rfl) (fun _ _ _ h => h) (Or.inl ⟨by rfl, ?yr2_2⟩) (by assumption) ?nr2_2
  case yr2_2 => (intro w_ hSw; obtain ⟨q0, q1⟩ := hSw; go_simp; (try with_reducible rfl))
  try simp only [Act.put, List.setIfInBounds_toArray, List.set_cons_zero, List.set_cons_succ]
  refine wpAnyH_take (i := 3) (v := ?vr2_3) (Fr.take_at rfl) (by kernel_rfl) (by kernel_rfl) (by kernel_rfl) (fun _ _ _ h => h) (Or.inl ⟨by rfl, ?yr2_3⟩) (by assumption) ?nr2_3
  case yr2_3 => (intro w_ hSw; obtain ⟨q0, q1⟩ := hSw; go_simp; (try with_reducible rfl))
  try simp only [Act.put, List.setIfInBounds_toArray, List.set_cons_zero, List.set_cons_succ]
  refine wpAnyH_take (i := 4) (v := ?vr2_4) (Fr.take_at rfl) (by kernel_rfl) (by kernel_rfl) (by kernel_rfl) (fun _ _ _ h => h) (Or.inl ⟨by rfl, ?yr2_4⟩) (by assumption) ?nr2_4
  case yr2_4 => (intro w_ hSw; obtain ⟨q0, q1⟩ := hSw; go_simp; (try with_reducible rfl))
  try simp only [Act.put, List.setIfInBounds_toArray, List.set_cons_zero, List.set_cons_succ]
  refine wpAnyH_take (i := 5) (v := ?vr2_5) (Fr.take_at rfl) (by kernel_rfl) (by kernel_rfl) (by kernel_rfl) (fun _ _ _ h => h) (Or.inl ⟨by rfl, ?yr2_5⟩) (by assumption) ?nr2_5
  case yr2_5 => (intro w_ hSw; obtain ⟨q0, q1⟩ := hSw; go_simp; (try with_reducible rfl))
  try simp only [Act.put, List.setIfInBounds_toArray, List.set_cons_zero, List.set_cons_succ]
  refine wpAnyH_take (i := 6) (v := ?vr2_6) (Fr.take_at rfl) (by kernel_rfl) (by kernel_rfl) (by kernel_rfl) (fun _ _ _ h => h) (Or.inl ⟨by rfl, ?yr2_6⟩) (by assumption) ?nr2_6
  case yr2_6 => (intro w_ hSw; obtain ⟨q0, q1⟩ := hSw; go_simp; (try with_reducible rfl))
  try simp only [Act.put, List.setIfInBounds_toArray, List.set_cons_zero, List.set_cons_succ]
  refine wpAnyH_take (i := 7) (v := ?vr2_7) (Fr.take_at rfl) (by kernel_rfl) (by kernel_rfl) (by kernel_rfl) (fun _ _ _ h => h) (Or.inl ⟨by rfl, ?yr2_7⟩) (by assumption) ?nr2_7
  case yr2_7 => (intro w_ hSw; obtain ⟨q0, q1⟩ := hSw; go_simp; (try with_reducible rfl))
  try simp only [Act.put, List.setIfInBounds_toArray, List.set_cons_zero, List.set_cons_succ]
  refine wpAnyH_take (i := 8) (v := ?vr2_8) (Fr.take_at rfl) (by kernel_rfl) (by kernel_rfl) (by kernel_rfl) (fun _ _ _ h => h) (Or.inl ⟨by rfl, ?yr2_8⟩) (by assumption) ?nr2_8
  case yr2_8 => (intro w_ hSw; obtain ⟨q0, q1⟩ := hSw; go_simp; (try with_reducible rfl))
  try simp only [Act.put, List.setIfInBounds_toArray, List.set_cons_zero, List.set_cons_succ]
  refine wpAnyH_take (i := 10) (v := ?vr2_10) (Fr.take_at rfl) (by kernel_rfl) (by kernel_rfl) (by kernel_rfl) (fun _ _ _ h => h) (Or.inl ⟨by rfl, ?yr2_10⟩) (by assumption) ?nr2_10
  case yr2_10 => (intro w_ hSw; obtain ⟨q0, q1⟩ := hSw; go_simp; (try with_reducible rfl))
  try simp only [Act.put, List.setIfInBounds_toArray, List.set_cons_zero, List.set_cons_succ]
  refine wpAnyH_ready (rs := [9]) (by kernel_rfl) (by simp) ?_
  refine AllReadyH.cons (Fr.take_at rfl) (fun K hK => ?_) AllReadyH.nil
  go_simp
  (go_at_call 36; refine (HN.out _ _ H6.out.drew).mono ?_; rintro e w5 ⟨rfl, h7, hb7⟩; have hS5 := h7.lc; have H7 := Lib.hid h7; have HB7 := Lib.hid hb7; have HR7 := Lib.hid (HR6.out.below (below_of_drew hb7)); clear h7 hb7)
  try go_wp2_with fail
  refine hK.out _ _ (by (first | (with_reducible assumption) | (with_reducible exact LC.drew (by assumption)))) (fun hHeld => ?_)
  clear hK K
  try simp only [Act.put, List.setIfInBounds_toArray, List.set_cons_zero, List.set_cons_succ]
  refine wpAnyH_ready (rs := [11]) (by kernel_rfl) (by simp) ?_
  refine AllReadyH.cons (Fr.take_at rfl) (fun K hK => ?_) AllReadyH.nil
  go_simp
  (go_at_call 39; refine (HA.out _ A5 m5 c5 H7.out HM5.out (le_max h45) HR7.out).mono ?_; rintro e w6 ⟨rfl, h8, hk8⟩; have hS6 := h8.lc; have H8 := Lib.hid h8; have HK8 := Lib.hid hk8; clear h8 hk8)
  try go_wp2_with fail
  refine hK.out _ _ (by (first | (with_reducible assumption) | (with_reducible exact LC.drew (by assumption)))) (fun hHeld => ?_)
  clear hK K
  try simp only [Act.put, List.setIfInBounds_toArray, List.set_cons_zero, List.set_cons_succ]
  refine wpAnyH_ready (rs := [12]) (by kernel_rfl) (by simp) ?_
  refine AllReadyH.cons (Fr.take_at rfl) (fun K hK => ?_) AllReadyH.nil
  go_simp
  (go_at_call 38; refine (ls_noted H8.out k).mono ?_; rintro e w7 ⟨rfl, h9, hk9⟩; have hS7 := h9.lc; have H9 := Lib.hid h9; have HK9 := Lib.hid hk9; clear h9 hk9)
  try go_wp2_with fail
  refine hK.out _ _ (by (first | (with_reducible assumption) | (with_reducible exact LC.drew (by assumption)))) (fun hHeld => ?_)
  clear hK K
  try simp only [Act.put, List.setIfInBounds_toArray, List.set_cons_zero, List.set_cons_succ]
  refine wpAnyH_take (i := 13) (v := ?vr2_13) (Fr.take_at rfl) (by kernel_rfl) (by kernel_rfl) (by kernel_rfl) (fun _ _ _ h => h) (Or.inl ⟨by rfl, ?yr2_13⟩) (by assumption) ?nr2_13
  case yr2_13 => (intro w_ hSw; obtain ⟨q0, q1⟩ := hSw; go_simp; (try with_reducible rfl))
  try simp only [Act.put, List.setIfInBounds_toArray, List.set_cons_zero, List.set_cons_succ]
  refine wpAnyH_done (by kernel_rfl) ?_ _
  go_wp2
  go_ret
  refine ⟨rfl, H9.out.weak fun _ hk => .inl hk, fun x hx => ?_⟩
  have y1 : x < w2.heap.size := H5.out.xlt (.inl hx)
  have y2 : x < w3.heap.size := H6.out.xlt (.inl hx)
  exact (HK9.out x (.inl hx)).trans ((HK8.out x (.inl hx)).trans (((below_of_drew HB7.out).block x y2).trans (((below_of_drew HB6.out).block x y1).trans (HK5.out x hx))))
set_option maxHeartbeats 3200000 in
theorem lapp_room (h : LS w0 w X b d g false st) (hL : Lb B w0) (hok : st.Ok) (hst : st.steps + 1 ≤ 9223372036854775807) (hg : g ≤ 999999) (A : Option Addr) (n c : Nat) (l : Bs) (hl : l.length = n) (hr : Rd w A (bv l)) (hn : n ≤ 4096) (hz : 0 < st.sizeOf (seg g)) (hf : st.sizeOf (seg g) + (sealOf l).length ≤ 1024) :
    Calls Tryz.prog 12 #[.pointer (some ⟨b, 0, none⟩), .slice A n c] w (LSOp w0 X b d g (decide ((st.append (seg g) (sealOf l)).2 = 6)) (st.append (seg g) (sealOf l)) w) := by
  have HS := Lib.hid (ls_seal h hL A n c l hl hr hn)
  obtain ⟨q, hq⟩ : ∃ q, q = (⟨(seg g).toArray⟩ : ByteArray) := ⟨_, rfl⟩
  have HQ := Lib.hid hq
  obtain ⟨s, hs⟩ : ∃ s, s = sealOf l := ⟨_, rfl⟩
  rw [← hs] at HS hf ⊢
  have HN := Lib.hid (fun (W : World) (Y : Nat → Prop) (hW : LS w0 W Y b d g false st) => ls_name hW hL g HQ)
  obtain ⟨z, hzz⟩ : ∃ z, z = st.sizeOf (seg g) := ⟨_, rfl⟩
  have HZ := Lib.hid (fun (W : World) (Y : Nat → Prop) (hW : LS w0 W Y b d g false st) => ls_size hW HQ)
  rw [← hzz] at HZ hz hf
  have hz' : (0 : Int) < (z : Int) := by omega
  have HA := Lib.hid (fun (W : World) (A : Option Addr) (m c : Nat) (hW : LS w0 W (Xa X A) b d g false st) (h1 : s.length = m) (h2 : m ≤ maxLen) (h3 : Rd W A (bv s)) => ls_append (c := c) hW hok hst HQ h1 h2 h3)
  obtain ⟨r, hr'⟩ : ∃ r, r = st.append (seg g) s := ⟨_, rfl⟩
  rw [← hr'] at HA ⊢
  obtain ⟨st', k⟩ := r
  have e3 : decide (999999 < g) = false := decide_eq_false (by omega)
  clear h hL hl hr hq hs hzz hr' hok hst
  go_enter Tryz.func12, Tryz.ntmps12
  go_wp2_with (go_at_call 35; ((with_reducible refine HS.out.mono ?_); rintro e w2 ⟨A5, m5, c5, rfl, hm5, h45, hr5, h5, hk5⟩; have q2 := h5.c2; have hS2 := h5.lc; have HM5 := Lib.hid hm5; have HR5 := Lib.hid hr5; have HK5 := Lib.hid hk5; have H5 := Lib.hid h5; clear h5 hr5 hm5 hk5))
  refine wp_region_held_drew (S := LC b d g) (by kernel_rfl) (by (first | (with_reducible assumption) | (with_reducible exact LC.drew (by assumption)))) (fun hHeld => ?_)
  refine wpAnyH_take (i := 0) (v := ?vr3_0) (Fr.take_at rfl) (by kernel_rfl) (by kernel_rfl) (by kernel_rfl) (fun _ _ _ h => h) (Or.inl ⟨by rfl, ?yr3_0⟩) (by assumption) ?nr3_0
  case yr3_0 => (intro w_ hSw; obtain ⟨q0, q1⟩ := hSw; go_simp; (try with_reducible rfl))
  try simp only [Act.put, List.setIfInBounds_toArray, List.set_cons_zero, List.set_cons_succ]
  refine wpAnyH_take (i := 1) (v := ?vr3_1) (Fr.take_at rfl) (by kernel_rfl) (by kernel_rfl) (by kernel_rfl) (fun _ _ _ h => h) (Or.inl ⟨by rfl, ?yr3_1⟩) (by assumption) ?nr3_1
  case yr3_1 => (intro w_ hSw; obtain ⟨q0, q1⟩ := hSw; go_simp; (try with_reducible rfl))
  try simp only [Act.put, List.setIfInBounds_toArray, List.set_cons_zero, List.set_cons_succ]
  refine wpAnyH_take (i := 2) (v := ?vr3_2) (Fr.take_at rfl) (by kernel_rfl) (by kernel_rfl) (by kernel_rfl) (fun _ _ _ h => h) (Or.inl ⟨by rfl, ?yr3_2⟩) (by assumption) ?nr3_2
  case yr3_2 => (intro w_ hSw; obtain ⟨q0, q1⟩ := hSw; go_simp; (try with_reducible rfl))
  try simp only [Act.put, List.setIfInBounds_toArray, List.set_cons_zero, List.set_cons_succ]
  refine wpAnyH_take (i := 3) (v := ?vr3_3) (Fr.take_at rfl) (by kernel_rfl) (by kernel_rfl) (by kernel_rfl) (fun _ _ _ h => h) (Or.inl ⟨by rfl, ?yr3_3⟩) (by assumption) ?nr3_3
  case yr3_3 => (intro w_ hSw; obtain ⟨q0, q1⟩ := hSw; go_simp; (try with_reducible rfl))
  try simp only [Act.put, List.setIfInBounds_toArray, List.set_cons_zero, List.set_cons_succ]
  refine wpAnyH_take (i := 4) (v := ?vr3_4) (Fr.take_at rfl) (by kernel_rfl) (by kernel_rfl) (by kernel_rfl) (fun _ _ _ h => h) (Or.inl ⟨by rfl, ?yr3_4⟩) (by assumption) ?nr3_4
  case yr3_4 => (intro w_ hSw; obtain ⟨q0, q1⟩ := hSw; go_simp; (try with_reducible rfl))
  try simp only [Act.put, List.setIfInBounds_toArray, List.set_cons_zero, List.set_cons_succ]
  refine wpAnyH_take (i := 5) (v := ?vr3_5) (Fr.take_at rfl) (by kernel_rfl) (by kernel_rfl) (by kernel_rfl) (fun _ _ _ h => h) (Or.inl ⟨by rfl, ?yr3_5⟩) (by assumption) ?nr3_5
  case yr3_5 => (intro w_ hSw; obtain ⟨q0, q1⟩ := hSw; go_simp; (try with_reducible rfl))
  try simp only [Act.put, List.setIfInBounds_toArray, List.set_cons_zero, List.set_cons_succ]
  refine wpAnyH_take (i := 6) (v := ?vr3_6) (Fr.take_at rfl) (by kernel_rfl) (by kernel_rfl) (by kernel_rfl) (fun _ _ _ h => h) (Or.inl ⟨by rfl, ?yr3_6⟩) (by assumption) ?nr3_6
  case yr3_6 => (intro w_ hSw; obtain ⟨q0, q1⟩ := hSw; go_simp; (try with_reducible rfl))
  try simp only [Act.put, List.setIfInBounds_toArray, List.set_cons_zero, List.set_cons_succ]
  refine wpAnyH_take (i := 7) (v := ?vr3_7) (Fr.take_at rfl) (by kernel_rfl) (by kernel_rfl) (by kernel_rfl) (fun _ _ _ h => h) (Or.inl ⟨by rfl, ?yr3_7⟩) (by assumption) ?nr3_7
  case yr3_7 => (intro w_ hSw; obtain ⟨q0, q1⟩ := hSw; go_simp; (try with_reducible rfl))
  try simp only [Act.put, List.setIfInBounds_toArray, List.set_cons_zero, List.set_cons_succ]
  refine wpAnyH_ready (rs := [8]) (by kernel_rfl) (by simp) ?_
  refine AllReadyH.cons (Fr.take_at rfl) (fun K hK => ?_) AllReadyH.nil
  go_simp
  (go_at_call 36; refine (HN.out _ _ H5.out.drew).mono ?_; rintro e w3 ⟨rfl, h6, hb6⟩; have hS3 := h6.lc; have H6 := Lib.hid h6; have HB6 := Lib.hid hb6; have HR6 := Lib.hid (HR5.out.below (below_of_drew hb6)); clear h6 hb6)
  try go_wp2_with fail
  refine hK.out _ _ (by (first | (with_reducible assumption) | (with_reducible exact LC.drew (by assumption)))) (fun hHeld => ?_)
  clear hK K
  try simp only [Act.put, List.setIfInBounds_toArray, List.set_cons_zero, List.set_cons_succ]
  refine wpAnyH_ready (rs := [9]) (by kernel_rfl) (by simp) ?_
  refine AllReadyH.cons (Fr.take_at rfl) (fun K hK => ?_) AllReadyH.nil
  go_simp
  (go_at_call 33; refine (HZ.out _ _ H6.out).mono ?_; rintro e w4 ⟨rfl, rfl⟩)
  try go_wp2_with fail
  refine hK.out _ _ (by (first | (with_reducible assumption) | (with_reducible exact LC.drew (by assumption)))) (fun hHeld => ?_)
  clear hK K
  try simp only [Act.put, List.setIfInBounds_toArray, List.set_cons_zero, List.set_cons_succ]
  refine wpAnyH_take (i := 10) (v := ?vr3_10) (Fr.take_at rfl) (by kernel_rfl) (by kernel_rfl) (by kernel_rfl) (fun _ _ _ h => h) (Or.inl ⟨by rfl, ?yr3_10⟩) (by assumption) ?nr3_10
  case yr3_10 => (intro w_ hSw; obtain ⟨q0, q1⟩ := hSw; go_simp; (try with_reducible rfl))
  try simp only [Act.put, List.setIfInBounds_toArray, List.set_cons_zero, List.set_cons_succ]
  refine wpAnyH_done (by kernel_rfl) ?_ _
  obtain ⟨z0, z1⟩ := hS3
  have hf1 : z + m5 ≤ 1024 := by rw [← HM5.out]; exact hf
  have e6 : wrap64 ((z : Int) + (m5 : Int)) = (z : Int) + (m5 : Int) := by unfold wrap64; omega
  have e7 : ¬ (1024 : Int) < (z : Int) + (m5 : Int) := by omega
  have hS4 : LC b d g w3 := ⟨z0, z1⟩
  go_upto_region 13 with fail
  refine wp_region_held_drew (S := LC b d g) (by kernel_rfl) (by (first | (with_reducible assumption) | (with_reducible exact LC.drew (by assumption)))) (fun hHeld => ?_)
  refine wpAnyH_take (i := 0) (v := ?vr4_0) (Fr.take_at rfl) (by kernel_rfl) (by kernel_rfl) (by kernel_rfl) (fun _ _ _ h => h) (Or.inl ⟨by rfl, ?yr4_0⟩) (by assumption) ?nr4_0
  case yr4_0 => (intro w_ hSw; obtain ⟨q0, q1⟩ := hSw; go_simp; (try with_reducible rfl))
  try simp only [Act.put, List.setIfInBounds_toArray, List.set_cons_zero, List.set_cons_succ]
  refine wpAnyH_take (i := 1) (v := ?vr4_1) (Fr.take_at rfl) (by kernel_rfl) (by kernel_rfl) (by kernel_rfl) (fun _ _ _ h => h) (Or.inl ⟨by rfl, ?yr4_1⟩) (by assumption) ?nr4_1
  case yr4_1 => (intro w_ hSw; obtain ⟨q0, q1⟩ := hSw; go_simp; (try with_reducible rfl))
  try simp only [Act.put, List.setIfInBounds_toArray, List.set_cons_zero, List.set_cons_succ]
  refine wpAnyH_take (i := 2) (v := ?vr4_2) (Fr.take_at rfl) (by kernel_rfl) (by kernel_rfl) (by kernel_rfl) (fun _ _ _ h => h) (Or.inl ⟨by rfl, ?yr4_2⟩) (by assumption) ?nr4_2
  case yr4_2 => (intro w_ hSw; obtain ⟨q0, q1⟩ := hSw; go_simp; (try with_reducible rfl))
  try simp only [Act.put, List.setIfInBounds_toArray, List.set_cons_zero, List.set_cons_succ]
  refine wpAnyH_take (i := 3) (v := ?vr4_3) (Fr.take_at rfl) (by kernel_rfl) (by kernel_rfl) (by kernel_rfl) (fun _ _ _ h => h) (Or.inl ⟨by rfl, ?yr4_3⟩) (by assumption) ?nr4_3
  case yr4_3 => (intro w_ hSw; obtain ⟨q0, q1⟩ := hSw; go_simp; (try with_reducible rfl))
  try simp only [Act.put, List.setIfInBounds_toArray, List.set_cons_zero, List.set_cons_succ]
  refine wpAnyH_take (i := 4) (v := ?vr4_4) (Fr.take_at rfl) (by kernel_rfl) (by kernel_rfl) (by kernel_rfl) (fun _ _ _ h => h) (Or.inl ⟨by rfl, ?yr4_4⟩) (by assumption) ?nr4_4
  case yr4_4 => (intro w_ hSw; obtain ⟨q0, q1⟩ := hSw; go_simp; (try with_reducible rfl))
  try simp only [Act.put, List.setIfInBounds_toArray, List.set_cons_zero, List.set_cons_succ]
  refine wpAnyH_take (i := 5) (v := ?vr4_5) (Fr.take_at rfl) (by kernel_rfl) (by kernel_rfl) (by kernel_rfl) (fun _ _ _ h => h) (Or.inl ⟨by rfl, ?yr4_5⟩) (by assumption) ?nr4_5
  case yr4_5 => (intro w_ hSw; obtain ⟨q0, q1⟩ := hSw; go_simp; (try with_reducible rfl))
  try simp only [Act.put, List.setIfInBounds_toArray, List.set_cons_zero, List.set_cons_succ]
  refine wpAnyH_take (i := 6) (v := ?vr4_6) (Fr.take_at rfl) (by kernel_rfl) (by kernel_rfl) (by kernel_rfl) (fun _ _ _ h => h) (Or.inl ⟨by rfl, ?yr4_6⟩) (by assumption) ?nr4_6
  case yr4_6 => (intro w_ hSw; obtain ⟨q0, q1⟩ := hSw; go_simp; (try with_reducible rfl))
  try simp only [Act.put, List.setIfInBounds_toArray, List.set_cons_zero, List.set_cons_succ]
  refine wpAnyH_take (i := 7) (v := ?vr4_7) (Fr.take_at rfl) (by kernel_rfl) (by kernel_rfl) (by kernel_rfl) (fun _ _ _ h => h) (Or.inl ⟨by rfl, ?yr4_7⟩) (by assumption) ?nr4_7
  case yr4_7 => (intro w_ hSw; obtain ⟨q0, q1⟩ := hSw; go_simp; (try with_reducible rfl))
  try simp only [Act.put, List.setIfInBounds_toArray, List.set_cons_zero, List.set_cons_succ]
  refine wpAnyH_take (i := 8) (v := ?vr4_8) (Fr.take_at rfl) (by kernel_rfl) (by kernel_rfl) (by kernel_rfl) (fun _ _ _ h => h) (Or.inl ⟨by rfl, ?yr4_8⟩) (by assumption) ?nr4_8
  case yr4_8 => (intro w_ hSw; obtain ⟨q0, q1⟩ := hSw; go_simp; (try with_reducible rfl))
  try simp only [Act.put, List.setIfInBounds_toArray, List.set_cons_zero, List.set_cons_succ]
  refine wpAnyH_take (i := 10) (v := ?vr4_10) (Fr.take_at rfl) (by kernel_rfl) (by kernel_rfl) (by kernel_rfl) (fun _ _ _ h => h) (Or.inl ⟨by rfl, ?yr4_10⟩) (by assumption) ?nr4_10
  case yr4_10 => (intro w_ hSw; obtain ⟨q0, q1⟩ := hSw; go_simp; (try with_reducible rfl))
  try simp only [Act.put, List.setIfInBounds_toArray, List.set_cons_zero, List.set_cons_succ]
  refine wpAnyH_ready (rs := [9]) (by kernel_rfl) (by simp) ?_
  refine AllReadyH.cons (Fr.take_at rfl) (fun K hK => ?_) AllReadyH.nil
  go_simp
  (go_at_call 36; refine (HN.out _ _ H6.out.drew).mono ?_; rintro e w5 ⟨rfl, h7, hb7⟩; have hS5 := h7.lc; have H7 := Lib.hid h7; have HB7 := Lib.hid hb7; have HR7 := Lib.hid (HR6.out.below (below_of_drew hb7)); clear h7 hb7)
  try go_wp2_with fail
  refine hK.out _ _ (by (first | (with_reducible assumption) | (with_reducible exact LC.drew (by assumption)))) (fun hHeld => ?_)
  clear hK K
  try simp only [Act.put, List.setIfInBounds_toArray, List.set_cons_zero, List.set_cons_succ]
  refine wpAnyH_ready (rs := [11]) (by kernel_rfl) (by simp) ?_
  refine AllReadyH.cons (Fr.take_at rfl) (fun K hK => ?_) AllReadyH.nil
  go_simp
  (go_at_call 39; refine (HA.out _ A5 m5 c5 H7.out HM5.out (le_max h45) HR7.out).mono ?_; rintro e w6 ⟨rfl, h8, hk8⟩; have hS6 := h8.lc; have H8 := Lib.hid h8; have HK8 := Lib.hid hk8; clear h8 hk8)
  try go_wp2_with fail
  refine hK.out _ _ (by (first | (with_reducible assumption) | (with_reducible exact LC.drew (by assumption)))) (fun hHeld => ?_)
  clear hK K
  try simp only [Act.put, List.setIfInBounds_toArray, List.set_cons_zero, List.set_cons_succ]
  refine wpAnyH_ready (rs := [12]) (by kernel_rfl) (by simp) ?_
  refine AllReadyH.cons (Fr.take_at rfl) (fun K hK => ?_) AllReadyH.nil
  go_simp
  (go_at_call 38; refine (ls_noted H8.out k).mono ?_; rintro e w7 ⟨rfl, h9, hk9⟩; have hS7 := h9.lc; have H9 := Lib.hid h9; have HK9 := Lib.hid hk9; clear h9 hk9)
  try go_wp2_with fail
  refine hK.out _ _ (by (first | (with_reducible assumption) | (with_reducible exact LC.drew (by assumption)))) (fun hHeld => ?_)
  clear hK K
  try simp only [Act.put, List.setIfInBounds_toArray, List.set_cons_zero, List.set_cons_succ]
  refine wpAnyH_take (i := 13) (v := ?vr4_13) (Fr.take_at rfl) (by kernel_rfl) (by kernel_rfl) (by kernel_rfl) (fun _ _ _ h => h) (Or.inl ⟨by rfl, ?yr4_13⟩) (by assumption) ?nr4_13
  case yr4_13 => (intro w_ hSw; obtain ⟨q0, q1⟩ := hSw; go_simp; (try with_reducible rfl))
  try simp only [Act.put, List.setIfInBounds_toArray, List.set_cons_zero, List.set_cons_succ]
  refine wpAnyH_done (by kernel_rfl) ?_ _
  go_wp2
  go_ret
  refine ⟨rfl, H9.out.weak fun _ hk => .inl hk, fun x hx => ?_⟩
  have y1 : x < w2.heap.size := H5.out.xlt (.inl hx)
  have y2 : x < w3.heap.size := H6.out.xlt (.inl hx)
  exact (HK9.out x (.inl hx)).trans ((HK8.out x (.inl hx)).trans (((below_of_drew HB7.out).block x y2).trans (((below_of_drew HB6.out).block x y1).trans (HK5.out x hx))))
end

end Wl
end Go.Proofs.YtbfmjonabndhaaaGreatDoor
