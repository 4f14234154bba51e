/-
  WHAT IS PROVED: the call of FrameTexts answers true in whatever memory holds the table, and makes new memory alone. CONDITIONS: the slice reads as the bytes that are named; the text and the slice have at most 1048576 bytes; the table lies where it is laid.
-/
import Derived.Test.YtjpimbbdjdlelaaDoorWNumbers
namespace Go.Proofs.YtjpimbbdjdlelaaDoor
open Go Go.RowKit
namespace Fr

theorem bytes_back (s : ByteArray) : (⟨s.data.toList.toArray⟩ : ByteArray) = s := by cases s; simp
theorem own_cap {w : World} {base : Nat} {e : TypeId} {A : Option Addr} {n c : Nat} {xs : List Value} (h : w.ownsRow base e 1 (.slice A n c) n xs) : n ≤ c := by
  obtain ⟨A', c', e', h1, _⟩ := own_shape h
  simp only [Value.slice.injEq] at e'
  omega

theorem FtakeText_text (A : Option Addr) (k m c : Nat) (s : ByteArray) (l : List UInt8) (w : World) (hs : s.size ≤ 1048576) (hm : (textOf s.data.toList).length = m) (hk : (textOf s.data.toList ++ l).length = k) (hr : Rd w A (bv (textOf s.data.toList ++ l))) (hkc : k ≤ c) (hk2 : k ≤ 140737488355328) :
    Calls Tryd.prog 18 #[.slice A k c] w fun e w' => e = .returned (.tuple #[.string s, .int .i64 (m : Int)]) ∧ w = w' := by
  have h := FtakeText_any A k c _ w hk hr hkc hk2
  have hsz : s.data.toList.length = s.size := rfl
  rw [takeText_textOf _ _ (by omega), hm] at h
  simp only [bytes_back] at h
  exact h

set_option maxRecDepth 100000 in
set_option maxHeartbeats 1600000 in
theorem texts_walk (s : ByteArray) (A : Option Addr) (m c : Nat) (l : List UInt8) (w : World) (hs : s.size ≤ 1048576) (hl : l.length = m) (hmc : m ≤ c) (hr : Rd w A (bv l)) (hm : m ≤ 1048576) (ht : Tab w) :
    Calls Tryd.prog 4 #[.string s, .slice A m c] w (Yes w) := by
  obtain ⟨i0, hi, hz, hz1, hz2⟩ := info_parts info_u8
  obtain ⟨T, hT⟩ : ∃ T, T = textOf s.data.toList := ⟨_, rfl⟩
  have hlen : T.length ≤ 1048586 := by
    have h1 := len_enc10 (n := s.size) (by omega)
    have h2 : s.data.toList.length = s.size := rfl
    rw [hT]; unfold textOf
    rw [List.length_append, h2]; omega
  have hft := fun (W : World) => Ftext_any s W (by omega)
  have hrt := fun (W : World) => Rtext_any s W (by omega)
  have htk := fun (A : Option Addr) (k m c : Nat) (w : World) => FtakeText_text A k m c s l w hs
  rw [← hT] at hft hrt htk
  have HFX := Lib.hid hft
  have HRX := Lib.hid hrt
  have HTK := Lib.hid htk
  have HT0 := Lib.hid hT
  have HL := Lib.hid hl
  have HR := Lib.hid hr
  have HT := Lib.hid ht
  have hcs := fun (W : World) => run_str (P := Tryd.prog) W 23 9 5 Tryd.underlying23 Tryd.underlying5 Tryd.underlying9
  have HCS := Lib.hid hcs
  obtain ⟨q, hq⟩ : ∃ q, q = takeText l := ⟨_, rfl⟩
  have HQ := Lib.hid hq
  have hfu := fun (A : Option Addr) (n c : Nat) (W : World) (h1 : l.length = n) (h2 : Rd W A (bv l)) (h3 : n ≤ c) (h4 : n ≤ 140737488355328) => FtakeText_any A n c l W h1 h2 h3 h4
  have hru := fun (A : Option Addr) (n c : Nat) (W : World) (h1 : l.length = n) (h2 : Rd W A (bv l)) (h3 : n ≤ c) (h4 : n ≤ 140737488355328) => RtakeText_any A n c l W h1 h2 h3 h4
  rw [← hq] at hfu hru
  have HFU := Lib.hid hfu
  have HRU := Lib.hid hru
  clear hl hr ht hcs hq hfu hru hft hrt htk hT
  go_enter Tryd.func4, Tryd.ntmps4
  go_wp2_with (first
    | (go_at_call 11; refine (awake_any w HT.out).mono ?_; rintro e w1 ⟨rfl, hb1⟩)
    | (go_at_call 17; refine (HFX.out w1).mono ?_; rintro e w2 ⟨v, rfl, A2, m2, c2, rfl, hm2, hc2, hown2, hb2⟩; have HM2 := Lib.hid hm2; have hm2b : m2 ≤ 1048586 := Nat.le_trans (Nat.le_of_eq hm2.symm) hlen; clear hm2)
    | (go_at_call 14; refine (own_any A2 m2 c2 T w2 HM2.out (Rd.own hown2) (by omega)).mono ?_; rintro e w3 ⟨v, rfl, A3, m3, c3, rfl, hm3, hc3, hown3, hb3⟩; have HM3 := Lib.hid hm3; have hm3b : m3 ≤ 1048586 := Nat.le_trans (Nat.le_of_eq hm3.symm) hlen; clear hm3; have hbw3 : Below w.heap.size w w3 := (hb1.trans (hb2.mono hb1.size)).trans (hb3.mono (hb1.trans (hb2.mono hb1.size)).size))
    | (at_builtin; refine wpList_app _ rfl (.tmp 16) (.tmp 17) _ rfl w2.heap.size 5 i0 _ 1 Tryd.underlying23 hi hz hz1 hz2 rfl (.slice A3 m3 c3) m3 (bv T) rfl hown3 A m c (bv l) rfl (by rw [bv_length]; exact HL.out) (HR.out.below hbw3) (bv_one _) (m3 + m) rfl (by unfold maxLen; omega) (by omega) hb3.size ?_; intro A4 c4 w4 hown4 hb4 _ _)
    | (go_at_call 18; refine (HTK.out A4 (m3 + m) m2 c4 w4 HM2.out (by rw [List.length_append, HM3.out, HL.out]) (by rw [bv_append]; exact Rd.own hown4) (own_cap hown4) (by omega)).mono ?_; rintro e w5 ⟨rfl, rfl⟩))
  have hb24 : Below w2.heap.size w2 w4 := hb3.trans hb4
  have hbw4 : Below w.heap.size w w4 := hbw3.trans (hb4.mono (hb1.trans (hb2.mono hb1.size)).size)
  have hrx := (Rd.own hown2).below hb24
  have hcx := HCS.out w4.drew A2 m2 c2 T HM2.out hrx
  refine wp_region_held_drew (S := fun W => (convert 23 9 (.slice A2 m2 c2)).run Tryd.prog W = .ok (.string ⟨T.toArray⟩) W) (by kernel_rfl) (by (first | assumption | go_keep)) (fun hHeld => ?_)
  refine wpAnyH_take (i := 0) (v := ?vr5_0) (Fr.take_at rfl) (by kernel_rfl) (by kernel_rfl) (by kernel_rfl) (fun _ _ _ h => h) (Or.inl ⟨by rfl, ?yr5_0⟩) (by assumption) ?nr5_0
  case yr5_0 => (intro w_ hSw; (try dsimp only at hSw); go_simp; (try with_reducible rfl))
  try simp only [Act.put, List.setIfInBounds_toArray, List.set_cons_zero, List.set_cons_succ]
  refine wpAnyH_take (i := 1) (v := ?vr5_1) (Fr.take_at rfl) (by kernel_rfl) (by kernel_rfl) (by kernel_rfl) (fun _ _ _ h => h) (Or.inl ⟨by rfl, ?yr5_1⟩) (by assumption) ?nr5_1
  case yr5_1 => (intro w_ hSw; (try dsimp only at hSw); go_simp; (try with_reducible rfl))
  try simp only [Act.put, List.setIfInBounds_toArray, List.set_cons_zero, List.set_cons_succ]
  refine wpAnyH_take (i := 2) (v := ?vr5_2) (Fr.take_at rfl) (by kernel_rfl) (by kernel_rfl) (by kernel_rfl) (fun _ _ _ h => h) (Or.inl ⟨by rfl, ?yr5_2⟩) (by assumption) ?nr5_2
  case yr5_2 => (intro w_ hSw; (try dsimp only at hSw); go_simp; (try with_reducible rfl))
  try simp only [Act.put, List.setIfInBounds_toArray, List.set_cons_zero, List.set_cons_succ]
  refine wpAnyH_ready (rs := [3]) (by kernel_rfl) (by simp) ?_
  refine AllReadyH.cons (Fr.take_at rfl) (fun K hK => ?_) AllReadyH.nil
  go_simp
  (go_at_call 19; refine (HRX.out _).mono ?_; rintro e w5 ⟨v, rfl, A5, m5, c5, rfl, hm5, hc5, hown5, hb5⟩; have hcy := HCS.out w5 A5 m5 c5 T hm5 (Rd.own hown5); have hcx2 := HCS.out w5 A2 m2 c2 T HM2.out (hrx.below (below_of_drew hb5)); have HM5 := Lib.hid hm5; clear hm5)
  try go_wp2_with fail
  refine hK.out _ _ (by (first | assumption | go_keep)) (fun hHeld => ?_)
  clear hK K
  try simp only [Act.put, List.setIfInBounds_toArray, List.set_cons_zero, List.set_cons_succ]
  refine wpAnyH_ready (rs := [4]) (by kernel_rfl) (by simp) ?_
  refine AllReadyH.cons (Fr.take_at rfl) (fun K hK => ?_) AllReadyH.nil
  go_simp
  refine hK.out _ _ (by (first | assumption | go_keep)) (fun hHeld => ?_)
  clear hK K
  try simp only [Act.put, List.setIfInBounds_toArray, List.set_cons_zero, List.set_cons_succ]
  refine wpAnyH_take (i := 5) (v := ?vr5_5) (Fr.take_at rfl) (by kernel_rfl) (by kernel_rfl) (by kernel_rfl) (fun _ _ _ h => h) (Or.inl ⟨by rfl, ?yr5_5⟩) (by assumption) ?nr5_5
  case yr5_5 => (intro w_ hSw; (try dsimp only at hSw); go_simp; (try with_reducible rfl))
  try simp only [Act.put, List.setIfInBounds_toArray, List.set_cons_zero, List.set_cons_succ]
  refine wpAnyH_take (i := 6) (v := ?vr5_6) (Fr.take_at rfl) (by kernel_rfl) (by kernel_rfl) (by kernel_rfl) (fun _ _ _ h => h) (Or.inl ⟨by rfl, ?yr5_6⟩) (by assumption) ?nr5_6
  case yr5_6 => (intro w_ hSw; (try dsimp only at hSw); go_simp; (try with_reducible rfl))
  try simp only [Act.put, List.setIfInBounds_toArray, List.set_cons_zero, List.set_cons_succ]
  refine wpAnyH_take (i := 7) (v := ?vr5_7) (Fr.take_at rfl) (by kernel_rfl) (by kernel_rfl) (by kernel_rfl) (fun _ _ _ h => h) (Or.inl ⟨by rfl, ?yr5_7⟩) (by assumption) ?nr5_7
  case yr5_7 => (intro w_ hSw; (try dsimp only at hSw); go_simp; (try with_reducible rfl))
  try simp only [Act.put, List.setIfInBounds_toArray, List.set_cons_zero, List.set_cons_succ]
  refine wpAnyH_take (i := 8) (v := ?vr5_8) (Fr.take_at rfl) (by kernel_rfl) (by kernel_rfl) (by kernel_rfl) (fun _ _ _ h => h) (Or.inl ⟨by rfl, ?yr5_8⟩) (by assumption) ?nr5_8
  case yr5_8 => (intro w_ hSw; (try dsimp only at hSw); go_simp; (try with_reducible rfl))
  try simp only [Act.put, List.setIfInBounds_toArray, List.set_cons_zero, List.set_cons_succ]
  refine wpAnyH_take (i := 9) (v := ?vr5_9) (Fr.take_at rfl) (by kernel_rfl) (by kernel_rfl) (by kernel_rfl) (fun _ _ _ h => h) (Or.inl ⟨by rfl, ?yr5_9⟩) (by assumption) ?nr5_9
  case yr5_9 => (intro w_ hSw; (try dsimp only at hSw); go_simp; (try with_reducible rfl))
  try simp only [Act.put, List.setIfInBounds_toArray, List.set_cons_zero, List.set_cons_succ]
  refine wpAnyH_take (i := 10) (v := ?vr5_10) (Fr.take_at rfl) (by kernel_rfl) (by kernel_rfl) (by kernel_rfl) (fun _ _ _ h => h) (Or.inl ⟨by rfl, ?yr5_10⟩) (by assumption) ?nr5_10
  case yr5_10 => (intro w_ hSw; (try dsimp only at hSw); go_simp; (try with_reducible rfl))
  try simp only [Act.put, List.setIfInBounds_toArray, List.set_cons_zero, List.set_cons_succ]
  refine wpAnyH_take (i := 11) (v := ?vr5_11) (Fr.take_at rfl) (by kernel_rfl) (by kernel_rfl) (by kernel_rfl) (fun _ _ _ h => h) (Or.inl ⟨by rfl, ?yr5_11⟩) (by assumption) ?nr5_11
  case yr5_11 => (intro w_ hSw; (try dsimp only at hSw); go_simp; (try with_reducible rfl))
  try simp only [Act.put, List.setIfInBounds_toArray, List.set_cons_zero, List.set_cons_succ]
  refine wpAnyH_take (i := 12) (v := ?vr5_12) (Fr.take_at rfl) (by kernel_rfl) (by kernel_rfl) (by kernel_rfl) (fun _ _ _ h => h) (Or.inl ⟨by rfl, ?yr5_12⟩) (by assumption) ?nr5_12
  case yr5_12 => (intro w_ hSw; (try dsimp only at hSw); go_simp; (try with_reducible rfl))
  try simp only [Act.put, List.setIfInBounds_toArray, List.set_cons_zero, List.set_cons_succ]
  refine wpAnyH_take (i := 13) (v := ?vr5_13) (Fr.take_at rfl) (by kernel_rfl) (by kernel_rfl) (by kernel_rfl) (fun _ _ _ h => h) (Or.inl ⟨by rfl, ?yr5_13⟩) (by assumption) ?nr5_13
  case yr5_13 => (intro w_ hSw; (try dsimp only at hSw); go_simp; (try with_reducible rfl))
  try simp only [Act.put, List.setIfInBounds_toArray, List.set_cons_zero, List.set_cons_succ]
  refine wpAnyH_take (i := 14) (v := ?vr5_14) (Fr.take_at rfl) (by kernel_rfl) (by kernel_rfl) (by kernel_rfl) (fun _ _ _ h => h) (Or.inl ⟨by rfl, ?yr5_14⟩) (by assumption) ?nr5_14
  case yr5_14 => (intro w_ hSw; (try dsimp only at hSw); go_simp; (try with_reducible rfl))
  try simp only [Act.put, List.setIfInBounds_toArray, List.set_cons_zero, List.set_cons_succ]
  refine wpAnyH_take (i := 15) (v := ?vr5_15) (Fr.take_at rfl) (by kernel_rfl) (by kernel_rfl) (by kernel_rfl) (fun _ _ _ h => h) (Or.inl ⟨by rfl, ?yr5_15⟩) (by assumption) ?nr5_15
  case yr5_15 => (intro w_ hSw; (try dsimp only at hSw); go_simp; (try with_reducible rfl))
  try simp only [Act.put, List.setIfInBounds_toArray, List.set_cons_zero, List.set_cons_succ]
  refine wpAnyH_take (i := 16) (v := ?vr5_16) (Fr.take_at rfl) (by kernel_rfl) (by kernel_rfl) (by kernel_rfl) (fun _ _ _ h => h) (Or.inl ⟨by rfl, ?yr5_16⟩) (by assumption) ?nr5_16
  case yr5_16 => (intro w_ hSw; (try dsimp only at hSw); go_simp; (try with_reducible rfl))
  try simp only [Act.put, List.setIfInBounds_toArray, List.set_cons_zero, List.set_cons_succ]
  refine wpAnyH_done (by kernel_rfl) ?_ _
  have hbw5 : Below w.heap.size w w5 := hbw4.trans ((below_of_drew hb5).mono hbw4.size)
  clear hcx hcx2 hcy hrx hb24 hb5 hown5 hown4 hb4 hown3 hb3 hown2 hb2 hHeld
  go_wp2_with (first
    | (go_at_call 14; refine (own_any A m c l w5 HL.out (HR.out.below hbw5) (by omega)).mono ?_; rintro e w6 ⟨v, rfl, A6, m6, c6, rfl, hm6, hc6, hown6, hb6⟩; have HM6 := Lib.hid hm6; have hbw6 : Below w.heap.size w w6 := hbw5.trans (hb6.mono hbw5.size); have hm6b : m6 ≤ 140737488355328 := len_bound HL.out HM6.out (by omega); clear hm6)
    | (go_at_call 18; refine (HFU.out A6 m6 c6 w6 HM6.out (Rd.own hown6) hc6 hm6b).mono ?_; rintro e w7 ⟨rfl, rfl⟩)
    | (go_at_call 20; refine (HRU.out A m c w6 HL.out (HR.out.below hbw6) hmc (by omega)).mono ?_; rintro e w7 ⟨rfl, hb7⟩))
  go_ret
  exact Yes.mk (hbw6.trans (hb7.mono hbw6.size))
end Fr
end Go.Proofs.YtjpimbbdjdlelaaDoor
