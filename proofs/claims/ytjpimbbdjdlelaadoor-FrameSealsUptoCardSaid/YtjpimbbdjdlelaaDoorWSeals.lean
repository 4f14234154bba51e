/-
  WHAT IS PROVED: the call of FrameSeals answers true in whatever memory holds the table, and makes new memory alone. CONDITIONS: the two slices read as the bytes that are named and have at most 1048576; the table lies where it is laid.
-/
import Derived.Test.YtjpimbbdjdlelaaDoorWalkF
namespace Go.Proofs.YtjpimbbdjdlelaaDoor
open Go Go.RowKit
namespace Fr

theorem len_low {l : List UInt8} {n m k : Nat} (h : l.length = n) (h2 : l.length = m) (hn : k < n) : k < m := by omega
theorem Ftakef_seal (A : Option Addr) (k m c : Nat) (p l : List UInt8) (w : World) (hp : p.length ≤ 4096) (hm : (sealOf p).length = m) (hk : (sealOf p ++ l).length = k) (hr : Rd w A (bv (sealOf p ++ l))) (hkc : k ≤ c) (hk2 : k ≤ 140737488355328) (ht : Tab w) :
    Calls Tryd.prog 24 #[.slice A k c] w fun e w' => ∃ v, e = .returned (.tuple #[v, .int .i64 (m : Int), .int .i64 0]) ∧ Made 5 w w' p v := by
  have h := Ftakef_any A k c _ w hk hr hkc hk2 ht
  unfold TakeRet at h
  rw [takeF_sealOf hp, isFrame_sealOf hp, hm] at h
  exact h

set_option maxRecDepth 100000 in
set_option maxHeartbeats 1600000 in
theorem seals_walk (A : Option Addr) (n c : Nat) (p : List UInt8) (B : Option Addr) (m d : Nat) (l : List UInt8) (w : World) (hp : p.length = n) (hnc : n ≤ c) (hrp : Rd w A (bv p)) (hn : n ≤ 1048576) (hl : l.length = m) (_hmd : m ≤ d) (hrl : Rd w B (bv l)) (hm : m ≤ 1048576) (ht : Tab w) :
    Calls Tryd.prog 6 #[.slice A n c, .slice B m d] w (Yes w) := by
  obtain ⟨i0, hi, hz, hz1, hz2⟩ := info_parts info_u8
  have HP := Lib.hid hp
  have HRP := Lib.hid hrp
  have HL := Lib.hid hl
  have HR := Lib.hid hrl
  have HT := Lib.hid ht
  have hcs := fun (W : World) => run_str (P := Tryd.prog) W 23 9 5 Tryd.underlying23 Tryd.underlying5 Tryd.underlying9
  have HCS := Lib.hid hcs
  by_cases h4 : 4096 < n
  · clear hp hrp hl hrl ht hcs
    go_enter Tryd.func6, Tryd.ntmps6
    go_wp2_with (first
      | (go_at_call 11; refine (awake_any w HT.out).mono ?_; rintro e w1 ⟨rfl, hb1⟩)
      | (go_at_call 14; refine (own_any A n c p w1 HP.out (HRP.out.below hb1) (by omega)).mono ?_; rintro e w2 ⟨v, rfl, A2, m2, c2, rfl, hm2, hc2, hown2, hb2⟩; have HM2 := Lib.hid hm2; have hm2b := len_low HP.out hm2 h4; clear hm2)
      | (go_at_call 23; refine (Fseal_no A2 m2 c2 w2 hm2b).mono ?_; rintro e w3 ⟨rfl, rfl⟩))
    go_ret
    exact Yes.mk (hb1.trans (hb2.mono hb1.size))
  · have hp4 : p.length ≤ 4096 := by omega
    have HP4 := Lib.hid hp4
    obtain ⟨S, hS⟩ : ∃ S, S = sealOf p := ⟨_, rfl⟩
    have hSl : S.length ≤ 4102 := by
      have h2 := len_enc2 hp4
      rw [hS, sealOf_length]; omega
    have hfs := fun (A : Option Addr) (c : Nat) (W : World) (h1 : Rd W A (bv p)) (h2 : Tab W) => Fseal_yes A n c p W hp h1 (by omega) h2
    have hrs := fun (A : Option Addr) (c : Nat) (W : World) (h1 : Rd W A (bv p)) => Rseal_any A n c p W hp h1 (by omega)
    have htk := fun (A : Option Addr) (k m c : Nat) (W : World) => Ftakef_seal A k m c p l W hp4
    unfold SealRet at hfs
    rw [← hS] at hfs hrs htk
    have HFS := Lib.hid hfs
    have HRS := Lib.hid hrs
    have HTK := Lib.hid htk
    have HS := Lib.hid hS
    clear hp hrp hl hrl ht hcs hp4 hfs hrs htk hS
    go_enter Tryd.func6, Tryd.ntmps6
    go_wp2_with (first
      | (go_at_call 11; refine (awake_any w HT.out).mono ?_; rintro e w1 ⟨rfl, hb1⟩)
      | (go_at_call_of 14 A; refine (own_any A n c p w1 HP.out (HRP.out.below hb1) (by omega)).mono ?_; rintro e w2 ⟨v, rfl, A2, m2, c2, rfl, hm2, hc2, hown2, hb2⟩; obtain rfl : m2 = n := hm2.symm.trans HP.out; have hbw2 : Below w.heap.size w w2 := hb1.trans (hb2.mono hb1.size); clear hm2)
      | (go_at_call 23; refine (HFS.out A2 c2 w2 (Rd.own hown2) (HT.out.below hbw2)).mono ?_; rintro e w3 ⟨v, rfl, A3, m3, c3, rfl, hm3, hc3, hown3, hb3⟩; have HM3 := Lib.hid hm3; have hm3b : m3 ≤ 4102 := Nat.le_trans (Nat.le_of_eq hm3.symm) hSl; have hbw3 : Below w.heap.size w w3 := hbw2.trans (hb3.mono hbw2.size); clear hm3)
      | (go_at_call_of 14 A3; refine (own_any A3 m3 c3 S w3 HM3.out (Rd.own hown3) (by omega)).mono ?_; rintro e w4 ⟨v, rfl, A4, m4, c4, rfl, hm4, hc4, hown4, hb4⟩; have HM4 := Lib.hid hm4; have hm4b : m4 ≤ 4102 := Nat.le_trans (Nat.le_of_eq hm4.symm) hSl; have hbw4 : Below w.heap.size w w4 := hbw3.trans (hb4.mono hbw3.size); clear hm4)
      | (at_builtin; refine wpList_app _ rfl (.tmp 30) (.tmp 31) _ rfl w3.heap.size 5 i0 _ 1 Tryd.underlying23 hi hz hz1 hz2 rfl (.slice A4 m4 c4) m4 (bv S) rfl hown4 B m d (bv l) rfl (by rw [bv_length]; exact HL.out) (HR.out.below hbw4) (bv_one _) (m4 + m) rfl (by unfold maxLen; omega) (by omega) hb4.size ?_; intro A5 c5 w5 hown5 hb5 _ _)
      | (go_at_call 24; refine (HTK.out A5 (m4 + m) m3 c5 w5 HM3.out (by rw [List.length_append, HM4.out, HL.out]) (by rw [bv_append]; exact Rd.own hown5) (own_cap hown5) (by omega) (HT.out.below (hbw4.trans (hb5.mono hbw3.size)))).mono ?_; rintro e w6 ⟨v, rfl, A6, m6, c6, rfl, hm6, hc6, hown6, hb6⟩; have HM6 := Lib.hid hm6; clear hm6))
    have hb36 : Below w3.heap.size w3 w6 := (hb4.trans hb5).trans (hb6.mono (hb4.trans hb5).size)
    have hbw6 : Below w.heap.size w w6 := hbw3.trans (hb36.mono hbw3.size)
    have hr3 := (Rd.own hown3).below hb36
    have hr6 := Rd.own hown6
    have hrp6 := HRP.out.below hbw6
    have hx3 := HCS.out w6.drew A3 m3 c3 S HM3.out hr3
    have hx6 := HCS.out w6.drew A6 m6 c6 p HM6.out hr6
    have hxp := HCS.out w6.drew A m2 c p HP.out hrp6
    refine wp_region_held_drew (S := fun W => (convert 23 9 (.slice A3 m3 c3)).run Tryd.prog W = .ok (.string ⟨S.toArray⟩) W ∧ (convert 23 9 (.slice A6 m6 c6)).run Tryd.prog W = .ok (.string ⟨p.toArray⟩) W ∧ (convert 23 9 (.slice A m2 c)).run Tryd.prog W = .ok (.string ⟨p.toArray⟩) W) (by kernel_rfl) (by (first | exact ⟨by assumption, by assumption, by assumption⟩ | go_keep)) (fun hHeld => ?_)
    refine wpAnyH_take (i := 0) (v := ?vr2_0) (Fr.take_at rfl) (by kernel_rfl) (by kernel_rfl) (by kernel_rfl) (fun _ _ _ h => h) (Or.inl ⟨by rfl, ?yr2_0⟩) (by assumption) ?nr2_0
    case yr2_0 => (intro w_ hSw; (try dsimp only at hSw); go_simp; (try with_reducible rfl))
    try simp only [Act.put, List.setIfInBounds_toArray, List.set_cons_zero, List.set_cons_succ]
    refine wpAnyH_take (i := 1) (v := ?vr2_1) (Fr.take_at rfl) (by kernel_rfl) (by kernel_rfl) (by kernel_rfl) (fun _ _ _ h => h) (Or.inl ⟨by rfl, ?yr2_1⟩) (by assumption) ?nr2_1
    case yr2_1 => (intro w_ hSw; (try dsimp only at hSw); go_simp; (try with_reducible rfl))
    try simp only [Act.put, List.setIfInBounds_toArray, List.set_cons_zero, List.set_cons_succ]
    refine wpAnyH_take (i := 2) (v := ?vr2_2) (Fr.take_at rfl) (by kernel_rfl) (by kernel_rfl) (by kernel_rfl) (fun _ _ _ h => h) (Or.inl ⟨by rfl, ?yr2_2⟩) (by assumption) ?nr2_2
    case yr2_2 => (intro w_ hSw; (try dsimp only at hSw); go_simp; (try with_reducible rfl))
    try simp only [Act.put, List.setIfInBounds_toArray, List.set_cons_zero, List.set_cons_succ]
    refine wpAnyH_take (i := 3) (v := ?vr2_3) (Fr.take_at rfl) (by kernel_rfl) (by kernel_rfl) (by kernel_rfl) (fun _ _ _ h => h) (Or.inl ⟨by rfl, ?yr2_3⟩) (by assumption) ?nr2_3
    case yr2_3 => (intro w_ hSw; (try dsimp only at hSw); go_simp; (try with_reducible rfl))
    try simp only [Act.put, List.setIfInBounds_toArray, List.set_cons_zero, List.set_cons_succ]
    refine wpAnyH_take (i := 4) (v := ?vr2_4) (Fr.take_at rfl) (by kernel_rfl) (by kernel_rfl) (by kernel_rfl) (fun _ _ _ h => h) (Or.inl ⟨by rfl, ?yr2_4⟩) (by assumption) ?nr2_4
    case yr2_4 => (intro w_ hSw; (try dsimp only at hSw); go_simp; (try with_reducible rfl))
    try simp only [Act.put, List.setIfInBounds_toArray, List.set_cons_zero, List.set_cons_succ]
    refine wpAnyH_take (i := 5) (v := ?vr2_5) (Fr.take_at rfl) (by kernel_rfl) (by kernel_rfl) (by kernel_rfl) (fun _ _ _ h => h) (Or.inl ⟨by rfl, ?yr2_5⟩) (by assumption) ?nr2_5
    case yr2_5 => (intro w_ hSw; (try dsimp only at hSw); go_simp; (try with_reducible rfl))
    try simp only [Act.put, List.setIfInBounds_toArray, List.set_cons_zero, List.set_cons_succ]
    refine wpAnyH_take (i := 6) (v := ?vr2_6) (Fr.take_at rfl) (by kernel_rfl) (by kernel_rfl) (by kernel_rfl) (fun _ _ _ h => h) (Or.inl ⟨by rfl, ?yr2_6⟩) (by assumption) ?nr2_6
    case yr2_6 => (intro w_ hSw; (try dsimp only at hSw); go_simp; (try with_reducible rfl))
    try simp only [Act.put, List.setIfInBounds_toArray, List.set_cons_zero, List.set_cons_succ]
    refine wpAnyH_take (i := 7) (v := ?vr2_7) (Fr.take_at rfl) (by kernel_rfl) (by kernel_rfl) (by kernel_rfl) (fun _ _ _ h => h) (Or.inl ⟨by rfl, ?yr2_7⟩) (by assumption) ?nr2_7
    case yr2_7 => (intro w_ hSw; (try dsimp only at hSw); go_simp; (try with_reducible rfl))
    try simp only [Act.put, List.setIfInBounds_toArray, List.set_cons_zero, List.set_cons_succ]
    refine wpAnyH_take (i := 8) (v := ?vr2_8) (Fr.take_at rfl) (by kernel_rfl) (by kernel_rfl) (by kernel_rfl) (fun _ _ _ h => h) (Or.inl ⟨by rfl, ?yr2_8⟩) (by assumption) ?nr2_8
    case yr2_8 => (intro w_ hSw; (try dsimp only at hSw); go_simp; (try with_reducible rfl))
    try simp only [Act.put, List.setIfInBounds_toArray, List.set_cons_zero, List.set_cons_succ]
    refine wpAnyH_take (i := 9) (v := ?vr2_9) (Fr.take_at rfl) (by kernel_rfl) (by kernel_rfl) (by kernel_rfl) (fun _ _ _ h => h) (Or.inl ⟨by rfl, ?yr2_9⟩) (by assumption) ?nr2_9
    case yr2_9 => (intro w_ hSw; (try dsimp only at hSw); go_simp; (try with_reducible rfl))
    try simp only [Act.put, List.setIfInBounds_toArray, List.set_cons_zero, List.set_cons_succ]
    refine wpAnyH_ready (rs := [10]) (by kernel_rfl) (by simp) ?_
    refine AllReadyH.cons (Fr.take_at rfl) (fun K hK => ?_) AllReadyH.nil
    go_simp
    (go_at_call 25; refine (HRS.out A c w6.drew hrp6).mono ?_; rintro e w8 ⟨v, rfl, A8, m8, c8, rfl, hm8, hc8, hown8, hb8⟩; have hy8 := HCS.out w8 A8 m8 c8 S hm8 (Rd.own hown8); have hy3 := HCS.out w8 A3 m3 c3 S HM3.out (hr3.below (below_of_drew hb8)); have hy6 := HCS.out w8 A6 m6 c6 p HM6.out (hr6.below (below_of_drew hb8)); have hyp := HCS.out w8 A m2 c p HP.out (hrp6.below (below_of_drew hb8)); have HM8 := Lib.hid hm8; clear hm8)
    try go_wp2_with fail
    refine hK.out _ _ (by (first | exact ⟨by assumption, by assumption, by assumption⟩ | go_keep)) (fun hHeld => ?_)
    clear hK K
    try simp only [Act.put, List.setIfInBounds_toArray, List.set_cons_zero, List.set_cons_succ]
    refine wpAnyH_ready (rs := [11]) (by kernel_rfl) (by simp) ?_
    refine AllReadyH.cons (Fr.take_at rfl) (fun K hK => ?_) AllReadyH.nil
    go_simp
    refine hK.out _ _ (by (first | exact ⟨by assumption, by assumption, by assumption⟩ | go_keep)) (fun hHeld => ?_)
    clear hK K
    try simp only [Act.put, List.setIfInBounds_toArray, List.set_cons_zero, List.set_cons_succ]
    refine wpAnyH_take (i := 12) (v := ?vr2_12) (Fr.take_at rfl) (by kernel_rfl) (by kernel_rfl) (by kernel_rfl) (fun _ _ _ h => h) (Or.inl ⟨by rfl, ?yr2_12⟩) (by assumption) ?nr2_12
    case yr2_12 => (intro w_ hSw; (try dsimp only at hSw); go_simp; (try with_reducible rfl))
    try simp only [Act.put, List.setIfInBounds_toArray, List.set_cons_zero, List.set_cons_succ]
    refine wpAnyH_take (i := 13) (v := ?vr2_13) (Fr.take_at rfl) (by kernel_rfl) (by kernel_rfl) (by kernel_rfl) (fun _ _ _ h => h) (Or.inl ⟨by rfl, ?yr2_13⟩) (by assumption) ?nr2_13
    case yr2_13 => (intro w_ hSw; (try dsimp only at hSw); go_simp; (try with_reducible rfl))
    try simp only [Act.put, List.setIfInBounds_toArray, List.set_cons_zero, List.set_cons_succ]
    refine wpAnyH_take (i := 14) (v := ?vr2_14) (Fr.take_at rfl) (by kernel_rfl) (by kernel_rfl) (by kernel_rfl) (fun _ _ _ h => h) (Or.inl ⟨by rfl, ?yr2_14⟩) (by assumption) ?nr2_14
    case yr2_14 => (intro w_ hSw; (try dsimp only at hSw); go_simp; (try with_reducible rfl))
    try simp only [Act.put, List.setIfInBounds_toArray, List.set_cons_zero, List.set_cons_succ]
    refine wpAnyH_take (i := 15) (v := ?vr2_15) (Fr.take_at rfl) (by kernel_rfl) (by kernel_rfl) (by kernel_rfl) (fun _ _ _ h => h) (Or.inl ⟨by rfl, ?yr2_15⟩) (by assumption) ?nr2_15
    case yr2_15 => (intro w_ hSw; (try dsimp only at hSw); go_simp; (try with_reducible rfl))
    try simp only [Act.put, List.setIfInBounds_toArray, List.set_cons_zero, List.set_cons_succ]
    refine wpAnyH_take (i := 16) (v := ?vr2_16) (Fr.take_at rfl) (by kernel_rfl) (by kernel_rfl) (by kernel_rfl) (fun _ _ _ h => h) (Or.inl ⟨by rfl, ?yr2_16⟩) (by assumption) ?nr2_16
    case yr2_16 => (intro w_ hSw; (try dsimp only at hSw); go_simp; (try with_reducible rfl))
    try simp only [Act.put, List.setIfInBounds_toArray, List.set_cons_zero, List.set_cons_succ]
    refine wpAnyH_take (i := 17) (v := ?vr2_17) (Fr.take_at rfl) (by kernel_rfl) (by kernel_rfl) (by kernel_rfl) (fun _ _ _ h => h) (Or.inl ⟨by rfl, ?yr2_17⟩) (by assumption) ?nr2_17
    case yr2_17 => (intro w_ hSw; (try dsimp only at hSw); go_simp; (try with_reducible rfl))
    try simp only [Act.put, List.setIfInBounds_toArray, List.set_cons_zero, List.set_cons_succ]
    refine wpAnyH_take (i := 18) (v := ?vr2_18) (Fr.take_at rfl) (by kernel_rfl) (by kernel_rfl) (by kernel_rfl) (fun _ _ _ h => h) (Or.inl ⟨by rfl, ?yr2_18⟩) (by assumption) ?nr2_18
    case yr2_18 => (intro w_ hSw; (try dsimp only at hSw); go_simp; (try with_reducible rfl))
    try simp only [Act.put, List.setIfInBounds_toArray, List.set_cons_zero, List.set_cons_succ]
    refine wpAnyH_take (i := 19) (v := ?vr2_19) (Fr.take_at rfl) (by kernel_rfl) (by kernel_rfl) (by kernel_rfl) (fun _ _ _ h => h) (Or.inl ⟨by rfl, ?yr2_19⟩) (by assumption) ?nr2_19
    case yr2_19 => (intro w_ hSw; (try dsimp only at hSw); go_simp; (try with_reducible rfl))
    try simp only [Act.put, List.setIfInBounds_toArray, List.set_cons_zero, List.set_cons_succ]
    refine wpAnyH_take (i := 20) (v := ?vr2_20) (Fr.take_at rfl) (by kernel_rfl) (by kernel_rfl) (by kernel_rfl) (fun _ _ _ h => h) (Or.inl ⟨by rfl, ?yr2_20⟩) (by assumption) ?nr2_20
    case yr2_20 => (intro w_ hSw; (try dsimp only at hSw); go_simp; (try with_reducible rfl))
    try simp only [Act.put, List.setIfInBounds_toArray, List.set_cons_zero, List.set_cons_succ]
    refine wpAnyH_take (i := 21) (v := ?vr2_21) (Fr.take_at rfl) (by kernel_rfl) (by kernel_rfl) (by kernel_rfl) (fun _ _ _ h => h) (Or.inl ⟨by rfl, ?yr2_21⟩) (by assumption) ?nr2_21
    case yr2_21 => (intro w_ hSw; (try dsimp only at hSw); go_simp; (try with_reducible rfl))
    try simp only [Act.put, List.setIfInBounds_toArray, List.set_cons_zero, List.set_cons_succ]
    refine wpAnyH_take (i := 22) (v := ?vr2_22) (Fr.take_at rfl) (by kernel_rfl) (by kernel_rfl) (by kernel_rfl) (fun _ _ _ h => h) (Or.inl ⟨by rfl, ?yr2_22⟩) (by assumption) ?nr2_22
    case yr2_22 => (intro w_ hSw; (try dsimp only at hSw); go_simp; (try with_reducible rfl))
    try simp only [Act.put, List.setIfInBounds_toArray, List.set_cons_zero, List.set_cons_succ]
    refine wpAnyH_take (i := 23) (v := ?vr2_23) (Fr.take_at rfl) (by kernel_rfl) (by kernel_rfl) (by kernel_rfl) (fun _ _ _ h => h) (Or.inl ⟨by rfl, ?yr2_23⟩) (by assumption) ?nr2_23
    case yr2_23 => (intro w_ hSw; (try dsimp only at hSw); go_simp; (try with_reducible rfl))
    try simp only [Act.put, List.setIfInBounds_toArray, List.set_cons_zero, List.set_cons_succ]
    refine wpAnyH_take (i := 24) (v := ?vr2_24) (Fr.take_at rfl) (by kernel_rfl) (by kernel_rfl) (by kernel_rfl) (fun _ _ _ h => h) (Or.inl ⟨by rfl, ?yr2_24⟩) (by assumption) ?nr2_24
    case yr2_24 => (intro w_ hSw; (try dsimp only at hSw); go_simp; (try with_reducible rfl))
    try simp only [Act.put, List.setIfInBounds_toArray, List.set_cons_zero, List.set_cons_succ]
    refine wpAnyH_take (i := 25) (v := ?vr2_25) (Fr.take_at rfl) (by kernel_rfl) (by kernel_rfl) (by kernel_rfl) (fun _ _ _ h => h) (Or.inl ⟨by rfl, ?yr2_25⟩) (by assumption) ?nr2_25
    case yr2_25 => (intro w_ hSw; (try dsimp only at hSw); go_simp; (try with_reducible rfl))
    try simp only [Act.put, List.setIfInBounds_toArray, List.set_cons_zero, List.set_cons_succ]
    refine wpAnyH_take (i := 26) (v := ?vr2_26) (Fr.take_at rfl) (by kernel_rfl) (by kernel_rfl) (by kernel_rfl) (fun _ _ _ h => h) (Or.inl ⟨by rfl, ?yr2_26⟩) (by assumption) ?nr2_26
    case yr2_26 => (intro w_ hSw; (try dsimp only at hSw); go_simp; (try with_reducible rfl))
    try simp only [Act.put, List.setIfInBounds_toArray, List.set_cons_zero, List.set_cons_succ]
    refine wpAnyH_take (i := 27) (v := ?vr2_27) (Fr.take_at rfl) (by kernel_rfl) (by kernel_rfl) (by kernel_rfl) (fun _ _ _ h => h) (Or.inl ⟨by rfl, ?yr2_27⟩) (by assumption) ?nr2_27
    case yr2_27 => (intro w_ hSw; (try dsimp only at hSw); go_simp; (try with_reducible rfl))
    try simp only [Act.put, List.setIfInBounds_toArray, List.set_cons_zero, List.set_cons_succ]
    refine wpAnyH_done (by kernel_rfl) ?_ _
    go_wp2
    go_ret
    exact Yes.mk (hbw6.trans ((below_of_drew hb8).mono hbw6.size))
end Fr
end Go.Proofs.YtjpimbbdjdlelaaDoor
