/-
  WHAT IS PROVED: the call of FrameOwn answers true in whatever memory holds the table, and makes new memory alone. CONDITIONS: the two slices read as the bytes that are named and have at most 1048576; the table lies where it is laid.
-/
import Derived.Test.YtjpimbbdjdlelaaDoorHold
import Derived.BigRegion
namespace Go.Proofs.YtjpimbbdjdlelaaDoor
open Go Go.RowKit
namespace Fr

theorem snoc_get {l : List UInt8} {n : Nat} (h : l.length = n) (v : Value) : (bv l ++ [v])[n]? = some v := by
  rw [List.getElem?_append_right (by rw [bv_length]; omega), bv_length, h, Nat.sub_self]
  rfl

theorem rd_one_at {k : Nat} (w : World) (t : TypeId) (fr : Nat × Nat) (x : Value) (cs : List Value) (h : w.heap.size = k) (hx : cs = [x]) : Rd (w.alloc (.cells #[x] t fr)) (some ⟨k, 0, none⟩) cs := h ▸ Rd.one w t fr x cs hx
theorem own_as {w : World} {b e n : Nat} {v : Value} {xs ys : List Value} (h : xs = ys) (ho : w.ownsRow b e 1 v n ys) : w.ownsRow b e 1 v n xs := h ▸ ho

set_option maxRecDepth 100000 in
set_option maxHeartbeats 8000000 in
theorem own_walk (A : Option Addr) (n c : Nat) (p : List UInt8) (B : Option Addr) (m d : Nat) (l : List UInt8) (w : World) (hp : p.length = n) (_hnc : n ≤ c) (hrp : Rd w A (bv p)) (hn : n ≤ 1048576) (hl : l.length = m) (_hmd : m ≤ d) (hrl : Rd w B (bv l)) (hm : m ≤ 1048576) (ht : Tab w) :
    Calls Tryd.prog 10 #[.slice A n c, .slice B m d] w (Yes w) := by
  obtain ⟨i0, hi, hz, hz1, hz2⟩ := info_parts info_u8
  obtain ⟨i1, hi1, hy, hy1, hy2⟩ := info_parts info_sl
  have HP := Lib.hid hp
  have HRP := Lib.hid hrp
  have HL := Lib.hid hl
  have HRL := Lib.hid hrl
  have HT := Lib.hid ht
  have hcs := fun (W : World) => run_str (P := Tryd.prog) W 23 9 5 Tryd.underlying23 Tryd.underlying5 Tryd.underlying9
  have HCS := Lib.hid hcs
  by_cases h4 : 4096 < n
  · clear hp hrp hl hrl ht hcs
    go_enter Tryd.func10, Tryd.ntmps10
    go_wp2_with (go_at_call 11; ((with_reducible refine (awake_any w HT.out).mono ?_); rintro e w1 ⟨rfl, hb1⟩))
    go_wp2_with (go_at_call 11; ((with_reducible refine (awake_any w1 (HT.out.below hb1)).mono ?_); rintro e w2 ⟨rfl, hb2⟩))
    go_ret
    exact Yes.mk (hb1.trans (hb2.mono hb1.size))
  · have hp4 : p.length ≤ 4096 := by omega
    have HP4 := Lib.hid hp4
    obtain ⟨S, hS⟩ : ∃ S, S = sealOf p := ⟨_, rfl⟩
    have hk2 := len_enc2 hp4
    have hk1 := len_enc_pos p.length
    obtain ⟨s, hs⟩ : ∃ s, S.length = s := ⟨_, rfl⟩
    have hss : s = (enc p.length).length + 4 + n := by rw [← hs, hS, sealOf_length, hp]
    have hs1 : 0 < s := by omega
    have hs2 : s ≤ 4102 := by omega
    clear hss hk1 hk2
    obtain ⟨I, hI⟩ : ∃ I, I = S ++ S ++ l := ⟨_, rfl⟩
    have hIb : bv I = bv S ++ bv S ++ bv l := by rw [hI, bv_append, bv_append]
    have hIl : I.length = s + s + m := by rw [hI, List.length_append, List.length_append, hs, hl]
    have hsc := scan_two hp4 l
    rw [← hS, ← hI, hs] at hsc
    obtain ⟨z, hz0⟩ : ∃ z, z = (scan l).2 := ⟨_, rfl⟩
    obtain ⟨R, hR0⟩ : ∃ R, R = (scan l).1 := ⟨_, rfl⟩
    have hzb : z ≤ m := by rw [hz0, ← hl]; exact scan_size _ _ (Nat.le_refl _)
    have hRb : R.length ≤ m := by rw [hR0, ← hl]; exact scan_len _ _ (Nat.le_refl _)
    rw [← hz0, ← hR0] at hsc
    have hsc1 : (scan I).1 = p :: p :: R := by rw [hsc]
    have hsc2 : (scan I).2 = s + (s + z) := by rw [hsc]
    have htf : takeF I = (p, s) := by rw [hI, List.append_assoc, hS, takeF_sealOf hp4, ← hS, hs]
    have htf1 : (takeF I).1 = p := by rw [htf]
    have htf2 : (takeF I).2 = s := by rw [htf]
    have hif : isFrame I = true := by rw [hI, List.append_assoc, hS]; exact isFrame_sealOf hp4 _
    have hfs := fun (A : Option Addr) (c : Nat) (W : World) (h1 : Rd W A (bv p)) (h2 : Tab W) => Fseal_yes A n c p W hp h1 (by omega) h2
    have hrs := fun (A : Option Addr) (c : Nat) (W : World) (h1 : Rd W A (bv p)) => Rseal_any A n c p W hp h1 (by omega)
    have hsf := fun (A : Option Addr) (c : Nat) (W : World) (h1 : Rd W A (bv I)) (h2 : s + s + m ≤ c) (h3 : Tab W) => Fscan_any A (s + s + m) c I W hIl h1 h2 (by omega) h3
    have htk := fun (A : Option Addr) (c : Nat) (W : World) (h1 : Rd W A (bv I)) (h2 : s + s + m ≤ c) (h3 : Tab W) => Ftakef_yes A (s + s + m) c I W hIl h1 h2 (by omega) h3 hif s htf2
    unfold SealRet at hfs
    unfold ScanRet at hsf
    rw [hsc1, hsc2] at hsf
    rw [htf1] at htk
    rw [← hS] at hfs hrs
    have HFS := Lib.hid hfs
    have HRS := Lib.hid hrs
    have HSF := Lib.hid hsf
    have HTK := Lib.hid htk
    have HSL := Lib.hid hs
    have HIL := Lib.hid hIl
    have HIB := Lib.hid hIb
    clear hp hrp hl hrl ht hcs hp4 hS hs hI hIb hIl hsc hz0 hR0 hsc1 hsc2 htf htf1 htf2 hif hfs hrs hsf htk
    go_enter Tryd.func10, Tryd.ntmps10
    go_wp2_with (first
      | (go_at_call 11; ((with_reducible refine (awake_any w HT.out).mono ?_); rintro e w1 ⟨rfl, hb1⟩))
      | (go_at_call_of 14 A; ((with_reducible refine (own_any A n c p w1 HP.out (HRP.out.below hb1) (by omega)).mono ?_); rintro e w2 ⟨v, rfl, A2, m2, c2, rfl, hm2, hc2, hown2, hb2⟩; obtain rfl := HP.out.symm.trans hm2; have hbw2 : Below w.heap.size w w2 := hb1.trans (hb2.mono hb1.size); clear hm2))
      | (at_builtin; refine wpList_app _ rfl (.tmp 30) (.tmp 31) _ rfl w1.heap.size 5 i0 _ 1 Tryd.underlying23 hi hz hz1 hz2 rfl (.slice A2 n c2) n (bv p) rfl (hown2.alloc _) (some ⟨w2.heap.size, 0, none⟩) 1 1 [_] rfl rfl (Rd.one _ _ _ _ _ rfl) (by intro u hu; simp at hu; subst hu; rfl) (n + 1) rfl (by unfold maxLen; omega) (by omega) (by have := hb2.size; simp; omega) ?_; intro A3 c3 w3 hown3 hb3 hg3 _; have hb13 : Below w1.heap.size w1 w3 := (hb2.alloc hb2.size _).trans hb3; have hbw3 : Below w.heap.size w w3 := hb1.trans (hb13.mono hb1.size); obtain ⟨hcut1, hcut2⟩ := cut_to (P := Tryd.prog) 23 5 i0 Tryd.underlying23 rfl hi hz1 A3 (n + 1) c3 n .i64 (n : Int) rfl (Nat.le_of_succ_le (own_cap hown3)))
      | (go_at_call 23; ((with_reducible refine (HFS.out A3 c3 w3 (rd_front (Rd.own hown3)) (HT.out.below hbw3)).mono ?_); rintro e w4 ⟨v, rfl, A4, m4, c4, rfl, hm4, hc4, hown4, hb4⟩; obtain rfl := HSL.out.symm.trans hm4; have hbw4 : Below w.heap.size w w4 := hbw3.trans (hb4.mono hbw3.size); clear hm4))
      | (go_at_call 23; ((with_reducible refine (HFS.out A3 c3 w4 ((rd_front (Rd.own hown3)).below hb4) (HT.out.below hbw4)).mono ?_); rintro e w5 ⟨v, rfl, A5, m5, c5, rfl, hm5, hc5, hown5, hb5⟩; obtain rfl := HSL.out.symm.trans hm5; have hbw5 : Below w.heap.size w w5 := hbw4.trans (hb5.mono hbw4.size); clear hm5)))
    have hb35 : Below w3.heap.size w3 w5 := hb4.trans (hb5.mono hb4.size)
    obtain ⟨g3, rfl, _, hg3l⟩ := own_from hown3 (by omega)
    have hcn := hown3.cellAt n (by omega)
    rw [snoc_get HP.out] at hcn
    have hcn5 : w5.drew.cell? ⟨g3, n, none⟩ = some (.int .u8 7) := (hb35.cell (p := ⟨g3, n, none⟩) hg3l).trans hcn
    have hx3 := HCS.out w5.drew (some ⟨g3, 0, none⟩) n c3 p HP.out ((rd_front (Rd.own hown3)).below hb35).drew
    have hxp := HCS.out w5.drew A n c p HP.out (HRP.out.below hbw5).drew
    have hlt0 : (0 : Int) ≤ (n : Int) := Int.natCast_nonneg _
    have hlt1 : (n : Int) < (n : Int) + 1 := by omega
    refine wp_region_held_drew (S := fun W => (convert 23 9 (.slice (some ⟨g3, 0, none⟩) n c3)).run Tryd.prog W = .ok (.string ⟨p.toArray⟩) W ∧ (convert 23 9 (.slice A n c)).run Tryd.prog W = .ok (.string ⟨p.toArray⟩) W ∧ W.cell? ⟨g3, n, none⟩ = some (.int .u8 7)) (by kernel_rfl) (by (first | exact ⟨by assumption, by assumption, by assumption⟩ | go_keep)) (fun hHeld => ?_)
    refine wpAnyH_take (i := 0) (v := ?vr2_0) (Fr.take_at rfl) (by kernel_rfl) (by kernel_rfl) (by kernel_rfl) (fun _ _ _ h => h) (Or.inl ⟨by rfl, ?yr2_0⟩) (by assumption) ?nr2_0
    case yr2_0 => (intro w_ hSw; (try dsimp only at hSw); go_simp; (try with_reducible rfl))
    try simp only [Act.put, List.setIfInBounds_toArray, List.set_cons_zero, List.set_cons_succ]
    refine wpAnyH_take (i := 1) (v := ?vr2_1) (Fr.take_at rfl) (by kernel_rfl) (by kernel_rfl) (by kernel_rfl) (fun _ _ _ h => h) (Or.inl ⟨by rfl, ?yr2_1⟩) (by assumption) ?nr2_1
    case yr2_1 => (intro w_ hSw; (try dsimp only at hSw); go_simp; (try with_reducible rfl))
    try simp only [Act.put, List.setIfInBounds_toArray, List.set_cons_zero, List.set_cons_succ]
    refine wpAnyH_take (i := 2) (v := ?vr2_2) (Fr.take_at rfl) (by kernel_rfl) (by kernel_rfl) (by kernel_rfl) (fun _ _ _ h => h) (Or.inl ⟨by rfl, ?yr2_2⟩) (by assumption) ?nr2_2
    case yr2_2 => (intro w_ hSw; (try dsimp only at hSw); go_simp; (try with_reducible rfl))
    try simp only [Act.put, List.setIfInBounds_toArray, List.set_cons_zero, List.set_cons_succ]
    refine wpAnyH_take (i := 3) (v := ?vr2_3) (Fr.take_at rfl) (by kernel_rfl) (by kernel_rfl) (by kernel_rfl) (fun _ _ _ h => h) (Or.inl ⟨by rfl, ?yr2_3⟩) (by assumption) ?nr2_3
    case yr2_3 => (intro w_ hSw; (try dsimp only at hSw); go_simp; (try with_reducible rfl))
    try simp only [Act.put, List.setIfInBounds_toArray, List.set_cons_zero, List.set_cons_succ]
    refine wpAnyH_take (i := 4) (v := ?vr2_4) (Fr.take_at rfl) (by kernel_rfl) (by kernel_rfl) (by kernel_rfl) (fun _ _ _ h => h) (Or.inl ⟨by rfl, ?yr2_4⟩) (by assumption) ?nr2_4
    case yr2_4 => (intro w_ hSw; (try dsimp only at hSw); go_simp; (try with_reducible rfl))
    try simp only [Act.put, List.setIfInBounds_toArray, List.set_cons_zero, List.set_cons_succ]
    refine wpAnyH_take (i := 5) (v := ?vr2_5) (Fr.take_at rfl) (by kernel_rfl) (by kernel_rfl) (by kernel_rfl) (fun _ _ _ h => h) (Or.inl ⟨by rfl, ?yr2_5⟩) (by assumption) ?nr2_5
    case yr2_5 => (intro w_ hSw; (try dsimp only at hSw); go_simp; (try with_reducible rfl))
    try simp only [Act.put, List.setIfInBounds_toArray, List.set_cons_zero, List.set_cons_succ]
    refine wpAnyH_take (i := 6) (v := ?vr2_6) (Fr.take_at rfl) (by kernel_rfl) (by kernel_rfl) (by kernel_rfl) (fun _ _ _ h => h) (Or.inl ⟨by rfl, ?yr2_6⟩) (by assumption) ?nr2_6
    case yr2_6 => (intro w_ hSw; (try dsimp only at hSw); go_simp; (try with_reducible rfl))
    try simp only [Act.put, List.setIfInBounds_toArray, List.set_cons_zero, List.set_cons_succ]
    refine wpAnyH_take (i := 7) (v := ?vr2_7) (Fr.take_at rfl) (by kernel_rfl) (by kernel_rfl) (by kernel_rfl) (fun _ _ _ h => h) (Or.inl ⟨by rfl, ?yr2_7⟩) (by assumption) ?nr2_7
    case yr2_7 => (intro w_ hSw; (try dsimp only at hSw); go_simp; (try with_reducible rfl))
    try simp only [Act.put, List.setIfInBounds_toArray, List.set_cons_zero, List.set_cons_succ]
    refine wpAnyH_take (i := 8) (v := ?vr2_8) (Fr.take_at rfl) (by kernel_rfl) (by kernel_rfl) (by kernel_rfl) (fun _ _ _ h => h) (Or.inl ⟨by rfl, ?yr2_8⟩) (by assumption) ?nr2_8
    case yr2_8 => (intro w_ hSw; (try dsimp only at hSw); go_simp; (try with_reducible rfl))
    try simp only [Act.put, List.setIfInBounds_toArray, List.set_cons_zero, List.set_cons_succ]
    refine wpAnyH_take (i := 9) (v := ?vr2_9) (Fr.take_at rfl) (by kernel_rfl) (by kernel_rfl) (by kernel_rfl) (fun _ _ _ h => h) (Or.inl ⟨by rfl, ?yr2_9⟩) (by assumption) ?nr2_9
    case yr2_9 => (intro w_ hSw; (try dsimp only at hSw); go_simp; (try with_reducible rfl))
    try simp only [Act.put, List.setIfInBounds_toArray, List.set_cons_zero, List.set_cons_succ]
    refine wpAnyH_take (i := 10) (v := ?vr2_10) (Fr.take_at rfl) (by kernel_rfl) (by kernel_rfl) (by kernel_rfl) (fun _ _ _ h => h) (Or.inl ⟨by rfl, ?yr2_10⟩) (by assumption) ?nr2_10
    case yr2_10 => (intro w_ hSw; (try dsimp only at hSw); go_simp; (try with_reducible rfl))
    try simp only [Act.put, List.setIfInBounds_toArray, List.set_cons_zero, List.set_cons_succ]
    refine wpAnyH_take (i := 11) (v := ?vr2_11) (Fr.take_at rfl) (by kernel_rfl) (by kernel_rfl) (by kernel_rfl) (fun _ _ _ h => h) (Or.inl ⟨by rfl, ?yr2_11⟩) (by assumption) ?nr2_11
    case yr2_11 => (intro w_ hSw; (try dsimp only at hSw); go_simp; (try with_reducible rfl))
    try simp only [Act.put, List.setIfInBounds_toArray, List.set_cons_zero, List.set_cons_succ]
    refine wpAnyH_take (i := 12) (v := ?vr2_12) (Fr.take_at rfl) (by kernel_rfl) (by kernel_rfl) (by kernel_rfl) (fun _ _ _ h => h) (Or.inl ⟨by rfl, ?yr2_12⟩) (by assumption) ?nr2_12
    case yr2_12 => (intro w_ hSw; (try dsimp only at hSw); go_simp; (try with_reducible rfl))
    try simp only [Act.put, List.setIfInBounds_toArray, List.set_cons_zero, List.set_cons_succ]
    refine wpAnyH_take (i := 13) (v := ?vr2_13) (Fr.take_at rfl) (by kernel_rfl) (by kernel_rfl) (by kernel_rfl) (fun _ _ _ h => h) (Or.inl ⟨by rfl, ?yr2_13⟩) (by assumption) ?nr2_13
    case yr2_13 => (intro w_ hSw; (try dsimp only at hSw); go_simp; (try with_reducible rfl))
    try simp only [Act.put, List.setIfInBounds_toArray, List.set_cons_zero, List.set_cons_succ]
    refine wpAnyH_take (i := 14) (v := ?vr2_14) (Fr.take_at rfl) (by kernel_rfl) (by kernel_rfl) (by kernel_rfl) (fun _ _ _ h => h) (Or.inl ⟨by rfl, ?yr2_14⟩) (by assumption) ?nr2_14
    case yr2_14 => (intro w_ hSw; (try dsimp only at hSw); go_simp; (try with_reducible rfl))
    try simp only [Act.put, List.setIfInBounds_toArray, List.set_cons_zero, List.set_cons_succ]
    refine wpAnyH_take (i := 15) (v := ?vr2_15) (Fr.take_at rfl) (by kernel_rfl) (by kernel_rfl) (by kernel_rfl) (fun _ _ _ h => h) (Or.inl ⟨by rfl, ?yr2_15⟩) (by assumption) ?nr2_15
    case yr2_15 => (intro w_ hSw; (try dsimp only at hSw); go_simp; (try with_reducible rfl))
    try simp only [Act.put, List.setIfInBounds_toArray, List.set_cons_zero, List.set_cons_succ]
    refine wpAnyH_done (by kernel_rfl) ?_ _
    clear hx3 hxp hcn5 hcn
    have hrb5 := (Rd.own hown4).below hb5
    have hw2 : IntKind.i64.wrap (2 * (s : Int)) = 2 * (s : Int) := IntWalk.i64_in _ (by omega)
    have hdn : decide (((s + (s + z) : Nat) : Int) < 2 * (s : Int)) = false := decide_eq_false (by omega)
    have hdk : decide (((R.length + 2 : Nat) : Int) < 2) = false := decide_eq_false (by omega)
    go_wp2_with (first
      | (go_at_call_of 14 A4; ((with_reducible refine (own_any A4 s c4 S _ HSL.out hrb5.drew (by omega)).mono ?_); rintro e w6 ⟨v, rfl, A6, m6, c6, rfl, hm6, hc6, hown6, hb6'⟩; obtain rfl := HSL.out.symm.trans hm6; have hb6 := below_of_drew hb6'; clear hm6 hb6'))
      | (at_builtin; refine wpList_app _ rfl (.tmp 66) (.tmp 67) _ rfl w5.heap.size 5 i0 _ 1 Tryd.underlying23 hi hz hz1 hz2 rfl (.slice A6 s c6) s (bv S) rfl hown6 A4 s c4 (bv S) rfl (by rw [bv_length]; exact HSL.out) (hrb5.below hb6) (bv_one _) (s + s) rfl (by unfold maxLen; omega) (by omega) hb6.size ?_; intro A7 c7 w7 hown7 hb7 hg7 _; have hb57 := hb6.trans hb7; have hbw7 : Below w.heap.size w w7 := hbw5.trans (hb57.mono hbw5.size))
      | (at_builtin; refine wpList_app _ rfl (.tmp 68) (.tmp 69) _ rfl w5.heap.size 5 i0 _ 1 Tryd.underlying23 hi hz hz1 hz2 rfl (.slice A7 (s + s) c7) (s + s) (bv S ++ bv S) rfl hown7 B m d (bv l) rfl (by rw [bv_length]; exact HL.out) (HRL.out.below hbw7) (bv_one _) (s + s + m) rfl (by unfold maxLen; omega) (by omega) hb57.size ?_; intro A8 c8 w8 hown8' hb8 hg8 _; have hb58 := hb57.trans hb8; have hbw8 : Below w.heap.size w w8 := hbw5.trans (hb58.mono hbw5.size); have hown8 := own_as HIB.out hown8'; clear hown8'; have hx8 := HCS.out w8 A8 (s + s + m) c8 I HIL.out (Rd.own hown8))
      | (go_at_call 27; ((with_reducible refine (HSF.out A8 c8 w8 (Rd.own hown8) (own_cap hown8) (HT.out.below hbw8)).mono ?_); rintro e w9 ⟨A9, k9, c9, vs9, rfl, hk9, hc9, hown9, hol9, hb9⟩; obtain rfl : R.length + 2 = k9 := hk9; have hbw9 : Below w.heap.size w w9 := hbw8.trans (hb9.mono hbw8.size)))
      | (go_at_call 24; ((with_reducible refine (HTK.out A8 c8 w9 ((Rd.own hown8).below hb9) (own_cap hown8) (HT.out.below hbw9)).mono ?_); rintro e w10 ⟨v, rfl, A10, m10, c10, rfl, hm10, hc10, hown10, hb10⟩; obtain rfl := HP.out.symm.trans hm10; have hbw10 : Below w.heap.size w w10 := hbw9.trans (hb10.mono hbw9.size); have hx10 := HCS.out w10 A8 (s + s + m) c8 I HIL.out ((Rd.own hown8).below (hb9.trans (hb10.mono hb9.size))); clear hm10)))
    obtain ⟨u0, u1, us, b1, rfl, hu0, hu1, hb1a, hb1b, hu0k, hu1k⟩ := hol9.two hb9.size
    rw [HP.out] at hu0 hu1
    obtain ⟨A0, c0, rfl, hc0, _⟩ := own_shape hu0
    obtain ⟨A11, c11, rfl, hc11, _⟩ := own_shape hu1
    obtain ⟨g4, rfl, hg4a, hg4b⟩ := own_from hown4 hs1
    obtain ⟨g8, rfl, hg8a, hg8b⟩ := own_from hown8 (by omega)
    obtain ⟨g9, rfl, hg9a, hg9b⟩ := own_from hown9 (by omega)
    have hb810 : Below w8.heap.size w8 w10 := hb9.trans (hb10.mono hb9.size)
    have hb510 : Below w5.heap.size w5 w10 := hb58.trans (hb810.mono hb58.size)
    have hb410 : Below w4.heap.size w4 w10 := hb5.trans (hb510.mono hb5.size)
    have hM : Marks w w3.heap.size w4.heap.size w5.heap.size w8.heap.size w9.heap.size w10.heap.size b1 (.slice A5 s c5) (.slice A11 n c11) (.slice A10 n c10) :=
      ⟨hbw3.size, hb4.size, hb5.size, hb58.size, hb1a, hb1b, hb10.size, fun k hk => hown5.lt k hk, hu1k, fun k hk => hown10.lt k hk⟩
    have hA : All w w10 w3.heap.size w4.heap.size w8.heap.size w9.heap.size w10.heap.size b1 (.slice A5 s c5) (.slice A11 n c11) (.slice A10 n c10) s n S p (.slice (some ⟨g4, 0, none⟩) s c4) (s) (bv S) (.slice (some ⟨g9, 0, none⟩) (R.length + 2) c9) (R.length + 2) (.slice A0 n c0 :: .slice A11 n c11 :: us) (.slice A0 n c0) (n) (bv p) :=
      ⟨own_below hown4 hb410 (Nat.le_refl _), own_below hown9 hb10 (Nat.le_refl _), own_below hu0 hb10 (Nat.le_refl _), own_below hown5 hb510 (Nat.le_refl _), own_below hu1 hb10 (Nat.le_refl _), hown10, hbw10, fun k hk => .inl (hown4.lt k hk).2, fun k hk => .inl (hu0k k hk),
        off_of fun k g hk hg => by (have h1 := (hown4.lt k hk).2; have h2 := (hu0.lt g hg).1; have h3 := hb5.size; have h4 := hb58.size; omega), Nat.le_refl _⟩
    have hin := own_below hown8 hb810 (Nat.le_refl _)
    have hw8 := hbw8.size
    have HM := Lib.hid hM
    have HA := Lib.hid hA
    have hl0 : (0 : Int) < (R.length : Int) + 2 := by omega
    have hl1 : (1 : Int) < (R.length : Int) + 2 := by omega
    clear hM hA hu0 hu1 hu0k hu1k hown2 hown3 hown4 hown5 hown6 hown7 hown8 hown9 hol9 hown10 hx8 hx10 hg3 hg7 hg8 hcut1 hcut2 hrb5
    go_loopw [102] (fun x wr => ∃ (i : Nat) (xs : List Value), i ≤ s + s + m ∧ x = .int .i64 i ∧ wr.ownsRow w5.heap.size 5 1 (.slice (some ⟨g8, 0, none⟩) (s + s + m) c8) (s + s + m) xs ∧ Hid (All w wr w3.heap.size w4.heap.size w8.heap.size w9.heap.size w10.heap.size b1 (.slice A5 s c5) (.slice A11 n c11) (.slice A10 n c10) s n S p (.slice (some ⟨g4, 0, none⟩) s c4) (s) (bv S) (.slice (some ⟨g9, 0, none⟩) (R.length + 2) c9) (R.length + 2) (.slice A0 n c0 :: .slice A11 n c11 :: us) (.slice A0 n c0) (n) (bv p))) (fun x _ => s + s + m - (intOf x).toNat)
    case atStart => exact ⟨0, _, Nat.zero_le _, rfl, hin, HA⟩
    case round =>
      obtain ⟨i, xs, hi', rfl, hrow, HA1⟩ := hrel
      by_cases hit : i < s + s + m
      · have hxl : xs.length = s + s + m := by have := hrow.1; omega
        have hc1 := hrow.cellAt i (by omega)
        rw [List.getElem?_eq_getElem (by omega)] at hc1
        have hf1 := hrow.frozenAt i
        have hst := hrow.stored i (.int .u8 0)
        have HST := Lib.hid hst
        clear hst
        go_wp2
        go_roundw
        case rel => exact ⟨i + 1, _, hit, by go_num, HST.out.1, Lib.hid (HA1.out.in_ HM.out HST.out.2 hg8a hg8b)⟩
        case measure => simp [intOf]; omega
      · clear hin HA hrow
        go_wp2
        go_loopw [111] (fun x wr => ∃ (i : Nat) (ys : List Value), i ≤ s ∧ x = .int .i64 i ∧ Hid (All w wr w3.heap.size w4.heap.size w8.heap.size w9.heap.size w10.heap.size b1 (.slice A5 s c5) (.slice A11 n c11) (.slice A10 n c10) s n S p (.slice (some ⟨g4, 0, none⟩) s c4) (s) (ys) (.slice (some ⟨g9, 0, none⟩) (R.length + 2) c9) (R.length + 2) (.slice A0 n c0 :: .slice A11 n c11 :: us) (.slice A0 n c0) (n) (bv p))) (fun x _ => s - (intOf x).toNat)
        case atStart => exact ⟨0, _, Nat.zero_le _, rfl, HA1⟩
        case round =>
          clear HA1
          obtain ⟨i2, ys, hi2, rfl, HA2⟩ := hrel
          by_cases hit2 : i2 < s
          · have hrow := HA2.out.1
            have hxl : ys.length = s := by have := hrow.1; omega
            have hc1 := hrow.cellAt i2 (by omega)
            rw [List.getElem?_eq_getElem (by omega)] at hc1
            have hf1 := hrow.frozenAt i2
            have hst := hrow.stored i2 (.int .u8 1)
            have HST := Lib.hid hst
            clear hst hrow
            go_wp2
            go_roundw
            case rel => exact ⟨i2 + 1, _, hit2, by go_num, Lib.hid (HA2.out.b_ HM.out HST.out.1 HST.out.2 (.inl rfl))⟩
            case measure => simp [intOf]; omega
          · have hcl : wr.cell? ⟨g9, 0, none⟩ = some (.slice A0 n c0) := HA2.out.2.1.cellAt 0 (by omega)
            go_wp2
            clear hcl
            go_loopw [122] (fun x wr => ∃ (i : Nat) (zs : List Value), i ≤ n ∧ x = .int .i64 i ∧ Hid (All w wr w3.heap.size w4.heap.size w8.heap.size w9.heap.size w10.heap.size b1 (.slice A5 s c5) (.slice A11 n c11) (.slice A10 n c10) s n S p (.slice (some ⟨g4, 0, none⟩) s c4) (s) (ys) (.slice (some ⟨g9, 0, none⟩) (R.length + 2) c9) (R.length + 2) (.slice A0 n c0 :: .slice A11 n c11 :: us) (.slice A0 n c0) (n) (zs))) (fun x _ => n - (intOf x).toNat)
            case atStart => exact ⟨0, _, Nat.zero_le _, rfl, HA2⟩
            case round =>
              clear HA2
              obtain ⟨i3, zs, hi3, rfl, HA3⟩ := hrel
              have hcl : wr.cell? ⟨g9, 0, none⟩ = some (.slice A0 n c0) := HA3.out.2.1.cellAt 0 (by omega)
              by_cases hit3 : i3 < n
              · have hrow := HA3.out.2.2.1
                obtain ⟨g0, rfl, _, _⟩ := own_from hrow (by omega)
                have hxl : zs.length = n := by have := hrow.1; omega
                have hc1 := hrow.cellAt i3 (by omega)
                rw [List.getElem?_eq_getElem (by omega)] at hc1
                have hf1 := hrow.frozenAt i3
                have hst := hrow.stored i3 (.int .u8 2)
                have HST := Lib.hid hst
                clear hst hrow
                go_wp2
                go_roundw
                case rel => exact ⟨i3 + 1, _, hit3, by go_num, Lib.hid (HA3.out.z_ HM.out HST.out.1 HST.out.2 (.inl rfl))⟩
                case measure => simp [intOf]; omega
              · clear hcl
                go_wp2
                go_loopw [6, 20] (fun vb x wr => ∃ (i cb c0' : Nat) (Ab A0' : Option Addr) (ys zs : List Value), i ≤ 20 ∧ x = .int .i64 i ∧ vb = .slice Ab (s + i) cb ∧ Hid (All w wr w3.heap.size w4.heap.size w8.heap.size w9.heap.size w10.heap.size b1 (.slice A5 s c5) (.slice A11 n c11) (.slice A10 n c10) s n S p (.slice Ab (s + i) cb) (s + i) (ys) (.slice (some ⟨g9, 0, none⟩) (R.length + 2) c9) (R.length + 2) (.slice A0' (n + i) c0' :: .slice A11 n c11 :: us) (.slice A0' (n + i) c0') (n + i) (zs))) (fun _ x _ => 20 - (intOf x).toNat)
                case atStart => exact ⟨0, c4, c0, some ⟨g4, 0, none⟩, A0, _, _, Nat.zero_le _, rfl, rfl, HA3⟩
                case round =>
                  clear HA3
                  obtain ⟨i4, cb, c0', Ab, A0', ys', zs', hi4, rfl, rfl, HA4⟩ := hrel
                  by_cases hit4 : i4 < 20
                  · have hcl : wr.cell? ⟨g9, 0, none⟩ = some (.slice A0' (n + i4) c0') := HA4.out.2.1.cellAt 0 (by omega)
                    have hsz4 := HA4.out.2.2.2.2.2.2.2.2.2.2
                    have hm8 : w8.heap.size ≤ w10.heap.size := hb810.size
                    have hm3 : w3.heap.size ≤ w10.heap.size := Nat.le_trans hb4.size hb410.size
                    go_wp2_with (first
                      | (at_builtin; refine wpList_app _ rfl (.tmp 138) (.tmp 139) _ rfl w8.heap.size 5 i0 _ 1 Tryd.underlying23 hi hz hz1 hz2 rfl (.slice A0' (n + i4) c0') (n + i4) zs' rfl (HA4.out.2.2.1.alloc _) (some ⟨wr.heap.size, 0, none⟩) 1 1 [_] rfl rfl (Rd.one _ _ _ _ _ rfl) (by intro u hu; simp at hu; subst hu; rfl) (n + i4 + 1) rfl (by unfold maxLen; omega) (by omega) (by simp; omega) ?_; intro A20 c20 w20 hz20 hb20 hg20 ho20; have HA5 := Lib.hid ((HA4.out.alloc _).z_ HM.out hz20 hg20 ho20); clear hz20 hg20 ho20 hb20; have hcl2 : w20.cell? ⟨g9, 0, none⟩ = some (.slice A0' (n + i4) c0') := HA5.out.2.1.cellAt 0 (Nat.mul_pos (Nat.succ_pos _) Nat.one_pos); have hfz2 := HA5.out.2.1.frozenAt 0; have HST := Lib.hid (HA5.out.2.1.stored 0 (.slice A20 (n + i4 + 1) c20)); have HA6 := Lib.hid (HA5.out.o_ hw8 HST.out.1 HST.out.2); have hsz6 := HA6.out.2.2.2.2.2.2.2.2.2.2)
                      | (at_builtin; refine wpList_app _ rfl (.tmp 142) (.tmp 143) _ rfl w3.heap.size 5 i0 _ 1 Tryd.underlying23 hi hz hz1 hz2 rfl (.slice Ab (s + i4) cb) (s + i4) ys' rfl (HA6.out.1.alloc _) _ 1 1 [_] rfl rfl (rd_one_at _ _ _ _ _ (by simp) rfl) (by intro u hu; simp at hu; subst hu; rfl) (s + i4 + 1) rfl (by unfold maxLen; omega) (by omega) (Nat.le_trans hm3 (Nat.le_trans hsz6 (Below.alloc (Below.refl _ _) (Nat.le_refl _) _).size)) ?_; intro A21 c21 w21 hz21 hb21 hg21 ho21; have HA7 := Lib.hid ((HA6.out.alloc _).b_ HM.out hz21 hg21 ho21)))
                    go_roundw
                    case rel => exact ⟨i4 + 1, c21, c20, A21, A20, _, _, hit4, by go_num, rfl, HA7⟩
                    case measure => simp [intOf]; omega
                  · have hcl : wr.drew.cell? ⟨g9, 1, none⟩ = some (.slice A11 n c11) := HA4.out.2.1.cellAt 1 (by omega)
                    have hbwr := HA4.out.2.2.2.2.2.2.1
                    have hr1 := Rd.own HA4.out.2.2.2.2.1
                    have hrq := Rd.own HA4.out.2.2.2.2.2.1
                    have hrc := Rd.own HA4.out.2.2.2.1
                    have hrpw := HRP.out.below hbwr
                    have hg9w : g9 < wr.heap.size := (HA4.out.2.1.lt g9 rfl).2
                    have hx1 := HCS.out wr.drew A11 n c11 p HP.out hr1.drew
                    have hxp := HCS.out wr.drew A n c p HP.out hrpw.drew
                    have hxq := HCS.out wr.drew A10 n c10 p HP.out hrq.drew
                    have hxc := HCS.out wr.drew A5 s c5 S HSL.out hrc.drew
                    clear HA4
                    go_wp2
                    refine wp_region_held_drew (S := fun W => (convert 23 9 (.slice A11 n c11)).run Tryd.prog W = .ok (.string ⟨p.toArray⟩) W ∧ (convert 23 9 (.slice A n c)).run Tryd.prog W = .ok (.string ⟨p.toArray⟩) W ∧ (convert 23 9 (.slice A10 n c10)).run Tryd.prog W = .ok (.string ⟨p.toArray⟩) W ∧ (convert 23 9 (.slice A5 s c5)).run Tryd.prog W = .ok (.string ⟨S.toArray⟩) W ∧ W.cell? ⟨g9, 1, none⟩ = some (.slice A11 n c11)) (by kernel_rfl) (by (first | exact ⟨by assumption, by assumption, by assumption, by assumption, by assumption⟩ | go_keep)) (fun hHeld => ?_)
                    refine wpAnyH_take (i := 0) (v := ?vr3_0) (Fr.take_at rfl) (by kernel_rfl) (by kernel_rfl) (by kernel_rfl) (fun _ _ _ h => h) (Or.inl ⟨by rfl, ?yr3_0⟩) (by assumption) ?nr3_0
                    case yr3_0 => (intro w_ hSw; (try dsimp only at hSw); go_simp; (try with_reducible rfl))
                    try simp only [Act.put, List.setIfInBounds_toArray, List.set_cons_zero, List.set_cons_succ]
                    refine wpAnyH_take (i := 1) (v := ?vr3_1) (Fr.take_at rfl) (by kernel_rfl) (by kernel_rfl) (by kernel_rfl) (fun _ _ _ h => h) (Or.inl ⟨by rfl, ?yr3_1⟩) (by assumption) ?nr3_1
                    case yr3_1 => (intro w_ hSw; (try dsimp only at hSw); go_simp; (try with_reducible rfl))
                    try simp only [Act.put, List.setIfInBounds_toArray, List.set_cons_zero, List.set_cons_succ]
                    refine wpAnyH_take (i := 2) (v := ?vr3_2) (Fr.take_at rfl) (by kernel_rfl) (by kernel_rfl) (by kernel_rfl) (fun _ _ _ h => h) (Or.inl ⟨by rfl, ?yr3_2⟩) (by assumption) ?nr3_2
                    case yr3_2 => (intro w_ hSw; (try dsimp only at hSw); go_simp; (try with_reducible rfl))
                    try simp only [Act.put, List.setIfInBounds_toArray, List.set_cons_zero, List.set_cons_succ]
                    refine wpAnyH_take (i := 3) (v := ?vr3_3) (Fr.take_at rfl) (by kernel_rfl) (by kernel_rfl) (by kernel_rfl) (fun _ _ _ h => h) (Or.inl ⟨by rfl, ?yr3_3⟩) (by assumption) ?nr3_3
                    case yr3_3 => (intro w_ hSw; (try dsimp only at hSw); go_simp; (try with_reducible rfl))
                    try simp only [Act.put, List.setIfInBounds_toArray, List.set_cons_zero, List.set_cons_succ]
                    refine wpAnyH_take (i := 4) (v := ?vr3_4) (Fr.take_at rfl) (by kernel_rfl) (by kernel_rfl) (by kernel_rfl) (fun _ _ _ h => h) (Or.inl ⟨by rfl, ?yr3_4⟩) (by assumption) ?nr3_4
                    case yr3_4 => (intro w_ hSw; (try dsimp only at hSw); go_simp; (try with_reducible rfl))
                    try simp only [Act.put, List.setIfInBounds_toArray, List.set_cons_zero, List.set_cons_succ]
                    refine wpAnyH_take (i := 5) (v := ?vr3_5) (Fr.take_at rfl) (by kernel_rfl) (by kernel_rfl) (by kernel_rfl) (fun _ _ _ h => h) (Or.inl ⟨by rfl, ?yr3_5⟩) (by assumption) ?nr3_5
                    case yr3_5 => (intro w_ hSw; (try dsimp only at hSw); go_simp; (try with_reducible rfl))
                    try simp only [Act.put, List.setIfInBounds_toArray, List.set_cons_zero, List.set_cons_succ]
                    refine wpAnyH_take (i := 6) (v := ?vr3_6) (Fr.take_at rfl) (by kernel_rfl) (by kernel_rfl) (by kernel_rfl) (fun _ _ _ h => h) (Or.inl ⟨by rfl, ?yr3_6⟩) (by assumption) ?nr3_6
                    case yr3_6 => (intro w_ hSw; (try dsimp only at hSw); go_simp; (try with_reducible rfl))
                    try simp only [Act.put, List.setIfInBounds_toArray, List.set_cons_zero, List.set_cons_succ]
                    refine wpAnyH_take (i := 7) (v := ?vr3_7) (Fr.take_at rfl) (by kernel_rfl) (by kernel_rfl) (by kernel_rfl) (fun _ _ _ h => h) (Or.inl ⟨by rfl, ?yr3_7⟩) (by assumption) ?nr3_7
                    case yr3_7 => (intro w_ hSw; (try dsimp only at hSw); go_simp; (try with_reducible rfl))
                    try simp only [Act.put, List.setIfInBounds_toArray, List.set_cons_zero, List.set_cons_succ]
                    refine wpAnyH_take (i := 8) (v := ?vr3_8) (Fr.take_at rfl) (by kernel_rfl) (by kernel_rfl) (by kernel_rfl) (fun _ _ _ h => h) (Or.inl ⟨by rfl, ?yr3_8⟩) (by assumption) ?nr3_8
                    case yr3_8 => (intro w_ hSw; (try dsimp only at hSw); go_simp; (try with_reducible rfl))
                    try simp only [Act.put, List.setIfInBounds_toArray, List.set_cons_zero, List.set_cons_succ]
                    refine wpAnyH_take (i := 9) (v := ?vr3_9) (Fr.take_at rfl) (by kernel_rfl) (by kernel_rfl) (by kernel_rfl) (fun _ _ _ h => h) (Or.inl ⟨by rfl, ?yr3_9⟩) (by assumption) ?nr3_9
                    case yr3_9 => (intro w_ hSw; (try dsimp only at hSw); go_simp; (try with_reducible rfl))
                    try simp only [Act.put, List.setIfInBounds_toArray, List.set_cons_zero, List.set_cons_succ]
                    refine wpAnyH_take (i := 10) (v := ?vr3_10) (Fr.take_at rfl) (by kernel_rfl) (by kernel_rfl) (by kernel_rfl) (fun _ _ _ h => h) (Or.inl ⟨by rfl, ?yr3_10⟩) (by assumption) ?nr3_10
                    case yr3_10 => (intro w_ hSw; (try dsimp only at hSw); go_simp; (try with_reducible rfl))
                    try simp only [Act.put, List.setIfInBounds_toArray, List.set_cons_zero, List.set_cons_succ]
                    refine wpAnyH_take (i := 11) (v := ?vr3_11) (Fr.take_at rfl) (by kernel_rfl) (by kernel_rfl) (by kernel_rfl) (fun _ _ _ h => h) (Or.inl ⟨by rfl, ?yr3_11⟩) (by assumption) ?nr3_11
                    case yr3_11 => (intro w_ hSw; (try dsimp only at hSw); go_simp; (try with_reducible rfl))
                    try simp only [Act.put, List.setIfInBounds_toArray, List.set_cons_zero, List.set_cons_succ]
                    refine wpAnyH_take (i := 12) (v := ?vr3_12) (Fr.take_at rfl) (by kernel_rfl) (by kernel_rfl) (by kernel_rfl) (fun _ _ _ h => h) (Or.inl ⟨by rfl, ?yr3_12⟩) (by assumption) ?nr3_12
                    case yr3_12 => (intro w_ hSw; (try dsimp only at hSw); go_simp; (try with_reducible rfl))
                    try simp only [Act.put, List.setIfInBounds_toArray, List.set_cons_zero, List.set_cons_succ]
                    refine wpAnyH_take (i := 13) (v := ?vr3_13) (Fr.take_at rfl) (by kernel_rfl) (by kernel_rfl) (by kernel_rfl) (fun _ _ _ h => h) (Or.inl ⟨by rfl, ?yr3_13⟩) (by assumption) ?nr3_13
                    case yr3_13 => (intro w_ hSw; (try dsimp only at hSw); go_simp; (try with_reducible rfl))
                    try simp only [Act.put, List.setIfInBounds_toArray, List.set_cons_zero, List.set_cons_succ]
                    refine wpAnyH_take (i := 14) (v := ?vr3_14) (Fr.take_at rfl) (by kernel_rfl) (by kernel_rfl) (by kernel_rfl) (fun _ _ _ h => h) (Or.inl ⟨by rfl, ?yr3_14⟩) (by assumption) ?nr3_14
                    case yr3_14 => (intro w_ hSw; (try dsimp only at hSw); go_simp; (try with_reducible rfl))
                    try simp only [Act.put, List.setIfInBounds_toArray, List.set_cons_zero, List.set_cons_succ]
                    refine wpAnyH_take (i := 15) (v := ?vr3_15) (Fr.take_at rfl) (by kernel_rfl) (by kernel_rfl) (by kernel_rfl) (fun _ _ _ h => h) (Or.inl ⟨by rfl, ?yr3_15⟩) (by assumption) ?nr3_15
                    case yr3_15 => (intro w_ hSw; (try dsimp only at hSw); go_simp; (try with_reducible rfl))
                    try simp only [Act.put, List.setIfInBounds_toArray, List.set_cons_zero, List.set_cons_succ]
                    refine wpAnyH_take (i := 16) (v := ?vr3_16) (Fr.take_at rfl) (by kernel_rfl) (by kernel_rfl) (by kernel_rfl) (fun _ _ _ h => h) (Or.inl ⟨by rfl, ?yr3_16⟩) (by assumption) ?nr3_16
                    case yr3_16 => (intro w_ hSw; (try dsimp only at hSw); go_simp; (try with_reducible rfl))
                    try simp only [Act.put, List.setIfInBounds_toArray, List.set_cons_zero, List.set_cons_succ]
                    refine wpAnyH_take (i := 17) (v := ?vr3_17) (Fr.take_at rfl) (by kernel_rfl) (by kernel_rfl) (by kernel_rfl) (fun _ _ _ h => h) (Or.inl ⟨by rfl, ?yr3_17⟩) (by assumption) ?nr3_17
                    case yr3_17 => (intro w_ hSw; (try dsimp only at hSw); go_simp; (try with_reducible rfl))
                    try simp only [Act.put, List.setIfInBounds_toArray, List.set_cons_zero, List.set_cons_succ]
                    refine wpAnyH_ready (rs := [18]) (by kernel_rfl) (by simp) ?_
                    refine AllReadyH.cons (Fr.take_at rfl) (fun K hK => ?_) AllReadyH.nil
                    go_simp
                    (go_at_call 25; refine (HRS.out A c wr.drew hrpw.drew).mono ?_; rintro e w18 ⟨v, rfl, A18, m18, c18, rfl, hm18, hc18, hown18, hb18⟩; obtain rfl := HSL.out.symm.trans hm18; have hd18 := below_of_drew hb18; have hy18 := HCS.out w18 A18 s c18 S HSL.out (Rd.own hown18); have hy1 := HCS.out w18 A11 n c11 p HP.out (hr1.below hd18); have hyp := HCS.out w18 A n c p HP.out (hrpw.below hd18); have hyq := HCS.out w18 A10 n c10 p HP.out (hrq.below hd18); have hyc := HCS.out w18 A5 s c5 S HSL.out (hrc.below hd18); have hyl : w18.cell? ⟨g9, 1, none⟩ = some (.slice A11 n c11) := (hd18.cell (p := ⟨g9, 1, none⟩) hg9w).trans hcl; clear hm18)
                    try go_wp2_with fail
                    refine hK.out _ _ (by (first | exact ⟨by assumption, by assumption, by assumption, by assumption, by assumption⟩ | go_keep)) (fun hHeld => ?_)
                    clear hK K
                    try simp only [Act.put, List.setIfInBounds_toArray, List.set_cons_zero, List.set_cons_succ]
                    refine wpAnyH_ready (rs := [19]) (by kernel_rfl) (by simp) ?_
                    refine AllReadyH.cons (Fr.take_at rfl) (fun K hK => ?_) AllReadyH.nil
                    go_simp
                    refine hK.out _ _ (by (first | exact ⟨by assumption, by assumption, by assumption, by assumption, by assumption⟩ | go_keep)) (fun hHeld => ?_)
                    clear hK K
                    try simp only [Act.put, List.setIfInBounds_toArray, List.set_cons_zero, List.set_cons_succ]
                    refine wpAnyH_take (i := 20) (v := ?vr3_20) (Fr.take_at rfl) (by kernel_rfl) (by kernel_rfl) (by kernel_rfl) (fun _ _ _ h => h) (Or.inl ⟨by rfl, ?yr3_20⟩) (by assumption) ?nr3_20
                    case yr3_20 => (intro w_ hSw; (try dsimp only at hSw); go_simp; (try with_reducible rfl))
                    try simp only [Act.put, List.setIfInBounds_toArray, List.set_cons_zero, List.set_cons_succ]
                    refine wpAnyH_take (i := 21) (v := ?vr3_21) (Fr.take_at rfl) (by kernel_rfl) (by kernel_rfl) (by kernel_rfl) (fun _ _ _ h => h) (Or.inl ⟨by rfl, ?yr3_21⟩) (by assumption) ?nr3_21
                    case yr3_21 => (intro w_ hSw; (try dsimp only at hSw); go_simp; (try with_reducible rfl))
                    try simp only [Act.put, List.setIfInBounds_toArray, List.set_cons_zero, List.set_cons_succ]
                    refine wpAnyH_take (i := 22) (v := ?vr3_22) (Fr.take_at rfl) (by kernel_rfl) (by kernel_rfl) (by kernel_rfl) (fun _ _ _ h => h) (Or.inl ⟨by rfl, ?yr3_22⟩) (by assumption) ?nr3_22
                    case yr3_22 => (intro w_ hSw; (try dsimp only at hSw); go_simp; (try with_reducible rfl))
                    try simp only [Act.put, List.setIfInBounds_toArray, List.set_cons_zero, List.set_cons_succ]
                    refine wpAnyH_done (by kernel_rfl) ?_ _
                    go_wp2
                    go_ret
                    exact Yes.mk (hbwr.trans (hd18.mono hbwr.size))
end Fr
end Go.Proofs.YtjpimbbdjdlelaaDoor
