/-
  WHAT IS PROVED: (1) what the reference's Places answers. CONDITIONS: bounds, as named.
-/
import Derived.Test.YtadlhnjnhllpfaaDoorQBBld
import Derived.Deep.Cut
namespace Go.Proofs.YtadlhnjnhllpfaaDoor
open Go Go.RowKit
namespace Bl
open Go.Proofs.YtadlhnjnhllpfaaDoor.Fr
def iv (l : List Nat) : List Value := l.map fun p : Nat => Value.int .i64 (p : Int)
theorem iv_append (a b : List Nat) : iv (a ++ b) = iv a ++ iv b := by simp [iv]
theorem iv_len (l : List Nat) : (iv l).length = l.length := by simp [iv]
theorem info_int : (Tryd.prog.info? 3).map (fun i => (i.zero, i.size, i.bytes)) = some (some (.int .i64 0), 1, 8) := by kernel_rfl
/-- What Places leaves. -/
def PlcRet (w : World) (l : List Nat) (e : Ending) (w' : World) : Prop := ∃ A c, e = .returned (.slice A l.length c) ∧ w'.ownsRow w.heap.size 3 1 (.slice A l.length c) l.length (iv l) ∧ Below w.heap.size w w'
section
variable {w : World} {s : ByteArray} {n k : Nat}
set_option maxRecDepth 100000 in
theorem rplaces_any (hs : s.size ≤ maxLen) (hn : 0 < n) (hn2 : n < 4294967296) (hk : k ≤ 1000) :
    Calls Tryd.prog 56 #[.string s, .int .i64 (n : Int), .int .i64 (k : Int)] w (PlcRet w (places s.toList n k)) := by
  have hH := rhash_any s hs w
  obtain ⟨i0, hii, hz, hz1, hz2⟩ := info_parts info_int
  have hlt := fnv_lt s.toList
  obtain ⟨h, hh⟩ : ∃ h, h = fnv s.toList := ⟨_, rfl⟩
  rw [← hh] at hH hlt
  have hsp0 := spot_zero hlt
  have hss := spot_succ h
  have htl := turn_lt hlt
  obtain ⟨t, ht⟩ : ∃ t, t = turn h := ⟨_, rfl⟩
  have et : (h : Int) / 131072 + (h : Int) % 131072 * 32768 = (t : Int) := by rw [ht]; unfold turn; omega
  rw [← ht] at htl hss
  have HH := Lib.hid hH
  have HEQ := Lib.hid hh
  have HS := Lib.hid hss
  have H0 := Lib.hid hsp0
  have hnp : ((n : Int) == 0) = false := by rw [beq_eq_false_iff_ne]; omega
  clear hH hh hss hsp0 ht hs
  go_enter Tryd.func56, Tryd.ntmps56
  go_wp2_with (go_at_call 75; refine HH.out.mono ?_; rintro e w1 ⟨rfl, rfl⟩)

  go_loopw [7, 9, 10] (fun q out p wr => ∃ (i S : Nat) (A : Option Addr) (c : Nat), i ≤ k ∧ p = .int .i64 (i : Int) ∧ q = .int .i64 (S : Int) ∧ S < 4294967296 ∧ Hid (S = spot h i) ∧ out = .slice A i c ∧ Hid (wr.ownsRow w.heap.size 3 1 (.slice A i c) i (iv (places s.toList n i))) ∧ Hid (Below w.heap.size w wr)) (fun _ _ p _ => k - (intOf p).toNat)
  case atStart => exact ⟨0, h, none, 0, by omega, rfl, rfl, hlt, Lib.hid H0.out.symm, rfl, Lib.hid (World.ownsRow_nil _ _ _ _), Lib.hid (Below.refl _ _)⟩
  case round =>
    obtain ⟨i, S, A, c, hi, rfl, rfl, hS, HSi, rfl, HR, HB⟩ := hrel
    by_cases hlt' : i < k
    · obtain ⟨y, hyn, hye⟩ : ∃ y, y < n ∧ y = S % n := ⟨_, Nat.mod_lt _ hn, rfl⟩
      have hrem := rem_spot S n
      rw [← hye] at hrem
      have HY := Lib.hid hye
      clear hye
      have k1 : (i : Int) < (k : Int) := by omega
      have hle' : ∀ o : Obj, w.heap.size ≤ (wr.alloc o).heap.size := fun o => by
        have := HB.out.size
        simp; omega
      go_wp2_with (at_builtin; go_loud (refine wpList_app _ rfl (.tmp 24) (.tmp 28) _ rfl w.heap.size 3 i0 _ 8 Tryd.underlying84 hii hz hz1 hz2 rfl (.slice A i c) i (iv (places s.toList n i)) rfl (HR.out.alloc _) _ 1 1 [.int .i64 (y : Int)] rfl rfl (Rd.one _ _ _ _ _ rfl) (by simp [Value.oneCell']) (i + 1) rfl (by unfold maxLen; omega) (by omega) (hle' _) ?_; intro A2 c2 w2 hown2 hb2 _ _))
      go_roundw
      case rel =>
        refine ⟨i + 1, (S + t) % 4294967296, A2, c2, by omega, rfl, by rw [add_spot], Nat.mod_lt _ (by decide), Lib.hid (by rw [HS.out, ← HSi.out]), rfl, Lib.hid ?_, Lib.hid ((HB.out.alloc HB.out.size _).trans hb2)⟩
        rw [places_succ, iv_append, ← HEQ.out, ← HSi.out, ← HY.out]
        exact hown2
      case measure => simp [intOf]; omega
    · obtain rfl : i = k := by omega
      go_wp2
      go_ret
      have hl := places_len s.toList n i
      exact ⟨A, c, by rw [hl]; rfl, by rw [hl]; exact HR.out, HB.out⟩
theorem shr_bit (Y r : Nat) (hY : Y < 256) : ((IntKind.i64.wrap (Y : Int) / 2 ^ r).tmod 2 == 0) = !Y.testBit r := by
  rw [IntWalk.i64_in _ (by omega)]
  have e : (Y : Int) / 2 ^ r = ((Y / 2 ^ r : Nat) : Int) := by rw [Int.natCast_ediv, Int.natCast_pow]; rfl
  rw [e, Nat.testBit_eq_decide_div_mod_eq, Int.tmod_eq_emod_of_nonneg (Int.natCast_nonneg _)]
  have h2 : Y / 2 ^ r % 2 = 0 ∨ Y / 2 ^ r % 2 = 1 := by omega
  rcases h2 with h | h
  · rw [show ((Y / 2 ^ r : Nat) : Int) % 2 = 0 by omega, h]; rfl
  · rw [show ((Y / 2 ^ r : Nat) : Int) % 2 = 1 by omega, h]; rfl
theorem iv_at {W : World} {A : Option Addr} {l : List Nat} (h : Rd W A (iv l)) {j q : Nat} (hq : l[j]? = some q) : ∃ b o, A = some ⟨b, o, none⟩ ∧ b < W.heap.size ∧ W.cell? ⟨b, o + j, none⟩ = some (.int .i64 (q : Int)) := by
  obtain ⟨hj, rfl⟩ := List.getElem?_eq_some_iff.1 hq
  obtain ⟨b, o, e, hb, hc⟩ := h.at_ (i := j) (by rw [iv_len]; exact hj)
  exact ⟨b, o, e, hb, by rw [hc]; simp [iv]⟩
section
variable {A : Option Addr} {c : Nat} {l : Bs}
set_option maxRecDepth 100000 in
set_option maxHeartbeats 2000000 in
theorem rmay_any (hl : l.length = n) (hr : Rd w A (bv l)) (hn : n ≤ 140737488355328) (hs : s.size ≤ maxLen) :
    Calls Tryd.prog 24 #[.slice A n c, .string s] w fun e w' => e = .returned (.bool (may l s.toList)) ∧ Below w.heap.size w w' := by
  have HL := Lib.hid hl
  have HR := Lib.hid hr
  have hy := fun (h : 2 ≤ n) => byte_in (i := n - 1) hr (Below.refl _ w) (by omega)
  rcases may_way l s.toList with ⟨h, e⟩ | ⟨h, h2, e⟩ | ⟨h, h2, y, e⟩ | ⟨h, h2, y, e⟩ | ⟨h, h2, y, y2, e⟩
  · rw [e]
    rw [hl] at h
    clear hl hr e hy
    have h3 : (n : Int) - 1 < 1 := by omega
    go_enter Tryd.func24, Tryd.ntmps24
    go_wp2
    go_ret
    exact ⟨rfl, Below.refl _ _⟩
  · rw [e]
    rw [hl] at h h2
    clear hl hr e hy
    have h3 : ¬ (n : Int) - 1 < 1 := by omega
    have h4 : (1048576 : Int) ≤ (n : Int) - 1 := by omega
    go_enter Tryd.func24, Tryd.ntmps24
    go_wp2
    go_ret
    exact ⟨rfl, Below.refl _ _⟩
  · rw [e]
    rw [hl] at h h2 y
    obtain ⟨b, o, rfl, hc⟩ := hy h
    obtain ⟨m, rfl⟩ : ∃ m, n = m + 1 := ⟨n - 1, by omega⟩
    simp only [Nat.add_sub_cancel] at hc y
    obtain ⟨K, hK⟩ : ∃ K, K = (l[m]?.getD 0).toNat := ⟨_, rfl⟩
    rw [← hK] at hc y
    have HK := Lib.hid hK
    clear hl hr e hy hK
    have h3 : ¬ (m : Int) < 1 := by omega
    have h4 : ¬ (1048576 : Int) ≤ (m : Int) := by omega
    have h5 : (K : Int) < 1 := by omega
    go_enter Tryd.func24, Tryd.ntmps24
    go_wp2
    go_ret
    exact ⟨rfl, Below.refl _ _⟩
  · rw [e]
    rw [hl] at h h2 y
    obtain ⟨b, o, rfl, hc⟩ := hy h
    obtain ⟨m, rfl⟩ : ∃ m, n = m + 1 := ⟨n - 1, by omega⟩
    simp only [Nat.add_sub_cancel] at hc y
    obtain ⟨K, hK⟩ : ∃ K, K = (l[m]?.getD 0).toNat := ⟨_, rfl⟩
    rw [← hK] at hc y
    have h7 : K < 256 := by rw [hK]; exact UInt8.toNat_lt _
    have HK := Lib.hid hK
    clear hl hr e hy hK
    have h3 : ¬ (m : Int) < 1 := by omega
    have h4 : ¬ (1048576 : Int) ≤ (m : Int) := by omega
    have h5 : ¬ (K : Int) < 1 := by omega
    have h6 : (16 : Int) < (K : Int) := by omega
    go_enter Tryd.func24, Tryd.ntmps24
    go_wp2
    go_ret
    exact ⟨rfl, Below.refl _ _⟩
  · rw [e]
    rw [hl] at h h2 y y2 ⊢
    obtain ⟨b, o, rfl, hc⟩ := hy h
    obtain ⟨m, rfl⟩ : ∃ m, n = m + 1 := ⟨n - 1, by omega⟩
    simp only [Nat.add_sub_cancel] at hc y y2 ⊢
    obtain ⟨K, hK⟩ : ∃ K, K = (l[m]?.getD 0).toNat := ⟨_, rfl⟩
    rw [← hK] at hc y y2 ⊢
    obtain ⟨N, hN⟩ : ∃ N, N = 8 * m := ⟨_, rfl⟩
    rw [← hN]
    have eN : (8 : Int) * (m : Int) = (N : Int) := by omega
    have hN0 : 0 < N := by omega
    have hN1 : N < 4294967296 := by omega
    have HN := Lib.hid hN
    have HK := Lib.hid hK
    have hP := rplaces_any (w := w) hs hN0 hN1 (k := K) (by omega)
    have hpl := places_len s.toList N K
    have hplt : ∀ q ∈ places s.toList N K, q < N := fun q hq => places_lt hN0 hq
    obtain ⟨ps, hps⟩ : ∃ ps, ps = places s.toList N K := ⟨_, rfl⟩
    rw [← hps] at hP hpl hplt ⊢
    unfold PlcRet at hP
    rw [hpl] at hP
    have HP := Lib.hid hP
    have HPL := Lib.hid hpl
    have HLT := Lib.hid hplt
    clear hl hr e hy hK hN hP hpl hplt hps
    have h3 : ¬ (m : Int) < 1 := by omega
    have h4 : ¬ (1048576 : Int) ≤ (m : Int) := by omega
    have h5 : ¬ (K : Int) < 1 := by omega
    have h6 : ¬ (16 : Int) < (K : Int) := by omega
    go_enter Tryd.func24, Tryd.ntmps24
    go_wp2_with (go_at_call 56; refine HP.out.mono ?_; rintro e w1 ⟨A1, c1, rfl, hown1, hb1⟩)
    have hR1 := Rd.own hown1
    have HR1 := Lib.hid hR1
    have HB1 := Lib.hid hb1
    clear hR1 hown1 hb1
    go_loopw [7] (fun p wr => ∃ j : Nat, j ≤ K ∧ p = .int .i64 (j : Int) ∧ Hid (∀ q ∈ ps.take j, bit l q = true) ∧ Hid (Below w1.heap.size w1 wr)) (fun p _ => K - (intOf p).toNat)
    case atStart => exact ⟨0, by omega, rfl, Lib.hid (by simp), Lib.hid (Below.refl _ _)⟩
    case round =>
      obtain ⟨j, hj, rfl, HA, HB⟩ := hrel
      by_cases hlt : j < K
      · obtain ⟨p, hp⟩ : ∃ p, ps[j]? = some p := ⟨ps[j]'(by have := HPL.out; omega), List.getElem?_eq_getElem _⟩
        obtain ⟨b1, o1, rfl, hb1, hq1⟩ := iv_at HR1.out hp
        have hq2 : wr.cell? ⟨b1, o1 + j, none⟩ = some (.int .i64 (p : Int)) := (HB.out.cell (p := ⟨b1, o1 + j, none⟩) hb1).trans hq1
        have hpN := HLT.out p (List.mem_of_getElem? hp)
        have HPj := Lib.hid hp
        obtain ⟨a, ha⟩ : ∃ a, a = p / 8 := ⟨_, rfl⟩
        obtain ⟨r, hr⟩ : ∃ r, r = p % 8 := ⟨_, rfl⟩
        have ham : a < m := by have := HN.out; omega
        have hr8 : r < 8 := by omega
        obtain ⟨b', o', e', hc'⟩ := byte_in (i := a) HR.out (HB1.out.trans (HB.out.mono HB1.out.size)) (by rw [HL.out]; omega)
        cases e'
        obtain ⟨Y, hY⟩ : ∃ Y, Y = (l[a]?.getD 0).toNat := ⟨_, rfl⟩
        rw [← hY] at hc'
        have e1 : (p : Int) / 8 = (a : Int) := by omega
        have e2 : (p : Int) % 8 = (r : Int) := by omega
        have e3 : (p : Int).tmod 8 = (r : Int) := by rw [Int.tmod_eq_emod_of_nonneg (by omega)]; exact e2
        have k1 : (0 : Int) ≤ (a : Int) := by omega
        have k2 : (a : Int) < (m : Int) + 1 := by omega
        have k3 : (0 : Int) ≤ (r : Int) := by omega
        have k4 : (j : Int) < (K : Int) := by omega
        have k5 : (0 : Int) ≤ (j : Int) := by omega
        have hwa : IntKind.i64.wrap (a : Int) = (a : Int) := IntWalk.i64_in _ (by omega)
        have hwr : IntKind.i64.wrap (r : Int) = (r : Int) := IntWalk.i64_in _ (by omega)
        have HY256 : Y < 256 := by rw [hY]; exact UInt8.toNat_lt _
        have hbit := shr_bit Y r HY256
        obtain ⟨t, ht⟩ : ∃ t, t = Y.testBit r := ⟨_, rfl⟩
        rw [← ht] at hbit
        have HT : Hid (t = bit l p) := by rw [ht, hY, ha, hr]; exact rfl
        have HBIT := Lib.hid hbit
        clear ht hbit hY ha hr hp
        go_upto_region 8 with fail
        refine wp_region_held_drew (S := fun W' => W'.cell? ⟨b1, o1 + j, none⟩ = some (.int .i64 (p : Int)) ∧ W'.cell? ⟨b, o + a, none⟩ = some (.int .u8 (Y : Int))) (by kernel_rfl) (by (exact ⟨hq2, hc'⟩)) (fun hHeld => ?_)
        refine wpAnyH_take (i := 0) (v := ?vr1_0) (Fr.take_at rfl) (by kernel_rfl) (by kernel_rfl) (by kernel_rfl) (fun _ _ _ h => h) (Or.inl ⟨by rfl, ?yr1_0⟩) (by assumption) ?nr1_0
        case yr1_0 => (intro w_ hSw; obtain ⟨q0, q1⟩ := hSw; go_simp; (try with_reducible rfl))
        try simp only [Act.put, List.setIfInBounds_toArray, List.set_cons_zero, List.set_cons_succ]
        refine wpAnyH_take (i := 1) (v := ?vr1_1) (Fr.take_at rfl) (by kernel_rfl) (by kernel_rfl) (by kernel_rfl) (fun _ _ _ h => h) (Or.inl ⟨by rfl, ?yr1_1⟩) (by assumption) ?nr1_1
        case yr1_1 => (intro w_ hSw; obtain ⟨q0, q1⟩ := hSw; go_simp; (try with_reducible rfl))
        try simp only [Act.put, List.setIfInBounds_toArray, List.set_cons_zero, List.set_cons_succ]
        refine wpAnyH_take (i := 2) (v := ?vr1_2) (Fr.take_at rfl) (by kernel_rfl) (by kernel_rfl) (by kernel_rfl) (fun _ _ _ h => h) (Or.inl ⟨by rfl, ?yr1_2⟩) (by assumption) ?nr1_2
        case yr1_2 => (intro w_ hSw; obtain ⟨q0, q1⟩ := hSw; go_simp; (try with_reducible rfl))
        try simp only [Act.put, List.setIfInBounds_toArray, List.set_cons_zero, List.set_cons_succ]
        refine wpAnyH_take (i := 3) (v := ?vr1_3) (Fr.take_at rfl) (by kernel_rfl) (by kernel_rfl) (by kernel_rfl) (fun _ _ _ h => h) (Or.inl ⟨by rfl, ?yr1_3⟩) (by assumption) ?nr1_3
        case yr1_3 => (intro w_ hSw; obtain ⟨q0, q1⟩ := hSw; go_simp; (try with_reducible rfl))
        try simp only [Act.put, List.setIfInBounds_toArray, List.set_cons_zero, List.set_cons_succ]
        refine wpAnyH_take (i := 4) (v := ?vr1_4) (Fr.take_at rfl) (by kernel_rfl) (by kernel_rfl) (by kernel_rfl) (fun _ _ _ h => h) (Or.inl ⟨by rfl, ?yr1_4⟩) (by assumption) ?nr1_4
        case yr1_4 => (intro w_ hSw; obtain ⟨q0, q1⟩ := hSw; go_simp; (try with_reducible rfl))
        try simp only [Act.put, List.setIfInBounds_toArray, List.set_cons_zero, List.set_cons_succ]
        refine wpAnyH_take (i := 5) (v := ?vr1_5) (Fr.take_at rfl) (by kernel_rfl) (by kernel_rfl) (by kernel_rfl) (fun _ _ _ h => h) (Or.inl ⟨by rfl, ?yr1_5⟩) (by assumption) ?nr1_5
        case yr1_5 => (intro w_ hSw; obtain ⟨q0, q1⟩ := hSw; go_simp; (try with_reducible rfl))
        try simp only [Act.put, List.setIfInBounds_toArray, List.set_cons_zero, List.set_cons_succ]
        refine wpAnyH_take (i := 6) (v := ?vr1_6) (Fr.take_at rfl) (by kernel_rfl) (by kernel_rfl) (by kernel_rfl) (fun _ _ _ h => h) (Or.inl ⟨by rfl, ?yr1_6⟩) (by assumption) ?nr1_6
        case yr1_6 => (intro w_ hSw; obtain ⟨q0, q1⟩ := hSw; go_simp; (try with_reducible rfl))
        try simp only [Act.put, List.setIfInBounds_toArray, List.set_cons_zero, List.set_cons_succ]
        refine wpAnyH_take (i := 7) (v := ?vr1_7) (Fr.take_at rfl) (by kernel_rfl) (by kernel_rfl) (by kernel_rfl) (fun _ _ _ h => h) (Or.inl ⟨by rfl, ?yr1_7⟩) (by assumption) ?nr1_7
        case yr1_7 => (intro w_ hSw; obtain ⟨q0, q1⟩ := hSw; go_simp; (try with_reducible rfl))
        try simp only [Act.put, List.setIfInBounds_toArray, List.set_cons_zero, List.set_cons_succ]
        refine wpAnyH_take (i := 8) (v := ?vr1_8) (Fr.take_at rfl) (by kernel_rfl) (by kernel_rfl) (by kernel_rfl) (fun _ _ _ h => h) (Or.inl ⟨by rfl, ?yr1_8⟩) (by assumption) ?nr1_8
        case yr1_8 => (intro w_ hSw; obtain ⟨q0, q1⟩ := hSw; go_simp; (try with_reducible rfl))
        try simp only [Act.put, List.setIfInBounds_toArray, List.set_cons_zero, List.set_cons_succ]
        refine wpAnyH_take (i := 9) (v := ?vr1_9) (Fr.take_at rfl) (by kernel_rfl) (by kernel_rfl) (by kernel_rfl) (fun _ _ _ h => h) (Or.inl ⟨by rfl, ?yr1_9⟩) (by assumption) ?nr1_9
        case yr1_9 => (intro w_ hSw; obtain ⟨q0, q1⟩ := hSw; go_simp; (try with_reducible rfl))
        try simp only [Act.put, List.setIfInBounds_toArray, List.set_cons_zero, List.set_cons_succ]
        refine wpAnyH_take (i := 10) (v := ?vr1_10) (Fr.take_at rfl) (by kernel_rfl) (by kernel_rfl) (by kernel_rfl) (fun _ _ _ h => h) (Or.inl ⟨by rfl, ?yr1_10⟩) (by assumption) ?nr1_10
        case yr1_10 => (intro w_ hSw; obtain ⟨q0, q1⟩ := hSw; go_simp; (try with_reducible rfl))
        try simp only [Act.put, List.setIfInBounds_toArray, List.set_cons_zero, List.set_cons_succ]
        refine wpAnyH_take (i := 11) (v := ?vr1_11) (Fr.take_at rfl) (by kernel_rfl) (by kernel_rfl) (by kernel_rfl) (fun _ _ _ h => h) (Or.inl ⟨by rfl, ?yr1_11⟩) (by assumption) ?nr1_11
        case yr1_11 => (intro w_ hSw; obtain ⟨q0, q1⟩ := hSw; go_simp; (try with_reducible rfl))
        try simp only [Act.put, List.setIfInBounds_toArray, List.set_cons_zero, List.set_cons_succ]
        refine wpAnyH_take (i := 12) (v := ?vr1_12) (Fr.take_at rfl) (by kernel_rfl) (by kernel_rfl) (by kernel_rfl) (fun _ _ _ h => h) (Or.inl ⟨by rfl, ?yr1_12⟩) (by assumption) ?nr1_12
        case yr1_12 => (intro w_ hSw; obtain ⟨q0, q1⟩ := hSw; go_simp; (try with_reducible rfl))
        try simp only [Act.put, List.setIfInBounds_toArray, List.set_cons_zero, List.set_cons_succ]
        refine wpAnyH_take (i := 13) (v := ?vr1_13) (Fr.take_at rfl) (by kernel_rfl) (by kernel_rfl) (by kernel_rfl) (fun _ _ _ h => h) (Or.inl ⟨by rfl, ?yr1_13⟩) (by assumption) ?nr1_13
        case yr1_13 => (intro w_ hSw; obtain ⟨q0, q1⟩ := hSw; go_simp; (try with_reducible rfl))
        try simp only [Act.put, List.setIfInBounds_toArray, List.set_cons_zero, List.set_cons_succ]
        refine wpAnyH_take (i := 14) (v := ?vr1_14) (Fr.take_at rfl) (by kernel_rfl) (by kernel_rfl) (by kernel_rfl) (fun _ _ _ h => h) (Or.inl ⟨by rfl, ?yr1_14⟩) (by assumption) ?nr1_14
        case yr1_14 => (intro w_ hSw; obtain ⟨q0, q1⟩ := hSw; go_simp; (try with_reducible rfl))
        try simp only [Act.put, List.setIfInBounds_toArray, List.set_cons_zero, List.set_cons_succ]
        refine wpAnyH_take (i := 15) (v := ?vr1_15) (Fr.take_at rfl) (by kernel_rfl) (by kernel_rfl) (by kernel_rfl) (fun _ _ _ h => h) (Or.inl ⟨by rfl, ?yr1_15⟩) (by assumption) ?nr1_15
        case yr1_15 => (intro w_ hSw; obtain ⟨q0, q1⟩ := hSw; go_simp; (try with_reducible rfl))
        try simp only [Act.put, List.setIfInBounds_toArray, List.set_cons_zero, List.set_cons_succ]
        refine wpAnyH_take (i := 16) (v := ?vr1_16) (Fr.take_at rfl) (by kernel_rfl) (by kernel_rfl) (by kernel_rfl) (fun _ _ _ h => h) (Or.inl ⟨by rfl, ?yr1_16⟩) (by assumption) ?nr1_16
        case yr1_16 => (intro w_ hSw; obtain ⟨q0, q1⟩ := hSw; go_simp; (try with_reducible rfl))
        try simp only [Act.put, List.setIfInBounds_toArray, List.set_cons_zero, List.set_cons_succ]
        refine wpAnyH_done (by kernel_rfl) ?_ _
        clear hwa hwr e1 e2 e3 eN k1 k2 k3 k5 hc' hq1 hq2
        rw [HBIT.out]
        cases t
        · simp only [Bool.not_false]
          go_wp2
          go_ret
          refine ⟨?_, HB1.out.trans ((below_drewN HB.out 1).mono HB1.out.size)⟩
          show Ending.returned (.bool false) = Ending.returned (.bool (ps.all (bit l)))
          congr 2
          rw [eq_comm, List.all_eq_false]
          exact ⟨p, List.mem_of_getElem? HPj.out, by rw [← HT.out]; decide⟩
        · simp only [Bool.not_true]
          go_wp2
          go_roundw
          case rel =>
            refine ⟨j + 1, by omega, by simp, Lib.hid fun q hq => ?_, Lib.hid (below_drewN HB.out 1)⟩
            rw [List.take_add_one, HPj.out] at hq
            rcases List.mem_append.1 hq with hq | hq
            · exact HA.out q hq
            · rw [Option.toList_some, List.mem_singleton] at hq
              subst hq
              exact HT.out.symm
          case measure => simp [intOf]; omega
      · obtain rfl : j = K := by omega
        have k4 : ¬ (j : Int) < (j : Int) := by omega
        go_wp2
        go_ret
        refine ⟨?_, HB1.out.trans (HB.out.mono HB1.out.size)⟩
        show Ending.returned (.bool true) = Ending.returned (.bool (ps.all (bit l)))
        congr 2
        rw [eq_comm, List.all_eq_true]
        intro q hq
        exact HA.out q (by rw [List.take_of_length_le (by have := HPL.out; omega)]; exact hq)
end
end
end Bl
end Go.Proofs.YtadlhnjnhllpfaaDoor
