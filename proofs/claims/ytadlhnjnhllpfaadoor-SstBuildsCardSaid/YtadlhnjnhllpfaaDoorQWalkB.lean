/-
  WHAT IS PROVED: (1) what the calls of the reference's Uint and TakeUint do, in whatever memory: their results by the plain functions of the text Num, new memory alone. CONDITIONS: a slice that comes in reads as the bytes that are named, and is no longer than 2^47.
-/
import Derived.Test.YtadlhnjnhllpfaaDoorQWalkA
namespace Go.Proofs.YtadlhnjnhllpfaaDoor
open Go Go.RowKit
namespace Fr

set_option maxRecDepth 100000 in
theorem Ruint_any (n : Nat) (w : World) (hn : n < 18446744073709551616) :
    Calls Tryd.prog 42 #[.int .u64 n] w (MadeRet 5 w (enc n)) := by
  obtain ⟨i0, hi, hz, hz1, hz2⟩ := info_parts info_u8
  obtain ⟨N, hN⟩ : ∃ N, N = n := ⟨n, rfl⟩
  have HN := Lib.hid hN
  clear hN
  go_enter Tryd.func42, Tryd.ntmps42
  go_wp2
  go_loopw [0, 3] (fun x v wr => ∃ (m k c : Nat) (A : Option Addr) (p : List UInt8), x = .int .u64 (m : Int) ∧ m < 18446744073709551616 ∧ v = .slice A k c ∧ p.length = k ∧ k + (enc m).length ≤ 10 ∧ enc N = p ++ enc m ∧ wr.ownsRow w.heap.size 5 1 (.slice A k c) k (bv p) ∧ Below w.heap.size w wr) (fun x _ _ => (intOf x).toNat)
  case atStart => exact ⟨n, 0, 0, none, [], rfl, hn, rfl, rfl, by have := len_enc10 hn; omega, by rw [HN.out]; rfl, World.ownsRow_nil _ _ _ _, Below.refl _ _⟩
  case round =>
    obtain ⟨m, k, c, A, p, rfl, hm, rfl, hp, hk, he, hown, hb⟩ := hrel
    have HM := Lib.hid hm
    have HE := Lib.hid he
    have HP := Lib.hid hp
    have hdv : IntKind.u64.wrap ((m : Int) / 128) = ((m / 128 : Nat) : Int) := by rw [IntKind.wrap_u64]; omega
    clear hm he hp hn
    by_cases h : m < 128
    · go_wp2_with (at_builtin; refine wpList_app _ rfl (.tmp 15) (.tmp 18) _ rfl w.heap.size 5 i0 _ 1 Tryd.underlying25 hi hz hz1 hz2 rfl (.slice A k c) k (bv p) rfl (hown.alloc _) (some ⟨wr.heap.size, 0, none⟩) 1 1 [_] rfl rfl (Rd.one _ _ _ _ _ rfl) (by intro u hu; simp at hu; subst hu; rfl) (k + 1) rfl (by unfold maxLen; omega) (by omega) (by have := hb.size; simp; omega) ?_; intro A1 c1 w1 hown1 hb1 _ _)
      go_ret
      refine MadeRet.mk (l := enc n) (n := k + 1) ?_ ?_ ((hb.trans ((Below.refl _ _).alloc hb.size _)).trans hb1)
      · rw [← HN.out, HE.out, enc_lt h, List.length_append, HP.out]; rfl
      · rw [← HN.out, HE.out, enc_lt h, ← bv_snoc _ (by omega)]; exact hown1
    · go_wp2_with (at_builtin; refine wpList_app _ rfl (.tmp 6) (.tmp 11) _ rfl w.heap.size 5 i0 _ 1 Tryd.underlying25 hi hz hz1 hz2 rfl (.slice A k c) k (bv p) rfl (hown.alloc _) (some ⟨wr.heap.size, 0, none⟩) 1 1 [_] rfl rfl (Rd.one _ _ _ _ _ rfl) (by intro u hu; simp at hu; subst hu; rfl) (k + 1) rfl (by unfold maxLen; omega) (by omega) (by have := hb.size; simp; omega) ?_; intro A1 c1 w1 hown1 hb1 _ _)
      have hlen : (enc m).length = (enc (m / 128)).length + 1 := by rw [enc_ge (by omega)]; rfl
      go_roundw
      case rel => exact ⟨m / 128, k + 1, c1, A1, p ++ [UInt8.ofNat (m % 128 + 128)], by go_num, by have := HM.out; omega, rfl, by rw [List.length_append, HP.out]; rfl, by omega, by rw [HE.out, enc_ge (by omega), List.append_assoc]; rfl, by rw [← bv_snoc _ (by omega)]; exact hown1, (hb.trans ((Below.refl _ _).alloc hb.size _)).trans hb1⟩
      case measure => simp [intOf]; omega

set_option maxRecDepth 100000 in
set_option maxHeartbeats 1600000 in
theorem Rtake_any (A : Option Addr) (n c : Nat) (l : List UInt8) (w : World) (hl : l.length = n) (hr : Rd w A (bv l)) (hnc : n ≤ c) (hn : n ≤ 140737488355328) :
    Calls Tryd.prog 69 #[.slice A n c] w fun e w' => e = .returned (.tuple #[.int .u64 ((dec l).1 : Nat), .int .i64 ((dec l).2 : Nat)]) ∧ Below w.heap.size w w' := by
  go_enter Tryd.func69, Tryd.ntmps69
  go_wp2
  go_loop [4] (fun x => ∃ k : Nat, k ≤ n ∧ k ≤ 10 ∧ x = .int .i64 k ∧ Hi (l.take k)) (fun x => 10 - (intOf x).toNat)
  case atStart => exact ⟨0, by omega, by omega, rfl, by intro b hb; simp at hb⟩
  case round =>
    obtain ⟨k, hk, hk10, rfl, hh⟩ := hrel
    by_cases hkn : k < n ∧ k < 10
    · obtain ⟨hkn, hk9⟩ := hkn
      obtain ⟨b, o, y, rfl, hbs, hc, hy2, HY⟩ := hr.byteY (i := k) (by omega)
      have HL := Lib.hid hl
      have HH := Lib.hid hh
      clear hl hh
      by_cases h128 : 128 ≤ y
      · go_wp2
        obtain ⟨hkl, hyv⟩ := HY.out
        go_round
        case rel => exact ⟨k + 1, by omega, by omega, by go_num, hi_take_succ hkl HH.out (by omega)⟩
        case measure => simp [intOf]; omega
      · obtain ⟨hkl, hyv⟩ := HY.out
        have hlead := lead_at hkl HH.out (by omega)
        have hdec := dec_ref (l := l) (by omega) (by omega)
        rw [hlead] at hdec
        have HD := Lib.hid hdec
        have HRD := Lib.hid hr
        have e1 : ((k : Int) == (n : Int)) = false := by rw [beq_eq_false_iff_ne]; omega
        have e2 : ((k : Int) == 10) = false := by rw [beq_eq_false_iff_ne]; omega
        have hst : val ((l.take (k + 1)).drop (k + 1)) = 0 := by rw [List.drop_eq_nil_of_le (by simp; omega)]; rfl
        clear hlead hdec hyv hr
        go_wp2
        go_loop [5, 6] (fun x i => ∃ j : Int, -1 ≤ j ∧ j ≤ k ∧ i = .int .i64 j ∧ x = .int .u64 (m64 (val ((l.take (k + 1)).drop (j + 1).toNat)) : Nat)) (fun _ i => (intOf i + 1).toNat)
        case atStart => exact ⟨k, by omega, by omega, rfl, by rw [show ((k : Int) + 1).toNat = k + 1 by omega, hst]; rfl⟩
        case round =>
          obtain ⟨j, hj1, hjk, rfl, rfl⟩ := hrel
          by_cases hj : 0 ≤ j
          · obtain ⟨i, rfl⟩ := Int.eq_ofNat_of_zero_le hj
            obtain ⟨b', o', y', ea, _, hc', hy2', HY'⟩ := HRD.out.byteY (i := i) (by omega)
            simp only [Option.some.injEq, Addr.mk.injEq, and_true] at ea
            obtain ⟨rfl, rfl⟩ := ea
            rw [show ((i : Int) + 1).toNat = i + 1 by omega]
            obtain ⟨V, hV⟩ : ∃ V, V = m64 (val ((l.take (k + 1)).drop (i + 1))) := ⟨_, rfl⟩
            rw [← hV]
            have HV := Lib.hid hV
            clear hV
            go_wp2
            obtain ⟨hil, hyv'⟩ := HY'.out
            go_round
            case rel =>
              refine ⟨(i : Int) - 1, by omega, by omega, rfl, ?_⟩
              have hlen : i < (l.take (k + 1)).length := by rw [List.length_take]; omega
              rw [wrap_step, HV.out, m64_step, show ((i : Int) - 1 + 1).toNat = i by omega, val_drop_pred hlen, List.getElem_take, ← hyv']
            case measure => simp [intOf] <;> omega
          · obtain rfl : j = -1 := by omega
            rw [show ((-1 : Int) + 1).toNat = 0 by omega, List.drop_zero]
            obtain ⟨V, hV⟩ : ∃ V, V = m64 (val (l.take (k + 1))) := ⟨_, rfl⟩
            rw [← hV]
            have hV2 : V < 18446744073709551616 := by rw [hV]; exact m64_lt _
            have HV := Lib.hid hV
            have HV2 := Lib.hid hV2
            clear hV hV2 hst
            have hcs := fun (W : World) => run_str (P := Tryd.prog) W 25 9 5 Tryd.underlying25 Tryd.underlying5 Tryd.underlying9
            have hrt : Rd w (some ⟨b, o, none⟩) (bv (l.take (k + 1))) := by rw [← bv_take]; exact HRD.out.take _
            have hc2 : ∀ W : World, Below w.heap.size w W → (convert 25 9 (.slice (some ⟨b, o, none⟩) (k + 1) c)).run Tryd.prog W = .ok (.string ⟨(l.take (k + 1)).toArray⟩) W := fun W hW => hcs W _ _ _ _ (by simp; omega) (hrt.below hW)
            have hc3 := hc2 w.drew (Below.refl _ _).drew
            have HC2 := Lib.hid hc2
            clear hc2 hrt
            obtain ⟨i0, hi, _, hz1, _⟩ := info_parts info_u8
            have hwr : IntKind.i64.wrap ((k : Int) + 1) = (k : Int) + 1 := IntWalk.i64_in _ (by omega)
            obtain ⟨hsl, hsl'⟩ := cut_to (P := Tryd.prog) 25 5 i0 Tryd.underlying25 rfl hi hz1 (some ⟨b, o, none⟩) n c (k + 1) .i64 ((k : Int) + 1) rfl (by omega)
            by_cases he : enc V = l.take (k + 1)
            · have hq : (enc V == l.take (k + 1)) = true := by rw [he]; exact beq_self_eq_true _
              have HE := Lib.hid he
              clear he
              go_wp2_with fail
              go_region_with ((go_at_call 42; refine (Ruint_any _ _ HV2.out).mono ?_; rintro e w1 ⟨v, rfl, A1, m1, c1, rfl, hm1, hc1, hown1, hb1⟩; have hc4 := hcs w1 _ _ c1 _ hm1 (Rd.own hown1); have hc5 := HC2.out w1 (below_of_drew hb1); have hm1' := Lib.hid hm1; clear hm1))
              all_goals
                go_wp2
                go_ret2
                exact ⟨by rw [HD.out, ← HV.out, if_pos HE.out]; exact tup2 rfl rfl, below_of_drew hb1⟩
            · have hq : (enc V == l.take (k + 1)) = false := beq_eq_false_iff_ne.2 he
              have HE := Lib.hid he
              clear he
              go_wp2_with fail
              go_region_with ((go_at_call 42; refine (Ruint_any _ _ HV2.out).mono ?_; rintro e w1 ⟨v, rfl, A1, m1, c1, rfl, hm1, hc1, hown1, hb1⟩; have hc4 := hcs w1 _ _ c1 _ hm1 (Rd.own hown1); have hc5 := HC2.out w1 (below_of_drew hb1); have hm1' := Lib.hid hm1; clear hm1))
              all_goals
                go_wp2
                go_ret2
                exact ⟨by rw [HD.out, ← HV.out, if_neg HE.out]; rfl, below_of_drew hb1⟩
    · by_cases hkn2 : k = n
      · subst hkn2
        have hz := dec_long (l := l) (i := k) (by omega) (by omega) hh
        have HZ := Lib.hid hz
        clear hz hh hr hl
        go_wp2
        go_ret2
        exact ⟨by rw [HZ.out]; rfl, Below.refl _ _⟩
      · obtain rfl : k = 10 := by omega
        have hz := dec_long (l := l) (i := 10) (by omega) (by omega) hh
        have HZ := Lib.hid hz
        have e1 : (10 == (n : Int)) = false := by rw [beq_eq_false_iff_ne]; omega
        clear hz hh hr hl
        go_wp2
        go_ret2
        exact ⟨by rw [HZ.out]; rfl, Below.refl _ _⟩
end Fr
end Go.Proofs.YtadlhnjnhllpfaaDoor
