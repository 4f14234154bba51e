/-
  WHAT IS PROVED: (1) what the calls of own, bytes.Clone, and both packages' Uint and TakeUint do, in whatever memory: their results by the plain functions of the text Num, new memory alone. CONDITIONS: a slice that comes in reads as the bytes that are named, and is no longer than 2^47.
-/
import Derived.Test.YtadlhnjnhllpfaaDoorProg
import Derived.Test.YtadlhnjnhllpfaaDoorQMem
import Derived.Deep.QuietTactic
import Derived.BigQuiet
import Derived.Deep.RegionHeld3
import Derived.Deep.RegionWith
import Derived.Outline
namespace Go.Proofs.YtadlhnjnhllpfaaDoor
open Go Go.RowKit
namespace Fr

theorem info_u8 : (Tryd.prog.info? 5).map (fun i => (i.zero, i.size, i.bytes)) = some (some (.int .u8 0), 1, 1) := by kernel_rfl

theorem clone_any (A : Option Addr) (n c : Nat) (l : List UInt8) (w : World) (hl : l.length = n) (hr : Rd w A (bv l)) (hn : n ≤ 140737488355328) :
    Calls Tryd.prog 89 #[.slice A n c] w (MadeRet 5 w l) := by
  obtain ⟨i0, hi, hz, hz1, hz2⟩ := info_parts info_u8
  have e1 := fun (W : World) => Lib.run_eql_slice_nil (P := Tryd.prog) W 25
  rcases A with _ | a
  · have h0 : l = [] := by
      rcases l with _ | ⟨x, r⟩
      · rfl
      · obtain ⟨_, _, h, _⟩ := hr (by simp [bv])
        cases h
    go_enter Tryd.func89, Tryd.ntmps89
    go_wp2
    go_ret
    subst h0
    exact MadeRet.mk (n := 0) rfl (World.ownsRow_nil _ _ _ _) (Below.refl _ _)
  · go_enter Tryd.func89, Tryd.ntmps89
    go_wp2_with (at_builtin; refine wpList_app _ rfl (.tmp 5) (.tmp 6) _ rfl w.heap.size 5 i0 _ 1 Tryd.underlying25 hi hz hz1 hz2 rfl (.slice (some ⟨w.heap.size, 0, none⟩) 0 0) 0 [] rfl (World.ownsRow_lit w #[] 0 (Nat.le_refl _) (by simp [maxLen]) rfl) (some a) n c (bv l) rfl (by rw [bv_length]; exact hl) (hr.alloc _) (bv_one l) n (Nat.zero_add _) (by unfold maxLen; omega) (by omega) (by simp) ?_; intro A1 c1 w1 hown1 hb1 _ _)
    go_ret
    exact MadeRet.mk hl hown1 (((Below.refl _ _).alloc (Nat.le_refl _) _).trans hb1)

set_option maxRecDepth 100000 in
theorem Fuint_any (n : Nat) (w : World) (hn : n < 18446744073709551616) :
    Calls Tryd.prog 28 #[.int .u64 n] w (MadeRet 5 w (enc n)) := by
  obtain ⟨i0, hi, hz, hz1, hz2⟩ := info_parts info_u8
  have hmk : ∀ w : World, (Instr.makeSlice 25 (.int .i64 0) (.int .i64 10)).run Tryd.prog w = .ok (.slice (some ⟨w.heap.size, 0, none⟩) 0 10) (w.alloc (.cells (Array.replicate 10 (.int .u8 0)) 5)) := fun _ => by kernel_rfl
  have hmade := World.ownsRow_made (base := w.heap.size) (e := 5) (size := 1) w (Array.replicate 10 (.int .u8 0)) 10 (Nat.le_refl _) (by simp [maxLen]) (by simp)
  have hb0 := (Below.refl w.heap.size w).alloc (Nat.le_refl _) (.cells (Array.replicate 10 (.int .u8 0)) 5)
  obtain ⟨N, hN⟩ : ∃ N, N = n := ⟨n, rfl⟩
  have HN := Lib.hid hN
  clear hN
  go_enter Tryd.func28, Tryd.ntmps28
  go_wp2
  go_loopw [0, 3] (fun x v wr => ∃ (m k c : Nat) (A : Option Addr) (p : List UInt8), x = .int .u64 (m : Int) ∧ m < 18446744073709551616 ∧ v = .slice A k c ∧ p.length = k ∧ k + (enc m).length ≤ 10 ∧ enc N = p ++ enc m ∧ wr.ownsRow w.heap.size 5 1 (.slice A k c) k (bv p) ∧ Below w.heap.size w wr) (fun x _ _ => (intOf x).toNat)
  case atStart => exact ⟨n, 0, 10, _, [], rfl, hn, rfl, rfl, by have := len_enc10 hn; omega, by rw [HN.out]; rfl, hmade, hb0⟩
  case round =>
    obtain ⟨m, k, c, A, p, rfl, hm, rfl, hp, hk, he, hown, hb⟩ := hrel
    have HM := Lib.hid hm
    have HE := Lib.hid he
    have HP := Lib.hid hp
    clear hm he hp hmk hmade hb0 hn
    by_cases h : m < 128
    · go_wp2_with (at_builtin; refine wpList_app _ rfl (.tmp 15) (.tmp 18) _ rfl w.heap.size 5 i0 _ 1 Tryd.underlying25 hi hz hz1 hz2 rfl (.slice A k c) k (bv p) rfl (hown.alloc _) (some ⟨wr.heap.size, 0, none⟩) 1 1 [_] rfl rfl (Rd.one _ _ _ _ _ rfl) (by intro u hu; simp at hu; subst hu; rfl) (k + 1) rfl (by unfold maxLen; omega) (by omega) (by have := hb.size; simp; omega) ?_; intro A1 c1 w1 hown1 hb1 _ _)
      go_ret
      refine MadeRet.mk (l := enc n) (n := k + 1) ?_ ?_ ((hb.trans ((Below.refl _ _).alloc hb.size _)).trans hb1)
      · rw [← HN.out, HE.out, enc_lt h, List.length_append, HP.out]; rfl
      · rw [← HN.out, HE.out, enc_lt h, ← bv_snoc _ (by omega)]; exact hown1
    · go_wp2_with (at_builtin; refine wpList_app _ rfl (.tmp 7) (.tmp 11) _ rfl w.heap.size 5 i0 _ 1 Tryd.underlying25 hi hz hz1 hz2 rfl (.slice A k c) k (bv p) rfl (hown.alloc _) (some ⟨wr.heap.size, 0, none⟩) 1 1 [_] rfl rfl (Rd.one _ _ _ _ _ rfl) (by intro u hu; simp at hu; subst hu; rfl) (k + 1) rfl (by unfold maxLen; omega) (by omega) (by have := hb.size; simp; omega) ?_; intro A1 c1 w1 hown1 hb1 _ _)
      have hlen : (enc m).length = (enc (m / 128)).length + 1 := by rw [enc_ge (by omega)]; rfl
      go_roundw
      case rel => exact ⟨m / 128, k + 1, c1, A1, p ++ [UInt8.ofNat (m % 128 + 128)], by go_num, by have := HM.out; omega, rfl, by rw [List.length_append, HP.out]; rfl, by omega, by rw [HE.out, enc_ge (by omega), List.append_assoc]; rfl, by rw [or128] at hown1; rw [← bv_snoc _ (by omega)]; exact hown1, (hb.trans ((Below.refl _ _).alloc hb.size _)).trans hb1⟩
      case measure => simp [intOf]; omega

set_option maxRecDepth 100000 in
theorem Ftake_any (A : Option Addr) (n c : Nat) (l : List UInt8) (w : World) (hl : l.length = n) (hr : Rd w A (bv l)) (hn : n ≤ 140737488355328) :
    Calls Tryd.prog 87 #[.slice A n c] w fun e w' => e = .returned (.tuple #[.int .u64 ((dec l).1 : Nat), .int .i64 ((dec l).2 : Nat)]) ∧ w = w' := by
  go_enter Tryd.func87, Tryd.ntmps87
  go_wp2
  all_goals
    go_loop [4, 10] (fun x i => ∃ k : Nat, k ≤ n ∧ k ≤ 10 ∧ i = .int .i64 k ∧ x = .int .u64 (val (l.take k) : Nat) ∧ Hi (l.take k)) (fun _ i => 10 - (intOf i).toNat)
    case atStart => exact ⟨0, by omega, by omega, rfl, by simp [val], by intro b hb; simp at hb⟩
    case round =>
      obtain ⟨k, hk, hk10, rfl, rfl, hh⟩ := hrel
      by_cases hkn2 : k < n ∧ k < 10
      · obtain ⟨hkn, hk9⟩ := hkn2
        obtain ⟨b, o, y, rfl, hbs, hc, hy2, HY⟩ := hr.byteY (i := k) (by omega)
        have HL := Lib.hid hl
        have HH := Lib.hid hh
        have hV := val_take_lt l k
        clear hr hl hh
        by_cases h128 : 128 ≤ y
        · by_cases h9 : k = 9
          · subst h9
            go_wp2
            go_ret2
            obtain ⟨hkl, hyv⟩ := HY.out
            exact ⟨by rw [dec_big hkl HH.out (by omega)]; rfl, rfl⟩
          · go_wp2
            obtain ⟨hkl, hyv⟩ := HY.out
            have hb := val_take_succ hkl
            rw [← hyv] at hb
            have hlt := val_take_lt l (k + 1)
            have hp : 128 ^ (k + 1) ≤ 128 ^ 9 := pow_128_mono (by omega)
            have hp9 : (128 : Nat) ^ 9 = 9223372036854775808 := by decide
            go_round
            case rel => exact ⟨k + 1, by omega, by omega, by go_num, by rw [orshl hy2 hV (by omega), ← hb], hi_take_succ hkl HH.out (by omega)⟩
            case measure => simp [intOf]; omega
        · by_cases h0 : y = 0
          · by_cases hk0 : k = 0
            · subst hk0
              subst h0
              simp at hc
              go_wp2
              go_ret2
              obtain ⟨hkl, hyv⟩ := HY.out
              have hs := val_small hkl (by omega) (by omega) (by omega)
              have hb := val_take_succ hkl
              rw [← hyv] at hb
              exact ⟨by rw [dec_ok hkl (by omega) HH.out (by omega) (by omega) hs]; exact tup2 (by rw [hb]; rfl) rfl, rfl⟩
            · go_wp2
              all_goals
                go_ret2
                obtain ⟨hkl, hyv⟩ := HY.out
                exact ⟨by rw [dec_zero hkl HH.out (by omega) (by omega)]; rfl, rfl⟩
          · by_cases h9 : k = 9
            · subst h9
              by_cases h1 : 1 < y
              · go_wp2
                go_ret2
                obtain ⟨hkl, hyv⟩ := HY.out
                exact ⟨by rw [dec_big hkl HH.out (by omega)]; rfl, rfl⟩
              · go_wp2
                go_ret2
                obtain ⟨hkl, hyv⟩ := HY.out
                have hb := val_take_succ hkl
                rw [← hyv] at hb
                have hs := val_small hkl (by omega) (by omega) (by omega)
                exact ⟨by rw [dec_ok hkl (by omega) HH.out (by omega) (by omega) hs]; exact tup2 (by rw [orshl9 hy2 hV (by omega), ← hb]) rfl, rfl⟩
            · go_wp2
              go_ret2
              obtain ⟨hkl, hyv⟩ := HY.out
              have hb := val_take_succ hkl
              rw [← hyv] at hb
              have hs := val_small hkl (by omega) (by omega) (by omega)
              exact ⟨by rw [dec_ok hkl (by omega) HH.out (by omega) (by omega) hs]; exact tup2 (by rw [orshl hy2 hV (by omega), ← hb]) rfl, rfl⟩
      · have hz := dec_long (l := l) (i := k) (by omega) (by omega) hh
        have HZ := Lib.hid hz
        clear hz hh hr hl
        first
          | (have hkk : 10 ≤ k := by omega
             go_wp2)
          | (have hkk : n ≤ k := by omega
             go_wp2)
        go_ret2
        exact ⟨by rw [HZ.out]; rfl, rfl⟩

end Fr
end Go.Proofs.YtadlhnjnhllpfaaDoor
