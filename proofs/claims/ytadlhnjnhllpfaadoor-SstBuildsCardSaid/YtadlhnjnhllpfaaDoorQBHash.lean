/-
  WHAT IS PROVED: (1) what both packages' Hash answer, and the rotation. NO CONDITION beside those that each lemma names.
-/
import Derived.Test.YtadlhnjnhllpfaaDoorQBNum
import Derived.Test.YtadlhnjnhllpfaaDoorProg
import Derived.Lib.Strings
import Derived.Laws.BitsAllLaws
namespace Go.Proofs.YtadlhnjnhllpfaaDoor
open Go Go.RowKit
namespace Bl
open Go.Proofs.YtadlhnjnhllpfaaDoor.Fr

theorem str_at (s : ByteArray) {i : Nat} (hi : i < s.size) : ∃ y, y < 256 ∧ (∀ W : World, (Instr.index 9 (.string s) (.int .i64 (i : Int))).run Tryd.prog W = .ok (.int .u8 ((y : Nat) : Int)) W) ∧ Hid (∃ h : i < s.toList.length, y = (s.toList[i]'h).toNat) := by
  refine ⟨(s[i]'hi).toNat, UInt8.toNat_lt _, fun W => ?_, ?_⟩
  · rw [run_index_string W 9 s .i64 i Tryd.underlying9, dif_pos ⟨by omega, by omega⟩]
    rfl
  · have hl : i < s.toList.length := by rw [Lib.toList_data]; exact hi
    refine ⟨hl, ?_⟩
    simp only [Lib.toList_data]
    rfl
theorem xor_mul (S y : Nat) (hS : S < 4294967296) (hy : y < 256) : bits .xor .u32 (S : Int) (y : Int) * 16777619 % 4294967296 = (((S ^^^ y) * 16777619 % 4294967296 : Nat) : Int) := by
  rw [u32_xor_nat _ _ hS (by omega)]; omega
theorem fnv_next {s : ByteArray} {k S y : Nat} (HS : Hid (S = fnv (s.toList.take k))) (HY : Hid (∃ h : k < s.toList.length, y = (s.toList[k]'h).toNat)) : (S ^^^ y) * 16777619 % 4294967296 = fnv (s.toList.take (k + 1)) := by
  obtain ⟨h, rfl⟩ := HY.out
  rw [fnv_take h, ← HS.out]
  rfl
theorem hash_any (s : ByteArray) (hs : s.size ≤ maxLen) (w : World) : Calls Tryd.prog 83 #[.string s] w fun e w' => e = .returned (.int .u32 (fnv s.toList : Nat)) ∧ w = w' := by
  have hlen : s.toList.length = s.size := by rw [Lib.toList_data]; rfl
  have HL := Lib.hid hlen
  unfold maxLen at hs
  clear hlen
  go_enter Tryd.func83, Tryd.ntmps83
  go_wp2
  go_loop [3, 7] (fun h i => ∃ (k S : Nat), k ≤ s.size ∧ i = .int .i64 k ∧ h = .int .u32 S ∧ S < 4294967296 ∧ Hid (S = fnv (s.toList.take k))) (fun _ i => s.size - (intOf i).toNat)
  case atStart => exact ⟨0, 2166136261, by omega, rfl, rfl, by omega, by exact rfl⟩
  case round =>
    obtain ⟨k, S, hk, rfl, rfl, hS, HS⟩ := hrel
    by_cases hkn : k < s.size
    · obtain ⟨y, hy, hix, HY⟩ := str_at s hkn
      have k1 : (k : Int) < (s.size : Int) := by omega
      go_wp2
      go_round
      case rel => exact ⟨k + 1, (S ^^^ y) * 16777619 % 4294967296, by omega, rfl, by rw [xor_mul S y hS hy], Nat.mod_lt _ (by decide), fnv_next HS HY⟩
      case measure => simp [intOf]; omega
    · obtain ⟨T, hT⟩ : ∃ T, Hid (T = fnv s.toList) := ⟨_, Lib.hid rfl⟩
      have : S = T := by rw [HS.out, List.take_of_length_le (by have := HL.out; omega)]; exact hT.out.symm
      subst this
      go_wp2
      go_ret
      refine ⟨?_, rfl⟩
      rw [hT.out]
      rfl
theorem xor_lt32 {a b : Nat} (ha : a < 4294967296) (hb : b < 4294967296) : a ^^^ b < 4294967296 := Nat.xor_lt_two_pow (n := 32) (by omega) (by omega)
theorem xor64 (S y : Nat) (hS : S < 4294967296) (hy : y < 256) : bits .xor .i64 (S : Int) (y : Int) = ((S ^^^ y : Nat) : Int) := by
  have hx : S ^^^ y < 2 ^ 32 := Nat.xor_lt_two_pow (by omega) (by omega)
  have e : ∀ a : Nat, a < 4294967296 → (BitVec.ofInt 64 (a : Int)).toNat = a := fun a ha => by
    rw [BitVec.ofInt_natCast, BitVec.toNat_ofNat]; exact Nat.mod_eq_of_lt (by omega)
  show IntKind.i64.wrap ((BitVec.ofInt 64 (S : Int) ^^^ BitVec.ofInt 64 (y : Int)).toNat : Int) = _
  rw [BitVec.toNat_xor, e S hS, e y (by omega)]
  exact IntWalk.i64_in _ (by omega)
theorem rhash_any (s : ByteArray) (hs : s.size ≤ maxLen) (w : World) : Calls Tryd.prog 75 #[.string s] w fun e w' => e = .returned (.int .i64 (fnv s.toList : Nat)) ∧ w = w' := by
  have hlen : s.toList.length = s.size := by rw [Lib.toList_data]; rfl
  have HL := Lib.hid hlen
  unfold maxLen at hs
  clear hlen
  go_enter Tryd.func75, Tryd.ntmps75
  go_wp2
  go_loop [3, 4] (fun h i => ∃ (k S : Nat), k ≤ s.size ∧ i = .int .i64 k ∧ h = .int .i64 S ∧ S < 4294967296 ∧ Hid (S = fnv (s.toList.take k))) (fun _ i => s.size - (intOf i).toNat)
  case atStart => exact ⟨0, 2166136261, by omega, rfl, rfl, by omega, by exact rfl⟩
  case round =>
    obtain ⟨k, S, hk, rfl, rfl, hS, HS⟩ := hrel
    by_cases hkn : k < s.size
    · obtain ⟨y, hy, hix, HY⟩ := str_at s hkn
      have k1 : (k : Int) < (s.size : Int) := by omega
      have hx := xor64 S y hS hy
      have hN := fnv_next HS HY
      obtain ⟨X, hX⟩ : ∃ X, X = S ^^^ y := ⟨_, rfl⟩
      rw [← hX] at hx hN
      have hX2 : X < 4294967296 := by rw [hX]; exact xor_lt32 hS (by omega)
      have HN := Lib.hid hN
      clear hX hN
      go_wp2
      go_round
      case rel => exact ⟨k + 1, X * 16777619 % 4294967296, by omega, rfl, rfl, Nat.mod_lt _ (by decide), HN.out⟩
      case measure => simp [intOf]; omega
    · obtain ⟨T, hT⟩ : ∃ T, Hid (T = fnv s.toList) := ⟨_, Lib.hid rfl⟩
      have : S = T := by rw [HS.out, List.take_of_length_le (by have := HL.out; omega)]; exact hT.out.symm
      subst this
      go_wp2
      go_ret
      refine ⟨?_, rfl⟩
      rw [hT.out]
      rfl
theorem rot_any (h : Nat) (hh : h < 4294967296) (w : World) : Calls Tryd.prog 84 #[.int .u32 (h : Int), .int .i64 (-17)] w fun e w' => e = .returned (.int .u32 (turn h : Nat)) ∧ w = w' := by
  have hb : bits .and .u64 (IntKind.u64.wrap (-17)) 31 = 15 := by decide +kernel
  have hor : bits .or .u32 ((h : Int) * 32768 % 4294967296) ((h : Int) / 131072) = (turn h : Int) := by
    rw [show (h : Int) * 32768 % 4294967296 = ((h % 131072 * 32768 : Nat) : Int) by omega, show (h : Int) / 131072 = ((h / 131072 : Nat) : Int) by omega, u32_or_nat _ _ (by omega) (by omega), nat_join 15 _ _ (by omega) (by omega)]
    unfold turn; omega
  go_enter Tryd.func84, Tryd.ntmps84
  go_wp2
  go_ret
  exact ⟨rfl, rfl⟩
end Bl
end Go.Proofs.YtadlhnjnhllpfaaDoor
