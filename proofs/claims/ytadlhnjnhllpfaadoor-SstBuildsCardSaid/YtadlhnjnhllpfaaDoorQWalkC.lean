/-
  WHAT IS PROVED: (1) what the calls of both packages' Sum and of storedSum do, in whatever memory that holds the table: they hand back the CRC-32 of the bytes, or the four bytes' number, and leave memory as it was. CONDITIONS: a slice that comes in reads as the bytes that are named; the table's cells are the sixteen numbers.
-/
import Derived.Test.YtadlhnjnhllpfaaDoorQWalkA
import Derived.Test.YtadlhnjnhllpfaaDoorQCrc
namespace Go.Proofs.YtadlhnjnhllpfaaDoor
open Go Go.RowKit
namespace Fr

/-- The table lies where the program's variable lies. -/
def Tab (w : World) : Prop := 1 < w.heap.size ∧ ∀ i (_ : i < 16), w.cell? ⟨1, i, none⟩ = some (.int .u32 ((tab[i]?.getD 0 : Nat) : Int))
theorem Tab.below {w w' : World} (h : Tab w) (hb : Below w.heap.size w w') : Tab w' := ⟨by have := hb.size; have := h.1; omega, fun i hi => (hb.cell (p := ⟨1, i, none⟩) h.1).trans (h.2 i hi)⟩

theorem div_cast (y j : Nat) : (y : Int) / 2 ^ j = ((y / 2 ^ j : Nat) : Int) := by rw [Int.natCast_ediv, Int.natCast_pow]; rfl
theorem bit_cast {y j T : Nat} (hy : y < 256) (hT : T < 4294967296) : (bits .xor .u32 ((y : Int) / 2 ^ j) (T : Int)).tmod 2 = (((y / 2 ^ j ^^^ T) % 2 : Nat) : Int) := by
  have h1 : y / 2 ^ j < 4294967296 := by have := Nat.div_le_self y (2 ^ j); omega
  rw [div_cast, u32_xor_nat _ _ h1 hT]
  exact Int.ofNat_tmod _ 2
theorem bit_yes {y j T : Nat} (hy : y < 256) (hT : T < 4294967296) (h : (y / 2 ^ j ^^^ T) % 2 = 1) : ((bits .xor .u32 ((y : Int) / 2 ^ j) (T : Int)).tmod 2 == 1) = true := by
  rw [bit_cast hy hT, h]; rfl
theorem bit_no {y j T : Nat} (hy : y < 256) (hT : T < 4294967296) (h : ¬ (y / 2 ^ j ^^^ T) % 2 = 1) : ((bits .xor .u32 ((y : Int) / 2 ^ j) (T : Int)).tmod 2 == 1) = false := by
  rw [bit_cast hy hT, show (y / 2 ^ j ^^^ T) % 2 = 0 by omega]; rfl
theorem xorP {T : Nat} (hT : T < 4294967296) : bits .xor .u32 ((T : Int) / 2) 3988292384 = ((T / 2 ^^^ 3988292384 : Nat) : Int) := by
  rw [show (T : Int) / 2 = ((T / 2 : Nat) : Int) by omega, show (3988292384 : Int) = ((3988292384 : Nat) : Int) from rfl, u32_xor_nat _ _ (by omega) (by omega)]
theorem xorF {T : Nat} (hT : T < 4294967296) : bits .xor .u32 (T : Int) 4294967295 = ((T ^^^ 4294967295 : Nat) : Int) := by
  rw [show (4294967295 : Int) = ((4294967295 : Nat) : Int) from rfl, u32_xor_nat _ _ hT (by omega)]

theorem Rsum_any (A : Option Addr) (n c : Nat) (l : List UInt8) (w : World) (hl : l.length = n) (hr : Rd w A (bv l)) (hn : n ≤ 140737488355328) :
    Calls Tryd.prog 63 #[.slice A n c] w fun e w' => e = .returned (.int .u32 (crc l : Nat)) ∧ w = w' := by
  go_enter Tryd.func63, Tryd.ntmps63
  go_wp2
  go_loop [3, 4] (fun s i => ∃ (k S : Nat), k ≤ n ∧ i = .int .i64 k ∧ s = .int .u32 S ∧ S < 4294967296 ∧ Hid (S = crcFrom 4294967295 (l.take k))) (fun _ i => n - (intOf i).toNat)
  case atStart => exact ⟨0, 4294967295, by omega, rfl, rfl, by omega, by exact rfl⟩
  case round =>
    obtain ⟨k, S, hk, rfl, rfl, hS, HS⟩ := hrel
    by_cases hkn : k < n
    · obtain ⟨b, o, y, rfl, hbs, hc, hy2, HY⟩ := hr.byteY (i := k) (by omega)
      have HL := Lib.hid hl
      clear hl hr
      obtain ⟨B, hB⟩ : ∃ B : UInt8, Hid (B.toNat = y ∧ ∃ h : k < l.length, B = l[k]) := by
        obtain ⟨h, e⟩ := HY.out
        exact ⟨l[k], e.symm, h, rfl⟩
      go_wp2
      go_loop [3, 5] (fun s i => ∃ (j T : Nat), j ≤ 8 ∧ i = .int .i64 j ∧ s = .int .u32 T ∧ T < 4294967296 ∧ Hid (T = feeds B S j)) (fun _ i => 8 - (intOf i).toNat)
      case atStart => exact ⟨0, S, by omega, rfl, rfl, hS, by exact rfl⟩
      case round =>
        obtain ⟨j, T, hj, rfl, rfl, hT, HT⟩ := hrel
        by_cases hj8 : j < 8
        · by_cases hb : (y / 2 ^ j ^^^ T) % 2 = 1
          · have hbit := bit_yes hy2 hT hb
            have HB := Lib.hid hb
            clear hb
            go_wp2
            go_round
            case rel =>
              refine ⟨j + 1, T / 2 ^^^ 3988292384, by omega, by go_num, by rw [xorP hT], xor_lt32 (by omega) (by omega), ?_⟩
              show T / 2 ^^^ 3988292384 = feed (feeds B S j) ((B.toNat / 2 ^ j ^^^ feeds B S j) % 2)
              rw [← HT.out, hB.out.1, HB.out]
              rfl
            case measure => simp [intOf]; omega
          · have hbit := bit_no hy2 hT hb
            have HB := Lib.hid hb
            clear hb
            go_wp2
            go_round
            case rel =>
              refine ⟨j + 1, T / 2, by omega, by go_num, by go_num, by omega, ?_⟩
              show T / 2 = feed (feeds B S j) ((B.toNat / 2 ^ j ^^^ feeds B S j) % 2)
              rw [← HT.out, hB.out.1]
              unfold feed
              rw [if_neg HB.out, Nat.xor_zero]
            case measure => simp [intOf]; omega
        · obtain rfl : j = 8 := by omega
          go_wp2
          go_round
          case rel =>
            refine ⟨k + 1, T, by omega, by go_num, rfl, hT, ?_⟩
            obtain ⟨_, hkl, hB2⟩ := hB.out
            show T = crcFrom 4294967295 (l.take (k + 1))
            rw [crcFrom_take_succ hkl, ← HS.out, ← hB2, ← feeds_byte]
            exact HT.out
          case measure => simp [intOf]; omega
    · go_wp2
      go_ret
      refine ⟨?_, rfl⟩
      rw [xorF hS, HS.out, List.take_of_length_le (by omega)]
      rfl

theorem and15 {T : Nat} (hT : T < 4294967296) : bits .and .u32 (T : Int) 15 = ((T % 16 : Nat) : Int) := by
  rw [show (15 : Int) = ((15 : Nat) : Int) from rfl, u32_and_nat _ _ hT (by omega), nat_mask4]
theorem xorB {S y : Nat} (hS : S < 4294967296) (hy : y < 256) : bits .xor .u32 (S : Int) (y : Int) = ((S ^^^ y : Nat) : Int) := u32_xor_nat _ _ hS (by omega)
theorem xorMax {S : Nat} (hS : S < 4294967296) : bits .xor .u32 IntKind.u32.max (S : Int) = ((S ^^^ 4294967295 : Nat) : Int) := by
  rw [show IntKind.u32.max = ((4294967295 : Nat) : Int) from rfl, u32_xor_nat _ _ (by omega) hS, Nat.xor_comm]

theorem Fsum_any (A : Option Addr) (n c : Nat) (l : List UInt8) (w : World) (hl : l.length = n) (hr : Rd w A (bv l)) (hn : n ≤ 140737488355328) (ht : Tab w) :
    Calls Tryd.prog 76 #[.slice A n c] w fun e w' => e = .returned (.int .u32 (crc l : Nat)) ∧ w = w' := by
  go_enter Tryd.func76, Tryd.ntmps76
  go_wp2
  go_loop [3, 8] (fun s i => ∃ (k S : Nat), k ≤ n ∧ i = .int .i64 k ∧ s = .int .u32 S ∧ S < 4294967296 ∧ Hid (S = crcFrom 4294967295 (l.take k))) (fun _ i => n - (intOf i).toNat)
  case atStart => exact ⟨0, 4294967295, by omega, rfl, rfl, by omega, by exact rfl⟩
  case round =>
    obtain ⟨k, S, hk, rfl, rfl, hS, HS⟩ := hrel
    by_cases hkn : k < n
    · obtain ⟨b, o, y, rfl, hbs, hc, hy2, HY⟩ := hr.byteY (i := k) (by omega)
      have HL := Lib.hid hl
      have HT := Lib.hid ht
      clear hl hr ht
      have hx := xorB hS hy2
      obtain ⟨X, hX⟩ : ∃ X, X = S ^^^ y := ⟨_, rfl⟩
      rw [← hX] at hx
      have hX2 : X < 4294967296 := by rw [hX]; exact xor_lt32 hS (by omega)
      have HX := Lib.hid hX
      clear hX
      go_wp2
      go_loop [3, 16] (fun s i => ∃ (j T : Nat), j ≤ 2 ∧ i = .int .i64 j ∧ s = .int .u32 T ∧ T < 4294967296 ∧ Hid (T = bitSteps (4 * j) X)) (fun _ i => 2 - (intOf i).toNat)
      case atStart => exact ⟨0, X, by omega, rfl, rfl, hX2, by exact rfl⟩
      case round =>
        obtain ⟨j, T, hj, rfl, rfl, hT, HTj⟩ := hrel
        by_cases hj2 : j < 2
        · obtain ⟨i, hi⟩ : ∃ i, i = T % 16 := ⟨_, rfl⟩
          have hidx := and15 hT
          rw [← hi] at hidx
          have hi16 : i < 16 := by omega
          have hcell := HT.out.2 i hi16
          obtain ⟨E, hE⟩ : ∃ E, E = tab[i]?.getD 0 := ⟨_, rfl⟩
          rw [← hE] at hcell
          have hE2 : E < 4294967296 := by rw [hE]; exact tab_lt i hi16
          have HE := Lib.hid hE
          have HI := Lib.hid hi
          clear hi hE
          have hxe : bits .xor .u32 ((T : Int) / 16) (E : Int) = ((T / 16 ^^^ E : Nat) : Int) := by
            rw [show (T : Int) / 16 = ((T / 16 : Nat) : Int) by omega, u32_xor_nat _ _ (by omega) hE2]
          have HXE := Lib.hid hxe
          clear hxe
          go_wp2
          go_round
          case rel =>
            refine ⟨j + 1, T / 16 ^^^ E, by omega, by go_num, by rw [HXE.out], xor_lt32 (by omega) hE2, ?_⟩
            show T / 16 ^^^ E = bitSteps (4 * j + 4) X
            rw [bitSteps_add, ← HTj.out, ← half_eq, HE.out, HI.out]
            rfl
          case measure => simp [intOf]; omega
        · obtain rfl : j = 2 := by omega
          go_wp2
          go_round
          case rel =>
            refine ⟨k + 1, T, by omega, by go_num, rfl, hT, ?_⟩
            obtain ⟨hkl, hyv⟩ := HY.out
            show T = crcFrom 4294967295 (l.take (k + 1))
            rw [crcFrom_take_succ hkl, ← HS.out, HTj.out, HX.out, hyv]
            rfl
          case measure => simp [intOf]; omega
    · have hx := xorMax hS
      go_wp2
      go_ret
      refine ⟨?_, rfl⟩
      rw [HS.out, List.take_of_length_le (by omega)]
      rfl
theorem pow256 (k : Nat) : (2 : Nat) ^ (8 * k) = 256 ^ k := by rw [Nat.pow_mul]
theorem word_take_succ {l : List UInt8} {i : Nat} (h : i < l.length) : word (l.take (i + 1)) = word (l.take i) + (l[i]).toNat * 256 ^ i := by
  have ha : ∀ a b : List UInt8, word (a ++ b) = word a + 256 ^ a.length * word b := by
    intro a b
    induction a with
    | nil => simp [word]
    | cons x r ih =>
      simp only [List.cons_append, word, ih, List.length_cons, Nat.pow_succ]
      rw [Nat.mul_add, ← Nat.mul_assoc, Nat.mul_comm 256 (256 ^ r.length)]
      omega
  rw [List.take_succ_eq_append_getElem h, ha, List.length_take, Nat.min_eq_left (by omega)]
  simp only [word]
  rw [Nat.mul_zero, Nat.add_zero, Nat.mul_comm]
theorem word_take_lt (l : List UInt8) (i : Nat) : word (l.take i) < 256 ^ i := by
  have h1 := word_lt (l.take i)
  rw [pow256] at h1
  have h2 : 256 ^ (l.take i).length ≤ 256 ^ i := Nat.pow_le_pow_right (by omega) (by simp; omega)
  omega
theorem orshl32 {V y j : Nat} (hy : y < 256) (hj : j < 4) (hV : V < 256 ^ j) : bits .or .u32 (V : Int) ((y : Int) * 2 ^ (8 * j) % 4294967296) = ((V + y * 256 ^ j : Nat) : Int) := by
  have e2 : (y : Int) * 2 ^ (8 * j) = ((y * 256 ^ j : Nat) : Int) := by rw [← pow256, Int.natCast_mul, Int.natCast_pow]; rfl
  have hp : 256 ^ j ≤ 256 ^ 3 := Nat.pow_le_pow_right (by omega) (by omega)
  have hp3 : (256 : Nat) ^ 3 = 16777216 := by decide
  have hb : y * 256 ^ j < 4294967296 := by
    have h := Nat.mul_le_mul (show y ≤ 255 by omega) hp
    omega
  rw [e2, show ((y * 256 ^ j : Nat) : Int) % 4294967296 = ((y * 256 ^ j : Nat) : Int) by omega, u32_or_nat _ _ (by omega) hb]
  congr 1
  rw [Nat.or_comm, nat_join (8 * j) _ _ (by rw [pow256]; exact Nat.mul_mod_left _ _) (by rw [pow256]; exact hV), Nat.add_comm]

theorem stored_any (A : Option Addr) (c : Nat) (l : List UInt8) (w : World) (hl : l.length = 4) (hr : Rd w A (bv l)) :
    Calls Tryd.prog 88 #[.slice A 4 c] w fun e w' => e = .returned (.int .u32 (word l : Nat)) ∧ w = w' := by
  go_enter Tryd.func88, Tryd.ntmps88
  go_wp2
  go_loop [3, 5] (fun s i => ∃ (k S : Nat), k ≤ 4 ∧ i = .int .i64 k ∧ s = .int .u32 S ∧ Hid (S = word (l.take k))) (fun _ i => 4 - (intOf i).toNat)
  case atStart => exact ⟨0, 0, by omega, rfl, rfl, by exact rfl⟩
  case round =>
    obtain ⟨k, S, hk, rfl, rfl, HS⟩ := hrel
    by_cases hkn : k < 4
    · obtain ⟨b, o, y, rfl, hbs, hc, hy2, HY⟩ := hr.byteY (i := k) (by omega)
      have hV := word_take_lt l k
      rw [← HS.out] at hV
      have HV := Lib.hid hV
      have HL := Lib.hid hl
      clear hl hr hV
      go_wp2
      obtain ⟨hkl, hyv⟩ := HY.out
      go_round
      case rel =>
        refine ⟨k + 1, S + y * 256 ^ k, by omega, by go_num, by rw [orshl32 hy2 hkn HV.out], ?_⟩
        show S + y * 256 ^ k = word (l.take (k + 1))
        rw [word_take_succ hkl, ← HS.out, hyv]
      case measure => simp [intOf]; omega
    · obtain rfl : k = 4 := by omega
      go_wp2
      go_ret
      refine ⟨?_, rfl⟩
      rw [HS.out, List.take_of_length_le (by omega)]
      rfl
end Fr
end Go.Proofs.YtadlhnjnhllpfaaDoor
