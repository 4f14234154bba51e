/-
  WHAT IS PROVED: (1) what the small calls of a drive do: names, Dead, step, find, Size, Loose, Steps, Arm. CONDITIONS: the drive stands in memory as the plain one says.
-/
import Derived.Test.YtbfmjonabndhaaaGreatDoorQDRep
import Derived.Deep.QuietTactic
import Derived.BigQuiet
import Derived.Deep.RegionHeld3
import Derived.Deep.RegionWith
import Derived.Outline
namespace Go.Proofs.YtbfmjonabndhaaaGreatDoor
open Go Go.RowKit Go.Maps Go.Proofs.YtbfmjonabndhaaaGreatDoor.Fr
namespace Dr

theorem nbN_of {y : Nat} {b : Bool} (h : nbN y = b) : Ending.returned (.bool b) = .returned (.bool (nbN y)) := by rw [h]
set_option maxHeartbeats 800000 in
theorem isNameByte_any (y : Nat) (hy : y < 256) (w : World) :
    Calls Tryz.prog 68 #[.int .u8 (y : Int)] w fun e w' => e = .returned (.bool (nbN y)) ∧ w = w' := by
  have hcase : y < 45 ∨ y = 45 ∨ y = 46 ∨ y = 47 ∨ (48 ≤ y ∧ y ≤ 57) ∨ (58 ≤ y ∧ y ≤ 96) ∨ (97 ≤ y ∧ y ≤ 122) ∨ 123 ≤ y := by omega
  rcases hcase with h | h | h | h | ⟨h, h'⟩ | ⟨h, h'⟩ | ⟨h, h'⟩ | h
  · have e1 : ((y : Int) == 45) = false := by rw [beq_eq_false_iff_ne]; omega
    have e2 : ((y : Int) == 46) = false := by rw [beq_eq_false_iff_ne]; omega
    have hn : nbN y = false := by simp [nbN]; omega
    have HN := Lib.hid hn
    clear hn
    go_enter Tryz.func68, Tryz.ntmps68
    go_wp2
    go_ret
    exact ⟨nbN_of HN.out, rfl⟩
  · subst h
    go_enter Tryz.func68, Tryz.ntmps68
    go_wp2
    go_ret
    exact ⟨rfl, rfl⟩
  · subst h
    go_enter Tryz.func68, Tryz.ntmps68
    go_wp2
    go_ret
    exact ⟨rfl, rfl⟩
  · subst h
    go_enter Tryz.func68, Tryz.ntmps68
    go_wp2
    go_ret
    exact ⟨rfl, rfl⟩
  all_goals
    have e1 : ((y : Int) == 45) = false := by rw [beq_eq_false_iff_ne]; omega
    have e2 : ((y : Int) == 46) = false := by rw [beq_eq_false_iff_ne]; omega
    have hn : ∃ b, nbN y = b := ⟨_, rfl⟩
    obtain ⟨b, hn⟩ := hn
    have hb : b = (decide (48 ≤ y ∧ y ≤ 57) || decide (97 ≤ y ∧ y ≤ 122)) := by subst hn; simp only [nbN]; rw [Bool.eq_iff_iff]; simp; omega
    have HN := Lib.hid hn
    have HB := Lib.hid hb
    clear hn hb
    go_enter Tryz.func68, Tryz.ntmps68
    go_wp2
    go_ret
    refine ⟨nbN_of (HN.out.trans (HB.out.trans ?_)), rfl⟩
    rw [Bool.eq_iff_iff]; simp; omega

/-- The bytes up to a place are all such. -/
theorem nameOk_false {l : Bs} {i : Nat} (hi : i < l.length) (h : nb l[i] = false) : nameOk l = false := by
  have : l.all nb = false := by
    rw [List.all_eq_false]
    exact ⟨_, List.getElem_mem hi, by simp [h]⟩
  simp [nameOk, this]
theorem nameOk_mk {l : Bs} (h : ∀ i (hi : i < l.length), nb l[i] = true) : nameOk l = (decide (1 ≤ l.length) && decide (l.length ≤ 32)) := by
  have : l.all nb = true := by
    rw [List.all_eq_true]
    intro x hx
    obtain ⟨i, hi, rfl⟩ := List.getElem_of_mem hx
    exact h i hi
  simp [nameOk, this]
theorem ret_bool {a b : Bool} (h : a = b) : Ending.returned (.bool a) = Ending.returned (.bool b) := by rw [h]
theorem size_list (s : ByteArray) : s.data.toList.length = s.size := rfl
def NbTo (l : Bs) (k : Nat) : Prop := ∀ i (hi : i < l.length), i < k → nb l[i] = true
theorem NbTo.zero (l : Bs) : NbTo l 0 := fun _ _ h => absurd h (by omega)
theorem NbTo.succ {l : Bs} {k : Nat} (h : NbTo l k) (hk : k < l.length) (hb : nb l[k] = true) : NbTo l (k + 1) := fun i hi hik => by
  rcases Nat.lt_or_ge i k with h1 | h1
  · exact h i hi h1
  · obtain rfl : i = k := by omega
    exact hb
theorem NbTo.all {l : Bs} {k : Nat} (h : NbTo l k) (hk : l.length ≤ k) : ∀ i (hi : i < l.length), nb l[i] = true := fun i hi => h i hi (by omega)

set_option maxHeartbeats 800000 in
theorem isName_any (s : ByteArray) (w : World) (hs : s.size ≤ maxLen) :
    Calls Tryz.prog 46 #[.string s] w fun e w' => e = .returned (.bool (nameOk s.data.toList)) ∧ w = w' := by
  unfold maxLen at hs
  by_cases h0 : s.size < 1 ∨ 32 < s.size
  · have hn : nameOk s.data.toList = false := by
      simp only [nameOk, size_list]
      rcases h0 with h | h
      · simp [show ¬ 1 ≤ s.size by omega]
      · simp [show ¬ s.size ≤ 32 by omega]
    have HN := Lib.hid hn
    clear hn
    rcases h0 with h | h
    all_goals
      go_enter Tryz.func46, Tryz.ntmps46
      go_wp2
      go_ret
      exact ⟨ret_bool HN.out.symm, rfl⟩
  · have h1 : 1 ≤ s.size := by omega
    have h2 : s.size ≤ 32 := by omega
    clear h0
    go_enter Tryz.func46, Tryz.ntmps46
    go_wp2
    go_loop [14] (fun i => ∃ k : Nat, k ≤ s.size ∧ i = .int .i64 k ∧ NbTo s.data.toList k) (fun i => s.size - (intOf i).toNat)
    case atStart => exact ⟨0, Nat.zero_le _, rfl, NbTo.zero _⟩
    case round =>
      obtain ⟨k, hk, rfl, hp⟩ := hrel
      have HP := Lib.hid hp
      clear hp
      by_cases hlt : k < s.size
      · obtain ⟨b, hb⟩ : ∃ b, nbN s[k].toNat = b := ⟨_, rfl⟩
        have hc := isNameByte_any s[k].toNat (UInt8.toNat_lt _) w
        rw [hb] at hc
        have HB := Lib.hid hb
        clear hb
        cases b
        · go_wp2_with (go_at_call 68; refine hc.mono ?_; rintro e w' ⟨rfl, rfl⟩)
          go_ret
          exact ⟨ret_bool (nameOk_false (i := k) (by simpa using hlt) HB.out).symm, rfl⟩
        · go_wp2_with (go_at_call 68; refine hc.mono ?_; rintro e w' ⟨rfl, rfl⟩)
          go_round
          case rel => exact ⟨k + 1, by omega, by go_num, HP.out.succ (by simpa using hlt) HB.out⟩
          case measure => simp [intOf]; omega
      · go_wp2
        go_ret
        refine ⟨ret_bool ?_, rfl⟩
        rw [nameOk_mk (HP.out.all (by rw [size_list]; omega)), size_list]
        simp [h1, h2]
end Dr
end Go.Proofs.YtbfmjonabndhaaaGreatDoor
