/-
  WHAT IS PROVED: (1) what the reference's Name and At do. CONDITIONS: the list stands in memory as named.
-/
import Derived.Test.YtbfmjonabndhaaaGreatDoorQDWalkA
namespace Go.Proofs.YtbfmjonabndhaaaGreatDoor
open Go Go.RowKit Go.Maps Go.Proofs.YtbfmjonabndhaaaGreatDoor.Fr
namespace Dr

set_option maxHeartbeats 1600000 in
theorem rname_any (s : ByteArray) (w : World) (hs : s.size ≤ maxLen) :
    Calls Tryz.prog 20 #[.string s] w fun e w' => e = .returned (.bool (nameOk s.data.toList)) ∧ w = w' := by
  unfold maxLen at hs
  go_enter Tryz.func20, Tryz.ntmps20
  go_wp2
  go_loop [3] (fun i => ∃ k : Nat, k ≤ s.size ∧ i = .int .i64 k ∧ NbTo s.data.toList k) (fun i => s.size - (intOf i).toNat)
  case atStart => exact ⟨0, Nat.zero_le _, rfl, NbTo.zero _⟩
  case round =>
    obtain ⟨k, hk, rfl, hp⟩ := hrel
    have HP := Lib.hid hp
    clear hp
    by_cases hlt : k < s.size
    · obtain ⟨y, hy⟩ : ∃ y, s[k].toNat = y := ⟨_, rfl⟩
      have hy2 : y < 256 := by rw [← hy]; exact UInt8.toNat_lt _
      have HY := Lib.hid hy
      have hyi : (s[k].toNat : Int) = (y : Int) := by rw [hy]
      clear hy
      obtain ⟨b, hb⟩ : ∃ b, nbN y = b := ⟨_, rfl⟩
      have hb' : b = (decide (97 ≤ y ∧ y ≤ 122) || decide (48 ≤ y ∧ y ≤ 57) || decide (y = 45) || decide (y = 46)) := by subst hb; simp only [nbN]; rw [Bool.eq_iff_iff]; simp
      have HNB : Hid (∀ h : k < s.data.toList.length, nb (s.data.toList[k]'h) = b) := fun h => by show nbN _ = b; rw [← hb, ← HY.out]; rfl
      clear hb
      have hcase : y < 45 ∨ y = 45 ∨ y = 46 ∨ y = 47 ∨ (48 ≤ y ∧ y ≤ 57) ∨ (58 ≤ y ∧ y ≤ 96) ∨ (97 ≤ y ∧ y ≤ 122) ∨ 123 ≤ y := by omega
      rcases hcase with h | h | h | h | ⟨h, h'⟩ | ⟨h, h'⟩ | ⟨h, h'⟩ | h
      all_goals
        first
          | (have hbt : b = true := by (rw [hb']; simp; omega))
          | (have hbf : b = false := by (rw [hb']; simp; omega))
        clear hb'
        subst b
        have HH := Lib.hid h
        first | (have d1 : decide (97 ≤ (y : Int)) = true := decide_eq_true (by omega)) | (have d1 : decide (97 ≤ (y : Int)) = false := decide_eq_false (by omega))
        first | (have d2 : decide ((y : Int) ≤ 122) = true := decide_eq_true (by omega)) | (have d2 : decide ((y : Int) ≤ 122) = false := decide_eq_false (by omega))
        first | (have d3 : decide (48 ≤ (y : Int)) = true := decide_eq_true (by omega)) | (have d3 : decide (48 ≤ (y : Int)) = false := decide_eq_false (by omega))
        first | (have d4 : decide ((y : Int) ≤ 57) = true := decide_eq_true (by omega)) | (have d4 : decide ((y : Int) ≤ 57) = false := decide_eq_false (by omega))
        first | (have e1 : ((y : Int) == 45) = true := by (rw [beq_iff_eq]; omega)) | (have e1 : ((y : Int) == 45) = false := by (rw [beq_eq_false_iff_ne]; omega))
        first | (have e2 : ((y : Int) == 46) = true := by (rw [beq_iff_eq]; omega)) | (have e2 : ((y : Int) == 46) = false := by (rw [beq_eq_false_iff_ne]; omega))
        clear h
        go_wp2
        first
          | (go_ret
             exact ⟨ret_bool (nameOk_false (i := k) (by simpa using hlt) (HNB.out _)).symm, rfl⟩)
          | (go_round
             case rel => exact ⟨k + 1, by omega, by go_num, HP.out.succ (by simpa using hlt) (HNB.out _)⟩
             case measure => simp [intOf]; omega)
    · by_cases h0 : s.size < 1 ∨ 32 < s.size
      · have hn : nameOk s.data.toList = false := by
          simp only [nameOk, size_list]
          rcases h0 with h | h
          · simp [show ¬ 1 ≤ s.size by omega]
          · simp [show ¬ s.size ≤ 32 by omega]
        have HN := Lib.hid hn
        clear hn
        rcases h0 with h | h
        · go_wp2
          go_ret
          exact ⟨ret_bool HN.out.symm, rfl⟩
        · have d1 : decide ((s.size : Int) ≤ 32) = false := decide_eq_false (by omega)
          go_wp2
          go_ret
          exact ⟨ret_bool HN.out.symm, rfl⟩
      · have h1 : 1 ≤ s.size := by omega
        have h2 : s.size ≤ 32 := by omega
        have d1 : decide ((s.size : Int) ≤ 32) = true := decide_eq_true (by omega)
        clear h0
        go_wp2
        go_ret
        refine ⟨ret_bool ?_, rfl⟩
        rw [nameOk_mk (HP.out.all (by rw [size_list]; omega)), size_list]
        simp [h1, h2]

/-- The place of a name, of which it is known whether it is there. -/
theorem at_first {l : List Fl} {n : Bs} {k : Nat} {f : Fl} (h : ∀ g ∈ l.take k, g.name ≠ n) (hk : l[k]? = some f) (hn : f.name = n) : find l n = some f := by
  unfold find
  rw [← List.take_append_drop k l, List.find?_append]
  have e1 : (l.take k).find? (fun f => decide (f.name = n)) = none := by simpa using h
  have e2 : l.drop k = f :: l.drop (k + 1) := by
    obtain ⟨h1, rfl⟩ := List.getElem?_eq_some_iff.1 hk
    exact List.drop_eq_getElem_cons h1
  rw [e1, e2, List.find?_cons, decide_eq_true hn]
  rfl
theorem at_never {l : List Fl} {n : Bs} {k : Nat} (h : ∀ g ∈ l.take k, g.name ≠ n) (hk : l.length ≤ k) : find l n = none := by
  rw [List.take_of_length_le hk] at h
  simpa [find] using h
theorem none_succ {l : List Fl} {n : Bs} {k : Nat} {f : Fl} (h : ∀ g ∈ l.take k, g.name ≠ n) (hk : l[k]? = some f) (hn : f.name ≠ n) : ∀ g ∈ l.take (k + 1), g.name ≠ n := by
  rw [List.take_add_one, hk]
  intro g hg
  rcases List.mem_append.1 hg with hg | hg
  · exact h g hg
  · simp at hg; subst hg; exact hn
theorem beq_name (a : Bs) (s : ByteArray) : (a == s.toList) = decide (a = s.data.toList) := by
  rw [Lib.toList_data, Bool.eq_iff_iff]
  simp

/-- The reference's value, its parts. -/
theorem refV_of {w : World} {T : Nat → Prop} {v : Value} {st : St} (h : RefRep w T v st) : ∃ A c, v = .agg #[.slice A st.files.length c, .int .i64 (st.steps : Int), .bool st.armed, .int .i64 (st.left : Int)] ∧ ListAt w T (.slice A st.files.length c) st.files ∧ st.files.length ≤ c := by
  obtain ⟨u, rfl, hl⟩ := h
  obtain ⟨A, c, rfl, h1, _⟩ := hl.shape
  exact ⟨A, c, rfl, hl, h1⟩
section
variable {w : World} {T : Nat → Prop} {v : Value} {st : St}
def RAt (w : World) (l : List Fl) (n : Bs) (e : Ending) (w' : World) : Prop := Below w.heap.size w w' ∧ ((find l n = none ∧ e = .returned (.int .i64 (-1))) ∨ ∃ (i : Nat) (f : Fl), l[i]? = some f ∧ find l n = some f ∧ e = .returned (.int .i64 (i : Int)))
set_option maxHeartbeats 1000000 in
theorem at_gen (h : RefRep w T v st) (hfew : st.files.length ≤ 1000) (s : ByteArray) :
    Calls Tryz.prog 21 #[v, .string s] w (RAt w st.files s.data.toList) := by
  obtain ⟨A, c, rfl, hl, hlc⟩ := refV_of h
  have HL := Lib.hid hl
  clear h hl
  go_enter Tryz.func21, Tryz.ntmps21
  go_wp2
  go_loop [5] (fun i => ∃ k : Nat, k ≤ st.files.length ∧ i = .int .i64 k ∧ Hid (∀ g ∈ st.files.take k, g.name ≠ s.data.toList)) (fun i => st.files.length - (intOf i).toNat)
  case atStart => exact ⟨0, Nat.zero_le _, rfl, fun g hg => by simp at hg⟩
  case round =>
    obtain ⟨k, hk, rfl, HP⟩ := hrel
    by_cases hlt : k < st.files.length
    · obtain ⟨f, hf⟩ : ∃ f, st.files[k]? = some f := ⟨_, List.getElem?_eq_getElem hlt⟩
      obtain ⟨g, rfl, hg, k0, _, _⟩ := HL.out.file hf
      have HF := Lib.hid hf
      clear hf
      have hb := beq_name f.name s
      by_cases hn : f.name = s.data.toList
      · rw [decide_eq_true hn] at hb
        have HN := Lib.hid hn
        clear hn
        go_wp2
        go_ret
        exact ⟨(Below.refl _ _).alloc (Nat.le_refl _) _, .inr ⟨k, f, HF.out, at_first HP.out HF.out HN.out, rfl⟩⟩
      · rw [decide_eq_false hn] at hb
        have HN := Lib.hid hn
        clear hn
        go_wp2
        go_round
        case rel => exact ⟨k + 1, by omega, by go_num, none_succ HP.out HF.out HN.out⟩
        case measure => simp [intOf]; omega
    · go_wp2
      go_ret
      exact ⟨(Below.refl _ _).alloc (Nat.le_refl _) _, .inl ⟨at_never HP.out (by omega), rfl⟩⟩
theorem at_any (h : RefRep w T v st) (hok : st.Ok) (s : ByteArray) : Calls Tryz.prog 21 #[v, .string s] w (RAt w st.files s.data.toList) := at_gen h (by have := hok.few; omega) s
end
end Dr
end Go.Proofs.YtbfmjonabndhaaaGreatDoor
