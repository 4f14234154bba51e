/-
  WHAT IS PROVED: what the reference's Load and twice answer. CONDITIONS: the names and the files stand in memory as named.
-/
import Derived.Test.YtljhedgcpbapdaaLLoadA
import Derived.Test.YtljhedgcpbapdaaRWalkC
namespace Go.Proofs.Ytljhedgcpbapdaa
open Go Go.RowKit Go.Maps Go.Proofs.Ytljhedgcpbapdaa.Fr
namespace Dr
/-! ### plain: the code behind k names -/
def codeK (ns fs : List Bs) (k : Nat) : Nat := if ¬ (ns.take k).Nodup then 2 else if k ≠ 0 ∧ (256 < ns.length ∨ (fs.take k).any (fun f => decide (262144 < f.length)) = true) then 5 else 0
theorem codeK_cases (ns fs : List Bs) (k : Nat) : codeK ns fs k = 0 ∨ codeK ns fs k = 2 ∨ codeK ns fs k = 5 := by
  unfold codeK
  split
  · exact .inr (.inl rfl)
  · split
    · exact .inr (.inr rfl)
    · exact .inl rfl
section
variable {ns fs : List Bs} {k : Nat} {x f : Bs}
theorem nodup_snoc (hx : ns[k]? = some x) : (ns.take (k + 1)).Nodup ↔ (ns.take k).Nodup ∧ x ∉ ns.take k := by
  rw [List.take_add_one, hx]
  show (ns.take k ++ [x]).Nodup ↔ _
  rw [List.nodup_append]
  constructor
  · rintro ⟨h1, _, h3⟩
    exact ⟨h1, fun h => h3 x h x (by simp) rfl⟩
  · rintro ⟨h1, h2⟩
    exact ⟨h1, by simp, fun a ha b hb e => by simp at hb; subst hb; subst e; exact h2 ha⟩
theorem code_dup (hx : ns[k]? = some x) (hd : x ∈ ns.take k) : codeK ns fs (k + 1) = 2 := by
  unfold codeK
  rw [if_pos fun h => ((nodup_snoc hx).1 h).2 hd]
theorem code_two (hx : ns[k]? = some x) (hc : codeK ns fs k = 2) : codeK ns fs (k + 1) = 2 := by
  have h1 : ¬ (ns.take k).Nodup := fun h => by
    unfold codeK at hc
    rw [if_neg (by simpa using h)] at hc
    split at hc <;> cases hc
  unfold codeK
  rw [if_pos fun h => h1 ((nodup_snoc hx).1 h).1]
theorem nodup_of (hc : codeK ns fs k ≠ 2) : (ns.take k).Nodup := by
  by_cases h : (ns.take k).Nodup
  · exact h
  · unfold codeK at hc; rw [if_pos h] at hc; exact absurd rfl hc
theorem any_snoc (hf : fs[k]? = some f) (p : Bs → Bool) : (fs.take (k + 1)).any p = ((fs.take k).any p || p f) := by
  rw [List.take_add_one, hf]
  simp
theorem code_five (hx : ns[k]? = some x) (hf : fs[k]? = some f) (hd : x ∉ ns.take k) (hc : codeK ns fs k = 5) : codeK ns fs (k + 1) = 5 := by
  have h1 := nodup_of (ns := ns) (fs := fs) (k := k) (by rw [hc]; decide)
  have h2 : k ≠ 0 ∧ (256 < ns.length ∨ (fs.take k).any (fun f => decide (262144 < f.length)) = true) := by
    unfold codeK at hc
    rw [if_neg (by simpa using h1)] at hc
    split at hc
    · assumption
    · cases hc
  unfold codeK
  rw [if_neg (by simpa using (nodup_snoc hx).2 ⟨h1, hd⟩), if_pos ⟨by omega, h2.2.imp id fun e => by rw [any_snoc hf, e]; rfl⟩]
theorem code_big (hx : ns[k]? = some x) (hf : fs[k]? = some f) (hd : x ∉ ns.take k) (hc : codeK ns fs k ≠ 2) (hb : 256 < ns.length ∨ 262144 < f.length) : codeK ns fs (k + 1) = 5 := by
  have h1 := nodup_of hc
  unfold codeK
  rw [if_neg (by simpa using (nodup_snoc hx).2 ⟨h1, hd⟩), if_pos ⟨by omega, hb.imp id fun e => by rw [any_snoc hf, decide_eq_true e, Bool.or_true]⟩]
theorem code_ok (hx : ns[k]? = some x) (hf : fs[k]? = some f) (hd : x ∉ ns.take k) (hc : codeK ns fs k = 0) (h256 : ¬ 256 < ns.length) (hb : ¬ 262144 < f.length) : codeK ns fs (k + 1) = 0 := by
  have h1 := nodup_of (ns := ns) (fs := fs) (k := k) (by rw [hc]; decide)
  have h2 : (fs.take k).any (fun f => decide (262144 < f.length)) = false := by
    by_cases h0 : k = 0
    · subst h0; rfl
    · cases h : (fs.take k).any (fun f => decide (262144 < f.length)) with
      | false => rfl
      | true =>
        unfold codeK at hc
        rw [if_neg (by simpa using h1), if_pos ⟨h0, .inr h⟩] at hc
        cases hc
  unfold codeK
  rw [if_neg (by simpa using (nodup_snoc hx).2 ⟨h1, hd⟩), if_neg]
  rintro ⟨_, e | e⟩
  · exact h256 e
  · rw [any_snoc hf, h2, decide_eq_false hb] at e; cases e
theorem code_all (hl : ns.length = fs.length) (hv : ns.any (fun n => !nameOk n) = false) : loadErr ns fs = codeK ns fs ns.length := by
  unfold loadErr codeK
  rw [if_neg (by simpa using hl), if_neg (by rw [hv]; decide), List.take_of_length_le (Nat.le_refl _), List.take_of_length_le (l := fs) (by omega)]
  by_cases hd : ns.Nodup
  · have hdd : ¬ ¬ ns.Nodup := fun e => e hd
    rw [if_neg hdd, if_neg hdd]
    by_cases h0 : ns.length = 0
    · have e1 : ns = [] := List.eq_nil_of_length_eq_zero h0
      have e2 : fs = [] := List.eq_nil_of_length_eq_zero (by omega)
      subst e1 e2
      rfl
    · by_cases h : 256 < ns.length ∨ fs.any (fun f => decide (262144 < f.length)) = true
      · rw [if_pos h, if_pos ⟨h0, h⟩]
      · rw [if_neg h, if_neg fun e => h e.2]
  · rw [if_pos hd, if_pos hd]
end
/-! ### twice, of names that are all different -/
theorem twice_any (w : World) (A : Option Addr) (n c : Nat) (ns : List Bs) (hl : ns.length = n) (h : Nms w A ns) (hn : n ≤ 1000) (hd : ns.Nodup) :
    Calls Try.prog 35 #[.slice A n c] w fun e w' => e = .returned (.bool false) ∧ Below w.heap.size w w' := by
  have HL := Lib.hid hl
  have HN := Lib.hid h
  have HD := Lib.hid hd
  clear hl h hd
  go_enter Try.func35, Try.ntmps35
  go_wp2
  go_loopw [3] (fun s3 wr => ∃ i : Nat, i ≤ n ∧ s3 = .int .i64 (i : Int) ∧ Below w.heap.size w wr) (fun x _ => n - (intOf x).toNat)
  case atStart => exact ⟨0, by omega, rfl, Below.refl _ _⟩
  case round =>
    obtain ⟨i, hi, rfl, hb⟩ := hrel
    by_cases hlt : i < n
    · obtain ⟨x, hx⟩ : ∃ x, ns[i]? = some x := ⟨ns[i]'(by have := HL.out; omega), List.getElem?_eq_getElem _⟩
      have HX := Lib.hid hx
      have hlt' : (i : Int) < (n : Int) := by omega
      clear hx
      go_wp2
      go_loopw [4] (fun s4 wr => ∃ j : Nat, j ≤ i ∧ s4 = .int .i64 (j : Int) ∧ Below w.heap.size w wr) (fun x _ => i - (intOf x).toNat)
      case atStart => exact ⟨0, by omega, rfl, hb⟩
      case round =>
        clear hb
        obtain ⟨j, hj, rfl, hb⟩ := hrel
        by_cases hltj : j < i
        · obtain ⟨y, hy⟩ : ∃ y, ns[j]? = some y := ⟨ns[j]'(by have := HL.out; omega), List.getElem?_eq_getElem _⟩
          obtain ⟨g, p, rfl, hg, hc⟩ := (HN.out.below hb).cell HX.out
          obtain ⟨g', p', he, hg', hc'⟩ := (HN.out.below hb).cell hy
          cases he
          have hne : (x == y) = false := by
            rw [beq_eq_false_iff_ne]
            intro e
            have h1 := List.pairwise_iff_getElem.1 HD.out j i (by have := HL.out; omega) (by have := HL.out; omega) hltj
            rw [(List.getElem?_eq_some_iff.1 hy).2, (List.getElem?_eq_some_iff.1 HX.out).2] at h1
            exact h1 e.symm
          have hltj' : (j : Int) < (n : Int) := by omega
          have HB := Lib.hid hb
          clear hy hb
          go_upto_region 7 with fail
          refine wp_region_held_drew (S := fun W => W.cell? ⟨g, p + i, none⟩ = some (.string ⟨x.toArray⟩) ∧ W.cell? ⟨g, p + j, none⟩ = some (.string ⟨y.toArray⟩)) (by kernel_rfl) (by (first | exact ⟨by assumption, by assumption⟩ | go_keep)) (fun hHeld => ?_)
          refine wpAnyH_take (i := 0) (v := ?vr1_0) (Fr.take_at rfl) (by kernel_rfl) (by kernel_rfl) (by kernel_rfl) (fun _ _ _ h => h) (Or.inl ⟨by rfl, ?yr1_0⟩) (by assumption) ?nr1_0
          case yr1_0 => (intro w_ hSw; (try dsimp only at hSw); go_simp; (try with_reducible rfl))
          try simp only [Act.put, List.setIfInBounds_toArray, List.set_cons_zero, List.set_cons_succ]
          refine wpAnyH_take (i := 1) (v := ?vr1_1) (Fr.take_at rfl) (by kernel_rfl) (by kernel_rfl) (by kernel_rfl) (fun _ _ _ h => h) (Or.inl ⟨by rfl, ?yr1_1⟩) (by assumption) ?nr1_1
          case yr1_1 => (intro w_ hSw; (try dsimp only at hSw); go_simp; (try with_reducible rfl))
          try simp only [Act.put, List.setIfInBounds_toArray, List.set_cons_zero, List.set_cons_succ]
          refine wpAnyH_take (i := 2) (v := ?vr1_2) (Fr.take_at rfl) (by kernel_rfl) (by kernel_rfl) (by kernel_rfl) (fun _ _ _ h => h) (Or.inl ⟨by rfl, ?yr1_2⟩) (by assumption) ?nr1_2
          case yr1_2 => (intro w_ hSw; (try dsimp only at hSw); go_simp; (try with_reducible rfl))
          try simp only [Act.put, List.setIfInBounds_toArray, List.set_cons_zero, List.set_cons_succ]
          refine wpAnyH_take (i := 3) (v := ?vr1_3) (Fr.take_at rfl) (by kernel_rfl) (by kernel_rfl) (by kernel_rfl) (fun _ _ _ h => h) (Or.inl ⟨by rfl, ?yr1_3⟩) (by assumption) ?nr1_3
          case yr1_3 => (intro w_ hSw; (try dsimp only at hSw); go_simp; (try with_reducible rfl))
          try simp only [Act.put, List.setIfInBounds_toArray, List.set_cons_zero, List.set_cons_succ]
          refine wpAnyH_take (i := 4) (v := ?vr1_4) (Fr.take_at rfl) (by kernel_rfl) (by kernel_rfl) (by kernel_rfl) (fun _ _ _ h => h) (Or.inl ⟨by rfl, ?yr1_4⟩) (by assumption) ?nr1_4
          case yr1_4 => (intro w_ hSw; (try dsimp only at hSw); go_simp; (try with_reducible rfl))
          try simp only [Act.put, List.setIfInBounds_toArray, List.set_cons_zero, List.set_cons_succ]
          refine wpAnyH_take (i := 5) (v := ?vr1_5) (Fr.take_at rfl) (by kernel_rfl) (by kernel_rfl) (by kernel_rfl) (fun _ _ _ h => h) (Or.inl ⟨by rfl, ?yr1_5⟩) (by assumption) ?nr1_5
          case yr1_5 => (intro w_ hSw; (try dsimp only at hSw); go_simp; (try with_reducible rfl))
          try simp only [Act.put, List.setIfInBounds_toArray, List.set_cons_zero, List.set_cons_succ]
          refine wpAnyH_take (i := 6) (v := ?vr1_6) (Fr.take_at rfl) (by kernel_rfl) (by kernel_rfl) (by kernel_rfl) (fun _ _ _ h => h) (Or.inl ⟨by rfl, ?yr1_6⟩) (by assumption) ?nr1_6
          case yr1_6 => (intro w_ hSw; (try dsimp only at hSw); go_simp; (try with_reducible rfl))
          try simp only [Act.put, List.setIfInBounds_toArray, List.set_cons_zero, List.set_cons_succ]
          refine wpAnyH_take (i := 7) (v := ?vr1_7) (Fr.take_at rfl) (by kernel_rfl) (by kernel_rfl) (by kernel_rfl) (fun _ _ _ h => h) (Or.inl ⟨by rfl, ?yr1_7⟩) (by assumption) ?nr1_7
          case yr1_7 => (intro w_ hSw; (try dsimp only at hSw); go_simp; (try with_reducible rfl))
          try simp only [Act.put, List.setIfInBounds_toArray, List.set_cons_zero, List.set_cons_succ]
          refine wpAnyH_take (i := 8) (v := ?vr1_8) (Fr.take_at rfl) (by kernel_rfl) (by kernel_rfl) (by kernel_rfl) (fun _ _ _ h => h) (Or.inl ⟨by rfl, ?yr1_8⟩) (by assumption) ?nr1_8
          case yr1_8 => (intro w_ hSw; (try dsimp only at hSw); go_simp; (try with_reducible rfl))
          try simp only [Act.put, List.setIfInBounds_toArray, List.set_cons_zero, List.set_cons_succ]
          refine wpAnyH_done (by kernel_rfl) ?_ _
          go_wp2
          go_roundw
          case rel => exact ⟨j + 1, by omega, by go_num, HB.out.trans (below_drewN (Below.refl _ _) 1)⟩
          case measure => simp [intOf]; omega
        · obtain rfl : j = i := by omega
          have HB := Lib.hid hb
          clear hb
          go_wp2
          go_roundw
          case rel => exact ⟨j + 1, by omega, by go_num, HB.out⟩
          case measure => simp [intOf]; omega
    · have HB := Lib.hid hb
      clear hb
      go_wp2
      go_ret
      exact ⟨rfl, HB.out⟩
end Dr
end Go.Proofs.Ytljhedgcpbapdaa
