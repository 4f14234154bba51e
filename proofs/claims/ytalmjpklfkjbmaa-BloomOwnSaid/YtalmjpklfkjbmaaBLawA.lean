/-
  WHAT IS PROVED: what the law's cut and awake answer. CONDITIONS: the keys stand in memory as named.
-/
import Derived.Test.YtalmjpklfkjbmaaBRbd
namespace Go.Proofs.Ytalmjpklfkjbmaa
open Go Go.RowKit
namespace Bl
open Go.Proofs.Ytalmjpklfkjbmaa.Fr
def Yes (w : World) (e : Ending) (w' : World) : Prop := e = .returned (.bool true) ∧ Below w.heap.size w w'
theorem Yes.mk {w w' : World} (h : Below w.heap.size w w') : Yes w (.returned (.bool true)) w' := ⟨rfl, h⟩
/-- Keys as cells. -/
def kv (ks : List ByteArray) : List Value := ks.map Value.string
theorem kv_len (ks : List ByteArray) : (kv ks).length = ks.length := by simp [kv]
theorem kv_one (ks : List ByteArray) : ∀ u ∈ kv ks, u.oneCell' = true := fun u hu => by
  obtain ⟨s, _, rfl⟩ := List.mem_map.1 hu
  rfl
theorem kv_take (ks : List ByteArray) (k : Nat) : (kv ks).take k = kv (ks.take k) := by simp [kv]
/-- A new row of keys. -/
def KRet (w : World) (ks : List ByteArray) (e : Ending) (w' : World) : Prop := ∃ A m c, e = .returned (.slice A m c) ∧ ks.length = m ∧ m ≤ c ∧ w'.ownsRow w.heap.size 9 1 (.slice A m c) m (kv ks) ∧ Below w.heap.size w w'
section
variable {w : World} {A : Option Addr} {n c : Nat} {ks : List ByteArray}
theorem own_cap1 {base : Nat} {e : TypeId} {xs : List Value} (h : w.ownsRow base e 1 (.slice A n c) n xs) : n ≤ c := by
  obtain ⟨A', c', e, h1, _⟩ := own_shape h
  cases e
  exact h1
set_option maxRecDepth 100000 in
theorem cut_at {m : Nat} (hm : min n 200 = m) (hnc : n ≤ c) (hl : ks.length = m) (hr : Rd w A (kv ks)) :
    Calls Try.prog 9 #[.slice A n c] w (KRet w ks) := by
  obtain ⟨i0, hi, hz, hz1, hz2⟩ := info_parts info_str
  obtain ⟨hct, hct2⟩ := cut_to (P := Try.prog) 22 9 i0 Try.underlying22 rfl hi hz1 A n c m .i64 (m : Int) rfl (by omega)
  have m1 := mn (n : Int) 200 (m : Int) (by omega)
  have HL := Lib.hid hl
  have HR := Lib.hid hr
  have hm2 : m ≤ 200 := by omega
  clear hl hr hm
  go_enter Try.func9, Try.ntmps9
  go_wp2_with (at_builtin; refine wpList_app _ rfl (.tmp 3) (.tmp 8) _ rfl w.heap.size 9 i0 _ 16 Try.underlying22 hi hz hz1 hz2 rfl (.slice (some ⟨w.heap.size, 0, none⟩) 0 0) 0 [] rfl (World.ownsRow_lit w #[] 0 (Nat.le_refl _) (by simp [maxLen]) rfl) A m c (kv ks) rfl (by rw [kv_len]; exact HL.out) (HR.out.alloc _) (kv_one ks) m (Nat.zero_add _) (by unfold maxLen; omega) (by omega) (by simp) ?_; intro A1 c1 w1 hown1 hb1 _ _)
  go_ret
  exact ⟨A1, m, c1, rfl, HL.out, own_cap1 hown1, hown1, ((Below.refl _ _).alloc (Nat.le_refl _) _).trans hb1⟩
theorem cut_any (hl : ks.length = n) (hnc : n ≤ c) (hr : Rd w A (kv ks)) :
    Calls Try.prog 9 #[.slice A n c] w (KRet w (ks.take 200)) :=
  cut_at (m := min n 200) rfl hnc (by rw [List.length_take]; omega) (by rw [← kv_take]; exact hr.take 200)
def ka : List ByteArray := [⟨#[97]⟩]
theorem filt_a : filt (ka.map (·.toList)) 10 = [16, 4, 0, 0, 0, 16, 4, 65, 6] := by decide +kernel
theorem may_a : may [16, 4, 0, 0, 0, 16, 4, 65, 6] [97] = true := by decide +kernel
theorem tl_e : (⟨#[]⟩ : ByteArray).toList = [] := by rw [Lib.toList_data]
theorem tl_a : (⟨#[97]⟩ : ByteArray).toList = [97] := by rw [Lib.toList_data]
theorem hash_e : fnv [] = 2166136261 := rfl
theorem hash_a : fnv [97] = 3826002220 := by decide +kernel
set_option maxRecDepth 100000 in
theorem awake_any (w : World) : Calls Try.prog 8 #[] w (Yes w) := by
  have hB : ∀ W, Rd W (some ⟨w.heap.size, 0, none⟩) (ka.map Value.string) → Calls Try.prog 10 #[.slice (some ⟨w.heap.size, 0, none⟩) 1 1, .int .i64 10] W (MadeRet 5 W [16, 4, 0, 0, 0, 16, 4, 65, 6]) := fun W hr => by
    have := build_any (w := W) (A := some ⟨w.heap.size, 0, none⟩) (n := 1) (c := 1) (ks := ka) (per := 10) rfl hr (by intro s hs; simp [ka] at hs; subst hs; decide +kernel) (by omega) (by omega)
    rwa [filt_a] at this
  have h0 := fun W => hash_any ⟨#[]⟩ (by decide +kernel) W
  have h1 := fun W => hash_any ⟨#[97]⟩ (by decide +kernel) W
  simp only [tl_e, hash_e] at h0
  simp only [tl_a, hash_a] at h1
  have hM : ∀ W A c, Rd W A (bv [16, 4, 0, 0, 0, 16, 4, 65, 6]) → Calls Try.prog 14 #[.slice A 9 c, .string ⟨#[97]⟩] W (Yes W) := fun W A c hr => by
    have := may_any (w := W) (A := A) (n := 9) (c := c) (l := [16, 4, 0, 0, 0, 16, 4, 65, 6]) (s := ⟨#[97]⟩) rfl hr (by omega) (by decide +kernel)
    rw [tl_a, may_a] at this
    exact this
  have HB := Lib.hid hB
  have HM := Lib.hid hM
  have H0 := Lib.hid h0
  have H1 := Lib.hid h1
  clear hB hM h0 h1
  go_enter Try.func8, Try.ntmps8
  go_wp2_with (first
    | (go_at_call 10; refine (HB.out _ (Rd.block w 9 (0, 0) #[.string ⟨#[97]⟩])).mono ?_; rintro e w2 ⟨v, rfl, A2, m2, c2, rfl, hm2, hc2, hown2, hb2⟩; cases hm2; have hr2 := Rd.own hown2; have HR2 := Lib.hid hr2; obtain ⟨b2, o2, rfl, hbb, hcc⟩ := hr2.byte (i := 8) (by decide))
    | (go_at_call_of 12 (⟨#[]⟩ : ByteArray); refine (H0.out _).mono ?_; rintro e w3 ⟨rfl, rfl⟩)
    | (go_at_call_of 12 (⟨#[97]⟩ : ByteArray); refine (H1.out _).mono ?_; rintro e w3 ⟨rfl, rfl⟩)
    | (go_at_call 14; refine (HM.out _ _ _ HR2.out).mono ?_; rintro e w4 ⟨rfl, hb4⟩))
  go_ret
  exact Yes.mk ((((Below.refl _ _).alloc (Nat.le_refl _) _).trans (hb2.mono (by simp))).trans (hb4.mono (by have := hb2.size; simp at this; omega)))
end
end Bl
end Go.Proofs.Ytalmjpklfkjbmaa
