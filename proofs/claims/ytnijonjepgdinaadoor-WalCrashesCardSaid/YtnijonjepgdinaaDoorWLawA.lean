/-
  WHAT IS PROVED: what the law's cut answers: a payload's first bytes, in new memory. CONDITIONS: the slice that comes in reads as the bytes that are named.
-/
import Derived.Test.YtnijonjepgdinaaDoorWalkA
namespace Go.Proofs.YtnijonjepgdinaaDoor
open Go Go.RowKit Go.Maps Go.Proofs.YtnijonjepgdinaaDoor.Fr
namespace Wl

theorem rd_take {w : World} {A : Option Addr} {l : List UInt8} (h : Rd w A (bv l)) (k : Nat) : Rd w A (bv (l.take k)) := by
  rw [← bv_take]
  exact h.take k
theorem take_len {l : List UInt8} {n : Nat} (h : l.length = n) (k : Nat) : (l.take k).length = min n k := by
  rw [List.length_take, h]
  omega
set_option maxRecDepth 100000 in
theorem cut_long (A : Option Addr) (n c : Nat) (s : List UInt8) (w : World) (hnc : n ≤ c) (h7 : 700 < n) (hl : s.length = 700) (hr : Rd w A (bv s)) :
    Calls Tryd.prog 15 #[.slice A n c] w (MadeRet 5 w s) := by
  obtain ⟨i0, hi, hz, hz1, hz2⟩ := info_parts info_u8
  have e7 : (700 : Int) < (n : Int) := by omega
  have HL := Lib.hid hl
  have HR := Lib.hid hr
  clear hl hr
  go_enter Tryd.func15, Tryd.ntmps15
  go_wp2_with (at_builtin; refine wpList_app _ rfl (.tmp 3) (.tmp 8) _ rfl w.heap.size 5 i0 _ 1 Tryd.underlying42 hi hz hz1 hz2 rfl (.slice (some ⟨w.heap.size, 0, none⟩) 0 0) 0 [] rfl (World.ownsRow_lit w #[] 0 (Nat.le_refl _) (by simp [maxLen]) rfl) A 700 c (bv s) rfl (by rw [bv_length]; exact HL.out) (HR.out.alloc _) (bv_one s) 700 (Nat.zero_add _) (by unfold maxLen; omega) (by omega) (by simp) ?_; intro A1 c1 w1 hown1 hb1 _ _)
  go_ret
  exact MadeRet.mk HL.out hown1 (((Below.refl _ _).alloc (Nat.le_refl _) _).trans hb1)
set_option maxRecDepth 100000 in
theorem cut_short (A : Option Addr) (n c : Nat) (s : List UInt8) (w : World) (hnc : n ≤ c) (h7 : n ≤ 700) (hl : s.length = n) (hr : Rd w A (bv s)) :
    Calls Tryd.prog 15 #[.slice A n c] w (MadeRet 5 w s) := by
  obtain ⟨i0, hi, hz, hz1, hz2⟩ := info_parts info_u8
  have e7 : ¬ (700 : Int) < (n : Int) := by omega
  have HL := Lib.hid hl
  have HR := Lib.hid hr
  clear hl hr
  go_enter Tryd.func15, Tryd.ntmps15
  go_wp2_with (at_builtin; refine wpList_app _ rfl (.tmp 3) (.tmp 8) _ rfl w.heap.size 5 i0 _ 1 Tryd.underlying42 hi hz hz1 hz2 rfl (.slice (some ⟨w.heap.size, 0, none⟩) 0 0) 0 [] rfl (World.ownsRow_lit w #[] 0 (Nat.le_refl _) (by simp [maxLen]) rfl) A n c (bv s) rfl (by rw [bv_length]; exact HL.out) (HR.out.alloc _) (bv_one s) n (Nat.zero_add _) (by unfold maxLen; omega) (by omega) (by simp) ?_; intro A1 c1 w1 hown1 hb1 _ _)
  go_ret
  exact MadeRet.mk HL.out hown1 (((Below.refl _ _).alloc (Nat.le_refl _) _).trans hb1)
theorem cut_any (A : Option Addr) (n c : Nat) (l : List UInt8) (w : World) (hl : l.length = n) (hnc : n ≤ c) (hr : Rd w A (bv l)) :
    Calls Tryd.prog 15 #[.slice A n c] w (MadeRet 5 w (l.take 700)) := by
  have h1 := take_len hl 700
  have h2 := rd_take hr 700
  obtain ⟨s, hs⟩ : ∃ s, s = l.take 700 := ⟨_, rfl⟩
  rw [← hs] at h1 h2 ⊢
  rcases Nat.lt_or_ge 700 n with h | h
  · exact cut_long A n c s w hnc h (by omega) h2
  · exact cut_short A n c s w hnc h (by omega) h2

end Wl
end Go.Proofs.YtnijonjepgdinaaDoor
