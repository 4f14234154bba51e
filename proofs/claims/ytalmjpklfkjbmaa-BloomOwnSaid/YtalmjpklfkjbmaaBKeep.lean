/-
  WHAT IS PROVED: BloomKeeps and BloomMay answer true. CONDITIONS: what came in stands in memory as named.
-/
import Derived.Test.YtalmjpklfkjbmaaBLawA
import Derived.Test.YtalmjpklfkjbmaaBPl2
namespace Go.Proofs.Ytalmjpklfkjbmaa
open Go Go.RowKit
namespace Bl
open Go.Proofs.Ytalmjpklfkjbmaa.Fr
section
variable {w : World} {A : Option Addr} {n c : Nat} {ks : List ByteArray} {per : Int}
set_option maxRecDepth 100000 in
theorem keeps_any (hl : ks.length = n) (hnc : n ≤ c) (hr : Rd w A (kv ks)) (hs : ∀ s ∈ ks, s.size ≤ maxLen) :
    Calls Try.prog 5 #[.slice A n c, .int .i64 per] w (Yes w) := by
  obtain ⟨ks2, hk2⟩ : ∃ ks2, ks2 = ks.take 200 := ⟨_, rfl⟩
  have hs2 : ∀ s ∈ ks2, s.size ≤ maxLen := fun s h => hs s (List.mem_of_mem_take (by rw [← hk2]; exact h))
  have hl2 : ks2.length ≤ 200 := by rw [hk2, List.length_take]; omega
  have hc := fun W hb => cut_any (w := W) (c := c) hl hnc (hr.below (w' := W) hb)
  rw [← hk2] at hc
  have hB : ∀ W A m c, ks2.length = m → m ≤ c → Rd W A (kv ks2) → Calls Try.prog 10 #[.slice A m c, .int .i64 per] W (MadeRet 5 W (filt (ks2.map (·.toList)) per)) := fun W A m c h1 h2 h3 => build_any h1 h3 hs2 (by omega) h2
  have hfl := filt_len (ks2.map (·.toList)) per
  have hsz := sizeOf_le (ks2.map (·.toList)).length per (by rw [List.length_map]; exact hl2)
  have hmk : ∀ s ∈ ks2, may (filt (ks2.map (·.toList)) per) s.toList = true := fun s h => may_keeps (by rw [List.length_map]; exact hl2) (List.mem_map.2 ⟨s, h, rfl⟩)
  obtain ⟨F, hF⟩ : ∃ F, F = filt (ks2.map (·.toList)) per := ⟨_, rfl⟩
  rw [← hF] at hB hfl hmk
  have hF9 : 9 ≤ F.length ∧ F.length ≤ 601 := by omega
  have hM : ∀ W A c (m : Nat) s, s ∈ ks2 → F.length = m → Rd W A (bv F) → Calls Try.prog 14 #[.slice A m c, .string s] W (Yes W) := fun W A c m s hk h1 h2 => by
    have := may_any (w := W) (A := A) (n := m) (c := c) (l := F) (s := s) h1 h2 (by omega) (hs2 s hk)
    rw [hmk s hk] at this
    exact this
  have HC := Lib.hid hc
  have HB := Lib.hid hB
  have HM := Lib.hid hM
  have HF9 := Lib.hid hF9
  have HL2 := Lib.hid hl2
  clear hl hr hs hk2 hs2 hl2 hc hB hfl hsz hmk hF hF9 hM
  go_enter Try.func5, Try.ntmps5
  go_wp2_with (first
    | (go_at_call 8; refine (awake_any w).mono ?_; rintro e w1 ⟨rfl, hb1⟩)
    | (go_at_call 9; refine (HC.out w1 hb1).mono ?_; rintro e w2 ⟨A2, m2, c2, rfl, hm2, hc2, hown2, hb2⟩; have HO2 := Lib.hid hown2; have HM2 := Lib.hid hm2; clear hm2 hown2)
    | (go_at_call 10; refine (HB.out w2 A2 m2 c2 HM2.out hc2 (Rd.own HO2.out)).mono ?_; rintro e w3 ⟨v, rfl, A3, m3, c3, rfl, hm3, hc3, hown3, hb3⟩; have HO3 := Lib.hid hown3; have HM3 := Lib.hid hm3; clear hm3 hown3))
  have hbw3 : Below w.heap.size w w3 := (hb1.trans (hb2.mono hb1.size)).trans (hb3.mono (hb1.trans (hb2.mono hb1.size)).size)
  have HR2 := Lib.hid ((Rd.own HO2.out).below hb3)
  have HR3 := Lib.hid (Rd.own HO3.out)
  have HW3 := Lib.hid hbw3
  have hm2 : m2 ≤ 200 := by have := HL2.out; have := HM2.out; omega
  have hm3 : 9 ≤ m3 ∧ m3 ≤ 601 := by have := HF9.out; have := HM3.out; omega
  obtain ⟨hm3, hm31⟩ := hm3
  clear hb1 hb2 hb3 hbw3 HO2 HO3
  go_loopw [17] (fun p wr => ∃ j : Nat, j ≤ m2 ∧ p = .int .i64 (j : Int) ∧ Hid (Below w3.heap.size w3 wr)) (fun p _ => m2 - (intOf p).toNat)
  case atStart => exact ⟨0, by omega, rfl, Lib.hid (Below.refl _ _)⟩
  case round =>
    obtain ⟨j, hj, rfl, HB3⟩ := hrel
    by_cases hlt : j < m2
    · obtain ⟨s, hs⟩ : ∃ s, ks2[j]? = some s := ⟨ks2[j]'(by have := HM2.out; omega), List.getElem?_eq_getElem _⟩
      obtain ⟨b, o, rfl, hb, hc0⟩ := HR2.out.at_ (i := j) (by rw [kv_len]; have := HM2.out; omega)
      have hc1 : wr.cell? ⟨b, o + j, none⟩ = some (.string s) := by
        refine (HB3.out.cell (p := ⟨b, o + j, none⟩) hb).trans (hc0.trans ?_)
        simp only [kv]
        rw [List.getElem_map, (List.getElem?_eq_some_iff.1 hs).2]
      have hmem := List.mem_of_getElem? hs
      have k1 : (j : Int) < (m2 : Int) := by omega
      have k2 : (0 : Int) ≤ (j : Int) := by omega
      clear hs hc0
      go_wp2_with (go_at_call 14; refine (HM.out wr A3 c3 m3 s hmem HM3.out (HR3.out.below HB3.out)).mono ?_; rintro e w5 ⟨rfl, hb5⟩)
      go_roundw
      case rel => exact ⟨j + 1, by omega, by simp, Lib.hid (HB3.out.trans (hb5.mono HB3.out.size))⟩
      case measure => simp [intOf]; omega
    · obtain rfl : j = m2 := by omega
      have k1 : ¬ (j : Int) < (j : Int) := by omega
      have k2 : (9 : Int) ≤ (m3 : Int) := by omega
      go_wp2
      go_ret
      exact Yes.mk (HW3.out.trans (HB3.out.mono HW3.out.size))
end
section
variable {P : Program} (w : World)
/-- append behind a guard that is met. -/
theorem wpList_appG {ops : Array Oper} {rest : List Oper} {o : Oper} {a : Act} {Q : Exit → Act → World → Prop} (hw : Region.wanted o (yielded ops a.tmps) = true) (s x : Operand) (t : TypeId)
    (ho : o.op = .call { callee := .builtin .append, args := #[s, x], argTypes := #[t, t] })
    (base : Nat) (e : TypeId) (i : TypeInfo) (z : Value) (bytes : Nat) (ht : P.underlying t = some (.slice e)) (hi : P.info? e = some i) (hz : i.zero = some z)
    (hsize : i.size = 1) (hby : i.bytes = bytes) (hzs : z.cells.size = 1)
    (v : Value) (n : Nat) (xs : List Value) (hs : a.eval s = v) (hown : w.ownsRow base e 1 v n xs)
    (A : Option Addr) (m c : Nat) (news : List Value) (hx : a.eval x = .slice A m c) (hl : news.length = m) (hr : Rd w A news) (h1 : ∀ u ∈ news, u.oneCell' = true)
    (N : Nat) (hN : n + m = N) (h63 : N ≤ maxLen) (hbytes : N * bytes ≤ 140737488355328) (hbase : base ≤ w.heap.size)
    (h : ∀ A' c' w', w'.ownsRow base e 1 (.slice A' N c') N (xs ++ news) → Below base w w' → w.grownBy w' v.ownBlock → ((Value.slice A' N c').ownBlock = v.ownBlock ∨ (Value.slice A' N c').ownBlock = some w.heap.size) → wpList P ops Q rest (a.put o.dst (.slice A' N c')) w') : wpList P ops Q (o :: rest) a w :=
  BigFrame.wpList_want hw fun _ hK => wp_app w s x t ho base e i z bytes ht hi hz hsize hby hzs v n xs hs hown A m c news hx hl hr h1 N hN h63 hbytes hbase fun A' c' w' h2 h3 h4 h5 => hK _ _ (h A' c' w' h2 h3 h4 h5)
end
section
variable {w : World} {A : Option Addr} {n c : Nat} {l : Bs} {s : ByteArray}
set_option maxRecDepth 100000 in
theorem mayl_any (hl : l.length = n) (hr : Rd w A (bv l)) (hn : n ≤ 140737488351232) (hs : s.size ≤ maxLen) :
    Calls Try.prog 4 #[.slice A n c, .string s] w (Yes w) := by
  obtain ⟨i0, hi, hz, hz1, hz2⟩ := info_parts info_u8
  have hM : ∀ W A c, Rd W A (bv l) → Calls Try.prog 14 #[.slice A n c, .string s] W fun e w' => e = .returned (.bool (may l s.toList)) ∧ Below W.heap.size W w' := fun W A c h => may_any hl h (by omega) hs
  have hM2 : ∀ W A c, Rd W A (bv l) → Calls Try.prog 15 #[.slice A n c, .string s] W fun e w' => e = .returned (.bool (may l s.toList)) ∧ Below W.heap.size W w' := fun W A c h => rmay_any hl h (by omega) hs
  obtain ⟨t, ht⟩ : ∃ t, t = may l s.toList := ⟨_, rfl⟩
  rw [← ht] at hM hM2
  have HM := Lib.hid hM
  have HM2 := Lib.hid hM2
  have HL := Lib.hid hl
  have HR := Lib.hid hr
  clear hM hM2 ht hl hr hs
  go_enter Try.func4, Try.ntmps4
  go_wp2_with (first
    | (go_at_call 8; refine (awake_any w).mono ?_; rintro e w1 ⟨rfl, hb1⟩)
    | (at_builtin; go_loud (refine wpList_appG _ (by rfl) (.tmp 7) (.tmp 8) _ rfl w1.heap.size 5 i0 _ 1 Try.underlying25 hi hz hz1 hz2 rfl (.slice (some ⟨w1.heap.size, 0, none⟩) 0 0) 0 [] rfl (World.ownsRow_lit w1 #[] 0 (Nat.le_refl _) (by simp [maxLen]) rfl) A n c (bv l) rfl (by rw [bv_length]; exact HL.out) ((HR.out.below hb1).alloc _) (bv_one l) n (Nat.zero_add _) (by unfold maxLen; omega) (by omega) (by simp) ?_; intro A2 c2 w2 hown2 hb2 _ _; have hb12 := ((Below.refl _ w1).alloc (Nat.le_refl _) (.cells #[] 5)).trans hb2; have HO2 := Lib.hid hown2; clear hown2 hb2))
    | (go_at_call 14; refine (HM.out w2 A2 c2 (Rd.own HO2.out)).mono ?_; rintro e w3 ⟨rfl, hb3⟩; have hb13 := hb1.trans ((hb12.trans (hb3.mono hb12.size)).mono hb1.size))
    | (go_at_call 15; refine (HM2.out w3 A c (HR.out.below hb13)).mono ?_; rintro e w4 ⟨rfl, hb4⟩))
  all_goals go_ret
  all_goals exact Yes.mk (hb13.trans (hb4.mono hb13.size))
end
end Bl
end Go.Proofs.Ytalmjpklfkjbmaa
