/-
  WHAT IS PROVED: (1) what the calls of both packages' Text, TakeText and Seal do, in whatever memory: their results by the plain functions of the text Frm, new memory alone. CONDITIONS: what comes in is no longer than 2^46; the table lies where it is laid (for frame's Seal). (2) the call of awake answers true in whatever memory holds the table, and makes new memory alone. CONDITION: the table lies where it is laid.
-/
import Derived.Test.YtadlhnjnhllpfaaDoorQWalkB
import Derived.Test.YtadlhnjnhllpfaaDoorQWalkC
import Derived.Test.YtadlhnjnhllpfaaDoorQFrm
import Derived.Lib.SlBytesConst
namespace Go.Proofs.YtadlhnjnhllpfaaDoor
open Go Go.RowKit
namespace Fr

set_option maxRecDepth 100000 in
theorem Ftext_any (s : ByteArray) (w : World) (hs : s.size ≤ 70368744177664) :
    Calls Tryd.prog 32 #[.string s] w (MadeRet 5 w (textOf s.data.toList)) := by
  obtain ⟨i0, hi, hz, hz1, hz2⟩ := info_parts info_u8
  have hsz : s.data.toList.length = s.size := rfl
  have hlen := len_enc10 (n := s.size) (by omega)
  have HZ := Lib.hid hsz
  clear hsz
  go_enter Tryd.func32, Tryd.ntmps32
  go_wp2_with (first
    | (go_at_call 28; refine (Fuint_any _ _ (by omega)).mono ?_; rintro e w1 ⟨v, rfl, A1, m1, c1, rfl, hm1, hc1, hown1, hb1⟩; have HM := Lib.hid hm1; clear hm1)
    | (at_builtin; refine wpList_apps _ rfl (.tmp 6) (.tmp 7) _ _ rfl w.heap.size 5 i0 Tryd.underlying25 Tryd.underlying9 hi hz hz1 hz2 (.slice A1 m1 c1) m1 (bv (enc s.size)) rfl hown1 s rfl (m1 + s.size) rfl (by have := HM.out; unfold maxLen; omega) (by have := HM.out; omega) hb1.size ?_; intro A2 c2 w2 hown2 hb2))
  go_ret
  refine MadeRet.mk (n := m1 + s.size) ?_ ?_ (hb1.trans hb2)
  · unfold textOf; rw [List.length_append, HZ.out, HM.out]
  · unfold textOf; rw [HZ.out, bv_append]; exact hown2

set_option maxRecDepth 100000 in
theorem Rtext_any (s : ByteArray) (w : World) (hs : s.size ≤ 70368744177664) :
    Calls Tryd.prog 41 #[.string s] w (MadeRet 5 w (textOf s.data.toList)) := by
  obtain ⟨i0, hi, hz, hz1, hz2⟩ := info_parts info_u8
  have hsz : s.data.toList.length = s.size := rfl
  have hlen := len_enc10 (n := s.size) (by omega)
  have HZ := Lib.hid hsz
  clear hsz
  go_enter Tryd.func41, Tryd.ntmps41
  go_wp2_with (first
    | (go_at_call 42; refine (Ruint_any _ _ (by omega)).mono ?_; rintro e w1 ⟨v, rfl, A1, m1, c1, rfl, hm1, hc1, hown1, hb1⟩; have HM := Lib.hid hm1; clear hm1)
    | (at_builtin; refine wpList_apps _ rfl (.tmp 6) (.tmp 7) _ _ rfl w.heap.size 5 i0 Tryd.underlying25 Tryd.underlying9 hi hz hz1 hz2 (.slice A1 m1 c1) m1 (bv (enc s.size)) rfl hown1 s rfl (m1 + s.size) rfl (by have := HM.out; unfold maxLen; omega) (by have := HM.out; omega) hb1.size ?_; intro A2 c2 w2 hown2 hb2))
  go_ret
  refine MadeRet.mk (n := m1 + s.size) ?_ ?_ (hb1.trans hb2)
  · unfold textOf; rw [List.length_append, HZ.out, HM.out]
  · unfold textOf; rw [HZ.out, bv_append]; exact hown2

set_option maxRecDepth 100000 in
theorem FtakeText_any (A : Option Addr) (n c : Nat) (l : List UInt8) (w : World) (hl : l.length = n) (hr : Rd w A (bv l)) (hnc : n ≤ c) (hn : n ≤ 140737488355328) :
    Calls Tryd.prog 90 #[.slice A n c] w fun e w' => e = .returned (.tuple #[.string ⟨(takeText l).1.toArray⟩, .int .i64 ((takeText l).2 : Nat)]) ∧ w = w' := by
  obtain ⟨i0, hi, hz, hz1, hz2⟩ := info_parts info_u8
  have hds := dec_size l
  have hdl := dec_lt l
  obtain ⟨q, hq⟩ : ∃ q, q = dec l := ⟨_, rfl⟩
  have hft := Ftake_any A n c l w hl hr hn
  rw [← hq] at hft hds hdl
  have hT : takeText l = if q.2 = 0 ∨ q.1 > n - q.2 then ([], 0) else ((l.drop q.2).take q.1, q.2 + q.1) := by unfold takeText; rw [← hq, hl]
  obtain ⟨v, k⟩ := q
  simp only at hft hds hdl hT
  have HT := Lib.hid hT
  have HQ := Lib.hid hq
  have HF := Lib.hid hft
  have HD := Lib.hid hdl
  have HL := Lib.hid hl
  have HR := Lib.hid hr
  obtain ⟨hkn, hk10⟩ := hds
  rw [hl] at hkn
  clear hT hq hft hdl hl hr
  by_cases hk0 : k = 0
  · subst hk0
    go_enter Tryd.func90, Tryd.ntmps90
    go_wp2_with (go_at_call 87; refine HF.out.mono ?_; rintro e w1 ⟨rfl, rfl⟩)
    go_ret2
    exact ⟨by rw [HT.out]; simp, rfl⟩
  · have e1 : ((k : Int) == 0) = false := by rw [beq_eq_false_iff_ne]; omega
    by_cases hv : n - k < v
    · have hv' : (n : Int) - (k : Int) < (v : Int) := by omega
      go_enter Tryd.func90, Tryd.ntmps90
      go_wp2_with (go_at_call 87; refine HF.out.mono ?_; rintro e w1 ⟨rfl, rfl⟩)
      go_ret2
      exact ⟨by rw [HT.out, if_pos (.inr hv)]; rfl, rfl⟩
    · have hv' : ¬ (n : Int) - (k : Int) < (v : Int) := by omega
      obtain ⟨A', ⟨hc1, hc2⟩, hc3⟩ := cut_lh (P := Tryd.prog) 25 5 i0 Tryd.underlying25 rfl hi hz1 A n c k (k + v) v (c - k) .i64 .i64 (k : Int) ((k : Int) + (v : Int)) rfl rfl rfl (by omega) (by omega)
      have hrd : Rd w A' (bv ((l.drop k).take v)) := by rw [← bv_take, ← bv_drop]; exact (hc3 w _ HR.out (by rw [bv_length, HL.out]; exact hnc)).take v
      have hst := run_str (P := Tryd.prog) w 25 9 5 Tryd.underlying25 Tryd.underlying5 Tryd.underlying9 A' v (c - k) _ (by rw [List.length_take, List.length_drop, HL.out]; omega) hrd
      clear hc3 hrd
      go_enter Tryd.func90, Tryd.ntmps90
      go_wp2_with (go_at_call 87; refine HF.out.mono ?_; rintro e w1 ⟨rfl, rfl⟩)
      go_ret2
      exact ⟨by rw [HT.out, if_neg (by omega)]; rfl, rfl⟩

set_option maxRecDepth 100000 in
theorem RtakeText_any (A : Option Addr) (n c : Nat) (l : List UInt8) (w : World) (hl : l.length = n) (hr : Rd w A (bv l)) (hnc : n ≤ c) (hn : n ≤ 140737488355328) :
    Calls Tryd.prog 68 #[.slice A n c] w fun e w' => e = .returned (.tuple #[.string ⟨(takeText l).1.toArray⟩, .int .i64 ((takeText l).2 : Nat)]) ∧ Below w.heap.size w w' := by
  obtain ⟨i0, hi, hz, hz1, hz2⟩ := info_parts info_u8
  have hds := dec_size l
  have hdl := dec_lt l
  obtain ⟨q, hq⟩ : ∃ q, q = dec l := ⟨_, rfl⟩
  have hft := Rtake_any A n c l w hl hr hnc hn
  rw [← hq] at hft hds hdl
  have hT : takeText l = if q.2 = 0 ∨ q.1 > n - q.2 then ([], 0) else ((l.drop q.2).take q.1, q.2 + q.1) := by unfold takeText; rw [← hq, hl]
  obtain ⟨v, k⟩ := q
  simp only at hft hds hdl hT
  have HT := Lib.hid hT
  have HQ := Lib.hid hq
  have HF := Lib.hid hft
  have HD := Lib.hid hdl
  have HL := Lib.hid hl
  have HR := Lib.hid hr
  obtain ⟨hkn, hk10⟩ := hds
  rw [hl] at hkn
  clear hT hq hft hdl hl hr
  by_cases hk0 : k = 0
  · subst hk0
    go_enter Tryd.func68, Tryd.ntmps68
    go_wp2_with (go_at_call 69; refine HF.out.mono ?_; rintro e w1 ⟨rfl, hb1⟩)
    go_ret2
    exact ⟨by rw [HT.out]; simp, hb1⟩
  · have e1 : ((k : Int) == 0) = false := by rw [beq_eq_false_iff_ne]; omega
    by_cases hvn : n < v
    · go_enter Tryd.func68, Tryd.ntmps68
      go_wp2_with (go_at_call 69; refine HF.out.mono ?_; rintro e w1 ⟨rfl, hb1⟩)
      go_ret2
      exact ⟨by rw [HT.out, if_pos (.inr (by omega))]; rfl, hb1⟩
    · by_cases hv : n - k < v
      · have hv' : (n : Int) - (k : Int) < (v : Int) := by omega
        go_enter Tryd.func68, Tryd.ntmps68
        go_wp2_with (go_at_call 69; refine HF.out.mono ?_; rintro e w1 ⟨rfl, hb1⟩)
        go_ret2
        exact ⟨by rw [HT.out, if_pos (.inr hv)]; rfl, hb1⟩
      · have hv' : ¬ (n : Int) - (k : Int) < (v : Int) := by omega
        obtain ⟨A', ⟨hc1, hc2⟩, hc3⟩ := cut_lh (P := Tryd.prog) 25 5 i0 Tryd.underlying25 rfl hi hz1 A n c k (k + v) v (c - k) .i64 .i64 (k : Int) ((k : Int) + (v : Int)) rfl rfl rfl (by omega) (by omega)
        have hrd : Rd w A' (bv ((l.drop k).take v)) := by rw [← bv_take, ← bv_drop]; exact (hc3 w _ HR.out (by rw [bv_length, HL.out]; exact hnc)).take v
        have hst := fun (W : World) (hW : Below w.heap.size w W) => run_str (P := Tryd.prog) W 25 9 5 Tryd.underlying25 Tryd.underlying5 Tryd.underlying9 A' v (c - k) _ (by rw [List.length_take, List.length_drop, HL.out]; omega) (hrd.below hW)
        have HS := Lib.hid hst
        clear hc3 hrd hst
        go_enter Tryd.func68, Tryd.ntmps68
        go_wp2_with (go_at_call 69; refine HF.out.mono ?_; rintro e w1 ⟨rfl, hb1⟩; have hs1 := HS.out w1 hb1)
        go_ret2
        exact ⟨by rw [HT.out, if_neg (by omega)]; rfl, hb1⟩

/-- What a Seal that answers OK leaves. -/
def SealRet (E : TypeId) (w : World) (l : List UInt8) (e : Ending) (w' : World) : Prop := ∃ v, e = .returned (.tuple #[v, .int .i64 0]) ∧ Made E w w' (sealOf l) v
theorem SealRet.mk {E : TypeId} {w w' : World} {l : List UInt8} {v : Value} {n : Nat} (hl : (sealOf l).length = n) (h : w'.ownsRow w.heap.size E 1 v n (bv (sealOf l))) (hb : Below w.heap.size w w') : SealRet E w l (.returned (.tuple #[v, .int .i64 0])) w' := by
  obtain ⟨A, c, rfl, h1, _⟩ := own_shape h
  exact ⟨_, rfl, A, n, c, rfl, hl, h1, h, hb⟩

set_option maxRecDepth 100000 in
theorem Fseal_no (A : Option Addr) (n c : Nat) (w : World) (hn : 4096 < n) :
    Calls Tryd.prog 59 #[.slice A n c] w fun e w' => e = .returned (.tuple #[.slice none 0 0, .int .i64 3]) ∧ w = w' := by
  go_enter Tryd.func59, Tryd.ntmps59
  go_wp2
  go_ret2
  exact ⟨rfl, rfl⟩

theorem shr_cast (S j : Nat) : (S : Int) / 2 ^ (8 * j) % 256 = ((S / 256 ^ j % 256 : Nat) : Int) := by
  rw [div_cast, pow256]; omega

set_option maxRecDepth 100000 in
theorem Fseal_yes (A : Option Addr) (n c : Nat) (l : List UInt8) (w : World) (hl : l.length = n) (hr : Rd w A (bv l)) (hn : n ≤ 4096) (ht : Tab w) :
    Calls Tryd.prog 59 #[.slice A n c] w (SealRet 5 w l) := by
  obtain ⟨i0, hi, hz, hz1, hz2⟩ := info_parts info_u8
  have hlen := len_enc2 hn
  obtain ⟨S, hS⟩ : ∃ S, S = crc l := ⟨_, rfl⟩
  have hS2 : S < 4294967296 := by rw [hS]; exact crc_lt l
  have HS := Lib.hid hS
  have HL := Lib.hid hl
  have HR := Lib.hid hr
  have HT := Lib.hid ht
  clear hS hl hr ht
  go_enter Tryd.func59, Tryd.ntmps59
  go_wp2_with (first
    | (go_at_call 28; refine (Fuint_any _ _ (by omega)).mono ?_; rintro e w1 ⟨v, rfl, A1, m1, c1, rfl, hm1, hc1, hown1, hb1⟩; have HM := Lib.hid hm1; clear hm1)
    | (go_at_call 76; refine (Fsum_any A n c l w1 HL.out (HR.out.below hb1) (by omega) (HT.out.below hb1)).mono ?_; rintro e w2 ⟨rfl, rfl⟩; rw [← HS.out]))
  go_loopw [4, 16] (fun v i wr => ∃ (j k c : Nat) (A : Option Addr), j ≤ 4 ∧ i = .int .i64 j ∧ v = .slice A k c ∧ k = m1 + j ∧ wr.ownsRow w.heap.size 5 1 (.slice A k c) k (bv (enc n ++ (le4 S).take j)) ∧ Below w.heap.size w wr) (fun _ i _ => 4 - (intOf i).toNat)
  case atStart => exact ⟨0, m1, c1, A1, by omega, rfl, rfl, rfl, by rw [List.take_zero, List.append_nil]; exact hown1, hb1⟩
  case round =>
    obtain ⟨j, k, c', A', hj, rfl, rfl, hk, hown, hb⟩ := hrel
    have hk14 : k ≤ 14 := by have := HM.out; omega
    have HK := Lib.hid hk
    clear hk
    by_cases hj4 : j < 4
    · have hsn := le4_take_succ S hj4
      have HSN := Lib.hid hsn
      clear hsn
      go_wp2_with (at_builtin; refine wpList_app _ rfl (.tmp 19) (.tmp 25) _ rfl w.heap.size 5 i0 _ 1 Tryd.underlying25 hi hz hz1 hz2 rfl (.slice A' k c') k (bv (enc n ++ (le4 S).take j)) rfl (hown.alloc _) (some ⟨wr.heap.size, 0, none⟩) 1 1 [_] rfl rfl (Rd.one _ _ _ _ _ rfl) (by intro u hu; simp at hu; subst hu; rfl) (k + 1) rfl (by unfold maxLen; omega) (by omega) (by have := hb.size; simp; omega) ?_; intro A2 c2 w2 hown2 hb2 _ _)
      go_roundw
      case rel =>
        refine ⟨j + 1, k + 1, c2, A2, by omega, by go_num, rfl, by have := HK.out; omega, ?_, (hb.trans ((Below.refl _ _).alloc hb.size _)).trans hb2⟩
        rw [shr_cast, bv_snoc _ (by omega), List.append_assoc, ← HSN.out] at hown2
        exact hown2
      case measure => simp [intOf]; omega
    · obtain rfl : j = 4 := by omega
      go_wp2_with (at_builtin; refine wpList_app _ rfl (.tmp 28) (.tmp 29) _ rfl w.heap.size 5 i0 _ 1 Tryd.underlying25 hi hz hz1 hz2 rfl (.slice A' k c') k (bv (enc n ++ (le4 S).take 4)) rfl hown A n c (bv l) rfl (by rw [bv_length]; exact HL.out) (HR.out.below hb) (bv_one l) (k + n) rfl (by unfold maxLen; omega) (by omega) hb.size ?_; intro A2 c2 w2 hown2 hb2 _ _)
      go_ret2
      refine SealRet.mk (n := k + n) ?_ ?_ (hb.trans hb2)
      · rw [sealOf_length, HL.out, HM.out, HK.out]
      · unfold sealOf
        rw [HL.out, ← HS.out, bv_append]
        exact hown2
/-- Four bytes as the reference writes them. -/
theorem le4_bv {S : Nat} (_hS : S < 4294967296) : bv (le4 S) = [.int .u8 ((S : Int) % 256), .int .u8 ((S : Int) / 256 % 256), .int .u8 ((S : Int) / 65536 % 256), .int .u8 ((S : Int) / 16777216)] := by
  have e0 : ((S % 256 : Nat) : Int) = (S : Int) % 256 := by omega
  have e1 : ((S / 256 % 256 : Nat) : Int) = (S : Int) / 256 % 256 := by omega
  have e2 : ((S / 65536 % 256 : Nat) : Int) = (S : Int) / 65536 % 256 := by omega
  have e3 : ((S / 16777216 % 256 : Nat) : Int) = (S : Int) / 16777216 := by omega
  simp only [le4, bv, List.map_cons, List.map_nil]
  rw [ofNat_toNat (by omega), ofNat_toNat (by omega), ofNat_toNat (by omega), ofNat_toNat (by omega), e0, e1, e2, e3]
theorem le4_rd {S : Nat} (hS : S < 4294967296) (t : TypeId) (W : World) :
    Rd (W.alloc (.cells #[.int .u8 ((S : Int) % 256), .int .u8 ((S : Int) / 256 % 256), .int .u8 ((S : Int) / 65536 % 256), .int .u8 ((S : Int) / 16777216)] t)) (some ⟨W.heap.size, 0, none⟩) (bv (le4 S)) := by
  rw [le4_bv hS]
  exact Rd.block W t (0, 0) #[.int .u8 ((S : Int) % 256), .int .u8 ((S : Int) / 256 % 256), .int .u8 ((S : Int) / 65536 % 256), .int .u8 ((S : Int) / 16777216)]

set_option maxRecDepth 100000 in
theorem Rseal_any (A : Option Addr) (n c : Nat) (l : List UInt8) (w : World) (hl : l.length = n) (hr : Rd w A (bv l)) (hn : n ≤ 70368744177664) :
    Calls Tryd.prog 40 #[.slice A n c] w (MadeRet 5 w (sealOf l)) := by
  obtain ⟨i0, hi, hz, hz1, hz2⟩ := info_parts info_u8
  have hlen := len_enc10 (n := n) (by omega)
  obtain ⟨S, hS⟩ : ∃ S, S = crc l := ⟨_, rfl⟩
  have hS2 : S < 4294967296 := by rw [hS]; exact crc_lt l
  have hle := le4_rd hS2 5
  have HLE := Lib.hid hle
  have HS := Lib.hid hS
  have HL := Lib.hid hl
  have HR := Lib.hid hr
  have hrs := Rsum_any A n c l w hl hr (by omega)
  rw [← hS] at hrs
  have HRS := Lib.hid hrs
  clear hS hl hr hle hrs
  go_enter Tryd.func40, Tryd.ntmps40
  go_wp2_with (first
    | (go_at_call 42; refine (Ruint_any _ _ (by omega)).mono ?_; rintro e w1 ⟨v, rfl, A1, m1, c1, rfl, hm1, hc1, hown1, hb1⟩; have HM := Lib.hid hm1; clear hm1)
    | (go_at_call 63; refine HRS.out.mono ?_; rintro e w2 ⟨rfl, rfl⟩)
    | (at_builtin; refine wpList_app _ rfl (.tmp 10) (.tmp 25) _ rfl w.heap.size 5 i0 _ 1 Tryd.underlying25 hi hz hz1 hz2 rfl (.slice A1 m1 c1) m1 (bv (enc n)) rfl (hown1.alloc _) (some ⟨w1.heap.size, 0, none⟩) 4 4 (bv (le4 S)) rfl rfl (HLE.out w1) (bv_one _) (m1 + 4) rfl (by have := HM.out; unfold maxLen; omega) (by have := HM.out; omega) (by have := hb1.size; simp; omega) ?_; intro A2 c2 w2 hown2 hb2 _ _)
    | (at_builtin; refine wpList_app _ rfl (.tmp 27) (.tmp 28) _ rfl w.heap.size 5 i0 _ 1 Tryd.underlying25 hi hz hz1 hz2 rfl (.slice A2 (m1 + 4) c2) (m1 + 4) (bv (enc n) ++ bv (le4 S)) rfl hown2 A n c (bv l) rfl (by rw [bv_length]; exact HL.out) (HR.out.below ((hb1.trans ((Below.refl _ _).alloc hb1.size _)).trans hb2)) (bv_one l) (m1 + 4 + n) rfl (by have := HM.out; unfold maxLen; omega) (by have := HM.out; omega) ((hb1.trans ((Below.refl _ _).alloc hb1.size _)).trans hb2).size ?_; intro A3 c3 w3 hown3 hb3 _ _))
  go_ret
  refine MadeRet.mk (n := m1 + 4 + n) ?_ ?_ (((hb1.trans ((Below.refl _ _).alloc hb1.size _)).trans hb2).trans hb3)
  · rw [sealOf_length, HL.out, HM.out]
  · unfold sealOf
    rw [HL.out, ← HS.out, bv_append, bv_append]
    exact hown3
end Fr
end Go.Proofs.YtadlhnjnhllpfaaDoor
namespace Go.Proofs.YtadlhnjnhllpfaaDoor
open Go Go.RowKit
namespace Fr

theorem enc_300 : enc 300 = [172, 2] := by rw [enc_ge (by omega), enc_lt (by omega)]; rfl
theorem dec_300 : dec [172, 2, 9] = (300, 2) := by
  have h := dec_enc (n := 300) (by omega) [9]
  rw [enc_300] at h
  exact h
theorem seal_nil : sealOf [] = [0, 0, 0, 0, 0] := by
  unfold sealOf
  rw [show ([] : List UInt8).length = 0 from rfl, enc_lt (by omega), show crc [] = 0 by decide]
  rfl
theorem text_ab : textOf [97, 98] = [2, 97, 98] := by
  unfold textOf
  rw [show [(97 : UInt8), 98].length = 2 from rfl, enc_lt (by omega)]
  rfl
def nine : List UInt8 := [49, 50, 51, 52, 53, 54, 55, 56, 57]
theorem crc_nine : crc nine = 3421780262 := by decide +kernel

def Yes (w : World) (e : Ending) (w' : World) : Prop := e = .returned (.bool true) ∧ Below w.heap.size w w'
set_option maxRecDepth 100000 in
theorem Yes.mk {w w' : World} (h : Below w.heap.size w w') : Yes w (.returned (.bool true)) w' := ⟨rfl, h⟩

set_option maxRecDepth 100000 in
theorem Fseal_nil (w : World) (ht : Tab w) : Calls Tryd.prog 59 #[.slice none 0 0] w fun e w' => ∃ v, e = .returned (.tuple #[v, .int .i64 0]) ∧ Made 5 w w' [0, 0, 0, 0, 0] v := by
  have h := Fseal_yes none 0 0 [] w rfl Rd.nil (by omega) ht
  unfold SealRet at h
  rw [seal_nil] at h
  exact h
set_option maxRecDepth 100000 in
theorem Ftext_ab (w : World) : Calls Tryd.prog 32 #[.string ⟨#[97, 98]⟩] w fun e w' => ∃ v, e = .returned v ∧ Made 5 w w' [2, 97, 98] v := by
  have h := Ftext_any ⟨#[97, 98]⟩ w (by decide)
  unfold MadeRet at h
  rw [show (⟨#[97, 98]⟩ : ByteArray).data.toList = [97, 98] from rfl, text_ab] at h
  exact h
set_option maxRecDepth 100000 in
theorem Fsum_nine (w : World) (A : Option Addr) (c : Nat) (hr : Rd w A (bv nine)) (ht : Tab w) : Calls Tryd.prog 76 #[.slice A 9 c] w fun e w' => e = .returned (.int .u32 3421780262) ∧ w = w' := by
  have h := Fsum_any A 9 c nine w rfl hr (by omega) ht
  rw [crc_nine] at h
  exact h
theorem rd_nine (w : World) (fr : Nat × Nat) : Rd (w.alloc (.cells #[.int .u8 49, .int .u8 50, .int .u8 51, .int .u8 52, .int .u8 53, .int .u8 54, .int .u8 55, .int .u8 56, .int .u8 57] 5 fr)) (some ⟨w.heap.size, 0, none⟩) (bv nine) :=
  Rd.block w 5 fr #[.int .u8 49, .int .u8 50, .int .u8 51, .int .u8 52, .int .u8 53, .int .u8 54, .int .u8 55, .int .u8 56, .int .u8 57]

end Fr
end Go.Proofs.YtadlhnjnhllpfaaDoor
