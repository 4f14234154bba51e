/-
  WHAT IS PROVED: the call of FrameTakes answers true in whatever memory holds the table, and makes new memory alone. CONDITIONS: the slice reads as the bytes that are named and has at most 1048576; the table lies where it is laid.
-/
import Derived.Test.YtjpimbbdjdlelaaDoorWalkH
namespace Go.Proofs.YtjpimbbdjdlelaaDoor
open Go Go.RowKit
namespace Fr

set_option maxRecDepth 100000 in
set_option maxHeartbeats 1600000 in
theorem takes_walk (A : Option Addr) (n c : Nat) (l : List UInt8) (w : World) (hl : l.length = n) (hnc : n ≤ c) (hr : Rd w A (bv l)) (hn : n ≤ 1048576) (ht : Tab w) :
    Calls Tryd.prog 7 #[.slice A n c] w (Yes w) := by
  have HL := Lib.hid hl
  have HR := Lib.hid hr
  have HT := Lib.hid ht
  have hcs := fun (W : World) => run_str (P := Tryd.prog) W 23 9 5 Tryd.underlying23 Tryd.underlying5 Tryd.underlying9
  have HCS := Lib.hid hcs
  obtain ⟨z, hz⟩ : ∃ z, z = (takeF l).2 := ⟨_, rfl⟩
  obtain ⟨p, hp⟩ : ∃ p, p = (takeF l).1 := ⟨_, rfl⟩
  obtain ⟨sn, hsn⟩ : ∃ sn, sn = (scan l).2 := ⟨_, rfl⟩
  obtain ⟨sl, hsl⟩ : ∃ sl, sl = (scan l).1 := ⟨_, rfl⟩
  have hslen : sl.length ≤ n := by
    have h := scan_len l.length l (Nat.le_refl _)
    rw [hsl]; omega
  have hff := takeF_pos l
  rw [← hz] at hff
  have htf := fun (A : Option Addr) (c : Nat) (W : World) (h1 : Rd W A (bv l)) (h2 : n ≤ c) (h3 : Tab W) => Ftakef_any A n c l W hl h1 h2 (by omega) h3
  have htr := fun (A : Option Addr) (c : Nat) (W : World) (h1 : Rd W A (bv l)) (h2 : n ≤ c) => Rtakef_any A n c l W hl h1 h2 (by omega)
  have hsf := fun (A : Option Addr) (c : Nat) (W : World) (h1 : Rd W A (bv l)) (h2 : n ≤ c) (h3 : Tab W) => Fscan_any A n c l W hl h1 h2 (by omega) h3
  have hsr := fun (A : Option Addr) (c : Nat) (W : World) (h1 : Rd W A (bv l)) (h2 : n ≤ c) => Rscan_any A n c l W hl h1 h2 (by omega)
  unfold TakeRet at htf
  unfold TakeRef at htr
  unfold ScanRet at hsf hsr
  rw [← hz, ← hp] at htf htr
  rw [← hsn, ← hsl] at hsf hsr
  have HTF := Lib.hid htf
  have HTR := Lib.hid htr
  have HSF := Lib.hid hsf
  have HSR := Lib.hid hsr
  by_cases hf : isFrame l = true
  · rw [hf] at hff htf
    have HTF2 := Lib.hid htf
    have hz1 : (0 : Int) < (z : Int) := by
      have := of_decide_eq_true hff.symm
      omega
    clear hl hr ht hcs hz hp hsn hsl htr hsf hsr hf htf hff HTF
    have hz2 : decide ((0 : Int) < (z : Int)) = true := decide_eq_true hz1
    go_enter Tryd.func7, Tryd.ntmps7
    go_wp2_with (first
      | (go_at_call 11; refine (awake_any w HT.out).mono ?_; rintro e w1 ⟨rfl, hb1⟩)
      | (go_at_call 14; ((with_reducible refine (own_any A n c l w1 HL.out (HR.out.below hb1) (by omega)).mono ?_); rintro e w2 ⟨v, rfl, A2, m2, c2, rfl, hm2, hc2, hown2, hb2⟩; obtain rfl : m2 = n := hm2.symm.trans HL.out; have hbw2 : Below w.heap.size w w2 := hb1.trans (hb2.mono hb1.size); clear hm2))
      | (go_at_call 24; refine (HTF2.out A2 c2 w2 (Rd.own hown2) hc2 (HT.out.below hbw2)).mono ?_; rintro e w3 ⟨v, rfl, A3, m3, c3, rfl, hm3, hc3, hown3, hb3⟩; have HM3 := Lib.hid hm3; have hbw3 : Below w.heap.size w w3 := hbw2.trans (hb3.mono hbw2.size); clear hm3)
      | (go_at_call 26; refine (HTR.out A c w3 (HR.out.below hbw3) hnc).mono ?_; rintro e w4 ⟨v, rfl, A4, m4, c4, rfl, hm4, hc4, hown4, hb4⟩; have HM4 := Lib.hid hm4; have hbw4 : Below w.heap.size w w4 := hbw3.trans (hb4.mono hbw3.size); clear hm4))
    go_wp2_with (first
      | (go_at_call 14; ((with_reducible refine (own_any A m2 c l w4 HL.out (HR.out.below hbw4) (by omega)).mono ?_); rintro e w5 ⟨v, rfl, A5, m5, c5, rfl, hm5, hc5, hown5, hb5⟩; have HM5 := Lib.hid (hm5.symm.trans HL.out); have hbw5 : Below w.heap.size w w5 := hbw4.trans (hb5.mono hbw4.size); clear hm5; obtain rfl := HM5.out))
      | (go_at_call 27; refine (HSF.out A5 c5 w5 (Rd.own hown5) hc5 (HT.out.below hbw5)).mono ?_; rintro e w6 ⟨A6, k6, c6, vs6, rfl, hk6, hc6, hown6, hol6, hb6⟩; have HK6 := Lib.hid hk6; have hbw6 : Below w.heap.size w w6 := hbw5.trans (hb6.mono hbw5.size); have hk6b := Nat.le_trans (Nat.le_of_eq hk6.symm) hslen; clear hk6)
      | (go_at_call 28; refine (HSR.out A c w6 (HR.out.below hbw6) hnc).mono ?_; rintro e w7 ⟨A7, k7, c7, vs7, rfl, hk7, hc7, hown7, hol7, hb7⟩; obtain rfl : k7 = k6 := hk7.symm.trans HK6.out; have hbw7 : Below w.heap.size w w7 := hbw6.trans (hb7.mono hbw6.size); have hb37 : Below w3.heap.size w3 w7 := ((hb4.trans (hb5.mono hb4.size)).trans (hb6.mono (hb4.trans (hb5.mono hb4.size)).size)).trans (hb7.mono ((hb4.trans (hb5.mono hb4.size)).trans (hb6.mono (hb4.trans (hb5.mono hb4.size)).size)).size); have hb47 : Below w4.heap.size w4 w7 := (hb5.trans (hb6.mono hb5.size)).trans (hb7.mono (hb5.trans (hb6.mono hb5.size)).size); have hx3 := HCS.out w7 A3 m3 c3 p HM3.out ((Rd.own hown3).below hb37); have hx4 := HCS.out w7 A4 m4 c4 p HM4.out ((Rd.own hown4).below hb47); clear hk7)
      | (go_at_call 29; refine (same_eq A6 A7 k7 c6 c7 vs6 vs7 sl w7 HK6.out ((Rd.own hown6).below hb7) (hol6.reads.below hb7) (Rd.own hown7) hol7.reads (by omega)).mono ?_; rintro e w8 ⟨rfl, hb8⟩))
    go_ret
    exact Yes.mk (hbw7.trans (hb8.mono hbw7.size))
  · have hf' : isFrame l = false := by simpa using hf
    rw [hf'] at hff htf
    have HTF2 := Lib.hid htf
    have hz1 : z = 0 := by
      have := of_decide_eq_false hff.symm
      omega
    clear hl hr ht hcs hz hp hsn hsl htr hsf hsr hf hf' htf hff HTF
    subst hz1
    go_enter Tryd.func7, Tryd.ntmps7
    go_wp2_with (first
      | (go_at_call 11; refine (awake_any w HT.out).mono ?_; rintro e w1 ⟨rfl, hb1⟩)
      | (go_at_call 14; ((with_reducible refine (own_any A n c l w1 HL.out (HR.out.below hb1) (by omega)).mono ?_); rintro e w2 ⟨v, rfl, A2, m2, c2, rfl, hm2, hc2, hown2, hb2⟩; obtain rfl : m2 = n := hm2.symm.trans HL.out; have hbw2 : Below w.heap.size w w2 := hb1.trans (hb2.mono hb1.size); clear hm2))
      | (go_at_call 24; refine (HTF2.out A2 c2 w2 (Rd.own hown2) hc2 (HT.out.below hbw2)).mono ?_; rintro e w3 ⟨v, rfl, A3, m3, c3, rfl, hm3, hc3, hown3, hb3⟩; have HM3 := Lib.hid hm3; have hbw3 : Below w.heap.size w w3 := hbw2.trans (hb3.mono hbw2.size); clear hm3)
      | (go_at_call 26; refine (HTR.out A c w3 (HR.out.below hbw3) hnc).mono ?_; rintro e w4 ⟨v, rfl, A4, m4, c4, rfl, hm4, hc4, hown4, hb4⟩; have HM4 := Lib.hid hm4; have hbw4 : Below w.heap.size w w4 := hbw3.trans (hb4.mono hbw3.size); clear hm4))
    go_wp2_with (first
      | (go_at_call 14; ((with_reducible refine (own_any A m2 c l w4 HL.out (HR.out.below hbw4) (by omega)).mono ?_); rintro e w5 ⟨v, rfl, A5, m5, c5, rfl, hm5, hc5, hown5, hb5⟩; have HM5 := Lib.hid (hm5.symm.trans HL.out); have hbw5 : Below w.heap.size w w5 := hbw4.trans (hb5.mono hbw4.size); clear hm5; obtain rfl := HM5.out))
      | (go_at_call 27; refine (HSF.out A5 c5 w5 (Rd.own hown5) hc5 (HT.out.below hbw5)).mono ?_; rintro e w6 ⟨A6, k6, c6, vs6, rfl, hk6, hc6, hown6, hol6, hb6⟩; have HK6 := Lib.hid hk6; have hbw6 : Below w.heap.size w w6 := hbw5.trans (hb6.mono hbw5.size); have hk6b := Nat.le_trans (Nat.le_of_eq hk6.symm) hslen; clear hk6)
      | (go_at_call 28; refine (HSR.out A c w6 (HR.out.below hbw6) hnc).mono ?_; rintro e w7 ⟨A7, k7, c7, vs7, rfl, hk7, hc7, hown7, hol7, hb7⟩; obtain rfl : k7 = k6 := hk7.symm.trans HK6.out; have hbw7 : Below w.heap.size w w7 := hbw6.trans (hb7.mono hbw6.size); have hb37 : Below w3.heap.size w3 w7 := ((hb4.trans (hb5.mono hb4.size)).trans (hb6.mono (hb4.trans (hb5.mono hb4.size)).size)).trans (hb7.mono ((hb4.trans (hb5.mono hb4.size)).trans (hb6.mono (hb4.trans (hb5.mono hb4.size)).size)).size); have hb47 : Below w4.heap.size w4 w7 := (hb5.trans (hb6.mono hb5.size)).trans (hb7.mono (hb5.trans (hb6.mono hb5.size)).size); have hx3 := HCS.out w7 A3 m3 c3 p HM3.out ((Rd.own hown3).below hb37); have hx4 := HCS.out w7 A4 m4 c4 p HM4.out ((Rd.own hown4).below hb47); clear hk7)
      | (go_at_call 29; refine (same_eq A6 A7 k7 c6 c7 vs6 vs7 sl w7 HK6.out ((Rd.own hown6).below hb7) (hol6.reads.below hb7) (Rd.own hown7) hol7.reads (by omega)).mono ?_; rintro e w8 ⟨rfl, hb8⟩))
    go_ret
    exact Yes.mk (hbw7.trans (hb8.mono hbw7.size))
end Fr
end Go.Proofs.YtjpimbbdjdlelaaDoor
