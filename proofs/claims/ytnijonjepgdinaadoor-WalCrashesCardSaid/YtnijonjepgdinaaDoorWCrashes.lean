/-
  WHAT IS PROVED: what the law WalCrashes answers. CONDITIONS: the lives stand in memory as named; the library's variables lie as laid.
-/
import Derived.Test.YtnijonjepgdinaaDoorWOpenLv
namespace Go.Proofs.YtnijonjepgdinaaDoor
open Go Go.RowKit Go.Maps Go.Proofs.YtnijonjepgdinaaDoor.Fr Go.Proofs.YtnijonjepgdinaaDoor.Dr
namespace Wl

def KpInv (w7 : World) (x : Value) (wr : World) : Prop := ∃ t : Nat, t ≤ 60 ∧ x = .int .i64 (t : Int) ∧ Hid (Below w7.heap.size w7 wr)
theorem own_len {w : World} {base : Nat} {A : Option Addr} {j c : Nat} {vs : List Value} {e : TypeId} (h : w.ownsRow base e 1 (.slice A j c) j vs) : vs.length = j := by have := h.1; omega
theorem iv_one (t : Int) : iv [t] = [.int .i64 t] := rfl
theorem kept_row {w w' : World} {X : Nat → Prop} {base e n : Nat} {v : Value} {xs : List Value} (h : w.ownsRow base e 1 v n xs) (hX : ∀ k, v.ownBlock = some k → X k) (hk : ∀ k, X k → w'.heap[k]? = w.heap[k]?) : w'.ownsRow base e 1 v n xs := own_same h fun k e => hk k (hX k e)
theorem below_alloc8 {w7 wr w8 : World} {o : Obj} (h : Below w7.heap.size w7 wr) (hb : Below (wr.alloc o).heap.size (wr.alloc o) w8) : Below w7.heap.size w7 w8 := by
  have h1 := h.alloc h.size o
  exact h1.trans (hb.mono h1.size)
/-- The list of what there was ahead of a life. -/
structure CrFirst (w : World) (X : Nat → Prop) (F : List Bs) (A : Option Addr) (j c : Nat) (vs : List Value) (W : World) : Prop where
  row : W.ownsRow w.heap.size 42 1 (.slice A j c) j vs
  own : OwnL W w.heap.size vs F
  rowX : ∀ k, (Value.slice A j c).ownBlock = some k → X k
  ownX : ∀ u ∈ vs, ∀ k, u.ownBlock = some k → X k
theorem cr_keep {w W W' : World} {X : Nat → Prop} {F : List Bs} {A : Option Addr} {j c : Nat} {vs : List Value} (h : CrFirst w X F A j c vs W) (hk : ∀ k, X k → W'.heap[k]? = W.heap[k]?) : CrFirst w X F A j c vs W' :=
  ⟨own_same h.row fun k e => hk k (h.rowX k e), OwnL.same h.own fun u hu k e => hk k (h.ownX u hu k e), h.rowX, h.ownX⟩
theorem cr_same {w wr w4 : World} {X : Nat → Prop} {i d j c : Nat} {st : St} {F : List Bs} {A : Option Addr} {vs : List Value} (h : CrAt w i X d st F (.slice A j c) vs wr) (hj : F.length = j) {A4 : Option Addr} {k4 c4 : Nat} {vs4 : List Value} (hk : F.length = k4) (hr : w4.ownsRow wr.heap.size 42 1 (.slice A4 k4 c4) k4 vs4) (ho : OwnL w4 wr.heap.size vs4 F) (hb : Below wr.heap.size wr w4) (hj2 : j ≤ 100) :
    Calls Tryd.prog 9 #[.slice A4 k4 c4, .slice A j c] w4 (Yes w4) := by
  subst hj
  subst hk
  exact same_eq A4 A F.length c4 c vs4 vs F w4 rfl (Rd.own hr) ho.reads ((Rd.own h.row).below hb) (h.own.reads.below hb) (by omega)
theorem cr_first {w wr w4 w5 : World} {X : Nat → Prop} {i d j c b4 : Nat} {st : St} {F : List Bs} {A : Option Addr} {vs : List Value} {g4 : Int} {dead : Bool} {X4 : Nat → Prop} (h : CrAt w i X d st F (.slice A j c) vs wr) (hj : F.length = j) (h4 : LS w w4 X4 b4 d g4 dead st) (hb4 : Below wr.heap.size wr w4) (hb5 : Below w4.heap.size w4 w5) : CrFirst w (fun k => ext X wr w4 k ∧ k ≠ b4) F A j c vs w5 := by
  subst hj
  have hb := hb4.trans (hb5.mono hb4.size)
  refine ⟨own_below h.row hb (Nat.le_refl _), h.own.below hb, fun k e => ⟨.inl (h.rowX k e), ?_⟩, fun u hu k e => ⟨.inl (h.ownX u hu k e), ?_⟩⟩
  · rintro rfl
    obtain ⟨cur, hc⟩ := own_blk (own_below h.row hb4 (Nat.le_refl _)) e
    exact Blk.ne hc h4.log (by decide) rfl
  · rintro rfl
    obtain ⟨q, hq, rfl⟩ := List.getElem_of_mem hu
    obtain ⟨_, _, ho, _⟩ := (h.own.below hb4).2 q _ _ (List.getElem?_eq_getElem hq) (List.getElem?_eq_getElem (by rw [← h.own.1]; exact hq))
    obtain ⟨cur, hc⟩ := own_blk ho e
    exact Blk.ne hc h4.log (by decide) rfl
theorem cr_left {w w6 w7 w9 : World} {X : Nat → Prop} {j c q z B9 : Nat} {F D : List Bs} {A : Option Addr} {vs : List Value} (h : CrFirst w X F A j c vs w7) {AD : Option Addr} {cD : Nat} {vs7 : List Value} (hr7 : w7.ownsRow w6.heap.size 42 1 (.slice AD D.length cD) D.length vs7) (ho7 : OwnL w7 w6.heap.size vs7 D) (hj : F.length = j)
    {A9 : Option Addr} {k9 c9 : Nat} {vs9 : List Value} (hr9 : w9.ownsRow B9 42 1 (.slice A9 k9 c9) k9 vs9) (ho9 : OwnL w9 B9 vs9 (F ++ D.take q)) (hk9 : (F ++ D.take q).length = k9) (hkc9 : k9 ≤ c9) (hb : Below w7.heap.size w7 w9) (_ : j ≤ c) (hDc : D.length ≤ cD) (hq : q ≤ D.length) (hz : z ≤ q) (hj2 : j ≤ 100) (hD2 : D.length ≤ 20) :
    Calls Tryd.prog 13 #[.slice A9 k9 c9, .slice A j c, .slice AD D.length cD, .int .i64 (z : Int)] w9 (Yes w9) := by
  have hk : k9 = j + q := by rw [← hk9, List.length_append, List.length_take]; omega
  exact left_any A9 A AD k9 j D.length c9 c cD q z vs9 vs vs7 F D w9 hj hk hkc9 rfl hDc hq hz (by omega) (by omega) (Rd.own hr9) ho9.reads ((Rd.own h.row).below hb) (h.own.reads.below hb) ((Rd.own hr7).below hb) (ho7.reads.below hb)
theorem cr_few {F D : List Bs} {i q : Nat} (h : F.length ≤ 20 * i) (hq : q ≤ D.length) (hD : D.length ≤ 20) : (F ++ D.take q).length ≤ 20 * (i + 1) := by
  rw [List.length_append, List.length_take]; omega
theorem cr_next {w w8 w9 : World} {X : Nat → Prop} {i b9 d8 : Nat} {g9 : Int} {st' : St} {P : List Bs} (h9 : LS w w9 (fun k => ext X w8 w9 k ∧ k ≠ b9) b9 d8 g9 false st') {A9 : Option Addr} {k9 c9 : Nat} {vs9 : List Value} (hk9 : P.length = k9) (hr9 : w9.ownsRow w8.heap.size 42 1 (.slice A9 k9 c9) k9 vs9) (ho9 : OwnL w9 w8.heap.size vs9 P)
    (ht : (tag st'.files).map (·.2) = P) (hx : Lx (21 * i + 20 + 1) 0 false (nextOf 1 (segs st'.files)) false st' P.length) (hw : w.heap.size ≤ w8.heap.size) (hf : P.length ≤ 20 * (i + 1)) :
    ∃ X st F vs, F.length = k9 ∧ CrAt w (i + 1) X d8 st F (.slice A9 k9 c9) vs w9 := by
  subst hk9
  have hin : ∀ k, (w8.heap.size ≤ k ∧ k < w9.heap.size) → ((ext X w8 w9 k ∧ k ≠ b9) ∨ k = b9) := fun k hk => (Decidable.em (k = b9)).elim .inr fun e => .inl ⟨.inr hk, e⟩
  exact ⟨_, st', P, vs9, rfl, h9.ds, hx, ht, own_mono hr9 hw, ownL_mono ho9 hw, fun k e => hin k (hr9.lt k e), fun u hu k e => hin k (OwnL.ge ho9 u hu k e), hf⟩
set_option maxHeartbeats 12800000 in
set_option maxRecDepth 100000 in
theorem crashes_walk (A0 : Option Addr) (n0 c0 : Nat) (L : List LM) (w : World) (hl0 : L.length = n0) (hlv : Lives w A0 L) {B : Nat} (hL : Lb B w) :
    Calls Tryd.prog 3 #[.slice A0 n0 c0] w (Yes w) := by
  have hc1 := new_any w
  have HL := Lib.hid hL
  have HLV := Lib.hid hlv
  have HL0 := Lib.hid hl0
  clear hL hlv hl0
  go_enter Tryd.func3, Tryd.ntmps3
  go_wp2_with (first
    | (go_at_call 6; refine hc1.mono ?_; intro e w1 hp; have hp2 := hp.ds; clear hp; obtain ⟨d, rfl, hd1⟩ := hp2; have H1 := Lib.hid hd1; clear hd1)
    | (go_at_call 7; (with_reducible refine (wawake_any (HL.out.below (H1.out.bel.mono HL.out.up))).mono ?_); rintro e w2 ⟨rfl, hb2⟩; have H2 := Lib.hid (H1.out.below hb2); clear hb2))
  go_loopw [3, 4, 5] (CrInv w n0) (fun _ _ x _ => n0 - (intOf x).toNat)
  case atStart => exact ⟨0, 0, d, 0, none, by omega, by omega, rfl, rfl, rfl, by omega, ⟨_, St.empty, [], [], rfl, H2.out, Lx.first, rfl, World.ownsRow_nil _ _ _ _, OwnL.nil _ _, fun k e => absurd e (by simp [Value.ownBlock]), fun u hu => absurd hu (by simp), by simp⟩⟩
  case round =>
    clear H2
    obtain ⟨i, c, d1, j, A, hi, hi5, rfl, rfl, rfl, hjc, HK⟩ := hrel
    obtain ⟨X, st, F, vs, hFj, hat⟩ := HK.out
    have HAT := Lib.hid hat
    have HFJ := Lib.hid hFj
    clear HK hat hFj
    by_cases hlt : i < n0 ∧ i < 5
    · have hbw := HAT.out.ds.bel
      obtain ⟨lm, hlm⟩ : ∃ lm, L[i]? = some lm := ⟨_, List.getElem?_eq_getElem (by rw [HL0.out]; exact hlt.1)⟩
      obtain ⟨gl, pl, rfl, hgl, hcells⟩ := HLV.out.cell i lm hlm
      have hlok := HLV.out.ok lm (List.mem_of_getElem? hlm)
      obtain ⟨AP, nP, cP, us, PL, ev, lf, AK, nK, cK, ks⟩ := lm
      have HLC := Lib.hid (fun (W : World) (hW : Below w.heap.size w W) => hcells.below hgl hW)
      have HOK := Lib.hid hlok
      have hpp := HAT.out.pays hi5
      have HPP := Lib.hid hpp
      have hj100 : j ≤ 100 := by have := HAT.out.few; have := HFJ.out; omega
      have hlt1 : (i : Int) < (n0 : Int) := by omega
      have hlt2 : (i : Int) < 5 := by omega
      have hi2 : 21 * i ≤ 105 := by omega
      clear hcells hlok hpp hlm hbw
      go_upto_region 11 with (first
        | (go_at_call 8; ((with_reducible refine (ds_open HAT.out.ds HL.out HAT.out.lx.ok.1 HPP.out).mono ?_); rintro e w4 ⟨b4, A4, k4, c4, vs4, rfl, h4, hk4, hkc4, hr4, ho4, hb4⟩; have H4 := Lib.hid h4; have HK4 := Lib.hid hk4; have HR4 := Lib.hid hr4; have HO4 := Lib.hid ho4; have HB4 := Lib.hid hb4; have HSM := Lib.hid (cr_same HAT.out HFJ.out hk4 hr4 ho4 hb4 hj100); clear h4 hk4 hr4 ho4 hb4))
        | (go_at_call 9; ((with_reducible refine HSM.out.mono ?_); rintro e w5 ⟨rfl, hb5⟩; have HB5 := Lib.hid hb5; clear hb5)))
      have H5 := Lib.hid (H4.out.below HB5.out)
      have HF5 := Lib.hid (cr_first HAT.out HFJ.out H4.out HB4.out HB5.out)
      obtain ⟨z0, z1, z2, z3⟩ := HLC.out w5 H5.out.bel
      obtain ⟨X4, hX4⟩ : ∃ X4, X4 = (fun k => ext X wr w4 k ∧ k ≠ b4) := ⟨_, rfl⟩
      rw [← hX4] at H4 H5 HF5
      have HLX := Lib.hid HAT.out.lx
      have HTG := Lib.hid HAT.out.tags
      obtain ⟨g4, hg4⟩ : ∃ g4, g4 = nextOf 1 (segs st.files) := ⟨_, rfl⟩
      rw [← hg4] at HLX H4 H5
      clear hX4 hg4 HSM H4 HK4 HR4 HO4 HB4 HB5
      by_cases hlf : 0 ≤ lf
      · obtain ⟨ha1, ha2, ha3⟩ := HLX.out.arm hlf HOK.out.l2
        obtain ⟨s6, hs6⟩ : ∃ s6, s6 = st.arm lf := ⟨_, rfl⟩
        have HARM := Lib.hid (ls_arm H5.out lf HOK.out.l1 HOK.out.l2)
        rw [← hs6] at ha1 ha2 ha3 HARM
        obtain ⟨st6, q6⟩ := s6
        obtain ⟨ar, HX6, HARR⟩ : ∃ ar, Hid (Lx (21 * i) 0 ar g4 false st6 F.length) ∧ Hid (ar = true → 0 ≤ lf) := ⟨true, Lib.hid ha2, Lib.hid (fun _ => hlf)⟩
        have HT6 := Lib.hid (show (tag st6.files).map (·.2) = F by rw [show st6.files = st.files from ha3]; exact HTG.out)
        clear ha1 ha2 ha3 hs6
        go_upto_region 14 with (first
          | (go_at_call 10; ((with_reducible refine HARM.out.mono ?_); rintro e w6 ⟨rfl, h6, hk6⟩; have hl6 := HLC.out w6 h6.bel; obtain ⟨y0, y1, y2, y3⟩ := hl6; have HF6 := Lib.hid (cr_keep HF5.out hk6); have HKX := Lib.hid (fun (k : Nat) (hk : X4 k) => hk6 k hk); have h6b : LS w w6 X4 b4 d1 g4 false st6 := h6; have H6 := Lib.hid h6b; clear h6 h6b hk6))
          | (go_at_call 11; ((with_reducible refine (lived_any H6.out HX6.out HT6.out HL.out (by omega) AP nP cP us PL HOK.out.pl HOK.out.pr HOK.out.prl ev lf HOK.out.e1 HOK.out.e2 HARR.out (.slice AK nK cK)).mono ?_); rintro e w7 ⟨AD, cD, z, D, g7, dead7, st7, m, vs7, rfl, hD20, hDc, hzm, hmD, h7, hx7, ht7, hr7, ho7, hk7⟩; have H7 := Lib.hid h7; have HX7 := Lib.hid hx7; have HT7 := Lib.hid ht7; have HR7 := Lib.hid hr7; have HO7 := Lib.hid ho7; have HF7 := Lib.hid (cr_keep HF6.out hk7); clear h7 hx7 ht7 hr7 ho7 hk7)))
        have HD7 := Lib.hid H7.out.ds
        have HCP := Lib.hid (fun (ks : List Int) => crash_pays HX7.out (by omega) HT7.out ks)
        have hok7 := HX7.out.ok.1
        have HOK7 := Lib.hid hok7
        clear hok7
        go_wp2
        go_loopw [12] (KpInv w7) (fun x _ => 60 - (intOf x).toNat)
        case atStart => exact ⟨0, by omega, rfl, Below.refl _ _⟩
        case round =>
          obtain ⟨t, ht, rfl, HKB⟩ := hrel
          by_cases htl : t < 60
          · have htc : (t : Int) < 60 := by omega
            obtain ⟨q, hq1, hq2, hq3, hq4, _, hq6, _⟩ := HCP.out [(t : Int)]
            have HQ4 := Lib.hid hq4
            have HQ6 := Lib.hid hq6
            have HCR := Lib.hid (ds_crash ((HD7.out.below HKB.out).alloc (.cells #[.int .i64 (t : Int)] 3)) HOK7.out (some ⟨wr.heap.size, 0, none⟩) 1 1 [(t : Int)] rfl (Nat.le_refl _) (Rd.one _ _ _ _ _ rfl))
            clear hq4 hq6
            go_wp2_with (first
              | (go_at_call 12; ((with_reducible refine HCR.out.mono ?_); rintro e w8 ⟨d8, rfl, h8, hb8⟩; have H8 := Lib.hid h8; have HB8 := Lib.hid (below_alloc8 HKB.out hb8); clear h8 hb8))
              | (go_at_call 8; ((with_reducible refine (ds_open H8.out HL.out HQ6.out HQ4.out).mono ?_); rintro e w9 ⟨b9, A9, k9, c9, vs9, rfl, h9, hk9, hkc9, hr9, ho9, hb9⟩; have HB9 := Lib.hid (HB8.out.trans (hb9.mono HB8.out.size)); have HLF := Lib.hid (cr_left HF7.out HR7.out HO7.out HFJ.out hr9 ho9 hk9 hkc9 (HB8.out.trans (hb9.mono HB8.out.size)) hjc hDc hq3 hq1 hj100 hD20); clear h9 hk9 hr9 ho9 hb9))
              | (go_at_call 13; ((with_reducible refine HLF.out.mono ?_); rintro e w10 ⟨rfl, hb10⟩; have HB10 := Lib.hid (HB9.out.trans (hb10.mono HB9.out.size)); clear hb10)))
            go_roundw
            case rel => exact ⟨t + 1, by omega, by go_num, HB10.out⟩
            case measure => simp [intOf]; omega
          · have htc : ¬ (t : Int) < 60 := by omega
            obtain ⟨x0, x1, x2, x3⟩ := HLC.out wr (H7.out.bel.trans (HKB.out.mono H7.out.bel.size))
            obtain ⟨q, hq1, hq2, hq3, hq4, hq5, hq6, hq7⟩ := HCP.out ks
            have HQ4 := Lib.hid hq4
            have HQ5 := Lib.hid hq5
            have HQ6 := Lib.hid hq6
            have HQ7 := Lib.hid hq7
            have HCR := Lib.hid (ds_crash (HD7.out.below HKB.out) HOK7.out AK nK cK ks HOK.out.kl HOK.out.kc (HOK.out.kr.below (H7.out.bel.trans (HKB.out.mono H7.out.bel.size))))
            clear hq4 hq5 hq6 hq7
            go_wp2_with (first
              | (go_at_call 12; ((with_reducible refine HCR.out.mono ?_); rintro e w8 ⟨d8, rfl, h8, hb8⟩; have H8 := Lib.hid h8; clear h8 hb8))
              | (go_at_call 8; ((with_reducible refine (ds_open H8.out HL.out HQ6.out HQ4.out).mono ?_); rintro e w9 ⟨b9, A9, k9, c9, vs9, rfl, h9, hk9, hkc9, hr9, ho9, hb9⟩; have HN9 := Lib.hid (cr_next (i := i) h9 hk9 hr9 ho9 HQ5.out HQ7.out (H8.out.bel.size) (cr_few HAT.out.few hq3 hD20)); clear h9 hk9 hr9 ho9 hb9)))
            go_roundw
            case rel => exact ⟨i + 1, c9, d8, k9, A9, by omega, by omega, by go_num, rfl, rfl, hkc9, HN9.out⟩
            case measure => simp [intOf]; omega
      · obtain ⟨ar, HX6, HARR⟩ : ∃ ar, Hid (Lx (21 * i) 0 ar g4 false st F.length) ∧ Hid (ar = true → 0 ≤ lf) := ⟨false, HLX, Lib.hid (fun e => by cases e)⟩
        go_upto_region 14 with (go_at_call 11; ((with_reducible refine (lived_any H5.out HX6.out HTG.out HL.out (by omega) AP nP cP us PL HOK.out.pl HOK.out.pr HOK.out.prl ev lf HOK.out.e1 HOK.out.e2 HARR.out (.slice AK nK cK)).mono ?_); rintro e w7 ⟨AD, cD, z, D, g7, dead7, st7, m, vs7, rfl, hD20, hDc, hzm, hmD, h7, hx7, ht7, hr7, ho7, hk7⟩; have H7 := Lib.hid h7; have HX7 := Lib.hid hx7; have HT7 := Lib.hid ht7; have HR7 := Lib.hid hr7; have HO7 := Lib.hid ho7; have HF7 := Lib.hid (cr_keep HF5.out hk7); clear h7 hx7 ht7 hr7 ho7 hk7))
        have HD7 := Lib.hid H7.out.ds
        have HCP := Lib.hid (fun (ks : List Int) => crash_pays HX7.out (by omega) HT7.out ks)
        have hok7 := HX7.out.ok.1
        have HOK7 := Lib.hid hok7
        clear hok7
        go_wp2
        go_loopw [12] (KpInv w7) (fun x _ => 60 - (intOf x).toNat)
        case atStart => exact ⟨0, by omega, rfl, Below.refl _ _⟩
        case round =>
          obtain ⟨t, ht, rfl, HKB⟩ := hrel
          by_cases htl : t < 60
          · have htc : (t : Int) < 60 := by omega
            obtain ⟨q, hq1, hq2, hq3, hq4, _, hq6, _⟩ := HCP.out [(t : Int)]
            have HQ4 := Lib.hid hq4
            have HQ6 := Lib.hid hq6
            have HCR := Lib.hid (ds_crash ((HD7.out.below HKB.out).alloc (.cells #[.int .i64 (t : Int)] 3)) HOK7.out (some ⟨wr.heap.size, 0, none⟩) 1 1 [(t : Int)] rfl (Nat.le_refl _) (Rd.one _ _ _ _ _ rfl))
            clear hq4 hq6
            go_wp2_with (first
              | (go_at_call 12; ((with_reducible refine HCR.out.mono ?_); rintro e w8 ⟨d8, rfl, h8, hb8⟩; have H8 := Lib.hid h8; have HB8 := Lib.hid (below_alloc8 HKB.out hb8); clear h8 hb8))
              | (go_at_call 8; ((with_reducible refine (ds_open H8.out HL.out HQ6.out HQ4.out).mono ?_); rintro e w9 ⟨b9, A9, k9, c9, vs9, rfl, h9, hk9, hkc9, hr9, ho9, hb9⟩; have HB9 := Lib.hid (HB8.out.trans (hb9.mono HB8.out.size)); have HLF := Lib.hid (cr_left HF7.out HR7.out HO7.out HFJ.out hr9 ho9 hk9 hkc9 (HB8.out.trans (hb9.mono HB8.out.size)) hjc hDc hq3 hq1 hj100 hD20); clear h9 hk9 hr9 ho9 hb9))
              | (go_at_call 13; ((with_reducible refine HLF.out.mono ?_); rintro e w10 ⟨rfl, hb10⟩; have HB10 := Lib.hid (HB9.out.trans (hb10.mono HB9.out.size)); clear hb10)))
            go_roundw
            case rel => exact ⟨t + 1, by omega, by go_num, HB10.out⟩
            case measure => simp [intOf]; omega
          · have htc : ¬ (t : Int) < 60 := by omega
            obtain ⟨x0, x1, x2, x3⟩ := HLC.out wr (H7.out.bel.trans (HKB.out.mono H7.out.bel.size))
            obtain ⟨q, hq1, hq2, hq3, hq4, hq5, hq6, hq7⟩ := HCP.out ks
            have HQ4 := Lib.hid hq4
            have HQ5 := Lib.hid hq5
            have HQ6 := Lib.hid hq6
            have HQ7 := Lib.hid hq7
            have HCR := Lib.hid (ds_crash (HD7.out.below HKB.out) HOK7.out AK nK cK ks HOK.out.kl HOK.out.kc (HOK.out.kr.below (H7.out.bel.trans (HKB.out.mono H7.out.bel.size))))
            clear hq4 hq5 hq6 hq7
            go_wp2_with (first
              | (go_at_call 12; ((with_reducible refine HCR.out.mono ?_); rintro e w8 ⟨d8, rfl, h8, hb8⟩; have H8 := Lib.hid h8; clear h8 hb8))
              | (go_at_call 8; ((with_reducible refine (ds_open H8.out HL.out HQ6.out HQ4.out).mono ?_); rintro e w9 ⟨b9, A9, k9, c9, vs9, rfl, h9, hk9, hkc9, hr9, ho9, hb9⟩; have HN9 := Lib.hid (cr_next (i := i) h9 hk9 hr9 ho9 HQ5.out HQ7.out (H8.out.bel.size) (cr_few HAT.out.few hq3 hD20)); clear h9 hk9 hr9 ho9 hb9)))
            go_roundw
            case rel => exact ⟨i + 1, c9, d8, k9, A9, by omega, by omega, by go_num, rfl, rfl, hkc9, HN9.out⟩
            case measure => simp [intOf]; omega
    · by_cases hin : i < n0
      · have hlt1 : (i : Int) < (n0 : Int) := by omega
        have hlt2 : ¬ (i : Int) < 5 := by omega
        go_wp2
        go_ret
        exact Yes.mk HAT.out.ds.bel
      · have hlt1 : ¬ (i : Int) < (n0 : Int) := by omega
        go_wp2
        go_ret
        exact Yes.mk HAT.out.ds.bel

end Wl
end Go.Proofs.YtnijonjepgdinaaDoor
