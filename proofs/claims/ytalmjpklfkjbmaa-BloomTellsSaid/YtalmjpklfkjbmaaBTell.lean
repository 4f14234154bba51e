/-
  WHAT IS PROVED: BloomTells answers true. CONDITIONS: what came in stands in memory as named.
-/
import Derived.Test.YtalmjpklfkjbmaaBKeep
namespace Go.Proofs.Ytalmjpklfkjbmaa
open Go Go.RowKit
namespace Bl
open Go.Proofs.Ytalmjpklfkjbmaa.Fr
section
variable {w : World} {A : Option Addr} {n c : Nat} {ks : List ByteArray} {per : Int} {key : ByteArray}
theorem filt9 {l : List ByteArray} {p : Int} (hl : l.length ≤ 6) (hp : p ≤ 10) : (filt (l.map (·.toList)) p).length = 9 := by
  rw [filt_len, List.length_map, size_small hl hp]
theorem build9 {W : World} {B : Option Addr} {m d : Nat} {l : List ByteArray} {p : Int} (hs : ∀ s ∈ l, s.size ≤ maxLen) (hl : l.length = m) (hm : m ≤ 6) (hd : m ≤ d) (hp : p ≤ 10) (hr : Rd W B (kv l)) :
    Calls Try.prog 10 #[.slice B m d, .int .i64 p] W fun e w' => ∃ A c, e = .returned (.slice A 9 c) ∧ Rd w' A (bv (filt (l.map (·.toList)) p)) ∧ Below W.heap.size W w' := by
  refine (build_any (per := p) hl hr hs (by omega) hd).mono ?_
  rintro e w' ⟨v, rfl, A, m', c, rfl, h1, _, h2, h3⟩
  rw [filt9 (by omega) hp] at h1
  subst h1
  exact ⟨A, c, rfl, Rd.own h2, h3⟩
theorem may9 {W : World} {B : Option Addr} {d : Nat} {F : Bs} {t : Bool} (hF : F.length = 9) (hk : key.size ≤ maxLen) (ht : may F key.toList = t) (hr : Rd W B (bv F)) :
    Calls Try.prog 14 #[.slice B 9 d, .string key] W fun e w' => e = .returned (.bool t) ∧ Below W.heap.size W w' := by
  subst ht
  exact may_any hF hr (by omega) hk
set_option maxRecDepth 100000 in
set_option maxHeartbeats 1000000 in
theorem tells_short {l : List ByteArray} {h : Nat} (hh : h = n / 2) (hlm : l.length = n) (hhm : h ≤ n) (hM : n ≤ 6) (hMc : n ≤ c) (hr : Rd w A (kv l)) (hs : ∀ s ∈ l, s.size ≤ maxLen) (hk : key.size ≤ maxLen) :
    Calls Try.prog 6 #[.slice A n c, .int .i64 per, .string key] w (Yes w) := by
  obtain ⟨i0, hi, hz, hz1, hz2⟩ := info_parts info_str
  obtain ⟨u, hu⟩ : ∃ u : Nat, IntKind.u64.wrap per = (u : Int) := by
    refine ⟨(IntKind.u64.wrap per).toNat, ?_⟩
    have : 0 ≤ IntKind.u64.wrap per := by rw [IntKind.wrap_u64]; omega
    omega
  obtain ⟨P, hP⟩ : ∃ P : Int, (u : Int) % 10 + 1 = P := ⟨_, rfl⟩
  have hP10 : P ≤ 10 := by omega
  have hPn : P = (u : Int) % 10 + 1 := hP.symm
  have hF9 : (filt ((l.take h).map (·.toList)) P).length = 9 := filt9 (by rw [List.length_take]; omega) hP10
  have hG9 : (filt (l.map (·.toList)) P).length = 9 := filt9 (by omega) hP10
  have hZ9 : (filt (([] : List ByteArray).map (·.toList)) P).length = 9 := filt9 (by simp) hP10
  have hZt : may (filt (([] : List ByteArray).map (·.toList)) P) key.toList = false := may_none P key.toList
  have himp : may (filt ((l.take h).map (·.toList)) P) key.toList = true → may (filt (l.map (·.toList)) P) key.toList = true := fun h1 => by
    rw [List.map_take] at h1
    exact may_fewer h (by rw [List.length_map]; omega) hP10 _ h1
  obtain ⟨F, hF⟩ : ∃ F, F = filt ((l.take h).map (·.toList)) P := ⟨_, rfl⟩
  obtain ⟨G, hG⟩ : ∃ G, G = filt (l.map (·.toList)) P := ⟨_, rfl⟩
  obtain ⟨Z, hZ⟩ : ∃ Z, Z = filt (([] : List ByteArray).map (·.toList)) P := ⟨_, rfl⟩
  have bF : ∀ W B d, h ≤ d → Rd W B (kv (l.take h)) → Calls Try.prog 10 #[.slice B h d, .int .i64 ((u : Int) % 10 + 1)] W fun e w' => ∃ A c, e = .returned (.slice A 9 c) ∧ Rd w' A (bv F) ∧ Below W.heap.size W w' := fun W B d h1 h2 => by
    rw [hF, ← hPn]
    exact build9 (fun s hx => hs s (List.mem_of_mem_take hx)) (by rw [List.length_take]; omega) (by omega) h1 hP10 h2
  have bG : ∀ W B d, n ≤ d → Rd W B (kv l) → Calls Try.prog 10 #[.slice B n d, .int .i64 ((u : Int) % 10 + 1)] W fun e w' => ∃ A c, e = .returned (.slice A 9 c) ∧ Rd w' A (bv G) ∧ Below W.heap.size W w' := fun W B d h1 h2 => by
    rw [hG, ← hPn]
    exact build9 hs hlm hM h1 hP10 h2
  have bZ : ∀ W, Calls Try.prog 10 #[.slice none 0 0, .int .i64 ((u : Int) % 10 + 1)] W fun e w' => ∃ A c, e = .returned (.slice A 9 c) ∧ Rd w' A (bv Z) ∧ Below W.heap.size W w' := fun W => by
    rw [hZ, ← hPn]
    exact build9 (l := []) (fun s hx => by cases hx) rfl (by omega) (Nat.le_refl _) hP10 Rd.nil
  rw [← hF] at hF9 himp
  rw [← hG] at hG9 himp
  rw [← hZ] at hZ9 hZt
  obtain ⟨tF, htF⟩ : ∃ t, may F key.toList = t := ⟨_, rfl⟩
  obtain ⟨tG, htG⟩ : ∃ t, may G key.toList = t := ⟨_, rfl⟩
  have yF := fun W B d (h1 : Rd W B (bv F)) => may9 (d := d) hF9 hk htF h1
  have yG := fun W B d (h1 : Rd W B (bv G)) => may9 (d := d) hG9 hk htG h1
  have yZ := fun W B d (h1 : Rd W B (bv Z)) => may9 (d := d) hZ9 hk hZt h1
  rw [htF, htG] at himp
  have hr2 : Rd w A (kv (l.take h)) := by rw [← kv_take]; exact hr.take _
  have hl2 : (kv (l.take h)).length = h := by rw [kv_len, List.length_take]; omega
  have hl1 : (kv l).length = n := by rw [kv_len]; exact hlm
  have hcH : h ≤ c := by omega
  have eh : (n : Int) / 2 = (h : Int) := by omega
  have k6 : ¬ (6 : Int) < (n : Int) := by omega
  clear hh
  have BF := Lib.hid bF
  have BG := Lib.hid bG
  have BZ := Lib.hid bZ
  have YF := Lib.hid yF
  have YG := Lib.hid yG
  have YZ := Lib.hid yZ
  have HR2 := Lib.hid hr2
  have HR := Lib.hid hr
  have HL2 := Lib.hid hl2
  have HL1 := Lib.hid hl1
  have HI := Lib.hid himp
  clear bF bG bZ yF yG yZ hr2 hr hl2 hl1 himp hF9 hG9 hZ9 hZt htF htG hF hG hZ hPn hP hP10 hlm hs hk
  go_enter Try.func6, Try.ntmps6
  go_wp2_with (first
    | (go_at_call 8; refine (awake_any w).mono ?_; rintro e w1 ⟨rfl, hb1⟩; have HB1 := Lib.hid hb1; clear hb1)
    | (at_builtin; refine wpList_app _ rfl (.tmp 21) (.tmp 26) _ rfl w1.heap.size 9 i0 _ 16 Try.underlying22 hi hz hz1 hz2 rfl (.slice (some ⟨w1.heap.size, 0, none⟩) 0 0) 0 [] rfl (World.ownsRow_lit w1 #[] 0 (Nat.le_refl _) (by simp [maxLen]) rfl) A h c (kv (l.take h)) rfl HL2.out ((HR2.out.below HB1.out).alloc _) (kv_one _) h (Nat.zero_add _) (by unfold maxLen; omega) (by omega) (by simp) ?_; intro A2 c2 w2 hown2 hb2 _ _; have hb12 := HB1.out.trans ((((Below.refl _ w1).alloc (Nat.le_refl _) (.cells #[] 9)).trans hb2).mono HB1.out.size); have HB2 := Lib.hid hb12; have HO2 := Lib.hid hown2; clear hown2 hb2 hb12)
    | (go_at_call_of 10 A2; refine (BF.out w2 A2 c2 (own_cap1 HO2.out) (Rd.own HO2.out)).mono ?_; rintro e w3 ⟨A3, c3, rfl, hr3, hb3⟩; have hb13 := HB2.out.trans (hb3.mono HB2.out.size); have HB3 := Lib.hid hb13; have HR3 := Lib.hid hr3; clear hr3 hb3 hb13)
    | (at_builtin; refine wpList_app _ rfl (.tmp 30) (.tmp 31) _ rfl w3.heap.size 9 i0 _ 16 Try.underlying22 hi hz hz1 hz2 rfl (.slice (some ⟨w3.heap.size, 0, none⟩) 0 0) 0 [] rfl (World.ownsRow_lit w3 #[] 0 (Nat.le_refl _) (by simp [maxLen]) rfl) A n c (kv l) rfl HL1.out ((HR.out.below HB3.out).alloc _) (kv_one _) n (Nat.zero_add _) (by unfold maxLen; omega) (by omega) (by simp) ?_; intro A5 c5 w5 hown5 hb5 _ _; have hb35 := (((Below.refl _ w3).alloc (Nat.le_refl _) (.cells #[] 9)).trans hb5); have HR35 := Lib.hid (HR3.out.below hb35); have HB5 := Lib.hid (HB3.out.trans (hb35.mono HB3.out.size)); have HO5 := Lib.hid hown5; clear hown5 hb5 hb35)
    | (go_at_call_of 10 A5; refine (BG.out w5 A5 c5 (own_cap1 HO5.out) (Rd.own HO5.out)).mono ?_; rintro e w6 ⟨A6, c6, rfl, hr6, hb6⟩; have HR36 := Lib.hid (HR35.out.below hb6); have HB6 := Lib.hid (HB5.out.trans (hb6.mono HB5.out.size)); have HR6 := Lib.hid hr6; clear hr6 hb6)
    | (go_at_call 10; refine (BZ.out w6).mono ?_; rintro e w7 ⟨A7, c7, rfl, hr7, hb7⟩; have HR37 := Lib.hid (HR36.out.below hb7); have HR67 := Lib.hid (HR6.out.below hb7); have HB7 := Lib.hid (HB6.out.trans (hb7.mono HB6.out.size)); have HR7 := Lib.hid hr7; clear hr7 hb7)
    | (go_at_call_of 14 A7; refine (YZ.out w7 A7 c7 HR7.out).mono ?_; rintro e w8 ⟨rfl, hb8⟩; have HR38 := Lib.hid (HR37.out.below hb8); have HR68 := Lib.hid (HR67.out.below hb8); have HB8 := Lib.hid (HB7.out.trans (hb8.mono HB7.out.size)); clear hb8)
    | (go_at_call_of 14 A6; refine (YG.out w8 A6 c6 HR68.out).mono ?_; rintro e w9 ⟨rfl, hb9⟩; have HR39 := Lib.hid (HR38.out.below hb9); have HB9 := Lib.hid (HB8.out.trans (hb9.mono HB8.out.size)); clear hb9)
    | (go_at_call_of 14 A3; refine (YF.out w9 A3 c3 HR39.out).mono ?_; rintro e w10 ⟨rfl, hb10⟩; have HB10 := Lib.hid (HB9.out.trans (hb10.mono HB9.out.size)); clear hb10))
  · go_ret
    exact Yes.mk HB9.out
  · rename_i htg
    obtain rfl : tF = false := by
      cases tF with
      | false => rfl
      | true => exact absurd (HI.out rfl) htg
    go_ret
    exact Yes.mk HB10.out
set_option maxRecDepth 100000 in
set_option maxHeartbeats 1000000 in
theorem tells_long {l : List ByteArray} (h6 : 6 < n) (hlm : l.length = 6) (hhm : 3 ≤ 6) (hM : 6 ≤ 6) (hMc : 6 ≤ c) (hr : Rd w A (kv l)) (hs : ∀ s ∈ l, s.size ≤ maxLen) (hk : key.size ≤ maxLen) :
    Calls Try.prog 6 #[.slice A n c, .int .i64 per, .string key] w (Yes w) := by
  obtain ⟨i0, hi, hz, hz1, hz2⟩ := info_parts info_str
  obtain ⟨u, hu⟩ : ∃ u : Nat, IntKind.u64.wrap per = (u : Int) := by
    refine ⟨(IntKind.u64.wrap per).toNat, ?_⟩
    have : 0 ≤ IntKind.u64.wrap per := by rw [IntKind.wrap_u64]; omega
    omega
  obtain ⟨P, hP⟩ : ∃ P : Int, (u : Int) % 10 + 1 = P := ⟨_, rfl⟩
  have hP10 : P ≤ 10 := by omega
  have hPn : P = (u : Int) % 10 + 1 := hP.symm
  have hF9 : (filt ((l.take 3).map (·.toList)) P).length = 9 := filt9 (by rw [List.length_take]; omega) hP10
  have hG9 : (filt (l.map (·.toList)) P).length = 9 := filt9 (by omega) hP10
  have hZ9 : (filt (([] : List ByteArray).map (·.toList)) P).length = 9 := filt9 (by simp) hP10
  have hZt : may (filt (([] : List ByteArray).map (·.toList)) P) key.toList = false := may_none P key.toList
  have himp : may (filt ((l.take 3).map (·.toList)) P) key.toList = true → may (filt (l.map (·.toList)) P) key.toList = true := fun h1 => by
    rw [List.map_take] at h1
    exact may_fewer 3 (by rw [List.length_map]; omega) hP10 _ h1
  obtain ⟨F, hF⟩ : ∃ F, F = filt ((l.take 3).map (·.toList)) P := ⟨_, rfl⟩
  obtain ⟨G, hG⟩ : ∃ G, G = filt (l.map (·.toList)) P := ⟨_, rfl⟩
  obtain ⟨Z, hZ⟩ : ∃ Z, Z = filt (([] : List ByteArray).map (·.toList)) P := ⟨_, rfl⟩
  have bF : ∀ W B d, 3 ≤ d → Rd W B (kv (l.take 3)) → Calls Try.prog 10 #[.slice B 3 d, .int .i64 ((u : Int) % 10 + 1)] W fun e w' => ∃ A c, e = .returned (.slice A 9 c) ∧ Rd w' A (bv F) ∧ Below W.heap.size W w' := fun W B d h1 h2 => by
    rw [hF, ← hPn]
    exact build9 (fun s hx => hs s (List.mem_of_mem_take hx)) (by rw [List.length_take]; omega) (by omega) h1 hP10 h2
  have bG : ∀ W B d, 6 ≤ d → Rd W B (kv l) → Calls Try.prog 10 #[.slice B 6 d, .int .i64 ((u : Int) % 10 + 1)] W fun e w' => ∃ A c, e = .returned (.slice A 9 c) ∧ Rd w' A (bv G) ∧ Below W.heap.size W w' := fun W B d h1 h2 => by
    rw [hG, ← hPn]
    exact build9 hs hlm hM h1 hP10 h2
  have bZ : ∀ W, Calls Try.prog 10 #[.slice none 0 0, .int .i64 ((u : Int) % 10 + 1)] W fun e w' => ∃ A c, e = .returned (.slice A 9 c) ∧ Rd w' A (bv Z) ∧ Below W.heap.size W w' := fun W => by
    rw [hZ, ← hPn]
    exact build9 (l := []) (fun s hx => by cases hx) rfl (by omega) (Nat.le_refl _) hP10 Rd.nil
  rw [← hF] at hF9 himp
  rw [← hG] at hG9 himp
  rw [← hZ] at hZ9 hZt
  obtain ⟨tF, htF⟩ : ∃ t, may F key.toList = t := ⟨_, rfl⟩
  obtain ⟨tG, htG⟩ : ∃ t, may G key.toList = t := ⟨_, rfl⟩
  have yF := fun W B d (h1 : Rd W B (bv F)) => may9 (d := d) hF9 hk htF h1
  have yG := fun W B d (h1 : Rd W B (bv G)) => may9 (d := d) hG9 hk htG h1
  have yZ := fun W B d (h1 : Rd W B (bv Z)) => may9 (d := d) hZ9 hk hZt h1
  rw [htF, htG] at himp
  have hr2 : Rd w A (kv (l.take 3)) := by rw [← kv_take]; exact hr.take _
  have hl2 : (kv (l.take 3)).length = 3 := by rw [kv_len, List.length_take]; omega
  have hl1 : (kv l).length = 6 := by rw [kv_len]; exact hlm
  have hcH : 3 ≤ c := by omega
  have k6 : (6 : Int) < (n : Int) := by omega
  have BF := Lib.hid bF
  have BG := Lib.hid bG
  have BZ := Lib.hid bZ
  have YF := Lib.hid yF
  have YG := Lib.hid yG
  have YZ := Lib.hid yZ
  have HR2 := Lib.hid hr2
  have HR := Lib.hid hr
  have HL2 := Lib.hid hl2
  have HL1 := Lib.hid hl1
  have HI := Lib.hid himp
  clear bF bG bZ yF yG yZ hr2 hr hl2 hl1 himp hF9 hG9 hZ9 hZt htF htG hF hG hZ hPn hP hP10 hlm hs hk
  go_enter Try.func6, Try.ntmps6
  go_wp2_with (first
    | (go_at_call 8; refine (awake_any w).mono ?_; rintro e w1 ⟨rfl, hb1⟩; have HB1 := Lib.hid hb1; clear hb1)
    | (at_builtin; refine wpList_app _ rfl (.tmp 21) (.tmp 26) _ rfl w1.heap.size 9 i0 _ 16 Try.underlying22 hi hz hz1 hz2 rfl (.slice (some ⟨w1.heap.size, 0, none⟩) 0 0) 0 [] rfl (World.ownsRow_lit w1 #[] 0 (Nat.le_refl _) (by simp [maxLen]) rfl) A 3 c (kv (l.take 3)) rfl HL2.out ((HR2.out.below HB1.out).alloc _) (kv_one _) 3 (Nat.zero_add _) (by unfold maxLen; omega) (by omega) (by simp) ?_; intro A2 c2 w2 hown2 hb2 _ _; have hb12 := HB1.out.trans ((((Below.refl _ w1).alloc (Nat.le_refl _) (.cells #[] 9)).trans hb2).mono HB1.out.size); have HB2 := Lib.hid hb12; have HO2 := Lib.hid hown2; clear hown2 hb2 hb12)
    | (go_at_call_of 10 A2; refine (BF.out w2 A2 c2 (own_cap1 HO2.out) (Rd.own HO2.out)).mono ?_; rintro e w3 ⟨A3, c3, rfl, hr3, hb3⟩; have hb13 := HB2.out.trans (hb3.mono HB2.out.size); have HB3 := Lib.hid hb13; have HR3 := Lib.hid hr3; clear hr3 hb3 hb13)
    | (at_builtin; refine wpList_app _ rfl (.tmp 30) (.tmp 31) _ rfl w3.heap.size 9 i0 _ 16 Try.underlying22 hi hz hz1 hz2 rfl (.slice (some ⟨w3.heap.size, 0, none⟩) 0 0) 0 [] rfl (World.ownsRow_lit w3 #[] 0 (Nat.le_refl _) (by simp [maxLen]) rfl) A 6 c (kv l) rfl HL1.out ((HR.out.below HB3.out).alloc _) (kv_one _) 6 (Nat.zero_add _) (by unfold maxLen; omega) (by omega) (by simp) ?_; intro A5 c5 w5 hown5 hb5 _ _; have hb35 := (((Below.refl _ w3).alloc (Nat.le_refl _) (.cells #[] 9)).trans hb5); have HR35 := Lib.hid (HR3.out.below hb35); have HB5 := Lib.hid (HB3.out.trans (hb35.mono HB3.out.size)); have HO5 := Lib.hid hown5; clear hown5 hb5 hb35)
    | (go_at_call_of 10 A5; refine (BG.out w5 A5 c5 (own_cap1 HO5.out) (Rd.own HO5.out)).mono ?_; rintro e w6 ⟨A6, c6, rfl, hr6, hb6⟩; have HR36 := Lib.hid (HR35.out.below hb6); have HB6 := Lib.hid (HB5.out.trans (hb6.mono HB5.out.size)); have HR6 := Lib.hid hr6; clear hr6 hb6)
    | (go_at_call 10; refine (BZ.out w6).mono ?_; rintro e w7 ⟨A7, c7, rfl, hr7, hb7⟩; have HR37 := Lib.hid (HR36.out.below hb7); have HR67 := Lib.hid (HR6.out.below hb7); have HB7 := Lib.hid (HB6.out.trans (hb7.mono HB6.out.size)); have HR7 := Lib.hid hr7; clear hr7 hb7)
    | (go_at_call_of 14 A7; refine (YZ.out w7 A7 c7 HR7.out).mono ?_; rintro e w8 ⟨rfl, hb8⟩; have HR38 := Lib.hid (HR37.out.below hb8); have HR68 := Lib.hid (HR67.out.below hb8); have HB8 := Lib.hid (HB7.out.trans (hb8.mono HB7.out.size)); clear hb8)
    | (go_at_call_of 14 A6; refine (YG.out w8 A6 c6 HR68.out).mono ?_; rintro e w9 ⟨rfl, hb9⟩; have HR39 := Lib.hid (HR38.out.below hb9); have HB9 := Lib.hid (HB8.out.trans (hb9.mono HB8.out.size)); clear hb9)
    | (go_at_call_of 14 A3; refine (YF.out w9 A3 c3 HR39.out).mono ?_; rintro e w10 ⟨rfl, hb10⟩; have HB10 := Lib.hid (HB9.out.trans (hb10.mono HB9.out.size)); clear hb10))
  · go_ret
    exact Yes.mk HB9.out
  · rename_i htg
    obtain rfl : tF = false := by
      cases tF with
      | false => rfl
      | true => exact absurd (HI.out rfl) htg
    go_ret
    exact Yes.mk HB10.out
theorem tells_any (hl : ks.length = n) (hnc : n ≤ c) (hr : Rd w A (kv ks)) (hs : ∀ s ∈ ks, s.size ≤ maxLen) (hk : key.size ≤ maxLen) :
    Calls Try.prog 6 #[.slice A n c, .int .i64 per, .string key] w (Yes w) := by
  rcases Nat.lt_or_ge 6 n with h6 | h6
  · exact tells_long (l := ks.take 6) h6 (by rw [List.length_take]; omega) (by omega) (Nat.le_refl _) (by omega) (by rw [← kv_take]; exact hr.take 6) (fun s h => hs s (List.mem_of_mem_take h)) hk
  · exact tells_short (h := n / 2) rfl hl (by omega) h6 hnc hr hs hk
end
end Bl
end Go.Proofs.Ytalmjpklfkjbmaa
