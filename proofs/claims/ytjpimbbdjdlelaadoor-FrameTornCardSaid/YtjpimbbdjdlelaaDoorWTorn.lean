/-
  WHAT IS PROVED: the call of FrameTorn answers true in whatever memory holds the table, and makes new memory alone. CONDITIONS: the slice of slices reads as the lists of bytes that are named, each no longer than 2^47 - 4096; the table lies where it is laid.
-/
import Derived.Test.YtjpimbbdjdlelaaDoorWalkH
import Derived.Test.YtjpimbbdjdlelaaDoorTorn
import Derived.BigRegion
namespace Go.Proofs.YtjpimbbdjdlelaaDoor
open Go Go.RowKit
namespace Fr

theorem info_int : (Tryd.prog.info? 3).map (fun i => (i.zero, i.size, i.bytes)) = some (some (.int .i64 0), 1, 8) := by kernel_rfl
/-- The place that the statement reckons. -/
theorem cut_of (x : Int) (m : Nat) (hm : m ≤ 200000) : ∃ a : Nat, wrap64 ((IntKind.u64.wrap x).tmod ((m : Int) + 1)) = (a : Int) ∧ a ≤ m := by
  obtain ⟨u, hu⟩ : ∃ u, IntKind.u64.wrap x = u := ⟨_, rfl⟩
  have hu0 : 0 ≤ u := by rw [← hu, IntKind.wrap_u64]; omega
  have h0 : 0 ≤ u % ((m : Int) + 1) := Int.emod_nonneg _ (by omega)
  have h1 : u % ((m : Int) + 1) < (m : Int) + 1 := Int.emod_lt_of_pos _ (by omega)
  rw [hu, IntWalk.rem_in _ _ hu0, IntWalk.wrap64_in (u % _) (by omega)]
  obtain ⟨r, hr⟩ := Int.eq_ofNat_of_zero_le h0
  exact ⟨r, hr, by omega⟩
theorem own_kept {w w' : World} {b b' e e' n n' : Nat} {v v' : Value} {xs xs' : List Value} (h : w.ownsRow b e 1 v n xs) (h' : w.ownsRow b' e' 1 v' n' xs') (hne : e ≠ e') (hg : w.grownBy w' v'.ownBlock) : w'.ownsRow b e 1 v n xs := h.kept hg (own_ne h h' hne)
theorem RdL.snoc {w : World} {us : List Value} {G : List (List UInt8)} (h : RdL w us G) {A : Option Addr} {n c : Nat} {l : List UInt8} (hl : l.length = n) (hc : n ≤ c) (hr : Rd w A (bv l)) : RdL w (us ++ [.slice A n c]) (G ++ [l]) := by
  refine ⟨by rw [List.length_append, List.length_append, h.1]; rfl, fun i v l' hv hl' => ?_⟩
  rcases Nat.lt_trichotomy i us.length with hi | hi | hi
  · rw [List.getElem?_append_left hi] at hv
    rw [List.getElem?_append_left (by rw [← h.1]; exact hi)] at hl'
    exact h.2 i v l' hv hl'
  · subst hi
    rw [List.getElem?_append_right (Nat.le_refl _), Nat.sub_self] at hv
    rw [h.1, List.getElem?_append_right (Nat.le_refl _), Nat.sub_self] at hl'
    simp only [List.getElem?_cons_zero, Option.some.injEq] at hv hl'
    subst hv hl'
    exact ⟨A, n, c, rfl, hl, hc, hr⟩
  · rw [List.getElem?_eq_none (by simp; omega)] at hv
    cases hv
theorem own_at {w : World} {base : Nat} {e : TypeId} {A : Option Addr} {n c : Nat} {xs : List Value} (h : w.ownsRow base e 1 (.slice A n c) n xs) (hn : 0 < n) : ∃ g, A = some ⟨g, 0, none⟩ ∧ base ≤ g ∧ g < w.heap.size := by
  rcases h.2 with ⟨_, h0⟩ | ⟨g, cap, cur, hv, h1, hg, _⟩
  · omega
  · injection hv with h3 h4 h5
    exact ⟨g, h3, h1, (Array.getElem?_eq_some_iff.1 hg).1⟩
/-- What stands behind the loop over the payloads. -/
def Kept (w wr : World) (m j : Nat) (v1 v2 v3 : Value) (us : List Value) (G : List (List UInt8)) : Prop :=
  wr.ownsRow w.heap.size 5 1 v1 m (bv (cat G)) ∧ wr.ownsRow w.heap.size 23 1 v2 j us ∧ wr.ownsRow w.heap.size 3 1 v3 j (endsOf G) ∧ Below w.heap.size w wr ∧ RdL w us G ∧ G.length = j ∧ ∀ p ∈ G, p.length ≤ 4096
theorem Kept.len {w wr : World} {m j : Nat} {v1 v2 v3 : Value} {us : List Value} {G : List (List UInt8)} (h : Kept w wr m j v1 v2 v3 us G) : (cat G).length = m := by
  have := h.1.1
  rw [bv_length] at this
  omega
theorem Kept.below {w wr w' : World} {m j : Nat} {v1 v2 v3 : Value} {us : List Value} {G : List (List UInt8)} (h : Kept w wr m j v1 v2 v3 us G) (hb : Below wr.heap.size wr w') : Kept w w' m j v1 v2 v3 us G :=
  ⟨own_below h.1 hb (Nat.le_refl _), own_below h.2.1 hb (Nat.le_refl _), own_below h.2.2.1 hb (Nat.le_refl _), h.2.2.2.1.trans (hb.mono h.2.2.2.1.size), h.2.2.2.2⟩
/-- A frame more. -/
theorem Kept.b {w wr w' : World} {m j m' : Nat} {v1 v1' v2 v3 : Value} {us : List Value} {G : List (List UInt8)} (h : Kept w wr m j v1 v2 v3 us G) {l : List UInt8} (ho : w'.ownsRow w.heap.size 5 1 v1' m' (bv (cat G) ++ bv (sealOf l))) (hb : Below w.heap.size wr w') (hg : wr.grownBy w' v1.ownBlock) :
    w'.ownsRow w.heap.size 5 1 v1' m' (bv (cat (G ++ [l]))) ∧ w'.ownsRow w.heap.size 23 1 v2 j us ∧ w'.ownsRow w.heap.size 3 1 v3 j (endsOf G) ∧ Below w.heap.size w w' :=
  ⟨by rw [cat_snoc, bv_append]; exact ho, own_kept h.2.1 h.1 (by decide) hg, own_kept h.2.2.1 h.1 (by decide) hg, h.2.2.2.1.trans hb⟩

set_option maxRecDepth 100000 in
set_option maxHeartbeats 6000000 in
theorem torn_walk (A : Option Addr) (n c : Nat) (vs : List Value) (ls : List (List UInt8)) (x : Int) (w : World) (hl : ls.length = n) (_hnc : n ≤ c) (hr : Rd w A vs) (hrl : RdL w vs ls) (hlb : ∀ l ∈ ls, l.length ≤ 140737488351232) (hx1 : -9223372036854775808 ≤ x) (hx2 : x ≤ 9223372036854775807) (ht : Tab w) :
    Calls Tryd.prog 8 #[.slice A n c, .int .i64 x] w (Yes w) := by
  obtain ⟨i0, hi, hz, hz1, hz2⟩ := info_parts info_u8
  obtain ⟨i1, hi1, hy, hy1, hy2⟩ := info_parts info_sl
  obtain ⟨i3, hi3, hv, hv1, hv2⟩ := info_parts info_int
  have HL := Lib.hid hl
  have HR := Lib.hid hr
  have HRL := Lib.hid hrl
  have HLB := Lib.hid hlb
  have HT := Lib.hid ht
  have HX1 := Lib.hid hx1
  have HX2 := Lib.hid hx2
  clear hl hr hrl hlb ht hx1 hx2
  go_enter Tryd.func8, Tryd.ntmps8
  go_wp2_with (go_at_call 11; refine (awake_any w HT.out).mono ?_; rintro e w1 ⟨rfl, hb1⟩)
  go_loopw [5, 6, 7, 8] (fun b g z i wr => ∃ (k j m c1 c2 c3 : Nat) (A1 A2 A3 : Option Addr) (us : List Value) (G : List (List UInt8)), k ≤ 40 ∧ k ≤ n ∧ j ≤ k ∧ m ≤ 4102 * k ∧ i = .int .i64 k ∧ b = .slice A1 m c1 ∧ g = .slice A2 j c2 ∧ z = .slice A3 j c3 ∧ m ≤ c1 ∧ j ≤ c2 ∧ Hid (Kept w1 wr m j (.slice A1 m c1) (.slice A2 j c2) (.slice A3 j c3) us G)) (fun _ _ _ i _ => 40 - (intOf i).toNat)
  case atStart => exact ⟨0, 0, 0, 0, 0, 0, none, none, none, [], [], by omega, by omega, by omega, by omega, rfl, rfl, rfl, rfl, by omega, by omega, ⟨World.ownsRow_nil _ _ _ _, World.ownsRow_nil _ _ _ _, World.ownsRow_nil _ _ _ _, Below.refl _ _, ⟨rfl, fun i v l h => by simp at h⟩, rfl, by simp⟩⟩
  case round =>
    obtain ⟨k, j, m, c1, c2, c3, A1, A2, A3, us, G, hk40, hkn, hjk, hm, rfl, rfl, rfl, rfl, hmc, hjc, HK⟩ := hrel
    by_cases hend : k < n ∧ k < 40
    · obtain ⟨hkn', hk40'⟩ := hend
      obtain ⟨b0, o0, rfl, hb0, hca⟩ := HR.out.at_ (i := k) (by rw [HRL.out.1, HL.out]; exact hkn')
      obtain ⟨Ak, nk, ck, h1, h2, h3, h4⟩ := HRL.out.2 k _ _ (List.getElem?_eq_getElem (by rw [HRL.out.1, HL.out]; exact hkn')) (List.getElem?_eq_getElem (by rw [HL.out]; exact hkn'))
      obtain ⟨lk, hlk⟩ : ∃ lk, lk = ls[k]'(by rw [HL.out]; exact hkn') := ⟨_, rfl⟩
      have hlkb : nk ≤ 140737488351232 := by rw [← h2]; exact HLB.out _ (List.getElem_mem _)
      rw [← hlk] at h2 h4
      rw [h1] at hca
      have hbw : Below w.heap.size w wr := hb1.trans (HK.out.2.2.2.1.mono hb1.size)
      have hcw : wr.cell? ⟨b0, o0 + k, none⟩ = some (.slice Ak nk ck) := (hbw.cell (p := ⟨b0, o0 + k, none⟩) hb0).trans hca
      have H2 := Lib.hid h2
      have H4 := Lib.hid (h4.below hbw)
      have H41 := Lib.hid (h4.below hb1)
      have HCA := Lib.hid hca
      clear h1 h2 h4 hlk hca
      have hk1 : (k : Int) < (n : Int) := by omega
      have hk2 : decide ((k : Int) < 40) = true := decide_eq_true (by omega)
      by_cases hs : 4096 < nk
      · go_wp2_with (first
          | (go_at_call 14; refine (own_any Ak nk ck lk wr H2.out H4.out (by omega)).mono ?_; rintro e w2 ⟨v, rfl, A4, m4, c4, rfl, hm4, hc4, hown4, hb4⟩; obtain rfl := H2.out.symm.trans hm4; clear hm4)
          | (go_at_call 23; refine (Fseal_no A4 nk c4 w2 hs).mono ?_; rintro e w3 ⟨rfl, rfl⟩))
        go_roundw
        case rel => exact ⟨k + 1, j, m, c1, c2, c3, A1, A2, A3, us, G, by omega, by omega, by omega, by omega, by go_num, rfl, rfl, rfl, hmc, hjc, HK.out.below hb4⟩
        case measure => simp [intOf]; omega
      · obtain ⟨S, hS⟩ : ∃ S, S = sealOf lk := ⟨_, rfl⟩
        have hSl : S.length ≤ 4102 := by rw [hS]; exact sealOf_size (by rw [H2.out]; omega)
        have hfs := fun (A : Option Addr) (c : Nat) (W : World) (h1 : Rd W A (bv lk)) (h2 : Tab W) => Fseal_yes A nk c lk W H2.out h1 (by omega) h2
        unfold SealRet at hfs
        rw [← hS] at hfs
        have HFS := Lib.hid hfs
        have HS := Lib.hid hS
        clear hfs hS
        go_wp2_with (first
          | (go_at_call 14; refine (own_any Ak nk ck lk wr H2.out H4.out (by omega)).mono ?_; rintro e w2 ⟨v, rfl, A4, m4, c4, rfl, hm4, hc4, hown4, hb4⟩; obtain rfl := H2.out.symm.trans hm4; have hbw2 : Below w.heap.size w w2 := hbw.trans (hb4.mono hbw.size); clear hm4)
          | (go_at_call 23; refine (HFS.out A4 c4 w2 (Rd.own hown4) (HT.out.below hbw2)).mono ?_; rintro e w3 ⟨v, rfl, A5, m5, c5, rfl, hm5, hc5, hown5, hb5⟩; have HM5 := Lib.hid hm5; have hm5b : m5 ≤ 4102 := Nat.le_trans (Nat.le_of_eq hm5.symm) hSl; have hbw3 : Below w.heap.size w w3 := hbw2.trans (hb5.mono hbw2.size); have HK3 := Lib.hid (HK.out.below (hb4.trans (hb5.mono hb4.size))); clear hm5)
          | (at_builtin; refine wpList_app _ rfl (.tmp 40) (.tmp 41) _ rfl w1.heap.size 5 i0 _ 1 Tryd.underlying23 hi hz hz1 hz2 rfl (.slice A1 m c1) m (bv (cat G)) rfl HK3.out.1 A5 m5 c5 (bv S) rfl (by rw [bv_length]; exact HM5.out) (Rd.own hown5) (bv_one _) (m + m5) rfl (by unfold maxLen; omega) (by omega) HK3.out.2.2.2.1.size ?_; intro A6 c6 w4 hown6 hb6 hg6 _; have HK4 := Lib.hid (HK3.out.b (l := lk) (by rw [← HS.out]; exact hown6) hb6 hg6); have hcw4 := ((hbw3.trans (hb6.mono hb1.size)).cell (p := ⟨b0, o0 + k, none⟩) hb0).trans HCA.out)
          | (at_builtin; refine wpList_app _ rfl (.tmp 43) (.tmp 48) _ rfl w1.heap.size 23 i1 _ 24 Tryd.underlying45 hi1 hy hy1 hy2 rfl (.slice A2 j c2) j us rfl (HK4.out.2.1.alloc _) (some ⟨w4.heap.size, 0, none⟩) 1 1 [_] rfl rfl (Rd.one _ _ _ _ _ rfl) (by intro u hu; simp at hu; subst hu; rfl) (j + 1) rfl (by unfold maxLen; omega) (by omega) (by have := HK4.out.2.2.2.size; simp; omega) ?_; intro A7 c7 w5 hown7 hb7 hg7 _; have hk5b := own_kept (HK4.out.1.alloc _) (HK4.out.2.1.alloc _) (by decide) hg7; have hk5e := own_kept (HK4.out.2.2.1.alloc _) (HK4.out.2.1.alloc _) (by decide) hg7; have hb5w := (HK4.out.2.2.2.alloc HK4.out.2.2.2.size _).trans hb7)
          | (at_builtin; refine wpList_app _ rfl (.tmp 50) (.tmp 53) _ rfl w1.heap.size 3 i3 _ 8 Tryd.underlying49 hi3 hv hv1 hv2 rfl (.slice A3 j c3) j (endsOf G) rfl (hk5e.alloc _) (some ⟨w5.heap.size, 0, none⟩) 1 1 [_] rfl rfl (Rd.one _ _ _ _ _ rfl) (by intro u hu; simp at hu; subst hu; rfl) (j + 1) rfl (by unfold maxLen; omega) (by omega) (by have := hb5w.size; simp; omega) ?_; intro A8 c8 w6 hown8 hb8 hg8 _))
        have hk6b := own_kept (hk5b.alloc _) (hk5e.alloc _) (by decide) hg8
        have hk6g := own_kept (hown7.alloc _) (hk5e.alloc _) (by decide) hg8
        have hb6w := (hb5w.alloc hb5w.size _).trans hb8
        go_roundw
        case rel =>
          refine ⟨k + 1, j + 1, m + m5, c6, c7, c8, A6, A7, A8, us ++ [.slice Ak nk ck], G ++ [lk], by omega, by omega, by omega, by omega, by go_num, rfl, rfl, rfl, own_cap hown6, own_cap hown7, ⟨hk6b, hk6g, ?_, hb6w, HK.out.2.2.2.2.1.snoc H2.out h3 H41.out, ?_, ?_⟩⟩
          · rw [endsOf_snoc, HK.out.len, ← HS.out, HM5.out]
            exact hown8
          · rw [List.length_append, HK.out.2.2.2.2.2.1]; rfl
          · intro p hp
            rcases List.mem_append.1 hp with hp | hp
            · exact HK.out.2.2.2.2.2.2 p hp
            · rw [List.mem_singleton] at hp
              rw [hp, H2.out]; omega
        case measure => simp [intOf]; omega
    · have hmb : m ≤ 200000 := by omega
      obtain ⟨a, ha, ham⟩ := cut_of x m hmb
      have hexit : (¬ k < n) ∨ (k < n ∧ k = 40) := by omega
      clear hend
      rcases hexit with hk | ⟨hk, rfl⟩
      all_goals
        go_wp2
        rw [ha]
        clear ha
        go_loopw [11, 12] (fun kk ww wr2 => ∃ (q e r : Nat), q ≤ j ∧ e ≤ a ∧ kk = .int .i64 q ∧ ww = .int .i64 e ∧ wr2 = wr.drewN r ∧ Hid (e = (cat (G.take q)).length)) (fun kk _ _ => j - (intOf kk).toNat)
        case atStart => exact ⟨0, 0, 0, Nat.zero_le _, Nat.zero_le _, rfl, rfl, rfl, Lib.hid rfl⟩
        case round =>
          obtain ⟨q, e, r, hq, hea, rfl, rfl, rfl, HE⟩ := hrel
          by_cases hqj : q < j
          · obtain ⟨g3, rfl, _, hg3⟩ := own_at HK.out.2.2.1 (by omega)
            have hc := HK.out.2.2.1.cellAt q (by omega)
            rw [endsOf_get (by rw [HK.out.2.2.2.2.2.1]; exact hqj)] at hc
            obtain ⟨E, hE⟩ : ∃ E, E = (cat (G.take (q + 1))).length := ⟨_, rfl⟩
            rw [← hE] at hc
            have HEE := Lib.hid hE
            clear hE
            by_cases hEa : E ≤ a
            · go_wp2
              go_roundw
              case rel => exact ⟨q + 1, E, _, by omega, hEa, by go_num, rfl, rfl, HEE⟩
              case measure => simp [intOf]; omega
            · have hscan := scan_cut G HK.out.2.2.2.2.2.2 q a (by rw [HK.out.2.2.2.2.2.1]; exact hq) (by rw [← HE.out]; exact hea) (fun _ => by rw [← HEE.out]; omega)
              rw [← HE.out] at hscan
              obtain ⟨X, hX⟩ : ∃ X, X = (cat G).take a := ⟨_, rfl⟩
              obtain ⟨Y, hY⟩ : ∃ Y, Y = cat G := ⟨_, rfl⟩
              obtain ⟨T, hT⟩ : ∃ T, T = G.take q := ⟨_, rfl⟩
              have hall := scan_all HK.out.2.2.2.2.2.2
              have hYl : Y.length = m := by rw [hY]; exact HK.out.len
              have hXl : X.length = a := by rw [hX, List.length_take, HK.out.len]; omega
              have hGl : G.length = j := HK.out.2.2.2.2.2.1
              have hTl : T.length = q := by rw [hT, List.length_take, hGl]; omega
              have hrX : Rd wr A1 (bv X) := by rw [hX, ← bv_take]; exact (Rd.own HK.out.1).take a
              have hrY : Rd wr A1 (bv Y) := by rw [hY]; exact Rd.own HK.out.1
              rw [← hY, hYl] at hall
              rw [← hX, ← hT] at hscan
              have hsx1 : (scan X).1 = T := by rw [hscan]
              have hsx2 : (scan X).2 = e := by rw [hscan]
              have hsy1 : (scan Y).1 = G := by rw [hall]
              have hsy2 : (scan Y).2 = m := by rw [hall]
              have hsx := fun (A : Option Addr) (c : Nat) (W : World) (h1 : Rd W A (bv X)) (h2 : a ≤ c) (h3 : Tab W) => Fscan_any A a c X W hXl h1 h2 (by omega) h3
              have hsy := fun (A : Option Addr) (c : Nat) (W : World) (h1 : Rd W A (bv Y)) (h2 : m ≤ c) (h3 : Tab W) => Fscan_any A m c Y W hYl h1 h2 (by omega) h3
              unfold ScanRet at hsx hsy
              rw [hsx1, hsx2] at hsx
              rw [hsy1, hsy2] at hsy
              obtain ⟨hc1a, hc1b⟩ := cut_to (P := Tryd.prog) 23 5 i0 Tryd.underlying23 rfl hi hz1 A1 m c1 a .i64 (a : Int) rfl (by omega)
              obtain ⟨hc2a, hc2b⟩ := cut_to (P := Tryd.prog) 45 23 i1 Tryd.underlying45 rfl hi1 hy1 A2 j c2 q .i64 (q : Int) rfl (by omega)
              have hbw : Below w.heap.size w wr := hb1.trans (HK.out.2.2.2.1.mono hb1.size)
              have hgr : Rd wr A2 us := Rd.own HK.out.2.1
              have hgr2 := hgr.take q
              have hgl : RdL wr us G := HK.out.2.2.2.2.1.below HK.out.2.2.2.1
              have hgl2 := hgl.take q
              rw [← hT] at hgl2
              have HSX := Lib.hid hsx
              have HSY := Lib.hid hsy
              have HXL := Lib.hid hXl
              have HYL := Lib.hid hYl
              have HTL := Lib.hid hTl
              have HGL := Lib.hid hGl
              have HRX := Lib.hid hrX
              have HRY := Lib.hid hrY
              have HGR := Lib.hid hgr
              have HGR2 := Lib.hid hgr2
              have HGLL := Lib.hid hgl
              have HGL2 := Lib.hid hgl2
              clear hall hscan hX hY hT hYl hXl hGl hTl hrX hrY hsx1 hsx2 hsy1 hsy2 hsx hsy hgr hgr2 hgl hgl2
              go_wp2_with (first
                | (go_at_call 14; ((with_reducible refine (own_any A1 a c1 X _ HXL.out (HRX.out.drewN _) (by omega)).mono ?_); rintro e2 w2 ⟨v, rfl, A4, m4, c4, rfl, hm4, hc4, hown4, hb4⟩; obtain rfl := HXL.out.symm.trans hm4; have hbr2 := below_of_drewN hb4; have hbw2 : Below w.heap.size w w2 := hbw.trans (hbr2.mono hbw.size); clear hm4 hb4))
                | (go_at_call 27; ((with_reducible refine (HSX.out A4 c4 w2 (Rd.own hown4) hc4 (HT.out.below hbw2)).mono ?_); rintro e3 w3 ⟨A5, k5, c5, vs5, rfl, hk5, hc5, hown5, hol5, hb5⟩; obtain rfl := HTL.out.symm.trans hk5; have hbr3 := hbr2.trans (hb5.mono hbr2.size); clear hk5))
                | (go_at_call 14; ((with_reducible refine (own_any A1 m c1 Y w3 HYL.out (HRY.out.below hbr3) (by omega)).mono ?_); rintro e4 w4 ⟨v, rfl, A6, m6, c6, rfl, hm6, hc6, hown6, hb6⟩; obtain rfl := HYL.out.symm.trans hm6; have hbr4 := hbr3.trans (hb6.mono hbr3.size); clear hm6))
                | (go_at_call 27; ((with_reducible refine (HSY.out A6 c6 w4 (Rd.own hown6) hc6 (HT.out.below (hbw.trans (hbr4.mono hbw.size)))).mono ?_); rintro e5 w5 ⟨A7, k7, c7, vs7, rfl, hk7, hc7, hown7, hol7, hb7⟩; obtain rfl := HGL.out.symm.trans hk7; have hbr5 := hbr4.trans (hb7.mono hbr4.size); have hb35 := hb6.trans (hb7.mono hb6.size); clear hk7))
                | (go_at_call 29; ((with_reducible refine (same_eq A5 A2 q c5 c2 vs5 (us.take q) T w5 HTL.out ((Rd.own hown5).below hb35) (hol5.reads.below hb35) (HGR2.out.below hbr5) (HGL2.out.below hbr5) (by omega)).mono ?_); rintro e6 w6 ⟨rfl, hb8⟩; have hbr6 := hbr5.trans (hb8.mono hbr5.size)))
                | (go_at_call 29; ((with_reducible refine (same_eq A7 A2 j c7 c2 vs7 us G w6 HGL.out ((Rd.own hown7).below hb8) (hol7.reads.below hb8) (HGR.out.below hbr6) (HGLL.out.below hbr6) (by omega)).mono ?_); rintro e7 w7 ⟨rfl, hb9⟩)))
              go_ret
              exact Yes.mk (hbw.trans ((hbr6.trans (hb9.mono hbr6.size)).mono hbw.size))
          · have hscan := scan_cut G HK.out.2.2.2.2.2.2 q a (by rw [HK.out.2.2.2.2.2.1]; exact hq) (by rw [← HE.out]; exact hea) (fun h => absurd h (by rw [HK.out.2.2.2.2.2.1]; exact hqj))
            rw [← HE.out] at hscan
            obtain ⟨X, hX⟩ : ∃ X, X = (cat G).take a := ⟨_, rfl⟩
            obtain ⟨Y, hY⟩ : ∃ Y, Y = cat G := ⟨_, rfl⟩
            obtain ⟨T, hT⟩ : ∃ T, T = G.take q := ⟨_, rfl⟩
            have hall := scan_all HK.out.2.2.2.2.2.2
            have hYl : Y.length = m := by rw [hY]; exact HK.out.len
            have hXl : X.length = a := by rw [hX, List.length_take, HK.out.len]; omega
            have hGl : G.length = j := HK.out.2.2.2.2.2.1
            have hTl : T.length = q := by rw [hT, List.length_take, hGl]; omega
            have hrX : Rd wr A1 (bv X) := by rw [hX, ← bv_take]; exact (Rd.own HK.out.1).take a
            have hrY : Rd wr A1 (bv Y) := by rw [hY]; exact Rd.own HK.out.1
            rw [← hY, hYl] at hall
            rw [← hX, ← hT] at hscan
            have hsx1 : (scan X).1 = T := by rw [hscan]
            have hsx2 : (scan X).2 = e := by rw [hscan]
            have hsy1 : (scan Y).1 = G := by rw [hall]
            have hsy2 : (scan Y).2 = m := by rw [hall]
            have hsx := fun (A : Option Addr) (c : Nat) (W : World) (h1 : Rd W A (bv X)) (h2 : a ≤ c) (h3 : Tab W) => Fscan_any A a c X W hXl h1 h2 (by omega) h3
            have hsy := fun (A : Option Addr) (c : Nat) (W : World) (h1 : Rd W A (bv Y)) (h2 : m ≤ c) (h3 : Tab W) => Fscan_any A m c Y W hYl h1 h2 (by omega) h3
            unfold ScanRet at hsx hsy
            rw [hsx1, hsx2] at hsx
            rw [hsy1, hsy2] at hsy
            obtain ⟨hc1a, hc1b⟩ := cut_to (P := Tryd.prog) 23 5 i0 Tryd.underlying23 rfl hi hz1 A1 m c1 a .i64 (a : Int) rfl (by omega)
            obtain ⟨hc2a, hc2b⟩ := cut_to (P := Tryd.prog) 45 23 i1 Tryd.underlying45 rfl hi1 hy1 A2 j c2 q .i64 (q : Int) rfl (by omega)
            have hbw : Below w.heap.size w wr := hb1.trans (HK.out.2.2.2.1.mono hb1.size)
            have hgr : Rd wr A2 us := Rd.own HK.out.2.1
            have hgr2 := hgr.take q
            have hgl : RdL wr us G := HK.out.2.2.2.2.1.below HK.out.2.2.2.1
            have hgl2 := hgl.take q
            rw [← hT] at hgl2
            have HSX := Lib.hid hsx
            have HSY := Lib.hid hsy
            have HXL := Lib.hid hXl
            have HYL := Lib.hid hYl
            have HTL := Lib.hid hTl
            have HGL := Lib.hid hGl
            have HRX := Lib.hid hrX
            have HRY := Lib.hid hrY
            have HGR := Lib.hid hgr
            have HGR2 := Lib.hid hgr2
            have HGLL := Lib.hid hgl
            have HGL2 := Lib.hid hgl2
            clear hall hscan hX hY hT hYl hXl hGl hTl hrX hrY hsx1 hsx2 hsy1 hsy2 hsx hsy hgr hgr2 hgl hgl2
            go_wp2_with (first
              | (go_at_call 14; ((with_reducible refine (own_any A1 a c1 X _ HXL.out (HRX.out.drewN _) (by omega)).mono ?_); rintro e2 w2 ⟨v, rfl, A4, m4, c4, rfl, hm4, hc4, hown4, hb4⟩; obtain rfl := HXL.out.symm.trans hm4; have hbr2 := below_of_drewN hb4; have hbw2 : Below w.heap.size w w2 := hbw.trans (hbr2.mono hbw.size); clear hm4 hb4))
              | (go_at_call 27; ((with_reducible refine (HSX.out A4 c4 w2 (Rd.own hown4) hc4 (HT.out.below hbw2)).mono ?_); rintro e3 w3 ⟨A5, k5, c5, vs5, rfl, hk5, hc5, hown5, hol5, hb5⟩; obtain rfl := HTL.out.symm.trans hk5; have hbr3 := hbr2.trans (hb5.mono hbr2.size); clear hk5))
              | (go_at_call 14; ((with_reducible refine (own_any A1 m c1 Y w3 HYL.out (HRY.out.below hbr3) (by omega)).mono ?_); rintro e4 w4 ⟨v, rfl, A6, m6, c6, rfl, hm6, hc6, hown6, hb6⟩; obtain rfl := HYL.out.symm.trans hm6; have hbr4 := hbr3.trans (hb6.mono hbr3.size); clear hm6))
              | (go_at_call 27; ((with_reducible refine (HSY.out A6 c6 w4 (Rd.own hown6) hc6 (HT.out.below (hbw.trans (hbr4.mono hbw.size)))).mono ?_); rintro e5 w5 ⟨A7, k7, c7, vs7, rfl, hk7, hc7, hown7, hol7, hb7⟩; obtain rfl := HGL.out.symm.trans hk7; have hbr5 := hbr4.trans (hb7.mono hbr4.size); have hb35 := hb6.trans (hb7.mono hb6.size); clear hk7))
              | (go_at_call 29; ((with_reducible refine (same_eq A5 A2 q c5 c2 vs5 (us.take q) T w5 HTL.out ((Rd.own hown5).below hb35) (hol5.reads.below hb35) (HGR2.out.below hbr5) (HGL2.out.below hbr5) (by omega)).mono ?_); rintro e6 w6 ⟨rfl, hb8⟩; have hbr6 := hbr5.trans (hb8.mono hbr5.size)))
              | (go_at_call 29; ((with_reducible refine (same_eq A7 A2 j c7 c2 vs7 us G w6 HGL.out ((Rd.own hown7).below hb8) (hol7.reads.below hb8) (HGR.out.below hbr6) (HGLL.out.below hbr6) (by omega)).mono ?_); rintro e7 w7 ⟨rfl, hb9⟩)))
            go_ret
            exact Yes.mk (hbw.trans ((hbr6.trans (hb9.mono hbr6.size)).mono hbw.size))
end Fr
end Go.Proofs.YtjpimbbdjdlelaaDoor
