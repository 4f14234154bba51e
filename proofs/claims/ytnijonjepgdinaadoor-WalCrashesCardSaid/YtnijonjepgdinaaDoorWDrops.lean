/-
  WHAT IS PROVED: what the law WalDrops answers. CONDITIONS: the payloads stand in memory as named; the library's variables lie as laid.
-/
import Derived.Test.YtnijonjepgdinaaDoorWLawB
namespace Go.Proofs.YtnijonjepgdinaaDoor
open Go Go.RowKit Go.Maps Go.Proofs.YtnijonjepgdinaaDoor.Fr Go.Proofs.YtnijonjepgdinaaDoor.Dr
namespace Wl

theorem ints_at {w : World} {A : Option Addr} {ns : List Int} (h : Rd w A (ints ns)) {i : Nat} {z : Int} (hi : ns[i]? = some z) : ∃ gl ol, A = some ⟨gl, ol, none⟩ ∧ gl < w.heap.size ∧ w.cell? ⟨gl, ol + i, none⟩ = some (.int .i64 z) := by
  have hlt : i < ns.length := (List.getElem?_eq_some_iff.1 hi).1
  obtain ⟨gl, o, e, h1, h2⟩ := h.at_ (i := i) (by rw [ints_len]; exact hlt)
  refine ⟨gl, o, e, h1, h2.trans ?_⟩
  simp only [ints, List.getElem_map, Option.some.injEq]
  rw [(List.getElem?_eq_some_iff.1 hi).2]
/-- A payload that came in, at its place. -/
theorem pay_at {w : World} {A : Option Addr} {us : List Value} {ls : List Bs} (h : Rd w A us) (hl : RdL w us ls) {i : Nat} (hi : i < ls.length) : ∃ gl ol A1 m1 c1 l, A = some ⟨gl, ol, none⟩ ∧ gl < w.heap.size ∧ w.cell? ⟨gl, ol + i, none⟩ = some (.slice A1 m1 c1) ∧ ls[i]? = some l ∧ l.length = m1 ∧ m1 ≤ c1 ∧ Rd w A1 (bv l) := by
  obtain ⟨gl, o, e, h1, h2⟩ := h.at_ (i := i) (by rw [hl.1]; exact hi)
  obtain ⟨A1, m1, c1, h3, h4, h5, h6⟩ := hl.2 i _ _ (List.getElem?_eq_getElem (by rw [hl.1]; exact hi)) (List.getElem?_eq_getElem hi)
  exact ⟨gl, o, A1, m1, c1, ls[i], e, h1, by rw [h2, h3], List.getElem?_eq_getElem hi, h4, h5, h6⟩
def shorts (ls : List Bs) : List Bs := ls.map (·.take 700)
theorem shorts_get {ls : List Bs} {i : Nat} {l : Bs} (h : ls[i]? = some l) : (shorts ls)[i]? = some (l.take 700) := by simp [shorts, h]
theorem short_len (l : Bs) : (l.take 700).length ≤ 4096 := by rw [List.length_take]; omega
section
variable {w0 w : World} {X : Nat → Prop} {b d B : Nat} {g : Int} {st : St}
theorem lx_drop {k t z : Nat} (h : LS w0 w X b d g false st) (hx : Lx k t false g false st z) (hL : Lb B w0) (hk : k ≤ 900) (ht : t ≤ 1000) (a : Int) :
    Calls Tryd.prog 17 #[.pointer (some ⟨b, 0, none⟩), .int .i64 a] w fun e w' => e = .returned (.int .i64 0) ∧ ∃ st', LS w0 w' X b d g false st' ∧ (∀ k, X k → w'.heap[k]? = w.heap[k]?) ∧ st'.Ok ∧
      paysOf st'.files 1 (segs st'.files) = ((tag st.files).filter fun x => decide (a ≤ x.1 ∨ x.1 = g)).map (·.2) := by
  obtain ⟨h1, _, _, h4⟩ := hx.ok
  obtain ⟨st', q1, q2, q3⟩ := hx.drop hk a
  have hc := ldrop_live h hL h1 (by omega) a
  rw [q1] at hc
  refine hc.mono ?_
  rintro e w' ⟨rfl, h5, h6⟩
  exact ⟨rfl, st', h5, h6, q2, q3⟩
end
/-- Where the loop that appends stands. -/
def DpAt (w0 : World) (l0 : List Bs) (b d i : Nat) (g : Int) (v : Value) (wr : World) : Prop :=
  ∃ X st, LS w0 wr X b d g false st ∧ Lx i (2 * i) false g false st 0 ∧ (tag st.files).map (·.2) = shorts (l0.take i) ∧ wr.ownsRow w0.heap.size 3 1 v i (ints ((tag st.files).map (·.1))) ∧ ∀ k, v.ownBlock = some k → X k
def DpInv (w0 : World) (l0 : List Bs) (b d n : Nat) (v x : Value) (wr : World) : Prop :=
  ∃ (i c : Nat) (A : Option Addr), i ≤ n ∧ i ≤ 20 ∧ x = .int .i64 (i : Int) ∧ v = .slice A i c ∧ i ≤ c ∧ Hid (∃ g, DpAt w0 l0 b d i g (.slice A i c) wr)
/-- What is wanted of the first i payloads. -/
def wantOf (T : List (Int × Bs)) (a g : Int) (i : Nat) : List Bs := ((T.take i).filter fun x => decide (a ≤ x.1 ∨ x.1 = g)).map (·.2)
theorem wantOf_yes {T : List (Int × Bs)} {a g z : Int} {i : Nat} {p : Bs} (h : T[i]? = some (z, p)) (hz : a ≤ z ∨ z = g) : wantOf T a g (i + 1) = wantOf T a g i ++ [p] := by
  unfold wantOf
  rw [List.take_add_one, h]
  simp [hz]
theorem wantOf_no {T : List (Int × Bs)} {a g z : Int} {i : Nat} {p : Bs} (h : T[i]? = some (z, p)) (hz : ¬ (a ≤ z ∨ z = g)) : wantOf T a g (i + 1) = wantOf T a g i := by
  unfold wantOf
  rw [List.take_add_one, h]
  simp [hz]
/-- Where the loop that gathers what is wanted stands. -/
structure WtAt (w1 : World) (T : List (Int × Bs)) (a g : Int) (i j : Nat) (v : Value) (vs : List Value) (wr : World) : Prop where
  row : wr.ownsRow w1.heap.size 42 1 v j vs
  own : OwnL wr w1.heap.size vs (wantOf T a g i)
  len : (wantOf T a g i).length = j
  bel : Below w1.heap.size w1 wr
def WtInv (w1 : World) (T : List (Int × Bs)) (a g : Int) (n : Nat) (v x : Value) (wr : World) : Prop :=
  ∃ (i j c : Nat) (A : Option Addr) (vs : List Value), i ≤ n ∧ x = .int .i64 (i : Int) ∧ v = .slice A j c ∧ j ≤ i ∧ j ≤ c ∧ Hid (WtAt w1 T a g i j (.slice A j c) vs wr)
theorem DpAt.step {w0 w3 : World} {l0 : List Bs} {b d i : Nat} {g' : Int} {X : Nat → Prop} {st st' : St} {l : Bs} (hl : l0[i]? = some l) (hT : (tag st.files).map (·.2) = shorts (l0.take i))
    (h5 : LS w0 w3 X b d g' false st') (hx : Lx (i + 1) (2 * i + 2) false g' false st' 0) (ht : tag st'.files = tag st.files ++ [(g', l.take 700)]) {v : Value} {A8 : Option Addr} {c8 : Nat} {w6 : World}
    (hrow : w6.ownsRow w0.heap.size 3 1 (.slice A8 (i + 1) c8) (i + 1) (ints ((tag st.files).map (·.1)) ++ [.int .i64 g'])) (hv : ∀ k, v.ownBlock = some k → X k) (hv0 : ∀ k, v.ownBlock = some k → w0.heap.size ≤ k)
    (hm : (w3.alloc (.cells #[.int .i64 g'] 3)).grownBy w6 v.ownBlock) (h8 : (Value.slice A8 (i + 1) c8).ownBlock = v.ownBlock ∨ (Value.slice A8 (i + 1) c8).ownBlock = some (w3.alloc (.cells #[.int .i64 g'] 3)).heap.size) :
    DpAt w0 l0 b d (i + 1) g' (.slice A8 (i + 1) c8) w6 := by
  have h6 := h5.news ((Below.refl _ _).alloc (Nat.le_refl _) (.cells #[.int .i64 g'] 3))
  have h7 := h6.law (w' := w6) (Mod.grown hm fun k hk => ⟨.inl (hv k hk), hv0 k hk⟩)
  refine ⟨_, st', h7, hx, ?_, ?_, ?_⟩
  · have e : l0.take (i + 1) = l0.take i ++ [l] := by rw [List.take_add_one, hl]; rfl
    rw [ht, List.map_append, hT, e]; simp [shorts]
  · rw [ht, List.map_append]
    simpa [ints] using hrow
  · intro k hk
    have hlt := hrow.lt k hk
    rcases h8 with h8 | h8
    · exact .inl (.inl (hv k (h8 ▸ hk)))
    · refine .inr ⟨?_, hlt.2⟩
      rw [h8] at hk
      exact Nat.le_of_eq (Option.some.inj hk)
theorem WtAt.step {w1 wr w2 w7 : World} {T : List (Int × Bs)} {a g z : Int} {j q c m4 c4 c8 : Nat} {A A4 A8 : Option Addr} {vs : List Value} {p : Bs} (h : WtAt w1 T a g j q (.slice A q c) vs wr) (hT : T[j]? = some (z, p)) (hz : a ≤ z ∨ z = g)
    (hm : p.length = m4) (ho : w2.ownsRow wr.heap.size 5 1 (.slice A4 m4 c4) m4 (bv p)) (hb : Below wr.heap.size wr w2)
    (hrow : w7.ownsRow w1.heap.size 42 1 (.slice A8 (q + 1) c8) (q + 1) (vs ++ [.slice A4 m4 c4])) (hb8 : Below w1.heap.size (w2.alloc (.cells #[.slice A4 m4 c4] 42)) w7)
    (hg : (w2.alloc (.cells #[.slice A4 m4 c4] 42)).grownBy w7 (Value.slice A q c).ownBlock) : WtAt w1 T a g (j + 1) (q + 1) (.slice A8 (q + 1) c8) (vs ++ [.slice A4 m4 c4]) w7 := by
  have hs := h.bel.size
  have hw2 : Below w1.heap.size w1 w2 := h.bel.trans (hb.mono hs)
  have hro : (w2.alloc (.cells #[.slice A4 m4 c4] 42)).ownsRow w1.heap.size 42 1 (.slice A q c) q vs := (own_below h.row hb (Nat.le_refl _)).alloc _
  refine ⟨hrow, ?_, ?_, ?_⟩
  · rw [wantOf_yes hT hz]
    refine OwnL.grown (OwnL.below ?_ ((Below.refl _ _).alloc (Nat.le_refl _) _)) hro (by decide) hg
    exact (h.own.below hb).snoc hm ho hs h.own.lt
  · rw [wantOf_yes hT hz, List.length_append, h.len]; rfl
  · exact (hw2.alloc hw2.size _).trans hb8
set_option maxHeartbeats 6400000 in
set_option maxRecDepth 100000 in
theorem drops_walk (A0 : Option Addr) (n0 c0 : Nat) (us0 : List Value) (l0 : List Bs) (a : Int) (w : World) (hl0 : l0.length = n0) (_ : n0 ≤ c0) (hr0 : Rd w A0 us0) (hrl0 : RdL w us0 l0) (_ : ∀ l ∈ l0, l.length ≤ 140737488351232)
    (_ : -9223372036854775808 ≤ a) (_ : a ≤ 9223372036854775807) {B : Nat} (hL : Lb B w) :
    Calls Tryd.prog 4 #[.slice A0 n0 c0, .int .i64 a] w (Yes w) := by
  have hc1 := new_any w
  obtain ⟨i3, hi3, hy3, hy31, hy32⟩ := info_parts info_int
  obtain ⟨i1, hi1, hy1, hy11, hy12⟩ := info_parts info_sl
  have HL := Lib.hid hL
  have HR0 := Lib.hid hr0
  have HRL0 := Lib.hid hrl0
  have HL0 := Lib.hid hl0
  clear hL hr0 hrl0 hl0
  go_enter Tryd.func4, Tryd.ntmps4
  go_wp2_with (first
    | (go_at_call 6; refine hc1.mono ?_; intro e w1 hp; have hp2 := hp.ds; clear hp; obtain ⟨d, rfl, hd1⟩ := hp2; have H1 := Lib.hid hd1; clear hd1)
    | (go_at_call 7; (with_reducible refine (wawake_any (HL.out.below (H1.out.bel.mono HL.out.up))).mono ?_); rintro e w2 ⟨rfl, hb2⟩; have H2 := Lib.hid (H1.out.below hb2); clear hb2)
    | (go_at_call 8; (with_reducible refine (aw_o1 H2.out HL.out).mono ?_); rintro e w3 ⟨b, A3, c3, rfl, h3⟩; have H3 := Lib.hid h3; clear h3))
  go_loopw [9, 10] (DpInv w l0 b d n0) (fun _ x _ => n0 - (intOf x).toNat)
  case atStart => exact ⟨0, 0, none, by omega, by omega, rfl, rfl, by omega, 1, _, _, H3.out, Lx.first, rfl, World.ownsRow_nil _ _ _ _, fun k hk => by cases hk⟩
  case round =>
    clear H3
    obtain ⟨i, c, A, hi, hi20, rfl, rfl, hic, HK⟩ := hrel
    obtain ⟨g, X, st, hls, hlx, hT, hrow, hrx⟩ := HK.out
    have HLS := Lib.hid hls
    have HLX := Lib.hid hlx
    have HT := Lib.hid hT
    have HROW := Lib.hid hrow
    have HRX := Lib.hid hrx
    clear HK hls hlx hT hrow hrx
    by_cases hlt : i < n0 ∧ i < 20
    · have hbw := HLS.out.bel
      obtain ⟨gl, ol, A1, m1, c1, l, rfl, hgl, q0, hl, hlm, hmc, hrl⟩ := pay_at (HR0.out.below hbw) (HRL0.out.below hbw) (i := i) (by rw [HL0.out]; exact hlt.1)
      have hlt1 : (i : Int) < (n0 : Int) := by omega
      have hlt2 : (i : Int) < 20 := by omega
      have hcut := cut_any A1 m1 c1 l wr hlm hmc hrl
      have HCUT := Lib.hid hcut
      have HLI := Lib.hid hl
      have hi2 : 2 * i ≤ 1000 := by omega
      clear hcut hlm hrl hbw hl
      go_wp2_with (first
        | (go_at_call 15; ((with_reducible refine HCUT.out.mono ?_); rintro e w4 ⟨v, rfl, A4, m4, c4, rfl, hm4, hc4, hown4, hb4⟩; have HM4 := Lib.hid hm4; have HO4 := Lib.hid hown4; have HB4 := Lib.hid hb4; clear hm4 hown4 hb4))
        | (go_at_call 14; ((with_reducible refine (lx_app0 (HLS.out.below HB4.out) HLX.out HL.out (by omega) hi2 A4 m4 c4 (l.take 700) HM4.out (Rd.own HO4.out) (short_len l)).mono ?_); rintro e w5 ⟨g', st', rfl, h5, hk5, hx5, ht5⟩; have HLG5 := Lib.hid h5.log; have H5 := Lib.hid h5; have HK5 := Lib.hid hk5; have HX5 := Lib.hid hx5; have HT5 := Lib.hid ht5; clear h5 hk5 hx5 ht5))
        | (go_at_call 16; (with_reducible refine (segment_any HLG5.out).mono ?_); rintro e w6 ⟨rfl, rfl⟩)
        | (at_builtin; refine wpList_app _ rfl (.tmp 53) (.tmp 56) _ rfl w.heap.size 3 i3 _ 8 Tryd.underlying32 hi3 hy3 hy31 hy32 rfl (.slice A i c) i (ints ((tag st.files).map (·.1))) rfl ((own_same (own_below HROW.out HB4.out (Nat.le_refl _)) fun k hk => HK5.out k (HRX.out k hk)).alloc _) (some ⟨w5.heap.size, 0, none⟩) 1 1 [_] rfl rfl (Rd.one _ _ _ _ _ rfl) (by intro u hu; simp at hu; subst hu; rfl) (i + 1) rfl (by unfold maxLen; omega) (by omega) (Nat.le_trans H5.out.bel.size (by simp)) ?_; intro A8 c8 w7 hown8 hb8 hg8 he8))
      go_roundw
      case rel =>
        refine ⟨i + 1, c8, A8, by omega, by omega, by go_num, rfl, own_cap hown8, g', ?_⟩
        exact DpAt.step (st := st) HLI.out HT.out H5.out (by have := HX5.out; simpa [Nat.mul_add] using this) HT5.out hown8 HRX.out (own_row HROW.out) hg8 he8
      case measure => simp [intOf]; omega
    · have HLG := Lib.hid HLS.out.log
      have hi3 : 2 * i ≤ 1000 := by omega
      by_cases hin : i < n0
      · have hlt1 : (i : Int) < (n0 : Int) := by omega
        have hlt2 : ¬ (i : Int) < 20 := by omega
        go_wp2_with (first
          | (go_at_call 16; (with_reducible refine (segment_any HLG.out).mono ?_); rintro e w4 ⟨rfl, rfl⟩)
          | (go_at_call 17; ((with_reducible refine (lx_drop HLS.out HLX.out HL.out (by omega) (by omega) a).mono ?_); rintro e w6 ⟨rfl, st6, h6, hk6, ho6, hp6⟩; have HLG6 := Lib.hid h6.log; have H6 := Lib.hid h6; have HK6 := Lib.hid hk6; have HO6 := Lib.hid ho6; have HP6 := Lib.hid hp6; clear h6 hk6 ho6 hp6))
          | (go_at_call 16; (with_reducible refine (segment_any HLG6.out).mono ?_); rintro e w7 ⟨rfl, rfl⟩)
          | (go_at_call 8; (with_reducible refine (ds_open H6.out.ds HL.out HO6.out HP6.out).mono ?_); rintro e w8 ⟨b8, A9, k9, c9, vs9, rfl, h8, hk9, hkc9, hr9, ho9, hb8⟩; have H8 := Lib.hid h8; have HK9 := Lib.hid hk9; have HR9 := Lib.hid (Rd.own hr9); have HO9 := Lib.hid ho9.reads; have HB8 := Lib.hid hb8; clear h8 hk9 hr9 ho9 hb8))
        have HAT := Lib.hid ((Rd.own (own_same HROW.out fun k hk => HK6.out k (HRX.out k hk))).below HB8.out)
        obtain ⟨T, hTT⟩ : ∃ T, T = tag st.files := ⟨_, rfl⟩
        rw [← hTT] at HT HAT HK9 HO9
        have hTl : T.length = i := by
          have := congrArg List.length HT.out
          simp only [shorts, List.length_map, List.length_take, HL0.out] at this
          omega
        have HTL := Lib.hid hTl
        have hwant : (T.filter fun x => decide (a ≤ x.1 ∨ x.1 = g)).map (·.2) = wantOf T a g i := by
          unfold wantOf
          rw [← hTl, List.take_length]
        rw [hwant] at HK9 HO9
        clear hTT hTl hwant HLS HLX HROW HRX HLG6 HLG HK6 H6 HO6 HP6 HB8
        go_loopw [14, 78] (WtInv w8 T a g i) (fun _ x _ => i - (intOf x).toNat)
        case atStart => exact ⟨0, 0, 0, none, [], by omega, rfl, rfl, by omega, by omega, World.ownsRow_nil _ _ _ _, OwnL.nil _ _, rfl, Below.refl _ _⟩
        case round =>
          obtain ⟨j, q, cq, AQ, us, hj, rfl, rfl, hqj, hqc, HW⟩ := hrel
          have hbw := H8.out.bel.trans (HW.out.bel.mono H8.out.bel.size)
          by_cases hjl : j < i
          · obtain ⟨z, p, hzp⟩ : ∃ z p, T[j]? = some (z, p) := ⟨_, _, List.getElem?_eq_getElem (by rw [HTL.out]; exact hjl)⟩
            obtain ⟨gt, ot, rfl, hgt, q1⟩ := ints_at (HAT.out.below HW.out.bel) (i := j) (z := z) (by rw [List.getElem?_map, hzp]; rfl)
            obtain ⟨gl, ol, A1, m1, c1, l, rfl, hgl, q0, hl, hlm, hmc, hrl⟩ := pay_at (HR0.out.below hbw) (HRL0.out.below hbw) (i := j) (by rw [HL0.out]; omega)
            have hpl : p = l.take 700 := by
              have h1 := congrArg (·[j]?) HT.out
              simp only [shorts, List.getElem?_map, hzp, Option.map_some, List.getElem?_take, if_pos hjl, hl] at h1
              exact Option.some.inj h1
            have hcut := cut_any A1 m1 c1 l wr hlm hmc hrl
            rw [← hpl] at hcut
            have HCUT := Lib.hid hcut
            have HTJ := Lib.hid hzp
            have hlt1 : (j : Int) < (i : Int) := by omega
            have hjn : (j : Int) < (n0 : Int) := by omega
            clear hcut hlm hrl hbw hl hpl hzp
            by_cases hz : a ≤ z
            · have HZ := Lib.hid (Or.inl hz : a ≤ z ∨ z = g)
              go_wp2_with (first
                | (go_at_call 15; ((with_reducible refine HCUT.out.mono ?_); rintro e w14 ⟨v, rfl, A4, m4, c4, rfl, hm4, hc4, hown4, hb4⟩; have HM4 := Lib.hid hm4; have HO4 := Lib.hid hown4; have HB4 := Lib.hid hb4; clear hm4 hown4 hb4))
                | (at_builtin; refine wpList_app _ rfl (.tmp 95) (.tmp 101) _ rfl w8.heap.size 42 i1 _ 24 Tryd.underlying26 hi1 hy1 hy11 hy12 rfl (.slice AQ q cq) q us rfl ((own_below HW.out.row HB4.out (Nat.le_refl _)).alloc _) (some ⟨w14.heap.size, 0, none⟩) 1 1 [_] rfl rfl (Rd.one _ _ _ _ _ rfl) (by intro u hu; simp at hu; subst hu; rfl) (q + 1) rfl (by unfold maxLen; omega) (by omega) (Nat.le_trans (Nat.le_trans HW.out.bel.size HB4.out.size) (by simp)) ?_; intro A8 c8 w17 hown8 hb8 hg8 he8))
              go_roundw
              case rel =>
                refine ⟨j + 1, q + 1, c8, A8, us ++ [.slice A4 m4 c4], by omega, by go_num, rfl, by omega, own_cap hown8, Lib.hid (WtAt.step HW.out HTJ.out HZ.out HM4.out HO4.out HB4.out hown8 hb8 hg8)⟩
              case measure => simp [intOf]; omega
            · by_cases hzg : z = g
              · have e9 : (z == g) = true := by simp [hzg]
                have HZ := Lib.hid (Or.inr hzg : a ≤ z ∨ z = g)
                clear hzg
                go_wp2_with (first
                  | (go_at_call 15; ((with_reducible refine HCUT.out.mono ?_); rintro e w14 ⟨v, rfl, A4, m4, c4, rfl, hm4, hc4, hown4, hb4⟩; have HM4 := Lib.hid hm4; have HO4 := Lib.hid hown4; have HB4 := Lib.hid hb4; clear hm4 hown4 hb4))
                  | (at_builtin; refine wpList_app _ rfl (.tmp 95) (.tmp 101) _ rfl w8.heap.size 42 i1 _ 24 Tryd.underlying26 hi1 hy1 hy11 hy12 rfl (.slice AQ q cq) q us rfl ((own_below HW.out.row HB4.out (Nat.le_refl _)).alloc _) (some ⟨w14.heap.size, 0, none⟩) 1 1 [_] rfl rfl (Rd.one _ _ _ _ _ rfl) (by intro u hu; simp at hu; subst hu; rfl) (q + 1) rfl (by unfold maxLen; omega) (by omega) (Nat.le_trans (Nat.le_trans HW.out.bel.size HB4.out.size) (by simp)) ?_; intro A8 c8 w17 hown8 hb8 hg8 he8))
                go_roundw
                case rel =>
                  refine ⟨j + 1, q + 1, c8, A8, us ++ [.slice A4 m4 c4], by omega, by go_num, rfl, by omega, own_cap hown8, Lib.hid (WtAt.step HW.out HTJ.out HZ.out HM4.out HO4.out HB4.out hown8 hb8 hg8)⟩
                case measure => simp [intOf]; omega
              · have e9 : (z == g) = false := by rw [beq_eq_false_iff_ne]; exact hzg
                have HZ := Lib.hid (fun h => h.elim hz hzg : ¬ (a ≤ z ∨ z = g))
                go_wp2
                go_roundw
                case rel =>
                  refine ⟨j + 1, q, cq, AQ, us, by omega, by go_num, rfl, by omega, hqc, HW.out.row, ?_, ?_, HW.out.bel⟩
                  · rw [wantOf_no HTJ.out HZ.out]; exact HW.out.own
                  · rw [wantOf_no HTJ.out HZ.out]; exact HW.out.len
                case measure => simp [intOf]; omega
          · obtain rfl : j = i := by omega
            have hlt1 : ¬ (j : Int) < (j : Int) := by omega
            obtain rfl : k9 = q := HK9.out.symm.trans HW.out.len
            have HS := Lib.hid (same_eq A9 AQ k9 c9 cq vs9 us _ wr HK9.out (HR9.out.below HW.out.bel) (HO9.out.below HW.out.bel) (Rd.own HW.out.row) HW.out.own.reads (by omega))
            go_wp2_with (go_at_call 9; ((with_reducible refine HS.out.mono ?_); rintro e w19 ⟨rfl, hb19⟩))
            go_ret
            exact Yes.mk (hbw.trans (hb19.mono hbw.size))
      · have hlt1 : ¬ (i : Int) < (n0 : Int) := by omega
        go_wp2_with (first
          | (go_at_call 16; (with_reducible refine (segment_any HLG.out).mono ?_); rintro e w4 ⟨rfl, rfl⟩)
          | (go_at_call 17; ((with_reducible refine (lx_drop HLS.out HLX.out HL.out (by omega) (by omega) a).mono ?_); rintro e w6 ⟨rfl, st6, h6, hk6, ho6, hp6⟩; have HLG6 := Lib.hid h6.log; have H6 := Lib.hid h6; have HK6 := Lib.hid hk6; have HO6 := Lib.hid ho6; have HP6 := Lib.hid hp6; clear h6 hk6 ho6 hp6))
          | (go_at_call 16; (with_reducible refine (segment_any HLG6.out).mono ?_); rintro e w7 ⟨rfl, rfl⟩)
          | (go_at_call 8; (with_reducible refine (ds_open H6.out.ds HL.out HO6.out HP6.out).mono ?_); rintro e w8 ⟨b8, A9, k9, c9, vs9, rfl, h8, hk9, hkc9, hr9, ho9, hb8⟩; have H8 := Lib.hid h8; have HK9 := Lib.hid hk9; have HR9 := Lib.hid (Rd.own hr9); have HO9 := Lib.hid ho9.reads; have HB8 := Lib.hid hb8; clear h8 hk9 hr9 ho9 hb8))
        have HAT := Lib.hid ((Rd.own (own_same HROW.out fun k hk => HK6.out k (HRX.out k hk))).below HB8.out)
        obtain ⟨T, hTT⟩ : ∃ T, T = tag st.files := ⟨_, rfl⟩
        rw [← hTT] at HT HAT HK9 HO9
        have hTl : T.length = i := by
          have := congrArg List.length HT.out
          simp only [shorts, List.length_map, List.length_take, HL0.out] at this
          omega
        have HTL := Lib.hid hTl
        have hwant : (T.filter fun x => decide (a ≤ x.1 ∨ x.1 = g)).map (·.2) = wantOf T a g i := by
          unfold wantOf
          rw [← hTl, List.take_length]
        rw [hwant] at HK9 HO9
        clear hTT hTl hwant HLS HLX HROW HRX HLG6 HLG HK6 H6 HO6 HP6 HB8
        go_loopw [14, 78] (WtInv w8 T a g i) (fun _ x _ => i - (intOf x).toNat)
        case atStart => exact ⟨0, 0, 0, none, [], by omega, rfl, rfl, by omega, by omega, World.ownsRow_nil _ _ _ _, OwnL.nil _ _, rfl, Below.refl _ _⟩
        case round =>
          obtain ⟨j, q, cq, AQ, us, hj, rfl, rfl, hqj, hqc, HW⟩ := hrel
          have hbw := H8.out.bel.trans (HW.out.bel.mono H8.out.bel.size)
          by_cases hjl : j < i
          · obtain ⟨z, p, hzp⟩ : ∃ z p, T[j]? = some (z, p) := ⟨_, _, List.getElem?_eq_getElem (by rw [HTL.out]; exact hjl)⟩
            obtain ⟨gt, ot, rfl, hgt, q1⟩ := ints_at (HAT.out.below HW.out.bel) (i := j) (z := z) (by rw [List.getElem?_map, hzp]; rfl)
            obtain ⟨gl, ol, A1, m1, c1, l, rfl, hgl, q0, hl, hlm, hmc, hrl⟩ := pay_at (HR0.out.below hbw) (HRL0.out.below hbw) (i := j) (by rw [HL0.out]; omega)
            have hpl : p = l.take 700 := by
              have h1 := congrArg (·[j]?) HT.out
              simp only [shorts, List.getElem?_map, hzp, Option.map_some, List.getElem?_take, if_pos hjl, hl] at h1
              exact Option.some.inj h1
            have hcut := cut_any A1 m1 c1 l wr hlm hmc hrl
            rw [← hpl] at hcut
            have HCUT := Lib.hid hcut
            have HTJ := Lib.hid hzp
            have hlt1 : (j : Int) < (i : Int) := by omega
            have hjn : (j : Int) < (n0 : Int) := by omega
            clear hcut hlm hrl hbw hl hpl hzp
            by_cases hz : a ≤ z
            · have HZ := Lib.hid (Or.inl hz : a ≤ z ∨ z = g)
              go_wp2_with (first
                | (go_at_call 15; ((with_reducible refine HCUT.out.mono ?_); rintro e w14 ⟨v, rfl, A4, m4, c4, rfl, hm4, hc4, hown4, hb4⟩; have HM4 := Lib.hid hm4; have HO4 := Lib.hid hown4; have HB4 := Lib.hid hb4; clear hm4 hown4 hb4))
                | (at_builtin; refine wpList_app _ rfl (.tmp 95) (.tmp 101) _ rfl w8.heap.size 42 i1 _ 24 Tryd.underlying26 hi1 hy1 hy11 hy12 rfl (.slice AQ q cq) q us rfl ((own_below HW.out.row HB4.out (Nat.le_refl _)).alloc _) (some ⟨w14.heap.size, 0, none⟩) 1 1 [_] rfl rfl (Rd.one _ _ _ _ _ rfl) (by intro u hu; simp at hu; subst hu; rfl) (q + 1) rfl (by unfold maxLen; omega) (by omega) (Nat.le_trans (Nat.le_trans HW.out.bel.size HB4.out.size) (by simp)) ?_; intro A8 c8 w17 hown8 hb8 hg8 he8))
              go_roundw
              case rel =>
                refine ⟨j + 1, q + 1, c8, A8, us ++ [.slice A4 m4 c4], by omega, by go_num, rfl, by omega, own_cap hown8, Lib.hid (WtAt.step HW.out HTJ.out HZ.out HM4.out HO4.out HB4.out hown8 hb8 hg8)⟩
              case measure => simp [intOf]; omega
            · by_cases hzg : z = g
              · have e9 : (z == g) = true := by simp [hzg]
                have HZ := Lib.hid (Or.inr hzg : a ≤ z ∨ z = g)
                clear hzg
                go_wp2_with (first
                  | (go_at_call 15; ((with_reducible refine HCUT.out.mono ?_); rintro e w14 ⟨v, rfl, A4, m4, c4, rfl, hm4, hc4, hown4, hb4⟩; have HM4 := Lib.hid hm4; have HO4 := Lib.hid hown4; have HB4 := Lib.hid hb4; clear hm4 hown4 hb4))
                  | (at_builtin; refine wpList_app _ rfl (.tmp 95) (.tmp 101) _ rfl w8.heap.size 42 i1 _ 24 Tryd.underlying26 hi1 hy1 hy11 hy12 rfl (.slice AQ q cq) q us rfl ((own_below HW.out.row HB4.out (Nat.le_refl _)).alloc _) (some ⟨w14.heap.size, 0, none⟩) 1 1 [_] rfl rfl (Rd.one _ _ _ _ _ rfl) (by intro u hu; simp at hu; subst hu; rfl) (q + 1) rfl (by unfold maxLen; omega) (by omega) (Nat.le_trans (Nat.le_trans HW.out.bel.size HB4.out.size) (by simp)) ?_; intro A8 c8 w17 hown8 hb8 hg8 he8))
                go_roundw
                case rel =>
                  refine ⟨j + 1, q + 1, c8, A8, us ++ [.slice A4 m4 c4], by omega, by go_num, rfl, by omega, own_cap hown8, Lib.hid (WtAt.step HW.out HTJ.out HZ.out HM4.out HO4.out HB4.out hown8 hb8 hg8)⟩
                case measure => simp [intOf]; omega
              · have e9 : (z == g) = false := by rw [beq_eq_false_iff_ne]; exact hzg
                have HZ := Lib.hid (fun h => h.elim hz hzg : ¬ (a ≤ z ∨ z = g))
                go_wp2
                go_roundw
                case rel =>
                  refine ⟨j + 1, q, cq, AQ, us, by omega, by go_num, rfl, by omega, hqc, HW.out.row, ?_, ?_, HW.out.bel⟩
                  · rw [wantOf_no HTJ.out HZ.out]; exact HW.out.own
                  · rw [wantOf_no HTJ.out HZ.out]; exact HW.out.len
                case measure => simp [intOf]; omega
          · obtain rfl : j = i := by omega
            have hlt1 : ¬ (j : Int) < (j : Int) := by omega
            obtain rfl : k9 = q := HK9.out.symm.trans HW.out.len
            have HS := Lib.hid (same_eq A9 AQ k9 c9 cq vs9 us _ wr HK9.out (HR9.out.below HW.out.bel) (HO9.out.below HW.out.bel) (Rd.own HW.out.row) HW.out.own.reads (by omega))
            go_wp2_with (go_at_call 9; ((with_reducible refine HS.out.mono ?_); rintro e w19 ⟨rfl, hb19⟩))
            go_ret
            exact Yes.mk (hbw.trans (hb19.mono hbw.size))

end Wl
end Go.Proofs.YtnijonjepgdinaaDoor
