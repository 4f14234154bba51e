/-
  WHAT IS PROVED: the call of FrameBursts answers true in whatever memory holds the table, and makes new memory alone. CONDITIONS: the slice reads as the bytes that are named and is no longer than 2^47 - 4096; the table lies where it is laid.
-/
import Derived.Test.YtjpimbbdjdlelaaDoorWalkF
import Derived.Test.YtjpimbbdjdlelaaDoorBurst
import Derived.BigRegion
namespace Go.Proofs.YtjpimbbdjdlelaaDoor
open Go Go.RowKit
namespace Fr

theorem dec_seal0 {p : List UInt8} (h : p.length ≤ 4096) : dec (sealOf p) = (p.length, (enc p.length).length) := by
  have := dec_sealOf h []
  rwa [List.append_nil] at this

/-- The four cells of the box. -/
theorem box_cells {w w1 : World} (t : TypeId) (t0 t1 t2 t3 : UInt8) (hb : Below (w.alloc (.cells #[.int .u8 (t0.toNat : Int), .int .u8 (t1.toNat : Int), .int .u8 (t2.toNat : Int), .int .u8 (t3.toNat : Int)] t)).heap.size (w.alloc (.cells #[.int .u8 (t0.toNat : Int), .int .u8 (t1.toNat : Int), .int .u8 (t2.toNat : Int), .int .u8 (t3.toNat : Int)] t)) w1) :
    ∀ j, j < 4 → w1.cell? ⟨w.heap.size, j, none⟩ = some (.int .u8 ((([t0, t1, t2, t3] : List UInt8)[j]?.getD 0).toNat : Int)) := by
  intro j hj
  rw [hb.cell (p := ⟨w.heap.size, j, none⟩) (by simp), World.cell?_alloc_mark]
  match j, hj with
  | 0, _ => rfl
  | 1, _ => rfl
  | 2, _ => rfl
  | 3, _ => rfl
theorem lt_of_alloc {w w1 : World} {o : Obj} {B : Nat} (h : Below B (w.alloc o) w1) : w.heap.size < w1.heap.size := by
  have := h.size
  simp at this
  omega
theorem own_addr {w : World} {base : Nat} {e : TypeId} {A : Option Addr} {n c : Nat} {xs : List Value} (h : w.ownsRow base e 1 (.slice A n c) n xs) (hn : 0 < n) : ∃ g, A = some ⟨g, 0, none⟩ ∧ base ≤ g ∧ g < w.heap.size := by
  rcases h.2 with ⟨_, h0⟩ | ⟨g, cap, cur, hv, h1, hg, _⟩
  · omega
  · injection hv with h3 h4 h5
    exact ⟨g, h3, h1, (Array.getElem?_eq_some_iff.1 hg).1⟩
/-- The place that the statement reckons. -/
theorem pos_of (x : Int) (k n : Nat) (hk : k ≤ 2) (hn : n ≤ 4096) : ∃ a : Nat, wrap64 ((k : Int) + wrap64 ((IntKind.u64.wrap x).tmod ((k : Int) + 4 + (n : Int) - (k : Int)))) = (a : Int) ∧ k ≤ a ∧ a < k + 4 + n := by
  obtain ⟨u, hu⟩ : ∃ u, IntKind.u64.wrap x = u := ⟨_, rfl⟩
  have hu0 : 0 ≤ u := by rw [← hu, IntKind.wrap_u64]; omega
  have e : (k : Int) + 4 + (n : Int) - (k : Int) = 4 + (n : Int) := by omega
  have h0 : 0 ≤ u % (4 + (n : Int)) := Int.emod_nonneg _ (by omega)
  have h1 : u % (4 + (n : Int)) < 4 + (n : Int) := Int.emod_lt_of_pos _ (by omega)
  rw [hu, e, IntWalk.rem_in _ _ hu0, IntWalk.wrap64_in (u % _) (by omega), IntWalk.wrap64_in _ (by omega)]
  obtain ⟨r, hr⟩ := Int.eq_ofNat_of_zero_le h0
  exact ⟨k + r, by rw [hr]; rfl, by omega, by omega⟩
/-- The cell that is turned. -/
theorem turn_get {S e : List UInt8} {a j : Nat} (h : a + j < S.length) (he : e.length = j) : (bv (S.take a ++ e ++ S.drop (a + j)))[a + j]? = some (.int .u8 ((S[a + j]).toNat : Int)) := by
  have hl : (S.take a ++ e).length = a + j := by rw [List.length_append, List.length_take, he]; omega
  unfold bv
  rw [List.getElem?_map, List.getElem?_append_right (by omega), hl, Nat.sub_self, List.drop_eq_getElem_cons h]
  rfl
theorem bv_set (l : List UInt8) (i : Nat) (b : UInt8) : (bv l).set i (.int .u8 (b.toNat : Int)) = bv (l.set i b) := by
  unfold bv
  rw [List.map_set]
theorem xor8 (a b : UInt8) : bits .xor .u8 (a.toNat : Int) (b.toNat : Int) = ((a ^^^ b).toNat : Int) := by
  rw [u8_xor_nat _ _ a.toNat_lt b.toNat_lt, UInt8.toNat_xor]
theorem Ftakef_seal0 {p S : List UInt8} {n : Nat} (hp : p.length = n) (hn : n ≤ 4096) (hS : S = sealOf p) (A : Option Addr) (m c : Nat) (w : World) (hm : S.length = m) (hr : Rd w A (bv S)) (hmc : m ≤ c) (hm2 : m ≤ 140737488355328) (ht : Tab w) :
    Calls Tryd.prog 24 #[.slice A m c] w fun e w' => ∃ v, e = .returned (.tuple #[v, .int .i64 (m : Int), .int .i64 0]) ∧ Made 5 w w' p v := by
  have h := Ftakef_any A m c _ w hm hr hmc hm2 ht
  have e1 := takeF_sealOf (p := p) (by omega) []
  have e2 := isFrame_sealOf (p := p) (by omega) []
  rw [List.append_nil, ← hS] at e1 e2
  rw [hm] at e1
  unfold TakeRet at h
  rw [e1, e2] at h
  exact h
theorem Ftakef_none (A : Option Addr) (m c : Nat) (X : List UInt8) (w : World) (hm : X.length = m) (hr : Rd w A (bv X)) (hmc : m ≤ c) (hm2 : m ≤ 140737488355328) (ht : Tab w) (hf : isFrame X = false) :
    Calls Tryd.prog 24 #[.slice A m c] w fun e w' => ∃ A' c', e = .returned (.tuple #[.slice A' 0 c', .int .i64 0, .int .i64 10]) ∧ Below w.heap.size w w' := by
  have h := Ftakef_any A m c _ w hm hr hmc hm2 ht
  unfold TakeRet at h
  rw [hf, takeF_no hf] at h
  refine h.mono fun e w' ⟨v, he, A', m', c', hv, hm', hc', ho, hb⟩ => ⟨A', c', ?_, hb⟩
  subst hv
  rw [he, ← hm']
  rfl
theorem Rtake_seal (A : Option Addr) (m n k c : Nat) (p : List UInt8) (w : World) (hp : p.length = n) (hn : n ≤ 4096) (hk : (enc n).length = k) (hl : (sealOf p).length = m) (hr : Rd w A (bv (sealOf p))) (hmc : m ≤ c) :
    Calls Tryd.prog 16 #[.slice A m c] w fun e w' => e = .returned (.tuple #[.int .u64 (n : Int), .int .i64 (k : Int)]) ∧ Below w.heap.size w w' := by
  subst hp hk
  have hml : m ≤ 4102 := by
    have := len_enc2 hn
    rw [sealOf_length] at hl; omega
  have h := Rtake_any A m c _ w hl hr hmc (by omega)
  rw [dec_seal0 hn] at h
  exact h

set_option maxRecDepth 100000 in
set_option maxHeartbeats 6000000 in
theorem bursts_walk (A : Option Addr) (n c : Nat) (p : List UInt8) (x : Int) (t0 t1 t2 t3 : UInt8) (w : World) (hp : p.length = n) (_hnc : n ≤ c) (hrp : Rd w A (bv p)) (hn : n ≤ 140737488351232) (hx1 : -9223372036854775808 ≤ x) (hx2 : x ≤ 9223372036854775807) (ht : Tab w) :
    Calls Tryd.prog 9 #[.slice A n c, .int .i64 x, .agg #[.int .u8 (t0.toNat : Int), .int .u8 (t1.toNat : Int), .int .u8 (t2.toNat : Int), .int .u8 (t3.toNat : Int)]] w (Yes w) := by
  obtain ⟨i0, hi, hz, hz1, hz2⟩ := info_parts info_u8
  have HP := Lib.hid hp
  have HRP := Lib.hid hrp
  have HT := Lib.hid ht
  have hcs := fun (W : World) => run_str (P := Tryd.prog) W 23 9 5 Tryd.underlying23 Tryd.underlying5 Tryd.underlying9
  have HCS := Lib.hid hcs
  have HX1 := Lib.hid hx1
  have HX2 := Lib.hid hx2
  clear hp hrp ht hcs hx1 hx2
  by_cases h4 : 4096 < n
  · go_enter Tryd.func9, Tryd.ntmps9
    go_wp2_with (go_at_call 11; ((with_reducible refine (awake_any _ (HT.out.below ((Below.refl _ w).alloc (Nat.le_refl _) _))).mono ?_); rintro e w1 ⟨rfl, hb1⟩; have hbw1 : Below w.heap.size w w1 := ((Below.refl _ w).alloc (Nat.le_refl _) _).trans (hb1.mono (by simp))))
    go_wp2_with (go_at_call 11; ((with_reducible refine (awake_any w1 (HT.out.below hbw1)).mono ?_); rintro e w2 ⟨rfl, hb2⟩))
    go_ret
    exact Yes.mk (hbw1.trans (hb2.mono hbw1.size))
  · obtain ⟨k, hk⟩ : ∃ k, (enc n).length = k := ⟨_, rfl⟩
    have hk2 : k ≤ 2 := by rw [← hk]; exact len_enc2 (by omega)
    have hk1 : 0 < k := by rw [← hk]; exact len_enc_pos n
    obtain ⟨S, hS⟩ : ∃ S, S = sealOf p := ⟨_, rfl⟩
    have hSl : S.length = k + 4 + n := by rw [hS, sealOf_length, HP.out, hk]
    have hrs := fun (A : Option Addr) (c : Nat) (W : World) (h1 : Rd W A (bv p)) => Rseal_any A n c p W HP.out h1 (by omega)
    have hrt := fun (A : Option Addr) (m c : Nat) (W : World) => Rtake_seal A m n k c p W HP.out (by omega) hk
    rw [← hS] at hrs hrt
    have HRS := Lib.hid hrs
    have HRT := Lib.hid hrt
    have HSL := Lib.hid hSl
    have HS := Lib.hid hS
    have HK := Lib.hid hk
    obtain ⟨a, ha, hka, han⟩ := pos_of x k n hk2 (by omega)
    clear hrs hrt hSl hS hk
    have hd4 : decide (4096 < (n : Int)) = false := decide_eq_false (by omega)
    have htkS := Ftakef_seal0 HP.out (by omega) HS.out
    have HTKS := Lib.hid htkS
    clear htkS
    by_cases ha4 : a < k + 4
    all_goals
      go_enter Tryd.func9, Tryd.ntmps9
      go_wp2_with (first
        | (go_at_call 11; ((with_reducible refine (awake_any _ (HT.out.below ((Below.refl _ w).alloc (Nat.le_refl _) _))).mono ?_); rintro e w1 ⟨rfl, hb1⟩; have hbw1 : Below w.heap.size w w1 := ((Below.refl _ w).alloc (Nat.le_refl _) _).trans (hb1.mono (by simp)); have hbx := box_cells (w := w) (52) t0 t1 t2 t3 hb1; have HBX := Lib.hid hbx; have hlt1 := lt_of_alloc hb1; clear hbx hb1))
        | (go_at_call 25; refine (HRS.out A c w1 (HRP.out.below hbw1)).mono ?_; rintro e w2 ⟨v, rfl, A2, m2, c2, rfl, hm2, hc2, hown2, hb2⟩; obtain rfl : m2 = k + 4 + n := hm2.symm.trans HSL.out; have hbw2 : Below w.heap.size w w2 := hbw1.trans (hb2.mono hbw1.size); obtain ⟨g, rfl, hgb, hglt⟩ := own_addr hown2 (by omega); clear hm2)
        | (go_at_call 16; refine (HRT.out _ (k + 4 + n) c2 w2 HSL.out (Rd.own hown2) hc2).mono ?_; rintro e w3 ⟨rfl, hb3⟩; have hb13 : Below w1.heap.size w1 w3 := hb2.trans (hb3.mono hb2.size); have hown3 := own_below hown2 hb3 (Nat.le_refl _); clear hown2))
      rw [ha]
      clear ha
      first
        | rw [decide_eq_true (show (a : Int) < (k : Int) + 4 by omega)]
        | rw [decide_eq_false (show ¬ (a : Int) < (k : Int) + 4 by omega)]
      go_loopw [10, 12] (fun ch i wr => ∃ (j : Nat) (e : List UInt8) (b : Bool), j ≤ 4 ∧ i = .int .i64 j ∧ ch = .bool b ∧ (a < k + 4 → a + j ≤ k + 4) ∧ a + j ≤ k + 4 + n ∧ wr.ownsRow w1.heap.size 5 1 (.slice (some ⟨g, 0, none⟩) (k + 4 + n) c2) (k + 4 + n) (bv (S.take a ++ e ++ S.drop (a + j))) ∧ Below w1.heap.size w1 wr ∧ Hid (e.length = j ∧ (b = false ↔ e = (S.drop a).take j))) (fun _ i _ => 4 - (intOf i).toNat)
      case atStart => exact ⟨0, [], false, by omega, rfl, rfl, by omega, by omega, by (have e0 : S.take a ++ [] ++ S.drop (a + 0) = S := by simp); rw [e0]; exact hown3, hb13, ⟨rfl, by simp⟩⟩
      case round =>
        obtain ⟨j, e, b, hj, rfl, rfl, hja, hjn, hown, hb, HE⟩ := hrel
        by_cases hend : j < 4 ∧ (a < k + 4 → a + j < k + 4) ∧ a + j < k + 4 + n
        · obtain ⟨hj4, hj5, hj6⟩ := hend
          have haj : a + j < S.length := by rw [HSL.out]; exact hj6
          have hc1 := hown.cellAt (a + j) (by omega)
          rw [turn_get haj HE.out.1] at hc1
          have hf1 := hown.frozenAt (a + j)
          have hc2 : wr.cell? ⟨w.heap.size, j, none⟩ = some (.int .u8 ((([t0, t1, t2, t3] : List UInt8)[j]?.getD 0).toNat : Int)) := (hb.cell (p := ⟨w.heap.size, j, none⟩) hlt1).trans (HBX.out j hj4)
          obtain ⟨tj, htj⟩ : ∃ tj, tj = ([t0, t1, t2, t3] : List UInt8)[j]?.getD 0 := ⟨_, rfl⟩
          rw [← htj] at hc2
          obtain ⟨sj, hsj⟩ : ∃ sj, sj = S[a + j] := ⟨_, rfl⟩
          rw [← hsj] at hc1
          have hst := hown.stored (a + j) (.int .u8 ((sj ^^^ tj).toNat : Int))
          rw [bv_set, hsj, turn_step haj HE.out.1] at hst
          have hx := xor8 sj tj
          have hw1' : IntKind.i64.wrap ((a : Int) + (j : Int)) = (a : Int) + (j : Int) := IntWalk.i64_in _ (by omega)
          have hw2' : (0 : Int) ≤ (a : Int) + (j : Int) := by omega
          have hw3' : ((a : Int) + (j : Int)).toNat = a + j := by omega
          have hw4' : (a : Int) + (j : Int) < (k : Int) + 4 + (n : Int) := by omega
          have HST := Lib.hid hst
          have HSJ := Lib.hid hsj
          have HTJ := Lib.hid htj
          have HOWN := Lib.hid hown
          clear hst hsj htj hown
          have hc3 : (wr.setCell ⟨g, a + j, none⟩ (.int .u8 ((sj.toNat ^^^ tj.toNat : Nat) : Int))).cell? ⟨w.heap.size, j, none⟩ = some (.int .u8 (tj.toNat : Int)) := by
            rw [World.cell?_setCell_other _ _ _ _ (fun he => by injection he with h1; omega)]; exact hc2
          have hown' : (wr.setCell ⟨g, a + j, none⟩ (.int .u8 ((sj.toNat ^^^ tj.toNat : Nat) : Int))).ownsRow w1.heap.size 5 1 (.slice (some ⟨g, 0, none⟩) (k + 4 + n) c2) (k + 4 + n) (bv (S.take a ++ (e ++ [S[a + j] ^^^ tj]) ++ S.drop (a + (j + 1)))) := by
            have h := HST.out.1
            rw [← HSJ.out, UInt8.toNat_xor] at h
            rw [← HSJ.out]
            exact h
          have HOWN' := Lib.hid hown'
          have hbel := (hb.setCell (p := ⟨g, a + j, none⟩) hgb (.int .u8 ((sj.toNat ^^^ tj.toNat : Nat) : Int))).drew
          have HBEL := Lib.hid hbel
          have hsame := turn_same haj HE.out.1 tj
          have HSAME := Lib.hid hsame
          have hj1 : a < k + 4 → a + (j + 1) ≤ k + 4 := fun h => by have := hj5 h; omega
          have HJ1 := Lib.hid hj1
          clear hown' hbel hsame hj1 hja
          first | (have hj7 := hj5 ha4; clear hj5) | clear hj5
          cases b
          · by_cases htz : tj = 0
            · have h0 : ((tj.toNat : Int) == 0) = true := by rw [htz]; rfl
              have h0' : ((tj.toNat : Int) != 0) = false := by rw [htz]; rfl
              have HTZ := Lib.hid htz
              clear htz
              go_wp2
              go_region
              go_wp2
              go_roundw
              case rel => exact ⟨j + 1, e ++ [S[a + j] ^^^ tj], false, by omega, by go_num, rfl, HJ1.out, by omega, HOWN'.out, HBEL.out, by rw [List.length_append, HE.out.1]; rfl, by rw [HSAME.out]; exact ⟨fun _ => ⟨HE.out.2.1 (by simp), HTZ.out⟩, fun _ => rfl⟩⟩
              case measure => simp [intOf]; omega
            · have h00 : tj.toNat ≠ 0 := fun h => htz (u8_ext h)
              have h0 : ((tj.toNat : Int) == 0) = false := by rw [beq_eq_false_iff_ne]; omega
              have h0' : ((tj.toNat : Int) != 0) = true := by rw [bne_iff_ne]; omega
              have HTZ := Lib.hid htz
              clear htz
              go_wp2
              go_region
              go_wp2
              go_roundw
              case rel => exact ⟨j + 1, e ++ [S[a + j] ^^^ tj], true, by omega, by go_num, rfl, HJ1.out, by omega, HOWN'.out, HBEL.out, by rw [List.length_append, HE.out.1]; rfl, by rw [HSAME.out]; exact ⟨fun h => (by cases h), fun h => absurd h.2 HTZ.out⟩⟩
              case measure => simp [intOf]; omega
          · go_wp2
            go_region
            go_wp2
            go_roundw
            case rel => exact ⟨j + 1, e ++ [S[a + j] ^^^ tj], true, by omega, by go_num, rfl, HJ1.out, by omega, HOWN'.out, HBEL.out, by rw [List.length_append, HE.out.1]; rfl, by rw [HSAME.out]; exact ⟨fun h => (by cases h), fun h => (by cases (HE.out.2.2 h.1))⟩⟩
            case measure => simp [intOf]; omega
        · obtain ⟨X, hX⟩ : ∃ X, X = S.take a ++ e ++ S.drop (a + j) := ⟨_, rfl⟩
          rw [← hX] at hown
          have hXl : X.length = k + 4 + n := by
            rw [hX, List.length_append, List.length_append, List.length_take, List.length_drop, HE.out.1, HSL.out]; omega
          have hrX := Rd.own hown
          have hbwr : Below w.heap.size w wr := hbw1.trans (hb.mono hbw1.size)
          have HXL := Lib.hid hXl
          have HX := Lib.hid hX
          have HRX := Lib.hid hrX
          clear hX hXl hrX
          have hexit : j = 4 ∨ (j < 4 ∧ a < k + 4 ∧ k + 4 ≤ a + j) ∨ (j < 4 ∧ ¬ a < k + 4 ∧ k + 4 + n ≤ a + j) := by omega
          clear hend
          cases b
          · have hXS : X = S := by
              rw [HX.out, HE.out.2.1 rfl, ← three_parts S a j]
            have HXS := Lib.hid hXS
            clear hXS
            rcases hexit with rfl | ⟨hj4, ha5, hexit⟩ | ⟨hj4, ha5, hexit⟩
            all_goals first
              | (exfalso; omega)
              | (go_wp2_with (go_at_call 24; refine (HTKS.out (some ⟨g, 0, none⟩) (k + 4 + n) c2 wr HSL.out (by rw [← HXS.out]; exact HRX.out) hc2 (by omega) (HT.out.below hbwr)).mono ?_; rintro e w5 ⟨v, rfl, A5, m5, c5, rfl, hm5, hc5, hown5, hb5⟩; have hx5 := HCS.out w5 A5 m5 c5 p hm5 (Rd.own hown5); have hxp := HCS.out w5 A n c p HP.out (HRP.out.below (hbwr.trans (hb5.mono hbwr.size))); have HM5 := Lib.hid hm5; clear hm5)
                 go_ret
                 exact Yes.mk (hbwr.trans (hb5.mono hbwr.size)))
          · have hno : isFrame X = false := by
              rw [HX.out, HS.out]
              have hne : e ≠ ((sealOf p).drop a).take j := by
                rw [← HS.out]; intro h; have := HE.out.2.2 h; cases this
              refine burst_none (by rw [HP.out]; omega) hj HE.out.1 hne ?_
              rw [HP.out, HK.out, ← HS.out, HSL.out]
              omega
            have HNO := Lib.hid hno
            clear hno
            rcases hexit with rfl | ⟨hj4, ha5, hexit⟩ | ⟨hj4, ha5, hexit⟩
            all_goals first
              | (exfalso; omega)
              | (go_wp2_with (go_at_call 24; refine (Ftakef_none (some ⟨g, 0, none⟩) (k + 4 + n) c2 X wr HXL.out HRX.out hc2 (by omega) (HT.out.below hbwr) HNO.out).mono ?_; rintro e w5 ⟨A5, c5, rfl, hb5⟩)
                 go_ret
                 exact Yes.mk (hbwr.trans (hb5.mono hbwr.size)))
end Fr
end Go.Proofs.YtjpimbbdjdlelaaDoor
