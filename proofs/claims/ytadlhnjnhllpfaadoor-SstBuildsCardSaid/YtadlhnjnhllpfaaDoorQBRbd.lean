/-
  WHAT IS PROVED: (1) what the reference's Build answers. CONDITIONS: the keys stand in memory as named.
-/
import Derived.Test.YtadlhnjnhllpfaaDoorQBRef
namespace Go.Proofs.YtadlhnjnhllpfaaDoor
open Go Go.RowKit
namespace Bl
open Go.Proofs.YtadlhnjnhllpfaaDoor.Fr
/-- Between two rounds of the reference's Build. -/
structure RbI (w : World) (f : Bs) (W : World) : Prop where
  arr : Mm.Blk W w.heap.size 5 (bv f).toArray
  bel : Below w.heap.size w W
theorem RbI.below {w : World} {f : Bs} {W W' : World} (h : RbI w f W) (hb : Below W.heap.size W W') : RbI w f W' := ⟨h.arr.same (hb.block _ h.arr.lt), h.bel.trans (hb.mono h.bel.size)⟩
theorem RbI.drew {w : World} {f : Bs} {W : World} (h : RbI w f W) : RbI w f W.drew := ⟨h.arr, below_drewN h.bel 1⟩
theorem RbI.put {w : World} {f : Bs} {W : World} (h : RbI w f W) (p : Nat) {a r Y : Nat} (ha : a = p / 8) (hr : r = p % 8) (hY : Y = (f[a]?.getD 0).toNat) : RbI w (put f p) (W.setCell ⟨w.heap.size, a, none⟩ (.int .u8 (bits .or .u8 (Y : Int) (IntKind.u8.wrap ((2 : Int) ^ r))))) := by
  subst ha hr hY
  rw [or_bit (UInt8.toNat_lt _) (Nat.mod_lt _ (by decide))]
  refine ⟨?_, below_set h.bel (Nat.le_refl _) _⟩
  have := h.arr.set (p / 8) (.int .u8 (((f[p / 8]?.getD 0).toNat ||| 2 ^ (p % 8) : Nat) : Int))
  rw [bv_set f _ _ (or_lt8 _ _ (Nat.mod_lt _ (by decide)))] at this
  exact this
theorem own_ge {w : World} {base : Nat} {e : TypeId} {size n c : Nat} {b o : Nat} {xs : List Value} (h : w.ownsRow base e size (.slice (some ⟨b, o, none⟩) n c) n xs) : base ≤ b := (h.lt b rfl).1
section
variable {w : World} {A : Option Addr} {n c : Nat} {ks : List ByteArray} {per : Int}
set_option maxRecDepth 100000 in
set_option maxHeartbeats 2000000 in
theorem rbuild_any (hl : ks.length = n) (hr : Rd w A (ks.map Value.string)) (hs : ∀ s ∈ ks, s.size ≤ maxLen) (hn : n ≤ 200) :
    Calls Tryd.prog 25 #[.slice A n c, .int .i64 per] w (MadeRet 5 w (filt (ks.map (·.toList)) per)) := by
  obtain ⟨P, hP⟩ : ∃ P, P = per1 per := ⟨_, rfl⟩
  have hP1 := per1_le per
  have eP : max 1 (min 24 per) = (P : Int) := by rw [hP]; unfold per1; omega
  obtain ⟨K, hK⟩ : ∃ K, K = kOf per := ⟨_, rfl⟩
  have hK1 := kOf_le per
  have eK : max 1 ((P : Int) * 69 / 100) = (K : Int) := by rw [hK]; unfold kOf; rw [← hP]; omega
  obtain ⟨Q, hQ⟩ : ∃ Q, Q = n * P := ⟨_, rfl⟩
  have eQ : (n : Int) * (P : Int) = (Q : Int) := by rw [hQ]; exact (Int.natCast_mul _ _).symm
  obtain ⟨T, hT⟩ : ∃ T, T = sizeOf n per := ⟨_, rfl⟩
  have hT1 := sizeOf_le n per hn
  have eT : max 64 (Q : Int) = ((max Q 64 : Nat) : Int) := by omega
  have eT2 : T = (max Q 64 + 7) / 8 := by rw [hT, hQ, hP]; rfl
  have hQ2 : Q ≤ 4800 := by rw [hQ, hP]; exact Nat.mul_le_mul (show n ≤ 200 from hn) hP1.2
  rw [← hP] at hP1
  rw [← hK] at hK1
  rw [← hT] at hT1
  obtain ⟨X, hX⟩ : ∃ X, X = max Q 64 := ⟨_, rfl⟩
  rw [← hX] at eT eT2
  have hX2 : X ≤ 4800 := by omega
  obtain ⟨M, hM⟩ : ∃ M, M = min 24 per := ⟨_, rfl⟩
  rw [← hM] at eP
  have m1 := mn (n : Int) 65536 (n : Int) (by omega)
  have m2 := mn 24 per M hM.symm
  have m3 := mx 1 M (P : Int) eP
  have m4 := mx 1 ((P : Int) * 69 / 100) (K : Int) eK
  have m5 := mx 64 (Q : Int) (X : Int) eT
  obtain ⟨hP1, hP2⟩ := hP1
  obtain ⟨hK1, hK2⟩ := hK1
  obtain ⟨hT1, hT2⟩ := hT1
  have eT3 : ((X : Int) + 7) / 8 = (T : Int) := by omega
  have mk := fun W => mk_zeros W ((T : Int) + 1) (T + 1) rfl (by omega)
  have HP := Lib.hid hP
  have HK := Lib.hid hK
  have HT := Lib.hid hT
  have HL := Lib.hid hl
  have HR := Lib.hid hr
  have HS := Lib.hid hs
  clear hP hK hT hl hr hs eP eK hQ eT eT2 hX hM
  go_enter Tryd.func25, Tryd.ntmps25
  go_wp2
  simp only [eT3]
  have hI0 : RbI w (bitsOf T K []) (w.alloc (.cells (bv (List.replicate (T + 1) 0)).toArray 5)) := ⟨Mm.Blk.new w 5 _, (Below.refl _ _).alloc (Nat.le_refl _) _⟩
  have HI0 := Lib.hid hI0
  clear hI0 m1 m2 m3 m4 m5 mk eQ
  go_loopw [9] (fun p wr => ∃ i : Nat, i ≤ n ∧ p = .int .i64 (i : Int) ∧ Hid (RbI w (bitsOf T K ((ks.map (·.toList)).take i)) wr)) (fun p _ => n - (intOf p).toNat)
  case atStart => exact ⟨0, Nat.zero_le _, rfl, Lib.hid (by rw [List.take_zero]; exact HI0.out)⟩
  case round =>
    obtain ⟨i, hi, rfl, HI⟩ := hrel
    by_cases hlt : i < n
    · have kk1 : (i : Int) < (n : Int) := by omega
      have kk2 : (0 : Int) ≤ (i : Int) := by omega
      obtain ⟨s, hs⟩ : ∃ s, ks[i]? = some s := ⟨ks[i]'(by have := HL.out; omega), List.getElem?_eq_getElem _⟩
      obtain ⟨b, o, rfl, hb, hc0⟩ := HR.out.at_ (i := i) (by rw [List.length_map]; have := HL.out; omega)
      have hc1 : wr.cell? ⟨b, o + i, none⟩ = some (.string s) := by
        refine (HI.out.bel.cell (p := ⟨b, o + i, none⟩) hb).trans (hc0.trans ?_)
        rw [List.getElem_map, (List.getElem?_eq_some_iff.1 hs).2]
      have hsz := HS.out s (List.mem_of_getElem? hs)
      have HSS := Lib.hid hs
      obtain ⟨N, hN⟩ : ∃ N, N = 8 * T := ⟨_, rfl⟩
      have eN : (8 : Int) * (T : Int) = (N : Int) := by omega
      have hN0 : 0 < N := by omega
      have hN1 : N < 4294967296 := by omega
      have HN := Lib.hid hN
      have hP := rplaces_any (w := wr) hsz hN0 hN1 (k := K) (by omega)
      have hpl := places_len s.toList N K
      have hplt : ∀ q ∈ places s.toList N K, q < N := fun q hq => places_lt hN0 hq
      obtain ⟨ps, hps⟩ : ∃ ps, ps = places s.toList N K := ⟨_, rfl⟩
      rw [← hps] at hP hpl hplt
      unfold PlcRet at hP
      rw [hpl] at hP
      have HP2 := Lib.hid hP
      have HPL := Lib.hid hpl
      have HLT := Lib.hid hplt
      have HPS := Lib.hid hps
      clear hs hN hc0 hP hpl hplt hps
      go_wp2_with (go_at_call 56; refine HP2.out.mono ?_; rintro e w1 ⟨A1, c1, rfl, hown1, hb1⟩)
      have HI1 := Lib.hid (HI.out.below hb1)
      have hR1 := Rd.own hown1
      have hge : ∀ b1 o1, A1 = some ⟨b1, o1, none⟩ → wr.heap.size ≤ b1 := fun b1 o1 e => by subst e; exact own_ge hown1
      have HGE := Lib.hid hge
      have HR1 := Lib.hid hR1
      have hws : w.heap.size < wr.heap.size := HI.out.arr.lt
      clear hR1 hown1 hb1 hge
      obtain ⟨f0, hf0⟩ : ∃ f0, f0 = bitsOf T K ((ks.map (·.toList)).take i) := ⟨_, rfl⟩
      have hf0l : f0.length = T + 1 := by rw [hf0, bitsOf_len]
      have HF0 := Lib.hid hf0
      rw [← hf0] at HI1
      clear hf0
      obtain ⟨wq, hwq⟩ : ∃ wq, wq = wr := ⟨_, rfl⟩
      subst hwq
      go_loopw [11] (fun p wr => ∃ j : Nat, j ≤ K ∧ p = .int .i64 (j : Int) ∧ Hid (RbI w (puts f0 (ps.take j)) wr) ∧ Hid (Rd wr A1 (iv ps))) (fun p _ => K - (intOf p).toNat)
      case atStart => exact ⟨0, by omega, rfl, Lib.hid HI1.out, HR1⟩
      case round =>
        obtain ⟨j, hj, rfl, HA, HRp⟩ := hrel
        by_cases hlt2 : j < K
        · obtain ⟨p, hp⟩ : ∃ p, ps[j]? = some p := ⟨ps[j]'(by have := HPL.out; omega), List.getElem?_eq_getElem _⟩
          obtain ⟨b1, o1, rfl, hb1, hq2⟩ := iv_at HRp.out hp
          have hge := HGE.out b1 o1 rfl
          have hpN := HLT.out p (List.mem_of_getElem? hp)
          have HPj := Lib.hid hp
          obtain ⟨g, hg⟩ : ∃ g, g = puts f0 (ps.take j) := ⟨_, rfl⟩
          have hgl : g.length = T + 1 := by rw [hg, puts_len, hf0l]
          rw [← hg] at HA
          have HG := Lib.hid hg
          obtain ⟨a, ha⟩ : ∃ a, a = p / 8 := ⟨_, rfl⟩
          obtain ⟨r, hr⟩ : ∃ r, r = p % 8 := ⟨_, rfl⟩
          have ham : a < T := by have := HN.out; omega
          have hr8 : r < 8 := by omega
          have c1 := (HA.out.arr.cell a).trans (bv_cell g (by omega))
          have f1 := HA.out.arr.frozen a
          obtain ⟨Y, hY⟩ : ∃ Y, Y = (g[a]?.getD 0).toNat := ⟨_, rfl⟩
          rw [← hY] at c1
          have e1 : (p : Int) / 8 = (a : Int) := by omega
          have e2 : (p : Int) % 8 = (r : Int) := by omega
          have e3 : (p : Int).tmod 8 = (r : Int) := by rw [Int.tmod_eq_emod_of_nonneg (by omega)]; exact e2
          have k1 : (0 : Int) ≤ (a : Int) := by omega
          have k2 : (a : Int) < (T : Int) + 1 := by omega
          have k3 : (0 : Int) ≤ (r : Int) := by omega
          have k4 : (j : Int) < (K : Int) := by omega
          have k5 : (0 : Int) ≤ (j : Int) := by omega
          have hwa : IntKind.i64.wrap (a : Int) = (a : Int) := IntWalk.i64_in _ (by omega)
          have hwr : IntKind.i64.wrap (r : Int) = (r : Int) := IntWalk.i64_in _ (by omega)
          have hne : w.heap.size ≠ b1 := by omega
          have HY := Lib.hid hY
          have HAa := Lib.hid ha
          have HRr := Lib.hid hr
          clear hY ha hr hp hg
          go_upto_region 13 with fail
          refine wp_region_held_drew (S := fun W' => W'.cell? ⟨b1, o1 + j, none⟩ = some (.int .i64 (p : Int))) (by kernel_rfl) (by (first | assumption | exact (World.cell?_setCell_far _ _ ⟨b1, o1 + j, none⟩ _ hne).trans hq2)) (fun hHeld => ?_)
          refine wpAnyH_take (i := 0) (v := ?vr1_0) (Fr.take_at rfl) (by kernel_rfl) (by kernel_rfl) (by kernel_rfl) (fun _ _ _ h => h) (Or.inl ⟨by rfl, ?yr1_0⟩) (by assumption) ?nr1_0
          case yr1_0 => (intro w_ hSw; (try dsimp only at hSw); go_simp; (try with_reducible rfl))
          try simp only [Act.put, List.setIfInBounds_toArray, List.set_cons_zero, List.set_cons_succ]
          refine wpAnyH_take (i := 1) (v := ?vr1_1) (Fr.take_at rfl) (by kernel_rfl) (by kernel_rfl) (by kernel_rfl) (fun _ _ _ h => h) (Or.inl ⟨by rfl, ?yr1_1⟩) (by assumption) ?nr1_1
          case yr1_1 => (intro w_ hSw; (try dsimp only at hSw); go_simp; (try with_reducible rfl))
          try simp only [Act.put, List.setIfInBounds_toArray, List.set_cons_zero, List.set_cons_succ]
          refine wpAnyH_take (i := 2) (v := ?vr1_2) (Fr.take_at rfl) (by kernel_rfl) (by kernel_rfl) (by kernel_rfl) (fun _ _ _ h => h) (Or.inl ⟨by rfl, ?yr1_2⟩) (by assumption) ?nr1_2
          case yr1_2 => (intro w_ hSw; (try dsimp only at hSw); go_simp; (try with_reducible rfl))
          try simp only [Act.put, List.setIfInBounds_toArray, List.set_cons_zero, List.set_cons_succ]
          refine wpAnyH_take (i := 3) (v := ?vr1_3) (Fr.take_at rfl) (by kernel_rfl) (by kernel_rfl) (by kernel_rfl) (fun _ _ _ h => h) (Or.inl ⟨by rfl, ?yr1_3⟩) (by assumption) ?nr1_3
          case yr1_3 => (intro w_ hSw; (try dsimp only at hSw); go_simp; (try with_reducible rfl))
          try simp only [Act.put, List.setIfInBounds_toArray, List.set_cons_zero, List.set_cons_succ]
          refine wpAnyH_take (i := 4) (v := ?vr1_4) (Fr.take_at rfl) (by kernel_rfl) (by kernel_rfl) (by kernel_rfl) (fun _ _ _ h => h) (Or.inl ⟨by rfl, ?yr1_4⟩) (by assumption) ?nr1_4
          case yr1_4 => (intro w_ hSw; (try dsimp only at hSw); go_simp; (try with_reducible rfl))
          try simp only [Act.put, List.setIfInBounds_toArray, List.set_cons_zero, List.set_cons_succ]
          refine wpAnyH_take (i := 5) (v := ?vr1_5) (Fr.take_at rfl) (by kernel_rfl) (by kernel_rfl) (by kernel_rfl) (fun _ _ _ h => h) (Or.inl ⟨by rfl, ?yr1_5⟩) (by assumption) ?nr1_5
          case yr1_5 => (intro w_ hSw; (try dsimp only at hSw); go_simp; (try with_reducible rfl))
          try simp only [Act.put, List.setIfInBounds_toArray, List.set_cons_zero, List.set_cons_succ]
          refine wpAnyH_take (i := 6) (v := ?vr1_6) (Fr.take_at rfl) (by kernel_rfl) (by kernel_rfl) (by kernel_rfl) (fun _ _ _ h => h) (Or.inl ⟨by rfl, ?yr1_6⟩) (by assumption) ?nr1_6
          case yr1_6 => (intro w_ hSw; (try dsimp only at hSw); go_simp; (try with_reducible rfl))
          try simp only [Act.put, List.setIfInBounds_toArray, List.set_cons_zero, List.set_cons_succ]
          refine wpAnyH_take (i := 7) (v := ?vr1_7) (Fr.take_at rfl) (by kernel_rfl) (by kernel_rfl) (by kernel_rfl) (fun _ _ _ h => h) (Or.inl ⟨by rfl, ?yr1_7⟩) (by assumption) ?nr1_7
          case yr1_7 => (intro w_ hSw; (try dsimp only at hSw); go_simp; (try with_reducible rfl))
          try simp only [Act.put, List.setIfInBounds_toArray, List.set_cons_zero, List.set_cons_succ]
          refine wpAnyH_take (i := 8) (v := ?vr1_8) (Fr.take_at rfl) (by kernel_rfl) (by kernel_rfl) (by kernel_rfl) (fun _ _ _ h => h) (Or.inl ⟨by rfl, ?yr1_8⟩) (by assumption) ?nr1_8
          case yr1_8 => (intro w_ hSw; (try dsimp only at hSw); go_simp; (try with_reducible rfl))
          try simp only [Act.put, List.setIfInBounds_toArray, List.set_cons_zero, List.set_cons_succ]
          refine wpAnyH_take (i := 9) (v := ?vr1_9) (Fr.take_at rfl) (by kernel_rfl) (by kernel_rfl) (by kernel_rfl) (fun _ _ _ h => h) (Or.inl ⟨by rfl, ?yr1_9⟩) (by assumption) ?nr1_9
          case yr1_9 => (intro w_ hSw; (try dsimp only at hSw); go_simp; (try with_reducible rfl))
          try simp only [Act.put, List.setIfInBounds_toArray, List.set_cons_zero, List.set_cons_succ]
          refine wpAnyH_take (i := 10) (v := ?vr1_10) (Fr.take_at rfl) (by kernel_rfl) (by kernel_rfl) (by kernel_rfl) (fun _ _ _ h => h) (Or.inl ⟨by rfl, ?yr1_10⟩) (by assumption) ?nr1_10
          case yr1_10 => (intro w_ hSw; (try dsimp only at hSw); go_simp; (try with_reducible rfl))
          try simp only [Act.put, List.setIfInBounds_toArray, List.set_cons_zero, List.set_cons_succ]
          refine wpAnyH_take (i := 11) (v := ?vr1_11) (Fr.take_at rfl) (by kernel_rfl) (by kernel_rfl) (by kernel_rfl) (fun _ _ _ h => h) (Or.inl ⟨by rfl, ?yr1_11⟩) (by assumption) ?nr1_11
          case yr1_11 => (intro w_ hSw; (try dsimp only at hSw); go_simp; (try with_reducible rfl))
          try simp only [Act.put, List.setIfInBounds_toArray, List.set_cons_zero, List.set_cons_succ]
          refine wpAnyH_take (i := 12) (v := ?vr1_12) (Fr.take_at rfl) (by kernel_rfl) (by kernel_rfl) (by kernel_rfl) (fun _ _ _ h => h) (Or.inl ⟨by rfl, ?yr1_12⟩) (by assumption) ?nr1_12
          case yr1_12 => (intro w_ hSw; (try dsimp only at hSw); go_simp; (try with_reducible rfl))
          try simp only [Act.put, List.setIfInBounds_toArray, List.set_cons_zero, List.set_cons_succ]
          refine wpAnyH_take (i := 14) (v := ?vr1_14) (Fr.take_at rfl) (by kernel_rfl) (by kernel_rfl) (by kernel_rfl) (fun _ _ _ h => h) (Or.inl ⟨by rfl, ?yr1_14⟩) (by assumption) ?nr1_14
          case yr1_14 => (intro w_ hSw; (try dsimp only at hSw); go_simp; (try with_reducible rfl))
          try simp only [Act.put, List.setIfInBounds_toArray, List.set_cons_zero, List.set_cons_succ]
          refine wpAnyH_take (i := 15) (v := ?vr1_15) (Fr.take_at rfl) (by kernel_rfl) (by kernel_rfl) (by kernel_rfl) (fun _ _ _ h => h) (Or.inl ⟨by rfl, ?yr1_15⟩) (by assumption) ?nr1_15
          case yr1_15 => (intro w_ hSw; (try dsimp only at hSw); go_simp; (try with_reducible rfl))
          try simp only [Act.put, List.setIfInBounds_toArray, List.set_cons_zero, List.set_cons_succ]
          refine wpAnyH_take (i := 16) (v := ?vr1_16) (Fr.take_at rfl) (by kernel_rfl) (by kernel_rfl) (by kernel_rfl) (fun _ _ _ h => h) (Or.inl ⟨by rfl, ?yr1_16⟩) (by assumption) ?nr1_16
          case yr1_16 => (intro w_ hSw; (try dsimp only at hSw); go_simp; (try with_reducible rfl))
          try simp only [Act.put, List.setIfInBounds_toArray, List.set_cons_zero, List.set_cons_succ]
          refine wpAnyH_take (i := 17) (v := ?vr1_17) (Fr.take_at rfl) (by kernel_rfl) (by kernel_rfl) (by kernel_rfl) (fun _ _ _ h => h) (Or.inl ⟨by rfl, ?yr1_17⟩) (by assumption) ?nr1_17
          case yr1_17 => (intro w_ hSw; (try dsimp only at hSw); go_simp; (try with_reducible rfl))
          try simp only [Act.put, List.setIfInBounds_toArray, List.set_cons_zero, List.set_cons_succ]
          refine wpAnyH_take (i := 18) (v := ?vr1_18) (Fr.take_at rfl) (by kernel_rfl) (by kernel_rfl) (by kernel_rfl) (fun _ _ _ h => h) (Or.inl ⟨by rfl, ?yr1_18⟩) (by assumption) ?nr1_18
          case yr1_18 => (intro w_ hSw; (try dsimp only at hSw); go_simp; (try with_reducible rfl))
          try simp only [Act.put, List.setIfInBounds_toArray, List.set_cons_zero, List.set_cons_succ]
          refine wpAnyH_take (i := 19) (v := ?vr1_19) (Fr.take_at rfl) (by kernel_rfl) (by kernel_rfl) (by kernel_rfl) (fun _ _ _ h => h) (Or.inl ⟨by rfl, ?yr1_19⟩) (by assumption) ?nr1_19
          case yr1_19 => (intro w_ hSw; (try dsimp only at hSw); go_simp; (try with_reducible rfl))
          try simp only [Act.put, List.setIfInBounds_toArray, List.set_cons_zero, List.set_cons_succ]
          refine wpAnyH_ready (rs := [13]) (by kernel_rfl) (by simp) ?_
          refine AllReadyH.cons (Fr.take_at rfl) (fun K hK => ?_) AllReadyH.nil
          go_simp
          refine hK.out _ _ (by (first | assumption | exact (World.cell?_setCell_far _ _ ⟨b1, o1 + j, none⟩ _ hne).trans hq2)) (fun hHeld => ?_)
          clear hK K
          try simp only [Act.put, List.setIfInBounds_toArray, List.set_cons_zero, List.set_cons_succ]
          refine wpAnyH_take (i := 20) (v := ?vr1_20) (Fr.take_at rfl) (by kernel_rfl) (by kernel_rfl) (by kernel_rfl) (fun _ _ _ h => h) (Or.inl ⟨by rfl, ?yr1_20⟩) (by assumption) ?nr1_20
          case yr1_20 => (intro w_ hSw; (try dsimp only at hSw); go_simp; (try with_reducible rfl))
          try simp only [Act.put, List.setIfInBounds_toArray, List.set_cons_zero, List.set_cons_succ]
          refine wpAnyH_take (i := 21) (v := ?vr1_21) (Fr.take_at rfl) (by kernel_rfl) (by kernel_rfl) (by kernel_rfl) (fun _ _ _ h => h) (Or.inl ⟨by rfl, ?yr1_21⟩) (by assumption) ?nr1_21
          case yr1_21 => (intro w_ hSw; (try dsimp only at hSw); go_simp; (try with_reducible rfl))
          try simp only [Act.put, List.setIfInBounds_toArray, List.set_cons_zero, List.set_cons_succ]
          refine wpAnyH_ready (rs := [22]) (by kernel_rfl) (by simp) ?_
          refine AllReadyH.cons (Fr.take_at rfl) (fun K hK => ?_) AllReadyH.nil
          go_simp
          refine hK.out _ _ (by (first | assumption | exact (World.cell?_setCell_far _ _ ⟨b1, o1 + j, none⟩ _ hne).trans hq2)) (fun hHeld => ?_)
          clear hK K
          try simp only [Act.put, List.setIfInBounds_toArray, List.set_cons_zero, List.set_cons_succ]
          refine wpAnyH_done (by kernel_rfl) ?_ _
          clear hwa hwr e1 e2 e3 eN k1 k2 k3 k5 c1 f1
          go_wp2
          go_roundw
          case rel =>
            refine ⟨j + 1, by omega, by simp, Lib.hid ?_, Lib.hid ?_⟩
            · have := (HA.out.put p HAa.out HRr.out HY.out).drew
              rw [HG.out, ← puts_one, ← puts_append] at this
              rw [List.take_add_one, HPj.out]
              exact this
            · intro h
              obtain ⟨b2, o2, e, hb2, hc2⟩ := HRp.out h
              cases e
              exact ⟨b1, o1, rfl, by simpa using hb2, fun i hi => (World.cell?_setCell_far _ _ ⟨b1, o1 + i, none⟩ _ hne).trans (hc2 i hi)⟩
          case measure => simp [intOf]; omega
        · obtain rfl : j = K := by omega
          have k4 : ¬ (j : Int) < (j : Int) := by omega
          go_wp2
          go_roundw
          case rel =>
            refine ⟨i + 1, by omega, by simp, Lib.hid ?_⟩
            have e : (ks.map (·.toList)).take (i + 1) = (ks.map (·.toList)).take i ++ [s.toList] := by
              rw [List.take_add_one, List.getElem?_map, HSS.out]; rfl
            rw [e, bitsOf_snoc, ← HF0.out, ← HN.out, ← HPS.out]
            have := HA.out
            rwa [List.take_of_length_le (by have := HPL.out; omega)] at this
          case measure => simp [intOf]; omega
    · obtain rfl : i = n := by omega
      have hI := HI.out
      rw [List.take_of_length_le (by rw [List.length_map]; have := HL.out; omega)] at hI
      obtain ⟨g, hg⟩ : ∃ g, g = bitsOf T K (ks.map (·.toList)) := ⟨_, rfl⟩
      have hgl : g.length = T + 1 := by rw [hg, bitsOf_len]
      rw [← hg] at hI
      have c1 := (hI.arr.cell T).trans (bv_cell g (by omega))
      have f1 := hI.arr.frozen T
      have HI2 := Lib.hid hI
      have HG := Lib.hid hg
      have k1 : ¬ (i : Int) < (i : Int) := by omega
      clear hI hg
      go_wp2
      go_ret
      have hB := HI2.out.arr.set T (.int .u8 (K : Int))
      rw [bv_set g T K (by omega)] at hB
      have hF : g.set T (UInt8.ofNat K) = filt (ks.map (·.toList)) per := by
        have h1 := HT.out
        unfold filt
        rw [List.length_map, HL.out, ← h1, ← HK.out, HG.out]
      rw [hF] at hB
      have hfl : (filt (ks.map (·.toList)) per).length = T + 1 := by rw [← hF, List.length_set, hgl]
      exact made_block hfl (by omega) hB (below_set HI2.out.bel (Nat.le_refl _) _)
end
end Bl
end Go.Proofs.YtadlhnjnhllpfaaDoor
