/-
  WHAT IS PROVED: (1) what blocksOf and entriesOf of package sstable answer. CONDITIONS: the bytes stand in memory as named.
-/
import Derived.Test.YtadlhnjnhllpfaaDoorQSEnt
import Derived.Test.YtadlhnjnhllpfaaDoorQBBld
namespace Go.Proofs.YtadlhnjnhllpfaaDoor
open Go Go.RowKit Go.Proofs.YtadlhnjnhllpfaaDoor.Mm Go.Proofs.YtadlhnjnhllpfaaDoor.Fr
namespace Ss
section
variable {S : Nat → Prop} {w W W' : World} {A : Option Addr} {n c G : Nat} {l : Bs}
theorem TkAt.same (h : TkAt S W G l) (hs : W.heap.size ≤ W'.heap.size) (hk : ∀ b, b < W.heap.size → b = G ∨ S b → W'.heap[b]? = W.heap[b]?) : TkAt S W' G l := by
  obtain ⟨A, n, c, hb, hl, hnc, hn, hr, hS⟩ := h
  refine ⟨A, n, c, hb.same (hk _ hb.lt (.inl rfl)), hl, hnc, hn, fun hx => ?_, hS⟩
  obtain ⟨b, o, e, hlt, hc⟩ := hr hx
  exact ⟨b, o, e, by omega, fun i hi => (World.cell?_of_block (a := ⟨b, o + i, none⟩) (hk b hlt (.inr (hS _ e)))).trans (hc i hi)⟩
theorem TkAt.lt (h : TkAt S W G l) : G < W.heap.size := by
  obtain ⟨A, n, c, hb, _⟩ := h
  exact hb.lt
theorem front_eq (l : Bs) (z n : Nat) (hl : l.length = n) (hz : z = offOf (l.drop (n - 12))) : frontB l = l.take (min z n) := by
  subst hl hz
  unfold frontB
  rw [show offB l = offOf (l.drop (l.length - 12)) from rfl, List.take_eq_take_iff]
  omega
set_option maxRecDepth 100000 in
theorem blocksOf_any (hl : l.length = n) (hnc : n ≤ c) (hn : n ≤ 140737488355328) (hr : Rd w A (bv l)) (hS : ∀ a, A = some a → S a.block) :
    Calls Tryd.prog 64 #[.slice A n c] w fun e w' => ∃ A' m c', e = .returned (.slice A' m c') ∧ (frontB l).length = m ∧ m ≤ c' ∧ m ≤ 140737488355328 ∧ Rd w' A' (bv (frontB l)) ∧ (∀ a, A' = some a → S a.block) ∧ Below w.heap.size w w' := by
  obtain ⟨i0, hi, hz, hz1, hz2⟩ := info_parts Fr.info_u8
  obtain ⟨d, hd⟩ : ∃ d, d = n - 12 := ⟨_, rfl⟩
  obtain ⟨A1, ⟨ha1, ha2⟩, ha3, ha4⟩ := cut_b A n c d (n - d) (c - d) .i64 (d : Int) rfl (by omega) (by omega)
  have hq : Rd w A1 (bv (l.drop d)) := by rw [← bv_drop]; exact ha3 w _ hr (by rw [bv_length, hl]; exact hnc)
  have hmx := Bl.mx ((n : Int) - 12) 0 (d : Int) (by omega)
  have hT : TkAt S (w.alloc (.cells #[.slice A1 (n - d) (c - d)] 94)) w.heap.size (l.drop d) := ⟨A1, n - d, c - d, Blk.new _ _ _, by rw [List.length_drop, hl], by omega, by omega, hq.alloc _, fun a e => by obtain ⟨a0, e0, e1⟩ := ha4 a e; rw [← e1]; exact hS a0 e0⟩
  have hF := toff_any hT
  obtain ⟨z, hzz⟩ : ∃ z, z = offOf (l.drop d) := ⟨_, rfl⟩
  rw [← hzz] at hF
  obtain ⟨m, hm⟩ : ∃ m, m = min z n := ⟨_, rfl⟩
  have hmn := Bl.mn (z : Int) (n : Int) (m : Int) (by omega)
  obtain ⟨hb1, hb2⟩ := Fr.cut_to (P := Tryd.prog) 25 5 i0 Tryd.underlying25 (by kernel_rfl) hi hz1 A n c m .i64 (m : Int) rfl (by omega)
  have hfr : frontB l = l.take m := by rw [hm]; exact front_eq l z n hl (by rw [← hd]; exact hzz)
  have hb0 : Below w.heap.size w (w.alloc (.cells #[.slice A1 (n - d) (c - d)] 94)) := (Below.refl _ _).alloc (Nat.le_refl _) _
  have HF := Lib.hid hF
  have HFR := Lib.hid hfr
  have HB0 := Lib.hid hb0
  have HR := Lib.hid hr
  have HL := Lib.hid hl
  have HM := Lib.hid hm
  have HS := Lib.hid hS
  clear hF hfr hb0 hr hl hm hS hzz hT hq ha3 ha4 hd
  go_enter Tryd.func64, Tryd.ntmps64
  go_wp2_with (go_at_call 77; refine HF.out.mono ?_; rintro e w2 ⟨rfl, h2⟩)
  go_ret
  have hb2 : Below w.heap.size w w2 := HB0.out.trans (h2.mod.to_below (fun k e => by subst e; exact Nat.le_refl _) HB0.out.size)
  refine ⟨A, m, c, rfl, ?_, ?_, ?_, ?_, HS.out, hb2⟩
  · rw [HFR.out, List.length_take, HL.out, HM.out]; omega
  · rw [HM.out]; omega
  · rw [HM.out]; omega
  · rw [HFR.out, ← bv_take]; exact (HR.out.below hb2).take m
theorem own_tk {base size k : Nat} {e : TypeId} {v : Value} {xs : List Value} (h : W.ownsRow base e size v k xs) (ht : TkAt S W G l) (hm : Mod (fun b => b = G) W W') (hne : 94 ≠ e) : W'.ownsRow base e size v k xs := by
  obtain ⟨A, n, c, hb, _⟩ := ht
  refine own_same h fun j hj => ?_
  obtain ⟨_, h1⟩ := own_blk h hj
  refine hm.block j h1.lt fun e' => ?_
  subst e'
  rcases own_ne_b h hb hne with h2 | h2
  · rw [h2] at hj; cases hj
  · exact h2 hj
theorem TkAt.grown {base k : Nat} {v : Value} {xs : List Value} {o : Obj} (h : TkAt S W G l) (ho : W.ownsRow base 42 4 v k xs) (hg : (W.alloc o).grownBy W' v.ownBlock) (hS : ∀ b, S b → v.ownBlock ≠ some b) : TkAt S W' G l := by
  have hs := hg.size
  refine h.same (by simp at hs; omega) fun b hb he => (hg.block b (by simp; omega) fun e' => ?_).trans (Below.heap_alloc W o b hb)
  rcases he with rfl | he
  · obtain ⟨A, n, c, hb, _⟩ := h
    rcases own_ne_b ho hb (by decide) with h2 | h2
    · rw [h2] at e'; cases e'
    · exact h2 e'.symm
  · exact hS b he e'.symm
theorem tk_of {base k c : Nat} {A : Option Addr} (h : W.ownsRow base 5 1 (.slice A k c) k (bv l)) (hl : l.length = k) (hkc : k ≤ c) (hk : k ≤ 4096) : TkAt (fun b => (Value.slice A k c).ownBlock = some b) (W.alloc (.cells #[.slice A k c] 94)) W.heap.size l :=
  ⟨A, k, c, Blk.new _ _ _, hl, hkc, by omega, (Rd.own h).alloc _, fun a e => by
    rcases h.2 with ⟨h1, _⟩ | ⟨g, cap, cur, h1, _⟩
    · cases h1; cases e
    · cases h1; cases e; rfl⟩
end
/-- entriesOf, g blocks are left. -/
def EoI (w : World) (L : List En) (R : Nat) (g : Nat) (v i : Value) (wr : World) : Prop :=
  ∃ (k : Nat) (acc : List En) (lr : Bs) (A : Option Addr) (m c : Nat), k + g = 28 ∧ i = .int .i64 (k : Int) ∧ v = .slice A m c ∧ m ≤ 3 * k ∧ Hid (acc.length = m) ∧ Hid (acc ++ readF g lr = L) ∧ Hid (wr.ownsRow w.heap.size 42 4 (.slice A m c) m (ev acc)) ∧ Hid (TkAt (fun b => b < w.heap.size) wr R lr) ∧ Hid (Below w.heap.size w wr)
/-- A block, h entries are left. -/
def EbI (w : World) (acc : List En) (P lr : Bs) (R B m0 : Nat) (A0 : Option Addr) (n0 c0 : Nat) (h : Nat) (v i : Value) (wr : World) : Prop :=
  ∃ (j : Nat) (don : List En) (lb : Bs) (A : Option Addr) (m c : Nat), j + h = 3 ∧ i = .int .i64 (j : Int) ∧ v = .slice A m c ∧ m ≤ 90 ∧ Hid (m = m0 + j) ∧ Hid (don.length = j) ∧ Hid (readB 3 P = (don ++ (readB h lb).1, (readB h lb).2)) ∧ Hid (wr.ownsRow w.heap.size 42 4 (.slice A m c) m (ev (acc ++ don))) ∧ Hid (TkAt (fun b => b < w.heap.size) wr R lr) ∧ Hid (TkAt (fun b => (Value.slice A0 n0 c0).ownBlock = some b) wr B lb) ∧ Hid (wr.ownsRow w.heap.size 5 1 (.slice A0 n0 c0) n0 (bv P)) ∧ Hid (Below w.heap.size w wr)
theorem readB_end {P lb : Bs} {don : List En} (h : readB 3 P = (don ++ (readB 0 lb).1, (readB 0 lb).2)) : readB 3 P = (don, true) := by rw [h]; simp [readB]
theorem readB_short {P : Bs} {don : List En} {h : Nat} (e : readB 3 P = (don ++ (readB (h + 1) []).1, (readB (h + 1) []).2)) : readB 3 P = (don, false) := by rw [e]; simp [readB]
theorem readB_one {P lb lb' : Bs} {don : List En} {h : Nat} {x : En} (hne : lb ≠ []) (hx : readE lb = (x, lb')) (e : readB 3 P = (don ++ (readB (h + 1) lb).1, (readB (h + 1) lb).2)) : readB 3 P = ((don ++ [x]) ++ (readB h lb').1, (readB h lb').2) := by
  rw [e]
  simp only [readB]
  rw [if_neg hne, hx]
  simp
theorem readF_go {g : Nat} {lr : Bs} {don : List En} (h : readB 3 (takeF lr).1 = (don, true)) : readF (g + 1) lr = don ++ readF g (lr.drop (takeF lr).2) := by
  rw [readF, h]; simp
theorem readF_stop {g : Nat} {lr : Bs} {don : List En} (h : readB 3 (takeF lr).1 = (don, false)) : readF (g + 1) lr = don := by
  rw [readF, h]; simp
section
variable {w : World} {A : Option Addr} {n c : Nat} {l : Bs}
def EntsRet (w : World) (L : List En) (e : Ending) (w' : World) : Prop := ∃ A m c, e = .returned (.slice A m c) ∧ L.length = m ∧ m ≤ 84 ∧ w'.ownsRow w.heap.size 42 4 (.slice A m c) m (ev L) ∧ Below w.heap.size w w'
theorem EntsRet.mk {w' : World} {L : List En} {A : Option Addr} {m c : Nat} (h1 : L.length = m) (h2 : m ≤ 84) (h3 : w'.ownsRow w.heap.size 42 4 (.slice A m c) m (ev L)) (h4 : Below w.heap.size w w') : EntsRet w L (.returned (.slice A m c)) w' := ⟨A, m, c, rfl, h1, h2, h3, h4⟩
theorem le_alloc {b : Nat} (h : b ≤ w.heap.size) : ∀ o : Obj, b ≤ (w.alloc o).heap.size := fun o => by simp; omega
theorem TkAt.cell {S : Nat → Prop} {G : Nat} (h : TkAt S w G l) : ∃ A n c, w.cell? ⟨G, 0, none⟩ = some (.slice A n c) ∧ l.length = n := by
  obtain ⟨A, n, c, hb, hl, _⟩ := h
  exact ⟨A, n, c, hb.cell 0, hl⟩
set_option maxRecDepth 100000 in
set_option maxHeartbeats 2000000 in
theorem entriesOf_any (hl : l.length = n) (hnc : n ≤ c) (hn : n ≤ 140737488355328) (hr : Rd w A (bv l)) (hA : ∀ a, A = some a → a.block < w.heap.size) (ht : Tab w) :
    Calls Tryd.prog 44 #[.slice A n c] w (EntsRet w (readAll l)) := by
  obtain ⟨ie, hie, hiz, hiz1, hiz2⟩ := info_parts info_entry
  have hF := blocksOf_any (S := fun b => b < w.heap.size) hl hnc hn hr hA
  obtain ⟨L, hL⟩ : ∃ L, L = readAll l := ⟨_, rfl⟩
  have hL2 : readF 28 (frontB l) = L := hL.symm
  rw [← hL]
  have HF := Lib.hid hF
  have HL2 := Lib.hid hL2
  have HT := Lib.hid ht
  clear hF hL2 hL hl hr hA ht
  go_enter Tryd.func44, Tryd.ntmps44
  go_wp2
  go_step3
  go_wp2_with (go_at_call 64; refine HF.out.mono ?_; rintro e w2 ⟨A2, m2, c2, rfl, hm2, hmc2, hmn2, hr2, hS2, hb2⟩)
  obtain ⟨R, hR⟩ : ∃ R, R = w2.heap.size := ⟨_, rfl⟩
  have hRw : w.heap.size ≤ R := by rw [hR]; exact hb2.size
  have hT0 : TkAt (fun b => b < w.heap.size) (w2.alloc (.cells #[.slice A2 m2 c2] 94)) R (frontB l) := by rw [hR]; exact ⟨A2, m2, c2, Blk.new _ _ _, hm2, hmc2, hmn2, hr2.alloc _, hS2⟩
  have hB0 : Below w.heap.size w (w2.alloc (.cells #[.slice A2 m2 c2] 94)) := hb2.alloc hb2.size _
  obtain ⟨W0, hW0⟩ : ∃ W0, W0 = w2.alloc (.cells #[.slice A2 m2 c2] 94) := ⟨_, rfl⟩
  rw [← hW0] at hT0 hB0 ⊢
  rw [← hR]
  have HT0 := Lib.hid hT0
  have HB0 := Lib.hid hB0
  clear hT0 hB0 hW0 hR hr2 hS2 hb2 hm2 hmc2 hmn2
  go_step3
  go_wp2
  go_loopg [3, 9] 28 (EoI w L R)
  case atStart => exact ⟨0, [], frontB l, none, 0, 0, by omega, rfl, rfl, by omega, Lib.hid rfl, Lib.hid HL2.out, Lib.hid (World.ownsRow_nil _ _ _ _), HT0, HB0⟩
  case round =>
    clear HT0 HB0 HL2 HF
    obtain ⟨k, acc, lr, A3, m, c3, hk, rfl, rfl, hm, HAC, HRF, HOW, HTK, HB⟩ := hrel
    cases gk with
    | zero =>
      obtain rfl : k = 28 := by omega
      have hRF := HRF.out
      rw [readF, List.append_nil] at hRF
      subst hRF
      go_wp2
      go_ret
      exact EntsRet.mk HAC.out (by omega) HOW.out HB.out
    | succ g =>
      have k1 : (k : Int) < 28 := by omega
      have hP := tpay_any HTK.out (HT.out.below HB.out)
      have HP := Lib.hid hP
      clear hP
      obtain ⟨P, hPP⟩ : ∃ P, P = (takeF lr).1 := ⟨_, rfl⟩
      obtain ⟨lr', hlr'⟩ : ∃ lr', lr' = lr.drop (takeF lr).2 := ⟨_, rfl⟩
      rw [← hPP, ← hlr'] at HP
      have hPl : P.length ≤ 4096 := by rw [hPP]; exact takeF_len lr
      have HPP := Lib.hid hPP
      have HLR := Lib.hid hlr'
      have HPL := Lib.hid hPl
      clear hPP hlr' hPl
      go_wp2_with (go_at_call 65; refine HP.out.mono ?_; rintro e w3 ⟨A0, n0, c0, rfl, hn0, hnc0, hrow0, htk0⟩)
      obtain ⟨B, hBB⟩ : ∃ B, B = w3.heap.size := ⟨_, rfl⟩
      have hb3 : Below w.heap.size w w3 := HB.out.trans (htk0.mod.to_below (fun q e => by subst e; exact hRw) HB.out.size)
      have hown3 := own_tk HOW.out HTK.out htk0.mod (by decide)
      have hbase : w.heap.size ≤ wr.heap.size := HB.out.size
      have htB : TkAt (fun b => (Value.slice A0 n0 c0).ownBlock = some b) (w3.alloc (.cells #[.slice A0 n0 c0] 94)) B P := by rw [hBB]; exact tk_of (own_mono hrow0 (Nat.le_refl _)) hn0 hnc0 (by have := HPL.out; omega)
      obtain ⟨W4, hW4⟩ : ∃ W4, W4 = w3.alloc (.cells #[.slice A0 n0 c0] 94) := ⟨_, rfl⟩
      have htR4 : TkAt (fun b => b < w.heap.size) W4 R lr' := by rw [hW4]; exact htk0.at_.alloc _
      have hown4 : W4.ownsRow w.heap.size 42 4 (.slice A3 m c3) m (ev acc) := by rw [hW4]; exact hown3.alloc _
      have hrow4 : W4.ownsRow w.heap.size 5 1 (.slice A0 n0 c0) n0 (bv P) := by rw [hW4]; exact own_mono (hrow0.alloc _) hbase
      have hb4 : Below w.heap.size w W4 := by rw [hW4]; exact hb3.alloc hb3.size _
      rw [← hW4] at htB ⊢
      rw [← hBB]
      have HTB := Lib.hid htB
      have HTR4 := Lib.hid htR4
      have HOW4 := Lib.hid hown4
      have HROW4 := Lib.hid hrow4
      have HB4 := Lib.hid hb4
      have hBw : w.heap.size ≤ B := by rw [hBB]; exact hb3.size
      have hRB : R ≠ B := by
        have h1 := HTK.out.lt
        have h2 := htk0.mod.size
        omega
      have HMM := Lib.hid hm
      clear htB htR4 hown4 hrow4 hb4 hW4 hBB hb3 hown3 hrow0 htk0 HOW HTK HB HP hn0 hnc0
      go_wp2
      go_loopg [3, 13] 3 (EbI w acc P lr' R B m A0 n0 c0)
      case atStart => exact ⟨0, [], P, A3, m, c3, by omega, rfl, rfl, by have := HMM.out; omega, Lib.hid rfl, Lib.hid rfl, Lib.hid (by simp), by rw [List.append_nil]; exact HOW4, HTR4, HTB, HROW4, HB4⟩
      case round =>
        clear HTB HTR4 HOW4 HROW4 HB4
        obtain ⟨j, don, lb, A5, m5, c5, hj, rfl, rfl, hm90, HM5, HDL, HRB, HOW, HTR, HTB, HROW, HB⟩ := hrel
        cases gk with
        | zero =>
          obtain rfl : j = 3 := by omega
          have k2 : ¬ ((3 : Nat) : Int) < 3 := by omega
          go_wp2
          go_roundg g
          case rel =>
            refine ⟨k + 1, acc ++ don, lr', A5, m5, c5, by omega, by simp, rfl, by have := HMM.out; have := HM5.out; omega, Lib.hid (by rw [List.length_append, HAC.out, HDL.out, HM5.out]), Lib.hid ?_, HOW, HTR, HB⟩
            have h1 := readB_end HRB.out
            rw [HPP.out] at h1
            have h2 := HRF.out
            rw [readF_go h1, ← HLR.out, ← List.append_assoc] at h2
            exact h2
          case measure => exact Nat.lt_succ_self _
        | succ h =>
          have k2 : (j : Int) < 3 := by omega
          obtain ⟨A6, n6, c6, hc6, hl6⟩ := HTB.out.cell
          have HL6 := Lib.hid hl6
          clear hl6
          by_cases h0 : n6 = 0
          · subst h0
            have hlb : lb = [] := List.length_eq_zero_iff.1 HL6.out
            subst hlb
            have h1 := readB_short HRB.out
            rw [HPP.out] at h1
            have h2 := HRF.out
            rw [readF_stop h1] at h2
            subst h2
            go_wp2
            go_ret
            exact EntsRet.mk (by rw [List.length_append, HAC.out, HDL.out, HM5.out]) (by have := HMM.out; have := HM5.out; omega) HOW.out HB.out
          · have k3 : ((n6 : Int) == 0) = false := by rw [beq_eq_false_iff_ne]; omega
            have hne : lb ≠ [] := fun e => h0 (by rw [← HL6.out, e]; rfl)
            obtain ⟨⟨x, lb'⟩, hx⟩ : ∃ p, readE lb = p := ⟨_, rfl⟩
            have hE := tent_any HTB.out
            rw [hx] at hE
            dsimp only at hE
            have HE := Lib.hid hE
            have HX := Lib.hid (readB_one hne hx HRB.out)
            have hbw := HB.out.size
            clear hE hx hne
            go_wp2_with (first
              | (go_at_call 66; refine HE.out.mono ?_; rintro e w7 ⟨rfl, ht7⟩; have HO7 := Lib.hid (own_tk HOW.out HTB.out ht7.mod (by decide)); have hbs7 := ht7.mod.size; have HT7 := Lib.hid ht7; clear ht7; have HBS := Lib.hid (le_alloc (w := w7) (Nat.le_trans hbw hbs7)))
              | (at_builtin; refine wpList_appN _ rfl (.tmp 19) (.tmp 21) _ rfl w.heap.size 42 ie _ 4 48 Tryd.underlying22 hie hiz hiz1 hiz2 rfl (by decide) (.slice A5 m5 c5) m5 (ev (acc ++ don)) rfl (HO7.out.alloc _) ⟨_, 0, none⟩ 1 1 (ecells x) rfl rfl (one_cells _ _ _) (ecells_one _) (m5 + 1) rfl (by unfold maxLen; omega) (by omega) (HBS.out _) ?_; intro A8 c8 w8 hown8 hb8 hg8))
            have hrow7 := own_tk HROW.out HTB.out HT7.out.mod (by decide)
            have hR7 : TkAt (fun b => b < w.heap.size) w7 R lr' := HTR.out.same hbs7 fun b hb he => HT7.out.mod.block b hb fun e => by
              subst e
              rcases he with he | he
              · exact hRB he.symm
              · have := hBw; omega
            have hR8 := hR7.grown HO7.out hg8 fun b hb e => by have := own_rowN HO7.out _ e; omega
            have hB8 := HT7.out.at_.grown HO7.out hg8 fun b hb e => by
              obtain ⟨_, h1⟩ := own_blk hrow7 hb
              rcases own_ne_b HO7.out h1 (by decide) with h2 | h2
              · rw [h2] at e; cases e
              · exact h2 e
            have hrow8 := own_same hrow7 (w' := w8) fun q hq => by
              obtain ⟨_, h1⟩ := own_blk hrow7 hq
              refine (hg8.block q (by simp; have := h1.lt; omega) fun e => ?_).trans (Below.heap_alloc w7 _ q h1.lt)
              rcases own_ne_b HO7.out h1 (by decide) with h2 | h2
              · rw [h2] at e; cases e
              · exact h2 e.symm
            have hb8' : Below w.heap.size w w8 := (HB.out.trans (HT7.out.mod.to_below (fun q e => by subst e; exact hBw) hbw)).trans (((Below.refl _ w7).alloc (Nat.le_trans hbw hbs7) _).trans hb8)
            go_roundg h
            case rel => exact ⟨j + 1, don ++ [x], lb', A8, m5 + 1, c8, by omega, by simp, rfl, by have := HM5.out; have := HMM.out; omega, Lib.hid (by rw [HM5.out]; omega), Lib.hid (by rw [List.length_append, HDL.out]; rfl), HX, Lib.hid (by rw [← List.append_assoc, ev_snoc]; exact hown8), Lib.hid hR8, Lib.hid hB8, Lib.hid hrow8, Lib.hid hb8'⟩
            case measure => exact Nat.lt_succ_self _
end
end Ss
end Go.Proofs.YtadlhnjnhllpfaaDoor
