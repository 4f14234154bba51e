/-
  WHAT IS PROVED: MemHeights holds for every script. CONDITIONS: the script stands in memory as named.
-/
import Derived.Test.YtfnfjhfmhinkcaaMTwo
import Derived.Test.YtfnfjhfmhinkcaaMNew
namespace Go.Proofs.Ytfnfjhfmhinkcaa
open Go Go.RowKit Go.Maps Go.Sort Go.Proofs.Ytfnfjhfmhinkcaa.Fr
namespace Mm
/-- The two tables, i calls in. -/
def HInv (w0 : World) (T U len : Nat) (s : Value) (wr : World) : Prop :=
  ∃ (i : Nat) (ns ms : List Nd) (byt : Int), i ≤ len ∧ i ≤ 100 ∧ s = .int .i64 ((i : Nat) : Int) ∧ ns.length ≤ i ∧ Hid (Two w0 wr T U ns ms byt)
theorem blk_drew {W : World} {g : Nat} {t : TypeId} {cs : Array Value} (h : Blk W g t cs) : Blk W.drew g t cs := h
theorem op_cells {W : World} {O : Nat} {ask : Bool} {e : En} {hgt : Int} (h : Blk W O 32 #[.bool ask, .string e.key, .int .i64 e.seq, .bool e.del, .string e.val, .int .i64 hgt]) :
    W.cell? ⟨O, 0, none⟩ = some (.bool ask) ∧ W.cell? ⟨O, 1, none⟩ = some (.string e.key) ∧ W.cell? ⟨O, 2, none⟩ = some (.int .i64 e.seq) ∧ W.cell? ⟨O, 3, none⟩ = some (.bool e.del) ∧ W.cell? ⟨O, 4, none⟩ = some (.string e.val) ∧ W.cell? ⟨O, 5, none⟩ = some (.int .i64 hgt) :=
  ⟨h.cell 0, h.cell 1, h.cell 2, h.cell 3, h.cell 4, h.cell 5⟩
section
variable {w0 : World} {A : Option Addr} {L : List MOp} {turn : Int}
set_option maxRecDepth 100000 in
set_option maxHeartbeats 6400000 in
theorem heights_any (h : MScript w0 A L) (n c : Nat) (hl : L.length = n) :
    Calls Try.prog 4 #[.slice A n c, .int .i64 turn] w0 (Yes w0) := by
  have hc1 := new_any w0
  have HS := Lib.hid h
  have HL := Lib.hid hl
  clear h
  go_enter Try.func4, Try.ntmps4
  go_wp2_with (first
    | (go_at_call 7; refine hc1.mono ?_; rintro e w1 ⟨rfl, hp1, hp2⟩; have hc2 := new_any w1)
    | (go_at_call 7; refine hc2.mono ?_; rintro e w2 ⟨rfl, hp3, hp4⟩; have ht1 := Two.made hp1 hp2 hp3 hp4; clear hp1 hp2 hp3 hp4 hc1 hc2)
    | (go_at_call 8; refine (awake_any _).mono ?_; rintro e w3 ⟨rfl, hb3⟩; have ht2 := ht1.below hb3))
  obtain ⟨T, hT⟩ : ∃ T, T = w0.heap.size := ⟨_, rfl⟩
  obtain ⟨U, hU⟩ : ∃ U, U = w1.heap.size := ⟨_, rfl⟩
  rw [← hT, ← hU] at ht2
  rw [← hT, ← hU]
  clear ht1 hb3 hU hT
  go_loopw [7] (HInv w0 T U n) (fun x _ => n - (intOf x).toNat)
  case atStart => exact ⟨0, [], [], 0, by omega, by omega, rfl, by simp, Lib.hid (ht2.below (by first | exact Below.refl _ _ | exact below_drewN (Below.refl _ _) 1))⟩
  case round =>
    obtain ⟨i, ns, ms, byt, hin, hi100, rfl, hns, HTW⟩ := hrel
    by_cases hlt : i < n ∧ i < 100
    · obtain ⟨hlt, hlt2⟩ := hlt
      obtain ⟨m, hm⟩ : ∃ m, L[i]? = some m := ⟨L[i]'(by omega), List.getElem?_eq_getElem _⟩
      obtain ⟨g, p, rfl, hg, hop⟩ := HS.out.cell i m hm
      have hS0 : OpC wr g (p + i * 6) m := yes_eq w0 hg hop wr HTW.out.t.bel
      obtain ⟨q0, q1, q2, q3, q4, q5⟩ := hS0
      have k1 : (i : Int) < (n : Int) := by omega
      have k2 : (i : Int) < 100 := by omega
      have k3 : (0 : Int) ≤ (i : Int) := by omega
      obtain ⟨ask, e, hgt⟩ := m
      clear hm hop
      dsimp only at q0 q1 q2 q3 q4 q5
      go_upto_region 8 with fail
      obtain ⟨W8, hW8⟩ : ∃ W8, W8 = wr.alloc (.cells #[.bool ask, .string e.key, .int .i64 e.seq, .bool e.del, .string e.val, .int .i64 hgt] 32) := ⟨_, rfl⟩
      have hE8 : Blk W8 wr.heap.size 32 #[.bool ask, .string e.key, .int .i64 e.seq, .bool e.del, .string e.val, .int .i64 hgt] := by rw [hW8]; exact Blk.new _ _ _
      have hB8 : Below wr.heap.size wr W8 := by rw [hW8]; exact (Below.refl _ _).alloc (Nat.le_refl _) _
      have hO1 : ∀ k, Own T ns k → k ≠ wr.heap.size := fun k hk => Nat.ne_of_lt (HTW.out.t.own_lt k hk)
      have hO2 : ∀ k, Own U ms k → k ≠ wr.heap.size := fun k hk => Nat.ne_of_lt (HTW.out.u.own_lt k hk)
      rw [← hW8]
      obtain ⟨O, hO⟩ : ∃ O, O = wr.heap.size := ⟨_, rfl⟩
      rw [← hO] at hE8 hO1 hO2 ⊢
      have ht8 := fun W (hW : Below W8.heap.size W8 W) => HTW.out.below (hB8.trans (hW.mono hB8.size))
      have hc8 := fun W (hW : Below W8.heap.size W8 W) => op_cells (hE8.same (hW.block _ hE8.lt))
      obtain ⟨c0, c1, c2, c3, c4, c5⟩ := op_cells hE8
      have HT2 := Lib.hid ht8
      have HC := Lib.hid hc8
      have HE8 := Lib.hid hE8
      have HO1 := Lib.hid hO1
      have HO2 := Lib.hid hO2
      clear hW8 hE8 hB8 hO ht8 hc8 q0 q1 q2 q3 q4 q5 hO1 hO2
      cases ask
      · have hS8 := HE8.out
        go_upto_region 13 with fail
        clear c0 c1 c2 c3 c4 c5
        refine wp_region_held_drew (S := fun W => Blk W O 32 #[.bool false, .string e.key, .int .i64 e.seq, .bool e.del, .string e.val, .int .i64 hgt]) (by kernel_rfl) (by (first | (with_reducible assumption) | (with_reducible exact blk_drew (by assumption)))) (fun hHeld => ?_)
        refine wpAnyH_take (i := 0) (v := ?vr1_0) (Fr.take_at rfl) (by kernel_rfl) (by kernel_rfl) (by kernel_rfl) (fun _ _ _ h => h) (Or.inl ⟨by rfl, ?yr1_0⟩) (by assumption) ?nr1_0
        case yr1_0 => (intro w_ hSw; obtain ⟨d0, d1, d2, d3, d4, d5⟩ := op_cells hSw; go_simp; (try with_reducible rfl))
        try simp only [Act.put, List.setIfInBounds_toArray, List.set_cons_zero, List.set_cons_succ]
        refine wpAnyH_take (i := 1) (v := ?vr1_1) (Fr.take_at rfl) (by kernel_rfl) (by kernel_rfl) (by kernel_rfl) (fun _ _ _ h => h) (Or.inl ⟨by rfl, ?yr1_1⟩) (by assumption) ?nr1_1
        case yr1_1 => (intro w_ hSw; obtain ⟨d0, d1, d2, d3, d4, d5⟩ := op_cells hSw; go_simp; (try with_reducible rfl))
        try simp only [Act.put, List.setIfInBounds_toArray, List.set_cons_zero, List.set_cons_succ]
        refine wpAnyH_take (i := 2) (v := ?vr1_2) (Fr.take_at rfl) (by kernel_rfl) (by kernel_rfl) (by kernel_rfl) (fun _ _ _ h => h) (Or.inl ⟨by rfl, ?yr1_2⟩) (by assumption) ?nr1_2
        case yr1_2 => (intro w_ hSw; obtain ⟨d0, d1, d2, d3, d4, d5⟩ := op_cells hSw; go_simp; (try with_reducible rfl))
        try simp only [Act.put, List.setIfInBounds_toArray, List.set_cons_zero, List.set_cons_succ]
        refine wpAnyH_take (i := 3) (v := ?vr1_3) (Fr.take_at rfl) (by kernel_rfl) (by kernel_rfl) (by kernel_rfl) (fun _ _ _ h => h) (Or.inl ⟨by rfl, ?yr1_3⟩) (by assumption) ?nr1_3
        case yr1_3 => (intro w_ hSw; obtain ⟨d0, d1, d2, d3, d4, d5⟩ := op_cells hSw; go_simp; (try with_reducible rfl))
        try simp only [Act.put, List.setIfInBounds_toArray, List.set_cons_zero, List.set_cons_succ]
        refine wpAnyH_take (i := 4) (v := ?vr1_4) (Fr.take_at rfl) (by kernel_rfl) (by kernel_rfl) (by kernel_rfl) (fun _ _ _ h => h) (Or.inl ⟨by rfl, ?yr1_4⟩) (by assumption) ?nr1_4
        case yr1_4 => (intro w_ hSw; obtain ⟨d0, d1, d2, d3, d4, d5⟩ := op_cells hSw; go_simp; (try with_reducible rfl))
        try simp only [Act.put, List.setIfInBounds_toArray, List.set_cons_zero, List.set_cons_succ]
        refine wpAnyH_take (i := 6) (v := ?vr1_6) (Fr.take_at rfl) (by kernel_rfl) (by kernel_rfl) (by kernel_rfl) (fun _ _ _ h => h) (Or.inl ⟨by rfl, ?yr1_6⟩) (by assumption) ?nr1_6
        case yr1_6 => (intro w_ hSw; obtain ⟨d0, d1, d2, d3, d4, d5⟩ := op_cells hSw; go_simp; (try with_reducible rfl))
        try simp only [Act.put, List.setIfInBounds_toArray, List.set_cons_zero, List.set_cons_succ]
        refine wpAnyH_take (i := 7) (v := ?vr1_7) (Fr.take_at rfl) (by kernel_rfl) (by kernel_rfl) (by kernel_rfl) (fun _ _ _ h => h) (Or.inl ⟨by rfl, ?yr1_7⟩) (by assumption) ?nr1_7
        case yr1_7 => (intro w_ hSw; obtain ⟨d0, d1, d2, d3, d4, d5⟩ := op_cells hSw; go_simp; (try with_reducible rfl))
        try simp only [Act.put, List.setIfInBounds_toArray, List.set_cons_zero, List.set_cons_succ]
        refine wpAnyH_take (i := 8) (v := ?vr1_8) (Fr.take_at rfl) (by kernel_rfl) (by kernel_rfl) (by kernel_rfl) (fun _ _ _ h => h) (Or.inl ⟨by rfl, ?yr1_8⟩) (by assumption) ?nr1_8
        case yr1_8 => (intro w_ hSw; obtain ⟨d0, d1, d2, d3, d4, d5⟩ := op_cells hSw; go_simp; (try with_reducible rfl))
        try simp only [Act.put, List.setIfInBounds_toArray, List.set_cons_zero, List.set_cons_succ]
        refine wpAnyH_take (i := 9) (v := ?vr1_9) (Fr.take_at rfl) (by kernel_rfl) (by kernel_rfl) (by kernel_rfl) (fun _ _ _ h => h) (Or.inl ⟨by rfl, ?yr1_9⟩) (by assumption) ?nr1_9
        case yr1_9 => (intro w_ hSw; obtain ⟨d0, d1, d2, d3, d4, d5⟩ := op_cells hSw; go_simp; (try with_reducible rfl))
        try simp only [Act.put, List.setIfInBounds_toArray, List.set_cons_zero, List.set_cons_succ]
        refine wpAnyH_take (i := 10) (v := ?vr1_10) (Fr.take_at rfl) (by kernel_rfl) (by kernel_rfl) (by kernel_rfl) (fun _ _ _ h => h) (Or.inl ⟨by rfl, ?yr1_10⟩) (by assumption) ?nr1_10
        case yr1_10 => (intro w_ hSw; obtain ⟨d0, d1, d2, d3, d4, d5⟩ := op_cells hSw; go_simp; (try with_reducible rfl))
        try simp only [Act.put, List.setIfInBounds_toArray, List.set_cons_zero, List.set_cons_succ]
        refine wpAnyH_take (i := 11) (v := ?vr1_11) (Fr.take_at rfl) (by kernel_rfl) (by kernel_rfl) (by kernel_rfl) (fun _ _ _ h => h) (Or.inl ⟨by rfl, ?yr1_11⟩) (by assumption) ?nr1_11
        case yr1_11 => (intro w_ hSw; obtain ⟨d0, d1, d2, d3, d4, d5⟩ := op_cells hSw; go_simp; (try with_reducible rfl))
        try simp only [Act.put, List.setIfInBounds_toArray, List.set_cons_zero, List.set_cons_succ]
        refine wpAnyH_ready (rs := [5]) (by kernel_rfl) (by simp) ?_
        refine AllReadyH.cons (Fr.take_at rfl) (fun K hK => ?_) AllReadyH.nil
        go_simp
        (go_at_call 16; refine (put_one (HT2.out _ (below_drewN (Below.refl _ _) 1)) (by omega) e hgt).mono ?_; rintro x w5 ⟨z, rfl, hb5, hsz, hbk, HZ⟩; have hS5 := hS8.same (hbk O hS8.lt (fun hk => HO1.out O hk rfl)))
        try go_wp2_with fail
        refine hK.out _ _ (by (first | (with_reducible assumption) | (with_reducible exact blk_drew (by assumption)))) (fun hHeld => ?_)
        clear hK K
        try simp only [Act.put, List.setIfInBounds_toArray, List.set_cons_zero, List.set_cons_succ]
        refine wpAnyH_ready (rs := [12]) (by kernel_rfl) (by simp) ?_
        refine AllReadyH.cons (Fr.take_at rfl) (fun K hK => ?_) AllReadyH.nil
        go_simp
        (go_at_call 16; refine (HZ.out _ (Below.refl _ _) _).mono ?_; rintro x w9 ⟨rfl, hb9, hbk9, ns', ms', byt', hn9, htw9⟩; have hS9 := hS5.same (hbk9 O hS5.lt (fun hk => HO2.out O hk rfl)))
        try go_wp2_with fail
        refine hK.out _ _ (by (first | (with_reducible assumption) | (with_reducible exact blk_drew (by assumption)))) (fun hHeld => ?_)
        clear hK K
        try simp only [Act.put, List.setIfInBounds_toArray, List.set_cons_zero, List.set_cons_succ]
        refine wpAnyH_take (i := 13) (v := ?vr1_13) (Fr.take_at rfl) (by kernel_rfl) (by kernel_rfl) (by kernel_rfl) (fun _ _ _ h => h) (Or.inl ⟨by rfl, ?yr1_13⟩) (by assumption) ?nr1_13
        case yr1_13 => (intro w_ hSw; obtain ⟨d0, d1, d2, d3, d4, d5⟩ := op_cells hSw; go_simp; (try with_reducible rfl))
        try simp only [Act.put, List.setIfInBounds_toArray, List.set_cons_zero, List.set_cons_succ]
        refine wpAnyH_done (by kernel_rfl) ?_ _
        go_wp2
        go_roundw
        case rel => exact ⟨i + 1, ns', ms', byt', by omega, by omega, by simp, by omega, Lib.hid htw9⟩
        case measure => simp [intOf]; omega
      · have hs := get_same HTW.out.same e.key.toList e.seq
        have hg1 := fun W (hW : Below W8.heap.size W8 W) => get_any (HT2.out W hW).t.rep (HT2.out W hW).t.good e.key e.seq
        have hg2 := fun W (hW : Below W8.heap.size W8 W) => get_any (HT2.out W hW).u.rep (HT2.out W hW).u.good e.key e.seq
        rw [← hs.1, ← hs.2] at hg2
        obtain ⟨re, hre⟩ : ∃ re, re = getE ns e.key.toList e.seq := ⟨_, rfl⟩
        obtain ⟨ok, hok⟩ : ∃ ok, ok = (getN ns e.key.toList e.seq).isSome := ⟨_, rfl⟩
        rw [← hre, ← hok] at hg1 hg2
        have HG1 := Lib.hid hg1
        have HG2 := Lib.hid hg2
        clear hg1 hg2 hs hre hok
        go_upto_region 10 with (go_at_call 15; refine (HG1.out _ (Below.refl _ _)).mono ?_; rintro x w6 ⟨rfl, hb6⟩)
        obtain ⟨W9, hW9⟩ : ∃ W9, W9 = w6.alloc (.cells #[.string re.key, .int .i64 re.seq, .bool re.del, .string re.val] 30) := ⟨_, rfl⟩
        have hE9 : Blk W9 w6.heap.size 30 #[.string re.key, .int .i64 re.seq, .bool re.del, .string re.val] := by rw [hW9]; exact Blk.new _ _ _
        have hB9 : Below W8.heap.size W8 W9 := by rw [hW9]; exact hb6.alloc hb6.size _
        rw [← hW9]
        obtain ⟨a, ha⟩ : ∃ a, a = w6.heap.size := ⟨_, rfl⟩
        rw [← ha] at hE9 ⊢
        have HB9 := Lib.hid hB9
        have HE9 := Lib.hid hE9
        clear c0 c1 c2 c3 c4 c5
        obtain ⟨c0, c1, c2, c3, c4, c5⟩ := HC.out W9 hB9
        clear hW9 ha hb6 hB9 hE9
        go_upto_region 11 with (go_at_call 15; refine (HG2.out _ HB9.out).mono ?_; rintro x w7 ⟨rfl, hb7⟩)
        obtain ⟨W10, hW10⟩ : ∃ W10, W10 = w7.alloc (.cells #[.string re.key, .int .i64 re.seq, .bool re.del, .string re.val] 30) := ⟨_, rfl⟩
        have hE10 : Blk W10 w7.heap.size 30 #[.string re.key, .int .i64 re.seq, .bool re.del, .string re.val] := by rw [hW10]; exact Blk.new _ _ _
        have hB10 : Below W9.heap.size W9 W10 := by rw [hW10]; exact hb7.alloc hb7.size _
        rw [← hW10]
        obtain ⟨b, hb⟩ : ∃ b, b = w7.heap.size := ⟨_, rfl⟩
        rw [← hb] at hE10 ⊢
        have HB10 := Lib.hid (HB9.out.trans (hB10.mono HB9.out.size))
        obtain ⟨⟨x0, x1, x2, x3⟩, _⟩ := cells4 (HE9.out.same (hB10.block _ HE9.out.lt))
        obtain ⟨⟨y0, y1, y2, y3⟩, _⟩ := cells4 hE10
        have z0 := fun (W : World) => neq_same W re
        clear c0 c1 c2 c3 c4 c5 hW10 hb hb7 hB10 hE10
        cases ok
        · go_wp2
          go_roundw
          case rel => exact ⟨i + 1, ns, ms, byt, by omega, by omega, by simp, by omega, Lib.hid (HT2.out _ HB10.out)⟩
          case measure => simp [intOf]; omega
        · go_wp2
          go_roundw
          case rel => exact ⟨i + 1, ns, ms, byt, by omega, by omega, by simp, by omega, Lib.hid (HT2.out _ HB10.out)⟩
          case measure => simp [intOf]; omega
    · have hlen := HTW.out.len
      have hl1 : ns.length ≤ 100000 := by omega
      have ha1 := fun W (hW : Below wr.heap.size wr W) => all_any (HTW.out.below hW).t.rep (HTW.out.below hW).t.good HTW.out.vt HTW.out.t.nodup hl1
      have ha2 := fun W (hW : Below wr.heap.size wr W) => all_any (HTW.out.below hW).u.rep (HTW.out.below hW).u.good HTW.out.vu HTW.out.u.nodup (by omega)
      have ha3 := fun W (hW : Below wr.heap.size wr W) => len_any (HTW.out.below hW).t.rep.tab
      have ha4 := fun W (hW : Below wr.heap.size wr W) => len_any (HTW.out.below hW).u.rep.tab
      have ha5 := fun W (hW : Below wr.heap.size wr W) => bytes_any (HTW.out.below hW).t.rep.tab
      have ha6 := fun W (hW : Below wr.heap.size wr W) => bytes_any (HTW.out.below hW).u.rep.tab
      rw [← hlen] at ha2 ha4
      rw [← HTW.out.same] at ha2
      have hnl : (ns.map Nd.e).length = ns.length := List.length_map ..
      obtain ⟨N, hN⟩ : ∃ N, N = ns.length := ⟨_, rfl⟩
      obtain ⟨l, hl⟩ : ∃ l, l = ns.map Nd.e := ⟨_, rfl⟩
      rw [← hl] at ha1 ha2 hnl
      rw [← hN] at ha1 ha2 ha3 ha4 hnl hl1
      have HN := Lib.hid (And.intro hnl hl1)
      have HA1 := Lib.hid ha1
      have HA2 := Lib.hid ha2
      have HA3 := Lib.hid ha3
      have HA4 := Lib.hid ha4
      have HA5 := Lib.hid ha5
      have HA6 := Lib.hid ha6
      clear ha1 ha2 ha3 ha4 ha5 ha6 hnl hl1 hN hl hlen
      by_cases hin2 : i < n
      · have k1 : (i : Int) < (n : Int) := by omega
        have k2 : ¬ (i : Int) < 100 := by omega
        go_wp2_with (first
          | (go_at_call 13; refine (HA2.out _ hb4).mono ?_; rintro x w5 ⟨A2, c2, rfl, hr2, hb5⟩; have hb6 : Below wr.heap.size wr w5 := hb4.trans (hb5.mono hb4.size); have hs1 := rd_ownN (own_belowN hr1 hb5); have hs2 := rd_ownN hr2; clear hr1 hr2)
          | (go_at_call 13; refine (HA1.out _ (Below.refl _ _)).mono ?_; rintro x w4 ⟨A1, c1, rfl, hr1, hb4⟩)
          | (go_at_call 12; refine (same_any HN.out.1 HN.out.2 hs1 hs2).mono ?_; rintro x w7 ⟨rfl, hb7⟩; have hb8 : Below wr.heap.size wr w7 := hb6.trans (hb7.mono hb6.size))
          | (go_at_call 10; have _ := hMHA3; refine (HA4.out _ hb8).mono ?_; rintro x _ ⟨rfl, rfl⟩)
          | (go_at_call 10; refine (HA3.out _ hb8).mono ?_; rintro x _ ⟨rfl, rfl⟩; have hMHA3 := True.intro)
          | (go_at_call 14; have _ := hMHA5; refine (HA6.out _ hb8).mono ?_; rintro x _ ⟨rfl, rfl⟩)
          | (go_at_call 14; refine (HA5.out _ hb8).mono ?_; rintro x _ ⟨rfl, rfl⟩; have hMHA5 := True.intro))
        go_ret
        exact Yes.mk (HTW.out.t.bel.trans (hb8.mono HTW.out.t.bel.size))
      · have k1 : ¬ (i : Int) < (n : Int) := by omega
        go_wp2_with (first
          | (go_at_call 13; refine (HA2.out _ hb4).mono ?_; rintro x w5 ⟨A2, c2, rfl, hr2, hb5⟩; have hb6 : Below wr.heap.size wr w5 := hb4.trans (hb5.mono hb4.size); have hs1 := rd_ownN (own_belowN hr1 hb5); have hs2 := rd_ownN hr2; clear hr1 hr2)
          | (go_at_call 13; refine (HA1.out _ (Below.refl _ _)).mono ?_; rintro x w4 ⟨A1, c1, rfl, hr1, hb4⟩)
          | (go_at_call 12; refine (same_any HN.out.1 HN.out.2 hs1 hs2).mono ?_; rintro x w7 ⟨rfl, hb7⟩; have hb8 : Below wr.heap.size wr w7 := hb6.trans (hb7.mono hb6.size))
          | (go_at_call 10; have _ := hMHA3; refine (HA4.out _ hb8).mono ?_; rintro x _ ⟨rfl, rfl⟩)
          | (go_at_call 10; refine (HA3.out _ hb8).mono ?_; rintro x _ ⟨rfl, rfl⟩; have hMHA3 := True.intro)
          | (go_at_call 14; have _ := hMHA5; refine (HA6.out _ hb8).mono ?_; rintro x _ ⟨rfl, rfl⟩)
          | (go_at_call 14; refine (HA5.out _ hb8).mono ?_; rintro x _ ⟨rfl, rfl⟩; have hMHA5 := True.intro))
        go_ret
        exact Yes.mk (HTW.out.t.bel.trans (hb8.mono HTW.out.t.bel.size))
end
end Mm
end Go.Proofs.Ytfnfjhfmhinkcaa
