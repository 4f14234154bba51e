/-
  WHAT IS PROVED: (1) what the calls of both packages' Scan and of Same do, in whatever memory: the payloads of the longest beginning that is frames, each in a row of its own; two lists of equal bytes are the same. CONDITIONS: the slices that come in read as the bytes that are named; lengths are bounded; the table lies where it is laid (for frame's Scan). (2) what the calls of the reference's Scan and of Same do, in whatever memory: the payloads of the longest beginning that is frames, each in a row of its own; two lists of equal bytes are the same. CONDITIONS: the slices that come in read as the bytes that are named; lengths are bounded.
-/
import Derived.Test.YtadlhnjnhllpfaaDoorQWalkF
namespace Go.Proofs.YtadlhnjnhllpfaaDoor
open Go Go.RowKit
namespace Fr

theorem info_sl : (Tryd.prog.info? 25).map (fun i => (i.zero, i.size, i.bytes)) = some (some (.slice none 0 0), 1, 24) := by kernel_rfl

/-- A list of slices, each with a row of its own that reads as the bytes; a later one's row lies behind all earlier ones. -/
def OwnL (w : World) (B : Nat) (vs : List Value) (ls : List (List UInt8)) : Prop :=
  vs.length = ls.length ∧ ∀ (i : Nat) (v : Value) (l : List UInt8), vs[i]? = some v → ls[i]? = some l →
    ∃ b, B ≤ b ∧ w.ownsRow b 5 1 v l.length (bv l) ∧ ∀ (j : Nat) (u : Value) (k : Nat), j < i → vs[j]? = some u → u.ownBlock = some k → k < b
theorem OwnL.nil (w : World) (B : Nat) : OwnL w B [] [] := ⟨rfl, fun i v l h => by simp at h⟩
theorem OwnL.keep {w w' : World} {B : Nat} {vs : List Value} {ls : List (List UInt8)} (h : OwnL w B vs ls) (hk : ∀ b v n xs, w.ownsRow b 5 1 v n xs → w'.ownsRow b 5 1 v n xs) : OwnL w' B vs ls :=
  ⟨h.1, fun i v l hv hl => by
    obtain ⟨b, hb, ho, hd⟩ := h.2 i v l hv hl
    exact ⟨b, hb, hk _ _ _ _ ho, hd⟩⟩
theorem OwnL.below {w w' : World} {B : Nat} {vs : List Value} {ls : List (List UInt8)} (h : OwnL w B vs ls) (hb : Below w.heap.size w w') : OwnL w' B vs ls := h.keep fun _ _ _ _ ho => own_below ho hb (Nat.le_refl _)
theorem own_ne {w : World} {b b' e e' n n' : Nat} {v v' : Value} {xs xs' : List Value} (h : w.ownsRow b e 1 v n xs) (h' : w.ownsRow b' e' 1 v' n' xs') (hne : e ≠ e') : v.ownBlock = none ∨ v.ownBlock ≠ v'.ownBlock := by
  rcases h.2 with ⟨rfl, _⟩ | ⟨g, cap, cur, rfl, _, hg, _⟩
  · exact .inl rfl
  · rcases h'.2 with ⟨rfl, _⟩ | ⟨g', cap', cur', rfl, _, hg', _⟩
    · exact .inr (by simp [Value.ownBlock])
    · refine .inr fun he => ?_
      have hgg : g = g' := by simpa [Value.ownBlock] using he
      subst hgg
      rw [hg] at hg'
      simp only [Option.some.injEq, Obj.cells.injEq] at hg'
      exact hne hg'.2.1
theorem OwnL.grown {w w' : World} {B b' e' n' : Nat} {v' : Value} {xs' : List Value} {vs : List Value} {ls : List (List UInt8)} (h : OwnL w B vs ls) (h' : w.ownsRow b' e' 1 v' n' xs') (hne : 5 ≠ e') (hg : w.grownBy w' v'.ownBlock) : OwnL w' B vs ls :=
  h.keep fun _ _ _ _ ho => ho.kept hg (own_ne ho h' hne)
theorem OwnL.snoc {w : World} {B b n : Nat} {vs : List Value} {ls : List (List UInt8)} {v : Value} {l : List UInt8} (h : OwnL w B vs ls) (hn : l.length = n) (ho : w.ownsRow b 5 1 v n (bv l)) (hB : B ≤ b) (hd : ∀ (u : Value) (k : Nat), u ∈ vs → u.ownBlock = some k → k < b) : OwnL w B (vs ++ [v]) (ls ++ [l]) := by
  subst hn
  refine ⟨by rw [List.length_append, List.length_append, h.1]; rfl, fun i v' l' hv hl => ?_⟩
  rcases Nat.lt_trichotomy i vs.length with hi | hi | hi
  · rw [List.getElem?_append_left hi] at hv
    rw [List.getElem?_append_left (by rw [← h.1]; exact hi)] at hl
    obtain ⟨b0, h1, h2, h3⟩ := h.2 i v' l' hv hl
    refine ⟨b0, h1, h2, fun j u k hj hu hk => h3 j u k hj ?_ hk⟩
    rwa [List.getElem?_append_left (by omega)] at hu
  · subst hi
    rw [List.getElem?_append_right (Nat.le_refl _), Nat.sub_self] at hv
    rw [h.1, List.getElem?_append_right (Nat.le_refl _), Nat.sub_self] at hl
    simp only [List.getElem?_cons_zero, Option.some.injEq] at hv hl
    subst hv hl
    refine ⟨b, hB, ho, fun j u k hj hu hk => hd u k ?_ hk⟩
    rw [List.getElem?_append_left hj] at hu
    exact List.mem_of_getElem? hu
  · rw [List.getElem?_eq_none (by simp; omega)] at hv
    cases hv
theorem OwnL.lt {w : World} {B : Nat} {vs : List Value} {ls : List (List UInt8)} (h : OwnL w B vs ls) : ∀ (u : Value) (k : Nat), u ∈ vs → u.ownBlock = some k → k < w.heap.size := by
  intro u k hu hk
  obtain ⟨i, hi, rfl⟩ := List.getElem_of_mem hu
  obtain ⟨b, _, ho, _⟩ := h.2 i _ _ (List.getElem?_eq_getElem hi) (List.getElem?_eq_getElem (by rw [← h.1]; exact hi))
  exact (ho.lt k hk).2

/-- What frame's Scan leaves. -/
def ScanRet (w : World) (l : List UInt8) (e : Ending) (w' : World) : Prop :=
  ∃ A k c vs, e = .returned (.tuple #[.slice A k c, .int .i64 ((scan l).2 : Nat)]) ∧ (scan l).1.length = k ∧ k ≤ c ∧ w'.ownsRow w.heap.size 25 1 (.slice A k c) k vs ∧ OwnL w' w.heap.size vs (scan l).1 ∧ Below w.heap.size w w'

set_option maxRecDepth 100000 in
theorem Ftakef_yes (A : Option Addr) (n c : Nat) (l : List UInt8) (w : World) (hl : l.length = n) (hr : Rd w A (bv l)) (hnc : n ≤ c) (hn : n ≤ 140737488355328) (ht : Tab w) (hf : isFrame l = true) (z : Nat) (hz : (takeF l).2 = z) :
    Calls Tryd.prog 78 #[.slice A n c] w fun e w' => ∃ v, e = .returned (.tuple #[v, .int .i64 (z : Int), .int .i64 0]) ∧ Made 5 w w' (takeF l).1 v := by
  have h := Ftakef_any A n c l w hl hr hnc hn ht
  unfold TakeRet at h
  rw [hf, hz] at h
  exact h
set_option maxRecDepth 100000 in
theorem Ftakef_no (A : Option Addr) (n c : Nat) (l : List UInt8) (w : World) (hl : l.length = n) (hr : Rd w A (bv l)) (hnc : n ≤ c) (hn : n ≤ 140737488355328) (ht : Tab w) (hf : isFrame l = false) :
    Calls Tryd.prog 78 #[.slice A n c] w fun e w' => ∃ v z, e = .returned (.tuple #[v, .int .i64 z, .int .i64 10]) ∧ Below w.heap.size w w' := by
  have h := Ftakef_any A n c l w hl hr hnc hn ht
  unfold TakeRet at h
  rw [hf] at h
  exact h.mono fun e w' ⟨v, he, A, m, c, hv, hm, hc, ho, hb⟩ => ⟨v, _, he, hb⟩

/-- Behind one more frame. -/
theorem scan_step {l : List UInt8} {d : Nat} {ls : List (List UInt8)} (h : scan l = (ls ++ (scan (l.drop d)).1, d + (scan (l.drop d)).2)) (hf : isFrame (l.drop d) = true) :
    scan l = ((ls ++ [(takeF (l.drop d)).1]) ++ (scan (l.drop (d + (takeF (l.drop d)).2))).1, d + (takeF (l.drop d)).2 + (scan (l.drop (d + (takeF (l.drop d)).2))).2) := by
  rw [h, scan_yes hf, List.drop_drop]
  simp only [List.append_assoc, List.singleton_append, Nat.add_assoc]

end Fr
end Go.Proofs.YtadlhnjnhllpfaaDoor
namespace Go.Proofs.YtadlhnjnhllpfaaDoor
open Go Go.RowKit
namespace Fr

set_option maxRecDepth 100000 in
theorem Rtakef_yes (A : Option Addr) (n c : Nat) (l : List UInt8) (w : World) (hl : l.length = n) (hr : Rd w A (bv l)) (hnc : n ≤ c) (hn : n ≤ 140737488355328) (z : Nat) (hz : (takeF l).2 = z) :
    Calls Tryd.prog 67 #[.slice A n c] w fun e w' => ∃ v, e = .returned (.tuple #[v, .int .i64 (z : Int)]) ∧ Made 5 w w' (takeF l).1 v := by
  have h := Rtakef_any A n c l w hl hr hnc hn
  unfold TakeRef at h
  rw [hz] at h
  exact h
set_option maxRecDepth 100000 in
theorem Rtakef_no (A : Option Addr) (n c : Nat) (l : List UInt8) (w : World) (hl : l.length = n) (hr : Rd w A (bv l)) (hnc : n ≤ c) (hn : n ≤ 140737488355328) (hf : isFrame l = false) :
    Calls Tryd.prog 67 #[.slice A n c] w fun e w' => ∃ v, e = .returned (.tuple #[v, .int .i64 0]) ∧ Below w.heap.size w w' := by
  have h := Rtakef_any A n c l w hl hr hnc hn
  unfold TakeRef at h
  rw [takeF_no hf] at h
  exact h.mono fun e w' ⟨v, he, A, m, c, hv, hm, hc, ho, hb⟩ => ⟨v, he, hb⟩

set_option maxRecDepth 100000 in
set_option maxHeartbeats 1000000 in
theorem Rscan_any (A : Option Addr) (n c : Nat) (l : List UInt8) (w : World) (hl : l.length = n) (hr : Rd w A (bv l)) (hnc : n ≤ c) (hn : n ≤ 1099511627776) :
    Calls Tryd.prog 46 #[.slice A n c] w (ScanRet w l) := by
  obtain ⟨i0, hi, hz, hz1, hz2⟩ := info_parts info_u8
  obtain ⟨i1, hi1, hy, hy1, hy2⟩ := info_parts info_sl
  have HL := Lib.hid hl
  have HR := Lib.hid hr
  clear hl hr
  go_enter Tryd.func46, Tryd.ntmps46
  go_wp2
  go_loopw [4, 5] (fun v x wr => ∃ (d k c' : Nat) (A' : Option Addr) (vs : List Value) (ls : List (List UInt8)), d ≤ n ∧ k ≤ d ∧ x = .int .i64 d ∧ v = .slice A' k c' ∧ k ≤ c' ∧ wr.ownsRow w.heap.size 25 1 (.slice A' k c') k vs ∧ OwnL wr w.heap.size vs ls ∧ Below w.heap.size w wr ∧ Hid (ls.length = k ∧ scan l = (ls ++ (scan (l.drop d)).1, d + (scan (l.drop d)).2))) (fun _ x _ => n - (intOf x).toNat)
  case atStart => exact ⟨0, 0, 0, none, [], [], Nat.zero_le _, Nat.le_refl _, rfl, rfl, Nat.le_refl _, World.ownsRow_nil _ _ _ _, OwnL.nil _ _, Below.refl _ _, ⟨rfl, by simp⟩⟩
  case round =>
    obtain ⟨d, k, c', A', vs, ls, hd, hkd, rfl, rfl, hkc, hown, hol, hb, HS⟩ := hrel
    by_cases hdn : d < n
    · obtain ⟨A1, ⟨ha1, ha2⟩, ha3⟩ := cut_l (P := Tryd.prog) 25 5 i0 Tryd.underlying25 rfl hi hz1 A n c d (n - d) (c - d) .i64 (d : Int) rfl (by omega) (by omega)
      have hr1 : Rd w A1 (bv (l.drop d)) := by rw [← bv_drop]; exact ha3 w _ HR.out (by rw [bv_length, HL.out]; exact hnc)
      have hl1 : (l.drop d).length = n - d := by rw [List.length_drop, HL.out]
      have HR1 := Lib.hid hr1
      have HL1 := Lib.hid hl1
      have HA := Lib.hid ha3
      clear hr1 hl1 ha3
      by_cases hf : isFrame (l.drop d) = true
      · obtain ⟨z, hz0⟩ : ∃ z, (takeF (l.drop d)).2 = z := ⟨_, rfl⟩
        have hzp : 0 < z := by rw [← hz0]; exact isFrame_pos hf
        have hzn : d + z ≤ n := by have := takeF_size (l.drop d); rw [hz0, HL1.out] at this; omega
        have hze : ((z : Int) == 0) = false := by rw [beq_eq_false_iff_ne]; omega
        have HZ := Lib.hid hz0
        have HF := Lib.hid hf
        clear hz0 hf
        go_wp2_with (first
          | (go_at_call 67; refine (Rtakef_yes A1 (n - d) (c - d) (l.drop d) wr HL1.out (HR1.out.below hb) (by omega) (by omega) z HZ.out).mono ?_; rintro e w1 ⟨v, rfl, A2, m2, c2, rfl, hm2, hc2, hown2, hb2⟩; have HM2 := Lib.hid hm2; clear hm2)
          | (at_builtin; refine wpList_app _ rfl (.tmp 23) (.tmp 25) _ rfl w.heap.size 25 i1 _ 24 Tryd.underlying73 hi1 hy hy1 hy2 rfl (.slice A' k c') k vs rfl ((own_below hown hb2 (Nat.le_refl _)).alloc _) (some ⟨w1.heap.size, 0, none⟩) 1 1 [_] rfl rfl (Rd.one _ _ _ _ _ rfl) (by intro u hu; simp at hu; subst hu; rfl) (k + 1) rfl (by unfold maxLen; omega) (by omega) (by have := hb.size; have := hb2.size; simp; omega) ?_; intro A3 c3 w3 hown3 hb3 hg3 _))
        have hbw3 : Below w.heap.size w w3 := ((hb.trans (hb2.mono hb.size)).trans ((Below.refl _ _).alloc (Nat.le_trans hb.size hb2.size) _)).trans hb3
        go_roundw
        case rel =>
          refine ⟨d + z, k + 1, c3, A3, vs ++ [.slice A2 m2 c2], ls ++ [(takeF (l.drop d)).1], hzn, by omega, by go_num, rfl, own_cap hown3, hown3, ?_, hbw3, ?_⟩
          · have h1 := (hol.below hb2).keep (w' := w1.alloc (.cells #[.slice A2 m2 c2] 25)) fun _ _ _ _ ho => ho.alloc _
            have h2 := (own_below hown hb2 (Nat.le_refl _)).alloc (.cells #[.slice A2 m2 c2] 25)
            have h3 := h1.grown h2 (by decide) hg3
            refine h3.snoc HM2.out ((hown2.alloc _).kept hg3 (own_ne (hown2.alloc _) h2 (by decide))) hb.size ?_
            intro u q hu hq
            exact hol.lt u q hu hq
          · refine ⟨by rw [List.length_append, HS.out.1]; rfl, ?_⟩
            have := scan_step HS.out.2 HF.out
            rw [HZ.out] at this
            exact this
        case measure => simp [intOf]; omega
      · have hf' : isFrame (l.drop d) = false := by simpa using hf
        have HF := Lib.hid hf'
        clear hf hf'
        go_wp2_with (go_at_call 67; refine (Rtakef_no A1 (n - d) (c - d) (l.drop d) wr HL1.out (HR1.out.below hb) (by omega) (by omega) HF.out).mono ?_; rintro e w1 ⟨v, rfl, hb2⟩)
        go_ret2
        have hs := HS.out.2
        rw [scan_no HF.out] at hs
        simp only [List.append_nil, Nat.add_zero] at hs
        exact ⟨A', k, c', vs, by rw [hs]; rfl, by rw [hs]; exact HS.out.1, hkc, own_below hown hb2 (Nat.le_refl _), by rw [hs]; exact hol.below hb2, hb.trans (hb2.mono hb.size)⟩
    · obtain rfl : d = n := by omega
      go_wp2
      go_ret2
      have hs := HS.out.2
      rw [List.drop_eq_nil_of_le (by rw [HL.out]; exact Nat.le_refl _), scan_no (l := []) (by decide)] at hs
      simp only [List.append_nil, Nat.add_zero] at hs
      exact ⟨A', k, c', vs, by rw [hs]; rfl, by rw [hs]; exact HS.out.1, hkc, hown, by rw [hs]; exact hol, hb⟩

/-- A list of slices that reads as a list of bytes. -/
def RdL (w : World) (vs : List Value) (ls : List (List UInt8)) : Prop :=
  vs.length = ls.length ∧ ∀ (i : Nat) (v : Value) (l : List UInt8), vs[i]? = some v → ls[i]? = some l → ∃ A m c, v = .slice A m c ∧ l.length = m ∧ m ≤ c ∧ Rd w A (bv l)
theorem RdL.below {w w' : World} {vs : List Value} {ls : List (List UInt8)} (h : RdL w vs ls) (hb : Below w.heap.size w w') : RdL w' vs ls :=
  ⟨h.1, fun i v l hv hl => by
    obtain ⟨A, m, c, h1, h2, h3, h4⟩ := h.2 i v l hv hl
    exact ⟨A, m, c, h1, h2, h3, h4.below hb⟩⟩
theorem OwnL.reads {w : World} {B : Nat} {vs : List Value} {ls : List (List UInt8)} (h : OwnL w B vs ls) : RdL w vs ls :=
  ⟨h.1, fun i v l hv hl => by
    obtain ⟨b, _, ho, _⟩ := h.2 i v l hv hl
    obtain ⟨A, c, rfl, h1, _⟩ := own_shape ho
    exact ⟨A, _, c, rfl, rfl, h1, Rd.own ho⟩⟩
theorem RdL.take {w : World} {vs : List Value} {ls : List (List UInt8)} (h : RdL w vs ls) (k : Nat) : RdL w (vs.take k) (ls.take k) :=
  ⟨by rw [List.length_take, List.length_take, h.1], fun i v l hv hl => by
    rw [List.getElem?_take] at hv hl
    split at hv
    · rename_i hik
      rw [if_pos hik] at hl
      exact h.2 i v l hv hl
    · cases hv⟩

end Fr
end Go.Proofs.YtadlhnjnhllpfaaDoor
