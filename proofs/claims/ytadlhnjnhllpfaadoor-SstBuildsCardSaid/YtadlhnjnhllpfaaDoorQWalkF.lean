/-
  WHAT IS PROVED: (1) the call of FrameNumbers answers true in whatever memory holds the table, and makes new memory alone. CONDITIONS: the slice reads as the bytes that are named and is no longer than 2^47 - 4096; the table lies where it is laid. (2) the call of FrameTexts answers true in whatever memory holds the table, and makes new memory alone. CONDITIONS: the slice reads as the bytes that are named; the text and the slice have at most 1048576 bytes; the table lies where it is laid. (3) what the calls of both packages' Take do, in whatever memory that holds the table: the payload of the frame at the front, in new memory, or none. CONDITIONS: the slice that comes in reads as the bytes that are named and is no longer than 2^47; the table lies where it is laid (for frame's Take).
-/
import Derived.Test.YtadlhnjnhllpfaaDoorQWalkE
namespace Go.Proofs.YtadlhnjnhllpfaaDoor
open Go Go.RowKit
namespace Fr

set_option maxRecDepth 100000 in
theorem Ftake_enc (A : Option Addr) (k m c n : Nat) (l : List UInt8) (w : World) (hn : n < 18446744073709551616) (hm : (enc n).length = m) (hk : (enc n ++ l).length = k) (hr : Rd w A (bv (enc n ++ l))) (hk2 : k ≤ 140737488355328) :
    Calls Tryd.prog 87 #[.slice A k c] w fun e w' => e = .returned (.tuple #[.int .u64 (n : Int), .int .i64 (m : Int)]) ∧ w = w' := by
  have h := Ftake_any A k c _ w hk hr hk2
  rw [dec_enc hn, hm] at h
  exact h

end Fr
end Go.Proofs.YtadlhnjnhllpfaaDoor
namespace Go.Proofs.YtadlhnjnhllpfaaDoor
open Go Go.RowKit
namespace Fr

theorem bytes_back (s : ByteArray) : (⟨s.data.toList.toArray⟩ : ByteArray) = s := by cases s; simp
theorem own_cap {w : World} {base : Nat} {e : TypeId} {A : Option Addr} {n c : Nat} {xs : List Value} (h : w.ownsRow base e 1 (.slice A n c) n xs) : n ≤ c := by
  obtain ⟨A', c', e', h1, _⟩ := own_shape h
  simp only [Value.slice.injEq] at e'
  omega

set_option maxRecDepth 100000 in
theorem FtakeText_text (A : Option Addr) (k m c : Nat) (s : ByteArray) (l : List UInt8) (w : World) (hs : s.size ≤ 1048576) (hm : (textOf s.data.toList).length = m) (hk : (textOf s.data.toList ++ l).length = k) (hr : Rd w A (bv (textOf s.data.toList ++ l))) (hkc : k ≤ c) (hk2 : k ≤ 140737488355328) :
    Calls Tryd.prog 90 #[.slice A k c] w fun e w' => e = .returned (.tuple #[.string s, .int .i64 (m : Int)]) ∧ w = w' := by
  have h := FtakeText_any A k c _ w hk hr hkc hk2
  have hsz : s.data.toList.length = s.size := rfl
  rw [takeText_textOf _ _ (by omega), hm] at h
  simp only [bytes_back] at h
  exact h

end Fr
end Go.Proofs.YtadlhnjnhllpfaaDoor
namespace Go.Proofs.YtadlhnjnhllpfaaDoor
open Go Go.RowKit
namespace Fr

set_option maxRecDepth 100000 in
theorem quiet_left {P : Program} {f : FuncId} {args : Array Value} {w : World} {n : Nat} {v : Value}
    (h : Calls P f args (w.drewN n) fun e w' => e = .returned v ∧ w.drewN n = w') : Calls P f args (w.drewN n) fun e w'' => e = .returned v ∧ ∃ m, w'' = w.drewN m :=
  h.mono fun _ _ ⟨he, hm⟩ => ⟨he, n, hm.symm⟩
theorem Tab.drewN {w : World} (h : Tab w) (n : Nat) : Tab (w.drewN n) := h

/-- What frame's Take leaves. -/
def TakeRet (E : TypeId) (w : World) (l : List UInt8) (e : Ending) (w' : World) : Prop :=
  ∃ v, e = .returned (.tuple #[v, .int .i64 ((takeF l).2 : Nat), .int .i64 (if isFrame l then 0 else 10)]) ∧ Made E w w' (takeF l).1 v
theorem TakeRet.no {E : TypeId} {w w' : World} {l : List UInt8} (h : isFrame l = false) (hb : Below w.heap.size w w') : TakeRet E w l (.returned (.tuple #[.slice none 0 0, .int .i64 0, .int .i64 10])) w' := by
  refine ⟨.slice none 0 0, ?_, none, 0, 0, rfl, ?_, Nat.le_refl _, ?_, hb⟩
  · rw [takeF_no h, h]; rfl
  · rw [takeF_no h]; rfl
  · rw [takeF_no h]; exact World.ownsRow_nil _ _ _ _
theorem TakeRet.yes {E : TypeId} {w w' : World} {l p : List UInt8} {A : Option Addr} {m c : Nat} {z : Int} (h : isFrame l = true) (h1 : (takeF l).1 = p) (h2 : z = ((takeF l).2 : Int)) (hm : p.length = m) (hc : m ≤ c)
    (hown : w'.ownsRow w.heap.size E 1 (.slice A m c) m (bv p)) (hb : Below w.heap.size w w') : TakeRet E w l (.returned (.tuple #[.slice A m c, .int .i64 z, .int .i64 0])) w' := by
  subst h1 h2
  exact ⟨_, by rw [h]; rfl, A, m, c, rfl, hm, hc, hown, hb⟩
/-- What the reference's Take leaves. -/
def TakeRef (E : TypeId) (w : World) (l : List UInt8) (e : Ending) (w' : World) : Prop :=
  ∃ v, e = .returned (.tuple #[v, .int .i64 ((takeF l).2 : Nat)]) ∧ Made E w w' (takeF l).1 v
theorem TakeRef.no {E : TypeId} {w w' : World} {l : List UInt8} (h : isFrame l = false) (hb : Below w.heap.size w w') : TakeRef E w l (.returned (.tuple #[.slice none 0 0, .int .i64 0])) w' := by
  refine ⟨.slice none 0 0, ?_, none, 0, 0, rfl, ?_, Nat.le_refl _, ?_, hb⟩
  · rw [takeF_no h]; rfl
  · rw [takeF_no h]; rfl
  · rw [takeF_no h]; exact World.ownsRow_nil _ _ _ _

set_option maxRecDepth 100000 in
set_option maxHeartbeats 1000000 in
theorem Ftakef_any (A : Option Addr) (n c : Nat) (l : List UInt8) (w : World) (hl : l.length = n) (hr : Rd w A (bv l)) (hnc : n ≤ c) (hn : n ≤ 140737488355328) (ht : Tab w) :
    Calls Tryd.prog 78 #[.slice A n c] w (TakeRet 5 w l) := by
  obtain ⟨i0, hi, hz, hz1, hz2⟩ := info_parts info_u8
  have hds := dec_size l
  obtain ⟨q, hq⟩ : ∃ q, q = dec l := ⟨_, rfl⟩
  have hft := Ftake_any A n c l w hl hr hn
  rw [← hq] at hft hds
  obtain ⟨v, k⟩ := q
  simp only at hft hds
  have HQ := Lib.hid hq
  have HF := Lib.hid hft
  have HL := Lib.hid hl
  have HR := Lib.hid hr
  have HT := Lib.hid ht
  obtain ⟨hkn, hk10⟩ := hds
  rw [hl] at hkn
  clear hq hft hl hr ht
  by_cases hk0 : k = 0
  · have hno : isFrame l = false := isFrame_unfit (.inl (by rw [← HQ.out]; exact hk0))
    have HNO := Lib.hid hno
    clear hno
    subst hk0
    go_enter Tryd.func78, Tryd.ntmps78
    go_wp2_with (go_at_call 87; refine HF.out.mono ?_; rintro e w1 ⟨rfl, rfl⟩)
    go_ret3
    exact TakeRet.no HNO.out (Below.refl _ _)
  · have e1 : ((k : Int) == 0) = false := by rw [beq_eq_false_iff_ne]; omega
    by_cases hv : 4096 < v
    · have hno : isFrame l = false := isFrame_unfit (.inr (.inl (by rw [← HQ.out]; exact hv)))
      have HNO := Lib.hid hno
      clear hno
      go_enter Tryd.func78, Tryd.ntmps78
      go_wp2_with (go_at_call 87; refine HF.out.mono ?_; rintro e w1 ⟨rfl, rfl⟩)
      go_ret3
      exact TakeRet.no HNO.out (Below.refl _ _)
    · by_cases hfit : n < k + 4 + v
      · have hno : isFrame l = false := isFrame_unfit (.inr (.inr (by rw [← HQ.out, HL.out]; exact hfit)))
        have HNO := Lib.hid hno
        clear hno
        go_enter Tryd.func78, Tryd.ntmps78
        go_wp2_with (go_at_call 87; refine HF.out.mono ?_; rintro e w1 ⟨rfl, rfl⟩)
        go_ret3
        exact TakeRet.no HNO.out (Below.refl _ _)
      · obtain ⟨A1, ⟨ha1, ha2⟩, ha3⟩ := cut_lh (P := Tryd.prog) 25 5 i0 Tryd.underlying25 rfl hi hz1 A n c (k + 4) (k + 4 + v) v (c - (k + 4)) .i64 .i64 ((k : Int) + 4) ((k : Int) + 4 + (v : Int)) rfl rfl rfl (by omega) (by omega)
        obtain ⟨A2, ⟨hb1, hb2⟩, hb3⟩ := cut_lh (P := Tryd.prog) 25 5 i0 Tryd.underlying25 rfl hi hz1 A n c k (k + 4) 4 (c - k) .i64 .i64 (k : Int) ((k : Int) + 4) rfl rfl rfl (by omega) (by omega)
        obtain ⟨p, hp⟩ : ∃ p, p = (l.drop (k + 4)).take v := ⟨_, rfl⟩
        obtain ⟨s4, hs4⟩ : ∃ s4, s4 = (l.drop k).take 4 := ⟨_, rfl⟩
        have hpl : p.length = v := by rw [hp, List.length_take, List.length_drop, HL.out]; omega
        have hsl : s4.length = 4 := by rw [hs4, List.length_take, List.length_drop, HL.out]; omega
        have hrp : Rd w A1 (bv p) := by rw [hp, ← bv_take, ← bv_drop]; exact (ha3 w _ HR.out (by rw [bv_length, HL.out]; exact hnc)).take v
        have hrs : Rd w A2 (bv s4) := by rw [hs4, ← bv_take, ← bv_drop]; exact (hb3 w _ HR.out (by rw [bv_length, HL.out]; exact hnc)).take 4
        have hiff := isFrame_iff (l := l) (by rw [← HQ.out]; exact hk0) (by rw [← HQ.out]; show v ≤ 4096; omega) (by rw [← HQ.out, HL.out]; show k + 4 + v ≤ n; omega)
        rw [← HQ.out] at hiff
        simp only at hiff
        rw [← hp, ← hs4] at hiff
        have htf : isFrame l = true → takeF l = (p, k + 4 + v) := fun hy => by rw [takeF_yes hy, ← HQ.out, hp]
        have HTF := Lib.hid htf
        clear htf
        have HIFF := Lib.hid hiff
        have HP := Lib.hid hp
        have HPL := Lib.hid hpl
        have HSL := Lib.hid hsl
        have HRP := Lib.hid hrp
        have HRS := Lib.hid hrs
        have hc1 : crc p < 4294967296 := crc_lt p
        clear ha3 hb3 hiff hp hpl hsl hrp hrs hs4
        by_cases he : crc p = word s4
        · have hyes : isFrame l = true := by rw [HIFF.out]; exact decide_eq_true he
          have HY := Lib.hid hyes
          have hq1 : ((crc p : Int) == (word s4 : Int)) = true := by rw [he]; exact beq_self_eq_true _
          have HE := Lib.hid he
          clear hyes he
          go_enter Tryd.func78, Tryd.ntmps78
          go_wp2_with (go_at_call 87; refine HF.out.mono ?_; rintro e w1 ⟨rfl, rfl⟩)
          go_quiet ((first | (go_at_call 76; exact quiet_left (Fsum_any A1 v _ p _ HPL.out (HRP.out.drewN _) (by omega) (HT.out.drewN _))) | (go_at_call 88; exact quiet_left (stored_any A2 _ s4 _ HSL.out (HRS.out.drewN _)))))
          go_wp2_with (go_at_call 89; refine (clone_any A1 v _ p _ HPL.out (HRP.out.drewN _) (by omega)).mono ?_; rintro e w5 ⟨v', rfl, A5, m5, c5, rfl, hm5, hc5, hown5, hb5⟩; have HM5 := Lib.hid hm5; clear hm5)
          go_ret3
          exact TakeRet.yes HY.out (by rw [HTF.out HY.out]) (by rw [HTF.out HY.out]; rfl) HM5.out hc5 hown5 (below_of_drewN hb5)
        · have hno : isFrame l = false := by rw [HIFF.out]; exact decide_eq_false he
          have HNO := Lib.hid hno
          have hq1 : ((crc p : Int) == (word s4 : Int)) = false := by rw [beq_eq_false_iff_ne]; omega
          have HE := Lib.hid he
          clear hno he
          go_enter Tryd.func78, Tryd.ntmps78
          go_wp2_with (go_at_call 87; refine HF.out.mono ?_; rintro e w1 ⟨rfl, rfl⟩)
          go_quiet ((first | (go_at_call 76; exact quiet_left (Fsum_any A1 v _ p _ HPL.out (HRP.out.drewN _) (by omega) (HT.out.drewN _))) | (go_at_call 88; exact quiet_left (stored_any A2 _ s4 _ HSL.out (HRS.out.drewN _)))))
          go_wp2
          go_ret3
          exact TakeRet.no HNO.out (below_drewN (Below.refl _ _) _)

theorem TakeRef.yes {E : TypeId} {w w' : World} {l p : List UInt8} {A : Option Addr} {m c : Nat} {z : Int} (h1 : (takeF l).1 = p) (h2 : z = ((takeF l).2 : Int)) (hm : p.length = m) (hc : m ≤ c)
    (hown : w'.ownsRow w.heap.size E 1 (.slice A m c) m (bv p)) (hb : Below w.heap.size w w') : TakeRef E w l (.returned (.tuple #[.slice A m c, .int .i64 z])) w' := by
  subst h1 h2
  exact ⟨_, rfl, A, m, c, rfl, hm, hc, hown, hb⟩

set_option maxRecDepth 100000 in
set_option maxHeartbeats 1000000 in
theorem Rtakef_any (A : Option Addr) (n c : Nat) (l : List UInt8) (w : World) (hl : l.length = n) (hr : Rd w A (bv l)) (hnc : n ≤ c) (hn : n ≤ 140737488355328) :
    Calls Tryd.prog 67 #[.slice A n c] w (TakeRef 5 w l) := by
  obtain ⟨i0, hi, hz, hz1, hz2⟩ := info_parts info_u8
  have hds := dec_size l
  obtain ⟨q, hq⟩ : ∃ q, q = dec l := ⟨_, rfl⟩
  have hft := Rtake_any A n c l w hl hr hnc hn
  rw [← hq] at hft hds
  obtain ⟨v, k⟩ := q
  simp only at hft hds
  have HQ := Lib.hid hq
  have HF := Lib.hid hft
  have HL := Lib.hid hl
  have HR := Lib.hid hr
  obtain ⟨hkn, hk10⟩ := hds
  rw [hl] at hkn
  clear hq hft hl hr
  by_cases hk0 : k = 0
  · have hno : isFrame l = false := isFrame_unfit (.inl (by rw [← HQ.out]; exact hk0))
    have HNO := Lib.hid hno
    clear hno
    subst hk0
    go_enter Tryd.func67, Tryd.ntmps67
    go_wp2_with (go_at_call 69; refine HF.out.mono ?_; rintro e w1 ⟨rfl, hb1⟩)
    go_ret2
    exact TakeRef.no HNO.out hb1
  · have e1 : ((k : Int) == 0) = false := by rw [beq_eq_false_iff_ne]; omega
    by_cases hv : 4096 < v
    · have hno : isFrame l = false := isFrame_unfit (.inr (.inl (by rw [← HQ.out]; exact hv)))
      have HNO := Lib.hid hno
      clear hno
      go_enter Tryd.func67, Tryd.ntmps67
      go_wp2_with (go_at_call 69; refine HF.out.mono ?_; rintro e w1 ⟨rfl, hb1⟩)
      go_ret2
      exact TakeRef.no HNO.out hb1
    · by_cases hfit : n < k + 4 + v
      · have hno : isFrame l = false := isFrame_unfit (.inr (.inr (by rw [← HQ.out, HL.out]; exact hfit)))
        have HNO := Lib.hid hno
        clear hno
        have hfi : (n : Int) < (k : Int) + 4 + (v : Int) := by omega
        go_enter Tryd.func67, Tryd.ntmps67
        go_wp2_with (go_at_call 69; refine HF.out.mono ?_; rintro e w1 ⟨rfl, hb1⟩)
        go_ret2
        exact TakeRef.no HNO.out hb1
      · obtain ⟨A1, ⟨ha1, ha2⟩, ha3⟩ := cut_lh (P := Tryd.prog) 25 5 i0 Tryd.underlying25 rfl hi hz1 A n c (k + 4) (k + 4 + v) v (c - (k + 4)) .i64 .i64 ((k : Int) + 4) ((k : Int) + 4 + (v : Int)) rfl rfl rfl (by omega) (by omega)
        obtain ⟨hb1, hb2⟩ := cut_to (P := Tryd.prog) 25 5 i0 Tryd.underlying25 rfl hi hz1 A n c (k + 4 + v) .i64 ((k : Int) + 4 + (v : Int)) rfl (by omega)
        obtain ⟨p, hp⟩ : ∃ p, p = (l.drop (k + 4)).take v := ⟨_, rfl⟩
        obtain ⟨s4, hs4⟩ : ∃ s4, s4 = l.take (k + 4 + v) := ⟨_, rfl⟩
        have hpl : p.length = v := by rw [hp, List.length_take, List.length_drop, HL.out]; omega
        have hsl : s4.length = k + 4 + v := by rw [hs4, List.length_take, HL.out]; omega
        have hrp : Rd w A1 (bv p) := by rw [hp, ← bv_take, ← bv_drop]; exact (ha3 w _ HR.out (by rw [bv_length, HL.out]; exact hnc)).take v
        have hrs : Rd w A (bv s4) := by rw [hs4, ← bv_take]; exact HR.out.take _
        have hiff := isFrame_iff (l := l) (by rw [← HQ.out]; exact hk0) (by rw [← HQ.out]; show v ≤ 4096; omega) (by rw [← HQ.out, HL.out]; show k + 4 + v ≤ n; omega)
        have href := ref_frame (l := l) (by rw [← HQ.out]; exact hk0) (by rw [← HQ.out, HL.out]; show k + 4 + v ≤ n; omega)
        rw [← HQ.out] at hiff href
        simp only at hiff href
        rw [← hp, ← hs4] at href
        rw [← hp] at hiff
        have htf : isFrame l = true → takeF l = (p, k + 4 + v) := fun hy => by rw [takeF_yes hy, ← HQ.out, hp]
        have HTF := Lib.hid htf
        clear htf
        have HIFF := Lib.hid hiff
        have HREF := Lib.hid href
        have HPL := Lib.hid hpl
        have HSL := Lib.hid hsl
        have HRP := Lib.hid hrp
        have HRS := Lib.hid hrs
        have hcs := fun (W : World) => run_str (P := Tryd.prog) W 25 9 5 Tryd.underlying25 Tryd.underlying5 Tryd.underlying9
        have HCS := Lib.hid hcs
        have hw1 : IntKind.i64.wrap ((k : Int) + 4) = (k : Int) + 4 := IntWalk.i64_in _ (by omega)
        have hw2 : IntKind.i64.wrap ((k : Int) + 4 + (v : Int)) = (k : Int) + 4 + (v : Int) := IntWalk.i64_in _ (by omega)
        have hw3 : IntKind.i64.wrap (v : Int) = (v : Int) := IntWalk.i64_in _ (by omega)
        clear ha3 hiff href hp hpl hsl hrp hrs hs4 hcs
        go_enter Tryd.func67, Tryd.ntmps67
        go_wp2_with (first
          | (go_at_call 69; refine HF.out.mono ?_; rintro e w1 ⟨rfl, hbw1⟩)
          | (at_builtin; refine wpList_app _ rfl (.tmp 28) (.tmp 37) _ rfl w1.heap.size 5 i0 _ 1 Tryd.underlying25 hi hz hz1 hz2 rfl (.slice (some ⟨w1.heap.size, 0, none⟩) 0 0) 0 [] rfl (World.ownsRow_lit w1 #[] 0 (Nat.le_refl _) (by simp [maxLen]) rfl) A1 v (c - (k + 4)) (bv p) rfl (by rw [bv_length]; exact HPL.out) ((HRP.out.below hbw1).alloc _) (bv_one p) v (Nat.zero_add _) (by unfold maxLen; omega) (by omega) (by simp) ?_; intro A3 c3 w3 hown3 hb3 _ _))
        have hbw3 : Below w.heap.size w w3 := hbw1.trans ((((Below.refl _ _).alloc (Nat.le_refl _) _).trans hb3).mono hbw1.size)
        have hrs3 := HRS.out.below hbw3
        have hcx := HCS.out w3.drew A (k + 4 + v) c s4 HSL.out hrs3
        by_cases he : sealOf p = s4
        · have hyes : isFrame l = true := by rw [HIFF.out]; exact decide_eq_true (HREF.out.1 he)
          have HY := Lib.hid hyes
          have hq1 : (sealOf p == s4) = true := by rw [he]; exact beq_self_eq_true _
          clear hyes he
          refine wp_region_held_drew (S := fun W => (convert 25 9 (.slice A (k + 4 + v) c)).run Tryd.prog W = .ok (.string ⟨s4.toArray⟩) W) (by kernel_rfl) (by (first | assumption | go_keep)) (fun hHeld => ?_)
          refine wpAnyH_take (i := 0) (v := ?vr1_0) (Fr.take_at rfl) (by kernel_rfl) (by kernel_rfl) (by kernel_rfl) (fun _ _ _ h => h) (Or.inl ⟨by rfl, ?yr1_0⟩) (by assumption) ?nr1_0
          case yr1_0 => (intro w_ hSw; (try dsimp only at hSw); go_simp; (try with_reducible rfl))
          try simp only [Act.put, List.setIfInBounds_toArray, List.set_cons_zero, List.set_cons_succ]
          refine wpAnyH_take (i := 3) (v := ?vr1_3) (Fr.take_at rfl) (by kernel_rfl) (by kernel_rfl) (by kernel_rfl) (fun _ _ _ h => h) (Or.inl ⟨by rfl, ?yr1_3⟩) (by assumption) ?nr1_3
          case yr1_3 => (intro w_ hSw; (try dsimp only at hSw); go_simp; (try with_reducible rfl))
          try simp only [Act.put, List.setIfInBounds_toArray, List.set_cons_zero, List.set_cons_succ]
          refine wpAnyH_take (i := 4) (v := ?vr1_4) (Fr.take_at rfl) (by kernel_rfl) (by kernel_rfl) (by kernel_rfl) (fun _ _ _ h => h) (Or.inl ⟨by rfl, ?yr1_4⟩) (by assumption) ?nr1_4
          case yr1_4 => (intro w_ hSw; (try dsimp only at hSw); go_simp; (try with_reducible rfl))
          try simp only [Act.put, List.setIfInBounds_toArray, List.set_cons_zero, List.set_cons_succ]
          refine wpAnyH_take (i := 5) (v := ?vr1_5) (Fr.take_at rfl) (by kernel_rfl) (by kernel_rfl) (by kernel_rfl) (fun _ _ _ h => h) (Or.inl ⟨by rfl, ?yr1_5⟩) (by assumption) ?nr1_5
          case yr1_5 => (intro w_ hSw; (try dsimp only at hSw); go_simp; (try with_reducible rfl))
          try simp only [Act.put, List.setIfInBounds_toArray, List.set_cons_zero, List.set_cons_succ]
          refine wpAnyH_take (i := 6) (v := ?vr1_6) (Fr.take_at rfl) (by kernel_rfl) (by kernel_rfl) (by kernel_rfl) (fun _ _ _ h => h) (Or.inl ⟨by rfl, ?yr1_6⟩) (by assumption) ?nr1_6
          case yr1_6 => (intro w_ hSw; (try dsimp only at hSw); go_simp; (try with_reducible rfl))
          try simp only [Act.put, List.setIfInBounds_toArray, List.set_cons_zero, List.set_cons_succ]
          refine wpAnyH_take (i := 7) (v := ?vr1_7) (Fr.take_at rfl) (by kernel_rfl) (by kernel_rfl) (by kernel_rfl) (fun _ _ _ h => h) (Or.inl ⟨by rfl, ?yr1_7⟩) (by assumption) ?nr1_7
          case yr1_7 => (intro w_ hSw; (try dsimp only at hSw); go_simp; (try with_reducible rfl))
          try simp only [Act.put, List.setIfInBounds_toArray, List.set_cons_zero, List.set_cons_succ]
          refine wpAnyH_take (i := 8) (v := ?vr1_8) (Fr.take_at rfl) (by kernel_rfl) (by kernel_rfl) (by kernel_rfl) (fun _ _ _ h => h) (Or.inl ⟨by rfl, ?yr1_8⟩) (by assumption) ?nr1_8
          case yr1_8 => (intro w_ hSw; (try dsimp only at hSw); go_simp; (try with_reducible rfl))
          try simp only [Act.put, List.setIfInBounds_toArray, List.set_cons_zero, List.set_cons_succ]
          refine wpAnyH_take (i := 9) (v := ?vr1_9) (Fr.take_at rfl) (by kernel_rfl) (by kernel_rfl) (by kernel_rfl) (fun _ _ _ h => h) (Or.inl ⟨by rfl, ?yr1_9⟩) (by assumption) ?nr1_9
          case yr1_9 => (intro w_ hSw; (try dsimp only at hSw); go_simp; (try with_reducible rfl))
          try simp only [Act.put, List.setIfInBounds_toArray, List.set_cons_zero, List.set_cons_succ]
          refine wpAnyH_take (i := 10) (v := ?vr1_10) (Fr.take_at rfl) (by kernel_rfl) (by kernel_rfl) (by kernel_rfl) (fun _ _ _ h => h) (Or.inl ⟨by rfl, ?yr1_10⟩) (by assumption) ?nr1_10
          case yr1_10 => (intro w_ hSw; (try dsimp only at hSw); go_simp; (try with_reducible rfl))
          try simp only [Act.put, List.setIfInBounds_toArray, List.set_cons_zero, List.set_cons_succ]
          refine wpAnyH_ready (rs := [1]) (by kernel_rfl) (by simp) ?_
          refine AllReadyH.cons (Fr.take_at rfl) (fun K hK => ?_) AllReadyH.nil
          go_simp
          (go_at_call 40; refine (Rseal_any A3 v c3 p w3.drew HPL.out (Rd.own hown3).drew (by omega)).mono ?_; rintro e w5 ⟨v', rfl, A5, m5, c5, rfl, hm5, hc5, hown5, hb5⟩; have hcy := HCS.out w5 A5 m5 c5 (sealOf p) hm5 (Rd.own hown5); have hcx2 := HCS.out w5 A (k + 4 + v) c s4 HSL.out (hrs3.below (below_of_drew hb5)); have HM5 := Lib.hid hm5; clear hm5)
          try go_wp2_with fail
          refine hK.out _ _ (by (first | assumption | go_keep)) (fun hHeld => ?_)
          clear hK K
          try simp only [Act.put, List.setIfInBounds_toArray, List.set_cons_zero, List.set_cons_succ]
          refine wpAnyH_ready (rs := [2]) (by kernel_rfl) (by simp) ?_
          refine AllReadyH.cons (Fr.take_at rfl) (fun K hK => ?_) AllReadyH.nil
          go_simp
          refine hK.out _ _ (by (first | assumption | go_keep)) (fun hHeld => ?_)
          clear hK K
          try simp only [Act.put, List.setIfInBounds_toArray, List.set_cons_zero, List.set_cons_succ]
          refine wpAnyH_take (i := 11) (v := ?vr1_11) (Fr.take_at rfl) (by kernel_rfl) (by kernel_rfl) (by kernel_rfl) (fun _ _ _ h => h) (Or.inl ⟨by rfl, ?yr1_11⟩) (by assumption) ?nr1_11
          case yr1_11 => (intro w_ hSw; (try dsimp only at hSw); go_simp; (try with_reducible rfl))
          try simp only [Act.put, List.setIfInBounds_toArray, List.set_cons_zero, List.set_cons_succ]
          refine wpAnyH_done (by kernel_rfl) ?_ _
          go_wp2
          go_ret2
          exact TakeRef.yes (by rw [HTF.out HY.out]) (by rw [HTF.out HY.out]; rfl) HPL.out (own_cap hown3) (own_below hown3 (below_of_drew hb5) hbw1.size) (hbw3.trans ((below_of_drew hb5).mono hbw3.size))
        · have hno : isFrame l = false := by rw [HIFF.out]; exact decide_eq_false (fun h => he (HREF.out.2 h))
          have HNO := Lib.hid hno
          have hq1 : (sealOf p == s4) = false := beq_eq_false_iff_ne.2 he
          clear hno he
          refine wp_region_held_drew (S := fun W => (convert 25 9 (.slice A (k + 4 + v) c)).run Tryd.prog W = .ok (.string ⟨s4.toArray⟩) W) (by kernel_rfl) (by (first | assumption | go_keep)) (fun hHeld => ?_)
          refine wpAnyH_take (i := 0) (v := ?vr2_0) (Fr.take_at rfl) (by kernel_rfl) (by kernel_rfl) (by kernel_rfl) (fun _ _ _ h => h) (Or.inl ⟨by rfl, ?yr2_0⟩) (by assumption) ?nr2_0
          case yr2_0 => (intro w_ hSw; (try dsimp only at hSw); go_simp; (try with_reducible rfl))
          try simp only [Act.put, List.setIfInBounds_toArray, List.set_cons_zero, List.set_cons_succ]
          refine wpAnyH_take (i := 3) (v := ?vr2_3) (Fr.take_at rfl) (by kernel_rfl) (by kernel_rfl) (by kernel_rfl) (fun _ _ _ h => h) (Or.inl ⟨by rfl, ?yr2_3⟩) (by assumption) ?nr2_3
          case yr2_3 => (intro w_ hSw; (try dsimp only at hSw); go_simp; (try with_reducible rfl))
          try simp only [Act.put, List.setIfInBounds_toArray, List.set_cons_zero, List.set_cons_succ]
          refine wpAnyH_take (i := 4) (v := ?vr2_4) (Fr.take_at rfl) (by kernel_rfl) (by kernel_rfl) (by kernel_rfl) (fun _ _ _ h => h) (Or.inl ⟨by rfl, ?yr2_4⟩) (by assumption) ?nr2_4
          case yr2_4 => (intro w_ hSw; (try dsimp only at hSw); go_simp; (try with_reducible rfl))
          try simp only [Act.put, List.setIfInBounds_toArray, List.set_cons_zero, List.set_cons_succ]
          refine wpAnyH_take (i := 5) (v := ?vr2_5) (Fr.take_at rfl) (by kernel_rfl) (by kernel_rfl) (by kernel_rfl) (fun _ _ _ h => h) (Or.inl ⟨by rfl, ?yr2_5⟩) (by assumption) ?nr2_5
          case yr2_5 => (intro w_ hSw; (try dsimp only at hSw); go_simp; (try with_reducible rfl))
          try simp only [Act.put, List.setIfInBounds_toArray, List.set_cons_zero, List.set_cons_succ]
          refine wpAnyH_take (i := 6) (v := ?vr2_6) (Fr.take_at rfl) (by kernel_rfl) (by kernel_rfl) (by kernel_rfl) (fun _ _ _ h => h) (Or.inl ⟨by rfl, ?yr2_6⟩) (by assumption) ?nr2_6
          case yr2_6 => (intro w_ hSw; (try dsimp only at hSw); go_simp; (try with_reducible rfl))
          try simp only [Act.put, List.setIfInBounds_toArray, List.set_cons_zero, List.set_cons_succ]
          refine wpAnyH_take (i := 7) (v := ?vr2_7) (Fr.take_at rfl) (by kernel_rfl) (by kernel_rfl) (by kernel_rfl) (fun _ _ _ h => h) (Or.inl ⟨by rfl, ?yr2_7⟩) (by assumption) ?nr2_7
          case yr2_7 => (intro w_ hSw; (try dsimp only at hSw); go_simp; (try with_reducible rfl))
          try simp only [Act.put, List.setIfInBounds_toArray, List.set_cons_zero, List.set_cons_succ]
          refine wpAnyH_take (i := 8) (v := ?vr2_8) (Fr.take_at rfl) (by kernel_rfl) (by kernel_rfl) (by kernel_rfl) (fun _ _ _ h => h) (Or.inl ⟨by rfl, ?yr2_8⟩) (by assumption) ?nr2_8
          case yr2_8 => (intro w_ hSw; (try dsimp only at hSw); go_simp; (try with_reducible rfl))
          try simp only [Act.put, List.setIfInBounds_toArray, List.set_cons_zero, List.set_cons_succ]
          refine wpAnyH_take (i := 9) (v := ?vr2_9) (Fr.take_at rfl) (by kernel_rfl) (by kernel_rfl) (by kernel_rfl) (fun _ _ _ h => h) (Or.inl ⟨by rfl, ?yr2_9⟩) (by assumption) ?nr2_9
          case yr2_9 => (intro w_ hSw; (try dsimp only at hSw); go_simp; (try with_reducible rfl))
          try simp only [Act.put, List.setIfInBounds_toArray, List.set_cons_zero, List.set_cons_succ]
          refine wpAnyH_take (i := 10) (v := ?vr2_10) (Fr.take_at rfl) (by kernel_rfl) (by kernel_rfl) (by kernel_rfl) (fun _ _ _ h => h) (Or.inl ⟨by rfl, ?yr2_10⟩) (by assumption) ?nr2_10
          case yr2_10 => (intro w_ hSw; (try dsimp only at hSw); go_simp; (try with_reducible rfl))
          try simp only [Act.put, List.setIfInBounds_toArray, List.set_cons_zero, List.set_cons_succ]
          refine wpAnyH_ready (rs := [1]) (by kernel_rfl) (by simp) ?_
          refine AllReadyH.cons (Fr.take_at rfl) (fun K hK => ?_) AllReadyH.nil
          go_simp
          (go_at_call 40; refine (Rseal_any A3 v c3 p w3.drew HPL.out (Rd.own hown3).drew (by omega)).mono ?_; rintro e w5 ⟨v', rfl, A5, m5, c5, rfl, hm5, hc5, hown5, hb5⟩; have hcy := HCS.out w5 A5 m5 c5 (sealOf p) hm5 (Rd.own hown5); have hcx2 := HCS.out w5 A (k + 4 + v) c s4 HSL.out (hrs3.below (below_of_drew hb5)); have HM5 := Lib.hid hm5; clear hm5)
          try go_wp2_with fail
          refine hK.out _ _ (by (first | assumption | go_keep)) (fun hHeld => ?_)
          clear hK K
          try simp only [Act.put, List.setIfInBounds_toArray, List.set_cons_zero, List.set_cons_succ]
          refine wpAnyH_ready (rs := [2]) (by kernel_rfl) (by simp) ?_
          refine AllReadyH.cons (Fr.take_at rfl) (fun K hK => ?_) AllReadyH.nil
          go_simp
          refine hK.out _ _ (by (first | assumption | go_keep)) (fun hHeld => ?_)
          clear hK K
          try simp only [Act.put, List.setIfInBounds_toArray, List.set_cons_zero, List.set_cons_succ]
          refine wpAnyH_take (i := 11) (v := ?vr2_11) (Fr.take_at rfl) (by kernel_rfl) (by kernel_rfl) (by kernel_rfl) (fun _ _ _ h => h) (Or.inl ⟨by rfl, ?yr2_11⟩) (by assumption) ?nr2_11
          case yr2_11 => (intro w_ hSw; (try dsimp only at hSw); go_simp; (try with_reducible rfl))
          try simp only [Act.put, List.setIfInBounds_toArray, List.set_cons_zero, List.set_cons_succ]
          refine wpAnyH_done (by kernel_rfl) ?_ _
          go_wp2
          go_ret2
          exact TakeRef.no HNO.out (hbw3.trans ((below_of_drew hb5).mono hbw3.size))
end Fr
end Go.Proofs.YtadlhnjnhllpfaaDoor
