/-
  WHAT IS PROVED: what the calls of both packages' Take do, in whatever memory that holds the table: the payload of the frame at the front, in new memory, or none. CONDITIONS: the slice that comes in reads as the bytes that are named and is no longer than 2^47; the table lies where it is laid (for frame's Take).
-/
import Derived.Test.YtnijonjepgdinaaDoorWTexts
namespace Go.Proofs.YtnijonjepgdinaaDoor
open Go Go.RowKit
namespace Fr

theorem quiet_left {P : Program} {f : FuncId} {args : Array Value} {w : World} {n : Nat} {v : Value}
    (h : Calls P f args (w.drewN n) fun e w' => e = .returned v ∧ w.drewN n = w') : Calls P f args (w.drewN n) fun e w'' => e = .returned v ∧ ∃ m, w'' = w.drewN m :=
  h.mono fun _ _ ⟨he, hm⟩ => ⟨he, n, hm.symm⟩
theorem Tab.drewN {w : World} (h : Tab w) (n : Nat) : Tab (w.drewN n) := h

/-- What frame's Take leaves. -/
def TakeRet (E : TypeId) (w : World) (l : List UInt8) (e : Ending) (w' : World) : Prop :=
  ∃ v, e = .returned (.tuple #[v, .int .i64 ((takeF l).2 : Nat), .int .i64 (if isFrame l then 0 else 10)]) ∧ Made E w w' (takeF l).1 v
theorem TakeRet.no {E : TypeId} {w w' : World} {l : List UInt8} (h : isFrame l = false) (hb : Below w.heap.size w w') : TakeRet E w l (.returned (.tuple #[.slice none 0 0, .int .i64 0, .int .i64 10])) w' := by
  refine ⟨.slice none 0 0, ?_, none, 0, 0, rfl, ?_, Nat.le_refl _, ?_, hb⟩
  · rw [takeF_no h, h]; rfl
  · rw [takeF_no h]; rfl
  · rw [takeF_no h]; exact World.ownsRow_nil _ _ _ _
theorem TakeRet.yes {E : TypeId} {w w' : World} {l p : List UInt8} {A : Option Addr} {m c : Nat} {z : Int} (h : isFrame l = true) (h1 : (takeF l).1 = p) (h2 : z = ((takeF l).2 : Int)) (hm : p.length = m) (hc : m ≤ c)
    (hown : w'.ownsRow w.heap.size E 1 (.slice A m c) m (bv p)) (hb : Below w.heap.size w w') : TakeRet E w l (.returned (.tuple #[.slice A m c, .int .i64 z, .int .i64 0])) w' := by
  subst h1 h2
  exact ⟨_, by rw [h]; rfl, A, m, c, rfl, hm, hc, hown, hb⟩
/-- What the reference's Take leaves. -/
def TakeRef (E : TypeId) (w : World) (l : List UInt8) (e : Ending) (w' : World) : Prop :=
  ∃ v, e = .returned (.tuple #[v, .int .i64 ((takeF l).2 : Nat)]) ∧ Made E w w' (takeF l).1 v
theorem TakeRef.no {E : TypeId} {w w' : World} {l : List UInt8} (h : isFrame l = false) (hb : Below w.heap.size w w') : TakeRef E w l (.returned (.tuple #[.slice none 0 0, .int .i64 0])) w' := by
  refine ⟨.slice none 0 0, ?_, none, 0, 0, rfl, ?_, Nat.le_refl _, ?_, hb⟩
  · rw [takeF_no h]; rfl
  · rw [takeF_no h]; rfl
  · rw [takeF_no h]; exact World.ownsRow_nil _ _ _ _

set_option maxRecDepth 100000 in
set_option maxHeartbeats 1000000 in
theorem Ftakef_any (A : Option Addr) (n c : Nat) (l : List UInt8) (w : World) (hl : l.length = n) (hr : Rd w A (bv l)) (hnc : n ≤ c) (hn : n ≤ 140737488355328) (ht : Tab w) :
    Calls Tryd.prog 47 #[.slice A n c] w (TakeRet 5 w l) := by
  obtain ⟨i0, hi, hz, hz1, hz2⟩ := info_parts info_u8
  have hds := dec_size l
  obtain ⟨q, hq⟩ : ∃ q, q = dec l := ⟨_, rfl⟩
  have hft := Ftake_any A n c l w hl hr hn
  rw [← hq] at hft hds
  obtain ⟨v, k⟩ := q
  simp only at hft hds
  have HQ := Lib.hid hq
  have HF := Lib.hid hft
  have HL := Lib.hid hl
  have HR := Lib.hid hr
  have HT := Lib.hid ht
  obtain ⟨hkn, hk10⟩ := hds
  rw [hl] at hkn
  clear hq hft hl hr ht
  by_cases hk0 : k = 0
  · have hno : isFrame l = false := isFrame_unfit (.inl (by rw [← HQ.out]; exact hk0))
    have HNO := Lib.hid hno
    clear hno
    subst hk0
    go_enter Tryd.func47, Tryd.ntmps47
    go_wp2_with (go_at_call 56; refine HF.out.mono ?_; rintro e w1 ⟨rfl, rfl⟩)
    go_ret3
    exact TakeRet.no HNO.out (Below.refl _ _)
  · have e1 : ((k : Int) == 0) = false := by rw [beq_eq_false_iff_ne]; omega
    by_cases hv : 4096 < v
    · have hno : isFrame l = false := isFrame_unfit (.inr (.inl (by rw [← HQ.out]; exact hv)))
      have HNO := Lib.hid hno
      clear hno
      go_enter Tryd.func47, Tryd.ntmps47
      go_wp2_with (go_at_call 56; refine HF.out.mono ?_; rintro e w1 ⟨rfl, rfl⟩)
      go_ret3
      exact TakeRet.no HNO.out (Below.refl _ _)
    · by_cases hfit : n < k + 4 + v
      · have hno : isFrame l = false := isFrame_unfit (.inr (.inr (by rw [← HQ.out, HL.out]; exact hfit)))
        have HNO := Lib.hid hno
        clear hno
        go_enter Tryd.func47, Tryd.ntmps47
        go_wp2_with (go_at_call 56; refine HF.out.mono ?_; rintro e w1 ⟨rfl, rfl⟩)
        go_ret3
        exact TakeRet.no HNO.out (Below.refl _ _)
      · obtain ⟨A1, ⟨ha1, ha2⟩, ha3⟩ := cut_lh (P := Tryd.prog) 42 5 i0 Tryd.underlying42 rfl hi hz1 A n c (k + 4) (k + 4 + v) v (c - (k + 4)) .i64 .i64 ((k : Int) + 4) ((k : Int) + 4 + (v : Int)) rfl rfl rfl (by omega) (by omega)
        obtain ⟨A2, ⟨hb1, hb2⟩, hb3⟩ := cut_lh (P := Tryd.prog) 42 5 i0 Tryd.underlying42 rfl hi hz1 A n c k (k + 4) 4 (c - k) .i64 .i64 (k : Int) ((k : Int) + 4) rfl rfl rfl (by omega) (by omega)
        obtain ⟨p, hp⟩ : ∃ p, p = (l.drop (k + 4)).take v := ⟨_, rfl⟩
        obtain ⟨s4, hs4⟩ : ∃ s4, s4 = (l.drop k).take 4 := ⟨_, rfl⟩
        have hpl : p.length = v := by rw [hp, List.length_take, List.length_drop, HL.out]; omega
        have hsl : s4.length = 4 := by rw [hs4, List.length_take, List.length_drop, HL.out]; omega
        have hrp : Rd w A1 (bv p) := by rw [hp, ← bv_take, ← bv_drop]; exact (ha3 w _ HR.out (by rw [bv_length, HL.out]; exact hnc)).take v
        have hrs : Rd w A2 (bv s4) := by rw [hs4, ← bv_take, ← bv_drop]; exact (hb3 w _ HR.out (by rw [bv_length, HL.out]; exact hnc)).take 4
        have hiff := isFrame_iff (l := l) (by rw [← HQ.out]; exact hk0) (by rw [← HQ.out]; show v ≤ 4096; omega) (by rw [← HQ.out, HL.out]; show k + 4 + v ≤ n; omega)
        rw [← HQ.out] at hiff
        simp only at hiff
        rw [← hp, ← hs4] at hiff
        have htf : isFrame l = true → takeF l = (p, k + 4 + v) := fun hy => by rw [takeF_yes hy, ← HQ.out, hp]
        have HTF := Lib.hid htf
        clear htf
        have HIFF := Lib.hid hiff
        have HP := Lib.hid hp
        have HPL := Lib.hid hpl
        have HSL := Lib.hid hsl
        have HRP := Lib.hid hrp
        have HRS := Lib.hid hrs
        have hc1 : crc p < 4294967296 := crc_lt p
        clear ha3 hb3 hiff hp hpl hsl hrp hrs hs4
        by_cases he : crc p = word s4
        · have hyes : isFrame l = true := by rw [HIFF.out]; exact decide_eq_true he
          have HY := Lib.hid hyes
          have hq1 : ((crc p : Int) == (word s4 : Int)) = true := by rw [he]; exact beq_self_eq_true _
          have HE := Lib.hid he
          clear hyes he
          go_enter Tryd.func47, Tryd.ntmps47
          go_wp2_with (go_at_call 56; refine HF.out.mono ?_; rintro e w1 ⟨rfl, rfl⟩)
          go_quiet ((first | (go_at_call 40; exact quiet_left (Fsum_any A1 v _ p _ HPL.out (HRP.out.drewN _) (by omega) (HT.out.drewN _))) | (go_at_call 57; exact quiet_left (stored_any A2 _ s4 _ HSL.out (HRS.out.drewN _)))))
          go_wp2_with (go_at_call 38; refine (clone_any A1 v _ p _ HPL.out (HRP.out.drewN _) (by omega)).mono ?_; rintro e w5 ⟨v', rfl, A5, m5, c5, rfl, hm5, hc5, hown5, hb5⟩; have HM5 := Lib.hid hm5; clear hm5)
          go_ret3
          exact TakeRet.yes HY.out (by rw [HTF.out HY.out]) (by rw [HTF.out HY.out]; rfl) HM5.out hc5 hown5 (below_of_drewN hb5)
        · have hno : isFrame l = false := by rw [HIFF.out]; exact decide_eq_false he
          have HNO := Lib.hid hno
          have hq1 : ((crc p : Int) == (word s4 : Int)) = false := by rw [beq_eq_false_iff_ne]; omega
          have HE := Lib.hid he
          clear hno he
          go_enter Tryd.func47, Tryd.ntmps47
          go_wp2_with (go_at_call 56; refine HF.out.mono ?_; rintro e w1 ⟨rfl, rfl⟩)
          go_quiet ((first | (go_at_call 40; exact quiet_left (Fsum_any A1 v _ p _ HPL.out (HRP.out.drewN _) (by omega) (HT.out.drewN _))) | (go_at_call 57; exact quiet_left (stored_any A2 _ s4 _ HSL.out (HRS.out.drewN _)))))
          go_wp2
          go_ret3
          exact TakeRet.no HNO.out (below_drewN (Below.refl _ _) _)

theorem TakeRef.yes {E : TypeId} {w w' : World} {l p : List UInt8} {A : Option Addr} {m c : Nat} {z : Int} (h1 : (takeF l).1 = p) (h2 : z = ((takeF l).2 : Int)) (hm : p.length = m) (hc : m ≤ c)
    (hown : w'.ownsRow w.heap.size E 1 (.slice A m c) m (bv p)) (hb : Below w.heap.size w w') : TakeRef E w l (.returned (.tuple #[.slice A m c, .int .i64 z])) w' := by
  subst h1 h2
  exact ⟨_, rfl, A, m, c, rfl, hm, hc, hown, hb⟩

end Fr
end Go.Proofs.YtnijonjepgdinaaDoor
