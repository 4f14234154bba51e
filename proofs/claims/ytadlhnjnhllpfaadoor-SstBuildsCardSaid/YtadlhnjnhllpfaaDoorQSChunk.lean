/-
  WHAT IS PROVED: (1) slices.Chunk's iterator yields a row of entries three by three, to whatever body leaves its two boxes as they are. CONDITIONS: the boxes hold the row and three.
-/
import Derived.Test.YtadlhnjnhllpfaaDoorQSPlain
import Derived.Test.YtadlhnjnhllpfaaDoorQSOpen
import Derived.Test.YtadlhnjnhllpfaaDoorQBBld
namespace Go.Proofs.YtadlhnjnhllpfaaDoor
open Go Go.RowKit Go.Shelf Go.Maps Go.Sort Go.Proofs.YtadlhnjnhllpfaaDoor.Mm Go.Proofs.YtadlhnjnhllpfaaDoor.Fr
attribute [local go_sem] Oper.semAt_some
namespace Ss
/-- The x-th three of a row at g, p. -/
def cvl (g p n x : Nat) : Value := .slice (some ⟨g, p + x * 12, none⟩) (min 3 (n - 3 * x)) (min 3 (n - 3 * x))
theorem ent_size (W : World) : (sizeOf 42).run Tryd.prog W = .ok 4 W := by
  obtain ⟨i, hi, _, h1, _⟩ := info_parts Mm.info_entry
  simp [sizeOf, typeInfo, hi, h1]
theorem elem_ent : Tryd.prog.elem 22 = 42 := by kernel_rfl
theorem und_ent : Tryd.prog.underlying 22 = some (.slice (Tryd.prog.elem 22)) := by rw [elem_ent]; exact Tryd.underlying22
theorem ecut3 (g p n c : Nat) (lo hi : Int) (x m : Nat) (hlo : lo = ((3 * x : Nat) : Int)) (hm : hi = ((3 * x + m : Nat) : Int)) (h0 : 0 < m) (hc : 3 * x + m ≤ c) :
    (∀ W : World, (Instr.slice 22 (.slice (some ⟨g, p, none⟩) n c) (some (.int .i64 lo)) (some (.int .i64 hi)) (some (.int .i64 hi))).run Tryd.prog W = .ok (.slice (some ⟨g, p + x * 12, none⟩) m m) W) ∧
    ∀ W : World, (Instr.sliceAt 22 (.slice (some ⟨g, p, none⟩) n c) (some (.int .i64 lo)) (some (.int .i64 hi)) (some (.int .i64 hi))).run Tryd.prog W = .ok (.slice (some ⟨g, p + x * 12, none⟩) m m) W := by
  subst hlo hm
  have key : ∀ W : World, (Instr.slice 22 (.slice (some ⟨g, p, none⟩) n c) (some (.int .i64 ((3 * x : Nat) : Int))) (some (.int .i64 ((3 * x + m : Nat) : Int))) (some (.int .i64 ((3 * x + m : Nat) : Int)))).run Tryd.prog W = .ok (.slice (some ⟨g, p + x * 12, none⟩) m m) W := fun W => by
    rw [run_slice_lhm (P := Tryd.prog) W _ _ n c und_ent _ _ _ _ _ _ (by omega) (by omega) (by omega) (by omega), elem_ent, ent_size]
    have e1 : 3 * x + m - 3 * x = m := by omega
    have e2 : ¬ 3 * x + m = 3 * x := by omega
    have e3 : (⟨g, p, none⟩ : Addr).add (3 * x * 4) = ⟨g, p + x * 12, none⟩ := by
      have e4 : 3 * x * 4 = x * 12 := by omega
      rw [e4]; unfold Addr.add; split <;> simp_all
    simp only [sliced, Result.andThen, Int.toNat_natCast, e1, if_neg e2, Option.map_some, e3]
  exact ⟨key, fun W => (run_sliceAt_slice W _ _ _ _ _ und_ent).trans (key W)⟩
theorem ecut1 (A : Option Addr) (n c : Nat) (lo : Int) (x N C : Nat) (hlo : lo = (x : Int)) (hN : x + N = n) (hC : x + C = c) :
    ∃ A', (∀ W : World, (Instr.slice 22 (.slice A n c) (some (.int .i64 lo)) none none).run Tryd.prog W = .ok (.slice A' N C) W) ∧
    ∀ W : World, (Instr.sliceAt 22 (.slice A n c) (some (.int .i64 lo)) none none).run Tryd.prog W = .ok (.slice A' N C) W := by
  subst hlo
  have key : ∀ W : World, (Instr.slice 22 (.slice A n c) (some (.int .i64 (x : Int))) none none).run Tryd.prog W = .ok (.slice (if c = x then A else A.map (·.add (x * 4))) N C) W := fun W => by
    rw [run_slice_l (P := Tryd.prog) W _ _ n c und_ent _ _ (by omega) (by omega), elem_ent, ent_size]
    have e1 : n - x = N := by omega
    have e2 : c - x = C := by omega
    simp only [sliced, Result.andThen, Int.toNat_natCast, e1, e2]
  exact ⟨_, key, fun W => (run_sliceAt_slice W _ _ _ _ _ und_ent).trans (key W)⟩
theorem range_prefix {a b : Nat} (h : a ≤ b) : List.range a <+: List.range b := by
  obtain ⟨d, rfl⟩ : ∃ d, b = a + d := ⟨b - a, by omega⟩
  exact ⟨(List.range d).map fun x => a + x, List.range_add.symm⟩
/-- The two boxes. -/
def ChS (b1 b2 k : Nat) : Prop := k = b1 ∨ k = b2
section
variable {g p n c b1 b2 l K : Nat} {w : World}
set_option maxRecDepth 100000 in
theorem chunk_in (d : Nat) (W : World) (A : Option Addr) : CallsIn Fence.wide d Tryd.prog 29 #[.slice A n c, .int .i64 3] W fun e w' => e = .returned (.func (.func 58) #[] #[.pointer (some ⟨W.heap.size, 0, none⟩), .pointer (some ⟨W.heap.size + 1, 0, none⟩)]) ∧ w' = (W.alloc (.cells #[.slice A n c] 22)).alloc (.cells #[.int .i64 3] 3) := by
  refine callsIn_of_wp Tryd.func29 rfl trivial ?_ rfl
  simp only [Tryd.ntmps29, List.size_toArray, List.length_cons, List.length_nil, Nat.reduceAdd, Nat.reduceSub, Array.replicate_succ, Array.replicate_zero, List.push_toArray, List.append_toArray, List.nil_append, List.cons_append]
  gi_wp2
  go_ret
  exact ⟨rfl, rfl⟩
set_option maxRecDepth 100000 in
set_option maxHeartbeats 2000000 in
theorem chunk1_in (d : Nat) (hd : 1 ≤ d) (J Jx : List (Fin K) → World → Prop) (W : World) (A : Option Addr) (hA : 0 < n → A = some ⟨g, p, none⟩)
    (hY : ∀ pre x W, J pre W → pre.length < K → YieldAt Fence.wide (d - 1) Tryd.prog l #[cvl g p n x.1] W fun e W' => (e = .returned (.bool true) ∧ J (pre ++ [x]) W' ∧ KpS (ChS b1 b2) W W') ∨ (e = .returned (.bool false) ∧ Jx (pre ++ [x]) W'))
    (hJd : ∀ pre W, J pre W → J pre W.drew) (hK : K = (n + 2) / 3) (hn : n ≤ 1000000) (hnc : n ≤ c)
    (h1 : Blk W b1 22 #[.slice A n c]) (h2 : Blk W b2 3 #[.int .i64 3]) (h0 : J [] W) :
    CallsIn Fence.wide d Tryd.prog 58 #[.func (.yield l) #[] #[], .pointer (some ⟨b1, 0, none⟩), .pointer (some ⟨b2, 0, none⟩)] W fun e W' => (∃ v, e = .returned v) ∧ ((∃ ys : List (Fin K), ys.map (·.1) = List.range K ∧ J ys W') ∨ (∃ pre : List (Fin K), pre.map (·.1) <+: List.range K ∧ Jx pre W')) := by
  refine callsIn_of_wp Tryd.func58 rfl trivial ?_ rfl
  simp only [Tryd.ntmps58, List.size_toArray, List.length_cons, List.length_nil, Nat.reduceAdd, Nat.reduceSub, Array.replicate_succ, Array.replicate_zero, List.push_toArray, List.append_toArray, List.nil_append, List.cons_append]
  have HK := Lib.hid hK
  clear hK
  gi_wp2
  gi_loopw [4] (fun q wr => ∃ (x i : Nat) (pre : List (Fin K)), i = 3 * x ∧ 3 * x ≤ n + 2 ∧ q = .int .i64 (i : Int) ∧ Hid (pre.map (·.1) = List.range x) ∧ Hid (Blk wr b1 22 #[.slice A n c]) ∧ Hid (Blk wr b2 3 #[.int .i64 3]) ∧ Hid (J pre wr)) (fun q _ => n + 3 - (intOf q).toNat)
  case atStart => exact ⟨0, 0, [], rfl, by omega, rfl, Lib.hid rfl, Lib.hid h1, Lib.hid h2, Lib.hid h0⟩
  case round =>
    obtain ⟨x, i, pre, hix, hx, rfl, HP, H1, H2, HJ⟩ := hrel
    have c1 : wr.cell? ⟨b1, 0, none⟩ = some (.slice A n c) := H1.out.cell 0
    have c2 : wr.cell? ⟨b2, 0, none⟩ = some (.int .i64 3) := H2.out.cell 0
    by_cases hlt : i < n
    · obtain rfl := hA (by omega)
      obtain ⟨m, hm⟩ : ∃ m, m = min 3 (n - i) := ⟨_, rfl⟩
      obtain ⟨y, hyx⟩ : ∃ y : Fin K, y.1 = x := ⟨⟨x, by have := HK.out; omega⟩, rfl⟩
      obtain ⟨fn, tmps, assign, body, hy, hRd⟩ := hY pre y wr.drew (hJd _ _ HJ.out) (by have := congrArg List.length HP.out; rw [List.length_map, List.length_range] at this; omega)
      have hcv : cvl g p n x = .slice (some ⟨g, p + x * 12, none⟩) m m := by unfold cvl; rw [hm, hix]
      rw [hyx, hcv] at hy
      have k1 : (i : Int) < (n : Int) := by omega
      obtain ⟨A1, ca1, ca2⟩ := ecut1 (some ⟨g, p, none⟩) n c (i : Int) i (n - i) (c - i) rfl (by omega) (by omega)
      have hmn := Bl.mn 3 ((n - i : Nat) : Int) (m : Int) (by omega)
      have k2 : (n : Int) - (i : Int) = ((n - i : Nat) : Int) := by omega
      obtain ⟨cb1, cb2⟩ := ecut3 g p n c (i : Int) ((i : Int) + (m : Int)) x m (by omega) (by omega) (by omega) (by omega)
      have hm0 : 0 < m := by omega
      have hmm : m ≤ 3 := by omega
      have HM := Lib.hid hm
      have HIX := Lib.hid hix
      have HX := Lib.hid hx
      have HYX := Lib.hid hyx
      clear hm hcv hix hx hyx
      gi_wp2
      refine wpIn_region_any (by kernel_rfl) ?_
      change wpAnyIn _ _ _ _ _ _ _ _ _ (World.drew _)
      refine wpAnyIn_take (i := 2) (v := ?vr1x_2) rfl (Fr.take_at rfl) (by kernel_rfl) (by kernel_rfl) (by kernel_rfl) (fun _ _ _ h => h) ⟨Or.inl ⟨by rfl, ?yr1x_2⟩, fun _ => rfl⟩ ?nr1x_2
      case yr1x_2 => (intro w_; go_simp; (try with_reducible rfl))
      try simp only [Act.put, List.setIfInBounds_toArray, List.set_cons_zero, List.set_cons_succ]
      refine wpAnyIn_ready (rs := [0, 1]) (by kernel_rfl) (by simp) ?_
      refine AllReadyIn.cons (Fr.take_at rfl) (fun K hK => ?_) (AllReadyIn.cons (Fr.take_at rfl) (fun K hK => ?_) AllReadyIn.nil)
      go_simp
      refine hK _ _ ?_
      clear hK K
      try simp only [Act.put, List.setIfInBounds_toArray, List.set_cons_zero, List.set_cons_succ]
      refine wpAnyIn_ready (rs := [1]) (by kernel_rfl) (by simp) ?_
      refine AllReadyIn.cons (Fr.take_at rfl) (fun K hK => ?_) AllReadyIn.nil
      go_simp
      refine hK _ _ ?_
      clear hK K
      try simp only [Act.put, List.setIfInBounds_toArray, List.set_cons_zero, List.set_cons_succ]
      refine wpAnyIn_take (i := 3) (v := ?vr1a_3) rfl (Fr.take_at rfl) (by kernel_rfl) (by kernel_rfl) (by kernel_rfl) (fun _ _ _ h => h) ⟨Or.inl ⟨by rfl, ?yr1a_3⟩, fun _ => rfl⟩ ?nr1a_3
      case yr1a_3 => (intro w_; go_simp; (try with_reducible rfl))
      try simp only [Act.put, List.setIfInBounds_toArray, List.set_cons_zero, List.set_cons_succ]
      refine wpAnyIn_take (i := 4) (v := ?vr1a_4) rfl (Fr.take_at rfl) (by kernel_rfl) (by kernel_rfl) (by kernel_rfl) (fun _ _ _ h => h) ⟨Or.inl ⟨by rfl, ?yr1a_4⟩, fun _ => rfl⟩ ?nr1a_4
      case yr1a_4 => (intro w_; go_simp; (try with_reducible rfl))
      try simp only [Act.put, List.setIfInBounds_toArray, List.set_cons_zero, List.set_cons_succ]
      refine wpAnyIn_take (i := 5) (v := ?vr1a_5) rfl (Fr.take_at rfl) (by kernel_rfl) (by kernel_rfl) (by kernel_rfl) (fun _ _ _ h => h) ⟨Or.inl ⟨by rfl, ?yr1a_5⟩, fun _ => rfl⟩ ?nr1a_5
      case yr1a_5 => (intro w_; go_simp; (try with_reducible rfl))
      try simp only [Act.put, List.setIfInBounds_toArray, List.set_cons_zero, List.set_cons_succ]
      refine wpAnyIn_take (i := 6) (v := ?vr1a_6) rfl (Fr.take_at rfl) (by kernel_rfl) (by kernel_rfl) (by kernel_rfl) (fun _ _ _ h => h) ⟨Or.inl ⟨by rfl, ?yr1a_6⟩, fun _ => rfl⟩ ?nr1a_6
      case yr1a_6 => (intro w_; go_simp; (try with_reducible rfl))
      try simp only [Act.put, List.setIfInBounds_toArray, List.set_cons_zero, List.set_cons_succ]
      refine wpAnyIn_done (by kernel_rfl) ?_ _
      rotate_left
      go_simp
      refine hK _ _ ?_
      clear hK K
      try simp only [Act.put, List.setIfInBounds_toArray, List.set_cons_zero, List.set_cons_succ]
      refine wpAnyIn_take (i := 3) (v := ?vr1b_3) rfl (Fr.take_at rfl) (by kernel_rfl) (by kernel_rfl) (by kernel_rfl) (fun _ _ _ h => h) ⟨Or.inl ⟨by rfl, ?yr1b_3⟩, fun _ => rfl⟩ ?nr1b_3
      case yr1b_3 => (intro w_; go_simp; (try with_reducible rfl))
      try simp only [Act.put, List.setIfInBounds_toArray, List.set_cons_zero, List.set_cons_succ]
      refine wpAnyIn_take (i := 4) (v := ?vr1b_4) rfl (Fr.take_at rfl) (by kernel_rfl) (by kernel_rfl) (by kernel_rfl) (fun _ _ _ h => h) ⟨Or.inl ⟨by rfl, ?yr1b_4⟩, fun _ => rfl⟩ ?nr1b_4
      case yr1b_4 => (intro w_; go_simp; (try with_reducible rfl))
      try simp only [Act.put, List.setIfInBounds_toArray, List.set_cons_zero, List.set_cons_succ]
      refine wpAnyIn_ready (rs := [0]) (by kernel_rfl) (by simp) ?_
      refine AllReadyIn.cons (Fr.take_at rfl) (fun K hK => ?_) AllReadyIn.nil
      go_simp
      refine hK _ _ ?_
      clear hK K
      try simp only [Act.put, List.setIfInBounds_toArray, List.set_cons_zero, List.set_cons_succ]
      refine wpAnyIn_take (i := 5) (v := ?vr1b_5) rfl (Fr.take_at rfl) (by kernel_rfl) (by kernel_rfl) (by kernel_rfl) (fun _ _ _ h => h) ⟨Or.inl ⟨by rfl, ?yr1b_5⟩, fun _ => rfl⟩ ?nr1b_5
      case yr1b_5 => (intro w_; go_simp; (try with_reducible rfl))
      try simp only [Act.put, List.setIfInBounds_toArray, List.set_cons_zero, List.set_cons_succ]
      refine wpAnyIn_take (i := 6) (v := ?vr1b_6) rfl (Fr.take_at rfl) (by kernel_rfl) (by kernel_rfl) (by kernel_rfl) (fun _ _ _ h => h) ⟨Or.inl ⟨by rfl, ?yr1b_6⟩, fun _ => rfl⟩ ?nr1b_6
      case yr1b_6 => (intro w_; go_simp; (try with_reducible rfl))
      try simp only [Act.put, List.setIfInBounds_toArray, List.set_cons_zero, List.set_cons_succ]
      refine wpAnyIn_done (by kernel_rfl) ?_ _
      all_goals (gi_wp2; refine hRd.mono ?_; rintro e W3 (⟨rfl, hJ3, hk3⟩ | ⟨rfl, hJx3⟩))
      · have H23 : Hid (Blk W3 b2 3 #[.int .i64 3]) := Lib.hid (H2.out.same (hk3 _ (.inr rfl)))
        have c3 : W3.cell? ⟨b2, 0, none⟩ = some (.int .i64 3) := H23.out.cell 0
        have H13 : Hid (Blk W3 b1 22 #[.slice (some ⟨g, p, none⟩) n c]) := Lib.hid (H1.out.same (hk3 _ (.inl rfl)))
        gi_wp2
        go_roundw
        case rel => exact ⟨x + 1, i + 3, pre ++ [y], by have := HIX.out; omega, by have := HIX.out; omega, by first | rfl | go_num, Lib.hid (by rw [List.map_append, HP.out, List.range_succ, ← HYX.out]; rfl), H13, H23, Lib.hid hJ3⟩
        case measure => simp [intOf]; omega
      · gi_wp2
        refine bodyPost_ret (results_none rfl _ _ _) rfl ?_
        exact ⟨⟨_, rfl⟩, .inr ⟨pre ++ [y], by rw [List.map_append, HP.out]; show List.range x ++ [y.1] <+: _; rw [HYX.out, ← List.range_succ]; exact range_prefix (by have := y.2; have := HYX.out; omega), hJx3⟩⟩
      · have H23 : Hid (Blk W3 b2 3 #[.int .i64 3]) := Lib.hid (H2.out.same (hk3 _ (.inr rfl)))
        have c3 : W3.cell? ⟨b2, 0, none⟩ = some (.int .i64 3) := H23.out.cell 0
        have H13 : Hid (Blk W3 b1 22 #[.slice (some ⟨g, p, none⟩) n c]) := Lib.hid (H1.out.same (hk3 _ (.inl rfl)))
        gi_wp2
        go_roundw
        case rel => exact ⟨x + 1, i + 3, pre ++ [y], by have := HIX.out; omega, by have := HIX.out; omega, by first | rfl | go_num, Lib.hid (by rw [List.map_append, HP.out, List.range_succ, ← HYX.out]; rfl), H13, H23, Lib.hid hJ3⟩
        case measure => simp [intOf]; omega
      · gi_wp2
        refine bodyPost_ret (results_none rfl _ _ _) rfl ?_
        exact ⟨⟨_, rfl⟩, .inr ⟨pre ++ [y], by rw [List.map_append, HP.out]; show List.range x ++ [y.1] <+: _; rw [HYX.out, ← List.range_succ]; exact range_prefix (by have := y.2; have := HYX.out; omega), hJx3⟩⟩
    · have k1 : ¬ (i : Int) < (n : Int) := by omega
      obtain rfl : x = K := by have := HK.out; omega
      gi_wp2
      go_end0
      exact ⟨⟨_, rfl⟩, .inl ⟨pre, HP.out, HJ.out⟩⟩
theorem chunk_stops (d : Nat) (hd : 1 ≤ d) (A : Option Addr) (hA : 0 < n → A = some ⟨g, p, none⟩) (hK : K = (n + 2) / 3) (hn : n ≤ 1000000) (hnc : n ≤ c)
    (h1 : Blk w b1 22 #[.slice A n c]) (h2 : Blk w b2 3 #[.int .i64 3]) :
    SeqStopsK Fence.wide d Tryd.prog 58 #[.pointer (some ⟨b1, 0, none⟩), .pointer (some ⟨b2, 0, none⟩)] (fun x : Fin K => #[cvl g p n x.1]) (KpS (ChS b1 b2)) (fun ys => ys.map (·.1) = List.range K) (fun pre => pre.map (·.1) <+: List.range K) K w := fun _ J Jx W hW hJ _ hY h0 =>
  chunk1_in d hd J Jx W A hA hY (fun pre W h => hJ pre W W.drew none h ⟨rfl, rfl, rfl, Nat.le_refl _, fun _ _ _ => rfl⟩ (fun _ e => by cases e)) hK hn hnc (h1.same (hW.block _ h1.lt)) (h2.same (hW.block _ h2.lt)) h0
end
end Ss
end Go.Proofs.YtadlhnjnhllpfaaDoor
