/-
  WHAT IS PROVED: (1) what May answers. CONDITIONS: the filter stands in memory as named.
-/
import Derived.Test.YtadlhnjnhllpfaaDoorQBPlc
import Derived.Test.YtadlhnjnhllpfaaDoorQBRnd
namespace Go.Proofs.YtadlhnjnhllpfaaDoor
open Go Go.RowKit Go.Shelf
attribute [local go_sem] Oper.semAt_some
namespace Bl
open Go.Proofs.YtadlhnjnhllpfaaDoor.Fr
section
variable {w : World} {A : Option Addr} {n c : Nat} {l : Bs} {s : ByteArray}
theorem two_below (w : World) (a b : Obj) : Below w.heap.size w ((w.alloc a).alloc b) := ((Below.refl _ w).alloc (Nat.le_refl _) _).alloc (by simp) _
/-- Which way May goes. -/
inductive MayWay (l : Bs) (key : Bs) : Prop
  | short (h : l.length < 2) (e : may l key = true)
  | long (h : 2 ≤ l.length) (h2 : 1048576 < l.length) (e : may l key = true)
  | none (h : 2 ≤ l.length) (h2 : l.length ≤ 1048576) (y : (l[l.length - 1]?.getD 0).toNat < 1) (e : may l key = true)
  | many (h : 2 ≤ l.length) (h2 : l.length ≤ 1048576) (y : 16 < (l[l.length - 1]?.getD 0).toNat) (e : may l key = true)
  | all (h : 2 ≤ l.length) (h2 : l.length ≤ 1048576) (y : 1 ≤ (l[l.length - 1]?.getD 0).toNat) (y2 : (l[l.length - 1]?.getD 0).toNat ≤ 16) (e : may l key = (places key (8 * (l.length - 1)) (l[l.length - 1]?.getD 0).toNat).all (bit l))
theorem may_way (l key : Bs) : MayWay l key := by
  by_cases h1 : l.length < 2
  · exact .short h1 (by unfold may; rw [if_pos (.inl h1)])
  by_cases h2 : 1048576 < l.length
  · exact .long (by omega) h2 (by unfold may; rw [if_pos (.inr h2)])
  by_cases h3 : (l[l.length - 1]?.getD 0).toNat < 1
  · exact .none (by omega) (by omega) h3 (by unfold may; rw [if_neg (by omega), if_pos (.inl h3)])
  by_cases h4 : 16 < (l[l.length - 1]?.getD 0).toNat
  · exact .many (by omega) (by omega) h4 (by unfold may; rw [if_neg (by omega), if_pos (.inr h4)])
  · exact .all (by omega) (by omega) (by omega) (by omega) (by unfold may; rw [if_neg (by omega), if_neg (by omega)])
/-- A byte of a row, in every world behind. -/
theorem byte_in {W : World} (hr : Rd w A (bv l)) (hb : Below w.heap.size w W) {i : Nat} (hi : i < l.length) : ∃ b o, A = some ⟨b, o, none⟩ ∧ W.cell? ⟨b, o + i, none⟩ = some (.int .u8 (((l[i]?.getD 0).toNat : Nat) : Int)) := by
  obtain ⟨b, o, e, _, hc⟩ := (hr.below hb).byte hi
  exact ⟨b, o, e, by rw [hc, List.getElem?_eq_getElem hi]; rfl⟩
/-- Between two rounds of May. -/
structure MayI (w : World) (v : Value) (l : Bs) (r : Bool) (W : World) : Prop where
  box : Mm.Blk W w.heap.size 25 #[v]
  res : Mm.Blk W (w.heap.size + 1) 4 #[.bool r]
  bel : Below w.heap.size w W
theorem MayI.kept {v : Value} {r : Bool} {B : Nat} (hB : w.heap.size ≤ B) {W W' : World} {row : Option Nat} (h : MayI w v l r W) (hg : W.grownBy W' row) (hr : ∀ k, row = some k → B ≤ k ∧ ∃ o : Obj, W.heap[k]? = some o ∧ o.isCells = false) : MayI w v l r W' :=
  ⟨blk_kept h.box hg fun k e => (hr k e).2, blk_kept h.res hg fun k e => (hr k e).2, h.bel.grown hg h.bel.size fun k e => by have := (hr k e).1; omega⟩
theorem wrap_pow {r : Nat} (hr : r < 8) : IntKind.u8.wrap ((2 : Int) ^ r) = ((2 ^ r : Nat) : Int) := by
  match r, hr with
  | 0, _ | 1, _ | 2, _ | 3, _ | 4, _ | 5, _ | 6, _ | 7, _ => decide +kernel
theorem pow_lt8 {r : Nat} (hr : r < 8) : 2 ^ r < 256 := by
  have : (2 : Nat) ^ r ≤ 2 ^ 7 := Nat.pow_le_pow_right (by decide) (by omega)
  omega
theorem and_bit {Y r : Nat} (hY : Y < 256) (hr : r < 8) : (bits .and .u8 (Y : Int) (IntKind.u8.wrap ((2 : Int) ^ r)) == 0) = !Y.testBit r := by
  rw [wrap_pow hr, u8_and_nat _ _ hY (pow_lt8 hr), nat_bit, Nat.testBit_eq_decide_div_mod_eq]
  have hp : 0 < 2 ^ r := Nat.pow_pos (by decide)
  have h2 : Y / 2 ^ r % 2 = 0 ∨ Y / 2 ^ r % 2 = 1 := by omega
  rcases h2 with h | h
  · rw [h]; simp
  · rw [h, Nat.one_mul]
    have : ¬ ((2 ^ r : Nat) : Int) = 0 := by omega
    rw [beq_eq_false_iff_ne.2 this]
    rfl
theorem below_set {B : Nat} {w w' : World} (h : Below B w w') {p : Addr} (hp : B ≤ p.block) (u : Value) : Below B w (w'.setCell p u) := h.trans ((Below.refl _ w').setCell hp u)
theorem May.drew {v : Value} {r : Bool} {W : World} (h : MayI w v l r W) : MayI w v l r W.drew := ⟨h.box, h.res, below_drewN h.bel 1⟩
theorem MayI.set {v : Value} {r : Bool} {W : World} (h : MayI w v l r W) (r' : Bool) : MayI w v l r' (W.setCell ⟨w.heap.size + 1, 0, none⟩ (.bool r')) :=
  ⟨h.box.same (Below.heap_setCell _ _ _ _ (by simp)), by simpa using h.res.set 0 (.bool r'), below_set h.bel (Nat.le_succ _) _⟩
set_option maxRecDepth 100000 in
set_option maxHeartbeats 2000000 in
theorem may_any (hl : l.length = n) (hr : Rd w A (bv l)) (hn : n ≤ 140737488355328) (hs : s.size ≤ maxLen) :
    Calls Tryd.prog 50 #[.slice A n c, .string s] w fun e w' => e = .returned (.bool (may l s.toList)) ∧ Below w.heap.size w w' := by
  refine (callsIn_wide (n := 5)).1 ?_
  refine callsIn_of_wp_marks Tryd.func50 rfl trivial ?_ rfl
  simp only [Tryd.ntmps50, List.size_toArray, List.length_cons, List.length_nil, Nat.reduceAdd, Nat.reduceSub, Array.replicate_succ, Array.replicate_zero, List.push_toArray, List.append_toArray, List.nil_append, List.cons_append]
  have HL := Lib.hid hl
  have HR := Lib.hid hr
  have hy := fun (h : 2 ≤ n) => byte_in (i := n - 1) hr (two_below w (.cells #[.slice A n c] 25) (.cells #[.bool false] 4)) (by omega)
  rcases may_way l s.toList with ⟨h, e⟩ | ⟨h, h2, e⟩ | ⟨h, h2, y, e⟩ | ⟨h, h2, y, e⟩ | ⟨h, h2, y, y2, e⟩
  · rw [e]
    rw [hl] at h
    clear hl hr e hy
    have h3 : (n : Int) - 1 < 1 := by omega
    gi_wp2
    refine ⟨.bool true, ?_, rfl, two_below w _ _⟩
    simp [results, Tryd.f50, go_sem]
  · rw [e]
    rw [hl] at h h2
    clear hl hr e hy
    have h3 : ¬ (n : Int) - 1 < 1 := by omega
    have h4 : (1048576 : Int) < (n : Int) := by omega
    gi_wp2
    refine ⟨.bool true, ?_, rfl, two_below w _ _⟩
    simp [results, Tryd.f50, go_sem]
  · rw [e]
    rw [hl] at h h2 y
    obtain ⟨b, o, rfl, hc⟩ := hy h
    obtain ⟨K, hK⟩ : ∃ K, K = (l[n - 1]?.getD 0).toNat := ⟨_, rfl⟩
    rw [← hK] at hc y
    have HK := Lib.hid hK
    clear hl hr e hy hK
    have h3 : ¬ (n : Int) - 1 < 1 := by omega
    have h4 : ¬ (1048576 : Int) < (n : Int) := by omega
    have h5 : (K : Int) < 1 := by omega
    have e1 : (n : Int) - 1 = ((n - 1 : Nat) : Int) := by omega
    gi_wp2
    refine ⟨.bool true, ?_, rfl, two_below w _ _⟩
    simp [results, Tryd.f50, go_sem]
  · rw [e]
    rw [hl] at h h2 y
    obtain ⟨b, o, rfl, hc⟩ := hy h
    obtain ⟨K, hK⟩ : ∃ K, K = (l[n - 1]?.getD 0).toNat := ⟨_, rfl⟩
    rw [← hK] at hc y
    have HK := Lib.hid hK
    clear hl hr e hy hK
    have h3 : ¬ (n : Int) - 1 < 1 := by omega
    have h4 : ¬ (1048576 : Int) < (n : Int) := by omega
    have h5 : ¬ (K : Int) < 1 := by omega
    have h6 : (16 : Int) < (K : Int) := by omega
    have h7 : K < 256 := by rw [HK.out]; exact UInt8.toNat_lt _
    have e1 : (n : Int) - 1 = ((n - 1 : Nat) : Int) := by omega
    gi_wp2
    refine ⟨.bool true, ?_, rfl, two_below w _ _⟩
    simp [results, Tryd.f50, go_sem]
  · rw [e]
    rw [hl] at h h2 y y2 ⊢
    obtain ⟨b, o, rfl, hc⟩ := hy h
    obtain ⟨m, rfl⟩ : ∃ m, n = m + 1 := ⟨n - 1, by omega⟩
    simp only [Nat.add_sub_cancel] at hc y y2 ⊢
    obtain ⟨K, hK⟩ : ∃ K, K = (l[m]?.getD 0).toNat := ⟨_, rfl⟩
    rw [← hK] at hc y y2 ⊢
    obtain ⟨N, hN⟩ : ∃ N, N = 8 * m := ⟨_, rfl⟩
    rw [← hN]
    have eN : (8 : Int) * (m : Int) = (N : Int) := by omega
    have hN0 : 0 < N := by omega
    have hN1 : N < 4294967296 := by omega
    have HN := Lib.hid hN
    have HK := Lib.hid hK
    clear hl hr e hy hK hN
    have h3 : ¬ (m : Int) < 1 := by omega
    have h4 : ¬ (1048576 : Int) < (m : Int) + 1 := by omega
    have h5 : ¬ (K : Int) < 1 := by omega
    have h6 : ¬ (16 : Int) < (K : Int) := by omega
    have hf1 : Fence.wide.fn 70 := trivial
    gi_wp2_with (gi_at_call 70; refine (places_in _ _ _ _ _).mono ?_; rintro e W1 ⟨rfl, rfl⟩)
    have hW0 : Below w.heap.size w (((((w.alloc (.cells #[.slice (some ⟨b, o, none⟩) (m + 1) c] 25)).alloc (.cells #[.bool false] 4)).alloc (.cells #[.string s] 9)).alloc (.cells #[.int .i64 (K : Int)] 3)).alloc (.cells #[.int .i64 (N : Int)] 3)) := ((((two_below w _ _).alloc (by simp; omega) _).alloc (by simp; omega) _).alloc (by simp; omega) _)
    have b0 : Mm.Blk _ _ _ _ := Mm.Blk.new w 25 #[.slice (some ⟨b, o, none⟩) (m + 1) c]
    have b1 : Mm.Blk _ _ _ _ := Mm.Blk.new (w.alloc (.cells #[.slice (some ⟨b, o, none⟩) (m + 1) c] 25)) 4 #[.bool false]
    have b2 : Mm.Blk _ _ _ _ := Mm.Blk.new ((w.alloc (.cells #[.slice (some ⟨b, o, none⟩) (m + 1) c] 25)).alloc (.cells #[.bool false] 4)) 9 #[.string s]
    have b3 : Mm.Blk _ _ _ _ := Mm.Blk.new (((w.alloc (.cells #[.slice (some ⟨b, o, none⟩) (m + 1) c] 25)).alloc (.cells #[.bool false] 4)).alloc (.cells #[.string s] 9)) 3 #[.int .i64 (K : Int)]
    have b4 : Mm.Blk _ _ _ _ := Mm.Blk.new ((((w.alloc (.cells #[.slice (some ⟨b, o, none⟩) (m + 1) c] 25)).alloc (.cells #[.bool false] 4)).alloc (.cells #[.string s] 9)).alloc (.cells #[.int .i64 (K : Int)] 3)) 3 #[.int .i64 (N : Int)]
    simp only [World.size_alloc] at b1 b2 b3 b4
    refine wpIn_rangeFunc_ownF rfl (by omega) (gf := 82) (lb := #[.pointer (some ⟨w.heap.size + 1 + 1, 0, none⟩), .pointer (some ⟨w.heap.size + 1 + 1 + 1, 0, none⟩), .pointer (some ⟨w.heap.size + 1 + 1 + 1 + 1, 0, none⟩)]) rfl trivial (enters_of Tryd.func82 (by kernel_rfl) rfl)
      (plc_stops (s := s) (k := K) (n := N) (5 - 1) (by omega) hs (by omega) hN0 hN1 (by simp) (by simp) (by simp) (((b2.alloc _).alloc _).cell 0) ((b3.alloc _).cell 0) (b4.cell 0)) kpB_t (kpB_b (by simp)) (Below.refl _ _) (fun _ => rfl)
      (fun pre W => (∀ x ∈ pre, bit l x.1 = true) ∧ MayI w (.slice (some ⟨b, o, none⟩) (m + 1) c) l false W)
      (fun c' pre W => (c' = .ret ∧ ∃ x ∈ pre, bit l x.1 = false) ∧ MayI w (.slice (some ⟨b, o, none⟩) (m + 1) c) l false W)
      (fun s A B row hs hg hr => ⟨hs.1, hs.2.kept (by simp; omega) hg hr⟩)
      (fun c s A B row hs hg hr => ⟨hs.1, hs.2.kept (by simp; omega) hg hr⟩)
      ⟨by simp, (((b0.alloc _).alloc _).alloc _).alloc _, ((b1.alloc _).alloc _).alloc _, hW0⟩
      (fun x => { tmps := #[.slice (some ⟨b, o, none⟩) (m + 1) c, .string s, .pointer (some ⟨w.heap.size, 0, none⟩), undef, .pointer (some ⟨w.heap.size + 1, 0, none⟩), .int .i64 (m : Int), .int .i64 (K : Int), .int .i64 ((x.1 : Nat) : Int), .slice (some ⟨b, o, none⟩) (m + 1) c, .int .i64 ((m : Int) + 1), .int .i64 (m : Int), .int .i64 (m : Int), .bool false, .bool false, .slice (some ⟨b, o, none⟩) (m + 1) c, .int .i64 ((m : Int) + 1), .bool false, .bool false, .slice (some ⟨b, o, none⟩) (m + 1) c, .int .i64 (m : Int), .pointer (some ⟨b, o + m, none⟩), .int .u8 (K : Int), .int .i64 (K : Int), .int .i64 (K : Int), .bool false, .bool false, .int .i64 (K : Int), .bool false, .bool false, .string s, .int .i64 (K : Int), .int .i64 (m : Int), .int .i64 (N : Int), .func (.func 82) #[] #[.pointer (some ⟨w.heap.size + 1 + 1, 0, none⟩), .pointer (some ⟨w.heap.size + 1 + 1 + 1, 0, none⟩), .pointer (some ⟨w.heap.size + 1 + 1 + 1 + 1, 0, none⟩)], .int .i64 ((x.1 : Nat) : Int), undef, undef, undef, undef, undef, undef, undef, undef, undef, undef], defers := [] }) ?assign ?body ?done ?stop
    case assign =>
      intro l x W K hK
      gi_wp2
      exact hK
    case body =>
      rintro q pre x W ⟨hp, hI⟩ _
      have c0 := hI.box.cell 0
      have c1 := hI.res.cell 0
      have f1 := hI.res.frozen 0
      have HI := Lib.hid hI
      have HPr := Lib.hid hp
      obtain ⟨p, hp8⟩ := x
      obtain ⟨a, ha⟩ : ∃ a, a = p / 8 := ⟨_, rfl⟩
      obtain ⟨r, hr⟩ : ∃ r, r = p % 8 := ⟨_, rfl⟩
      have ham : a < m := by have := HN.out; omega
      have hr8 : r < 8 := by omega
      obtain ⟨b', o', e', hc'⟩ := byte_in (i := a) HR.out hI.bel (by rw [HL.out]; omega)
      cases e'
      have e1 : (p : Int) / 8 = (a : Int) := by omega
      have e2 : (p : Int) % 8 = (r : Int) := by omega
      have e3 : (p : Int).tmod 8 = (r : Int) := by rw [Int.tmod_eq_emod_of_nonneg (by omega)]; exact e2
      have k1 : (0 : Int) ≤ (a : Int) := by omega
      have k2 : (a : Int) < (m : Int) + 1 := by omega
      have k3 : (0 : Int) ≤ (r : Int) := by omega
      obtain ⟨Y, hY⟩ : ∃ Y, Y = (l[a]?.getD 0).toNat := ⟨_, rfl⟩
      rw [← hY] at hc'
      have HY := Lib.hid hY
      have HA := Lib.hid ha
      have HRr := Lib.hid hr
      clear hI hp hY ha hr
      simp only [List.getElem?_toArray, List.getElem?_cons_zero] at c0 c1
      have hwa : IntKind.i64.wrap (a : Int) = (a : Int) := IntWalk.i64_in _ (by omega)
      have hwr : IntKind.i64.wrap (r : Int) = (r : Int) := IntWalk.i64_in _ (by omega)
      have hbit := and_bit (Y := Y) (r := r) (by rw [HY.out]; exact UInt8.toNat_lt _) hr8
      obtain ⟨t, ht⟩ : ∃ t, t = Y.testBit r := ⟨_, rfl⟩
      rw [← ht] at hbit
      have HT : Hid (t = bit l p) := by rw [ht, HY.out, HA.out, HRr.out]; exact rfl
      clear ht
      gi_wp2
      refine Bl.region_round (S := fun W' => W'.cell? ⟨w.heap.size, 0, none⟩ = some (.slice (some ⟨b, o, none⟩) (m + 1) c) ∧ W'.cell? ⟨b, o + a, none⟩ = some (.int .u8 (Y : Int))) (by kernel_rfl) (by kernel_rfl) (by (exact ⟨c0, hc'⟩)) (fun hHeld => ?_)
      refine wpAnyH_take (i := 0) (v := ?vr1_0) (Fr.take_at rfl) (by kernel_rfl) (by kernel_rfl) (by kernel_rfl) (fun _ _ _ h => h) (Or.inl ⟨by rfl, ?yr1_0⟩) (by assumption) ?nr1_0
      case yr1_0 => (intro w_ hSw; obtain ⟨q0, q1⟩ := hSw; go_simp; (try with_reducible rfl))
      try simp only [Act.put, List.setIfInBounds_toArray, List.set_cons_zero, List.set_cons_succ]
      refine wpAnyH_take (i := 1) (v := ?vr1_1) (Fr.take_at rfl) (by kernel_rfl) (by kernel_rfl) (by kernel_rfl) (fun _ _ _ h => h) (Or.inl ⟨by rfl, ?yr1_1⟩) (by assumption) ?nr1_1
      case yr1_1 => (intro w_ hSw; obtain ⟨q0, q1⟩ := hSw; go_simp; (try with_reducible rfl))
      try simp only [Act.put, List.setIfInBounds_toArray, List.set_cons_zero, List.set_cons_succ]
      refine wpAnyH_take (i := 2) (v := ?vr1_2) (Fr.take_at rfl) (by kernel_rfl) (by kernel_rfl) (by kernel_rfl) (fun _ _ _ h => h) (Or.inl ⟨by rfl, ?yr1_2⟩) (by assumption) ?nr1_2
      case yr1_2 => (intro w_ hSw; obtain ⟨q0, q1⟩ := hSw; go_simp; (try with_reducible rfl))
      try simp only [Act.put, List.setIfInBounds_toArray, List.set_cons_zero, List.set_cons_succ]
      refine wpAnyH_take (i := 3) (v := ?vr1_3) (Fr.take_at rfl) (by kernel_rfl) (by kernel_rfl) (by kernel_rfl) (fun _ _ _ h => h) (Or.inl ⟨by rfl, ?yr1_3⟩) (by assumption) ?nr1_3
      case yr1_3 => (intro w_ hSw; obtain ⟨q0, q1⟩ := hSw; go_simp; (try with_reducible rfl))
      try simp only [Act.put, List.setIfInBounds_toArray, List.set_cons_zero, List.set_cons_succ]
      refine wpAnyH_take (i := 4) (v := ?vr1_4) (Fr.take_at rfl) (by kernel_rfl) (by kernel_rfl) (by kernel_rfl) (fun _ _ _ h => h) (Or.inl ⟨by rfl, ?yr1_4⟩) (by assumption) ?nr1_4
      case yr1_4 => (intro w_ hSw; obtain ⟨q0, q1⟩ := hSw; go_simp; (try with_reducible rfl))
      try simp only [Act.put, List.setIfInBounds_toArray, List.set_cons_zero, List.set_cons_succ]
      refine wpAnyH_take (i := 5) (v := ?vr1_5) (Fr.take_at rfl) (by kernel_rfl) (by kernel_rfl) (by kernel_rfl) (fun _ _ _ h => h) (Or.inl ⟨by rfl, ?yr1_5⟩) (by assumption) ?nr1_5
      case yr1_5 => (intro w_ hSw; obtain ⟨q0, q1⟩ := hSw; go_simp; (try with_reducible rfl))
      try simp only [Act.put, List.setIfInBounds_toArray, List.set_cons_zero, List.set_cons_succ]
      refine wpAnyH_take (i := 6) (v := ?vr1_6) (Fr.take_at rfl) (by kernel_rfl) (by kernel_rfl) (by kernel_rfl) (fun _ _ _ h => h) (Or.inl ⟨by rfl, ?yr1_6⟩) (by assumption) ?nr1_6
      case yr1_6 => (intro w_ hSw; obtain ⟨q0, q1⟩ := hSw; go_simp; (try with_reducible rfl))
      try simp only [Act.put, List.setIfInBounds_toArray, List.set_cons_zero, List.set_cons_succ]
      refine wpAnyH_take (i := 7) (v := ?vr1_7) (Fr.take_at rfl) (by kernel_rfl) (by kernel_rfl) (by kernel_rfl) (fun _ _ _ h => h) (Or.inl ⟨by rfl, ?yr1_7⟩) (by assumption) ?nr1_7
      case yr1_7 => (intro w_ hSw; obtain ⟨q0, q1⟩ := hSw; go_simp; (try with_reducible rfl))
      try simp only [Act.put, List.setIfInBounds_toArray, List.set_cons_zero, List.set_cons_succ]
      refine wpAnyH_take (i := 8) (v := ?vr1_8) (Fr.take_at rfl) (by kernel_rfl) (by kernel_rfl) (by kernel_rfl) (fun _ _ _ h => h) (Or.inl ⟨by rfl, ?yr1_8⟩) (by assumption) ?nr1_8
      case yr1_8 => (intro w_ hSw; obtain ⟨q0, q1⟩ := hSw; go_simp; (try with_reducible rfl))
      try simp only [Act.put, List.setIfInBounds_toArray, List.set_cons_zero, List.set_cons_succ]
      refine wpAnyH_take (i := 9) (v := ?vr1_9) (Fr.take_at rfl) (by kernel_rfl) (by kernel_rfl) (by kernel_rfl) (fun _ _ _ h => h) (Or.inl ⟨by rfl, ?yr1_9⟩) (by assumption) ?nr1_9
      case yr1_9 => (intro w_ hSw; obtain ⟨q0, q1⟩ := hSw; go_simp; (try with_reducible rfl))
      try simp only [Act.put, List.setIfInBounds_toArray, List.set_cons_zero, List.set_cons_succ]
      refine wpAnyH_done (by kernel_rfl) ?_ _
      dsimp only [Bl.OnlyNormal]
      clear hwa hwr e1 e2 e3 hbit eN k1 k2 k3 hc'
      cases t
      · simp only [Bool.not_false]
        gi_wp2
        exact ⟨(KeepsOthers.drew _).trans (KeepsOthers.setCell _ _ _), ⟨rfl, ⟨p, hp8⟩, by simp, HT.out.symm⟩, (May.drew HI.out).set false⟩
      · simp only [Bool.not_true]
        gi_wp2
        exact ⟨KeepsOthers.drew _, rfl, ⟨fun x hx => by
          rcases List.mem_append.1 hx with hx | hx
          · exact HPr.out x hx
          · rw [List.mem_singleton] at hx; subst hx; exact HT.out.symm, May.drew HI.out⟩⟩
    case done =>
      rintro D ys W hD hys ⟨hp, hI⟩ hK
      have c1 := hI.res.cell 0
      have f1 := hI.res.frozen 0
      have HI := Lib.hid hI
      simp only [List.getElem?_toArray, List.getElem?_cons_zero] at c1
      gi_wp2
      have hK' := (KeepsOthers.setCell W ⟨w.heap.size + 1, 0, none⟩ (.bool true)).same D _ hK rfl
      have hI2 := HI.out.set true
      refine ⟨by simp, .inl ⟨_, _, rfl, run_takeDeferred hK', ?_⟩⟩
      have hc5 := (blk_put hI2.res hK' (.deferred none)).cell 0
      simp only [List.getElem?_toArray, List.getElem?_cons_zero] at hc5
      refine ⟨.bool true, by simp [results, Tryd.f50, go_sem, hc5], ?_, hI2.bel.trans (belowK_b (w := w) (Nat.le_refl _) _ D _ _ (by simp at hD; omega) hK' rfl rfl)⟩
      rw [← hys]
      congr 2
      rw [eq_comm, List.all_eq_true]
      intro x hx
      obtain ⟨y, hy, rfl⟩ := List.mem_map.1 hx
      exact hp y hy
    case stop =>
      rintro D c' pre W hD hpre ⟨⟨rfl, x, hx, hxb⟩, hI⟩ hK
      have HI := Lib.hid hI
      clear hI
      gi_wp2
      refine ⟨by simp, .inl ⟨_, _, rfl, run_takeDeferred hK, ?_⟩⟩
      have hc5 := (blk_put HI.out.res hK (.deferred none)).cell 0
      simp only [List.getElem?_toArray, List.getElem?_cons_zero] at hc5
      refine ⟨.bool false, by simp [results, Tryd.f50, go_sem, hc5], ?_, HI.out.bel.trans (belowK_b (w := w) (Nat.le_refl _) _ D _ _ (by simp at hD; omega) hK rfl rfl)⟩
      congr 2
      rw [eq_comm, List.all_eq_false]
      exact ⟨x.1, hpre.subset (List.mem_map.2 ⟨x, hx, rfl⟩), by rw [hxb]; decide⟩
end
end Bl
end Go.Proofs.YtadlhnjnhllpfaaDoor
