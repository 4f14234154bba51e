/-
  WHAT IS PROVED: (1) places' iterator yields the places of a key, in their order, to whatever body keeps what lay when it began. CONDITIONS: its three boxes hold the key, how many and among how many.
-/
import Derived.Test.YtadlhnjnhllpfaaDoorQBHash
import Derived.Test.YtadlhnjnhllpfaaDoorQMCmp
import Derived.RangeFuncNested
import Derived.RangeFuncBound
import Derived.RangeFuncCalls
import Derived.RangeFuncLeaves
import Derived.RangeFuncBox
import Derived.Shelf.Abstract
import Derived.Shelf.RegionOpen
import Derived.OwnWalkIn
import Derived.TacticsInMore
import Derived.LoopNIn
import Derived.LoopIn
namespace Go.Proofs.YtadlhnjnhllpfaaDoor
open Go Go.RowKit Go.Shelf
attribute [local go_sem] Oper.semAt_some
namespace Bl
open Go.Proofs.YtadlhnjnhllpfaaDoor.Fr
section
variable {s : ByteArray} {k n l B1 B2 B3 : Nat} {w : World}
set_option maxRecDepth 100000 in
theorem places_in (d : Nat) (W : World) (s : ByteArray) (k n : Int) : CallsIn Fence.wide d Tryd.prog 70 #[.string s, .int .i64 k, .int .i64 n] W fun e w' => e = .returned (.func (.func 82) #[] #[.pointer (some ⟨W.heap.size, 0, none⟩), .pointer (some ⟨W.heap.size + 1, 0, none⟩), .pointer (some ⟨W.heap.size + 1 + 1, 0, none⟩)]) ∧ w' = ((W.alloc (.cells #[.string s] 9)).alloc (.cells #[.int .i64 k] 3)).alloc (.cells #[.int .i64 n] 3) := by
  refine callsIn_of_wp Tryd.func70 rfl trivial ?_ rfl
  simp only [Tryd.ntmps70, List.size_toArray, List.length_cons, List.length_nil, Nat.reduceAdd, Nat.reduceSub, Array.replicate_succ, Array.replicate_zero, List.push_toArray, List.append_toArray, List.nil_append, List.cons_append]
  gi_wp2
  go_ret
  exact ⟨rfl, rfl⟩
theorem rem_spot (h n : Nat) : (h : Int) % (n : Int) = ((h % n : Nat) : Int) := by omega
theorem add_spot (h t : Nat) : ((h : Int) + (t : Int)) % 4294967296 = (((h + t) % 4294967296 : Nat) : Int) := by omega
theorem places_prefix (key : Bs) (n : Nat) {i k : Nat} (h : i < k) : places key n i ++ [spot (fnv key) i % n] <+: places key n k := by
  rw [← places_succ]
  obtain ⟨d, rfl⟩ : ∃ d, k = i + 1 + d := ⟨k - (i + 1), by omega⟩
  refine ⟨(List.range d).map fun j => spot (fnv key) (i + 1 + j) % n, ?_⟩
  simp only [places]
  have e : List.range (i + 1 + d) = List.range (i + 1) ++ (List.range d).map fun x => i + 1 + x := List.range_add
  rw [e, List.map_append, List.map_map]
  rfl
theorem blk_kept {W W' : World} {row : Option Nat} {g : Nat} {t : TypeId} {cs : Array Value} (h : Mm.Blk W g t cs) (hg : W.grownBy W' row) (hr : ∀ r, row = some r → ∃ o : Obj, W.heap[r]? = some o ∧ o.isCells = false) : Mm.Blk W' g t cs := by
  refine h.same (hg.block _ h.lt fun e => ?_)
  obtain ⟨o, ho, hc⟩ := hr _ e.symm
  rw [show W.heap[g]? = _ from h] at ho
  cases ho
  cases hc
theorem blk_put {W : World} {D g : Nat} {ds : Option (List Deferred)} {t : TypeId} {cs : Array Value} (h : Mm.Blk W g t cs) (hK : W.heap[D]? = some (.deferred ds)) (o : Obj) : Mm.Blk (W.putObj D o) g t cs :=
  blk_kept h (grownBy_putObj' _ D o) fun r e => by cases e; exact ⟨_, hK, rfl⟩
/-- What a round must keep: one box. -/
def KpB (B : Nat) (W W' : World) : Prop := W'.cell? ⟨B, 0, none⟩ = W.cell? ⟨B, 0, none⟩
theorem kpB_t {B : Nat} {X Y Z : World} (h : KpB B X Y) (k : KpB B Y Z) : KpB B X Z := Eq.trans k h
theorem kpB_b {B : Nat} {w : World} (hB : B < w.heap.size) (W : World) (l : Nat) (o o' : Obj) (hl : w.heap.size ≤ l) (_ : W.heap[l]? = some o) (_ : o.isCells = false) (_ : o.isWalk = false) : KpB B W (W.putObj l o') := by
  unfold KpB World.cell?
  dsimp only
  rw [World.putObj_heap_other (show B ≠ l by omega)]
theorem kpB_below {B : Nat} {W W' : World} {n : Nat} (h : Below n W W') (hB : B < n) : KpB B W W' := h.cell (p := ⟨B, 0, none⟩) hB
set_option maxRecDepth 100000 in
set_option maxHeartbeats 1000000 in
/-- places' iterator. -/
theorem plc1_in (d : Nat) (hd : 1 ≤ d) (J Jx : List (Fin n) → World → Prop) (W : World)
    (hY : ∀ pre x W, J pre W → pre.length < k → YieldAt Fence.wide (d - 1) Tryd.prog l #[.int .i64 ((x.1 : Nat) : Int)] W fun e W' => (e = .returned (.bool true) ∧ J (pre ++ [x]) W' ∧ KpB B3 W W') ∨ (e = .returned (.bool false) ∧ Jx (pre ++ [x]) W'))
    (hb : Below w.heap.size w W) (hs : s.size ≤ maxLen) (hk : k ≤ 1000) (hn : 0 < n) (hn2 : n < 4294967296) (hB1 : B1 < w.heap.size) (hB2 : B2 < w.heap.size) (hB3 : B3 < w.heap.size)
    (hc1 : w.cell? ⟨B1, 0, none⟩ = some (.string s)) (hc2 : w.cell? ⟨B2, 0, none⟩ = some (.int .i64 (k : Int))) (hc3 : w.cell? ⟨B3, 0, none⟩ = some (.int .i64 (n : Int))) (h0 : J [] W) :
    CallsIn Fence.wide d Tryd.prog 82 #[.func (.yield l) #[] #[], .pointer (some ⟨B1, 0, none⟩), .pointer (some ⟨B2, 0, none⟩), .pointer (some ⟨B3, 0, none⟩)] W fun e W' => (∃ v, e = .returned v) ∧ ((∃ ys : List (Fin n), ys.map (·.1) = places s.toList n k ∧ J ys W') ∨ (∃ pre : List (Fin n), pre.map (·.1) <+: places s.toList n k ∧ Jx pre W')) := by
  have hH := fun W => hash_any s hs W
  have hlt := fnv_lt s.toList
  obtain ⟨h, hh⟩ : ∃ h, h = fnv s.toList := ⟨_, rfl⟩
  rw [← hh] at hH hlt
  have hR := fun W => rot_any h hlt W
  have htl := turn_lt hlt
  have hsp0 := spot_zero hlt
  have hss := spot_succ h
  have hsl := spot_lt h
  obtain ⟨t, ht⟩ : ∃ t, t = turn h := ⟨_, rfl⟩
  rw [← ht] at hR htl hss
  have HH := Lib.hid hH
  have HR := Lib.hid hR
  have HEQ := Lib.hid hh
  have HS := Lib.hid hss
  have H0 := Lib.hid hsp0
  clear hH hR hh hss hsp0 ht
  have hx1 : W.cell? ⟨B1, 0, none⟩ = some (.string s) := (hb.cell (p := ⟨B1, 0, none⟩) hB1).trans hc1
  have hx2 : W.cell? ⟨B2, 0, none⟩ = some (.int .i64 (k : Int)) := (hb.cell (p := ⟨B2, 0, none⟩) hB2).trans hc2
  have hx3 : W.cell? ⟨B3, 0, none⟩ = some (.int .i64 (n : Int)) := (hb.cell (p := ⟨B3, 0, none⟩) hB3).trans hc3
  have hf1 : Fence.wide.fn 83 := trivial
  have hf2 : Fence.wide.fn 84 := trivial
  refine callsIn_of_wp Tryd.func82 rfl trivial ?_ rfl
  simp only [Tryd.ntmps82, List.size_toArray, List.length_cons, List.length_nil, Nat.reduceAdd, Nat.reduceSub, Array.replicate_succ, Array.replicate_zero, List.push_toArray, List.append_toArray, List.nil_append, List.cons_append]
  gi_wp2_with (first
    | (gi_at_call 83; refine (callsIn_wide.2 (HH.out W)).mono ?_; rintro e W1 ⟨rfl, rfl⟩)
    | (gi_at_call 84; refine (callsIn_wide.2 (HR.out W)).mono ?_; rintro e W1 ⟨rfl, rfl⟩))
  gi_loopw [5, 12] (fun q p wr => ∃ (i S : Nat) (pre : List (Fin n)), i ≤ k ∧ p = .int .i64 (i : Int) ∧ q = .int .u32 (S : Int) ∧ S < 4294967296 ∧ Hid (S = spot h i) ∧ Hid (pre.map (·.1) = places s.toList n i) ∧ pre.length = i ∧ wr.cell? ⟨B3, 0, none⟩ = some (.int .i64 (n : Int)) ∧ J pre wr) (fun _ p _ => k - (intOf p).toNat)
  case atStart => exact ⟨0, h, [], by omega, rfl, rfl, hlt, Lib.hid H0.out.symm, Lib.hid rfl, rfl, hx3, h0⟩
  case round =>
    obtain ⟨i, S, pre, hi, rfl, rfl, hS, HSi, HP, hpl, hn3, hJs⟩ := hrel
    by_cases hlt' : i < k
    · obtain ⟨y, hyn, hye⟩ : ∃ y, y < n ∧ y = S % n := ⟨_, Nat.mod_lt _ hn, rfl⟩
      have hrem := rem_spot S n
      rw [← hye] at hrem
      have HY := Lib.hid hye
      clear hye
      obtain ⟨fn, tmps, assign, body, hy, hRd⟩ := hY pre ⟨y, hyn⟩ wr hJs (by omega)
      dsimp only at hy
      have k1 : (i : Int) < (k : Int) := by omega
      have hnp : ((n : Int) == 0) = false := by rw [beq_eq_false_iff_ne]; omega
      gi_wp2
      refine hRd.mono ?_
      rintro e W3 (⟨rfl, hJ3, hk3⟩ | ⟨rfl, hJx3⟩)
      · gi_wp2
        go_roundw
        case rel => exact ⟨i + 1, (S + t) % 4294967296, pre ++ [⟨y, hyn⟩], by omega, rfl, by rw [add_spot], Nat.mod_lt _ (by decide), Lib.hid (by rw [HS.out, ← HSi.out]), Lib.hid (by rw [places_succ, List.map_append, HP.out, ← HEQ.out, ← HSi.out, ← HY.out]; rfl), by simp [hpl], hk3.trans hn3, hJ3⟩
        case measure => simp [intOf]; omega
      · gi_wp2
        refine bodyPost_ret (results_none rfl _ _ _) rfl ?_
        exact ⟨⟨_, rfl⟩, .inr ⟨pre ++ [⟨y, hyn⟩], by rw [List.map_append, HP.out]; show _ ++ [y] <+: _; rw [HY.out, HSi.out, HEQ.out]; exact places_prefix _ _ hlt', hJx3⟩⟩
    · obtain rfl : i = k := by omega
      gi_wp2
      go_end0
      exact ⟨⟨_, rfl⟩, .inl ⟨pre, HP.out, hJs⟩⟩
theorem plc_stops (d : Nat) (hd : 1 ≤ d) (hs : s.size ≤ maxLen) (hk : k ≤ 1000) (hn : 0 < n) (hn2 : n < 4294967296) (hB1 : B1 < w.heap.size) (hB2 : B2 < w.heap.size) (hB3 : B3 < w.heap.size)
    (hc1 : w.cell? ⟨B1, 0, none⟩ = some (.string s)) (hc2 : w.cell? ⟨B2, 0, none⟩ = some (.int .i64 (k : Int))) (hc3 : w.cell? ⟨B3, 0, none⟩ = some (.int .i64 (n : Int))) :
    SeqStopsK Fence.wide d Tryd.prog 82 #[.pointer (some ⟨B1, 0, none⟩), .pointer (some ⟨B2, 0, none⟩), .pointer (some ⟨B3, 0, none⟩)] (fun x : Fin n => #[.int .i64 ((x.1 : Nat) : Int)]) (KpB B3) (fun ys => ys.map (·.1) = places s.toList n k) (fun pre => pre.map (·.1) <+: places s.toList n k) k w := fun _ J Jx W hW _ _ hY h0 =>
  plc1_in d hd J Jx W hY hW hs hk hn hn2 hB1 hB2 hB3 hc1 hc2 hc3 h0
end
end Bl
end Go.Proofs.YtadlhnjnhllpfaaDoor
