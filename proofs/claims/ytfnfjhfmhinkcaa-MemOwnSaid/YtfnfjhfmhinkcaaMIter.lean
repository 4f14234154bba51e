/-
  WHAT IS PROVED: From's iterator yields the entries from a key on that were there when it was asked for, in their order, to whatever body leaves the table's nodes as they are. CONDITIONS: the nodes and its two boxes stand in memory as named.
-/
import Derived.Test.YtfnfjhfmhinkcaaMFrom
import Derived.RangeFuncNested
import Derived.RangeFuncBound
import Derived.RangeFuncCalls
import Derived.RangeFuncLeaves
import Derived.RangeFuncBox
import Derived.Shelf.Abstract
import Derived.Shelf.RegionOpen
import Derived.OwnWalkIn
import Derived.TacticsInMore
import Derived.LoopNIn
import Derived.LoopIn
namespace Go.Proofs.Ytfnfjhfmhinkcaa
open Go Go.RowKit Go.Shelf Go.Maps Go.Sort Go.Proofs.Ytfnfjhfmhinkcaa.Fr
namespace Mm
/-- What a round must keep: the blocks of S. -/
def KpS (S : Nat → Prop) (W W' : World) : Prop := ∀ b, S b → W'.heap[b]? = W.heap[b]?
theorem kpS_t {S : Nat → Prop} {X Y Z : World} (h : KpS S X Y) (k : KpS S Y Z) : KpS S X Z := fun b hb => (k b hb).trans (h b hb)
theorem kpS_b {S : Nat → Prop} {w : World} (hS : ∀ b, S b → b < w.heap.size) (W : World) (l : Nat) (o o' : Obj) (hl : w.heap.size ≤ l) (_ : W.heap[l]? = some o) (_ : o.isCells = false) (_ : o.isWalk = false) : KpS S W (W.putObj l o') := fun b hb => by
  have := hS b hb
  exact World.putObj_heap_other (show b ≠ l by omega)
/-- The entries that were there. -/
def olds (ns : List Nd) (cnt : Int) : List En := (ns.filter fun n => decide ((n.older : Int) < cnt)).map (·.e)
def yv (e : En) : Array Value := #[.agg #[.string e.key, .int .i64 e.seq, .bool e.del, .string e.val]]
/-- The blocks that the iterator reads. -/
def FrS (b1 b2 : Nat) (ns : List Nd) (k : Nat) : Prop := k = b1 ∨ k = b2 ∨ ∃ n ∈ ns, k = n.blk
structure FrAt (W : World) (b1 b2 : Nat) (ns : List Nd) (cnt : Int) : Prop where
  one : Blk W b1 49 #[ptr (ns.head?.map (·.blk))]
  two : Blk W b2 3 #[.int .i64 cnt]
  chain : Chain W ns
theorem FrAt.same {W W' : World} {b1 b2 : Nat} {ns : List Nd} {cnt : Int} (h : FrAt W b1 b2 ns cnt) (hk : KpS (FrS b1 b2 ns) W W') : FrAt W' b1 b2 ns cnt :=
  ⟨h.one.same (hk _ (.inl rfl)), h.two.same (hk _ (.inr (.inl rfl))), h.chain.same fun n hn => hk _ (.inr (.inr ⟨n, hn, rfl⟩))⟩
theorem FrAt.drew {W : World} {b1 b2 : Nat} {ns : List Nd} {cnt : Int} (h : FrAt W b1 b2 ns cnt) : FrAt W.drew b1 b2 ns cnt := h.same fun _ _ => rfl
theorem FrAt.lt {W : World} {b1 b2 : Nat} {ns : List Nd} {cnt : Int} (h : FrAt W b1 b2 ns cnt) : ∀ b, FrS b1 b2 ns b → b < W.heap.size := fun b hb => by
  rcases hb with rfl | rfl | ⟨n, hn, rfl⟩
  · exact h.one.lt
  · exact h.two.lt
  · exact h.chain.lt n hn
theorem FrAt.below {W W' : World} {b1 b2 : Nat} {ns : List Nd} {cnt : Int} (h : FrAt W b1 b2 ns cnt) (hb : Below W.heap.size W W') : FrAt W' b1 b2 ns cnt := h.same fun b hS => hb.block b (h.lt b hS)
theorem ptr_cases (o : Option Nat) : ∃ p, ptr o = .pointer p := by cases o <;> exact ⟨_, rfl⟩
theorem olds_yes {n : Nd} {r : List Nd} {cnt : Int} (h : (n.older : Int) < cnt) : olds (n :: r) cnt = n.e :: olds r cnt := by simp [olds, h]
theorem olds_no {n : Nd} {r : List Nd} {cnt : Int} (h : ¬ (n.older : Int) < cnt) : olds (n :: r) cnt = olds r cnt := by simp [olds, h]
/-- How many nodes are left from this block on. -/
def blkOf : Value → Option Nat
  | .pointer (some a) => some a.block
  | _ => none
def leftAt : List Nd → Option Nat → Nat
  | [], _ => 0
  | n :: r, k => if k = some n.blk then r.length + 1 else leftAt r k
theorem leftAt_none : ∀ ns : List Nd, leftAt ns none = 0
  | [] => rfl
  | n :: r => by rw [leftAt, if_neg (by simp)]; exact leftAt_none r
theorem leftAt_mid : ∀ (a : List Nd) (n : Nd) (r : List Nd), ((a ++ n :: r).map (·.blk)).Nodup → leftAt (a ++ n :: r) (some n.blk) = r.length + 1
  | [], n, r, _ => by rw [List.nil_append, leftAt, if_pos rfl]
  | m :: a, n, r, h => by
    rw [List.cons_append, List.map_cons, List.nodup_cons] at h
    rw [List.cons_append, leftAt, if_neg (fun e => h.1 (by rw [← Option.some.inj e]; simp))]
    exact leftAt_mid a n r h.2
theorem leftAt_ptr {a b : List Nd} {q : Option Addr} (h : ((a ++ b).map (·.blk)).Nodup) (hq : ptr (b.head?.map (·.blk)) = .pointer q) : leftAt (a ++ b) (blkOf (.pointer q)) = b.length := by
  cases b with
  | nil =>
    obtain rfl : q = none := by simpa [ptr, eq_comm] using hq
    exact leftAt_none _
  | cons n r =>
    obtain rfl : q = some ⟨n.blk, 0, none⟩ := by simpa [ptr, eq_comm] using hq
    exact leftAt_mid a n r h
theorem yield_bool {e : Ending} {A B : Prop} (h : (e = .returned (.bool true) ∧ A) ∨ (e = .returned (.bool false) ∧ B)) : ∃ r, e = .returned (.bool r) ∧ ((r = true ∧ A) ∨ (r = false ∧ B)) := by
  rcases h with ⟨rfl, h⟩ | ⟨rfl, h⟩
  · exact ⟨true, rfl, .inl ⟨rfl, h⟩⟩
  · exact ⟨false, rfl, .inr ⟨rfl, h⟩⟩
theorem olds_snoc (a : List Nd) (n : Nd) (cnt : Int) : olds (a ++ [n]) cnt = olds a cnt ++ (if (n.older : Int) < cnt then [n.e] else []) := by
  by_cases h : (n.older : Int) < cnt <;> simp [olds, h]
theorem olds_len (a : List Nd) (cnt : Int) : (olds a cnt).length ≤ a.length := by
  unfold olds
  rw [List.length_map]
  exact List.length_filter_le _ _
theorem olds_prefix {a : List Nd} {n : Nd} {r : List Nd} {cnt : Int} (h : (n.older : Int) < cnt) : olds a cnt ++ [n.e] <+: olds (a ++ n :: r) cnt := ⟨olds r cnt, by simp [olds, h]⟩
section
variable {w : World} {b1 b2 l : Nat} {ns : List Nd} {cnt : Int}
set_option maxRecDepth 100000 in
set_option maxHeartbeats 2000000 in
theorem fr1_in (d : Nat) (hd : 1 ≤ d) (hnd : (ns.map (·.blk)).Nodup) (hgood : Good ns) (J Jx : List En → World → Prop) (W : World)
    (hY : ∀ pre x W, J pre W → pre.length < ns.length → YieldAt Fence.wide (d - 1) Try.prog l (yv x) W fun e W' => (e = .returned (.bool true) ∧ J (pre ++ [x]) W' ∧ KpS (FrS b1 b2 ns) W W') ∨ (e = .returned (.bool false) ∧ Jx (pre ++ [x]) W'))
    (hJd : ∀ pre W, J pre W → J pre W.drew) (hF : FrAt W b1 b2 ns cnt) (h0 : J [] W) :
    CallsIn Fence.wide d Try.prog 20 #[.func (.yield l) #[] #[], .pointer (some ⟨b1, 0, none⟩), .pointer (some ⟨b2, 0, none⟩)] W fun e W' => (∃ v, e = .returned v) ∧ ((∃ ys, ys = olds ns cnt ∧ J ys W') ∨ (∃ pre, pre <+: olds ns cnt ∧ Jx pre W')) := by
  obtain ⟨p0, hp0⟩ := ptr_cases (ns.head?.map (·.blk))
  have c1 := hF.one.cell 0
  rw [hp0] at c1
  simp only [List.getElem?_toArray, List.getElem?_cons_zero] at c1
  refine callsIn_of_wp Try.func20 rfl trivial ?_ rfl
  simp only [Try.ntmps20, List.size_toArray, List.length_cons, List.length_nil, Nat.reduceAdd, Nat.reduceSub, Array.replicate_succ, Array.replicate_zero, List.push_toArray, List.append_toArray, List.nil_append, List.cons_append]
  have HP0 := Lib.hid hp0
  clear hp0
  gi_wp2
  gi_loopw [4] (fun p wr => ∃ (pre : List En) (a b : List Nd) (q : Option Addr), p = .pointer q ∧ ptr (b.head?.map (·.blk)) = .pointer q ∧ ns = a ++ b ∧ pre = olds a cnt ∧ Hid (FrAt wr b1 b2 ns cnt) ∧ Hid (J pre wr)) (fun p _ => leftAt ns (blkOf p))
  case atStart => exact ⟨[], [], ns, p0, rfl, HP0.out, rfl, rfl, Lib.hid hF, Lib.hid h0⟩
  case round =>
    obtain ⟨pre, a, b, q, rfl, hq, hns, hpre, HF, HJ⟩ := hrel
    cases b with
    | nil =>
      obtain rfl : q = none := by simpa [ptr, eq_comm] using hq
      gi_wp2
      go_end0
      exact ⟨⟨_, rfl⟩, .inl ⟨_, rfl, by rw [hns, List.append_nil, ← hpre]; exact HJ.out⟩⟩
    | cons n r =>
      obtain rfl : q = some ⟨n.blk, 0, none⟩ := by simpa [ptr, eq_comm] using hq
      obtain ⟨cs, hn⟩ := Chain.at_ (a := a) (n := n) (r := r) (by have := HF.out.chain; rwa [hns] at this)
      have c4 := (hn.blk.cell 4).trans hn.c4
      have c2 := HF.out.two.cell 0
      obtain ⟨q0, q1, q2, q3⟩ := nodeCells hn
      simp only [List.getElem?_toArray, List.getElem?_cons_zero] at c2
      by_cases hold : (n.older : Int) < cnt
      · have hlen : pre.length < ns.length := by
          have := olds_len a cnt
          rw [hpre, hns, List.length_append, List.length_cons]
          omega
        obtain ⟨fn, tmps, assign, body, hy, hRd⟩ := hY pre n.e wr.drew (hJd _ _ HJ.out) hlen
        dsimp only [yv] at hy
        clear hn
        gi_wp2
        refine wpIn_region_any (by kernel_rfl) ?_
        change wpAnyIn _ _ _ _ _ _ _ _ _ (World.drew _)
        refine wpAnyIn_take (i := 0) (v := ?vr1x_0) rfl (Fr.take_at rfl) (by kernel_rfl) (by kernel_rfl) (by kernel_rfl) (fun _ _ _ h => h) ⟨Or.inl ⟨by rfl, ?yr1x_0⟩, fun _ => rfl⟩ ?nr1x_0
        case yr1x_0 => (intro w_; go_simp; (try with_reducible rfl))
        try simp only [Act.put, List.setIfInBounds_toArray, List.set_cons_zero, List.set_cons_succ]
        refine wpAnyIn_take (i := 1) (v := ?vr1x_1) rfl (Fr.take_at rfl) (by kernel_rfl) (by kernel_rfl) (by kernel_rfl) (fun _ _ _ h => h) ⟨Or.inl ⟨by rfl, ?yr1x_1⟩, fun _ => rfl⟩ ?nr1x_1
        case yr1x_1 => (intro w_; go_simp; (try with_reducible rfl))
        try simp only [Act.put, List.setIfInBounds_toArray, List.set_cons_zero, List.set_cons_succ]
        refine wpAnyIn_take (i := 2) (v := ?vr1x_2) rfl (Fr.take_at rfl) (by kernel_rfl) (by kernel_rfl) (by kernel_rfl) (fun _ _ _ h => h) ⟨Or.inl ⟨by rfl, ?yr1x_2⟩, fun _ => rfl⟩ ?nr1x_2
        case yr1x_2 => (intro w_; go_simp; (try with_reducible rfl))
        try simp only [Act.put, List.setIfInBounds_toArray, List.set_cons_zero, List.set_cons_succ]
        refine wpAnyIn_ready (rs := [3, 4]) (by kernel_rfl) (by simp) ?_
        refine AllReadyIn.cons (Fr.take_at rfl) (fun K hK => ?_) (AllReadyIn.cons (Fr.take_at rfl) (fun K hK => ?_) AllReadyIn.nil)
        go_simp
        refine hK _ _ ?_
        clear hK K
        try simp only [Act.put, List.setIfInBounds_toArray, List.set_cons_zero, List.set_cons_succ]
        refine wpAnyIn_ready (rs := [4]) (by kernel_rfl) (by simp) ?_
        refine AllReadyIn.cons (Fr.take_at rfl) (fun K hK => ?_) AllReadyIn.nil
        go_simp
        refine hK _ _ ?_
        clear hK K
        try simp only [Act.put, List.setIfInBounds_toArray, List.set_cons_zero, List.set_cons_succ]
        refine wpAnyIn_take (i := 5) (v := ?vr1a_5) rfl (Fr.take_at rfl) (by kernel_rfl) (by kernel_rfl) (by kernel_rfl) (fun _ _ _ h => h) ⟨Or.inl ⟨by rfl, ?yr1a_5⟩, fun _ => rfl⟩ ?nr1a_5
        case yr1a_5 => (intro w_; go_simp; (try with_reducible rfl))
        try simp only [Act.put, List.setIfInBounds_toArray, List.set_cons_zero, List.set_cons_succ]
        refine wpAnyIn_take (i := 6) (v := ?vr1a_6) rfl (Fr.take_at rfl) (by kernel_rfl) (by kernel_rfl) (by kernel_rfl) (fun _ _ _ h => h) ⟨Or.inl ⟨by rfl, ?yr1a_6⟩, fun _ => rfl⟩ ?nr1a_6
        case yr1a_6 => (intro w_; go_simp; (try with_reducible rfl))
        try simp only [Act.put, List.setIfInBounds_toArray, List.set_cons_zero, List.set_cons_succ]
        refine wpAnyIn_take (i := 7) (v := ?vr1a_7) rfl (Fr.take_at rfl) (by kernel_rfl) (by kernel_rfl) (by kernel_rfl) (fun _ _ _ h => h) ⟨Or.inl ⟨by rfl, ?yr1a_7⟩, fun _ => rfl⟩ ?nr1a_7
        case yr1a_7 => (intro w_; go_simp; (try with_reducible rfl))
        try simp only [Act.put, List.setIfInBounds_toArray, List.set_cons_zero, List.set_cons_succ]
        refine wpAnyIn_take (i := 8) (v := ?vr1a_8) rfl (Fr.take_at rfl) (by kernel_rfl) (by kernel_rfl) (by kernel_rfl) (fun _ _ _ h => h) ⟨Or.inl ⟨by rfl, ?yr1a_8⟩, fun _ => rfl⟩ ?nr1a_8
        case yr1a_8 => (intro w_; go_simp; (try with_reducible rfl))
        try simp only [Act.put, List.setIfInBounds_toArray, List.set_cons_zero, List.set_cons_succ]
        refine wpAnyIn_take (i := 9) (v := ?vr1a_9) rfl (Fr.take_at rfl) (by kernel_rfl) (by kernel_rfl) (by kernel_rfl) (fun _ _ _ h => h) ⟨Or.inl ⟨by rfl, ?yr1a_9⟩, fun _ => rfl⟩ ?nr1a_9
        case yr1a_9 => (intro w_; go_simp; (try with_reducible rfl))
        try simp only [Act.put, List.setIfInBounds_toArray, List.set_cons_zero, List.set_cons_succ]
        refine wpAnyIn_take (i := 10) (v := ?vr1a_10) rfl (Fr.take_at rfl) (by kernel_rfl) (by kernel_rfl) (by kernel_rfl) (fun _ _ _ h => h) ⟨Or.inl ⟨by rfl, ?yr1a_10⟩, fun _ => rfl⟩ ?nr1a_10
        case yr1a_10 => (intro w_; go_simp; (try with_reducible rfl))
        try simp only [Act.put, List.setIfInBounds_toArray, List.set_cons_zero, List.set_cons_succ]
        refine wpAnyIn_ready (rs := [11]) (by kernel_rfl) (by simp) ?_
        refine AllReadyIn.cons (Fr.take_at rfl) (fun K hK => ?_) AllReadyIn.nil
        go_simp
        refine hK _ _ ?_
        clear hK K
        try simp only [Act.put, List.setIfInBounds_toArray, List.set_cons_zero, List.set_cons_succ]
        refine wpAnyIn_ready (rs := [12]) (by kernel_rfl) (by simp) ?_
        refine AllReadyIn.cons (Fr.take_at rfl) (fun K hK => ?_) AllReadyIn.nil
        go_simp
        (refine hRd.mono ?_; rintro e W3 hW3; obtain ⟨r0, rfl, hr⟩ := yield_bool hW3)
        refine hK _ _ ?_
        clear hK K
        try simp only [Act.put, List.setIfInBounds_toArray, List.set_cons_zero, List.set_cons_succ]
        refine wpAnyIn_take (i := 13) (v := ?vr1a_13) rfl (Fr.take_at rfl) (by kernel_rfl) (by kernel_rfl) (by kernel_rfl) (fun _ _ _ h => h) ⟨Or.inl ⟨by rfl, ?yr1a_13⟩, fun _ => rfl⟩ ?nr1a_13
        case yr1a_13 => (intro w_; go_simp; (try with_reducible rfl))
        try simp only [Act.put, List.setIfInBounds_toArray, List.set_cons_zero, List.set_cons_succ]
        refine wpAnyIn_take (i := 14) (v := ?vr1a_14) rfl (Fr.take_at rfl) (by kernel_rfl) (by kernel_rfl) (by kernel_rfl) (fun _ _ _ h => h) ⟨Or.inl ⟨by rfl, ?yr1a_14⟩, fun _ => rfl⟩ ?nr1a_14
        case yr1a_14 => (intro w_; go_simp; (try with_reducible rfl))
        try simp only [Act.put, List.setIfInBounds_toArray, List.set_cons_zero, List.set_cons_succ]
        refine wpAnyIn_done (by kernel_rfl) ?_ _
        rotate_left
        go_simp
        refine hK _ _ ?_
        clear hK K
        try simp only [Act.put, List.setIfInBounds_toArray, List.set_cons_zero, List.set_cons_succ]
        refine wpAnyIn_ready (rs := [3]) (by kernel_rfl) (by simp) ?_
        refine AllReadyIn.cons (Fr.take_at rfl) (fun K hK => ?_) AllReadyIn.nil
        go_simp
        refine hK _ _ ?_
        clear hK K
        try simp only [Act.put, List.setIfInBounds_toArray, List.set_cons_zero, List.set_cons_succ]
        refine wpAnyIn_take (i := 5) (v := ?vr1b_5) rfl (Fr.take_at rfl) (by kernel_rfl) (by kernel_rfl) (by kernel_rfl) (fun _ _ _ h => h) ⟨Or.inl ⟨by rfl, ?yr1b_5⟩, fun _ => rfl⟩ ?nr1b_5
        case yr1b_5 => (intro w_; go_simp; (try with_reducible rfl))
        try simp only [Act.put, List.setIfInBounds_toArray, List.set_cons_zero, List.set_cons_succ]
        refine wpAnyIn_take (i := 6) (v := ?vr1b_6) rfl (Fr.take_at rfl) (by kernel_rfl) (by kernel_rfl) (by kernel_rfl) (fun _ _ _ h => h) ⟨Or.inl ⟨by rfl, ?yr1b_6⟩, fun _ => rfl⟩ ?nr1b_6
        case yr1b_6 => (intro w_; go_simp; (try with_reducible rfl))
        try simp only [Act.put, List.setIfInBounds_toArray, List.set_cons_zero, List.set_cons_succ]
        refine wpAnyIn_take (i := 7) (v := ?vr1b_7) rfl (Fr.take_at rfl) (by kernel_rfl) (by kernel_rfl) (by kernel_rfl) (fun _ _ _ h => h) ⟨Or.inl ⟨by rfl, ?yr1b_7⟩, fun _ => rfl⟩ ?nr1b_7
        case yr1b_7 => (intro w_; go_simp; (try with_reducible rfl))
        try simp only [Act.put, List.setIfInBounds_toArray, List.set_cons_zero, List.set_cons_succ]
        refine wpAnyIn_take (i := 8) (v := ?vr1b_8) rfl (Fr.take_at rfl) (by kernel_rfl) (by kernel_rfl) (by kernel_rfl) (fun _ _ _ h => h) ⟨Or.inl ⟨by rfl, ?yr1b_8⟩, fun _ => rfl⟩ ?nr1b_8
        case yr1b_8 => (intro w_; go_simp; (try with_reducible rfl))
        try simp only [Act.put, List.setIfInBounds_toArray, List.set_cons_zero, List.set_cons_succ]
        refine wpAnyIn_take (i := 9) (v := ?vr1b_9) rfl (Fr.take_at rfl) (by kernel_rfl) (by kernel_rfl) (by kernel_rfl) (fun _ _ _ h => h) ⟨Or.inl ⟨by rfl, ?yr1b_9⟩, fun _ => rfl⟩ ?nr1b_9
        case yr1b_9 => (intro w_; go_simp; (try with_reducible rfl))
        try simp only [Act.put, List.setIfInBounds_toArray, List.set_cons_zero, List.set_cons_succ]
        refine wpAnyIn_take (i := 10) (v := ?vr1b_10) rfl (Fr.take_at rfl) (by kernel_rfl) (by kernel_rfl) (by kernel_rfl) (fun _ _ _ h => h) ⟨Or.inl ⟨by rfl, ?yr1b_10⟩, fun _ => rfl⟩ ?nr1b_10
        case yr1b_10 => (intro w_; go_simp; (try with_reducible rfl))
        try simp only [Act.put, List.setIfInBounds_toArray, List.set_cons_zero, List.set_cons_succ]
        refine wpAnyIn_ready (rs := [11]) (by kernel_rfl) (by simp) ?_
        refine AllReadyIn.cons (Fr.take_at rfl) (fun K hK => ?_) AllReadyIn.nil
        go_simp
        refine hK _ _ ?_
        clear hK K
        try simp only [Act.put, List.setIfInBounds_toArray, List.set_cons_zero, List.set_cons_succ]
        refine wpAnyIn_ready (rs := [12]) (by kernel_rfl) (by simp) ?_
        refine AllReadyIn.cons (Fr.take_at rfl) (fun K hK => ?_) AllReadyIn.nil
        go_simp
        (refine hRd.mono ?_; rintro e W3 hW3; obtain ⟨r0, rfl, hr⟩ := yield_bool hW3)
        refine hK _ _ ?_
        clear hK K
        try simp only [Act.put, List.setIfInBounds_toArray, List.set_cons_zero, List.set_cons_succ]
        refine wpAnyIn_take (i := 13) (v := ?vr1b_13) rfl (Fr.take_at rfl) (by kernel_rfl) (by kernel_rfl) (by kernel_rfl) (fun _ _ _ h => h) ⟨Or.inl ⟨by rfl, ?yr1b_13⟩, fun _ => rfl⟩ ?nr1b_13
        case yr1b_13 => (intro w_; go_simp; (try with_reducible rfl))
        try simp only [Act.put, List.setIfInBounds_toArray, List.set_cons_zero, List.set_cons_succ]
        refine wpAnyIn_take (i := 14) (v := ?vr1b_14) rfl (Fr.take_at rfl) (by kernel_rfl) (by kernel_rfl) (by kernel_rfl) (fun _ _ _ h => h) ⟨Or.inl ⟨by rfl, ?yr1b_14⟩, fun _ => rfl⟩ ?nr1b_14
        case yr1b_14 => (intro w_; go_simp; (try with_reducible rfl))
        try simp only [Act.put, List.setIfInBounds_toArray, List.set_cons_zero, List.set_cons_succ]
        refine wpAnyIn_done (by kernel_rfl) ?_ _
        · rcases hr with ⟨rfl, hJ3, hk3⟩ | ⟨rfl, hJx3⟩
          · simp only [Bool.not_true]
            have HF3 := Lib.hid ((HF.out.drew).same hk3)
            obtain ⟨cs3, hn3⟩ := Chain.at_ (a := a) (n := n) (r := r) (by have := HF3.out.chain; rwa [hns] at this)
            have c5 := (hn3.blk.cell 5).trans (hn3.next 0 (by have := (hgood n (by rw [hns]; simp)).1; omega))
            rw [nextAt_zero (fun x hx => hgood x (by rw [hns]; simp [hx]))] at c5
            obtain ⟨q3, hq3⟩ := ptr_cases (r.head?.map (·.blk))
            rw [hq3] at c5
            have HQ3 := Lib.hid hq3
            have HJ3 := Lib.hid hJ3
            clear hq3 hn3 hk3 hJ3
            gi_wp2
            go_roundw
            case rel => exact ⟨pre ++ [n.e], a ++ [n], r, q3, rfl, HQ3.out, by rw [hns]; simp, by rw [olds_snoc, if_pos hold, hpre], HF3, HJ3⟩
            case measure => rw [hns] at hnd ⊢; rw [leftAt_ptr hnd hq, show a ++ n :: r = (a ++ [n]) ++ r by simp, leftAt_ptr (by simpa using hnd) HQ3.out]; simp
          · simp only [Bool.not_false]
            gi_wp2
            refine bodyPost_ret (results_none rfl _ _ _) rfl ?_
            exact ⟨⟨_, rfl⟩, .inr ⟨pre ++ [n.e], by rw [hpre]; exact olds_prefix hold, hJx3⟩⟩
        · rcases hr with ⟨rfl, hJ3, hk3⟩ | ⟨rfl, hJx3⟩
          · simp only [Bool.not_true]
            have HF3 := Lib.hid ((HF.out.drew).same hk3)
            obtain ⟨cs3, hn3⟩ := Chain.at_ (a := a) (n := n) (r := r) (by have := HF3.out.chain; rwa [hns] at this)
            have c5 := (hn3.blk.cell 5).trans (hn3.next 0 (by have := (hgood n (by rw [hns]; simp)).1; omega))
            rw [nextAt_zero (fun x hx => hgood x (by rw [hns]; simp [hx]))] at c5
            obtain ⟨q3, hq3⟩ := ptr_cases (r.head?.map (·.blk))
            rw [hq3] at c5
            have HQ3 := Lib.hid hq3
            have HJ3 := Lib.hid hJ3
            clear hq3 hn3 hk3 hJ3
            gi_wp2
            go_roundw
            case rel => exact ⟨pre ++ [n.e], a ++ [n], r, q3, rfl, HQ3.out, by rw [hns]; simp, by rw [olds_snoc, if_pos hold, hpre], HF3, HJ3⟩
            case measure => rw [hns] at hnd ⊢; rw [leftAt_ptr hnd hq, show a ++ n :: r = (a ++ [n]) ++ r by simp, leftAt_ptr (by simpa using hnd) HQ3.out]; simp
          · simp only [Bool.not_false]
            gi_wp2
            refine bodyPost_ret (results_none rfl _ _ _) rfl ?_
            exact ⟨⟨_, rfl⟩, .inr ⟨pre ++ [n.e], by rw [hpre]; exact olds_prefix hold, hJx3⟩⟩
      · have hno : decide ((n.older : Int) < cnt) = false := decide_eq_false hold
        have c5 := (hn.blk.cell 5).trans (hn.next 0 (by have := (hgood n (by rw [hns]; simp)).1; omega))
        rw [nextAt_zero (fun x hx => hgood x (by rw [hns]; simp [hx]))] at c5
        obtain ⟨q3', hq3⟩ := ptr_cases (r.head?.map (·.blk))
        rw [hq3] at c5
        have HQ3 := Lib.hid hq3
        clear hn hq3
        gi_wp2
        refine wpIn_region_any (by kernel_rfl) ?_
        change wpAnyIn _ _ _ _ _ _ _ _ _ (World.drew _)
        refine wpAnyIn_take (i := 0) (v := ?vr2x_0) rfl (Fr.take_at rfl) (by kernel_rfl) (by kernel_rfl) (by kernel_rfl) (fun _ _ _ h => h) ⟨Or.inl ⟨by rfl, ?yr2x_0⟩, fun _ => rfl⟩ ?nr2x_0
        case yr2x_0 => (intro w_; go_simp; (try with_reducible rfl))
        try simp only [Act.put, List.setIfInBounds_toArray, List.set_cons_zero, List.set_cons_succ]
        refine wpAnyIn_take (i := 1) (v := ?vr2x_1) rfl (Fr.take_at rfl) (by kernel_rfl) (by kernel_rfl) (by kernel_rfl) (fun _ _ _ h => h) ⟨Or.inl ⟨by rfl, ?yr2x_1⟩, fun _ => rfl⟩ ?nr2x_1
        case yr2x_1 => (intro w_; go_simp; (try with_reducible rfl))
        try simp only [Act.put, List.setIfInBounds_toArray, List.set_cons_zero, List.set_cons_succ]
        refine wpAnyIn_take (i := 2) (v := ?vr2x_2) rfl (Fr.take_at rfl) (by kernel_rfl) (by kernel_rfl) (by kernel_rfl) (fun _ _ _ h => h) ⟨Or.inl ⟨by rfl, ?yr2x_2⟩, fun _ => rfl⟩ ?nr2x_2
        case yr2x_2 => (intro w_; go_simp; (try with_reducible rfl))
        try simp only [Act.put, List.setIfInBounds_toArray, List.set_cons_zero, List.set_cons_succ]
        refine wpAnyIn_ready (rs := [3, 4]) (by kernel_rfl) (by simp) ?_
        refine AllReadyIn.cons (Fr.take_at rfl) (fun K hK => ?_) (AllReadyIn.cons (Fr.take_at rfl) (fun K hK => ?_) AllReadyIn.nil)
        go_simp
        refine hK _ _ ?_
        clear hK K
        try simp only [Act.put, List.setIfInBounds_toArray, List.set_cons_zero, List.set_cons_succ]
        refine wpAnyIn_ready (rs := [4]) (by kernel_rfl) (by simp) ?_
        refine AllReadyIn.cons (Fr.take_at rfl) (fun K hK => ?_) AllReadyIn.nil
        go_simp
        refine hK _ _ ?_
        clear hK K
        try simp only [Act.put, List.setIfInBounds_toArray, List.set_cons_zero, List.set_cons_succ]
        refine wpAnyIn_take (i := 5) (v := ?vr2a_5) rfl (Fr.take_at rfl) (by kernel_rfl) (by kernel_rfl) (by kernel_rfl) (fun _ _ _ h => h) ⟨Or.inl ⟨by rfl, ?yr2a_5⟩, fun _ => rfl⟩ ?nr2a_5
        case yr2a_5 => (intro w_; go_simp; (try with_reducible rfl))
        try simp only [Act.put, List.setIfInBounds_toArray, List.set_cons_zero, List.set_cons_succ]
        refine wpAnyIn_take (i := 6) (v := ?vr2a_6) rfl (Fr.take_at rfl) (by kernel_rfl) (by kernel_rfl) (by kernel_rfl) (fun _ _ _ h => h) ⟨Or.inl ⟨by rfl, ?yr2a_6⟩, fun _ => rfl⟩ ?nr2a_6
        case yr2a_6 => (intro w_; go_simp; (try with_reducible rfl))
        try simp only [Act.put, List.setIfInBounds_toArray, List.set_cons_zero, List.set_cons_succ]
        refine wpAnyIn_take (i := 7) (v := undef) rfl (Fr.take_at rfl) (by kernel_rfl) (by kernel_rfl) (by kernel_rfl) (fun _ _ _ h => h) ⟨Or.inr ⟨by rfl, rfl⟩, fun _ => rfl⟩ ?_
        try simp only [Act.put, List.setIfInBounds_toArray, List.set_cons_zero, List.set_cons_succ]
        refine wpAnyIn_take (i := 8) (v := undef) rfl (Fr.take_at rfl) (by kernel_rfl) (by kernel_rfl) (by kernel_rfl) (fun _ _ _ h => h) ⟨Or.inr ⟨by rfl, rfl⟩, fun _ => rfl⟩ ?_
        try simp only [Act.put, List.setIfInBounds_toArray, List.set_cons_zero, List.set_cons_succ]
        refine wpAnyIn_take (i := 9) (v := undef) rfl (Fr.take_at rfl) (by kernel_rfl) (by kernel_rfl) (by kernel_rfl) (fun _ _ _ h => h) ⟨Or.inr ⟨by rfl, rfl⟩, fun _ => rfl⟩ ?_
        try simp only [Act.put, List.setIfInBounds_toArray, List.set_cons_zero, List.set_cons_succ]
        refine wpAnyIn_take (i := 10) (v := undef) rfl (Fr.take_at rfl) (by kernel_rfl) (by kernel_rfl) (by kernel_rfl) (fun _ _ _ h => h) ⟨Or.inr ⟨by rfl, rfl⟩, fun _ => rfl⟩ ?_
        try simp only [Act.put, List.setIfInBounds_toArray, List.set_cons_zero, List.set_cons_succ]
        refine wpAnyIn_take (i := 11) (v := undef) rfl (Fr.take_at rfl) (by kernel_rfl) (by kernel_rfl) (by kernel_rfl) (fun _ _ _ h => h) ⟨Or.inr ⟨by rfl, rfl⟩, fun _ => rfl⟩ ?_
        try simp only [Act.put, List.setIfInBounds_toArray, List.set_cons_zero, List.set_cons_succ]
        refine wpAnyIn_take (i := 12) (v := undef) rfl (Fr.take_at rfl) (by kernel_rfl) (by kernel_rfl) (by kernel_rfl) (fun _ _ _ h => h) ⟨Or.inr ⟨by rfl, rfl⟩, fun _ => rfl⟩ ?_
        try simp only [Act.put, List.setIfInBounds_toArray, List.set_cons_zero, List.set_cons_succ]
        refine wpAnyIn_take (i := 13) (v := undef) rfl (Fr.take_at rfl) (by kernel_rfl) (by kernel_rfl) (by kernel_rfl) (fun _ _ _ h => h) ⟨Or.inr ⟨by rfl, rfl⟩, fun _ => rfl⟩ ?_
        try simp only [Act.put, List.setIfInBounds_toArray, List.set_cons_zero, List.set_cons_succ]
        refine wpAnyIn_take (i := 14) (v := ?vr2a_14) rfl (Fr.take_at rfl) (by kernel_rfl) (by kernel_rfl) (by kernel_rfl) (fun _ _ _ h => h) ⟨Or.inl ⟨by rfl, ?yr2a_14⟩, fun _ => rfl⟩ ?nr2a_14
        case yr2a_14 => (intro w_; go_simp; (try with_reducible rfl))
        try simp only [Act.put, List.setIfInBounds_toArray, List.set_cons_zero, List.set_cons_succ]
        refine wpAnyIn_done (by kernel_rfl) ?_ _
        rotate_left
        go_simp
        refine hK _ _ ?_
        clear hK K
        try simp only [Act.put, List.setIfInBounds_toArray, List.set_cons_zero, List.set_cons_succ]
        refine wpAnyIn_ready (rs := [3]) (by kernel_rfl) (by simp) ?_
        refine AllReadyIn.cons (Fr.take_at rfl) (fun K hK => ?_) AllReadyIn.nil
        go_simp
        refine hK _ _ ?_
        clear hK K
        try simp only [Act.put, List.setIfInBounds_toArray, List.set_cons_zero, List.set_cons_succ]
        refine wpAnyIn_take (i := 5) (v := ?vr2b_5) rfl (Fr.take_at rfl) (by kernel_rfl) (by kernel_rfl) (by kernel_rfl) (fun _ _ _ h => h) ⟨Or.inl ⟨by rfl, ?yr2b_5⟩, fun _ => rfl⟩ ?nr2b_5
        case yr2b_5 => (intro w_; go_simp; (try with_reducible rfl))
        try simp only [Act.put, List.setIfInBounds_toArray, List.set_cons_zero, List.set_cons_succ]
        refine wpAnyIn_take (i := 6) (v := ?vr2b_6) rfl (Fr.take_at rfl) (by kernel_rfl) (by kernel_rfl) (by kernel_rfl) (fun _ _ _ h => h) ⟨Or.inl ⟨by rfl, ?yr2b_6⟩, fun _ => rfl⟩ ?nr2b_6
        case yr2b_6 => (intro w_; go_simp; (try with_reducible rfl))
        try simp only [Act.put, List.setIfInBounds_toArray, List.set_cons_zero, List.set_cons_succ]
        refine wpAnyIn_take (i := 7) (v := undef) rfl (Fr.take_at rfl) (by kernel_rfl) (by kernel_rfl) (by kernel_rfl) (fun _ _ _ h => h) ⟨Or.inr ⟨by rfl, rfl⟩, fun _ => rfl⟩ ?_
        try simp only [Act.put, List.setIfInBounds_toArray, List.set_cons_zero, List.set_cons_succ]
        refine wpAnyIn_take (i := 8) (v := undef) rfl (Fr.take_at rfl) (by kernel_rfl) (by kernel_rfl) (by kernel_rfl) (fun _ _ _ h => h) ⟨Or.inr ⟨by rfl, rfl⟩, fun _ => rfl⟩ ?_
        try simp only [Act.put, List.setIfInBounds_toArray, List.set_cons_zero, List.set_cons_succ]
        refine wpAnyIn_take (i := 9) (v := undef) rfl (Fr.take_at rfl) (by kernel_rfl) (by kernel_rfl) (by kernel_rfl) (fun _ _ _ h => h) ⟨Or.inr ⟨by rfl, rfl⟩, fun _ => rfl⟩ ?_
        try simp only [Act.put, List.setIfInBounds_toArray, List.set_cons_zero, List.set_cons_succ]
        refine wpAnyIn_take (i := 10) (v := undef) rfl (Fr.take_at rfl) (by kernel_rfl) (by kernel_rfl) (by kernel_rfl) (fun _ _ _ h => h) ⟨Or.inr ⟨by rfl, rfl⟩, fun _ => rfl⟩ ?_
        try simp only [Act.put, List.setIfInBounds_toArray, List.set_cons_zero, List.set_cons_succ]
        refine wpAnyIn_take (i := 11) (v := undef) rfl (Fr.take_at rfl) (by kernel_rfl) (by kernel_rfl) (by kernel_rfl) (fun _ _ _ h => h) ⟨Or.inr ⟨by rfl, rfl⟩, fun _ => rfl⟩ ?_
        try simp only [Act.put, List.setIfInBounds_toArray, List.set_cons_zero, List.set_cons_succ]
        refine wpAnyIn_take (i := 12) (v := undef) rfl (Fr.take_at rfl) (by kernel_rfl) (by kernel_rfl) (by kernel_rfl) (fun _ _ _ h => h) ⟨Or.inr ⟨by rfl, rfl⟩, fun _ => rfl⟩ ?_
        try simp only [Act.put, List.setIfInBounds_toArray, List.set_cons_zero, List.set_cons_succ]
        refine wpAnyIn_take (i := 13) (v := undef) rfl (Fr.take_at rfl) (by kernel_rfl) (by kernel_rfl) (by kernel_rfl) (fun _ _ _ h => h) ⟨Or.inr ⟨by rfl, rfl⟩, fun _ => rfl⟩ ?_
        try simp only [Act.put, List.setIfInBounds_toArray, List.set_cons_zero, List.set_cons_succ]
        refine wpAnyIn_take (i := 14) (v := ?vr2b_14) rfl (Fr.take_at rfl) (by kernel_rfl) (by kernel_rfl) (by kernel_rfl) (fun _ _ _ h => h) ⟨Or.inl ⟨by rfl, ?yr2b_14⟩, fun _ => rfl⟩ ?nr2b_14
        case yr2b_14 => (intro w_; go_simp; (try with_reducible rfl))
        try simp only [Act.put, List.setIfInBounds_toArray, List.set_cons_zero, List.set_cons_succ]
        refine wpAnyIn_done (by kernel_rfl) ?_ _
        · gi_wp2
          go_roundw
          case rel => exact ⟨pre, a ++ [n], r, q3', rfl, HQ3.out, by rw [hns]; simp, by rw [olds_snoc, if_neg (show ¬ (n.older : Int) < cnt by omega), List.append_nil, hpre], Lib.hid HF.out.drew, Lib.hid (hJd _ _ HJ.out)⟩
          case measure => rw [hns] at hnd ⊢; rw [leftAt_ptr hnd hq, show a ++ n :: r = (a ++ [n]) ++ r by simp, leftAt_ptr (by simpa using hnd) HQ3.out]; simp
        · gi_wp2
          go_roundw
          case rel => exact ⟨pre, a ++ [n], r, q3', rfl, HQ3.out, by rw [hns]; simp, by rw [olds_snoc, if_neg (show ¬ (n.older : Int) < cnt by omega), List.append_nil, hpre], Lib.hid HF.out.drew, Lib.hid (hJd _ _ HJ.out)⟩
          case measure => rw [hns] at hnd ⊢; rw [leftAt_ptr hnd hq, show a ++ n :: r = (a ++ [n]) ++ r by simp, leftAt_ptr (by simpa using hnd) HQ3.out]; simp
theorem fr_stops (d : Nat) (hd : 1 ≤ d) (hnd : (ns.map (·.blk)).Nodup) (hgood : Good ns) (hF : FrAt w b1 b2 ns cnt) :
    SeqStopsK Fence.wide d Try.prog 20 #[.pointer (some ⟨b1, 0, none⟩), .pointer (some ⟨b2, 0, none⟩)] yv (KpS (FrS b1 b2 ns)) (fun ys => ys = olds ns cnt) (fun pre => pre <+: olds ns cnt) ns.length w := fun _ J Jx W hW hJ _ hY h0 =>
  fr1_in d hd hnd hgood J Jx W hY (fun pre W h => hJ pre W W.drew none h ⟨rfl, rfl, rfl, Nat.le_refl _, fun _ _ _ => rfl⟩ (fun _ e => by cases e)) (hF.below hW) h0
end
end Mm
end Go.Proofs.Ytfnfjhfmhinkcaa
