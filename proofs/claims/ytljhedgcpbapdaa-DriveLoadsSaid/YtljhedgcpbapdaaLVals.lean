/-
  WHAT IS PROVED: 'slices.Sorted(slices.Values(names))' at this program: a new row with the names in order. CONDITIONS: the names stand in memory as named.
-/
import Derived.Test.YtljhedgcpbapdaaDWalkD
import Derived.RangeFuncKeeps
import Derived.RangeFuncFrom
import Derived.Shelf.SlIter.Sorted
namespace Go.Proofs.Ytljhedgcpbapdaa
open Go Go.RowKit Go.Maps Go.Sort Go.Shelf Go.Proofs.Ytljhedgcpbapdaa.Fr
namespace Dr
section
variable {l Bm n c : Nat} {A : Option Addr} {ss : List Bs} {w : World}
set_option maxRecDepth 100000 in
set_option maxHeartbeats 1000000 in
/-- slices.Values' iterator. -/
theorem vals1_in (k : Nat) (hk : 1 ≤ k) (J Jx : List Bs → World → Prop) (W : World)
    (hY : ∀ pre x W, J pre W → pre.length < ss.length → YieldAt Fence.wide (k - 1) Try.prog l #[encStr x] W fun e W' => (e = .returned (.bool true) ∧ J (pre ++ [x]) W' ∧ Below w.heap.size W W') ∨ (e = .returned (.bool false) ∧ Jx (pre ++ [x]) W'))
    (hb : Below w.heap.size w W) (hBm : Bm < w.heap.size) (hbox : w.cell? ⟨Bm, 0, none⟩ = some (.slice A n c)) (hr : Rd w A (ss.map encStr)) (hl : ss.length = n) (hn : n ≤ 1000000) (h0 : J [] W) :
    CallsIn Fence.wide k Try.prog 64 #[.func (.yield l) #[] #[], .pointer (some ⟨Bm, 0, none⟩)] W fun e W' => (∃ v, e = .returned v) ∧ ((∃ ys, ys = ss ∧ J ys W') ∨ (∃ pre, pre <+: ss ∧ Jx pre W')) := by
  refine callsIn_of_wp Try.func64 rfl trivial ?_ rfl
  simp only [Try.ntmps64, List.size_toArray, List.length_cons, List.length_nil, Nat.reduceAdd, Nat.reduceSub, Array.replicate_succ, Array.replicate_zero, List.push_toArray, List.append_toArray, List.nil_append, List.cons_append]
  have hbx : W.cell? ⟨Bm, 0, none⟩ = some (.slice A n c) := (hb.cell (p := ⟨Bm, 0, none⟩) hBm).trans hbox
  have HL := Lib.hid hl
  clear hl
  gi_wp2
  gi_loopw [7] (fun p wr => ∃ i : Nat, i ≤ n ∧ p = .int .i64 (i : Int) ∧ Below w.heap.size w wr ∧ J (ss.take i) wr) (fun p _ => n - (intOf p).toNat)
  case atStart => exact ⟨0, by omega, rfl, hb, by simpa using h0⟩
  case round =>
    obtain ⟨i, hi, rfl, hbr, hJs⟩ := hrel
    by_cases hlt : i < n
    · obtain ⟨x, hx⟩ : ∃ x, ss[i]? = some x := ⟨ss[i]'(by have := HL.out; omega), List.getElem?_eq_getElem _⟩
      obtain ⟨g, o, rfl, hg, hc⟩ := hr.at_ (i := i) (by rw [List.length_map]; have := HL.out; omega)
      have hc2 : wr.cell? ⟨g, o + i, none⟩ = some (encStr x) := by
        refine (hbr.cell (p := ⟨g, o + i, none⟩) hg).trans (hc.trans ?_)
        rw [List.getElem_map, (List.getElem?_eq_some_iff.1 hx).2]
      have HX : Hid (ss.take (i + 1) = ss.take i ++ [x]) := by rw [List.take_add_one, hx]; rfl
      obtain ⟨fn, tmps, assign, body, hy, hR⟩ := hY (ss.take i) x wr hJs (by have := HL.out; rw [List.length_take]; omega)
      have hlt' : (i : Int) < (n : Int) := by omega
      clear hc hx
      gi_wp2
      refine hR.mono ?_
      rintro e W3 (⟨rfl, hJ3, hk3⟩ | ⟨rfl, hJx3⟩)
      · gi_wp2
        go_roundw
        case rel => exact ⟨i + 1, by omega, by go_num, hbr.trans hk3, by rw [HX.out]; exact hJ3⟩
        case measure => simp [intOf]; omega
      · gi_wp2
        refine bodyPost_ret (results_none rfl _ _ _) rfl ?_
        exact ⟨⟨_, rfl⟩, .inr ⟨_, by rw [← HX.out]; exact List.take_prefix _ _, hJx3⟩⟩
    · obtain rfl : i = n := by omega
      gi_wp2
      go_end0
      exact ⟨⟨_, rfl⟩, .inl ⟨_, rfl, by rw [List.take_of_length_le (by have := HL.out; omega)] at hJs; exact hJs⟩⟩
/-- slices.Values. -/
theorem vals_in (k : Nat) (W : World) : CallsIn Fence.wide k Try.prog 53 #[.slice A n c] W fun e w' => e = .returned (.func (.func 64) #[] #[.pointer (some ⟨W.heap.size, 0, none⟩)]) ∧ w' = W.alloc (.cells #[.slice A n c] 31) := by
  refine callsIn_of_wp Try.func53 rfl trivial ?_ rfl
  simp only [Try.ntmps53, List.size_toArray, List.length_cons, List.length_nil, Nat.reduceAdd, Nat.reduceSub, Array.replicate_succ, Array.replicate_zero, List.push_toArray, List.append_toArray, List.nil_append, List.cons_append]
  gi_wp2
  go_ret
  exact ⟨rfl, rfl⟩
theorem vals_stops (k : Nat) (hk : 1 ≤ k) (hBm : Bm < w.heap.size) (hbox : w.cell? ⟨Bm, 0, none⟩ = some (.slice A n c)) (hr : Rd w A (ss.map encStr)) (hl : ss.length = n) (hn : n ≤ 1000000) :
    SeqStopsK Fence.wide k Try.prog 64 #[.pointer (some ⟨Bm, 0, none⟩)] (fun x : Bs => #[encStr x]) (Below w.heap.size) (fun ys => ys = ss) (fun pre => pre <+: ss) ss.length w := fun _ J Jx W hW _ _ hY h0 =>
  vals1_in k hk J Jx W hY hW hBm hbox hr hl hn h0
/-- The box and the row of what has come. -/
structure ApI (w : World) (ss : List Bs) (W : World) : Prop where
  box : ∃ v, Blk W w.heap.size 31 #[v] ∧ W.ownsRow w.heap.size 9 1 v ss.length (ss.map encStr)
  bel : Below w.heap.size w W
theorem ApI.own : OwnFrom (w.heap.size + 1) (ApI w) := fun s W W' row h hg hrow => by
  obtain ⟨v, hv, hr⟩ := h.box
  refine ⟨⟨v, hv.same (hg.block _ hv.lt fun e => ?_), hr.kept hg ?_⟩, h.bel.grown hg h.bel.size fun k e => by have := (hrow k e).1; omega⟩
  · have := (hrow _ e.symm).1; omega
  · rcases hr.2 with ⟨rfl, _⟩ | ⟨g, cap, cur, rfl, _, hgb, _⟩
    · exact .inl rfl
    · refine .inr fun e' => ?_
      obtain ⟨_, o, ho, hc⟩ := hrow g (by simpa [Value.ownBlock] using e'.symm)
      rw [hgb] at ho; cases ho; cases hc
theorem info_str : (Try.prog.info? 9).map (fun i => (i.zero, i.size, i.bytes)) = some (some (.string ⟨#[]⟩), 1, 16) := by kernel_rfl
theorem own_ne_b {W : World} {base : Nat} {e : TypeId} {size : Nat} {v : Value} {k : Nat} {xs : List Value} (h : W.ownsRow base e size v k xs) {j : Nat} {t : TypeId} {cs : Array Value} (hj : Blk W j t cs) (hno : t ≠ e) : v.ownBlock = none ∨ v.ownBlock ≠ some j := by
  rcases h.2 with ⟨rfl, _⟩ | ⟨g, cap, cur, rfl, _, hgb, _⟩
  · exact .inl rfl
  · refine .inr fun e' => ?_
    have : g = j := by simpa [Value.ownBlock] using e'
    subst this
    rw [show W.heap[g]? = _ from hj] at hgb
    cases hgb
    exact hno rfl
theorem app_box {W w3 : World} {v : Value} {g base k : Nat} {xs : List Value} {o : Obj} (hrow : W.ownsRow base 9 1 v k xs) (hv : Blk W g 31 #[v]) (hg : (W.alloc o).grownBy w3 v.ownBlock) : Hid (Blk w3 g 31 #[v]) ∧ w3.cell? ⟨g, 0, none⟩ = some v ∧ w3.frozen? ⟨g, 0, none⟩ = false := by
  have h : Blk w3 g 31 #[v] := (hv.alloc o).same (hg.block _ (by have := hv.lt; simp; omega) fun e => by
    rcases own_ne_b hrow hv (by decide) with h | h
    · rw [h] at e; cases e
    · exact h e.symm)
  exact ⟨h, h.cell 0, h.frozen 0⟩
theorem ap_done {W0 W w3 : World} {v v' : Value} {pre : List Bs} {x : Bs} {o : Obj} (hrow : W.ownsRow W0.heap.size 9 1 v pre.length (pre.map encStr)) (hv3 : Blk w3 W0.heap.size 31 #[v]) (ho : w3.ownsRow W0.heap.size 9 1 v' (pre.length + 1) (pre.map encStr ++ [encStr x])) (hg : (W.alloc o).grownBy w3 v.ownBlock) (hb : Below W0.heap.size W0 W) :
    KeepsOthers W (w3.setCell ⟨W0.heap.size, 0, none⟩ v') ∧ Below W0.heap.size W (w3.setCell ⟨W0.heap.size, 0, none⟩ v') ∧ ApI W0 (pre ++ [x]) (w3.setCell ⟨W0.heap.size, 0, none⟩ v') := by
  have hs := hb.size
  have hb3 : Below W0.heap.size W w3 := ((Below.refl _ _).alloc hs o).grown hg (by simp; omega) fun k e => own_row hrow k e
  have hko : KeepsOthers W w3 := (KeepsOthers.alloc W o).trans (KeepsOthers.of_grownBy hg fun j ob hj hob => by
    obtain ⟨_, hbl⟩ := own_blk hrow hj
    rw [(hbl.alloc o : Blk (W.alloc o) _ _ _)] at hob
    cases hob
    rfl)
  have hk := ho.kept (grownBy_setCell0_a w3 W0.heap.size v') (own_ne_b ho hv3 (by decide))
  refine ⟨hko.trans (KeepsOthers.setCell _ _ _), hb3.setCell (p := ⟨W0.heap.size, 0, none⟩) (Nat.le_refl _) _, ⟨_, hv3.set 0 v', by simpa using hk⟩, (hb.trans hb3).setCell (p := ⟨W0.heap.size, 0, none⟩) (Nat.le_refl _) _⟩
set_option maxRecDepth 100000 in
set_option maxHeartbeats 2000000 in
/-- slices.AppendSeq of nothing and the names. -/
theorem apSeq_in (W0 : World) (hBm : Bm < W0.heap.size) (hbox : W0.cell? ⟨Bm, 0, none⟩ = some (.slice A n c)) (hr : Rd W0 A (ss.map encStr)) (hl : ss.length = n) (hn : n ≤ 1000000) :
    CallsIn Fence.wide 3 Try.prog 66 #[.slice none 0 0, .func (.func 64) #[] #[.pointer (some ⟨Bm, 0, none⟩)]] W0 fun e w' => ∃ v, e = .returned v ∧ w'.ownsRow W0.heap.size 9 1 v n (ss.map encStr) ∧ Below W0.heap.size W0 w' := by
  obtain ⟨i0, hi, hz0, hz1, hz2⟩ := info_parts info_str
  refine callsIn_of_wp_marks Try.func66 rfl trivial ?_ rfl
  simp only [Try.ntmps66, List.size_toArray, List.length_cons, List.length_nil, Nat.reduceAdd, Nat.reduceSub, Array.replicate_succ, Array.replicate_zero, List.push_toArray, List.append_toArray, List.nil_append, List.cons_append]
  gi_wp2
  have hb0 : Below W0.heap.size W0 (W0.alloc (.cells #[.slice none 0 0] 31)) := (Below.refl _ _).alloc (Nat.le_refl _) _
  refine wpIn_rangeFunc_ownF rfl (by omega) (gf := 64) (lb := #[.pointer (some ⟨Bm, 0, none⟩)]) rfl trivial (enters_of Try.func64 (by kernel_rfl) rfl)
    (vals_stops 2 (by omega) hBm hbox hr hl hn) belowK_t (belowK_b (by simp)) hb0 (fun _ => rfl)
    (ApI W0) (fun _ _ _ => False) (by rw [World.size_alloc]; exact ApI.own) (fun _ _ _ _ _ hs _ _ => hs)
    ⟨⟨_, Blk.new _ _ _, World.ownsRow_nil _ _ _ _⟩, hb0⟩
    (fun x => { tmps := #[.slice none 0 0, .func (.func 64) #[] #[.pointer (some ⟨Bm, 0, none⟩)], .pointer (some ⟨W0.heap.size, 0, none⟩), undef, .slice none 0 0, encStr x, .func (.func 64) #[] #[.pointer (some ⟨Bm, 0, none⟩)], encStr x, undef, undef, undef, undef, undef], defers := [] }) ?assign ?body ?done ?stop
  case assign =>
    intro l x W K hK
    gi_wp2_with ((rw [Oper.semAt_eq _ _ _ (fun c h => by cases h)]; go_simp; try go_bits))
    exact hK
  case body =>
    rintro l pre x W h hlen
    obtain ⟨v, hv, hrow⟩ := h.box
    have hc2 := hv.cell 0
    have hf2 := hv.frozen 0
    have hbl := h.bel
    have hbs := hbl.size
    have HROW := Lib.hid hrow
    have HV := Lib.hid hv
    simp only [List.getElem?_toArray, List.getElem?_cons_zero] at hc2
    clear hrow hv
    gi_wp2_with (first
     | (gi_at_builtin; refine wpListIn_append_own _ rfl _ _ 31 rfl W0.heap.size 9 i0 (.string ⟨#[]⟩) 1 16 Try.underlying31 hi hz0 hz1 hz2 rfl (by decide) _ _ _ rfl (HROW.out.alloc _) ⟨W.heap.size, 0, none⟩ 1 1 [encStr x] rfl rfl (cell_one_new _ _ _) (by simp [Value.oneCell', encStr]) (by unfold maxLen; omega) (by omega) (by simp; omega) ?_; intro v' w3 hown' hg3 hnil3; obtain ⟨A4, c4, rfl, hc41, hc42⟩ := own_shape hown'; have HO := Lib.hid hown'; have HG := Lib.hid hg3; obtain ⟨HV3, hc3, hf3⟩ := app_box HROW.out HV.out hg3; clear hown' hg3 hnil3 hc41 hc42)
     | (rw [Oper.semAt_eq _ _ _ (fun c h => by cases h)]; go_simp; try go_bits))
    exact ap_done HROW.out HV3.out HO.out HG.out h.bel
  case done =>
    rintro D xs W hD rfl h hK
    obtain ⟨v, hv, hrow⟩ := h.box
    have hc2 := hv.cell 0
    have HROW := Lib.hid hrow
    have HV := Lib.hid hv
    simp only [List.getElem?_toArray, List.getElem?_cons_zero] at hc2
    obtain ⟨A4, c4, rfl, hc41, hc42⟩ := own_shape hrow
    clear hrow hv hc41 hc42
    gi_wp2
    refine ⟨by simp, .inl ⟨_, _, rfl, run_takeDeferred hK, ?_⟩⟩
    exact ⟨_, results_tmp rfl _ _ _, _, rfl, by rw [← hl]; exact HROW.out.kept (grownBy_putObj_a _ _ _) (ownsRow_ne_a HROW.out hK (fun cur e => by cases e)), h.bel.grown (grownBy_putObj_a _ _ _) h.bel.size (fun k e => by cases e; simp at hD; omega)⟩
  case stop =>
    rintro D c pre W _ _ h _
    exact h.elim
/-- slices.Collect of the names. -/
theorem collect_in (W0 : World) (hBm : Bm < W0.heap.size) (hbox : W0.cell? ⟨Bm, 0, none⟩ = some (.slice A n c)) (hr : Rd W0 A (ss.map encStr)) (hl : ss.length = n) (hn : n ≤ 1000000) :
    CallsIn Fence.wide 4 Try.prog 59 #[.func (.func 64) #[] #[.pointer (some ⟨Bm, 0, none⟩)]] W0 fun e w' => ∃ v, e = .returned v ∧ w'.ownsRow W0.heap.size 9 1 v n (ss.map encStr) ∧ Below W0.heap.size W0 w' := by
  have hc := apSeq_in W0 hBm hbox hr hl hn
  have hf : Fence.wide.fn 66 := trivial
  refine callsIn_of_wp Try.func59 rfl trivial ?_ rfl
  simp only [Try.ntmps59, List.size_toArray, List.length_cons, List.length_nil, Nat.reduceAdd, Nat.reduceSub, Array.replicate_succ, Array.replicate_zero, List.push_toArray, List.append_toArray, List.nil_append, List.cons_append]
  gi_wp2_with (gi_at_call 66; refine hc.mono ?_; rintro e w' ⟨v, rfl, hrow, hb⟩)
  go_ret
  exact ⟨v, rfl, hrow, hb⟩
set_option maxHeartbeats 1000000 in
/-- slices.Sorted of the names. -/
theorem sortedV_in (W0 : World) (hBm : Bm < W0.heap.size) (hbox : W0.cell? ⟨Bm, 0, none⟩ = some (.slice A n c)) (hr : Rd W0 A (ss.map encStr)) (hl : ss.length = n) (hn : n ≤ 1000000) :
    CallsIn Fence.wide 5 Try.prog 43 #[.func (.func 64) #[] #[.pointer (some ⟨Bm, 0, none⟩)]] W0 fun e w' => ∃ v, e = .returned v ∧ w'.ownsRow W0.heap.size 9 1 v n ((ss.mergeSort fun x y => decide (x ≤ y)).map encStr) ∧ Below W0.heap.size W0 w' := by
  have hc := collect_in W0 hBm hbox hr hl hn
  have hf1 : Fence.wide.fn 59 := trivial
  have hf2 : Fence.wide.fn 60 := trivial
  have hs := Try.sorts43 4
  refine callsIn_of_wp Try.func43 rfl trivial ?_ rfl
  simp only [Try.ntmps43, List.size_toArray, List.length_cons, List.length_nil, Nat.reduceAdd, Nat.reduceSub, Array.replicate_succ, Array.replicate_zero, List.push_toArray, List.append_toArray, List.nil_append, List.cons_append]
  gi_wp2_with (gi_at_call 59; refine hc.mono ?_; rintro e W ⟨v, rfl, hrow, hb⟩)
  rcases hrow.2 with ⟨rfl, hz⟩ | ⟨gb, cap, cur, rfl, hbase, hgb, r1, r2, r3, r4⟩
  · have hss : ss = [] := List.eq_nil_of_length_eq_zero (by omega)
    gi_wp2_with (gi_at_call 60; refine (hs.2 none 0 W).mono ?_; rintro e w' ⟨rfl, rfl⟩)
    go_ret
    exact ⟨_, rfl, by subst hss; simpa using hrow, hb⟩
  · have hH : Holds encStr W gb 0 ss.toArray := holds_of_block hgb (by rw [← hl] at r4; simpa using r4)
    have hgl : gb < W.heap.size := (Array.getElem?_eq_some_iff.1 hgb).1
    have cS := hs.1 gb 0 cap ss W hH hgl (by omega)
    subst hl
    gi_wp2_with (gi_at_call 60; refine cS.mono ?_; rintro e w' ⟨rfl, nn, os, rfl⟩)
    go_ret
    exact ⟨_, rfl, ownsRow_sorted (by simp) hbase hgb r1 r2 r3, hb.grown (grownBy_sorted _) hb.size (fun j hj => by cases hj; exact hbase)⟩
end
end Dr
end Go.Proofs.Ytljhedgcpbapdaa
