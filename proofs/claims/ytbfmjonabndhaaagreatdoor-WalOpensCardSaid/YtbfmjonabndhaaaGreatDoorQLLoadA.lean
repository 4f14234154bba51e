/-
  WHAT IS PROVED: (1) 'slices.Sorted(slices.Values(names))' at this program: a new row with the names in order. CONDITIONS: the names stand in memory as named. (2) what 'slices.ContainsFunc' and Load's error answer. CONDITIONS: the names and the files stand in memory as named.
-/
import Derived.Test.YtbfmjonabndhaaaGreatDoorQDWalkD
import Derived.RangeFuncKeeps
import Derived.RangeFuncFrom
import Derived.Shelf.SlIter.Sorted
import Derived.Test.YtbfmjonabndhaaaGreatDoorQLLoadP
import Derived.Test.YtbfmjonabndhaaaGreatDoorQIterC
namespace Go.Proofs.YtbfmjonabndhaaaGreatDoor
open Go Go.RowKit Go.Maps Go.Sort Go.Shelf Go.Proofs.YtbfmjonabndhaaaGreatDoor.Fr
namespace Dr
section
variable {l Bm n c : Nat} {A : Option Addr} {ss : List Bs} {w : World}
set_option maxRecDepth 100000 in
set_option maxHeartbeats 1000000 in
/-- slices.Values' iterator. -/
theorem vals1_in (k : Nat) (hk : 1 ≤ k) (J Jx : List Bs → World → Prop) (W : World)
    (hY : ∀ pre x W, J pre W → pre.length < ss.length → YieldAt Fence.wide (k - 1) Tryz.prog l #[encStr x] W fun e W' => (e = .returned (.bool true) ∧ J (pre ++ [x]) W' ∧ Below w.heap.size W W') ∨ (e = .returned (.bool false) ∧ Jx (pre ++ [x]) W'))
    (hb : Below w.heap.size w W) (hBm : Bm < w.heap.size) (hbox : w.cell? ⟨Bm, 0, none⟩ = some (.slice A n c)) (hr : Rd w A (ss.map encStr)) (hl : ss.length = n) (hn : n ≤ 1000000) (h0 : J [] W) :
    CallsIn Fence.wide k Tryz.prog 71 #[.func (.yield l) #[] #[], .pointer (some ⟨Bm, 0, none⟩)] W fun e W' => (∃ v, e = .returned v) ∧ ((∃ ys, ys = ss ∧ J ys W') ∨ (∃ pre, pre <+: ss ∧ Jx pre W')) := by
  refine callsIn_of_wp Tryz.func71 rfl trivial ?_ rfl
  simp only [Tryz.ntmps71, List.size_toArray, List.length_cons, List.length_nil, Nat.reduceAdd, Nat.reduceSub, Array.replicate_succ, Array.replicate_zero, List.push_toArray, List.append_toArray, List.nil_append, List.cons_append]
  have hbx : W.cell? ⟨Bm, 0, none⟩ = some (.slice A n c) := (hb.cell (p := ⟨Bm, 0, none⟩) hBm).trans hbox
  have HL := Lib.hid hl
  clear hl
  gi_wp2
  gi_loopw [7] (fun p wr => ∃ i : Nat, i ≤ n ∧ p = .int .i64 (i : Int) ∧ Below w.heap.size w wr ∧ J (ss.take i) wr) (fun p _ => n - (intOf p).toNat)
  case atStart => exact ⟨0, by omega, rfl, hb, by simpa using h0⟩
  case round =>
    obtain ⟨i, hi, rfl, hbr, hJs⟩ := hrel
    by_cases hlt : i < n
    · obtain ⟨x, hx⟩ : ∃ x, ss[i]? = some x := ⟨ss[i]'(by have := HL.out; omega), List.getElem?_eq_getElem _⟩
      obtain ⟨g, o, rfl, hg, hc⟩ := hr.at_ (i := i) (by rw [List.length_map]; have := HL.out; omega)
      have hc2 : wr.cell? ⟨g, o + i, none⟩ = some (encStr x) := by
        refine (hbr.cell (p := ⟨g, o + i, none⟩) hg).trans (hc.trans ?_)
        rw [List.getElem_map, (List.getElem?_eq_some_iff.1 hx).2]
      have HX : Hid (ss.take (i + 1) = ss.take i ++ [x]) := by rw [List.take_add_one, hx]; rfl
      obtain ⟨fn, tmps, assign, body, hy, hR⟩ := hY (ss.take i) x wr hJs (by have := HL.out; rw [List.length_take]; omega)
      have hlt' : (i : Int) < (n : Int) := by omega
      clear hc hx
      gi_wp2
      refine hR.mono ?_
      rintro e W3 (⟨rfl, hJ3, hk3⟩ | ⟨rfl, hJx3⟩)
      · gi_wp2
        go_roundw
        case rel => exact ⟨i + 1, by omega, by go_num, hbr.trans hk3, by rw [HX.out]; exact hJ3⟩
        case measure => simp [intOf]; omega
      · gi_wp2
        refine bodyPost_ret (results_none rfl _ _ _) rfl ?_
        exact ⟨⟨_, rfl⟩, .inr ⟨_, by rw [← HX.out]; exact List.take_prefix _ _, hJx3⟩⟩
    · obtain rfl : i = n := by omega
      gi_wp2
      go_end0
      exact ⟨⟨_, rfl⟩, .inl ⟨_, rfl, by rw [List.take_of_length_le (by have := HL.out; omega)] at hJs; exact hJs⟩⟩
/-- slices.Values. -/
theorem vals_in (k : Nat) (W : World) : CallsIn Fence.wide k Tryz.prog 49 #[.slice A n c] W fun e w' => e = .returned (.func (.func 71) #[] #[.pointer (some ⟨W.heap.size, 0, none⟩)]) ∧ w' = W.alloc (.cells #[.slice A n c] 25) := by
  refine callsIn_of_wp Tryz.func49 rfl trivial ?_ rfl
  simp only [Tryz.ntmps49, List.size_toArray, List.length_cons, List.length_nil, Nat.reduceAdd, Nat.reduceSub, Array.replicate_succ, Array.replicate_zero, List.push_toArray, List.append_toArray, List.nil_append, List.cons_append]
  gi_wp2
  go_ret
  exact ⟨rfl, rfl⟩
theorem vals_stops (k : Nat) (hk : 1 ≤ k) (hBm : Bm < w.heap.size) (hbox : w.cell? ⟨Bm, 0, none⟩ = some (.slice A n c)) (hr : Rd w A (ss.map encStr)) (hl : ss.length = n) (hn : n ≤ 1000000) :
    SeqStopsK Fence.wide k Tryz.prog 71 #[.pointer (some ⟨Bm, 0, none⟩)] (fun x : Bs => #[encStr x]) (Below w.heap.size) (fun ys => ys = ss) (fun pre => pre <+: ss) ss.length w := fun _ J Jx W hW _ _ hY h0 =>
  vals1_in k hk J Jx W hY hW hBm hbox hr hl hn h0
/-- The box and the row of what has come. -/
structure ApI (w : World) (ss : List Bs) (W : World) : Prop where
  box : ∃ v, Blk W w.heap.size 25 #[v] ∧ W.ownsRow w.heap.size 9 1 v ss.length (ss.map encStr)
  bel : Below w.heap.size w W
theorem ApI.own : OwnFrom (w.heap.size + 1) (ApI w) := fun s W W' row h hg hrow => by
  obtain ⟨v, hv, hr⟩ := h.box
  refine ⟨⟨v, hv.same (hg.block _ hv.lt fun e => ?_), hr.kept hg ?_⟩, h.bel.grown hg h.bel.size fun k e => by have := (hrow k e).1; omega⟩
  · have := (hrow _ e.symm).1; omega
  · rcases hr.2 with ⟨rfl, _⟩ | ⟨g, cap, cur, rfl, _, hgb, _⟩
    · exact .inl rfl
    · refine .inr fun e' => ?_
      obtain ⟨_, o, ho, hc⟩ := hrow g (by simpa [Value.ownBlock] using e'.symm)
      rw [hgb] at ho; cases ho; cases hc
theorem info_str : (Tryz.prog.info? 9).map (fun i => (i.zero, i.size, i.bytes)) = some (some (.string ⟨#[]⟩), 1, 16) := by kernel_rfl
theorem own_ne_b {W : World} {base : Nat} {e : TypeId} {size : Nat} {v : Value} {k : Nat} {xs : List Value} (h : W.ownsRow base e size v k xs) {j : Nat} {t : TypeId} {cs : Array Value} (hj : Blk W j t cs) (hno : t ≠ e) : v.ownBlock = none ∨ v.ownBlock ≠ some j := by
  rcases h.2 with ⟨rfl, _⟩ | ⟨g, cap, cur, rfl, _, hgb, _⟩
  · exact .inl rfl
  · refine .inr fun e' => ?_
    have : g = j := by simpa [Value.ownBlock] using e'
    subst this
    rw [show W.heap[g]? = _ from hj] at hgb
    cases hgb
    exact hno rfl
theorem app_box {W w3 : World} {v : Value} {g base k : Nat} {xs : List Value} {o : Obj} (hrow : W.ownsRow base 9 1 v k xs) (hv : Blk W g 25 #[v]) (hg : (W.alloc o).grownBy w3 v.ownBlock) : Hid (Blk w3 g 25 #[v]) ∧ w3.cell? ⟨g, 0, none⟩ = some v ∧ w3.frozen? ⟨g, 0, none⟩ = false := by
  have h : Blk w3 g 25 #[v] := (hv.alloc o).same (hg.block _ (by have := hv.lt; simp; omega) fun e => by
    rcases own_ne_b hrow hv (by decide) with h | h
    · rw [h] at e; cases e
    · exact h e.symm)
  exact ⟨h, h.cell 0, h.frozen 0⟩
theorem ap_done {W0 W w3 : World} {v v' : Value} {pre : List Bs} {x : Bs} {o : Obj} (hrow : W.ownsRow W0.heap.size 9 1 v pre.length (pre.map encStr)) (hv3 : Blk w3 W0.heap.size 25 #[v]) (ho : w3.ownsRow W0.heap.size 9 1 v' (pre.length + 1) (pre.map encStr ++ [encStr x])) (hg : (W.alloc o).grownBy w3 v.ownBlock) (hb : Below W0.heap.size W0 W) :
    KeepsOthers W (w3.setCell ⟨W0.heap.size, 0, none⟩ v') ∧ Below W0.heap.size W (w3.setCell ⟨W0.heap.size, 0, none⟩ v') ∧ ApI W0 (pre ++ [x]) (w3.setCell ⟨W0.heap.size, 0, none⟩ v') := by
  have hs := hb.size
  have hb3 : Below W0.heap.size W w3 := ((Below.refl _ _).alloc hs o).grown hg (by simp; omega) fun k e => own_row hrow k e
  have hko : KeepsOthers W w3 := (KeepsOthers.alloc W o).trans (KeepsOthers.of_grownBy hg fun j ob hj hob => by
    obtain ⟨_, hbl⟩ := own_blk hrow hj
    rw [(hbl.alloc o : Blk (W.alloc o) _ _ _)] at hob
    cases hob
    rfl)
  have hk := ho.kept (grownBy_setCell0_a w3 W0.heap.size v') (own_ne_b ho hv3 (by decide))
  refine ⟨hko.trans (KeepsOthers.setCell _ _ _), hb3.setCell (p := ⟨W0.heap.size, 0, none⟩) (Nat.le_refl _) _, ⟨_, hv3.set 0 v', by simpa using hk⟩, (hb.trans hb3).setCell (p := ⟨W0.heap.size, 0, none⟩) (Nat.le_refl _) _⟩
set_option maxRecDepth 100000 in
set_option maxHeartbeats 2000000 in
/-- slices.AppendSeq of nothing and the names. -/
theorem apSeq_in (W0 : World) (hBm : Bm < W0.heap.size) (hbox : W0.cell? ⟨Bm, 0, none⟩ = some (.slice A n c)) (hr : Rd W0 A (ss.map encStr)) (hl : ss.length = n) (hn : n ≤ 1000000) :
    CallsIn Fence.wide 3 Tryz.prog 81 #[.slice none 0 0, .func (.func 71) #[] #[.pointer (some ⟨Bm, 0, none⟩)]] W0 fun e w' => ∃ v, e = .returned v ∧ w'.ownsRow W0.heap.size 9 1 v n (ss.map encStr) ∧ Below W0.heap.size W0 w' := by
  obtain ⟨i0, hi, hz0, hz1, hz2⟩ := info_parts info_str
  refine callsIn_of_wp_marks Tryz.func81 rfl trivial ?_ rfl
  simp only [Tryz.ntmps81, List.size_toArray, List.length_cons, List.length_nil, Nat.reduceAdd, Nat.reduceSub, Array.replicate_succ, Array.replicate_zero, List.push_toArray, List.append_toArray, List.nil_append, List.cons_append]
  gi_wp2
  have hb0 : Below W0.heap.size W0 (W0.alloc (.cells #[.slice none 0 0] 25)) := (Below.refl _ _).alloc (Nat.le_refl _) _
  refine wpIn_rangeFunc_ownF rfl (by omega) (gf := 71) (lb := #[.pointer (some ⟨Bm, 0, none⟩)]) rfl trivial (enters_of Tryz.func71 (by kernel_rfl) rfl)
    (vals_stops 2 (by omega) hBm hbox hr hl hn) belowK_t (belowK_b (by simp)) hb0 (fun _ => rfl)
    (ApI W0) (fun _ _ _ => False) (by rw [World.size_alloc]; exact ApI.own) (fun _ _ _ _ _ hs _ _ => hs)
    ⟨⟨_, Blk.new _ _ _, World.ownsRow_nil _ _ _ _⟩, hb0⟩
    (fun x => { tmps := #[.slice none 0 0, .func (.func 71) #[] #[.pointer (some ⟨Bm, 0, none⟩)], .pointer (some ⟨W0.heap.size, 0, none⟩), undef, .slice none 0 0, encStr x, .func (.func 71) #[] #[.pointer (some ⟨Bm, 0, none⟩)], encStr x, undef, undef, undef, undef, undef], defers := [] }) ?assign ?body ?done ?stop
  case assign =>
    intro l x W K hK
    gi_wp2_with ((rw [Oper.semAt_eq _ _ _ (fun c h => by cases h)]; go_simp; try go_bits))
    exact hK
  case body =>
    rintro l pre x W h hlen
    obtain ⟨v, hv, hrow⟩ := h.box
    have hc2 := hv.cell 0
    have hf2 := hv.frozen 0
    have hbl := h.bel
    have hbs := hbl.size
    have HROW := Lib.hid hrow
    have HV := Lib.hid hv
    simp only [List.getElem?_toArray, List.getElem?_cons_zero] at hc2
    clear hrow hv
    gi_wp2_with (first
     | (gi_at_builtin; refine wpListIn_append_own _ rfl _ _ 25 rfl W0.heap.size 9 i0 (.string ⟨#[]⟩) 1 16 Tryz.underlying25 hi hz0 hz1 hz2 rfl (by decide) _ _ _ rfl (HROW.out.alloc _) ⟨W.heap.size, 0, none⟩ 1 1 [encStr x] rfl rfl (cell_one_new _ _ _) (by simp [Value.oneCell', encStr]) (by unfold maxLen; omega) (by omega) (by simp; omega) ?_; intro v' w3 hown' hg3 hnil3; obtain ⟨A4, c4, rfl, hc41, hc42⟩ := own_shape hown'; have HO := Lib.hid hown'; have HG := Lib.hid hg3; obtain ⟨HV3, hc3, hf3⟩ := app_box HROW.out HV.out hg3; clear hown' hg3 hnil3 hc41 hc42)
     | (rw [Oper.semAt_eq _ _ _ (fun c h => by cases h)]; go_simp; try go_bits))
    exact ap_done HROW.out HV3.out HO.out HG.out h.bel
  case done =>
    rintro D xs W hD rfl h hK
    obtain ⟨v, hv, hrow⟩ := h.box
    have hc2 := hv.cell 0
    have HROW := Lib.hid hrow
    have HV := Lib.hid hv
    simp only [List.getElem?_toArray, List.getElem?_cons_zero] at hc2
    obtain ⟨A4, c4, rfl, hc41, hc42⟩ := own_shape hrow
    clear hrow hv hc41 hc42
    gi_wp2
    refine ⟨by simp, .inl ⟨_, _, rfl, run_takeDeferred hK, ?_⟩⟩
    exact ⟨_, results_tmp rfl _ _ _, _, rfl, by rw [← hl]; exact HROW.out.kept (grownBy_putObj_a _ _ _) (ownsRow_ne_a HROW.out hK (fun cur e => by cases e)), h.bel.grown (grownBy_putObj_a _ _ _) h.bel.size (fun k e => by cases e; simp at hD; omega)⟩
  case stop =>
    rintro D c pre W _ _ h _
    exact h.elim
/-- slices.Collect of the names. -/
theorem collect_in (W0 : World) (hBm : Bm < W0.heap.size) (hbox : W0.cell? ⟨Bm, 0, none⟩ = some (.slice A n c)) (hr : Rd W0 A (ss.map encStr)) (hl : ss.length = n) (hn : n ≤ 1000000) :
    CallsIn Fence.wide 4 Tryz.prog 69 #[.func (.func 71) #[] #[.pointer (some ⟨Bm, 0, none⟩)]] W0 fun e w' => ∃ v, e = .returned v ∧ w'.ownsRow W0.heap.size 9 1 v n (ss.map encStr) ∧ Below W0.heap.size W0 w' := by
  have hc := apSeq_in W0 hBm hbox hr hl hn
  have hf : Fence.wide.fn 81 := trivial
  refine callsIn_of_wp Tryz.func69 rfl trivial ?_ rfl
  simp only [Tryz.ntmps69, List.size_toArray, List.length_cons, List.length_nil, Nat.reduceAdd, Nat.reduceSub, Array.replicate_succ, Array.replicate_zero, List.push_toArray, List.append_toArray, List.nil_append, List.cons_append]
  gi_wp2_with (gi_at_call 81; refine hc.mono ?_; rintro e w' ⟨v, rfl, hrow, hb⟩)
  go_ret
  exact ⟨v, rfl, hrow, hb⟩
set_option maxHeartbeats 1000000 in
/-- slices.Sorted of the names. -/
theorem sortedV_in (W0 : World) (hBm : Bm < W0.heap.size) (hbox : W0.cell? ⟨Bm, 0, none⟩ = some (.slice A n c)) (hr : Rd W0 A (ss.map encStr)) (hl : ss.length = n) (hn : n ≤ 1000000) :
    CallsIn Fence.wide 5 Tryz.prog 48 #[.func (.func 71) #[] #[.pointer (some ⟨Bm, 0, none⟩)]] W0 fun e w' => ∃ v, e = .returned v ∧ w'.ownsRow W0.heap.size 9 1 v n ((ss.mergeSort fun x y => decide (x ≤ y)).map encStr) ∧ Below W0.heap.size W0 w' := by
  have hc := collect_in W0 hBm hbox hr hl hn
  have hf1 : Fence.wide.fn 69 := trivial
  have hf2 : Fence.wide.fn 70 := trivial
  have hs := Tryz.sorts48 4
  refine callsIn_of_wp Tryz.func48 rfl trivial ?_ rfl
  simp only [Tryz.ntmps48, List.size_toArray, List.length_cons, List.length_nil, Nat.reduceAdd, Nat.reduceSub, Array.replicate_succ, Array.replicate_zero, List.push_toArray, List.append_toArray, List.nil_append, List.cons_append]
  gi_wp2_with (gi_at_call 69; refine hc.mono ?_; rintro e W ⟨v, rfl, hrow, hb⟩)
  rcases hrow.2 with ⟨rfl, hz⟩ | ⟨gb, cap, cur, rfl, hbase, hgb, r1, r2, r3, r4⟩
  · have hss : ss = [] := List.eq_nil_of_length_eq_zero (by omega)
    gi_wp2_with (gi_at_call 70; refine (hs.2 none 0 W).mono ?_; rintro e w' ⟨rfl, rfl⟩)
    go_ret
    exact ⟨_, rfl, by subst hss; simpa using hrow, hb⟩
  · have hH : Holds encStr W gb 0 ss.toArray := holds_of_block hgb (by rw [← hl] at r4; simpa using r4)
    have hgl : gb < W.heap.size := (Array.getElem?_eq_some_iff.1 hgb).1
    have cS := hs.1 gb 0 cap ss W hH hgl (by omega)
    subst hl
    gi_wp2_with (gi_at_call 70; refine cS.mono ?_; rintro e w' ⟨rfl, nn, os, rfl⟩)
    go_ret
    exact ⟨_, rfl, ownsRow_sorted (by simp) hbase hgb r1 r2 r3, hb.grown (grownBy_sorted _) hb.size (fun j hj => by cases hj; exact hbase)⟩
end
end Dr
end Go.Proofs.YtbfmjonabndhaaaGreatDoor
namespace Go.Proofs.YtbfmjonabndhaaaGreatDoor
open Go Go.RowKit Go.Maps Go.Sort Go.Lib Go.Proofs.YtbfmjonabndhaaaGreatDoor.Fr
namespace Dr
/-- A row of bytes that came in. -/
structure BM where
  A : Option Addr
  n : Nat
  c : Nat
  l : Bs
/-- ROWS OF BYTES IN MEMORY. -/
structure BRows (w : World) (A : Option Addr) (K : List BM) : Prop where
  cell : ∀ i k, K[i]? = some k → ∃ g p, A = some ⟨g, p, none⟩ ∧ g < w.heap.size ∧ w.cell? ⟨g, p + i, none⟩ = some (.slice k.A k.n k.c)
  rows : ∀ k ∈ K, k.l.length = k.n ∧ k.n ≤ k.c ∧ k.n ≤ 140737488351232 ∧ Rd w k.A (bv k.l)
/-- NAMES IN MEMORY. -/
structure Nms (w : World) (A : Option Addr) (ns : List Bs) : Prop where
  r : Rd w A (ns.map encStr)
  s : ∀ x ∈ ns, (⟨x.toArray⟩ : ByteArray).size ≤ maxLen
section
variable {w w' : World} {A : Option Addr} {K : List BM} {ns : List Bs}
theorem BRows.below (h : BRows w A K) (hb : Below w.heap.size w w') : BRows w' A K :=
  ⟨fun i k hk => by
    obtain ⟨g, p, e, h1, h2⟩ := h.cell i k hk
    exact ⟨g, p, e, Nat.lt_of_lt_of_le h1 hb.size, (hb.cell (p := ⟨g, p + i, none⟩) h1).trans h2⟩, fun k hk => by
    obtain ⟨h1, h2, h3, h4⟩ := h.rows k hk
    exact ⟨h1, h2, h3, h4.below hb⟩⟩
theorem Nms.below (h : Nms w A ns) (hb : Below w.heap.size w w') : Nms w' A ns := ⟨h.r.below hb, h.s⟩
theorem Nms.cell (h : Nms w A ns) {i : Nat} {x : Bs} (hi : ns[i]? = some x) : ∃ g p, A = some ⟨g, p, none⟩ ∧ g < w.heap.size ∧ w.cell? ⟨g, p + i, none⟩ = some (.string ⟨x.toArray⟩) := by
  obtain ⟨hlt, rfl⟩ := List.getElem?_eq_some_iff.1 hi
  obtain ⟨g, p, e, h1, h2⟩ := h.r.at_ (i := i) (by rw [List.length_map]; exact hlt)
  exact ⟨g, p, e, h1, h2.trans (by rw [List.getElem_map])⟩
theorem any_false {α : Type} {l : List α} {p : α → Bool} {n : Nat} (h : ∀ j x, j < n → l[j]? = some x → p x = false) (hn : l.length ≤ n) : l.any p = false := by
  rw [List.any_eq_false]
  intro x hx
  obtain ⟨j, hj, rfl⟩ := List.mem_iff_getElem.1 hx
  have := h j _ (by omega) (List.getElem?_eq_getElem hj)
  simp [this]
theorem any_true {α : Type} {l : List α} {p : α → Bool} {i : Nat} {x : α} (h : l[i]? = some x) (hp : p x = true) : l.any p = true := List.any_eq_true.2 ⟨x, List.mem_of_getElem? h, hp⟩
theorem clos1 (s : ByteArray) (w : World) (hs : s.size ≤ maxLen) {b : Bool} (hb : nameOk s.data.toList = b) :
    Calls Tryz.prog 45 #[.string s] w fun e w' => e = .returned (.bool (!b)) ∧ w = w' := by
  have hc := isName_any s w hs
  rw [hb] at hc
  go_enter Tryz.func45, Tryz.ntmps45
  go_wp2_with (go_at_call 46; refine hc.mono ?_; rintro e w' ⟨rfl, rfl⟩)
  go_ret
  exact ⟨rfl, rfl⟩
theorem clos2 (A : Option Addr) (n c : Nat) (w : World) {b : Bool} (hb : decide (262144 < (n : Int)) = b) :
    Calls Tryz.prog 51 #[.slice A n c] w fun e w' => e = .returned (.bool b) ∧ w = w' := by
  go_enter Tryz.func51, Tryz.ntmps51
  go_wp2
  go_ret
  exact ⟨by rw [← hb]; rfl, rfl⟩
def IxRet (b : Bool) (w : World) (e : Ending) (w' : World) : Prop := ∃ r : Int, e = .returned (.int .i64 r) ∧ decide (0 ≤ r) = b ∧ w = w'
theorem idx1 (w : World) (A : Option Addr) (n c : Nat) (ns : List Bs) (hl : ns.length = n) (h : Nms w A ns) (hn : n ≤ 1000000) :
    Calls Tryz.prog 67 #[.slice A n c, .func (.func 45) #[] #[]] w (IxRet (ns.any fun x => !nameOk x) w) := by
  have HL := Lib.hid hl
  have HN := Lib.hid h
  clear hl h
  go_enter Tryz.func67, Tryz.ntmps67
  go_wp2
  go_loop [8] (fun x => ∃ i : Nat, i ≤ n ∧ x = .int .i64 (i : Int) ∧ Hid (∀ j x, j < i → ns[j]? = some x → (!nameOk x) = false)) (fun x => n - (intOf x).toNat)
  case atStart => exact ⟨0, by omega, rfl, fun j x hj => by omega⟩
  case round =>
    obtain ⟨i, hi, rfl, HG⟩ := hrel
    by_cases hlt : i < n
    · obtain ⟨x, hx⟩ : ∃ x, ns[i]? = some x := ⟨ns[i]'(by have := HL.out; omega), List.getElem?_eq_getElem _⟩
      obtain ⟨g, p, rfl, hg, hc⟩ := HN.out.cell hx
      have hs := HN.out.s x (List.mem_of_getElem? hx)
      have HX := Lib.hid hx
      have HS := Lib.hid hs
      have hlt' : (i : Int) < (n : Int) := by omega
      clear hx hs
      cases hb : nameOk x with
      | true =>
        have HB := Lib.hid hb
        clear hb
        go_wp2_with (go_at_call 45; refine (clos1 ⟨x.toArray⟩ w HS.out HB.out).mono ?_; rintro e w' ⟨rfl, rfl⟩)
        go_round
        case rel => exact ⟨i + 1, by omega, by go_num, fun j y hj hy => by
          by_cases e : j = i
          · subst e; rw [HX.out] at hy; cases hy; rw [HB.out]; rfl
          · exact HG.out j y (by omega) hy⟩
        case measure => simp [intOf]; omega
      | false =>
        have HB := Lib.hid hb
        clear hb
        go_wp2_with (go_at_call 45; refine (clos1 ⟨x.toArray⟩ w HS.out HB.out).mono ?_; rintro e w' ⟨rfl, rfl⟩)
        go_ret
        exact ⟨_, rfl, by rw [any_true HX.out (by rw [HB.out]; rfl)]; simp, rfl⟩
    · obtain rfl : i = n := by omega
      go_wp2
      go_ret
      exact ⟨_, rfl, by rw [any_false HG.out (Nat.le_of_eq HL.out)]; rfl, rfl⟩
theorem idx2 (w : World) (A : Option Addr) (n c : Nat) (K : List BM) (hl : K.length = n) (h : BRows w A K) (hn : n ≤ 1000000) :
    Calls Tryz.prog 72 #[.slice A n c, .func (.func 51) #[] #[]] w (IxRet (K.any fun k => decide (262144 < k.l.length)) w) := by
  have HL := Lib.hid hl
  have HN := Lib.hid h
  clear hl h
  go_enter Tryz.func72, Tryz.ntmps72
  go_wp2
  go_loop [8] (fun x => ∃ i : Nat, i ≤ n ∧ x = .int .i64 (i : Int) ∧ Hid (∀ j k, j < i → K[j]? = some k → decide (262144 < k.l.length) = false)) (fun x => n - (intOf x).toNat)
  case atStart => exact ⟨0, by omega, rfl, fun j x hj => by omega⟩
  case round =>
    obtain ⟨i, hi, rfl, HG⟩ := hrel
    by_cases hlt : i < n
    · obtain ⟨k, hk⟩ : ∃ k, K[i]? = some k := ⟨K[i]'(by have := HL.out; omega), List.getElem?_eq_getElem _⟩
      obtain ⟨g, p, rfl, hg, hc⟩ := HN.out.cell i k hk
      have hln := (HN.out.rows k (List.mem_of_getElem? hk)).1
      have HX := Lib.hid hk
      have HLN := Lib.hid hln
      have hlt' : (i : Int) < (n : Int) := by omega
      clear hk hln
      by_cases hb : 262144 < k.n
      · have HB := Lib.hid hb
        clear hb
        go_wp2_with (go_at_call 51; refine (clos2 k.A k.n k.c w (b := true) (decide_eq_true (by have := HB.out; omega))).mono ?_; rintro e w' ⟨rfl, rfl⟩)
        go_ret
        exact ⟨_, rfl, by rw [any_true HX.out (decide_eq_true (by have := HB.out; have := HLN.out; omega))]; simp, rfl⟩
      · have HB := Lib.hid hb
        clear hb
        go_wp2_with (go_at_call 51; refine (clos2 k.A k.n k.c w (b := false) (decide_eq_false (by have := HB.out; omega))).mono ?_; rintro e w' ⟨rfl, rfl⟩)
        go_round
        case rel => exact ⟨i + 1, by omega, by go_num, fun j y hj hy => by
          by_cases e : j = i
          · subst e; rw [HX.out] at hy; cases hy; exact decide_eq_false (by have := HB.out; have := HLN.out; omega)
          · exact HG.out j y (by omega) hy⟩
        case measure => simp [intOf]; omega
    · obtain rfl : i = n := by omega
      go_wp2
      go_ret
      exact ⟨_, rfl, by rw [any_false HG.out (Nat.le_of_eq HL.out)]; rfl, rfl⟩
theorem cmp_any (w : World) (A : Option Addr) (n c : Nat) (zs : List Bs) (hl : zs.length = n) {base : Nat} (hown : w.ownsRow base 9 1 (.slice A n c) n (zs.map encStr)) (hn : n ≤ 1000000) (hb : base ≤ w.heap.size) :
    Calls Tryz.prog 47 #[.slice A n c] w fun e w' => ∃ A' c', e = .returned (.slice A' (compact zs).length c') ∧ Below base w w' := by
  rcases hown.2 with ⟨hv, hz⟩ | ⟨gb, cap, cur, hv, hbase, hgb, r1, r2, r3, r4⟩
  · have hzs : zs = [] := List.eq_nil_of_length_eq_zero (by omega)
    subst hzs hz
    exact (AnyG.slices_Compact_string_empty Tryz.compact47 A c w).mono fun e w' ⟨h1, h2⟩ => ⟨A, c, h1, h2 ▸ Below.refl _ _⟩
  · injection hv with h1 h2 h3
    subst h1 h3 hl
    have hH : Holds encStr w gb 0 zs.toArray := holds_of_block hgb (by simpa using r4)
    refine (AnyG.slices_Compact_string Tryz.compact47 gb 0 c zs w hH (by omega) r1).mono fun e w' ⟨h1, q, h2⟩ => ⟨_, c, h1, ?_⟩
    subst h2
    refine (Below.refl _ _).grown (row := some gb) ⟨rfl, rfl, rfl, by simp, fun k hk hne => ?_⟩ hb fun k hk => by cases hk; exact hbase
    have hgk : gb ≠ k := fun e => hne (by rw [e])
    simp [putRow, mapBlock, Sort.ahead, Array.getElem?_modify, hgk]
theorem con1 (w : World) (A : Option Addr) (n c : Nat) (ns : List Bs) (hl : ns.length = n) (h : Nms w A ns) (hn : n ≤ 1000000) {b : Bool} (hb : (ns.any fun x => !nameOk x) = b) :
    Calls Tryz.prog 44 #[.slice A n c, .func (.func 45) #[] #[]] w fun e w' => e = .returned (.bool b) ∧ w = w' := by
  have hc := idx1 w A n c ns hl h hn
  rw [hb] at hc
  clear hl h hb
  go_enter Tryz.func44, Tryz.ntmps44
  go_wp2_with (go_at_call 67; refine hc.mono ?_; rintro e w' ⟨r, rfl, hr, rfl⟩; have HR := Lib.hid hr; clear hr)
  go_ret
  exact ⟨by rw [← HR.out]; rfl, rfl⟩
theorem con2 (w : World) (A : Option Addr) (n c : Nat) (K : List BM) (hl : K.length = n) (h : BRows w A K) (hn : n ≤ 1000000) {b : Bool} (hb : (K.any fun k => decide (262144 < k.l.length)) = b) :
    Calls Tryz.prog 50 #[.slice A n c, .func (.func 51) #[] #[]] w fun e w' => e = .returned (.bool b) ∧ w = w' := by
  have hc := idx2 w A n c K hl h hn
  rw [hb] at hc
  clear hl h hb
  go_enter Tryz.func50, Tryz.ntmps50
  go_wp2_with (go_at_call 72; refine hc.mono ?_; rintro e w' ⟨r, rfl, hr, rfl⟩; have HR := Lib.hid hr; clear hr)
  go_ret
  exact ⟨by rw [← HR.out]; rfl, rfl⟩
theorem vals_any (A : Option Addr) (n c : Nat) (W : World) : Calls Tryz.prog 49 #[.slice A n c] W fun e w' => e = .returned (.func (.func 71) #[] #[.pointer (some ⟨W.heap.size, 0, none⟩)]) ∧ w' = W.alloc (.cells #[.slice A n c] 25) :=
  (callsIn_wide (n := 5)).1 (vals_in 5 W)
theorem sortedV_any (A : Option Addr) (n c : Nat) (ns : List Bs) (W : World) (hr : Nms W A ns) (hl : ns.length = n) (hn : n ≤ 1000000) :
    Calls Tryz.prog 48 #[.func (.func 71) #[] #[.pointer (some ⟨W.heap.size, 0, none⟩)]] (W.alloc (.cells #[.slice A n c] 25)) fun e w' => ∃ A' c', e = .returned (.slice A' n c') ∧ w'.ownsRow (W.heap.size + 1) 9 1 (.slice A' n c') n ((ns.mergeSort fun x y => decide (x ≤ y)).map encStr) ∧ Below W.heap.size W w' ∧ W.heap.size + 1 ≤ w'.heap.size := by
  have hb := (Below.refl W.heap.size W).alloc (Nat.le_refl _) (.cells #[.slice A n c] 25)
  refine ((callsIn_wide (n := 5)).1 (sortedV_in (W.alloc (.cells #[.slice A n c] 25)) (Bm := W.heap.size) (by simp) (by rw [World.cell?_alloc_mark]; rfl) (hr.r.below hb) hl hn)).mono fun e w' ⟨v, h1, h2, h3⟩ => ?_
  obtain ⟨A', c', rfl, _, _⟩ := own_shape h2
  rw [World.size_alloc] at h2
  exact ⟨A', c', h1, h2, hb.trans (h3.mono (by simp)), by have := h3.size; rw [World.size_alloc] at this; exact this⟩
def LeRet (k : Nat) (w : World) (e : Ending) (w' : World) : Prop := e = .returned (.int .i64 (k : Int)) ∧ Below w.heap.size w w'
theorem LeRet.mk {k : Nat} {c : Int} {w w' : World} (hb : Below w.heap.size w w') (h : c = (k : Int)) : LeRet k w (.returned (.int .i64 c)) w' := ⟨by rw [h], hb⟩
set_option maxHeartbeats 1000000 in
theorem loadError_any (w : World) (A : Option Addr) (n c : Nat) (ns : List Bs) (hl : ns.length = n) (h : Nms w A ns) (hn : n ≤ 1000) (A2 : Option Addr) (n2 c2 : Nat) (K : List BM) (hl2 : K.length = n2) (h2 : BRows w A2 K) (hn2 : n2 ≤ 1000) :
    Calls Tryz.prog 18 #[.slice A n c, .slice A2 n2 c2] w (LeRet (loadErr ns (K.map (·.l))) w) := by
  obtain ⟨r, hr⟩ : ∃ r, loadErr ns (K.map (·.l)) = r := ⟨_, rfl⟩
  rw [hr]
  have HR := Lib.hid hr
  have hr0 := hr
  clear hr
  unfold loadErr at hr0
  rw [List.length_map, hl, hl2] at hr0
  have HL := Lib.hid hl
  have HN := Lib.hid h
  have HF := Lib.hid h2
  have HL2 := Lib.hid hl2
  clear hl h h2 hl2
  by_cases c1 : n = n2
  · subst c1
    rw [if_neg (by simp)] at hr0
    cases hb : ns.any (fun x => !nameOk x) with
    | true =>
      rw [if_pos hb] at hr0
      subst hr0
      have hc := con1 w A n c ns HL.out HN.out (by omega) hb
      have HC := Lib.hid hc
      clear hb hc
      go_enter Tryz.func18, Tryz.ntmps18
      go_wp2_with (go_at_call 44; refine HC.out.mono ?_; rintro e w' ⟨rfl, rfl⟩)
      go_ret
      exact LeRet.mk (Below.refl _ _) rfl
    | false =>
      rw [if_neg (by rw [hb]; simp)] at hr0
      have HC := Lib.hid (con1 w A n c ns HL.out HN.out (by omega) hb)
      have HV := Lib.hid (vals_any A n c w)
      have HS := Lib.hid (sortedV_any A n c ns w HN.out HL.out (by omega))
      obtain ⟨m, hm⟩ : ∃ m, (compact (ns.mergeSort fun x y => decide (x ≤ y))).length = m := ⟨_, rfl⟩
      have hmn : m ≤ n := by
        have := compact_le (ns.mergeSort fun x y => decide (x ≤ y))
        rw [List.length_mergeSort, HL.out, hm] at this
        exact this
      have hiff : m = n ↔ ns.Nodup := by have := compact_sorted ns; rw [hm, HL.out] at this; exact this
      have HP : Hid (∀ (W : World) (A' : Option Addr) (c' : Nat), W.ownsRow (w.heap.size + 1) 9 1 (.slice A' n c') n ((ns.mergeSort fun x y => decide (x ≤ y)).map encStr) → w.heap.size + 1 ≤ W.heap.size → Calls Tryz.prog 47 #[.slice A' n c'] W fun e w' => ∃ A3 c3, e = .returned (.slice A3 m c3) ∧ Below (w.heap.size + 1) W w') := fun W A' c' ho hs => by
        have := cmp_any W A' n c' (ns.mergeSort fun x y => decide (x ≤ y)) (by rw [List.length_mergeSort]; exact HL.out) ho (by omega) hs
        rw [hm] at this
        exact this
      clear hb hm
      by_cases hd : ns.Nodup
      · rw [if_neg (by simpa using hd)] at hr0
        obtain rfl : m = n := hiff.2 hd
        clear hiff hd hmn
        by_cases h256 : 256 < m
        · rw [if_pos (.inl h256)] at hr0
          subst hr0
          go_enter Tryz.func18, Tryz.ntmps18
          go_wp2_with (first
            | (go_at_call 44; refine HC.out.mono ?_; rintro e w' ⟨rfl, rfl⟩)
            | (go_at_call 49; refine HV.out.mono ?_; rintro e w' ⟨rfl, rfl⟩)
            | (go_at_call 48; refine HS.out.mono ?_; rintro e w1 ⟨A1, c1, rfl, ho1, hb1, hs1⟩; have HO := Lib.hid ho1; have HB := Lib.hid hb1; have HZ := Lib.hid hs1; clear ho1 hb1 hs1)
            | (go_at_call 47; refine (HP.out _ _ _ HO.out HZ.out).mono ?_; rintro e w2 ⟨A3, c3, rfl, hb2⟩))
          go_ret
          exact LeRet.mk (HB.out.trans (hb2.mono (by omega))) rfl
        · have h256' : ¬ (256 : Int) < (m : Int) := by omega
          cases hf : K.any (fun k => decide (262144 < k.l.length)) with
          | true =>
            rw [if_pos (.inr (by rw [List.any_map]; exact hf))] at hr0
            subst hr0
            have HCF : Hid (∀ W, Below w.heap.size w W → Calls Tryz.prog 50 #[.slice A2 m c2, .func (.func 51) #[] #[]] W fun e w' => e = .returned (.bool true) ∧ W = w') := fun W k => con2 W A2 m c2 K HL2.out (HF.out.below k) (by omega) hf
            clear hf
            go_enter Tryz.func18, Tryz.ntmps18
            go_wp2_with (first
              | (go_at_call 44; refine HC.out.mono ?_; rintro e w' ⟨rfl, rfl⟩)
              | (go_at_call 49; refine HV.out.mono ?_; rintro e w' ⟨rfl, rfl⟩)
              | (go_at_call 48; refine HS.out.mono ?_; rintro e w1 ⟨A1, c1, rfl, ho1, hb1, hs1⟩; have HO := Lib.hid ho1; have HB := Lib.hid hb1; have HZ := Lib.hid hs1; clear ho1 hb1 hs1)
              | (go_at_call 47; refine (HP.out _ _ _ HO.out HZ.out).mono ?_; rintro e w2 ⟨A3, c3, rfl, hb2⟩; have HB2 := Lib.hid hb2; clear hb2)
              | (go_at_call 50; refine (HCF.out _ (HB.out.trans (HB2.out.mono (by omega)))).mono ?_; rintro e w3 ⟨rfl, rfl⟩))
            go_ret
            exact LeRet.mk (HB.out.trans (HB2.out.mono (by omega))) rfl
          | false =>
            rw [if_neg (by rw [List.any_map]; rintro (e | e); (· exact h256 e); exact absurd (hf.symm.trans e) (by decide))] at hr0
            subst hr0
            have HCF : Hid (∀ W, Below w.heap.size w W → Calls Tryz.prog 50 #[.slice A2 m c2, .func (.func 51) #[] #[]] W fun e w' => e = .returned (.bool false) ∧ W = w') := fun W k => con2 W A2 m c2 K HL2.out (HF.out.below k) (by omega) hf
            clear hf
            go_enter Tryz.func18, Tryz.ntmps18
            go_wp2_with (first
              | (go_at_call 44; refine HC.out.mono ?_; rintro e w' ⟨rfl, rfl⟩)
              | (go_at_call 49; refine HV.out.mono ?_; rintro e w' ⟨rfl, rfl⟩)
              | (go_at_call 48; refine HS.out.mono ?_; rintro e w1 ⟨A1, c1, rfl, ho1, hb1, hs1⟩; have HO := Lib.hid ho1; have HB := Lib.hid hb1; have HZ := Lib.hid hs1; clear ho1 hb1 hs1)
              | (go_at_call 47; refine (HP.out _ _ _ HO.out HZ.out).mono ?_; rintro e w2 ⟨A3, c3, rfl, hb2⟩; have HB2 := Lib.hid hb2; clear hb2)
              | (go_at_call 50; refine (HCF.out _ (HB.out.trans (HB2.out.mono (by omega)))).mono ?_; rintro e w3 ⟨rfl, rfl⟩))
            go_ret
            exact LeRet.mk (HB.out.trans (HB2.out.mono (by omega))) rfl
      · rw [if_pos (by simpa using hd)] at hr0
        subst hr0
        have hlt : m < n := by
          have : m ≠ n := fun e => hd (hiff.1 e)
          omega
        clear hiff hd hmn
        go_enter Tryz.func18, Tryz.ntmps18
        go_wp2_with (first
          | (go_at_call 44; refine HC.out.mono ?_; rintro e w' ⟨rfl, rfl⟩)
          | (go_at_call 49; refine HV.out.mono ?_; rintro e w' ⟨rfl, rfl⟩)
          | (go_at_call 48; refine HS.out.mono ?_; rintro e w1 ⟨A1, c1, rfl, ho1, hb1, hs1⟩; have HO := Lib.hid ho1; have HB := Lib.hid hb1; have HZ := Lib.hid hs1; clear ho1 hb1 hs1)
          | (go_at_call 47; refine (HP.out _ _ _ HO.out HZ.out).mono ?_; rintro e w2 ⟨A3, c3, rfl, hb2⟩))
        go_ret
        exact LeRet.mk (HB.out.trans (hb2.mono (by omega))) rfl
  · rw [if_pos c1] at hr0
    subst hr0
    have c1' : ¬ (n : Int) = (n2 : Int) := by omega
    go_enter Tryz.func18, Tryz.ntmps18
    go_wp2
    go_ret
    exact LeRet.mk (Below.refl _ _) rfl
end
end Dr
end Go.Proofs.YtbfmjonabndhaaaGreatDoor
