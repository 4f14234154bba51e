/-
  WHAT IS PROVED: what the reference's Put answers. CONDITIONS: the row stands in memory as named.
-/
import Derived.Test.YtfnfjhfmhinkcaaMRef
import Derived.Laws.OwnMore
namespace Go.Proofs.Ytfnfjhfmhinkcaa
open Go Go.RowKit Go.Maps Go.Sort Go.Proofs.Ytfnfjhfmhinkcaa.Fr
namespace Mm
section
variable {w : World} {A : Option Addr} {l : List En} {n c : Nat} {e : En}
set_option maxRecDepth 100000 in
set_option maxHeartbeats 1600000 in
theorem refput_bad {z : Int} (hz : entryErr e = z) (h0 : (z == 0) = false) :
    Calls Try.prog 18 #[.slice A n c, .agg #[.string e.key, .int .i64 e.seq, .bool e.del, .string e.val]] w fun x w' => x = .returned (.tuple #[.slice A n c, .int .i64 z]) ∧ Below w.heap.size w w' := by
  have hE := error_any (w.alloc (.cells #[.string e.key, .int .i64 e.seq, .bool e.del, .string e.val] 30)) e
  rw [hz] at hE
  have HE := Lib.hid hE
  clear hE hz
  go_enter Try.func18, Try.ntmps18
  go_wp2_with (go_at_call 25; refine HE.out.mono ?_; rintro x w2 ⟨rfl, hb2⟩)
  (try simp only [Exit.inBlock, Exit.then])
  refine bodyPost_ret (results_tmp2 rfl _ _ _) rfl ?_
  exact ⟨rfl, ((Below.refl _ _).alloc (Nat.le_refl _) _).trans (hb2.mono (by simp))⟩
/-- Nothing is appended. -/
theorem wpList_app0 {P : Program} (w : World) {ops : Array Oper} {rest : List Oper} {o : Oper} {a : Act} {Q : Exit → Act → World → Prop} (hgd : o.guard = none) (s x : Operand) (t : TypeId)
    (ho : o.op = .call { callee := .builtin .append, args := #[s, x], argTypes := #[t, t] })
    (base : Nat) (e : TypeId) (i : TypeInfo) (size : Nat) (ht : P.underlying t = some (.slice e)) (hi : P.info? e = some i) (_ : i.size = size)
    (v : Value) (n : Nat) (xs : List Value) (hs : a.eval s = v) (hown : w.ownsRow base e size v n xs) (hx : a.eval x = .slice none 0 0)
    (h : wpList P ops Q rest (a.put o.dst v) w) : wpList P ops Q (o :: rest) a w := by
  refine wpList_plain hgd fun _ hK => ?_
  have hrun := run_append_owned_none (P := P) w base t o.type e i size ht hi v n xs hown
  unfold Oper.wp execOp
  simp only [ho, resolve, invoke, builtin, Sem.run_bind, Sem.run_pure, Result.andThen_ok, List.map_toArray, List.map_cons, List.map_nil, hs, hx, hrun]
  exact hK _ _ h
theorem own_nil {W : World} {b : Nat} {v : Value} (h : W.ownsRow b 30 4 v (0 + 1) (ev (l.take 0 ++ [e]))) (hl : l.length = 0) : W.ownsRow b 30 4 v (0 + 1) (ev (l.take 0 ++ [e]) ++ ev (l.drop 0)) := by
  have : l = [] := List.length_eq_zero_iff.1 hl
  subst this
  rw [show ev (List.drop 0 ([] : List En)) = [] from rfl, List.append_nil]
  exact h
/-- What Put leaves of a list. -/
def twiceE (l : List En) (e : En) : Prop := ∃ x ∈ l, x.k = e.k ∧ x.seq = e.seq
def preE (l : List En) (e : En) : List En := l.takeWhile fun x => decide (bef x e.k e.seq)
def postE (l : List En) (e : En) : List En := l.dropWhile fun x => decide (bef x e.k e.seq)
theorem bef_irr {x e : En} (hk : x.k = e.k) (hq : x.seq = e.seq) : ¬ bef x e.k e.seq := by
  rintro (h | ⟨_, h⟩)
  · rw [hk] at h; exact absurd h (List.lt_irrefl _)
  · omega
theorem split_at {i : Nat} (h : ∀ x ∈ l.take i, bef x e.k e.seq) (h2 : ∀ x, l[i]? = some x → ¬ bef x e.k e.seq) : preE l e = l.take i ∧ postE l e = l.drop i := by
  have h3 : ∀ x ∈ l.take i, (fun x => decide (bef x e.k e.seq)) x = true := fun x hx => by simpa using h x hx
  have h4 : (l.drop i).takeWhile (fun x => decide (bef x e.k e.seq)) = [] ∧ (l.drop i).dropWhile (fun x => decide (bef x e.k e.seq)) = l.drop i := by
    cases hd : l.drop i with
    | nil => exact ⟨rfl, rfl⟩
    | cons y r =>
      have hy : l[i]? = some y := by
        have := congrArg (fun l => l[0]?) hd
        simpa using this
      have := h2 y hy
      exact ⟨List.takeWhile_cons_of_neg (by simpa using this), List.dropWhile_cons_of_neg (by simpa using this)⟩
  unfold preE postE
  refine ⟨?_, ?_⟩
  · conv => lhs; rw [← List.take_append_drop i l]
    rw [List.takeWhile_append_of_pos h3, h4.1, List.append_nil]
  · conv => lhs; rw [← List.take_append_drop i l]
    rw [List.dropWhile_append_of_pos h3, h4.2]
theorem twice_at {i : Nat} (hs : SortedE l) (h : ∀ x ∈ l.take i, bef x e.k e.seq) {x : En} (hx : l[i]? = some x) (hn : ¬ bef x e.k e.seq) : twiceE l e ↔ x.k = e.k ∧ x.seq = e.seq := by
  constructor
  · rintro ⟨y, hy, hk, hq⟩
    rw [← List.take_append_drop i l] at hy
    rcases List.mem_append.1 hy with hy | hy
    · exact absurd (h y hy) (bef_irr hk hq)
    · have hlt : i < l.length := (List.getElem?_eq_some_iff.1 hx).1
      have hd : l.drop i = x :: l.drop (i + 1) := by rw [List.drop_eq_getElem_cons hlt, (List.getElem?_eq_some_iff.1 hx).2]
      rw [hd] at hy
      rcases List.mem_cons.1 hy with rfl | hy
      · exact ⟨hk, hq⟩
      · have h3 : SortedE (l.drop i) := hs.sublist (List.drop_sublist _ _)
        rw [hd] at h3
        have h4 := (List.pairwise_cons.1 h3).1 y hy
        rw [hk, hq] at h4
        exact absurd h4 hn
  · rintro ⟨h1, h2⟩
    exact ⟨x, List.mem_of_getElem? hx, h1, h2⟩
theorem twice_end (h : ∀ x ∈ l, bef x e.k e.seq) : ¬ twiceE l e := by
  rintro ⟨y, hy, hk, hq⟩
  exact bef_irr hk hq (h y hy)
theorem below_of_drew {B : Nat} {w w' : World} (h : Below B w.drew w') : Below B w w' := ⟨h.os, h.tape, h.output, h.size, h.block⟩
theorem cells_below {wr w5 : World} {g p i E : Nat} {x : En} (hb6 : Below wr.heap.size wr w5) (hg : g < wr.heap.size) (hEl : E < wr.heap.size)
    (x0 : wr.cell? ⟨g, p + i * 4, none⟩ = some (.string x.key)) (x1 : wr.cell? ⟨g, p + i * 4 + 1, none⟩ = some (.int .i64 x.seq)) (x2 : wr.cell? ⟨g, p + i * 4 + 2, none⟩ = some (.bool x.del)) (x3 : wr.cell? ⟨g, p + i * 4 + 3, none⟩ = some (.string x.val))
    (e0 : wr.cell? ⟨E, 0, none⟩ = some (.string e.key)) (e1 : wr.cell? ⟨E, 1, none⟩ = some (.int .i64 e.seq)) (e2 : wr.cell? ⟨E, 2, none⟩ = some (.bool e.del)) (e3 : wr.cell? ⟨E, 3, none⟩ = some (.string e.val)) :
    (w5.cell? ⟨g, p + i * 4, none⟩ = some (.string x.key) ∧ w5.cell? ⟨g, p + i * 4 + 1, none⟩ = some (.int .i64 x.seq) ∧ w5.cell? ⟨g, p + i * 4 + 2, none⟩ = some (.bool x.del) ∧ w5.cell? ⟨g, p + i * 4 + 3, none⟩ = some (.string x.val)) ∧ (w5.cell? ⟨E, 0, none⟩ = some (.string e.key) ∧ w5.cell? ⟨E, 1, none⟩ = some (.int .i64 e.seq) ∧ w5.cell? ⟨E, 2, none⟩ = some (.bool e.del) ∧ w5.cell? ⟨E, 3, none⟩ = some (.string e.val)) :=
  let k := fun o => hb6.cell (p := ⟨g, o, none⟩) hg
  let m := fun o => hb6.cell (p := ⟨E, o, none⟩) hEl
  ⟨⟨(k _).trans x0, (k _).trans x1, (k _).trans x2, (k _).trans x3⟩, (m _).trans e0, (m _).trans e1, (m _).trans e2, (m _).trans e3⟩
theorem own_base {W : World} {b b' : Nat} {t : TypeId} {size n : Nat} {v : Value} {xs : List Value} (h : W.ownsRow b t size v n xs) (hb : b' ≤ b) : W.ownsRow b' t size v n xs := by
  obtain ⟨h1, h2⟩ := h
  refine ⟨h1, ?_⟩
  rcases h2 with h2 | ⟨g, cap, cur, r1, r2, r3⟩
  · exact .inl h2
  · exact .inr ⟨g, cap, cur, r1, Nat.le_trans hb r2, r3⟩
theorem own_snoc {W : World} {b i : Nat} {v : Value} {a : List En} (h : W.ownsRow b 30 4 v i (ev a ++ ecells e)) : W.ownsRow b 30 4 v i (ev (a ++ [e])) := by rw [ev_snoc]; exact h
theorem ev_one (l : List En) : ∀ u ∈ ev l, u.oneCell' = true := fun u hu => by
  obtain ⟨x, _, hx⟩ := List.mem_flatMap.1 hu
  exact ecells_one x u hx
theorem ev_append (a b : List En) : ev (a ++ b) = ev a ++ ev b := by unfold ev; rw [List.flatMap_append]
theorem src_cells {W : World} {g p i : Nat} (hA : Rd W (some ⟨g, p, none⟩) (ev l)) : ∀ j u, (ev (l.drop i))[j]? = some u → W.cell? ((⟨g, p + i * 4, none⟩ : Addr).add j) = some u := fun j u h => by
  have hi : i ≤ l.length := by
    rcases Nat.lt_or_ge l.length i with h1 | h1
    · rw [List.drop_eq_nil_of_le (by omega)] at h; simp [ev] at h
    · exact h1
  have h1 : (ev l)[i * 4 + j]? = some u := by
    conv => lhs; rw [← List.take_append_drop i l]
    rw [ev_append, List.getElem?_append_right (by rw [ev_len, List.length_take]; omega), ev_len, List.length_take, Nat.min_eq_left hi, Nat.add_sub_cancel_left]
    exact h
  have hlt := (List.getElem?_eq_some_iff.1 h1).1
  obtain ⟨g', p', e1, hg, hc⟩ := hA (by intro e2; rw [e2] at hlt; simp at hlt)
  cases e1
  rw [show (⟨g, p + i * 4, none⟩ : Addr).add j = ⟨g, p + (i * 4 + j), none⟩ by unfold Addr.add; simp [Nat.add_assoc], hc _ hlt, ← List.getElem?_eq_getElem, h1]
/-- The out row while it is copied. -/
def RpI (w2 : World) (l : List En) (e : En) (s7 s8 : Value) (W : World) : Prop :=
  ∃ (i : Nat) (A1 : Option Addr) (c1 : Nat), i ≤ l.length ∧ s8 = .int .i64 ((i : Nat) : Int) ∧ s7 = .slice A1 i c1 ∧ Hid (∀ x ∈ l.take i, bef x e.k e.seq) ∧
    Hid (W.ownsRow w2.heap.size 30 4 (.slice A1 i c1) i (ev (l.take i))) ∧ Hid (Below w2.heap.size w2 W)
/-- What Put answers of an entry that is good. -/
def RpRet (w : World) (A : Option Addr) (n c : Nat) (l : List En) (e : En) (x : Ending) (w' : World) : Prop :=
  (twiceE l e ∧ x = .returned (.tuple #[.slice A n c, .int .i64 2]) ∧ Below w.heap.size w w') ∨
  (¬ twiceE l e ∧ ∃ A' c', x = .returned (.tuple #[.slice A' (n + 1) c', .int .i64 0]) ∧ w'.ownsRow w.heap.size 30 4 (.slice A' (n + 1) c') (n + 1) (ev (preE l e ++ e :: postE l e)) ∧ Below w.heap.size w w')
theorem bef_snoc {i : Nat} {x : En} (h : ∀ x ∈ l.take i, bef x e.k e.seq) (hx : l[i]? = some x) (hb : bef x e.k e.seq) : ∀ y ∈ l.take (i + 1), bef y e.k e.seq := fun y hy => by
  rw [List.take_add_one, hx, List.mem_append] at hy
  rcases hy with hy | hy
  · exact h y hy
  · have : y = x := by simpa using hy
    rw [this]; exact hb
set_option maxRecDepth 100000 in
set_option maxHeartbeats 3200000 in
theorem refput_any (hz : entryErr e = 0) (hl : l.length = n) (hn : n ≤ 100000) (hs : SortedE l) (hnc : n ≤ c) (hA : Rd w A (ev l)) (hnil : (A = none ∧ c = 0 ∧ n = 0) ∨ ∃ g, A = some ⟨g, 0, none⟩) :
    Calls Try.prog 18 #[.slice A n c, .agg #[.string e.key, .int .i64 e.seq, .bool e.del, .string e.val]] w (RpRet w A n c l e) := by
  obtain ⟨ie, hie, hiz, hiz1, hiz2⟩ := info_parts info_entry
  have hE := error_any (w.alloc (.cells #[.string e.key, .int .i64 e.seq, .bool e.del, .string e.val] 30)) e
  rw [hz] at hE
  have HE := Lib.hid hE
  have HL := Lib.hid hl
  have HA := Lib.hid hA
  have HS := Lib.hid hs
  have HNIL := Lib.hid hnil
  clear hE hz hl hA hs hnil
  go_enter Try.func18, Try.ntmps18
  go_wp2_with (go_at_call 25; refine HE.out.mono ?_; rintro x w2 ⟨rfl, hb2⟩)
  have hEB : Blk w2 w.heap.size 30 #[.string e.key, .int .i64 e.seq, .bool e.del, .string e.val] := (Blk.new w _ _).same (hb2.block _ (by simp))
  have hb3 : Below w.heap.size w w2 := ((Below.refl _ w).alloc (Nat.le_refl _) _).trans (hb2.mono (by simp))
  obtain ⟨E, hE⟩ : ∃ E, E = w.heap.size := ⟨_, rfl⟩
  rw [← hE] at hEB ⊢
  have HEB := Lib.hid hEB
  have HW2 := Lib.hid hb3
  clear hb2 hb3 hEB hE HE
  go_loopw [7, 8] (RpI w2 l e) (fun _ p _ => n - (intOf p).toNat)
  case atStart => exact ⟨0, none, 0, Nat.zero_le _, rfl, rfl, Lib.hid (fun x hx => by simp at hx), Lib.hid ⟨rfl, .inl ⟨rfl, rfl⟩⟩, Lib.hid (Below.refl _ _)⟩
  case round =>
    obtain ⟨i, A1, c1, hi, rfl, rfl, HBF2, HO, HBB⟩ := hrel
    rw [HL.out] at hi
    have hEl : E < wr.heap.size := Nat.lt_of_lt_of_le HEB.out.lt HBB.out.size
    obtain ⟨⟨e0, e1, e2, e3⟩, _⟩ := cells4 (HEB.out.same (HBB.out.block _ HEB.out.lt))
    by_cases hlt : i < n
    · obtain ⟨x, hx⟩ : ∃ x, l[i]? = some x := ⟨l[i]'(by have := HL.out; omega), List.getElem?_eq_getElem _⟩
      have hbw : Below w.heap.size w wr := HW2.out.trans (HBB.out.mono HW2.out.size)
      obtain ⟨g, p, rfl, hg, x0, x1, x2, x3⟩ := erd_at (HA.out.below hbw) hx
      have k1 : (i : Int) < (n : Int) := by omega
      have k2 : (0 : Int) ≤ (i : Int) := by omega
      have HX := Lib.hid hx
      have hbf := fun W => before_any W x e
      obtain ⟨bb, hbb⟩ : ∃ bb, decide (bef x e.k e.seq) = bb := ⟨_, rfl⟩
      simp only [hbb] at hbf
      have HBF := Lib.hid hbf
      have HDB := Lib.hid hbb
      clear hx hbw hbf hbb
      cases bb with
      | true =>
        go_wp2
        refine wp_region_held_drew (S := fun W => (W.cell? ⟨g, p + i * 4, none⟩ = some (.string x.key) ∧ W.cell? ⟨g, p + i * 4 + 1, none⟩ = some (.int .i64 x.seq) ∧ W.cell? ⟨g, p + i * 4 + 2, none⟩ = some (.bool x.del) ∧ W.cell? ⟨g, p + i * 4 + 3, none⟩ = some (.string x.val)) ∧ W.cell? ⟨E, 0, none⟩ = some (.string e.key) ∧ W.cell? ⟨E, 1, none⟩ = some (.int .i64 e.seq) ∧ W.cell? ⟨E, 2, none⟩ = some (.bool e.del) ∧ W.cell? ⟨E, 3, none⟩ = some (.string e.val)) (by kernel_rfl) (by (first | exact ⟨⟨x0, x1, x2, x3⟩, e0, e1, e2, e3⟩ | exact HS5)) (fun hHeld => ?_)
        refine wpAnyH_take (i := 0) (v := ?vr1_0) (Fr.take_at rfl) (by kernel_rfl) (by kernel_rfl) (by kernel_rfl) (fun _ _ _ h => h) (Or.inl ⟨by rfl, ?yr1_0⟩) (by assumption) ?nr1_0
        case yr1_0 => (intro w_ hSw; obtain ⟨⟨y0, y1, y2, y3⟩, y4, y5, y6, y7⟩ := hSw; go_simp; (try with_reducible rfl))
        try simp only [Act.put, List.setIfInBounds_toArray, List.set_cons_zero, List.set_cons_succ]
        refine wpAnyH_take (i := 1) (v := ?vr1_1) (Fr.take_at rfl) (by kernel_rfl) (by kernel_rfl) (by kernel_rfl) (fun _ _ _ h => h) (Or.inl ⟨by rfl, ?yr1_1⟩) (by assumption) ?nr1_1
        case yr1_1 => (intro w_ hSw; obtain ⟨⟨y0, y1, y2, y3⟩, y4, y5, y6, y7⟩ := hSw; go_simp; (try with_reducible rfl))
        try simp only [Act.put, List.setIfInBounds_toArray, List.set_cons_zero, List.set_cons_succ]
        refine wpAnyH_take (i := 2) (v := ?vr1_2) (Fr.take_at rfl) (by kernel_rfl) (by kernel_rfl) (by kernel_rfl) (fun _ _ _ h => h) (Or.inl ⟨by rfl, ?yr1_2⟩) (by assumption) ?nr1_2
        case yr1_2 => (intro w_ hSw; obtain ⟨⟨y0, y1, y2, y3⟩, y4, y5, y6, y7⟩ := hSw; go_simp; (try with_reducible rfl))
        try simp only [Act.put, List.setIfInBounds_toArray, List.set_cons_zero, List.set_cons_succ]
        refine wpAnyH_take (i := 3) (v := ?vr1_3) (Fr.take_at rfl) (by kernel_rfl) (by kernel_rfl) (by kernel_rfl) (fun _ _ _ h => h) (Or.inl ⟨by rfl, ?yr1_3⟩) (by assumption) ?nr1_3
        case yr1_3 => (intro w_ hSw; obtain ⟨⟨y0, y1, y2, y3⟩, y4, y5, y6, y7⟩ := hSw; go_simp; (try with_reducible rfl))
        try simp only [Act.put, List.setIfInBounds_toArray, List.set_cons_zero, List.set_cons_succ]
        refine wpAnyH_take (i := 4) (v := ?vr1_4) (Fr.take_at rfl) (by kernel_rfl) (by kernel_rfl) (by kernel_rfl) (fun _ _ _ h => h) (Or.inl ⟨by rfl, ?yr1_4⟩) (by assumption) ?nr1_4
        case yr1_4 => (intro w_ hSw; obtain ⟨⟨y0, y1, y2, y3⟩, y4, y5, y6, y7⟩ := hSw; go_simp; (try with_reducible rfl))
        try simp only [Act.put, List.setIfInBounds_toArray, List.set_cons_zero, List.set_cons_succ]
        refine wpAnyH_take (i := 5) (v := ?vr1_5) (Fr.take_at rfl) (by kernel_rfl) (by kernel_rfl) (by kernel_rfl) (fun _ _ _ h => h) (Or.inl ⟨by rfl, ?yr1_5⟩) (by assumption) ?nr1_5
        case yr1_5 => (intro w_ hSw; obtain ⟨⟨y0, y1, y2, y3⟩, y4, y5, y6, y7⟩ := hSw; go_simp; (try with_reducible rfl))
        try simp only [Act.put, List.setIfInBounds_toArray, List.set_cons_zero, List.set_cons_succ]
        refine wpAnyH_take (i := 6) (v := ?vr1_6) (Fr.take_at rfl) (by kernel_rfl) (by kernel_rfl) (by kernel_rfl) (fun _ _ _ h => h) (Or.inl ⟨by rfl, ?yr1_6⟩) (by assumption) ?nr1_6
        case yr1_6 => (intro w_ hSw; obtain ⟨⟨y0, y1, y2, y3⟩, y4, y5, y6, y7⟩ := hSw; go_simp; (try with_reducible rfl))
        try simp only [Act.put, List.setIfInBounds_toArray, List.set_cons_zero, List.set_cons_succ]
        refine wpAnyH_take (i := 7) (v := ?vr1_7) (Fr.take_at rfl) (by kernel_rfl) (by kernel_rfl) (by kernel_rfl) (fun _ _ _ h => h) (Or.inl ⟨by rfl, ?yr1_7⟩) (by assumption) ?nr1_7
        case yr1_7 => (intro w_ hSw; obtain ⟨⟨y0, y1, y2, y3⟩, y4, y5, y6, y7⟩ := hSw; go_simp; (try with_reducible rfl))
        try simp only [Act.put, List.setIfInBounds_toArray, List.set_cons_zero, List.set_cons_succ]
        refine wpAnyH_take (i := 8) (v := ?vr1_8) (Fr.take_at rfl) (by kernel_rfl) (by kernel_rfl) (by kernel_rfl) (fun _ _ _ h => h) (Or.inl ⟨by rfl, ?yr1_8⟩) (by assumption) ?nr1_8
        case yr1_8 => (intro w_ hSw; obtain ⟨⟨y0, y1, y2, y3⟩, y4, y5, y6, y7⟩ := hSw; go_simp; (try with_reducible rfl))
        try simp only [Act.put, List.setIfInBounds_toArray, List.set_cons_zero, List.set_cons_succ]
        refine wpAnyH_take (i := 9) (v := ?vr1_9) (Fr.take_at rfl) (by kernel_rfl) (by kernel_rfl) (by kernel_rfl) (fun _ _ _ h => h) (Or.inl ⟨by rfl, ?yr1_9⟩) (by assumption) ?nr1_9
        case yr1_9 => (intro w_ hSw; obtain ⟨⟨y0, y1, y2, y3⟩, y4, y5, y6, y7⟩ := hSw; go_simp; (try with_reducible rfl))
        try simp only [Act.put, List.setIfInBounds_toArray, List.set_cons_zero, List.set_cons_succ]
        refine wpAnyH_ready (rs := [10]) (by kernel_rfl) (by simp) ?_
        refine AllReadyH.cons (Fr.take_at rfl) (fun K hK => ?_) AllReadyH.nil
        go_simp
        (go_at_call 26; refine (HBF.out _).mono ?_; rintro z w5 ⟨rfl, hb5⟩; have hb6 : Below wr.heap.size wr w5 := below_of_drew hb5; have HS5 : (w5.cell? ⟨g, p + i * 4, none⟩ = some (.string x.key) ∧ w5.cell? ⟨g, p + i * 4 + 1, none⟩ = some (.int .i64 x.seq) ∧ w5.cell? ⟨g, p + i * 4 + 2, none⟩ = some (.bool x.del) ∧ w5.cell? ⟨g, p + i * 4 + 3, none⟩ = some (.string x.val)) ∧ (w5.cell? ⟨E, 0, none⟩ = some (.string e.key) ∧ w5.cell? ⟨E, 1, none⟩ = some (.int .i64 e.seq) ∧ w5.cell? ⟨E, 2, none⟩ = some (.bool e.del) ∧ w5.cell? ⟨E, 3, none⟩ = some (.string e.val)) := cells_below hb6 hg hEl x0 x1 x2 x3 e0 e1 e2 e3)
        try go_wp2_with fail
        refine hK.out _ _ (by (first | exact ⟨⟨x0, x1, x2, x3⟩, e0, e1, e2, e3⟩ | exact HS5)) (fun hHeld => ?_)
        clear hK K
        try simp only [Act.put, List.setIfInBounds_toArray, List.set_cons_zero, List.set_cons_succ]
        refine wpAnyH_take (i := 11) (v := ?vr1_11) (Fr.take_at rfl) (by kernel_rfl) (by kernel_rfl) (by kernel_rfl) (fun _ _ _ h => h) (Or.inl ⟨by rfl, ?yr1_11⟩) (by assumption) ?nr1_11
        case yr1_11 => (intro w_ hSw; obtain ⟨⟨y0, y1, y2, y3⟩, y4, y5, y6, y7⟩ := hSw; go_simp; (try with_reducible rfl))
        try simp only [Act.put, List.setIfInBounds_toArray, List.set_cons_zero, List.set_cons_succ]
        refine wpAnyH_done (by kernel_rfl) ?_ _
        have HO5 := Lib.hid (own_belowN HO.out hb6)
        have HB5 := Lib.hid (HBB.out.trans (hb6.mono HBB.out.size))
        obtain ⟨⟨x0, x1, x2, x3⟩, e0, e1, e2, e3⟩ := HS5
        have hsz5 : w2.heap.size ≤ w5.heap.size := HB5.out.size
        go_wp2_with (at_builtin; go_loud (refine wpList_appN _ rfl (.tmp 27) (.tmp 32) _ rfl w2.heap.size 30 ie _ 4 48 Try.underlying26 hie hiz hiz1 hiz2 rfl (by decide) _ i (ev (l.take i)) rfl (HO5.out.alloc _) ⟨_, 0, none⟩ 1 1 (ecells x) rfl rfl (one_cells _ _ _) (ecells_one _) (i + 1) rfl (by unfold maxLen; omega) (by omega) (by simp; omega) ?_; intro A9 c9 w9 hown9 hb9 hg9))
        go_roundw
        case rel => exact ⟨i + 1, A9, c9, by rw [HL.out]; omega, by simp, rfl, Lib.hid (bef_snoc HBF2.out HX.out (of_decide_eq_true HDB.out)), Lib.hid (by rw [List.take_add_one, HX.out]; exact own_snoc hown9), Lib.hid (HB5.out.trans (((Below.refl _ _).alloc hsz5 _).trans hb9))⟩
        case measure => simp [intOf]; omega
      | false =>
        have hnb : ¬ bef x e.k e.seq := of_decide_eq_false HDB.out
        have htw := twice_at HS.out HBF2.out HX.out hnb
        have hsp := split_at HBF2.out (fun y hy => by rw [HX.out] at hy; cases hy; exact hnb)
        have HTW := Lib.hid htw
        have hpp : ∀ (W : World) (v : Value), W.ownsRow w.heap.size 30 4 v (n + 1) (ev (l.take i ++ [e]) ++ ev (l.drop i)) → W.ownsRow w.heap.size 30 4 v (n + 1) (ev (preE l e ++ e :: postE l e)) := fun W v h => by
          rw [hsp.1, hsp.2, show ev (l.take i ++ e :: l.drop i) = ev (l.take i ++ [e]) ++ ev (l.drop i) by simp [ev]]
          exact h
        have HPP := Lib.hid hpp
        have HSL := Lib.hid (fun W (hW : Below w2.heap.size w2 W) => src_cells (i := i) (HA.out.below (HW2.out.trans (hW.mono HW2.out.size))))
        clear hpp
        clear hnb htw hsp
        go_wp2
        refine wp_region_held_drew (S := fun W => (W.cell? ⟨g, p + i * 4, none⟩ = some (.string x.key) ∧ W.cell? ⟨g, p + i * 4 + 1, none⟩ = some (.int .i64 x.seq) ∧ W.cell? ⟨g, p + i * 4 + 2, none⟩ = some (.bool x.del) ∧ W.cell? ⟨g, p + i * 4 + 3, none⟩ = some (.string x.val)) ∧ W.cell? ⟨E, 0, none⟩ = some (.string e.key) ∧ W.cell? ⟨E, 1, none⟩ = some (.int .i64 e.seq) ∧ W.cell? ⟨E, 2, none⟩ = some (.bool e.del) ∧ W.cell? ⟨E, 3, none⟩ = some (.string e.val)) (by kernel_rfl) (by (first | exact ⟨⟨x0, x1, x2, x3⟩, e0, e1, e2, e3⟩ | exact HS5)) (fun hHeld => ?_)
        refine wpAnyH_take (i := 0) (v := ?vr2_0) (Fr.take_at rfl) (by kernel_rfl) (by kernel_rfl) (by kernel_rfl) (fun _ _ _ h => h) (Or.inl ⟨by rfl, ?yr2_0⟩) (by assumption) ?nr2_0
        case yr2_0 => (intro w_ hSw; obtain ⟨⟨y0, y1, y2, y3⟩, y4, y5, y6, y7⟩ := hSw; go_simp; (try with_reducible rfl))
        try simp only [Act.put, List.setIfInBounds_toArray, List.set_cons_zero, List.set_cons_succ]
        refine wpAnyH_take (i := 1) (v := ?vr2_1) (Fr.take_at rfl) (by kernel_rfl) (by kernel_rfl) (by kernel_rfl) (fun _ _ _ h => h) (Or.inl ⟨by rfl, ?yr2_1⟩) (by assumption) ?nr2_1
        case yr2_1 => (intro w_ hSw; obtain ⟨⟨y0, y1, y2, y3⟩, y4, y5, y6, y7⟩ := hSw; go_simp; (try with_reducible rfl))
        try simp only [Act.put, List.setIfInBounds_toArray, List.set_cons_zero, List.set_cons_succ]
        refine wpAnyH_take (i := 2) (v := ?vr2_2) (Fr.take_at rfl) (by kernel_rfl) (by kernel_rfl) (by kernel_rfl) (fun _ _ _ h => h) (Or.inl ⟨by rfl, ?yr2_2⟩) (by assumption) ?nr2_2
        case yr2_2 => (intro w_ hSw; obtain ⟨⟨y0, y1, y2, y3⟩, y4, y5, y6, y7⟩ := hSw; go_simp; (try with_reducible rfl))
        try simp only [Act.put, List.setIfInBounds_toArray, List.set_cons_zero, List.set_cons_succ]
        refine wpAnyH_take (i := 3) (v := ?vr2_3) (Fr.take_at rfl) (by kernel_rfl) (by kernel_rfl) (by kernel_rfl) (fun _ _ _ h => h) (Or.inl ⟨by rfl, ?yr2_3⟩) (by assumption) ?nr2_3
        case yr2_3 => (intro w_ hSw; obtain ⟨⟨y0, y1, y2, y3⟩, y4, y5, y6, y7⟩ := hSw; go_simp; (try with_reducible rfl))
        try simp only [Act.put, List.setIfInBounds_toArray, List.set_cons_zero, List.set_cons_succ]
        refine wpAnyH_take (i := 4) (v := ?vr2_4) (Fr.take_at rfl) (by kernel_rfl) (by kernel_rfl) (by kernel_rfl) (fun _ _ _ h => h) (Or.inl ⟨by rfl, ?yr2_4⟩) (by assumption) ?nr2_4
        case yr2_4 => (intro w_ hSw; obtain ⟨⟨y0, y1, y2, y3⟩, y4, y5, y6, y7⟩ := hSw; go_simp; (try with_reducible rfl))
        try simp only [Act.put, List.setIfInBounds_toArray, List.set_cons_zero, List.set_cons_succ]
        refine wpAnyH_take (i := 5) (v := ?vr2_5) (Fr.take_at rfl) (by kernel_rfl) (by kernel_rfl) (by kernel_rfl) (fun _ _ _ h => h) (Or.inl ⟨by rfl, ?yr2_5⟩) (by assumption) ?nr2_5
        case yr2_5 => (intro w_ hSw; obtain ⟨⟨y0, y1, y2, y3⟩, y4, y5, y6, y7⟩ := hSw; go_simp; (try with_reducible rfl))
        try simp only [Act.put, List.setIfInBounds_toArray, List.set_cons_zero, List.set_cons_succ]
        refine wpAnyH_take (i := 6) (v := ?vr2_6) (Fr.take_at rfl) (by kernel_rfl) (by kernel_rfl) (by kernel_rfl) (fun _ _ _ h => h) (Or.inl ⟨by rfl, ?yr2_6⟩) (by assumption) ?nr2_6
        case yr2_6 => (intro w_ hSw; obtain ⟨⟨y0, y1, y2, y3⟩, y4, y5, y6, y7⟩ := hSw; go_simp; (try with_reducible rfl))
        try simp only [Act.put, List.setIfInBounds_toArray, List.set_cons_zero, List.set_cons_succ]
        refine wpAnyH_take (i := 7) (v := ?vr2_7) (Fr.take_at rfl) (by kernel_rfl) (by kernel_rfl) (by kernel_rfl) (fun _ _ _ h => h) (Or.inl ⟨by rfl, ?yr2_7⟩) (by assumption) ?nr2_7
        case yr2_7 => (intro w_ hSw; obtain ⟨⟨y0, y1, y2, y3⟩, y4, y5, y6, y7⟩ := hSw; go_simp; (try with_reducible rfl))
        try simp only [Act.put, List.setIfInBounds_toArray, List.set_cons_zero, List.set_cons_succ]
        refine wpAnyH_take (i := 8) (v := ?vr2_8) (Fr.take_at rfl) (by kernel_rfl) (by kernel_rfl) (by kernel_rfl) (fun _ _ _ h => h) (Or.inl ⟨by rfl, ?yr2_8⟩) (by assumption) ?nr2_8
        case yr2_8 => (intro w_ hSw; obtain ⟨⟨y0, y1, y2, y3⟩, y4, y5, y6, y7⟩ := hSw; go_simp; (try with_reducible rfl))
        try simp only [Act.put, List.setIfInBounds_toArray, List.set_cons_zero, List.set_cons_succ]
        refine wpAnyH_take (i := 9) (v := ?vr2_9) (Fr.take_at rfl) (by kernel_rfl) (by kernel_rfl) (by kernel_rfl) (fun _ _ _ h => h) (Or.inl ⟨by rfl, ?yr2_9⟩) (by assumption) ?nr2_9
        case yr2_9 => (intro w_ hSw; obtain ⟨⟨y0, y1, y2, y3⟩, y4, y5, y6, y7⟩ := hSw; go_simp; (try with_reducible rfl))
        try simp only [Act.put, List.setIfInBounds_toArray, List.set_cons_zero, List.set_cons_succ]
        refine wpAnyH_ready (rs := [10]) (by kernel_rfl) (by simp) ?_
        refine AllReadyH.cons (Fr.take_at rfl) (fun K hK => ?_) AllReadyH.nil
        go_simp
        (go_at_call 26; refine (HBF.out _).mono ?_; rintro z w5 ⟨rfl, hb5⟩; have hb6 : Below wr.heap.size wr w5 := below_of_drew hb5; have HS5 : (w5.cell? ⟨g, p + i * 4, none⟩ = some (.string x.key) ∧ w5.cell? ⟨g, p + i * 4 + 1, none⟩ = some (.int .i64 x.seq) ∧ w5.cell? ⟨g, p + i * 4 + 2, none⟩ = some (.bool x.del) ∧ w5.cell? ⟨g, p + i * 4 + 3, none⟩ = some (.string x.val)) ∧ (w5.cell? ⟨E, 0, none⟩ = some (.string e.key) ∧ w5.cell? ⟨E, 1, none⟩ = some (.int .i64 e.seq) ∧ w5.cell? ⟨E, 2, none⟩ = some (.bool e.del) ∧ w5.cell? ⟨E, 3, none⟩ = some (.string e.val)) := cells_below hb6 hg hEl x0 x1 x2 x3 e0 e1 e2 e3)
        try go_wp2_with fail
        refine hK.out _ _ (by (first | exact ⟨⟨x0, x1, x2, x3⟩, e0, e1, e2, e3⟩ | exact HS5)) (fun hHeld => ?_)
        clear hK K
        try simp only [Act.put, List.setIfInBounds_toArray, List.set_cons_zero, List.set_cons_succ]
        refine wpAnyH_take (i := 11) (v := ?vr2_11) (Fr.take_at rfl) (by kernel_rfl) (by kernel_rfl) (by kernel_rfl) (fun _ _ _ h => h) (Or.inl ⟨by rfl, ?yr2_11⟩) (by assumption) ?nr2_11
        case yr2_11 => (intro w_ hSw; obtain ⟨⟨y0, y1, y2, y3⟩, y4, y5, y6, y7⟩ := hSw; go_simp; (try with_reducible rfl))
        try simp only [Act.put, List.setIfInBounds_toArray, List.set_cons_zero, List.set_cons_succ]
        refine wpAnyH_done (by kernel_rfl) ?_ _
        have HO5 := Lib.hid (own_belowN HO.out hb6)
        have HB5 := Lib.hid (HBB.out.trans (hb6.mono HBB.out.size))
        clear x0 x1 x2 x3 e0 e1 e2 e3
        obtain ⟨⟨x0, x1, x2, x3⟩, e0, e1, e2, e3⟩ := HS5
        by_cases hk : x.k = e.k
        · have hk2 : (x.key.toList == e.key.toList) = true := by simpa [En.k] using hk
          by_cases hq : x.seq = e.seq
          · have HTR := Lib.hid (HTW.out.2 ⟨hk, hq⟩)
            have hq2 : (x.seq == e.seq) = true := by simpa using hq
            clear hk hq HTW
            go_wp2
            refine wp_region_held_drew (S := fun W => (W.cell? ⟨g, p + i * 4, none⟩ = some (.string x.key) ∧ W.cell? ⟨g, p + i * 4 + 1, none⟩ = some (.int .i64 x.seq) ∧ W.cell? ⟨g, p + i * 4 + 2, none⟩ = some (.bool x.del) ∧ W.cell? ⟨g, p + i * 4 + 3, none⟩ = some (.string x.val)) ∧ W.cell? ⟨E, 0, none⟩ = some (.string e.key) ∧ W.cell? ⟨E, 1, none⟩ = some (.int .i64 e.seq) ∧ W.cell? ⟨E, 2, none⟩ = some (.bool e.del) ∧ W.cell? ⟨E, 3, none⟩ = some (.string e.val)) (by kernel_rfl) (by (exact ⟨⟨x0, x1, x2, x3⟩, e0, e1, e2, e3⟩)) (fun hHeld => ?_)
            refine wpAnyH_take (i := 0) (v := ?vr3_0) (Fr.take_at rfl) (by kernel_rfl) (by kernel_rfl) (by kernel_rfl) (fun _ _ _ h => h) (Or.inl ⟨by rfl, ?yr3_0⟩) (by assumption) ?nr3_0
            case yr3_0 => (intro w_ hSw; obtain ⟨⟨y0, y1, y2, y3⟩, y4, y5, y6, y7⟩ := hSw; go_simp; (try with_reducible rfl))
            try simp only [Act.put, List.setIfInBounds_toArray, List.set_cons_zero, List.set_cons_succ]
            refine wpAnyH_take (i := 1) (v := ?vr3_1) (Fr.take_at rfl) (by kernel_rfl) (by kernel_rfl) (by kernel_rfl) (fun _ _ _ h => h) (Or.inl ⟨by rfl, ?yr3_1⟩) (by assumption) ?nr3_1
            case yr3_1 => (intro w_ hSw; obtain ⟨⟨y0, y1, y2, y3⟩, y4, y5, y6, y7⟩ := hSw; go_simp; (try with_reducible rfl))
            try simp only [Act.put, List.setIfInBounds_toArray, List.set_cons_zero, List.set_cons_succ]
            refine wpAnyH_take (i := 2) (v := ?vr3_2) (Fr.take_at rfl) (by kernel_rfl) (by kernel_rfl) (by kernel_rfl) (fun _ _ _ h => h) (Or.inl ⟨by rfl, ?yr3_2⟩) (by assumption) ?nr3_2
            case yr3_2 => (intro w_ hSw; obtain ⟨⟨y0, y1, y2, y3⟩, y4, y5, y6, y7⟩ := hSw; go_simp; (try with_reducible rfl))
            try simp only [Act.put, List.setIfInBounds_toArray, List.set_cons_zero, List.set_cons_succ]
            refine wpAnyH_take (i := 3) (v := ?vr3_3) (Fr.take_at rfl) (by kernel_rfl) (by kernel_rfl) (by kernel_rfl) (fun _ _ _ h => h) (Or.inl ⟨by rfl, ?yr3_3⟩) (by assumption) ?nr3_3
            case yr3_3 => (intro w_ hSw; obtain ⟨⟨y0, y1, y2, y3⟩, y4, y5, y6, y7⟩ := hSw; go_simp; (try with_reducible rfl))
            try simp only [Act.put, List.setIfInBounds_toArray, List.set_cons_zero, List.set_cons_succ]
            refine wpAnyH_take (i := 4) (v := ?vr3_4) (Fr.take_at rfl) (by kernel_rfl) (by kernel_rfl) (by kernel_rfl) (fun _ _ _ h => h) (Or.inl ⟨by rfl, ?yr3_4⟩) (by assumption) ?nr3_4
            case yr3_4 => (intro w_ hSw; obtain ⟨⟨y0, y1, y2, y3⟩, y4, y5, y6, y7⟩ := hSw; go_simp; (try with_reducible rfl))
            try simp only [Act.put, List.setIfInBounds_toArray, List.set_cons_zero, List.set_cons_succ]
            refine wpAnyH_take (i := 5) (v := ?vr3_5) (Fr.take_at rfl) (by kernel_rfl) (by kernel_rfl) (by kernel_rfl) (fun _ _ _ h => h) (Or.inl ⟨by rfl, ?yr3_5⟩) (by assumption) ?nr3_5
            case yr3_5 => (intro w_ hSw; obtain ⟨⟨y0, y1, y2, y3⟩, y4, y5, y6, y7⟩ := hSw; go_simp; (try with_reducible rfl))
            try simp only [Act.put, List.setIfInBounds_toArray, List.set_cons_zero, List.set_cons_succ]
            refine wpAnyH_take (i := 6) (v := ?vr3_6) (Fr.take_at rfl) (by kernel_rfl) (by kernel_rfl) (by kernel_rfl) (fun _ _ _ h => h) (Or.inl ⟨by rfl, ?yr3_6⟩) (by assumption) ?nr3_6
            case yr3_6 => (intro w_ hSw; obtain ⟨⟨y0, y1, y2, y3⟩, y4, y5, y6, y7⟩ := hSw; go_simp; (try with_reducible rfl))
            try simp only [Act.put, List.setIfInBounds_toArray, List.set_cons_zero, List.set_cons_succ]
            refine wpAnyH_take (i := 7) (v := ?vr3_7) (Fr.take_at rfl) (by kernel_rfl) (by kernel_rfl) (by kernel_rfl) (fun _ _ _ h => h) (Or.inl ⟨by rfl, ?yr3_7⟩) (by assumption) ?nr3_7
            case yr3_7 => (intro w_ hSw; obtain ⟨⟨y0, y1, y2, y3⟩, y4, y5, y6, y7⟩ := hSw; go_simp; (try with_reducible rfl))
            try simp only [Act.put, List.setIfInBounds_toArray, List.set_cons_zero, List.set_cons_succ]
            refine wpAnyH_take (i := 8) (v := ?vr3_8) (Fr.take_at rfl) (by kernel_rfl) (by kernel_rfl) (by kernel_rfl) (fun _ _ _ h => h) (Or.inl ⟨by rfl, ?yr3_8⟩) (by assumption) ?nr3_8
            case yr3_8 => (intro w_ hSw; obtain ⟨⟨y0, y1, y2, y3⟩, y4, y5, y6, y7⟩ := hSw; go_simp; (try with_reducible rfl))
            try simp only [Act.put, List.setIfInBounds_toArray, List.set_cons_zero, List.set_cons_succ]
            refine wpAnyH_take (i := 9) (v := ?vr3_9) (Fr.take_at rfl) (by kernel_rfl) (by kernel_rfl) (by kernel_rfl) (fun _ _ _ h => h) (Or.inl ⟨by rfl, ?yr3_9⟩) (by assumption) ?nr3_9
            case yr3_9 => (intro w_ hSw; obtain ⟨⟨y0, y1, y2, y3⟩, y4, y5, y6, y7⟩ := hSw; go_simp; (try with_reducible rfl))
            try simp only [Act.put, List.setIfInBounds_toArray, List.set_cons_zero, List.set_cons_succ]
            refine wpAnyH_take (i := 10) (v := ?vr3_10) (Fr.take_at rfl) (by kernel_rfl) (by kernel_rfl) (by kernel_rfl) (fun _ _ _ h => h) (Or.inl ⟨by rfl, ?yr3_10⟩) (by assumption) ?nr3_10
            case yr3_10 => (intro w_ hSw; obtain ⟨⟨y0, y1, y2, y3⟩, y4, y5, y6, y7⟩ := hSw; go_simp; (try with_reducible rfl))
            try simp only [Act.put, List.setIfInBounds_toArray, List.set_cons_zero, List.set_cons_succ]
            refine wpAnyH_take (i := 11) (v := ?vr3_11) (Fr.take_at rfl) (by kernel_rfl) (by kernel_rfl) (by kernel_rfl) (fun _ _ _ h => h) (Or.inl ⟨by rfl, ?yr3_11⟩) (by assumption) ?nr3_11
            case yr3_11 => (intro w_ hSw; obtain ⟨⟨y0, y1, y2, y3⟩, y4, y5, y6, y7⟩ := hSw; go_simp; (try with_reducible rfl))
            try simp only [Act.put, List.setIfInBounds_toArray, List.set_cons_zero, List.set_cons_succ]
            refine wpAnyH_take (i := 12) (v := ?vr3_12) (Fr.take_at rfl) (by kernel_rfl) (by kernel_rfl) (by kernel_rfl) (fun _ _ _ h => h) (Or.inl ⟨by rfl, ?yr3_12⟩) (by assumption) ?nr3_12
            case yr3_12 => (intro w_ hSw; obtain ⟨⟨y0, y1, y2, y3⟩, y4, y5, y6, y7⟩ := hSw; go_simp; (try with_reducible rfl))
            try simp only [Act.put, List.setIfInBounds_toArray, List.set_cons_zero, List.set_cons_succ]
            refine wpAnyH_take (i := 13) (v := ?vr3_13) (Fr.take_at rfl) (by kernel_rfl) (by kernel_rfl) (by kernel_rfl) (fun _ _ _ h => h) (Or.inl ⟨by rfl, ?yr3_13⟩) (by assumption) ?nr3_13
            case yr3_13 => (intro w_ hSw; obtain ⟨⟨y0, y1, y2, y3⟩, y4, y5, y6, y7⟩ := hSw; go_simp; (try with_reducible rfl))
            try simp only [Act.put, List.setIfInBounds_toArray, List.set_cons_zero, List.set_cons_succ]
            refine wpAnyH_take (i := 14) (v := ?vr3_14) (Fr.take_at rfl) (by kernel_rfl) (by kernel_rfl) (by kernel_rfl) (fun _ _ _ h => h) (Or.inl ⟨by rfl, ?yr3_14⟩) (by assumption) ?nr3_14
            case yr3_14 => (intro w_ hSw; obtain ⟨⟨y0, y1, y2, y3⟩, y4, y5, y6, y7⟩ := hSw; go_simp; (try with_reducible rfl))
            try simp only [Act.put, List.setIfInBounds_toArray, List.set_cons_zero, List.set_cons_succ]
            refine wpAnyH_take (i := 15) (v := ?vr3_15) (Fr.take_at rfl) (by kernel_rfl) (by kernel_rfl) (by kernel_rfl) (fun _ _ _ h => h) (Or.inl ⟨by rfl, ?yr3_15⟩) (by assumption) ?nr3_15
            case yr3_15 => (intro w_ hSw; obtain ⟨⟨y0, y1, y2, y3⟩, y4, y5, y6, y7⟩ := hSw; go_simp; (try with_reducible rfl))
            try simp only [Act.put, List.setIfInBounds_toArray, List.set_cons_zero, List.set_cons_succ]
            refine wpAnyH_take (i := 16) (v := ?vr3_16) (Fr.take_at rfl) (by kernel_rfl) (by kernel_rfl) (by kernel_rfl) (fun _ _ _ h => h) (Or.inl ⟨by rfl, ?yr3_16⟩) (by assumption) ?nr3_16
            case yr3_16 => (intro w_ hSw; obtain ⟨⟨y0, y1, y2, y3⟩, y4, y5, y6, y7⟩ := hSw; go_simp; (try with_reducible rfl))
            try simp only [Act.put, List.setIfInBounds_toArray, List.set_cons_zero, List.set_cons_succ]
            refine wpAnyH_take (i := 17) (v := ?vr3_17) (Fr.take_at rfl) (by kernel_rfl) (by kernel_rfl) (by kernel_rfl) (fun _ _ _ h => h) (Or.inl ⟨by rfl, ?yr3_17⟩) (by assumption) ?nr3_17
            case yr3_17 => (intro w_ hSw; obtain ⟨⟨y0, y1, y2, y3⟩, y4, y5, y6, y7⟩ := hSw; go_simp; (try with_reducible rfl))
            try simp only [Act.put, List.setIfInBounds_toArray, List.set_cons_zero, List.set_cons_succ]
            refine wpAnyH_take (i := 18) (v := ?vr3_18) (Fr.take_at rfl) (by kernel_rfl) (by kernel_rfl) (by kernel_rfl) (fun _ _ _ h => h) (Or.inl ⟨by rfl, ?yr3_18⟩) (by assumption) ?nr3_18
            case yr3_18 => (intro w_ hSw; obtain ⟨⟨y0, y1, y2, y3⟩, y4, y5, y6, y7⟩ := hSw; go_simp; (try with_reducible rfl))
            try simp only [Act.put, List.setIfInBounds_toArray, List.set_cons_zero, List.set_cons_succ]
            refine wpAnyH_take (i := 19) (v := ?vr3_19) (Fr.take_at rfl) (by kernel_rfl) (by kernel_rfl) (by kernel_rfl) (fun _ _ _ h => h) (Or.inl ⟨by rfl, ?yr3_19⟩) (by assumption) ?nr3_19
            case yr3_19 => (intro w_ hSw; obtain ⟨⟨y0, y1, y2, y3⟩, y4, y5, y6, y7⟩ := hSw; go_simp; (try with_reducible rfl))
            try simp only [Act.put, List.setIfInBounds_toArray, List.set_cons_zero, List.set_cons_succ]
            refine wpAnyH_take (i := 20) (v := ?vr3_20) (Fr.take_at rfl) (by kernel_rfl) (by kernel_rfl) (by kernel_rfl) (fun _ _ _ h => h) (Or.inl ⟨by rfl, ?yr3_20⟩) (by assumption) ?nr3_20
            case yr3_20 => (intro w_ hSw; obtain ⟨⟨y0, y1, y2, y3⟩, y4, y5, y6, y7⟩ := hSw; go_simp; (try with_reducible rfl))
            try simp only [Act.put, List.setIfInBounds_toArray, List.set_cons_zero, List.set_cons_succ]
            refine wpAnyH_take (i := 21) (v := ?vr3_21) (Fr.take_at rfl) (by kernel_rfl) (by kernel_rfl) (by kernel_rfl) (fun _ _ _ h => h) (Or.inl ⟨by rfl, ?yr3_21⟩) (by assumption) ?nr3_21
            case yr3_21 => (intro w_ hSw; obtain ⟨⟨y0, y1, y2, y3⟩, y4, y5, y6, y7⟩ := hSw; go_simp; (try with_reducible rfl))
            try simp only [Act.put, List.setIfInBounds_toArray, List.set_cons_zero, List.set_cons_succ]
            refine wpAnyH_take (i := 22) (v := ?vr3_22) (Fr.take_at rfl) (by kernel_rfl) (by kernel_rfl) (by kernel_rfl) (fun _ _ _ h => h) (Or.inl ⟨by rfl, ?yr3_22⟩) (by assumption) ?nr3_22
            case yr3_22 => (intro w_ hSw; obtain ⟨⟨y0, y1, y2, y3⟩, y4, y5, y6, y7⟩ := hSw; go_simp; (try with_reducible rfl))
            try simp only [Act.put, List.setIfInBounds_toArray, List.set_cons_zero, List.set_cons_succ]
            refine wpAnyH_take (i := 23) (v := ?vr3_23) (Fr.take_at rfl) (by kernel_rfl) (by kernel_rfl) (by kernel_rfl) (fun _ _ _ h => h) (Or.inl ⟨by rfl, ?yr3_23⟩) (by assumption) ?nr3_23
            case yr3_23 => (intro w_ hSw; obtain ⟨⟨y0, y1, y2, y3⟩, y4, y5, y6, y7⟩ := hSw; go_simp; (try with_reducible rfl))
            try simp only [Act.put, List.setIfInBounds_toArray, List.set_cons_zero, List.set_cons_succ]
            refine wpAnyH_done (by kernel_rfl) ?_ _
            go_wp2
            (try simp only [Exit.inBlock, Exit.then])
            refine bodyPost_ret (results_tmp2 rfl _ _ _) rfl ?_
            exact .inl ⟨HTR.out, rfl, HW2.out.trans ((below_drewN HB5.out 1).mono HW2.out.size)⟩
          · have HNT := Lib.hid (fun h => hq (HTW.out.1 h).2)
            have hq2 : (x.seq == e.seq) = false := by simpa using hq
            clear hk hq HTW
            go_wp2
            refine wp_region_held_drew (S := fun W => (W.cell? ⟨g, p + i * 4, none⟩ = some (.string x.key) ∧ W.cell? ⟨g, p + i * 4 + 1, none⟩ = some (.int .i64 x.seq) ∧ W.cell? ⟨g, p + i * 4 + 2, none⟩ = some (.bool x.del) ∧ W.cell? ⟨g, p + i * 4 + 3, none⟩ = some (.string x.val)) ∧ W.cell? ⟨E, 0, none⟩ = some (.string e.key) ∧ W.cell? ⟨E, 1, none⟩ = some (.int .i64 e.seq) ∧ W.cell? ⟨E, 2, none⟩ = some (.bool e.del) ∧ W.cell? ⟨E, 3, none⟩ = some (.string e.val)) (by kernel_rfl) (by (exact ⟨⟨x0, x1, x2, x3⟩, e0, e1, e2, e3⟩)) (fun hHeld => ?_)
            refine wpAnyH_take (i := 0) (v := ?vr4_0) (Fr.take_at rfl) (by kernel_rfl) (by kernel_rfl) (by kernel_rfl) (fun _ _ _ h => h) (Or.inl ⟨by rfl, ?yr4_0⟩) (by assumption) ?nr4_0
            case yr4_0 => (intro w_ hSw; obtain ⟨⟨y0, y1, y2, y3⟩, y4, y5, y6, y7⟩ := hSw; go_simp; (try with_reducible rfl))
            try simp only [Act.put, List.setIfInBounds_toArray, List.set_cons_zero, List.set_cons_succ]
            refine wpAnyH_take (i := 1) (v := ?vr4_1) (Fr.take_at rfl) (by kernel_rfl) (by kernel_rfl) (by kernel_rfl) (fun _ _ _ h => h) (Or.inl ⟨by rfl, ?yr4_1⟩) (by assumption) ?nr4_1
            case yr4_1 => (intro w_ hSw; obtain ⟨⟨y0, y1, y2, y3⟩, y4, y5, y6, y7⟩ := hSw; go_simp; (try with_reducible rfl))
            try simp only [Act.put, List.setIfInBounds_toArray, List.set_cons_zero, List.set_cons_succ]
            refine wpAnyH_take (i := 2) (v := ?vr4_2) (Fr.take_at rfl) (by kernel_rfl) (by kernel_rfl) (by kernel_rfl) (fun _ _ _ h => h) (Or.inl ⟨by rfl, ?yr4_2⟩) (by assumption) ?nr4_2
            case yr4_2 => (intro w_ hSw; obtain ⟨⟨y0, y1, y2, y3⟩, y4, y5, y6, y7⟩ := hSw; go_simp; (try with_reducible rfl))
            try simp only [Act.put, List.setIfInBounds_toArray, List.set_cons_zero, List.set_cons_succ]
            refine wpAnyH_take (i := 3) (v := ?vr4_3) (Fr.take_at rfl) (by kernel_rfl) (by kernel_rfl) (by kernel_rfl) (fun _ _ _ h => h) (Or.inl ⟨by rfl, ?yr4_3⟩) (by assumption) ?nr4_3
            case yr4_3 => (intro w_ hSw; obtain ⟨⟨y0, y1, y2, y3⟩, y4, y5, y6, y7⟩ := hSw; go_simp; (try with_reducible rfl))
            try simp only [Act.put, List.setIfInBounds_toArray, List.set_cons_zero, List.set_cons_succ]
            refine wpAnyH_take (i := 4) (v := ?vr4_4) (Fr.take_at rfl) (by kernel_rfl) (by kernel_rfl) (by kernel_rfl) (fun _ _ _ h => h) (Or.inl ⟨by rfl, ?yr4_4⟩) (by assumption) ?nr4_4
            case yr4_4 => (intro w_ hSw; obtain ⟨⟨y0, y1, y2, y3⟩, y4, y5, y6, y7⟩ := hSw; go_simp; (try with_reducible rfl))
            try simp only [Act.put, List.setIfInBounds_toArray, List.set_cons_zero, List.set_cons_succ]
            refine wpAnyH_take (i := 5) (v := ?vr4_5) (Fr.take_at rfl) (by kernel_rfl) (by kernel_rfl) (by kernel_rfl) (fun _ _ _ h => h) (Or.inl ⟨by rfl, ?yr4_5⟩) (by assumption) ?nr4_5
            case yr4_5 => (intro w_ hSw; obtain ⟨⟨y0, y1, y2, y3⟩, y4, y5, y6, y7⟩ := hSw; go_simp; (try with_reducible rfl))
            try simp only [Act.put, List.setIfInBounds_toArray, List.set_cons_zero, List.set_cons_succ]
            refine wpAnyH_take (i := 6) (v := ?vr4_6) (Fr.take_at rfl) (by kernel_rfl) (by kernel_rfl) (by kernel_rfl) (fun _ _ _ h => h) (Or.inl ⟨by rfl, ?yr4_6⟩) (by assumption) ?nr4_6
            case yr4_6 => (intro w_ hSw; obtain ⟨⟨y0, y1, y2, y3⟩, y4, y5, y6, y7⟩ := hSw; go_simp; (try with_reducible rfl))
            try simp only [Act.put, List.setIfInBounds_toArray, List.set_cons_zero, List.set_cons_succ]
            refine wpAnyH_take (i := 7) (v := ?vr4_7) (Fr.take_at rfl) (by kernel_rfl) (by kernel_rfl) (by kernel_rfl) (fun _ _ _ h => h) (Or.inl ⟨by rfl, ?yr4_7⟩) (by assumption) ?nr4_7
            case yr4_7 => (intro w_ hSw; obtain ⟨⟨y0, y1, y2, y3⟩, y4, y5, y6, y7⟩ := hSw; go_simp; (try with_reducible rfl))
            try simp only [Act.put, List.setIfInBounds_toArray, List.set_cons_zero, List.set_cons_succ]
            refine wpAnyH_take (i := 8) (v := ?vr4_8) (Fr.take_at rfl) (by kernel_rfl) (by kernel_rfl) (by kernel_rfl) (fun _ _ _ h => h) (Or.inl ⟨by rfl, ?yr4_8⟩) (by assumption) ?nr4_8
            case yr4_8 => (intro w_ hSw; obtain ⟨⟨y0, y1, y2, y3⟩, y4, y5, y6, y7⟩ := hSw; go_simp; (try with_reducible rfl))
            try simp only [Act.put, List.setIfInBounds_toArray, List.set_cons_zero, List.set_cons_succ]
            refine wpAnyH_take (i := 9) (v := ?vr4_9) (Fr.take_at rfl) (by kernel_rfl) (by kernel_rfl) (by kernel_rfl) (fun _ _ _ h => h) (Or.inl ⟨by rfl, ?yr4_9⟩) (by assumption) ?nr4_9
            case yr4_9 => (intro w_ hSw; obtain ⟨⟨y0, y1, y2, y3⟩, y4, y5, y6, y7⟩ := hSw; go_simp; (try with_reducible rfl))
            try simp only [Act.put, List.setIfInBounds_toArray, List.set_cons_zero, List.set_cons_succ]
            refine wpAnyH_take (i := 10) (v := ?vr4_10) (Fr.take_at rfl) (by kernel_rfl) (by kernel_rfl) (by kernel_rfl) (fun _ _ _ h => h) (Or.inl ⟨by rfl, ?yr4_10⟩) (by assumption) ?nr4_10
            case yr4_10 => (intro w_ hSw; obtain ⟨⟨y0, y1, y2, y3⟩, y4, y5, y6, y7⟩ := hSw; go_simp; (try with_reducible rfl))
            try simp only [Act.put, List.setIfInBounds_toArray, List.set_cons_zero, List.set_cons_succ]
            refine wpAnyH_take (i := 11) (v := ?vr4_11) (Fr.take_at rfl) (by kernel_rfl) (by kernel_rfl) (by kernel_rfl) (fun _ _ _ h => h) (Or.inl ⟨by rfl, ?yr4_11⟩) (by assumption) ?nr4_11
            case yr4_11 => (intro w_ hSw; obtain ⟨⟨y0, y1, y2, y3⟩, y4, y5, y6, y7⟩ := hSw; go_simp; (try with_reducible rfl))
            try simp only [Act.put, List.setIfInBounds_toArray, List.set_cons_zero, List.set_cons_succ]
            refine wpAnyH_take (i := 12) (v := ?vr4_12) (Fr.take_at rfl) (by kernel_rfl) (by kernel_rfl) (by kernel_rfl) (fun _ _ _ h => h) (Or.inl ⟨by rfl, ?yr4_12⟩) (by assumption) ?nr4_12
            case yr4_12 => (intro w_ hSw; obtain ⟨⟨y0, y1, y2, y3⟩, y4, y5, y6, y7⟩ := hSw; go_simp; (try with_reducible rfl))
            try simp only [Act.put, List.setIfInBounds_toArray, List.set_cons_zero, List.set_cons_succ]
            refine wpAnyH_take (i := 13) (v := ?vr4_13) (Fr.take_at rfl) (by kernel_rfl) (by kernel_rfl) (by kernel_rfl) (fun _ _ _ h => h) (Or.inl ⟨by rfl, ?yr4_13⟩) (by assumption) ?nr4_13
            case yr4_13 => (intro w_ hSw; obtain ⟨⟨y0, y1, y2, y3⟩, y4, y5, y6, y7⟩ := hSw; go_simp; (try with_reducible rfl))
            try simp only [Act.put, List.setIfInBounds_toArray, List.set_cons_zero, List.set_cons_succ]
            refine wpAnyH_take (i := 14) (v := ?vr4_14) (Fr.take_at rfl) (by kernel_rfl) (by kernel_rfl) (by kernel_rfl) (fun _ _ _ h => h) (Or.inl ⟨by rfl, ?yr4_14⟩) (by assumption) ?nr4_14
            case yr4_14 => (intro w_ hSw; obtain ⟨⟨y0, y1, y2, y3⟩, y4, y5, y6, y7⟩ := hSw; go_simp; (try with_reducible rfl))
            try simp only [Act.put, List.setIfInBounds_toArray, List.set_cons_zero, List.set_cons_succ]
            refine wpAnyH_take (i := 15) (v := ?vr4_15) (Fr.take_at rfl) (by kernel_rfl) (by kernel_rfl) (by kernel_rfl) (fun _ _ _ h => h) (Or.inl ⟨by rfl, ?yr4_15⟩) (by assumption) ?nr4_15
            case yr4_15 => (intro w_ hSw; obtain ⟨⟨y0, y1, y2, y3⟩, y4, y5, y6, y7⟩ := hSw; go_simp; (try with_reducible rfl))
            try simp only [Act.put, List.setIfInBounds_toArray, List.set_cons_zero, List.set_cons_succ]
            refine wpAnyH_take (i := 16) (v := ?vr4_16) (Fr.take_at rfl) (by kernel_rfl) (by kernel_rfl) (by kernel_rfl) (fun _ _ _ h => h) (Or.inl ⟨by rfl, ?yr4_16⟩) (by assumption) ?nr4_16
            case yr4_16 => (intro w_ hSw; obtain ⟨⟨y0, y1, y2, y3⟩, y4, y5, y6, y7⟩ := hSw; go_simp; (try with_reducible rfl))
            try simp only [Act.put, List.setIfInBounds_toArray, List.set_cons_zero, List.set_cons_succ]
            refine wpAnyH_take (i := 17) (v := ?vr4_17) (Fr.take_at rfl) (by kernel_rfl) (by kernel_rfl) (by kernel_rfl) (fun _ _ _ h => h) (Or.inl ⟨by rfl, ?yr4_17⟩) (by assumption) ?nr4_17
            case yr4_17 => (intro w_ hSw; obtain ⟨⟨y0, y1, y2, y3⟩, y4, y5, y6, y7⟩ := hSw; go_simp; (try with_reducible rfl))
            try simp only [Act.put, List.setIfInBounds_toArray, List.set_cons_zero, List.set_cons_succ]
            refine wpAnyH_take (i := 18) (v := ?vr4_18) (Fr.take_at rfl) (by kernel_rfl) (by kernel_rfl) (by kernel_rfl) (fun _ _ _ h => h) (Or.inl ⟨by rfl, ?yr4_18⟩) (by assumption) ?nr4_18
            case yr4_18 => (intro w_ hSw; obtain ⟨⟨y0, y1, y2, y3⟩, y4, y5, y6, y7⟩ := hSw; go_simp; (try with_reducible rfl))
            try simp only [Act.put, List.setIfInBounds_toArray, List.set_cons_zero, List.set_cons_succ]
            refine wpAnyH_take (i := 19) (v := ?vr4_19) (Fr.take_at rfl) (by kernel_rfl) (by kernel_rfl) (by kernel_rfl) (fun _ _ _ h => h) (Or.inl ⟨by rfl, ?yr4_19⟩) (by assumption) ?nr4_19
            case yr4_19 => (intro w_ hSw; obtain ⟨⟨y0, y1, y2, y3⟩, y4, y5, y6, y7⟩ := hSw; go_simp; (try with_reducible rfl))
            try simp only [Act.put, List.setIfInBounds_toArray, List.set_cons_zero, List.set_cons_succ]
            refine wpAnyH_take (i := 20) (v := ?vr4_20) (Fr.take_at rfl) (by kernel_rfl) (by kernel_rfl) (by kernel_rfl) (fun _ _ _ h => h) (Or.inl ⟨by rfl, ?yr4_20⟩) (by assumption) ?nr4_20
            case yr4_20 => (intro w_ hSw; obtain ⟨⟨y0, y1, y2, y3⟩, y4, y5, y6, y7⟩ := hSw; go_simp; (try with_reducible rfl))
            try simp only [Act.put, List.setIfInBounds_toArray, List.set_cons_zero, List.set_cons_succ]
            refine wpAnyH_take (i := 21) (v := ?vr4_21) (Fr.take_at rfl) (by kernel_rfl) (by kernel_rfl) (by kernel_rfl) (fun _ _ _ h => h) (Or.inl ⟨by rfl, ?yr4_21⟩) (by assumption) ?nr4_21
            case yr4_21 => (intro w_ hSw; obtain ⟨⟨y0, y1, y2, y3⟩, y4, y5, y6, y7⟩ := hSw; go_simp; (try with_reducible rfl))
            try simp only [Act.put, List.setIfInBounds_toArray, List.set_cons_zero, List.set_cons_succ]
            refine wpAnyH_take (i := 22) (v := ?vr4_22) (Fr.take_at rfl) (by kernel_rfl) (by kernel_rfl) (by kernel_rfl) (fun _ _ _ h => h) (Or.inl ⟨by rfl, ?yr4_22⟩) (by assumption) ?nr4_22
            case yr4_22 => (intro w_ hSw; obtain ⟨⟨y0, y1, y2, y3⟩, y4, y5, y6, y7⟩ := hSw; go_simp; (try with_reducible rfl))
            try simp only [Act.put, List.setIfInBounds_toArray, List.set_cons_zero, List.set_cons_succ]
            refine wpAnyH_take (i := 23) (v := ?vr4_23) (Fr.take_at rfl) (by kernel_rfl) (by kernel_rfl) (by kernel_rfl) (fun _ _ _ h => h) (Or.inl ⟨by rfl, ?yr4_23⟩) (by assumption) ?nr4_23
            case yr4_23 => (intro w_ hSw; obtain ⟨⟨y0, y1, y2, y3⟩, y4, y5, y6, y7⟩ := hSw; go_simp; (try with_reducible rfl))
            try simp only [Act.put, List.setIfInBounds_toArray, List.set_cons_zero, List.set_cons_succ]
            refine wpAnyH_done (by kernel_rfl) ?_ _
            have HO5 := Lib.hid (show (w5.drewN 1).ownsRow w2.heap.size 30 4 (.slice A1 i c1) i (ev (l.take i)) from HO5.out)
            have HB5 := Lib.hid (show Below w2.heap.size w2 (w5.drewN 1) from below_drewN HB5.out 1)
            have HBS := Lib.hid (fun o : Obj => show w2.heap.size ≤ ((w5.drewN 1).alloc o).heap.size from Nat.le_trans HB5.out.size (by simp))
            go_wp2_with (first
              | (at_builtin; have _ := hO3; go_loud (refine wpList_appN _ rfl (.tmp 65) (.tmp 68) _ rfl w2.heap.size 30 ie _ 4 48 Try.underlying26 hie hiz hiz1 hiz2 rfl (by decide) _ (i + 1) (ev (l.take i ++ [e])) rfl HO3.out _ (n - i) _ (ev (l.drop i)) rfl (by rw [ev_len, List.length_drop, HL.out]) (HSL.out _ HB3.out) (ev_one _) (n + 1) (by omega) (by unfold maxLen; omega) (by omega) (HB3.out.size) ?_; intro A4 c4 w4 hown4 hb4 _))
              | (at_builtin; go_loud (refine wpList_appN _ rfl (.tmp 61) (.tmp 63) _ rfl w2.heap.size 30 ie _ 4 48 Try.underlying26 hie hiz hiz1 hiz2 rfl (by decide) _ i (ev (l.take i)) rfl (HO5.out.alloc _) ⟨_, 0, none⟩ 1 1 (ecells e) rfl rfl (one_cells _ _ _) (ecells_one _) (i + 1) rfl (by unfold maxLen; omega) (by omega) (HBS.out _) ?_; intro A3 c3 w3 hown3 hb3 hg3; have HO3 := Lib.hid (own_snoc hown3); have HB3 := Lib.hid (HB5.out.trans (((Below.refl _ _).alloc HB5.out.size _).trans hb3)); have hO3 := True.intro; clear hown3 hg3)))
            (try simp only [Exit.inBlock, Exit.then])
            refine bodyPost_ret (results_tmp2 rfl _ _ _) rfl ?_
            exact .inr ⟨HNT.out, A4, c4, rfl, HPP.out _ _ (own_base hown4 HW2.out.size), HW2.out.trans ((HB3.out.trans hb4).mono HW2.out.size)⟩
        · have hk2 : (x.key.toList == e.key.toList) = false := by simpa [En.k] using hk
          have HNT := Lib.hid (fun h => hk (HTW.out.1 h).1)
          clear hk HTW
          go_wp2
          refine wp_region_held_drew (S := fun W => (W.cell? ⟨g, p + i * 4, none⟩ = some (.string x.key) ∧ W.cell? ⟨g, p + i * 4 + 1, none⟩ = some (.int .i64 x.seq) ∧ W.cell? ⟨g, p + i * 4 + 2, none⟩ = some (.bool x.del) ∧ W.cell? ⟨g, p + i * 4 + 3, none⟩ = some (.string x.val)) ∧ W.cell? ⟨E, 0, none⟩ = some (.string e.key) ∧ W.cell? ⟨E, 1, none⟩ = some (.int .i64 e.seq) ∧ W.cell? ⟨E, 2, none⟩ = some (.bool e.del) ∧ W.cell? ⟨E, 3, none⟩ = some (.string e.val)) (by kernel_rfl) (by (exact ⟨⟨x0, x1, x2, x3⟩, e0, e1, e2, e3⟩)) (fun hHeld => ?_)
          refine wpAnyH_take (i := 0) (v := ?vr5_0) (Fr.take_at rfl) (by kernel_rfl) (by kernel_rfl) (by kernel_rfl) (fun _ _ _ h => h) (Or.inl ⟨by rfl, ?yr5_0⟩) (by assumption) ?nr5_0
          case yr5_0 => (intro w_ hSw; obtain ⟨⟨y0, y1, y2, y3⟩, y4, y5, y6, y7⟩ := hSw; go_simp; (try with_reducible rfl))
          try simp only [Act.put, List.setIfInBounds_toArray, List.set_cons_zero, List.set_cons_succ]
          refine wpAnyH_take (i := 1) (v := ?vr5_1) (Fr.take_at rfl) (by kernel_rfl) (by kernel_rfl) (by kernel_rfl) (fun _ _ _ h => h) (Or.inl ⟨by rfl, ?yr5_1⟩) (by assumption) ?nr5_1
          case yr5_1 => (intro w_ hSw; obtain ⟨⟨y0, y1, y2, y3⟩, y4, y5, y6, y7⟩ := hSw; go_simp; (try with_reducible rfl))
          try simp only [Act.put, List.setIfInBounds_toArray, List.set_cons_zero, List.set_cons_succ]
          refine wpAnyH_take (i := 2) (v := ?vr5_2) (Fr.take_at rfl) (by kernel_rfl) (by kernel_rfl) (by kernel_rfl) (fun _ _ _ h => h) (Or.inl ⟨by rfl, ?yr5_2⟩) (by assumption) ?nr5_2
          case yr5_2 => (intro w_ hSw; obtain ⟨⟨y0, y1, y2, y3⟩, y4, y5, y6, y7⟩ := hSw; go_simp; (try with_reducible rfl))
          try simp only [Act.put, List.setIfInBounds_toArray, List.set_cons_zero, List.set_cons_succ]
          refine wpAnyH_take (i := 3) (v := ?vr5_3) (Fr.take_at rfl) (by kernel_rfl) (by kernel_rfl) (by kernel_rfl) (fun _ _ _ h => h) (Or.inl ⟨by rfl, ?yr5_3⟩) (by assumption) ?nr5_3
          case yr5_3 => (intro w_ hSw; obtain ⟨⟨y0, y1, y2, y3⟩, y4, y5, y6, y7⟩ := hSw; go_simp; (try with_reducible rfl))
          try simp only [Act.put, List.setIfInBounds_toArray, List.set_cons_zero, List.set_cons_succ]
          refine wpAnyH_take (i := 4) (v := ?vr5_4) (Fr.take_at rfl) (by kernel_rfl) (by kernel_rfl) (by kernel_rfl) (fun _ _ _ h => h) (Or.inl ⟨by rfl, ?yr5_4⟩) (by assumption) ?nr5_4
          case yr5_4 => (intro w_ hSw; obtain ⟨⟨y0, y1, y2, y3⟩, y4, y5, y6, y7⟩ := hSw; go_simp; (try with_reducible rfl))
          try simp only [Act.put, List.setIfInBounds_toArray, List.set_cons_zero, List.set_cons_succ]
          refine wpAnyH_take (i := 5) (v := ?vr5_5) (Fr.take_at rfl) (by kernel_rfl) (by kernel_rfl) (by kernel_rfl) (fun _ _ _ h => h) (Or.inl ⟨by rfl, ?yr5_5⟩) (by assumption) ?nr5_5
          case yr5_5 => (intro w_ hSw; obtain ⟨⟨y0, y1, y2, y3⟩, y4, y5, y6, y7⟩ := hSw; go_simp; (try with_reducible rfl))
          try simp only [Act.put, List.setIfInBounds_toArray, List.set_cons_zero, List.set_cons_succ]
          refine wpAnyH_take (i := 6) (v := ?vr5_6) (Fr.take_at rfl) (by kernel_rfl) (by kernel_rfl) (by kernel_rfl) (fun _ _ _ h => h) (Or.inl ⟨by rfl, ?yr5_6⟩) (by assumption) ?nr5_6
          case yr5_6 => (intro w_ hSw; obtain ⟨⟨y0, y1, y2, y3⟩, y4, y5, y6, y7⟩ := hSw; go_simp; (try with_reducible rfl))
          try simp only [Act.put, List.setIfInBounds_toArray, List.set_cons_zero, List.set_cons_succ]
          refine wpAnyH_take (i := 7) (v := ?vr5_7) (Fr.take_at rfl) (by kernel_rfl) (by kernel_rfl) (by kernel_rfl) (fun _ _ _ h => h) (Or.inl ⟨by rfl, ?yr5_7⟩) (by assumption) ?nr5_7
          case yr5_7 => (intro w_ hSw; obtain ⟨⟨y0, y1, y2, y3⟩, y4, y5, y6, y7⟩ := hSw; go_simp; (try with_reducible rfl))
          try simp only [Act.put, List.setIfInBounds_toArray, List.set_cons_zero, List.set_cons_succ]
          refine wpAnyH_take (i := 8) (v := ?vr5_8) (Fr.take_at rfl) (by kernel_rfl) (by kernel_rfl) (by kernel_rfl) (fun _ _ _ h => h) (Or.inl ⟨by rfl, ?yr5_8⟩) (by assumption) ?nr5_8
          case yr5_8 => (intro w_ hSw; obtain ⟨⟨y0, y1, y2, y3⟩, y4, y5, y6, y7⟩ := hSw; go_simp; (try with_reducible rfl))
          try simp only [Act.put, List.setIfInBounds_toArray, List.set_cons_zero, List.set_cons_succ]
          refine wpAnyH_take (i := 9) (v := ?vr5_9) (Fr.take_at rfl) (by kernel_rfl) (by kernel_rfl) (by kernel_rfl) (fun _ _ _ h => h) (Or.inl ⟨by rfl, ?yr5_9⟩) (by assumption) ?nr5_9
          case yr5_9 => (intro w_ hSw; obtain ⟨⟨y0, y1, y2, y3⟩, y4, y5, y6, y7⟩ := hSw; go_simp; (try with_reducible rfl))
          try simp only [Act.put, List.setIfInBounds_toArray, List.set_cons_zero, List.set_cons_succ]
          refine wpAnyH_take (i := 10) (v := ?vr5_10) (Fr.take_at rfl) (by kernel_rfl) (by kernel_rfl) (by kernel_rfl) (fun _ _ _ h => h) (Or.inl ⟨by rfl, ?yr5_10⟩) (by assumption) ?nr5_10
          case yr5_10 => (intro w_ hSw; obtain ⟨⟨y0, y1, y2, y3⟩, y4, y5, y6, y7⟩ := hSw; go_simp; (try with_reducible rfl))
          try simp only [Act.put, List.setIfInBounds_toArray, List.set_cons_zero, List.set_cons_succ]
          refine wpAnyH_take (i := 11) (v := ?vr5_11) (Fr.take_at rfl) (by kernel_rfl) (by kernel_rfl) (by kernel_rfl) (fun _ _ _ h => h) (Or.inl ⟨by rfl, ?yr5_11⟩) (by assumption) ?nr5_11
          case yr5_11 => (intro w_ hSw; obtain ⟨⟨y0, y1, y2, y3⟩, y4, y5, y6, y7⟩ := hSw; go_simp; (try with_reducible rfl))
          try simp only [Act.put, List.setIfInBounds_toArray, List.set_cons_zero, List.set_cons_succ]
          refine wpAnyH_take (i := 12) (v := ?vr5_12) (Fr.take_at rfl) (by kernel_rfl) (by kernel_rfl) (by kernel_rfl) (fun _ _ _ h => h) (Or.inl ⟨by rfl, ?yr5_12⟩) (by assumption) ?nr5_12
          case yr5_12 => (intro w_ hSw; obtain ⟨⟨y0, y1, y2, y3⟩, y4, y5, y6, y7⟩ := hSw; go_simp; (try with_reducible rfl))
          try simp only [Act.put, List.setIfInBounds_toArray, List.set_cons_zero, List.set_cons_succ]
          refine wpAnyH_take (i := 13) (v := ?vr5_13) (Fr.take_at rfl) (by kernel_rfl) (by kernel_rfl) (by kernel_rfl) (fun _ _ _ h => h) (Or.inl ⟨by rfl, ?yr5_13⟩) (by assumption) ?nr5_13
          case yr5_13 => (intro w_ hSw; obtain ⟨⟨y0, y1, y2, y3⟩, y4, y5, y6, y7⟩ := hSw; go_simp; (try with_reducible rfl))
          try simp only [Act.put, List.setIfInBounds_toArray, List.set_cons_zero, List.set_cons_succ]
          refine wpAnyH_take (i := 14) (v := ?vr5_14) (Fr.take_at rfl) (by kernel_rfl) (by kernel_rfl) (by kernel_rfl) (fun _ _ _ h => h) (Or.inl ⟨by rfl, ?yr5_14⟩) (by assumption) ?nr5_14
          case yr5_14 => (intro w_ hSw; obtain ⟨⟨y0, y1, y2, y3⟩, y4, y5, y6, y7⟩ := hSw; go_simp; (try with_reducible rfl))
          try simp only [Act.put, List.setIfInBounds_toArray, List.set_cons_zero, List.set_cons_succ]
          refine wpAnyH_take (i := 15) (v := undef) (Fr.take_at rfl) (by kernel_rfl) (by kernel_rfl) (by kernel_rfl) (fun _ _ _ h => h) (Or.inr ⟨by rfl, rfl⟩) (by assumption) ?_
          try simp only [Act.put, List.setIfInBounds_toArray, List.set_cons_zero, List.set_cons_succ]
          refine wpAnyH_take (i := 16) (v := undef) (Fr.take_at rfl) (by kernel_rfl) (by kernel_rfl) (by kernel_rfl) (fun _ _ _ h => h) (Or.inr ⟨by rfl, rfl⟩) (by assumption) ?_
          try simp only [Act.put, List.setIfInBounds_toArray, List.set_cons_zero, List.set_cons_succ]
          refine wpAnyH_take (i := 17) (v := undef) (Fr.take_at rfl) (by kernel_rfl) (by kernel_rfl) (by kernel_rfl) (fun _ _ _ h => h) (Or.inr ⟨by rfl, rfl⟩) (by assumption) ?_
          try simp only [Act.put, List.setIfInBounds_toArray, List.set_cons_zero, List.set_cons_succ]
          refine wpAnyH_take (i := 18) (v := undef) (Fr.take_at rfl) (by kernel_rfl) (by kernel_rfl) (by kernel_rfl) (fun _ _ _ h => h) (Or.inr ⟨by rfl, rfl⟩) (by assumption) ?_
          try simp only [Act.put, List.setIfInBounds_toArray, List.set_cons_zero, List.set_cons_succ]
          refine wpAnyH_take (i := 19) (v := undef) (Fr.take_at rfl) (by kernel_rfl) (by kernel_rfl) (by kernel_rfl) (fun _ _ _ h => h) (Or.inr ⟨by rfl, rfl⟩) (by assumption) ?_
          try simp only [Act.put, List.setIfInBounds_toArray, List.set_cons_zero, List.set_cons_succ]
          refine wpAnyH_take (i := 20) (v := undef) (Fr.take_at rfl) (by kernel_rfl) (by kernel_rfl) (by kernel_rfl) (fun _ _ _ h => h) (Or.inr ⟨by rfl, rfl⟩) (by assumption) ?_
          try simp only [Act.put, List.setIfInBounds_toArray, List.set_cons_zero, List.set_cons_succ]
          refine wpAnyH_take (i := 21) (v := undef) (Fr.take_at rfl) (by kernel_rfl) (by kernel_rfl) (by kernel_rfl) (fun _ _ _ h => h) (Or.inr ⟨by rfl, rfl⟩) (by assumption) ?_
          try simp only [Act.put, List.setIfInBounds_toArray, List.set_cons_zero, List.set_cons_succ]
          refine wpAnyH_take (i := 22) (v := undef) (Fr.take_at rfl) (by kernel_rfl) (by kernel_rfl) (by kernel_rfl) (fun _ _ _ h => h) (Or.inr ⟨by rfl, rfl⟩) (by assumption) ?_
          try simp only [Act.put, List.setIfInBounds_toArray, List.set_cons_zero, List.set_cons_succ]
          refine wpAnyH_take (i := 23) (v := ?vr5_23) (Fr.take_at rfl) (by kernel_rfl) (by kernel_rfl) (by kernel_rfl) (fun _ _ _ h => h) (Or.inl ⟨by rfl, ?yr5_23⟩) (by assumption) ?nr5_23
          case yr5_23 => (intro w_ hSw; obtain ⟨⟨y0, y1, y2, y3⟩, y4, y5, y6, y7⟩ := hSw; go_simp; (try with_reducible rfl))
          try simp only [Act.put, List.setIfInBounds_toArray, List.set_cons_zero, List.set_cons_succ]
          refine wpAnyH_done (by kernel_rfl) ?_ _
          have HO5 := Lib.hid (show (w5.drewN 1).ownsRow w2.heap.size 30 4 (.slice A1 i c1) i (ev (l.take i)) from HO5.out)
          have HB5 := Lib.hid (show Below w2.heap.size w2 (w5.drewN 1) from below_drewN HB5.out 1)
          have HBS := Lib.hid (fun o : Obj => show w2.heap.size ≤ ((w5.drewN 1).alloc o).heap.size from Nat.le_trans HB5.out.size (by simp))
          go_wp2_with (first
            | (at_builtin; have _ := hO3; go_loud (refine wpList_appN _ rfl (.tmp 65) (.tmp 68) _ rfl w2.heap.size 30 ie _ 4 48 Try.underlying26 hie hiz hiz1 hiz2 rfl (by decide) _ (i + 1) (ev (l.take i ++ [e])) rfl HO3.out _ (n - i) _ (ev (l.drop i)) rfl (by rw [ev_len, List.length_drop, HL.out]) (HSL.out _ HB3.out) (ev_one _) (n + 1) (by omega) (by unfold maxLen; omega) (by omega) (HB3.out.size) ?_; intro A4 c4 w4 hown4 hb4 _))
            | (at_builtin; go_loud (refine wpList_appN _ rfl (.tmp 61) (.tmp 63) _ rfl w2.heap.size 30 ie _ 4 48 Try.underlying26 hie hiz hiz1 hiz2 rfl (by decide) _ i (ev (l.take i)) rfl (HO5.out.alloc _) ⟨_, 0, none⟩ 1 1 (ecells e) rfl rfl (one_cells _ _ _) (ecells_one _) (i + 1) rfl (by unfold maxLen; omega) (by omega) (HBS.out _) ?_; intro A3 c3 w3 hown3 hb3 hg3; have HO3 := Lib.hid (own_snoc hown3); have HB3 := Lib.hid (HB5.out.trans (((Below.refl _ _).alloc HB5.out.size _).trans hb3)); have hO3 := True.intro; clear hown3 hg3)))
          (try simp only [Exit.inBlock, Exit.then])
          refine bodyPost_ret (results_tmp2 rfl _ _ _) rfl ?_
          exact .inr ⟨HNT.out, A4, c4, rfl, HPP.out _ _ (own_base hown4 HW2.out.size), HW2.out.trans ((HB3.out.trans hb4).mono HW2.out.size)⟩
    · obtain rfl : i = n := by omega
      have k1 : ¬ (i : Int) < (i : Int) := by omega
      have hall : ∀ x ∈ l, bef x e.k e.seq := by have := HBF2.out; rw [List.take_of_length_le (by rw [HL.out]; exact Nat.le_refl _)] at this; exact this
      have HNT := Lib.hid (twice_end hall)
      have hsp := split_at HBF2.out (fun y hy => by rw [List.getElem?_eq_none (by rw [HL.out]; exact Nat.le_refl _)] at hy; cases hy)
      have hpp : ∀ (W : World) (v : Value), W.ownsRow w.heap.size 30 4 v (i + 1) (ev (l.take i ++ [e]) ++ ev (l.drop i)) → W.ownsRow w.heap.size 30 4 v (i + 1) (ev (preE l e ++ e :: postE l e)) := fun W v h => by
        rw [hsp.1, hsp.2, show ev (l.take i ++ e :: l.drop i) = ev (l.take i ++ [e]) ++ ev (l.drop i) by simp [ev]]
        exact h
      have HPP := Lib.hid hpp
      have HO5 := HO
      have HB5 := HBB
      clear hall hsp hpp HBF2
      rcases HNIL.out with ⟨rfl, rfl, h0⟩ | ⟨g, rfl⟩
      · subst h0
        go_wp2
        refine wp_region_held_drew (S := fun _ => True) (by kernel_rfl) (by (exact trivial)) (fun hHeld => ?_)
        refine wpAnyH_take (i := 0) (v := ?vr6_0) (Fr.take_at rfl) (by kernel_rfl) (by kernel_rfl) (by kernel_rfl) (fun _ _ _ h => h) (Or.inl ⟨by rfl, ?yr6_0⟩) (by assumption) ?nr6_0
        case yr6_0 => (intro w_ hSw; (try dsimp only at hSw); go_simp; (try with_reducible rfl))
        try simp only [Act.put, List.setIfInBounds_toArray, List.set_cons_zero, List.set_cons_succ]
        refine wpAnyH_take (i := 1) (v := ?vr6_1) (Fr.take_at rfl) (by kernel_rfl) (by kernel_rfl) (by kernel_rfl) (fun _ _ _ h => h) (Or.inl ⟨by rfl, ?yr6_1⟩) (by assumption) ?nr6_1
        case yr6_1 => (intro w_ hSw; (try dsimp only at hSw); go_simp; (try with_reducible rfl))
        try simp only [Act.put, List.setIfInBounds_toArray, List.set_cons_zero, List.set_cons_succ]
        refine wpAnyH_take (i := 2) (v := ?vr6_2) (Fr.take_at rfl) (by kernel_rfl) (by kernel_rfl) (by kernel_rfl) (fun _ _ _ h => h) (Or.inl ⟨by rfl, ?yr6_2⟩) (by assumption) ?nr6_2
        case yr6_2 => (intro w_ hSw; (try dsimp only at hSw); go_simp; (try with_reducible rfl))
        try simp only [Act.put, List.setIfInBounds_toArray, List.set_cons_zero, List.set_cons_succ]
        refine wpAnyH_take (i := 3) (v := ?vr6_3) (Fr.take_at rfl) (by kernel_rfl) (by kernel_rfl) (by kernel_rfl) (fun _ _ _ h => h) (Or.inl ⟨by rfl, ?yr6_3⟩) (by assumption) ?nr6_3
        case yr6_3 => (intro w_ hSw; (try dsimp only at hSw); go_simp; (try with_reducible rfl))
        try simp only [Act.put, List.setIfInBounds_toArray, List.set_cons_zero, List.set_cons_succ]
        refine wpAnyH_take (i := 4) (v := ?vr6_4) (Fr.take_at rfl) (by kernel_rfl) (by kernel_rfl) (by kernel_rfl) (fun _ _ _ h => h) (Or.inl ⟨by rfl, ?yr6_4⟩) (by assumption) ?nr6_4
        case yr6_4 => (intro w_ hSw; (try dsimp only at hSw); go_simp; (try with_reducible rfl))
        try simp only [Act.put, List.setIfInBounds_toArray, List.set_cons_zero, List.set_cons_succ]
        refine wpAnyH_take (i := 5) (v := undef) (Fr.take_at rfl) (by kernel_rfl) (by kernel_rfl) (by kernel_rfl) (fun _ _ _ h => h) (Or.inr ⟨by rfl, rfl⟩) (by assumption) ?_
        try simp only [Act.put, List.setIfInBounds_toArray, List.set_cons_zero, List.set_cons_succ]
        refine wpAnyH_take (i := 6) (v := undef) (Fr.take_at rfl) (by kernel_rfl) (by kernel_rfl) (by kernel_rfl) (fun _ _ _ h => h) (Or.inr ⟨by rfl, rfl⟩) (by assumption) ?_
        try simp only [Act.put, List.setIfInBounds_toArray, List.set_cons_zero, List.set_cons_succ]
        refine wpAnyH_take (i := 7) (v := undef) (Fr.take_at rfl) (by kernel_rfl) (by kernel_rfl) (by kernel_rfl) (fun _ _ _ h => h) (Or.inr ⟨by rfl, rfl⟩) (by assumption) ?_
        try simp only [Act.put, List.setIfInBounds_toArray, List.set_cons_zero, List.set_cons_succ]
        refine wpAnyH_take (i := 8) (v := undef) (Fr.take_at rfl) (by kernel_rfl) (by kernel_rfl) (by kernel_rfl) (fun _ _ _ h => h) (Or.inr ⟨by rfl, rfl⟩) (by assumption) ?_
        try simp only [Act.put, List.setIfInBounds_toArray, List.set_cons_zero, List.set_cons_succ]
        refine wpAnyH_take (i := 9) (v := undef) (Fr.take_at rfl) (by kernel_rfl) (by kernel_rfl) (by kernel_rfl) (fun _ _ _ h => h) (Or.inr ⟨by rfl, rfl⟩) (by assumption) ?_
        try simp only [Act.put, List.setIfInBounds_toArray, List.set_cons_zero, List.set_cons_succ]
        refine wpAnyH_take (i := 10) (v := undef) (Fr.take_at rfl) (by kernel_rfl) (by kernel_rfl) (by kernel_rfl) (fun _ _ _ h => h) (Or.inr ⟨by rfl, rfl⟩) (by assumption) ?_
        try simp only [Act.put, List.setIfInBounds_toArray, List.set_cons_zero, List.set_cons_succ]
        refine wpAnyH_take (i := 11) (v := ?vr6_11) (Fr.take_at rfl) (by kernel_rfl) (by kernel_rfl) (by kernel_rfl) (fun _ _ _ h => h) (Or.inl ⟨by rfl, ?yr6_11⟩) (by assumption) ?nr6_11
        case yr6_11 => (intro w_ hSw; (try dsimp only at hSw); go_simp; (try with_reducible rfl))
        try simp only [Act.put, List.setIfInBounds_toArray, List.set_cons_zero, List.set_cons_succ]
        refine wpAnyH_done (by kernel_rfl) ?_ _
        go_wp2
        refine wp_region_held_drew (S := fun _ => True) (by kernel_rfl) (by (exact trivial)) (fun hHeld => ?_)
        refine wpAnyH_take (i := 0) (v := ?vr7_0) (Fr.take_at rfl) (by kernel_rfl) (by kernel_rfl) (by kernel_rfl) (fun _ _ _ h => h) (Or.inl ⟨by rfl, ?yr7_0⟩) (by assumption) ?nr7_0
        case yr7_0 => (intro w_ hSw; (try dsimp only at hSw); go_simp; (try with_reducible rfl))
        try simp only [Act.put, List.setIfInBounds_toArray, List.set_cons_zero, List.set_cons_succ]
        refine wpAnyH_take (i := 1) (v := ?vr7_1) (Fr.take_at rfl) (by kernel_rfl) (by kernel_rfl) (by kernel_rfl) (fun _ _ _ h => h) (Or.inl ⟨by rfl, ?yr7_1⟩) (by assumption) ?nr7_1
        case yr7_1 => (intro w_ hSw; (try dsimp only at hSw); go_simp; (try with_reducible rfl))
        try simp only [Act.put, List.setIfInBounds_toArray, List.set_cons_zero, List.set_cons_succ]
        refine wpAnyH_take (i := 2) (v := ?vr7_2) (Fr.take_at rfl) (by kernel_rfl) (by kernel_rfl) (by kernel_rfl) (fun _ _ _ h => h) (Or.inl ⟨by rfl, ?yr7_2⟩) (by assumption) ?nr7_2
        case yr7_2 => (intro w_ hSw; (try dsimp only at hSw); go_simp; (try with_reducible rfl))
        try simp only [Act.put, List.setIfInBounds_toArray, List.set_cons_zero, List.set_cons_succ]
        refine wpAnyH_take (i := 3) (v := ?vr7_3) (Fr.take_at rfl) (by kernel_rfl) (by kernel_rfl) (by kernel_rfl) (fun _ _ _ h => h) (Or.inl ⟨by rfl, ?yr7_3⟩) (by assumption) ?nr7_3
        case yr7_3 => (intro w_ hSw; (try dsimp only at hSw); go_simp; (try with_reducible rfl))
        try simp only [Act.put, List.setIfInBounds_toArray, List.set_cons_zero, List.set_cons_succ]
        refine wpAnyH_take (i := 4) (v := ?vr7_4) (Fr.take_at rfl) (by kernel_rfl) (by kernel_rfl) (by kernel_rfl) (fun _ _ _ h => h) (Or.inl ⟨by rfl, ?yr7_4⟩) (by assumption) ?nr7_4
        case yr7_4 => (intro w_ hSw; (try dsimp only at hSw); go_simp; (try with_reducible rfl))
        try simp only [Act.put, List.setIfInBounds_toArray, List.set_cons_zero, List.set_cons_succ]
        refine wpAnyH_take (i := 5) (v := undef) (Fr.take_at rfl) (by kernel_rfl) (by kernel_rfl) (by kernel_rfl) (fun _ _ _ h => h) (Or.inr ⟨by rfl, rfl⟩) (by assumption) ?_
        try simp only [Act.put, List.setIfInBounds_toArray, List.set_cons_zero, List.set_cons_succ]
        refine wpAnyH_take (i := 6) (v := undef) (Fr.take_at rfl) (by kernel_rfl) (by kernel_rfl) (by kernel_rfl) (fun _ _ _ h => h) (Or.inr ⟨by rfl, rfl⟩) (by assumption) ?_
        try simp only [Act.put, List.setIfInBounds_toArray, List.set_cons_zero, List.set_cons_succ]
        refine wpAnyH_take (i := 7) (v := undef) (Fr.take_at rfl) (by kernel_rfl) (by kernel_rfl) (by kernel_rfl) (fun _ _ _ h => h) (Or.inr ⟨by rfl, rfl⟩) (by assumption) ?_
        try simp only [Act.put, List.setIfInBounds_toArray, List.set_cons_zero, List.set_cons_succ]
        refine wpAnyH_take (i := 8) (v := undef) (Fr.take_at rfl) (by kernel_rfl) (by kernel_rfl) (by kernel_rfl) (fun _ _ _ h => h) (Or.inr ⟨by rfl, rfl⟩) (by assumption) ?_
        try simp only [Act.put, List.setIfInBounds_toArray, List.set_cons_zero, List.set_cons_succ]
        refine wpAnyH_take (i := 9) (v := undef) (Fr.take_at rfl) (by kernel_rfl) (by kernel_rfl) (by kernel_rfl) (fun _ _ _ h => h) (Or.inr ⟨by rfl, rfl⟩) (by assumption) ?_
        try simp only [Act.put, List.setIfInBounds_toArray, List.set_cons_zero, List.set_cons_succ]
        refine wpAnyH_take (i := 10) (v := undef) (Fr.take_at rfl) (by kernel_rfl) (by kernel_rfl) (by kernel_rfl) (fun _ _ _ h => h) (Or.inr ⟨by rfl, rfl⟩) (by assumption) ?_
        try simp only [Act.put, List.setIfInBounds_toArray, List.set_cons_zero, List.set_cons_succ]
        refine wpAnyH_take (i := 11) (v := undef) (Fr.take_at rfl) (by kernel_rfl) (by kernel_rfl) (by kernel_rfl) (fun _ _ _ h => h) (Or.inr ⟨by rfl, rfl⟩) (by assumption) ?_
        try simp only [Act.put, List.setIfInBounds_toArray, List.set_cons_zero, List.set_cons_succ]
        refine wpAnyH_take (i := 12) (v := undef) (Fr.take_at rfl) (by kernel_rfl) (by kernel_rfl) (by kernel_rfl) (fun _ _ _ h => h) (Or.inr ⟨by rfl, rfl⟩) (by assumption) ?_
        try simp only [Act.put, List.setIfInBounds_toArray, List.set_cons_zero, List.set_cons_succ]
        refine wpAnyH_take (i := 13) (v := ?vr7_13) (Fr.take_at rfl) (by kernel_rfl) (by kernel_rfl) (by kernel_rfl) (fun _ _ _ h => h) (Or.inl ⟨by rfl, ?yr7_13⟩) (by assumption) ?nr7_13
        case yr7_13 => (intro w_ hSw; (try dsimp only at hSw); go_simp; (try with_reducible rfl))
        try simp only [Act.put, List.setIfInBounds_toArray, List.set_cons_zero, List.set_cons_succ]
        refine wpAnyH_take (i := 14) (v := ?vr7_14) (Fr.take_at rfl) (by kernel_rfl) (by kernel_rfl) (by kernel_rfl) (fun _ _ _ h => h) (Or.inl ⟨by rfl, ?yr7_14⟩) (by assumption) ?nr7_14
        case yr7_14 => (intro w_ hSw; (try dsimp only at hSw); go_simp; (try with_reducible rfl))
        try simp only [Act.put, List.setIfInBounds_toArray, List.set_cons_zero, List.set_cons_succ]
        refine wpAnyH_take (i := 15) (v := undef) (Fr.take_at rfl) (by kernel_rfl) (by kernel_rfl) (by kernel_rfl) (fun _ _ _ h => h) (Or.inr ⟨by rfl, rfl⟩) (by assumption) ?_
        try simp only [Act.put, List.setIfInBounds_toArray, List.set_cons_zero, List.set_cons_succ]
        refine wpAnyH_take (i := 16) (v := undef) (Fr.take_at rfl) (by kernel_rfl) (by kernel_rfl) (by kernel_rfl) (fun _ _ _ h => h) (Or.inr ⟨by rfl, rfl⟩) (by assumption) ?_
        try simp only [Act.put, List.setIfInBounds_toArray, List.set_cons_zero, List.set_cons_succ]
        refine wpAnyH_take (i := 17) (v := undef) (Fr.take_at rfl) (by kernel_rfl) (by kernel_rfl) (by kernel_rfl) (fun _ _ _ h => h) (Or.inr ⟨by rfl, rfl⟩) (by assumption) ?_
        try simp only [Act.put, List.setIfInBounds_toArray, List.set_cons_zero, List.set_cons_succ]
        refine wpAnyH_take (i := 18) (v := undef) (Fr.take_at rfl) (by kernel_rfl) (by kernel_rfl) (by kernel_rfl) (fun _ _ _ h => h) (Or.inr ⟨by rfl, rfl⟩) (by assumption) ?_
        try simp only [Act.put, List.setIfInBounds_toArray, List.set_cons_zero, List.set_cons_succ]
        refine wpAnyH_take (i := 19) (v := undef) (Fr.take_at rfl) (by kernel_rfl) (by kernel_rfl) (by kernel_rfl) (fun _ _ _ h => h) (Or.inr ⟨by rfl, rfl⟩) (by assumption) ?_
        try simp only [Act.put, List.setIfInBounds_toArray, List.set_cons_zero, List.set_cons_succ]
        refine wpAnyH_take (i := 20) (v := undef) (Fr.take_at rfl) (by kernel_rfl) (by kernel_rfl) (by kernel_rfl) (fun _ _ _ h => h) (Or.inr ⟨by rfl, rfl⟩) (by assumption) ?_
        try simp only [Act.put, List.setIfInBounds_toArray, List.set_cons_zero, List.set_cons_succ]
        refine wpAnyH_take (i := 21) (v := undef) (Fr.take_at rfl) (by kernel_rfl) (by kernel_rfl) (by kernel_rfl) (fun _ _ _ h => h) (Or.inr ⟨by rfl, rfl⟩) (by assumption) ?_
        try simp only [Act.put, List.setIfInBounds_toArray, List.set_cons_zero, List.set_cons_succ]
        refine wpAnyH_take (i := 22) (v := undef) (Fr.take_at rfl) (by kernel_rfl) (by kernel_rfl) (by kernel_rfl) (fun _ _ _ h => h) (Or.inr ⟨by rfl, rfl⟩) (by assumption) ?_
        try simp only [Act.put, List.setIfInBounds_toArray, List.set_cons_zero, List.set_cons_succ]
        refine wpAnyH_take (i := 23) (v := ?vr7_23) (Fr.take_at rfl) (by kernel_rfl) (by kernel_rfl) (by kernel_rfl) (fun _ _ _ h => h) (Or.inl ⟨by rfl, ?yr7_23⟩) (by assumption) ?nr7_23
        case yr7_23 => (intro w_ hSw; (try dsimp only at hSw); go_simp; (try with_reducible rfl))
        try simp only [Act.put, List.setIfInBounds_toArray, List.set_cons_zero, List.set_cons_succ]
        refine wpAnyH_done (by kernel_rfl) ?_ _
        have HO5 := Lib.hid (show ((wr.drewN 1).drewN 1).ownsRow w2.heap.size 30 4 (.slice A1 0 c1) 0 (ev (l.take 0)) from HO5.out)
        have HB5 := Lib.hid (show Below w2.heap.size w2 ((wr.drewN 1).drewN 1) from below_drewN (below_drewN HB5.out 1) 1)
        have HBS := Lib.hid (fun o : Obj => show w2.heap.size ≤ (((wr.drewN 1).drewN 1).alloc o).heap.size from Nat.le_trans HB5.out.size (by simp))
        go_wp2_with (first
          | (at_builtin; have _ := hO3; go_loud (refine wpList_app0 _ rfl (.tmp 65) (.tmp 68) _ rfl w2.heap.size 30 ie 4 Try.underlying26 hie hiz1 _ _ (ev (l.take 0 ++ [e])) rfl HO3.out rfl ?_))
          | (at_builtin; go_loud (refine wpList_appN _ rfl (.tmp 61) (.tmp 63) _ rfl w2.heap.size 30 ie _ 4 48 Try.underlying26 hie hiz hiz1 hiz2 rfl (by decide) _ 0 (ev (l.take 0)) rfl (HO5.out.alloc _) ⟨_, 0, none⟩ 1 1 (ecells e) rfl rfl (one_cells _ _ _) (ecells_one _) (0 + 1) rfl (by unfold maxLen; omega) (by omega) (HBS.out _) ?_; intro A3 c3 w3 hown3 hb3 hg3; have HO3 := Lib.hid (own_snoc hown3); have HB3 := Lib.hid (HB5.out.trans (((Below.refl _ _).alloc HB5.out.size _).trans hb3)); have hO3 := True.intro; clear hown3 hg3)))
        (try simp only [Exit.inBlock, Exit.then])
        refine bodyPost_ret (results_tmp2 rfl _ _ _) rfl ?_
        exact .inr ⟨HNT.out, A3, c3, rfl, HPP.out _ _ (own_nil (own_base HO3.out HW2.out.size) HL.out), HW2.out.trans (HB3.out.mono HW2.out.size)⟩
      · have HSL := Lib.hid (fun (W : World) (a : Addr) j u (h : (ev (l.drop i))[j]? = some u) => show W.cell? (a.add j) = some u from by rw [List.drop_eq_nil_of_le (by rw [HL.out]; exact Nat.le_refl _)] at h; simp [ev] at h)
        by_cases hci : i = c
        · subst hci
          go_wp2
          refine wp_region_held_drew (S := fun _ => True) (by kernel_rfl) (by (exact trivial)) (fun hHeld => ?_)
          refine wpAnyH_take (i := 0) (v := ?vr8_0) (Fr.take_at rfl) (by kernel_rfl) (by kernel_rfl) (by kernel_rfl) (fun _ _ _ h => h) (Or.inl ⟨by rfl, ?yr8_0⟩) (by assumption) ?nr8_0
          case yr8_0 => (intro w_ hSw; (try dsimp only at hSw); go_simp; (try with_reducible rfl))
          try simp only [Act.put, List.setIfInBounds_toArray, List.set_cons_zero, List.set_cons_succ]
          refine wpAnyH_take (i := 1) (v := ?vr8_1) (Fr.take_at rfl) (by kernel_rfl) (by kernel_rfl) (by kernel_rfl) (fun _ _ _ h => h) (Or.inl ⟨by rfl, ?yr8_1⟩) (by assumption) ?nr8_1
          case yr8_1 => (intro w_ hSw; (try dsimp only at hSw); go_simp; (try with_reducible rfl))
          try simp only [Act.put, List.setIfInBounds_toArray, List.set_cons_zero, List.set_cons_succ]
          refine wpAnyH_take (i := 2) (v := ?vr8_2) (Fr.take_at rfl) (by kernel_rfl) (by kernel_rfl) (by kernel_rfl) (fun _ _ _ h => h) (Or.inl ⟨by rfl, ?yr8_2⟩) (by assumption) ?nr8_2
          case yr8_2 => (intro w_ hSw; (try dsimp only at hSw); go_simp; (try with_reducible rfl))
          try simp only [Act.put, List.setIfInBounds_toArray, List.set_cons_zero, List.set_cons_succ]
          refine wpAnyH_take (i := 3) (v := ?vr8_3) (Fr.take_at rfl) (by kernel_rfl) (by kernel_rfl) (by kernel_rfl) (fun _ _ _ h => h) (Or.inl ⟨by rfl, ?yr8_3⟩) (by assumption) ?nr8_3
          case yr8_3 => (intro w_ hSw; (try dsimp only at hSw); go_simp; (try with_reducible rfl))
          try simp only [Act.put, List.setIfInBounds_toArray, List.set_cons_zero, List.set_cons_succ]
          refine wpAnyH_take (i := 4) (v := ?vr8_4) (Fr.take_at rfl) (by kernel_rfl) (by kernel_rfl) (by kernel_rfl) (fun _ _ _ h => h) (Or.inl ⟨by rfl, ?yr8_4⟩) (by assumption) ?nr8_4
          case yr8_4 => (intro w_ hSw; (try dsimp only at hSw); go_simp; (try with_reducible rfl))
          try simp only [Act.put, List.setIfInBounds_toArray, List.set_cons_zero, List.set_cons_succ]
          refine wpAnyH_take (i := 5) (v := undef) (Fr.take_at rfl) (by kernel_rfl) (by kernel_rfl) (by kernel_rfl) (fun _ _ _ h => h) (Or.inr ⟨by rfl, rfl⟩) (by assumption) ?_
          try simp only [Act.put, List.setIfInBounds_toArray, List.set_cons_zero, List.set_cons_succ]
          refine wpAnyH_take (i := 6) (v := undef) (Fr.take_at rfl) (by kernel_rfl) (by kernel_rfl) (by kernel_rfl) (fun _ _ _ h => h) (Or.inr ⟨by rfl, rfl⟩) (by assumption) ?_
          try simp only [Act.put, List.setIfInBounds_toArray, List.set_cons_zero, List.set_cons_succ]
          refine wpAnyH_take (i := 7) (v := undef) (Fr.take_at rfl) (by kernel_rfl) (by kernel_rfl) (by kernel_rfl) (fun _ _ _ h => h) (Or.inr ⟨by rfl, rfl⟩) (by assumption) ?_
          try simp only [Act.put, List.setIfInBounds_toArray, List.set_cons_zero, List.set_cons_succ]
          refine wpAnyH_take (i := 8) (v := undef) (Fr.take_at rfl) (by kernel_rfl) (by kernel_rfl) (by kernel_rfl) (fun _ _ _ h => h) (Or.inr ⟨by rfl, rfl⟩) (by assumption) ?_
          try simp only [Act.put, List.setIfInBounds_toArray, List.set_cons_zero, List.set_cons_succ]
          refine wpAnyH_take (i := 9) (v := undef) (Fr.take_at rfl) (by kernel_rfl) (by kernel_rfl) (by kernel_rfl) (fun _ _ _ h => h) (Or.inr ⟨by rfl, rfl⟩) (by assumption) ?_
          try simp only [Act.put, List.setIfInBounds_toArray, List.set_cons_zero, List.set_cons_succ]
          refine wpAnyH_take (i := 10) (v := undef) (Fr.take_at rfl) (by kernel_rfl) (by kernel_rfl) (by kernel_rfl) (fun _ _ _ h => h) (Or.inr ⟨by rfl, rfl⟩) (by assumption) ?_
          try simp only [Act.put, List.setIfInBounds_toArray, List.set_cons_zero, List.set_cons_succ]
          refine wpAnyH_take (i := 11) (v := ?vr8_11) (Fr.take_at rfl) (by kernel_rfl) (by kernel_rfl) (by kernel_rfl) (fun _ _ _ h => h) (Or.inl ⟨by rfl, ?yr8_11⟩) (by assumption) ?nr8_11
          case yr8_11 => (intro w_ hSw; (try dsimp only at hSw); go_simp; (try with_reducible rfl))
          try simp only [Act.put, List.setIfInBounds_toArray, List.set_cons_zero, List.set_cons_succ]
          refine wpAnyH_done (by kernel_rfl) ?_ _
          go_wp2
          refine wp_region_held_drew (S := fun _ => True) (by kernel_rfl) (by (exact trivial)) (fun hHeld => ?_)
          refine wpAnyH_take (i := 0) (v := ?vr9_0) (Fr.take_at rfl) (by kernel_rfl) (by kernel_rfl) (by kernel_rfl) (fun _ _ _ h => h) (Or.inl ⟨by rfl, ?yr9_0⟩) (by assumption) ?nr9_0
          case yr9_0 => (intro w_ hSw; (try dsimp only at hSw); go_simp; (try with_reducible rfl))
          try simp only [Act.put, List.setIfInBounds_toArray, List.set_cons_zero, List.set_cons_succ]
          refine wpAnyH_take (i := 1) (v := ?vr9_1) (Fr.take_at rfl) (by kernel_rfl) (by kernel_rfl) (by kernel_rfl) (fun _ _ _ h => h) (Or.inl ⟨by rfl, ?yr9_1⟩) (by assumption) ?nr9_1
          case yr9_1 => (intro w_ hSw; (try dsimp only at hSw); go_simp; (try with_reducible rfl))
          try simp only [Act.put, List.setIfInBounds_toArray, List.set_cons_zero, List.set_cons_succ]
          refine wpAnyH_take (i := 2) (v := ?vr9_2) (Fr.take_at rfl) (by kernel_rfl) (by kernel_rfl) (by kernel_rfl) (fun _ _ _ h => h) (Or.inl ⟨by rfl, ?yr9_2⟩) (by assumption) ?nr9_2
          case yr9_2 => (intro w_ hSw; (try dsimp only at hSw); go_simp; (try with_reducible rfl))
          try simp only [Act.put, List.setIfInBounds_toArray, List.set_cons_zero, List.set_cons_succ]
          refine wpAnyH_take (i := 3) (v := ?vr9_3) (Fr.take_at rfl) (by kernel_rfl) (by kernel_rfl) (by kernel_rfl) (fun _ _ _ h => h) (Or.inl ⟨by rfl, ?yr9_3⟩) (by assumption) ?nr9_3
          case yr9_3 => (intro w_ hSw; (try dsimp only at hSw); go_simp; (try with_reducible rfl))
          try simp only [Act.put, List.setIfInBounds_toArray, List.set_cons_zero, List.set_cons_succ]
          refine wpAnyH_take (i := 4) (v := ?vr9_4) (Fr.take_at rfl) (by kernel_rfl) (by kernel_rfl) (by kernel_rfl) (fun _ _ _ h => h) (Or.inl ⟨by rfl, ?yr9_4⟩) (by assumption) ?nr9_4
          case yr9_4 => (intro w_ hSw; (try dsimp only at hSw); go_simp; (try with_reducible rfl))
          try simp only [Act.put, List.setIfInBounds_toArray, List.set_cons_zero, List.set_cons_succ]
          refine wpAnyH_take (i := 5) (v := undef) (Fr.take_at rfl) (by kernel_rfl) (by kernel_rfl) (by kernel_rfl) (fun _ _ _ h => h) (Or.inr ⟨by rfl, rfl⟩) (by assumption) ?_
          try simp only [Act.put, List.setIfInBounds_toArray, List.set_cons_zero, List.set_cons_succ]
          refine wpAnyH_take (i := 6) (v := undef) (Fr.take_at rfl) (by kernel_rfl) (by kernel_rfl) (by kernel_rfl) (fun _ _ _ h => h) (Or.inr ⟨by rfl, rfl⟩) (by assumption) ?_
          try simp only [Act.put, List.setIfInBounds_toArray, List.set_cons_zero, List.set_cons_succ]
          refine wpAnyH_take (i := 7) (v := undef) (Fr.take_at rfl) (by kernel_rfl) (by kernel_rfl) (by kernel_rfl) (fun _ _ _ h => h) (Or.inr ⟨by rfl, rfl⟩) (by assumption) ?_
          try simp only [Act.put, List.setIfInBounds_toArray, List.set_cons_zero, List.set_cons_succ]
          refine wpAnyH_take (i := 8) (v := undef) (Fr.take_at rfl) (by kernel_rfl) (by kernel_rfl) (by kernel_rfl) (fun _ _ _ h => h) (Or.inr ⟨by rfl, rfl⟩) (by assumption) ?_
          try simp only [Act.put, List.setIfInBounds_toArray, List.set_cons_zero, List.set_cons_succ]
          refine wpAnyH_take (i := 9) (v := undef) (Fr.take_at rfl) (by kernel_rfl) (by kernel_rfl) (by kernel_rfl) (fun _ _ _ h => h) (Or.inr ⟨by rfl, rfl⟩) (by assumption) ?_
          try simp only [Act.put, List.setIfInBounds_toArray, List.set_cons_zero, List.set_cons_succ]
          refine wpAnyH_take (i := 10) (v := undef) (Fr.take_at rfl) (by kernel_rfl) (by kernel_rfl) (by kernel_rfl) (fun _ _ _ h => h) (Or.inr ⟨by rfl, rfl⟩) (by assumption) ?_
          try simp only [Act.put, List.setIfInBounds_toArray, List.set_cons_zero, List.set_cons_succ]
          refine wpAnyH_take (i := 11) (v := undef) (Fr.take_at rfl) (by kernel_rfl) (by kernel_rfl) (by kernel_rfl) (fun _ _ _ h => h) (Or.inr ⟨by rfl, rfl⟩) (by assumption) ?_
          try simp only [Act.put, List.setIfInBounds_toArray, List.set_cons_zero, List.set_cons_succ]
          refine wpAnyH_take (i := 12) (v := undef) (Fr.take_at rfl) (by kernel_rfl) (by kernel_rfl) (by kernel_rfl) (fun _ _ _ h => h) (Or.inr ⟨by rfl, rfl⟩) (by assumption) ?_
          try simp only [Act.put, List.setIfInBounds_toArray, List.set_cons_zero, List.set_cons_succ]
          refine wpAnyH_take (i := 13) (v := ?vr9_13) (Fr.take_at rfl) (by kernel_rfl) (by kernel_rfl) (by kernel_rfl) (fun _ _ _ h => h) (Or.inl ⟨by rfl, ?yr9_13⟩) (by assumption) ?nr9_13
          case yr9_13 => (intro w_ hSw; (try dsimp only at hSw); go_simp; (try with_reducible rfl))
          try simp only [Act.put, List.setIfInBounds_toArray, List.set_cons_zero, List.set_cons_succ]
          refine wpAnyH_take (i := 14) (v := ?vr9_14) (Fr.take_at rfl) (by kernel_rfl) (by kernel_rfl) (by kernel_rfl) (fun _ _ _ h => h) (Or.inl ⟨by rfl, ?yr9_14⟩) (by assumption) ?nr9_14
          case yr9_14 => (intro w_ hSw; (try dsimp only at hSw); go_simp; (try with_reducible rfl))
          try simp only [Act.put, List.setIfInBounds_toArray, List.set_cons_zero, List.set_cons_succ]
          refine wpAnyH_take (i := 15) (v := undef) (Fr.take_at rfl) (by kernel_rfl) (by kernel_rfl) (by kernel_rfl) (fun _ _ _ h => h) (Or.inr ⟨by rfl, rfl⟩) (by assumption) ?_
          try simp only [Act.put, List.setIfInBounds_toArray, List.set_cons_zero, List.set_cons_succ]
          refine wpAnyH_take (i := 16) (v := undef) (Fr.take_at rfl) (by kernel_rfl) (by kernel_rfl) (by kernel_rfl) (fun _ _ _ h => h) (Or.inr ⟨by rfl, rfl⟩) (by assumption) ?_
          try simp only [Act.put, List.setIfInBounds_toArray, List.set_cons_zero, List.set_cons_succ]
          refine wpAnyH_take (i := 17) (v := undef) (Fr.take_at rfl) (by kernel_rfl) (by kernel_rfl) (by kernel_rfl) (fun _ _ _ h => h) (Or.inr ⟨by rfl, rfl⟩) (by assumption) ?_
          try simp only [Act.put, List.setIfInBounds_toArray, List.set_cons_zero, List.set_cons_succ]
          refine wpAnyH_take (i := 18) (v := undef) (Fr.take_at rfl) (by kernel_rfl) (by kernel_rfl) (by kernel_rfl) (fun _ _ _ h => h) (Or.inr ⟨by rfl, rfl⟩) (by assumption) ?_
          try simp only [Act.put, List.setIfInBounds_toArray, List.set_cons_zero, List.set_cons_succ]
          refine wpAnyH_take (i := 19) (v := undef) (Fr.take_at rfl) (by kernel_rfl) (by kernel_rfl) (by kernel_rfl) (fun _ _ _ h => h) (Or.inr ⟨by rfl, rfl⟩) (by assumption) ?_
          try simp only [Act.put, List.setIfInBounds_toArray, List.set_cons_zero, List.set_cons_succ]
          refine wpAnyH_take (i := 20) (v := undef) (Fr.take_at rfl) (by kernel_rfl) (by kernel_rfl) (by kernel_rfl) (fun _ _ _ h => h) (Or.inr ⟨by rfl, rfl⟩) (by assumption) ?_
          try simp only [Act.put, List.setIfInBounds_toArray, List.set_cons_zero, List.set_cons_succ]
          refine wpAnyH_take (i := 21) (v := undef) (Fr.take_at rfl) (by kernel_rfl) (by kernel_rfl) (by kernel_rfl) (fun _ _ _ h => h) (Or.inr ⟨by rfl, rfl⟩) (by assumption) ?_
          try simp only [Act.put, List.setIfInBounds_toArray, List.set_cons_zero, List.set_cons_succ]
          refine wpAnyH_take (i := 22) (v := undef) (Fr.take_at rfl) (by kernel_rfl) (by kernel_rfl) (by kernel_rfl) (fun _ _ _ h => h) (Or.inr ⟨by rfl, rfl⟩) (by assumption) ?_
          try simp only [Act.put, List.setIfInBounds_toArray, List.set_cons_zero, List.set_cons_succ]
          refine wpAnyH_take (i := 23) (v := ?vr9_23) (Fr.take_at rfl) (by kernel_rfl) (by kernel_rfl) (by kernel_rfl) (fun _ _ _ h => h) (Or.inl ⟨by rfl, ?yr9_23⟩) (by assumption) ?nr9_23
          case yr9_23 => (intro w_ hSw; (try dsimp only at hSw); go_simp; (try with_reducible rfl))
          try simp only [Act.put, List.setIfInBounds_toArray, List.set_cons_zero, List.set_cons_succ]
          refine wpAnyH_done (by kernel_rfl) ?_ _
          have HO5 := Lib.hid (show ((wr.drewN 1).drewN 1).ownsRow w2.heap.size 30 4 (.slice A1 i c1) i (ev (l.take i)) from HO5.out)
          have HB5 := Lib.hid (show Below w2.heap.size w2 ((wr.drewN 1).drewN 1) from below_drewN (below_drewN HB5.out 1) 1)
          have HBS := Lib.hid (fun o : Obj => show w2.heap.size ≤ (((wr.drewN 1).drewN 1).alloc o).heap.size from Nat.le_trans HB5.out.size (by simp))
          go_wp2_with (first
            | (at_builtin; have _ := hO3; go_loud (refine wpList_appN _ rfl (.tmp 65) (.tmp 68) _ rfl w2.heap.size 30 ie _ 4 48 Try.underlying26 hie hiz hiz1 hiz2 rfl (by decide) _ (i + 1) (ev (l.take i ++ [e])) rfl HO3.out _ 0 _ (ev (l.drop i)) rfl (by rw [ev_len, List.length_drop, HL.out, Nat.sub_self]) (HSL.out _ _) (ev_one _) (i + 1) (by omega) (by unfold maxLen; omega) (by omega) (HB3.out.size) ?_; intro A4 c4 w4 hown4 hb4 _))
            | (at_builtin; go_loud (refine wpList_appN _ rfl (.tmp 61) (.tmp 63) _ rfl w2.heap.size 30 ie _ 4 48 Try.underlying26 hie hiz hiz1 hiz2 rfl (by decide) _ i (ev (l.take i)) rfl (HO5.out.alloc _) ⟨_, 0, none⟩ 1 1 (ecells e) rfl rfl (one_cells _ _ _) (ecells_one _) (i + 1) rfl (by unfold maxLen; omega) (by omega) (HBS.out _) ?_; intro A3 c3 w3 hown3 hb3 hg3; have HO3 := Lib.hid (own_snoc hown3); have HB3 := Lib.hid (HB5.out.trans (((Below.refl _ _).alloc HB5.out.size _).trans hb3)); have hO3 := True.intro; clear hown3 hg3)))
          (try simp only [Exit.inBlock, Exit.then])
          refine bodyPost_ret (results_tmp2 rfl _ _ _) rfl ?_
          exact .inr ⟨HNT.out, A4, c4, rfl, HPP.out _ _ (own_base hown4 HW2.out.size), HW2.out.trans ((HB3.out.trans hb4).mono HW2.out.size)⟩
        · have hci2 : ¬ c = i := fun h => hci h.symm
          go_wp2
          refine wp_region_held_drew (S := fun _ => True) (by kernel_rfl) (by (exact trivial)) (fun hHeld => ?_)
          refine wpAnyH_take (i := 0) (v := ?vr10_0) (Fr.take_at rfl) (by kernel_rfl) (by kernel_rfl) (by kernel_rfl) (fun _ _ _ h => h) (Or.inl ⟨by rfl, ?yr10_0⟩) (by assumption) ?nr10_0
          case yr10_0 => (intro w_ hSw; (try dsimp only at hSw); go_simp; (try with_reducible rfl))
          try simp only [Act.put, List.setIfInBounds_toArray, List.set_cons_zero, List.set_cons_succ]
          refine wpAnyH_take (i := 1) (v := ?vr10_1) (Fr.take_at rfl) (by kernel_rfl) (by kernel_rfl) (by kernel_rfl) (fun _ _ _ h => h) (Or.inl ⟨by rfl, ?yr10_1⟩) (by assumption) ?nr10_1
          case yr10_1 => (intro w_ hSw; (try dsimp only at hSw); go_simp; (try with_reducible rfl))
          try simp only [Act.put, List.setIfInBounds_toArray, List.set_cons_zero, List.set_cons_succ]
          refine wpAnyH_take (i := 2) (v := ?vr10_2) (Fr.take_at rfl) (by kernel_rfl) (by kernel_rfl) (by kernel_rfl) (fun _ _ _ h => h) (Or.inl ⟨by rfl, ?yr10_2⟩) (by assumption) ?nr10_2
          case yr10_2 => (intro w_ hSw; (try dsimp only at hSw); go_simp; (try with_reducible rfl))
          try simp only [Act.put, List.setIfInBounds_toArray, List.set_cons_zero, List.set_cons_succ]
          refine wpAnyH_take (i := 3) (v := ?vr10_3) (Fr.take_at rfl) (by kernel_rfl) (by kernel_rfl) (by kernel_rfl) (fun _ _ _ h => h) (Or.inl ⟨by rfl, ?yr10_3⟩) (by assumption) ?nr10_3
          case yr10_3 => (intro w_ hSw; (try dsimp only at hSw); go_simp; (try with_reducible rfl))
          try simp only [Act.put, List.setIfInBounds_toArray, List.set_cons_zero, List.set_cons_succ]
          refine wpAnyH_take (i := 4) (v := ?vr10_4) (Fr.take_at rfl) (by kernel_rfl) (by kernel_rfl) (by kernel_rfl) (fun _ _ _ h => h) (Or.inl ⟨by rfl, ?yr10_4⟩) (by assumption) ?nr10_4
          case yr10_4 => (intro w_ hSw; (try dsimp only at hSw); go_simp; (try with_reducible rfl))
          try simp only [Act.put, List.setIfInBounds_toArray, List.set_cons_zero, List.set_cons_succ]
          refine wpAnyH_take (i := 5) (v := undef) (Fr.take_at rfl) (by kernel_rfl) (by kernel_rfl) (by kernel_rfl) (fun _ _ _ h => h) (Or.inr ⟨by rfl, rfl⟩) (by assumption) ?_
          try simp only [Act.put, List.setIfInBounds_toArray, List.set_cons_zero, List.set_cons_succ]
          refine wpAnyH_take (i := 6) (v := undef) (Fr.take_at rfl) (by kernel_rfl) (by kernel_rfl) (by kernel_rfl) (fun _ _ _ h => h) (Or.inr ⟨by rfl, rfl⟩) (by assumption) ?_
          try simp only [Act.put, List.setIfInBounds_toArray, List.set_cons_zero, List.set_cons_succ]
          refine wpAnyH_take (i := 7) (v := undef) (Fr.take_at rfl) (by kernel_rfl) (by kernel_rfl) (by kernel_rfl) (fun _ _ _ h => h) (Or.inr ⟨by rfl, rfl⟩) (by assumption) ?_
          try simp only [Act.put, List.setIfInBounds_toArray, List.set_cons_zero, List.set_cons_succ]
          refine wpAnyH_take (i := 8) (v := undef) (Fr.take_at rfl) (by kernel_rfl) (by kernel_rfl) (by kernel_rfl) (fun _ _ _ h => h) (Or.inr ⟨by rfl, rfl⟩) (by assumption) ?_
          try simp only [Act.put, List.setIfInBounds_toArray, List.set_cons_zero, List.set_cons_succ]
          refine wpAnyH_take (i := 9) (v := undef) (Fr.take_at rfl) (by kernel_rfl) (by kernel_rfl) (by kernel_rfl) (fun _ _ _ h => h) (Or.inr ⟨by rfl, rfl⟩) (by assumption) ?_
          try simp only [Act.put, List.setIfInBounds_toArray, List.set_cons_zero, List.set_cons_succ]
          refine wpAnyH_take (i := 10) (v := undef) (Fr.take_at rfl) (by kernel_rfl) (by kernel_rfl) (by kernel_rfl) (fun _ _ _ h => h) (Or.inr ⟨by rfl, rfl⟩) (by assumption) ?_
          try simp only [Act.put, List.setIfInBounds_toArray, List.set_cons_zero, List.set_cons_succ]
          refine wpAnyH_take (i := 11) (v := ?vr10_11) (Fr.take_at rfl) (by kernel_rfl) (by kernel_rfl) (by kernel_rfl) (fun _ _ _ h => h) (Or.inl ⟨by rfl, ?yr10_11⟩) (by assumption) ?nr10_11
          case yr10_11 => (intro w_ hSw; (try dsimp only at hSw); go_simp; (try with_reducible rfl))
          try simp only [Act.put, List.setIfInBounds_toArray, List.set_cons_zero, List.set_cons_succ]
          refine wpAnyH_done (by kernel_rfl) ?_ _
          go_wp2
          refine wp_region_held_drew (S := fun _ => True) (by kernel_rfl) (by (exact trivial)) (fun hHeld => ?_)
          refine wpAnyH_take (i := 0) (v := ?vr11_0) (Fr.take_at rfl) (by kernel_rfl) (by kernel_rfl) (by kernel_rfl) (fun _ _ _ h => h) (Or.inl ⟨by rfl, ?yr11_0⟩) (by assumption) ?nr11_0
          case yr11_0 => (intro w_ hSw; (try dsimp only at hSw); go_simp; (try with_reducible rfl))
          try simp only [Act.put, List.setIfInBounds_toArray, List.set_cons_zero, List.set_cons_succ]
          refine wpAnyH_take (i := 1) (v := ?vr11_1) (Fr.take_at rfl) (by kernel_rfl) (by kernel_rfl) (by kernel_rfl) (fun _ _ _ h => h) (Or.inl ⟨by rfl, ?yr11_1⟩) (by assumption) ?nr11_1
          case yr11_1 => (intro w_ hSw; (try dsimp only at hSw); go_simp; (try with_reducible rfl))
          try simp only [Act.put, List.setIfInBounds_toArray, List.set_cons_zero, List.set_cons_succ]
          refine wpAnyH_take (i := 2) (v := ?vr11_2) (Fr.take_at rfl) (by kernel_rfl) (by kernel_rfl) (by kernel_rfl) (fun _ _ _ h => h) (Or.inl ⟨by rfl, ?yr11_2⟩) (by assumption) ?nr11_2
          case yr11_2 => (intro w_ hSw; (try dsimp only at hSw); go_simp; (try with_reducible rfl))
          try simp only [Act.put, List.setIfInBounds_toArray, List.set_cons_zero, List.set_cons_succ]
          refine wpAnyH_take (i := 3) (v := ?vr11_3) (Fr.take_at rfl) (by kernel_rfl) (by kernel_rfl) (by kernel_rfl) (fun _ _ _ h => h) (Or.inl ⟨by rfl, ?yr11_3⟩) (by assumption) ?nr11_3
          case yr11_3 => (intro w_ hSw; (try dsimp only at hSw); go_simp; (try with_reducible rfl))
          try simp only [Act.put, List.setIfInBounds_toArray, List.set_cons_zero, List.set_cons_succ]
          refine wpAnyH_take (i := 4) (v := ?vr11_4) (Fr.take_at rfl) (by kernel_rfl) (by kernel_rfl) (by kernel_rfl) (fun _ _ _ h => h) (Or.inl ⟨by rfl, ?yr11_4⟩) (by assumption) ?nr11_4
          case yr11_4 => (intro w_ hSw; (try dsimp only at hSw); go_simp; (try with_reducible rfl))
          try simp only [Act.put, List.setIfInBounds_toArray, List.set_cons_zero, List.set_cons_succ]
          refine wpAnyH_take (i := 5) (v := undef) (Fr.take_at rfl) (by kernel_rfl) (by kernel_rfl) (by kernel_rfl) (fun _ _ _ h => h) (Or.inr ⟨by rfl, rfl⟩) (by assumption) ?_
          try simp only [Act.put, List.setIfInBounds_toArray, List.set_cons_zero, List.set_cons_succ]
          refine wpAnyH_take (i := 6) (v := undef) (Fr.take_at rfl) (by kernel_rfl) (by kernel_rfl) (by kernel_rfl) (fun _ _ _ h => h) (Or.inr ⟨by rfl, rfl⟩) (by assumption) ?_
          try simp only [Act.put, List.setIfInBounds_toArray, List.set_cons_zero, List.set_cons_succ]
          refine wpAnyH_take (i := 7) (v := undef) (Fr.take_at rfl) (by kernel_rfl) (by kernel_rfl) (by kernel_rfl) (fun _ _ _ h => h) (Or.inr ⟨by rfl, rfl⟩) (by assumption) ?_
          try simp only [Act.put, List.setIfInBounds_toArray, List.set_cons_zero, List.set_cons_succ]
          refine wpAnyH_take (i := 8) (v := undef) (Fr.take_at rfl) (by kernel_rfl) (by kernel_rfl) (by kernel_rfl) (fun _ _ _ h => h) (Or.inr ⟨by rfl, rfl⟩) (by assumption) ?_
          try simp only [Act.put, List.setIfInBounds_toArray, List.set_cons_zero, List.set_cons_succ]
          refine wpAnyH_take (i := 9) (v := undef) (Fr.take_at rfl) (by kernel_rfl) (by kernel_rfl) (by kernel_rfl) (fun _ _ _ h => h) (Or.inr ⟨by rfl, rfl⟩) (by assumption) ?_
          try simp only [Act.put, List.setIfInBounds_toArray, List.set_cons_zero, List.set_cons_succ]
          refine wpAnyH_take (i := 10) (v := undef) (Fr.take_at rfl) (by kernel_rfl) (by kernel_rfl) (by kernel_rfl) (fun _ _ _ h => h) (Or.inr ⟨by rfl, rfl⟩) (by assumption) ?_
          try simp only [Act.put, List.setIfInBounds_toArray, List.set_cons_zero, List.set_cons_succ]
          refine wpAnyH_take (i := 11) (v := undef) (Fr.take_at rfl) (by kernel_rfl) (by kernel_rfl) (by kernel_rfl) (fun _ _ _ h => h) (Or.inr ⟨by rfl, rfl⟩) (by assumption) ?_
          try simp only [Act.put, List.setIfInBounds_toArray, List.set_cons_zero, List.set_cons_succ]
          refine wpAnyH_take (i := 12) (v := undef) (Fr.take_at rfl) (by kernel_rfl) (by kernel_rfl) (by kernel_rfl) (fun _ _ _ h => h) (Or.inr ⟨by rfl, rfl⟩) (by assumption) ?_
          try simp only [Act.put, List.setIfInBounds_toArray, List.set_cons_zero, List.set_cons_succ]
          refine wpAnyH_take (i := 13) (v := ?vr11_13) (Fr.take_at rfl) (by kernel_rfl) (by kernel_rfl) (by kernel_rfl) (fun _ _ _ h => h) (Or.inl ⟨by rfl, ?yr11_13⟩) (by assumption) ?nr11_13
          case yr11_13 => (intro w_ hSw; (try dsimp only at hSw); go_simp; (try with_reducible rfl))
          try simp only [Act.put, List.setIfInBounds_toArray, List.set_cons_zero, List.set_cons_succ]
          refine wpAnyH_take (i := 14) (v := ?vr11_14) (Fr.take_at rfl) (by kernel_rfl) (by kernel_rfl) (by kernel_rfl) (fun _ _ _ h => h) (Or.inl ⟨by rfl, ?yr11_14⟩) (by assumption) ?nr11_14
          case yr11_14 => (intro w_ hSw; (try dsimp only at hSw); go_simp; (try with_reducible rfl))
          try simp only [Act.put, List.setIfInBounds_toArray, List.set_cons_zero, List.set_cons_succ]
          refine wpAnyH_take (i := 15) (v := undef) (Fr.take_at rfl) (by kernel_rfl) (by kernel_rfl) (by kernel_rfl) (fun _ _ _ h => h) (Or.inr ⟨by rfl, rfl⟩) (by assumption) ?_
          try simp only [Act.put, List.setIfInBounds_toArray, List.set_cons_zero, List.set_cons_succ]
          refine wpAnyH_take (i := 16) (v := undef) (Fr.take_at rfl) (by kernel_rfl) (by kernel_rfl) (by kernel_rfl) (fun _ _ _ h => h) (Or.inr ⟨by rfl, rfl⟩) (by assumption) ?_
          try simp only [Act.put, List.setIfInBounds_toArray, List.set_cons_zero, List.set_cons_succ]
          refine wpAnyH_take (i := 17) (v := undef) (Fr.take_at rfl) (by kernel_rfl) (by kernel_rfl) (by kernel_rfl) (fun _ _ _ h => h) (Or.inr ⟨by rfl, rfl⟩) (by assumption) ?_
          try simp only [Act.put, List.setIfInBounds_toArray, List.set_cons_zero, List.set_cons_succ]
          refine wpAnyH_take (i := 18) (v := undef) (Fr.take_at rfl) (by kernel_rfl) (by kernel_rfl) (by kernel_rfl) (fun _ _ _ h => h) (Or.inr ⟨by rfl, rfl⟩) (by assumption) ?_
          try simp only [Act.put, List.setIfInBounds_toArray, List.set_cons_zero, List.set_cons_succ]
          refine wpAnyH_take (i := 19) (v := undef) (Fr.take_at rfl) (by kernel_rfl) (by kernel_rfl) (by kernel_rfl) (fun _ _ _ h => h) (Or.inr ⟨by rfl, rfl⟩) (by assumption) ?_
          try simp only [Act.put, List.setIfInBounds_toArray, List.set_cons_zero, List.set_cons_succ]
          refine wpAnyH_take (i := 20) (v := undef) (Fr.take_at rfl) (by kernel_rfl) (by kernel_rfl) (by kernel_rfl) (fun _ _ _ h => h) (Or.inr ⟨by rfl, rfl⟩) (by assumption) ?_
          try simp only [Act.put, List.setIfInBounds_toArray, List.set_cons_zero, List.set_cons_succ]
          refine wpAnyH_take (i := 21) (v := undef) (Fr.take_at rfl) (by kernel_rfl) (by kernel_rfl) (by kernel_rfl) (fun _ _ _ h => h) (Or.inr ⟨by rfl, rfl⟩) (by assumption) ?_
          try simp only [Act.put, List.setIfInBounds_toArray, List.set_cons_zero, List.set_cons_succ]
          refine wpAnyH_take (i := 22) (v := undef) (Fr.take_at rfl) (by kernel_rfl) (by kernel_rfl) (by kernel_rfl) (fun _ _ _ h => h) (Or.inr ⟨by rfl, rfl⟩) (by assumption) ?_
          try simp only [Act.put, List.setIfInBounds_toArray, List.set_cons_zero, List.set_cons_succ]
          refine wpAnyH_take (i := 23) (v := ?vr11_23) (Fr.take_at rfl) (by kernel_rfl) (by kernel_rfl) (by kernel_rfl) (fun _ _ _ h => h) (Or.inl ⟨by rfl, ?yr11_23⟩) (by assumption) ?nr11_23
          case yr11_23 => (intro w_ hSw; (try dsimp only at hSw); go_simp; (try with_reducible rfl))
          try simp only [Act.put, List.setIfInBounds_toArray, List.set_cons_zero, List.set_cons_succ]
          refine wpAnyH_done (by kernel_rfl) ?_ _
          have HO5 := Lib.hid (show ((wr.drewN 1).drewN 1).ownsRow w2.heap.size 30 4 (.slice A1 i c1) i (ev (l.take i)) from HO5.out)
          have HB5 := Lib.hid (show Below w2.heap.size w2 ((wr.drewN 1).drewN 1) from below_drewN (below_drewN HB5.out 1) 1)
          have HBS := Lib.hid (fun o : Obj => show w2.heap.size ≤ (((wr.drewN 1).drewN 1).alloc o).heap.size from Nat.le_trans HB5.out.size (by simp))
          go_wp2_with (first
            | (at_builtin; have _ := hO3; go_loud (refine wpList_appN _ rfl (.tmp 65) (.tmp 68) _ rfl w2.heap.size 30 ie _ 4 48 Try.underlying26 hie hiz hiz1 hiz2 rfl (by decide) _ (i + 1) (ev (l.take i ++ [e])) rfl HO3.out _ 0 _ (ev (l.drop i)) rfl (by rw [ev_len, List.length_drop, HL.out, Nat.sub_self]) (HSL.out _ _) (ev_one _) (i + 1) (by omega) (by unfold maxLen; omega) (by omega) (HB3.out.size) ?_; intro A4 c4 w4 hown4 hb4 _))
            | (at_builtin; go_loud (refine wpList_appN _ rfl (.tmp 61) (.tmp 63) _ rfl w2.heap.size 30 ie _ 4 48 Try.underlying26 hie hiz hiz1 hiz2 rfl (by decide) _ i (ev (l.take i)) rfl (HO5.out.alloc _) ⟨_, 0, none⟩ 1 1 (ecells e) rfl rfl (one_cells _ _ _) (ecells_one _) (i + 1) rfl (by unfold maxLen; omega) (by omega) (HBS.out _) ?_; intro A3 c3 w3 hown3 hb3 hg3; have HO3 := Lib.hid (own_snoc hown3); have HB3 := Lib.hid (HB5.out.trans (((Below.refl _ _).alloc HB5.out.size _).trans hb3)); have hO3 := True.intro; clear hown3 hg3)))
          (try simp only [Exit.inBlock, Exit.then])
          refine bodyPost_ret (results_tmp2 rfl _ _ _) rfl ?_
          exact .inr ⟨HNT.out, A4, c4, rfl, HPP.out _ _ (own_base hown4 HW2.out.size), HW2.out.trans ((HB3.out.trans hb4).mono HW2.out.size)⟩
end
end Mm
end Go.Proofs.Ytfnfjhfmhinkcaa
