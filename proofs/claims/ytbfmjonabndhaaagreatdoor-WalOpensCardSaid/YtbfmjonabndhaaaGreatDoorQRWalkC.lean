/-
  WHAT IS PROVED: (1) how a row of files is appended to; what the reference's with and without do. CONDITIONS: the list stands in memory as named.
-/
import Derived.Test.YtbfmjonabndhaaaGreatDoorQRWalkB
namespace Go.Proofs.YtbfmjonabndhaaaGreatDoor
open Go Go.RowKit Go.Maps Go.Proofs.YtbfmjonabndhaaaGreatDoor.Fr
namespace Dr

theorem own_shapeN {w : World} {base size : Nat} {e : TypeId} {v : Value} {n : Nat} {xs : List Value} (h : w.ownsRow base e size v n xs) : ∃ A c, v = .slice A n c ∧ n ≤ c ∧ c ≤ maxLen := by
  rcases h.2 with ⟨rfl, rfl⟩ | ⟨g, cap, cur, rfl, _, _, h1, h2, _⟩
  · exact ⟨none, 0, rfl, Nat.le_refl _, by simp [maxLen]⟩
  · exact ⟨_, cap, rfl, h1, h2⟩
theorem own_rowN {w : World} {base size : Nat} {e : TypeId} {v : Value} {n : Nat} {xs : List Value} (h : w.ownsRow base e size v n xs) : ∀ k, v.ownBlock = some k → base ≤ k := fun k hk => (h.lt k hk).1
/-- Elements of several cells appended. -/
theorem wpList_appN {P : Program} (w : World) {ops : Array Oper} {rest : List Oper} {o : Oper} {a : Act} {Q : Exit → Act → World → Prop} (hgd : o.guard = none) (s x : Operand) (t : TypeId)
    (ho : o.op = .call { callee := .builtin .append, args := #[s, x], argTypes := #[t, t] })
    (base : Nat) (e : TypeId) (i : TypeInfo) (z : Value) (size bytes : Nat) (ht : P.underlying t = some (.slice e)) (hi : P.info? e = some i) (hz : i.zero = some z)
    (hsize : i.size = size) (hby : i.bytes = bytes) (hzs : z.cells.size = size) (hsz : 0 < size)
    (v : Value) (n : Nat) (xs : List Value) (hs : a.eval s = v) (hown : w.ownsRow base e size v n xs)
    (ad : Addr) (m c : Nat) (news : List Value) (hx : a.eval x = .slice (some ad) m c) (hl : news.length = m * size) (hr : ∀ j u, news[j]? = some u → w.cell? (ad.add j) = some u) (h1 : ∀ u ∈ news, u.oneCell' = true)
    (N : Nat) (hN : n + m = N) (h63 : N ≤ maxLen) (hbytes : N * bytes ≤ 140737488355328) (hbase : base ≤ w.heap.size)
    (h : ∀ A' c' w', w'.ownsRow base e size (.slice A' N c') N (xs ++ news) → Below base w w' → w.grownBy w' v.ownBlock → wpList P ops Q rest (a.put o.dst (.slice A' N c')) w') : wpList P ops Q (o :: rest) a w := by
  subst hN
  refine wpList_plain hgd fun _ hK => ?_
  obtain ⟨v', w', hrun, h2, h3, _, _⟩ := run_append_own_at (P := P) w base t o.type e i z size bytes ht hi hz hsize hby hzs hsz v n xs hown ad m c news hl hr h1 h63 hbytes hbase
  obtain ⟨A', c', rfl, _, _⟩ := own_shapeN h2
  unfold Oper.wp execOp
  simp only [ho, resolve, invoke, builtin, Sem.run_bind, Sem.run_pure, Result.andThen_ok, List.map_toArray, List.map_cons, List.map_nil, hs, hx, hrun]
  exact hK _ _ (h A' c' w' h2 ((Below.refl _ _).grown h3 hbase (own_rowN hown)) h3)
theorem blk_new' {w : World} {t : TypeId} {cs : Array Value} {g : Nat} (h : w.heap.size = g) : Blk (w.alloc (.cells cs t)) g t cs := by subst h; exact Blk.new w t cs
theorem add0 (g j : Nat) : (⟨g, 0, none⟩ : Addr).add j = ⟨g, j, none⟩ := by unfold Addr.add; split <;> simp_all
/-- A block just laid, as what is appended. -/
theorem one_cells (w : World) (t : TypeId) (cs : List Value) : ∀ j u, cs[j]? = some u → (w.alloc (.cells cs.toArray t)).cell? ((⟨w.heap.size, 0, none⟩ : Addr).add j) = some u := fun j u h => by
  rw [add0, (Blk.new w t cs.toArray).cell j]
  simpa using h

/-! ### with, as the loop builds it -/
def wstep (f : Fl) (s : List Fl × Bool) (g : Fl) : List Fl × Bool :=
  let s1 := if !s.2 && decide (f.name ≤ g.name) then (s.1 ++ [f], true) else s
  if g.name = f.name then s1 else (s1.1 ++ [g], s1.2)
theorem le_of_lt' {a b : Bs} (h : a < b) : a ≤ b := List.le_of_lt h
theorem not_le_of_lt {a b : Bs} (h : b < a) : ¬ a ≤ b := fun k => k h
theorem wstep_lt {f g : Fl} (acc : List Fl) (h : g.name < f.name) : wstep f (acc, false) g = (acc ++ [g], false) := by
  unfold wstep; simp [not_le_of_lt h, ne_of_lt h]
theorem wstep_eq {f g : Fl} (acc : List Fl) (h : g.name = f.name) : wstep f (acc, false) g = (acc ++ [f], true) := by
  unfold wstep; simp [h]
theorem wstep_gt {f g : Fl} (acc : List Fl) (h : f.name < g.name) : wstep f (acc, false) g = (acc ++ [f] ++ [g], true) := by
  unfold wstep; simp [le_of_lt' h, (ne_of_lt h).symm]
theorem wstep_true_eq {f g : Fl} (acc : List Fl) (h : g.name = f.name) : wstep f (acc, true) g = (acc, true) := by unfold wstep; simp [h]
theorem wstep_true_ne {f g : Fl} (acc : List Fl) (h : g.name ≠ f.name) : wstep f (acc, true) g = (acc ++ [g], true) := by unfold wstep; simp [h]
theorem wfold_true (f : Fl) : ∀ (l : List Fl) (acc : List Fl), (∀ g ∈ l, f.name < g.name) → l.foldl (wstep f) (acc, true) = (acc ++ l, true)
  | [], acc, _ => by simp
  | g :: r, acc, h => by
    rw [List.foldl_cons, wstep_true_ne acc (ne_of_lt (h g (by simp))).symm, wfold_true f r _ fun x hx => h x (by simp [hx])]
    simp
def wfin (f : Fl) (s : List Fl × Bool) : List Fl := if s.2 then s.1 else s.1 ++ [f]
theorem wfold_put (f : Fl) : ∀ (l : List Fl) (acc : List Fl), Rising l → wfin f (l.foldl (wstep f) (acc, false)) = acc ++ put f l
  | [], acc, _ => by simp [wfin, put]
  | g :: r, acc, hr => by
    obtain ⟨h1, h2⟩ := List.pairwise_cons.1 hr
    rw [List.foldl_cons]
    rcases lt_total g.name f.name with h | h | h
    · rw [wstep_lt acc h, wfold_put f r _ h2]
      have h' := lt_asymm h
      unfold put
      simp only [List.filter_cons, h, h', decide_true, decide_false, if_true, if_false, Bool.false_eq_true, List.cons_append, List.append_assoc, List.nil_append]
    · have hall : ∀ x ∈ r, f.name < x.name := fun x hx => by rw [← h]; exact h1 x hx
      rw [wstep_eq acc h, wfold_true f r _ hall]
      have e1 : (r.filter fun x => decide (x.name < f.name)) = [] := by rw [List.filter_eq_nil_iff]; intro x hx; simpa using lt_asymm (hall x hx)
      have e2 : (r.filter fun x => decide (f.name < x.name)) = r := by rw [List.filter_eq_self]; intro x hx; simpa using hall x hx
      have e3 := lt_irrefl f.name
      unfold put wfin
      simp only [List.filter_cons, h, e3, e1, e2, decide_false, if_false, if_true, Bool.false_eq_true, List.nil_append, List.append_assoc, List.cons_append]
    · have hall : ∀ x ∈ r, f.name < x.name := fun x hx => lt_trans h (h1 x hx)
      rw [wstep_gt acc h, wfold_true f r _ hall]
      have e1 : (r.filter fun x => decide (x.name < f.name)) = [] := by rw [List.filter_eq_nil_iff]; intro x hx; simpa using lt_asymm (hall x hx)
      have e2 : (r.filter fun x => decide (f.name < x.name)) = r := by rw [List.filter_eq_self]; intro x hx; simpa using hall x hx
      have h' := lt_asymm h
      unfold put wfin
      simp only [List.filter_cons, h, h', e1, e2, decide_true, decide_false, if_false, if_true, Bool.false_eq_true, List.nil_append, List.append_assoc, List.cons_append]

theorem info_file : (Tryz.prog.info? 64).map (fun i => (i.zero, i.size, i.bytes)) = some (some (.agg #[.string ⟨#[]⟩, .string ⟨#[]⟩, .int .i64 0]), 3, 40) := by kernel_rfl
/-- The loop's state. -/
def WInv (W3 : World) (f : Fl) (l : List Fl) (s5 s6 s7 : Value) (wr : World) : Prop :=
  ∃ (i : Nat) (A : Option Addr) (n c : Nat) (acc : List Fl) (p : Bool), i ≤ l.length ∧ s7 = .int .i64 (i : Int) ∧ s6 = .bool p ∧ s5 = .slice A n c ∧ acc.length = n ∧ n ≤ 2 * i ∧ (l.take i).foldl (wstep f) ([], false) = (acc, p) ∧
    wr.ownsRow W3.heap.size 64 3 (.slice A n c) n (fv acc) ∧ Below W3.heap.size W3 wr
theorem winv_step {W3 wr w' : World} {f g : Fl} {l : List Fl} {i : Nat} {acc acc' : List Fl} {p p' : Bool} {A' : Option Addr} {n c' : Nat} (hi : l[i]? = some g) (hil : i < l.length) (hf : (l.take i).foldl (wstep f) ([], false) = (acc, p)) (hs : wstep f (acc, p) g = (acc', p')) (hn : acc'.length = n) (hn2 : n ≤ 2 * i + 2)
    (hown : w'.ownsRow W3.heap.size 64 3 (.slice A' n c') n (fv acc')) (hb : Below W3.heap.size W3 wr) (hb' : Below W3.heap.size wr w') : WInv W3 f l (.slice A' n c') (.bool p') (.int .i64 ((i : Int) + 1)) w' :=
  ⟨i + 1, A', n, c', acc', p', hil, by go_num, rfl, rfl, hn, by omega, by rw [List.take_add_one, hi, List.foldl_append, hf]; exact hs, hown, hb.trans hb'⟩
theorem fcells_one (f : Fl) : ∀ u ∈ fcells f, u.oneCell' = true := by
  intro u hu
  simp only [fcells, List.mem_cons, List.not_mem_nil, or_false] at hu
  rcases hu with rfl | rfl | rfl <;> rfl
theorem own_snoc {w : World} {base : Nat} {v : Value} {n : Nat} {acc : List Fl} {f : Fl} (h : w.ownsRow base 64 3 v n (fv acc ++ fcells f)) : w.ownsRow base 64 3 v n (fv (acc ++ [f])) := by rw [fv_append, fv_one]; exact h
theorem len_snoc {acc : List Fl} {f : Fl} {n : Nat} (h : acc.length = n) : (acc ++ [f]).length = n + 1 := by simp [h]
theorem below_app {B q : Nat} {w w' : World} {o : Obj} (hB : B ≤ w.heap.size) (h : Below B ((w.drewN q).alloc o) w') : Below B w w' := (below_drewN (Below.refl B w) q).trans (((Below.refl B (w.drewN q)).alloc hB o).trans h)
theorem below_app0 {B : Nat} {w w' : World} {o : Obj} (hB : B ≤ w.heap.size) (h : Below B (w.alloc o) w') : Below B w w' := ((Below.refl B w).alloc hB o).trans h
theorem box_facts {W : World} {g g' : Nat} {t t' : TypeId} {a0 a1 a2 a3 c0 c1 c2 c3 : Value} (h : Blk W g t #[a0, a1, a2, a3]) (k : Blk W g' t' #[c0, c1, c2, c3]) :
    W.cell? ⟨g, 0, none⟩ = some a0 ∧ W.cell? ⟨g, 1, none⟩ = some a1 ∧ W.cell? ⟨g, 2, none⟩ = some a2 ∧ W.cell? ⟨g, 3, none⟩ = some a3 ∧ W.frozen? ⟨g, 0, none⟩ = false ∧
      W.cell? ⟨g', 0, none⟩ = some c0 ∧ W.cell? ⟨g', 1, none⟩ = some c1 ∧ W.cell? ⟨g', 2, none⟩ = some c2 ∧ W.cell? ⟨g', 3, none⟩ = some c3 ∧ W.frozen? ⟨g', 0, none⟩ = false ∧ W.frozen? ⟨g', 1, none⟩ = false ∧ W.frozen? ⟨g', 2, none⟩ = false ∧ W.frozen? ⟨g', 3, none⟩ = false :=
  ⟨h.cell 0, h.cell 1, h.cell 2, h.cell 3, h.frozen 0, k.cell 0, k.cell 1, k.cell 2, k.cell 3, k.frozen 0, k.frozen 1, k.frozen 2, k.frozen 3⟩
theorem own_zero {w : World} {base size : Nat} {e : TypeId} {v : Value} {n : Nat} {xs : List Value} (h : w.ownsRow base e size v n xs) : w.ownsRow 0 e size v n xs := by
  refine ⟨h.1, ?_⟩
  rcases h.2 with h0 | ⟨g, cap, cur, hv, _, r⟩
  · exact .inl h0
  · exact .inr ⟨g, cap, cur, hv, Nat.zero_le _, r⟩
/-- The world behind a result's box was filled, one cell of another box set ahead. -/
def fill4 (w : World) (g g' : Nat) (u a0 a1 a2 a3 : Value) : World := ((((w.setCell ⟨g, 0, none⟩ u).setCell ⟨g', 0, none⟩ a0).setCell ⟨g', 1, none⟩ a1).setCell ⟨g', 2, none⟩ a2).setCell ⟨g', 3, none⟩ a3
theorem fill4_blk {wr : World} {g g' : Nat} {t : TypeId} {u a0 a1 a2 a3 c0 c1 c2 c3 : Value} (h : Blk wr g' t #[c0, c1, c2, c3]) (hne : g' ≠ g) : Blk (fill4 wr g g' u a0 a1 a2 a3) g' t #[a0, a1, a2, a3] := by
  have h0 : Blk (wr.setCell ⟨g, 0, none⟩ u) g' t #[c0, c1, c2, c3] := h.same (Below.heap_setCell _ _ _ _ hne)
  have := (((h0.set 0 a0).set 1 a1).set 2 a2).set 3 a3
  unfold fill4
  simpa using this
theorem fill4_list {w wr : World} {B g g' : Nat} {T : Nat → Prop} {u a0 a1 a2 a3 v : Value} {l : List Fl} {n : Nat} (hg : g < B) (hg' : g' < B) (hgw : w.heap.size ≤ g) (hgw' : w.heap.size ≤ g') (hown : wr.ownsRow B 64 3 v n (fv l)) (hl : l.length = n) (hb : Below w.heap.size w wr) (hT : ∀ k, T k → k < w.heap.size) :
    ListAt (fill4 wr g g' u a0 a1 a2 a3) (ext T w (fill4 wr g g' u a0 a1 a2 a3)) v l ∧ Below w.heap.size w (fill4 wr g g' u a0 a1 a2 a3) := by
  have hsz : (fill4 wr g g' u a0 a1 a2 a3).heap.size = wr.heap.size := by simp [fill4, World.setCell]
  have hsame : ∀ k, B ≤ k → (fill4 wr g g' u a0 a1 a2 a3).heap[k]? = wr.heap[k]? := fun k hk => by
    unfold fill4
    rw [Below.heap_setCell _ _ _ _ (by show k ≠ g'; omega), Below.heap_setCell _ _ _ _ (by show k ≠ g'; omega), Below.heap_setCell _ _ _ _ (by show k ≠ g'; omega), Below.heap_setCell _ _ _ _ (by show k ≠ g'; omega), Below.heap_setCell _ _ _ _ (by show k ≠ g; omega)]
  refine ⟨⟨?_, fun k hk => ?_, ext_lt hT (by rw [hsz]; exact hb.size)⟩, ((((hb.setCell (p := ⟨g, 0, none⟩) hgw u).setCell (p := ⟨g', 0, none⟩) hgw' a0).setCell (p := ⟨g', 1, none⟩) hgw' a1).setCell (p := ⟨g', 2, none⟩) hgw' a2).setCell (p := ⟨g', 3, none⟩) hgw' a3⟩
  · rw [hl]
    exact own_same (own_zero hown) fun k hk => hsame k (hown.lt k hk).1
  · have := hown.lt k hk
    exact .inr ⟨by omega, by rw [hsz]; exact this.2⟩
theorem bl_false {a b : Bs} (h : ¬ a < b) : Op.bytesLess a b = false := by rw [bytesLess_eq]; simpa using h
theorem bl_true {a b : Bs} (h : a < b) : Op.bytesLess a b = true := by rw [bytesLess_eq]; simpa using h
theorem bq_false {a b : Bs} (h : a ≠ b) : (a == b) = false := by simpa using h
def fileV (f : Fl) : Value := .agg #[.string ⟨f.name.toArray⟩, .string ⟨f.dat.toArray⟩, .int .i64 (f.syn : Int)]
section
variable {w : World} {T : Nat → Prop} {v : Value} {st : St}
set_option maxRecDepth 100000 in
set_option maxHeartbeats 1000000 in
theorem with_gen (h : RefRep w T v st) (hrise : Rising st.files) (hfew : st.files.length ≤ 1000) (f : Fl) :
    Calls Tryz.prog 22 #[v, fileV f] w (RRet T w { st with files := put f st.files }) := by
  obtain ⟨A, c, rfl, hl, hlc⟩ := refV_of h
  have HR := Lib.hid hrise
  have HL := Lib.hid hl
  obtain ⟨ii, hii, hiz, hiz1, hiz2⟩ := info_parts info_file
  clear h hl
  unfold fileV
  go_enter Tryz.func22, Tryz.ntmps22
  go_wp2
  obtain ⟨W3, hW3⟩ : ∃ W3, W3 = (((w.alloc (.cells #[.slice A st.files.length c, .int .i64 (st.steps : Int), .bool st.armed, .int .i64 (st.left : Int)] 35)).alloc (.cells #[.string ⟨f.name.toArray⟩, .string ⟨f.dat.toArray⟩, .int .i64 (f.syn : Int)] 64)).alloc (.cells #[.slice none 0 0, .int .i64 0, .bool false, .int .i64 0] 35)) := ⟨_, rfl⟩
  rw [← hW3]
  have hsz3 : W3.heap.size = w.heap.size + 3 := by rw [hW3]; simp
  have hbw3 : Below w.heap.size w W3 := by rw [hW3]; exact (((Below.refl _ _).alloc (Nat.le_refl _) _).alloc (by simp) _).alloc (by simp; omega) _
  have k1 : Blk W3 w.heap.size 35 #[.slice A st.files.length c, .int .i64 (st.steps : Int), .bool st.armed, .int .i64 (st.left : Int)] := by rw [hW3]; exact ((Blk.new w _ _).alloc _).alloc _
  have k2 : Blk W3 (w.heap.size + 1) 64 #[.string ⟨f.name.toArray⟩, .string ⟨f.dat.toArray⟩, .int .i64 (f.syn : Int)] := by rw [hW3]; exact (blk_new' (by simp)).alloc _
  have k3 : Blk W3 (w.heap.size + 1 + 1) 35 #[.slice none 0 0, .int .i64 0, .bool false, .int .i64 0] := by rw [hW3]; exact blk_new' (by simp)
  have HK : Hid (∀ W, Below W3.heap.size W3 W → Blk W w.heap.size 35 #[.slice A st.files.length c, .int .i64 (st.steps : Int), .bool st.armed, .int .i64 (st.left : Int)] ∧ Blk W (w.heap.size + 1) 64 #[.string ⟨f.name.toArray⟩, .string ⟨f.dat.toArray⟩, .int .i64 (f.syn : Int)] ∧ Blk W (w.heap.size + 1 + 1) 35 #[.slice none 0 0, .int .i64 0, .bool false, .int .i64 0]) :=
    fun W hb => ⟨k1.same (hb.block _ (by omega)), k2.same (hb.block _ (by omega)), k3.same (hb.block _ (by omega))⟩
  clear k1 k2 k3 hW3
  go_loopw [5, 6, 7] (WInv W3 f st.files) (fun _ _ x _ => st.files.length - (intOf x).toNat)
  case atStart => exact ⟨0, none, 0, 0, [], false, Nat.zero_le _, rfl, rfl, rfl, rfl, Nat.le_refl _, rfl, World.ownsRow_nil _ _ _ _, Below.refl _ _⟩
  case round =>
    obtain ⟨i, A1, n1, c1, acc, p, hi, rfl, rfl, rfl, hacc, hn1, hfold, hown, hb⟩ := hrel
    obtain ⟨b1, b2, b3⟩ := HK.out wr hb
    have q10 := b1.cell 0
    have q20 := b2.cell 0
    have q21 := b2.cell 1
    have q22 := b2.cell 2
    have HB1 := Lib.hid b1
    have HB3 := Lib.hid b3
    have hws := hb.size
    have HACC := Lib.hid hacc
    have HFOLD := Lib.hid hfold
    clear b1 b2 b3 hacc hfold
    by_cases hlt : i < st.files.length
    · obtain ⟨g, hg⟩ : ∃ g, st.files[i]? = some g := ⟨_, List.getElem?_eq_getElem hlt⟩
      obtain ⟨gb, rfl, hgb, e0, e1, e2⟩ := (HL.out.below (hbw3.trans (hb.mono hbw3.size))).file hg
      have HG := Lib.hid hg
      clear hg
      rcases lt_total g.name f.name with hc | hc | hc
      · have t1 := bl_false (lt_asymm hc)
        have t2 := bq_false (ne_of_lt hc).symm
        have t3 := bq_false (ne_of_lt hc)
        have HC := Lib.hid hc
        clear hc
        cases p
        · go_wp2
          go_quiet (fail)
          go_wp2
          go_quiet (fail)
          go_wp2_with (at_builtin; refine wpList_appN _ rfl (.tmp 41) (.tmp 47) _ rfl W3.heap.size 64 ii _ 3 40 Tryz.underlying33 hii hiz hiz1 hiz2 rfl (by decide) _ (n1) (fv (acc)) rfl (hown.alloc _) ⟨_, 0, none⟩ 1 1 (fcells g) rfl rfl (one_cells _ _ _) (fcells_one _) (n1 + 1) rfl (by unfold maxLen; omega) (by omega) (by simp; omega) ?_; intro A9 c9 w9 hown9 hb9 _)
          go_roundw
          case rel => exact winv_step HG.out hlt HFOLD.out (wstep_lt acc HC.out) (len_snoc HACC.out) (by omega) (own_snoc hown9) hb ((below_app (by omega) hb9))
          case measure => simp [intOf]; omega
        · go_wp2
          go_quiet (fail)
          go_wp2
          go_quiet (fail)
          go_wp2_with (at_builtin; refine wpList_appN _ rfl (.tmp 41) (.tmp 47) _ rfl W3.heap.size 64 ii _ 3 40 Tryz.underlying33 hii hiz hiz1 hiz2 rfl (by decide) _ (n1) (fv (acc)) rfl (hown.alloc _) ⟨_, 0, none⟩ 1 1 (fcells g) rfl rfl (one_cells _ _ _) (fcells_one _) (n1 + 1) rfl (by unfold maxLen; omega) (by omega) (by simp; omega) ?_; intro A9 c9 w9 hown9 hb9 _)
          go_roundw
          case rel => exact winv_step HG.out hlt HFOLD.out (wstep_true_ne acc (ne_of_lt HC.out)) (len_snoc HACC.out) (by omega) (own_snoc hown9) hb ((below_app (by omega) hb9))
          case measure => simp [intOf]; omega
      · have t1 := bl_false (a := f.name) (b := g.name) (by rw [hc]; exact lt_irrefl _)
        have t2 : (f.name == g.name) = true := by rw [hc]; simp
        have t3 : (g.name == f.name) = true := by rw [hc]; simp
        have HC := Lib.hid hc
        clear hc
        cases p
        · go_wp2
          go_quiet (fail)
          go_wp2_with (at_builtin; refine wpList_appN _ rfl (.tmp 28) (.tmp 30) _ rfl W3.heap.size 64 ii _ 3 40 Tryz.underlying33 hii hiz hiz1 hiz2 rfl (by decide) _ (n1) (fv (acc)) rfl (hown.alloc _) ⟨_, 0, none⟩ 1 1 (fcells f) rfl rfl (one_cells _ _ _) (fcells_one _) (n1 + 1) rfl (by unfold maxLen; omega) (by omega) (by simp; omega) ?_; intro A9 c9 w9 hown9 hb9 _)
          have hb99 := hb.trans (below_app (w := wr) (by omega) hb9)
          obtain ⟨b1, b2, b3⟩ := HK.out w9 hb99
          have r10 := b1.cell 0
          have r20 := b2.cell 0
          obtain ⟨gb', hgb', _, x0, x1, x2⟩ := (HL.out.below (hbw3.trans (hb99.mono hbw3.size))).file HG.out
          obtain rfl : gb = gb' := by simpa using hgb'
          clear b1 b2 b3 hgb'
          go_quiet (fail)
          go_wp2
          go_roundw
          case rel => exact winv_step HG.out hlt HFOLD.out (wstep_eq acc HC.out) (len_snoc HACC.out) (by omega) (own_snoc hown9) hb (below_drewN (below_app (by omega) hb9) _)
          case measure => simp [intOf]; omega
        · go_wp2
          go_quiet (fail)
          go_wp2
          go_quiet (fail)
          go_wp2
          go_roundw
          case rel => exact winv_step HG.out hlt HFOLD.out (wstep_true_eq acc HC.out) (HACC.out) (by omega) (hown) hb (below_drewN (Below.refl _ _) _)
          case measure => simp [intOf]; omega
      · have t1 := bl_true hc
        have t2 := bq_false (ne_of_lt hc)
        have t3 := bq_false (ne_of_lt hc).symm
        have HC := Lib.hid hc
        clear hc
        cases p
        · go_wp2
          go_quiet (fail)
          go_wp2_with (at_builtin; refine wpList_appN _ rfl (.tmp 28) (.tmp 30) _ rfl W3.heap.size 64 ii _ 3 40 Tryz.underlying33 hii hiz hiz1 hiz2 rfl (by decide) _ (n1) (fv (acc)) rfl (hown.alloc _) ⟨_, 0, none⟩ 1 1 (fcells f) rfl rfl (one_cells _ _ _) (fcells_one _) (n1 + 1) rfl (by unfold maxLen; omega) (by omega) (by simp; omega) ?_; intro A9 c9 w9 hown9 hb9 _)
          have hb99 := hb.trans (below_app (w := wr) (by omega) hb9)
          obtain ⟨b1, b2, b3⟩ := HK.out w9 hb99
          have r10 := b1.cell 0
          have r20 := b2.cell 0
          obtain ⟨gb', hgb', _, x0, x1, x2⟩ := (HL.out.below (hbw3.trans (hb99.mono hbw3.size))).file HG.out
          obtain rfl : gb = gb' := by simpa using hgb'
          clear b1 b2 b3 hgb'
          have hown9' := own_snoc hown9
          have hb9' := below_app (w := wr) (by omega) hb9
          have hw9 := hb9'.size
          go_quiet (fail)
          go_wp2_with (at_builtin; refine wpList_appN _ rfl (.tmp 41) (.tmp 47) _ rfl W3.heap.size 64 ii _ 3 40 Tryz.underlying33 hii hiz hiz1 hiz2 rfl (by decide) _ (n1 + 1) (fv (acc ++ [f])) rfl (hown9'.alloc _) ⟨_, 0, none⟩ 1 1 (fcells g) rfl rfl (one_cells _ _ _) (fcells_one _) (n1 + 1 + 1) rfl (by unfold maxLen; omega) (by omega) (by simp; omega) ?_; intro A8 c8 w8 hown8 hb8 _)
          go_roundw
          case rel => exact winv_step HG.out hlt HFOLD.out (wstep_gt acc HC.out) (len_snoc (len_snoc HACC.out)) (by omega) (own_snoc hown8) hb (hb9'.trans (below_app (by omega) hb8))
          case measure => simp [intOf]; omega
        · go_wp2
          go_quiet (fail)
          go_wp2
          go_quiet (fail)
          go_wp2_with (at_builtin; refine wpList_appN _ rfl (.tmp 41) (.tmp 47) _ rfl W3.heap.size 64 ii _ 3 40 Tryz.underlying33 hii hiz hiz1 hiz2 rfl (by decide) _ (n1) (fv (acc)) rfl (hown.alloc _) ⟨_, 0, none⟩ 1 1 (fcells g) rfl rfl (one_cells _ _ _) (fcells_one _) (n1 + 1) rfl (by unfold maxLen; omega) (by omega) (by simp; omega) ?_; intro A9 c9 w9 hown9 hb9 _)
          go_roundw
          case rel => exact winv_step HG.out hlt HFOLD.out (wstep_true_ne acc (ne_of_lt HC.out).symm) (len_snoc HACC.out) (by omega) (own_snoc hown9) hb ((below_app (by omega) hb9))
          case measure => simp [intOf]; omega
    · have hi2 : i = st.files.length := by omega
      have htk : st.files.take i = st.files := List.take_of_length_le (by omega)
      have hput : wfin f (acc, p) = put f st.files := by
        have := wfold_put f st.files [] HR.out
        rw [← htk] at this
        rw [HFOLD.out, htk] at this
        simpa using this
      have HPUT := Lib.hid hput
      clear hput htk
      cases p
      · go_wp2_with (at_builtin; refine wpList_appN _ rfl (.tmp 51) (.tmp 53) _ rfl W3.heap.size 64 ii _ 3 40 Tryz.underlying33 hii hiz hiz1 hiz2 rfl (by decide) _ (n1) (fv (acc)) rfl (hown.alloc _) ⟨_, 0, none⟩ 1 1 (fcells f) rfl rfl (one_cells _ _ _) (fcells_one _) (n1 + 1) rfl (by unfold maxLen; omega) (by omega) (by simp; omega) ?_; intro A9 c9 w9 hown9 hb9 _; have hb99 := hb.trans (below_app0 hws hb9); obtain ⟨b1, b2, b3⟩ := HK.out w9 hb99; have HB19 := Lib.hid b1; have HB39 := Lib.hid b3; have fac := box_facts b1 b3; clear b1 b2 b3; obtain ⟨r0, r1, r2, r3, z0, y0, y1, y2, y3, x0, x1, x2, x3⟩ := fac)
        obtain ⟨hl9, hbl9⟩ := fill4_list (T := T) (w := w) (g := w.heap.size) (g' := w.heap.size + 1 + 1) (u := .slice A9 (n1 + 1) c9) (a0 := .slice A9 (n1 + 1) c9) (a1 := .int .i64 (st.steps : Int)) (a2 := .bool st.armed) (a3 := .int .i64 (st.left : Int)) (by omega) (by omega) (Nat.le_refl _) (by omega) (own_snoc hown9) (len_snoc HACC.out) ((hbw3.trans (hb99.mono hbw3.size))) HL.out.lt
        have hk9 := fill4_blk (g := w.heap.size) (u := .slice A9 (n1 + 1) c9) (a0 := .slice A9 (n1 + 1) c9) (a1 := .int .i64 (st.steps : Int)) (a2 := .bool st.armed) (a3 := .int .i64 (st.left : Int)) HB39.out (by omega)
        exact bodyPost_ret (results_cell_row (by rfl) _ _ _ _ _ _ _ (by rfl) hk9 Tryz.underlying35 (by rfl) (by kernel_rfl)) rfl (RRet.mk hl9 HPUT.out.symm hbl9 rfl)
      · obtain ⟨r0, r1, r2, r3, z0, y0, y1, y2, y3, x0, x1, x2, x3⟩ := box_facts HB1.out HB3.out
        go_wp2
        obtain ⟨hl9, hbl9⟩ := fill4_list (T := T) (w := w) (g := w.heap.size) (g' := w.heap.size + 1 + 1) (u := .slice A1 n1 c1) (a0 := .slice A1 n1 c1) (a1 := .int .i64 (st.steps : Int)) (a2 := .bool st.armed) (a3 := .int .i64 (st.left : Int)) (by omega) (by omega) (Nat.le_refl _) (by omega) (hown) (HACC.out) ((hbw3.trans (hb.mono hbw3.size))) HL.out.lt
        have hk9 := fill4_blk (g := w.heap.size) (u := .slice A1 n1 c1) (a0 := .slice A1 n1 c1) (a1 := .int .i64 (st.steps : Int)) (a2 := .bool st.armed) (a3 := .int .i64 (st.left : Int)) HB3.out (by omega)
        exact bodyPost_ret (results_cell_row (by rfl) _ _ _ _ _ _ _ (by rfl) hk9 Tryz.underlying35 (by rfl) (by kernel_rfl)) rfl (RRet.mk hl9 HPUT.out.symm hbl9 rfl)
theorem with_any (h : RefRep w T v st) (hok : st.Ok) (f : Fl) : Calls Tryz.prog 22 #[v, fileV f] w (RRet T w { st with files := put f st.files }) := with_gen h hok.rising (by have := hok.few; omega) f
end
end Dr
end Go.Proofs.YtbfmjonabndhaaaGreatDoor
