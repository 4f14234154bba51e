/-
  WHAT IS PROVED: an iterator of From gives the same entries after later Puts; a Put beside it. CONDITIONS: the table and the iterator's boxes stand in memory as named.
-/
import Derived.Test.YtfnfjhfmhinkcaaMPls
namespace Go.Proofs.Ytfnfjhfmhinkcaa
open Go Go.RowKit Go.Maps Go.Sort Go.Proofs.Ytfnfjhfmhinkcaa.Fr
namespace Mm
/-- An iterator that was asked for when there were cnt entries. -/
def It (W : World) (b1 b2 : Nat) (ns : List Nd) (cnt : Int) (l0 : List En) : Prop :=
  ∃ a s : List Nd, ns = a ++ s ∧ Blk W b1 49 #[ptr (s.head?.map (·.blk))] ∧ Blk W b2 3 #[.int .i64 cnt] ∧ olds s cnt = l0
theorem chain_drop {W : World} {a b : List Nd} (h : Chain W (a ++ b)) : Chain W b := by
  induction a with
  | nil => exact h
  | cons x r ih => exact ih h.2
theorem olds_append (a b : List Nd) (cnt : Int) : olds (a ++ b) cnt = olds a cnt ++ olds b cnt := by unfold olds; rw [List.filter_append, List.map_append]
theorem olds_new {N o H : Nat} {e : En} {cnt : Int} (b : List Nd) (h : cnt ≤ (o : Int)) : olds ((⟨N, e, o, H⟩ : Nd) :: b) cnt = olds b cnt := by
  unfold olds
  rw [List.filter_cons, if_neg]
  simp only [decide_eq_true_eq]
  omega
section
variable {W W' : World} {b1 b2 N H : Nat} {ns a b : List Nd} {cnt : Int} {l0 : List En} {e : En}
theorem It.same (h : It W b1 b2 ns cnt l0) (h1 : W'.heap[b1]? = W.heap[b1]?) (h2 : W'.heap[b2]? = W.heap[b2]?) : It W' b1 b2 ns cnt l0 := by
  obtain ⟨a, s, e1, e2, e3, e4⟩ := h
  exact ⟨a, s, e1, e2.same h1, e3.same h2, e4⟩
theorem It.lt (h : It W b1 b2 ns cnt l0) : b1 < W.heap.size ∧ b2 < W.heap.size := by
  obtain ⟨a, s, _, e2, e3, _⟩ := h
  exact ⟨e2.lt, e3.lt⟩
theorem It.below (h : It W b1 b2 ns cnt l0) (hb : Below W.heap.size W W') : It W' b1 b2 ns cnt l0 := h.same (hb.block _ h.lt.1) (hb.block _ h.lt.2)
/-- A node comes in: the iterator passes over it. -/
theorem It.ins (h : It W b1 b2 (a ++ b) cnt l0) {o : Nat} (ho : cnt ≤ (o : Int)) : It W b1 b2 (a ++ (⟨N, e, o, H⟩ : Nd) :: b) cnt l0 := by
  obtain ⟨p, s, e1, e2, e3, e4⟩ := h
  rcases List.append_eq_append_iff.1 e1 with ⟨c, rfl, rfl⟩ | ⟨c, rfl, rfl⟩
  · exact ⟨a ++ (⟨N, e, o, H⟩ : Nd) :: c, s, by simp, e2, e3, e4⟩
  · cases c with
    | nil => exact ⟨p ++ [(⟨N, e, o, H⟩ : Nd)], b, by simp, by simpa using e2, e3, by simpa using e4⟩
    | cons x c =>
      refine ⟨p, (x :: c) ++ (⟨N, e, o, H⟩ : Nd) :: b, by simp, by simpa using e2, e3, ?_⟩
      rw [olds_append, olds_new b ho, ← olds_append]
      exact e4
/-- What the iterator wants. -/
theorem It.fr {w0 : World} {T : Nat} {byt : Int} (h : It W b1 b2 ns cnt l0) (ht : Tb w0 W T ns byt) : ∃ s, FrAt W b1 b2 s cnt ∧ olds s cnt = l0 ∧ (s.map (·.blk)).Nodup ∧ Good s ∧ s.length ≤ ns.length := by
  obtain ⟨p, s, rfl, e2, e3, e4⟩ := h
  refine ⟨s, ⟨e2, e3, chain_drop ht.rep.chain⟩, e4, ?_, fun n hn => ht.good n (List.mem_append_right _ hn), by rw [List.length_append]; omega⟩
  have := ht.nodup
  rw [List.map_append] at this
  exact (List.nodup_append.1 this).2.1
/-- From's answer is an iterator. -/
theorem FromRet.it {w : World} {x : Ending} {k : ByteArray} (h : FromRet w ns cnt k.toList x W) (hv : Val ns) (hc : (ns.length : Int) = cnt) : ∃ b1 b2, x = .returned (.func (.func 20) #[] #[.pointer (some ⟨b1, 0, none⟩), .pointer (some ⟨b2, 0, none⟩)]) ∧ It W b1 b2 ns cnt ((fromN ns k.toList).map Nd.e) ∧ Below w.heap.size w W := by
  obtain ⟨b1, b2, h1, h2, h3, _, _, _, hb⟩ := h
  exact ⟨b1, b2, h1, ⟨_, fromN ns k.toList, (pre_post ns k.toList 9223372036854775807).symm, h2, h3, olds_all fun n hn => by have := (hv n (fromN_mem hn)).1; omega⟩, hb⟩
end
/-- A table, a list and an iterator. -/
structure TI (w0 w : World) (T : Nat) (ns : List Nd) (byt : Int) (b1 b2 : Nat) (cnt : Int) (l0 : List En) : Prop where
  t : Tb w0 w T ns byt
  v : Val ns
  it : It w b1 b2 ns cnt l0
  le : cnt ≤ (ns.length : Int)
section
variable {w0 w w' : World} {T b1 b2 : Nat} {ns : List Nd} {byt cnt : Int} {l0 : List En}
theorem TI.below (h : TI w0 w T ns byt b1 b2 cnt l0) (hb : Below w.heap.size w w') : TI w0 w' T ns byt b1 b2 cnt l0 := ⟨h.t.below hb, h.v, h.it.below hb, h.le⟩
/-- A Put more, its answer dropped. -/
theorem more_any (h : TI w0 w T ns byt b1 b2 cnt l0) (hn : ns.length ≤ 1000) (e : En) (hgt : Int) :
    Calls Try.prog 16 #[.pointer (some ⟨T, 0, none⟩), .agg #[.string e.key, .int .i64 e.seq, .bool e.del, .string e.val], .int .i64 hgt] w fun x w' =>
      ∃ z, x = .returned (.int .i64 z) ∧ w.heap.size ≤ w'.heap.size ∧ (∀ k, k < w.heap.size → ¬ Own T ns k → w'.heap[k]? = w.heap[k]?) ∧ ∃ ns' byt', ns'.length ≤ ns.length + 1 ∧ TI w0 w' T ns' byt' b1 b2 cnt l0 := by
  refine (put_any h.t e hgt (by omega)).mono ?_
  rintro x w' (⟨z, _, rfl, hb⟩ | ⟨he, _, rfl, N, H, _, _, hN, h1, h2⟩)
  · exact ⟨z, rfl, hb.size, fun k hk _ => hb.block k hk, ns, byt, by omega, h.below hb⟩
  · have hl : (pre ns e.k e.seq ++ (⟨N, e, ns.length, H⟩ : Nd) :: post ns e.k e.seq).length = ns.length + 1 := by
      have := congrArg List.length (pre_post ns e.k e.seq)
      simp only [List.length_append, List.length_cons] at this ⊢
      omega
    obtain ⟨a, s, e1, e2, e3, e4⟩ := h.it
    have hit := h.it.same (W' := w') (h2.block _ e2.lt (h.t.own_not e2 (by decide) (by decide))) (h2.block _ e3.lt (h.t.own_not e3 (by decide) (by decide)))
    rw [← pre_post ns e.k e.seq] at hit
    exact ⟨0, rfl, h2.size, h2.block, _, _, by rw [hl]; omega, h1, h.v.put he N H, hit.ins h.le, by rw [hl]; have := h.le; omega⟩
end
/-- The list that is wanted: those from a key on. -/
theorem from_filter {ns : List Nd} (hv : Val ns) (hs : Sorted ns) (k : ByteArray) : (fromN ns k.toList).map Nd.e = (ns.map Nd.e).filter fun x => !decide (x.k < k.toList) := by
  rw [from_drop hv hs k]
  have hse := hs.ents
  have key : ∀ (l : List En), SortedE l → ∀ m, l.length ≤ m → l.drop ((l.take m).filter fun x => decide (x.k < k.toList)).length = l.filter fun x => !decide (x.k < k.toList) := by
    intro l
    induction l with
    | nil => intro _ m _; simp
    | cons x r ih =>
      intro hs m hm
      have hs' := List.pairwise_cons.1 hs
      rw [List.take_of_length_le hm]
      by_cases hx : x.k < k.toList
      · have := ih hs'.2 r.length (Nat.le_refl _)
        rw [List.take_of_length_le (Nat.le_refl _)] at this
        simp only [List.filter_cons, hx, decide_true, if_true, List.length_cons, List.drop_succ_cons, Bool.not_true, Bool.false_eq_true, if_false]
        exact this
      · have hall : ∀ y ∈ r, ¬ y.k < k.toList := fun y hy h => by
          rcases hs'.1 y hy with h2 | ⟨h2, _⟩
          · exact hx (List.lt_trans h2 h)
          · exact hx (h2 ▸ h)
        have e1 : (x :: r).filter (fun x => decide (x.k < k.toList)) = [] := List.filter_eq_nil_iff.2 fun y hy => by
          rcases List.mem_cons.1 hy with rfl | hy
          · simpa using hx
          · simpa using hall y hy
        have e2 : (x :: r).filter (fun x => !decide (x.k < k.toList)) = x :: r := List.filter_eq_self.2 fun y hy => by
          rcases List.mem_cons.1 hy with rfl | hy
          · simp [hx]
          · simp [hall y hy]
        rw [e1, e2]
        rfl
  unfold cntK
  exact key (ns.map Nd.e) hse ns.length (by rw [List.length_map]; exact Nat.le_refl _)
/-- Only one box has turned: the table and the list stand. -/
theorem Pl.mod {w0 w W : World} {T : Nat} {ns : List Nd} {byt : Int} {A : Option Addr} {n c X : Nat} {t : TypeId} {cs : Array Value} (h : Pl w0 w T ns byt A n c) (hx : Blk w X t cs) (h1 : t ≠ 54) (h2 : t ≠ 52) (h3 : t ≠ 30) (hm : Mod (fun b => b = X) w W) (hw : w0.heap.size ≤ X) : Pl w0 W T ns byt A n c := by
  have hb : Below w0.heap.size w0 W := h.t.bel.trans (hm.to_below (fun k e => by omega) h.t.bel.size)
  refine ⟨h.t.off hb fun k ho => hm.block k (h.t.own_lt k ho) fun e => h.t.own_not hx h1 h2 (e ▸ ho), h.v, h.len, h.bytes, ?_⟩
  exact own_same h.row fun k hk => hm.block k (by obtain ⟨_, h1⟩ := own_blk h.row hk; exact h1.lt) fun e => by
    rcases own_ne_b h.row hx h3 with h4 | h4
    · rw [h4] at hk; cases hk
    · rw [hk] at h4; exact h4 (by rw [e])
/-- One operation: elements of several cells appended. -/
theorem wp_appN {P : Program} (w : World) {o : Oper} {a : Act} {K : Act → World → Prop} {Q : Exit → Act → World → Prop} (s x : Operand) (t : TypeId)
    (ho : o.op = .call { callee := .builtin .append, args := #[s, x], argTypes := #[t, t] })
    (base : Nat) (e : TypeId) (i : TypeInfo) (z : Value) (size bytes : Nat) (ht : P.underlying t = some (.slice e)) (hi : P.info? e = some i) (hz : i.zero = some z)
    (hsize : i.size = size) (hby : i.bytes = bytes) (hzs : z.cells.size = size) (hsz : 0 < size)
    (v : Value) (n : Nat) (xs : List Value) (hs : a.eval s = v) (hown : w.ownsRow base e size v n xs)
    (ad : Addr) (m c : Nat) (news : List Value) (hx : a.eval x = .slice (some ad) m c) (hl : news.length = m * size) (hr : ∀ j u, news[j]? = some u → w.cell? (ad.add j) = some u) (h1 : ∀ u ∈ news, u.oneCell' = true)
    (N : Nat) (hN : n + m = N) (h63 : N ≤ maxLen) (hbytes : N * bytes ≤ 140737488355328) (hbase : base ≤ w.heap.size)
    (h : ∀ A' c' w', w'.ownsRow base e size (.slice A' N c') N (xs ++ news) → Below base w w' → w.grownBy w' v.ownBlock → K (a.put o.dst (.slice A' N c')) w') : o.wp P a w K Q := by
  subst hN
  obtain ⟨v', w', hrun, h2, h3, _, _⟩ := run_append_own_at (P := P) w base t o.type e i z size bytes ht hi hz hsize hby hzs hsz v n xs hown ad m c news hl hr h1 h63 hbytes hbase
  obtain ⟨A', c', rfl, _, _⟩ := own_shapeN h2
  unfold Oper.wp execOp
  simp only [ho, resolve, invoke, builtin, Sem.run_bind, Sem.run_pure, Result.andThen_ok, List.map_toArray, List.map_cons, List.map_nil, hs, hx, hrun]
  exact h A' c' w' h2 ((Below.refl _ _).grown h3 hbase (own_rowN hown)) h3
/-- Those from a key on, one more. -/
def wantK (l : List En) (k : ByteArray) (j : Nat) : List En := (l.take j).filter fun x => !decide (x.k < k.toList)
theorem wantK_step {l : List En} {k : ByteArray} {j : Nat} {x : En} (hx : l[j]? = some x) : wantK l k (j + 1) = if x.k < k.toList then wantK l k j else wantK l k j ++ [x] := by
  unfold wantK
  rw [List.take_add_one, hx, List.filter_append]
  by_cases h : x.k < k.toList <;> simp [h]
theorem wantK_le (l : List En) (k : ByteArray) (j : Nat) : (wantK l k j).length ≤ j := by
  unfold wantK
  refine Nat.le_trans (List.length_filter_le _ _) ?_
  rw [List.length_take]
  omega
theorem blk_put {W : World} {D g : Nat} {ds : Option (List Deferred)} {t : TypeId} {cs : Array Value} (h : Blk W g t cs) (hK : W.heap[D]? = some (.deferred ds)) (o : Obj) : Blk (W.putObj D o) g t cs :=
  (World.putObj_heap_other (by rintro rfl; rw [show W.heap[g]? = _ from h] at hK; cases hK)).trans h
/-- The marks of the loops over a function that are over: each a block of its own, the last one laid is the first. -/
def Marks (B : Nat) : List Deferred → Nat → World → Prop
  | [], _, _ => True
  | d :: r, top, W => ∃ D, d = { target := .collected D, args := #[] } ∧ B ≤ D ∧ D < top ∧ W.heap[D]? = some (.deferred (some [])) ∧ Marks B r D W
theorem Marks.mono {B : Nat} : ∀ {ds : List Deferred} {t t' : Nat} {W : World}, Marks B ds t W → t ≤ t' → Marks B ds t' W
  | [], _, _, _, _, _ => trivial
  | _ :: _, _, _, _, ⟨D, e, h1, h2, h3, h4⟩, ht => ⟨D, e, h1, Nat.lt_of_lt_of_le h2 ht, h3, h4⟩
theorem Marks.same {B : Nat} : ∀ {ds : List Deferred} {t : Nat} {W W' : World}, Marks B ds t W → (∀ D, D < t → W.heap[D]? = some (.deferred (some [])) → W'.heap[D]? = some (.deferred (some []))) → Marks B ds t W'
  | [], _, _, _, _, _ => trivial
  | _ :: _, _, _, _, ⟨D, e, h1, h2, h3, h4⟩, hk => ⟨D, e, h1, h2, hk D h2 h3, h4.same fun D' h5 => hk D' (Nat.lt_trans h5 h2)⟩
/-- All marks are taken up: what is cells stays, and what lay ahead. -/
structure Took (B : Nat) (W W' : World) : Prop where
  cells : ∀ g t cs, Blk W g t cs → Blk W' g t cs
  bel : Below B W W'
theorem Took.refl (B : Nat) (W : World) : Took B W W := ⟨fun _ _ _ h => h, Below.refl _ _⟩
theorem leaves_marks {B : Nat} {F : Fence} {n : Nat} {P : Program} {fn : Func} {tmps : Array Value} {R : Ending → World → Prop} : ∀ (ds : List Deferred) (t : Nat) (W : World), Marks B ds t W → B ≤ W.heap.size → (∀ W', Took B W W' → LeavesIn F n P fn tmps R [] .returning W') → LeavesInM F n P fn tmps R ds .returning W
  | [], _, W, _, _, h => h W (Took.refl B W)
  | _ :: ds, _, W, ⟨D, e, h1, h2, h3, h4⟩, hB, h => by
    subst e
    have hD : D < W.heap.size := (Array.getElem?_eq_some_iff.1 h3).1
    refine ⟨by simp, .inl ⟨D, _, rfl, run_takeDeferred h3, ?_⟩⟩
    refine leaves_marks ds D _ (h4.same fun D' hlt hh => (World.putObj_heap_other (by omega)).trans hh) (by simpa using hB) fun W' hW' => h W' ⟨fun g t cs hb => hW'.cells g t cs (blk_put hb h3 _), ?_⟩
    exact ((Below.refl B W).grown (grownBy_putObj' W D (.deferred none)) hB fun k e => by cases e; exact h1).trans hW'.bel
theorem Marks.kept {B0 t B : Nat} {ds : List Deferred} {W W' : World} {row : Option Nat} (h : Marks B0 ds t W) (hB : t ≤ B) (hg : W.grownBy W' row) (hr : ∀ k, row = some k → B ≤ k) : Marks B0 ds t W' :=
  h.same fun D hD hh => (hg.block D (Array.getElem?_eq_some_iff.1 hh).1 fun e => by have := hr D e.symm; omega).trans hh
theorem Marks.alloc {B t : Nat} {ds : List Deferred} {W : World} (h : Marks B ds t W) (o : Obj) : Marks B ds t (W.alloc o) :=
  h.same fun D _ hh => (Below.heap_alloc W o D (Array.getElem?_eq_some_iff.1 hh).1).trans hh
theorem Marks.set {B t g : Nat} {ds : List Deferred} {W : World} {ty : TypeId} {cs : Array Value} (h : Marks B ds t W) (hb : Blk W g ty cs) (i : Nat) (u : Value) : Marks B ds t (W.setCell ⟨g, i, none⟩ u) :=
  h.same fun D _ hh => (Below.heap_setCell W ⟨g, i, none⟩ u D (by rintro rfl; rw [show W.heap[D]? = _ from hb] at hh; cases hh)).trans hh
theorem Marks.drew {B t : Nat} {ds : List Deferred} {W : World} (h : Marks B ds t W) : Marks B ds t W.drew := h.same fun _ _ hh => hh
end Mm
end Go.Proofs.Ytfnfjhfmhinkcaa
