/-
  WHAT IS PROVED: a row of entries that is appended to, beside a table; a script of calls in memory. CONDITIONS: both stand in memory as named.
-/
import Derived.Test.YtfnfjhfmhinkcaaMAwake
namespace Go.Proofs.Ytfnfjhfmhinkcaa
open Go Go.RowKit Go.Maps Go.Sort Go.Proofs.Ytfnfjhfmhinkcaa.Fr
namespace Mm

theorem own_shapeN {w : World} {base size : Nat} {e : TypeId} {v : Value} {n : Nat} {xs : List Value} (h : w.ownsRow base e size v n xs) : ∃ A c, v = .slice A n c ∧ n ≤ c ∧ c ≤ maxLen := by
  rcases h.2 with ⟨rfl, rfl⟩ | ⟨g, cap, cur, rfl, _, _, h1, h2, _⟩
  · exact ⟨none, 0, rfl, Nat.le_refl _, by simp [maxLen]⟩
  · exact ⟨_, cap, rfl, h1, h2⟩
theorem own_rowN {w : World} {base size : Nat} {e : TypeId} {v : Value} {n : Nat} {xs : List Value} (h : w.ownsRow base e size v n xs) : ∀ k, v.ownBlock = some k → base ≤ k := fun k hk => (h.lt k hk).1
/-- Elements of several cells appended. -/
theorem wpList_appN {P : Program} (w : World) {ops : Array Oper} {rest : List Oper} {o : Oper} {a : Act} {Q : Exit → Act → World → Prop} (hgd : o.guard = none) (s x : Operand) (t : TypeId)
    (ho : o.op = .call { callee := .builtin .append, args := #[s, x], argTypes := #[t, t] })
    (base : Nat) (e : TypeId) (i : TypeInfo) (z : Value) (size bytes : Nat) (ht : P.underlying t = some (.slice e)) (hi : P.info? e = some i) (hz : i.zero = some z)
    (hsize : i.size = size) (hby : i.bytes = bytes) (hzs : z.cells.size = size) (hsz : 0 < size)
    (v : Value) (n : Nat) (xs : List Value) (hs : a.eval s = v) (hown : w.ownsRow base e size v n xs)
    (ad : Addr) (m c : Nat) (news : List Value) (hx : a.eval x = .slice (some ad) m c) (hl : news.length = m * size) (hr : ∀ j u, news[j]? = some u → w.cell? (ad.add j) = some u) (h1 : ∀ u ∈ news, u.oneCell' = true)
    (N : Nat) (hN : n + m = N) (h63 : N ≤ maxLen) (hbytes : N * bytes ≤ 140737488355328) (hbase : base ≤ w.heap.size)
    (h : ∀ A' c' w', w'.ownsRow base e size (.slice A' N c') N (xs ++ news) → Below base w w' → w.grownBy w' v.ownBlock → wpList P ops Q rest (a.put o.dst (.slice A' N c')) w') : wpList P ops Q (o :: rest) a w := by
  subst hN
  refine wpList_plain hgd fun _ hK => ?_
  obtain ⟨v', w', hrun, h2, h3, _, _⟩ := run_append_own_at (P := P) w base t o.type e i z size bytes ht hi hz hsize hby hzs hsz v n xs hown ad m c news hl hr h1 h63 hbytes hbase
  obtain ⟨A', c', rfl, _, _⟩ := own_shapeN h2
  unfold Oper.wp execOp
  simp only [ho, resolve, invoke, builtin, Sem.run_bind, Sem.run_pure, Result.andThen_ok, List.map_toArray, List.map_cons, List.map_nil, hs, hx, hrun]
  exact hK _ _ (h A' c' w' h2 ((Below.refl _ _).grown h3 hbase (own_rowN hown)) h3)
theorem add0 (g j : Nat) : (⟨g, 0, none⟩ : Addr).add j = ⟨g, j, none⟩ := by unfold Addr.add; split <;> simp_all
/-- A block just laid, as what is appended. -/
theorem one_cells (w : World) (t : TypeId) (cs : List Value) : ∀ j u, cs[j]? = some u → (w.alloc (.cells cs.toArray t)).cell? ((⟨w.heap.size, 0, none⟩ : Addr).add j) = some u := fun j u h => by
  rw [add0, (Blk.new w t cs.toArray).cell j]
  simpa using h
theorem own_ne_b {W : World} {base : Nat} {e : TypeId} {size : Nat} {v : Value} {k : Nat} {xs : List Value} (h : W.ownsRow base e size v k xs) {j : Nat} {t : TypeId} {cs : Array Value} (hj : Blk W j t cs) (hno : t ≠ e) : v.ownBlock = none ∨ v.ownBlock ≠ some j := by
  rcases h.2 with ⟨rfl, _⟩ | ⟨g, cap, cur, rfl, _, hgb, _⟩
  · exact .inl rfl
  · refine .inr fun e' => ?_
    have : g = j := by simpa [Value.ownBlock] using e'
    subst this
    rw [show W.heap[g]? = _ from hj] at hgb
    cases hgb
    exact hno rfl
/-- An entry's cells, and a list's. -/
def ecells (e : En) : List Value := [.string e.key, .int .i64 e.seq, .bool e.del, .string e.val]
def ev (l : List En) : List Value := l.flatMap ecells
theorem ev_snoc (l : List En) (e : En) : ev (l ++ [e]) = ev l ++ ecells e := by simp [ev]
theorem ecells_one (e : En) : ∀ u ∈ ecells e, u.oneCell' = true := by
  intro u hu
  simp only [ecells, List.mem_cons, List.not_mem_nil, or_false] at hu
  rcases hu with rfl | rfl | rfl | rfl <;> rfl
theorem info_entry : (Try.prog.info? 30).map (fun i => (i.zero, i.size, i.bytes)) = some (some (.agg #[.string ⟨#[]⟩, .int .i64 0, .bool false, .string ⟨#[]⟩]), 4, 48) := by kernel_rfl
section
variable {w0 w w' : World} {T : Nat} {ns : List Nd} {byt : Int} {base n : Nat} {v : Value} {xs : List Value}
/-- The table's blocks are no row of entries. -/
theorem Tb.apart (h : Tb w0 w T ns byt) (hr : w.ownsRow base 30 4 v n xs) : ∀ k, Own T ns k → v.ownBlock = none ∨ v.ownBlock ≠ some k := fun k hk => by
  rcases hk with rfl | ⟨m, hm, rfl⟩
  · obtain ⟨cs, h1, _⟩ := h.rep.tab
    exact own_ne_b hr h1 (by decide)
  · obtain ⟨a, r, e2⟩ := List.append_of_mem hm
    obtain ⟨cN, hN⟩ := Chain.at_ (a := a) (n := m) (r := r) (by have := h.rep.chain; rw [e2] at this; exact this)
    exact own_ne_b hr hN.blk (by decide)
theorem Tb.off (h : Tb w0 w T ns byt) (hb : Below w0.heap.size w0 w') (hk : ∀ k, Own T ns k → w'.heap[k]? = w.heap[k]?) : Tb w0 w' T ns byt :=
  { h with rep := ⟨h.rep.tab.same (hk T (.inl rfl)), h.rep.chain.same fun x hx => hk _ (.inr ⟨x, hx, rfl⟩), h.rep.sorted⟩, bel := hb }
theorem Tb.own_lt (h : Tb w0 w T ns byt) : ∀ k, Own T ns k → k < w.heap.size := fun k hk => by
  rcases hk with rfl | ⟨m, hm, rfl⟩
  · exact h.rep.lt
  · exact h.rep.chain.lt m hm
/-- The row is appended to: the table stands. -/
theorem Tb.grown (h : Tb w0 w T ns byt) (hr : w.ownsRow w0.heap.size 30 4 v n xs) {o : Obj} (hg : (w.alloc o).grownBy w' v.ownBlock) (hb : Below w0.heap.size w w') : Tb w0 w' T ns byt :=
  h.off (h.bel.trans hb) fun k hk => by
    have hlt := h.own_lt k hk
    refine (hg.block k (by simp; omega) fun e2 => ?_).trans (Below.heap_alloc w o k hlt)
    rcases h.apart hr k hk with h1 | h1
    · rw [h1] at e2; cases e2
    · exact h1 e2.symm
/-- The table turns: the row stands. -/
theorem own_mod (h : Tb w0 w T ns byt) (hr : w.ownsRow base 30 4 v n xs) (hm : Mod (Own T ns) w w') : w'.ownsRow base 30 4 v n xs :=
  own_same hr fun k hk => hm.block k (by obtain ⟨_, h1⟩ := own_blk hr hk; exact h1.lt) fun ho => by
    rcases h.apart hr k ho with h1 | h1
    · rw [h1] at hk; cases hk
    · exact h1 hk
end
/-! ### a script -/
structure MOp where
  ask : Bool
  e : En
  hgt : Int
def OpC (w : World) (g p : Nat) (m : MOp) : Prop :=
  w.cell? ⟨g, p, none⟩ = some (.bool m.ask) ∧ w.cell? ⟨g, p + 1, none⟩ = some (.string m.e.key) ∧ w.cell? ⟨g, p + 2, none⟩ = some (.int .i64 m.e.seq) ∧ w.cell? ⟨g, p + 3, none⟩ = some (.bool m.e.del) ∧ w.cell? ⟨g, p + 4, none⟩ = some (.string m.e.val) ∧ w.cell? ⟨g, p + 5, none⟩ = some (.int .i64 m.hgt)
structure MScript (w : World) (A : Option Addr) (L : List MOp) : Prop where
  cell : ∀ i m, L[i]? = some m → ∃ g p, A = some ⟨g, p, none⟩ ∧ g < w.heap.size ∧ OpC w g (p + i * 6) m
theorem OpC.below {w w' : World} {g p : Nat} {m : MOp} (h : OpC w g p m) (hg : g < w.heap.size) (hb : Below w.heap.size w w') : OpC w' g p m :=
  let k := fun o => hb.cell (p := ⟨g, o, none⟩) hg
  ⟨(k _).trans h.1, (k _).trans h.2.1, (k _).trans h.2.2.1, (k _).trans h.2.2.2.1, (k _).trans h.2.2.2.2.1, (k _).trans h.2.2.2.2.2⟩

end Mm
end Go.Proofs.Ytfnfjhfmhinkcaa
