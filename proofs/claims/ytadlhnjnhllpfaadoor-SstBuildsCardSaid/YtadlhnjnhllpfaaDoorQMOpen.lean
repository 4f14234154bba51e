/-
  WHAT IS PROVED: (1) a row of entries that is appended to, beside a table; a script of calls in memory. CONDITIONS: both stand in memory as named. (2) what '==' of two entries answers. NO CONDITION. (3) MemNewest holds for every script. CONDITIONS: the script stands in memory as named. (4) a script of table calls that came in as an argument, opened. NO CONDITION beside those that each lemma names.
-/
import Derived.Test.YtadlhnjnhllpfaaDoorQMAwake
import Derived.Test.YtadlhnjnhllpfaaDoorRows
import Derived.ProofKit
import Derived.OpenShut
import Derived.Carry
import Derived.SizedLaws
import Derived.Deep.Slices
import Derived.Deep.Fields
import Derived.ChangeSame
namespace Go.Proofs.YtadlhnjnhllpfaaDoor
open Go Go.RowKit Go.Maps Go.Sort Go.Proofs.YtadlhnjnhllpfaaDoor.Fr
namespace Mm

theorem own_shapeN {w : World} {base size : Nat} {e : TypeId} {v : Value} {n : Nat} {xs : List Value} (h : w.ownsRow base e size v n xs) : ∃ A c, v = .slice A n c ∧ n ≤ c ∧ c ≤ maxLen := by
  rcases h.2 with ⟨rfl, rfl⟩ | ⟨g, cap, cur, rfl, _, _, h1, h2, _⟩
  · exact ⟨none, 0, rfl, Nat.le_refl _, by simp [maxLen]⟩
  · exact ⟨_, cap, rfl, h1, h2⟩
theorem own_rowN {w : World} {base size : Nat} {e : TypeId} {v : Value} {n : Nat} {xs : List Value} (h : w.ownsRow base e size v n xs) : ∀ k, v.ownBlock = some k → base ≤ k := fun k hk => (h.lt k hk).1
/-- Elements of several cells appended. -/
theorem wpList_appN {P : Program} (w : World) {ops : Array Oper} {rest : List Oper} {o : Oper} {a : Act} {Q : Exit → Act → World → Prop} (hgd : o.guard = none) (s x : Operand) (t : TypeId)
    (ho : o.op = .call { callee := .builtin .append, args := #[s, x], argTypes := #[t, t] })
    (base : Nat) (e : TypeId) (i : TypeInfo) (z : Value) (size bytes : Nat) (ht : P.underlying t = some (.slice e)) (hi : P.info? e = some i) (hz : i.zero = some z)
    (hsize : i.size = size) (hby : i.bytes = bytes) (hzs : z.cells.size = size) (hsz : 0 < size)
    (v : Value) (n : Nat) (xs : List Value) (hs : a.eval s = v) (hown : w.ownsRow base e size v n xs)
    (ad : Addr) (m c : Nat) (news : List Value) (hx : a.eval x = .slice (some ad) m c) (hl : news.length = m * size) (hr : ∀ j u, news[j]? = some u → w.cell? (ad.add j) = some u) (h1 : ∀ u ∈ news, u.oneCell' = true)
    (N : Nat) (hN : n + m = N) (h63 : N ≤ maxLen) (hbytes : N * bytes ≤ 140737488355328) (hbase : base ≤ w.heap.size)
    (h : ∀ A' c' w', w'.ownsRow base e size (.slice A' N c') N (xs ++ news) → Below base w w' → w.grownBy w' v.ownBlock → wpList P ops Q rest (a.put o.dst (.slice A' N c')) w') : wpList P ops Q (o :: rest) a w := by
  subst hN
  refine wpList_plain hgd fun _ hK => ?_
  obtain ⟨v', w', hrun, h2, h3, _, _⟩ := run_append_own_at (P := P) w base t o.type e i z size bytes ht hi hz hsize hby hzs hsz v n xs hown ad m c news hl hr h1 h63 hbytes hbase
  obtain ⟨A', c', rfl, _, _⟩ := own_shapeN h2
  unfold Oper.wp execOp
  simp only [ho, resolve, invoke, builtin, Sem.run_bind, Sem.run_pure, Result.andThen_ok, List.map_toArray, List.map_cons, List.map_nil, hs, hx, hrun]
  exact hK _ _ (h A' c' w' h2 ((Below.refl _ _).grown h3 hbase (own_rowN hown)) h3)
theorem add0 (g j : Nat) : (⟨g, 0, none⟩ : Addr).add j = ⟨g, j, none⟩ := by unfold Addr.add; split <;> simp_all
/-- A block just laid, as what is appended. -/
theorem one_cells (w : World) (t : TypeId) (cs : List Value) : ∀ j u, cs[j]? = some u → (w.alloc (.cells cs.toArray t)).cell? ((⟨w.heap.size, 0, none⟩ : Addr).add j) = some u := fun j u h => by
  rw [add0, (Blk.new w t cs.toArray).cell j]
  simpa using h
theorem own_ne_b {W : World} {base : Nat} {e : TypeId} {size : Nat} {v : Value} {k : Nat} {xs : List Value} (h : W.ownsRow base e size v k xs) {j : Nat} {t : TypeId} {cs : Array Value} (hj : Blk W j t cs) (hno : t ≠ e) : v.ownBlock = none ∨ v.ownBlock ≠ some j := by
  rcases h.2 with ⟨rfl, _⟩ | ⟨g, cap, cur, rfl, _, hgb, _⟩
  · exact .inl rfl
  · refine .inr fun e' => ?_
    have : g = j := by simpa [Value.ownBlock] using e'
    subst this
    rw [show W.heap[g]? = _ from hj] at hgb
    cases hgb
    exact hno rfl
/-- An entry's cells, and a list's. -/
def ecells (e : En) : List Value := [.string e.key, .int .i64 e.seq, .bool e.del, .string e.val]
def ev (l : List En) : List Value := l.flatMap ecells
theorem ev_snoc (l : List En) (e : En) : ev (l ++ [e]) = ev l ++ ecells e := by simp [ev]
theorem ecells_one (e : En) : ∀ u ∈ ecells e, u.oneCell' = true := by
  intro u hu
  simp only [ecells, List.mem_cons, List.not_mem_nil, or_false] at hu
  rcases hu with rfl | rfl | rfl | rfl <;> rfl
theorem info_entry : (Tryd.prog.info? 42).map (fun i => (i.zero, i.size, i.bytes)) = some (some (.agg #[.string ⟨#[]⟩, .int .i64 0, .bool false, .string ⟨#[]⟩]), 4, 48) := by kernel_rfl
section
variable {w0 w w' : World} {T : Nat} {ns : List Nd} {byt : Int} {base n : Nat} {v : Value} {xs : List Value}
end
/-! ### a script -/
structure MOp where
  ask : Bool
  e : En
  hgt : Int
def OpC (w : World) (g p : Nat) (m : MOp) : Prop :=
  w.cell? ⟨g, p, none⟩ = some (.bool m.ask) ∧ w.cell? ⟨g, p + 1, none⟩ = some (.string m.e.key) ∧ w.cell? ⟨g, p + 2, none⟩ = some (.int .i64 m.e.seq) ∧ w.cell? ⟨g, p + 3, none⟩ = some (.bool m.e.del) ∧ w.cell? ⟨g, p + 4, none⟩ = some (.string m.e.val) ∧ w.cell? ⟨g, p + 5, none⟩ = some (.int .i64 m.hgt)
structure MScript (w : World) (A : Option Addr) (L : List MOp) : Prop where
  cell : ∀ i m, L[i]? = some m → ∃ g p, A = some ⟨g, p, none⟩ ∧ g < w.heap.size ∧ OpC w g (p + i * 6) m
theorem OpC.below {w w' : World} {g p : Nat} {m : MOp} (h : OpC w g p m) (hg : g < w.heap.size) (hb : Below w.heap.size w w') : OpC w' g p m :=
  let k := fun o => hb.cell (p := ⟨g, o, none⟩) hg
  ⟨(k _).trans h.1, (k _).trans h.2.1, (k _).trans h.2.2.1, (k _).trans h.2.2.2.1, (k _).trans h.2.2.2.2.1, (k _).trans h.2.2.2.2.2⟩

end Mm
end Go.Proofs.YtadlhnjnhllpfaaDoor
namespace Go.Proofs.YtadlhnjnhllpfaaDoor
open Go Go.RowKit Go.Maps Go.Sort Go.Proofs.YtadlhnjnhllpfaaDoor.Fr
namespace Mm

def enEq (x y : En) : Bool := (x.key.toList == y.key.toList) && ((x.seq == y.seq) && ((x.del == y.del) && (x.val.toList == y.val.toList)))
theorem bytes_eq {a b : ByteArray} (h : a.toList = b.toList) : a = b := by
  rw [ByteArray.toList_eq, ByteArray.toList_eq] at h
  obtain ⟨⟨x⟩⟩ := a
  obtain ⟨⟨y⟩⟩ := b
  simpa using h
theorem enEq_iff (x y : En) : enEq x y = true ↔ x = y := by
  constructor
  · intro h
    unfold enEq at h
    simp only [Bool.and_eq_true, beq_iff_eq] at h
    obtain ⟨a, b, c, d⟩ := x
    obtain ⟨a', b', c', d'⟩ := y
    obtain ⟨h1, rfl, rfl, h4⟩ := h
    cases bytes_eq h1
    cases bytes_eq h4
    rfl
  · rintro rfl
    unfold enEq
    simp
set_option maxRecDepth 100000 in
set_option maxHeartbeats 1600000 in
theorem eq_entry (w : World) (x y : En) : (binOp .eql 42 (.agg #[.string x.key, .int .i64 x.seq, .bool x.del, .string x.val]) (.agg #[.string y.key, .int .i64 y.seq, .bool y.del, .string y.val])).run Tryd.prog w = .ok (.bool (enEq x y)) w := by
  unfold enEq
  rw [run_eql_struct]
  cases h1 : (x.key.toList == y.key.toList) <;> cases h2 : (x.seq == y.seq) <;> cases h3 : (x.del == y.del) <;> cases h4 : (x.val.toList == y.val.toList) <;> go_simp
  all_goals trace_state

end Mm
end Go.Proofs.YtadlhnjnhllpfaaDoor
namespace Go.Proofs.YtadlhnjnhllpfaaDoor
open Go Go.RowKit Go.Maps Go.Sort Go.Proofs.YtadlhnjnhllpfaaDoor.Fr
namespace Mm

theorem yes_eq (w0 : World) {g p : Nat} {m : MOp} (hg : g < w0.heap.size) (h : OpC w0 g p m) : ∀ W, Below w0.heap.size w0 W → OpC W g p m := fun _ hb => h.below hg hb
theorem OpC.drew {W : World} {g p : Nat} {m : MOp} (h : OpC W g p m) : OpC W.drew g p m := h
theorem mem_new {ns : List Nd} {acc : List En} {e : En} {N H o : Nat} (h : ∀ x, x ∈ acc ↔ ∃ m ∈ ns, m.e = x) : ∀ x, x ∈ acc ++ [e] ↔ ∃ m ∈ pre ns e.k e.seq ++ (⟨N, e, o, H⟩ : Nd) :: post ns e.k e.seq, m.e = x := fun x => by
  rw [List.mem_append, List.mem_singleton, h]
  constructor
  · rintro (⟨m, hm, rfl⟩ | rfl)
    · rw [← pre_post ns e.k e.seq] at hm
      refine ⟨m, ?_, rfl⟩
      rcases List.mem_append.1 hm with hm | hm
      · exact List.mem_append.2 (.inl hm)
      · exact List.mem_append.2 (.inr (List.mem_cons_of_mem _ hm))
    · exact ⟨⟨N, x, o, H⟩, by simp, rfl⟩
  · rintro ⟨m, hm, rfl⟩
    rcases List.mem_append.1 hm with hm | hm
    · exact .inl ⟨m, by rw [← pre_post ns e.k e.seq]; exact List.mem_append.2 (.inl hm), rfl⟩
    · rcases List.mem_cons.1 hm with rfl | hm
      · exact .inr rfl
      · exact .inl ⟨m, by rw [← pre_post ns e.k e.seq]; exact List.mem_append.2 (.inr hm), rfl⟩
theorem len_new {ns : List Nd} {e : En} {N H o i : Nat} (h : ns.length ≤ i) : (pre ns e.k e.seq ++ (⟨N, e, o, H⟩ : Nd) :: post ns e.k e.seq).length ≤ i + 1 := by
  have h1 : (pre ns e.k e.seq ++ post ns e.k e.seq).length = ns.length := by rw [pre_post]
  simp only [List.length_append, List.length_cons] at h1 ⊢
  omega
/-- WHAT Get ANSWERS, of the entries that were taken. -/
theorem get_says {ns : List Nd} {acc : List En} {k : ByteArray} {q : Int} (hs : Sorted ns) (hm : ∀ e, e ∈ acc ↔ ∃ m ∈ ns, m.e = e) :
    ((getN ns k.toList q).isSome = true → getE ns k.toList q ∈ acc ∧ (getE ns k.toList q).k = k.toList ∧ (getE ns k.toList q).seq ≤ q) ∧ ((getN ns k.toList q).isSome = false → getE ns k.toList q = noE) ∧
    (∀ x ∈ acc, x.k = k.toList → x.seq ≤ q → (getN ns k.toList q).isSome = true ∧ x.seq ≤ (getE ns k.toList q).seq) := by
  have hnb : ∀ m r, post ns k.toList q = m :: r → ¬ bef m.e k.toList q := fun m r h => post_head h
  refine ⟨fun h => ?_, fun h => ?_, fun x hx hk hq => ?_⟩
  · obtain ⟨m, hm2⟩ := Option.isSome_iff_exists.1 h
    have hE : getE ns k.toList q = m.e := by unfold getE; rw [hm2]; rfl
    rw [hE]
    unfold getN at hm2
    cases hp : post ns k.toList q with
    | nil => rw [hp] at hm2; simp at hm2
    | cons m' r =>
      rw [hp] at hm2
      simp only [List.head?_cons, Option.filter_some, Option.ite_none_right_eq_some, decide_eq_true_eq, Option.some.injEq] at hm2
      obtain ⟨hk, rfl⟩ := hm2
      refine ⟨(hm _).2 ⟨m', by rw [← pre_post ns k.toList q, hp]; simp, rfl⟩, hk, ?_⟩
      have := hnb m' r hp
      unfold bef at this
      have h2 : ¬ q < m'.e.seq := fun h3 => this (.inr ⟨hk, h3⟩)
      omega
  · unfold getE
    rw [Option.isSome_eq_false_iff, Option.isNone_iff_eq_none] at h
    rw [h]
    rfl
  · obtain ⟨y, hy, rfl⟩ := (hm x).1 hx
    have hyb : ¬ bef y.e k.toList q := by
      rintro (h | ⟨_, h⟩)
      · rw [hk] at h; exact absurd h (List.lt_irrefl _)
      · omega
    have hyp : y ∈ post ns k.toList q := by
      rw [← pre_post ns k.toList q] at hy
      rcases List.mem_append.1 hy with h | h
      · exact absurd (pre_bef y h) hyb
      · exact h
    cases hp : post ns k.toList q with
    | nil => rw [hp] at hyp; cases hyp
    | cons m r =>
      rw [hp] at hyp
      have hmb := hnb m r hp
      have hmid : ∀ x ∈ r, bef m.e x.e.k x.e.seq := by
        have h1 := hs
        rw [← pre_post ns k.toList q, hp] at h1
        exact (Sorted.mid h1).2
      have hboth : m.e.k = k.toList ∧ y.e.seq ≤ m.e.seq := by
        rcases List.mem_cons.1 hyp with rfl | h
        · exact ⟨hk, Int.le_refl _⟩
        · rcases hmid y h with h1 | ⟨h1, h2⟩
          · rw [hk] at h1
            exact absurd (.inl h1) hmb
          · exact ⟨h1.trans hk, by omega⟩
      have hN : getN ns k.toList q = some m := by unfold getN; rw [hp]; simp [hboth.1]
      have hE : getE ns k.toList q = m.e := by unfold getE; rw [hN]; rfl
      rw [hN, hE]
      exact ⟨rfl, hboth.2⟩
def N2 (W7 : World) (acc : List En) (n1 : Nat) (re : En) (s12 s70 : Value) (W : World) : Prop :=
  ∃ (j : Nat) (fb : Bool), j ≤ n1 ∧ s70 = .int .i64 ((j : Nat) : Int) ∧ s12 = .bool fb ∧ (fb = true ↔ re ∈ acc.take j) ∧ Hid (Below W7.heap.size W7 W)
theorem eq_none (w : World) : (binOp .eql 42 (.agg #[.string ⟨#[]⟩, .int .i64 0, .bool false, .string ⟨#[]⟩]) (.agg #[.string ⟨#[]⟩, .int .i64 0, .bool false, .string ⟨#[]⟩])).run Tryd.prog w = .ok (.bool true) w := by
  have h := eq_entry w noE noE
  rw [show enEq noE noE = true from (enEq_iff _ _).2 rfl] at h
  exact h
theorem n2_step {acc : List En} {j : Nat} {x re : En} {fb b : Bool} (h : fb = true ↔ re ∈ acc.take j) (hx : acc[j]? = some x) (hb : enEq x re = b) : (fb || b) = true ↔ re ∈ acc.take (j + 1) := by
  rw [List.take_add_one, hx, Bool.or_eq_true, h, ← hb, enEq_iff]
  simp [eq_comm]
theorem ev_get : ∀ {acc : List En} {j : Nat} {x : En}, acc[j]? = some x → ∀ t, t < 4 → (ev acc)[j * 4 + t]? = (ecells x)[t]?
  | [], j, x, h, _, _ => by simp at h
  | a :: r, 0, x, h, t, ht => by
    have : a = x := by simpa using h
    subst this
    rw [Nat.zero_mul, Nat.zero_add, show ev (a :: r) = ecells a ++ ev r by simp [ev]]
    exact List.getElem?_append_left (by simpa [ecells] using ht)
  | a :: r, j + 1, x, h, t, ht => by
    rw [show ev (a :: r) = ecells a ++ ev r by simp [ev], List.getElem?_append_right (by simp [ecells]; omega)]
    have := ev_get (acc := r) (j := j) (x := x) (by simpa using h) t ht
    rw [← this]
    congr 1
    simp [ecells]
    omega
theorem row_cells {w w' : World} {base n c : Nat} {B : Option Addr} {acc : List En} {j : Nat} {x : En} (h : w.ownsRow base 42 4 (.slice B n c) n (ev acc)) (hb : Below w.heap.size w w') (hj : acc[j]? = some x) :
    ∃ g, B = some ⟨g, 0, none⟩ ∧ g < w'.heap.size ∧ w'.cell? ⟨g, j * 4, none⟩ = some (.string x.key) ∧ w'.cell? ⟨g, j * 4 + 1, none⟩ = some (.int .i64 x.seq) ∧ w'.cell? ⟨g, j * 4 + 2, none⟩ = some (.bool x.del) ∧ w'.cell? ⟨g, j * 4 + 3, none⟩ = some (.string x.val) := by
  have he := ev_get hj
  rcases h.2 with ⟨h1, h2⟩ | ⟨g, cap, cur, h1, _, hg, _, _, _, h2⟩
  · have h3 := h.1
    have h4 := he 0 (by omega)
    rw [List.getElem?_eq_none (by omega)] at h4
    cases h4
  · cases h1
    have hblk : Blk w' g 42 cur := (show Blk w g 42 cur from hg).same (hb.block g (Blk.lt (t := 42) (cs := cur) hg))
    have key : ∀ t, t < 4 → w'.cell? ⟨g, j * 4 + t, none⟩ = (ecells x)[t]? := fun t ht => by
      rw [hblk.cell, ← he t ht, ← h2]
      have hlt : j * 4 + t < n * 4 := by
        have h4 := he t ht
        have h5 : (ecells x)[t]?.isSome := by match t, ht with | 0, _ | 1, _ | 2, _ | 3, _ => rfl
        rw [← h4] at h5
        have h6 : j * 4 + t < (ev acc).length := by
          rcases Nat.lt_or_ge (j * 4 + t) (ev acc).length with h7 | h7
          · exact h7
          · rw [List.getElem?_eq_none h7] at h5; cases h5
        rw [h.1] at h6
        exact h6
      rw [List.getElem?_take_of_lt hlt, Array.getElem?_toList]
    exact ⟨g, rfl, hblk.lt, key 0 (by omega), key 1 (by omega), key 2 (by omega), key 3 (by omega)⟩
section
variable {w0 : World} {A : Option Addr} {L : List MOp} {k : ByteArray} {q : Int}
end

end Mm
end Go.Proofs.YtadlhnjnhllpfaaDoor
namespace Go.Proofs.YtadlhnjnhllpfaaDoor
open Go Go.ChangeShapes Go.WideShapes Go.ChangeAt Go.RowKit Go.Deep Go.Proofs.YtadlhnjnhllpfaaDoor.Fr
namespace Mm
theorem own : ownKnob Tryd.prog.godebug = none := by kernel_rfl
theorem laidOut : laidOutB Tryd.prog = true := by kernel_rfl
section
variable {W : World}
theorem spot_none {a : Addr} {v : Value} (h : W.cell? a = some v) : ∃ b o, a = ⟨b, o, none⟩ ∧ b < W.heap.size := by
  obtain ⟨b, o, spot⟩ := a
  have hspot : spot = none := World.cell?_spot h
  subst hspot
  exact ⟨b, o, rfl, World.block_lt_of_cell? W _ h⟩
theorem add_none (b o j : Nat) : (⟨b, o, none⟩ : Addr).add j = ⟨b, o + j, none⟩ := by unfold Addr.add; split <;> simp_all
section
variable {H : Type} {enc : TypeId × Value → H}
theorem cellsEn : Tryd.prog.cellsOf 42 = 4 := by kernel_rfl
theorem cellsB : Tryd.prog.cellsOf 4 = 1 := by kernel_rfl
theorem cellsI : Tryd.prog.cellsOf 3 = 1 := by kernel_rfl
theorem cellsS : Tryd.prog.cellsOf 9 = 1 := by kernel_rfl
-- one entry, by its cells
set_option maxRecDepth 100000 in
theorem entry_open {cs : List Value} {n : Nat} {x : DataW H × List MemPlace} (hcl : cs.length = 4) (h : DataW.trod enc Tryd.prog W 0 (fun _ => true) true n 42 cs = some x) :
    ∃ e : En, cs = ecells e := by
  obtain ⟨ys, n', _, hx, hlen, hyl, hf⟩ := DataW.trod_struct Tryd.underlying42 h
  match cs, hcl with
  | [c0, c1, c2, c3], _ =>
    match ys, hyl with
    | [y0, y1, y2, y3], _ =>
      have f0 : DataW.trod enc Tryd.prog W 0 (fun _ => true) true n' 9 [c0] = some y0 := by simpa [cellsS] using hf 0 _ rfl
      have f1 : DataW.trod enc Tryd.prog W 0 (fun _ => true) true n' 3 [c1] = some y1 := by simpa [cellsI] using hf 1 _ rfl
      have f2 : DataW.trod enc Tryd.prog W 0 (fun _ => true) true n' 4 [c2] = some y2 := by simpa [cellsB] using hf 2 _ rfl
      have f3 : DataW.trod enc Tryd.prog W 0 (fun _ => true) true n' 9 [c3] = some y3 := by simpa [cellsS] using hf 3 _ rfl
      obtain ⟨s0, e0, _, _⟩ := DataW.trod_string Tryd.underlying9 f0
      obtain ⟨z1, e1, _, _⟩ := DataW.trod_int Tryd.underlying3 f1
      obtain ⟨b2, e2, _⟩ := DataW.trod_bool Tryd.underlying4 f2
      obtain ⟨s3, e3, _, _⟩ := DataW.trod_string Tryd.underlying9 f3
      simp only [List.cons.injEq, and_true] at e0 e1 e2 e3
      subst e0 e1 e2 e3
      exact ⟨⟨s0, z1, b2, s3⟩, rfl⟩
end
end
end Mm
end Go.Proofs.YtadlhnjnhllpfaaDoor
