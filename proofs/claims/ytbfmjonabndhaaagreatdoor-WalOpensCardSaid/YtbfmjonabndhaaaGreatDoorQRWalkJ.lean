/-
  WHAT IS PROVED: (1) what the reference's Rename does. CONDITIONS: the list stands in memory as named. (2) what the reference's Crash does. CONDITIONS: the list stands in memory as named; the numbers are read as named.
-/
import Derived.Test.YtbfmjonabndhaaaGreatDoorQRWalkH
import Derived.Test.YtbfmjonabndhaaaGreatDoorQDWalkG
import Derived.Deep.DeepCutAuto
namespace Go.Proofs.YtbfmjonabndhaaaGreatDoor
open Go Go.RowKit Go.Maps Go.Proofs.YtbfmjonabndhaaaGreatDoor.Fr
namespace Dr

theorem ok_del {st : St} {n : Bs} (h : st.Ok) : ({ st with files := del n st.files } : St).Ok := ⟨h.rising.del n, Nat.le_trans (length_del_le _ _) h.few, fun f hf => h.file f (mem_del hf).1, h.left⟩
theorem ext_three {T : Nat → Prop} {W W5 W5' W6 w7 : World} {w6 : World} {B : Nat} (h1 : B ≤ W.heap.size) (h2 : W.heap.size ≤ W5'.heap.size) (h3 : W.heap.size ≤ W6.heap.size) : ∀ k, Dr.ext (Dr.ext (Dr.ext T W W5) W5' w6) W6 w7 k → T k ∨ B ≤ k := fun k hk => by
  rcases hk with hk | hk
  · exact ext_two h1 h2 k hk
  · exact .inr (by omega)
theorem ext_four {T : Nat → Prop} {W W5 W5' W6 w7 W9 w8 : World} {w6 : World} {B : Nat} (h1 : B ≤ W.heap.size) (h2 : W.heap.size ≤ W5'.heap.size) (h3 : W.heap.size ≤ W6.heap.size) (h4 : W.heap.size ≤ W9.heap.size) : ∀ k, Dr.ext (Dr.ext (Dr.ext (Dr.ext T W W5) W5' w6) W6 w7) W9 w8 k → T k ∨ B ≤ k := fun k hk => by
  rcases hk with hk | hk
  · exact ext_three h1 h2 h3 k hk
  · exact .inr (by omega)
theorem far4 {W : World} {g g' : Nat} {t : TypeId} {cs : Array Value} {a0 a1 a2 a3 : Value} (h : Blk W g t cs) (hne : g ≠ g') : Blk (set4 W g' a0 a1 a2 a3) g t cs :=
  (((h.same (Below.heap_setCell _ _ _ _ hne)).same (Below.heap_setCell _ _ _ _ hne)).same (Below.heap_setCell _ _ _ _ hne)).same (Below.heap_setCell _ _ _ _ hne)
section
variable {w : World} {T : Nat → Prop} {v : Value} {st : St}
end
end Dr
end Go.Proofs.YtbfmjonabndhaaaGreatDoor
namespace Go.Proofs.YtbfmjonabndhaaaGreatDoor
open Go Go.RowKit Go.Maps Go.Proofs.YtbfmjonabndhaaaGreatDoor.Fr
namespace Dr

theorem wp_appN {P : Program} (w : World) {o : Oper} {a : Act} {K : Act → World → Prop} {Q : Exit → Act → World → Prop} (s x : Operand) (t : TypeId)
    (ho : o.op = .call { callee := .builtin .append, args := #[s, x], argTypes := #[t, t] })
    (base : Nat) (e : TypeId) (i : TypeInfo) (z : Value) (size bytes : Nat) (ht : P.underlying t = some (.slice e)) (hi : P.info? e = some i) (hz : i.zero = some z)
    (hsize : i.size = size) (hby : i.bytes = bytes) (hzs : z.cells.size = size) (hsz : 0 < size)
    (v : Value) (n : Nat) (xs : List Value) (hs : a.eval s = v) (hown : w.ownsRow base e size v n xs)
    (ad : Addr) (m c : Nat) (news : List Value) (hx : a.eval x = .slice (some ad) m c) (hl : news.length = m * size) (hr : ∀ j u, news[j]? = some u → w.cell? (ad.add j) = some u) (h1 : ∀ u ∈ news, u.oneCell' = true)
    (N : Nat) (hN : n + m = N) (h63 : N ≤ maxLen) (hbytes : N * bytes ≤ 140737488355328) (hbase : base ≤ w.heap.size)
    (h : ∀ A' c' w', w'.ownsRow base e size (.slice A' N c') N (xs ++ news) → Below base w w' → w.grownBy w' v.ownBlock → K (a.put o.dst (.slice A' N c')) w') : o.wp P a w K Q := by
  subst hN
  obtain ⟨v', w', hrun, h2, h3, _, _⟩ := run_append_own_at (P := P) w base t o.type e i z size bytes ht hi hz hsize hby hzs hsz v n xs hown ad m c news hl hr h1 h63 hbytes hbase
  obtain ⟨A', c', rfl, _, _⟩ := own_shapeN h2
  unfold Oper.wp execOp
  simp only [ho, resolve, invoke, builtin, Sem.run_bind, Sem.run_pure, Result.andThen_ok, List.map_toArray, List.map_cons, List.map_nil, hs, hx, hrun]
  exact h A' c' w' h2 ((Below.refl _ _).grown h3 hbase (own_rowN hown)) h3

/-- The loop's state. -/
def CrInv (W3 : World) (bx : Nat) (l : List Fl) (ks : List Int) (s6 s7 : Value) (wr : World) : Prop :=
  ∃ (i nx : Nat) (A : Option Addr) (c : Nat), i ≤ l.length ∧ nx ≤ i ∧ s7 = .int .i64 (i : Int) ∧ s6 = .int .i64 (nx : Int) ∧ rest (l.take i) ks = ks.drop nx ∧ wr.ownsRow W3.heap.size 64 3 (.slice A i c) i (fv (cuts (l.take i) ks)) ∧
    Below bx W3 wr ∧ Blk wr bx 35 #[.slice A i c, .int .i64 0, .bool false, .int .i64 0] ∧ W3.heap.size ≤ wr.heap.size
theorem vint {k : IntKind} {a b : Int} (h : a = b) : Value.int k a = Value.int k b := by rw [h]
/-- Behind the reckoning of what is kept. -/
def CMid (W : World) (f : Fl) (kr ks : List Int) (i : Nat) (s6 s9 : Value) (wx : World) : Prop :=
  ∃ nx' E : Nat, s6 = .int .i64 (nx' : Int) ∧ s9 = .int .i64 (E : Int) ∧ keepN f kr = E ∧ (cut1 f kr).2 = ks.drop nx' ∧ nx' ≤ i + 1 ∧ wx = W
theorem keep_le0 {f : Fl} (h : f.syn < f.dat.length) {k : Int} (hk : k ≤ 0) (ks : List Int) : keepN f (k :: ks) = f.syn := by
  have := (keep_some h k ks).1
  omega
theorem keep_part {f : Fl} (h : f.syn < f.dat.length) {k : Int} (hk : 0 < k) (hl : k < (f.dat.length : Int) - (f.syn : Int)) (ks : List Int) : (keepN f (k :: ks) : Int) = (f.syn : Int) + k := by
  have := (keep_some h k ks).1
  omega
theorem keep_all {f : Fl} (h : f.syn < f.dat.length) {k : Int} (hl : ¬ k < (f.dat.length : Int) - (f.syn : Int)) (ks : List Int) : keepN f (k :: ks) = f.dat.length := by
  have := (keep_some h k ks).1
  omega
theorem below_of_drew' {B : Nat} {a b : World} (h : Below B a.drew b) : Below B a b := ⟨h.os, h.tape, h.output, h.size, h.block⟩
theorem blk_drew {w : World} {g : Nat} {t : TypeId} {cs : Array Value} (h : Blk w g t cs) : Blk w.drew g t cs := h
theorem fb_grown {X w9 : World} {g : Nat} {t : TypeId} {cs : Array Value} {v : Value} (h : Blk X g t cs) (hg : X.grownBy w9 v.ownBlock) (hv : ∀ k, v.ownBlock = some k → k < g) : Blk w9 g t cs := h.same (hg.block g h.lt fun e => by have := hv g e.symm; omega)
theorem crinv_step {W3 wr wc w9 : World} {bx : Nat} {l : List Fl} {ks : List Int} {i nx nx' E : Nat} {f : Fl} {A1 A9 : Option Addr} {c1 c9 : Nat} (hi : l[i]? = some f) (hil : i < l.length) (hr : rest (l.take i) ks = ks.drop nx) (hE : keepN f (ks.drop nx) = E) (hk2 : (cut1 f (ks.drop nx)).2 = ks.drop nx') (hnx : nx' ≤ i + 1)
    (hown : w9.ownsRow W3.heap.size 64 3 (.slice A9 (i + 1) c9) (i + 1) (fv (cuts (l.take i) ks) ++ fcells ⟨f.name, f.dat.take E, E⟩)) (hbx : Blk w9 bx 35 #[.slice A1 i c1, .int .i64 0, .bool false, .int .i64 0]) (hb : Below bx W3 wr) (hbW : Below wr.heap.size wr wc) (hbl : bx < W3.heap.size) (hws : W3.heap.size ≤ wr.heap.size) (hwc : W3.heap.size ≤ wc.heap.size) (hb9 : Below W3.heap.size wc w9) :
    CrInv W3 bx l ks (.int .i64 (nx' : Int)) (.int .i64 ((i : Int) + 1)) (w9.setCell ⟨bx, 0, none⟩ (.slice A9 (i + 1) c9)) := by
  obtain ⟨e1, e2⟩ := cuts_take_succ hi ks
  rw [hr] at e1 e2
  have e3 := (cut1_eq f (ks.drop nx)).1
  rw [hE] at e3
  rw [e3] at e1
  refine ⟨i + 1, nx', A9, c9, hil, hnx, by go_num, rfl, e2.trans hk2, ?_, ?_, ?_, ?_⟩
  · rw [e1, fv_append, fv_one]
    exact own_same hown fun k hk => Below.heap_setCell _ _ _ _ (by show k ≠ bx; have := (hown.lt k hk).1; omega)
  · exact ((hb.trans (hbW.mono (by omega))).trans (hb9.mono (by omega))).setCell (p := ⟨bx, 0, none⟩) (Nat.le_refl _) _
  · have := hbx.set 0 (.slice A9 (i + 1) c9)
    simpa using this
  · have := hb9.size
    simp only [World.setCell, Array.size_modify]
    omega
section
variable {w : World} {T : Nat → Prop} {v : Value} {st : St}
end
end Dr
end Go.Proofs.YtbfmjonabndhaaaGreatDoor
