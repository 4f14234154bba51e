/-
  WHAT IS PROVED: (1) a map from names to pointers, as a rising list of names and blocks: what it answers, and what a store and a deletion leave. NO CONDITION beside those that each lemma names. (2) when memory holds a drive, and when a value is the plain list of files; what keeps both, and what each step leaves. NO CONDITION beside those that each lemma names.
-/
import Derived.Maps.OwnSet
import Derived.StringKeys
import Derived.Test.YtbfmjonabndhaaaGreatDoorQMem
import Derived.Test.YtbfmjonabndhaaaGreatDoorQLLoadP
import Derived.Test.YtbfmjonabndhaaaGreatDoorProg
namespace Go.Proofs.YtbfmjonabndhaaaGreatDoor
open Go Go.RowKit Go.Maps Go.Proofs.YtbfmjonabndhaaaGreatDoor.Fr
open Go.WideMaps (keyOf_string_mk)
namespace Dr

/-- How a pointer in a map reads: by its block. -/
def ptrElem : Value → Option (DataW Unit × List MemPlace)
  | .pointer none => some (.lit (.int .i64 (-1)), [])
  | .pointer (some ⟨b, 0, none⟩) => some (.lit (.int .i64 (b : Int)), [])
  | _ => none
theorem ptrElem_inv {v : Value} {b : Nat} {ps : List MemPlace} (h : ptrElem v = some (.lit (.int .i64 (b : Int)), ps)) : v = .pointer (some ⟨b, 0, none⟩) := by
  unfold ptrElem at h
  split at h
  · simp only [Option.some.injEq, Prod.mk.injEq, DataW.lit.injEq, Lit.int.injEq, true_and] at h
    omega
  · simp only [Option.some.injEq, Prod.mk.injEq, DataW.lit.injEq, Lit.int.injEq, true_and] at h
    obtain ⟨h, _⟩ := h
    have : _ = b := Int.ofNat.inj h
    rw [this]
  · cases h
theorem ptrElem_nil_inv {v : Value} {ps : List MemPlace} (h : ptrElem v = some (.lit (.int .i64 (-1)), ps)) : v = .pointer none := by
  unfold ptrElem at h
  split at h
  · rfl
  · simp only [Option.some.injEq, Prod.mk.injEq, DataW.lit.injEq, Lit.int.injEq, true_and] at h
    omega
  · cases h

abbrev NB := Bs × Nat
def entM (p : NB) : Lit × DataW Unit := (.string p.1, .lit (.int .i64 (p.2 : Int)))
def datM (L : List NB) : DataW Unit := .map (L.map entM)
def ptrOf : Option NB → Value
  | some p => .pointer (some ⟨p.2, 0, none⟩)
  | none => .pointer none

theorem find_entM (n : Bs) : ∀ L : List NB, (L.map entM).find? (fun p => p.1.sameKey (.string n)) = (findBy (·.1) n L).map entM
  | [] => rfl
  | a :: r => by
    have ih := find_entM n r
    unfold findBy at ih ⊢
    rw [List.map_cons, List.find?_cons, List.find?_cons]
    have e : (entM a).1.sameKey (.string n) = decide (a.1 = n) := by
      show (a.1 == n) = _
      rw [Bool.eq_iff_iff]
      simp
    rw [e]
    by_cases h : a.1 = n
    · simp [h]
    · simp only [h, decide_false]
      exact ih
theorem atKey_datM (n : Bs) (L : List NB) (z : DataW Unit) : (datM L).atKey (.string n) z = match findBy (·.1) n L with | some p => .lit (.int .i64 (p.2 : Int)) | none => z := by
  unfold datM DataW.atKey
  dsimp only
  rw [find_entM]
  cases findBy (·.1) n L <;> rfl
theorem filter_entM (n : Bs) (L : List NB) : (L.map entM).filter (fun p => !p.1.sameKey (.string n)) = (delBy (·.1) n L).map entM := by
  unfold delBy
  rw [List.filter_map]
  congr 2
  funext a
  show (!(a.1 == n)) = _
  rw [Bool.eq_iff_iff]
  simp
theorem insert_entM (x : NB) : ∀ L : List NB, RisingBy (·.1) L → (∀ p ∈ L, p.1 ≠ x.1) → DataW.insert (entM x) (L.map entM) = (putBy (·.1) x L).map entM
  | [], _, _ => by simp [DataW.insert, putBy]
  | a :: r, hr, hn => by
    obtain ⟨h1, h2⟩ := List.pairwise_cons.1 hr
    have hb : (entM x).1.before (entM a).1 = decide (x.1 < a.1) := by
      show bytesBefore x.1 a.1 = _
      rw [bb_eq]
    rw [List.map_cons, DataW.insert, hb]
    by_cases h : x.1 < a.1
    · have e1 : (r.filter fun g => decide (g.1 < x.1)) = [] := by
        rw [List.filter_eq_nil_iff]; intro y hy; simpa using lt_asymm (lt_trans h (h1 y hy))
      have e2 : (r.filter fun g => decide (x.1 < g.1)) = r := by
        rw [List.filter_eq_self]; intro y hy; simpa using lt_trans h (h1 y hy)
      have h' := lt_asymm h
      unfold putBy
      simp only [List.filter_cons, h, h', e1, e2, decide_true, decide_false, if_true, if_false, Bool.false_eq_true, List.nil_append, List.map_cons]
    · have h' : a.1 < x.1 := by
        rcases lt_total a.1 x.1 with k | k | k
        · exact k
        · exact absurd k (hn a (by simp))
        · exact absurd k h
      have ih := insert_entM x r h2 fun p hp => hn p (by simp [hp])
      rw [ih]
      unfold putBy
      simp only [List.filter_cons, h, h', decide_true, decide_false, if_true, if_false, Bool.false_eq_true, List.cons_append, List.map_cons]
theorem put_datM (x : NB) {L : List NB} (hr : RisingBy (·.1) L) : (datM L).put (.string x.1) (.lit (.int .i64 (x.2 : Int))) = datM (putBy (·.1) x L) := by
  have e : (datM L).put (.string x.1) (.lit (.int .i64 (x.2 : Int))) = .map (DataW.insert (entM x) ((L.map entM).filter fun p => !p.1.sameKey (.string x.1))) := rfl
  rw [e, filter_entM, insert_entM x _ (hr.del _) (fun p hp => (mem_delBy.1 hp).2), putBy_del]
  rfl
theorem del_datM (n : Bs) (L : List NB) : (datM L).del (.string n) = datM (delBy (·.1) n L) := by
  have e : (datM L).del (.string n) = .map ((L.map entM).filter fun p => !p.1.sameKey (.string n)) := rfl
  rw [e, filter_entM]
  rfl
theorem strKeys_datM (L : List NB) : strKeys (datM L) = L.map (·.1) := by
  show (L.map entM).map (fun p => strOf p.1) = _
  rw [List.map_map]
  rfl
theorem size_datM (L : List NB) : Maps.size (datM L) = L.length := by simp [Maps.size, datM]

/-- BLOCK b IS A MAP THAT HOLDS L. -/
structure MapAt (P : Program) (K : TypeId) (w : World) (b : Nat) (L : List NB) : Prop where
  owns : w.ownsMap P K ptrElem b L.length (datM L)
  rising : RisingBy (·.1) L

section
variable {P : Program} {K E T : TypeId} {w : World} {b : Nat} {L : List NB}
theorem tight {n : Nat} {D : DataW Unit} {R : Value → Option (DataW Unit × List MemPlace)} (h : w.ownsMap P K R b n D) : w.ownsMap P K R b (Maps.size D) D := by
  obtain ⟨es, clock, hb, F, _, rfl⟩ := h
  exact ⟨es, clock, hb, F, by simp [Maps.size, length_sorted], rfl⟩
theorem MapAt.made (P : Program) (K : TypeId) (w : World) : MapAt P K (w.alloc (.map #[] 0)) w.heap.size [] :=
  ⟨World.ownsMap_made w P K ptrElem, List.Pairwise.nil⟩
theorem MapAt.lt (h : MapAt P K w b L) : b < w.heap.size := h.owns.lt
theorem MapAt.same {w' : World} (h : MapAt P K w b L) (hb : w'.heap[b]? = w.heap[b]?) : MapAt P K w' b L := by
  obtain ⟨⟨es, clock, h0, r⟩, hr⟩ := h
  exact ⟨⟨es, clock, hb.trans h0, r⟩, hr⟩
theorem MapAt.alloc (h : MapAt P K w b L) (o : Obj) : MapAt P K (w.alloc o) b L := h.same (Below.heap_alloc w o b h.lt)
theorem MapAt.not_cells (h : MapAt P K w b L) {cs : Array Value} {t : TypeId} {fr : Nat × Nat} : w.heap[b]? ≠ some (.cells cs t fr) := by
  obtain ⟨⟨es, clock, h0, _⟩, _⟩ := h
  rw [h0]
  simp
theorem MapAt.look (h : MapAt P K w b L) (hK : P.underlying K = some .string) (hT : P.underlying T = some (.map K E)) (hz : (zeroValue E).run P w = .ok (.pointer none) w) {s : ByteArray} (hs : s.size ≤ maxLen) :
    (Instr.lookup T (.map (some b)) (.string s) false).run P w = .ok (ptrOf (findBy (·.1) s.data.toList L)) w := by
  obtain ⟨v, ps, hrun, hv⟩ := h.owns.lookup (string_keyed hK) hT hz (zd := .lit (.int .i64 (-1))) (zp := []) rfl (keyOf_string_mk hK hs)
  rw [hrun]
  rw [atKey_datM] at hv
  cases e : findBy (·.1) s.data.toList L with
  | none => rw [e] at hv; rw [ptrElem_nil_inv hv]; rfl
  | some p => rw [e] at hv; rw [ptrElem_inv hv]; rfl
theorem MapAt.len (h : MapAt P K w b L) (hT : P.underlying T = some (.map K E)) (ty : TypeId) : (Builtin.len_ #[T] ty #[.map (some b)]).run P w = .ok (.int .i64 L.length) w := by
  have := h.owns.len hT ty
  rw [size_datM] at this
  exact this
theorem MapAt.store (h : MapAt P K w b L) (hK : P.underlying K = some .string) (hT : P.underlying T = some (.map K E)) (hn : L.length < maxLen) {s : ByteArray} (hs : s.size ≤ maxLen) (g : Nat) :
    ∃ w', (Instr.mapUpdate T (.map (some b)) (.string s) (.pointer (some ⟨g, 0, none⟩))).run P w = .ok () w' ∧ MapAt P K w' b (putBy (·.1) (s.data.toList, g) L) ∧ w.grownBy w' (some b) ∧ w'.heap.size = w.heap.size := by
  obtain ⟨w', hrun, ho, ht⟩ := h.owns.store (string_keyed hK) hT hn (keyOf_string_mk hK hs) (val := .pointer (some ⟨g, 0, none⟩)) (d := .lit (.int .i64 (g : Int))) (ps := []) rfl
  have e := put_datM (s.data.toList, g) h.rising
  dsimp only at e
  rw [e] at ho
  have := tight ho
  rw [size_datM] at this
  refine ⟨w', hrun, ⟨this, h.rising.put _⟩, ht.grown, ?_⟩
  obtain ⟨_, _, _, _, _, rfl⟩ := ht
  simp [ChangeMaps.setBlock]
theorem MapAt.drop (h : MapAt P K w b L) (hK : P.underlying K = some .string) (hT : P.underlying T = some (.map K E)) {s : ByteArray} (hs : s.size ≤ maxLen) (ty : TypeId) :
    ∃ w', (Builtin.delete_ #[T, K] ty #[.map (some b), .string s]).run P w = .ok (.tuple #[]) w' ∧ MapAt P K w' b (delBy (·.1) s.data.toList L) ∧ w.grownBy w' (some b) ∧ w'.heap.size = w.heap.size := by
  obtain ⟨w', hrun, ho, ht⟩ := h.owns.drop (string_keyed hK) hT (keyOf_string_mk hK hs) ty
  rw [del_datM] at ho
  have := tight ho
  rw [size_datM] at this
  refine ⟨w', hrun, ⟨this, h.rising.del _⟩, ht.grown, ?_⟩
  obtain ⟨_, _, _, _, _, rfl⟩ := ht
  simp [ChangeMaps.setBlock]
end

/-! ### At the operation, for the walk -/
section
variable {P : Program} (w : World) {ops : Array Oper} {rest : List Oper} {o : Oper} {a : Act} {Q : Exit → Act → World → Prop} {K E T : TypeId} {b : Nat} {L : List NB}
theorem wpList_look (hg : o.guard = none) (m x : Operand) (t : TypeId) (hop : o.op = Op.lookup t m x false) (hm : a.eval m = .map (some b)) (h : MapAt P K w b L) (hK : P.underlying K = some .string) (hT : P.underlying t = some (.map K E)) (hz : (zeroValue E).run P w = .ok (.pointer none) w)
    (s : ByteArray) (hx : a.eval x = .string s) (hs : s.size ≤ maxLen) (v : Value) (hv : ptrOf (findBy (·.1) s.data.toList L) = v)
    (hK' : wpList P ops Q rest (a.put o.dst v) w) : wpList P ops Q (o :: rest) a w := by
  subst hv
  refine wpList_plain hg fun _ hKK => ?_
  have hrun := h.look hK hT hz hs
  unfold Oper.wp
  simp only [execOp, hop, hm, hx, hrun, Sem.run_bind, Result.andThen_ok]
  exact hKK _ _ hK'
theorem wpList_mstore (hg : o.guard = none) (m x v : Operand) (t : TypeId) (hop : o.op = Op.mapUpdate t m x v) (hm : a.eval m = .map (some b)) (h : MapAt P K w b L) (hK : P.underlying K = some .string) (hT : P.underlying t = some (.map K E)) (hn : L.length < maxLen)
    (s : ByteArray) (hx : a.eval x = .string s) (hs : s.size ≤ maxLen) (g : Nat) (hv : a.eval v = .pointer (some ⟨g, 0, none⟩))
    (hK' : ∀ w', MapAt P K w' b (putBy (·.1) (s.data.toList, g) L) → w.grownBy w' (some b) → w'.heap.size = w.heap.size → wpList P ops Q rest (a.put o.dst undef) w') : wpList P ops Q (o :: rest) a w := by
  refine wpList_plain hg fun _ hKK => ?_
  obtain ⟨w', hrun, h1, h2, h3⟩ := h.store hK hT hn hs g
  unfold Oper.wp
  simp [execOp, hop, hm, hx, hv, hrun, Result.andThen]
  exact hKK _ _ (hK' w' h1 h2 h3)
theorem wpList_mdrop (hg : o.guard = none) (m x : Operand) (t k : TypeId) (hop : o.op = Op.call { callee := Callee.builtin Builtin.delete, args := #[m, x], argTypes := #[t, k] }) (hm : a.eval m = .map (some b)) (h : MapAt P k w b L) (hK : P.underlying k = some .string) (hT : P.underlying t = some (.map k E))
    (s : ByteArray) (hx : a.eval x = .string s) (hs : s.size ≤ maxLen)
    (hK' : ∀ w', MapAt P k w' b (delBy (·.1) s.data.toList L) → w.grownBy w' (some b) → w'.heap.size = w.heap.size → wpList P ops Q rest (a.put o.dst (.tuple #[])) w') : wpList P ops Q (o :: rest) a w := by
  refine wpList_plain hg fun _ hKK => ?_
  obtain ⟨w', hrun, h1, h2, h3⟩ := h.drop hK hT hs o.type
  unfold Oper.wp
  simp [execOp, hop, resolve, invoke, builtin, hm, hx, hrun, Result.andThen]
  exact hKK _ _ (hK' w' h1 h2 h3)
end
end Dr
end Go.Proofs.YtbfmjonabndhaaaGreatDoor
namespace Go.Proofs.YtbfmjonabndhaaaGreatDoor
open Go Go.RowKit Go.Maps Go.Proofs.YtbfmjonabndhaaaGreatDoor.Fr
namespace Dr

/-- w' is w but for the blocks of S and new ones. -/
structure Mod (S : Nat → Prop) (w w' : World) : Prop where
  os : w'.os = w.os
  tape : w'.tape = w.tape
  output : w'.output = w.output
  size : w.heap.size ≤ w'.heap.size
  block : ∀ k, k < w.heap.size → ¬ S k → w'.heap[k]? = w.heap[k]?
/-- S and what is new. -/
def ext (S : Nat → Prop) (w w' : World) (k : Nat) : Prop := S k ∨ (w.heap.size ≤ k ∧ k < w'.heap.size)
section
variable {S S' : Nat → Prop} {w w' w'' : World}
theorem Mod.refl (S : Nat → Prop) (w : World) : Mod S w w := ⟨rfl, rfl, rfl, Nat.le_refl _, fun _ _ _ => rfl⟩
theorem Mod.trans (h : Mod S w w') (k : Mod S' w' w'') (hs : ∀ b, b < w.heap.size → S' b → S b) : Mod S w w'' :=
  ⟨k.os.trans h.os, k.tape.trans h.tape, k.output.trans h.output, Nat.le_trans h.size k.size, fun b hb hn => (k.block b (Nat.lt_of_lt_of_le hb h.size) fun e => hn (hs b hb e)).trans (h.block b hb hn)⟩
theorem Mod.trans_ext (h : Mod S w w') (k : Mod (ext S w w') w' w'') : Mod S w w'' := h.trans k fun b hb e => e.elim id fun e => absurd e.1 (by omega)
theorem Mod.weaken (h : Mod S w w') (hs : ∀ b, b < w.heap.size → S b → S' b) : Mod S' w w' := ⟨h.os, h.tape, h.output, h.size, fun b hb hn => h.block b hb fun e => hn (hs b hb e)⟩
theorem Mod.drew (h : Mod S w w') : Mod S w w'.drew := ⟨h.os, h.tape, h.output, h.size, h.block⟩
theorem Mod.drewN (h : Mod S w w') (n : Nat) : Mod S w (w'.drewN n) := ⟨h.os, h.tape, h.output, h.size, h.block⟩
theorem Mod.of_drewN {n : Nat} (h : Mod S (w.drewN n) w') : Mod S w w' := ⟨h.os, h.tape, h.output, h.size, h.block⟩
theorem Mod.below (h : Below w.heap.size w w') : Mod S w w' := ⟨h.os, h.tape, h.output, h.size, fun b hb _ => h.block b hb⟩
theorem Mod.grown {row : Option Nat} (h : w.grownBy w' row) (hs : ∀ k, row = some k → S k) : Mod S w w' := ⟨h.os, h.tape, h.output, h.size, fun b hb hn => h.block b hb fun e => hn (hs b e.symm)⟩
theorem Mod.alloc (h : Mod S w w') (o : Obj) : Mod S w (w'.alloc o) := h.trans (S' := fun _ => False) ⟨rfl, rfl, rfl, by simp, fun b hb _ => Below.heap_alloc _ _ _ hb⟩ fun _ _ e => e.elim
theorem Mod.setCell (h : Mod S w w') {p : Addr} (hp : p.block < w.heap.size → S p.block) (u : Value) : Mod S w (w'.setCell p u) :=
  h.trans (S' := fun k => k = p.block) ⟨rfl, rfl, rfl, by simp [World.setCell], fun b _ hn => Below.heap_setCell _ _ _ _ hn⟩ fun b hb e => by subst e; exact hp hb
theorem Mod.to_below {B : Nat} (h : Mod S w w') (hs : ∀ k, S k → B ≤ k) (hB : B ≤ w.heap.size) : Below B w w' :=
  ⟨h.os, h.tape, h.output, h.size, fun k hk => h.block k (by omega) fun e => by have := hs k e; omega⟩
theorem ext_lt (hS : ∀ k, S k → k < w.heap.size) (h : w.heap.size ≤ w'.heap.size) : ∀ k, ext S w w' k → k < w'.heap.size := fun k hk => by
  rcases hk with hk | hk
  · have := hS k hk; omega
  · exact hk.2
theorem ext_ge {B : Nat} (hS : ∀ k, S k → B ≤ k) (hB : B ≤ w.heap.size) : ∀ k, ext S w w' k → B ≤ k := fun k hk => by
  rcases hk with hk | hk
  · exact hS k hk
  · omega
theorem ext_mono (h : w'.heap.size ≤ w''.heap.size) : ∀ k, ext S w w' k → ext S w w'' k := fun k hk => hk.imp id fun e => ⟨e.1, by omega⟩
theorem ext_trans (h : w.heap.size ≤ w'.heap.size) : ∀ k, ext (ext S w w') w' w'' k → w'.heap.size ≤ w''.heap.size → ext S w w'' k := fun k hk h2 => by
  rcases hk with (hk | hk) | hk
  · exact .inl hk
  · exact .inr ⟨hk.1, by omega⟩
  · exact .inr ⟨by omega, hk.2⟩
end

/-- A block that is known whole. -/
def Blk (w : World) (g : Nat) (t : TypeId) (cs : Array Value) : Prop := w.heap[g]? = some (.cells cs t (0, 0))
section
variable {w w' : World} {g : Nat} {t : TypeId} {cs : Array Value}
theorem Blk.lt (h : Blk w g t cs) : g < w.heap.size := (Array.getElem?_eq_some_iff.1 h).1
theorem Blk.cell (h : Blk w g t cs) (i : Nat) : w.cell? ⟨g, i, none⟩ = cs[i]? := cell_of_row w g i cs t (0, 0) h
theorem Blk.frozen (h : Blk w g t cs) (i : Nat) : w.frozen? ⟨g, i, none⟩ = false := frozen_of_row w g i cs t h
theorem Blk.new (w : World) (t : TypeId) (cs : Array Value) : Blk (w.alloc (.cells cs t)) w.heap.size t cs := heap_alloc_new w _
theorem Blk.same (h : Blk w g t cs) (hb : w'.heap[g]? = w.heap[g]?) : Blk w' g t cs := hb.trans h
theorem Blk.alloc (h : Blk w g t cs) (o : Obj) : Blk (w.alloc o) g t cs := h.same (Below.heap_alloc w o g h.lt)
theorem Blk.set (h : Blk w g t cs) (i : Nat) (u : Value) : Blk (w.setCell ⟨g, i, none⟩ u) g t (cs.setIfInBounds i u) := by
  unfold Blk at h ⊢
  simp [World.setCell, Array.getElem?_modify, h]
theorem Blk.ne {g' : Nat} {t' : TypeId} {cs' : Array Value} (h : Blk w g t cs) (h' : Blk w g' t' cs') (hne : t ≠ t') : g ≠ g' := by
  rintro rfl
  unfold Blk at h h'
  rw [h] at h'
  injection h' with h'
  injection h' with _ ht
  exact hne ht
theorem own_blk {base : Nat} {e : TypeId} {size n : Nat} {v : Value} {xs : List Value} (h : w.ownsRow base e size v n xs) {k : Nat} (hk : v.ownBlock = some k) : ∃ cur, Blk w k e cur := by
  rcases h.2 with ⟨rfl, _⟩ | ⟨g', cap, cur, rfl, _, hh, _⟩
  · simp [Value.ownBlock] at hk
  · have : g' = k := by simpa [Value.ownBlock] using hk
    subst this
    exact ⟨cur, hh⟩
theorem own_same {base : Nat} {e : TypeId} {size n : Nat} {v : Value} {xs : List Value} (h : w.ownsRow base e size v n xs) (hk : ∀ k, v.ownBlock = some k → w'.heap[k]? = w.heap[k]?) : w'.ownsRow base e size v n xs := by
  refine ⟨h.1, ?_⟩
  rcases h.2 with h0 | ⟨g', cap, cur, rfl, hb, hh, r⟩
  · exact .inl h0
  · exact .inr ⟨g', cap, cur, rfl, hb, (hk g' rfl).trans hh, r⟩
end

/-- A file, its block, its bytes' row. -/
structure Ent where
  fl : Fl
  blk : Nat
  row : Value
abbrev Ent.key (e : Ent) : Bs := e.fl.name
def Ent.nb (e : Ent) : NB := (e.fl.name, e.blk)
def Ent.foot (e : Ent) (k : Nat) : Prop := k = e.blk ∨ e.row.ownBlock = some k
def EntAt (w : World) (e : Ent) : Prop := Blk w e.blk 90 #[e.row, .int .i64 (e.fl.syn : Int)] ∧ w.ownsRow 0 5 1 e.row e.fl.dat.length (bv e.fl.dat)
def Off (e f : Ent) : Prop := e.blk ≠ f.blk ∧ ∀ k, e.row.ownBlock = some k → f.row.ownBlock = some k → False
theorem Off.symm {e f : Ent} (h : Off e f) : Off f e := ⟨h.1.symm, fun k h1 h2 => h.2 k h2 h1⟩
theorem EntAt.same {w w' : World} {e : Ent} (h : EntAt w e) (hk : ∀ k, e.foot k → w'.heap[k]? = w.heap[k]?) : EntAt w' e := ⟨h.1.same (hk _ (.inl rfl)), own_same h.2 fun k e => hk k (.inr e)⟩
theorem EntAt.lt {w : World} {e : Ent} (h : EntAt w e) : ∀ k, e.foot k → k < w.heap.size := fun k hk => by
  rcases hk with rfl | hk
  · exact h.1.lt
  · exact (h.2.lt k hk).2

structure DriveAt (w : World) (b mb : Nat) (st : St) (Q : List Ent) : Prop where
  head : Blk w b 59 #[.map (some mb), .int .i64 (st.steps : Int), .bool st.armed, .int .i64 (st.left : Int)]
  map : MapAt Tryz.prog 9 w mb (Q.map Ent.nb)
  files : Q.map (·.fl) = st.files
  ents : ∀ e ∈ Q, EntAt w e
  off : ∀ e ∈ Q, ∀ f ∈ Q, e.key ≠ f.key → Off e f
def footD (b mb : Nat) (Q : List Ent) (k : Nat) : Prop := k = b ∨ k = mb ∨ ∃ e ∈ Q, e.foot k
/-- BLOCK b IS A DRIVE; it and all that hangs on it lies in S. -/
def DriveRep (w : World) (S : Nat → Prop) (b : Nat) (st : St) : Prop := ∃ mb Q, DriveAt w b mb st Q ∧ (∀ k, footD b mb Q k → S k) ∧ ∀ k, S k → k < w.heap.size

section
variable {w w' : World} {b mb : Nat} {st : St} {Q : List Ent} {S S' : Nat → Prop}
theorem DriveAt.lt (h : DriveAt w b mb st Q) : ∀ k, footD b mb Q k → k < w.heap.size := fun k hk => by
  rcases hk with rfl | rfl | ⟨e, he, hk⟩
  · exact h.head.lt
  · exact h.map.lt
  · exact (h.ents e he).lt k hk
theorem DriveAt.same (h : DriveAt w b mb st Q) (hk : ∀ k, footD b mb Q k → w'.heap[k]? = w.heap[k]?) : DriveAt w' b mb st Q :=
  ⟨h.head.same (hk b (.inl rfl)), h.map.same (hk mb (.inr (.inl rfl))), h.files, fun e he => (h.ents e he).same fun k hf => hk k (.inr (.inr ⟨e, he, hf⟩)), h.off⟩
theorem DriveRep.same (h : DriveRep w S b st) (hk : ∀ k, S k → w'.heap[k]? = w.heap[k]?) (hs : w.heap.size ≤ w'.heap.size) : DriveRep w' S b st := by
  obtain ⟨mb, Q, h1, h2, h3⟩ := h
  exact ⟨mb, Q, h1.same fun k hf => hk k (h2 k hf), h2, fun k e => Nat.lt_of_lt_of_le (h3 k e) hs⟩
theorem DriveRep.lt (h : DriveRep w S b st) : ∀ k, S k → k < w.heap.size := let ⟨_, _, _, _, h3⟩ := h; h3
theorem DriveRep.below (h : DriveRep w S b st) (hb : Below w.heap.size w w') : DriveRep w' S b st := h.same (fun k e => hb.block k (h.lt k e)) hb.size
theorem DriveRep.mod (h : DriveRep w S b st) (hb : Mod S' w w') (ha : ∀ k, S k → ¬ S' k) : DriveRep w' S b st := h.same (fun k e => hb.block k (h.lt k e) (ha k e)) hb.size
theorem DriveRep.drewN (h : DriveRep w S b st) (n : Nat) : DriveRep (w.drewN n) S b st := h.same (fun _ _ => rfl) (Nat.le_refl _)
theorem DriveRep.of_drewN {n : Nat} (h : DriveRep (w.drewN n) S b st) : DriveRep w S b st := h.same (fun _ _ => rfl) (Nat.le_refl _)
theorem DriveRep.alloc (h : DriveRep w S b st) (o : Obj) : DriveRep (w.alloc o) S b st := h.below ((Below.refl _ _).alloc (Nat.le_refl _) o)
theorem DriveRep.more (h : DriveRep w S b st) (hs : ∀ k, S k → S' k) (hl : ∀ k, S' k → k < w.heap.size) : DriveRep w S' b st := by
  obtain ⟨mb, Q, h1, h2, _⟩ := h
  exact ⟨mb, Q, h1, fun k hf => hs k (h2 k hf), hl⟩
theorem DriveRep.head_mem (h : DriveRep w S b st) : S b := let ⟨_, _, _, h2, _⟩ := h; h2 b (.inl rfl)

/-! ### what the blocks are not -/
theorem DriveAt.map_ne_head (h : DriveAt w b mb st Q) : mb ≠ b := by rintro rfl; exact h.map.not_cells h.head
theorem DriveAt.foot_ne_head (h : DriveAt w b mb st Q) {e : Ent} (he : e ∈ Q) : ¬ e.foot b := fun hk => by
  rcases hk with hk | hk
  · exact Blk.ne (h.ents e he).1 h.head (by decide) hk.symm
  · obtain ⟨cur, hc⟩ := own_blk (h.ents e he).2 hk
    exact Blk.ne hc h.head (by decide) rfl
theorem DriveAt.foot_ne_map (h : DriveAt w b mb st Q) {e : Ent} (he : e ∈ Q) : ¬ e.foot mb := fun hk => by
  rcases hk with hk | hk
  · have := (h.ents e he).1; rw [← hk] at this; exact h.map.not_cells this
  · obtain ⟨cur, hc⟩ := own_blk (h.ents e he).2 hk
    exact h.map.not_cells hc
theorem EntAt.row_ne {e f : Ent} (h : EntAt w e) (h' : EntAt w f) : f.row.ownBlock ≠ some e.blk := fun hk => by
  obtain ⟨cur, hc⟩ := own_blk h'.2 hk
  exact Blk.ne hc h.1 (by decide) rfl
theorem foot_off {e f : Ent} (h : EntAt w e) (h' : EntAt w f) (ho : Off e f) {k : Nat} (hk : e.foot k) : ¬ f.foot k := fun hf => by
  rcases hk with rfl | hk
  · rcases hf with hf | hf
    · exact ho.1 hf
    · exact h.row_ne h' hf
  · rcases hf with rfl | hf
    · exact h'.row_ne h hk
    · exact ho.2 k hk hf

/-! ### what the steps leave -/
theorem DriveAt.head' (h : DriveAt w b mb st Q) {st' : St} (hf : st'.files = st.files) (hk : ∀ k, k < w.heap.size → k ≠ b → w'.heap[k]? = w.heap[k]?)
    (hh : Blk w' b 59 #[.map (some mb), .int .i64 (st'.steps : Int), .bool st'.armed, .int .i64 (st'.left : Int)]) : DriveAt w' b mb st' Q :=
  ⟨hh, h.map.same (hk mb h.map.lt h.map_ne_head), by rw [hf]; exact h.files, fun e he => (h.ents e he).same fun k hf => hk k ((h.ents e he).lt k hf) (by rintro rfl; exact h.foot_ne_head he hf), h.off⟩
theorem nb_name : ∀ e : Ent, e.nb.1 = e.key := fun _ => rfl
theorem DriveAt.rising (h : DriveAt w b mb st Q) : RisingBy Ent.key Q := (risingBy_map (k := Ent.key) (k' := fun p : NB => p.1) nb_name Q).1 h.map.rising
/-- A file is put in the place of what had its name. -/
theorem DriveAt.putE (h : DriveAt w b mb st Q) (e' : Ent) (hm : MapAt Tryz.prog 9 w' mb (putBy (fun p : NB => p.1) e'.nb (Q.map Ent.nb))) (he : EntAt w' e') (hb : w'.heap[b]? = w.heap[b]?)
    (hk : ∀ e ∈ Q, e.key ≠ e'.key → ∀ k, e.foot k → w'.heap[k]? = w.heap[k]?) (ho : ∀ e ∈ Q, e.key ≠ e'.key → Off e e') :
    DriveAt w' b mb { st with files := put e'.fl st.files } (putBy Ent.key e' Q) := by
  refine ⟨h.head.same hb, ?_, ?_, fun e hm => ?_, fun e he f hf hne => ?_⟩
  · rw [putBy_map (k' := fun p : NB => p.1) nb_name]; exact hm
  · show (putBy Ent.key e' Q).map (·.fl) = put e'.fl st.files
    rw [put_by, putBy_map (k' := fun f : Fl => f.name) (fun _ => rfl), h.files]
  · rcases mem_putBy.1 hm with rfl | ⟨h1, h2⟩
    · exact he
    · exact (h.ents e h1).same (hk e h1 h2)
  · rcases mem_putBy.1 he with rfl | ⟨h1, h2⟩
    · rcases mem_putBy.1 hf with rfl | ⟨h3, h4⟩
      · exact absurd rfl hne
      · exact (ho f h3 h4).symm
    · rcases mem_putBy.1 hf with rfl | ⟨h3, h4⟩
      · exact ho e h1 h2
      · exact h.off e h1 f h3 hne
/-- A file is taken out. -/
theorem DriveAt.delE (h : DriveAt w b mb st Q) (n : Bs) (hm : MapAt Tryz.prog 9 w' mb (delBy (fun p : NB => p.1) n (Q.map Ent.nb))) (hk : ∀ k, k < w.heap.size → k ≠ mb → w'.heap[k]? = w.heap[k]?) :
    DriveAt w' b mb { st with files := del n st.files } (delBy Ent.key n Q) := by
  refine ⟨h.head.same (hk b h.head.lt h.map_ne_head.symm), ?_, ?_, fun e hm => ?_, fun e he f hf hne => h.off e (mem_delBy.1 he).1 f (mem_delBy.1 hf).1 hne⟩
  · rw [delBy_map (k' := fun p : NB => p.1) nb_name]; exact hm
  · show (delBy Ent.key n Q).map (·.fl) = del n st.files
    rw [del_by, delBy_map (k' := fun f : Fl => f.name) (fun _ => rfl), h.files]
  · have h1 := (mem_delBy.1 hm).1
    exact (h.ents e h1).same fun k hf => hk k ((h.ents e h1).lt k hf) (by rintro rfl; exact h.foot_ne_map h1 hf)
theorem DriveAt.find (h : DriveAt w b mb st Q) (n : Bs) : (findBy Ent.key n Q).map (·.fl) = find st.files n := by
  rw [find_by, findBy_map (k' := fun f : Fl => f.name) (fun _ => rfl), h.files]
theorem findM (n : Bs) (Q : List Ent) : findBy (fun p : NB => p.1) n (Q.map Ent.nb) = (findBy Ent.key n Q).map Ent.nb := by
  rw [findBy_map (k' := fun p : NB => p.1) nb_name]
theorem DriveAt.length (h : DriveAt w b mb st Q) : Q.length = st.files.length := by rw [← h.files, List.length_map]
end

/-! ### The plain list as a value -/
def fcells (f : Fl) : List Value := [.string ⟨f.name.toArray⟩, .string ⟨f.dat.toArray⟩, .int .i64 (f.syn : Int)]
def fv (l : List Fl) : List Value := l.flatMap fcells
theorem fv_length (l : List Fl) : (fv l).length = l.length * 3 := by
  induction l with
  | nil => rfl
  | cons a r ih => simp only [fv, List.flatMap_cons, List.length_append, List.length_cons] at ih ⊢; rw [ih]; simp [fcells]; omega
theorem fv_append (a c : List Fl) : fv (a ++ c) = fv a ++ fv c := by simp [fv]
theorem fv_one (f : Fl) : fv [f] = fcells f := by simp [fv]
theorem fv_at : ∀ {l : List Fl} {i : Nat} {f : Fl} (_ : l[i]? = some f) (j : Nat) (_ : j < 3), (fv l)[i * 3 + j]? = (fcells f)[j]?
  | [], _, _, hq, _, _ => absurd hq (by simp)
  | a :: r, 0, f, h, j, hj => by
    obtain rfl : a = f := by simpa using h
    simp only [fv, List.flatMap_cons]
    rw [List.getElem?_append_left (by simp [fcells]; omega)]
    simp
  | a :: r, i + 1, f, h, j, hj => by
    have ih := fv_at (l := r) (i := i) (f := f) (by simpa using h) j hj
    simp only [fv, List.flatMap_cons] at ih ⊢
    rw [List.getElem?_append_right (by simp [fcells]; omega), ← ih]
    congr 1
    simp [fcells]
    omega
theorem fv_cell1 (l : List Fl) : ∀ u ∈ fv l, u.oneCell' = true := by
  intro u hu
  obtain ⟨f, _, hf⟩ := List.mem_flatMap.1 hu
  simp only [fcells, List.mem_cons, List.not_mem_nil, or_false] at hf
  rcases hf with rfl | rfl | rfl <;> rfl

/-- THE SLICE v IS THE LIST l, in a row that lies in T. -/
def ListAt (w : World) (T : Nat → Prop) (v : Value) (l : List Fl) : Prop :=
  w.ownsRow 0 64 3 v l.length (fv l) ∧ (∀ k, v.ownBlock = some k → T k) ∧ ∀ k, T k → k < w.heap.size
def refV (v : Value) (st : St) : Value := .agg #[v, .int .i64 (st.steps : Int), .bool st.armed, .int .i64 (st.left : Int)]
def RefRep (w : World) (T : Nat → Prop) (v : Value) (st : St) : Prop := ∃ u, v = refV u st ∧ ListAt w T u st.files
section
variable {w w' : World} {v : Value} {st : St} {T T' : Nat → Prop} {l : List Fl}
theorem ListAt.same (h : ListAt w T v l) (hk : ∀ k, T k → w'.heap[k]? = w.heap[k]?) (hs : w.heap.size ≤ w'.heap.size) : ListAt w' T v l := by
  obtain ⟨h1, h2, h3⟩ := h
  exact ⟨own_same h1 fun k e => hk k (h2 k e), h2, fun k e => Nat.lt_of_lt_of_le (h3 k e) hs⟩
theorem ListAt.lt (h : ListAt w T v l) : ∀ k, T k → k < w.heap.size := h.2.2
theorem ListAt.below (h : ListAt w T v l) (hb : Below w.heap.size w w') : ListAt w' T v l := h.same (fun k e => hb.block k (h.lt k e)) hb.size
theorem ListAt.mod (h : ListAt w T v l) (hb : Mod T' w w') (ha : ∀ k, T k → ¬ T' k) : ListAt w' T v l := h.same (fun k e => hb.block k (h.lt k e) (ha k e)) hb.size
theorem ListAt.alloc (h : ListAt w T v l) (o : Obj) : ListAt (w.alloc o) T v l := h.below ((Below.refl _ _).alloc (Nat.le_refl _) o)
theorem ListAt.drewN (h : ListAt w T v l) (n : Nat) : ListAt (w.drewN n) T v l := h
theorem ListAt.nil (w : World) : ListAt w (fun _ => False) (.slice none 0 0) [] := ⟨World.ownsRow_nil w 0 _ 3, fun k h => by simp [Value.ownBlock] at h, fun _ h => h.elim⟩
theorem ListAt.more (h : ListAt w T v l) (hs : ∀ k, T k → T' k) (hl : ∀ k, T' k → k < w.heap.size) : ListAt w T' v l := ⟨h.1, fun k e => hs k (h.2.1 k e), hl⟩
theorem ListAt.shape (h : ListAt w T v l) : ∃ A c, v = .slice A l.length c ∧ l.length ≤ c ∧ c ≤ maxLen := by
  rcases h.1.2 with ⟨rfl, h0⟩ | ⟨g, cap, cur, rfl, _, _, h1, h2, _⟩
  · exact ⟨none, 0, by rw [h0], by omega, by simp [maxLen]⟩
  · exact ⟨_, cap, rfl, h1, h2⟩
/-- The cells of a file of the list. -/
theorem ListAt.file {A : Option Addr} {n c : Nat} (h : ListAt w T (.slice A n c) l) {i : Nat} {f : Fl} (hi : l[i]? = some f) :
    ∃ g, A = some ⟨g, 0, none⟩ ∧ g < w.heap.size ∧ w.cell? ⟨g, i * 3, none⟩ = some (.string ⟨f.name.toArray⟩) ∧ w.cell? ⟨g, i * 3 + 1, none⟩ = some (.string ⟨f.dat.toArray⟩) ∧ w.cell? ⟨g, i * 3 + 2, none⟩ = some (.int .i64 (f.syn : Int)) := by
  have hlt : i < l.length := (List.getElem?_eq_some_iff.1 hi).1
  rcases h.1.2 with ⟨_, h0⟩ | ⟨g, cap, cur, hv, _, hg, _⟩
  · omega
  · simp only [Value.slice.injEq] at hv
    obtain ⟨rfl, _, rfl⟩ := hv
    have hc := h.1.cells (g := g) rfl
    have ha : ∀ j, (⟨g, 0, none⟩ : Addr).add j = ⟨g, j, none⟩ := fun j => by unfold Addr.add; split <;> simp_all
    refine ⟨g, rfl, (Array.getElem?_eq_some_iff.1 hg).1, ?_, ?_, ?_⟩
    · rw [← ha]; exact hc _ _ (by have := fv_at hi 0 (by omega); rw [Nat.add_zero] at this; rw [this]; rfl)
    · rw [← ha]; exact hc _ _ (by rw [fv_at hi 1 (by omega)]; rfl)
    · rw [← ha]; exact hc _ _ (by rw [fv_at hi 2 (by omega)]; rfl)
theorem RefRep.same (h : RefRep w T v st) (hk : ∀ k, T k → w'.heap[k]? = w.heap[k]?) (hs : w.heap.size ≤ w'.heap.size) : RefRep w' T v st := let ⟨u, h1, h2⟩ := h; ⟨u, h1, h2.same hk hs⟩
theorem RefRep.lt (h : RefRep w T v st) : ∀ k, T k → k < w.heap.size := let ⟨_, _, h2⟩ := h; h2.lt
theorem RefRep.below (h : RefRep w T v st) (hb : Below w.heap.size w w') : RefRep w' T v st := let ⟨u, h1, h2⟩ := h; ⟨u, h1, h2.below hb⟩
theorem RefRep.mod (h : RefRep w T v st) (hb : Mod T' w w') (ha : ∀ k, T k → ¬ T' k) : RefRep w' T v st := let ⟨u, h1, h2⟩ := h; ⟨u, h1, h2.mod hb ha⟩
theorem RefRep.alloc (h : RefRep w T v st) (o : Obj) : RefRep (w.alloc o) T v st := let ⟨u, h1, h2⟩ := h; ⟨u, h1, h2.alloc o⟩
theorem RefRep.drewN (h : RefRep w T v st) (n : Nat) : RefRep (w.drewN n) T v st := h
theorem RefRep.more (h : RefRep w T v st) (hs : ∀ k, T k → T' k) (hl : ∀ k, T' k → k < w.heap.size) : RefRep w T' v st := let ⟨u, h1, h2⟩ := h; ⟨u, h1, h2.more hs hl⟩
end
end Dr
end Go.Proofs.YtbfmjonabndhaaaGreatDoor
