/-
  WHAT IS PROVED: a map from names to pointers, as a rising list of names and blocks: what it answers, and what a store and a deletion leave. NO CONDITION beside those that each lemma names.
-/
import Derived.Maps.OwnSet
import Derived.StringKeys
import Derived.Test.YtnijonjepgdinaaDoorMem
import Derived.Test.YtnijonjepgdinaaDoorDPlain
namespace Go.Proofs.YtnijonjepgdinaaDoor
open Go Go.RowKit Go.Maps Go.Proofs.YtnijonjepgdinaaDoor.Fr
open Go.WideMaps (keyOf_string_mk)
namespace Dr

/-- How a pointer in a map reads: by its block. -/
def ptrElem : Value → Option (DataW Unit × List MemPlace)
  | .pointer none => some (.lit (.int .i64 (-1)), [])
  | .pointer (some ⟨b, 0, none⟩) => some (.lit (.int .i64 (b : Int)), [])
  | _ => none
theorem ptrElem_inv {v : Value} {b : Nat} {ps : List MemPlace} (h : ptrElem v = some (.lit (.int .i64 (b : Int)), ps)) : v = .pointer (some ⟨b, 0, none⟩) := by
  unfold ptrElem at h
  split at h
  · simp only [Option.some.injEq, Prod.mk.injEq, DataW.lit.injEq, Lit.int.injEq, true_and] at h
    omega
  · simp only [Option.some.injEq, Prod.mk.injEq, DataW.lit.injEq, Lit.int.injEq, true_and] at h
    obtain ⟨h, _⟩ := h
    have : _ = b := Int.ofNat.inj h
    rw [this]
  · cases h
theorem ptrElem_nil_inv {v : Value} {ps : List MemPlace} (h : ptrElem v = some (.lit (.int .i64 (-1)), ps)) : v = .pointer none := by
  unfold ptrElem at h
  split at h
  · rfl
  · simp only [Option.some.injEq, Prod.mk.injEq, DataW.lit.injEq, Lit.int.injEq, true_and] at h
    omega
  · cases h

abbrev NB := Bs × Nat
def entM (p : NB) : Lit × DataW Unit := (.string p.1, .lit (.int .i64 (p.2 : Int)))
def datM (L : List NB) : DataW Unit := .map (L.map entM)
def ptrOf : Option NB → Value
  | some p => .pointer (some ⟨p.2, 0, none⟩)
  | none => .pointer none

theorem find_entM (n : Bs) : ∀ L : List NB, (L.map entM).find? (fun p => p.1.sameKey (.string n)) = (findBy (·.1) n L).map entM
  | [] => rfl
  | a :: r => by
    have ih := find_entM n r
    unfold findBy at ih ⊢
    rw [List.map_cons, List.find?_cons, List.find?_cons]
    have e : (entM a).1.sameKey (.string n) = decide (a.1 = n) := by
      show (a.1 == n) = _
      rw [Bool.eq_iff_iff]
      simp
    rw [e]
    by_cases h : a.1 = n
    · simp [h]
    · simp only [h, decide_false]
      exact ih
theorem atKey_datM (n : Bs) (L : List NB) (z : DataW Unit) : (datM L).atKey (.string n) z = match findBy (·.1) n L with | some p => .lit (.int .i64 (p.2 : Int)) | none => z := by
  unfold datM DataW.atKey
  dsimp only
  rw [find_entM]
  cases findBy (·.1) n L <;> rfl
theorem filter_entM (n : Bs) (L : List NB) : (L.map entM).filter (fun p => !p.1.sameKey (.string n)) = (delBy (·.1) n L).map entM := by
  unfold delBy
  rw [List.filter_map]
  congr 2
  funext a
  show (!(a.1 == n)) = _
  rw [Bool.eq_iff_iff]
  simp
theorem insert_entM (x : NB) : ∀ L : List NB, RisingBy (·.1) L → (∀ p ∈ L, p.1 ≠ x.1) → DataW.insert (entM x) (L.map entM) = (putBy (·.1) x L).map entM
  | [], _, _ => by simp [DataW.insert, putBy]
  | a :: r, hr, hn => by
    obtain ⟨h1, h2⟩ := List.pairwise_cons.1 hr
    have hb : (entM x).1.before (entM a).1 = decide (x.1 < a.1) := by
      show bytesBefore x.1 a.1 = _
      rw [bb_eq]
    rw [List.map_cons, DataW.insert, hb]
    by_cases h : x.1 < a.1
    · have e1 : (r.filter fun g => decide (g.1 < x.1)) = [] := by
        rw [List.filter_eq_nil_iff]; intro y hy; simpa using lt_asymm (lt_trans h (h1 y hy))
      have e2 : (r.filter fun g => decide (x.1 < g.1)) = r := by
        rw [List.filter_eq_self]; intro y hy; simpa using lt_trans h (h1 y hy)
      have h' := lt_asymm h
      unfold putBy
      simp only [List.filter_cons, h, h', e1, e2, decide_true, decide_false, if_true, if_false, Bool.false_eq_true, List.nil_append, List.map_cons]
    · have h' : a.1 < x.1 := by
        rcases lt_total a.1 x.1 with k | k | k
        · exact k
        · exact absurd k (hn a (by simp))
        · exact absurd k h
      have ih := insert_entM x r h2 fun p hp => hn p (by simp [hp])
      rw [ih]
      unfold putBy
      simp only [List.filter_cons, h, h', decide_true, decide_false, if_true, if_false, Bool.false_eq_true, List.cons_append, List.map_cons]
theorem put_datM (x : NB) {L : List NB} (hr : RisingBy (·.1) L) : (datM L).put (.string x.1) (.lit (.int .i64 (x.2 : Int))) = datM (putBy (·.1) x L) := by
  have e : (datM L).put (.string x.1) (.lit (.int .i64 (x.2 : Int))) = .map (DataW.insert (entM x) ((L.map entM).filter fun p => !p.1.sameKey (.string x.1))) := rfl
  rw [e, filter_entM, insert_entM x _ (hr.del _) (fun p hp => (mem_delBy.1 hp).2), putBy_del]
  rfl
theorem del_datM (n : Bs) (L : List NB) : (datM L).del (.string n) = datM (delBy (·.1) n L) := by
  have e : (datM L).del (.string n) = .map ((L.map entM).filter fun p => !p.1.sameKey (.string n)) := rfl
  rw [e, filter_entM]
  rfl
theorem strKeys_datM (L : List NB) : strKeys (datM L) = L.map (·.1) := by
  show (L.map entM).map (fun p => strOf p.1) = _
  rw [List.map_map]
  rfl
theorem size_datM (L : List NB) : Maps.size (datM L) = L.length := by simp [Maps.size, datM]

/-- BLOCK b IS A MAP THAT HOLDS L. -/
structure MapAt (P : Program) (K : TypeId) (w : World) (b : Nat) (L : List NB) : Prop where
  owns : w.ownsMap P K ptrElem b L.length (datM L)
  rising : RisingBy (·.1) L

section
variable {P : Program} {K E T : TypeId} {w : World} {b : Nat} {L : List NB}
theorem tight {n : Nat} {D : DataW Unit} {R : Value → Option (DataW Unit × List MemPlace)} (h : w.ownsMap P K R b n D) : w.ownsMap P K R b (Maps.size D) D := by
  obtain ⟨es, clock, hb, F, _, rfl⟩ := h
  exact ⟨es, clock, hb, F, by simp [Maps.size, length_sorted], rfl⟩
theorem MapAt.made (P : Program) (K : TypeId) (w : World) : MapAt P K (w.alloc (.map #[] 0)) w.heap.size [] :=
  ⟨World.ownsMap_made w P K ptrElem, List.Pairwise.nil⟩
theorem MapAt.lt (h : MapAt P K w b L) : b < w.heap.size := h.owns.lt
theorem MapAt.same {w' : World} (h : MapAt P K w b L) (hb : w'.heap[b]? = w.heap[b]?) : MapAt P K w' b L := by
  obtain ⟨⟨es, clock, h0, r⟩, hr⟩ := h
  exact ⟨⟨es, clock, hb.trans h0, r⟩, hr⟩
theorem MapAt.alloc (h : MapAt P K w b L) (o : Obj) : MapAt P K (w.alloc o) b L := h.same (Below.heap_alloc w o b h.lt)
theorem MapAt.not_cells (h : MapAt P K w b L) {cs : Array Value} {t : TypeId} {fr : Nat × Nat} : w.heap[b]? ≠ some (.cells cs t fr) := by
  obtain ⟨⟨es, clock, h0, _⟩, _⟩ := h
  rw [h0]
  simp
theorem MapAt.look (h : MapAt P K w b L) (hK : P.underlying K = some .string) (hT : P.underlying T = some (.map K E)) (hz : (zeroValue E).run P w = .ok (.pointer none) w) {s : ByteArray} (hs : s.size ≤ maxLen) :
    (Instr.lookup T (.map (some b)) (.string s) false).run P w = .ok (ptrOf (findBy (·.1) s.data.toList L)) w := by
  obtain ⟨v, ps, hrun, hv⟩ := h.owns.lookup (string_keyed hK) hT hz (zd := .lit (.int .i64 (-1))) (zp := []) rfl (keyOf_string_mk hK hs)
  rw [hrun]
  rw [atKey_datM] at hv
  cases e : findBy (·.1) s.data.toList L with
  | none => rw [e] at hv; rw [ptrElem_nil_inv hv]; rfl
  | some p => rw [e] at hv; rw [ptrElem_inv hv]; rfl
theorem MapAt.len (h : MapAt P K w b L) (hT : P.underlying T = some (.map K E)) (ty : TypeId) : (Builtin.len_ #[T] ty #[.map (some b)]).run P w = .ok (.int .i64 L.length) w := by
  have := h.owns.len hT ty
  rw [size_datM] at this
  exact this
theorem MapAt.store (h : MapAt P K w b L) (hK : P.underlying K = some .string) (hT : P.underlying T = some (.map K E)) (hn : L.length < maxLen) {s : ByteArray} (hs : s.size ≤ maxLen) (g : Nat) :
    ∃ w', (Instr.mapUpdate T (.map (some b)) (.string s) (.pointer (some ⟨g, 0, none⟩))).run P w = .ok () w' ∧ MapAt P K w' b (putBy (·.1) (s.data.toList, g) L) ∧ w.grownBy w' (some b) ∧ w'.heap.size = w.heap.size := by
  obtain ⟨w', hrun, ho, ht⟩ := h.owns.store (string_keyed hK) hT hn (keyOf_string_mk hK hs) (val := .pointer (some ⟨g, 0, none⟩)) (d := .lit (.int .i64 (g : Int))) (ps := []) rfl
  have e := put_datM (s.data.toList, g) h.rising
  dsimp only at e
  rw [e] at ho
  have := tight ho
  rw [size_datM] at this
  refine ⟨w', hrun, ⟨this, h.rising.put _⟩, ht.grown, ?_⟩
  obtain ⟨_, _, _, _, _, rfl⟩ := ht
  simp [ChangeMaps.setBlock]
theorem MapAt.drop (h : MapAt P K w b L) (hK : P.underlying K = some .string) (hT : P.underlying T = some (.map K E)) {s : ByteArray} (hs : s.size ≤ maxLen) (ty : TypeId) :
    ∃ w', (Builtin.delete_ #[T, K] ty #[.map (some b), .string s]).run P w = .ok (.tuple #[]) w' ∧ MapAt P K w' b (delBy (·.1) s.data.toList L) ∧ w.grownBy w' (some b) ∧ w'.heap.size = w.heap.size := by
  obtain ⟨w', hrun, ho, ht⟩ := h.owns.drop (string_keyed hK) hT (keyOf_string_mk hK hs) ty
  rw [del_datM] at ho
  have := tight ho
  rw [size_datM] at this
  refine ⟨w', hrun, ⟨this, h.rising.del _⟩, ht.grown, ?_⟩
  obtain ⟨_, _, _, _, _, rfl⟩ := ht
  simp [ChangeMaps.setBlock]
end

/-! ### At the operation, for the walk -/
section
variable {P : Program} (w : World) {ops : Array Oper} {rest : List Oper} {o : Oper} {a : Act} {Q : Exit → Act → World → Prop} {K E T : TypeId} {b : Nat} {L : List NB}
theorem wpList_look (hg : o.guard = none) (m x : Operand) (t : TypeId) (hop : o.op = Op.lookup t m x false) (hm : a.eval m = .map (some b)) (h : MapAt P K w b L) (hK : P.underlying K = some .string) (hT : P.underlying t = some (.map K E)) (hz : (zeroValue E).run P w = .ok (.pointer none) w)
    (s : ByteArray) (hx : a.eval x = .string s) (hs : s.size ≤ maxLen) (v : Value) (hv : ptrOf (findBy (·.1) s.data.toList L) = v)
    (hK' : wpList P ops Q rest (a.put o.dst v) w) : wpList P ops Q (o :: rest) a w := by
  subst hv
  refine wpList_plain hg fun _ hKK => ?_
  have hrun := h.look hK hT hz hs
  unfold Oper.wp
  simp only [execOp, hop, hm, hx, hrun, Sem.run_bind, Result.andThen_ok]
  exact hKK _ _ hK'
theorem wpList_mstore (hg : o.guard = none) (m x v : Operand) (t : TypeId) (hop : o.op = Op.mapUpdate t m x v) (hm : a.eval m = .map (some b)) (h : MapAt P K w b L) (hK : P.underlying K = some .string) (hT : P.underlying t = some (.map K E)) (hn : L.length < maxLen)
    (s : ByteArray) (hx : a.eval x = .string s) (hs : s.size ≤ maxLen) (g : Nat) (hv : a.eval v = .pointer (some ⟨g, 0, none⟩))
    (hK' : ∀ w', MapAt P K w' b (putBy (·.1) (s.data.toList, g) L) → w.grownBy w' (some b) → w'.heap.size = w.heap.size → wpList P ops Q rest (a.put o.dst undef) w') : wpList P ops Q (o :: rest) a w := by
  refine wpList_plain hg fun _ hKK => ?_
  obtain ⟨w', hrun, h1, h2, h3⟩ := h.store hK hT hn hs g
  unfold Oper.wp
  simp [execOp, hop, hm, hx, hv, hrun, Result.andThen]
  exact hKK _ _ (hK' w' h1 h2 h3)
theorem wpList_mdrop (hg : o.guard = none) (m x : Operand) (t k : TypeId) (hop : o.op = Op.call { callee := Callee.builtin Builtin.delete, args := #[m, x], argTypes := #[t, k] }) (hm : a.eval m = .map (some b)) (h : MapAt P k w b L) (hK : P.underlying k = some .string) (hT : P.underlying t = some (.map k E))
    (s : ByteArray) (hx : a.eval x = .string s) (hs : s.size ≤ maxLen)
    (hK' : ∀ w', MapAt P k w' b (delBy (·.1) s.data.toList L) → w.grownBy w' (some b) → w'.heap.size = w.heap.size → wpList P ops Q rest (a.put o.dst (.tuple #[])) w') : wpList P ops Q (o :: rest) a w := by
  refine wpList_plain hg fun _ hKK => ?_
  obtain ⟨w', hrun, h1, h2, h3⟩ := h.drop hK hT hs o.type
  unfold Oper.wp
  simp [execOp, hop, resolve, invoke, builtin, hm, hx, hrun, Result.andThen]
  exact hKK _ _ (hK' w' h1 h2 h3)
end
end Dr
end Go.Proofs.YtnijonjepgdinaaDoor
