/-
  WHAT IS PROVED: (1) a region that draws its order and ends with one store: what is held through it need not outlive the store, where the store waits for whatever leans on what is held. CONDITIONS: those that each lemma names.
-/
import Derived.Test.YtadlhnjnhllpfaaDoorQBRnd
namespace Go.Proofs.YtadlhnjnhllpfaaDoor
open Go Go.RowKit
namespace Ss
section
variable {P : Program} {ops : Array Oper} {Q : Exit → Act → World → Prop} {md : Region.Mode} {S : World → Prop} {z : Nat}
/-- Whatever order is picked: S is owed behind each operation but number z. -/
def wpAnyZ (P : Program) (md : Region.Mode) (ops : Array Oper) (Q : Exit → Act → World → Prop) (S : World → Prop) (z : Nat) : Nat → Array Bool → Act → World → Prop
  | 0, L, a, w => Region.ready md ops L = [] ∧ Q .normal a w
  | k + 1, L, a, w => (Region.ready md ops L = [] → Q .normal a w) ∧ ∀ i ∈ Region.ready md ops L, wpOp P ops Q i (fun b v => (i ≠ z → S v) ∧ wpAnyZ P md ops Q S z k (L.setIfInBounds i true) b v) a w
theorem any_of_z : ∀ (k : Nat) (L : Array Bool) (a : Act) (w : World), wpAnyZ P md ops Q S z k L a w → wpAny P md ops Q k L a w
  | 0, _, _, _, h => h
  | k + 1, _, _, _, h => ⟨h.1, fun i hi => wpOp_mono (fun b v hv => any_of_z k _ b v hv.2) (h.2 i hi)⟩
theorem no_both {L : Array Bool} {k : Nat} (h : L.getD k true = false) (h2 : L.getD k false = true) : False := by
  by_cases hk : k < L.size
  · simp [hk] at h h2
    rw [h] at h2
    cases h2
  · simp [Array.getElem?_eq_none (Nat.le_of_not_lt hk)] at h
/-- Does number b wait for one of B? -/
def waits (md : Region.Mode) (ops : Array Oper) (B : List Nat) (b : Nat) : Bool := (ops[b]?.map fun o => o.after.any fun e => Region.binds md e && B.contains e.on).getD false
theorem waits_spec {B : List Nat} {b : Nat} (h : waits md ops B b = true) : ∃ o e, ops[b]? = some o ∧ e ∈ o.after ∧ Region.binds md e = true ∧ e.on ∈ B := by
  unfold waits at h
  cases ho : ops[b]? with
  | none => rw [ho] at h; simp at h
  | some o =>
    rw [ho] at h
    simp only [Option.map_some, Option.getD_some, Array.any_eq_true'] at h
    obtain ⟨e, he, h2⟩ := h
    simp only [Bool.and_eq_true, List.contains_iff_mem] at h2
    exact ⟨o, e, rfl, he, h2.1, h2.2⟩
/-- What waits for number i, step by step. -/
def reach (md : Region.Mode) (ops : Array Oper) : Nat → List Nat → List Nat
  | 0, B => B
  | k + 1, B => reach md ops k (B ++ (List.range ops.size).filter fun b => !B.contains b && waits md ops B b)
def holdsOff (md : Region.Mode) (ops : Array Oper) (L : Array Bool) (i z : Nat) (B : List Nat) : Bool := B.contains z && B.all (fun b => !L.getD b true) && B.all (fun b => b == i || waits md ops B b)
theorem z_first {i : Nat} {oi : Oper} {v : Value} {B : List Nat} (hi : ops[i]? = some oi) (hsel : ∀ (j : Nat) (o : Oper) cs b, ops[j]? = some o → o.op ≠ .select cs b)
    (hQ : ∀ c a w, Q (.panic c) (a.put oi.dst v) w → Q (.panic c) a w) (hz : z ∈ B) (hw : ∀ b ∈ B, b ≠ i → waits md ops B b = true) :
    ∀ (k : Nat) (L : Array Bool) (a : Act) (w : World), (∀ b ∈ B, L.getD b true = false) →
      (∀ j oj, ops[j]? = some oj → j ≠ i → L.getD j true = false → (∀ e ∈ oj.after, Region.binds md e = true → e.on ≠ i) → oi.apart ops oj = true) →
      i ∈ Region.ready md ops L → YieldsIf P ops S oi v a → S w → wpAnyZ P md ops Q S z k (L.setIfInBounds i true) (a.put oi.dst v) w → wpAnyZ P md ops Q S z (k + 1) L a w
  | 0, L, a, w, _, _, hr, hy, hS, H => by
    refine ⟨fun e => absurd hr (by rw [e]; exact List.not_mem_nil), fun j hj => ?_⟩
    rcases Nat.decEq j i with hji | hji
    · have := ready_mono hj hji
      rw [H.1] at this
      exact absurd this List.not_mem_nil
    · subst hji
      exact hy.wpOp hi hS ⟨fun _ => hS, H⟩
  | k + 1, L, a, w, hB, hfree, hr, hy, hS, H => by
    refine ⟨fun e => absurd hr (by rw [e]; exact List.not_mem_nil), fun j hj => ?_⟩
    rcases Nat.decEq j i with hji | hji
    · obtain ⟨hun, oj, hoj, hall⟩ := mem_ready.1 hj
      have hjB : j ∉ B := fun hm => by
        obtain ⟨o, e, ho, he, hb, hon⟩ := waits_spec (hw j hm hji)
        rw [hoj] at ho
        cases ho
        exact no_both (hB _ hon) (hall e he hb)
      have hno : ∀ e ∈ oj.after, Region.binds md e = true → e.on ≠ i := fun e he hb e' => no_both (mem_ready.1 hr).1 (e' ▸ hall e he hb)
      refine wpOp_mono (fun b u hu => ⟨hu.2.1, z_first hi hsel hQ hz hw k _ b u (fun x hx => ?_) (fun m om hm hmi hmu hmn => ?_) (ready_mono hr (Ne.symm hji)) hu.1 (hu.2.1 fun e => hjB (e ▸ hz)) ?_⟩)
        (wpOp_putIf hoj (hfree j oj hoj hji hun hno) (fun cs b => hsel i oi cs b hi) (fun cs b => hsel j oj cs b hoj) hQ hy (H.2 j (ready_mono hj hji)))
      · rw [getD_set_ne true (fun e : j = x => hjB (by rw [e]; exact hx))]
        exact hB x hx
      · refine hfree m om hm hmi ?_ hmn
        rcases Nat.decEq j m with h1 | h1
        · rwa [getD_set_ne true h1] at hmu
        · exact h1 ▸ hun
      · rw [Array.setIfInBounds_comm _ _ hji]
        exact hu.2.2
    · subst hji
      exact hy.wpOp hi hS ⟨fun _ => hS, H⟩
theorem z_take {i : Nat} {oi : Oper} {v : Value} {k : Nat} {L : Array Bool} {a : Act} {w : World} (hi : ops[i]? = some oi)
    (hs : Region.noSelect ops = true) (hf : Region.free md ops L i = true) (hr : (Region.ready md ops L).contains i = true) (hb : holdsOff md ops L i z (reach md ops ops.size [i]) = true)
    (hQ : ∀ c a w, Q (.panic c) (a.put oi.dst v) w → Q (.panic c) a w) (hy : YieldsIf P ops S oi v a) (hS : S w)
    (h : wpAnyZ P md ops Q S z k (L.setIfInBounds i true) (a.put oi.dst v) w) : wpAnyZ P md ops Q S z (k + 1) L a w := by
  unfold holdsOff at hb
  simp only [Bool.and_eq_true, List.all_eq_true, Bool.not_eq_true', Bool.or_eq_true, beq_iff_eq, List.contains_iff_mem] at hb
  exact z_first hi (Region.noSelect_spec hs) hQ hb.1.1 (fun b hm hne => (hb.2 b hm).resolve_left hne) k L a w hb.1.2 (Region.free_spec hi hf) (by simpa using hr) hy hS h
/-- Each of these comes up next. -/
def AllZ (P : Program) (md : Region.Mode) (ops : Array Oper) (Q : Exit → Act → World → Prop) (S : World → Prop) (z k : Nat) (L : Array Bool) (a : Act) (w : World) (rs : List Nat) : Prop :=
  ∀ i ∈ rs, wpOp P ops Q i (fun b v => (i ≠ z → S v) ∧ wpAnyZ P md ops Q S z k (L.setIfInBounds i true) b v) a w
theorem AllZ.nil {k : Nat} {L : Array Bool} {a : Act} {w : World} : AllZ P md ops Q S z k L a w [] := fun _ hi => absurd hi List.not_mem_nil
theorem AllZ.cons {k : Nat} {L : Array Bool} {a : Act} {w : World} {i : Nat} {o : Oper} {rs : List Nat} (ho : ops[i]? = some o)
    (h : ∀ K' : Act → World → Prop, Shut (∀ a w, (i ≠ z → S w) → ((i ≠ z → S w) → wpAnyZ P md ops Q S z k (L.setIfInBounds i true) a w) → K' a w) → if Region.wanted o (yielded ops a.tmps) = true then Oper.wp P o a w K' Q else K' (a.put o.dst undef) w)
    (hs : AllZ P md ops Q S z k L a w rs) : AllZ P md ops Q S z k L a w (i :: rs) := fun j hj => by
  rcases List.mem_cons.1 hj with hji | hj
  · subst hji
    exact wpOp_step ho fun K' hK => h K' fun a w h1 h2 => hK a w ⟨h1, h2 h1⟩
  · exact hs j hj
theorem z_ready {rs : List Nat} {k : Nat} {L : Array Bool} {a : Act} {w : World} (hr : Region.ready md ops L = rs) (hne : rs ≠ []) (h : AllZ P md ops Q S z k L a w rs) : wpAnyZ P md ops Q S z (k + 1) L a w :=
  ⟨fun e => absurd (hr.symm.trans e) hne, fun i hi => h i (hr ▸ hi)⟩
theorem z_done {L : Array Bool} {a : Act} {w : World} (hr : Region.ready md ops L = []) (h : Q .normal a w) : ∀ k, wpAnyZ P md ops Q S z k L a w
  | 0 => ⟨hr, h⟩
  | _ + 1 => ⟨fun _ => h, fun _ hi => absurd (hr ▸ hi) List.not_mem_nil⟩
/-- THE REGION, walked as one. -/
theorem region_z {id : Nat} {a : Act} {w : World} (hm : P.follows .mixedOrders = true) (hS : S w.drew)
    (h : S w.drew → wpAnyZ P .any ops Q S z ops.size (Array.replicate ops.size false) a w.drew) : (Code.region id ops true).wp P Q a w := wp_region_any hm (any_of_z _ _ _ _ (h hS))
/-- THE REGION, in a round of a loop over a function. -/
theorem round_z {l n id : Nat} {a : Act} {w : World} (hm : P.follows .mixedOrders = true) (hd : Bl.noDefer ops = true) (hS : S w.drew)
    (h : S w.drew → wpAnyZ P .any ops (Bl.OnlyNormal Q) S z ops.size (Array.replicate ops.size false) a w.drew) : (Code.region id ops true).wpIn (Fence.wide.inRound l) n P Q a w :=
  wpIn_region_any hm (Bl.anyIn_round hd _ _ _ _ (any_of_z _ _ _ _ (h hS)))
end
end Ss
end Go.Proofs.YtadlhnjnhllpfaaDoor
