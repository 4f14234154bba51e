/-
  WHAT IS PROVED: (1) a region that draws its order, inside a round of a loop over a function: what holds of it outside holds in the round, if no operation of it defers. CONDITIONS: those that the lemma names.
-/
import Derived.Test.YtadlhnjnhllpfaaDoorProg
import Derived.OrdersHeld
import Derived.OrdersIn
import Derived.ControlIn
import Derived.TacticsIn
import Derived.RangeFuncCalls
import Derived.Deep.RegionHeld3
namespace Go.Proofs.YtadlhnjnhllpfaaDoor
open Go Go.RowKit
namespace Bl
/-- The post at its normal end alone. -/
def OnlyNormal (Q : Exit → Act → World → Prop) : Exit → Act → World → Prop
  | .normal, a, w => Q .normal a w
  | _, _, _ => False
def noDefer (ops : Array Oper) : Bool := ops.all fun o => match o.op with | .defer _ => false | _ => true
section
variable {P : Program} {ops : Array Oper} {Q : Exit → Act → World → Prop} {l n : Nat}
theorem letsOut_no : ¬ LetsOut (OnlyNormal Q) := fun ⟨_, _, h⟩ => h
theorem rows_round {row : String} {args : Array Value} {w : World} {R : Value → World → Prop} (h : Rows P row args w R) : RowsIn (Fence.wide.inRound l) n P row args w R :=
  fun c cs _ => let ⟨v, w', r, s⟩ := h c cs; ⟨v, w', r, stepsIn_wide.2 s⟩
theorem upon_round {o : Oper} {a : Act} {K : Act → World → Prop} (r : Result Next) (h : o.upon P a K (OnlyNormal Q) r) : o.uponIn (Fence.wide.inRound l) n P a K Q r := by
  cases r with
  | ok x w =>
    cases x with
    | enter f args =>
      refine ⟨fun h => by simp [Fence.inRound, Fence.wide] at h, CallsIn.inRound l (callsIn_wide.2 (Calls.mono h fun e w' h' => ?_))⟩
      cases e with
      | returned v => exact h'
      | panicked c => exact (h' : False).elim
      | outgrown => exact (letsOut_no h').elim
    | row row args => exact ⟨fun h => by simp [Fence.inRound, Fence.wide] at h, rows_round h⟩
    | value v => exact h
    | skip => exact h
    | defer d => exact h
    | _ => exact (h : False).elim
  | halt x w => cases x <;> exact (h : False).elim
theorem opIn_round (hd : noDefer ops = true) {i : Nat} {K : Act → World → Prop} {a : Act} {w : World} (h : wpOp P ops (OnlyNormal Q) i K a w) : wpOpIn (Fence.wide.inRound l) n P ops Q i K a w := by
  unfold wpOp at h
  unfold wpOpIn
  cases ho : ops[i]? with
  | none => simp only [ho] at h ⊢; exact h
  | some o =>
    simp only [ho] at h ⊢
    split
    · rename_i hw
      rw [if_pos hw] at h
      rcases h with h | ⟨_, h⟩
      · refine ⟨fun _ _ => trivial, ?_⟩
        have hnd : ∀ c, o.op ≠ .defer c := fun c hc => by
          unfold noDefer at hd
          rw [Array.all_eq_true'] at hd
          have := hd o (Array.mem_of_getElem? ho)
          rw [hc] at this
          cases this
        rw [show (Fence.wide.inRound l).round = some l from rfl, Oper.semAt_some l _ o hnd]
        exact upon_round _ h
      · exact (letsOut_no h).elim
    · rename_i hw
      rw [if_neg hw] at h
      exact ⟨fun _ _ => trivial, h⟩
theorem anyIn_round (hd : noDefer ops = true) {md : Region.Mode} : ∀ (fuel : Nat) (listed : Array Bool) (a : Act) (w : World), wpAny P md ops (OnlyNormal Q) fuel listed a w → wpAnyIn (Fence.wide.inRound l) n P md ops Q fuel listed a w
  | 0, _, _, _, h => h
  | fuel + 1, _, _, _, h => ⟨h.1, fun i hi => wpOpIn_mono (fun a w h' => anyIn_round hd fuel _ a w h') (opIn_round hd (h.2 i hi))⟩
/-- THE REGION IN A ROUND. -/
theorem region_round {S : World → Prop} {id : Nat} {a : Act} {w : World} (hm : P.follows .mixedOrders = true) (hd : noDefer ops = true) (hS : S w.drew)
    (h : S w.drew → wpAnyH P .any ops (OnlyNormal Q) S ops.size (Array.replicate ops.size false) a w.drew) : (Code.region id ops true).wpIn (Fence.wide.inRound l) n P Q a w :=
  wpIn_region_any hm (anyIn_round hd _ _ _ _ (wpAny_of_held _ _ _ _ (h hS)))
end
end Bl
end Go.Proofs.YtadlhnjnhllpfaaDoor
