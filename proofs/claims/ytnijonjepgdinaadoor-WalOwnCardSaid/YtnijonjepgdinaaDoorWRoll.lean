/-
  WHAT IS PROVED: what a log's Roll does. CONDITIONS: the log and its drive are newer than a world in which the library's variables lie as laid.
-/
import Derived.Test.YtnijonjepgdinaaDoorWSync
namespace Go.Proofs.YtnijonjepgdinaaDoor
open Go Go.RowKit Go.Maps Go.Proofs.YtnijonjepgdinaaDoor.Fr Go.Proofs.YtnijonjepgdinaaDoor.Dr
namespace Wl

/-- What Roll does: the log's number, dead or not, the drive; the two answers. -/
def lroll (g : Int) (dead : Bool) (st : St) : (Int × Bool × St) × Int × Nat :=
  if (lsync g dead st).2.2 = 0 then ((min (g + 1) 1000000, (lsync g dead st).1, (lsync g dead st).2.1), min (g + 1) 1000000, 0)
  else ((g, (lsync g dead st).1, (lsync g dead st).2.1), 0, (lsync g dead st).2.2)
def LRollRet (w0 : World) (X : Nat → Prop) (b d : Nat) (p : (Int × Bool × St) × Int × Nat) (w : World) (e : Ending) (w' : World) : Prop :=
  e = .returned (.tuple #[.int .i64 p.2.1, .int .i64 (p.2.2 : Int)]) ∧ LS w0 w' X b d p.1.1 p.1.2.1 p.1.2.2 ∧ ∀ k, X k → w'.heap[k]? = w.heap[k]?
section
variable {w0 w : World} {X : Nat → Prop} {b d B : Nat} {g : Int} {dead : Bool} {st : St}
set_option maxHeartbeats 800000 in
theorem lroll_any (h : LS w0 w X b d g dead st) (hL : Lb B w0) (hok : st.Ok) (hst : st.steps + 1 ≤ 9223372036854775807) (hg1 : 1 ≤ g) (hg2 : g ≤ 1000000) :
    Calls Tryd.prog 28 #[.pointer (some ⟨b, 0, none⟩)] w (LRollRet w0 X b d (lroll g dead st) w) := by
  have HS := Lib.hid (lsync_any h hL hok hst)
  unfold lroll
  obtain ⟨p, hp⟩ : ∃ p, p = lsync g dead st := ⟨_, rfl⟩
  rw [← hp] at HS ⊢
  obtain ⟨dead', st', k⟩ := p
  have e5 : wrap64 (g + 1) = g + 1 := by unfold wrap64; omega
  clear hp h hL hok hst
  simp only
  by_cases hk : k = 0
  · subst hk
    rw [if_pos rfl]
    go_enter Tryd.func28, Tryd.ntmps28
    go_wp2_with (go_at_call 22; ((with_reducible refine HS.out.mono ?_); rintro e w2 ⟨rfl, h2, hb2⟩; have q1 := h2.c1; have q3 := h2.f1; have q4 := (h2.log.set1 (min (g + 1) 1000000)).c1; have H2 := Lib.hid h2; clear h2))
    go_ret2
    have h3 := H2.out.set 1 (.int .i64 (min (g + 1) 1000000)) (H2.out.log.set1 _)
    exact ⟨rfl, h3.1, fun x hx => (h3.2 x hx).trans (hb2 x hx)⟩
  · rw [if_neg hk]
    have e1 : ((k : Int) == 0) = false := by rw [beq_eq_false_iff_ne]; omega
    go_enter Tryd.func28, Tryd.ntmps28
    go_wp2_with (go_at_call 22; ((with_reducible refine HS.out.mono ?_); rintro e w2 ⟨rfl, h2, hb2⟩; have H2 := Lib.hid h2; clear h2))
    go_ret2
    exact ⟨rfl, H2.out, hb2⟩
end

end Wl
end Go.Proofs.YtnijonjepgdinaaDoor
