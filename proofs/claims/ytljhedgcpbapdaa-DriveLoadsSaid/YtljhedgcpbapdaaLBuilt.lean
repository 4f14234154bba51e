/-
  WHAT IS PROVED: what the law's 'play' and 'built' answer. CONDITIONS: the ops' rows lie outside the drive's blocks.
-/
import Derived.Test.YtljhedgcpbapdaaLPlay
import Derived.Test.YtljhedgcpbapdaaLPlayC
namespace Go.Proofs.Ytljhedgcpbapdaa
open Go Go.RowKit Go.Maps Go.Proofs.Ytljhedgcpbapdaa.Fr
namespace Dr
theorem run_ok {st : St} (h : st.Ok) (o : POp) (hn : o.n ≤ 9223372036854775807) : (o.run st).Ok := by
  unfold POp.run
  repeat' split
  · exact h.append _ _
  · exact h.sync _
  · exact h.rename _ _
  · exact h.delete _
  · exact h.arm hn
  · exact h.crash _
  · exact h
theorem run_steps (st : St) (o : POp) : (o.run st).steps ≤ st.steps + 1 := by
  unfold POp.run
  repeat' split
  · unfold St.append; repeat' split
    all_goals simp [St.step]
  · unfold St.sync; repeat' split
    all_goals simp [St.step]
  · unfold St.rename; repeat' split
    all_goals simp [St.step]
  · unfold St.delete; repeat' split
    all_goals simp [St.step]
  · unfold St.arm; repeat' split
    all_goals simp
  · simp [St.crash]
  · simp
section
variable {w : World} {S T : Nat → Prop} {b : Nat} {st : St} {v : Value} {o : POp} {AB AK : Option Addr} {nB cB nK cK : Nat}
theorem play_any (hd : DriveRep w S b st) (hr : RefRep w T v st) (hST : ∀ k, S k → ¬ T k) (hok : st.Ok) (hstep : st.steps + 1 ≤ 9223372036854775807) (ho : OpAt w S o AB nB cB AK nK cK) :
    Calls Try.prog 14 #[.pointer (some ⟨b, 0, none⟩), v, .agg (opV o AB nB cB AK nK cK)] w (PlayRet S T w (o.run st)) := by
  by_cases h1 : o.kind = 1
  · exact play_k1 hd hr hST hok hstep ho h1
  by_cases h2 : o.kind = 2
  · exact play_k2 hd hr hST hok hstep ho h2
  by_cases h3 : o.kind = 3
  · exact play_k3 hd hr hST hok hstep ho h3
  by_cases h4 : o.kind = 4
  · exact play_k4 hd hr hST hok hstep ho h4
  by_cases h5 : o.kind = 5
  · exact play_k5 hd hr hST hok hstep ho h5
  by_cases h6 : o.kind = 6
  · exact play_k6 hd hr hST hok hstep ho h6
  exact play_k0 hd hr hST hok hstep ho h1 h2 h3 h4 h5 h6
end
end Dr
end Go.Proofs.Ytljhedgcpbapdaa
