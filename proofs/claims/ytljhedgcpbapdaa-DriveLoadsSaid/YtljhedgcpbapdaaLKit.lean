/-
  WHAT IS PROVED: the program's plain facts, for the rows of this layer. NO CONDITION.
-/
import Derived.Test.YtljhedgcpbapdaaLAwake
import Derived.Test.YtljhedgcpbapdaaRows
import Derived.ProofKit
import Derived.OpenShut
import Derived.Carry
import Derived.SizedLaws
namespace Go.Proofs.Ytljhedgcpbapdaa
open Go Go.ChangeShapes Go.WideShapes Go.ChangeAt Go.RowKit
namespace Dr
theorem own : ownKnob Try.prog.godebug = none := by kernel_rfl
theorem laidOut : laidOutB Try.prog = true := by kernel_rfl
theorem cellsU8 : Try.prog.cellsOf 5 = 1 := by kernel_rfl
theorem bytesU8 : Try.prog.bytesOf 5 = 1 := by kernel_rfl
end Dr
end Go.Proofs.Ytljhedgcpbapdaa
