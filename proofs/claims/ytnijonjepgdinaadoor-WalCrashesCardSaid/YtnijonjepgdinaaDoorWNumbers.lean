/-
  WHAT IS PROVED: the call of FrameNumbers answers true in whatever memory holds the table, and makes new memory alone. CONDITIONS: the slice reads as the bytes that are named and is no longer than 2^47 - 4096; the table lies where it is laid.
-/
import Derived.Test.YtnijonjepgdinaaDoorWalkE
namespace Go.Proofs.YtnijonjepgdinaaDoor
open Go Go.RowKit
namespace Fr

theorem Ftake_enc (A : Option Addr) (k m c n : Nat) (l : List UInt8) (w : World) (hn : n < 18446744073709551616) (hm : (enc n).length = m) (hk : (enc n ++ l).length = k) (hr : Rd w A (bv (enc n ++ l))) (hk2 : k ≤ 140737488355328) :
    Calls Tryd.prog 56 #[.slice A k c] w fun e w' => e = .returned (.tuple #[.int .u64 (n : Int), .int .i64 (m : Int)]) ∧ w = w' := by
  have h := Ftake_any A k c _ w hk hr hk2
  rw [dec_enc hn, hm] at h
  exact h

end Fr
end Go.Proofs.YtnijonjepgdinaaDoor
