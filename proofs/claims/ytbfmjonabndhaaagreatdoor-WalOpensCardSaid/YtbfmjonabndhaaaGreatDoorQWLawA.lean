/-
  WHAT IS PROVED: (1) what the law's cut answers: a payload's first bytes, in new memory. CONDITIONS: the slice that comes in reads as the bytes that are named.
-/
import Derived.Test.YtbfmjonabndhaaaGreatDoorQWalkA
namespace Go.Proofs.YtbfmjonabndhaaaGreatDoor
open Go Go.RowKit Go.Maps Go.Proofs.YtbfmjonabndhaaaGreatDoor.Fr
namespace Wl

theorem rd_take {w : World} {A : Option Addr} {l : List UInt8} (h : Rd w A (bv l)) (k : Nat) : Rd w A (bv (l.take k)) := by
  rw [← bv_take]
  exact h.take k
theorem take_len {l : List UInt8} {n : Nat} (h : l.length = n) (k : Nat) : (l.take k).length = min n k := by
  rw [List.length_take, h]
  omega
end Wl
end Go.Proofs.YtbfmjonabndhaaaGreatDoor
