/-
  WHAT IS PROVED: the call of FrameTexts answers true in whatever memory holds the table, and makes new memory alone. CONDITIONS: the slice reads as the bytes that are named; the text and the slice have at most 1048576 bytes; the table lies where it is laid.
-/
import Derived.Test.YtnijonjepgdinaaDoorWNumbers
namespace Go.Proofs.YtnijonjepgdinaaDoor
open Go Go.RowKit
namespace Fr

theorem bytes_back (s : ByteArray) : (⟨s.data.toList.toArray⟩ : ByteArray) = s := by cases s; simp
theorem own_cap {w : World} {base : Nat} {e : TypeId} {A : Option Addr} {n c : Nat} {xs : List Value} (h : w.ownsRow base e 1 (.slice A n c) n xs) : n ≤ c := by
  obtain ⟨A', c', e', h1, _⟩ := own_shape h
  simp only [Value.slice.injEq] at e'
  omega

end Fr
end Go.Proofs.YtnijonjepgdinaaDoor
