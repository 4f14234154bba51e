/-
  WHAT IS PROVED: what '==' of two entries answers. NO CONDITION.
-/
import Derived.Test.YtfnfjhfmhinkcaaMRow
namespace Go.Proofs.Ytfnfjhfmhinkcaa
open Go Go.RowKit Go.Maps Go.Sort Go.Proofs.Ytfnfjhfmhinkcaa.Fr
namespace Mm

def enEq (x y : En) : Bool := (x.key.toList == y.key.toList) && ((x.seq == y.seq) && ((x.del == y.del) && (x.val.toList == y.val.toList)))
theorem bytes_eq {a b : ByteArray} (h : a.toList = b.toList) : a = b := by
  rw [ByteArray.toList_eq, ByteArray.toList_eq] at h
  obtain ⟨⟨x⟩⟩ := a
  obtain ⟨⟨y⟩⟩ := b
  simpa using h
theorem enEq_iff (x y : En) : enEq x y = true ↔ x = y := by
  constructor
  · intro h
    unfold enEq at h
    simp only [Bool.and_eq_true, beq_iff_eq] at h
    obtain ⟨a, b, c, d⟩ := x
    obtain ⟨a', b', c', d'⟩ := y
    obtain ⟨h1, rfl, rfl, h4⟩ := h
    cases bytes_eq h1
    cases bytes_eq h4
    rfl
  · rintro rfl
    unfold enEq
    simp
set_option maxRecDepth 100000 in
set_option maxHeartbeats 1600000 in
theorem eq_entry (w : World) (x y : En) : (binOp .eql 30 (.agg #[.string x.key, .int .i64 x.seq, .bool x.del, .string x.val]) (.agg #[.string y.key, .int .i64 y.seq, .bool y.del, .string y.val])).run Try.prog w = .ok (.bool (enEq x y)) w := by
  unfold enEq
  rw [run_eql_struct]
  cases h1 : (x.key.toList == y.key.toList) <;> cases h2 : (x.seq == y.seq) <;> cases h3 : (x.del == y.del) <;> cases h4 : (x.val.toList == y.val.toList) <;> go_simp
  all_goals trace_state

end Mm
end Go.Proofs.Ytfnfjhfmhinkcaa
