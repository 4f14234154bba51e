/-
  WHAT IS PROVED: when memory holds a table; what isBefore, New, Len and Bytes answer. CONDITIONS: the table and its nodes stand in memory as named.
-/
import Derived.Test.YtfnfjhfmhinkcaaMCmp
namespace Go.Proofs.Ytfnfjhfmhinkcaa
open Go Go.RowKit Go.Maps Go.Sort Go.Proofs.Ytfnfjhfmhinkcaa.Fr
namespace Mm

def TabAt (w : World) (T : Nat) (ns : List Nd) (cnt byt : Int) : Prop :=
  ∃ cs : Array Value, Blk w T 54 cs ∧ cs.size = 19 ∧ (∀ l, l < 12 → cs[5 + l]? = some (ptr (nextAt ns l))) ∧ cs[17]? = some (.int .i64 cnt) ∧ cs[18]? = some (.int .i64 byt)
structure NodeAt (w : World) (n : Nd) (r : List Nd) (cs : Array Value) : Prop where
  blk : Blk w n.blk 52 cs
  size : cs.size = 17
  c0 : cs[0]? = some (.string n.e.key)
  c1 : cs[1]? = some (.int .i64 n.e.seq)
  c2 : cs[2]? = some (.bool n.e.del)
  c3 : cs[3]? = some (.string n.e.val)
  c4 : cs[4]? = some (.int .i64 (n.older : Int))
  next : ∀ l, l < n.h → cs[5 + l]? = some (ptr (nextAt r l))
def Chain (w : World) : List Nd → Prop
  | [] => True
  | n :: r => (∃ cs, NodeAt w n r cs) ∧ Chain w r
theorem Chain.at_ {w : World} : ∀ {a : List Nd} {n : Nd} {r : List Nd}, Chain w (a ++ n :: r) → ∃ cs, NodeAt w n r cs
  | [], _, _, h => h.1
  | _ :: a, _, _, h => Chain.at_ (a := a) h.2
section
variable {w : World} {n : Nd} {r : List Nd} {cs : Array Value}
theorem isBefore_any (h : NodeAt w n r cs) (k : ByteArray) (q : Int) :
    Calls Try.prog 27 #[.pointer (some ⟨n.blk, 0, none⟩), .string k, .int .i64 q] w fun e w' => e = .returned (.bool (decide (bef n.e k.toList q))) ∧ Below w.heap.size w w' := by
  have q0 := (h.blk.cell 0).trans h.c0
  have q1 := (h.blk.cell 1).trans h.c1
  have q2 := (h.blk.cell 2).trans h.c2
  have q3 := (h.blk.cell 3).trans h.c3
  have hc := compare_any w n.e ⟨k, q, false, ⟨#[]⟩⟩
  have hlt := cmpE_lt n.e ⟨k, q, false, ⟨#[]⟩⟩
  obtain ⟨z, hz⟩ : ∃ z, z = cmpE n.e ⟨k, q, false, ⟨#[]⟩⟩ := ⟨_, rfl⟩
  rw [← hz] at hc hlt
  have HD := Lib.hid (show decide (z < 0) = decide (bef n.e k.toList q) by rw [decide_eq_decide]; exact hlt)
  obtain ⟨b, hb⟩ : ∃ b, b = decide (bef n.e k.toList q) := ⟨_, rfl⟩
  rw [← hb] at HD ⊢
  have HC := Lib.hid hc
  clear hz hlt hb hc
  go_enter Try.func27, Try.ntmps27
  go_wp2_with (go_at_call 24; refine HC.out.mono ?_; rintro e w2 ⟨rfl, hb2⟩)
  go_ret
  exact ⟨by rw [← HD.out]; rfl, hb2⟩
theorem new_any (w : World) :
    Calls Try.prog 7 #[] w fun x w' => x = .returned (.pointer (some ⟨w.heap.size, 0, none⟩)) ∧ TabAt w' w.heap.size [] 0 0 ∧ Below w.heap.size w w' := by
  go_enter Try.func7, Try.ntmps7
  go_wp2
  go_ret
  refine ⟨rfl, ⟨_, Blk.new _ _ _, rfl, ?_, rfl, rfl⟩, (Below.refl _ _).alloc (Nat.le_refl _) _⟩
  intro l hl
  match l, hl with
  | 0, _ | 1, _ | 2, _ | 3, _ | 4, _ | 5, _ | 6, _ | 7, _ | 8, _ | 9, _ | 10, _ | 11, _ => rfl
theorem len_any {T : Nat} {ns : List Nd} {cnt byt : Int} (h : TabAt w T ns cnt byt) :
    Calls Try.prog 10 #[.pointer (some ⟨T, 0, none⟩)] w fun x w' => x = .returned (.int .i64 cnt) ∧ w = w' := by
  obtain ⟨cs, hb, _, _, h1, _⟩ := h
  have q1 := (hb.cell 17).trans h1
  go_enter Try.func10, Try.ntmps10
  go_wp2
  go_ret
  exact ⟨rfl, rfl⟩
theorem bytes_any {T : Nat} {ns : List Nd} {cnt byt : Int} (h : TabAt w T ns cnt byt) :
    Calls Try.prog 14 #[.pointer (some ⟨T, 0, none⟩)] w fun x w' => x = .returned (.int .i64 byt) ∧ w = w' := by
  obtain ⟨cs, hb, _, _, _, h1⟩ := h
  have q1 := (hb.cell 18).trans h1
  go_enter Try.func14, Try.ntmps14
  go_wp2
  go_ret
  exact ⟨rfl, rfl⟩
end

end Mm
end Go.Proofs.Ytfnfjhfmhinkcaa
