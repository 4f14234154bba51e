/-
  WHAT IS PROVED: what Put does, all cases in one. CONDITIONS: the table and its nodes stand in memory as named.
-/
import Derived.Test.YtfnfjhfmhinkcaaMPutD
namespace Go.Proofs.Ytfnfjhfmhinkcaa
open Go Go.RowKit Go.Maps Go.Sort Go.Proofs.Ytfnfjhfmhinkcaa.Fr
namespace Mm

section
variable {w0 w : World} {T : Nat} {ns : List Nd} {byt : Int}
/-- Is there an entry of this key and number? -/
def twice (ns : List Nd) (e : En) : Prop := ∃ m ∈ ns, m.e.k = e.k ∧ m.e.seq = e.seq
/-- What Put answers. -/
def putErr (ns : List Nd) (e : En) (z : Int) : Prop := (z ≠ 0 ∧ entryErr e = z) ∨ (entryErr e = 0 ∧ twice ns e ∧ z = 2)
/-- WHAT Put LEAVES. -/
def PutAll (w0 w : World) (T : Nat) (ns : List Nd) (byt : Int) (e : En) (x : Ending) (w' : World) : Prop :=
  (∃ z, putErr ns e z ∧ x = .returned (.int .i64 z) ∧ Below w.heap.size w w') ∨ (entryErr e = 0 ∧ ¬ twice ns e ∧ PutRet w0 w T ns byt e x w')
theorem twice_iff (hs : Sorted ns) (e : En) : twice ns e ↔ ∃ m r, post ns e.k e.seq = m :: r ∧ m.e.k = e.k ∧ m.e.seq = e.seq := by
  constructor
  · rintro ⟨m, hm, hk, hq⟩
    obtain ⟨a, b, rfl⟩ := List.append_of_mem hm
    have h1 := (Sorted.mid hs).1
    rw [hk, hq] at h1
    have hnb : ¬ bef m.e e.k e.seq := by
      rw [← hk, ← hq]
      rintro (h | ⟨_, h⟩)
      · exact absurd h (List.lt_irrefl _)
      · omega
    refine ⟨m, b, ?_, hk, hq⟩
    have hp := pre_eq (a := a) (b := m :: b) h1 (fun n r e2 => by cases e2; exact hnb)
    have := pre_post (a ++ m :: b) e.k e.seq
    rw [hp] at this
    exact List.append_cancel_left this
  · rintro ⟨m, r, h, hk, hq⟩
    exact ⟨m, by rw [← pre_post ns e.k e.seq, h]; simp, hk, hq⟩
theorem put_any (h : Tb w0 w T ns byt) (e : En) (hgt : Int) (hn : (ns.length : Int) < 1000000000) :
    Calls Try.prog 16 #[.pointer (some ⟨T, 0, none⟩), .agg #[.string e.key, .int .i64 e.seq, .bool e.del, .string e.val], .int .i64 hgt] w (PutAll w0 w T ns byt e) := by
  by_cases hz : entryErr e = 0
  · have ht := twice_iff h.rep.sorted e
    cases hp : post ns e.k e.seq with
    | nil =>
      refine (put_end h e hgt hn hz hp).mono fun x w' hx => .inr ⟨hz, fun h2 => ?_, hx⟩
      obtain ⟨m, r, h3, _⟩ := ht.1 h2
      rw [hp] at h3
      cases h3
    | cons m r =>
      by_cases hk : m.e.k = e.k ∧ m.e.seq = e.seq
      · exact (put_twice h e hgt hz hp hk).mono fun x w' hx => .inl ⟨2, .inr ⟨hz, ht.2 ⟨m, r, hp, hk⟩, rfl⟩, hx.1, hx.2⟩
      · refine (put_other h e hgt hn hz hp hk).mono fun x w' hx => .inr ⟨hz, fun h2 => ?_, hx⟩
        obtain ⟨m', r', h3, h4⟩ := ht.1 h2
        rw [hp] at h3
        cases h3
        exact hk h4
  · exact (put_bad w e hgt rfl (by simpa using hz)).mono fun x w' hx => .inl ⟨entryErr e, .inl ⟨hz, rfl⟩, hx.1, hx.2⟩
end

end Mm
end Go.Proofs.Ytfnfjhfmhinkcaa
