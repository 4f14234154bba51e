/-
  WHAT IS PROVED: (1) the drive's calls in one form each, and a drive that is newer than a world. CONDITIONS: the drive stands in memory as the plain one says.
-/
import Derived.Test.YtbfmjonabndhaaaGreatDoorQDWalkG
namespace Go.Proofs.YtbfmjonabndhaaaGreatDoor
open Go Go.RowKit Go.Maps Go.Proofs.YtbfmjonabndhaaaGreatDoor.Fr
namespace Dr

/-- How many bytes are loose. -/
def St.looseOf (s : St) (n : Bs) : Nat := match find s.files n with | some f => f.dat.length - f.syn | none => 0
section
variable {w : World} {b : Nat} {st : St} {S : Nat → Prop}
theorem size_any (h : DriveRep w S b st) (s : ByteArray) (hs : s.size ≤ maxLen) :
    Calls Tryz.prog 33 #[.pointer (some ⟨b, 0, none⟩), .string s] w fun e w' => e = .returned (.int .i64 (st.sizeOf s.data.toList : Int)) ∧ w = w' := by
  obtain ⟨mb, Q, h, _, _⟩ := h
  cases hf : find st.files s.data.toList with
  | none => rw [sizeOf_none hf]; exact size_none h s hs (find_ent_no h hf)
  | some f =>
    obtain ⟨e, hq, rfl⟩ := find_ent h hf
    rw [sizeOf_some hf]; exact size_some h s hs hq
theorem loose_any (h : DriveRep w S b st) (hok : st.Ok) (s : ByteArray) (hs : s.size ≤ maxLen) :
    Calls Tryz.prog 16 #[.pointer (some ⟨b, 0, none⟩), .string s] w fun e w' => e = .returned (.int .i64 (st.looseOf s.data.toList : Int)) ∧ ∃ k, w' = w.drewN k := by
  obtain ⟨mb, Q, h, _, _⟩ := h
  unfold St.looseOf
  cases hf : find st.files s.data.toList with
  | none => exact (loose_none h s hs (find_ent_no h hf)).mono fun e w' ⟨h1, h2⟩ => ⟨h1, 0, h2.symm⟩
  | some f =>
    obtain ⟨e, hq, rfl⟩ := find_ent h hf
    have ho := hok.file _ (find_some hf).1
    refine (loose_some h s hs hq ho.1 ho.2.1).mono fun e w' ⟨h1, h2⟩ => ⟨?_, h2⟩
    rw [h1]
    have := ho.2.1
    have e1 : ∀ a c : Nat, c ≤ a → ((a : Int) - (c : Int)) = ((a - c : Nat) : Int) := fun a c h => by omega
    rw [e1 _ _ this]
theorem read_none (h : DriveRep w S b st) (s : ByteArray) (hs : s.size ≤ maxLen) (hn : nameOk s.data.toList = true) (hf : find st.files s.data.toList = none) :
    Calls Tryz.prog 32 #[.pointer (some ⟨b, 0, none⟩), .string s] w fun e w' => e = .returned (.tuple #[.slice none 0 0, .int .i64 4]) ∧ w = w' := by
  obtain ⟨mb, Q, h, _, _⟩ := h
  exact read_no h s hs hn (find_ent_no h hf)
theorem read_some (h : DriveRep w S b st) (hok : st.Ok) (s : ByteArray) (hs : s.size ≤ maxLen) {f : Fl} (hf : find st.files s.data.toList = some f) :
    Calls Tryz.prog 32 #[.pointer (some ⟨b, 0, none⟩), .string s] w fun e w' => ∃ A m c, e = .returned (.tuple #[.slice A m c, .int .i64 0]) ∧ f.dat.length = m ∧ w'.ownsRow w.heap.size 5 1 (.slice A m c) m (bv f.dat) ∧ Below w.heap.size w w' := by
  obtain ⟨mb, Q, h, _, _⟩ := h
  obtain ⟨h1, h2⟩ := find_some hf
  have ho := hok.file _ h1
  obtain ⟨e, hq, rfl⟩ := find_ent h hf
  exact (read_yes h s hs (by rw [← h2]; exact ho.2.2) hq ho.1).mono fun e w' ⟨v, h3, A, m, c, h4, h5, _, h6, h7⟩ => ⟨A, m, c, by rw [h3, h4], h5, by rw [← h4]; exact h6, h7⟩

end

/-! ### a drive newer than a world; X: blocks that it doesn't have -/
def DS (w0 w : World) (X : Nat → Prop) (b : Nat) (st : St) : Prop := ∃ S, DriveRep w S b st ∧ (∀ k, S k → w0.heap.size ≤ k) ∧ Below w0.heap.size w0 w ∧ ∀ k, X k → k < w.heap.size ∧ ¬ S k
def DSOp (w0 : World) (X : Nat → Prop) (b : Nat) (p : St × Nat) (w : World) (e : Ending) (w' : World) : Prop :=
  e = .returned (.int .i64 (p.2 : Int)) ∧ DS w0 w' X b p.1 ∧ ∀ A xs, Rd w A xs → (∀ a, A = some a → X a.block) → Rd w' A xs
section
variable {w0 w w' : World} {b : Nat} {st : St} {X X' : Nat → Prop}
theorem DS.rep (h : DS w0 w X b st) : ∃ S, DriveRep w S b st ∧ ∀ k, X k → ¬ S k := let ⟨S, h1, _, _, h4⟩ := h; ⟨S, h1, fun k hk => (h4 k hk).2⟩
theorem DS.bel (h : DS w0 w X b st) : Below w0.heap.size w0 w := let ⟨_, _, _, h3, _⟩ := h; h3
theorem DS.weak (h : DS w0 w X b st) (hx : ∀ k, X' k → X k) : DS w0 w X' b st := let ⟨S, h1, h2, h3, h4⟩ := h; ⟨S, h1, h2, h3, fun k hk => h4 k (hx k hk)⟩
theorem DS.below (h : DS w0 w X b st) (hb : Below w.heap.size w w') : DS w0 w' X b st :=
  let ⟨S, h1, h2, h3, h4⟩ := h; ⟨S, h1.below hb, h2, h3.trans (hb.mono h3.size), fun k hk => ⟨Nat.lt_of_lt_of_le (h4 k hk).1 hb.size, (h4 k hk).2⟩⟩
theorem DS.alloc (h : DS w0 w X b st) (o : Obj) : DS w0 (w.alloc o) X b st := h.below ((Below.refl _ _).alloc (Nat.le_refl _) o)
theorem DS.drewN (h : DS w0 w X b st) (n : Nat) : DS w0 (w.drewN n) X b st := h.below (below_drewN (Below.refl _ _) n)
/-- What is made behind it isn't its own. -/
theorem DS.add (h : DS w0 w X b st) (hb : Below w.heap.size w w') (hx : ∀ k, X' k → X k ∨ (w.heap.size ≤ k ∧ k < w'.heap.size)) : DS w0 w' X' b st := by
  obtain ⟨S, h1, h2, h3, h4⟩ := h
  refine ⟨S, h1.below hb, h2, h3.trans (hb.mono h3.size), fun k hk => ?_⟩
  rcases hx k hk with h5 | h5
  · exact ⟨Nat.lt_of_lt_of_le (h4 k h5).1 hb.size, (h4 k h5).2⟩
  · exact ⟨h5.2, fun hs => by have := h1.lt k hs; omega⟩
theorem DS.op {f : FuncId} {args : Array Value} {p : St × Nat} (h : DS w0 w X b st) (hc : ∀ S, DriveRep w S b st → (∀ k, X k → ¬ S k) → Calls Tryz.prog f args w (DOp S b p w)) : Calls Tryz.prog f args w (DSOp w0 X b p w) := by
  obtain ⟨S, h1, h2, h3, h4⟩ := h
  refine (hc S h1 fun k hk => (h4 k hk).2).mono fun e w' ⟨h5, h6, h7⟩ => ⟨h5, ⟨ext S w w', h6, ext_ge h2 h3.size, h3.trans (h7.to_below h2 h3.size), fun k hk => ⟨Nat.lt_of_lt_of_le (h4 k hk).1 h7.size, fun hs => ?_⟩⟩, fun A xs hr ha => Rd.mod hr h7 fun a ha' => (h4 _ (ha a ha')).2⟩
  rcases hs with hs | hs
  · exact (h4 k hk).2 hs
  · have := (h4 k hk).1; omega
theorem DNew.ds {e : Ending} (h : DNew w st e w') : ∃ b, e = .returned (.pointer (some ⟨b, 0, none⟩)) ∧ DS w w' (fun _ => False) b st :=
  let ⟨b, h1, h2, h3⟩ := h; ⟨b, h1, New w w', h2, fun _ hk => hk.1, h3, fun _ hk => hk.elim⟩
theorem DS.append (h : DS w0 w X b st) (hok : st.Ok) (hstep : st.steps + 1 ≤ 9223372036854775807) (s : ByteArray) (hs : s.size ≤ maxLen) (A : Option Addr) (m c : Nat) (l : Bs) (hl : l.length = m) (hm : m ≤ maxLen) (hr : Rd w A (bv l)) (ha : ∀ a, A = some a → X a.block) :
    Calls Tryz.prog 39 #[.pointer (some ⟨b, 0, none⟩), .string s, .slice A m c] w (DSOp w0 X b (st.append s.data.toList l) w) :=
  h.op fun _ h1 h2 => append_any h1 hok hstep s hs A m c l hl hm hr fun a e => h2 _ (ha a e)
end
end Dr
end Go.Proofs.YtbfmjonabndhaaaGreatDoor
