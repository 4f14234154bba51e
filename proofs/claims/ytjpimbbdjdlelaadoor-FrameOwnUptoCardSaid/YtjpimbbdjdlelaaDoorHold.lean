/-
  WHAT IS PROVED: rows of a call's own, kept apart: writing into one leaves the others as they were. NO CONDITION beside those that each lemma names.
-/
import Derived.Test.YtjpimbbdjdlelaaDoorWalkH
namespace Go.Proofs.YtjpimbbdjdlelaaDoor
open Go Go.RowKit
namespace Fr

theorem off_some {v : Value} {g : Nat} (h : ∀ k, v.ownBlock = some k → k ≠ g) : v.ownBlock = none ∨ v.ownBlock ≠ some g := by
  cases hv : v.ownBlock with
  | none => exact .inl rfl
  | some k => exact .inr fun e => h k hv (Option.some.inj e)
theorem off_of {v u : Value} (h : ∀ k g, v.ownBlock = some k → u.ownBlock = some g → k ≠ g) : v.ownBlock = none ∨ v.ownBlock ≠ u.ownBlock := by
  cases hv : v.ownBlock with
  | none => exact .inl rfl
  | some k =>
    cases hu : u.ownBlock with
    | none => exact .inr (by simp)
    | some g => exact .inr fun e => h k g hv hu (Option.some.inj e)
theorem off_ne {v u : Value} {k g : Nat} (h : v.ownBlock = none ∨ v.ownBlock ≠ u.ownBlock) (hk : v.ownBlock = some k) (hg : u.ownBlock = some g) : k ≠ g := by
  rcases h with h | h
  · rw [hk] at h; cases h
  · intro e; subst e; rw [hk, hg] at h; exact h rfl
/-- What doesn't change: where the rows' blocks lie. -/
def Marks (w : World) (s3 s4 s5 s8 s9 s10 b1 : Nat) (v5 u1 v10 : Value) : Prop :=
  w.heap.size ≤ s3 ∧ s3 ≤ s4 ∧ s4 ≤ s5 ∧ s5 ≤ s8 ∧ s8 ≤ b1 ∧ b1 ≤ s9 ∧ s9 ≤ s10 ∧ (∀ k, v5.ownBlock = some k → s4 ≤ k ∧ k < s5) ∧ (∀ k, u1.ownBlock = some k → b1 ≤ k ∧ k < s9) ∧ ∀ k, v10.ownBlock = some k → s9 ≤ k ∧ k < s10
/-- The rows: of b, of the list, of its first; and those that stay: of c, of the list's second, of q. -/
def All (w wr : World) (s3 s4 s8 s9 s10 b1 : Nat) (v5 u1 v10 : Value) (s n : Nat) (S P : List UInt8) (vb : Value) (nb : Nat) (ys : List Value) (vo : Value) (kk : Nat) (us : List Value) (v0 : Value) (n0 : Nat) (zs : List Value) : Prop :=
  wr.ownsRow s3 5 1 vb nb ys ∧ wr.ownsRow s8 23 1 vo kk us ∧ wr.ownsRow s8 5 1 v0 n0 zs ∧ wr.ownsRow s4 5 1 v5 s (bv S) ∧ wr.ownsRow s8 5 1 u1 n (bv P) ∧ wr.ownsRow s9 5 1 v10 n (bv P) ∧ Below w.heap.size w wr ∧
  (∀ k, vb.ownBlock = some k → k < s4 ∨ s10 ≤ k) ∧ (∀ k, v0.ownBlock = some k → k < b1 ∨ s10 ≤ k) ∧ (vb.ownBlock = none ∨ vb.ownBlock ≠ v0.ownBlock) ∧ s10 ≤ wr.heap.size

section
variable {w wr wr' : World} {s3 s4 s5 s8 s9 s10 b1 : Nat} {v5 u1 v10 : Value} {s n : Nat} {S P : List UInt8} {vb : Value} {nb : Nat} {ys : List Value} {vo : Value} {kk : Nat} {us : List Value} {v0 : Value} {n0 : Nat} {zs : List Value}
theorem All.drewN (h : All w wr s3 s4 s8 s9 s10 b1 v5 u1 v10 s n S P vb nb ys vo kk us v0 n0 zs) (k : Nat) : All w (wr.drewN k) s3 s4 s8 s9 s10 b1 v5 u1 v10 s n S P vb nb ys vo kk us v0 n0 zs := by
  obtain ⟨h1, h2, h3, h4, h5, h6, h7, h8⟩ := h
  exact ⟨h1, h2, h3, h4, h5, h6, below_drewN h7 k, h8⟩
theorem All.drew (h : All w wr s3 s4 s8 s9 s10 b1 v5 u1 v10 s n S P vb nb ys vo kk us v0 n0 zs) : All w wr.drew s3 s4 s8 s9 s10 b1 v5 u1 v10 s n S P vb nb ys vo kk us v0 n0 zs := by
  obtain ⟨h1, h2, h3, h4, h5, h6, h7, h8⟩ := h
  exact ⟨h1, h2, h3, h4, h5, h6, h7.drew, h8⟩
theorem All.alloc (h : All w wr s3 s4 s8 s9 s10 b1 v5 u1 v10 s n S P vb nb ys vo kk us v0 n0 zs) (o : Obj) : All w (wr.alloc o) s3 s4 s8 s9 s10 b1 v5 u1 v10 s n S P vb nb ys vo kk us v0 n0 zs := by
  obtain ⟨h1, h2, h3, h4, h5, h6, h7, h8, h9, h10, h11⟩ := h
  exact ⟨h1.alloc o, h2.alloc o, h3.alloc o, h4.alloc o, h5.alloc o, h6.alloc o, h7.alloc h7.size o, h8, h9, h10, by simp; omega⟩
/-- Something else is written, whose block lies between. -/
theorem All.in_ (hm : Marks w s3 s4 s5 s8 s9 s10 b1 v5 u1 v10) (h : All w wr s3 s4 s8 s9 s10 b1 v5 u1 v10 s n S P vb nb ys vo kk us v0 n0 zs) {g : Nat} (hg : wr.grownBy wr' (some g)) (g1 : s5 ≤ g) (g2 : g < s8) :
    All w wr' s3 s4 s8 s9 s10 b1 v5 u1 v10 s n S P vb nb ys vo kk us v0 n0 zs := by
  obtain ⟨m1, m2, m3, m4, m5, m6, m7, m8, m9, m10⟩ := hm
  obtain ⟨h1, h2, h3, h4, h5, h6, h7, h8, h9, h10, h11⟩ := h
  have hs := hg.size
  refine ⟨h1.kept hg (off_some fun k hk => ?_), h2.kept hg (off_some fun k hk => ?_), h3.kept hg (off_some fun k hk => ?_), h4.kept hg (off_some fun k hk => ?_), h5.kept hg (off_some fun k hk => ?_), h6.kept hg (off_some fun k hk => ?_), h7.grown hg h7.size (fun k hk => ?_), h8, h9, h10, by omega⟩
  · have := h8 k hk; omega
  · have := (h2.lt k hk).1; omega
  · have := (h3.lt k hk).1; omega
  · have := m8 k hk; omega
  · have := m9 k hk; omega
  · have := m10 k hk; omega
  · cases hk; omega
/-- b's row is written. -/
theorem All.b_ (hm : Marks w s3 s4 s5 s8 s9 s10 b1 v5 u1 v10) (h : All w wr s3 s4 s8 s9 s10 b1 v5 u1 v10 s n S P vb nb ys vo kk us v0 n0 zs) {vb' : Value} {nb' : Nat} {ys' : List Value} (ho : wr'.ownsRow s3 5 1 vb' nb' ys') (hg : wr.grownBy wr' vb.ownBlock)
    (hb : vb'.ownBlock = vb.ownBlock ∨ vb'.ownBlock = some wr.heap.size) : All w wr' s3 s4 s8 s9 s10 b1 v5 u1 v10 s n S P vb' nb' ys' vo kk us v0 n0 zs := by
  obtain ⟨m1, m2, m3, m4, m5, m6, m7, m8, m9, m10⟩ := hm
  obtain ⟨h1, h2, h3, h4, h5, h6, h7, h8, h9, h10, h11⟩ := h
  have hs := hg.size
  refine ⟨ho, h2.kept hg (own_ne h2 h1 (by decide)), h3.kept hg (off_of fun k g hk hg => ?_), h4.kept hg (off_of fun k g hk hg => ?_), h5.kept hg (off_of fun k g hk hg => ?_), h6.kept hg (off_of fun k g hk hg => ?_), h7.grown hg h7.size (fun k hk => ?_), fun k hk => ?_, h9, off_of fun k g hk hg => ?_, by omega⟩
  · have := off_ne h10 hg hk; omega
  · have := m8 k hk; have := h8 g hg; omega
  · have := m9 k hk; have := h8 g hg; omega
  · have := m10 k hk; have := h8 g hg; omega
  · have := (h1.lt k hk).1; omega
  · rcases hb with hb | hb
    · rw [hb] at hk; exact h8 k hk
    · rw [hb] at hk; cases hk; omega
  · rcases hb with hb | hb
    · rw [hb] at hk; exact off_ne h10 hk hg
    · rw [hb] at hk; cases hk
      have := (h3.lt g hg).2; omega
/-- The list's row is written. -/
theorem All.o_ (h : All w wr s3 s4 s8 s9 s10 b1 v5 u1 v10 s n S P vb nb ys vo kk us v0 n0 zs) (hw : w.heap.size ≤ s8) {vo' : Value} {kk' : Nat} {us' : List Value} (ho : wr'.ownsRow s8 23 1 vo' kk' us') (hg : wr.grownBy wr' vo.ownBlock) :
    All w wr' s3 s4 s8 s9 s10 b1 v5 u1 v10 s n S P vb nb ys vo' kk' us' v0 n0 zs := by
  obtain ⟨h1, h2, h3, h4, h5, h6, h7, h8, h9, h10, h11⟩ := h
  have hs := hg.size
  refine ⟨h1.kept hg (own_ne h1 h2 (by decide)), ho, h3.kept hg (own_ne h3 h2 (by decide)), h4.kept hg (own_ne h4 h2 (by decide)), h5.kept hg (own_ne h5 h2 (by decide)), h6.kept hg (own_ne h6 h2 (by decide)), h7.grown hg h7.size (fun k hk => ?_), h8, h9, h10, by omega⟩
  have := (h2.lt k hk).1; omega
/-- The list's first row is written. -/
theorem All.z_ (hm : Marks w s3 s4 s5 s8 s9 s10 b1 v5 u1 v10) (h : All w wr s3 s4 s8 s9 s10 b1 v5 u1 v10 s n S P vb nb ys vo kk us v0 n0 zs) {v0' : Value} {n0' : Nat} {zs' : List Value} (ho : wr'.ownsRow s8 5 1 v0' n0' zs') (hg : wr.grownBy wr' v0.ownBlock)
    (hb : v0'.ownBlock = v0.ownBlock ∨ v0'.ownBlock = some wr.heap.size) : All w wr' s3 s4 s8 s9 s10 b1 v5 u1 v10 s n S P vb nb ys vo kk us v0' n0' zs' := by
  obtain ⟨m1, m2, m3, m4, m5, m6, m7, m8, m9, m10⟩ := hm
  obtain ⟨h1, h2, h3, h4, h5, h6, h7, h8, h9, h10, h11⟩ := h
  have hs := hg.size
  refine ⟨h1.kept hg h10, h2.kept hg (own_ne h2 h3 (by decide)), ho, h4.kept hg (off_of fun k g hk hg => ?_), h5.kept hg (off_of fun k g hk hg => ?_), h6.kept hg (off_of fun k g hk hg => ?_), h7.grown hg h7.size (fun k hk => ?_), h8, fun k hk => ?_, off_of fun k g hk hg => ?_, by omega⟩
  · have := m8 k hk; have := (h3.lt g hg).1; omega
  · have := m9 k hk; have := h9 g hg; omega
  · have := m10 k hk; have := h9 g hg; omega
  · have := (h3.lt k hk).1; omega
  · rcases hb with hb | hb
    · rw [hb] at hk; exact h9 k hk
    · rw [hb] at hk; cases hk; omega
  · rcases hb with hb | hb
    · rw [hb] at hg; exact off_ne h10 hk hg
    · rw [hb] at hg; cases hg
      have := (h1.lt k hk).2; omega
end
theorem own_from {w : World} {base : Nat} {e : TypeId} {A : Option Addr} {n c : Nat} {xs : List Value} (h : w.ownsRow base e 1 (.slice A n c) n xs) (hn : 0 < n) : ∃ g, A = some ⟨g, 0, none⟩ ∧ base ≤ g ∧ g < w.heap.size := by
  rcases h.2 with ⟨_, h0⟩ | ⟨g, cap, cur, hv, h1, hg, _⟩
  · omega
  · injection hv with h3 h4 h5
    exact ⟨g, h3, h1, (Array.getElem?_eq_some_iff.1 hg).1⟩
theorem rd_front {w : World} {A : Option Addr} {xs ys : List Value} (h : Rd w A (xs ++ ys)) : Rd w A xs := by
  have := h.take xs.length
  rwa [List.take_left] at this
/-- What the statement's bytes read as: two frames at the front. -/
theorem scan_two {p : List UInt8} (h : p.length ≤ 4096) (b : List UInt8) : scan (sealOf p ++ sealOf p ++ b) = (p :: p :: (scan b).1, (sealOf p).length + ((sealOf p).length + (scan b).2)) := by
  have key : ∀ c, scan (sealOf p ++ c) = (p :: (scan c).1, (sealOf p).length + (scan c).2) := fun c => by
    rw [scan_yes (isFrame_sealOf h c), takeF_sealOf h c]
    simp only [List.drop_left]
  rw [List.append_assoc, key, key]
/-- The list's first two. -/
theorem OwnL.two {w : World} {B : Nat} {vs : List Value} {p q : List UInt8} {r : List (List UInt8)} (h : OwnL w B vs (p :: q :: r)) (hB : B ≤ w.heap.size) :
    ∃ u0 u1 us b1, vs = u0 :: u1 :: us ∧ w.ownsRow B 5 1 u0 p.length (bv p) ∧ w.ownsRow B 5 1 u1 q.length (bv q) ∧ B ≤ b1 ∧ b1 ≤ w.heap.size ∧ (∀ k, u0.ownBlock = some k → k < b1) ∧ ∀ k, u1.ownBlock = some k → b1 ≤ k ∧ k < w.heap.size := by
  match vs, h with
  | [], h => have := h.1; simp at this
  | [_], h => have := h.1; simp at this
  | u0 :: u1 :: us, h =>
    obtain ⟨b0, h0, ho0, _⟩ := h.2 0 u0 p rfl rfl
    obtain ⟨b1, h1, ho1, hd⟩ := h.2 1 u1 q rfl rfl
    refine ⟨u0, u1, us, min b1 w.heap.size, rfl, own_mono ho0 h0, own_mono ho1 h1, by omega, by omega, fun k hk => ?_, fun k hk => ?_⟩
    · have := hd 0 u0 k (by omega) rfl hk
      have := (ho0.lt k hk).2
      omega
    · have := ho1.lt k hk
      omega
end Fr
end Go.Proofs.YtjpimbbdjdlelaaDoor
