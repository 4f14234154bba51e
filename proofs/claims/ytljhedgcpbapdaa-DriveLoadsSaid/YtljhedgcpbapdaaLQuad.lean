/-
  WHAT IS PROVED: two drives and two references in memory, and what leaves them as they are. CONDITIONS: as each lemma names.
-/
import Derived.Test.YtljhedgcpbapdaaLCrash
import Derived.Test.YtljhedgcpbapdaaLSyncs
namespace Go.Proofs.Ytljhedgcpbapdaa
open Go Go.RowKit Go.Maps Go.Proofs.Ytljhedgcpbapdaa.Fr
namespace Dr
section
variable {w0 W W' Wa w5 Wb w6 Wf : World} {S T : Nat → Prop} {b : Nat} {st st2 : St} {A : Option Addr} {c g8 g12 : Nat}
theorem CrS.drew (h : CrS w0 S T b st A c g8 W) : CrS w0 S T b st A c g8 W.drew := h.below (below_drewN (Below.refl _ _) 1)
theorem CrS.alloc (h : CrS w0 S T b st A c g8 W) (o : Obj) : CrS w0 S T b st A c g8 (W.alloc o) := h.below ((Below.refl _ _).alloc (Nat.le_refl _) o)
theorem CrS.held {a0 a1 a2 a3 : Value} {t : TypeId} (_ : CrS w0 S T b st A c g8 (W.drew.alloc (.cells #[a0, a1, a2, a3] t))) : Blk (W.drew.alloc (.cells #[a0, a1, a2, a3] t)) W.heap.size t #[a0, a1, a2, a3] := Blk.new W.drew _ _
theorem CrS.held0 {a0 a1 a2 a3 : Value} {t : TypeId} (_ : CrS w0 S T b st A c g8 (W.alloc (.cells #[a0, a1, a2, a3] t))) : Blk (W.alloc (.cells #[a0, a1, a2, a3] t)) W.heap.size t #[a0, a1, a2, a3] := Blk.new W _ _
theorem CrS.fill (h : CrS w0 S T b st A c g8 W) (h0 : CrS w0 S T b st A c g8 W') (hg : W'.heap.size ≤ g12) (a0 a1 a2 a3 : Value) : CrS w0 S T b st A c g8 (set4 W g12 a0 a1 a2 a3) := by
  have hsz := set4_size W g12 a0 a1 a2 a3
  have hp := h.p
  have l8 := h0.p.lt g8 rfl
  exact ⟨⟨hp.d.same (fun k hk => set4_off W a0 a1 a2 a3 (by have := h0.p.d.lt k hk; omega)) (by rw [hsz]; exact Nat.le_refl _), hp.r.same (fun k hk => set4_off W a0 a1 a2 a3 (by have := h0.p.r.lt k hk; omega)) (by rw [hsz]; exact Nat.le_refl _), hp.s, hp.t, hp.a, fun k hk => by rw [hsz]; exact hp.lt k hk, set4_below hp.bel (Nat.le_trans h0.p.bel.size hg)⟩, h.m.same (set4_off W a0 a1 a2 a3 (by omega)), h.g⟩
theorem CrS.crash0 (h : CrS w0 S T b st A c g8 W) (hok : st.Ok) (h6 : st.crash [] = st2) : Calls Try.prog 15 #[.pointer (some ⟨b, 0, none⟩), .slice none 0 0] W (CrD st2 W) := h.p.crash hok (KRow.nil W) h6
theorem CrS.rcrash0 (h : CrS w0 S T b st A c g8 W) (hok : st.Ok) (h6 : st.crash [] = st2) : Calls Try.prog 16 #[.agg #[.slice A st.files.length c, .int .i64 (st.steps : Int), .bool st.armed, .int .i64 (st.left : Int)], .slice none 0 0] W (CrR T st2 W) := h.p.rcrash hok (KRow.nil W) h6
end
/-- Two drives, two references, two boxes: all below B and off X. -/
structure Quad (w0 : World) (B : Nat) (X S T S2 T2 : Nat → Prop) (b : Nat) (st : St) (A : Option Addr) (c g6 : Nat) (b2 : Nat) (sd sr : St) (v2 : Value) (g9 : Nat) (c9 : Array Value) (W : World) : Prop where
  d1 : DriveRep W S b st
  r1 : RefRep W T (.agg (refC A c st)) st
  d2 : DriveRep W S2 b2 sd
  r2 : RefRep W T2 v2 sr
  m1 : Blk W g6 26 (refC A c st)
  m2 : Blk W g9 26 c9
  o : ∀ k, S k ∨ T k ∨ S2 k ∨ T2 k ∨ k = g6 ∨ k = g9 → k < B ∧ ¬ X k
  a : ∀ k, S2 k → ¬ S k ∧ ¬ T k ∧ ¬ T2 k ∧ k ≠ g6 ∧ k ≠ g9
  a9 : ¬ S g9 ∧ ¬ T g9 ∧ ¬ T2 g9 ∧ g6 ≠ g9
  s2 : ∀ k, S2 k → w0.heap.size ≤ k
  x : ∀ k, X k → w0.heap.size ≤ k ∧ k < W.heap.size
  g : w0.heap.size ≤ g9
  l0 : w0.heap.size ≤ B
  l1 : B ≤ W.heap.size
  bel : Below w0.heap.size w0 W
section
variable {w0 W W' : World} {B : Nat} {X X' S T S2 T2 : Nat → Prop} {b : Nat} {st : St} {A : Option Addr} {c g6 b2 : Nat} {sd sr : St} {v2 : Value} {g9 : Nat} {c9 : Array Value} {A2 : Option Addr} {c2 : Nat}
theorem Quad.of (h : CrW w0 S T b st A c g6 b2 sd A2 c2 g9 W) : ∃ S2 T2, Quad w0 W.heap.size (fun _ => False) S T S2 T2 b st A c g6 b2 sd sd (.agg (refC A2 c2 sd)) g9 (refC A2 c2 sd) W := by
  obtain ⟨hp, S2, T2, h1, h2, h3, h4, h5⟩ := h.p
  refine ⟨S2, T2, hp.d, hp.r, h1, h2, h.m, h.m2, fun k hk => ⟨?_, fun h => h⟩, fun k hk => ⟨(h3 k hk).2.1, (h3 k hk).2.2, h5 k hk, fun e => (h3 k hk).1.2 (.inl e), fun e => (h3 k hk).1.2 (.inr e)⟩, ⟨fun e => (hp.s _ e).2 (.inr rfl), fun e => (hp.t _ e).2 (.inr rfl), fun e => (h4 _ e).2 (.inr rfl), h.ne⟩, fun k hk => (h3 k hk).1.1, fun _ h => h.elim, h.g2, hp.bel.size, Nat.le_refl _, hp.bel⟩
  rcases hk with hk | hk | hk | hk | rfl | rfl
  · exact hp.d.lt k hk
  · exact hp.r.lt k hk
  · exact h1.lt k hk
  · exact h2.lt k hk
  · exact h.m.lt
  · exact h.m2.lt
theorem Quad.below (h : Quad w0 B X S T S2 T2 b st A c g6 b2 sd sr v2 g9 c9 W) (hb : Below W.heap.size W W') : Quad w0 B X S T S2 T2 b st A c g6 b2 sd sr v2 g9 c9 W' :=
  ⟨h.d1.below hb, h.r1.below hb, h.d2.below hb, h.r2.below hb, h.m1.same (hb.block _ h.m1.lt), h.m2.same (hb.block _ h.m2.lt), h.o, h.a, h.a9, h.s2, fun k hk => ⟨(h.x k hk).1, Nat.lt_of_lt_of_le (h.x k hk).2 hb.size⟩, h.g, h.l0, Nat.le_trans h.l1 hb.size, h.bel.trans (hb.mono h.bel.size)⟩
/-- An operation of the second drive. -/
theorem Quad.drive (h : Quad w0 B (fun _ => False) S T S2 T2 b st A c g6 b2 sd sr v2 g9 c9 W) (hx : ∀ k, X k → B ≤ k ∧ k < W.heap.size) {p : St × Nat} {e : Ending} (hd : DOp S2 b2 p W e W') :
    e = .returned (.int .i64 (p.2 : Int)) ∧ Quad w0 W'.heap.size X S T (ext S2 W W') T2 b st A c g6 b2 p.1 sr v2 g9 c9 W' := by
  obtain ⟨he, h1, h2⟩ := hd
  have hs := h2.size
  have hl1 := h.l1
  have hl0 := h.l0
  have old : ∀ k, S k ∨ T k ∨ S2 k ∨ T2 k ∨ k = g6 ∨ k = g9 → k < W.heap.size := fun k hk => Nat.lt_of_lt_of_le (h.o k hk).1 hl1
  refine ⟨he, h.d1.mod h2 fun k hk e => (h.a k e).1 hk, h.r1.mod h2 fun k hk e => (h.a k e).2.1 hk, h1, h.r2.mod h2 fun k hk e => (h.a k e).2.2.1 hk, h.m1.same (h2.block _ h.m1.lt fun e => (h.a _ e).2.2.2.1 rfl), h.m2.same (h2.block _ h.m2.lt fun e => (h.a _ e).2.2.2.2 rfl), fun k hk => ?_, fun k hk => ?_, h.a9, fun k hk => ?_, fun k hk => ⟨by have := (hx k hk).1; omega, by have := (hx k hk).2; omega⟩, h.g, by omega, Nat.le_refl _, h.bel.trans (h2.to_below (fun k hk => h.s2 k hk) h.bel.size)⟩
  · have key : (S k ∨ T k ∨ S2 k ∨ T2 k ∨ k = g6 ∨ k = g9) ∨ (W.heap.size ≤ k ∧ k < W'.heap.size) := by
      rcases hk with hk | hk | hk | hk
      · exact .inl (.inl hk)
      · exact .inl (.inr (.inl hk))
      · rcases hk with hk | hk
        · exact .inl (.inr (.inr (.inl hk)))
        · exact .inr hk
      · exact .inl (.inr (.inr (.inr hk)))
    rcases key with key | key
    · have h3 := (h.o k key).1
      exact ⟨by omega, fun e => by have := (hx k e).1; omega⟩
    · exact ⟨key.2, fun e => by have := (hx k e).2; omega⟩
  · rcases hk with hk | hk
    · exact h.a k hk
    · refine ⟨fun e => ?_, fun e => ?_, fun e => ?_, fun e => ?_, fun e => ?_⟩
      · have := old k (.inl e); omega
      · have := old k (.inr (.inl e)); omega
      · have := old k (.inr (.inr (.inr (.inl e)))); omega
      · have := old k (.inr (.inr (.inr (.inr (.inl e))))); omega
      · have := old k (.inr (.inr (.inr (.inr (.inr e))))); omega
  · rcases hk with hk | hk
    · exact h.s2 k hk
    · omega
/-- An operation of the second reference. -/
theorem Quad.ref (h : Quad w0 B X S T S2 T2 b st A c g6 b2 sd sr v2 g9 c9 W) {p : St × Nat} {e : Ending} (hd : RRet2 T2 W p e W') :
    ∃ A3 c3, e = .returned (.tuple #[.agg #[.slice A3 p.1.files.length c3, .int .i64 (p.1.steps : Int), .bool p.1.armed, .int .i64 (p.1.left : Int)], .int .i64 (p.2 : Int)]) ∧ Quad w0 W'.heap.size X S T S2 (ext T2 W W') b st A c g6 b2 sd p.1 (.agg (refC A3 c3 p.1)) g9 c9 W' := by
  obtain ⟨v', he, h1, h2⟩ := hd
  obtain ⟨A3, c3, rfl, _, _⟩ := refV_of h1
  have hs := h2.size
  have hl1 := h.l1
  have hl0 := h.l0
  have q := h.below h2
  refine ⟨A3, c3, he, q.d1, q.r1, q.d2, h1, q.m1, q.m2, fun k hk => ?_, fun k hk => ⟨(h.a k hk).1, (h.a k hk).2.1, fun e => ?_, (h.a k hk).2.2.2⟩, ⟨h.a9.1, h.a9.2.1, fun e => ?_, h.a9.2.2.2⟩, h.s2, q.x, h.g, by omega, Nat.le_refl _, q.bel⟩
  · have key : (S k ∨ T k ∨ S2 k ∨ T2 k ∨ k = g6 ∨ k = g9) ∨ (W.heap.size ≤ k ∧ k < W'.heap.size) := by
      rcases hk with hk | hk | hk | hk | hk
      · exact .inl (.inl hk)
      · exact .inl (.inr (.inl hk))
      · exact .inl (.inr (.inr (.inl hk)))
      · rcases hk with hk | hk
        · exact .inl (.inr (.inr (.inr (.inl hk))))
        · exact .inr hk
      · exact .inl (.inr (.inr (.inr (.inr hk))))
    rcases key with key | key
    · have h3 := h.o k key
      exact ⟨by omega, h3.2⟩
    · exact ⟨key.2, fun e => by have := (h.x k e).2; omega⟩
  · rcases e with e | e
    · exact (h.a k hk).2.2.1 e
    · have := (h.o k (.inr (.inr (.inl hk)))).1; omega
  · rcases e with e | e
    · exact h.a9.2.2.1 e
    · have := (h.o g9 (.inr (.inr (.inr (.inr (.inr rfl)))))).1; omega
/-- The second reference's box filled. -/
theorem Quad.fill (h : Quad w0 B X S T S2 T2 b st A c g6 b2 sd sr v2 g9 c9 W) {x0 x1 x2 x3 : Value} (h9 : c9 = #[x0, x1, x2, x3]) (a0 a1 a2 a3 : Value) : Quad w0 B X S T S2 T2 b st A c g6 b2 sd sr v2 g9 #[a0, a1, a2, a3] (set4 W g9 a0 a1 a2 a3) := by
  have hsz := set4_size W g9 a0 a1 a2 a3
  subst h9
  have le : W.heap.size ≤ (set4 W g9 a0 a1 a2 a3).heap.size := by rw [hsz]; exact Nat.le_refl _
  exact ⟨h.d1.same (fun k hk => set4_off W a0 a1 a2 a3 fun e => h.a9.1 (e ▸ hk)) le, h.r1.same (fun k hk => set4_off W a0 a1 a2 a3 fun e => h.a9.2.1 (e ▸ hk)) le, h.d2.same (fun k hk => set4_off W a0 a1 a2 a3 (h.a k hk).2.2.2.2) le, h.r2.same (fun k hk => set4_off W a0 a1 a2 a3 fun e => h.a9.2.2.1 (e ▸ hk)) le, h.m1.same (set4_off W a0 a1 a2 a3 h.a9.2.2.2), set4_blk h.m2, h.o, h.a, h.a9, h.s2, fun k hk => by rw [hsz]; exact h.x k hk, h.g, h.l0, by rw [hsz]; exact h.l1, set4_below h.bel h.g⟩
/-- What is written lies elsewhere. -/
theorem Quad.free (h : Quad w0 B X S T S2 T2 b st A c g6 b2 sd sr v2 g9 c9 W) (hm : Mod (fun k => X k ∨ B ≤ k) W W') : Quad w0 B X S T S2 T2 b st A c g6 b2 sd sr v2 g9 c9 W' := by
  have off : ∀ k, S k ∨ T k ∨ S2 k ∨ T2 k ∨ k = g6 ∨ k = g9 → ¬ (X k ∨ B ≤ k) := fun k hk e => by
    have := h.o k hk
    rcases e with e | e
    · exact this.2 e
    · omega
  exact ⟨h.d1.mod hm fun k hk => off k (.inl hk), h.r1.mod hm fun k hk => off k (.inr (.inl hk)), h.d2.mod hm fun k hk => off k (.inr (.inr (.inl hk))), h.r2.mod hm fun k hk => off k (.inr (.inr (.inr (.inl hk)))), h.m1.same (hm.block _ h.m1.lt (off _ (.inr (.inr (.inr (.inr (.inl rfl))))))), h.m2.same (hm.block _ h.m2.lt (off _ (.inr (.inr (.inr (.inr (.inr rfl))))))), h.o, h.a, h.a9, h.s2, fun k hk => ⟨(h.x k hk).1, Nat.lt_of_lt_of_le (h.x k hk).2 hm.size⟩, h.g, h.l0, Nat.le_trans h.l1 hm.size, h.bel.trans (hm.to_below (fun k hk => hk.elim (fun e => (h.x k e).1) fun e => Nat.le_trans h.l0 e) h.bel.size)⟩
theorem Quad.row (h : Quad w0 B X S T S2 T2 b st A c g6 b2 sd sr v2 g9 c9 W) {row : Option Nat} (hg : W.grownBy W' row) (hr : ∀ k, row = some k → X k ∨ B ≤ k) : Quad w0 B X S T S2 T2 b st A c g6 b2 sd sr v2 g9 c9 W' := h.free (Mod.grown hg hr)
theorem Quad.tells2 {st3 : St} (h : Quad w0 B X S T S2 T2 b st A c g6 b2 st3 st3 v2 g9 c9 W) (hok : st3.Ok) : Calls Try.prog 13 #[.pointer (some ⟨b2, 0, none⟩), v2] W fun e W' => e = .returned (.bool true) ∧ Below W.heap.size W W' := tells_any h.d2 h.r2 hok
theorem Quad.tells1 (h : Quad w0 B X S T S2 T2 b st A c g6 b2 sd sr v2 g9 c9 W) (hok : st.Ok) : Calls Try.prog 13 #[.pointer (some ⟨b, 0, none⟩), .agg (refC A c st)] W fun e W' => e = .returned (.bool true) ∧ Below W.heap.size W W' := tells_any h.d1 h.r1 hok
end
end Dr
end Go.Proofs.Ytljhedgcpbapdaa
