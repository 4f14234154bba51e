/-
  WHAT IS PROVED: what a loss of power leaves of a drive and a reference in memory: a second drive and a second reference beside the first, that are played on alone. CONDITIONS: as each lemma names.
-/
import Derived.Test.YtljhedgcpbapdaaLScript
namespace Go.Proofs.Ytljhedgcpbapdaa
open Go Go.RowKit Go.Maps Go.Proofs.Ytljhedgcpbapdaa.Fr
namespace Dr

/-- A row of numbers. -/
structure KRow (w : World) (A : Option Addr) (n c : Nat) (ks : List Int) : Prop where
  l : ks.length = n
  c : n ≤ c
  m : n ≤ 140737488355328
  r : Rd w A (iv ks)
  i : ∀ k ∈ ks, -9223372036854775808 ≤ k ∧ k ≤ 9223372036854775807
theorem KRow.below {w w' : World} {A : Option Addr} {n c : Nat} {ks : List Int} (h : KRow w A n c ks) (hb : Below w.heap.size w w') : KRow w' A n c ks := ⟨h.l, h.c, h.m, h.r.below hb, h.i⟩
theorem KRow.nil (w : World) : KRow w none 0 0 [] := ⟨rfl, Nat.le_refl _, by omega, Rd.nil, fun k hk => by cases hk⟩

/-- As Pair, the blocks named. -/
structure PairX (w0 : World) (G S T : Nat → Prop) (b : Nat) (st : St) (v : Value) (W : World) : Prop where
  d : DriveRep W S b st
  r : RefRep W T v st
  s : ∀ k, S k → w0.heap.size ≤ k ∧ ¬ G k
  t : ∀ k, T k → w0.heap.size ≤ k ∧ ¬ G k
  a : ∀ k, S k → ¬ T k
  lt : ∀ k, G k → k < W.heap.size
  bel : Below w0.heap.size w0 W
/-- And a second drive, a second reference. -/
structure TwoX (w0 : World) (G S T : Nat → Prop) (b : Nat) (st : St) (v : Value) (b2 : Nat) (st2 : St) (v2 : Value) (W : World) : Prop where
  p : PairX w0 G S T b st v W
  q : ∃ S2 T2, DriveRep W S2 b2 st2 ∧ RefRep W T2 v2 st2 ∧ (∀ k, S2 k → (w0.heap.size ≤ k ∧ ¬ G k) ∧ ¬ S k ∧ ¬ T k) ∧ (∀ k, T2 k → w0.heap.size ≤ k ∧ ¬ G k) ∧ ∀ k, S2 k → ¬ T2 k
section
variable {w0 W W' Wa w5 Wb w6 Wf : World} {G G' S T X : Nat → Prop} {b b2 : Nat} {st st2 : St} {v v2 : Value}
theorem Pair.open_ (h : Pair w0 X b st v W) : ∃ S T, PairX w0 X S T b st v W :=
  let ⟨S, T, h1, h2, h3, h4, h5⟩ := h.reps; ⟨S, T, h1, h2, h3, h4, h5, h.lt, h.bel⟩
theorem PairX.pair (h : PairX w0 X S T b st v W) : Pair w0 X b st v W := ⟨⟨S, T, h.d, h.r, h.s, h.t, h.a⟩, h.lt, h.bel⟩
theorem PairX.below (h : PairX w0 G S T b st v W) (hb : Below W.heap.size W W') : PairX w0 G S T b st v W' :=
  ⟨h.d.below hb, h.r.below hb, h.s, h.t, h.a, fun k hk => Nat.lt_of_lt_of_le (h.lt k hk) hb.size, h.bel.trans (hb.mono h.bel.size)⟩
theorem PairX.weak (h : PairX w0 G S T b st v W) (hx : ∀ k, G' k → G k) : PairX w0 G' S T b st v W :=
  ⟨h.d, h.r, fun k hk => ⟨(h.s k hk).1, fun e => (h.s k hk).2 (hx k e)⟩, fun k hk => ⟨(h.t k hk).1, fun e => (h.t k hk).2 (hx k e)⟩, h.a, fun k hk => h.lt k (hx k hk), h.bel⟩
theorem PairX.tells (h : PairX w0 G S T b st v W) (hok : st.Ok) : Calls Try.prog 13 #[.pointer (some ⟨b, 0, none⟩), v] W fun e W' => e = .returned (.bool true) ∧ Below W.heap.size W W' := tells_any h.d h.r hok
theorem PairX.fill (h : PairX w0 G S T b st v W) {g : Nat} (hx : G g) (hg : w0.heap.size ≤ g) (a0 a1 a2 a3 : Value) : PairX w0 G S T b st v (set4 W g a0 a1 a2 a3) := by
  have hsz := set4_size W g a0 a1 a2 a3
  exact ⟨h.d.same (fun k hk => set4_off W a0 a1 a2 a3 fun e => (h.s k hk).2 (e ▸ hx)) (by rw [hsz]; exact Nat.le_refl _), h.r.same (fun k hk => set4_off W a0 a1 a2 a3 fun e => (h.t k hk).2 (e ▸ hx)) (by rw [hsz]; exact Nat.le_refl _), h.s, h.t, h.a, fun k hk => by rw [hsz]; exact h.lt k hk, set4_below h.bel hg⟩
/-- A new drive is answered, its blocks between the two worlds. -/
def CrD (st2 : St) (W : World) (e : Ending) (W' : World) : Prop := ∃ b2, e = .returned (.pointer (some ⟨b2, 0, none⟩)) ∧ DriveRep W' (New W W') b2 st2 ∧ Below W.heap.size W W'
/-- A new reference is answered. -/
def CrR (T : Nat → Prop) (st2 : St) (W : World) (e : Ending) (W' : World) : Prop := ∃ A c, e = .returned (.agg #[.slice A st2.files.length c, .int .i64 (st2.steps : Int), .bool st2.armed, .int .i64 (st2.left : Int)]) ∧ RefRep W' (ext T W W') (.agg (refC A c st2)) st2 ∧ Below W.heap.size W W'
theorem PairX.crash (h : PairX w0 G S T b st v W) (hok : st.Ok) {A : Option Addr} {n c : Nat} {ks : List Int} (hk : KRow W A n c ks) (h6 : st.crash ks = st2) :
    Calls Try.prog 15 #[.pointer (some ⟨b, 0, none⟩), .slice A n c] W (CrD st2 W) := by
  have h2 := crash_any h.d hok A n c ks hk.l hk.c hk.r
  rw [h6] at h2
  exact h2
theorem PairX.rcrash (h : PairX w0 G S T b st v W) (hok : st.Ok) {A : Option Addr} {n c : Nat} {ks : List Int} (hk : KRow W A n c ks) (h6 : st.crash ks = st2) :
    Calls Try.prog 16 #[v, .slice A n c] W (CrR T st2 W) := by
  have h3 := rcrash_any h.r hok A n c ks hk.l hk.r hk.m hk.i
  rw [h6] at h3
  refine h3.mono fun e X3 ⟨v', h7, h8, h9⟩ => ?_
  obtain ⟨A6, c6, rfl, _, _⟩ := refV_of h8
  exact ⟨A6, c6, h7, h8, h9⟩
/-- Both, the box of the second reference filled. -/
theorem TwoX.made (h : PairX w0 G S T b st v W) (ha : Below W.heap.size W Wa) (h5 : DriveRep w5 (New Wa w5) b2 st2) (hb5 : Below Wa.heap.size Wa w5) (hb : Below w5.heap.size w5 Wb) (h6 : RefRep w6 (ext T Wb w6) v2 st2) (hb6 : Below Wb.heap.size Wb w6) (hf : Below w6.heap.size w6 Wf)
    {g : Nat} (hg : W.heap.size ≤ g) (hg1 : g < Wa.heap.size ∨ w5.heap.size ≤ g) (hg2 : g < Wb.heap.size ∨ w6.heap.size ≤ g) (hg3 : g < Wf.heap.size) :
    TwoX w0 (fun k => G k ∨ k = g) S T b st v b2 st2 v2 Wf := by
  have s1 := ha.size
  have s2 := hb5.size
  have s3 := hb.size
  have s4 := hb6.size
  have s5 := hf.size
  have hx := (((((h.below ha).below hb5).below hb).below hb6).below hf)
  have s0 := h.bel.size
  refine ⟨⟨hx.d, hx.r, fun k hk => ⟨(hx.s k hk).1, fun e => ?_⟩, fun k hk => ⟨(hx.t k hk).1, fun e => ?_⟩, hx.a, fun k hk => ?_, hx.bel⟩, New Wa w5, ext T Wb w6, ((h5.below hb).below hb6).below hf, h6.below hf, fun k hk => ⟨⟨by have := hk.1; omega, fun e => ?_⟩, fun e => by have := h.d.lt k e; have := hk.1; omega, fun e => by have := h.r.lt k e; have := hk.1; omega⟩, fun k hk => ?_, fun k hk e => ?_⟩
  · rcases e with e | rfl
    · exact (h.s k hk).2 e
    · have := h.d.lt _ hk; omega
  · rcases e with e | rfl
    · exact (h.t k hk).2 e
    · have := h.r.lt _ hk; omega
  · rcases hk with e | rfl
    · exact hx.lt k e
    · exact hg3
  · rcases e with e | rfl
    · have := h.lt k e; have := hk.1; omega
    · have := hk.1; have := hk.2; omega
  · rcases hk with hk | hk
    · refine ⟨(h.t k hk).1, fun e => ?_⟩
      rcases e with e | rfl
      · exact (h.t k hk).2 e
      · have := h.r.lt _ hk; omega
    · refine ⟨by omega, fun e => ?_⟩
      rcases e with e | rfl
      · have := h.lt k e; omega
      · omega
  · have := hk.1
    have := hk.2
    rcases e with e | e
    · have := h.r.lt k e; omega
    · omega
theorem TwoX.below (h : TwoX w0 G S T b st v b2 st2 v2 W) (hb : Below W.heap.size W W') : TwoX w0 G S T b st v b2 st2 v2 W' :=
  let ⟨S2, T2, h1, h2, h3, h4, h5⟩ := h.q; ⟨h.p.below hb, S2, T2, h1.below hb, h2.below hb, h3, h4, h5⟩
theorem TwoX.fill (h : TwoX w0 G S T b st v b2 st2 v2 W) {g : Nat} (hx : G g) (hg : w0.heap.size ≤ g) (a0 a1 a2 a3 : Value) : TwoX w0 G S T b st v b2 st2 v2 (set4 W g a0 a1 a2 a3) := by
  have hsz := set4_size W g a0 a1 a2 a3
  obtain ⟨S2, T2, h1, h2, h3, h4, h5⟩ := h.q
  exact ⟨h.p.fill hx hg a0 a1 a2 a3, S2, T2, h1.same (fun k hk => set4_off W a0 a1 a2 a3 fun e => (h3 k hk).1.2 (e ▸ hx)) (by rw [hsz]; exact Nat.le_refl _), h2.same (fun k hk => set4_off W a0 a1 a2 a3 fun e => (h4 k hk).2 (e ▸ hx)) (by rw [hsz]; exact Nat.le_refl _), h3, h4, h5⟩
theorem TwoX.tells (h : TwoX w0 G S T b st v b2 st2 v2 W) (hok : st2.Ok) : Calls Try.prog 13 #[.pointer (some ⟨b2, 0, none⟩), v2] W fun e W' => e = .returned (.bool true) ∧ Below W.heap.size W W' :=
  let ⟨_, _, h1, h2, _⟩ := h.q; tells_any h1 h2 hok
theorem TwoX.dead (h : TwoX w0 G S T b st v b2 st2 v2 W) {d : Bool} (hd : st2.dead = d) : Calls Try.prog 17 #[.pointer (some ⟨b2, 0, none⟩)] W fun e w' => e = .returned (.bool d) ∧ W = w' := by
  obtain ⟨S2, T2, ⟨mb, Q, h1, _⟩, _⟩ := h.q
  subst hd
  exact dead_any h1
theorem TwoX.steps (h : TwoX w0 G S T b st v b2 st2 v2 W) {k : Nat} (hd : st2.steps = k) : Calls Try.prog 18 #[.pointer (some ⟨b2, 0, none⟩)] W fun e w' => e = .returned (.int .i64 (k : Int)) ∧ W = w' := by
  obtain ⟨S2, T2, ⟨mb, Q, h1, _⟩, _⟩ := h.q
  subst hd
  exact steps_any h1
def TwoRet (w0 : World) (G S T : Nat → Prop) (b : Nat) (st : St) (v : Value) (st2 : St) (W : World) (e : Ending) (W' : World) : Prop :=
  ∃ b2 A c, e = .returned (.tuple #[.pointer (some ⟨b2, 0, none⟩), .agg #[.slice A st2.files.length c, .int .i64 (st2.steps : Int), .bool st2.armed, .int .i64 (st2.left : Int)], .bool true]) ∧ TwoX w0 G S T b st v b2 st2 (.agg (refC A c st2)) W' ∧ ∀ k, G k → W'.heap[k]? = W.heap[k]?
theorem TwoX.play (h : TwoX w0 G S T b st v b2 st2 v2 W) (hok : st2.Ok) (hstep : st2.steps + 1 ≤ 9223372036854775807) {o : POp} {AB AK : Option Addr} {nB cB nK cK : Nat} (ho : OpAt w0 (fun _ => False) o AB nB cB AK nK cK) {st' : St} (hst : o.run st2 = st') :
    Calls Try.prog 14 #[.pointer (some ⟨b2, 0, none⟩), v2, .agg #[.int .i64 o.kind, .string o.name, .string o.tgt, .slice AB nB cB, .int .i64 o.n, .slice AK nK cK]] W (TwoRet w0 G S T b st v st' W) := by
  subst hst
  obtain ⟨S2, T2, h1, h2, h3, h4, h5⟩ := h.q
  have hp := h.p
  refine (play_any h1 h2 h5 hok hstep (ho.later hp.bel fun k hk => (h3 k hk).1.1)).mono fun e W' hpl => ?_
  obtain ⟨b', S', v', T', rfl, k1, k2, k3, k4, k5, k6⟩ := hpl
  obtain ⟨A, c, rfl, _, _⟩ := refV_of k2
  have hs := hp.bel.size
  refine ⟨b', A, c, rfl, ⟨⟨hp.d.mod k6 fun k hk e => (h3 k e).2.1 hk, hp.r.mod k6 fun k hk e => (h3 k e).2.2 hk, hp.s, hp.t, hp.a, fun k hk => Nat.lt_of_lt_of_le (hp.lt k hk) k6.size, hp.bel.trans (k6.to_below (fun k hk => (h3 k hk).1.1) hs)⟩, S', T', k1, k2, fun k hk => ?_, fun k hk => ?_, k5⟩, fun k hk => k6.block k (hp.lt k hk) fun h7 => (h3 k h7).1.2 hk⟩
  · rcases k3 k hk with h7 | h7
    · exact h3 k h7
    · exact ⟨⟨by omega, fun h8 => by have := hp.lt k h8; omega⟩, fun h8 => by have := hp.d.lt k h8; omega, fun h8 => by have := hp.r.lt k h8; omega⟩
  · rcases k4 k hk with h7 | h7
    · exact h4 k h7
    · exact ⟨by omega, fun h8 => by have := hp.lt k h8; omega⟩
end
end Dr
end Go.Proofs.Ytljhedgcpbapdaa
