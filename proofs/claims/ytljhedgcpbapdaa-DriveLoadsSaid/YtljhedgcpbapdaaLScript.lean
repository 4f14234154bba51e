/-
  WHAT IS PROVED: what the law's 'built' answers. CONDITIONS: the script stands in memory as named.
-/
import Derived.Test.YtljhedgcpbapdaaLBuilt
namespace Go.Proofs.Ytljhedgcpbapdaa
open Go Go.RowKit Go.Maps Go.Proofs.Ytljhedgcpbapdaa.Fr
namespace Dr

/-- An op with the rows that it came in with. -/
structure OpM where
  o : POp
  AB : Option Addr
  nB : Nat
  cB : Nat
  AK : Option Addr
  nK : Nat
  cK : Nat
/-- One op at a place. -/
def OpCells (w : World) (g p : Nat) (m : OpM) : Prop :=
  w.cell? ⟨g, p, none⟩ = some (.int .i64 m.o.kind) ∧ w.cell? ⟨g, p + 1, none⟩ = some (.string m.o.name) ∧ w.cell? ⟨g, p + 2, none⟩ = some (.string m.o.tgt) ∧ w.cell? ⟨g, p + 3, none⟩ = some (.slice m.AB m.nB m.cB) ∧ w.cell? ⟨g, p + 4, none⟩ = some (.int .i64 m.o.n) ∧ w.cell? ⟨g, p + 5, none⟩ = some (.slice m.AK m.nK m.cK)
/-- A SCRIPT IN MEMORY. -/
structure Script (w : World) (A : Option Addr) (L : List OpM) : Prop where
  cell : ∀ i m, L[i]? = some m → ∃ g p, A = some ⟨g, p, none⟩ ∧ g < w.heap.size ∧ OpCells w g (p + i * 6) m
  ops : ∀ m ∈ L, OpAt w (fun _ => False) m.o m.AB m.nB m.cB m.AK m.nK m.cK
def runs (L : List OpM) (st : St) : St := L.foldl (fun st m => m.o.run st) st
theorem runs_snoc {L : List OpM} {i : Nat} {m : OpM} (h : L[i]? = some m) (st : St) : runs (L.take (i + 1)) st = m.o.run (runs (L.take i) st) := by
  rw [List.take_add_one, h]
  simp [runs, List.foldl_append]
theorem OpCells.below {w w' : World} {g p : Nat} {m : OpM} (h : OpCells w g p m) (hg : g < w.heap.size) (hb : Below w.heap.size w w') : OpCells w' g p m :=
  let k := fun o => hb.cell (p := ⟨g, o, none⟩) hg
  ⟨(k _).trans h.1, (k _).trans h.2.1, (k _).trans h.2.2.1, (k _).trans h.2.2.2.1, (k _).trans h.2.2.2.2.1, (k _).trans h.2.2.2.2.2⟩
theorem OpAt.later {w w' : World} {S : Nat → Prop} {o : POp} {AB AK : Option Addr} {nB cB nK cK : Nat} (h : OpAt w (fun _ => False) o AB nB cB AK nK cK) (hb : Below w.heap.size w w') (hS : ∀ k, S k → w.heap.size ≤ k) : OpAt w' S o AB nB cB AK nK cK := by
  refine ⟨h.k0, h.k1, h.name, h.tgt, h.lB, h.mB, h.rB.below hb, fun hne a ha hs => ?_, h.n0, h.n1, h.lK, h.cK, h.mK, h.rK.below hb, fun hne a ha hs => ?_, h.iK⟩
  · obtain ⟨g, o', e, hg, _⟩ := h.rB (by simpa [bv] using hne)
    rw [e] at ha
    cases ha
    have := hS _ hs
    simp at this
    omega
  · obtain ⟨g, o', e, hg, _⟩ := h.rK (by simpa [iv] using hne)
    rw [e] at ha
    cases ha
    have := hS _ hs
    simp at this
    omega

/-- A drive and a reference, the same plain drive, both newer than w0, apart, and off the blocks of X. -/
structure Pair (w0 : World) (X : Nat → Prop) (b : Nat) (st : St) (v : Value) (W : World) : Prop where
  reps : ∃ S T, DriveRep W S b st ∧ RefRep W T v st ∧ (∀ k, S k → w0.heap.size ≤ k ∧ ¬ X k) ∧ (∀ k, T k → w0.heap.size ≤ k ∧ ¬ X k) ∧ ∀ k, S k → ¬ T k
  lt : ∀ k, X k → k < W.heap.size
  bel : Below w0.heap.size w0 W
def PairRet (w0 : World) (X : Nat → Prop) (st : St) (W : World) (e : Ending) (W' : World) : Prop :=
  ∃ b A c, e = .returned (.tuple #[.pointer (some ⟨b, 0, none⟩), .agg #[.slice A st.files.length c, .int .i64 (st.steps : Int), .bool st.armed, .int .i64 (st.left : Int)], .bool true]) ∧ Pair w0 X b st (.agg (refC A c st)) W' ∧ ∀ k, X k → W'.heap[k]? = W.heap[k]?
section
variable {w0 W W' : World} {X X' : Nat → Prop} {b : Nat} {st : St} {v : Value}
theorem Pair.below (h : Pair w0 X b st v W) (hb : Below W.heap.size W W') : Pair w0 X b st v W' :=
  let ⟨S, T, h1, h2, h3, h4, h5⟩ := h.reps
  ⟨⟨S, T, h1.below hb, h2.below hb, h3, h4, h5⟩, fun k hk => Nat.lt_of_lt_of_le (h.lt k hk) hb.size, h.bel.trans (hb.mono h.bel.size)⟩
theorem Pair.drew (h : Pair w0 X b st v W) : Pair w0 X b st v W.drew := h.below (below_drewN (Below.refl _ _) 1)
theorem Pair.weak (h : Pair w0 X b st v W) (hx : ∀ k, X' k → X k) : Pair w0 X' b st v W :=
  let ⟨S, T, h1, h2, h3, h4, h5⟩ := h.reps
  ⟨⟨S, T, h1, h2, fun k hk => ⟨(h3 k hk).1, fun hx' => (h3 k hk).2 (hx k hx')⟩, fun k hk => ⟨(h4 k hk).1, fun hx' => (h4 k hk).2 (hx k hx')⟩, h5⟩, fun k hk => h.lt k (hx k hk), h.bel⟩
/-- Newer than an older world. -/
theorem Pair.base {w : World} (h : Pair w0 X b st v W) (hb : Below w.heap.size w w0) : Pair w X b st v W :=
  let ⟨S, T, h1, h2, h3, h4, h5⟩ := h.reps
  ⟨⟨S, T, h1, h2, fun k hk => ⟨Nat.le_trans hb.size (h3 k hk).1, (h3 k hk).2⟩, fun k hk => ⟨Nat.le_trans hb.size (h4 k hk).1, (h4 k hk).2⟩, h5⟩, h.lt, hb.trans (h.bel.mono hb.size)⟩
/-- What is made behind both isn't theirs. -/
theorem Pair.add (h : Pair w0 X b st v W) (hb : Below W.heap.size W W') (hx : ∀ k, X' k → X k ∨ (W.heap.size ≤ k ∧ k < W'.heap.size)) : Pair w0 X' b st v W' := by
  obtain ⟨S, T, h1, h2, h3, h4, h5⟩ := h.reps
  refine ⟨⟨S, T, h1.below hb, h2.below hb, fun k hk => ⟨(h3 k hk).1, fun h6 => ?_⟩, fun k hk => ⟨(h4 k hk).1, fun h6 => ?_⟩, h5⟩, fun k hk => ?_, h.bel.trans (hb.mono h.bel.size)⟩
  · rcases hx k h6 with h7 | h7
    · exact (h3 k hk).2 h7
    · have := h1.lt k hk; omega
  · rcases hx k h6 with h7 | h7
    · exact (h4 k hk).2 h7
    · have := h2.lt k hk; omega
  · rcases hx k hk with h7 | h7
    · exact Nat.lt_of_lt_of_le (h.lt k h7) hb.size
    · exact h7.2
/-- A box of X filled. -/
theorem Pair.fill (h : Pair w0 X b st v W) {g : Nat} (hx : X g) (hg : w0.heap.size ≤ g) (a0 a1 a2 a3 : Value) : Pair w0 X b st v (set4 W g a0 a1 a2 a3) := by
  obtain ⟨S, T, h1, h2, h3, h4, h5⟩ := h.reps
  have hsz := set4_size W g a0 a1 a2 a3
  refine ⟨⟨S, T, h1.same (fun k hk => set4_off W a0 a1 a2 a3 fun e => (h3 k hk).2 (e ▸ hx)) (by rw [hsz]; exact Nat.le_refl _), h2.same (fun k hk => set4_off W a0 a1 a2 a3 fun e => (h4 k hk).2 (e ▸ hx)) (by rw [hsz]; exact Nat.le_refl _), h3, h4, h5⟩, fun k hk => by rw [hsz]; exact h.lt k hk, set4_below h.bel hg⟩
theorem Pair.play (h : Pair w0 X b st v W) (hok : st.Ok) (hstep : st.steps + 1 ≤ 9223372036854775807) {o : POp} {AB AK : Option Addr} {nB cB nK cK : Nat} (ho : OpAt w0 (fun _ => False) o AB nB cB AK nK cK) {st' : St} (hst : o.run st = st') :
    Calls Try.prog 14 #[.pointer (some ⟨b, 0, none⟩), v, .agg #[.int .i64 o.kind, .string o.name, .string o.tgt, .slice AB nB cB, .int .i64 o.n, .slice AK nK cK]] W (PairRet w0 X st' W) := by
  subst hst
  obtain ⟨S, T, h1, h2, h3, h4, h5⟩ := h.reps
  refine (play_any h1 h2 h5 hok hstep (ho.later h.bel fun k hk => (h3 k hk).1)).mono fun e W' hp => ?_
  obtain ⟨b', S', v', T', rfl, k1, k2, k3, k4, k5, k6⟩ := hp
  obtain ⟨A, c, rfl, _, _⟩ := refV_of k2
  have hs := h.bel.size
  refine ⟨b', A, c, rfl, ⟨⟨S', T', k1, k2, fun k hk => ?_, fun k hk => ?_, k5⟩, fun k hk => Nat.lt_of_lt_of_le (h.lt k hk) k6.size, h.bel.trans (k6.to_below (fun k hk => (h3 k hk).1) hs)⟩, fun k hk => k6.block k (h.lt k hk) fun h7 => (h3 k h7).2 hk⟩
  · rcases k3 k hk with h7 | h7
    · exact h3 k h7
    · exact ⟨by omega, fun h8 => by have := h.lt k h8; omega⟩
  · rcases k4 k hk with h7 | h7
    · exact h4 k h7
    · exact ⟨by omega, fun h8 => by have := h.lt k h8; omega⟩
theorem Pair.tells (h : Pair w0 X b st v W) (hok : st.Ok) : Calls Try.prog 13 #[.pointer (some ⟨b, 0, none⟩), v] W fun e W' => e = .returned (.bool true) ∧ Below W.heap.size W W' :=
  let ⟨_, _, h1, h2, _⟩ := h.reps; tells_any h1 h2 hok
/-- A new drive, and a reference without files. -/
theorem Pair.start {w1 w2 : World} (h : DNew w1 .empty (.returned (.pointer (some ⟨b, 0, none⟩))) w2) (hb : Below w0.heap.size w0 w1) (hx : ∀ k, X k → k < w1.heap.size ∨ (w2.heap.size ≤ k ∧ k < W.heap.size)) (hb2 : Below w2.heap.size w2 W) : Pair w0 X b .empty (.agg (refC none 0 .empty)) W := by
  obtain ⟨b', e, h1, h2⟩ := h
  cases e
  have := hb.size
  refine ⟨⟨_, fun _ => False, h1.below hb2, ⟨_, rfl, ListAt.nil _⟩, fun k hk => ⟨by have := hk.1; omega, fun h3 => ?_⟩, fun k hk => hk.elim, fun k _ hk => hk⟩, fun k hk => ?_, (hb.trans (h2.mono hb.size)).trans (hb2.mono (Nat.le_trans hb.size h2.size))⟩
  · rcases hx k h3 with h4 | h4
    · have := hk.1; omega
    · have := hk.2; omega
  · rcases hx k hk with h4 | h4
    · have := h2.size; have := hb2.size; omega
    · exact h4.2
end

/-- What every world of 'built' has: the two, the reference's box and the result's. -/
structure BuS (w0 : World) (gm b : Nat) (st : St) (A : Option Addr) (c : Nat) (W : World) : Prop where
  p : Pair w0 (fun k => k = w0.heap.size ∨ k = gm) b st (.agg (refC A c st)) W
  m : Blk W gm 26 (refC A c st)
  r : Box4 W w0.heap.size
  g : w0.heap.size < gm
def BuInv (w0 : World) (gm : Nat) (L : List OpM) (s5 s7 s8 : Value) (W : World) : Prop :=
  ∃ (i b : Nat) (st : St) (A : Option Addr) (c : Nat), i ≤ 80 ∧ i ≤ L.length ∧ s5 = .pointer (some ⟨b, 0, none⟩) ∧ s7 = .bool true ∧ s8 = .int .i64 (i : Int) ∧ runs (L.take i) .empty = st ∧ st.Ok ∧ st.steps ≤ i ∧ BuS w0 gm b st A c W
def BuRet (w0 : World) (L : List OpM) (e : Ending) (W : World) : Prop :=
  ∃ (b : Nat) (st : St) (A : Option Addr) (c : Nat), e = .returned (.tuple #[.pointer (some ⟨b, 0, none⟩), .agg #[.slice A st.files.length c, .int .i64 (st.steps : Int), .bool st.armed, .int .i64 (st.left : Int)], .bool true]) ∧ runs (L.take 80) .empty = st ∧ st.Ok ∧ st.steps ≤ 80 ∧ Pair w0 (fun _ => False) b st (.agg (refC A c st)) W
section
variable {w0 W W' : World} {gm b : Nat} {st : St} {A : Option Addr} {c : Nat} {L : List OpM}
theorem BuS.drew (h : BuS w0 gm b st A c W) : BuS w0 gm b st A c W.drew := ⟨h.p.drew, h.m, h.r, h.g⟩
theorem BuS.cells (h : BuS w0 gm b st A c W) : (W.cell? ⟨gm, 0, none⟩ = some (.slice A st.files.length c) ∧ W.cell? ⟨gm, 1, none⟩ = some (.int .i64 (st.steps : Int)) ∧ W.cell? ⟨gm, 2, none⟩ = some (.bool st.armed) ∧ W.cell? ⟨gm, 3, none⟩ = some (.int .i64 (st.left : Int))) := blk_cells4 h.m
theorem BuS.fillr (h : BuS w0 gm b st A c W) (a0 a1 a2 a3 : Value) : BuS w0 gm b st A c (set4 W w0.heap.size a0 a1 a2 a3) :=
  let ⟨_, _, _, _, h7⟩ := h.r
  ⟨h.p.fill (.inl rfl) (Nat.le_refl _) a0 a1 a2 a3, h.m.same (set4_off W a0 a1 a2 a3 (by have := h.g; omega)), ⟨_, _, _, _, set4_blk h7⟩, h.g⟩
theorem box_any {X : World} {g : Nat} (h : Box4 X g) : ∃ a0 a1 a2 a3, Hid (Blk X g 26 #[a0, a1, a2, a3]) ∧ (X.cell? ⟨g, 0, none⟩ = some a0 ∧ X.cell? ⟨g, 1, none⟩ = some a1 ∧ X.cell? ⟨g, 2, none⟩ = some a2 ∧ X.cell? ⟨g, 3, none⟩ = some a3) ∧ (X.frozen? ⟨g, 0, none⟩ = false ∧ X.frozen? ⟨g, 1, none⟩ = false ∧ X.frozen? ⟨g, 2, none⟩ = false ∧ X.frozen? ⟨g, 3, none⟩ = false) :=
  let ⟨a0, a1, a2, a3, h7⟩ := h; ⟨a0, a1, a2, a3, h7, blk_cells4 h7, blk_free4 h7⟩
/-- One op played, its answer stored. -/
theorem BuS.next (h : BuS w0 gm b st A c W) {b' : Nat} {st' : St} {A' : Option Addr} {c' : Nat} (hp : Pair w0 (fun k => k = w0.heap.size ∨ k = gm) b' st' (.agg (refC A' c' st')) W') (hk : ∀ k, (k = w0.heap.size ∨ k = gm) → W'.heap[k]? = W.heap[k]?) :
    BuS w0 gm b' st' A' c' (set4 W' gm (.slice A' st'.files.length c') (.int .i64 (st'.steps : Int)) (.bool st'.armed) (.int .i64 (st'.left : Int))) := by
  obtain ⟨a0, a1, a2, a3, h7⟩ := h.r
  refine ⟨hp.fill (.inr rfl) (Nat.le_of_lt h.g) _ _ _ _, set4_blk (h.m.same (hk gm (.inr rfl))), ⟨a0, a1, a2, a3, (h7.same (hk _ (.inl rfl))).same (set4_off W' _ _ _ _ (by have := h.g; omega))⟩, h.g⟩
/-- What every world of a round has: the op. -/
structure BuR (w0 : World) (g p : Nat) (m : OpM) (W : World) : Prop where
  c : OpCells w0 g p m
  l : g < w0.heap.size
  b : Below w0.heap.size w0 W
theorem BuR.cells {g p : Nat} {m : OpM} (h : BuR w0 g p m W) : W.cell? ⟨g, p, none⟩ = some (.int .i64 m.o.kind) ∧ W.cell? ⟨g, p + 1, none⟩ = some (.string m.o.name) ∧ W.cell? ⟨g, p + 2, none⟩ = some (.string m.o.tgt) ∧ W.cell? ⟨g, p + 3, none⟩ = some (.slice m.AB m.nB m.cB) ∧ W.cell? ⟨g, p + 4, none⟩ = some (.int .i64 m.o.n) ∧ W.cell? ⟨g, p + 5, none⟩ = some (.slice m.AK m.nK m.cK) := h.c.below h.l h.b
theorem BuR.drew {g p : Nat} {m : OpM} (h : BuR w0 g p m W) : BuR w0 g p m W.drew := ⟨h.c, h.l, h.b.trans (below_drewN (Below.refl _ _) 1)⟩
theorem BuR.to {g p : Nat} {m : OpM} (h : BuR w0 g p m W) (hb : Below w0.heap.size w0 W') : BuR w0 g p m W' := ⟨h.c, h.l, hb⟩
theorem BuR.fill {g p : Nat} {m : OpM} (h : BuR w0 g p m W) (hg : w0.heap.size ≤ gm) (a0 a1 a2 a3 : Value) : BuR w0 g p m (set4 W gm a0 a1 a2 a3) := ⟨h.c, h.l, set4_below h.b hg⟩
end
set_option maxRecDepth 100000 in
set_option maxHeartbeats 1000000 in
theorem built_any (w : World) (A0 : Option Addr) (n0 c0 : Nat) (L : List OpM) (hn : L.length = n0) (hL : Script w A0 L) :
    Calls Try.prog 9 #[.slice A0 n0 c0] w (BuRet w L) := by
  have HN := Lib.hid hn
  have HL := Lib.hid hL
  have hc1 := fun W => new_any W
  have HC1 := Lib.hid hc1
  clear hn hL hc1
  go_enter Try.func9, Try.ntmps9
  go_wp2_with (go_at_call 23; refine (HC1.out _).mono ?_; intro e w1 hp; have HP := Lib.hid hp; obtain ⟨b, rfl, hd1, hb1⟩ := hp)
  have hs1 : w.heap.size + 1 ≤ w1.heap.size := by have := hb1.size; simpa using this
  have hI : BuS w w1.heap.size b .empty none 0 (w1.alloc (.cells #[.slice none 0 0, .int .i64 0, .bool false, .int .i64 0] 26)) :=
    ⟨Pair.start HP.out ((Below.refl _ _).alloc (Nat.le_refl _) _) (fun k hk => by
      rcases hk with rfl | rfl
      · exact .inl (by simp)
      · exact .inr (by simp)) ((Below.refl _ _).alloc (Nat.le_refl _) _), Blk.new _ _ _, ⟨_, _, _, _, ((Blk.new w _ _).same (hb1.block _ (by simp))).alloc _⟩, by omega⟩
  clear HP hd1 hb1
  go_loopw [5, 7, 8] (BuInv w w1.heap.size L) (fun _ _ x _ => 80 - (intOf x).toNat)
  case atStart => exact ⟨0, b, .empty, none, 0, by omega, by omega, rfl, rfl, rfl, rfl, ok_empty, by decide, hI⟩
  case round =>
    clear hI
    obtain ⟨i, b, st, A, c, hi, hil, rfl, rfl, rfl, hst, hok, hstep, hS⟩ := hrel
    have HOK := Lib.hid hok
    have HST := Lib.hid hst
    have hil' : i ≤ n0 := by have := HN.out; omega
    clear hok hst hil
    by_cases hlt : i < 80 ∧ i < n0
    · obtain ⟨hlt1, hlt2⟩ := hlt
      obtain ⟨m, hm⟩ : ∃ m, L[i]? = some m := ⟨L[i]'(by have := HN.out; omega), List.getElem?_eq_getElem _⟩
      obtain ⟨g0, p0, rfl, hg0, hoc⟩ := HL.out.cell i m hm
      have HM := Lib.hid hm
      have HS := Lib.hid hS
      have HC := Lib.hid hoc
      have hlt' : (i : Int) < (n0 : Int) := by omega
      obtain ⟨a0, a1, a2, a3⟩ := hS.cells
      obtain ⟨st', hrun⟩ : ∃ st', m.o.run st = st' := ⟨_, rfl⟩
      have HRUN := Lib.hid hrun
      clear hrun hm hoc
      go_upto_region 6 with fail
      have hR : BuR w g0 (p0 + i * 6) m wr := ⟨HC.out, hg0, hS.p.bel⟩
      have HOP := Lib.hid (HL.out.ops m (List.mem_of_getElem? HM.out))
      clear hS
      refine wp_region_held_drew (S := BuR w g0 (p0 + i * 6) m) (by kernel_rfl) (by (first | (with_reducible assumption) | (with_reducible exact BuR.drew (by assumption)) | (exact BuR.to hR hP2.bel) | (exact BuR.fill (by assumption) (Nat.le_of_lt HS.out.g) _ _ _ _))) (fun hHeld => ?_)
      refine wpAnyH_take (i := 0) (v := ?vr1_0) (Fr.take_at rfl) (by kernel_rfl) (by kernel_rfl) (by kernel_rfl) (fun _ _ _ h => h) (Or.inl ⟨by rfl, ?yr1_0⟩) (by assumption) ?nr1_0
      case yr1_0 => (intro w_ hSw; obtain ⟨q0, q1, q2, q3, q4, q5⟩ := BuR.cells hSw; go_simp; (try with_reducible rfl))
      try simp only [Act.put, List.setIfInBounds_toArray, List.set_cons_zero, List.set_cons_succ]
      refine wpAnyH_take (i := 2) (v := ?vr1_2) (Fr.take_at rfl) (by kernel_rfl) (by kernel_rfl) (by kernel_rfl) (fun _ _ _ h => h) (Or.inl ⟨by rfl, ?yr1_2⟩) (by assumption) ?nr1_2
      case yr1_2 => (intro w_ hSw; obtain ⟨q0, q1, q2, q3, q4, q5⟩ := BuR.cells hSw; go_simp; (try with_reducible rfl))
      try simp only [Act.put, List.setIfInBounds_toArray, List.set_cons_zero, List.set_cons_succ]
      refine wpAnyH_take (i := 3) (v := ?vr1_3) (Fr.take_at rfl) (by kernel_rfl) (by kernel_rfl) (by kernel_rfl) (fun _ _ _ h => h) (Or.inl ⟨by rfl, ?yr1_3⟩) (by assumption) ?nr1_3
      case yr1_3 => (intro w_ hSw; obtain ⟨q0, q1, q2, q3, q4, q5⟩ := BuR.cells hSw; go_simp; (try with_reducible rfl))
      try simp only [Act.put, List.setIfInBounds_toArray, List.set_cons_zero, List.set_cons_succ]
      refine wpAnyH_take (i := 4) (v := ?vr1_4) (Fr.take_at rfl) (by kernel_rfl) (by kernel_rfl) (by kernel_rfl) (fun _ _ _ h => h) (Or.inl ⟨by rfl, ?yr1_4⟩) (by assumption) ?nr1_4
      case yr1_4 => (intro w_ hSw; obtain ⟨q0, q1, q2, q3, q4, q5⟩ := BuR.cells hSw; go_simp; (try with_reducible rfl))
      try simp only [Act.put, List.setIfInBounds_toArray, List.set_cons_zero, List.set_cons_succ]
      refine wpAnyH_take (i := 5) (v := ?vr1_5) (Fr.take_at rfl) (by kernel_rfl) (by kernel_rfl) (by kernel_rfl) (fun _ _ _ h => h) (Or.inl ⟨by rfl, ?yr1_5⟩) (by assumption) ?nr1_5
      case yr1_5 => (intro w_ hSw; obtain ⟨q0, q1, q2, q3, q4, q5⟩ := BuR.cells hSw; go_simp; (try with_reducible rfl))
      try simp only [Act.put, List.setIfInBounds_toArray, List.set_cons_zero, List.set_cons_succ]
      refine wpAnyH_ready (rs := [1]) (by kernel_rfl) (by simp) ?_
      refine AllReadyH.cons (Fr.take_at rfl) (fun K hK => ?_) AllReadyH.nil
      go_simp
      refine hK.out _ _ (by (first | (with_reducible assumption) | (with_reducible exact BuR.drew (by assumption)) | (exact BuR.to hR hP2.bel) | (exact BuR.fill (by assumption) (Nat.le_of_lt HS.out.g) _ _ _ _))) (fun hHeld => ?_)
      clear hK K
      try simp only [Act.put, List.setIfInBounds_toArray, List.set_cons_zero, List.set_cons_succ]
      refine wpAnyH_ready (rs := [6]) (by kernel_rfl) (by simp) ?_
      refine AllReadyH.cons (Fr.take_at rfl) (fun K hK => ?_) AllReadyH.nil
      go_simp
      (go_at_call 14; refine (Pair.play HS.out.p.drew HOK.out (by omega) HOP.out HRUN.out).mono ?_; rintro e w3 ⟨b2, A2, c2, rfl, hP2, hk2⟩; have hS2 := HS.out.next hP2 hk2; obtain ⟨x0, x1, x2, x3, hx, ⟨y0, y1, y2, y3⟩, ⟨z0, z1, z2, z3⟩⟩ := box_any ⟨_, _, _, _, HS.out.m.same (hk2 _ (Or.inr rfl))⟩)
      try go_wp2_with fail
      refine hK.out _ _ (by (first | (with_reducible assumption) | (with_reducible exact BuR.drew (by assumption)) | (exact BuR.to hR hP2.bel) | (exact BuR.fill (by assumption) (Nat.le_of_lt HS.out.g) _ _ _ _))) (fun hHeld => ?_)
      clear hK K
      try simp only [Act.put, List.setIfInBounds_toArray, List.set_cons_zero, List.set_cons_succ]
      refine wpAnyH_take (i := 7) (v := ?vr1_7) (Fr.take_at rfl) (by kernel_rfl) (by kernel_rfl) (by kernel_rfl) (fun _ _ _ h => h) (Or.inl ⟨by rfl, ?yr1_7⟩) (by assumption) ?nr1_7
      case yr1_7 => (intro w_ hSw; obtain ⟨q0, q1, q2, q3, q4, q5⟩ := BuR.cells hSw; go_simp; (try with_reducible rfl))
      try simp only [Act.put, List.setIfInBounds_toArray, List.set_cons_zero, List.set_cons_succ]
      refine wpAnyH_take (i := 8) (v := ?vr1_8) (Fr.take_at rfl) (by kernel_rfl) (by kernel_rfl) (by kernel_rfl) (fun _ _ _ h => h) (Or.inl ⟨by rfl, ?yr1_8⟩) (by assumption) ?nr1_8
      case yr1_8 => (intro w_ hSw; obtain ⟨q0, q1, q2, q3, q4, q5⟩ := BuR.cells hSw; go_simp; (try with_reducible rfl))
      try simp only [Act.put, List.setIfInBounds_toArray, List.set_cons_zero, List.set_cons_succ]
      refine wpAnyH_take (i := 9) (v := ?vr1_9) (Fr.take_at rfl) (by kernel_rfl) (by kernel_rfl) (by kernel_rfl) (fun _ _ _ h => h) (Or.inl ⟨by rfl, ?yr1_9⟩) (by assumption) ?nr1_9
      case yr1_9 => (intro w_ hSw; obtain ⟨q0, q1, q2, q3, q4, q5⟩ := BuR.cells hSw; go_simp; (try with_reducible rfl))
      try simp only [Act.put, List.setIfInBounds_toArray, List.set_cons_zero, List.set_cons_succ]
      refine wpAnyH_take (i := 10) (v := ?vr1_10) (Fr.take_at rfl) (by kernel_rfl) (by kernel_rfl) (by kernel_rfl) (fun _ _ _ h => h) (Or.inl ⟨by rfl, ?yr1_10⟩) (by assumption) ?nr1_10
      case yr1_10 => (intro w_ hSw; obtain ⟨q0, q1, q2, q3, q4, q5⟩ := BuR.cells hSw; go_simp; (try with_reducible rfl))
      try simp only [Act.put, List.setIfInBounds_toArray, List.set_cons_zero, List.set_cons_succ]
      refine wpAnyH_take (i := 11) (v := ?vr1_11) (Fr.take_at rfl) (by kernel_rfl) (by kernel_rfl) (by kernel_rfl) (fun _ _ _ h => h) (Or.inl ⟨by rfl, ?yr1_11⟩) (by assumption) ?nr1_11
      case yr1_11 => (intro w_ hSw; obtain ⟨q0, q1, q2, q3, q4, q5⟩ := BuR.cells hSw; go_simp; (try with_reducible rfl))
      try simp only [Act.put, List.setIfInBounds_toArray, List.set_cons_zero, List.set_cons_succ]
      refine wpAnyH_ready (rs := [12]) (by kernel_rfl) (by simp) ?_
      refine AllReadyH.cons (Fr.take_at rfl) (fun K hK => ?_) AllReadyH.nil
      go_simp
      refine hK.out _ _ (by (first | (with_reducible assumption) | (with_reducible exact BuR.drew (by assumption)) | (exact BuR.to hR hP2.bel) | (exact BuR.fill (by assumption) (Nat.le_of_lt HS.out.g) _ _ _ _))) (fun hHeld => ?_)
      clear hK K
      try simp only [Act.put, List.setIfInBounds_toArray, List.set_cons_zero, List.set_cons_succ]
      refine wpAnyH_take (i := 13) (v := ?vr1_13) (Fr.take_at rfl) (by kernel_rfl) (by kernel_rfl) (by kernel_rfl) (fun _ _ _ h => h) (Or.inl ⟨by rfl, ?yr1_13⟩) (by assumption) ?nr1_13
      case yr1_13 => (intro w_ hSw; obtain ⟨q0, q1, q2, q3, q4, q5⟩ := BuR.cells hSw; go_simp; (try with_reducible rfl))
      try simp only [Act.put, List.setIfInBounds_toArray, List.set_cons_zero, List.set_cons_succ]
      refine wpAnyH_done (by kernel_rfl) ?_ _
      clear a0 a1 a2 a3
      have hst2 : st'.steps ≤ i + 1 := by have := run_steps st m.o; rw [HRUN.out] at this; omega
      have hok2 : st'.Ok := by have := run_ok HOK.out m.o HOP.out.n1; rw [HRUN.out] at this; exact this
      have hrn2 : runs (L.take (i + 1)) .empty = st' := by rw [runs_snoc HM.out, HST.out, HRUN.out]
      have H1 := Lib.hid hst2
      have H2 := Lib.hid hok2
      have H3 := Lib.hid hrn2
      clear hst2 hok2 hrn2
      go_wp2
      go_roundw
      case rel => exact ⟨i + 1, _, st', _, _, by omega, by have := HN.out; omega, rfl, rfl, by go_num, H3.out, H2.out, H1.out, hS2⟩
      case measure => simp [intOf]; omega
    · have hend : runs (L.take 80) .empty = st := by
        rw [← HST.out]
        have := HN.out
        by_cases h8 : i = 80
        · rw [h8]
        · rw [List.take_of_length_le (i := 80) (by omega), List.take_of_length_le (i := i) (by omega)]
      have HE := Lib.hid hend
      have hstep8 : st.steps ≤ 80 := by omega
      have HST8 := Lib.hid hstep8
      have hlt' : ¬ ((i : Int) < (n0 : Int) ∧ (i : Int) < 80) := by omega
      obtain ⟨a0, a1, a2, a3⟩ := hS.cells
      have HS := Lib.hid hS
      clear hend hstep8 hS
      have hcase : i = n0 ∨ (i < n0 ∧ i = 80) := by omega
      clear hlt hlt'
      rcases hcase with hcase | ⟨hc1, hc2⟩
      · subst hcase
        go_upto_region 7 with fail
        have hSS := HS.out
        obtain ⟨x0, x1, x2, x3, hx, ⟨y0, y1, y2, y3⟩, ⟨z0, z1, z2, z3⟩⟩ := box_any hSS.r
        refine wp_region_held_drew (S := BuS w w1.heap.size b st A c) (by kernel_rfl) (by (first | (with_reducible assumption) | (with_reducible exact BuS.drew (by assumption)) | (exact BuS.fillr (by assumption) _ _ _ _))) (fun hHeld => ?_)
        refine wpAnyH_take (i := 0) (v := ?vr2_0) (Fr.take_at rfl) (by kernel_rfl) (by kernel_rfl) (by kernel_rfl) (fun _ _ _ h => h) (Or.inl ⟨by rfl, ?yr2_0⟩) (by assumption) ?nr2_0
        case yr2_0 => (intro w_ hSw; obtain ⟨q0, q1, q2, q3⟩ := BuS.cells hSw; go_simp; (try with_reducible rfl))
        try simp only [Act.put, List.setIfInBounds_toArray, List.set_cons_zero, List.set_cons_succ]
        refine wpAnyH_take (i := 1) (v := ?vr2_1) (Fr.take_at rfl) (by kernel_rfl) (by kernel_rfl) (by kernel_rfl) (fun _ _ _ h => h) (Or.inl ⟨by rfl, ?yr2_1⟩) (by assumption) ?nr2_1
        case yr2_1 => (intro w_ hSw; obtain ⟨q0, q1, q2, q3⟩ := BuS.cells hSw; go_simp; (try with_reducible rfl))
        try simp only [Act.put, List.setIfInBounds_toArray, List.set_cons_zero, List.set_cons_succ]
        refine wpAnyH_take (i := 2) (v := ?vr2_2) (Fr.take_at rfl) (by kernel_rfl) (by kernel_rfl) (by kernel_rfl) (fun _ _ _ h => h) (Or.inl ⟨by rfl, ?yr2_2⟩) (by assumption) ?nr2_2
        case yr2_2 => (intro w_ hSw; obtain ⟨q0, q1, q2, q3⟩ := BuS.cells hSw; go_simp; (try with_reducible rfl))
        try simp only [Act.put, List.setIfInBounds_toArray, List.set_cons_zero, List.set_cons_succ]
        refine wpAnyH_take (i := 3) (v := ?vr2_3) (Fr.take_at rfl) (by kernel_rfl) (by kernel_rfl) (by kernel_rfl) (fun _ _ _ h => h) (Or.inl ⟨by rfl, ?yr2_3⟩) (by assumption) ?nr2_3
        case yr2_3 => (intro w_ hSw; obtain ⟨q0, q1, q2, q3⟩ := BuS.cells hSw; go_simp; (try with_reducible rfl))
        try simp only [Act.put, List.setIfInBounds_toArray, List.set_cons_zero, List.set_cons_succ]
        refine wpAnyH_ready (rs := [4]) (by kernel_rfl) (by simp) ?_
        refine AllReadyH.cons (Fr.take_at rfl) (fun K hK => ?_) AllReadyH.nil
        go_simp
        refine hK.out _ _ (by (first | (with_reducible assumption) | (with_reducible exact BuS.drew (by assumption)) | (exact BuS.fillr (by assumption) _ _ _ _))) (fun hHeld => ?_)
        clear hK K
        try simp only [Act.put, List.setIfInBounds_toArray, List.set_cons_zero, List.set_cons_succ]
        refine wpAnyH_take (i := 5) (v := ?vr2_5) (Fr.take_at rfl) (by kernel_rfl) (by kernel_rfl) (by kernel_rfl) (fun _ _ _ h => h) (Or.inl ⟨by rfl, ?yr2_5⟩) (by assumption) ?nr2_5
        case yr2_5 => (intro w_ hSw; obtain ⟨q0, q1, q2, q3⟩ := BuS.cells hSw; go_simp; (try with_reducible rfl))
        try simp only [Act.put, List.setIfInBounds_toArray, List.set_cons_zero, List.set_cons_succ]
        refine wpAnyH_done (by kernel_rfl) ?_ _
        go_wp2
        exact bodyPost_ret (results_tmp_cell_tmp (by rfl) _ _ _ _ _ _ _ _ _ (by rfl) (by rfl) (by rfl) (set4_blk (g := w.heap.size) (hx.out.same rfl)) Try.underlying26 (by rfl) (by kernel_rfl)) rfl ⟨b, st, A, c, rfl, HE.out, HOK.out, HST8.out, hHeld.p.weak fun _ hk => hk.elim⟩
      · subst hc2
        have hc1' : (80 : Int) < (n0 : Int) := by omega
        go_upto_region 7 with fail
        have hSS := HS.out
        obtain ⟨x0, x1, x2, x3, hx, ⟨y0, y1, y2, y3⟩, ⟨z0, z1, z2, z3⟩⟩ := box_any hSS.r
        refine wp_region_held_drew (S := BuS w w1.heap.size b st A c) (by kernel_rfl) (by (first | (with_reducible assumption) | (with_reducible exact BuS.drew (by assumption)) | (exact BuS.fillr (by assumption) _ _ _ _))) (fun hHeld => ?_)
        refine wpAnyH_take (i := 0) (v := ?vr3_0) (Fr.take_at rfl) (by kernel_rfl) (by kernel_rfl) (by kernel_rfl) (fun _ _ _ h => h) (Or.inl ⟨by rfl, ?yr3_0⟩) (by assumption) ?nr3_0
        case yr3_0 => (intro w_ hSw; obtain ⟨q0, q1, q2, q3⟩ := BuS.cells hSw; go_simp; (try with_reducible rfl))
        try simp only [Act.put, List.setIfInBounds_toArray, List.set_cons_zero, List.set_cons_succ]
        refine wpAnyH_take (i := 1) (v := ?vr3_1) (Fr.take_at rfl) (by kernel_rfl) (by kernel_rfl) (by kernel_rfl) (fun _ _ _ h => h) (Or.inl ⟨by rfl, ?yr3_1⟩) (by assumption) ?nr3_1
        case yr3_1 => (intro w_ hSw; obtain ⟨q0, q1, q2, q3⟩ := BuS.cells hSw; go_simp; (try with_reducible rfl))
        try simp only [Act.put, List.setIfInBounds_toArray, List.set_cons_zero, List.set_cons_succ]
        refine wpAnyH_take (i := 2) (v := ?vr3_2) (Fr.take_at rfl) (by kernel_rfl) (by kernel_rfl) (by kernel_rfl) (fun _ _ _ h => h) (Or.inl ⟨by rfl, ?yr3_2⟩) (by assumption) ?nr3_2
        case yr3_2 => (intro w_ hSw; obtain ⟨q0, q1, q2, q3⟩ := BuS.cells hSw; go_simp; (try with_reducible rfl))
        try simp only [Act.put, List.setIfInBounds_toArray, List.set_cons_zero, List.set_cons_succ]
        refine wpAnyH_take (i := 3) (v := ?vr3_3) (Fr.take_at rfl) (by kernel_rfl) (by kernel_rfl) (by kernel_rfl) (fun _ _ _ h => h) (Or.inl ⟨by rfl, ?yr3_3⟩) (by assumption) ?nr3_3
        case yr3_3 => (intro w_ hSw; obtain ⟨q0, q1, q2, q3⟩ := BuS.cells hSw; go_simp; (try with_reducible rfl))
        try simp only [Act.put, List.setIfInBounds_toArray, List.set_cons_zero, List.set_cons_succ]
        refine wpAnyH_ready (rs := [4]) (by kernel_rfl) (by simp) ?_
        refine AllReadyH.cons (Fr.take_at rfl) (fun K hK => ?_) AllReadyH.nil
        go_simp
        refine hK.out _ _ (by (first | (with_reducible assumption) | (with_reducible exact BuS.drew (by assumption)) | (exact BuS.fillr (by assumption) _ _ _ _))) (fun hHeld => ?_)
        clear hK K
        try simp only [Act.put, List.setIfInBounds_toArray, List.set_cons_zero, List.set_cons_succ]
        refine wpAnyH_take (i := 5) (v := ?vr3_5) (Fr.take_at rfl) (by kernel_rfl) (by kernel_rfl) (by kernel_rfl) (fun _ _ _ h => h) (Or.inl ⟨by rfl, ?yr3_5⟩) (by assumption) ?nr3_5
        case yr3_5 => (intro w_ hSw; obtain ⟨q0, q1, q2, q3⟩ := BuS.cells hSw; go_simp; (try with_reducible rfl))
        try simp only [Act.put, List.setIfInBounds_toArray, List.set_cons_zero, List.set_cons_succ]
        refine wpAnyH_done (by kernel_rfl) ?_ _
        go_wp2
        exact bodyPost_ret (results_tmp_cell_tmp (by rfl) _ _ _ _ _ _ _ _ _ (by rfl) (by rfl) (by rfl) (set4_blk (g := w.heap.size) (hx.out.same rfl)) Try.underlying26 (by rfl) (by kernel_rfl)) rfl ⟨b, st, A, c, rfl, HE.out, HOK.out, HST8.out, hHeld.p.weak fun _ hk => hk.elim⟩
end Dr
end Go.Proofs.Ytljhedgcpbapdaa
