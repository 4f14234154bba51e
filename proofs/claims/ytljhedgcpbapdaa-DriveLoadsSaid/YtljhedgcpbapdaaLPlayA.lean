/-
  WHAT IS PROVED: what every world in the law's 'play' has: the drive, the reference, three boxes; how a call of each and a filling of a box leave it. CONDITIONS: as each lemma names.
-/
import Derived.Test.YtljhedgcpbapdaaLTell
namespace Go.Proofs.Ytljhedgcpbapdaa
open Go Go.RowKit Go.Maps Go.Proofs.Ytljhedgcpbapdaa.Fr
namespace Dr

/-- An op of a script. -/
structure POp where
  kind : Int
  name : ByteArray
  tgt : ByteArray
  b : Bs
  n : Int
  ks : List Int
/-- What it leaves. -/
def POp.run (o : POp) (st : St) : St :=
  if o.kind = 1 then (st.append o.name.data.toList o.b).1
  else if o.kind = 2 then (st.sync o.name.data.toList).1
  else if o.kind = 3 then (st.rename o.name.data.toList o.tgt.data.toList).1
  else if o.kind = 4 then (st.delete o.name.data.toList).1
  else if o.kind = 5 then (st.arm o.n).1
  else if o.kind = 6 then st.crash o.ks else st
/-- An op as a value: its rows lie outside S. -/
structure OpAt (w : World) (S : Nat → Prop) (o : POp) (AB : Option Addr) (nB cB : Nat) (AK : Option Addr) (nK cK : Nat) : Prop where
  k0 : -9223372036854775808 ≤ o.kind
  k1 : o.kind ≤ 9223372036854775807
  name : o.name.size ≤ maxLen
  tgt : o.tgt.size ≤ maxLen
  lB : o.b.length = nB
  mB : nB ≤ 140737488351232
  rB : Rd w AB (bv o.b)
  sB : o.b ≠ [] → ∀ a, AB = some a → ¬ S a.block
  n0 : -9223372036854775808 ≤ o.n
  n1 : o.n ≤ 9223372036854775807
  lK : o.ks.length = nK
  cK : nK ≤ cK
  mK : nK ≤ 140737488355328
  rK : Rd w AK (iv o.ks)
  sK : o.ks ≠ [] → ∀ a, AK = some a → ¬ S a.block
  iK : ∀ k ∈ o.ks, -9223372036854775808 ≤ k ∧ k ≤ 9223372036854775807
theorem rd_mod' {w X : World} {S : Nat → Prop} {A : Option Addr} {xs : List Value} (h : Rd w A xs) (hm : Mod S w X) (hS : xs ≠ [] → ∀ a, A = some a → ¬ S a.block) : Rd X A xs := by
  by_cases hx : xs = []
  · subst hx; exact Rd.nil
  · exact Rd.mod h hm (hS hx)
theorem iv_ne {ks : List Int} (h : iv ks ≠ []) : ks ≠ [] := fun e => h (by rw [e]; rfl)
theorem bv_ne {l : Bs} (h : bv l ≠ []) : l ≠ [] := fun e => h (by rw [e]; rfl)
def opV (o : POp) (AB : Option Addr) (nB cB : Nat) (AK : Option Addr) (nK cK : Nat) : Array Value := #[.int .i64 o.kind, .string o.name, .string o.tgt, .slice AB nB cB, .int .i64 o.n, .slice AK nK cK]
def refC (A : Option Addr) (c : Nat) (st : St) : Array Value := #[.slice A st.files.length c, .int .i64 (st.steps : Int), .bool st.armed, .int .i64 (st.left : Int)]
/-- A box of four cells. -/
def Box4 (X : World) (g : Nat) : Prop := ∃ a0 a1 a2 a3, Blk X g 26 #[a0, a1, a2, a3]

structure PlayS (w : World) (S T : Nat → Prop) (cs : Array Value) (b : Nat) (sd sr : St) (v : Value) (X : World) : Prop where
  reps : ∃ S' T', DriveRep X S' b sd ∧ RefRep X T' v sr ∧ (∀ k, S' k → S k ∨ w.heap.size + 3 ≤ k) ∧ (∀ k, T' k → T k ∨ w.heap.size + 3 ≤ k) ∧ ∀ k, S' k → ¬ T' k
  ls : ∀ k, S k → k < w.heap.size
  lt : ∀ k, T k → k < w.heap.size
  mod : Mod S w X
  size : w.heap.size + 3 ≤ X.heap.size
  b5 : Blk X (w.heap.size + 1) 43 cs
  b4 : Box4 X w.heap.size
  b7 : Box4 X (w.heap.size + 2)
section
variable {w X X' : World} {S T : Nat → Prop} {cs : Array Value} {b : Nat} {sd sr : St} {v : Value}
theorem PlayS.below (h : PlayS w S T cs b sd sr v X) (hb : Below X.heap.size X X') : PlayS w S T cs b sd sr v X' := by
  obtain ⟨⟨S', T', h1, h2, h3, h4, h5⟩, ls, lt, hm, hs, b5, ⟨a0, a1, a2, a3, b4⟩, ⟨c0, c1, c2, c3, b7⟩⟩ := h
  exact ⟨⟨S', T', h1.below hb, h2.below hb, h3, h4, h5⟩, ls, lt, hm.trans (Mod.below (S := fun _ => False) hb) fun _ _ hf => hf.elim, Nat.le_trans hs hb.size, b5.same (hb.block _ (by omega)), ⟨a0, a1, a2, a3, b4.same (hb.block _ (by omega))⟩, ⟨c0, c1, c2, c3, b7.same (hb.block _ (by omega))⟩⟩
theorem PlayS.drewN (h : PlayS w S T cs b sd sr v X) (k : Nat) : PlayS w S T cs b sd sr v (X.drewN k) := h.below (below_drewN (Below.refl _ _) k)
theorem PlayS.dop {p : St × Nat} {e : Ending} {S' T' : Nat → Prop} (h : PlayS w S T cs b sd sr v X) (hr : RefRep X T' v sr) (hS : ∀ k, S' k → S k ∨ w.heap.size + 3 ≤ k) (hT : ∀ k, T' k → T k ∨ w.heap.size + 3 ≤ k) (hST : ∀ k, S' k → ¬ T' k) (hd : DOp S' b p X e X') : PlayS w S T cs b p.1 sr v X' := by
  obtain ⟨_, ls, lt, hm, hs, b5, ⟨a0, a1, a2, a3, b4⟩, ⟨c0, c1, c2, c3, b7⟩⟩ := h
  obtain ⟨_, h1, h2⟩ := hd
  have off : ∀ k, w.heap.size ≤ k → k < w.heap.size + 3 → ¬ S' k := fun k h3 h4 h5 => by
    rcases hS k h5 with h6 | h6
    · have := ls k h6; omega
    · omega
  refine ⟨⟨ext S' X X', T', h1, hr.mod h2 fun k h3 h4 => hST k h4 h3, fun k hk => ?_, hT, fun k hk h3 => ?_⟩, ls, lt, hm.trans h2 fun k hk h3 => ?_, Nat.le_trans hs h2.size, b5.same (h2.block _ (by omega) (off _ (by omega) (by omega))), ⟨a0, a1, a2, a3, b4.same (h2.block _ (by omega) (off _ (by omega) (by omega)))⟩, ⟨c0, c1, c2, c3, b7.same (h2.block _ (by omega) (off _ (by omega) (by omega)))⟩⟩
  · rcases hk with hk | hk
    · exact hS k hk
    · exact .inr (by omega)
  · rcases hk with hk | hk
    · exact hST k hk h3
    · have := hr.lt k h3; omega
  · rcases hS k h3 with h6 | h6
    · exact h6
    · omega
/-- A box keeps what it holds. -/
theorem box_past (h : PlayS w S T cs b sd sr v X) {S' : Nat → Prop} (hS : ∀ k, S' k → S k ∨ w.heap.size + 3 ≤ k) (hm : Mod S' X X') {c4 : Array Value} (hb : Blk X w.heap.size 26 c4) : Blk X' w.heap.size 26 c4 :=
  hb.same (hm.block _ (by have := h.size; omega) fun h5 => by
    rcases hS _ h5 with h6 | h6
    · have := h.ls _ h6; omega
    · omega)
def DStep (w : World) (S T : Nat → Prop) (cs : Array Value) (b : Nat) (st : St) (k : Int) (sr : St) (v : Value) (c4 : Array Value) (X : World) (e : Ending) (X' : World) : Prop :=
  e = .returned (.int .i64 k) ∧ PlayS w S T cs b st sr v X' ∧ Blk X' w.heap.size 26 c4 ∧ ∀ A xs, Rd X A xs → (∀ a, A = some a → ¬ S a.block ∧ a.block < w.heap.size) → Rd X' A xs
theorem PlayS.dcall {f : FuncId} {args : Array Value} {p : St × Nat} {st : St} {n : Nat} {c4 : Array Value} (h : PlayS w S T cs b sd sr v X) (h4 : Blk X w.heap.size 26 c4) (hb : Below X.heap.size X X') (hp : p = (st, n)) (hc : ∀ S', DriveRep X' S' b sd → (∀ k, S' k → k < X.heap.size) → Calls Try.prog f args X' (DOp S' b p X')) :
    Calls Try.prog f args X' (DStep w S T cs b st (n : Int) sr v c4 X') := by
  have h' := h.below hb
  obtain ⟨S', T', h1, h2, h3, h5, h6⟩ := h.reps
  subst hp
  refine (hc S' (h1.below hb) h1.lt).mono fun e X2 hd => ⟨hd.1, h'.dop (h2.below hb) h3 h5 h6 hd, box_past h' h3 hd.2.2 (h4.same (hb.block _ (by have := h.size; omega))), fun A xs hr ha => Rd.mod hr hd.2.2 fun a e hs => ?_⟩
  obtain ⟨q1, q2⟩ := ha a e
  rcases h3 _ hs with h7 | h7
  · exact q1 h7
  · omega
def RStep (w : World) (S T : Nat → Prop) (cs : Array Value) (b : Nat) (sd st : St) (k : Int) (X : World) (e : Ending) (X' : World) : Prop :=
  ∃ A c, e = .returned (.tuple #[.agg #[.slice A st.files.length c, .int .i64 (st.steps : Int), .bool st.armed, .int .i64 (st.left : Int)], .int .i64 k]) ∧ PlayS w S T cs b sd st (.agg (refC A c st)) X' ∧ Below X.heap.size X X'
theorem PlayS.rset {st : St} {v' : Value} (h : PlayS w S T cs b sd sr v X) (hT : ∀ T', RefRep X T' v sr → RefRep X' (ext T' X X') v' st) (hb : Below X.heap.size X X') : PlayS w S T cs b sd st v' X' := by
  obtain ⟨S', T', h1, h2, h3, h5, h6⟩ := h.reps
  have h' := h.below hb
  refine ⟨⟨S', ext T' X X', h1.below hb, hT T' h2, h3, fun k hk => ?_, fun k hk h7 => ?_⟩, h'.ls, h'.lt, h'.mod, h'.size, h'.b5, h'.b4, h'.b7⟩
  · rcases hk with hk | hk
    · exact h5 k hk
    · have := h.size; exact .inr (by omega)
  · rcases h7 with h7 | h7
    · exact h6 k hk h7
    · have := h1.lt k hk; omega
theorem PlayS.rcall {f : FuncId} {args : Array Value} {p : St × Nat} {st : St} {n : Nat} (h : PlayS w S T cs b sd sr v X) (hp : p = (st, n)) (hc : ∀ T', RefRep X T' v sr → Calls Try.prog f args X (RRet2 T' X p)) :
    Calls Try.prog f args X (RStep w S T cs b sd st (n : Int) X) := by
  obtain ⟨S', T', h1, h2, h3, h5, h6⟩ := h.reps
  subst hp
  refine (hc T' h2).mono fun e X2 ⟨v', h7, h8, h9⟩ => ?_
  have h' := h.below h9
  obtain ⟨A, c, rfl, hl, _⟩ := refV_of h8
  refine ⟨A, c, h7, ⟨⟨S', ext T' X X2, h1.below h9, h8, h3, fun k hk => ?_, fun k hk h10 => ?_⟩, h'.ls, h'.lt, h'.mod, h'.size, h'.b5, h'.b4, h'.b7⟩, h9⟩
  · rcases hk with hk | hk
    · exact h5 k hk
    · have := h.size; exact .inr (by omega)
  · rcases h10 with h10 | h10
    · exact h6 k hk h10
    · have := h1.lt k hk; omega
theorem set4_size (W : World) (g : Nat) (a0 a1 a2 a3 : Value) : (set4 W g a0 a1 a2 a3).heap.size = W.heap.size := by simp [set4, World.setCell]
theorem set4_off (W : World) {g k : Nat} (a0 a1 a2 a3 : Value) (hne : k ≠ g) : (set4 W g a0 a1 a2 a3).heap[k]? = W.heap[k]? := by
  unfold set4
  rw [Below.heap_setCell _ _ _ _ hne, Below.heap_setCell _ _ _ _ hne, Below.heap_setCell _ _ _ _ hne, Below.heap_setCell _ _ _ _ hne]
/-- A box filled. -/
theorem PlayS.fill (h : PlayS w S T cs b sd sr v X) {g : Nat} (hg : g = w.heap.size ∨ g = w.heap.size + 2) (a0 a1 a2 a3 : Value) : PlayS w S T cs b sd sr v (set4 X g a0 a1 a2 a3) := by
  obtain ⟨⟨S', T', h1, h2, h3, h4, h5⟩, ls, lt, hm, hs, b5, ⟨x0, x1, x2, x3, b4⟩, ⟨c0, c1, c2, c3, b7⟩⟩ := h
  have hsz := set4_size X g a0 a1 a2 a3
  have oS : ∀ k, S' k → k ≠ g := fun k hk e => by
    subst e
    rcases h3 k hk with h6 | h6
    · have := ls k h6; omega
    · omega
  have oT : ∀ k, T' k → k ≠ g := fun k hk e => by
    subst e
    rcases h4 k hk with h6 | h6
    · have := lt k h6; omega
    · omega
  refine ⟨⟨S', T', h1.same (fun k hk => set4_off X a0 a1 a2 a3 (oS k hk)) (by rw [hsz]; exact Nat.le_refl _), h2.same (fun k hk => set4_off X a0 a1 a2 a3 (oT k hk)) (by rw [hsz]; exact Nat.le_refl _), h3, h4, h5⟩, ls, lt, ?_, by rw [hsz]; exact hs, b5.same (set4_off X a0 a1 a2 a3 (by omega)), ?_, ?_⟩
  · unfold set4
    exact ((((hm.setCell (p := ⟨g, 0, none⟩) (fun h7 => absurd h7 (by show ¬ g < _; omega)) a0).setCell (p := ⟨g, 1, none⟩) (fun h7 => absurd h7 (by show ¬ g < _; omega)) a1).setCell (p := ⟨g, 2, none⟩) (fun h7 => absurd h7 (by show ¬ g < _; omega)) a2).setCell (p := ⟨g, 3, none⟩) (fun h7 => absurd h7 (by show ¬ g < _; omega)) a3)
  · rcases hg with rfl | rfl
    · exact ⟨_, _, _, _, set4_blk b4⟩
    · exact ⟨x0, x1, x2, x3, b4.same (set4_off X a0 a1 a2 a3 (by omega))⟩
  · rcases hg with rfl | rfl
    · exact ⟨c0, c1, c2, c3, b7.same (set4_off X a0 a1 a2 a3 (by omega))⟩
    · exact ⟨_, _, _, _, set4_blk b7⟩
/-- The answer. -/
def PlayRet (S T : Nat → Prop) (w : World) (st : St) (e : Ending) (w' : World) : Prop :=
  ∃ b' S' v' T', e = .returned (.tuple #[.pointer (some ⟨b', 0, none⟩), v', .bool true]) ∧ DriveRep w' S' b' st ∧ RefRep w' T' v' st ∧ (∀ k, S' k → S k ∨ w.heap.size ≤ k) ∧ (∀ k, T' k → T k ∨ w.heap.size ≤ k) ∧ (∀ k, S' k → ¬ T' k) ∧ Mod S w w'
theorem PlayS.ret {st : St} {A : Option Addr} {c : Nat} (h : PlayS w S T cs b st st (.agg (refC A c st)) X) : PlayRet S T w st (.returned (.tuple #[.pointer (some ⟨b, 0, none⟩), .agg (refC A c st), .bool true])) X :=
  let ⟨S', T', h1, h2, h3, h4, h5⟩ := h.reps
  ⟨b, S', _, T', rfl, h1, h2, fun k hk => (h3 k hk).imp id fun h => by omega, fun k hk => (h4 k hk).imp id fun h => by omega, h5, h.mod⟩
theorem PlayS.tells {st : St} {A : Option Addr} {c : Nat} (h : PlayS w S T cs b st st (.agg (refC A c st)) X) (hok : st.Ok) :
    Calls Try.prog 13 #[.pointer (some ⟨b, 0, none⟩), .agg (refC A c st)] X fun e X' => e = .returned (.bool true) ∧ Below X.heap.size X X' :=
  let ⟨_, _, h1, h2, _⟩ := h.reps; tells_any h1 h2 hok
/-- At the start. -/
theorem PlayS.start {st : St} (hd : DriveRep w S b st) (hr : RefRep w T v st) (hST : ∀ k, S k → ¬ T k) (hb : Below w.heap.size w X) (hs : w.heap.size + 3 ≤ X.heap.size) (b5 : Blk X (w.heap.size + 1) 43 cs) (b4 : Box4 X w.heap.size) (b7 : Box4 X (w.heap.size + 2)) : PlayS w S T cs b st st v X :=
  ⟨⟨S, T, hd.below hb, hr.below hb, fun _ hk => .inl hk, fun _ hk => .inl hk, hST⟩, hd.lt, hr.lt, Mod.below hb, hs, b5, b4, b7⟩
/-- With what the box of the reference holds. -/
structure PlayF (w : World) (S T : Nat → Prop) (cs : Array Value) (b : Nat) (st : St) (A : Option Addr) (c : Nat) (X : World) : Prop where
  p : PlayS w S T cs b st st (.agg (refC A c st)) X
  m : Blk X w.heap.size 26 (refC A c st)
theorem PlayF.below {st : St} {A : Option Addr} {c : Nat} (h : PlayF w S T cs b st A c X) (hb : Below X.heap.size X X') : PlayF w S T cs b st A c X' :=
  ⟨h.p.below hb, h.m.same (hb.block _ (by have := h.p.size; omega))⟩
theorem PlayF.drew {st : St} {A : Option Addr} {c : Nat} (h : PlayF w S T cs b st A c X) : PlayF w S T cs b st A c X.drew := h.below (below_drewN (Below.refl _ _) 1)
theorem PlayF.fill {st : St} {A : Option Addr} {c : Nat} (h : PlayF w S T cs b st A c X) (a0 a1 a2 a3 : Value) : PlayF w S T cs b st A c (set4 X (w.heap.size + 2) a0 a1 a2 a3) :=
  ⟨h.p.fill (.inr rfl) a0 a1 a2 a3, h.m.same (set4_off X a0 a1 a2 a3 (by omega))⟩
theorem PlayF.made {st : St} {A : Option Addr} {c : Nat} {v' : Value} (h : PlayS w S T cs b st st v' X) (hv : v' = .agg (refC A c st)) : PlayF w S T cs b st A c (set4 X w.heap.size (.slice A st.files.length c) (.int .i64 (st.steps : Int)) (.bool st.armed) (.int .i64 (st.left : Int))) := by
  subst hv
  obtain ⟨x0, x1, x2, x3, hx⟩ := h.b4
  exact ⟨h.fill (.inl rfl) _ _ _ _, set4_blk hx⟩
theorem PlayF.cells {st : St} {A : Option Addr} {c : Nat} (h : PlayF w S T cs b st A c X) : X.cell? ⟨w.heap.size, 0, none⟩ = some (.slice A st.files.length c) ∧ X.cell? ⟨w.heap.size, 1, none⟩ = some (.int .i64 (st.steps : Int)) ∧ X.cell? ⟨w.heap.size, 2, none⟩ = some (.bool st.armed) ∧ X.cell? ⟨w.heap.size, 3, none⟩ = some (.int .i64 (st.left : Int)) := blk_cells4 h.m
theorem op_cells {a0 a1 a2 a3 a4 a5 : Value} (h : PlayS w S T #[a0, a1, a2, a3, a4, a5] b sd sr v X) : X.cell? ⟨w.heap.size + 1, 0, none⟩ = some a0 ∧ X.cell? ⟨w.heap.size + 1, 1, none⟩ = some a1 ∧ X.cell? ⟨w.heap.size + 1, 2, none⟩ = some a2 ∧ X.cell? ⟨w.heap.size + 1, 3, none⟩ = some a3 ∧ X.cell? ⟨w.heap.size + 1, 4, none⟩ = some a4 ∧ X.cell? ⟨w.heap.size + 1, 5, none⟩ = some a5 :=
  ⟨h.b5.cell 0, h.b5.cell 1, h.b5.cell 2, h.b5.cell 3, h.b5.cell 4, h.b5.cell 5⟩
theorem box7 (h : PlayS w S T cs b sd sr v X) : ∃ a0 a1 a2 a3, Hid (Blk X (w.heap.size + 1 + 1) 26 #[a0, a1, a2, a3]) ∧ (X.cell? ⟨w.heap.size + 1 + 1, 0, none⟩ = some a0 ∧ X.cell? ⟨w.heap.size + 1 + 1, 1, none⟩ = some a1 ∧ X.cell? ⟨w.heap.size + 1 + 1, 2, none⟩ = some a2 ∧ X.cell? ⟨w.heap.size + 1 + 1, 3, none⟩ = some a3) ∧ (X.frozen? ⟨w.heap.size + 1 + 1, 0, none⟩ = false ∧ X.frozen? ⟨w.heap.size + 1 + 1, 1, none⟩ = false ∧ X.frozen? ⟨w.heap.size + 1 + 1, 2, none⟩ = false ∧ X.frozen? ⟨w.heap.size + 1 + 1, 3, none⟩ = false) :=
  let ⟨a0, a1, a2, a3, h7⟩ := h.b7; ⟨a0, a1, a2, a3, h7, blk_cells4 h7, blk_free4 h7⟩
theorem box4 (h : PlayS w S T cs b sd sr v X) : ∃ a0 a1 a2 a3, Hid (Blk X w.heap.size 26 #[a0, a1, a2, a3]) ∧ (X.cell? ⟨w.heap.size, 0, none⟩ = some a0 ∧ X.cell? ⟨w.heap.size, 1, none⟩ = some a1 ∧ X.cell? ⟨w.heap.size, 2, none⟩ = some a2 ∧ X.cell? ⟨w.heap.size, 3, none⟩ = some a3) ∧ (X.frozen? ⟨w.heap.size, 0, none⟩ = false ∧ X.frozen? ⟨w.heap.size, 1, none⟩ = false ∧ X.frozen? ⟨w.heap.size, 2, none⟩ = false ∧ X.frozen? ⟨w.heap.size, 3, none⟩ = false) :=
  let ⟨a0, a1, a2, a3, h7⟩ := h.b4; ⟨a0, a1, a2, a3, h7, blk_cells4 h7, blk_free4 h7⟩
theorem results_tmp_cell_tmp {P : Program} {fn : Func} {p q r : Tmp} {ty : TypeId} (h : fn.results = #[.tmp r, .cell p ty, .tmp q]) (tmps : Array Value) (w : World) (g : Nat) (t : TypeId) (cs : Array Value) (fr : Nat × Nat) (d : TypeDesc) (u v : Value)
    (hr : tmps.getD r undef = u) (hp : tmps.getD p undef = .pointer (some ⟨g, 0, none⟩)) (hq : tmps.getD q undef = v) (hg : w.heap[g]? = some (.cells cs t fr))
    (hu : P.underlying ty = some d) (hd : (match d with | .struct _ | .array _ _ => true | _ => false) = true) (hi : (P.info? ty).map (·.size) = some cs.size) :
    (results fn tmps).run P w = .ok (.tuple #[u, .agg cs, v]) w := by
  have hp' : tmps[p]?.getD undef = .pointer (some ⟨g, 0, none⟩) := by simpa using hp
  have hq' : tmps[q]?.getD undef = v := by simpa using hq
  have hr' : tmps[r]?.getD undef = u := by simpa using hr
  simp [results, h, hp', hq', hr', asAddr, run_loadVar_row w g t ty cs fr d hg hu hd hi]
end
end Dr
end Go.Proofs.Ytljhedgcpbapdaa
