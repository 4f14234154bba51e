/-
  WHAT IS PROVED: MemOwn holds for every pair of scripts. CONDITIONS: the scripts stand in memory as named.
-/
import Derived.Test.YtfnfjhfmhinkcaaMOwnA
import Derived.Deep.CutBlock
namespace Go.Proofs.Ytfnfjhfmhinkcaa
open Go Go.RowKit Go.Shelf Go.Maps Go.Sort Go.Proofs.Ytfnfjhfmhinkcaa.Fr
attribute [local go_sem] Oper.semAt_some
namespace Mm
/-- The boxes of the result and of the stop. -/
structure Bx (F P : Nat) (stop : Int) (W : World) : Prop where
  f : Blk W F 4 #[.bool false]
  p : Blk W P 3 #[.int .i64 stop]
theorem Bx.below {F P : Nat} {stop : Int} {W W' : World} (h : Bx F P stop W) (hb : Below W.heap.size W W') : Bx F P stop W' := ⟨h.f.same (hb.block _ h.f.lt), h.p.same (hb.block _ h.p.lt)⟩
theorem Bx.off {F P T : Nat} {stop : Int} {w0 W W' : World} {ns : List Nd} {byt : Int} (h : Bx F P stop W) (ht : Tb w0 W T ns byt) (hk : ∀ k, k < W.heap.size → ¬ Own T ns k → W'.heap[k]? = W.heap[k]?) : Bx F P stop W' := ⟨h.f.same (hk _ h.f.lt (ht.own_not h.f (by decide) (by decide))), h.p.same (hk _ h.p.lt (ht.own_not h.p (by decide) (by decide)))⟩
/-- The list, i calls in. -/
def O1 (w0 : World) (F P T : Nat) (stop : Int) (len : Nat) (s10 s11 : Value) (wr : World) : Prop :=
  ∃ (i : Nat) (A1 : Option Addr) (n1 c1 : Nat) (ns : List Nd) (byt : Int), i ≤ len ∧ i ≤ 100 ∧ s11 = .int .i64 ((i : Nat) : Int) ∧ s10 = .slice A1 n1 c1 ∧ n1 ≤ i ∧ Hid (Bx F P stop wr) ∧ Hid (Pl w0 wr T ns byt A1 n1 c1)
theorem own_drew {W : World} {b n : Nat} {t : TypeId} {size : Nat} {v : Value} {xs : List Value} (h : W.ownsRow b t size v n xs) : W.drew.ownsRow b t size v n xs := own_same h fun _ _ => rfl
theorem one_drew (w : World) (t : TypeId) (cs : List Value) : ∀ j u, cs[j]? = some u → (w.alloc (.cells cs.toArray t)).drew.cell? ((⟨w.heap.size, 0, none⟩ : Addr).add j) = some u := one_cells w t cs
theorem x_below {W W' : World} {B g p j : Nat} {x : En} (hb : Below B W W') (hg : g < B) (h : W.cell? ⟨g, p + j * 4, none⟩ = some (.string x.key) ∧ W.cell? ⟨g, p + j * 4 + 1, none⟩ = some (.int .i64 x.seq) ∧ W.cell? ⟨g, p + j * 4 + 2, none⟩ = some (.bool x.del) ∧ W.cell? ⟨g, p + j * 4 + 3, none⟩ = some (.string x.val)) : W'.cell? ⟨g, p + j * 4, none⟩ = some (.string x.key) ∧ W'.cell? ⟨g, p + j * 4 + 1, none⟩ = some (.int .i64 x.seq) ∧ W'.cell? ⟨g, p + j * 4 + 2, none⟩ = some (.bool x.del) ∧ W'.cell? ⟨g, p + j * 4 + 3, none⟩ = some (.string x.val) :=
  let k := fun o => hb.cell (p := ⟨g, o, none⟩) hg
  ⟨(k _).trans h.1, (k _).trans h.2.1, (k _).trans h.2.2.1, (k _).trans h.2.2.2⟩
theorem x_set {W : World} {Q g p j : Nat} {x : En} (h : W.cell? ⟨g, p + j * 4, none⟩ = some (.string x.key) ∧ W.cell? ⟨g, p + j * 4 + 1, none⟩ = some (.int .i64 x.seq) ∧ W.cell? ⟨g, p + j * 4 + 2, none⟩ = some (.bool x.del) ∧ W.cell? ⟨g, p + j * 4 + 3, none⟩ = some (.string x.val)) (hne : g ≠ Q) (v : Value) : (W.setCell ⟨Q, 0, none⟩ v).cell? ⟨g, p + j * 4, none⟩ = some (.string x.key) ∧ (W.setCell ⟨Q, 0, none⟩ v).cell? ⟨g, p + j * 4 + 1, none⟩ = some (.int .i64 x.seq) ∧ (W.setCell ⟨Q, 0, none⟩ v).cell? ⟨g, p + j * 4 + 2, none⟩ = some (.bool x.del) ∧ (W.setCell ⟨Q, 0, none⟩ v).cell? ⟨g, p + j * 4 + 3, none⟩ = some (.string x.val) :=
  let k := fun o => World.cell?_of_block (a := ⟨g, o, none⟩) (Below.heap_setCell W ⟨Q, 0, none⟩ v g hne)
  ⟨(k _).trans h.1, (k _).trans h.2.1, (k _).trans h.2.2.1, (k _).trans h.2.2.2⟩
theorem Mod.beyond {S : Nat → Prop} {w W W' : World} (h : Mod S w W) (hb : Below w.heap.size W W') : Mod S w W' := ⟨hb.os.trans h.os, hb.tape.trans h.tape, hb.output.trans h.output, Nat.le_trans h.size hb.size, fun k hk hn => (hb.block k hk).trans (h.block k hk hn)⟩
/-- What is wanted, j entries in. -/
def O2 (W5 : World) (Q n1 : Nat) (k : ByteArray) (l : List En) (s : Value) (W : World) : Prop :=
  ∃ (j : Nat) (A3 : Option Addr) (m3 c3 : Nat), j ≤ n1 ∧ s = .int .i64 ((j : Nat) : Int) ∧ m3 ≤ j ∧ Hid (Mod (fun b => b = Q) W5 W) ∧ Hid (Blk W Q 26 #[.slice A3 m3 c3]) ∧ Hid (W.ownsRow W5.heap.size 30 4 (.slice A3 m3 c3) m3 (ev (wantK l k j)))
/-- A row's entry is overwritten. -/
theorem own_cells4 {W : World} {base n c j : Nat} {A : Option Addr} {xs : List Value} (h : W.ownsRow base 30 4 (.slice A n c) n xs) (hj : j < n) : ∃ g, A = some ⟨g, 0, none⟩ ∧ base ≤ g ∧ ((∃ u, W.cell? ⟨g, j * 4, none⟩ = some u) ∧ (∃ u, W.cell? ⟨g, j * 4 + 1, none⟩ = some u) ∧ (∃ u, W.cell? ⟨g, j * 4 + 2, none⟩ = some u) ∧ (∃ u, W.cell? ⟨g, j * 4 + 3, none⟩ = some u)) ∧ ∀ i, W.frozen? ⟨g, i, none⟩ = false := by
  rcases h.2 with ⟨h1, h2⟩ | ⟨g, cap, cur, h1, h2, h3, h4, hm, h5, _⟩
  · omega
  · cases h1
    have hb : Blk W g 30 cur := h3
    have hg : ∀ i, i < 4 → ∃ u, W.cell? ⟨g, j * 4 + i, none⟩ = some u := fun i hi => ⟨cur[j * 4 + i]'(by omega), (hb.cell _).trans (Array.getElem?_eq_getElem _)⟩
    exact ⟨g, rfl, h2, ⟨hg 0 (by omega), hg 1 (by omega), hg 2 (by omega), hg 3 (by omega)⟩, fun i => hb.frozen i⟩
theorem own_setc {W : World} {base g m j size : Nat} {e : TypeId} {v u : Value} {xs : List Value} (h : W.ownsRow base e size v m xs) : ∃ xs', (W.setCell ⟨g, j, none⟩ u).ownsRow base e size v m xs' := by
  by_cases hv : v.ownBlock = some g
  · rcases h.2 with ⟨h1, h2⟩ | ⟨g', cap, cur, h1, h2, h3, h4, hm, h5, h6⟩
    · rw [h1] at hv; cases hv
    · have hb : Blk W g' e cur := h3
      have hg : g' = g := by rw [h1] at hv; simpa [Value.ownBlock] using hv
      subst hg
      refine ⟨(cur.setIfInBounds j u).toList.take (m * size), by rw [List.length_take, Array.length_toList, Array.size_setIfInBounds]; have := Nat.mul_le_mul_right size h4; omega, .inr ⟨g', cap, cur.setIfInBounds j u, h1, h2, hb.set j u, h4, hm, by rw [Array.size_setIfInBounds]; exact h5, rfl⟩⟩
  · exact ⟨xs, own_same h fun k hk => Below.heap_setCell _ _ _ _ (by show k ≠ g; rintro rfl; exact hv hk)⟩
/-- One is overwritten, j entries in. -/
def O3 (W6 : World) (A7 : Option Addr) (n1 c7 : Nat) (s : Value) (W : World) : Prop :=
  ∃ j : Nat, j ≤ n1 ∧ s = .int .i64 ((j : Nat) : Int) ∧ Hid (Below W6.heap.size W6 W) ∧ Hid (∃ xs, W.ownsRow W6.heap.size 30 4 (.slice A7 n1 c7) n1 xs)
/-- One is made longer, i times. -/
def O4 (W6 : World) (n1 : Nat) (s15 s17 : Value) (W : World) : Prop :=
  ∃ (i : Nat) (A : Option Addr) (c : Nat), i ≤ 20 ∧ s17 = .int .i64 ((i : Nat) : Int) ∧ s15 = .slice A (n1 + i) c ∧ Hid (Below W6.heap.size W6 W) ∧ Hid (∃ xs, W.ownsRow W6.heap.size 30 4 (.slice A (n1 + i) c) (n1 + i) xs)
theorem ex_set {W : World} {base g m j size : Nat} {e : TypeId} {v u : Value} (h : ∃ xs, W.ownsRow base e size v m xs) : ∃ xs, (W.setCell ⟨g, j, none⟩ u).ownsRow base e size v m xs := h.elim fun _ h => own_setc h
/-- What stays while more is put in. -/
structure OwW (B5 F P Q : Nat) (stop : Int) (A3 : Option Addr) (m3 c3 : Nat) (want : List En) (W : World) : Prop where
  bx : Bx F P stop W
  q : Blk W Q 26 #[.slice A3 m3 c3]
  row : W.ownsRow B5 30 4 (.slice A3 m3 c3) m3 (ev want)
theorem OwW.same {B5 F P Q : Nat} {stop : Int} {A3 : Option Addr} {m3 c3 : Nat} {want : List En} {W W' : World} (h : OwW B5 F P Q stop A3 m3 c3 want W) (hk : ∀ k t cs, Blk W k t cs → t = 4 ∨ t = 3 ∨ t = 26 ∨ t = 30 → W'.heap[k]? = W.heap[k]?) : OwW B5 F P Q stop A3 m3 c3 want W' :=
  ⟨⟨h.bx.f.same (hk _ _ _ h.bx.f (.inl rfl)), h.bx.p.same (hk _ _ _ h.bx.p (.inr (.inl rfl)))⟩, h.q.same (hk _ _ _ h.q (.inr (.inr (.inl rfl)))), own_same h.row fun k hk2 => by
    obtain ⟨_, hb⟩ := own_blk h.row hk2
    exact hk _ _ _ hb (.inr (.inr (.inr rfl)))⟩
theorem OwW.below {B5 F P Q : Nat} {stop : Int} {A3 : Option Addr} {m3 c3 : Nat} {want : List En} {W W' : World} (h : OwW B5 F P Q stop A3 m3 c3 want W) (hb : Below W.heap.size W W') : OwW B5 F P Q stop A3 m3 c3 want W' := h.same fun k _ _ hk _ => hb.block k hk.lt
theorem OwW.off {B5 F P Q T : Nat} {stop : Int} {A3 : Option Addr} {m3 c3 : Nat} {want : List En} {w0 W W' : World} {ns : List Nd} {byt : Int} (h : OwW B5 F P Q stop A3 m3 c3 want W) (ht : Tb w0 W T ns byt) (hk : ∀ k, k < W.heap.size → ¬ Own T ns k → W'.heap[k]? = W.heap[k]?) : OwW B5 F P Q stop A3 m3 c3 want W' :=
  h.same fun k _ _ hb ht2 => hk k hb.lt (ht.own_not hb (by rcases ht2 with rfl | rfl | rfl | rfl <;> decide) (by rcases ht2 with rfl | rfl | rfl | rfl <;> decide))
/-- More is put in, i calls. -/
def O5 (w0 : World) (B5 F P Q T b1 b2 : Nat) (stop : Int) (A3 : Option Addr) (m3 c3 n1 n2 : Nat) (cnt : Int) (want l0 : List En) (s : Value) (W : World) : Prop :=
  ∃ (i : Nat) (ns : List Nd) (byt : Int), i ≤ n2 ∧ i ≤ 100 ∧ s = .int .i64 ((i : Nat) : Int) ∧ ns.length ≤ n1 + i ∧ Hid (TI w0 W T ns byt b1 b2 cnt l0) ∧ Hid (OwW B5 F P Q stop A3 m3 c3 want W)
theorem actIn_gen {F : Fence} {n : Nat} {P : Program} {c : Code} {Q : Exit → Act → World → Prop} {a : Act} {w : World} (h : ∀ a0, a0 = a → c.wpIn F n P Q a0 w) : c.wpIn F n P Q a w := h a rfl
/-- Between two turns. -/
structure TuI (w5 : World) (V t : Nat) (W : World) : Prop where
  box : Blk W V 3 #[.int .i64 ((t : Nat) : Int)]
  bel : Below w5.heap.size w5 W
  new : w5.heap.size ≤ V
def turnOf (v : Value) (W : World) : Nat := match v with
  | .pointer (some p) => (match W.cell? p with | some (.int _ t) => t.toNat | _ => 0)
  | _ => 0
theorem turn_at {V t : Nat} {W : World} (h : W.cell? ⟨V, 0, none⟩ = some (.int .i64 ((t : Nat) : Int))) : turnOf (.pointer (some ⟨V, 0, none⟩)) W = t := by simp [turnOf, h]
theorem tui_new {w5 W : World} (h : Below w5.heap.size w5 W) (t : Nat) : TuI w5 W.heap.size (t + 1) (W.alloc (.cells #[.int .i64 (((t : Nat) : Int) + 1)] 3)) := ⟨Blk.new W _ _, h.alloc h.size _, h.size⟩
theorem turn_less {V t g : Nat} {W W' : World} (h : W.cell? ⟨V, 0, none⟩ = some (.int .i64 ((t : Nat) : Int))) (ht : t < 2) (hb : Blk W' g 3 #[.int .i64 (((t + 1 : Nat) : Nat) : Int)]) : 2 - turnOf (.pointer (some ⟨g, 0, none⟩)) W' < 2 - turnOf (.pointer (some ⟨V, 0, none⟩)) W := by
  rw [turn_at h, turn_at (hb.cell 0)]
  omega
theorem marks_new {B N D : Nat} {ds : List Deferred} {W : World} (h : Marks B ds N W) (hB : B ≤ D) (hN : N ≤ D) (hK : W.heap[D]? = some (.deferred (some []))) (o : Obj) : Marks B ({ target := .collected D, args := #[] } :: ds) (W.alloc o).heap.size (W.alloc o) := by
  have hD := (Array.getElem?_eq_some_iff.1 hK).1
  exact ⟨D, rfl, hB, by rw [World.size_alloc]; omega, (Below.heap_alloc W o D hD).trans hK, (h.alloc o).mono hN⟩
theorem len_step {pre : List En} {y : En} {M : Nat} {stop : Int} (hM : M = 0 + pre.length) (hs : (M : Int) + 1 = stop) : (((pre ++ [y]).length : Nat) : Int) = stop := by rw [List.length_append, List.length_singleton]; omega
section
variable {w0 : World} {A B : Option Addr} {L L2 : List MOp} {k : ByteArray} {stop : Int}
set_option maxRecDepth 100000 in
set_option maxHeartbeats 6400000 in
theorem own_any (h : MScript w0 A L) (h2 : MScript w0 B L2) (n c n2 c2 : Nat) (hl : L.length = n) (hl2 : L2.length = n2) :
    Calls Try.prog 6 #[.slice A n c, .slice B n2 c2, .agg #[.string k, .int .i64 stop]] w0 (Yes w0) := by
  have HS := Lib.hid h
  have HL := Lib.hid hl
  have HS2 := Lib.hid h2
  have HL2 := Lib.hid hl2
  obtain ⟨W1, hW1⟩ : ∃ W1, W1 = w0.alloc (.cells #[.string k, .int .i64 stop] 47) := ⟨_, rfl⟩
  obtain ⟨W2, hW2⟩ : ∃ W2, W2 = W1.alloc (.cells #[.bool false] 4) := ⟨_, rfl⟩
  have hs1 : W1.heap.size = w0.heap.size + 1 := by rw [hW1]; simp
  have hs2 : W2.heap.size = w0.heap.size + 1 + 1 := by rw [hW2]; simp [hs1]
  have hb2 : Below w0.heap.size w0 W2 := by rw [hW2, hW1]; exact ((Below.refl _ w0).alloc (Nat.le_refl _) _).alloc (by simp) _
  have hA2 : Blk W2 w0.heap.size 47 #[.string k, .int .i64 stop] := by rw [hW2, hW1]; exact (Blk.new w0 _ _).alloc _
  have hF2 : Blk W2 (w0.heap.size + 1) 4 #[.bool false] := by
    rw [hW2]
    have := Blk.new W1 4 #[.bool false]
    rw [hs1] at this
    exact this
  clear h h2 hl hl2
  refine (callsIn_wide (n := 5)).1 (callsIn_of_wp_marks Try.func6 rfl trivial ?_ rfl)
  simp only [Try.ntmps6, List.size_toArray, List.length_cons, List.length_nil, Nat.reduceAdd, Nat.reduceSub, Array.replicate_succ, Array.replicate_zero, List.push_toArray, List.append_toArray, List.nil_append, List.cons_append]
  refine wpIn_wide.2 (wp_only ?_)
  go_upto_region 1 with fail
  rw [← hW1, ← hW2]
  obtain ⟨Z, hZ⟩ : ∃ Z, Z = w0.heap.size := ⟨_, rfl⟩
  obtain ⟨F, hF⟩ : ∃ F, F = Z + 1 := ⟨_, rfl⟩
  rw [← hZ] at hA2 hF2 hs2 ⊢
  rw [← hF] at hF2 hs2 ⊢
  have a0 := hA2.cell 0
  have a1 := hA2.cell 1
  simp only [List.getElem?_toArray, List.getElem?_cons_zero, List.getElem?_cons_succ] at a0 a1
  have HB2 := Lib.hid hb2
  have HA2 := Lib.hid hA2
  have HF2 := Lib.hid hF2
  have HSZ := Lib.hid hs2
  have HZZ := Lib.hid hZ
  have HFF := Lib.hid hF
  clear hb2 hA2 hF2 hW1 hW2 hs1 hs2 hZ hF
  have hKA := fun o : Obj => (And.intro (((HA2.out.alloc o).cell 0).trans rfl) (((HA2.out.alloc o).cell 1).trans rfl) : (W2.alloc o).cell? ⟨Z, 0, none⟩ = some (.string k) ∧ (W2.alloc o).cell? ⟨Z, 1, none⟩ = some (.int .i64 stop))
  refine wp_region_held_drew (S := (fun W => W.cell? ⟨Z, 0, none⟩ = some (.string k) ∧ W.cell? ⟨Z, 1, none⟩ = some (.int .i64 stop))) (by kernel_rfl) (by (first | exact ⟨a0, a1⟩ | exact hKA _)) (fun hHeld => ?_)
  refine wpAnyH_take (i := 0) (v := ?vr1_0) (Fr.take_at rfl) (by kernel_rfl) (by kernel_rfl) (by kernel_rfl) (fun _ _ _ h => h) (Or.inl ⟨by rfl, ?yr1_0⟩) (by assumption) ?nr1_0
  case yr1_0 => (intro w_ hSw; obtain ⟨q0, q1⟩ := hSw; go_simp; (try with_reducible rfl))
  try simp only [Act.put, List.setIfInBounds_toArray, List.set_cons_zero, List.set_cons_succ]
  refine wpAnyH_take (i := 1) (v := ?vr1_1) (Fr.take_at rfl) (by kernel_rfl) (by kernel_rfl) (by kernel_rfl) (fun _ _ _ h => h) (Or.inl ⟨by rfl, ?yr1_1⟩) (by assumption) ?nr1_1
  case yr1_1 => (intro w_ hSw; obtain ⟨q0, q1⟩ := hSw; go_simp; (try with_reducible rfl))
  try simp only [Act.put, List.setIfInBounds_toArray, List.set_cons_zero, List.set_cons_succ]
  refine wpAnyH_take (i := 2) (v := ?vr1_2) (Fr.take_at rfl) (by kernel_rfl) (by kernel_rfl) (by kernel_rfl) (fun _ _ _ h => h) (Or.inl ⟨by rfl, ?yr1_2⟩) (by assumption) ?nr1_2
  case yr1_2 => (intro w_ hSw; obtain ⟨q0, q1⟩ := hSw; go_simp; (try with_reducible rfl))
  try simp only [Act.put, List.setIfInBounds_toArray, List.set_cons_zero, List.set_cons_succ]
  refine wpAnyH_take (i := 3) (v := ?vr1_3) (Fr.take_at rfl) (by kernel_rfl) (by kernel_rfl) (by kernel_rfl) (fun _ _ _ h => h) (Or.inl ⟨by rfl, ?yr1_3⟩) (by assumption) ?nr1_3
  case yr1_3 => (intro w_ hSw; obtain ⟨q0, q1⟩ := hSw; go_simp; (try with_reducible rfl))
  try simp only [Act.put, List.setIfInBounds_toArray, List.set_cons_zero, List.set_cons_succ]
  refine wpAnyH_ready (rs := [4]) (by kernel_rfl) (by simp) ?_
  refine AllReadyH.cons (Fr.take_at rfl) (fun K hK => ?_) AllReadyH.nil
  go_simp
  refine hK.out _ _ (by (first | exact ⟨a0, a1⟩ | exact hKA _)) (fun hHeld => ?_)
  clear hK K
  try simp only [Act.put, List.setIfInBounds_toArray, List.set_cons_zero, List.set_cons_succ]
  refine wpAnyH_take (i := 5) (v := ?vr1_5) (Fr.take_at rfl) (by kernel_rfl) (by kernel_rfl) (by kernel_rfl) (fun _ _ _ h => h) (Or.inl ⟨by rfl, ?yr1_5⟩) (by assumption) ?nr1_5
  case yr1_5 => (intro w_ hSw; obtain ⟨q0, q1⟩ := hSw; go_simp; (try with_reducible rfl))
  try simp only [Act.put, List.setIfInBounds_toArray, List.set_cons_zero, List.set_cons_succ]
  refine wpAnyH_ready (rs := [6]) (by kernel_rfl) (by simp) ?_
  refine AllReadyH.cons (Fr.take_at rfl) (fun K hK => ?_) AllReadyH.nil
  go_simp
  refine hK.out _ _ (by (first | exact ⟨a0, a1⟩ | exact hKA _)) (fun hHeld => ?_)
  clear hK K
  try simp only [Act.put, List.setIfInBounds_toArray, List.set_cons_zero, List.set_cons_succ]
  refine wpAnyH_done (by kernel_rfl) ?_ _
  obtain ⟨W3, hW3⟩ : ∃ W3, W3 = (W2.alloc (.cells #[.int .i64 stop] 3)).drew := ⟨_, rfl⟩
  obtain ⟨P, hP⟩ : ∃ P, P = W2.heap.size := ⟨_, rfl⟩
  have hb3 : Below w0.heap.size w0 W3 := by rw [hW3]; exact below_drewN (HB2.out.alloc HB2.out.size _) 1
  have hbx : Bx F P stop W3 := by
    rw [hW3, hP]
    exact ⟨HF2.out.alloc _, Blk.new W2 _ _⟩
  have hw03 : W3.heap.size = P + 1 := by rw [hW3, hP]; simp
  have hPF : P = F + 1 := by rw [hP]; exact HSZ.out
  rw [← hW3, ← hP]
  have hc1 := new_any W3
  have HB3 := Lib.hid hb3
  have HBX := Lib.hid hbx
  have HPF := Lib.hid hPF
  have HW03 := Lib.hid hw03
  clear hW3 hP hb3 hbx hPF hw03 a0 a1 hKA hHeld HSZ HA2 HF2 HB2
  go_upto_block 0 with (first
    | (go_at_call 7; refine hc1.mono ?_; rintro e w1 ⟨rfl, hp1, hp2⟩; have ht1 := Tb.made rfl hp1 hp2; clear hp1)
    | (go_at_call 8; refine (awake_any w1).mono ?_; rintro e w4 ⟨rfl, hb4⟩; have ht2 := ht1.below hb4))
  have hb34 : Below W3.heap.size W3 w4 := hp2.trans (hb4.mono hp2.size)
  have hb04 : Below w0.heap.size w0 w4 := HB3.out.trans (hb34.mono HB3.out.size)
  have ht4 : Tb w0 w4 W3.heap.size [] 0 := ⟨ht2.rep, ht2.good, ht2.nodup, HB3.out.size, (fun n hn => by cases hn), hb04, ht2.b0, ht2.b1⟩
  have HBX4 := Lib.hid (HBX.out.below hb34)
  have HPL4 := Lib.hid (Pl.made ht4)
  obtain ⟨T, hT⟩ : ∃ T, T = W3.heap.size := ⟨_, rfl⟩
  rw [← hT] at HPL4 ⊢
  clear hT ht4 hb04 hb34 hb4 hp2 ht1 ht2 hc1
  go_cut [10] from 33 to 52 (fun s10 W => ∃ (A1 : Option Addr) (n1 c1 : Nat) (ns : List Nd) (byt : Int), n1 ≤ 100 ∧ s10 = .slice A1 n1 c1 ∧ Hid (Bx F P stop W) ∧ Hid (Pl w0 W T ns byt A1 n1 c1))
  case first =>
    go_wp2_with fail
    go_loopw [10, 11] (O1 w0 F P T stop n) (fun _ x _ => n - (intOf x).toNat)
    case atStart => exact ⟨0, none, 0, 0, [], 0, by omega, by omega, rfl, rfl, by omega, HBX4, HPL4⟩
    case round =>
      obtain ⟨i, A1, n1, c1, ns, byt, hin, hi100, rfl, rfl, hn1, HX, HP⟩ := hrel
      by_cases hlt : i < n ∧ i < 100
      · obtain ⟨hlt, hlt2⟩ := hlt
        obtain ⟨m, hm⟩ : ∃ m, L[i]? = some m := ⟨L[i]'(by have := HL.out; omega), List.getElem?_eq_getElem _⟩
        obtain ⟨g, p, rfl, hg, hop⟩ := HS.out.cell i m hm
        have HO := Lib.hid (fun W hW => yes_eq w0 hg hop W hW)
        have hS0 : OpC wr g (p + i * 6) m := HO.out wr HP.out.t.bel
        have k1 : (i : Int) < (n : Int) := by omega
        have k2 : (i : Int) < 100 := by omega
        have k3 : (0 : Int) ≤ (i : Int) := by omega
        obtain ⟨ask, e, hgt⟩ := m
        clear hm hop
        obtain ⟨q0, q1, q2, q3, q4, q5⟩ := hS0
        go_wp2_with (go_at_call 9; (refine (play_any HP.out (by omega) ask e hgt).mono ?_); rintro x w5 ⟨hsz5, hbk5, A2, n3, c3, ns', byt', rfl, hn', hp'⟩; have hx5 := HX.out.off HP.out.t hbk5; have HX5 := Lib.hid hx5; have HP5 := Lib.hid hp'; have hlen1 := HP.out.len; have hlen2 := hp'.len; clear hp' hx5 hbk5)
        go_roundw
        case rel => exact ⟨i + 1, A2, n3, c3, ns', byt', by omega, by omega, by simp, rfl, by omega, HX5, HP5⟩
        case measure => simp [intOf]; omega
      · by_cases hin2 : i < n
        · have k1 : (i : Int) < (n : Int) := by omega
          have k2 : ¬ (i : Int) < 100 := by omega
          go_wp2_with fail
          go_meet
          case rel => exact ⟨A1, n1, c1, ns, byt, by omega, rfl, HX, HP⟩
        · have k1 : ¬ (i : Int) < (n : Int) := by omega
          go_wp2_with fail
          go_meet
          case rel => exact ⟨A1, n1, c1, ns, byt, by omega, rfl, HX, HP⟩
  case rest =>
    clear HPL4 HBX4
    obtain ⟨A1, n1, c1, ns, byt, hn1, rfl, HX, HP⟩ := hcut
    go_upto_region 11 with fail
    obtain ⟨W5, hW5⟩ : ∃ W5, W5 = wc.alloc (.cells #[.slice none 0 0] 26) := ⟨_, rfl⟩
    have hq5 : Blk W5 wc.heap.size 26 #[.slice none 0 0] := by rw [hW5]; exact Blk.new _ _ _
    have hb5 : Below wc.heap.size wc W5 := by rw [hW5]; exact (Below.refl _ _).alloc (Nat.le_refl _) _
    rw [← hW5]
    obtain ⟨Q, hQ⟩ : ∃ Q, Q = wc.heap.size := ⟨_, rfl⟩
    have HQ0 := Lib.hid (show w0.heap.size ≤ Q by rw [hQ]; exact HP.out.t.bel.size)
    rw [← hQ] at hq5 ⊢
    have HX5 := Lib.hid (HX.out.below hb5)
    have HP5 := Lib.hid (HP.out.below hb5)
    have HQ5 := Lib.hid hq5
    have HPQ := Lib.hid (show P < Q by rw [hQ]; exact HX.out.p.lt)
    have HFQ := Lib.hid (show F < Q by rw [hQ]; exact HX.out.f.lt)
    clear hW5 hQ hq5 hb5 HX HP
    obtain ⟨ie, hie, hiz, hiz1, hiz2⟩ := info_parts info_entry
    obtain ⟨l, hl2⟩ : ∃ l, l = ns.map Nd.e := ⟨_, rfl⟩
    have hll : l.length = n1 := by rw [hl2, List.length_map]; exact HP5.out.len
    have HLL := Lib.hid hll
    have HLQ := Lib.hid hl2
    clear hl2 hll
    have wb0 := HQ5.out.cell 0
    simp only [List.getElem?_toArray, List.getElem?_cons_zero] at wb0
    go_wp2
    go_loopw [55] (O2 W5 Q n1 k l) (fun x _ => n1 - (intOf x).toNat)
    case atStart => exact ⟨0, none, 0, 0, by omega, rfl, by omega, Lib.hid (Mod.refl _ _), HQ5, Lib.hid ⟨rfl, .inl ⟨rfl, rfl⟩⟩⟩
    case round =>
      obtain ⟨j, A3, m3, c3, hj, rfl, hm3, HM, HQW, HWR⟩ := hrel
      by_cases hlt3 : j < n1
      · obtain ⟨x, hx⟩ : ∃ x, l[j]? = some x := ⟨l[j]'(by have := HLL.out; omega), List.getElem?_eq_getElem _⟩
        have hpw := HP5.out.mod HQ5.out (by decide) (by decide) (by decide) HM.out HQ0.out
        have hrow := hpw.row
        have hrow5 := HP5.out.row
        rw [← HLQ.out] at hrow hrow5
        have hne := own_ne_b hrow5 HQ5.out (by decide)
        obtain ⟨g', p', hgg, hg5, _⟩ := erd_at (rd_ownN hrow5) hx
        obtain ⟨g, p, rfl, hg, x0, x1, x2, x3⟩ := erd_at (rd_ownN hrow) hx
        obtain ⟨rfl, rfl⟩ : g = g' ∧ p = p' := by cases hgg; exact ⟨rfl, rfl⟩
        clear hgg
        have hgQ : g ≠ Q := fun e => by
          rcases HP5.out.shape.2 with ⟨h, _⟩ | ⟨g0, h⟩
          · cases h
          · cases h
            rcases hne with h | h
            · simp [Value.ownBlock] at h
            · exact h (by simp [Value.ownBlock]; exact e)
        have k5 : (j : Int) < (n1 : Int) := by omega
        have k6 : (0 : Int) ≤ (j : Int) := by omega
        have hbl2 := bytesLess_eq x.key.toList k.toList
        have HXX := Lib.hid hx
        clear hx hpw hrow hrow5 hne
        cases hbl : Op.bytesLess x.key.toList k.toList with
        | true =>
          have hst := wantK_step (k := k) HXX.out
          rw [hbl] at hbl2
          rw [if_pos (by simpa [En.k] using hbl2.symm)] at hst
          have HST := Lib.hid hst
          clear hst hbl2
          go_wp2
          go_roundw
          case rel => exact ⟨j + 1, A3, m3, c3, by omega, by simp, by omega, HM, HQW, Lib.hid (by rw [HST.out]; exact HWR.out)⟩
          case measure => simp [intOf]; omega
        | false =>
          have hst := wantK_step (k := k) HXX.out
          rw [hbl] at hbl2
          rw [if_neg (by simpa [En.k] using hbl2.symm)] at hst
          have HST := Lib.hid hst
          clear hst hbl2
          have HBS := Lib.hid (fun o : Obj => show W5.heap.size ≤ ((wr.alloc o).drew).heap.size from Nat.le_trans HM.out.size (by simp))
          have hq0 := HQW.out.cell 0
          have hq1 := fun o : Obj => (HQW.out.alloc o).cell 0
          have hsx := fun o : Obj => (show (wr.alloc o).cell? ⟨g, p + j * 4, none⟩ = some (.string x.key) ∧ (wr.alloc o).cell? ⟨g, p + j * 4 + 1, none⟩ = some (.int .i64 x.seq) ∧ (wr.alloc o).cell? ⟨g, p + j * 4 + 2, none⟩ = some (.bool x.del) ∧ (wr.alloc o).cell? ⟨g, p + j * 4 + 3, none⟩ = some (.string x.val) from ⟨(World.cell?_of_block (Below.heap_alloc wr o g hg)).trans x0, (World.cell?_of_block (Below.heap_alloc wr o g hg)).trans x1, (World.cell?_of_block (Below.heap_alloc wr o g hg)).trans x2, (World.cell?_of_block (Below.heap_alloc wr o g hg)).trans x3⟩)
          simp only [List.getElem?_toArray, List.getElem?_cons_zero] at hq0 hq1
          go_upto_region 15 with fail
          refine wp_region_held_drew (S := (fun W => W.cell? ⟨g, p + j * 4, none⟩ = some (.string x.key) ∧ W.cell? ⟨g, p + j * 4 + 1, none⟩ = some (.int .i64 x.seq) ∧ W.cell? ⟨g, p + j * 4 + 2, none⟩ = some (.bool x.del) ∧ W.cell? ⟨g, p + j * 4 + 3, none⟩ = some (.string x.val))) (by kernel_rfl) (by (first | exact ⟨x0, x1, x2, x3⟩ | exact hsx _ | exact hsy | exact hsz _)) (fun hHeld => ?_)
          refine wpAnyH_take (i := 1) (v := ?vr2x_1) (Fr.take_at rfl) (by kernel_rfl) (by kernel_rfl) (by kernel_rfl) (fun _ _ _ h => h) (Or.inl ⟨by rfl, ?yr2x_1⟩) (by assumption) ?nr2x_1
          case yr2x_1 => (intro w_ hSw; obtain ⟨v0, v1, v2, v3⟩ := hSw; go_simp; (try with_reducible rfl))
          try simp only [Act.put, List.setIfInBounds_toArray, List.set_cons_zero, List.set_cons_succ]
          refine wpAnyH_take (i := 2) (v := ?vr2x_2) (Fr.take_at rfl) (by kernel_rfl) (by kernel_rfl) (by kernel_rfl) (fun _ _ _ h => h) (Or.inl ⟨by rfl, ?yr2x_2⟩) (by assumption) ?nr2x_2
          case yr2x_2 => (intro w_ hSw; obtain ⟨v0, v1, v2, v3⟩ := hSw; go_simp; (try with_reducible rfl))
          try simp only [Act.put, List.setIfInBounds_toArray, List.set_cons_zero, List.set_cons_succ]
          refine wpAnyH_take (i := 3) (v := ?vr2x_3) (Fr.take_at rfl) (by kernel_rfl) (by kernel_rfl) (by kernel_rfl) (fun _ _ _ h => h) (Or.inl ⟨by rfl, ?yr2x_3⟩) (by assumption) ?nr2x_3
          case yr2x_3 => (intro w_ hSw; obtain ⟨v0, v1, v2, v3⟩ := hSw; go_simp; (try with_reducible rfl))
          try simp only [Act.put, List.setIfInBounds_toArray, List.set_cons_zero, List.set_cons_succ]
          refine wpAnyH_take (i := 4) (v := ?vr2x_4) (Fr.take_at rfl) (by kernel_rfl) (by kernel_rfl) (by kernel_rfl) (fun _ _ _ h => h) (Or.inl ⟨by rfl, ?yr2x_4⟩) (by assumption) ?nr2x_4
          case yr2x_4 => (intro w_ hSw; obtain ⟨v0, v1, v2, v3⟩ := hSw; go_simp; (try with_reducible rfl))
          try simp only [Act.put, List.setIfInBounds_toArray, List.set_cons_zero, List.set_cons_succ]
          refine wpAnyH_ready (rs := [0, 5]) (by kernel_rfl) (by simp) ?_
          refine AllReadyH.cons (Fr.take_at rfl) (fun K hK => ?_) (AllReadyH.cons (Fr.take_at rfl) (fun K hK => ?_) AllReadyH.nil)
          go_simp
          refine hK.out _ _ (by (first | exact ⟨x0, x1, x2, x3⟩ | exact hsx _ | exact hsy | exact hsz _)) (fun hHeld => ?_)
          clear hK K
          try simp only [Act.put, List.setIfInBounds_toArray, List.set_cons_zero, List.set_cons_succ]
          refine wpAnyH_ready (rs := [5]) (by kernel_rfl) (by simp) ?_
          refine AllReadyH.cons (Fr.take_at rfl) (fun K hK => ?_) AllReadyH.nil
          go_simp
          refine hK.out _ _ (by (first | exact ⟨x0, x1, x2, x3⟩ | exact hsx _ | exact hsy | exact hsz _)) (fun hHeld => ?_)
          clear hK K
          try simp only [Act.put, List.setIfInBounds_toArray, List.set_cons_zero, List.set_cons_succ]
          refine wpAnyH_ready (rs := [6]) (by kernel_rfl) (by simp) ?_
          refine AllReadyH.cons (Fr.take_at rfl) (fun K hK => ?_) AllReadyH.nil
          rw [if_pos (by rfl)]
          go_loud (refine wp_appN _ (.tmp 65) (.tmp 70) _ rfl W5.heap.size 30 ie _ 4 48 Try.underlying26 hie hiz hiz1 hiz2 rfl (by decide) _ m3 (ev (wantK l k j)) rfl (own_drew (HWR.out.alloc _)) ⟨_, 0, none⟩ 1 1 (ecells x) rfl rfl (one_drew _ _ _) (ecells_one _) (m3 + 1) rfl (by unfold maxLen; omega) (by omega) (HBS.out _) ?_; intro A9 c9 w9 hown9 hb9 hg9; have hb9' := (below_drewN ((Below.refl W5.heap.size wr).alloc HM.out.size _) 1).trans hb9; have hq9 := HQW.out.same (hb9'.block Q HQ5.out.lt); have qc9 := hq9.cell 0; have qf9 := hq9.frozen 0; simp only [List.getElem?_toArray, List.getElem?_cons_zero] at qc9; have hsy := x_below (g := g) (p := p) (j := j) hb9' hg5 ⟨x0, x1, x2, x3⟩; have hsz := fun v : Value => x_set (Q := Q) hsy hgQ v)
          refine hK.out _ _ (by (first | exact ⟨x0, x1, x2, x3⟩ | exact hsx _ | exact hsy | exact hsz _)) (fun hHeld => ?_)
          clear hK K
          try simp only [Act.put, List.setIfInBounds_toArray, List.set_cons_zero, List.set_cons_succ]
          refine wpAnyH_ready (rs := [7]) (by kernel_rfl) (by simp) ?_
          refine AllReadyH.cons (Fr.take_at rfl) (fun K hK => ?_) AllReadyH.nil
          go_simp
          refine hK.out _ _ (by (first | exact ⟨x0, x1, x2, x3⟩ | exact hsx _ | exact hsy | exact hsz _)) (fun hHeld => ?_)
          clear hK K
          try simp only [Act.put, List.setIfInBounds_toArray, List.set_cons_zero, List.set_cons_succ]
          refine wpAnyH_done (by kernel_rfl) ?_ _
          rotate_left
          go_simp
          refine hK.out _ _ (by (first | exact ⟨x0, x1, x2, x3⟩ | exact hsx _ | exact hsy | exact hsz _)) (fun hHeld => ?_)
          clear hK K
          try simp only [Act.put, List.setIfInBounds_toArray, List.set_cons_zero, List.set_cons_succ]
          refine wpAnyH_ready (rs := [0]) (by kernel_rfl) (by simp) ?_
          refine AllReadyH.cons (Fr.take_at rfl) (fun K hK => ?_) AllReadyH.nil
          go_simp
          refine hK.out _ _ (by (first | exact ⟨x0, x1, x2, x3⟩ | exact hsx _ | exact hsy | exact hsz _)) (fun hHeld => ?_)
          clear hK K
          try simp only [Act.put, List.setIfInBounds_toArray, List.set_cons_zero, List.set_cons_succ]
          refine wpAnyH_ready (rs := [6]) (by kernel_rfl) (by simp) ?_
          refine AllReadyH.cons (Fr.take_at rfl) (fun K hK => ?_) AllReadyH.nil
          rw [if_pos (by rfl)]
          go_loud (refine wp_appN _ (.tmp 65) (.tmp 70) _ rfl W5.heap.size 30 ie _ 4 48 Try.underlying26 hie hiz hiz1 hiz2 rfl (by decide) _ m3 (ev (wantK l k j)) rfl (own_drew (HWR.out.alloc _)) ⟨_, 0, none⟩ 1 1 (ecells x) rfl rfl (one_drew _ _ _) (ecells_one _) (m3 + 1) rfl (by unfold maxLen; omega) (by omega) (HBS.out _) ?_; intro A9 c9 w9 hown9 hb9 hg9; have hb9' := (below_drewN ((Below.refl W5.heap.size wr).alloc HM.out.size _) 1).trans hb9; have hq9 := HQW.out.same (hb9'.block Q HQ5.out.lt); have qc9 := hq9.cell 0; have qf9 := hq9.frozen 0; simp only [List.getElem?_toArray, List.getElem?_cons_zero] at qc9; have hsy := x_below (g := g) (p := p) (j := j) hb9' hg5 ⟨x0, x1, x2, x3⟩; have hsz := fun v : Value => x_set (Q := Q) hsy hgQ v)
          refine hK.out _ _ (by (first | exact ⟨x0, x1, x2, x3⟩ | exact hsx _ | exact hsy | exact hsz _)) (fun hHeld => ?_)
          clear hK K
          try simp only [Act.put, List.setIfInBounds_toArray, List.set_cons_zero, List.set_cons_succ]
          refine wpAnyH_ready (rs := [7]) (by kernel_rfl) (by simp) ?_
          refine AllReadyH.cons (Fr.take_at rfl) (fun K hK => ?_) AllReadyH.nil
          go_simp
          refine hK.out _ _ (by (first | exact ⟨x0, x1, x2, x3⟩ | exact hsx _ | exact hsy | exact hsz _)) (fun hHeld => ?_)
          clear hK K
          try simp only [Act.put, List.setIfInBounds_toArray, List.set_cons_zero, List.set_cons_succ]
          refine wpAnyH_done (by kernel_rfl) ?_ _
          rotate_left
          all_goals go_wp2
          all_goals go_roundw
          all_goals first
            | exact ⟨j + 1, A9, m3 + 1, c9, by omega, by simp, by omega, Lib.hid ((HM.out.beyond hb9').setCell (fun _ => rfl) _), Lib.hid (hq9.set 0 _), Lib.hid (by rw [HST.out, ev_snoc]; exact own_same hown9 fun k hk => Below.heap_setCell _ _ _ _ (by show k ≠ Q; have h1 := own_rowN hown9 k hk; have h2 := HQ5.out.lt; omega))⟩
            | (simp [intOf]; omega)
      · obtain rfl : n1 = j := by omega
        obtain ⟨wq, hwq⟩ : ∃ wq, wq = wr := ⟨_, rfl⟩
        subst hwq
        have k5 : ¬ (n1 : Int) < (n1 : Int) := by omega
        have hpw := HP5.out.mod HQ5.out (by decide) (by decide) (by decide) HM.out HQ0.out
        have hxw : Bx F P stop wq := ⟨HX5.out.f.same (HM.out.block _ HX5.out.f.lt (by show F ≠ Q; have := HFQ.out; omega)), HX5.out.p.same (HM.out.block _ HX5.out.p.lt (by show P ≠ Q; have := HPQ.out; omega))⟩
        have hfr := from_any hpw.t.rep hpw.t.good k
        have hwant : wantK l k n1 = (fromN ns k.toList).map Nd.e := by
          rw [from_filter hpw.v hpw.t.rep.sorted k, ← HLQ.out]
          unfold wantK
          rw [List.take_of_length_le (by rw [HLL.out]; exact Nat.le_refl _)]
        have hlq := HLQ.out
        have HPW := Lib.hid hpw
        have HXW := Lib.hid hxw
        have HFR := Lib.hid hfr
        have HWT := Lib.hid hwant
        have hall := fun W' (hW : Below wq.heap.size wq W') => all_any (HPW.out.below hW).t.rep (HPW.out.below hW).t.good HPW.out.v HPW.out.t.nodup (by have := HPW.out.len; omega)
        rw [HPW.out.len, ← HLQ.out] at hall
        have HALL := Lib.hid hall
        clear hpw hxw hfr hwant hall hlq HP5 HX5 wb0
        go_upto_region 18 with (first
          | (go_at_call 11; go_loud (refine HFR.out.mono ?_; intro e W6 hfr6; obtain ⟨b1, b2, rfl, hit6, hb6⟩ := FromRet.it (k := k) hfr6 HPW.out.v (by rw [HPW.out.len])))
          | (go_at_call 13; go_loud (refine (HALL.out _ hb6).mono ?_; rintro e W7 ⟨A7, c7, rfl, hr7, hb7⟩)))
        have hnf : ∀ W : World, (binOp .eql 35 (.func (.func 20) #[] #[.pointer (some ⟨b1, 0, none⟩), .pointer (some ⟨b2, 0, none⟩)]) .nilFunc).run Try.prog W = .ok (.bool false) W := fun W => by rfl
        have HIT := Lib.hid hit6
        have HB6 := Lib.hid hb6
        have HR7 := Lib.hid hr7
        have HB7 := Lib.hid hb7
        clear hit6 hb6 hr7 hb7
        go_wp2
        go_loopw [82] (O3 W6 A7 n1 c7) (fun x _ => n1 - (intOf x).toNat)
        case atStart => exact ⟨0, by omega, rfl, HB7, Lib.hid ⟨_, HR7.out⟩⟩
        case round =>
          obtain ⟨j, hj, rfl, HB, HR⟩ := hrel
          by_cases hlt3 : j < n1
          · obtain ⟨g7, hA7, hg7, hcc⟩ := HR.out.elim fun xs h => own_cells4 h hlt3
            subst hA7
            obtain ⟨⟨⟨u0, e0⟩, ⟨u1, e1⟩, ⟨u2, e2⟩, ⟨u3, e3⟩⟩, hfz⟩ := hcc
            have k5 : (j : Int) < (n1 : Int) := by omega
            have k6 : (0 : Int) ≤ (j : Int) := by omega
            go_wp2
            exact ⟨⟨j + 1, by omega, by simp, Lib.hid (below_set (below_set (below_set (below_set HB.out hg7 _) hg7 _) hg7 _) hg7 _), Lib.hid (ex_set (ex_set (ex_set (ex_set HR.out))))⟩, by simp [intOf]; omega⟩
          · obtain rfl : n1 = j := by omega
            have k7 : ¬ (n1 : Int) < (n1 : Int) := by omega
            go_wp2
            go_loopw [15, 17] (O4 W6 n1) (fun _ x _ => 20 - (intOf x).toNat)
            case atStart => exact ⟨0, A7, c7, by omega, rfl, rfl, HB, HR⟩
            case round =>
              clear HB HR
              obtain ⟨i, A9, c9, hi, rfl, rfl, HB, HR⟩ := hrel
              by_cases h20 : i < 20
              · have k8 : (i : Int) < 20 := by omega
                obtain ⟨xs9, hxs9⟩ := HR.out
                have HX9 := Lib.hid hxs9
                have HBS := Lib.hid (fun o : Obj => show W6.heap.size ≤ (wr.alloc o).heap.size from Nat.le_trans HB.out.size (by simp))
                clear hxs9
                go_wp2_with (at_builtin; refine wpList_appN _ rfl (.tmp 94) (.tmp 96) _ rfl W6.heap.size 30 ie _ 4 48 Try.underlying26 hie hiz hiz1 hiz2 rfl (by decide) _ (n1 + i) xs9 rfl (HX9.out.alloc _) ⟨_, 0, none⟩ 1 1 (ecells ⟨⟨#[33]⟩, 0, false, ⟨#[]⟩⟩) rfl rfl (one_cells _ _ _) (ecells_one _) (n1 + (i + 1)) (by omega) (by unfold maxLen; omega) (by omega) (HBS.out _) ?_; intro A10 c10 w10 hown10 hb10 hg10)
                exact ⟨⟨i + 1, A10, c10, by omega, by simp, rfl, Lib.hid ((HB.out.alloc HB.out.size _).trans hb10), Lib.hid ⟨_, hown10⟩⟩, by simp [intOf]; omega⟩
              · obtain rfl : i = 20 := by omega
                have k8 : ¬ ((20 : Nat) : Int) < 20 := by omega
                have hbA : Below wq.heap.size wq wr := HB6.out.trans (HB.out.mono HB6.out.size)
                have hrA : Rd wr A1 (ev l) := by have := rd_ownN (HPW.out.below hbA).row; rwa [← HLQ.out] at this
                have HIA := Lib.hid (HIT.out.below HB.out)
                have HBA := Lib.hid hbA
                have HRA := Lib.hid hrA
                clear hbA hrA
                go_upto_block 8 with (first
                  | (go_at_call 13; refine (HALL.out _ HBA.out).mono ?_; rintro e W8 ⟨A8, c8, rfl, hr8, hb8⟩)
                  | (go_at_call 12; refine (same_any HLL.out (by omega) (rd_ownN hr8) (HRA.out.below hb8)).mono ?_; rintro e W9 ⟨rfl, hb9⟩))
                have hb89 : Below wr.heap.size wr W9 := hb8.trans (hb9.mono hb8.size)
                have hbq9 : Below wq.heap.size wq W9 := HBA.out.trans (hb89.mono HBA.out.size)
                have hti : TI w0 W9 T ns byt b1 b2 (ns.length : Int) ((fromN ns k.toList).map Nd.e) := ⟨(HPW.out.below hbq9).t, HPW.out.v, HIA.out.below hb89, Int.le_refl _⟩
                have how : OwW W5.heap.size F P Q stop A3 m3 c3 (wantK l k n1) W9 := OwW.below ⟨HXW.out, HQW.out, HWR.out⟩ hbq9
                rw [HWT.out] at how
                obtain ⟨want, hwant⟩ : ∃ want, want = (fromN ns k.toList).map Nd.e := ⟨_, rfl⟩
                rw [← hwant] at how hti
                obtain ⟨cnt, hcnt⟩ : ∃ cnt, cnt = (ns.length : Int) := ⟨_, rfl⟩
                rw [← hcnt] at hti
                have hnl := HPW.out.len
                have HTI := Lib.hid hti
                have HOW := Lib.hid how
                clear hb8 hb9 hb89 hbq9 hr8 hti how hwant hcnt HIA HBA HRA HPW HXW HFR HWT HALL HQW HWR HM
                go_cut [] from 103 to 124 (fun W => ∃ (ns' : List Nd) (byt' : Int), ns'.length ≤ 200 ∧ Hid (TI w0 W T ns' byt' b1 b2 cnt want) ∧ Hid (OwW W5.heap.size F P Q stop A3 m3 c3 want W))
                case first =>
                  go_wp2_with fail
                  go_loopw [18] (O5 w0 W5.heap.size F P Q T b1 b2 stop A3 m3 c3 n1 n2 cnt want want) (fun x _ => n2 - (intOf x).toNat)
                  case atStart => exact ⟨0, ns, byt, by omega, by omega, rfl, by omega, HTI, HOW⟩
                  case round =>
                    obtain ⟨i, ns', byt', hin, hi100, rfl, hn', HT, HW⟩ := hrel
                    by_cases hlt : i < n2 ∧ i < 100
                    · obtain ⟨hlt, hlt2⟩ := hlt
                      obtain ⟨m, hm⟩ : ∃ m, L2[i]? = some m := ⟨L2[i]'(by have := HL2.out; omega), List.getElem?_eq_getElem _⟩
                      obtain ⟨g, p, rfl, hg, hop⟩ := HS2.out.cell i m hm
                      have HO := Lib.hid (fun W hW => yes_eq w0 hg hop W hW)
                      have hS0 : OpC wr g (p + i * 6) m := HO.out wr HT.out.t.bel
                      have k1 : (i : Int) < (n2 : Int) := by omega
                      have k2 : (i : Int) < 100 := by omega
                      have k3 : (0 : Int) ≤ (i : Int) := by omega
                      obtain ⟨ask, e, hgt⟩ := m
                      clear hm hop
                      go_upto_region 34 with fail
                      refine wp_region_held_drew (S := (fun W => OpC W g (p + i * 6) ⟨ask, e, hgt⟩)) (by kernel_rfl) (by (first | (with_reducible assumption) | (with_reducible exact OpC.drew (by assumption)))) (fun hHeld => ?_)
                      refine wpAnyH_take (i := 0) (v := ?vr3_0) (Fr.take_at rfl) (by kernel_rfl) (by kernel_rfl) (by kernel_rfl) (fun _ _ _ h => h) (Or.inl ⟨by rfl, ?yr3_0⟩) (by assumption) ?nr3_0
                      case yr3_0 => (intro w_ hSw; obtain ⟨q0, q1, q2, q3, q4, q5⟩ := hSw; go_simp; (try with_reducible rfl))
                      try simp only [Act.put, List.setIfInBounds_toArray, List.set_cons_zero, List.set_cons_succ]
                      refine wpAnyH_take (i := 1) (v := ?vr3_1) (Fr.take_at rfl) (by kernel_rfl) (by kernel_rfl) (by kernel_rfl) (fun _ _ _ h => h) (Or.inl ⟨by rfl, ?yr3_1⟩) (by assumption) ?nr3_1
                      case yr3_1 => (intro w_ hSw; obtain ⟨q0, q1, q2, q3, q4, q5⟩ := hSw; go_simp; (try with_reducible rfl))
                      try simp only [Act.put, List.setIfInBounds_toArray, List.set_cons_zero, List.set_cons_succ]
                      refine wpAnyH_take (i := 2) (v := ?vr3_2) (Fr.take_at rfl) (by kernel_rfl) (by kernel_rfl) (by kernel_rfl) (fun _ _ _ h => h) (Or.inl ⟨by rfl, ?yr3_2⟩) (by assumption) ?nr3_2
                      case yr3_2 => (intro w_ hSw; obtain ⟨q0, q1, q2, q3, q4, q5⟩ := hSw; go_simp; (try with_reducible rfl))
                      try simp only [Act.put, List.setIfInBounds_toArray, List.set_cons_zero, List.set_cons_succ]
                      refine wpAnyH_take (i := 3) (v := ?vr3_3) (Fr.take_at rfl) (by kernel_rfl) (by kernel_rfl) (by kernel_rfl) (fun _ _ _ h => h) (Or.inl ⟨by rfl, ?yr3_3⟩) (by assumption) ?nr3_3
                      case yr3_3 => (intro w_ hSw; obtain ⟨q0, q1, q2, q3, q4, q5⟩ := hSw; go_simp; (try with_reducible rfl))
                      try simp only [Act.put, List.setIfInBounds_toArray, List.set_cons_zero, List.set_cons_succ]
                      refine wpAnyH_take (i := 4) (v := ?vr3_4) (Fr.take_at rfl) (by kernel_rfl) (by kernel_rfl) (by kernel_rfl) (fun _ _ _ h => h) (Or.inl ⟨by rfl, ?yr3_4⟩) (by assumption) ?nr3_4
                      case yr3_4 => (intro w_ hSw; obtain ⟨q0, q1, q2, q3, q4, q5⟩ := hSw; go_simp; (try with_reducible rfl))
                      try simp only [Act.put, List.setIfInBounds_toArray, List.set_cons_zero, List.set_cons_succ]
                      refine wpAnyH_take (i := 5) (v := ?vr3_5) (Fr.take_at rfl) (by kernel_rfl) (by kernel_rfl) (by kernel_rfl) (fun _ _ _ h => h) (Or.inl ⟨by rfl, ?yr3_5⟩) (by assumption) ?nr3_5
                      case yr3_5 => (intro w_ hSw; obtain ⟨q0, q1, q2, q3, q4, q5⟩ := hSw; go_simp; (try with_reducible rfl))
                      try simp only [Act.put, List.setIfInBounds_toArray, List.set_cons_zero, List.set_cons_succ]
                      refine wpAnyH_take (i := 6) (v := ?vr3_6) (Fr.take_at rfl) (by kernel_rfl) (by kernel_rfl) (by kernel_rfl) (fun _ _ _ h => h) (Or.inl ⟨by rfl, ?yr3_6⟩) (by assumption) ?nr3_6
                      case yr3_6 => (intro w_ hSw; obtain ⟨q0, q1, q2, q3, q4, q5⟩ := hSw; go_simp; (try with_reducible rfl))
                      try simp only [Act.put, List.setIfInBounds_toArray, List.set_cons_zero, List.set_cons_succ]
                      refine wpAnyH_take (i := 7) (v := ?vr3_7) (Fr.take_at rfl) (by kernel_rfl) (by kernel_rfl) (by kernel_rfl) (fun _ _ _ h => h) (Or.inl ⟨by rfl, ?yr3_7⟩) (by assumption) ?nr3_7
                      case yr3_7 => (intro w_ hSw; obtain ⟨q0, q1, q2, q3, q4, q5⟩ := hSw; go_simp; (try with_reducible rfl))
                      try simp only [Act.put, List.setIfInBounds_toArray, List.set_cons_zero, List.set_cons_succ]
                      refine wpAnyH_take (i := 8) (v := ?vr3_8) (Fr.take_at rfl) (by kernel_rfl) (by kernel_rfl) (by kernel_rfl) (fun _ _ _ h => h) (Or.inl ⟨by rfl, ?yr3_8⟩) (by assumption) ?nr3_8
                      case yr3_8 => (intro w_ hSw; obtain ⟨q0, q1, q2, q3, q4, q5⟩ := hSw; go_simp; (try with_reducible rfl))
                      try simp only [Act.put, List.setIfInBounds_toArray, List.set_cons_zero, List.set_cons_succ]
                      refine wpAnyH_take (i := 9) (v := ?vr3_9) (Fr.take_at rfl) (by kernel_rfl) (by kernel_rfl) (by kernel_rfl) (fun _ _ _ h => h) (Or.inl ⟨by rfl, ?yr3_9⟩) (by assumption) ?nr3_9
                      case yr3_9 => (intro w_ hSw; obtain ⟨q0, q1, q2, q3, q4, q5⟩ := hSw; go_simp; (try with_reducible rfl))
                      try simp only [Act.put, List.setIfInBounds_toArray, List.set_cons_zero, List.set_cons_succ]
                      refine wpAnyH_take (i := 10) (v := ?vr3_10) (Fr.take_at rfl) (by kernel_rfl) (by kernel_rfl) (by kernel_rfl) (fun _ _ _ h => h) (Or.inl ⟨by rfl, ?yr3_10⟩) (by assumption) ?nr3_10
                      case yr3_10 => (intro w_ hSw; obtain ⟨q0, q1, q2, q3, q4, q5⟩ := hSw; go_simp; (try with_reducible rfl))
                      try simp only [Act.put, List.setIfInBounds_toArray, List.set_cons_zero, List.set_cons_succ]
                      refine wpAnyH_ready (rs := [11]) (by kernel_rfl) (by simp) ?_
                      refine AllReadyH.cons (Fr.take_at rfl) (fun K hK => ?_) AllReadyH.nil
                      go_simp
                      (go_at_call 16; refine (more_any (HT.out.below (below_drewN (Below.refl _ _) 1)) (by omega) e hgt).mono ?_; rintro x w5 ⟨z, rfl, hsz5, hk5, ns2, byt2, hl2, hti2⟩; have hS5 := HO.out w5 hti2.t.bel; have how2 := (HW.out.below (below_drewN (Below.refl _ _) 1)).off (HT.out.below (below_drewN (Below.refl _ _) 1)).t hk5; have HT2 := Lib.hid hti2; have HW2 := Lib.hid how2; clear hti2 how2 hk5)
                      try go_wp2_with fail
                      refine hK.out _ _ (by (first | (with_reducible assumption) | (with_reducible exact OpC.drew (by assumption)))) (fun hHeld => ?_)
                      clear hK K
                      try simp only [Act.put, List.setIfInBounds_toArray, List.set_cons_zero, List.set_cons_succ]
                      refine wpAnyH_done (by kernel_rfl) ?_ _
                      go_wp2
                      exact ⟨⟨i + 1, ns2, byt2, by omega, by omega, by simp, by omega, HT2, HW2⟩, by simp [intOf]; omega⟩
                    · by_cases hin2 : i < n2
                      · have k1 : (i : Int) < (n2 : Int) := by omega
                        have k2 : ¬ (i : Int) < 100 := by omega
                        go_wp2_with fail
                        go_meet
                        case rel => exact ⟨ns', byt', by omega, HT, HW⟩
                      · have k1 : ¬ (i : Int) < (n2 : Int) := by omega
                        go_wp2_with fail
                        go_meet
                        case rel => exact ⟨ns', byt', by omega, HT, HW⟩
                case rest =>
                  clear HTI HOW
                  obtain ⟨ns2, byt2, hn2, HT, HW⟩ := hcut
                  go_upto_block 10 with fail
                  obtain ⟨w5, hw5⟩ : ∃ w5, w5 = wc := ⟨_, rfl⟩
                  subst hw5
                  obtain ⟨sn, hfr, hol, hnd, hgd, hsl⟩ := HT.out.it.fr HT.out.t
                  have hwl : want.length = m3 := by
                    have := HW.out.row.1
                    rw [ev_len] at this
                    omega
                  have HFR := Lib.hid hfr
                  have HOL := Lib.hid hol
                  have HND := Lib.hid hnd
                  have HGD := Lib.hid hgd
                  have HWL := Lib.hid hwl
                  clear hfr hol hnd hgd hwl hsl hnf hfr6 hHeld HIT HB6 HR7 HB7 HB HR hnl
                  refine (wpIn_wide (n := 5)).1 ?_
                  gi_wp2
                  refine wpIn_loop (fun a' W => ∃ (ds : List Deferred) (V t : Nat) (u20 u125 u126 u127 u128 u129 u152 u153 u154 u155 u156 u157 u158 u159 u160 u161 u162 u163 u164 u165 : Value), (t ≤ 2 ∧ Hid (TuI w5 V t W) ∧ Hid (Marks w5.heap.size ds W.heap.size W)) ∧ a' = { tmps := #[.slice A n c, .slice B n2 c2, .agg #[.string k, .int .i64 stop], undef, undef, .pointer (some ⟨Z, 0, none⟩), .pointer (some ⟨F, 0, none⟩), .string k, .pointer (some ⟨P, 0, none⟩), .pointer (some ⟨T, 0, none⟩), .slice A1 n1 c1, u11, .pointer (some ⟨Q, 0, none⟩), u13, .func (.func 20) #[] #[.pointer (some ⟨b1, 0, none⟩), .pointer (some ⟨b2, 0, none⟩)], .slice A9 (n1 + 20) c9, u16, .int .i64 20, u18, .pointer (some ⟨V, 0, none⟩), u20, undef, .pointer (some ⟨Z, 0, none⟩), .string k, .pointer (some ⟨Z, 1, none⟩), .int .i64 stop, .pointer (some ⟨T, 0, none⟩), .bool true, .bool false, .bool false, .pointer (some ⟨T, 0, none⟩), .bool false, .bool false, u33, u34, u35, u36, u37, u38, u39, u40, u41, u42, u43, u44, u45, u46, u47, u48, u49, u50, u51, u52, .slice A1 n1 c1, .int .i64 (n1 : Int), .int .i64 (n1 : Int), .bool false, u57, u58, u59, u60, u61, u62, u63, u64, u65, u66, u67, u68, u69, u70, u71, u72, .pointer (some ⟨T, 0, none⟩), .string k, .func (.func 20) #[] #[.pointer (some ⟨b1, 0, none⟩), .pointer (some ⟨b2, 0, none⟩)], .pointer (some ⟨T, 0, none⟩), .slice A7 n1 c7, .func (.func 20) #[] #[.pointer (some ⟨b1, 0, none⟩), .pointer (some ⟨b2, 0, none⟩)], .bool false, .slice A7 n1 c7, .int .i64 (n1 : Int), .int .i64 (n1 : Int), .bool false, u84, u85, u86, u87, u88, u89, .int .i64 20, .bool false, u92, u93, u94, u95, u96, u97, .pointer (some ⟨T, 0, none⟩), .slice A8 n1 c8, .slice A1 n1 c1, .bool true, .bool false, u103, u104, u105, u106, u107, u108, u109, u110, u111, u112, u113, u114, u115, u116, u117, u118, u119, u120, u121, u122, u123, u124, u125, u126, u127, u128, u129, undef, undef, undef, undef, undef, undef, undef, undef, undef, undef, undef, undef, undef, undef, undef, undef, undef, undef, undef, undef, undef, undef, u152, u153, u154, u155, u156, u157, u158, u159, u160, u161, u162, u163, u164, u165, undef, undef, undef, undef, undef, undef], defers := ds }) (fun a' W => 2 - turnOf (a'.tmps.getD 19 undef) W) ?start ?round
                  case start =>
                    exact ⟨[], w5.heap.size, 0, undef, undef, undef, undef, undef, undef, undef, undef, undef, undef, undef, undef, undef, undef, undef, undef, undef, undef, undef, undef, ⟨by omega, Lib.hid ⟨Blk.new _ _ _, (Below.refl _ _).alloc (Nat.le_refl _) _, Nat.le_refl _⟩, Lib.hid trivial⟩, rfl⟩
                  case round =>
                    rintro a' wr ⟨ds, V, t, u20, u125, u126, u127, u128, u129, u152, u153, u154, u155, u156, u157, u158, u159, u160, u161, u162, u163, u164, u165, ⟨ht2, HI, HM⟩, rfl⟩
                    dsimp only
                    have v0 := HI.out.box.cell 0
                    simp only [List.getElem?_toArray, List.getElem?_cons_zero] at v0
                    by_cases hlt : t < 2
                    · have kk1 : ((t : Nat) : Int) < 2 := by omega
                      gi_wp2
                      obtain ⟨W0, hW0⟩ : ∃ W0, W0 = wr.alloc (.cells #[.int .i64 0] 3) := ⟨_, rfl⟩
                      obtain ⟨N, hN⟩ : ∃ N, N = wr.heap.size := ⟨_, rfl⟩
                      have hN0 : Blk W0 N 3 #[.int .i64 0] := by rw [hW0, hN]; exact Blk.new _ _ _
                      have hb0 : Below wr.heap.size wr W0 := by rw [hW0]; exact (Below.refl _ _).alloc (Nat.le_refl _) _
                      have hV0 := HI.out.box.same (hb0.block _ HI.out.box.lt)
                      have hM0 : Marks w5.heap.size ds N W0 := by rw [hW0, hN]; exact HM.out.alloc _
                      have hb5 : Below w5.heap.size w5 W0 := HI.out.bel.trans (hb0.mono HI.out.bel.size)
                      have hfr0 := HFR.out.below hb5
                      have hVN : V ≠ N := by have := HI.out.box.lt; omega
                      have hN5 : w5.heap.size ≤ N := by rw [hN]; exact HI.out.bel.size
                      have hNW0 := hN0.lt
                      rw [← hN, ← hW0]
                      have hI0 : R3 W0 N 0 want [] W0 := ⟨List.nil_prefix, Mod.refl _ _, hN0⟩
                      have HKN : ∀ b, FrS b1 b2 sn b → b ≠ N := fun b hb => by have := HFR.out.lt b hb; omega
                      have KPN := Lib.hid (fun (W : World) (v : Value) (m : Nat) => show KpS (FrS b1 b2 sn) W ((W.drewN m).setCell ⟨N, 0, none⟩ v) from fun b hb => Below.heap_setCell _ _ _ _ (HKN b hb))
                      have HBW := Lib.hid (fun (W : World) (pre : List En) (h : R3 W0 N 0 want pre W) => show Below w5.heap.size w5 W from hb5.trans (h.2.1.to_below (fun k e => by have e' : k = N := e; omega) hb5.size))
                      have HVW := Lib.hid (fun (W : World) (pre : List En) (h : R3 W0 N 0 want pre W) => show Blk W V 3 #[.int .i64 ((t : Nat) : Int)] from hV0.same (h.2.1.block _ hV0.lt hVN))
                      have HFA := Lib.hid hfr0
                      have HI0 := Lib.hid hI0
                      have HM0 := Lib.hid hM0
                      have HS0 := Lib.hid (show N ≤ W0.heap.size by omega)
                      have HN5 := Lib.hid hN5
                      have HVN := Lib.hid hVN
                      have HVL := Lib.hid HI.out.box.lt
                      have HNN := Lib.hid hN
                      have HV0 := Lib.hid v0
                      have hxIx : ∀ c', OwnFrom W0.heap.size (fun (pre : List En) W => (c' = Code.ret ∧ ¬ pre <+: want) ∨ (c' = Code.exit 12 ∧ t = 0 ∧ ((pre.length : Nat) : Int) = stop ∧ R3 W0 N 0 want pre W ∧ Marks w5.heap.size ds N W)) := fun c' s A B row h hg hr => by
                        rcases h with h | ⟨h1, h2, h3, h4, h5⟩
                        · exact .inl h
                        · exact .inr ⟨h1, h2, h3, R3.own s A B row h4 hg hr, h5.kept (by omega) hg fun k e => (hr k e).1⟩
                      have hxI : OwnFrom W0.heap.size (fun (pre : List En) W => R3 W0 N 0 want pre W ∧ Marks w5.heap.size ds N W) := fun s A B row h hg hr => ⟨R3.own s A B row h.1 hg hr, h.2.kept (by omega) hg fun k e => (hr k e).1⟩
                      have HXX := Lib.hid hxIx
                      have HXI := Lib.hid hxI
                      clear hW0 hN hN0 hb0 hV0 hM0 hb5 hfr0 hVN hN5 hI0 HKN hxIx hxI hNW0 HI HM v0
                      refine actIn_gen fun a0 ha0 => ?_
                      refine wpIn_rangeFunc_ownH rfl (by omega) (gf := 20) (lb := #[.pointer (some ⟨b1, 0, none⟩), .pointer (some ⟨b2, 0, none⟩)]) (by rw [ha0]; rfl) trivial (enters_of Try.func20 (by kernel_rfl) rfl)
                        (fr_stops (5 - 1) (by omega) HND.out HGD.out HFA.out) kpS_t (kpS_b (fun b hb => HFA.out.lt b hb)) (Below.refl _ _) (fun _ => rfl)
                        (fun pre W => R3 W0 N 0 want pre W ∧ Marks w5.heap.size ds N W)
                        (fun c' pre W => (c' = Code.ret ∧ ¬ pre <+: want) ∨ (c' = Code.exit 12 ∧ t = 0 ∧ ((pre.length : Nat) : Int) = stop ∧ R3 W0 N 0 want pre W ∧ Marks w5.heap.size ds N W))
                        HXI.out HXX.out ⟨HI0.out, HM0.out⟩
                        (fun x a' W => ∃ E, Blk W E 30 #[.string x.key, .int .i64 x.seq, .bool x.del, .string x.val] ∧ a' = { tmps := (a0.tmps.setIfInBounds 130 (.agg #[.string x.key, .int .i64 x.seq, .bool x.del, .string x.val])).setIfInBounds 21 (.pointer (some ⟨E, 0, none⟩)), defers := [] })
                        (fun x a' s W W' row h hg hr => by obtain ⟨E, h1, h2⟩ := h; exact ⟨E, blk_kept h1 hg fun r e => (hr r e).2, h2⟩) ?assign ?body ?done ?stop
                      case assign =>
                        intro l' pre x W K hI hK
                        subst ha0
                        dsimp only [yv]
                        gi_wp2
                        exact hK _ _ ((KeepsOthers.alloc _ _).from _) (fun b hS => Below.heap_alloc W _ b (Nat.lt_of_lt_of_le (HFA.out.lt b hS) hI.1.2.1.size)) ⟨hI.1.alloc _, hI.2.alloc _⟩ ⟨W.heap.size, Blk.new W _ _, rfl⟩
                      case body =>
                        rintro l' pre x a' W _ _ ⟨hR, hMk⟩ ⟨E, hE, rfl⟩ hlen
                        have hbw := HBW.out W pre hR
                        have hvw := HVW.out W pre hR
                        obtain ⟨hp, hm, hNW⟩ := hR
                        subst ha0
                        simp only [List.setIfInBounds_toArray, List.set_cons_zero, List.set_cons_succ]
                        obtain ⟨M, hM⟩ : ∃ M, M = 0 + pre.length := ⟨_, rfl⟩
                        rw [← hM] at hNW
                        have how := HW.out.below hbw
                        have lb := how.q.cell 0
                        have nb := hNW.cell 0
                        have nf := hNW.frozen 0
                        have fb := how.bx.f.cell 0
                        have ff := how.bx.f.frozen 0
                        have pb := how.bx.p.cell 0
                        have vb := hvw.cell 0
                        have hPN : P ≠ N := by have h1 := HW.out.bx.p.lt; have h2 := HN5.out; omega
                        have hVN := HVN.out
                        obtain ⟨⟨e0, e1, e2, e3⟩, _⟩ := cells4 hE
                        simp only [List.getElem?_toArray, List.getElem?_cons_zero] at lb nb fb pb vb
                        have vb1 := fun v : Value => (show (W.setCell ⟨N, 0, none⟩ v).cell? ⟨V, 0, none⟩ = some (.int .i64 ((t : Nat) : Int)) from (World.cell?_of_block (Below.heap_setCell _ _ _ _ hVN)).trans vb)
                        have pb1 := fun v : Value => (show (W.setCell ⟨N, 0, none⟩ v).cell? ⟨P, 0, none⟩ = some (.int .i64 stop) from (World.cell?_of_block (Below.heap_setCell _ _ _ _ hPN)).trans pb)
                        have hrow := rd_ownN how.row
                        have HMM := Lib.hid hM
                        have HPX := Lib.hid hp
                        have HMD := Lib.hid hm
                        have HNW := Lib.hid hNW
                        have HMK := Lib.hid hMk
                        clear hM hp hm hNW hE how hbw hvw hMk hPN hVN
                        by_cases h1 : M < m3
                        · obtain ⟨y, hy⟩ : ∃ y, want[M]? = some y := ⟨want[M]'(by have := HWL.out; omega), List.getElem?_eq_getElem _⟩
                          obtain ⟨g, p, rfl, hg, y0, y1, y2, y3⟩ := erd_at hrow hy
                          have HY := Lib.hid hy
                          have k6 : ¬ (m3 : Int) ≤ (M : Int) := by omega
                          have k7 : (0 : Int) ≤ (M : Int) := by omega
                          have k8 : (M : Int) < (m3 : Int) := by omega
                          have k9 : decide ((m3 : Int) ≤ (M : Int)) = false := by simp; omega
                          have k10 : decide (m3 ≤ M) = false := by simp; omega
                          clear hy hrow
                          by_cases hxy : y = x
                          · have HXY := Lib.hid hxy
                            subst hxy
                            have z0 := fun (W : World) => neq_same W y
                            gi_wp2
                            refine Bl.region_round (S := fun W' => (W'.cell? ⟨Q, 0, none⟩ = some (.slice (some ⟨g, p, none⟩) m3 c3) ∧ W'.cell? ⟨N, 0, none⟩ = some (.int .i64 (M : Int))) ∧ (W'.cell? ⟨g, p + M * 4, none⟩ = some (.string y.key) ∧ W'.cell? ⟨g, p + M * 4 + 1, none⟩ = some (.int .i64 y.seq) ∧ W'.cell? ⟨g, p + M * 4 + 2, none⟩ = some (.bool y.del) ∧ W'.cell? ⟨g, p + M * 4 + 3, none⟩ = some (.string y.val)) ∧ (W'.cell? ⟨E, 0, none⟩ = some (.string y.key) ∧ W'.cell? ⟨E, 1, none⟩ = some (.int .i64 y.seq) ∧ W'.cell? ⟨E, 2, none⟩ = some (.bool y.del) ∧ W'.cell? ⟨E, 3, none⟩ = some (.string y.val))) (by kernel_rfl) (by kernel_rfl) (by (exact ⟨⟨lb, nb⟩, ⟨y0, y1, y2, y3⟩, e0, e1, e2, e3⟩)) (fun hHeld => ?_)
                            refine wpAnyH_take (i := 0) (v := ?vr4_0) (Fr.take_at rfl) (by kernel_rfl) (by kernel_rfl) (by kernel_rfl) (fun _ _ _ h => h) (Or.inl ⟨by rfl, ?yr4_0⟩) (by assumption) ?nr4_0
                            case yr4_0 => (intro w_ hSw; obtain ⟨⟨v0, v1⟩, ⟨v2, v3, v4, v5⟩, v6, v7, v8, v9⟩ := hSw; go_simp; (try with_reducible rfl))
                            try simp only [Act.put, List.setIfInBounds_toArray, List.set_cons_zero, List.set_cons_succ]
                            refine wpAnyH_take (i := 1) (v := ?vr4_1) (Fr.take_at rfl) (by kernel_rfl) (by kernel_rfl) (by kernel_rfl) (fun _ _ _ h => h) (Or.inl ⟨by rfl, ?yr4_1⟩) (by assumption) ?nr4_1
                            case yr4_1 => (intro w_ hSw; obtain ⟨⟨v0, v1⟩, ⟨v2, v3, v4, v5⟩, v6, v7, v8, v9⟩ := hSw; go_simp; (try with_reducible rfl))
                            try simp only [Act.put, List.setIfInBounds_toArray, List.set_cons_zero, List.set_cons_succ]
                            refine wpAnyH_take (i := 2) (v := ?vr4_2) (Fr.take_at rfl) (by kernel_rfl) (by kernel_rfl) (by kernel_rfl) (fun _ _ _ h => h) (Or.inl ⟨by rfl, ?yr4_2⟩) (by assumption) ?nr4_2
                            case yr4_2 => (intro w_ hSw; obtain ⟨⟨v0, v1⟩, ⟨v2, v3, v4, v5⟩, v6, v7, v8, v9⟩ := hSw; go_simp; (try with_reducible rfl))
                            try simp only [Act.put, List.setIfInBounds_toArray, List.set_cons_zero, List.set_cons_succ]
                            refine wpAnyH_take (i := 3) (v := ?vr4_3) (Fr.take_at rfl) (by kernel_rfl) (by kernel_rfl) (by kernel_rfl) (fun _ _ _ h => h) (Or.inl ⟨by rfl, ?yr4_3⟩) (by assumption) ?nr4_3
                            case yr4_3 => (intro w_ hSw; obtain ⟨⟨v0, v1⟩, ⟨v2, v3, v4, v5⟩, v6, v7, v8, v9⟩ := hSw; go_simp; (try with_reducible rfl))
                            try simp only [Act.put, List.setIfInBounds_toArray, List.set_cons_zero, List.set_cons_succ]
                            refine wpAnyH_take (i := 4) (v := ?vr4_4) (Fr.take_at rfl) (by kernel_rfl) (by kernel_rfl) (by kernel_rfl) (fun _ _ _ h => h) (Or.inl ⟨by rfl, ?yr4_4⟩) (by assumption) ?nr4_4
                            case yr4_4 => (intro w_ hSw; obtain ⟨⟨v0, v1⟩, ⟨v2, v3, v4, v5⟩, v6, v7, v8, v9⟩ := hSw; go_simp; (try with_reducible rfl))
                            try simp only [Act.put, List.setIfInBounds_toArray, List.set_cons_zero, List.set_cons_succ]
                            refine wpAnyH_take (i := 5) (v := ?vr4_5) (Fr.take_at rfl) (by kernel_rfl) (by kernel_rfl) (by kernel_rfl) (fun _ _ _ h => h) (Or.inl ⟨by rfl, ?yr4_5⟩) (by assumption) ?nr4_5
                            case yr4_5 => (intro w_ hSw; obtain ⟨⟨v0, v1⟩, ⟨v2, v3, v4, v5⟩, v6, v7, v8, v9⟩ := hSw; go_simp; (try with_reducible rfl))
                            try simp only [Act.put, List.setIfInBounds_toArray, List.set_cons_zero, List.set_cons_succ]
                            refine wpAnyH_take (i := 6) (v := ?vr4_6) (Fr.take_at rfl) (by kernel_rfl) (by kernel_rfl) (by kernel_rfl) (fun _ _ _ h => h) (Or.inl ⟨by rfl, ?yr4_6⟩) (by assumption) ?nr4_6
                            case yr4_6 => (intro w_ hSw; obtain ⟨⟨v0, v1⟩, ⟨v2, v3, v4, v5⟩, v6, v7, v8, v9⟩ := hSw; go_simp; (try with_reducible rfl))
                            try simp only [Act.put, List.setIfInBounds_toArray, List.set_cons_zero, List.set_cons_succ]
                            refine wpAnyH_take (i := 7) (v := ?vr4_7) (Fr.take_at rfl) (by kernel_rfl) (by kernel_rfl) (by kernel_rfl) (fun _ _ _ h => h) (Or.inl ⟨by rfl, ?yr4_7⟩) (by assumption) ?nr4_7
                            case yr4_7 => (intro w_ hSw; obtain ⟨⟨v0, v1⟩, ⟨v2, v3, v4, v5⟩, v6, v7, v8, v9⟩ := hSw; go_simp; (try with_reducible rfl))
                            try simp only [Act.put, List.setIfInBounds_toArray, List.set_cons_zero, List.set_cons_succ]
                            refine wpAnyH_take (i := 8) (v := ?vr4_8) (Fr.take_at rfl) (by kernel_rfl) (by kernel_rfl) (by kernel_rfl) (fun _ _ _ h => h) (Or.inl ⟨by rfl, ?yr4_8⟩) (by assumption) ?nr4_8
                            case yr4_8 => (intro w_ hSw; obtain ⟨⟨v0, v1⟩, ⟨v2, v3, v4, v5⟩, v6, v7, v8, v9⟩ := hSw; go_simp; (try with_reducible rfl))
                            try simp only [Act.put, List.setIfInBounds_toArray, List.set_cons_zero, List.set_cons_succ]
                            refine wpAnyH_take (i := 9) (v := ?vr4_9) (Fr.take_at rfl) (by kernel_rfl) (by kernel_rfl) (by kernel_rfl) (fun _ _ _ h => h) (Or.inl ⟨by rfl, ?yr4_9⟩) (by assumption) ?nr4_9
                            case yr4_9 => (intro w_ hSw; obtain ⟨⟨v0, v1⟩, ⟨v2, v3, v4, v5⟩, v6, v7, v8, v9⟩ := hSw; go_simp; (try with_reducible rfl))
                            try simp only [Act.put, List.setIfInBounds_toArray, List.set_cons_zero, List.set_cons_succ]
                            refine wpAnyH_take (i := 10) (v := ?vr4_10) (Fr.take_at rfl) (by kernel_rfl) (by kernel_rfl) (by kernel_rfl) (fun _ _ _ h => h) (Or.inl ⟨by rfl, ?yr4_10⟩) (by assumption) ?nr4_10
                            case yr4_10 => (intro w_ hSw; obtain ⟨⟨v0, v1⟩, ⟨v2, v3, v4, v5⟩, v6, v7, v8, v9⟩ := hSw; go_simp; (try with_reducible rfl))
                            try simp only [Act.put, List.setIfInBounds_toArray, List.set_cons_zero, List.set_cons_succ]
                            refine wpAnyH_take (i := 11) (v := ?vr4_11) (Fr.take_at rfl) (by kernel_rfl) (by kernel_rfl) (by kernel_rfl) (fun _ _ _ h => h) (Or.inl ⟨by rfl, ?yr4_11⟩) (by assumption) ?nr4_11
                            case yr4_11 => (intro w_ hSw; obtain ⟨⟨v0, v1⟩, ⟨v2, v3, v4, v5⟩, v6, v7, v8, v9⟩ := hSw; go_simp; (try with_reducible rfl))
                            try simp only [Act.put, List.setIfInBounds_toArray, List.set_cons_zero, List.set_cons_succ]
                            refine wpAnyH_done (by kernel_rfl) ?_ _
                            dsimp only [Bl.OnlyNormal]
                            clear z0 y0 y1 y2 y3 e0 e1 e2 e3
                            by_cases ht0 : t = 0
                            · have kt : (((t : Nat) : Int) == 0) = true := by simp [ht0]
                              by_cases hst : (M : Int) + 1 = stop
                              · have ks : ((M : Int) + 1 == stop) = true := by simp [hst]
                                have HST := Lib.hid hst
                                have HT0 := Lib.hid ht0
                                clear hst ht0
                                gi_wp2
                                exact ⟨((KeepsOthers.drew _).trans (KeepsOthers.setCell _ _ _)).from _, .inr ⟨rfl, HT0.out, len_step HMM.out HST.out, HMD.out.step HPX.out HMM.out HY.out HNW.out, (HMK.out.set HNW.out 0 _).drew⟩⟩
                              · have ks : ((M : Int) + 1 == stop) = false := by simp [hst]
                                clear hst ht0
                                gi_wp2
                                exact ⟨((KeepsOthers.drew _).trans (KeepsOthers.setCell _ _ _)).from _, KPN.out _ _ _, HMD.out.step HPX.out HMM.out HY.out HNW.out, (HMK.out.set HNW.out 0 _).drew⟩
                            · have kt : (((t : Nat) : Int) == 0) = false := by simp [ht0]
                              clear ht0
                              gi_wp2
                              exact ⟨((KeepsOthers.drew _).trans (KeepsOthers.setCell _ _ _)).from _, KPN.out _ _ _, HMD.out.step HPX.out HMM.out HY.out HNW.out, (HMK.out.set HNW.out 0 _).drew⟩
                          · have z0 := fun (W : World) => neq_entry W y x
                            rw [show enEq y x = false by rw [← Bool.not_eq_true, enEq_iff]; exact hxy] at z0
                            have HXY := Lib.hid hxy
                            clear hxy
                            gi_wp2
                            refine Bl.region_round (S := fun W' => (W'.cell? ⟨Q, 0, none⟩ = some (.slice (some ⟨g, p, none⟩) m3 c3) ∧ W'.cell? ⟨N, 0, none⟩ = some (.int .i64 (M : Int))) ∧ (W'.cell? ⟨g, p + M * 4, none⟩ = some (.string y.key) ∧ W'.cell? ⟨g, p + M * 4 + 1, none⟩ = some (.int .i64 y.seq) ∧ W'.cell? ⟨g, p + M * 4 + 2, none⟩ = some (.bool y.del) ∧ W'.cell? ⟨g, p + M * 4 + 3, none⟩ = some (.string y.val)) ∧ (W'.cell? ⟨E, 0, none⟩ = some (.string x.key) ∧ W'.cell? ⟨E, 1, none⟩ = some (.int .i64 x.seq) ∧ W'.cell? ⟨E, 2, none⟩ = some (.bool x.del) ∧ W'.cell? ⟨E, 3, none⟩ = some (.string x.val))) (by kernel_rfl) (by kernel_rfl) (by (exact ⟨⟨lb, nb⟩, ⟨y0, y1, y2, y3⟩, e0, e1, e2, e3⟩)) (fun hHeld => ?_)
                            refine wpAnyH_take (i := 0) (v := ?vr5_0) (Fr.take_at rfl) (by kernel_rfl) (by kernel_rfl) (by kernel_rfl) (fun _ _ _ h => h) (Or.inl ⟨by rfl, ?yr5_0⟩) (by assumption) ?nr5_0
                            case yr5_0 => (intro w_ hSw; obtain ⟨⟨v0, v1⟩, ⟨v2, v3, v4, v5⟩, v6, v7, v8, v9⟩ := hSw; go_simp; (try with_reducible rfl))
                            try simp only [Act.put, List.setIfInBounds_toArray, List.set_cons_zero, List.set_cons_succ]
                            refine wpAnyH_take (i := 1) (v := ?vr5_1) (Fr.take_at rfl) (by kernel_rfl) (by kernel_rfl) (by kernel_rfl) (fun _ _ _ h => h) (Or.inl ⟨by rfl, ?yr5_1⟩) (by assumption) ?nr5_1
                            case yr5_1 => (intro w_ hSw; obtain ⟨⟨v0, v1⟩, ⟨v2, v3, v4, v5⟩, v6, v7, v8, v9⟩ := hSw; go_simp; (try with_reducible rfl))
                            try simp only [Act.put, List.setIfInBounds_toArray, List.set_cons_zero, List.set_cons_succ]
                            refine wpAnyH_take (i := 2) (v := ?vr5_2) (Fr.take_at rfl) (by kernel_rfl) (by kernel_rfl) (by kernel_rfl) (fun _ _ _ h => h) (Or.inl ⟨by rfl, ?yr5_2⟩) (by assumption) ?nr5_2
                            case yr5_2 => (intro w_ hSw; obtain ⟨⟨v0, v1⟩, ⟨v2, v3, v4, v5⟩, v6, v7, v8, v9⟩ := hSw; go_simp; (try with_reducible rfl))
                            try simp only [Act.put, List.setIfInBounds_toArray, List.set_cons_zero, List.set_cons_succ]
                            refine wpAnyH_take (i := 3) (v := ?vr5_3) (Fr.take_at rfl) (by kernel_rfl) (by kernel_rfl) (by kernel_rfl) (fun _ _ _ h => h) (Or.inl ⟨by rfl, ?yr5_3⟩) (by assumption) ?nr5_3
                            case yr5_3 => (intro w_ hSw; obtain ⟨⟨v0, v1⟩, ⟨v2, v3, v4, v5⟩, v6, v7, v8, v9⟩ := hSw; go_simp; (try with_reducible rfl))
                            try simp only [Act.put, List.setIfInBounds_toArray, List.set_cons_zero, List.set_cons_succ]
                            refine wpAnyH_take (i := 4) (v := ?vr5_4) (Fr.take_at rfl) (by kernel_rfl) (by kernel_rfl) (by kernel_rfl) (fun _ _ _ h => h) (Or.inl ⟨by rfl, ?yr5_4⟩) (by assumption) ?nr5_4
                            case yr5_4 => (intro w_ hSw; obtain ⟨⟨v0, v1⟩, ⟨v2, v3, v4, v5⟩, v6, v7, v8, v9⟩ := hSw; go_simp; (try with_reducible rfl))
                            try simp only [Act.put, List.setIfInBounds_toArray, List.set_cons_zero, List.set_cons_succ]
                            refine wpAnyH_take (i := 5) (v := ?vr5_5) (Fr.take_at rfl) (by kernel_rfl) (by kernel_rfl) (by kernel_rfl) (fun _ _ _ h => h) (Or.inl ⟨by rfl, ?yr5_5⟩) (by assumption) ?nr5_5
                            case yr5_5 => (intro w_ hSw; obtain ⟨⟨v0, v1⟩, ⟨v2, v3, v4, v5⟩, v6, v7, v8, v9⟩ := hSw; go_simp; (try with_reducible rfl))
                            try simp only [Act.put, List.setIfInBounds_toArray, List.set_cons_zero, List.set_cons_succ]
                            refine wpAnyH_take (i := 6) (v := ?vr5_6) (Fr.take_at rfl) (by kernel_rfl) (by kernel_rfl) (by kernel_rfl) (fun _ _ _ h => h) (Or.inl ⟨by rfl, ?yr5_6⟩) (by assumption) ?nr5_6
                            case yr5_6 => (intro w_ hSw; obtain ⟨⟨v0, v1⟩, ⟨v2, v3, v4, v5⟩, v6, v7, v8, v9⟩ := hSw; go_simp; (try with_reducible rfl))
                            try simp only [Act.put, List.setIfInBounds_toArray, List.set_cons_zero, List.set_cons_succ]
                            refine wpAnyH_take (i := 7) (v := ?vr5_7) (Fr.take_at rfl) (by kernel_rfl) (by kernel_rfl) (by kernel_rfl) (fun _ _ _ h => h) (Or.inl ⟨by rfl, ?yr5_7⟩) (by assumption) ?nr5_7
                            case yr5_7 => (intro w_ hSw; obtain ⟨⟨v0, v1⟩, ⟨v2, v3, v4, v5⟩, v6, v7, v8, v9⟩ := hSw; go_simp; (try with_reducible rfl))
                            try simp only [Act.put, List.setIfInBounds_toArray, List.set_cons_zero, List.set_cons_succ]
                            refine wpAnyH_take (i := 8) (v := ?vr5_8) (Fr.take_at rfl) (by kernel_rfl) (by kernel_rfl) (by kernel_rfl) (fun _ _ _ h => h) (Or.inl ⟨by rfl, ?yr5_8⟩) (by assumption) ?nr5_8
                            case yr5_8 => (intro w_ hSw; obtain ⟨⟨v0, v1⟩, ⟨v2, v3, v4, v5⟩, v6, v7, v8, v9⟩ := hSw; go_simp; (try with_reducible rfl))
                            try simp only [Act.put, List.setIfInBounds_toArray, List.set_cons_zero, List.set_cons_succ]
                            refine wpAnyH_take (i := 9) (v := ?vr5_9) (Fr.take_at rfl) (by kernel_rfl) (by kernel_rfl) (by kernel_rfl) (fun _ _ _ h => h) (Or.inl ⟨by rfl, ?yr5_9⟩) (by assumption) ?nr5_9
                            case yr5_9 => (intro w_ hSw; obtain ⟨⟨v0, v1⟩, ⟨v2, v3, v4, v5⟩, v6, v7, v8, v9⟩ := hSw; go_simp; (try with_reducible rfl))
                            try simp only [Act.put, List.setIfInBounds_toArray, List.set_cons_zero, List.set_cons_succ]
                            refine wpAnyH_take (i := 10) (v := ?vr5_10) (Fr.take_at rfl) (by kernel_rfl) (by kernel_rfl) (by kernel_rfl) (fun _ _ _ h => h) (Or.inl ⟨by rfl, ?yr5_10⟩) (by assumption) ?nr5_10
                            case yr5_10 => (intro w_ hSw; obtain ⟨⟨v0, v1⟩, ⟨v2, v3, v4, v5⟩, v6, v7, v8, v9⟩ := hSw; go_simp; (try with_reducible rfl))
                            try simp only [Act.put, List.setIfInBounds_toArray, List.set_cons_zero, List.set_cons_succ]
                            refine wpAnyH_take (i := 11) (v := ?vr5_11) (Fr.take_at rfl) (by kernel_rfl) (by kernel_rfl) (by kernel_rfl) (fun _ _ _ h => h) (Or.inl ⟨by rfl, ?yr5_11⟩) (by assumption) ?nr5_11
                            case yr5_11 => (intro w_ hSw; obtain ⟨⟨v0, v1⟩, ⟨v2, v3, v4, v5⟩, v6, v7, v8, v9⟩ := hSw; go_simp; (try with_reducible rfl))
                            try simp only [Act.put, List.setIfInBounds_toArray, List.set_cons_zero, List.set_cons_succ]
                            refine wpAnyH_done (by kernel_rfl) ?_ _
                            dsimp only [Bl.OnlyNormal]
                            clear z0 y0 y1 y2 y3 e0 e1 e2 e3
                            gi_wp2
                            exact ⟨((KeepsOthers.drew _).trans (KeepsOthers.setCell _ _ _)).from _, .inl ⟨rfl, r3_miss HMM.out HY.out HXY.out⟩⟩
                        · have k6 : (m3 : Int) ≤ (M : Int) := by omega
                          have k9 : decide ((m3 : Int) ≤ (M : Int)) = true := by simp; omega
                          have k10 : decide (m3 ≤ M) = true := by simp; omega
                          gi_wp2
                          refine Bl.region_round (S := fun W' => W'.cell? ⟨Q, 0, none⟩ = some (.slice A3 m3 c3) ∧ W'.cell? ⟨N, 0, none⟩ = some (.int .i64 (M : Int))) (by kernel_rfl) (by kernel_rfl) (by (exact ⟨lb, nb⟩)) (fun hHeld => ?_)
                          refine wpAnyH_take (i := 0) (v := ?vr6_0) (Fr.take_at rfl) (by kernel_rfl) (by kernel_rfl) (by kernel_rfl) (fun _ _ _ h => h) (Or.inl ⟨by rfl, ?yr6_0⟩) (by assumption) ?nr6_0
                          case yr6_0 => (intro w_ hSw; obtain ⟨v0, v1⟩ := hSw; go_simp; (try with_reducible rfl))
                          try simp only [Act.put, List.setIfInBounds_toArray, List.set_cons_zero, List.set_cons_succ]
                          refine wpAnyH_take (i := 1) (v := ?vr6_1) (Fr.take_at rfl) (by kernel_rfl) (by kernel_rfl) (by kernel_rfl) (fun _ _ _ h => h) (Or.inl ⟨by rfl, ?yr6_1⟩) (by assumption) ?nr6_1
                          case yr6_1 => (intro w_ hSw; obtain ⟨v0, v1⟩ := hSw; go_simp; (try with_reducible rfl))
                          try simp only [Act.put, List.setIfInBounds_toArray, List.set_cons_zero, List.set_cons_succ]
                          refine wpAnyH_take (i := 2) (v := ?vr6_2) (Fr.take_at rfl) (by kernel_rfl) (by kernel_rfl) (by kernel_rfl) (fun _ _ _ h => h) (Or.inl ⟨by rfl, ?yr6_2⟩) (by assumption) ?nr6_2
                          case yr6_2 => (intro w_ hSw; obtain ⟨v0, v1⟩ := hSw; go_simp; (try with_reducible rfl))
                          try simp only [Act.put, List.setIfInBounds_toArray, List.set_cons_zero, List.set_cons_succ]
                          refine wpAnyH_take (i := 3) (v := ?vr6_3) (Fr.take_at rfl) (by kernel_rfl) (by kernel_rfl) (by kernel_rfl) (fun _ _ _ h => h) (Or.inl ⟨by rfl, ?yr6_3⟩) (by assumption) ?nr6_3
                          case yr6_3 => (intro w_ hSw; obtain ⟨v0, v1⟩ := hSw; go_simp; (try with_reducible rfl))
                          try simp only [Act.put, List.setIfInBounds_toArray, List.set_cons_zero, List.set_cons_succ]
                          refine wpAnyH_take (i := 4) (v := ?vr6_4) (Fr.take_at rfl) (by kernel_rfl) (by kernel_rfl) (by kernel_rfl) (fun _ _ _ h => h) (Or.inl ⟨by rfl, ?yr6_4⟩) (by assumption) ?nr6_4
                          case yr6_4 => (intro w_ hSw; obtain ⟨v0, v1⟩ := hSw; go_simp; (try with_reducible rfl))
                          try simp only [Act.put, List.setIfInBounds_toArray, List.set_cons_zero, List.set_cons_succ]
                          refine wpAnyH_take (i := 5) (v := undef) (Fr.take_at rfl) (by kernel_rfl) (by kernel_rfl) (by kernel_rfl) (fun _ _ _ h => h) (Or.inr ⟨by rfl, rfl⟩) (by assumption) ?_
                          try simp only [Act.put, List.setIfInBounds_toArray, List.set_cons_zero, List.set_cons_succ]
                          refine wpAnyH_take (i := 6) (v := undef) (Fr.take_at rfl) (by kernel_rfl) (by kernel_rfl) (by kernel_rfl) (fun _ _ _ h => h) (Or.inr ⟨by rfl, rfl⟩) (by assumption) ?_
                          try simp only [Act.put, List.setIfInBounds_toArray, List.set_cons_zero, List.set_cons_succ]
                          refine wpAnyH_take (i := 7) (v := undef) (Fr.take_at rfl) (by kernel_rfl) (by kernel_rfl) (by kernel_rfl) (fun _ _ _ h => h) (Or.inr ⟨by rfl, rfl⟩) (by assumption) ?_
                          try simp only [Act.put, List.setIfInBounds_toArray, List.set_cons_zero, List.set_cons_succ]
                          refine wpAnyH_take (i := 8) (v := undef) (Fr.take_at rfl) (by kernel_rfl) (by kernel_rfl) (by kernel_rfl) (fun _ _ _ h => h) (Or.inr ⟨by rfl, rfl⟩) (by assumption) ?_
                          try simp only [Act.put, List.setIfInBounds_toArray, List.set_cons_zero, List.set_cons_succ]
                          refine wpAnyH_take (i := 9) (v := undef) (Fr.take_at rfl) (by kernel_rfl) (by kernel_rfl) (by kernel_rfl) (fun _ _ _ h => h) (Or.inr ⟨by rfl, rfl⟩) (by assumption) ?_
                          try simp only [Act.put, List.setIfInBounds_toArray, List.set_cons_zero, List.set_cons_succ]
                          refine wpAnyH_take (i := 10) (v := undef) (Fr.take_at rfl) (by kernel_rfl) (by kernel_rfl) (by kernel_rfl) (fun _ _ _ h => h) (Or.inr ⟨by rfl, rfl⟩) (by assumption) ?_
                          try simp only [Act.put, List.setIfInBounds_toArray, List.set_cons_zero, List.set_cons_succ]
                          refine wpAnyH_take (i := 11) (v := ?vr6_11) (Fr.take_at rfl) (by kernel_rfl) (by kernel_rfl) (by kernel_rfl) (fun _ _ _ h => h) (Or.inl ⟨by rfl, ?yr6_11⟩) (by assumption) ?nr6_11
                          case yr6_11 => (intro w_ hSw; obtain ⟨v0, v1⟩ := hSw; go_simp; (try with_reducible rfl))
                          try simp only [Act.put, List.setIfInBounds_toArray, List.set_cons_zero, List.set_cons_succ]
                          refine wpAnyH_done (by kernel_rfl) ?_ _
                          dsimp only [Bl.OnlyNormal]
                          clear e0 e1 e2 e3
                          gi_wp2
                          exact ⟨((KeepsOthers.drew _).trans (KeepsOthers.setCell _ _ _)).from _, .inl ⟨rfl, r3_end HMM.out (by rw [HWL.out]; omega)⟩⟩
                      case done =>
                        rintro D xs W hD hS ⟨hR, hMk⟩ hK
                        have hbw := HBW.out W xs hR
                        have hvw := HVW.out W xs hR
                        obtain ⟨hp, hm, hNW⟩ := hR
                        subst ha0
                        obtain rfl : xs = want := by rw [← HOL.out]; exact hS
                        have how := HW.out.below hbw
                        have lb := how.q.cell 0
                        have nb := hNW.cell 0
                        have pb := how.bx.p.cell 0
                        have vb := hvw.cell 0
                        rw [Nat.zero_add, HWL.out] at nb
                        simp only [List.getElem?_toArray, List.getElem?_cons_zero] at lb nb pb vb
                        have HMK := Lib.hid hMk
                        have HK := Lib.hid hK
                        have HBW2 := Lib.hid hbw
                        clear hp hm hNW how hbw hvw hMk hK hS
                        gi_wp2
                        exact ⟨⟨_, W.heap.size, t + 1, _, _, _, _, _, _, _, _, _, _, _, _, _, _, _, _, _, _, _, _, ⟨by omega, Lib.hid (tui_new HBW2.out t), Lib.hid (marks_new HMK.out (by have h1 := HN5.out; have h2 := HS0.out; omega) (by have h2 := HS0.out; omega) HK.out _)⟩, rfl⟩, turn_less HV0.out (by omega) (tui_new HBW2.out t).box⟩
                      case stop =>
                        rintro D c' pre W hD hSp hx hK
                        rw [HOL.out] at hSp
                        rcases hx with ⟨_, hx⟩ | ⟨rfl, ht0, hst, hR, hMk⟩
                        · exact absurd hSp hx
                        · have hbw := HBW.out W pre hR
                          have hvw := HVW.out W pre hR
                          obtain ⟨hp, hm, hNW⟩ := hR
                          subst ha0
                          obtain ⟨M, hM⟩ : ∃ M, M = pre.length := ⟨_, rfl⟩
                          have how := HW.out.below hbw
                          have lb := how.q.cell 0
                          have nb := hNW.cell 0
                          have pb := how.bx.p.cell 0
                          have vb := hvw.cell 0
                          rw [Nat.zero_add, ← hM] at nb
                          rw [← hM] at hst
                          simp only [List.getElem?_toArray, List.getElem?_cons_zero] at lb nb pb vb
                          have kt : (((t : Nat) : Int) == 1) = false := by simp [ht0]
                          have ks : ((M : Int) != stop) = false := by simp [hst]
                          have HMK := Lib.hid hMk
                          have HK := Lib.hid hK
                          have HBW2 := Lib.hid hbw
                          have HT0 := Lib.hid ht0
                          clear hp hm hNW how hbw hvw hMk hK hSp hst hM ht0
                          gi_wp2
                          all_goals exact ⟨⟨_, W.heap.size, t + 1, _, _, _, _, _, _, _, _, _, _, _, _, _, _, _, _, _, _, _, _, ⟨by omega, Lib.hid (tui_new HBW2.out t), Lib.hid (marks_new HMK.out (by have h1 := HN5.out; have h2 := HS0.out; omega) (by have h2 := HS0.out; omega) HK.out _)⟩, rfl⟩, turn_less HV0.out (by omega) (tui_new HBW2.out t).box⟩
                    · have kk1 : ¬ ((t : Nat) : Int) < 2 := by omega
                      have how := HW.out.below HI.out.bel
                      have fb := how.bx.f.cell 0
                      have ff := how.bx.f.frozen 0
                      simp only [List.getElem?_toArray, List.getElem?_cons_zero] at fb
                      have HOW := Lib.hid how
                      clear how
                      gi_wp2
                      go_wp2
                      dsimp only [OnlyRet]
                      show LeavesInM _ _ _ _ _ _ ds .returning _
                      have hF0 : w0.heap.size ≤ F := by have h1 := HFF.out; have h2 := HZZ.out; omega
                      have hb05 : Below w0.heap.size w0 wr := HT.out.t.bel.trans (HI.out.bel.mono HT.out.t.bel.size)
                      refine leaves_marks ds _ _ (HM.out.set HOW.out.bx.f _ _) (by simpa using HI.out.bel.size) fun W' hTk => ?_
                      have hc5 := (hTk.cells _ _ _ (HOW.out.bx.f.set 0 (.bool true))).cell 0
                      simp only [List.getElem?_toArray, List.set_cons_zero, List.setIfInBounds_toArray, List.getElem?_cons_zero] at hc5
                      refine ⟨.bool true, by simp [results, Try.f6, go_sem, hc5], rfl, ?_⟩
                      exact (hb05.setCell (p := ⟨F, 0, none⟩) hF0 _).trans (hTk.bel.mono HT.out.t.bel.size)
end
end Mm
end Go.Proofs.Ytfnfjhfmhinkcaa
