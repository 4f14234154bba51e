/-
  WHAT IS PROVED: MemPlays holds for every script. CONDITIONS: the script stands in memory as named.
-/
import Derived.Test.YtfnfjhfmhinkcaaMPlay
import Derived.Test.YtfnfjhfmhinkcaaBRnd
namespace Go.Proofs.Ytfnfjhfmhinkcaa
open Go Go.RowKit Go.Shelf Go.Maps Go.Sort Go.Proofs.Ytfnfjhfmhinkcaa.Fr
attribute [local go_sem] Oper.semAt_some
namespace Mm
/-- The table, the list and their boxes, i calls in. -/
structure PsS (w0 : World) (F LB T : Nat) (ns : List Nd) (byt : Int) (A1 : Option Addr) (n1 c1 : Nat) (W : World) : Prop where
  f : Blk W F 4 #[.bool false]
  l : Blk W LB 26 #[.slice A1 n1 c1]
  p : Pl w0 W T ns byt A1 n1 c1
def PsI (w0 : World) (F LB T len : Nat) (s : Value) (wr : World) : Prop :=
  ∃ (i : Nat) (A1 : Option Addr) (n1 c1 : Nat) (ns : List Nd) (byt : Int), i ≤ len ∧ i ≤ 100 ∧ s = .int .i64 ((i : Nat) : Int) ∧ n1 ≤ i ∧ Hid (PsS w0 F LB T ns byt A1 n1 c1 wr)
theorem Pl.off {w0 w w' : World} {T : Nat} {ns : List Nd} {byt : Int} {A : Option Addr} {n c X : Nat} {t : TypeId} {cs : Array Value} (h : Pl w0 w T ns byt A n c) (hx : Blk w X t cs) (h1 : t ≠ 54) (h2 : t ≠ 52) (h3 : t ≠ 30) (hb : Below w0.heap.size w0 w') (hk : ∀ k, k ≠ X → w'.heap[k]? = w.heap[k]?) : Pl w0 w' T ns byt A n c :=
  ⟨h.t.off hb fun k ho => hk k fun e => h.t.own_not hx h1 h2 (e ▸ ho), h.v, h.len, h.bytes, own_same h.row fun k hk2 => hk k fun e => by
    rcases own_ne_b h.row hx h3 with h4 | h4
    · rw [h4] at hk2; cases hk2
    · rw [hk2] at h4; exact h4 (by rw [e])⟩
section
variable {w0 w w' : World} {F LB T : Nat} {ns : List Nd} {byt : Int} {A1 : Option Addr} {n1 c1 : Nat}
theorem PsS.below (h : PsS w0 F LB T ns byt A1 n1 c1 w) (hb : Below w.heap.size w w') : PsS w0 F LB T ns byt A1 n1 c1 w' := ⟨h.f.same (hb.block _ h.f.lt), h.l.same (hb.block _ h.l.lt), h.p.below hb⟩
/-- A call has gone through, its list is stored. -/
theorem PsS.step {A2 : Option Addr} {n2 c2 : Nat} {ns' : List Nd} {byt' : Int} (h : PsS w0 F LB T ns byt A1 n1 c1 w) (hne : F ≠ LB) (hL : w0.heap.size ≤ LB) (hk : ∀ k, k < w.heap.size → ¬ Own T ns k → w'.heap[k]? = w.heap[k]?) (hp : Pl w0 w' T ns' byt' A2 n2 c2) :
    w'.cell? ⟨LB, 0, none⟩ = some (.slice A1 n1 c1) ∧ w'.frozen? ⟨LB, 0, none⟩ = false ∧ PsS w0 F LB T ns' byt' A2 n2 c2 (w'.setCell ⟨LB, 0, none⟩ (.slice A2 n2 c2)) := by
  have hl : Blk w' LB 26 #[.slice A1 n1 c1] := h.l.same (hk _ h.l.lt (h.p.t.own_not h.l (by decide) (by decide)))
  have hf : Blk w' F 4 #[.bool false] := h.f.same (hk _ h.f.lt (h.p.t.own_not h.f (by decide) (by decide)))
  exact ⟨hl.cell 0, hl.frozen 0, hf.same (Below.heap_setCell _ _ _ _ hne), hl.set 0 _, hp.off hl (by decide) (by decide) (by decide) (hp.t.bel.setCell (p := ⟨LB, 0, none⟩) hL _) fun k hk => Below.heap_setCell _ _ _ _ hk⟩
end
/-- How many keys of the first j come ahead of k. -/
def cntK (l : List En) (k : ByteArray) (j : Nat) : Nat := ((l.take j).filter fun x => decide (x.k < k.toList)).length
theorem cntK_le (l : List En) (k : ByteArray) (j : Nat) : cntK l k j ≤ j := by
  unfold cntK
  refine Nat.le_trans (List.length_filter_le _ _) ?_
  rw [List.length_take]
  omega
theorem cntK_step {l : List En} {k : ByteArray} {j : Nat} {x : En} (hx : l[j]? = some x) : cntK l k (j + 1) = cntK l k j + (if x.k < k.toList then 1 else 0) := by
  unfold cntK
  rw [List.take_add_one, hx, List.filter_append, List.length_append]
  congr 1
  by_cases h : x.k < k.toList <;> simp [h]
theorem tot_step {l : List En} {j : Nat} {x : En} (hx : l[j]? = some x) : tot (l.take (j + 1)) = tot (l.take j) + ((x.key.size : Int) + (x.val.size : Int)) := by
  rw [List.take_add_one, hx, tot_append]
  show _ + tot [x] = _
  rw [tot_cons]
  show _ + (_ + tot []) = _
  rw [show tot [] = 0 from rfl, Int.add_zero]
theorem tot_nn (l : List En) : 0 ≤ tot l := by
  induction l with
  | nil => exact Int.le_refl _
  | cons e r ih => rw [tot_cons]; omega
section
variable {w0 w : World} {F LB T : Nat} {ns : List Nd} {byt : Int} {A1 : Option Addr} {n1 c1 : Nat} {l : List En} {j i : Nat} {x : En}
theorem PsS.size_at (h : PsS w0 F LB T ns byt A1 n1 c1 w) (hl : l = ns.map Nd.e) (hx : l[j]? = some x) : (x.key.size : Int) ≤ 64 ∧ (x.val.size : Int) ≤ 1024 := by
  have := List.mem_of_getElem? hx
  rw [hl] at this
  obtain ⟨m, hm, rfl⟩ := List.mem_map.1 this
  exact entry_sizes (h.p.v m hm).2
theorem PsS.tot_at (h : PsS w0 F LB T ns byt A1 n1 c1 w) (hl : l = ns.map Nd.e) (hx : l[j]? = some x) (hn : n1 ≤ i) (hi : i ≤ 100) : 0 ≤ tot (l.take j) ∧ tot (l.take j) + ((x.key.size : Int) + (x.val.size : Int)) ≤ 1000000 ∧ tot (l.take j) ≤ 1000000 := by
  have h1 := tot_nn (l.take j)
  have h2 := tot_nn (l.drop (j + 1))
  have h3 : tot l = tot (l.take (j + 1)) + tot (l.drop (j + 1)) := by rw [← tot_append, List.take_append_drop]
  rw [tot_step hx, hl, ← h.p.bytes] at h3
  rw [hl] at h1 h2 ⊢
  have h4 := h.p.t.b1
  have h5 := h.p.len
  refine ⟨h1, ?_, ?_⟩ <;> omega
end
theorem PsS.setN {w0 w : World} {F LB T N : Nat} {ns : List Nd} {byt : Int} {A1 : Option Addr} {n1 c1 : Nat} {cs : Array Value} (h : PsS w0 F LB T ns byt A1 n1 c1 w) (hN : Blk w N 3 cs) (hF : F < N) (hL : LB < N) (hw : w0.heap.size ≤ N) (v : Value) : PsS w0 F LB T ns byt A1 n1 c1 (w.setCell ⟨N, 0, none⟩ v) :=
  ⟨h.f.same (Below.heap_setCell _ _ _ _ (by show F ≠ N; omega)), h.l.same (Below.heap_setCell _ _ _ _ (by show LB ≠ N; omega)), h.p.off hN (by decide) (by decide) (by decide) (h.p.t.bel.setCell (p := ⟨N, 0, none⟩) hw _) fun k hk => Below.heap_setCell _ _ _ _ hk⟩
/-- Between two rounds of the count. -/
def P2I (w0 : World) (F LB T : Nat) (ns : List Nd) (byt : Int) (A1 : Option Addr) (n1 c1 N : Nat) (k : ByteArray) (l : List En) (s7 s51 : Value) (W : World) : Prop :=
  ∃ j : Nat, j ≤ n1 ∧ s51 = .int .i64 ((j : Nat) : Int) ∧ s7 = .int .i64 (tot (l.take j)) ∧ Hid (Blk W N 3 #[.int .i64 ((cntK l k j : Nat) : Int)]) ∧ Hid (PsS w0 F LB T ns byt A1 n1 c1 W)
/-- The post at its good ends alone. -/
def OnlyRet (Q : Exit → Act → World → Prop) : Exit → Act → World → Prop
  | .ret, a, w => Q .ret a w
  | .normal, a, w => Q .normal a w
  | _, _, _ => False
theorem wp_only {P : Program} {c : Code} {Q : Exit → Act → World → Prop} {a : Act} {w : World} (h : c.wp P (OnlyRet Q) a w) : c.wp P Q a w :=
  Code.wp_mono (fun e a w h => by cases e <;> first | exact h | exact False.elim h) h
theorem act_gen {P : Program} {c : Code} {Q : Exit → Act → World → Prop} {a : Act} {w : World} (h : ∀ a0, a0 = a → c.wp P Q a0 w) : c.wp P Q a w := h a rfl
theorem fromN_mem {ns : List Nd} {k : List UInt8} {n : Nd} (h : n ∈ fromN ns k) : n ∈ ns := (List.dropWhile_sublist _).subset h
theorem chain_post {W : World} {ns : List Nd} {k : List UInt8} {q : Int} (h : Chain W ns) : Chain W (post ns k q) := by
  rw [← pre_post ns k q] at h
  generalize post ns k q = b at *
  generalize pre ns k q = a at *
  induction a with
  | nil => exact h
  | cons x r ih => exact ih h.2
theorem from_drop {ns : List Nd} (hv : Val ns) (hs : Sorted ns) (k : ByteArray) : (fromN ns k.toList).map Nd.e = (ns.map Nd.e).drop (cntK (ns.map Nd.e) k ns.length) := by
  have h1 : fromN ns k.toList = ns.dropWhile fun n => decide (n.e.k < k.toList) := by
    unfold fromN post
    have : ∀ (l : List Nd), (∀ n ∈ l, entryErr n.e = 0) → l.dropWhile (fun n => decide (bef n.e k.toList 9223372036854775807)) = l.dropWhile fun n => decide (n.e.k < k.toList) := fun l => by
      induction l with
      | nil => intro _; rfl
      | cons x r ih =>
        intro h
        rw [List.dropWhile_cons, List.dropWhile_cons, ih fun n hn => h n (List.mem_cons_of_mem _ hn)]
        simp only [bef_from (h x (by simp)) k.toList]
    exact this ns fun n hn => (hv n hn).2
  have h2 : (ns.filter fun n => decide (n.e.k < k.toList)) = ns.takeWhile fun n => decide (n.e.k < k.toList) := by
    clear h1 hv
    induction ns with
    | nil => rfl
    | cons x r ih =>
      have hs' := List.pairwise_cons.1 hs
      rw [List.filter_cons, List.takeWhile_cons, ih hs'.2]
      by_cases hx : x.e.k < k.toList
      · simp [hx]
      · simp only [hx, decide_false, Bool.false_eq_true, if_false]
        cases r with
        | nil => rfl
        | cons y r2 =>
          rw [List.takeWhile_cons, if_neg]
          simp only [decide_eq_true_eq]
          intro hy
          rcases hs'.1 y (by simp) with h | ⟨h, _⟩
          · exact hx (List.lt_trans h hy)
          · exact hx (h ▸ hy)
  have h3 : cntK (ns.map Nd.e) k ns.length = (ns.takeWhile fun n => decide (n.e.k < k.toList)).length := by
    unfold cntK
    rw [List.take_of_length_le (by rw [List.length_map]; exact Nat.le_refl _), List.filter_map, List.length_map, ← h2]
    rfl
  rw [h1, h3, ← List.map_drop]
  congr 1
  conv => rhs; arg 2; rw [← List.takeWhile_append_dropWhile (p := fun n : Nd => decide (n.e.k < k.toList)) (l := ns)]
  rw [List.drop_left]
theorem PsS.mod {w0 w W : World} {F LB T N : Nat} {ns : List Nd} {byt : Int} {A1 : Option Addr} {n1 c1 : Nat} {cs : Array Value} (h : PsS w0 F LB T ns byt A1 n1 c1 w) (hN : Blk w N 3 cs) (hm : Mod (fun b => b = N) w W) (hF : F < N) (hL : LB < N) (hw : w0.heap.size ≤ N) : PsS w0 F LB T ns byt A1 n1 c1 W := by
  have hb : Below w0.heap.size w0 W := h.p.t.bel.trans (hm.to_below (fun k e => by omega) h.p.t.bel.size)
  refine ⟨h.f.same (hm.block _ h.f.lt (by show F ≠ N; omega)), h.l.same (hm.block _ h.l.lt (by show LB ≠ N; omega)), h.p.t.off hb fun k ho => hm.block k (h.p.t.own_lt k ho) fun e => h.p.t.own_not hN (by decide) (by decide) (e ▸ ho), h.p.v, h.p.len, h.p.bytes, ?_⟩
  exact own_same h.p.row fun k hk => hm.block k (by obtain ⟨_, h1⟩ := own_blk h.p.row hk; exact h1.lt) fun e => by
    rcases own_ne_b h.p.row hN (by decide) with h4 | h4
    · rw [h4] at hk; cases hk
    · rw [hk] at h4; exact h4 (by rw [e])
theorem below_of_drewN {B : Nat} {w W w' : World} {m : Nat} (h : Below B w W) (h2 : Below (W.drewN m).heap.size (W.drewN m) w') (hB : B ≤ W.heap.size := by exact Nat.le_refl _) : Below B w w' :=
  h.trans ((show Below W.heap.size W w' from ⟨h2.os, h2.tape, h2.output, h2.size, h2.block⟩).mono hB)
/-- Between two rounds over the iterator. -/
def R3 (w5 : World) (N C : Nat) (l : List En) (pre : List En) (W : World) : Prop := pre <+: l.drop C ∧ Mod (fun b => b = N) w5 W ∧ Blk W N 3 #[.int .i64 ((C + pre.length : Nat) : Int)]
section
variable {w5 W : World} {N C M : Nat} {l pre : List En} {x y : En}
theorem R3.own : OwnFrom w5.heap.size (R3 w5 N C l) := fun s W W' row h hg hr => ⟨h.1, h.2.1.trans (Mod.grown (S := fun b => row = some b) hg fun k e => e) fun b hb e => by have := (hr b e).1; omega, blk_kept h.2.2 hg fun r e => (hr r e).2⟩
theorem R3.alloc (h : R3 w5 N C l pre W) (o : Obj) : R3 w5 N C l pre (W.alloc o) := ⟨h.1, h.2.1.alloc o, h.2.2.alloc o⟩
theorem Mod.step {m : Nat} (h : Mod (fun b => b = N) w5 W) (hp : pre <+: l.drop C) (hM : M = C + pre.length) (hy : l[M]? = some y) (hN : Blk W N 3 #[.int .i64 (M : Int)]) : R3 w5 N C l (pre ++ [y]) ((W.drewN m).setCell ⟨N, 0, none⟩ (.int .i64 ((M : Int) + 1))) := by
  refine ⟨?_, (h.drewN m).setCell (fun _ => rfl) _, ?_⟩
  · rw [List.prefix_iff_eq_take] at hp ⊢
    rw [List.length_append, List.length_singleton, List.take_add_one, ← hp, List.getElem?_drop, ← hM, hy]
    rfl
  · have := (show Blk (W.drewN m) N 3 #[.int .i64 (M : Int)] from hN).set 0 (.int .i64 ((M : Int) + 1))
    rw [List.length_append, List.length_singleton, show ((C + (pre.length + 1) : Nat) : Int) = (M : Int) + 1 by omega]
    exact this
theorem r3_miss (hM : M = C + pre.length) (hy : l[M]? = some y) (hne : ¬ y = x) : ¬ (pre ++ [x]) <+: l.drop C := fun h => by
  rw [List.prefix_iff_eq_take] at h
  have h2 := congrArg (fun l => l[pre.length]?) h
  simp only [List.getElem?_concat_length, List.length_append, List.length_singleton] at h2
  rw [List.getElem?_take_of_lt (by omega), List.getElem?_drop, ← hM, hy] at h2
  exact hne (Option.some.inj h2).symm
theorem r3_end (hM : M = C + pre.length) (hl : l.length ≤ M) : ¬ (pre ++ [x]) <+: l.drop C := fun h => by
  have := h.length_le
  rw [List.length_append, List.length_singleton, List.length_drop] at this
  omega
theorem PsS.row_off {w0 w : World} {F LB T : Nat} {ns : List Nd} {byt : Int} {A1 : Option Addr} {n1 c1 : Nat} {cs : Array Value} (h : PsS w0 F LB T ns byt A1 n1 c1 w) (hN : Blk w N 3 cs) (hm : Mod (fun b => b = N) w W) : W.ownsRow w0.heap.size 30 4 (.slice A1 n1 c1) n1 (ev (ns.map Nd.e)) :=
  own_same h.p.row fun k hk => hm.block k (by obtain ⟨_, h1⟩ := own_blk h.p.row hk; exact h1.lt) fun e => by
    rcases own_ne_b h.p.row hN (by decide) with h4 | h4
    · rw [h4] at hk; cases hk
    · rw [hk] at h4; exact h4 (by rw [e])
end
theorem OpC.set {W : World} {g p LB : Nat} {m : MOp} (h : OpC W g p m) (hne : g ≠ LB) (v : Value) : OpC (W.setCell ⟨LB, 0, none⟩ v) g p m := by
  have hc : ∀ o, (W.setCell ⟨LB, 0, none⟩ v).cell? ⟨g, o, none⟩ = W.cell? ⟨g, o, none⟩ := fun o => World.cell?_of_block (Below.heap_setCell _ _ _ _ hne)
  exact ⟨(hc _).trans h.1, (hc _).trans h.2.1, (hc _).trans h.2.2.1, (hc _).trans h.2.2.2.1, (hc _).trans h.2.2.2.2.1, (hc _).trans h.2.2.2.2.2⟩
section
variable {w0 : World} {A : Option Addr} {L : List MOp} {k : ByteArray}
set_option maxRecDepth 100000 in
set_option maxHeartbeats 6400000 in
theorem plays_any (h : MScript w0 A L) (n c : Nat) (hl : L.length = n) :
    Calls Try.prog 3 #[.slice A n c, .string k] w0 (Yes w0) := by
  obtain ⟨W1, hW1⟩ : ∃ W1, W1 = w0.alloc (.cells #[.bool false] 4) := ⟨_, rfl⟩
  have hb1 : Below w0.heap.size w0 W1 := by rw [hW1]; exact (Below.refl _ _).alloc (Nat.le_refl _) _
  have hf1 : Blk W1 w0.heap.size 4 #[.bool false] := by rw [hW1]; exact Blk.new _ _ _
  have hs1 : W1.heap.size = w0.heap.size + 1 := by rw [hW1]; simp
  have hc1 := new_any W1
  have HS := Lib.hid h
  have HL := Lib.hid hl
  have HF1 := Lib.hid hf1
  have HB1 := Lib.hid hb1
  clear h hf1 hb1
  refine (callsIn_wide (n := 5)).1 (callsIn_of_wp_marks Try.func3 rfl trivial ?_ rfl)
  simp only [Try.ntmps3, List.size_toArray, List.length_cons, List.length_nil, Nat.reduceAdd, Nat.reduceSub, Array.replicate_succ, Array.replicate_zero, List.push_toArray, List.append_toArray, List.nil_append, List.cons_append]
  refine wpIn_wide.2 (wp_only ?_)
  go_wp2_with (first
    | (go_at_call 7; rw [← hW1]; refine hc1.mono ?_; rintro e w1 ⟨rfl, hp1, hp2⟩; have ht1 := Tb.made rfl hp1 hp2; clear hp1)
    | (go_at_call 8; refine (awake_any w1).mono ?_; rintro e w2 ⟨rfl, hb2⟩; have ht2 := ht1.below hb2))
  have hb12 : Below W1.heap.size W1 w2 := hp2.trans (hb2.mono hp2.size)
  obtain ⟨W3, hW3⟩ : ∃ W3, W3 = w2.alloc (.cells #[.slice none 0 0] 26) := ⟨_, rfl⟩
  have hl3 : Blk W3 w2.heap.size 26 #[.slice none 0 0] := by rw [hW3]; exact Blk.new _ _ _
  have hb3 : Below w2.heap.size w2 W3 := by rw [hW3]; exact (Below.refl _ _).alloc (Nat.le_refl _) _
  have hb03 : Below w0.heap.size w0 W3 := HB1.out.trans ((hb12.trans (hb3.mono hb12.size)).mono HB1.out.size)
  have ht3 := ht2.below hb3
  have ht3' : Tb w0 W3 W1.heap.size [] 0 := ⟨ht3.rep, ht3.good, ht3.nodup, by omega, (fun n hn => by cases hn), hb03, ht3.b0, ht3.b1⟩
  have hps : PsS w0 w0.heap.size w2.heap.size W1.heap.size [] 0 none 0 0 W3 := ⟨HF1.out.same (((hb12.trans (hb3.mono hb12.size))).block _ HF1.out.lt), hl3, Pl.made ht3'⟩
  have hlt : w0.heap.size < w2.heap.size := by have := hb12.size; omega
  rw [← hW3]
  obtain ⟨F, hF⟩ : ∃ F, F = w0.heap.size := ⟨_, rfl⟩
  obtain ⟨T, hT⟩ : ∃ T, T = W1.heap.size := ⟨_, rfl⟩
  obtain ⟨LB, hLB⟩ : ∃ LB, LB = w2.heap.size := ⟨_, rfl⟩
  rw [hs1] at hT
  rw [hs1] at hps
  rw [← hT, ← hLB] at hps
  rw [← hT, ← hLB]
  have hFL : F ≠ LB := by omega
  have hF0 : w0.heap.size ≤ F := by omega
  have hL0 : w0.heap.size ≤ LB := by omega
  rw [← hF] at hps ⊢
  have HPS := Lib.hid hps
  clear hps ht3 ht3' hb03 hb3 hl3 hb12 ht1 ht2 hb2 hp2 hc1 hW3 hW1 hs1 hT hLB hlt hF HF1
  go_loopw [8] (PsI w0 F LB T n) (fun x _ => n - (intOf x).toNat)
  case atStart => exact ⟨0, none, 0, 0, [], 0, by omega, by omega, rfl, by omega, HPS⟩
  case round =>
    obtain ⟨i, A1, n1, c1, ns, byt, hin, hi100, rfl, hn1, HP⟩ := hrel
    by_cases hlt : i < n ∧ i < 100
    · obtain ⟨hlt, hlt2⟩ := hlt
      obtain ⟨m, hm⟩ : ∃ m, L[i]? = some m := ⟨L[i]'(by omega), List.getElem?_eq_getElem _⟩
      obtain ⟨g, p, rfl, hg, hop⟩ := HS.out.cell i m hm
      have HO := Lib.hid (fun W hW => yes_eq w0 hg hop W hW)
      have hS0 : OpC wr g (p + i * 6) m := HO.out wr HP.out.p.t.bel
      have lb0 := HP.out.l.cell 0
      simp only [List.getElem?_toArray, List.getElem?_cons_zero] at lb0
      have hgL : g ≠ LB := by omega
      have k1 : (i : Int) < (n : Int) := by omega
      have k2 : (i : Int) < 100 := by omega
      have k3 : (0 : Int) ≤ (i : Int) := by omega
      obtain ⟨ask, e, hgt⟩ := m
      clear hm hop
      go_upto_region 10 with fail
      refine wp_region_held_drew (S := (fun W => OpC W g (p + i * 6) ⟨ask, e, hgt⟩)) (by kernel_rfl) (by (first | (with_reducible assumption) | (with_reducible exact OpC.drew (by assumption)) | exact OpC.set (by assumption) hgL _)) (fun hHeld => ?_)
      refine wpAnyH_take (i := 0) (v := ?vr1_0) (Fr.take_at rfl) (by kernel_rfl) (by kernel_rfl) (by kernel_rfl) (fun _ _ _ h => h) (Or.inl ⟨by rfl, ?yr1_0⟩) (by assumption) ?nr1_0
      case yr1_0 => (intro w_ hSw; obtain ⟨q0, q1, q2, q3, q4, q5⟩ := hSw; go_simp; (try with_reducible rfl))
      try simp only [Act.put, List.setIfInBounds_toArray, List.set_cons_zero, List.set_cons_succ]
      refine wpAnyH_take (i := 2) (v := ?vr1_2) (Fr.take_at rfl) (by kernel_rfl) (by kernel_rfl) (by kernel_rfl) (fun _ _ _ h => h) (Or.inl ⟨by rfl, ?yr1_2⟩) (by assumption) ?nr1_2
      case yr1_2 => (intro w_ hSw; obtain ⟨q0, q1, q2, q3, q4, q5⟩ := hSw; go_simp; (try with_reducible rfl))
      try simp only [Act.put, List.setIfInBounds_toArray, List.set_cons_zero, List.set_cons_succ]
      refine wpAnyH_take (i := 3) (v := ?vr1_3) (Fr.take_at rfl) (by kernel_rfl) (by kernel_rfl) (by kernel_rfl) (fun _ _ _ h => h) (Or.inl ⟨by rfl, ?yr1_3⟩) (by assumption) ?nr1_3
      case yr1_3 => (intro w_ hSw; obtain ⟨q0, q1, q2, q3, q4, q5⟩ := hSw; go_simp; (try with_reducible rfl))
      try simp only [Act.put, List.setIfInBounds_toArray, List.set_cons_zero, List.set_cons_succ]
      refine wpAnyH_take (i := 4) (v := ?vr1_4) (Fr.take_at rfl) (by kernel_rfl) (by kernel_rfl) (by kernel_rfl) (fun _ _ _ h => h) (Or.inl ⟨by rfl, ?yr1_4⟩) (by assumption) ?nr1_4
      case yr1_4 => (intro w_ hSw; obtain ⟨q0, q1, q2, q3, q4, q5⟩ := hSw; go_simp; (try with_reducible rfl))
      try simp only [Act.put, List.setIfInBounds_toArray, List.set_cons_zero, List.set_cons_succ]
      refine wpAnyH_take (i := 5) (v := ?vr1_5) (Fr.take_at rfl) (by kernel_rfl) (by kernel_rfl) (by kernel_rfl) (fun _ _ _ h => h) (Or.inl ⟨by rfl, ?yr1_5⟩) (by assumption) ?nr1_5
      case yr1_5 => (intro w_ hSw; obtain ⟨q0, q1, q2, q3, q4, q5⟩ := hSw; go_simp; (try with_reducible rfl))
      try simp only [Act.put, List.setIfInBounds_toArray, List.set_cons_zero, List.set_cons_succ]
      refine wpAnyH_ready (rs := [1]) (by kernel_rfl) (by simp) ?_
      refine AllReadyH.cons (Fr.take_at rfl) (fun K hK => ?_) AllReadyH.nil
      go_simp
      refine hK.out _ _ (by (first | (with_reducible assumption) | (with_reducible exact OpC.drew (by assumption)) | exact OpC.set (by assumption) hgL _)) (fun hHeld => ?_)
      clear hK K
      try simp only [Act.put, List.setIfInBounds_toArray, List.set_cons_zero, List.set_cons_succ]
      refine wpAnyH_ready (rs := [6]) (by kernel_rfl) (by simp) ?_
      refine AllReadyH.cons (Fr.take_at rfl) (fun K hK => ?_) AllReadyH.nil
      go_simp
      (go_at_call 9; (refine (play_any (HP.out.p.below (below_drewN (Below.refl _ _) 1)) (by omega) ask e hgt).mono ?_); rintro x w5 ⟨hsz5, hbk5, A2, n2, c2, ns', byt', rfl, hn', hp'⟩; obtain ⟨lb5, lf5, hps5⟩ := (HP.out.below (below_drewN (Below.refl _ _) 1)).step hFL hL0 hbk5 hp'; have hS5 := HO.out w5 hp'.t.bel; have HPS5 := Lib.hid hps5; have hlen1 := HP.out.p.len; have hlen2 := hp'.len; clear hp' hps5 hbk5)
      try go_wp2_with fail
      refine hK.out _ _ (by (first | (with_reducible assumption) | (with_reducible exact OpC.drew (by assumption)) | exact OpC.set (by assumption) hgL _)) (fun hHeld => ?_)
      clear hK K
      try simp only [Act.put, List.setIfInBounds_toArray, List.set_cons_zero, List.set_cons_succ]
      refine wpAnyH_take (i := 7) (v := ?vr1_7) (Fr.take_at rfl) (by kernel_rfl) (by kernel_rfl) (by kernel_rfl) (fun _ _ _ h => h) (Or.inl ⟨by rfl, ?yr1_7⟩) (by assumption) ?nr1_7
      case yr1_7 => (intro w_ hSw; obtain ⟨q0, q1, q2, q3, q4, q5⟩ := hSw; go_simp; (try with_reducible rfl))
      try simp only [Act.put, List.setIfInBounds_toArray, List.set_cons_zero, List.set_cons_succ]
      refine wpAnyH_take (i := 8) (v := ?vr1_8) (Fr.take_at rfl) (by kernel_rfl) (by kernel_rfl) (by kernel_rfl) (fun _ _ _ h => h) (Or.inl ⟨by rfl, ?yr1_8⟩) (by assumption) ?nr1_8
      case yr1_8 => (intro w_ hSw; obtain ⟨q0, q1, q2, q3, q4, q5⟩ := hSw; go_simp; (try with_reducible rfl))
      try simp only [Act.put, List.setIfInBounds_toArray, List.set_cons_zero, List.set_cons_succ]
      refine wpAnyH_take (i := 9) (v := ?vr1_9) (Fr.take_at rfl) (by kernel_rfl) (by kernel_rfl) (by kernel_rfl) (fun _ _ _ h => h) (Or.inl ⟨by rfl, ?yr1_9⟩) (by assumption) ?nr1_9
      case yr1_9 => (intro w_ hSw; obtain ⟨q0, q1, q2, q3, q4, q5⟩ := hSw; go_simp; (try with_reducible rfl))
      try simp only [Act.put, List.setIfInBounds_toArray, List.set_cons_zero, List.set_cons_succ]
      refine wpAnyH_ready (rs := [10]) (by kernel_rfl) (by simp) ?_
      refine AllReadyH.cons (Fr.take_at rfl) (fun K hK => ?_) AllReadyH.nil
      go_simp
      refine hK.out _ _ (by (first | (with_reducible assumption) | (with_reducible exact OpC.drew (by assumption)) | exact OpC.set (by assumption) hgL _)) (fun hHeld => ?_)
      clear hK K
      try simp only [Act.put, List.setIfInBounds_toArray, List.set_cons_zero, List.set_cons_succ]
      refine wpAnyH_take (i := 11) (v := ?vr1_11) (Fr.take_at rfl) (by kernel_rfl) (by kernel_rfl) (by kernel_rfl) (fun _ _ _ h => h) (Or.inl ⟨by rfl, ?yr1_11⟩) (by assumption) ?nr1_11
      case yr1_11 => (intro w_ hSw; obtain ⟨q0, q1, q2, q3, q4, q5⟩ := hSw; go_simp; (try with_reducible rfl))
      try simp only [Act.put, List.setIfInBounds_toArray, List.set_cons_zero, List.set_cons_succ]
      refine wpAnyH_done (by kernel_rfl) ?_ _
      have lb6 := HPS5.out.l.cell 0
      simp only [List.getElem?_toArray, List.getElem?_cons_zero] at lb6
      obtain ⟨w6, hw6⟩ : ∃ w6, w6 = w5.setCell ⟨LB, 0, none⟩ (.slice A2 n2 c2) := ⟨_, rfl⟩
      rw [← hw6] at HPS5 lb6 ⊢
      have HLN := Lib.hid (len_any (w := w6.drewN 1) (HPS5.out.below (below_drewN (Below.refl _ _) 1)).p.t.rep.tab)
      rw [hlen2] at HLN
      clear hw6 lb0 lb5 lf5 hHeld hS5 hS0
      go_upto_region 11 with fail
      refine wp_region_held_drew (S := (fun W => W.cell? ⟨LB, 0, none⟩ = some (.slice A2 n2 c2))) (by kernel_rfl) (by (exact lb6)) (fun hHeld => ?_)
      refine wpAnyH_take (i := 0) (v := ?vr2_0) (Fr.take_at rfl) (by kernel_rfl) (by kernel_rfl) (by kernel_rfl) (fun _ _ _ h => h) (Or.inl ⟨by rfl, ?yr2_0⟩) (by assumption) ?nr2_0
      case yr2_0 => (intro w_ hSw; (try dsimp only at hSw); go_simp; (try with_reducible rfl))
      try simp only [Act.put, List.setIfInBounds_toArray, List.set_cons_zero, List.set_cons_succ]
      refine wpAnyH_take (i := 1) (v := ?vr2_1) (Fr.take_at rfl) (by kernel_rfl) (by kernel_rfl) (by kernel_rfl) (fun _ _ _ h => h) (Or.inl ⟨by rfl, ?yr2_1⟩) (by assumption) ?nr2_1
      case yr2_1 => (intro w_ hSw; (try dsimp only at hSw); go_simp; (try with_reducible rfl))
      try simp only [Act.put, List.setIfInBounds_toArray, List.set_cons_zero, List.set_cons_succ]
      refine wpAnyH_take (i := 2) (v := ?vr2_2) (Fr.take_at rfl) (by kernel_rfl) (by kernel_rfl) (by kernel_rfl) (fun _ _ _ h => h) (Or.inl ⟨by rfl, ?yr2_2⟩) (by assumption) ?nr2_2
      case yr2_2 => (intro w_ hSw; (try dsimp only at hSw); go_simp; (try with_reducible rfl))
      try simp only [Act.put, List.setIfInBounds_toArray, List.set_cons_zero, List.set_cons_succ]
      refine wpAnyH_take (i := 3) (v := ?vr2_3) (Fr.take_at rfl) (by kernel_rfl) (by kernel_rfl) (by kernel_rfl) (fun _ _ _ h => h) (Or.inl ⟨by rfl, ?yr2_3⟩) (by assumption) ?nr2_3
      case yr2_3 => (intro w_ hSw; (try dsimp only at hSw); go_simp; (try with_reducible rfl))
      try simp only [Act.put, List.setIfInBounds_toArray, List.set_cons_zero, List.set_cons_succ]
      refine wpAnyH_take (i := 5) (v := ?vr2_5) (Fr.take_at rfl) (by kernel_rfl) (by kernel_rfl) (by kernel_rfl) (fun _ _ _ h => h) (Or.inl ⟨by rfl, ?yr2_5⟩) (by assumption) ?nr2_5
      case yr2_5 => (intro w_ hSw; (try dsimp only at hSw); go_simp; (try with_reducible rfl))
      try simp only [Act.put, List.setIfInBounds_toArray, List.set_cons_zero, List.set_cons_succ]
      refine wpAnyH_take (i := 6) (v := ?vr2_6) (Fr.take_at rfl) (by kernel_rfl) (by kernel_rfl) (by kernel_rfl) (fun _ _ _ h => h) (Or.inl ⟨by rfl, ?yr2_6⟩) (by assumption) ?nr2_6
      case yr2_6 => (intro w_ hSw; (try dsimp only at hSw); go_simp; (try with_reducible rfl))
      try simp only [Act.put, List.setIfInBounds_toArray, List.set_cons_zero, List.set_cons_succ]
      refine wpAnyH_ready (rs := [4]) (by kernel_rfl) (by simp) ?_
      refine AllReadyH.cons (Fr.take_at rfl) (fun K hK => ?_) AllReadyH.nil
      go_simp
      (go_at_call 10; refine HLN.out.mono ?_; rintro x _ ⟨rfl, rfl⟩)
      try go_wp2_with fail
      refine hK.out _ _ (by (exact lb6)) (fun hHeld => ?_)
      clear hK K
      try simp only [Act.put, List.setIfInBounds_toArray, List.set_cons_zero, List.set_cons_succ]
      refine wpAnyH_take (i := 7) (v := ?vr2_7) (Fr.take_at rfl) (by kernel_rfl) (by kernel_rfl) (by kernel_rfl) (fun _ _ _ h => h) (Or.inl ⟨by rfl, ?yr2_7⟩) (by assumption) ?nr2_7
      case yr2_7 => (intro w_ hSw; (try dsimp only at hSw); go_simp; (try with_reducible rfl))
      try simp only [Act.put, List.setIfInBounds_toArray, List.set_cons_zero, List.set_cons_succ]
      refine wpAnyH_take (i := 8) (v := ?vr2_8) (Fr.take_at rfl) (by kernel_rfl) (by kernel_rfl) (by kernel_rfl) (fun _ _ _ h => h) (Or.inl ⟨by rfl, ?yr2_8⟩) (by assumption) ?nr2_8
      case yr2_8 => (intro w_ hSw; (try dsimp only at hSw); go_simp; (try with_reducible rfl))
      try simp only [Act.put, List.setIfInBounds_toArray, List.set_cons_zero, List.set_cons_succ]
      refine wpAnyH_done (by kernel_rfl) ?_ _
      go_wp2
      go_roundw
      case rel => exact ⟨i + 1, A2, n2, c2, ns', byt', by omega, by omega, by simp, by omega, Lib.hid (HPS5.out.below (below_drewN (Below.refl _ _) 1))⟩
      case measure => simp [intOf]; omega
    · by_cases hin2 : i < n
      · have k1 : (i : Int) < (n : Int) := by omega
        have k2 : ¬ (i : Int) < 100 := by omega
        go_upto_region 14 with fail
        obtain ⟨W4, hW4⟩ : ∃ W4, W4 = wr.alloc (.cells #[.int .i64 0] 3) := ⟨_, rfl⟩
        have hN4 : Blk W4 wr.heap.size 3 #[.int .i64 0] := by rw [hW4]; exact Blk.new _ _ _
        have hp4 : PsS w0 F LB T ns byt A1 n1 c1 W4 := by rw [hW4]; exact HP.out.below ((Below.refl _ _).alloc (Nat.le_refl _) _)
        have hFlt := HP.out.f.lt
        have hLlt := HP.out.l.lt
        have hw0r := HP.out.p.t.bel.size
        rw [← hW4]
        obtain ⟨N, hN⟩ : ∃ N, N = wr.heap.size := ⟨_, rfl⟩
        rw [← hN] at hN4 hFlt hLlt hw0r ⊢
        have HP4 := Lib.hid hp4
        have HN4 := Lib.hid hN4
        have lb0 := hp4.l.cell 0
        simp only [List.getElem?_toArray, List.getElem?_cons_zero] at lb0
        obtain ⟨l, hl2⟩ : ∃ l, l = ns.map Nd.e := ⟨_, rfl⟩
        have hll : l.length = n1 := by rw [hl2, List.length_map]; exact HP.out.p.len
        have HLL := Lib.hid hll
        have HLQ := Lib.hid hl2
        clear hW4 hN4 hp4 hN hl2 hll HP
        go_wp2
        go_loopw [7, 51] (P2I w0 F LB T ns byt A1 n1 c1 N k l) (fun _ x _ => n1 - (intOf x).toNat)
        case atStart => exact ⟨0, by omega, rfl, rfl, Lib.hid (by simpa [cntK] using HN4.out), HP4⟩
        case round =>
          obtain ⟨j, hj, rfl, rfl, HNB, HP⟩ := hrel
          have lb1 := HP.out.l.cell 0
          have nb0 := HNB.out.cell 0
          have nf0 := HNB.out.frozen 0
          simp only [List.getElem?_toArray, List.getElem?_cons_zero] at lb1 nb0
          by_cases hlt3 : j < n1
          · obtain ⟨x, hx⟩ : ∃ x, l[j]? = some x := ⟨l[j]'(by have := HLL.out; omega), List.getElem?_eq_getElem _⟩
            have hrow := HP.out.p.row
            rw [← HLQ.out] at hrow
            obtain ⟨g, p, rfl, hg, x0, x1, x2, x3⟩ := erd_at (rd_ownN hrow) hx
            obtain ⟨hz1, hz2⟩ := HP.out.size_at HLQ.out hx
            obtain ⟨hs1, hs2, hs3⟩ := HP.out.tot_at HLQ.out hx hn1 hi100
            have hcb : cntK l k j ≤ j := cntK_le _ _ _
            have HX := Lib.hid hx
            obtain ⟨S, hS⟩ : ∃ S, S = tot (l.take j) := ⟨_, rfl⟩
            obtain ⟨C, hC⟩ : ∃ C, C = cntK l k j := ⟨_, rfl⟩
            rw [← hS] at hs1 hs2 hs3 ⊢
            rw [← hC] at hcb nb0
            have HSS := Lib.hid hS
            have HCC := Lib.hid hC
            have k5 : (j : Int) < (n1 : Int) := by omega
            have k6 : (0 : Int) ≤ (j : Int) := by omega
            clear hx hrow hS hC
            go_upto_region 17 with fail
            refine wp_region_held_drew (S := (fun W => W.cell? ⟨LB, 0, none⟩ = some (.slice (some ⟨g, p, none⟩) n1 c1) ∧ W.cell? ⟨g, p + j * 4, none⟩ = some (.string x.key) ∧ W.cell? ⟨g, p + j * 4 + 3, none⟩ = some (.string x.val))) (by kernel_rfl) (by (exact ⟨lb1, x0, x3⟩)) (fun hHeld => ?_)
            refine wpAnyH_take (i := 0) (v := ?vr3_0) (Fr.take_at rfl) (by kernel_rfl) (by kernel_rfl) (by kernel_rfl) (fun _ _ _ h => h) (Or.inl ⟨by rfl, ?yr3_0⟩) (by assumption) ?nr3_0
            case yr3_0 => (intro w_ hSw; obtain ⟨y0, y1, y2⟩ := hSw; go_simp; (try with_reducible rfl))
            try simp only [Act.put, List.setIfInBounds_toArray, List.set_cons_zero, List.set_cons_succ]
            refine wpAnyH_take (i := 1) (v := ?vr3_1) (Fr.take_at rfl) (by kernel_rfl) (by kernel_rfl) (by kernel_rfl) (fun _ _ _ h => h) (Or.inl ⟨by rfl, ?yr3_1⟩) (by assumption) ?nr3_1
            case yr3_1 => (intro w_ hSw; obtain ⟨y0, y1, y2⟩ := hSw; go_simp; (try with_reducible rfl))
            try simp only [Act.put, List.setIfInBounds_toArray, List.set_cons_zero, List.set_cons_succ]
            refine wpAnyH_take (i := 2) (v := ?vr3_2) (Fr.take_at rfl) (by kernel_rfl) (by kernel_rfl) (by kernel_rfl) (fun _ _ _ h => h) (Or.inl ⟨by rfl, ?yr3_2⟩) (by assumption) ?nr3_2
            case yr3_2 => (intro w_ hSw; obtain ⟨y0, y1, y2⟩ := hSw; go_simp; (try with_reducible rfl))
            try simp only [Act.put, List.setIfInBounds_toArray, List.set_cons_zero, List.set_cons_succ]
            refine wpAnyH_take (i := 3) (v := ?vr3_3) (Fr.take_at rfl) (by kernel_rfl) (by kernel_rfl) (by kernel_rfl) (fun _ _ _ h => h) (Or.inl ⟨by rfl, ?yr3_3⟩) (by assumption) ?nr3_3
            case yr3_3 => (intro w_ hSw; obtain ⟨y0, y1, y2⟩ := hSw; go_simp; (try with_reducible rfl))
            try simp only [Act.put, List.setIfInBounds_toArray, List.set_cons_zero, List.set_cons_succ]
            refine wpAnyH_take (i := 4) (v := ?vr3_4) (Fr.take_at rfl) (by kernel_rfl) (by kernel_rfl) (by kernel_rfl) (fun _ _ _ h => h) (Or.inl ⟨by rfl, ?yr3_4⟩) (by assumption) ?nr3_4
            case yr3_4 => (intro w_ hSw; obtain ⟨y0, y1, y2⟩ := hSw; go_simp; (try with_reducible rfl))
            try simp only [Act.put, List.setIfInBounds_toArray, List.set_cons_zero, List.set_cons_succ]
            refine wpAnyH_take (i := 5) (v := ?vr3_5) (Fr.take_at rfl) (by kernel_rfl) (by kernel_rfl) (by kernel_rfl) (fun _ _ _ h => h) (Or.inl ⟨by rfl, ?yr3_5⟩) (by assumption) ?nr3_5
            case yr3_5 => (intro w_ hSw; obtain ⟨y0, y1, y2⟩ := hSw; go_simp; (try with_reducible rfl))
            try simp only [Act.put, List.setIfInBounds_toArray, List.set_cons_zero, List.set_cons_succ]
            refine wpAnyH_take (i := 6) (v := ?vr3_6) (Fr.take_at rfl) (by kernel_rfl) (by kernel_rfl) (by kernel_rfl) (fun _ _ _ h => h) (Or.inl ⟨by rfl, ?yr3_6⟩) (by assumption) ?nr3_6
            case yr3_6 => (intro w_ hSw; obtain ⟨y0, y1, y2⟩ := hSw; go_simp; (try with_reducible rfl))
            try simp only [Act.put, List.setIfInBounds_toArray, List.set_cons_zero, List.set_cons_succ]
            refine wpAnyH_take (i := 7) (v := ?vr3_7) (Fr.take_at rfl) (by kernel_rfl) (by kernel_rfl) (by kernel_rfl) (fun _ _ _ h => h) (Or.inl ⟨by rfl, ?yr3_7⟩) (by assumption) ?nr3_7
            case yr3_7 => (intro w_ hSw; obtain ⟨y0, y1, y2⟩ := hSw; go_simp; (try with_reducible rfl))
            try simp only [Act.put, List.setIfInBounds_toArray, List.set_cons_zero, List.set_cons_succ]
            refine wpAnyH_take (i := 8) (v := ?vr3_8) (Fr.take_at rfl) (by kernel_rfl) (by kernel_rfl) (by kernel_rfl) (fun _ _ _ h => h) (Or.inl ⟨by rfl, ?yr3_8⟩) (by assumption) ?nr3_8
            case yr3_8 => (intro w_ hSw; obtain ⟨y0, y1, y2⟩ := hSw; go_simp; (try with_reducible rfl))
            try simp only [Act.put, List.setIfInBounds_toArray, List.set_cons_zero, List.set_cons_succ]
            refine wpAnyH_take (i := 9) (v := ?vr3_9) (Fr.take_at rfl) (by kernel_rfl) (by kernel_rfl) (by kernel_rfl) (fun _ _ _ h => h) (Or.inl ⟨by rfl, ?yr3_9⟩) (by assumption) ?nr3_9
            case yr3_9 => (intro w_ hSw; obtain ⟨y0, y1, y2⟩ := hSw; go_simp; (try with_reducible rfl))
            try simp only [Act.put, List.setIfInBounds_toArray, List.set_cons_zero, List.set_cons_succ]
            refine wpAnyH_take (i := 10) (v := ?vr3_10) (Fr.take_at rfl) (by kernel_rfl) (by kernel_rfl) (by kernel_rfl) (fun _ _ _ h => h) (Or.inl ⟨by rfl, ?yr3_10⟩) (by assumption) ?nr3_10
            case yr3_10 => (intro w_ hSw; obtain ⟨y0, y1, y2⟩ := hSw; go_simp; (try with_reducible rfl))
            try simp only [Act.put, List.setIfInBounds_toArray, List.set_cons_zero, List.set_cons_succ]
            refine wpAnyH_take (i := 11) (v := ?vr3_11) (Fr.take_at rfl) (by kernel_rfl) (by kernel_rfl) (by kernel_rfl) (fun _ _ _ h => h) (Or.inl ⟨by rfl, ?yr3_11⟩) (by assumption) ?nr3_11
            case yr3_11 => (intro w_ hSw; obtain ⟨y0, y1, y2⟩ := hSw; go_simp; (try with_reducible rfl))
            try simp only [Act.put, List.setIfInBounds_toArray, List.set_cons_zero, List.set_cons_succ]
            refine wpAnyH_take (i := 12) (v := ?vr3_12) (Fr.take_at rfl) (by kernel_rfl) (by kernel_rfl) (by kernel_rfl) (fun _ _ _ h => h) (Or.inl ⟨by rfl, ?yr3_12⟩) (by assumption) ?nr3_12
            case yr3_12 => (intro w_ hSw; obtain ⟨y0, y1, y2⟩ := hSw; go_simp; (try with_reducible rfl))
            try simp only [Act.put, List.setIfInBounds_toArray, List.set_cons_zero, List.set_cons_succ]
            refine wpAnyH_take (i := 13) (v := ?vr3_13) (Fr.take_at rfl) (by kernel_rfl) (by kernel_rfl) (by kernel_rfl) (fun _ _ _ h => h) (Or.inl ⟨by rfl, ?yr3_13⟩) (by assumption) ?nr3_13
            case yr3_13 => (intro w_ hSw; obtain ⟨y0, y1, y2⟩ := hSw; go_simp; (try with_reducible rfl))
            try simp only [Act.put, List.setIfInBounds_toArray, List.set_cons_zero, List.set_cons_succ]
            refine wpAnyH_take (i := 14) (v := ?vr3_14) (Fr.take_at rfl) (by kernel_rfl) (by kernel_rfl) (by kernel_rfl) (fun _ _ _ h => h) (Or.inl ⟨by rfl, ?yr3_14⟩) (by assumption) ?nr3_14
            case yr3_14 => (intro w_ hSw; obtain ⟨y0, y1, y2⟩ := hSw; go_simp; (try with_reducible rfl))
            try simp only [Act.put, List.setIfInBounds_toArray, List.set_cons_zero, List.set_cons_succ]
            refine wpAnyH_take (i := 15) (v := ?vr3_15) (Fr.take_at rfl) (by kernel_rfl) (by kernel_rfl) (by kernel_rfl) (fun _ _ _ h => h) (Or.inl ⟨by rfl, ?yr3_15⟩) (by assumption) ?nr3_15
            case yr3_15 => (intro w_ hSw; obtain ⟨y0, y1, y2⟩ := hSw; go_simp; (try with_reducible rfl))
            try simp only [Act.put, List.setIfInBounds_toArray, List.set_cons_zero, List.set_cons_succ]
            refine wpAnyH_done (by kernel_rfl) ?_ _
            have hbl2 := bytesLess_eq x.key.toList k.toList
            have hwrap : IntKind.i64.wrap (S + IntKind.i64.wrap ((x.key.size : Int) + (x.val.size : Int))) = tot (l.take (j + 1)) := by
              rw [IntWalk.i64_in ((x.key.size : Int) + (x.val.size : Int)) (by omega), IntWalk.i64_in _ (by omega), HSS.out, tot_step HX.out]
            have HWR := Lib.hid hwrap
            clear hwrap
            cases hbl : Op.bytesLess x.key.toList k.toList with
            | true =>
              have hst : ((C : Int) + 1) = ((cntK l k (j + 1) : Nat) : Int) := by
                rw [hbl] at hbl2
                rw [cntK_step HX.out, if_pos (by simpa [En.k] using hbl2.symm), ← HCC.out]
                omega
              have HST := Lib.hid hst
              clear hst hbl2
              go_wp2
              go_roundw
              case rel => exact ⟨j + 1, by omega, by simp, by rw [HWR.out], Lib.hid (by rw [← HST.out]; exact HNB.out.set 0 _), Lib.hid ((HP.out.setN HNB.out hFlt hLlt hw0r _).below (below_drewN (Below.refl _ _) 1))⟩
              case measure => simp [intOf]; omega
            | false =>
              have hst : C = cntK l k (j + 1) := by
                rw [hbl] at hbl2
                rw [cntK_step HX.out, if_neg (by simpa [En.k] using hbl2.symm), ← HCC.out, Nat.add_zero]
              have HST := Lib.hid hst
              clear hst hbl2
              go_wp2
              go_roundw
              case rel => exact ⟨j + 1, by omega, by simp, by rw [HWR.out], Lib.hid (by rw [← HST.out, HCC.out]; exact HNB.out), Lib.hid (HP.out.below (below_drewN (Below.refl _ _) 1))⟩
              case measure => simp [intOf]; omega
          · obtain rfl : j = n1 := by omega
            have k5 : ¬ (j : Int) < (j : Int) := by omega
            have HFR := Lib.hid (from_any HP.out.p.t.rep HP.out.p.t.good k)
            obtain ⟨S, hS⟩ : ∃ S, S = tot (l.take j) := ⟨_, rfl⟩
            rw [← hS]
            have HSS := Lib.hid hS
            clear hS HP4 HN4 lb0 HPS
            go_wp2_with (go_at_call 11; refine HFR.out.mono ?_; rintro e w5 ⟨b1, b2, rfl, hx1, hx2, hx3, hx4, hx5, hb5⟩)
            obtain ⟨C, hC⟩ : ∃ C, C = cntK l k j := ⟨_, rfl⟩
            have hfd := from_drop HP.out.p.v HP.out.p.t.rep.sorted k
            have hol : olds (fromN ns k.toList) (ns.length : Int) = l.drop C := by
              rw [olds_all fun n hn => by have := (HP.out.p.v n (fromN_mem hn)).1; omega, hfd, ← HLQ.out, HP.out.p.len, hC]
            have hps5 := HP.out.below hb5
            have hfa : FrAt w5 b1 b2 (fromN ns k.toList) (ns.length : Int) := ⟨hx1, hx2, chain_post hps5.p.t.rep.chain⟩
            have hn5 := HNB.out.same (hb5.block _ HNB.out.lt)
            rw [← hC] at hn5
            have HI0 := Lib.hid (show R3 w5 N C l [] w5 from ⟨List.nil_prefix, Mod.refl _ _, hn5⟩)
            have HND := Lib.hid (show ((fromN ns k.toList).map (·.blk)).Nodup from (List.Sublist.map _ (List.dropWhile_sublist _)).nodup hps5.p.t.nodup)
            have HGD := Lib.hid (show Good (fromN ns k.toList) from fun n hn => hps5.p.t.good n (fromN_mem hn))
            have HKN : ∀ b, FrS b1 b2 (fromN ns k.toList) b → b ≠ N := fun b hb e => by
              subst e
              have hlt := HNB.out.lt
              rcases hb with rfl | rfl | ⟨m, hm, rfl⟩
              · omega
              · omega
              · exact hps5.p.t.own_not hn5 (by decide) (by decide) (.inr ⟨m, fromN_mem hm, rfl⟩)
            have KPN := Lib.hid (fun (W : World) (v : Value) (m : Nat) => show KpS (FrS b1 b2 (fromN ns k.toList)) W ((W.drewN m).setCell ⟨N, 0, none⟩ v) from fun b hb => Below.heap_setCell _ _ _ _ (HKN b hb))
            have HFA := Lib.hid hfa
            have HPS5 := Lib.hid hps5
            have HN5 := Lib.hid hn5
            have HOL := Lib.hid hol
            have HCC := Lib.hid hC
            clear hC hfd hol hps5 hfa hn5 HKN hx1 hx2
            clear hx3 hx4 hx5 hb5 lb1 nb0 nf0
            refine act_gen fun a0 ha0 => ?_
            refine (wpIn_wide (n := 5)).1 ?_
            refine wpIn_rangeFunc_ownH rfl (by omega) (gf := 20) (lb := #[.pointer (some ⟨b1, 0, none⟩), .pointer (some ⟨b2, 0, none⟩)]) (by rw [ha0]; rfl) trivial (enters_of Try.func20 (by kernel_rfl) rfl)
              (fr_stops (5 - 1) (by omega) HND.out HGD.out HFA.out) kpS_t (kpS_b (fun b hb => HFA.out.lt b hb)) (Below.refl _ _) (fun _ => rfl)
              (R3 w5 N C l) (fun c' pre _ => c' = .ret ∧ ¬ pre <+: l.drop C) R3.own (fun _ _ _ _ _ hs _ _ => hs) HI0.out
              (fun x a' W => ∃ E, Blk W E 30 #[.string x.key, .int .i64 x.seq, .bool x.del, .string x.val] ∧ a' = { tmps := (a0.tmps.setIfInBounds 82 (.agg #[.string x.key, .int .i64 x.seq, .bool x.del, .string x.val])).setIfInBounds 12 (.pointer (some ⟨E, 0, none⟩)), defers := [] })
              (fun x a' s W W' row h hg hr => by obtain ⟨E, h1, h2⟩ := h; exact ⟨E, blk_kept h1 hg fun r e => (hr r e).2, h2⟩) ?assign ?body ?done ?stop
            case assign =>
              intro l' pre x W K hI hK
              subst ha0
              dsimp only [yv]
              gi_wp2
              exact hK _ _ ((KeepsOthers.alloc _ _).from _) (fun b hS => Below.heap_alloc W _ b (Nat.lt_of_lt_of_le (HFA.out.lt b hS) hI.2.1.size)) (hI.alloc _) ⟨W.heap.size, Blk.new W _ _, rfl⟩
            case body =>
              rintro l' pre x a' W _ _ ⟨hp, hm, hNW⟩ ⟨E, hE, rfl⟩ hlen
              subst ha0
              simp only [List.setIfInBounds_toArray, List.set_cons_zero, List.set_cons_succ]
              obtain ⟨M, hM⟩ : ∃ M, M = C + pre.length := ⟨_, rfl⟩
              rw [← hM] at hNW
              have hLW := HPS5.out.l.same (hm.block _ HPS5.out.l.lt (by show LB ≠ N; omega))
              have hFW := HPS5.out.f.same (hm.block _ HPS5.out.f.lt (by show F ≠ N; omega))
              have hrow := HPS5.out.row_off HN5.out hm
              rw [← HLQ.out] at hrow
              have lb := hLW.cell 0
              have nb := hNW.cell 0
              have nf := hNW.frozen 0
              have fb := hFW.cell 0
              have ff := hFW.frozen 0
              obtain ⟨⟨e0, e1, e2, e3⟩, _⟩ := cells4 hE
              simp only [List.getElem?_toArray, List.getElem?_cons_zero] at lb nb fb
              have HM := Lib.hid hM
              have HPX := Lib.hid hp
              have HMD := Lib.hid hm
              have HNW := Lib.hid hNW
              clear hM hp hm hNW hLW hFW hE
              by_cases h1 : M < j
              · obtain ⟨y, hy⟩ : ∃ y, l[M]? = some y := ⟨l[M]'(by have := HLL.out; omega), List.getElem?_eq_getElem _⟩
                obtain ⟨g, p, rfl, hg, y0, y1, y2, y3⟩ := erd_at (rd_ownN hrow) hy
                have HY := Lib.hid hy
                have k6 : ¬ (j : Int) ≤ (M : Int) := by omega
                have k7 : (0 : Int) ≤ (M : Int) := by omega
                have k8 : (M : Int) < (j : Int) := by omega
                have k9 : decide ((j : Int) ≤ (M : Int)) = false := by simp; omega
                have k10 : decide (j ≤ M) = false := by simp; omega
                clear hy hrow
                by_cases hxy : y = x
                · have HXY := Lib.hid hxy
                  subst hxy
                  have z0 := fun (W : World) => neq_same W y
                  gi_wp2
                  refine Bl.region_round (S := fun W' => (W'.cell? ⟨LB, 0, none⟩ = some (.slice (some ⟨g, p, none⟩) j c1) ∧ W'.cell? ⟨N, 0, none⟩ = some (.int .i64 (M : Int))) ∧ (W'.cell? ⟨g, p + M * 4, none⟩ = some (.string y.key) ∧ W'.cell? ⟨g, p + M * 4 + 1, none⟩ = some (.int .i64 y.seq) ∧ W'.cell? ⟨g, p + M * 4 + 2, none⟩ = some (.bool y.del) ∧ W'.cell? ⟨g, p + M * 4 + 3, none⟩ = some (.string y.val)) ∧ (W'.cell? ⟨E, 0, none⟩ = some (.string y.key) ∧ W'.cell? ⟨E, 1, none⟩ = some (.int .i64 y.seq) ∧ W'.cell? ⟨E, 2, none⟩ = some (.bool y.del) ∧ W'.cell? ⟨E, 3, none⟩ = some (.string y.val))) (by kernel_rfl) (by kernel_rfl) (by (exact ⟨⟨lb, nb⟩, ⟨y0, y1, y2, y3⟩, e0, e1, e2, e3⟩)) (fun hHeld => ?_)
                  refine wpAnyH_take (i := 0) (v := ?vr4_0) (Fr.take_at rfl) (by kernel_rfl) (by kernel_rfl) (by kernel_rfl) (fun _ _ _ h => h) (Or.inl ⟨by rfl, ?yr4_0⟩) (by assumption) ?nr4_0
                  case yr4_0 => (intro w_ hSw; obtain ⟨⟨v0, v1⟩, ⟨v2, v3, v4, v5⟩, v6, v7, v8, v9⟩ := hSw; go_simp; (try with_reducible rfl))
                  try simp only [Act.put, List.setIfInBounds_toArray, List.set_cons_zero, List.set_cons_succ]
                  refine wpAnyH_take (i := 1) (v := ?vr4_1) (Fr.take_at rfl) (by kernel_rfl) (by kernel_rfl) (by kernel_rfl) (fun _ _ _ h => h) (Or.inl ⟨by rfl, ?yr4_1⟩) (by assumption) ?nr4_1
                  case yr4_1 => (intro w_ hSw; obtain ⟨⟨v0, v1⟩, ⟨v2, v3, v4, v5⟩, v6, v7, v8, v9⟩ := hSw; go_simp; (try with_reducible rfl))
                  try simp only [Act.put, List.setIfInBounds_toArray, List.set_cons_zero, List.set_cons_succ]
                  refine wpAnyH_take (i := 2) (v := ?vr4_2) (Fr.take_at rfl) (by kernel_rfl) (by kernel_rfl) (by kernel_rfl) (fun _ _ _ h => h) (Or.inl ⟨by rfl, ?yr4_2⟩) (by assumption) ?nr4_2
                  case yr4_2 => (intro w_ hSw; obtain ⟨⟨v0, v1⟩, ⟨v2, v3, v4, v5⟩, v6, v7, v8, v9⟩ := hSw; go_simp; (try with_reducible rfl))
                  try simp only [Act.put, List.setIfInBounds_toArray, List.set_cons_zero, List.set_cons_succ]
                  refine wpAnyH_take (i := 3) (v := ?vr4_3) (Fr.take_at rfl) (by kernel_rfl) (by kernel_rfl) (by kernel_rfl) (fun _ _ _ h => h) (Or.inl ⟨by rfl, ?yr4_3⟩) (by assumption) ?nr4_3
                  case yr4_3 => (intro w_ hSw; obtain ⟨⟨v0, v1⟩, ⟨v2, v3, v4, v5⟩, v6, v7, v8, v9⟩ := hSw; go_simp; (try with_reducible rfl))
                  try simp only [Act.put, List.setIfInBounds_toArray, List.set_cons_zero, List.set_cons_succ]
                  refine wpAnyH_take (i := 4) (v := ?vr4_4) (Fr.take_at rfl) (by kernel_rfl) (by kernel_rfl) (by kernel_rfl) (fun _ _ _ h => h) (Or.inl ⟨by rfl, ?yr4_4⟩) (by assumption) ?nr4_4
                  case yr4_4 => (intro w_ hSw; obtain ⟨⟨v0, v1⟩, ⟨v2, v3, v4, v5⟩, v6, v7, v8, v9⟩ := hSw; go_simp; (try with_reducible rfl))
                  try simp only [Act.put, List.setIfInBounds_toArray, List.set_cons_zero, List.set_cons_succ]
                  refine wpAnyH_take (i := 5) (v := ?vr4_5) (Fr.take_at rfl) (by kernel_rfl) (by kernel_rfl) (by kernel_rfl) (fun _ _ _ h => h) (Or.inl ⟨by rfl, ?yr4_5⟩) (by assumption) ?nr4_5
                  case yr4_5 => (intro w_ hSw; obtain ⟨⟨v0, v1⟩, ⟨v2, v3, v4, v5⟩, v6, v7, v8, v9⟩ := hSw; go_simp; (try with_reducible rfl))
                  try simp only [Act.put, List.setIfInBounds_toArray, List.set_cons_zero, List.set_cons_succ]
                  refine wpAnyH_take (i := 6) (v := ?vr4_6) (Fr.take_at rfl) (by kernel_rfl) (by kernel_rfl) (by kernel_rfl) (fun _ _ _ h => h) (Or.inl ⟨by rfl, ?yr4_6⟩) (by assumption) ?nr4_6
                  case yr4_6 => (intro w_ hSw; obtain ⟨⟨v0, v1⟩, ⟨v2, v3, v4, v5⟩, v6, v7, v8, v9⟩ := hSw; go_simp; (try with_reducible rfl))
                  try simp only [Act.put, List.setIfInBounds_toArray, List.set_cons_zero, List.set_cons_succ]
                  refine wpAnyH_take (i := 7) (v := ?vr4_7) (Fr.take_at rfl) (by kernel_rfl) (by kernel_rfl) (by kernel_rfl) (fun _ _ _ h => h) (Or.inl ⟨by rfl, ?yr4_7⟩) (by assumption) ?nr4_7
                  case yr4_7 => (intro w_ hSw; obtain ⟨⟨v0, v1⟩, ⟨v2, v3, v4, v5⟩, v6, v7, v8, v9⟩ := hSw; go_simp; (try with_reducible rfl))
                  try simp only [Act.put, List.setIfInBounds_toArray, List.set_cons_zero, List.set_cons_succ]
                  refine wpAnyH_take (i := 8) (v := ?vr4_8) (Fr.take_at rfl) (by kernel_rfl) (by kernel_rfl) (by kernel_rfl) (fun _ _ _ h => h) (Or.inl ⟨by rfl, ?yr4_8⟩) (by assumption) ?nr4_8
                  case yr4_8 => (intro w_ hSw; obtain ⟨⟨v0, v1⟩, ⟨v2, v3, v4, v5⟩, v6, v7, v8, v9⟩ := hSw; go_simp; (try with_reducible rfl))
                  try simp only [Act.put, List.setIfInBounds_toArray, List.set_cons_zero, List.set_cons_succ]
                  refine wpAnyH_take (i := 9) (v := ?vr4_9) (Fr.take_at rfl) (by kernel_rfl) (by kernel_rfl) (by kernel_rfl) (fun _ _ _ h => h) (Or.inl ⟨by rfl, ?yr4_9⟩) (by assumption) ?nr4_9
                  case yr4_9 => (intro w_ hSw; obtain ⟨⟨v0, v1⟩, ⟨v2, v3, v4, v5⟩, v6, v7, v8, v9⟩ := hSw; go_simp; (try with_reducible rfl))
                  try simp only [Act.put, List.setIfInBounds_toArray, List.set_cons_zero, List.set_cons_succ]
                  refine wpAnyH_take (i := 10) (v := ?vr4_10) (Fr.take_at rfl) (by kernel_rfl) (by kernel_rfl) (by kernel_rfl) (fun _ _ _ h => h) (Or.inl ⟨by rfl, ?yr4_10⟩) (by assumption) ?nr4_10
                  case yr4_10 => (intro w_ hSw; obtain ⟨⟨v0, v1⟩, ⟨v2, v3, v4, v5⟩, v6, v7, v8, v9⟩ := hSw; go_simp; (try with_reducible rfl))
                  try simp only [Act.put, List.setIfInBounds_toArray, List.set_cons_zero, List.set_cons_succ]
                  refine wpAnyH_take (i := 11) (v := ?vr4_11) (Fr.take_at rfl) (by kernel_rfl) (by kernel_rfl) (by kernel_rfl) (fun _ _ _ h => h) (Or.inl ⟨by rfl, ?yr4_11⟩) (by assumption) ?nr4_11
                  case yr4_11 => (intro w_ hSw; obtain ⟨⟨v0, v1⟩, ⟨v2, v3, v4, v5⟩, v6, v7, v8, v9⟩ := hSw; go_simp; (try with_reducible rfl))
                  try simp only [Act.put, List.setIfInBounds_toArray, List.set_cons_zero, List.set_cons_succ]
                  refine wpAnyH_done (by kernel_rfl) ?_ _
                  dsimp only [Bl.OnlyNormal]
                  clear z0 y0 y1 y2 y3 e0 e1 e2 e3
                  gi_wp2
                  exact ⟨((KeepsOthers.drew _).trans (KeepsOthers.setCell _ _ _)).from _, KPN.out _ _ _, HMD.out.step HPX.out HM.out HY.out HNW.out⟩
                · have z0 := fun (W : World) => neq_entry W y x
                  rw [show enEq y x = false by rw [← Bool.not_eq_true, enEq_iff]; exact hxy] at z0
                  have HXY := Lib.hid hxy
                  clear hxy
                  gi_wp2
                  refine Bl.region_round (S := fun W' => (W'.cell? ⟨LB, 0, none⟩ = some (.slice (some ⟨g, p, none⟩) j c1) ∧ W'.cell? ⟨N, 0, none⟩ = some (.int .i64 (M : Int))) ∧ (W'.cell? ⟨g, p + M * 4, none⟩ = some (.string y.key) ∧ W'.cell? ⟨g, p + M * 4 + 1, none⟩ = some (.int .i64 y.seq) ∧ W'.cell? ⟨g, p + M * 4 + 2, none⟩ = some (.bool y.del) ∧ W'.cell? ⟨g, p + M * 4 + 3, none⟩ = some (.string y.val)) ∧ (W'.cell? ⟨E, 0, none⟩ = some (.string x.key) ∧ W'.cell? ⟨E, 1, none⟩ = some (.int .i64 x.seq) ∧ W'.cell? ⟨E, 2, none⟩ = some (.bool x.del) ∧ W'.cell? ⟨E, 3, none⟩ = some (.string x.val))) (by kernel_rfl) (by kernel_rfl) (by (exact ⟨⟨lb, nb⟩, ⟨y0, y1, y2, y3⟩, e0, e1, e2, e3⟩)) (fun hHeld => ?_)
                  refine wpAnyH_take (i := 0) (v := ?vr5_0) (Fr.take_at rfl) (by kernel_rfl) (by kernel_rfl) (by kernel_rfl) (fun _ _ _ h => h) (Or.inl ⟨by rfl, ?yr5_0⟩) (by assumption) ?nr5_0
                  case yr5_0 => (intro w_ hSw; obtain ⟨⟨v0, v1⟩, ⟨v2, v3, v4, v5⟩, v6, v7, v8, v9⟩ := hSw; go_simp; (try with_reducible rfl))
                  try simp only [Act.put, List.setIfInBounds_toArray, List.set_cons_zero, List.set_cons_succ]
                  refine wpAnyH_take (i := 1) (v := ?vr5_1) (Fr.take_at rfl) (by kernel_rfl) (by kernel_rfl) (by kernel_rfl) (fun _ _ _ h => h) (Or.inl ⟨by rfl, ?yr5_1⟩) (by assumption) ?nr5_1
                  case yr5_1 => (intro w_ hSw; obtain ⟨⟨v0, v1⟩, ⟨v2, v3, v4, v5⟩, v6, v7, v8, v9⟩ := hSw; go_simp; (try with_reducible rfl))
                  try simp only [Act.put, List.setIfInBounds_toArray, List.set_cons_zero, List.set_cons_succ]
                  refine wpAnyH_take (i := 2) (v := ?vr5_2) (Fr.take_at rfl) (by kernel_rfl) (by kernel_rfl) (by kernel_rfl) (fun _ _ _ h => h) (Or.inl ⟨by rfl, ?yr5_2⟩) (by assumption) ?nr5_2
                  case yr5_2 => (intro w_ hSw; obtain ⟨⟨v0, v1⟩, ⟨v2, v3, v4, v5⟩, v6, v7, v8, v9⟩ := hSw; go_simp; (try with_reducible rfl))
                  try simp only [Act.put, List.setIfInBounds_toArray, List.set_cons_zero, List.set_cons_succ]
                  refine wpAnyH_take (i := 3) (v := ?vr5_3) (Fr.take_at rfl) (by kernel_rfl) (by kernel_rfl) (by kernel_rfl) (fun _ _ _ h => h) (Or.inl ⟨by rfl, ?yr5_3⟩) (by assumption) ?nr5_3
                  case yr5_3 => (intro w_ hSw; obtain ⟨⟨v0, v1⟩, ⟨v2, v3, v4, v5⟩, v6, v7, v8, v9⟩ := hSw; go_simp; (try with_reducible rfl))
                  try simp only [Act.put, List.setIfInBounds_toArray, List.set_cons_zero, List.set_cons_succ]
                  refine wpAnyH_take (i := 4) (v := ?vr5_4) (Fr.take_at rfl) (by kernel_rfl) (by kernel_rfl) (by kernel_rfl) (fun _ _ _ h => h) (Or.inl ⟨by rfl, ?yr5_4⟩) (by assumption) ?nr5_4
                  case yr5_4 => (intro w_ hSw; obtain ⟨⟨v0, v1⟩, ⟨v2, v3, v4, v5⟩, v6, v7, v8, v9⟩ := hSw; go_simp; (try with_reducible rfl))
                  try simp only [Act.put, List.setIfInBounds_toArray, List.set_cons_zero, List.set_cons_succ]
                  refine wpAnyH_take (i := 5) (v := ?vr5_5) (Fr.take_at rfl) (by kernel_rfl) (by kernel_rfl) (by kernel_rfl) (fun _ _ _ h => h) (Or.inl ⟨by rfl, ?yr5_5⟩) (by assumption) ?nr5_5
                  case yr5_5 => (intro w_ hSw; obtain ⟨⟨v0, v1⟩, ⟨v2, v3, v4, v5⟩, v6, v7, v8, v9⟩ := hSw; go_simp; (try with_reducible rfl))
                  try simp only [Act.put, List.setIfInBounds_toArray, List.set_cons_zero, List.set_cons_succ]
                  refine wpAnyH_take (i := 6) (v := ?vr5_6) (Fr.take_at rfl) (by kernel_rfl) (by kernel_rfl) (by kernel_rfl) (fun _ _ _ h => h) (Or.inl ⟨by rfl, ?yr5_6⟩) (by assumption) ?nr5_6
                  case yr5_6 => (intro w_ hSw; obtain ⟨⟨v0, v1⟩, ⟨v2, v3, v4, v5⟩, v6, v7, v8, v9⟩ := hSw; go_simp; (try with_reducible rfl))
                  try simp only [Act.put, List.setIfInBounds_toArray, List.set_cons_zero, List.set_cons_succ]
                  refine wpAnyH_take (i := 7) (v := ?vr5_7) (Fr.take_at rfl) (by kernel_rfl) (by kernel_rfl) (by kernel_rfl) (fun _ _ _ h => h) (Or.inl ⟨by rfl, ?yr5_7⟩) (by assumption) ?nr5_7
                  case yr5_7 => (intro w_ hSw; obtain ⟨⟨v0, v1⟩, ⟨v2, v3, v4, v5⟩, v6, v7, v8, v9⟩ := hSw; go_simp; (try with_reducible rfl))
                  try simp only [Act.put, List.setIfInBounds_toArray, List.set_cons_zero, List.set_cons_succ]
                  refine wpAnyH_take (i := 8) (v := ?vr5_8) (Fr.take_at rfl) (by kernel_rfl) (by kernel_rfl) (by kernel_rfl) (fun _ _ _ h => h) (Or.inl ⟨by rfl, ?yr5_8⟩) (by assumption) ?nr5_8
                  case yr5_8 => (intro w_ hSw; obtain ⟨⟨v0, v1⟩, ⟨v2, v3, v4, v5⟩, v6, v7, v8, v9⟩ := hSw; go_simp; (try with_reducible rfl))
                  try simp only [Act.put, List.setIfInBounds_toArray, List.set_cons_zero, List.set_cons_succ]
                  refine wpAnyH_take (i := 9) (v := ?vr5_9) (Fr.take_at rfl) (by kernel_rfl) (by kernel_rfl) (by kernel_rfl) (fun _ _ _ h => h) (Or.inl ⟨by rfl, ?yr5_9⟩) (by assumption) ?nr5_9
                  case yr5_9 => (intro w_ hSw; obtain ⟨⟨v0, v1⟩, ⟨v2, v3, v4, v5⟩, v6, v7, v8, v9⟩ := hSw; go_simp; (try with_reducible rfl))
                  try simp only [Act.put, List.setIfInBounds_toArray, List.set_cons_zero, List.set_cons_succ]
                  refine wpAnyH_take (i := 10) (v := ?vr5_10) (Fr.take_at rfl) (by kernel_rfl) (by kernel_rfl) (by kernel_rfl) (fun _ _ _ h => h) (Or.inl ⟨by rfl, ?yr5_10⟩) (by assumption) ?nr5_10
                  case yr5_10 => (intro w_ hSw; obtain ⟨⟨v0, v1⟩, ⟨v2, v3, v4, v5⟩, v6, v7, v8, v9⟩ := hSw; go_simp; (try with_reducible rfl))
                  try simp only [Act.put, List.setIfInBounds_toArray, List.set_cons_zero, List.set_cons_succ]
                  refine wpAnyH_take (i := 11) (v := ?vr5_11) (Fr.take_at rfl) (by kernel_rfl) (by kernel_rfl) (by kernel_rfl) (fun _ _ _ h => h) (Or.inl ⟨by rfl, ?yr5_11⟩) (by assumption) ?nr5_11
                  case yr5_11 => (intro w_ hSw; obtain ⟨⟨v0, v1⟩, ⟨v2, v3, v4, v5⟩, v6, v7, v8, v9⟩ := hSw; go_simp; (try with_reducible rfl))
                  try simp only [Act.put, List.setIfInBounds_toArray, List.set_cons_zero, List.set_cons_succ]
                  refine wpAnyH_done (by kernel_rfl) ?_ _
                  dsimp only [Bl.OnlyNormal]
                  clear z0 y0 y1 y2 y3 e0 e1 e2 e3
                  gi_wp2
                  exact ⟨((KeepsOthers.drew _).trans (KeepsOthers.setCell _ _ _)).from _, rfl, r3_miss HM.out HY.out HXY.out⟩
              · have k6 : (j : Int) ≤ (M : Int) := by omega
                have k9 : decide ((j : Int) ≤ (M : Int)) = true := by simp; omega
                have k10 : decide (j ≤ M) = true := by simp; omega
                gi_wp2
                refine Bl.region_round (S := fun W' => W'.cell? ⟨LB, 0, none⟩ = some (.slice A1 j c1) ∧ W'.cell? ⟨N, 0, none⟩ = some (.int .i64 (M : Int))) (by kernel_rfl) (by kernel_rfl) (by (exact ⟨lb, nb⟩)) (fun hHeld => ?_)
                refine wpAnyH_take (i := 0) (v := ?vr6_0) (Fr.take_at rfl) (by kernel_rfl) (by kernel_rfl) (by kernel_rfl) (fun _ _ _ h => h) (Or.inl ⟨by rfl, ?yr6_0⟩) (by assumption) ?nr6_0
                case yr6_0 => (intro w_ hSw; obtain ⟨v0, v1⟩ := hSw; go_simp; (try with_reducible rfl))
                try simp only [Act.put, List.setIfInBounds_toArray, List.set_cons_zero, List.set_cons_succ]
                refine wpAnyH_take (i := 1) (v := ?vr6_1) (Fr.take_at rfl) (by kernel_rfl) (by kernel_rfl) (by kernel_rfl) (fun _ _ _ h => h) (Or.inl ⟨by rfl, ?yr6_1⟩) (by assumption) ?nr6_1
                case yr6_1 => (intro w_ hSw; obtain ⟨v0, v1⟩ := hSw; go_simp; (try with_reducible rfl))
                try simp only [Act.put, List.setIfInBounds_toArray, List.set_cons_zero, List.set_cons_succ]
                refine wpAnyH_take (i := 2) (v := ?vr6_2) (Fr.take_at rfl) (by kernel_rfl) (by kernel_rfl) (by kernel_rfl) (fun _ _ _ h => h) (Or.inl ⟨by rfl, ?yr6_2⟩) (by assumption) ?nr6_2
                case yr6_2 => (intro w_ hSw; obtain ⟨v0, v1⟩ := hSw; go_simp; (try with_reducible rfl))
                try simp only [Act.put, List.setIfInBounds_toArray, List.set_cons_zero, List.set_cons_succ]
                refine wpAnyH_take (i := 3) (v := ?vr6_3) (Fr.take_at rfl) (by kernel_rfl) (by kernel_rfl) (by kernel_rfl) (fun _ _ _ h => h) (Or.inl ⟨by rfl, ?yr6_3⟩) (by assumption) ?nr6_3
                case yr6_3 => (intro w_ hSw; obtain ⟨v0, v1⟩ := hSw; go_simp; (try with_reducible rfl))
                try simp only [Act.put, List.setIfInBounds_toArray, List.set_cons_zero, List.set_cons_succ]
                refine wpAnyH_take (i := 4) (v := ?vr6_4) (Fr.take_at rfl) (by kernel_rfl) (by kernel_rfl) (by kernel_rfl) (fun _ _ _ h => h) (Or.inl ⟨by rfl, ?yr6_4⟩) (by assumption) ?nr6_4
                case yr6_4 => (intro w_ hSw; obtain ⟨v0, v1⟩ := hSw; go_simp; (try with_reducible rfl))
                try simp only [Act.put, List.setIfInBounds_toArray, List.set_cons_zero, List.set_cons_succ]
                refine wpAnyH_take (i := 5) (v := undef) (Fr.take_at rfl) (by kernel_rfl) (by kernel_rfl) (by kernel_rfl) (fun _ _ _ h => h) (Or.inr ⟨by rfl, rfl⟩) (by assumption) ?_
                try simp only [Act.put, List.setIfInBounds_toArray, List.set_cons_zero, List.set_cons_succ]
                refine wpAnyH_take (i := 6) (v := undef) (Fr.take_at rfl) (by kernel_rfl) (by kernel_rfl) (by kernel_rfl) (fun _ _ _ h => h) (Or.inr ⟨by rfl, rfl⟩) (by assumption) ?_
                try simp only [Act.put, List.setIfInBounds_toArray, List.set_cons_zero, List.set_cons_succ]
                refine wpAnyH_take (i := 7) (v := undef) (Fr.take_at rfl) (by kernel_rfl) (by kernel_rfl) (by kernel_rfl) (fun _ _ _ h => h) (Or.inr ⟨by rfl, rfl⟩) (by assumption) ?_
                try simp only [Act.put, List.setIfInBounds_toArray, List.set_cons_zero, List.set_cons_succ]
                refine wpAnyH_take (i := 8) (v := undef) (Fr.take_at rfl) (by kernel_rfl) (by kernel_rfl) (by kernel_rfl) (fun _ _ _ h => h) (Or.inr ⟨by rfl, rfl⟩) (by assumption) ?_
                try simp only [Act.put, List.setIfInBounds_toArray, List.set_cons_zero, List.set_cons_succ]
                refine wpAnyH_take (i := 9) (v := undef) (Fr.take_at rfl) (by kernel_rfl) (by kernel_rfl) (by kernel_rfl) (fun _ _ _ h => h) (Or.inr ⟨by rfl, rfl⟩) (by assumption) ?_
                try simp only [Act.put, List.setIfInBounds_toArray, List.set_cons_zero, List.set_cons_succ]
                refine wpAnyH_take (i := 10) (v := undef) (Fr.take_at rfl) (by kernel_rfl) (by kernel_rfl) (by kernel_rfl) (fun _ _ _ h => h) (Or.inr ⟨by rfl, rfl⟩) (by assumption) ?_
                try simp only [Act.put, List.setIfInBounds_toArray, List.set_cons_zero, List.set_cons_succ]
                refine wpAnyH_take (i := 11) (v := ?vr6_11) (Fr.take_at rfl) (by kernel_rfl) (by kernel_rfl) (by kernel_rfl) (fun _ _ _ h => h) (Or.inl ⟨by rfl, ?yr6_11⟩) (by assumption) ?nr6_11
                case yr6_11 => (intro w_ hSw; obtain ⟨v0, v1⟩ := hSw; go_simp; (try with_reducible rfl))
                try simp only [Act.put, List.setIfInBounds_toArray, List.set_cons_zero, List.set_cons_succ]
                refine wpAnyH_done (by kernel_rfl) ?_ _
                dsimp only [Bl.OnlyNormal]
                clear e0 e1 e2 e3
                gi_wp2
                exact ⟨((KeepsOthers.drew _).trans (KeepsOthers.setCell _ _ _)).from _, rfl, r3_end HM.out (by rw [HLL.out]; omega)⟩
            case done =>
              rintro D xs W hD hS ⟨hp, hm, hNW⟩ hK
              subst ha0
              obtain rfl : xs = l.drop C := by rw [← HOL.out]; exact hS
              have hCj : C + (l.drop C).length = j := by
                have := cntK_le l k j
                rw [← HCC.out] at this
                rw [List.length_drop, HLL.out]; omega
              rw [hCj] at hNW
              have hpw := HPS5.out.mod HN5.out hm hFlt hLlt hw0r
              have HPW := Lib.hid hpw
              have hK1 := fun W' (hW : Below W.heap.size W W') => (hW.block D (Array.getElem?_eq_some_iff.1 hK).1).trans hK
              have HK1 := Lib.hid hK1
              have HNW := Lib.hid hNW
              have hDF : F ≠ D := by have := HN5.out.lt; omega
              have hDw : w0.heap.size ≤ D := by have := HN5.out.lt; omega
              have lb := hpw.l.cell 0
              have nb := hNW.cell 0
              simp only [List.getElem?_toArray, List.getElem?_cons_zero] at lb nb
              have hall := fun W' (hW : Below W.heap.size W W') => all_any (HPW.out.below hW).p.t.rep (HPW.out.below hW).p.t.good HPW.out.p.v HPW.out.p.t.nodup (by have := HPW.out.p.len; omega)
              have hbyt := fun W' (hW : Below W.heap.size W W') => bytes_any (HPW.out.below hW).p.t.rep.tab
              have hrw := fun W' (hW : Below W.heap.size W W') => rd_ownN (HPW.out.below hW).p.row
              rw [HPW.out.p.len] at hall
              rw [← HLQ.out] at hall hrw
              have hSe : byt = S := by rw [HPW.out.p.bytes, HSS.out, ← HLQ.out, List.take_of_length_le (by rw [HLL.out]; exact Nat.le_refl _)]
              rw [hSe] at hbyt
              have hcell := fun W' (hW : Below W.heap.size W W') => (And.intro ((hW.cell (p := ⟨LB, 0, none⟩) HPW.out.l.lt).trans lb) ((hW.cell (p := ⟨N, 0, none⟩) HNW.out.lt).trans nb))
              have HALL := Lib.hid hall
              have HBYT := Lib.hid hbyt
              have HRW := Lib.hid hrw
              have HCELL := Lib.hid hcell
              have hLF : LB ≠ F := hFL.symm
              have hNF : N ≠ F := by omega
              have hset := fun (W' : World) (v : Value) (h : W'.cell? ⟨LB, 0, none⟩ = some (.slice A1 j c1) ∧ W'.cell? ⟨N, 0, none⟩ = some (.int .i64 (j : Int))) => show (W'.setCell ⟨F, 0, none⟩ v).cell? ⟨LB, 0, none⟩ = some (.slice A1 j c1) ∧ (W'.setCell ⟨F, 0, none⟩ v).cell? ⟨N, 0, none⟩ = some (.int .i64 (j : Int)) from ⟨(World.cell?_of_block (Below.heap_setCell _ _ _ _ hLF)).trans h.1, (World.cell?_of_block (Below.heap_setCell _ _ _ _ hNF)).trans h.2⟩
              have HSET := Lib.hid hset
              clear hall hbyt hrw hSe hK1 hcell hset hp hm hNW hpw HN5 HI0 KPN HFA HGD HND HFR
              go_upto_region 26 with fail
              refine wp_region_held_drew (S := (fun W' => W'.cell? ⟨LB, 0, none⟩ = some (.slice A1 j c1) ∧ W'.cell? ⟨N, 0, none⟩ = some (.int .i64 (j : Int)))) (by kernel_rfl) (by (first | exact ⟨lb, nb⟩ | (with_reducible assumption) | exact HSET.out _ _ (by assumption))) (fun hHeld => ?_)
              refine wpAnyH_take (i := 0) (v := ?vr7_0) (Fr.take_at rfl) (by kernel_rfl) (by kernel_rfl) (by kernel_rfl) (fun _ _ _ h => h) (Or.inl ⟨by rfl, ?yr7_0⟩) (by assumption) ?nr7_0
              case yr7_0 => (intro w_ hSw; obtain ⟨v0, v1⟩ := hSw; go_simp; (try with_reducible rfl))
              try simp only [Act.put, List.setIfInBounds_toArray, List.set_cons_zero, List.set_cons_succ]
              refine wpAnyH_take (i := 1) (v := ?vr7_1) (Fr.take_at rfl) (by kernel_rfl) (by kernel_rfl) (by kernel_rfl) (fun _ _ _ h => h) (Or.inl ⟨by rfl, ?yr7_1⟩) (by assumption) ?nr7_1
              case yr7_1 => (intro w_ hSw; obtain ⟨v0, v1⟩ := hSw; go_simp; (try with_reducible rfl))
              try simp only [Act.put, List.setIfInBounds_toArray, List.set_cons_zero, List.set_cons_succ]
              refine wpAnyH_take (i := 2) (v := ?vr7_2) (Fr.take_at rfl) (by kernel_rfl) (by kernel_rfl) (by kernel_rfl) (fun _ _ _ h => h) (Or.inl ⟨by rfl, ?yr7_2⟩) (by assumption) ?nr7_2
              case yr7_2 => (intro w_ hSw; obtain ⟨v0, v1⟩ := hSw; go_simp; (try with_reducible rfl))
              try simp only [Act.put, List.setIfInBounds_toArray, List.set_cons_zero, List.set_cons_succ]
              refine wpAnyH_take (i := 3) (v := ?vr7_3) (Fr.take_at rfl) (by kernel_rfl) (by kernel_rfl) (by kernel_rfl) (fun _ _ _ h => h) (Or.inl ⟨by rfl, ?yr7_3⟩) (by assumption) ?nr7_3
              case yr7_3 => (intro w_ hSw; obtain ⟨v0, v1⟩ := hSw; go_simp; (try with_reducible rfl))
              try simp only [Act.put, List.setIfInBounds_toArray, List.set_cons_zero, List.set_cons_succ]
              refine wpAnyH_take (i := 4) (v := ?vr7_4) (Fr.take_at rfl) (by kernel_rfl) (by kernel_rfl) (by kernel_rfl) (fun _ _ _ h => h) (Or.inl ⟨by rfl, ?yr7_4⟩) (by assumption) ?nr7_4
              case yr7_4 => (intro w_ hSw; obtain ⟨v0, v1⟩ := hSw; go_simp; (try with_reducible rfl))
              try simp only [Act.put, List.setIfInBounds_toArray, List.set_cons_zero, List.set_cons_succ]
              refine wpAnyH_take (i := 5) (v := ?vr7_5) (Fr.take_at rfl) (by kernel_rfl) (by kernel_rfl) (by kernel_rfl) (fun _ _ _ h => h) (Or.inl ⟨by rfl, ?yr7_5⟩) (by assumption) ?nr7_5
              case yr7_5 => (intro w_ hSw; obtain ⟨v0, v1⟩ := hSw; go_simp; (try with_reducible rfl))
              try simp only [Act.put, List.setIfInBounds_toArray, List.set_cons_zero, List.set_cons_succ]
              refine wpAnyH_take (i := 7) (v := ?vr7_7) (Fr.take_at rfl) (by kernel_rfl) (by kernel_rfl) (by kernel_rfl) (fun _ _ _ h => h) (Or.inl ⟨by rfl, ?yr7_7⟩) (by assumption) ?nr7_7
              case yr7_7 => (intro w_ hSw; obtain ⟨v0, v1⟩ := hSw; go_simp; (try with_reducible rfl))
              try simp only [Act.put, List.setIfInBounds_toArray, List.set_cons_zero, List.set_cons_succ]
              refine wpAnyH_ready (rs := [6]) (by kernel_rfl) (by simp) ?_
              refine AllReadyH.cons (Fr.take_at rfl) (fun K hK => ?_) AllReadyH.nil
              go_simp
              (go_at_call 13; refine (HALL.out _ (below_drewN (Below.refl _ _) 1)).mono ?_; rintro x w6 ⟨A6, c6, rfl, hr6, hb6⟩; have hb6' := below_of_drewN (Below.refl _ W) hb6; have hS6 := HCELL.out w6 hb6')
              try go_wp2_with fail
              refine hK.out _ _ (by (first | exact ⟨lb, nb⟩ | (with_reducible assumption) | exact HSET.out _ _ (by assumption))) (fun hHeld => ?_)
              clear hK K
              try simp only [Act.put, List.setIfInBounds_toArray, List.set_cons_zero, List.set_cons_succ]
              refine wpAnyH_ready (rs := [8]) (by kernel_rfl) (by simp) ?_
              refine AllReadyH.cons (Fr.take_at rfl) (fun K hK => ?_) AllReadyH.nil
              go_simp
              (go_at_call 12; refine (same_any HLL.out (by omega) (rd_ownN hr6) (HRW.out w6 hb6')).mono ?_; rintro x w7 ⟨rfl, hb7⟩; have hb7' := hb6'.trans (hb7.mono hb6'.size); have hS7 := HCELL.out w7 hb7'; have hf7 := (HPW.out.below hb7').f; have fb7 := hf7.cell 0; have ff7 := hf7.frozen 0; simp only [List.getElem?_toArray, List.getElem?_cons_zero] at fb7)
              try go_wp2_with fail
              refine hK.out _ _ (by (first | exact ⟨lb, nb⟩ | (with_reducible assumption) | exact HSET.out _ _ (by assumption))) (fun hHeld => ?_)
              clear hK K
              try simp only [Act.put, List.setIfInBounds_toArray, List.set_cons_zero, List.set_cons_succ]
              refine wpAnyH_take (i := 9) (v := ?vr7_9) (Fr.take_at rfl) (by kernel_rfl) (by kernel_rfl) (by kernel_rfl) (fun _ _ _ h => h) (Or.inl ⟨by rfl, ?yr7_9⟩) (by assumption) ?nr7_9
              case yr7_9 => (intro w_ hSw; obtain ⟨v0, v1⟩ := hSw; go_simp; (try with_reducible rfl))
              try simp only [Act.put, List.setIfInBounds_toArray, List.set_cons_zero, List.set_cons_succ]
              refine wpAnyH_take (i := 10) (v := ?vr7_10) (Fr.take_at rfl) (by kernel_rfl) (by kernel_rfl) (by kernel_rfl) (fun _ _ _ h => h) (Or.inl ⟨by rfl, ?yr7_10⟩) (by assumption) ?nr7_10
              case yr7_10 => (intro w_ hSw; obtain ⟨v0, v1⟩ := hSw; go_simp; (try with_reducible rfl))
              try simp only [Act.put, List.setIfInBounds_toArray, List.set_cons_zero, List.set_cons_succ]
              refine wpAnyH_take (i := 11) (v := ?vr7_11) (Fr.take_at rfl) (by kernel_rfl) (by kernel_rfl) (by kernel_rfl) (fun _ _ _ h => h) (Or.inl ⟨by rfl, ?yr7_11⟩) (by assumption) ?nr7_11
              case yr7_11 => (intro w_ hSw; obtain ⟨v0, v1⟩ := hSw; go_simp; (try with_reducible rfl))
              try simp only [Act.put, List.setIfInBounds_toArray, List.set_cons_zero, List.set_cons_succ]
              refine wpAnyH_take (i := 13) (v := ?vr7_13) (Fr.take_at rfl) (by kernel_rfl) (by kernel_rfl) (by kernel_rfl) (fun _ _ _ h => h) (Or.inl ⟨by rfl, ?yr7_13⟩) (by assumption) ?nr7_13
              case yr7_13 => (intro w_ hSw; obtain ⟨v0, v1⟩ := hSw; go_simp; (try with_reducible rfl))
              try simp only [Act.put, List.setIfInBounds_toArray, List.set_cons_zero, List.set_cons_succ]
              refine wpAnyH_ready (rs := [12]) (by kernel_rfl) (by simp) ?_
              refine AllReadyH.cons (Fr.take_at rfl) (fun K hK => ?_) AllReadyH.nil
              go_simp
              (go_at_call 14; refine (HBYT.out _ hb7').mono ?_; rintro x _ ⟨rfl, rfl⟩)
              try go_wp2_with fail
              refine hK.out _ _ (by (first | exact ⟨lb, nb⟩ | (with_reducible assumption) | exact HSET.out _ _ (by assumption))) (fun hHeld => ?_)
              clear hK K
              try simp only [Act.put, List.setIfInBounds_toArray, List.set_cons_zero, List.set_cons_succ]
              refine wpAnyH_take (i := 14) (v := ?vr7_14) (Fr.take_at rfl) (by kernel_rfl) (by kernel_rfl) (by kernel_rfl) (fun _ _ _ h => h) (Or.inl ⟨by rfl, ?yr7_14⟩) (by assumption) ?nr7_14
              case yr7_14 => (intro w_ hSw; obtain ⟨v0, v1⟩ := hSw; go_simp; (try with_reducible rfl))
              try simp only [Act.put, List.setIfInBounds_toArray, List.set_cons_zero, List.set_cons_succ]
              refine wpAnyH_take (i := 15) (v := ?vr7_15) (Fr.take_at rfl) (by kernel_rfl) (by kernel_rfl) (by kernel_rfl) (fun _ _ _ h => h) (Or.inl ⟨by rfl, ?yr7_15⟩) (by assumption) ?nr7_15
              case yr7_15 => (intro w_ hSw; obtain ⟨v0, v1⟩ := hSw; go_simp; (try with_reducible rfl))
              try simp only [Act.put, List.setIfInBounds_toArray, List.set_cons_zero, List.set_cons_succ]
              refine wpAnyH_ready (rs := [16]) (by kernel_rfl) (by simp) ?_
              refine AllReadyH.cons (Fr.take_at rfl) (fun K hK => ?_) AllReadyH.nil
              go_simp
              refine hK.out _ _ (by (first | exact ⟨lb, nb⟩ | (with_reducible assumption) | exact HSET.out _ _ (by assumption))) (fun hHeld => ?_)
              clear hK K
              try simp only [Act.put, List.setIfInBounds_toArray, List.set_cons_zero, List.set_cons_succ]
              refine wpAnyH_done (by kernel_rfl) ?_ _
              go_wp2
              have hf8 := hf7.set 0 (.bool true)
              have hK8 : (w7.setCell ⟨F, 0, none⟩ (.bool true)).heap[D]? = some (.deferred (some [])) := (Below.heap_setCell _ _ _ _ (by show D ≠ F; exact hDF.symm)).trans (HK1.out _ hb7')
              (try simp only [Exit.inBlock, Exit.then])
              dsimp only [OnlyRet]
              refine ⟨by simp, .inl ⟨_, _, rfl, run_takeDeferred hK8, ?_⟩⟩
              have hc5 := ((hf8.same (World.putObj_heap_other (o := .deferred none) hDF) : Blk _ F 4 _)).cell 0
              simp only [List.getElem?_toArray, List.set_cons_zero, List.setIfInBounds_toArray, List.getElem?_cons_zero] at hc5
              refine ⟨.bool true, by simp [results, Try.f3, go_sem, hc5], rfl, ?_⟩
              have hbF : Below w0.heap.size w0 (w7.setCell ⟨F, 0, none⟩ (.bool true)) := (HPW.out.p.t.bel.trans (hb7'.mono HPW.out.p.t.bel.size)).setCell (p := ⟨F, 0, none⟩) hF0 _
              exact hbF.grown (grownBy_putObj' _ D (.deferred none)) hbF.size fun k e => by cases e; exact hDw
            case stop =>
              rintro D c' pre W hD hpre ⟨rfl, hno⟩ hK
              exact absurd (HOL.out ▸ hpre) hno
      · have k1 : ¬ (i : Int) < (n : Int) := by omega
        go_upto_region 14 with fail
        obtain ⟨W4, hW4⟩ : ∃ W4, W4 = wr.alloc (.cells #[.int .i64 0] 3) := ⟨_, rfl⟩
        have hN4 : Blk W4 wr.heap.size 3 #[.int .i64 0] := by rw [hW4]; exact Blk.new _ _ _
        have hp4 : PsS w0 F LB T ns byt A1 n1 c1 W4 := by rw [hW4]; exact HP.out.below ((Below.refl _ _).alloc (Nat.le_refl _) _)
        have hFlt := HP.out.f.lt
        have hLlt := HP.out.l.lt
        have hw0r := HP.out.p.t.bel.size
        rw [← hW4]
        obtain ⟨N, hN⟩ : ∃ N, N = wr.heap.size := ⟨_, rfl⟩
        rw [← hN] at hN4 hFlt hLlt hw0r ⊢
        have HP4 := Lib.hid hp4
        have HN4 := Lib.hid hN4
        have lb0 := hp4.l.cell 0
        simp only [List.getElem?_toArray, List.getElem?_cons_zero] at lb0
        obtain ⟨l, hl2⟩ : ∃ l, l = ns.map Nd.e := ⟨_, rfl⟩
        have hll : l.length = n1 := by rw [hl2, List.length_map]; exact HP.out.p.len
        have HLL := Lib.hid hll
        have HLQ := Lib.hid hl2
        clear hW4 hN4 hp4 hN hl2 hll HP
        go_wp2
        go_loopw [7, 51] (P2I w0 F LB T ns byt A1 n1 c1 N k l) (fun _ x _ => n1 - (intOf x).toNat)
        case atStart => exact ⟨0, by omega, rfl, rfl, Lib.hid (by simpa [cntK] using HN4.out), HP4⟩
        case round =>
          obtain ⟨j, hj, rfl, rfl, HNB, HP⟩ := hrel
          have lb1 := HP.out.l.cell 0
          have nb0 := HNB.out.cell 0
          have nf0 := HNB.out.frozen 0
          simp only [List.getElem?_toArray, List.getElem?_cons_zero] at lb1 nb0
          by_cases hlt3 : j < n1
          · obtain ⟨x, hx⟩ : ∃ x, l[j]? = some x := ⟨l[j]'(by have := HLL.out; omega), List.getElem?_eq_getElem _⟩
            have hrow := HP.out.p.row
            rw [← HLQ.out] at hrow
            obtain ⟨g, p, rfl, hg, x0, x1, x2, x3⟩ := erd_at (rd_ownN hrow) hx
            obtain ⟨hz1, hz2⟩ := HP.out.size_at HLQ.out hx
            obtain ⟨hs1, hs2, hs3⟩ := HP.out.tot_at HLQ.out hx hn1 hi100
            have hcb : cntK l k j ≤ j := cntK_le _ _ _
            have HX := Lib.hid hx
            obtain ⟨S, hS⟩ : ∃ S, S = tot (l.take j) := ⟨_, rfl⟩
            obtain ⟨C, hC⟩ : ∃ C, C = cntK l k j := ⟨_, rfl⟩
            rw [← hS] at hs1 hs2 hs3 ⊢
            rw [← hC] at hcb nb0
            have HSS := Lib.hid hS
            have HCC := Lib.hid hC
            have k5 : (j : Int) < (n1 : Int) := by omega
            have k6 : (0 : Int) ≤ (j : Int) := by omega
            clear hx hrow hS hC
            go_upto_region 17 with fail
            refine wp_region_held_drew (S := (fun W => W.cell? ⟨LB, 0, none⟩ = some (.slice (some ⟨g, p, none⟩) n1 c1) ∧ W.cell? ⟨g, p + j * 4, none⟩ = some (.string x.key) ∧ W.cell? ⟨g, p + j * 4 + 3, none⟩ = some (.string x.val))) (by kernel_rfl) (by (exact ⟨lb1, x0, x3⟩)) (fun hHeld => ?_)
            refine wpAnyH_take (i := 0) (v := ?vr8_0) (Fr.take_at rfl) (by kernel_rfl) (by kernel_rfl) (by kernel_rfl) (fun _ _ _ h => h) (Or.inl ⟨by rfl, ?yr8_0⟩) (by assumption) ?nr8_0
            case yr8_0 => (intro w_ hSw; obtain ⟨y0, y1, y2⟩ := hSw; go_simp; (try with_reducible rfl))
            try simp only [Act.put, List.setIfInBounds_toArray, List.set_cons_zero, List.set_cons_succ]
            refine wpAnyH_take (i := 1) (v := ?vr8_1) (Fr.take_at rfl) (by kernel_rfl) (by kernel_rfl) (by kernel_rfl) (fun _ _ _ h => h) (Or.inl ⟨by rfl, ?yr8_1⟩) (by assumption) ?nr8_1
            case yr8_1 => (intro w_ hSw; obtain ⟨y0, y1, y2⟩ := hSw; go_simp; (try with_reducible rfl))
            try simp only [Act.put, List.setIfInBounds_toArray, List.set_cons_zero, List.set_cons_succ]
            refine wpAnyH_take (i := 2) (v := ?vr8_2) (Fr.take_at rfl) (by kernel_rfl) (by kernel_rfl) (by kernel_rfl) (fun _ _ _ h => h) (Or.inl ⟨by rfl, ?yr8_2⟩) (by assumption) ?nr8_2
            case yr8_2 => (intro w_ hSw; obtain ⟨y0, y1, y2⟩ := hSw; go_simp; (try with_reducible rfl))
            try simp only [Act.put, List.setIfInBounds_toArray, List.set_cons_zero, List.set_cons_succ]
            refine wpAnyH_take (i := 3) (v := ?vr8_3) (Fr.take_at rfl) (by kernel_rfl) (by kernel_rfl) (by kernel_rfl) (fun _ _ _ h => h) (Or.inl ⟨by rfl, ?yr8_3⟩) (by assumption) ?nr8_3
            case yr8_3 => (intro w_ hSw; obtain ⟨y0, y1, y2⟩ := hSw; go_simp; (try with_reducible rfl))
            try simp only [Act.put, List.setIfInBounds_toArray, List.set_cons_zero, List.set_cons_succ]
            refine wpAnyH_take (i := 4) (v := ?vr8_4) (Fr.take_at rfl) (by kernel_rfl) (by kernel_rfl) (by kernel_rfl) (fun _ _ _ h => h) (Or.inl ⟨by rfl, ?yr8_4⟩) (by assumption) ?nr8_4
            case yr8_4 => (intro w_ hSw; obtain ⟨y0, y1, y2⟩ := hSw; go_simp; (try with_reducible rfl))
            try simp only [Act.put, List.setIfInBounds_toArray, List.set_cons_zero, List.set_cons_succ]
            refine wpAnyH_take (i := 5) (v := ?vr8_5) (Fr.take_at rfl) (by kernel_rfl) (by kernel_rfl) (by kernel_rfl) (fun _ _ _ h => h) (Or.inl ⟨by rfl, ?yr8_5⟩) (by assumption) ?nr8_5
            case yr8_5 => (intro w_ hSw; obtain ⟨y0, y1, y2⟩ := hSw; go_simp; (try with_reducible rfl))
            try simp only [Act.put, List.setIfInBounds_toArray, List.set_cons_zero, List.set_cons_succ]
            refine wpAnyH_take (i := 6) (v := ?vr8_6) (Fr.take_at rfl) (by kernel_rfl) (by kernel_rfl) (by kernel_rfl) (fun _ _ _ h => h) (Or.inl ⟨by rfl, ?yr8_6⟩) (by assumption) ?nr8_6
            case yr8_6 => (intro w_ hSw; obtain ⟨y0, y1, y2⟩ := hSw; go_simp; (try with_reducible rfl))
            try simp only [Act.put, List.setIfInBounds_toArray, List.set_cons_zero, List.set_cons_succ]
            refine wpAnyH_take (i := 7) (v := ?vr8_7) (Fr.take_at rfl) (by kernel_rfl) (by kernel_rfl) (by kernel_rfl) (fun _ _ _ h => h) (Or.inl ⟨by rfl, ?yr8_7⟩) (by assumption) ?nr8_7
            case yr8_7 => (intro w_ hSw; obtain ⟨y0, y1, y2⟩ := hSw; go_simp; (try with_reducible rfl))
            try simp only [Act.put, List.setIfInBounds_toArray, List.set_cons_zero, List.set_cons_succ]
            refine wpAnyH_take (i := 8) (v := ?vr8_8) (Fr.take_at rfl) (by kernel_rfl) (by kernel_rfl) (by kernel_rfl) (fun _ _ _ h => h) (Or.inl ⟨by rfl, ?yr8_8⟩) (by assumption) ?nr8_8
            case yr8_8 => (intro w_ hSw; obtain ⟨y0, y1, y2⟩ := hSw; go_simp; (try with_reducible rfl))
            try simp only [Act.put, List.setIfInBounds_toArray, List.set_cons_zero, List.set_cons_succ]
            refine wpAnyH_take (i := 9) (v := ?vr8_9) (Fr.take_at rfl) (by kernel_rfl) (by kernel_rfl) (by kernel_rfl) (fun _ _ _ h => h) (Or.inl ⟨by rfl, ?yr8_9⟩) (by assumption) ?nr8_9
            case yr8_9 => (intro w_ hSw; obtain ⟨y0, y1, y2⟩ := hSw; go_simp; (try with_reducible rfl))
            try simp only [Act.put, List.setIfInBounds_toArray, List.set_cons_zero, List.set_cons_succ]
            refine wpAnyH_take (i := 10) (v := ?vr8_10) (Fr.take_at rfl) (by kernel_rfl) (by kernel_rfl) (by kernel_rfl) (fun _ _ _ h => h) (Or.inl ⟨by rfl, ?yr8_10⟩) (by assumption) ?nr8_10
            case yr8_10 => (intro w_ hSw; obtain ⟨y0, y1, y2⟩ := hSw; go_simp; (try with_reducible rfl))
            try simp only [Act.put, List.setIfInBounds_toArray, List.set_cons_zero, List.set_cons_succ]
            refine wpAnyH_take (i := 11) (v := ?vr8_11) (Fr.take_at rfl) (by kernel_rfl) (by kernel_rfl) (by kernel_rfl) (fun _ _ _ h => h) (Or.inl ⟨by rfl, ?yr8_11⟩) (by assumption) ?nr8_11
            case yr8_11 => (intro w_ hSw; obtain ⟨y0, y1, y2⟩ := hSw; go_simp; (try with_reducible rfl))
            try simp only [Act.put, List.setIfInBounds_toArray, List.set_cons_zero, List.set_cons_succ]
            refine wpAnyH_take (i := 12) (v := ?vr8_12) (Fr.take_at rfl) (by kernel_rfl) (by kernel_rfl) (by kernel_rfl) (fun _ _ _ h => h) (Or.inl ⟨by rfl, ?yr8_12⟩) (by assumption) ?nr8_12
            case yr8_12 => (intro w_ hSw; obtain ⟨y0, y1, y2⟩ := hSw; go_simp; (try with_reducible rfl))
            try simp only [Act.put, List.setIfInBounds_toArray, List.set_cons_zero, List.set_cons_succ]
            refine wpAnyH_take (i := 13) (v := ?vr8_13) (Fr.take_at rfl) (by kernel_rfl) (by kernel_rfl) (by kernel_rfl) (fun _ _ _ h => h) (Or.inl ⟨by rfl, ?yr8_13⟩) (by assumption) ?nr8_13
            case yr8_13 => (intro w_ hSw; obtain ⟨y0, y1, y2⟩ := hSw; go_simp; (try with_reducible rfl))
            try simp only [Act.put, List.setIfInBounds_toArray, List.set_cons_zero, List.set_cons_succ]
            refine wpAnyH_take (i := 14) (v := ?vr8_14) (Fr.take_at rfl) (by kernel_rfl) (by kernel_rfl) (by kernel_rfl) (fun _ _ _ h => h) (Or.inl ⟨by rfl, ?yr8_14⟩) (by assumption) ?nr8_14
            case yr8_14 => (intro w_ hSw; obtain ⟨y0, y1, y2⟩ := hSw; go_simp; (try with_reducible rfl))
            try simp only [Act.put, List.setIfInBounds_toArray, List.set_cons_zero, List.set_cons_succ]
            refine wpAnyH_take (i := 15) (v := ?vr8_15) (Fr.take_at rfl) (by kernel_rfl) (by kernel_rfl) (by kernel_rfl) (fun _ _ _ h => h) (Or.inl ⟨by rfl, ?yr8_15⟩) (by assumption) ?nr8_15
            case yr8_15 => (intro w_ hSw; obtain ⟨y0, y1, y2⟩ := hSw; go_simp; (try with_reducible rfl))
            try simp only [Act.put, List.setIfInBounds_toArray, List.set_cons_zero, List.set_cons_succ]
            refine wpAnyH_done (by kernel_rfl) ?_ _
            have hbl2 := bytesLess_eq x.key.toList k.toList
            have hwrap : IntKind.i64.wrap (S + IntKind.i64.wrap ((x.key.size : Int) + (x.val.size : Int))) = tot (l.take (j + 1)) := by
              rw [IntWalk.i64_in ((x.key.size : Int) + (x.val.size : Int)) (by omega), IntWalk.i64_in _ (by omega), HSS.out, tot_step HX.out]
            have HWR := Lib.hid hwrap
            clear hwrap
            cases hbl : Op.bytesLess x.key.toList k.toList with
            | true =>
              have hst : ((C : Int) + 1) = ((cntK l k (j + 1) : Nat) : Int) := by
                rw [hbl] at hbl2
                rw [cntK_step HX.out, if_pos (by simpa [En.k] using hbl2.symm), ← HCC.out]
                omega
              have HST := Lib.hid hst
              clear hst hbl2
              go_wp2
              go_roundw
              case rel => exact ⟨j + 1, by omega, by simp, by rw [HWR.out], Lib.hid (by rw [← HST.out]; exact HNB.out.set 0 _), Lib.hid ((HP.out.setN HNB.out hFlt hLlt hw0r _).below (below_drewN (Below.refl _ _) 1))⟩
              case measure => simp [intOf]; omega
            | false =>
              have hst : C = cntK l k (j + 1) := by
                rw [hbl] at hbl2
                rw [cntK_step HX.out, if_neg (by simpa [En.k] using hbl2.symm), ← HCC.out, Nat.add_zero]
              have HST := Lib.hid hst
              clear hst hbl2
              go_wp2
              go_roundw
              case rel => exact ⟨j + 1, by omega, by simp, by rw [HWR.out], Lib.hid (by rw [← HST.out, HCC.out]; exact HNB.out), Lib.hid (HP.out.below (below_drewN (Below.refl _ _) 1))⟩
              case measure => simp [intOf]; omega
          · obtain rfl : j = n1 := by omega
            have k5 : ¬ (j : Int) < (j : Int) := by omega
            have HFR := Lib.hid (from_any HP.out.p.t.rep HP.out.p.t.good k)
            obtain ⟨S, hS⟩ : ∃ S, S = tot (l.take j) := ⟨_, rfl⟩
            rw [← hS]
            have HSS := Lib.hid hS
            clear hS HP4 HN4 lb0 HPS
            go_wp2_with (go_at_call 11; refine HFR.out.mono ?_; rintro e w5 ⟨b1, b2, rfl, hx1, hx2, hx3, hx4, hx5, hb5⟩)
            obtain ⟨C, hC⟩ : ∃ C, C = cntK l k j := ⟨_, rfl⟩
            have hfd := from_drop HP.out.p.v HP.out.p.t.rep.sorted k
            have hol : olds (fromN ns k.toList) (ns.length : Int) = l.drop C := by
              rw [olds_all fun n hn => by have := (HP.out.p.v n (fromN_mem hn)).1; omega, hfd, ← HLQ.out, HP.out.p.len, hC]
            have hps5 := HP.out.below hb5
            have hfa : FrAt w5 b1 b2 (fromN ns k.toList) (ns.length : Int) := ⟨hx1, hx2, chain_post hps5.p.t.rep.chain⟩
            have hn5 := HNB.out.same (hb5.block _ HNB.out.lt)
            rw [← hC] at hn5
            have HI0 := Lib.hid (show R3 w5 N C l [] w5 from ⟨List.nil_prefix, Mod.refl _ _, hn5⟩)
            have HND := Lib.hid (show ((fromN ns k.toList).map (·.blk)).Nodup from (List.Sublist.map _ (List.dropWhile_sublist _)).nodup hps5.p.t.nodup)
            have HGD := Lib.hid (show Good (fromN ns k.toList) from fun n hn => hps5.p.t.good n (fromN_mem hn))
            have HKN : ∀ b, FrS b1 b2 (fromN ns k.toList) b → b ≠ N := fun b hb e => by
              subst e
              have hlt := HNB.out.lt
              rcases hb with rfl | rfl | ⟨m, hm, rfl⟩
              · omega
              · omega
              · exact hps5.p.t.own_not hn5 (by decide) (by decide) (.inr ⟨m, fromN_mem hm, rfl⟩)
            have KPN := Lib.hid (fun (W : World) (v : Value) (m : Nat) => show KpS (FrS b1 b2 (fromN ns k.toList)) W ((W.drewN m).setCell ⟨N, 0, none⟩ v) from fun b hb => Below.heap_setCell _ _ _ _ (HKN b hb))
            have HFA := Lib.hid hfa
            have HPS5 := Lib.hid hps5
            have HN5 := Lib.hid hn5
            have HOL := Lib.hid hol
            have HCC := Lib.hid hC
            clear hC hfd hol hps5 hfa hn5 HKN hx1 hx2
            clear hx3 hx4 hx5 hb5 lb1 nb0 nf0
            refine act_gen fun a0 ha0 => ?_
            refine (wpIn_wide (n := 5)).1 ?_
            refine wpIn_rangeFunc_ownH rfl (by omega) (gf := 20) (lb := #[.pointer (some ⟨b1, 0, none⟩), .pointer (some ⟨b2, 0, none⟩)]) (by rw [ha0]; rfl) trivial (enters_of Try.func20 (by kernel_rfl) rfl)
              (fr_stops (5 - 1) (by omega) HND.out HGD.out HFA.out) kpS_t (kpS_b (fun b hb => HFA.out.lt b hb)) (Below.refl _ _) (fun _ => rfl)
              (R3 w5 N C l) (fun c' pre _ => c' = .ret ∧ ¬ pre <+: l.drop C) R3.own (fun _ _ _ _ _ hs _ _ => hs) HI0.out
              (fun x a' W => ∃ E, Blk W E 30 #[.string x.key, .int .i64 x.seq, .bool x.del, .string x.val] ∧ a' = { tmps := (a0.tmps.setIfInBounds 82 (.agg #[.string x.key, .int .i64 x.seq, .bool x.del, .string x.val])).setIfInBounds 12 (.pointer (some ⟨E, 0, none⟩)), defers := [] })
              (fun x a' s W W' row h hg hr => by obtain ⟨E, h1, h2⟩ := h; exact ⟨E, blk_kept h1 hg fun r e => (hr r e).2, h2⟩) ?assign ?body ?done ?stop
            case assign =>
              intro l' pre x W K hI hK
              subst ha0
              dsimp only [yv]
              gi_wp2
              exact hK _ _ ((KeepsOthers.alloc _ _).from _) (fun b hS => Below.heap_alloc W _ b (Nat.lt_of_lt_of_le (HFA.out.lt b hS) hI.2.1.size)) (hI.alloc _) ⟨W.heap.size, Blk.new W _ _, rfl⟩
            case body =>
              rintro l' pre x a' W _ _ ⟨hp, hm, hNW⟩ ⟨E, hE, rfl⟩ hlen
              subst ha0
              simp only [List.setIfInBounds_toArray, List.set_cons_zero, List.set_cons_succ]
              obtain ⟨M, hM⟩ : ∃ M, M = C + pre.length := ⟨_, rfl⟩
              rw [← hM] at hNW
              have hLW := HPS5.out.l.same (hm.block _ HPS5.out.l.lt (by show LB ≠ N; omega))
              have hFW := HPS5.out.f.same (hm.block _ HPS5.out.f.lt (by show F ≠ N; omega))
              have hrow := HPS5.out.row_off HN5.out hm
              rw [← HLQ.out] at hrow
              have lb := hLW.cell 0
              have nb := hNW.cell 0
              have nf := hNW.frozen 0
              have fb := hFW.cell 0
              have ff := hFW.frozen 0
              obtain ⟨⟨e0, e1, e2, e3⟩, _⟩ := cells4 hE
              simp only [List.getElem?_toArray, List.getElem?_cons_zero] at lb nb fb
              have HM := Lib.hid hM
              have HPX := Lib.hid hp
              have HMD := Lib.hid hm
              have HNW := Lib.hid hNW
              clear hM hp hm hNW hLW hFW hE
              by_cases h1 : M < j
              · obtain ⟨y, hy⟩ : ∃ y, l[M]? = some y := ⟨l[M]'(by have := HLL.out; omega), List.getElem?_eq_getElem _⟩
                obtain ⟨g, p, rfl, hg, y0, y1, y2, y3⟩ := erd_at (rd_ownN hrow) hy
                have HY := Lib.hid hy
                have k6 : ¬ (j : Int) ≤ (M : Int) := by omega
                have k7 : (0 : Int) ≤ (M : Int) := by omega
                have k8 : (M : Int) < (j : Int) := by omega
                have k9 : decide ((j : Int) ≤ (M : Int)) = false := by simp; omega
                have k10 : decide (j ≤ M) = false := by simp; omega
                clear hy hrow
                by_cases hxy : y = x
                · have HXY := Lib.hid hxy
                  subst hxy
                  have z0 := fun (W : World) => neq_same W y
                  gi_wp2
                  refine Bl.region_round (S := fun W' => (W'.cell? ⟨LB, 0, none⟩ = some (.slice (some ⟨g, p, none⟩) j c1) ∧ W'.cell? ⟨N, 0, none⟩ = some (.int .i64 (M : Int))) ∧ (W'.cell? ⟨g, p + M * 4, none⟩ = some (.string y.key) ∧ W'.cell? ⟨g, p + M * 4 + 1, none⟩ = some (.int .i64 y.seq) ∧ W'.cell? ⟨g, p + M * 4 + 2, none⟩ = some (.bool y.del) ∧ W'.cell? ⟨g, p + M * 4 + 3, none⟩ = some (.string y.val)) ∧ (W'.cell? ⟨E, 0, none⟩ = some (.string y.key) ∧ W'.cell? ⟨E, 1, none⟩ = some (.int .i64 y.seq) ∧ W'.cell? ⟨E, 2, none⟩ = some (.bool y.del) ∧ W'.cell? ⟨E, 3, none⟩ = some (.string y.val))) (by kernel_rfl) (by kernel_rfl) (by (exact ⟨⟨lb, nb⟩, ⟨y0, y1, y2, y3⟩, e0, e1, e2, e3⟩)) (fun hHeld => ?_)
                  refine wpAnyH_take (i := 0) (v := ?vr9_0) (Fr.take_at rfl) (by kernel_rfl) (by kernel_rfl) (by kernel_rfl) (fun _ _ _ h => h) (Or.inl ⟨by rfl, ?yr9_0⟩) (by assumption) ?nr9_0
                  case yr9_0 => (intro w_ hSw; obtain ⟨⟨v0, v1⟩, ⟨v2, v3, v4, v5⟩, v6, v7, v8, v9⟩ := hSw; go_simp; (try with_reducible rfl))
                  try simp only [Act.put, List.setIfInBounds_toArray, List.set_cons_zero, List.set_cons_succ]
                  refine wpAnyH_take (i := 1) (v := ?vr9_1) (Fr.take_at rfl) (by kernel_rfl) (by kernel_rfl) (by kernel_rfl) (fun _ _ _ h => h) (Or.inl ⟨by rfl, ?yr9_1⟩) (by assumption) ?nr9_1
                  case yr9_1 => (intro w_ hSw; obtain ⟨⟨v0, v1⟩, ⟨v2, v3, v4, v5⟩, v6, v7, v8, v9⟩ := hSw; go_simp; (try with_reducible rfl))
                  try simp only [Act.put, List.setIfInBounds_toArray, List.set_cons_zero, List.set_cons_succ]
                  refine wpAnyH_take (i := 2) (v := ?vr9_2) (Fr.take_at rfl) (by kernel_rfl) (by kernel_rfl) (by kernel_rfl) (fun _ _ _ h => h) (Or.inl ⟨by rfl, ?yr9_2⟩) (by assumption) ?nr9_2
                  case yr9_2 => (intro w_ hSw; obtain ⟨⟨v0, v1⟩, ⟨v2, v3, v4, v5⟩, v6, v7, v8, v9⟩ := hSw; go_simp; (try with_reducible rfl))
                  try simp only [Act.put, List.setIfInBounds_toArray, List.set_cons_zero, List.set_cons_succ]
                  refine wpAnyH_take (i := 3) (v := ?vr9_3) (Fr.take_at rfl) (by kernel_rfl) (by kernel_rfl) (by kernel_rfl) (fun _ _ _ h => h) (Or.inl ⟨by rfl, ?yr9_3⟩) (by assumption) ?nr9_3
                  case yr9_3 => (intro w_ hSw; obtain ⟨⟨v0, v1⟩, ⟨v2, v3, v4, v5⟩, v6, v7, v8, v9⟩ := hSw; go_simp; (try with_reducible rfl))
                  try simp only [Act.put, List.setIfInBounds_toArray, List.set_cons_zero, List.set_cons_succ]
                  refine wpAnyH_take (i := 4) (v := ?vr9_4) (Fr.take_at rfl) (by kernel_rfl) (by kernel_rfl) (by kernel_rfl) (fun _ _ _ h => h) (Or.inl ⟨by rfl, ?yr9_4⟩) (by assumption) ?nr9_4
                  case yr9_4 => (intro w_ hSw; obtain ⟨⟨v0, v1⟩, ⟨v2, v3, v4, v5⟩, v6, v7, v8, v9⟩ := hSw; go_simp; (try with_reducible rfl))
                  try simp only [Act.put, List.setIfInBounds_toArray, List.set_cons_zero, List.set_cons_succ]
                  refine wpAnyH_take (i := 5) (v := ?vr9_5) (Fr.take_at rfl) (by kernel_rfl) (by kernel_rfl) (by kernel_rfl) (fun _ _ _ h => h) (Or.inl ⟨by rfl, ?yr9_5⟩) (by assumption) ?nr9_5
                  case yr9_5 => (intro w_ hSw; obtain ⟨⟨v0, v1⟩, ⟨v2, v3, v4, v5⟩, v6, v7, v8, v9⟩ := hSw; go_simp; (try with_reducible rfl))
                  try simp only [Act.put, List.setIfInBounds_toArray, List.set_cons_zero, List.set_cons_succ]
                  refine wpAnyH_take (i := 6) (v := ?vr9_6) (Fr.take_at rfl) (by kernel_rfl) (by kernel_rfl) (by kernel_rfl) (fun _ _ _ h => h) (Or.inl ⟨by rfl, ?yr9_6⟩) (by assumption) ?nr9_6
                  case yr9_6 => (intro w_ hSw; obtain ⟨⟨v0, v1⟩, ⟨v2, v3, v4, v5⟩, v6, v7, v8, v9⟩ := hSw; go_simp; (try with_reducible rfl))
                  try simp only [Act.put, List.setIfInBounds_toArray, List.set_cons_zero, List.set_cons_succ]
                  refine wpAnyH_take (i := 7) (v := ?vr9_7) (Fr.take_at rfl) (by kernel_rfl) (by kernel_rfl) (by kernel_rfl) (fun _ _ _ h => h) (Or.inl ⟨by rfl, ?yr9_7⟩) (by assumption) ?nr9_7
                  case yr9_7 => (intro w_ hSw; obtain ⟨⟨v0, v1⟩, ⟨v2, v3, v4, v5⟩, v6, v7, v8, v9⟩ := hSw; go_simp; (try with_reducible rfl))
                  try simp only [Act.put, List.setIfInBounds_toArray, List.set_cons_zero, List.set_cons_succ]
                  refine wpAnyH_take (i := 8) (v := ?vr9_8) (Fr.take_at rfl) (by kernel_rfl) (by kernel_rfl) (by kernel_rfl) (fun _ _ _ h => h) (Or.inl ⟨by rfl, ?yr9_8⟩) (by assumption) ?nr9_8
                  case yr9_8 => (intro w_ hSw; obtain ⟨⟨v0, v1⟩, ⟨v2, v3, v4, v5⟩, v6, v7, v8, v9⟩ := hSw; go_simp; (try with_reducible rfl))
                  try simp only [Act.put, List.setIfInBounds_toArray, List.set_cons_zero, List.set_cons_succ]
                  refine wpAnyH_take (i := 9) (v := ?vr9_9) (Fr.take_at rfl) (by kernel_rfl) (by kernel_rfl) (by kernel_rfl) (fun _ _ _ h => h) (Or.inl ⟨by rfl, ?yr9_9⟩) (by assumption) ?nr9_9
                  case yr9_9 => (intro w_ hSw; obtain ⟨⟨v0, v1⟩, ⟨v2, v3, v4, v5⟩, v6, v7, v8, v9⟩ := hSw; go_simp; (try with_reducible rfl))
                  try simp only [Act.put, List.setIfInBounds_toArray, List.set_cons_zero, List.set_cons_succ]
                  refine wpAnyH_take (i := 10) (v := ?vr9_10) (Fr.take_at rfl) (by kernel_rfl) (by kernel_rfl) (by kernel_rfl) (fun _ _ _ h => h) (Or.inl ⟨by rfl, ?yr9_10⟩) (by assumption) ?nr9_10
                  case yr9_10 => (intro w_ hSw; obtain ⟨⟨v0, v1⟩, ⟨v2, v3, v4, v5⟩, v6, v7, v8, v9⟩ := hSw; go_simp; (try with_reducible rfl))
                  try simp only [Act.put, List.setIfInBounds_toArray, List.set_cons_zero, List.set_cons_succ]
                  refine wpAnyH_take (i := 11) (v := ?vr9_11) (Fr.take_at rfl) (by kernel_rfl) (by kernel_rfl) (by kernel_rfl) (fun _ _ _ h => h) (Or.inl ⟨by rfl, ?yr9_11⟩) (by assumption) ?nr9_11
                  case yr9_11 => (intro w_ hSw; obtain ⟨⟨v0, v1⟩, ⟨v2, v3, v4, v5⟩, v6, v7, v8, v9⟩ := hSw; go_simp; (try with_reducible rfl))
                  try simp only [Act.put, List.setIfInBounds_toArray, List.set_cons_zero, List.set_cons_succ]
                  refine wpAnyH_done (by kernel_rfl) ?_ _
                  dsimp only [Bl.OnlyNormal]
                  clear z0 y0 y1 y2 y3 e0 e1 e2 e3
                  gi_wp2
                  exact ⟨((KeepsOthers.drew _).trans (KeepsOthers.setCell _ _ _)).from _, KPN.out _ _ _, HMD.out.step HPX.out HM.out HY.out HNW.out⟩
                · have z0 := fun (W : World) => neq_entry W y x
                  rw [show enEq y x = false by rw [← Bool.not_eq_true, enEq_iff]; exact hxy] at z0
                  have HXY := Lib.hid hxy
                  clear hxy
                  gi_wp2
                  refine Bl.region_round (S := fun W' => (W'.cell? ⟨LB, 0, none⟩ = some (.slice (some ⟨g, p, none⟩) j c1) ∧ W'.cell? ⟨N, 0, none⟩ = some (.int .i64 (M : Int))) ∧ (W'.cell? ⟨g, p + M * 4, none⟩ = some (.string y.key) ∧ W'.cell? ⟨g, p + M * 4 + 1, none⟩ = some (.int .i64 y.seq) ∧ W'.cell? ⟨g, p + M * 4 + 2, none⟩ = some (.bool y.del) ∧ W'.cell? ⟨g, p + M * 4 + 3, none⟩ = some (.string y.val)) ∧ (W'.cell? ⟨E, 0, none⟩ = some (.string x.key) ∧ W'.cell? ⟨E, 1, none⟩ = some (.int .i64 x.seq) ∧ W'.cell? ⟨E, 2, none⟩ = some (.bool x.del) ∧ W'.cell? ⟨E, 3, none⟩ = some (.string x.val))) (by kernel_rfl) (by kernel_rfl) (by (exact ⟨⟨lb, nb⟩, ⟨y0, y1, y2, y3⟩, e0, e1, e2, e3⟩)) (fun hHeld => ?_)
                  refine wpAnyH_take (i := 0) (v := ?vr10_0) (Fr.take_at rfl) (by kernel_rfl) (by kernel_rfl) (by kernel_rfl) (fun _ _ _ h => h) (Or.inl ⟨by rfl, ?yr10_0⟩) (by assumption) ?nr10_0
                  case yr10_0 => (intro w_ hSw; obtain ⟨⟨v0, v1⟩, ⟨v2, v3, v4, v5⟩, v6, v7, v8, v9⟩ := hSw; go_simp; (try with_reducible rfl))
                  try simp only [Act.put, List.setIfInBounds_toArray, List.set_cons_zero, List.set_cons_succ]
                  refine wpAnyH_take (i := 1) (v := ?vr10_1) (Fr.take_at rfl) (by kernel_rfl) (by kernel_rfl) (by kernel_rfl) (fun _ _ _ h => h) (Or.inl ⟨by rfl, ?yr10_1⟩) (by assumption) ?nr10_1
                  case yr10_1 => (intro w_ hSw; obtain ⟨⟨v0, v1⟩, ⟨v2, v3, v4, v5⟩, v6, v7, v8, v9⟩ := hSw; go_simp; (try with_reducible rfl))
                  try simp only [Act.put, List.setIfInBounds_toArray, List.set_cons_zero, List.set_cons_succ]
                  refine wpAnyH_take (i := 2) (v := ?vr10_2) (Fr.take_at rfl) (by kernel_rfl) (by kernel_rfl) (by kernel_rfl) (fun _ _ _ h => h) (Or.inl ⟨by rfl, ?yr10_2⟩) (by assumption) ?nr10_2
                  case yr10_2 => (intro w_ hSw; obtain ⟨⟨v0, v1⟩, ⟨v2, v3, v4, v5⟩, v6, v7, v8, v9⟩ := hSw; go_simp; (try with_reducible rfl))
                  try simp only [Act.put, List.setIfInBounds_toArray, List.set_cons_zero, List.set_cons_succ]
                  refine wpAnyH_take (i := 3) (v := ?vr10_3) (Fr.take_at rfl) (by kernel_rfl) (by kernel_rfl) (by kernel_rfl) (fun _ _ _ h => h) (Or.inl ⟨by rfl, ?yr10_3⟩) (by assumption) ?nr10_3
                  case yr10_3 => (intro w_ hSw; obtain ⟨⟨v0, v1⟩, ⟨v2, v3, v4, v5⟩, v6, v7, v8, v9⟩ := hSw; go_simp; (try with_reducible rfl))
                  try simp only [Act.put, List.setIfInBounds_toArray, List.set_cons_zero, List.set_cons_succ]
                  refine wpAnyH_take (i := 4) (v := ?vr10_4) (Fr.take_at rfl) (by kernel_rfl) (by kernel_rfl) (by kernel_rfl) (fun _ _ _ h => h) (Or.inl ⟨by rfl, ?yr10_4⟩) (by assumption) ?nr10_4
                  case yr10_4 => (intro w_ hSw; obtain ⟨⟨v0, v1⟩, ⟨v2, v3, v4, v5⟩, v6, v7, v8, v9⟩ := hSw; go_simp; (try with_reducible rfl))
                  try simp only [Act.put, List.setIfInBounds_toArray, List.set_cons_zero, List.set_cons_succ]
                  refine wpAnyH_take (i := 5) (v := ?vr10_5) (Fr.take_at rfl) (by kernel_rfl) (by kernel_rfl) (by kernel_rfl) (fun _ _ _ h => h) (Or.inl ⟨by rfl, ?yr10_5⟩) (by assumption) ?nr10_5
                  case yr10_5 => (intro w_ hSw; obtain ⟨⟨v0, v1⟩, ⟨v2, v3, v4, v5⟩, v6, v7, v8, v9⟩ := hSw; go_simp; (try with_reducible rfl))
                  try simp only [Act.put, List.setIfInBounds_toArray, List.set_cons_zero, List.set_cons_succ]
                  refine wpAnyH_take (i := 6) (v := ?vr10_6) (Fr.take_at rfl) (by kernel_rfl) (by kernel_rfl) (by kernel_rfl) (fun _ _ _ h => h) (Or.inl ⟨by rfl, ?yr10_6⟩) (by assumption) ?nr10_6
                  case yr10_6 => (intro w_ hSw; obtain ⟨⟨v0, v1⟩, ⟨v2, v3, v4, v5⟩, v6, v7, v8, v9⟩ := hSw; go_simp; (try with_reducible rfl))
                  try simp only [Act.put, List.setIfInBounds_toArray, List.set_cons_zero, List.set_cons_succ]
                  refine wpAnyH_take (i := 7) (v := ?vr10_7) (Fr.take_at rfl) (by kernel_rfl) (by kernel_rfl) (by kernel_rfl) (fun _ _ _ h => h) (Or.inl ⟨by rfl, ?yr10_7⟩) (by assumption) ?nr10_7
                  case yr10_7 => (intro w_ hSw; obtain ⟨⟨v0, v1⟩, ⟨v2, v3, v4, v5⟩, v6, v7, v8, v9⟩ := hSw; go_simp; (try with_reducible rfl))
                  try simp only [Act.put, List.setIfInBounds_toArray, List.set_cons_zero, List.set_cons_succ]
                  refine wpAnyH_take (i := 8) (v := ?vr10_8) (Fr.take_at rfl) (by kernel_rfl) (by kernel_rfl) (by kernel_rfl) (fun _ _ _ h => h) (Or.inl ⟨by rfl, ?yr10_8⟩) (by assumption) ?nr10_8
                  case yr10_8 => (intro w_ hSw; obtain ⟨⟨v0, v1⟩, ⟨v2, v3, v4, v5⟩, v6, v7, v8, v9⟩ := hSw; go_simp; (try with_reducible rfl))
                  try simp only [Act.put, List.setIfInBounds_toArray, List.set_cons_zero, List.set_cons_succ]
                  refine wpAnyH_take (i := 9) (v := ?vr10_9) (Fr.take_at rfl) (by kernel_rfl) (by kernel_rfl) (by kernel_rfl) (fun _ _ _ h => h) (Or.inl ⟨by rfl, ?yr10_9⟩) (by assumption) ?nr10_9
                  case yr10_9 => (intro w_ hSw; obtain ⟨⟨v0, v1⟩, ⟨v2, v3, v4, v5⟩, v6, v7, v8, v9⟩ := hSw; go_simp; (try with_reducible rfl))
                  try simp only [Act.put, List.setIfInBounds_toArray, List.set_cons_zero, List.set_cons_succ]
                  refine wpAnyH_take (i := 10) (v := ?vr10_10) (Fr.take_at rfl) (by kernel_rfl) (by kernel_rfl) (by kernel_rfl) (fun _ _ _ h => h) (Or.inl ⟨by rfl, ?yr10_10⟩) (by assumption) ?nr10_10
                  case yr10_10 => (intro w_ hSw; obtain ⟨⟨v0, v1⟩, ⟨v2, v3, v4, v5⟩, v6, v7, v8, v9⟩ := hSw; go_simp; (try with_reducible rfl))
                  try simp only [Act.put, List.setIfInBounds_toArray, List.set_cons_zero, List.set_cons_succ]
                  refine wpAnyH_take (i := 11) (v := ?vr10_11) (Fr.take_at rfl) (by kernel_rfl) (by kernel_rfl) (by kernel_rfl) (fun _ _ _ h => h) (Or.inl ⟨by rfl, ?yr10_11⟩) (by assumption) ?nr10_11
                  case yr10_11 => (intro w_ hSw; obtain ⟨⟨v0, v1⟩, ⟨v2, v3, v4, v5⟩, v6, v7, v8, v9⟩ := hSw; go_simp; (try with_reducible rfl))
                  try simp only [Act.put, List.setIfInBounds_toArray, List.set_cons_zero, List.set_cons_succ]
                  refine wpAnyH_done (by kernel_rfl) ?_ _
                  dsimp only [Bl.OnlyNormal]
                  clear z0 y0 y1 y2 y3 e0 e1 e2 e3
                  gi_wp2
                  exact ⟨((KeepsOthers.drew _).trans (KeepsOthers.setCell _ _ _)).from _, rfl, r3_miss HM.out HY.out HXY.out⟩
              · have k6 : (j : Int) ≤ (M : Int) := by omega
                have k9 : decide ((j : Int) ≤ (M : Int)) = true := by simp; omega
                have k10 : decide (j ≤ M) = true := by simp; omega
                gi_wp2
                refine Bl.region_round (S := fun W' => W'.cell? ⟨LB, 0, none⟩ = some (.slice A1 j c1) ∧ W'.cell? ⟨N, 0, none⟩ = some (.int .i64 (M : Int))) (by kernel_rfl) (by kernel_rfl) (by (exact ⟨lb, nb⟩)) (fun hHeld => ?_)
                refine wpAnyH_take (i := 0) (v := ?vr11_0) (Fr.take_at rfl) (by kernel_rfl) (by kernel_rfl) (by kernel_rfl) (fun _ _ _ h => h) (Or.inl ⟨by rfl, ?yr11_0⟩) (by assumption) ?nr11_0
                case yr11_0 => (intro w_ hSw; obtain ⟨v0, v1⟩ := hSw; go_simp; (try with_reducible rfl))
                try simp only [Act.put, List.setIfInBounds_toArray, List.set_cons_zero, List.set_cons_succ]
                refine wpAnyH_take (i := 1) (v := ?vr11_1) (Fr.take_at rfl) (by kernel_rfl) (by kernel_rfl) (by kernel_rfl) (fun _ _ _ h => h) (Or.inl ⟨by rfl, ?yr11_1⟩) (by assumption) ?nr11_1
                case yr11_1 => (intro w_ hSw; obtain ⟨v0, v1⟩ := hSw; go_simp; (try with_reducible rfl))
                try simp only [Act.put, List.setIfInBounds_toArray, List.set_cons_zero, List.set_cons_succ]
                refine wpAnyH_take (i := 2) (v := ?vr11_2) (Fr.take_at rfl) (by kernel_rfl) (by kernel_rfl) (by kernel_rfl) (fun _ _ _ h => h) (Or.inl ⟨by rfl, ?yr11_2⟩) (by assumption) ?nr11_2
                case yr11_2 => (intro w_ hSw; obtain ⟨v0, v1⟩ := hSw; go_simp; (try with_reducible rfl))
                try simp only [Act.put, List.setIfInBounds_toArray, List.set_cons_zero, List.set_cons_succ]
                refine wpAnyH_take (i := 3) (v := ?vr11_3) (Fr.take_at rfl) (by kernel_rfl) (by kernel_rfl) (by kernel_rfl) (fun _ _ _ h => h) (Or.inl ⟨by rfl, ?yr11_3⟩) (by assumption) ?nr11_3
                case yr11_3 => (intro w_ hSw; obtain ⟨v0, v1⟩ := hSw; go_simp; (try with_reducible rfl))
                try simp only [Act.put, List.setIfInBounds_toArray, List.set_cons_zero, List.set_cons_succ]
                refine wpAnyH_take (i := 4) (v := ?vr11_4) (Fr.take_at rfl) (by kernel_rfl) (by kernel_rfl) (by kernel_rfl) (fun _ _ _ h => h) (Or.inl ⟨by rfl, ?yr11_4⟩) (by assumption) ?nr11_4
                case yr11_4 => (intro w_ hSw; obtain ⟨v0, v1⟩ := hSw; go_simp; (try with_reducible rfl))
                try simp only [Act.put, List.setIfInBounds_toArray, List.set_cons_zero, List.set_cons_succ]
                refine wpAnyH_take (i := 5) (v := undef) (Fr.take_at rfl) (by kernel_rfl) (by kernel_rfl) (by kernel_rfl) (fun _ _ _ h => h) (Or.inr ⟨by rfl, rfl⟩) (by assumption) ?_
                try simp only [Act.put, List.setIfInBounds_toArray, List.set_cons_zero, List.set_cons_succ]
                refine wpAnyH_take (i := 6) (v := undef) (Fr.take_at rfl) (by kernel_rfl) (by kernel_rfl) (by kernel_rfl) (fun _ _ _ h => h) (Or.inr ⟨by rfl, rfl⟩) (by assumption) ?_
                try simp only [Act.put, List.setIfInBounds_toArray, List.set_cons_zero, List.set_cons_succ]
                refine wpAnyH_take (i := 7) (v := undef) (Fr.take_at rfl) (by kernel_rfl) (by kernel_rfl) (by kernel_rfl) (fun _ _ _ h => h) (Or.inr ⟨by rfl, rfl⟩) (by assumption) ?_
                try simp only [Act.put, List.setIfInBounds_toArray, List.set_cons_zero, List.set_cons_succ]
                refine wpAnyH_take (i := 8) (v := undef) (Fr.take_at rfl) (by kernel_rfl) (by kernel_rfl) (by kernel_rfl) (fun _ _ _ h => h) (Or.inr ⟨by rfl, rfl⟩) (by assumption) ?_
                try simp only [Act.put, List.setIfInBounds_toArray, List.set_cons_zero, List.set_cons_succ]
                refine wpAnyH_take (i := 9) (v := undef) (Fr.take_at rfl) (by kernel_rfl) (by kernel_rfl) (by kernel_rfl) (fun _ _ _ h => h) (Or.inr ⟨by rfl, rfl⟩) (by assumption) ?_
                try simp only [Act.put, List.setIfInBounds_toArray, List.set_cons_zero, List.set_cons_succ]
                refine wpAnyH_take (i := 10) (v := undef) (Fr.take_at rfl) (by kernel_rfl) (by kernel_rfl) (by kernel_rfl) (fun _ _ _ h => h) (Or.inr ⟨by rfl, rfl⟩) (by assumption) ?_
                try simp only [Act.put, List.setIfInBounds_toArray, List.set_cons_zero, List.set_cons_succ]
                refine wpAnyH_take (i := 11) (v := ?vr11_11) (Fr.take_at rfl) (by kernel_rfl) (by kernel_rfl) (by kernel_rfl) (fun _ _ _ h => h) (Or.inl ⟨by rfl, ?yr11_11⟩) (by assumption) ?nr11_11
                case yr11_11 => (intro w_ hSw; obtain ⟨v0, v1⟩ := hSw; go_simp; (try with_reducible rfl))
                try simp only [Act.put, List.setIfInBounds_toArray, List.set_cons_zero, List.set_cons_succ]
                refine wpAnyH_done (by kernel_rfl) ?_ _
                dsimp only [Bl.OnlyNormal]
                clear e0 e1 e2 e3
                gi_wp2
                exact ⟨((KeepsOthers.drew _).trans (KeepsOthers.setCell _ _ _)).from _, rfl, r3_end HM.out (by rw [HLL.out]; omega)⟩
            case done =>
              rintro D xs W hD hS ⟨hp, hm, hNW⟩ hK
              subst ha0
              obtain rfl : xs = l.drop C := by rw [← HOL.out]; exact hS
              have hCj : C + (l.drop C).length = j := by
                have := cntK_le l k j
                rw [← HCC.out] at this
                rw [List.length_drop, HLL.out]; omega
              rw [hCj] at hNW
              have hpw := HPS5.out.mod HN5.out hm hFlt hLlt hw0r
              have HPW := Lib.hid hpw
              have hK1 := fun W' (hW : Below W.heap.size W W') => (hW.block D (Array.getElem?_eq_some_iff.1 hK).1).trans hK
              have HK1 := Lib.hid hK1
              have HNW := Lib.hid hNW
              have hDF : F ≠ D := by have := HN5.out.lt; omega
              have hDw : w0.heap.size ≤ D := by have := HN5.out.lt; omega
              have lb := hpw.l.cell 0
              have nb := hNW.cell 0
              simp only [List.getElem?_toArray, List.getElem?_cons_zero] at lb nb
              have hall := fun W' (hW : Below W.heap.size W W') => all_any (HPW.out.below hW).p.t.rep (HPW.out.below hW).p.t.good HPW.out.p.v HPW.out.p.t.nodup (by have := HPW.out.p.len; omega)
              have hbyt := fun W' (hW : Below W.heap.size W W') => bytes_any (HPW.out.below hW).p.t.rep.tab
              have hrw := fun W' (hW : Below W.heap.size W W') => rd_ownN (HPW.out.below hW).p.row
              rw [HPW.out.p.len] at hall
              rw [← HLQ.out] at hall hrw
              have hSe : byt = S := by rw [HPW.out.p.bytes, HSS.out, ← HLQ.out, List.take_of_length_le (by rw [HLL.out]; exact Nat.le_refl _)]
              rw [hSe] at hbyt
              have hcell := fun W' (hW : Below W.heap.size W W') => (And.intro ((hW.cell (p := ⟨LB, 0, none⟩) HPW.out.l.lt).trans lb) ((hW.cell (p := ⟨N, 0, none⟩) HNW.out.lt).trans nb))
              have HALL := Lib.hid hall
              have HBYT := Lib.hid hbyt
              have HRW := Lib.hid hrw
              have HCELL := Lib.hid hcell
              have hLF : LB ≠ F := hFL.symm
              have hNF : N ≠ F := by omega
              have hset := fun (W' : World) (v : Value) (h : W'.cell? ⟨LB, 0, none⟩ = some (.slice A1 j c1) ∧ W'.cell? ⟨N, 0, none⟩ = some (.int .i64 (j : Int))) => show (W'.setCell ⟨F, 0, none⟩ v).cell? ⟨LB, 0, none⟩ = some (.slice A1 j c1) ∧ (W'.setCell ⟨F, 0, none⟩ v).cell? ⟨N, 0, none⟩ = some (.int .i64 (j : Int)) from ⟨(World.cell?_of_block (Below.heap_setCell _ _ _ _ hLF)).trans h.1, (World.cell?_of_block (Below.heap_setCell _ _ _ _ hNF)).trans h.2⟩
              have HSET := Lib.hid hset
              clear hall hbyt hrw hSe hK1 hcell hset hp hm hNW hpw HN5 HI0 KPN HFA HGD HND HFR
              go_upto_region 26 with fail
              refine wp_region_held_drew (S := (fun W' => W'.cell? ⟨LB, 0, none⟩ = some (.slice A1 j c1) ∧ W'.cell? ⟨N, 0, none⟩ = some (.int .i64 (j : Int)))) (by kernel_rfl) (by (first | exact ⟨lb, nb⟩ | (with_reducible assumption) | exact HSET.out _ _ (by assumption))) (fun hHeld => ?_)
              refine wpAnyH_take (i := 0) (v := ?vr12_0) (Fr.take_at rfl) (by kernel_rfl) (by kernel_rfl) (by kernel_rfl) (fun _ _ _ h => h) (Or.inl ⟨by rfl, ?yr12_0⟩) (by assumption) ?nr12_0
              case yr12_0 => (intro w_ hSw; obtain ⟨v0, v1⟩ := hSw; go_simp; (try with_reducible rfl))
              try simp only [Act.put, List.setIfInBounds_toArray, List.set_cons_zero, List.set_cons_succ]
              refine wpAnyH_take (i := 1) (v := ?vr12_1) (Fr.take_at rfl) (by kernel_rfl) (by kernel_rfl) (by kernel_rfl) (fun _ _ _ h => h) (Or.inl ⟨by rfl, ?yr12_1⟩) (by assumption) ?nr12_1
              case yr12_1 => (intro w_ hSw; obtain ⟨v0, v1⟩ := hSw; go_simp; (try with_reducible rfl))
              try simp only [Act.put, List.setIfInBounds_toArray, List.set_cons_zero, List.set_cons_succ]
              refine wpAnyH_take (i := 2) (v := ?vr12_2) (Fr.take_at rfl) (by kernel_rfl) (by kernel_rfl) (by kernel_rfl) (fun _ _ _ h => h) (Or.inl ⟨by rfl, ?yr12_2⟩) (by assumption) ?nr12_2
              case yr12_2 => (intro w_ hSw; obtain ⟨v0, v1⟩ := hSw; go_simp; (try with_reducible rfl))
              try simp only [Act.put, List.setIfInBounds_toArray, List.set_cons_zero, List.set_cons_succ]
              refine wpAnyH_take (i := 3) (v := ?vr12_3) (Fr.take_at rfl) (by kernel_rfl) (by kernel_rfl) (by kernel_rfl) (fun _ _ _ h => h) (Or.inl ⟨by rfl, ?yr12_3⟩) (by assumption) ?nr12_3
              case yr12_3 => (intro w_ hSw; obtain ⟨v0, v1⟩ := hSw; go_simp; (try with_reducible rfl))
              try simp only [Act.put, List.setIfInBounds_toArray, List.set_cons_zero, List.set_cons_succ]
              refine wpAnyH_take (i := 4) (v := ?vr12_4) (Fr.take_at rfl) (by kernel_rfl) (by kernel_rfl) (by kernel_rfl) (fun _ _ _ h => h) (Or.inl ⟨by rfl, ?yr12_4⟩) (by assumption) ?nr12_4
              case yr12_4 => (intro w_ hSw; obtain ⟨v0, v1⟩ := hSw; go_simp; (try with_reducible rfl))
              try simp only [Act.put, List.setIfInBounds_toArray, List.set_cons_zero, List.set_cons_succ]
              refine wpAnyH_take (i := 5) (v := ?vr12_5) (Fr.take_at rfl) (by kernel_rfl) (by kernel_rfl) (by kernel_rfl) (fun _ _ _ h => h) (Or.inl ⟨by rfl, ?yr12_5⟩) (by assumption) ?nr12_5
              case yr12_5 => (intro w_ hSw; obtain ⟨v0, v1⟩ := hSw; go_simp; (try with_reducible rfl))
              try simp only [Act.put, List.setIfInBounds_toArray, List.set_cons_zero, List.set_cons_succ]
              refine wpAnyH_take (i := 7) (v := ?vr12_7) (Fr.take_at rfl) (by kernel_rfl) (by kernel_rfl) (by kernel_rfl) (fun _ _ _ h => h) (Or.inl ⟨by rfl, ?yr12_7⟩) (by assumption) ?nr12_7
              case yr12_7 => (intro w_ hSw; obtain ⟨v0, v1⟩ := hSw; go_simp; (try with_reducible rfl))
              try simp only [Act.put, List.setIfInBounds_toArray, List.set_cons_zero, List.set_cons_succ]
              refine wpAnyH_ready (rs := [6]) (by kernel_rfl) (by simp) ?_
              refine AllReadyH.cons (Fr.take_at rfl) (fun K hK => ?_) AllReadyH.nil
              go_simp
              (go_at_call 13; refine (HALL.out _ (below_drewN (Below.refl _ _) 1)).mono ?_; rintro x w6 ⟨A6, c6, rfl, hr6, hb6⟩; have hb6' := below_of_drewN (Below.refl _ W) hb6; have hS6 := HCELL.out w6 hb6')
              try go_wp2_with fail
              refine hK.out _ _ (by (first | exact ⟨lb, nb⟩ | (with_reducible assumption) | exact HSET.out _ _ (by assumption))) (fun hHeld => ?_)
              clear hK K
              try simp only [Act.put, List.setIfInBounds_toArray, List.set_cons_zero, List.set_cons_succ]
              refine wpAnyH_ready (rs := [8]) (by kernel_rfl) (by simp) ?_
              refine AllReadyH.cons (Fr.take_at rfl) (fun K hK => ?_) AllReadyH.nil
              go_simp
              (go_at_call 12; refine (same_any HLL.out (by omega) (rd_ownN hr6) (HRW.out w6 hb6')).mono ?_; rintro x w7 ⟨rfl, hb7⟩; have hb7' := hb6'.trans (hb7.mono hb6'.size); have hS7 := HCELL.out w7 hb7'; have hf7 := (HPW.out.below hb7').f; have fb7 := hf7.cell 0; have ff7 := hf7.frozen 0; simp only [List.getElem?_toArray, List.getElem?_cons_zero] at fb7)
              try go_wp2_with fail
              refine hK.out _ _ (by (first | exact ⟨lb, nb⟩ | (with_reducible assumption) | exact HSET.out _ _ (by assumption))) (fun hHeld => ?_)
              clear hK K
              try simp only [Act.put, List.setIfInBounds_toArray, List.set_cons_zero, List.set_cons_succ]
              refine wpAnyH_take (i := 9) (v := ?vr12_9) (Fr.take_at rfl) (by kernel_rfl) (by kernel_rfl) (by kernel_rfl) (fun _ _ _ h => h) (Or.inl ⟨by rfl, ?yr12_9⟩) (by assumption) ?nr12_9
              case yr12_9 => (intro w_ hSw; obtain ⟨v0, v1⟩ := hSw; go_simp; (try with_reducible rfl))
              try simp only [Act.put, List.setIfInBounds_toArray, List.set_cons_zero, List.set_cons_succ]
              refine wpAnyH_take (i := 10) (v := ?vr12_10) (Fr.take_at rfl) (by kernel_rfl) (by kernel_rfl) (by kernel_rfl) (fun _ _ _ h => h) (Or.inl ⟨by rfl, ?yr12_10⟩) (by assumption) ?nr12_10
              case yr12_10 => (intro w_ hSw; obtain ⟨v0, v1⟩ := hSw; go_simp; (try with_reducible rfl))
              try simp only [Act.put, List.setIfInBounds_toArray, List.set_cons_zero, List.set_cons_succ]
              refine wpAnyH_take (i := 11) (v := ?vr12_11) (Fr.take_at rfl) (by kernel_rfl) (by kernel_rfl) (by kernel_rfl) (fun _ _ _ h => h) (Or.inl ⟨by rfl, ?yr12_11⟩) (by assumption) ?nr12_11
              case yr12_11 => (intro w_ hSw; obtain ⟨v0, v1⟩ := hSw; go_simp; (try with_reducible rfl))
              try simp only [Act.put, List.setIfInBounds_toArray, List.set_cons_zero, List.set_cons_succ]
              refine wpAnyH_take (i := 13) (v := ?vr12_13) (Fr.take_at rfl) (by kernel_rfl) (by kernel_rfl) (by kernel_rfl) (fun _ _ _ h => h) (Or.inl ⟨by rfl, ?yr12_13⟩) (by assumption) ?nr12_13
              case yr12_13 => (intro w_ hSw; obtain ⟨v0, v1⟩ := hSw; go_simp; (try with_reducible rfl))
              try simp only [Act.put, List.setIfInBounds_toArray, List.set_cons_zero, List.set_cons_succ]
              refine wpAnyH_ready (rs := [12]) (by kernel_rfl) (by simp) ?_
              refine AllReadyH.cons (Fr.take_at rfl) (fun K hK => ?_) AllReadyH.nil
              go_simp
              (go_at_call 14; refine (HBYT.out _ hb7').mono ?_; rintro x _ ⟨rfl, rfl⟩)
              try go_wp2_with fail
              refine hK.out _ _ (by (first | exact ⟨lb, nb⟩ | (with_reducible assumption) | exact HSET.out _ _ (by assumption))) (fun hHeld => ?_)
              clear hK K
              try simp only [Act.put, List.setIfInBounds_toArray, List.set_cons_zero, List.set_cons_succ]
              refine wpAnyH_take (i := 14) (v := ?vr12_14) (Fr.take_at rfl) (by kernel_rfl) (by kernel_rfl) (by kernel_rfl) (fun _ _ _ h => h) (Or.inl ⟨by rfl, ?yr12_14⟩) (by assumption) ?nr12_14
              case yr12_14 => (intro w_ hSw; obtain ⟨v0, v1⟩ := hSw; go_simp; (try with_reducible rfl))
              try simp only [Act.put, List.setIfInBounds_toArray, List.set_cons_zero, List.set_cons_succ]
              refine wpAnyH_take (i := 15) (v := ?vr12_15) (Fr.take_at rfl) (by kernel_rfl) (by kernel_rfl) (by kernel_rfl) (fun _ _ _ h => h) (Or.inl ⟨by rfl, ?yr12_15⟩) (by assumption) ?nr12_15
              case yr12_15 => (intro w_ hSw; obtain ⟨v0, v1⟩ := hSw; go_simp; (try with_reducible rfl))
              try simp only [Act.put, List.setIfInBounds_toArray, List.set_cons_zero, List.set_cons_succ]
              refine wpAnyH_ready (rs := [16]) (by kernel_rfl) (by simp) ?_
              refine AllReadyH.cons (Fr.take_at rfl) (fun K hK => ?_) AllReadyH.nil
              go_simp
              refine hK.out _ _ (by (first | exact ⟨lb, nb⟩ | (with_reducible assumption) | exact HSET.out _ _ (by assumption))) (fun hHeld => ?_)
              clear hK K
              try simp only [Act.put, List.setIfInBounds_toArray, List.set_cons_zero, List.set_cons_succ]
              refine wpAnyH_done (by kernel_rfl) ?_ _
              go_wp2
              have hf8 := hf7.set 0 (.bool true)
              have hK8 : (w7.setCell ⟨F, 0, none⟩ (.bool true)).heap[D]? = some (.deferred (some [])) := (Below.heap_setCell _ _ _ _ (by show D ≠ F; exact hDF.symm)).trans (HK1.out _ hb7')
              (try simp only [Exit.inBlock, Exit.then])
              dsimp only [OnlyRet]
              refine ⟨by simp, .inl ⟨_, _, rfl, run_takeDeferred hK8, ?_⟩⟩
              have hc5 := ((hf8.same (World.putObj_heap_other (o := .deferred none) hDF) : Blk _ F 4 _)).cell 0
              simp only [List.getElem?_toArray, List.set_cons_zero, List.setIfInBounds_toArray, List.getElem?_cons_zero] at hc5
              refine ⟨.bool true, by simp [results, Try.f3, go_sem, hc5], rfl, ?_⟩
              have hbF : Below w0.heap.size w0 (w7.setCell ⟨F, 0, none⟩ (.bool true)) := (HPW.out.p.t.bel.trans (hb7'.mono HPW.out.p.t.bel.size)).setCell (p := ⟨F, 0, none⟩) hF0 _
              exact hbF.grown (grownBy_putObj' _ D (.deferred none)) hbF.size fun k e => by cases e; exact hDw
            case stop =>
              rintro D c' pre W hD hpre ⟨rfl, hno⟩ hK
              exact absurd (HOL.out ▸ hpre) hno
end
end Mm
end Go.Proofs.Ytfnfjhfmhinkcaa
