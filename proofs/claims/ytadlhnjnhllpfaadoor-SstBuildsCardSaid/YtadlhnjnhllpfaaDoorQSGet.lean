/-
  WHAT IS PROVED: (1) what Get of package sstable answers, and how many blocks it looks into. CONDITIONS: the reader stands in memory as named.
-/
import Derived.Test.YtadlhnjnhllpfaaDoorQSGetP
import Derived.Sort.CutIn
namespace Go.Proofs.YtadlhnjnhllpfaaDoor
open Go Go.RowKit Go.Shelf Go.Maps Go.Sort Go.Proofs.YtadlhnjnhllpfaaDoor.Mm Go.Proofs.YtadlhnjnhllpfaaDoor.Fr
attribute [local go_sem] Oper.semAt_some
namespace Ss
/-- May block x have the key? -/
def inR (L : List En) (key : ByteArray) (x : Nat) : Bool := !decide (lastK (chk L x) < key.toList) && !decide (key.toList < firstK (chk L x))
def cntR (L : List En) (key : ByteArray) (xs : List Nat) : Nat := (xs.filter (inR L key)).length
theorem cntR_snoc (L : List En) (key : ByteArray) (xs : List Nat) (x : Nat) : cntR L key (xs ++ [x]) = cntR L key xs + (if inR L key x then 1 else 0) := by
  unfold cntR
  rw [List.filter_append, List.length_append]
  cases h : inR L key x <;> simp [h]
def GetRet (w : World) (R base : Nat) (L : List En) (key : ByteArray) (q : Int) (ex : Int) (e : Ending) (w' : World) : Prop :=
  ∃ (x : En) (b : Bool) (ex' : Int), e = .returned (.tuple #[.agg #[.string x.key, .int .i64 x.seq, .bool x.del, .string x.val], .bool b]) ∧ x = (Mm.seen L key.toList q).getD noE ∧ b = (Mm.seen L key.toList q).isSome ∧
    ex ≤ ex' ∧ ex' ≤ ex + (if Bl.may (Bl.filt (keysB L) 10) key.toList then (cntR L key (List.range ((L.length + 2) / 3)) : Int) else 0) ∧ RdAt w' R base L ex' ∧ Mod (fun k => k = R) w w'
/-- What stays while Get looks. -/
structure GtB (w : World) (R B B8 : Nat) (A : Option Addr) (n c : Nat) (F : Option Addr) (m d : Nat) (key : ByteArray) (q : Int) (ex : Int) (W : World) : Prop where
  r : Blk W R 72 #[.slice A n c, .slice F m d, .int .i64 ex]
  b3 : Blk W B 32 #[.pointer (some ⟨R, 0, none⟩)]
  b4 : Blk W (B + 1) 9 #[.string key]
  b6 : Blk W (B + 1 + 1) 42 #[.string ⟨#[]⟩, .int .i64 0, .bool false, .string ⟨#[]⟩]
  b7 : Blk W (B + 1 + 1 + 1) 4 #[.bool false]
  b8 : Blk W B8 42 #[.string key, .int .i64 q, .bool false, .string ⟨#[]⟩]
  c1 : Blk W (B8 + 1) 22 #[.slice A n c]
  c2 : Blk W (B8 + 1 + 1) 3 #[.int .i64 3]
  mod : Mod (fun k => k = R) w W
section
variable {w W W' : World} {R B B8 : Nat} {A : Option Addr} {n c : Nat} {F : Option Addr} {m d : Nat} {key : ByteArray} {q : Int} {ex : Int}
theorem GtB.same (h : GtB w R B B8 A n c F m d key q ex W) (hk : ∀ k t cs, Blk W k t cs → W'.heap[k]? = W.heap[k]?) (hm : Mod (fun k => k = R) w W') : GtB w R B B8 A n c F m d key q ex W' :=
  ⟨h.r.same (hk _ _ _ h.r), h.b3.same (hk _ _ _ h.b3), h.b4.same (hk _ _ _ h.b4), h.b6.same (hk _ _ _ h.b6), h.b7.same (hk _ _ _ h.b7), h.b8.same (hk _ _ _ h.b8), h.c1.same (hk _ _ _ h.c1), h.c2.same (hk _ _ _ h.c2), hm⟩
theorem Mod.belowR {w W W' : World} {R : Nat} (h : Mod (fun k => k = R) w W) (hb : Below W.heap.size W W') : Mod (fun k => k = R) w W' := h.trans (Mod.below hb) fun _ _ e => e
theorem GtB.below (h : GtB w R B B8 A n c F m d key q ex W) (hb : Below W.heap.size W W') : GtB w R B B8 A n c F m d key q ex W' := h.same (fun k _ _ hk => hb.block k hk.lt) (Mod.belowR h.mod hb)
theorem GtB.drew (h : GtB w R B B8 A n c F m d key q ex W) : GtB w R B B8 A n c F m d key q ex W.drew := ⟨h.r, h.b3, h.b4, h.b6, h.b7, h.b8, h.c1, h.c2, h.mod.drew⟩
theorem GtB.kept {row : Option Nat} {X : Nat} (h : GtB w R B B8 A n c F m d key q ex W) (hX : w.heap.size ≤ X) (hg : W.grownBy W' row) (hr : ∀ r, row = some r → X ≤ r ∧ ∃ o : Obj, W.heap[r]? = some o ∧ o.isCells = false) : GtB w R B B8 A n c F m d key q ex W' :=
  h.same (fun k t cs hk => hg.block k hk.lt fun e => by
    obtain ⟨_, o, ho, hc⟩ := hr _ e.symm
    rw [show W.heap[k]? = _ from hk] at ho
    cases ho
    cases hc) (h.mod.trans (Mod.grown (S := fun k => row = some k) hg fun k e => e) fun b hb e => absurd (hr b e).1 (by omega))
end
/-- Between two blocks. -/
def GtI (w : World) (R B B8 : Nat) (A : Option Addr) (n c : Nat) (F : Option Addr) (m d : Nat) (key : ByteArray) (q : Int) (ex : Int) (L : List En) (K : Nat) (pre : List (Fin K)) (W : World) : Prop :=
  ∃ ex' : Int, ex' = ex + (cntR L key (pre.map (·.1)) : Int) ∧ GtB w R B B8 A n c F m d key q ex' W ∧ ∀ x ∈ pre, NoHit L key q x.1
theorem GtI.own {w : World} {R B B8 : Nat} {A : Option Addr} {n c : Nat} {F : Option Addr} {m d : Nat} {key : ByteArray} {q : Int} {ex : Int} {L : List En} {K X : Nat} (hX : w.heap.size ≤ X) : OwnFrom X (GtI w R B B8 A n c F m d key q ex L K) := fun _ _ _ _ h hg hr => by
  obtain ⟨ex', h1, h2, h3⟩ := h
  exact ⟨ex', h1, h2.kept hX hg hr, h3⟩
theorem str_gtr (a b : ByteArray) : (!(Op.bytesLess a.toList b.toList || a.toList == b.toList)) = Op.bytesLess b.toList a.toList := by
  rw [bytesLess_eq, bytesLess_eq]
  by_cases h1 : a.toList < b.toList
  · have h2 : ¬ b.toList < a.toList := fun h => List.lt_irrefl _ (List.lt_trans h1 h)
    simp [h1, h2]
  · by_cases h3 : a.toList = b.toList
    · rw [h3]
      have := List.lt_irrefl b.toList
      simp [this]
    · have h4 := lt_of_not h1 h3
      simp [h1, h3, h4]
theorem five {W : World} {g h : Nat} {cs : Array Value} {a0 a3 : ByteArray} {a1 : Int} {a2 : Bool} (hg : Blk W g 42 #[.string a0, .int .i64 a1, .bool a2, .string a3]) (hh : Blk W h 4 cs) (hne : h ≠ g) (u0 u1 u2 u3 v : Value) (hcs : cs.size = 1) :
    Blk (((((W.setCell ⟨g, 0, none⟩ u0).setCell ⟨g, 1, none⟩ u1).setCell ⟨g, 2, none⟩ u2).setCell ⟨g, 3, none⟩ u3).setCell ⟨h, 0, none⟩ v) g 42 #[u0, u1, u2, u3] ∧ Blk (((((W.setCell ⟨g, 0, none⟩ u0).setCell ⟨g, 1, none⟩ u1).setCell ⟨g, 2, none⟩ u2).setCell ⟨g, 3, none⟩ u3).setCell ⟨h, 0, none⟩ v) h 4 #[v] ∧
    (∀ k, k ≠ g → k ≠ h → (((((W.setCell ⟨g, 0, none⟩ u0).setCell ⟨g, 1, none⟩ u1).setCell ⟨g, 2, none⟩ u2).setCell ⟨g, 3, none⟩ u3).setCell ⟨h, 0, none⟩ v).heap[k]? = W.heap[k]?) ∧ KeepsOthers W (((((W.setCell ⟨g, 0, none⟩ u0).setCell ⟨g, 1, none⟩ u1).setCell ⟨g, 2, none⟩ u2).setCell ⟨g, 3, none⟩ u3).setCell ⟨h, 0, none⟩ v) := by
  have h4 : ∀ k, k ≠ g → ((((W.setCell ⟨g, 0, none⟩ u0).setCell ⟨g, 1, none⟩ u1).setCell ⟨g, 2, none⟩ u2).setCell ⟨g, 3, none⟩ u3).heap[k]? = W.heap[k]? := fun k hk => (Below.heap_setCell _ ⟨g, 3, none⟩ _ _ hk).trans ((Below.heap_setCell _ ⟨g, 2, none⟩ _ _ hk).trans ((Below.heap_setCell _ ⟨g, 1, none⟩ _ _ hk).trans (Below.heap_setCell _ ⟨g, 0, none⟩ _ _ hk)))
  refine ⟨(set4E hg u0 u1 u2 u3).same (Below.heap_setCell _ _ _ _ (by show g ≠ h; exact hne.symm)), ?_, fun k h1 h2 => (Below.heap_setCell _ _ _ _ h2).trans (h4 k h1), ((((KeepsOthers.setCell _ _ _).trans (KeepsOthers.setCell _ _ _)).trans (KeepsOthers.setCell _ _ _)).trans (KeepsOthers.setCell _ _ _)).trans (KeepsOthers.setCell _ _ _)⟩
  have h5 := (hh.same (h4 h hne)).set 0 v
  have h6 : cs.setIfInBounds 0 v = #[v] := by
    apply Array.ext
    · simp [hcs]
    · intro i h1 h2
      have : i = 0 := by simp at h2; omega
      subst this
      simp
  rw [h6] at h5
  exact h5
theorem mod5 {w W : World} {R g h : Nat} (hm : Mod (fun k => k = R) w W) (hg : w.heap.size ≤ g) (hh : w.heap.size ≤ h) (u0 u1 u2 u3 v : Value) : Mod (fun k => k = R) w (((((W.setCell ⟨g, 0, none⟩ u0).setCell ⟨g, 1, none⟩ u1).setCell ⟨g, 2, none⟩ u2).setCell ⟨g, 3, none⟩ u3).setCell ⟨h, 0, none⟩ v) :=
  ((((hm.setCell (p := ⟨g, 0, none⟩) (fun e => absurd e (Nat.not_lt.2 hg)) u0).setCell (p := ⟨g, 1, none⟩) (fun e => absurd e (Nat.not_lt.2 hg)) u1).setCell (p := ⟨g, 2, none⟩) (fun e => absurd e (Nat.not_lt.2 hg)) u2).setCell (p := ⟨g, 3, none⟩) (fun e => absurd e (Nat.not_lt.2 hg)) u3).setCell (p := ⟨h, 0, none⟩) (fun e => absurd e (Nat.not_lt.2 hh)) v
/-- The rows stay. -/
theorem own_modR {w W : World} {R base size k : Nat} {e : TypeId} {cs : Array Value} {v : Value} {xs : List Value} (ho : w.ownsRow base e size v k xs) (hr : Blk w R 72 cs) (hm : Mod (fun k => k = R) w W) (hne : 72 ≠ e) : W.ownsRow base e size v k xs := own_same ho fun j hj => by
  obtain ⟨_, hb⟩ := own_blk ho hj
  refine hm.block j hb.lt fun e' => ?_
  subst e'
  rcases own_ne_b ho hr hne with h1 | h1
  · rw [h1] at hj; cases hj
  · exact h1 hj
/-- How the loop is left early. -/
def GtX (w : World) (R B B8 : Nat) (A : Option Addr) (n c : Nat) (F : Option Addr) (m d : Nat) (key : ByteArray) (q : Int) (ex : Int) (L : List En) (K : Nat) (cd : Code) (pre : List (Fin K)) (W : World) : Prop :=
  ∃ (p0 : List (Fin K)) (xl : Fin K) (ex' : Int), pre = p0 ++ [xl] ∧ (∀ y ∈ p0, NoHit L key q y.1) ∧ ex ≤ ex' ∧ ex' ≤ ex + (cntR L key (pre.map (·.1)) : Int) ∧
    ((cd = .exit 0 ∧ GtB w R B B8 A n c F m d key q ex' W ∧ ∀ (i : Nat) (e : En), 3 * xl.1 ≤ i → L[i]? = some e → Mm.hit key.toList q e = false) ∨
     (cd = .ret ∧ (∃ (i : Nat) (e : En), L[i]? = some e ∧ Mm.hit key.toList q e = true ∧ (∀ (i' : Nat) (e' : En), 3 * xl.1 ≤ i' → i' < i → L[i']? = some e' → Mm.hit key.toList q e' = false) ∧
       Blk W (B + 1 + 1) 42 #[.string e.key, .int .i64 e.seq, .bool e.del, .string e.val]) ∧ Blk W R 72 #[.slice A n c, .slice F m d, .int .i64 ex'] ∧ Blk W (B + 1 + 1 + 1) 4 #[.bool true] ∧ Mod (fun k => k = R) w W))
theorem GtX.own {w : World} {R B B8 : Nat} {A : Option Addr} {n c : Nat} {F : Option Addr} {m d : Nat} {key : ByteArray} {q : Int} {ex : Int} {L : List En} {K X : Nat} (hX : w.heap.size ≤ X) (cd : Code) : OwnFrom X (GtX w R B B8 A n c F m d key q ex L K cd) := fun _ _ _ _ h hg hr => by
  obtain ⟨p0, xl, ex', h1, h2, h3, h4, h5⟩ := h
  refine ⟨p0, xl, ex', h1, h2, h3, h4, ?_⟩
  rcases h5 with ⟨g1, g2, g3⟩ | ⟨g1, ⟨i, e, g2, g3, g4, g5⟩, g6, g7, g8⟩
  · exact .inl ⟨g1, g2.kept hX hg hr, g3⟩
  · have hc := fun r e => (hr r e).2
    exact .inr ⟨g1, ⟨i, e, g2, g3, g4, blk_keptB g5 hg hc⟩, blk_keptB g6 hg hc, blk_keptB g7 hg hc, g8.trans (Mod.grown (S := fun k => _ = some k) hg fun k e => e) fun b hb e => absurd (hr b e).1 (by omega)⟩
section
variable {w : World} {R base : Nat} {L : List En} {ex : Int}
set_option maxRecDepth 100000 in
set_option maxHeartbeats 1000000 in
theorem sget_any (h : RdAt w R base L ex) (hg : GoodL L) (key : ByteArray) (hk : key.size ≤ maxLen) (q : Int) (hx0 : 0 ≤ ex) (hx1 : ex ≤ 1000000) :
    Calls Tryd.prog 21 #[.pointer (some ⟨R, 0, none⟩), .string key, .int .i64 q] w (GetRet w R base L key q ex) := by
  obtain ⟨A, n, c, F, m, d, h1, h2, h3, h4, h5, h6⟩ := h
  have HRD := Lib.hid h1
  obtain ⟨mb, hmb⟩ : ∃ b, b = Bl.may (Bl.filt (keysB L) 10) key.toList := ⟨_, rfl⟩
  obtain ⟨fl, hfl⟩ : ∃ f, f = Bl.filt (keysB L) 10 := ⟨_, rfl⟩
  have hml : fl.length ≤ 110 := by rw [hfl]; exact filt_le hg.le
  have hmy := fun (W : World) (hr : Rd W F (bv fl)) => Bl.may_any (c := d) (s := key) (by rw [hfl]; exact h4 : fl.length = m) hr (by rw [hfl] at hml; omega) hk
  rw [hfl, ← hmb, ← hfl] at hmy
  have hfr : ∀ W : World, Below w.heap.size w W → Rd W F (bv fl) := fun W hW => (Rd.own (by rw [hfl]; exact h6)).below hW
  obtain ⟨W1, hW1⟩ : ∃ W1, W1 = (((w.alloc (.cells #[.pointer (some ⟨R, 0, none⟩)] 32)).alloc (.cells #[.string key] 9)).alloc (.cells #[.string ⟨#[]⟩, .int .i64 0, .bool false, .string ⟨#[]⟩] 42)).alloc (.cells #[.bool false] 4) := ⟨_, rfl⟩
  obtain ⟨B, hB⟩ : ∃ B, B = w.heap.size := ⟨_, rfl⟩
  have hb1 : Below w.heap.size w W1 := by rw [hW1]; exact ((((Below.refl _ _).alloc (Nat.le_refl _) _).alloc (by simp) _).alloc (by simp; omega) _).alloc (by simp; omega) _
  have b3 : Blk W1 B 32 #[.pointer (some ⟨R, 0, none⟩)] := by rw [hW1, hB]; exact ((((Blk.new w _ _).alloc _).alloc _).alloc _)
  have b4 : Blk W1 (B + 1) 9 #[.string key] := by
    rw [hW1, hB]
    have := Blk.new (w.alloc (.cells #[.pointer (some ⟨R, 0, none⟩)] 32)) 9 #[.string key]
    rw [World.size_alloc] at this
    exact (this.alloc _).alloc _
  have b6 : Blk W1 (B + 1 + 1) 42 #[.string ⟨#[]⟩, .int .i64 0, .bool false, .string ⟨#[]⟩] := by
    rw [hW1, hB]
    have := Blk.new ((w.alloc (.cells #[.pointer (some ⟨R, 0, none⟩)] 32)).alloc (.cells #[.string key] 9)) 42 #[.string ⟨#[]⟩, .int .i64 0, .bool false, .string ⟨#[]⟩]
    rw [World.size_alloc, World.size_alloc] at this
    exact this.alloc _
  have b7 : Blk W1 (B + 1 + 1 + 1) 4 #[.bool false] := by
    rw [hW1, hB]
    have := Blk.new (((w.alloc (.cells #[.pointer (some ⟨R, 0, none⟩)] 32)).alloc (.cells #[.string key] 9)).alloc (.cells #[.string ⟨#[]⟩, .int .i64 0, .bool false, .string ⟨#[]⟩] 42)) 4 #[.bool false]
    rw [World.size_alloc, World.size_alloc, World.size_alloc] at this
    exact this
  have hs1 : W1.heap.size = B + 1 + 1 + 1 + 1 := by rw [hW1, hB]; simp
  have hr1 : Blk W1 R 72 #[.slice A n c, .slice F m d, .int .i64 ex] := h1.same (hb1.block _ h1.lt)
  have hRB : R < B := by rw [hB]; exact h1.lt
  have HMY := Lib.hid hmy
  have HFR := Lib.hid hfr
  have HB1 := Lib.hid hb1
  have H3 := Lib.hid b3
  have H4 := Lib.hid b4
  have H6 := Lib.hid b6
  have H7 := Lib.hid b7
  have HR1 := Lib.hid hr1
  have HG := Lib.hid hg
  have HN := Lib.hid h2
  have HOE := Lib.hid h5
  have HOF := Lib.hid h6
  have HM4 := Lib.hid h4
  have HMB := Lib.hid hmb
  have HS1 := Lib.hid hs1
  have c3 : W1.cell? ⟨B, 0, none⟩ = some (.pointer (some ⟨R, 0, none⟩)) := b3.cell 0
  have c4 : W1.cell? ⟨B + 1, 0, none⟩ = some (.string key) := b4.cell 0
  have c5 : W1.cell? ⟨R, 1, none⟩ = some (.slice F m d) := hr1.cell 1
  refine (callsIn_wide (n := 7)).1 (callsIn_of_wp_marks Tryd.func21 rfl trivial ?_ rfl)
  simp only [Tryd.ntmps21, List.size_toArray, List.length_cons, List.length_nil, Nat.reduceAdd, Nat.reduceSub, Array.replicate_succ, Array.replicate_zero, List.push_toArray, List.append_toArray, List.nil_append, List.cons_append]
  refine wpIn_wide.2 (wp_only ?_)
  go_wp2
  go_step3
  go_upto_region 1 with fail
  rw [← hW1]
  (try simp only [World.size_alloc])
  rw [← hB]
  have HBB := Lib.hid hB
  clear hmy hfr hb1 b3 b4 b6 b7 hr1 hg h1 h2 h5 h6 h4 hmb hs1 hfl hml hW1 hB
  refine wp_region_held_drew (S := fun W' => W'.cell? ⟨B, 0, none⟩ = some (.pointer (some ⟨R, 0, none⟩)) ∧ W'.cell? ⟨B + 1, 0, none⟩ = some (.string key) ∧ W'.cell? ⟨R, 1, none⟩ = some (.slice F m d)) (by kernel_rfl) (by (first | exact ⟨c3, c4, c5⟩ | (with_reducible assumption))) (fun hHeld => ?_)
  refine wpAnyH_take (i := 0) (v := ?vr1_0) (Fr.take_at rfl) (by kernel_rfl) (by kernel_rfl) (by kernel_rfl) (fun _ _ _ h => h) (Or.inl ⟨by rfl, ?yr1_0⟩) (by assumption) ?nr1_0
  case yr1_0 => (intro w_ hSw; obtain ⟨u0_, u1_, u2_⟩ := hSw; go_simp; (try with_reducible rfl))
  try simp only [Act.put, List.setIfInBounds_toArray, List.set_cons_zero, List.set_cons_succ]
  refine wpAnyH_take (i := 1) (v := ?vr1_1) (Fr.take_at rfl) (by kernel_rfl) (by kernel_rfl) (by kernel_rfl) (fun _ _ _ h => h) (Or.inl ⟨by rfl, ?yr1_1⟩) (by assumption) ?nr1_1
  case yr1_1 => (intro w_ hSw; obtain ⟨u0_, u1_, u2_⟩ := hSw; go_simp; (try with_reducible rfl))
  try simp only [Act.put, List.setIfInBounds_toArray, List.set_cons_zero, List.set_cons_succ]
  refine wpAnyH_take (i := 2) (v := ?vr1_2) (Fr.take_at rfl) (by kernel_rfl) (by kernel_rfl) (by kernel_rfl) (fun _ _ _ h => h) (Or.inl ⟨by rfl, ?yr1_2⟩) (by assumption) ?nr1_2
  case yr1_2 => (intro w_ hSw; obtain ⟨u0_, u1_, u2_⟩ := hSw; go_simp; (try with_reducible rfl))
  try simp only [Act.put, List.setIfInBounds_toArray, List.set_cons_zero, List.set_cons_succ]
  refine wpAnyH_take (i := 3) (v := ?vr1_3) (Fr.take_at rfl) (by kernel_rfl) (by kernel_rfl) (by kernel_rfl) (fun _ _ _ h => h) (Or.inl ⟨by rfl, ?yr1_3⟩) (by assumption) ?nr1_3
  case yr1_3 => (intro w_ hSw; obtain ⟨u0_, u1_, u2_⟩ := hSw; go_simp; (try with_reducible rfl))
  try simp only [Act.put, List.setIfInBounds_toArray, List.set_cons_zero, List.set_cons_succ]
  refine wpAnyH_take (i := 4) (v := ?vr1_4) (Fr.take_at rfl) (by kernel_rfl) (by kernel_rfl) (by kernel_rfl) (fun _ _ _ h => h) (Or.inl ⟨by rfl, ?yr1_4⟩) (by assumption) ?nr1_4
  case yr1_4 => (intro w_ hSw; obtain ⟨u0_, u1_, u2_⟩ := hSw; go_simp; (try with_reducible rfl))
  try simp only [Act.put, List.setIfInBounds_toArray, List.set_cons_zero, List.set_cons_succ]
  refine wpAnyH_ready (rs := [5]) (by kernel_rfl) (by simp) ?_
  refine AllReadyH.cons (Fr.take_at rfl) (fun K hK => ?_) AllReadyH.nil
  go_simp
  (go_at_call 50; refine (HMY.out _ (HFR.out _ HB1.out.drew)).mono ?_; rintro e w2 ⟨rfl, hb2⟩; have s2 : w2.cell? ⟨B, 0, none⟩ = some (.pointer (some ⟨R, 0, none⟩)) ∧ w2.cell? ⟨B + 1, 0, none⟩ = some (.string key) ∧ w2.cell? ⟨R, 1, none⟩ = some (.slice F m d) := ⟨(H3.out.same (hb2.block _ H3.out.lt)).cell 0, (H4.out.same (hb2.block _ H4.out.lt)).cell 0, (HR1.out.same (hb2.block _ HR1.out.lt)).cell 1⟩)
  try go_wp2_with fail
  refine hK.out _ _ (by (first | exact ⟨c3, c4, c5⟩ | (with_reducible assumption))) (fun hHeld => ?_)
  clear hK K
  try simp only [Act.put, List.setIfInBounds_toArray, List.set_cons_zero, List.set_cons_succ]
  refine wpAnyH_take (i := 6) (v := ?vr1_6) (Fr.take_at rfl) (by kernel_rfl) (by kernel_rfl) (by kernel_rfl) (fun _ _ _ h => h) (Or.inl ⟨by rfl, ?yr1_6⟩) (by assumption) ?nr1_6
  case yr1_6 => (intro w_ hSw; obtain ⟨u0_, u1_, u2_⟩ := hSw; go_simp; (try with_reducible rfl))
  try simp only [Act.put, List.setIfInBounds_toArray, List.set_cons_zero, List.set_cons_succ]
  refine wpAnyH_done (by kernel_rfl) ?_ _
  have h6' := H6.out.same (hb2.block _ H6.out.lt)
  have h7' := H7.out.same (hb2.block _ H7.out.lt)
  have hm2 : Mod (fun k => k = R) w w2 := Mod.below (HB1.out.drew.trans (hb2.mono HB1.out.drew.size))
  have hr2 := HR1.out.same (hb2.block _ HR1.out.lt)
  have hsz2 : W1.heap.size ≤ w2.heap.size := hb2.size
  cases mb with
  | false =>
    obtain ⟨⟨q0, q1, q2, q3⟩, g0, g1, g2, g3⟩ := cells4E h6'
    have q4 : w2.cell? ⟨B + 1 + 1 + 1, 0, none⟩ = some (.bool false) := h7'.cell 0
    have g4 := h7'.frozen 0
    have HH6 := Lib.hid h6'
    have HH7 := Lib.hid h7'
    have HM2 := Lib.hid hm2
    have HR2 := Lib.hid hr2
    clear h6' h7' hm2 hr2 hb2
    go_wp2
    rw [Exit.noGoto_ret]
    dsimp only [OnlyRet]
    have hf6 := set4E HH6.out (.string ⟨#[]⟩) (.int .i64 0) (.bool false) (.string ⟨#[]⟩)
    have hf7 := HH7.out.same (w' := (((w2.setCell ⟨B + 1 + 1, 0, none⟩ (.string ⟨#[]⟩)).setCell ⟨B + 1 + 1, 1, none⟩ (.int .i64 0)).setCell ⟨B + 1 + 1, 2, none⟩ (.bool false)).setCell ⟨B + 1 + 1, 3, none⟩ (.string ⟨#[]⟩)) ((Below.heap_setCell _ ⟨B + 1 + 1, 3, none⟩ _ _ (by show B + 1 + 1 + 1 ≠ B + 1 + 1; omega)).trans ((Below.heap_setCell _ ⟨B + 1 + 1, 2, none⟩ _ _ (by show B + 1 + 1 + 1 ≠ B + 1 + 1; omega)).trans ((Below.heap_setCell _ ⟨B + 1 + 1, 1, none⟩ _ _ (by show B + 1 + 1 + 1 ≠ B + 1 + 1; omega)).trans (Below.heap_setCell _ ⟨B + 1 + 1, 0, none⟩ _ _ (by show B + 1 + 1 + 1 ≠ B + 1 + 1; omega)))))
    obtain ⟨W8, hW8⟩ : ∃ W8, W8 = (((w2.setCell ⟨B + 1 + 1, 0, none⟩ (.string ⟨#[]⟩)).setCell ⟨B + 1 + 1, 1, none⟩ (.int .i64 0)).setCell ⟨B + 1 + 1, 2, none⟩ (.bool false)).setCell ⟨B + 1 + 1, 3, none⟩ (.string ⟨#[]⟩) := ⟨_, rfl⟩
    rw [← hW8] at hf6 hf7 ⊢
    have hf6' := hf6.same (w' := W8.setCell ⟨B + 1 + 1 + 1, 0, none⟩ (.bool false)) (Below.heap_setCell _ _ _ _ (by show B + 1 + 1 ≠ B + 1 + 1 + 1; omega))
    have hf7' := hf7.set 0 (.bool false)
    obtain ⟨W9, hW9⟩ : ∃ W9, W9 = W8.setCell ⟨B + 1 + 1 + 1, 0, none⟩ (.bool false) := ⟨_, rfl⟩
    rw [← hW9] at hf6' hf7' ⊢
    obtain ⟨⟨z0, z1, z2, z3⟩, _⟩ := cells4E hf6'
    have z4 : W9.cell? ⟨B + 1 + 1 + 1, 0, none⟩ = some (.bool false) := hf7'.cell 0
    refine ⟨.tuple #[.agg #[.string ⟨#[]⟩, .int .i64 0, .bool false, .string ⟨#[]⟩], .bool false], ?_, noE, false, ex, rfl, ?_, ?_, by omega, ?_, ?_, ?_⟩
    · simp [results, Tryd.f21, go_sem, z0, z1, z2, z3, z4]
    · rw [no_key HMB.out.symm HG.out.le]; rfl
    · rw [no_key HMB.out.symm HG.out.le]; rfl
    · rw [if_neg (by rw [← HMB.out]; exact Bool.false_ne_true)]; omega
    · have hBw0 : B = w.heap.size := HBB.out
      have hmf : Mod (fun k => k = R) w W9 := by rw [hW9, hW8]; exact mod5 HM2.out (by omega) (by omega) _ _ _ _ _
      exact ⟨A, n, c, F, m, d, HR2.out.same (by rw [hW9, hW8]; exact (five HH6.out HH7.out (by omega) _ _ _ _ _ rfl).2.2.1 R (by omega) (by omega)), HN.out, h3, HM4.out, own_modR HOE.out HRD.out hmf (by decide), own_modR HOF.out HRD.out hmf (by decide)⟩
    · have hBw0 : B = w.heap.size := HBB.out
      rw [hW9, hW8]; exact mod5 HM2.out (by omega) (by omega) _ _ _ _ _
  | true =>
    obtain ⟨s20, s21, s22⟩ := s2
    obtain ⟨B8, hB8⟩ : ∃ x, x = w2.heap.size := ⟨_, rfl⟩
    have hbb : B + 1 + 1 + 1 < B8 := by have := HS1.out; omega
    obtain ⟨W3, hW3⟩ : ∃ W3, W3 = w2.alloc (.cells #[.string key, .int .i64 q, .bool false, .string ⟨#[]⟩] 42) := ⟨_, rfl⟩
    have hs3 : W3.heap.size = B8 + 1 := by rw [hW3, hB8]; simp
    obtain ⟨W4, hW4⟩ : ∃ W4, W4 = (W3.alloc (.cells #[.slice A n c] 22)).alloc (.cells #[.int .i64 3] 3) := ⟨_, rfl⟩
    have hG4 : GtB w R B B8 A n c F m d key q ex W4 := by
      have hb3' : Below w2.heap.size w2 W4 := by
        rw [hW4, hW3]
        exact ((((Below.refl w2.heap.size w2).alloc (Nat.le_refl _) _).alloc (by simp) _).alloc (by simp; omega) _)
      refine ⟨hr2.same (hb3'.block _ hr2.lt), ?_, ?_, h6'.same (hb3'.block _ h6'.lt), h7'.same (hb3'.block _ h7'.lt), ?_, ?_, ?_, Mod.belowR hm2 hb3'⟩
      · have := H3.out.same (hb2.block _ H3.out.lt)
        exact this.same (hb3'.block _ this.lt)
      · have := H4.out.same (hb2.block _ H4.out.lt)
        exact this.same (hb3'.block _ this.lt)
      · rw [hW4, hW3, hB8]; exact ((Blk.new w2 _ _).alloc _).alloc _
      · rw [hW4, ← hs3]; exact (Blk.new W3 _ _).alloc _
      · rw [hW4]
        have := Blk.new (W3.alloc (.cells #[.slice A n c] 22)) 3 #[.int .i64 3]
        rw [World.size_alloc, hs3] at this
        exact this
    have s30 : W3.cell? ⟨B, 0, none⟩ = some (.pointer (some ⟨R, 0, none⟩)) := by
      have := (H3.out.same (hb2.block _ H3.out.lt)).alloc (.cells #[.string key, .int .i64 q, .bool false, .string ⟨#[]⟩] 42)
      rw [← hW3] at this
      exact this.cell 0
    have s31 : W3.cell? ⟨R, 0, none⟩ = some (.slice A n c) := by
      have := hr2.alloc (.cells #[.string key, .int .i64 q, .bool false, .string ⟨#[]⟩] 42)
      rw [← hW3] at this
      exact this.cell 0
    have HG4 := Lib.hid hG4
    have HW4 := Lib.hid hW4
    have HS3 := Lib.hid hs3
    clear h6' h7' hr2 hm2 hb2 hG4 hW4 hs3
    go_wp2
    go_step3
    rw [← hW3, ← hB8]
    clear hW3 hB8 s20 s21 s22
    go_wp2_with (go_at_call 29; refine (callsIn_wide.1 (chunk_in (n := n) (c := c) 5 W3 A)).mono ?_; rintro e w3 ⟨rfl, rfl⟩)
    rw [← HW4.out, HS3.out]
    obtain ⟨K, hK⟩ : ∃ K, K = (n + 2) / 3 := ⟨_, rfl⟩
    have hn84 : n ≤ 84 := by have := HG.out.le; have := HN.out; omega
    have hn0 : 0 < n := by have := HG.out.pos; have := HN.out; omega
    have hnc : n ≤ c := h3
    obtain ⟨g, p, hA, hgA⟩ : ∃ g p, A = some ⟨g, p, none⟩ ∧ g < w.heap.size := by
      obtain ⟨g, p, e, hgl, _⟩ := (rd_ownN HOE.out) (by intro e; have := Mm.ev_len L; rw [e] at this; simp at this; have := HN.out; omega)
      exact ⟨g, p, e, hgl⟩
    subst hA
    have hrow : ∀ W : World, Mod (fun k => k = R) w W → Rd W (some ⟨g, p, none⟩) (ev L) := fun W hW => rd_ownN (own_same HOE.out fun k hk => by
      obtain ⟨_, hb⟩ := own_blk HOE.out hk
      refine hW.block k hb.lt fun e => ?_
      subst e
      have hr0 := HRD.out
      unfold Blk at hb hr0
      rw [hb] at hr0
      injection hr0 with hr0
      injection hr0 with _ h5
      exact absurd h5 (by decide))
    have HROW := Lib.hid hrow
    have HK := Lib.hid hK
    have hI0 : GtI w R B B8 (some ⟨g, p, none⟩) n c F m d key q ex L K [] W4 := ⟨ex, by simp [cntR], HG4.out, fun x hx => by cases hx⟩
    have HI0 := Lib.hid hI0
    have hX : w.heap.size ≤ W4.heap.size := HG4.out.mod.size
    have hc1 := HG4.out.c1
    have hc2 := HG4.out.c2
    have HC1 := Lib.hid hc1
    have HC2 := Lib.hid hc2
    have hX1 := hc1.lt
    have hX2 := hc2.lt
    have hBw : w.heap.size = B := HBB.out.symm
    clear hK hrow hI0 hc1 hc2 s30 s31 c3 c4 c5 H3 H4 H6 H7 HR1 HB1 HW4 HS3 HMY HFR HS1
    refine act_gen fun a0 ha0 => ?_
    refine (wpIn_wide (n := 7)).1 ?_
    refine wpIn_rangeFunc_ownH rfl (by omega) (gf := 58) (lb := #[.pointer (some ⟨B8 + 1, 0, none⟩), .pointer (some ⟨B8 + 1 + 1, 0, none⟩)]) (by rw [ha0]; rfl) trivial (enters_of Tryd.func58 (by kernel_rfl) rfl)
      (chunk_stops (g := g) (p := p) (n := n) (c := c) (K := K) (7 - 1) (by omega) (some ⟨g, p, none⟩) (fun _ => rfl) HK.out (by omega) hnc HC1.out HC2.out) kpS_t (kpS_b (fun b hb => by rcases hb with rfl | rfl <;> assumption)) (Below.refl _ _) (fun _ => rfl)
      (GtI w R B B8 (some ⟨g, p, none⟩) n c F m d key q ex L K) (GtX w R B B8 (some ⟨g, p, none⟩) n c F m d key q ex L K) (GtI.own hX) (fun cd => GtX.own hX cd) HI0.out
      (fun x a' _ => a' = { tmps := (a0.tmps.setIfInBounds 28 (cvl g p n x.1)).setIfInBounds 9 (cvl g p n x.1), defers := [] })
      (fun x a' s W W' row h hg hr => h) ?assign ?body ?done ?stop
    case assign =>
      intro l' pre x W K' hI hK'
      subst ha0
      gi_wp2
      exact hK' _ _ (KeepsFrom.refl _ _) (fun _ _ => rfl) hI rfl
    case body =>
      rintro l' pre x a' W _ _ hI rfl hlen
      subst ha0
      simp only [List.setIfInBounds_toArray, List.set_cons_zero, List.set_cons_succ]
      obtain ⟨x, hxK⟩ := x
      obtain ⟨ex', hex, hG, hno⟩ := hI
      obtain ⟨qn, hqn⟩ : ∃ qn, qn = min 3 (n - 3 * x) := ⟨_, rfl⟩
      have hcv : cvl g p n x = .slice (some ⟨g, p + x * 12, none⟩) qn qn := by unfold cvl; rw [← hqn]
      have hLn := HN.out
      have hKn := HK.out
      have hq3 : qn ≤ 3 := by omega
      have hq0 : 0 < qn := by omega
      have hxq : 3 * x + qn ≤ n := by omega
      obtain ⟨j0, hqj⟩ : ∃ j0, qn = j0 + 1 := ⟨qn - 1, by omega⟩
      obtain ⟨e0, he0⟩ : ∃ e, L[3 * x]? = some e := ⟨L[3 * x]'(by omega), List.getElem?_eq_getElem _⟩
      obtain ⟨e1, he1⟩ : ∃ e, L[3 * x + j0]? = some e := ⟨L[3 * x + j0]'(by omega), List.getElem?_eq_getElem _⟩
      have hb0 : (chk L x)[0]? = some e0 := by rw [chk_at (by omega)]; exact he0
      have hb1 : (chk L x)[j0]? = some e1 := by rw [chk_at (by omega)]; exact he1
      have hcl : (chk L x).length = qn := by rw [chk_len, hLn, hqn]
      have hfk : firstK (chk L x) = e0.k := by unfold firstK; rw [List.head?_eq_getElem?, hb0]; exact k_data e0
      have hlk : lastK (chk L x) = e1.k := by unfold lastK; rw [List.getLast?_eq_getElem?, hcl, hqj, Nat.add_sub_cancel, hb1]; exact k_data e1
      have hin : inR L key x = (!decide (e1.k < key.toList) && !decide (key.toList < e0.k)) := by unfold inR; rw [hfk, hlk]
      have hsn : cntR L key ((pre ++ [(⟨x, hxK⟩ : Fin K)]).map (·.1)) = cntR L key (pre.map (·.1)) + (if inR L key x then 1 else 0) := by rw [List.map_append, List.map_singleton, cntR_snoc]
      have hcp : cntR L key (pre.map (·.1)) ≤ 28 := by
        have h1 : cntR L key (pre.map (·.1)) ≤ (pre.map (·.1)).length := List.length_filter_le _ _
        rw [List.length_map] at h1
        omega
      have hrd : ∀ W', Mod (fun k => k = R) w W' → Rd W' (some ⟨g, p + x * 12, none⟩) (ev (chk L x)) := fun W' h' => rd_chk (HROW.out W' h') x
      have hse := HG.out.sorted
      have hd1 : 1 ≤ 7 - 1 - 1 := by omega
      have bl1 : Op.bytesLess e1.key.toList key.toList = decide (e1.k < key.toList) := bytesLess_eq _ _
      have bl0 : Op.bytesLess key.toList e0.key.toList = decide (key.toList < e0.k) := bytesLess_eq _ _
      have s0 : W.cell? ⟨B + 1, 0, none⟩ = some (.string key) := hG.b4.cell 0
      have HEX := Lib.hid hex
      have HGG := Lib.hid hG
      have HNO := Lib.hid hno
      have HE0 := Lib.hid he0
      have HE1 := Lib.hid he1
      have HB0 := Lib.hid hb0
      have HB1 := Lib.hid hb1
      have HCL := Lib.hid hcl
      have HIN := Lib.hid hin
      have HSN := Lib.hid hsn
      have HRDC := Lib.hid hrd
      have HSE := Lib.hid hse
      have HQJ := Lib.hid hqj
      have HQN := Lib.hid hqn
      have HLN := Lib.hid hLn
      have HKN := Lib.hid hKn
      have HBL1 := Lib.hid bl1
      have HBL0 := Lib.hid bl0
      dsimp only
      rw [hcv]
      clear hex hG hno he0 he1 hb0 hb1 hcl hfk hlk hin hsn hrd hse hcv hqj hqn hLn hKn bl1 bl0 HI0 HC1 HC2 HG4
      cases hbl : Op.bytesLess e1.key.toList key.toList with
      | true =>
        gi_wp2
        refine Bl.region_round (S := fun W' => W'.cell? ⟨B + 1, 0, none⟩ = some (.string key)) (by kernel_rfl) (by kernel_rfl) (by (first | exact s0 | (with_reducible assumption))) (fun hHeld => ?_)
        refine wpAnyH_take (i := 0) (v := ?vr2_0) (Fr.take_at rfl) (by kernel_rfl) (by kernel_rfl) (by kernel_rfl) (fun _ _ _ h => h) (Or.inl ⟨by rfl, ?yr2_0⟩) (by assumption) ?nr2_0
        case yr2_0 => (intro w_ hSw; (try dsimp only at hSw); go_simp; (try with_reducible rfl))
        try simp only [Act.put, List.setIfInBounds_toArray, List.set_cons_zero, List.set_cons_succ]
        refine wpAnyH_take (i := 2) (v := ?vr2_2) (Fr.take_at rfl) (by kernel_rfl) (by kernel_rfl) (by kernel_rfl) (fun _ _ _ h => h) (Or.inl ⟨by rfl, ?yr2_2⟩) (by assumption) ?nr2_2
        case yr2_2 => (intro w_ hSw; (try dsimp only at hSw); go_simp; (try with_reducible rfl))
        try simp only [Act.put, List.setIfInBounds_toArray, List.set_cons_zero, List.set_cons_succ]
        refine wpAnyH_ready (rs := [1]) (by kernel_rfl) (by simp) ?_
        refine AllReadyH.cons (Fr.take_at rfl) (fun K hK => ?_) AllReadyH.nil
        go_simp
        (go_at_call 34; refine (last_any (n := qn) (j := j0) HQJ.out HB1.out (HRDC.out _ HGG.out.mod.drew) (by omega)).mono ?_; rintro e _ ⟨rfl, rfl⟩)
        try go_wp2_with fail
        refine hK.out _ _ (by (first | exact s0 | (with_reducible assumption))) (fun hHeld => ?_)
        clear hK K
        try simp only [Act.put, List.setIfInBounds_toArray, List.set_cons_zero, List.set_cons_succ]
        refine wpAnyH_take (i := 3) (v := ?vr2_3) (Fr.take_at rfl) (by kernel_rfl) (by kernel_rfl) (by kernel_rfl) (fun _ _ _ h => h) (Or.inl ⟨by rfl, ?yr2_3⟩) (by assumption) ?nr2_3
        case yr2_3 => (intro w_ hSw; (try dsimp only at hSw); go_simp; (try with_reducible rfl))
        try simp only [Act.put, List.setIfInBounds_toArray, List.set_cons_zero, List.set_cons_succ]
        refine wpAnyH_take (i := 4) (v := ?vr2_4) (Fr.take_at rfl) (by kernel_rfl) (by kernel_rfl) (by kernel_rfl) (fun _ _ _ h => h) (Or.inl ⟨by rfl, ?yr2_4⟩) (by assumption) ?nr2_4
        case yr2_4 => (intro w_ hSw; (try dsimp only at hSw); go_simp; (try with_reducible rfl))
        try simp only [Act.put, List.setIfInBounds_toArray, List.set_cons_zero, List.set_cons_succ]
        refine wpAnyH_done (by kernel_rfl) ?_ _
        dsimp only [Bl.OnlyNormal]
        gi_wp2
        have h1 : e1.k < key.toList := by have := HBL1.out; rw [hbl] at this; simpa using this.symm
        refine ⟨(KeepsOthers.drew _).from _, fun _ _ => rfl, ex', ?_, HGG.out.drew, fun y hy => ?_⟩
        · rw [HSN.out, HIN.out]; simp [h1]; exact HEX.out
        · rcases List.mem_append.1 hy with hy | hy
          · exact HNO.out y hy
          · obtain rfl := List.mem_singleton.1 hy
            exact low_all HSE.out HE1.out h1 fun j e hj he => by
              have he' : L[3 * x + j]? = some e := he
              have := (List.getElem?_eq_some_iff.1 he').1
              have := HQN.out; have := HQJ.out; have := HLN.out
              show 3 * x + j ≤ 3 * x + j0
              omega
      | false =>
        gi_wp2
        refine Bl.region_round (S := fun W' => W'.cell? ⟨B + 1, 0, none⟩ = some (.string key)) (by kernel_rfl) (by kernel_rfl) (by (first | exact s0 | (with_reducible assumption))) (fun hHeld => ?_)
        refine wpAnyH_take (i := 0) (v := ?vr3_0) (Fr.take_at rfl) (by kernel_rfl) (by kernel_rfl) (by kernel_rfl) (fun _ _ _ h => h) (Or.inl ⟨by rfl, ?yr3_0⟩) (by assumption) ?nr3_0
        case yr3_0 => (intro w_ hSw; (try dsimp only at hSw); go_simp; (try with_reducible rfl))
        try simp only [Act.put, List.setIfInBounds_toArray, List.set_cons_zero, List.set_cons_succ]
        refine wpAnyH_take (i := 2) (v := ?vr3_2) (Fr.take_at rfl) (by kernel_rfl) (by kernel_rfl) (by kernel_rfl) (fun _ _ _ h => h) (Or.inl ⟨by rfl, ?yr3_2⟩) (by assumption) ?nr3_2
        case yr3_2 => (intro w_ hSw; (try dsimp only at hSw); go_simp; (try with_reducible rfl))
        try simp only [Act.put, List.setIfInBounds_toArray, List.set_cons_zero, List.set_cons_succ]
        refine wpAnyH_ready (rs := [1]) (by kernel_rfl) (by simp) ?_
        refine AllReadyH.cons (Fr.take_at rfl) (fun K hK => ?_) AllReadyH.nil
        go_simp
        (go_at_call 34; refine (last_any (n := qn) (j := j0) HQJ.out HB1.out (HRDC.out _ HGG.out.mod.drew) (by omega)).mono ?_; rintro e _ ⟨rfl, rfl⟩)
        try go_wp2_with fail
        refine hK.out _ _ (by (first | exact s0 | (with_reducible assumption))) (fun hHeld => ?_)
        clear hK K
        try simp only [Act.put, List.setIfInBounds_toArray, List.set_cons_zero, List.set_cons_succ]
        refine wpAnyH_take (i := 3) (v := ?vr3_3) (Fr.take_at rfl) (by kernel_rfl) (by kernel_rfl) (by kernel_rfl) (fun _ _ _ h => h) (Or.inl ⟨by rfl, ?yr3_3⟩) (by assumption) ?nr3_3
        case yr3_3 => (intro w_ hSw; (try dsimp only at hSw); go_simp; (try with_reducible rfl))
        try simp only [Act.put, List.setIfInBounds_toArray, List.set_cons_zero, List.set_cons_succ]
        refine wpAnyH_take (i := 4) (v := ?vr3_4) (Fr.take_at rfl) (by kernel_rfl) (by kernel_rfl) (by kernel_rfl) (fun _ _ _ h => h) (Or.inl ⟨by rfl, ?yr3_4⟩) (by assumption) ?nr3_4
        case yr3_4 => (intro w_ hSw; (try dsimp only at hSw); go_simp; (try with_reducible rfl))
        try simp only [Act.put, List.setIfInBounds_toArray, List.set_cons_zero, List.set_cons_succ]
        refine wpAnyH_done (by kernel_rfl) ?_ _
        dsimp only [Bl.OnlyNormal]
        gi_wp2
        obtain ⟨Wa, hWa⟩ : ∃ Wa, Wa = W.drew := ⟨_, rfl⟩
        have hGa : GtB w R B B8 (some ⟨g, p, none⟩) n c F m d key q ex' Wa := by rw [hWa]; exact HGG.out.drew
        have sa : Wa.cell? ⟨B + 1, 0, none⟩ = some (.string key) := hGa.b4.cell 0
        have hka : KeepsOthers W Wa ∧ KpS (ChS (B8 + 1) (B8 + 1 + 1)) W Wa := by rw [hWa]; exact ⟨KeepsOthers.drew _, fun _ _ => rfl⟩
        have HGA := Lib.hid hGa
        have HKA := Lib.hid hka
        rw [← hWa]
        clear hWa hGa hka s0 HGG
        have hgt := str_gtr e0.key key
        have hgt2 : (!Op.bytesLess e0.key.toList key.toList && !e0.key.toList == key.toList) = Op.bytesLess key.toList e0.key.toList := by rw [← hgt, Bool.not_or]
        cases hbl0 : Op.bytesLess key.toList e0.key.toList with
        | true =>
          rw [hbl0] at hgt2
          obtain ⟨hv1, hv2⟩ : Op.bytesLess e0.key.toList key.toList = false ∧ (e0.key.toList == key.toList) = false := by
            cases h1 : Op.bytesLess e0.key.toList key.toList <;> cases h2 : (e0.key.toList == key.toList) <;> simp_all
          clear hgt hgt2
          refine Bl.region_round (S := fun W' => W'.cell? ⟨B + 1, 0, none⟩ = some (.string key)) (by kernel_rfl) (by kernel_rfl) (by (first | exact sa | (with_reducible assumption))) (fun hHeld => ?_)
          refine wpAnyH_take (i := 0) (v := ?vr4_0) (Fr.take_at rfl) (by kernel_rfl) (by kernel_rfl) (by kernel_rfl) (fun _ _ _ h => h) (Or.inl ⟨by rfl, ?yr4_0⟩) (by assumption) ?nr4_0
          case yr4_0 => (intro w_ hSw; (try dsimp only at hSw); go_simp; (try with_reducible rfl))
          try simp only [Act.put, List.setIfInBounds_toArray, List.set_cons_zero, List.set_cons_succ]
          refine wpAnyH_take (i := 2) (v := ?vr4_2) (Fr.take_at rfl) (by kernel_rfl) (by kernel_rfl) (by kernel_rfl) (fun _ _ _ h => h) (Or.inl ⟨by rfl, ?yr4_2⟩) (by assumption) ?nr4_2
          case yr4_2 => (intro w_ hSw; (try dsimp only at hSw); go_simp; (try with_reducible rfl))
          try simp only [Act.put, List.setIfInBounds_toArray, List.set_cons_zero, List.set_cons_succ]
          refine wpAnyH_ready (rs := [1]) (by kernel_rfl) (by simp) ?_
          refine AllReadyH.cons (Fr.take_at rfl) (fun K hK => ?_) AllReadyH.nil
          go_simp
          (go_at_call 33; refine (first_any hq0 HB0.out (HRDC.out _ HGA.out.mod.drew)).mono ?_; rintro e _ ⟨rfl, rfl⟩)
          try go_wp2_with fail
          refine hK.out _ _ (by (first | exact sa | (with_reducible assumption))) (fun hHeld => ?_)
          clear hK K
          try simp only [Act.put, List.setIfInBounds_toArray, List.set_cons_zero, List.set_cons_succ]
          refine wpAnyH_take (i := 3) (v := ?vr4_3) (Fr.take_at rfl) (by kernel_rfl) (by kernel_rfl) (by kernel_rfl) (fun _ _ _ h => h) (Or.inl ⟨by rfl, ?yr4_3⟩) (by assumption) ?nr4_3
          case yr4_3 => (intro w_ hSw; (try dsimp only at hSw); go_simp; (try with_reducible rfl))
          try simp only [Act.put, List.setIfInBounds_toArray, List.set_cons_zero, List.set_cons_succ]
          refine wpAnyH_take (i := 4) (v := ?vr4_4) (Fr.take_at rfl) (by kernel_rfl) (by kernel_rfl) (by kernel_rfl) (fun _ _ _ h => h) (Or.inl ⟨by rfl, ?yr4_4⟩) (by assumption) ?nr4_4
          case yr4_4 => (intro w_ hSw; (try dsimp only at hSw); go_simp; (try with_reducible rfl))
          try simp only [Act.put, List.setIfInBounds_toArray, List.set_cons_zero, List.set_cons_succ]
          refine wpAnyH_done (by kernel_rfl) ?_ _
          dsimp only [Bl.OnlyNormal]
          gi_wp2
          have h0 : key.toList < e0.k := by have := HBL0.out; rw [hbl0] at this; simpa using this.symm
          refine ⟨(HKA.out.1.trans (KeepsOthers.drew _)).from _, pre, ⟨x, hxK⟩, ex', rfl, HNO.out, by rw [HEX.out]; omega, by rw [HSN.out, HEX.out]; omega, .inl ⟨rfl, HGA.out.drew, after_all HSE.out HE0.out h0⟩⟩
        | false =>
          have hx1' : ex' ≤ 1000100 := by have := HEX.out; omega
          have hx0' : 0 ≤ ex' := by have := HEX.out; omega
          rw [hbl0] at hgt2
          clear hgt
          refine Bl.region_round (S := fun W' => W'.cell? ⟨B + 1, 0, none⟩ = some (.string key)) (by kernel_rfl) (by kernel_rfl) (by (first | exact sa | (with_reducible assumption))) (fun hHeld => ?_)
          refine wpAnyH_take (i := 0) (v := ?vr5_0) (Fr.take_at rfl) (by kernel_rfl) (by kernel_rfl) (by kernel_rfl) (fun _ _ _ h => h) (Or.inl ⟨by rfl, ?yr5_0⟩) (by assumption) ?nr5_0
          case yr5_0 => (intro w_ hSw; (try dsimp only at hSw); go_simp; (try with_reducible rfl))
          try simp only [Act.put, List.setIfInBounds_toArray, List.set_cons_zero, List.set_cons_succ]
          refine wpAnyH_take (i := 2) (v := ?vr5_2) (Fr.take_at rfl) (by kernel_rfl) (by kernel_rfl) (by kernel_rfl) (fun _ _ _ h => h) (Or.inl ⟨by rfl, ?yr5_2⟩) (by assumption) ?nr5_2
          case yr5_2 => (intro w_ hSw; (try dsimp only at hSw); go_simp; (try with_reducible rfl))
          try simp only [Act.put, List.setIfInBounds_toArray, List.set_cons_zero, List.set_cons_succ]
          refine wpAnyH_ready (rs := [1]) (by kernel_rfl) (by simp) ?_
          refine AllReadyH.cons (Fr.take_at rfl) (fun K hK => ?_) AllReadyH.nil
          go_simp
          (go_at_call 33; refine (first_any hq0 HB0.out (HRDC.out _ HGA.out.mod.drew)).mono ?_; rintro e _ ⟨rfl, rfl⟩)
          try go_wp2_with fail
          refine hK.out _ _ (by (first | exact sa | (with_reducible assumption))) (fun hHeld => ?_)
          clear hK K
          try simp only [Act.put, List.setIfInBounds_toArray, List.set_cons_zero, List.set_cons_succ]
          refine wpAnyH_take (i := 3) (v := ?vr5_3) (Fr.take_at rfl) (by kernel_rfl) (by kernel_rfl) (by kernel_rfl) (fun _ _ _ h => h) (Or.inl ⟨by rfl, ?yr5_3⟩) (by assumption) ?nr5_3
          case yr5_3 => (intro w_ hSw; (try dsimp only at hSw); go_simp; (try with_reducible rfl))
          try simp only [Act.put, List.setIfInBounds_toArray, List.set_cons_zero, List.set_cons_succ]
          refine wpAnyH_take (i := 4) (v := ?vr5_4) (Fr.take_at rfl) (by kernel_rfl) (by kernel_rfl) (by kernel_rfl) (fun _ _ _ h => h) (Or.inl ⟨by rfl, ?yr5_4⟩) (by assumption) ?nr5_4
          case yr5_4 => (intro w_ hSw; (try dsimp only at hSw); go_simp; (try with_reducible rfl))
          try simp only [Act.put, List.setIfInBounds_toArray, List.set_cons_zero, List.set_cons_succ]
          refine wpAnyH_done (by kernel_rfl) ?_ _
          dsimp only [Bl.OnlyNormal]
          obtain ⟨Wb, hWb⟩ : ∃ Wb, Wb = Wa.drew := ⟨_, rfl⟩
          have hGb : GtB w R B B8 (some ⟨g, p, none⟩) n c F m d key q ex' Wb := by rw [hWb]; exact HGA.out.drew
          have hkb : KeepsOthers W Wb ∧ KpS (ChS (B8 + 1) (B8 + 1 + 1)) W Wb := by rw [hWb]; exact ⟨HKA.out.1.trans (KeepsOthers.drew _), HKA.out.2⟩
          have hii : inR L key x = true := by
            rw [HIN.out]
            have h1 := HBL1.out
            have h2 := HBL0.out
            rw [hbl] at h1
            rw [hbl0] at h2
            rw [← h1, ← h2]
            rfl
          have r2 : Wb.cell? ⟨R, 2, none⟩ = some (.int .i64 ex') := hGb.r.cell 2
          have rf : Wb.frozen? ⟨R, 2, none⟩ = false := hGb.r.frozen 2
          have r3 : Wb.cell? ⟨B, 0, none⟩ = some (.pointer (some ⟨R, 0, none⟩)) := hGb.b3.cell 0
          have hset : ∀ k, k ≠ R → (Wb.setCell ⟨R, 2, none⟩ (.int .i64 (ex' + 1))).heap[k]? = Wb.heap[k]? := fun k hk => Below.heap_setCell _ _ _ _ hk
          have hGc : GtB w R B B8 (some ⟨g, p, none⟩) n c F m d key q (ex' + 1) (Wb.setCell ⟨R, 2, none⟩ (.int .i64 (ex' + 1))) := by
            refine ⟨by simpa using hGb.r.set 2 (.int .i64 (ex' + 1)), hGb.b3.same (hset _ (by omega)), hGb.b4.same (hset _ (by omega)), hGb.b6.same (hset _ (by omega)), hGb.b7.same (hset _ (by omega)), hGb.b8.same (hset _ (by omega)), hGb.c1.same (hset _ (by omega)), hGb.c2.same (hset _ (by omega)), hGb.mod.setCell (fun _ => rfl) _⟩
          have hkc : KeepsOthers W (Wb.setCell ⟨R, 2, none⟩ (.int .i64 (ex' + 1))) ∧ KpS (ChS (B8 + 1) (B8 + 1 + 1)) W (Wb.setCell ⟨R, 2, none⟩ (.int .i64 (ex' + 1))) := ⟨hkb.1.trans (KeepsOthers.setCell _ _ _), fun k hk => (hset k (by rcases hk with rfl | rfl <;> omega)).trans (hkb.2 k hk)⟩
          have HGC := Lib.hid hGc
          have HKC := Lib.hid hkc
          have HII := Lib.hid hii
          have hwx : IntKind.i64.wrap (ex' + 1) = ex' + 1 := IntWalk.i64_in _ (by omega)
          (try rw [← hWb])
          clear hWb hGb hkb hset hGc hkc hii HGA HKA sa hHeld
          gi_wp2
          obtain ⟨Wc, hWc⟩ : ∃ Wc, Wc = Wb.setCell ⟨R, 2, none⟩ (.int .i64 (ex' + 1)) := ⟨_, rfl⟩
          rw [← hWc] at HGC HKC
          rw [← hWc]
          clear hWc hgt2 r2 rf r3 hwx
          gi_loopw [48] (fun i wr => ∃ j : Nat, j ≤ qn ∧ i = .int .i64 (j : Int) ∧ Hid (GtB w R B B8 (some ⟨g, p, none⟩) n c F m d key q (ex' + 1) wr) ∧ Hid (KeepsOthers W wr ∧ KpS (ChS (B8 + 1) (B8 + 1 + 1)) W wr) ∧ Hid (∀ (j' : Nat) (e : En), j' < j → L[3 * x + j']? = some e → Mm.hit key.toList q e = false)) (fun i _ => qn - (intOf i).toNat)
          case atStart => exact ⟨0, by omega, rfl, HGC, HKC, Lib.hid fun j' e h => by omega⟩
          case round =>
            clear HGC HKC
            obtain ⟨j, hj, rfl, HGC, HKC, HNJ⟩ := hrel
            by_cases hlt : j < qn
            · obtain ⟨y, hy⟩ : ∃ y, L[3 * x + j]? = some y := ⟨L[3 * x + j]'(by have := HLN.out; omega), List.getElem?_eq_getElem _⟩
              have hyc : (chk L x)[j]? = some y := by rw [chk_at (by omega)]; exact hy
              obtain ⟨g', p', hgp, hg', y0, y1, y2, y3⟩ := erd_at (HRDC.out _ HGC.out.mod) hyc
              injection hgp with hgp
              injection hgp with hg1 hp1
              subst hg1 hp1
              obtain ⟨W5, hW5⟩ : ∃ W5, W5 = wr.alloc (.cells #[.string y.key, .int .i64 y.seq, .bool y.del, .string y.val] 42) := ⟨_, rfl⟩
              obtain ⟨E, hE⟩ : ∃ E, E = wr.heap.size := ⟨_, rfl⟩
              have hbx : Blk W5 E 42 #[.string y.key, .int .i64 y.seq, .bool y.del, .string y.val] := by rw [hW5, hE]; exact Blk.new _ _ _
              have hb5 : Below wr.heap.size wr W5 := by rw [hW5]; exact (Below.refl _ _).alloc (Nat.le_refl _) _
              have hG5 := HGC.out.below hb5
              have hK5 : KeepsOthers W W5 ∧ KpS (ChS (B8 + 1) (B8 + 1 + 1)) W W5 := ⟨HKC.out.1.trans (by rw [hW5]; exact KeepsOthers.alloc _ _), fun k hk => (hb5.block k (by rcases hk with rfl | rfl; exact HGC.out.c1.lt; exact HGC.out.c2.lt)).trans (HKC.out.2 k hk)⟩
              obtain ⟨u, hu⟩ : ∃ u, cmpE y ⟨key, q, false, ⟨#[]⟩⟩ = u := ⟨_, rfl⟩
              have hcb := cmpE_lt y ⟨key, q, false, ⟨#[]⟩⟩
              rw [hu] at hcb
              have HCM := Lib.hid (compare_z hu)
              have HBX := Lib.hid hbx
              have HG5 := Lib.hid hG5
              have HK5 := Lib.hid hK5
              have HY := Lib.hid hy
              have HCB := Lib.hid hcb
              have HHW := Lib.hid hW5
              have HHE := Lib.hid hE
              have k1 : (j : Int) < (qn : Int) := by omega
              have k2 : (0 : Int) ≤ (j : Int) := by omega
              have hf3 : Fence.wide.fn 51 := trivial
              clear hbx hb5 hG5 hK5 hu hy hyc hcb hW5 hE
              gi_upto_region 12 with fail
              rw [← HHW.out, ← HHE.out]
              obtain ⟨⟨z0, z1, z2, z3⟩, _⟩ := cells4E HBX.out
              obtain ⟨⟨v0, v1, v2, v3⟩, _⟩ := cells4E HG5.out.b8
              clear HHW HHE y0 y1 y2 y3
              have hkt : (⟨key, q, false, ⟨#[]⟩⟩ : En).k = key.toList := rfl
              by_cases hbf : bef y key.toList q
              · have kd : decide (u < 0) = true := by simpa using HCB.out.2 hbf
                gi_wp2_with (gi_at_call 51; refine (CallsIn.inRound _ (callsIn_wide.2 (HCM.out _))).mono ?_; rintro e w6 ⟨rfl, hb6⟩)
                go_roundw
                case rel =>
                  refine ⟨j + 1, by omega, by first | rfl | go_num, Lib.hid (HG5.out.below hb6), Lib.hid ⟨HK5.out.1.trans (U8s.below hb6).others, fun k hk => (hb6.block k (by rcases hk with rfl | rfl; exact HG5.out.c1.lt; exact HG5.out.c2.lt)).trans (HK5.out.2 k hk)⟩, Lib.hid fun j' e hj' he => ?_⟩
                  rcases Nat.lt_or_ge j' j with h7 | h7
                  · exact HNJ.out j' e h7 he
                  · obtain rfl : j' = j := by omega
                    rw [HY.out] at he
                    cases he
                    exact hit_bef hbf
                case measure => simp [intOf]; omega
              · have kd : decide (u < 0) = false := by
                  have h7 : ¬ u < 0 := fun h => hbf (HCB.out.1 h)
                  simpa using h7
                cases hke : (y.key.toList == key.toList) with
                | false =>
                  have hne : y.k ≠ key.toList := fun e => by
                    have : (y.key.toList == key.toList) = true := by rw [show y.key.toList = y.k from rfl, e]; simp
                    rw [hke] at this
                    cases this
                  gi_wp2_with (gi_at_call 51; refine (CallsIn.inRound _ (callsIn_wide.2 (HCM.out _))).mono ?_; rintro e w6 ⟨rfl, hb6⟩; have hG6 := HG5.out.below hb6; have c61 : w6.cell? ⟨B + 1, 0, none⟩ = some (.string key) := hG6.b4.cell 0; have c62 : w6.cell? ⟨E, 0, none⟩ = some (.string y.key) := (HBX.out.same (hb6.block _ HBX.out.lt)).cell 0; have HG6 := Lib.hid hG6; clear hG6)
                  refine ⟨(HK5.out.1.trans (U8s.below hb6).others).from _, pre, ⟨x, hxK⟩, ex' + 1, rfl, HNO.out, by rw [HEX.out]; omega, by rw [HSN.out, HEX.out, HII.out]; simp; omega, .inl ⟨rfl, HG6.out, fun i e hi he => ?_⟩⟩
                  rcases Nat.lt_or_ge i (3 * x + j) with h7 | h7
                  · have hi' : 3 * x ≤ i := hi
                    exact HNJ.out (i - 3 * x) e (by omega) (by rw [show 3 * x + (i - 3 * x) = i by omega]; exact he)
                  · exact after_all HSE.out HY.out (hit_after hbf hne) i e h7 he
                | true =>
                  have heq : y.k = key.toList := by have := hke; rw [beq_iff_eq] at this; exact this
                  gi_wp2_with (gi_at_call 51; refine (CallsIn.inRound _ (callsIn_wide.2 (HCM.out _))).mono ?_; rintro e w6 ⟨rfl, hb6⟩; have hG6 := HG5.out.below hb6; have c61 : w6.cell? ⟨B + 1, 0, none⟩ = some (.string key) := hG6.b4.cell 0; obtain ⟨⟨c62, c63, c64, c65⟩, _⟩ := cells4E (HBX.out.same (hb6.block _ HBX.out.lt)); obtain ⟨⟨c66, c67, c68, c69⟩, f66, f67, f68, f69⟩ := cells4E hG6.b6; have c70 : w6.cell? ⟨B + 1 + 1 + 1, 0, none⟩ = some (.bool false) := hG6.b7.cell 0; have f70 := hG6.b7.frozen 0; have HG6 := Lib.hid hG6; clear hG6)
                  have hBg : w.heap.size ≤ B + 1 + 1 := by omega
                  obtain ⟨g1, g2, g3, g4⟩ := five HG6.out.b6 HG6.out.b7 (by omega) (.string y.key) (.int .i64 y.seq) (.bool y.del) (.string y.val) (.bool true) rfl
                  have g5 := mod5 HG6.out.mod hBg (by omega : w.heap.size ≤ B + 1 + 1 + 1) (.string y.key) (.int .i64 y.seq) (.bool y.del) (.string y.val) (.bool true)
                  refine ⟨((HK5.out.1.trans (U8s.below hb6).others).trans g4).from _, pre, ⟨x, hxK⟩, ex' + 1, rfl, HNO.out, by rw [HEX.out]; omega, by rw [HSN.out, HEX.out, HII.out]; simp; omega, .inr ⟨rfl, ⟨3 * x + j, y, HY.out, hit_yes hbf heq, fun i e hi hi2 he => ?_, g1⟩, HG6.out.r.same (g3 _ (by omega) (by omega)), g2, g5⟩⟩
                  have hi' : 3 * x ≤ i := hi
                  exact HNJ.out (i - 3 * x) e (by omega) (by rw [show 3 * x + (i - 3 * x) = i by omega]; exact he)
            · obtain rfl : j = qn := by omega
              have k1 : ¬ (j : Int) < (j : Int) := by omega
              gi_wp2
              refine ⟨HKC.out.1.from _, HKC.out.2, ex' + 1, ?_, HGC.out, fun y hy => ?_⟩
              · rw [HSN.out, HEX.out, HII.out]; simp; omega
              · rcases List.mem_append.1 hy with hy | hy
                · exact HNO.out y hy
                · obtain rfl := List.mem_singleton.1 hy
                  intro j' e hj' he
                  have he' : L[3 * x + j']? = some e := he
                  have h7 := (List.getElem?_eq_some_iff.1 he').1
                  have h8 := HQN.out
                  have h9 := HLN.out
                  exact HNJ.out j' e (by omega) he'
    case done =>
      rintro D ys W hD hys ⟨ex', hex, hG, hno⟩ hK
      subst ha0
      obtain ⟨⟨c66, c67, c68, c69⟩, f66, f67, f68, f69⟩ := cells4E hG.b6
      have c70 : W.cell? ⟨B + 1 + 1 + 1, 0, none⟩ = some (.bool false) := hG.b7.cell 0
      have f70 := hG.b7.frozen 0
      have HGG := Lib.hid hG
      have HKK := Lib.hid hK
      have HNO := Lib.hid hno
      have HEX := Lib.hid hex
      have HYS := Lib.hid hys
      clear hG hK hno hex hys HI0 HG4 HC1 HC2
      go_wp2
      obtain ⟨g1, g2, g3, g4⟩ := five HGG.out.b6 HGG.out.b7 (by omega) (.string ⟨#[]⟩) (.int .i64 0) (.bool false) (.string ⟨#[]⟩) (.bool false) rfl
      have gm := mod5 HGG.out.mod (by omega : w.heap.size ≤ B + 1 + 1) (by omega : w.heap.size ≤ B + 1 + 1 + 1) (.string ⟨#[]⟩) (.int .i64 0) (.bool false) (.string ⟨#[]⟩) (.bool false)
      have gr := HGG.out.r.same (g3 _ (by omega) (by omega))
      have hK9 := g4.same D _ HKK.out rfl
      obtain ⟨W9, hW9⟩ : ∃ y, y = (((((W.setCell ⟨B + 1 + 1, 0, none⟩ (.string ⟨#[]⟩)).setCell ⟨B + 1 + 1, 1, none⟩ (.int .i64 0)).setCell ⟨B + 1 + 1, 2, none⟩ (.bool false)).setCell ⟨B + 1 + 1, 3, none⟩ (.string ⟨#[]⟩)).setCell ⟨B + 1 + 1 + 1, 0, none⟩ (.bool false)) := ⟨_, rfl⟩
      rw [← hW9] at g1 g2 gm gr hK9
      rw [← hW9]
      clear hW9 g3 g4
      have hsn : Mm.seen L key.toList q = none := seen_none fun i e he => front_no (x := K) HYS.out (fun y hy => by obtain ⟨z, hz, rfl⟩ := List.mem_map.1 hy; exact HNO.out z hz) i e (by have := (List.getElem?_eq_some_iff.1 he).1; have := HN.out; have := HK.out; omega) he
      rw [Exit.noGoto_ret]
      dsimp only [OnlyRet]
      refine ⟨by simp, .inl ⟨_, _, rfl, run_takeDeferred hK9, ?_⟩⟩
      have hput : ∀ k, k ≠ D → (W9.putObj D (.deferred none)).heap[k]? = W9.heap[k]? := fun k hk => World.putObj_heap_other hk
      have hDk : ∀ k t cs, Blk W9 k t cs → k ≠ D := fun k t cs hb e => by
        subst e
        rw [show W9.heap[k]? = _ from hb] at hK9
        cases hK9
      have p6 := g1.same (hput _ (hDk _ _ _ g1))
      have p7 := g2.same (hput _ (hDk _ _ _ g2))
      have pr := gr.same (hput _ (hDk _ _ _ gr))
      have pm : Mod (fun k => k = R) w (W9.putObj D (.deferred none)) := gm.trans (Mod.grown (S := fun k => some D = some k) (grownBy_putObj' W9 D (.deferred none)) fun k e => e) fun b hb e => by cases e; omega
      obtain ⟨⟨z0, z1, z2, z3⟩, _⟩ := cells4E p6
      have z4 : (W9.putObj D (.deferred none)).cell? ⟨B + 1 + 1 + 1, 0, none⟩ = some (.bool false) := p7.cell 0
      refine ⟨.tuple #[.agg #[.string ⟨#[]⟩, .int .i64 0, .bool false, .string ⟨#[]⟩], .bool false], ?_, noE, false, ex', rfl, ?_, ?_, ?_, ?_, ⟨some ⟨g, p, none⟩, n, c, F, m, d, pr, HN.out, h3, HM4.out, own_modR HOE.out HRD.out pm (by decide), own_modR HOF.out HRD.out pm (by decide)⟩, pm⟩
      · simp [results, Tryd.f21, go_sem, z0, z1, z2, z3, z4]
      · rw [hsn]; rfl
      · rw [hsn]; rfl
      · rw [HEX.out]; omega
      · rw [if_pos HMB.out.symm, HEX.out, HYS.out, HN.out, ← HK.out]; omega
    case stop =>
      rintro D cd pre W hD hpre ⟨p0, xl, ex', hpr, hp0, he0, he1, h5⟩ hK
      subst ha0
      have hcnt : cntR L key (pre.map (·.1)) ≤ cntR L key (List.range ((L.length + 2) / 3)) := by
        rw [HN.out, ← HK.out]
        exact (hpre.sublist.filter _).length_le
      have hp0r : p0.map (·.1) = List.range xl.1 := by
        rw [hpr, List.map_append, List.map_singleton] at hpre
        obtain ⟨r, hr⟩ := hpre
        have h1 := congrArg (fun l => l.take (p0.map (·.1)).length) hr
        simp only [List.append_assoc, List.take_left, List.take_range] at h1
        have h2 := congrArg (fun l => l[(p0.map (·.1)).length]?) hr
        simp only [List.append_assoc, List.getElem?_append_right (Nat.le_refl _), Nat.sub_self, List.singleton_append, List.getElem?_cons_zero] at h2
        have h3 := (List.getElem?_eq_some_iff.1 h2.symm)
        obtain ⟨h4, h6⟩ := h3
        rw [List.getElem_range] at h6
        rw [List.length_range] at h4
        rw [h1, h6, Nat.min_eq_left (by omega)]
      have HCNT := Lib.hid hcnt
      have HPR := Lib.hid hp0r
      have HP0 := Lib.hid hp0
      have hfront : ∀ (i : Nat) (e : En), i < 3 * xl.1 → L[i]? = some e → Mm.hit key.toList q e = false := front_no HPR.out fun y hy => by obtain ⟨z, hz, rfl⟩ := List.mem_map.1 hy; exact HP0.out z hz
      have HFR := Lib.hid hfront
      have HE0 := Lib.hid he0
      have HE1 := Lib.hid he1
      clear hcnt hp0r hp0 hfront he0 he1 hpre hpr HI0 HG4 HC1 HC2
      rcases h5 with ⟨rfl, hG, hno⟩ | ⟨rfl, ⟨i, y, hi, hit, hbefore, hb6⟩, hr, hb7, hm⟩
      · have HNO := Lib.hid hno
        obtain ⟨⟨c66, c67, c68, c69⟩, f66, f67, f68, f69⟩ := cells4E hG.b6
        have c70 : W.cell? ⟨B + 1 + 1 + 1, 0, none⟩ = some (.bool false) := hG.b7.cell 0
        have f70 := hG.b7.frozen 0
        have HGG := Lib.hid hG
        have HKK := Lib.hid hK
        clear hG hK hno
        gi_wp2
        go_wp2
        obtain ⟨g1, g2, g3, g4⟩ := five HGG.out.b6 HGG.out.b7 (by omega) (.string ⟨#[]⟩) (.int .i64 0) (.bool false) (.string ⟨#[]⟩) (.bool false) rfl
        have gm := mod5 HGG.out.mod (by omega : w.heap.size ≤ B + 1 + 1) (by omega : w.heap.size ≤ B + 1 + 1 + 1) (.string ⟨#[]⟩) (.int .i64 0) (.bool false) (.string ⟨#[]⟩) (.bool false)
        have gr := HGG.out.r.same (g3 _ (by omega) (by omega))
        have hK9 := g4.same D _ HKK.out rfl
        obtain ⟨W9, hW9⟩ : ∃ y, y = (((((W.setCell ⟨B + 1 + 1, 0, none⟩ (.string ⟨#[]⟩)).setCell ⟨B + 1 + 1, 1, none⟩ (.int .i64 0)).setCell ⟨B + 1 + 1, 2, none⟩ (.bool false)).setCell ⟨B + 1 + 1, 3, none⟩ (.string ⟨#[]⟩)).setCell ⟨B + 1 + 1 + 1, 0, none⟩ (.bool false)) := ⟨_, rfl⟩
        rw [← hW9] at g1 g2 gm gr hK9
        rw [← hW9]
        clear hW9 g3 g4
        have hsn : Mm.seen L key.toList q = none := seen_none fun i e he => by
          rcases Nat.lt_or_ge i (3 * xl.1) with h1 | h1
          · exact HFR.out i e h1 he
          · exact HNO.out i e h1 he
        rw [Exit.noGoto_ret]
        dsimp only [OnlyRet]
        refine ⟨by simp, .inl ⟨_, _, rfl, run_takeDeferred hK9, ?_⟩⟩
        have hput : ∀ k, k ≠ D → (W9.putObj D (.deferred none)).heap[k]? = W9.heap[k]? := fun k hk => World.putObj_heap_other hk
        have hDk : ∀ k t cs, Blk W9 k t cs → k ≠ D := fun k t cs hb e => by
          subst e
          rw [show W9.heap[k]? = _ from hb] at hK9
          cases hK9
        have p6 := g1.same (hput _ (hDk _ _ _ g1))
        have p7 := g2.same (hput _ (hDk _ _ _ g2))
        have pr := gr.same (hput _ (hDk _ _ _ gr))
        have pm : Mod (fun k => k = R) w (W9.putObj D (.deferred none)) := gm.trans (Mod.grown (S := fun k => some D = some k) (grownBy_putObj' W9 D (.deferred none)) fun k e => e) fun b hb e => by cases e; omega
        obtain ⟨⟨z0, z1, z2, z3⟩, _⟩ := cells4E p6
        have z4 : (W9.putObj D (.deferred none)).cell? ⟨B + 1 + 1 + 1, 0, none⟩ = some (.bool false) := p7.cell 0
        refine ⟨.tuple #[.agg #[.string ⟨#[]⟩, .int .i64 0, .bool false, .string ⟨#[]⟩], .bool false], ?_, noE, false, ex', rfl, ?_, ?_, ?_, ?_, ⟨some ⟨g, p, none⟩, n, c, F, m, d, pr, HN.out, h3, HM4.out, own_modR HOE.out HRD.out pm (by decide), own_modR HOF.out HRD.out pm (by decide)⟩, pm⟩
        · simp [results, Tryd.f21, go_sem, z0, z1, z2, z3, z4]
        · rw [hsn]; rfl
        · rw [hsn]; rfl
        · exact HE0.out
        · rw [if_pos HMB.out.symm]; have := HE1.out; have := HCNT.out; omega
      · gi_wp2
        have hsn : Mm.seen L key.toList q = some y := seen_some hi hit fun i' e' h1 he => by
          rcases Nat.lt_or_ge i' (3 * xl.1) with h2 | h2
          · exact HFR.out i' e' h2 he
          · exact hbefore i' e' h2 h1 he
        obtain ⟨W9, hW9⟩ : ∃ y, y = W := ⟨_, rfl⟩
        rw [← hW9] at hb6 hr hb7 hm hK
        rw [← hW9]
        have g1 := hb6
        have g2 := hb7
        have gr := hr
        have gm := hm
        have hK9 := hK
        rw [Exit.noGoto_ret]
        dsimp only [OnlyRet]
        refine ⟨by simp, .inl ⟨_, _, rfl, run_takeDeferred hK9, ?_⟩⟩
        have hput : ∀ k, k ≠ D → (W9.putObj D (.deferred none)).heap[k]? = W9.heap[k]? := fun k hk => World.putObj_heap_other hk
        have hDk : ∀ k t cs, Blk W9 k t cs → k ≠ D := fun k t cs hb e => by
          subst e
          rw [show W9.heap[k]? = _ from hb] at hK9
          cases hK9
        have p6 := g1.same (hput _ (hDk _ _ _ g1))
        have p7 := g2.same (hput _ (hDk _ _ _ g2))
        have pr := gr.same (hput _ (hDk _ _ _ gr))
        have pm : Mod (fun k => k = R) w (W9.putObj D (.deferred none)) := gm.trans (Mod.grown (S := fun k => some D = some k) (grownBy_putObj' W9 D (.deferred none)) fun k e => e) fun b hb e => by cases e; omega
        obtain ⟨⟨z0, z1, z2, z3⟩, _⟩ := cells4E p6
        have z4 : (W9.putObj D (.deferred none)).cell? ⟨B + 1 + 1 + 1, 0, none⟩ = some (.bool true) := p7.cell 0
        refine ⟨.tuple #[.agg #[.string y.key, .int .i64 y.seq, .bool y.del, .string y.val], .bool true], ?_, y, true, ex', rfl, ?_, ?_, ?_, ?_, ⟨some ⟨g, p, none⟩, n, c, F, m, d, pr, HN.out, h3, HM4.out, own_modR HOE.out HRD.out pm (by decide), own_modR HOF.out HRD.out pm (by decide)⟩, pm⟩
        · simp [results, Tryd.f21, go_sem, z0, z1, z2, z3, z4]
        · rw [hsn]; rfl
        · rw [hsn]; rfl
        · exact HE0.out
        · rw [if_pos HMB.out.symm]; have := HE1.out; have := HCNT.out; omega
end
end Ss
end Go.Proofs.YtadlhnjnhllpfaaDoor
