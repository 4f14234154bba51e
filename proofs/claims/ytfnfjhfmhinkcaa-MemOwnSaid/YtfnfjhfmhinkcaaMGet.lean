/-
  WHAT IS PROVED: what seek and Get answer. CONDITIONS: the table and its nodes stand in memory as named.
-/
import Derived.Test.YtfnfjhfmhinkcaaMPath
import Derived.Laws.ResultCell
namespace Go.Proofs.Ytfnfjhfmhinkcaa
open Go Go.RowKit Go.Maps Go.Sort Go.Proofs.Ytfnfjhfmhinkcaa.Fr
namespace Mm

theorem results_cell_row_tmp {P : Program} {fn : Func} {p u : Tmp} {ty : TypeId} (h : fn.results = #[.cell p ty, .tmp u]) (tmps : Array Value) (w : World) (g : Nat) (t : TypeId) (cs : Array Value) (fr : Nat × Nat) (d : TypeDesc)
    (hp : tmps.getD p undef = .pointer (some ⟨g, 0, none⟩)) (hg : w.heap[g]? = some (.cells cs t fr))
    (hu : P.underlying ty = some d) (hd : (match d with | .struct _ | .array _ _ => true | _ => false) = true) (hi : (P.info? ty).map (·.size) = some cs.size) :
    (results fn tmps).run P w = .ok (.tuple #[.agg cs, tmps.getD u undef]) w := by
  rw [results_cell_tmp h, hp]
  simp [asAddr, run_loadVar_row w g t ty cs fr d hg hu hd hi, Result.andThen]
section
variable {w w' : World} {T : Nat} {ns a b : List Nd} {cnt byt : Int} {l c : Nat}
theorem pred_pos (T : Nat) (l : Nat) : ∀ (pr : List Nd), ∃ a b1, pr = a ++ b1 ∧ (∀ x ∈ b1, ¬ l < x.h) ∧ Pos T a (l + 1) (predAt T pr l) := by
  intro pr
  unfold predAt
  cases hf : pr.reverse.find? fun n => decide (l < n.h) with
  | none =>
    refine ⟨[], pr, rfl, fun x hx => ?_, .inl ⟨rfl, rfl⟩⟩
    simpa using List.find?_eq_none.1 hf x (List.mem_reverse.2 hx)
  | some m =>
    obtain ⟨h1, r, s, h2, h3⟩ := List.find?_eq_some_iff_append.1 hf
    have e : pr = (s.reverse ++ [m]) ++ r.reverse := by
      have := congrArg List.reverse h2
      simpa using this
    exact ⟨s.reverse ++ [m], r.reverse, e, fun x hx => by simpa using h3 x (List.mem_reverse.1 hx), .inr ⟨s.reverse, m, rfl, rfl, Nat.succ_le_of_lt (of_decide_eq_true h1)⟩⟩
/-- What the last node ahead has as its next one. -/
theorem Rep.afterPred (h : Rep w T ns cnt byt) (hn : ns = a ++ b) (hl : l < 12) : w.cell? ⟨predAt T a l, 5 + l, none⟩ = some (ptr (nextAt b l)) := by
  obtain ⟨a1, b1, h1, h2, h3⟩ := pred_pos T l a
  rw [h.nextCell (b := b1 ++ b) (by rw [hn, h1, List.append_assoc]) h3 hl, nextAt_skip h2]
theorem path_lit (h : Rep w T ns cnt byt) (k : ByteArray) (q : Int) :
    Calls Try.prog 23 #[.pointer (some ⟨T, 0, none⟩), .string k, .int .i64 q] w fun e w' => e = .returned (.agg #[.pointer (some ⟨predAt T (pre ns k.toList q) 0, 0, none⟩), .pointer (some ⟨predAt T (pre ns k.toList q) 1, 0, none⟩), .pointer (some ⟨predAt T (pre ns k.toList q) 2, 0, none⟩), .pointer (some ⟨predAt T (pre ns k.toList q) 3, 0, none⟩), .pointer (some ⟨predAt T (pre ns k.toList q) 4, 0, none⟩), .pointer (some ⟨predAt T (pre ns k.toList q) 5, 0, none⟩), .pointer (some ⟨predAt T (pre ns k.toList q) 6, 0, none⟩), .pointer (some ⟨predAt T (pre ns k.toList q) 7, 0, none⟩), .pointer (some ⟨predAt T (pre ns k.toList q) 8, 0, none⟩), .pointer (some ⟨predAt T (pre ns k.toList q) 9, 0, none⟩), .pointer (some ⟨predAt T (pre ns k.toList q) 10, 0, none⟩), .pointer (some ⟨predAt T (pre ns k.toList q) 11, 0, none⟩)]) ∧ Below w.heap.size w w' := by
  refine (path_any h k q).mono ?_
  rintro e w' ⟨ps, rfl, h1, h2, h3⟩
  refine ⟨?_, h3⟩
  have : ps = #[.pointer (some ⟨predAt T (pre ns k.toList q) 0, 0, none⟩), .pointer (some ⟨predAt T (pre ns k.toList q) 1, 0, none⟩), .pointer (some ⟨predAt T (pre ns k.toList q) 2, 0, none⟩), .pointer (some ⟨predAt T (pre ns k.toList q) 3, 0, none⟩), .pointer (some ⟨predAt T (pre ns k.toList q) 4, 0, none⟩), .pointer (some ⟨predAt T (pre ns k.toList q) 5, 0, none⟩), .pointer (some ⟨predAt T (pre ns k.toList q) 6, 0, none⟩), .pointer (some ⟨predAt T (pre ns k.toList q) 7, 0, none⟩), .pointer (some ⟨predAt T (pre ns k.toList q) 8, 0, none⟩), .pointer (some ⟨predAt T (pre ns k.toList q) 9, 0, none⟩), .pointer (some ⟨predAt T (pre ns k.toList q) 10, 0, none⟩), .pointer (some ⟨predAt T (pre ns k.toList q) 11, 0, none⟩)] := by
    apply Array.ext
    · rw [h1]; rfl
    · intro i hi1 hi2
      have h4 := h2 i (by omega)
      rw [Array.getElem?_eq_getElem hi1] at h4
      rw [Option.some.inj h4]
      have hi : i < 12 := by omega
      match i, hi with
      | 0, _ => rfl
      | 1, _ => rfl
      | 2, _ => rfl
      | 3, _ => rfl
      | 4, _ => rfl
      | 5, _ => rfl
      | 6, _ => rfl
      | 7, _ => rfl
      | 8, _ => rfl
      | 9, _ => rfl
      | 10, _ => rfl
      | 11, _ => rfl
  rw [this]
def Good (ns : List Nd) : Prop := ∀ n ∈ ns, 1 ≤ n.h ∧ n.h ≤ 12
theorem nextAt_zero (h : Good ns) : nextAt ns 0 = ns.head?.map (·.blk) := by
  cases ns with
  | nil => rfl
  | cons n r => rw [nextAt_cons_yes (by have := (h n (by simp)).1; omega)]; rfl
set_option maxRecDepth 100000 in
theorem seek_any (h : Rep w T ns cnt byt) (hg : Good ns) (k : ByteArray) (q : Int) :
    Calls Try.prog 19 #[.pointer (some ⟨T, 0, none⟩), .string k, .int .i64 q] w fun e w' => e = .returned (ptr ((post ns k.toList q).head?.map (·.blk))) ∧ Below w.heap.size w w' := by
  have HC := Lib.hid (fun (W : World) (hW : Below w.heap.size w W) => (h.below hW).afterPred (pre_post ns k.toList q).symm (l := 0) (by omega))
  have hz : nextAt (post ns k.toList q) 0 = (post ns k.toList q).head?.map (·.blk) := nextAt_zero fun n hn => hg n ((List.dropWhile_sublist _).subset hn)
  have HP := Lib.hid (path_lit h k q)
  rw [hz] at HC
  obtain ⟨v, hv⟩ : ∃ v, v = ptr ((post ns k.toList q).head?.map (·.blk)) := ⟨_, rfl⟩
  rw [← hv] at HC ⊢
  obtain ⟨p0, hp0⟩ : ∃ p, p = predAt T (pre ns k.toList q) 0 := ⟨_, rfl⟩
  obtain ⟨p1, hp1⟩ : ∃ p, p = predAt T (pre ns k.toList q) 1 := ⟨_, rfl⟩
  obtain ⟨p2, hp2⟩ : ∃ p, p = predAt T (pre ns k.toList q) 2 := ⟨_, rfl⟩
  obtain ⟨p3, hp3⟩ : ∃ p, p = predAt T (pre ns k.toList q) 3 := ⟨_, rfl⟩
  obtain ⟨p4, hp4⟩ : ∃ p, p = predAt T (pre ns k.toList q) 4 := ⟨_, rfl⟩
  obtain ⟨p5, hp5⟩ : ∃ p, p = predAt T (pre ns k.toList q) 5 := ⟨_, rfl⟩
  obtain ⟨p6, hp6⟩ : ∃ p, p = predAt T (pre ns k.toList q) 6 := ⟨_, rfl⟩
  obtain ⟨p7, hp7⟩ : ∃ p, p = predAt T (pre ns k.toList q) 7 := ⟨_, rfl⟩
  obtain ⟨p8, hp8⟩ : ∃ p, p = predAt T (pre ns k.toList q) 8 := ⟨_, rfl⟩
  obtain ⟨p9, hp9⟩ : ∃ p, p = predAt T (pre ns k.toList q) 9 := ⟨_, rfl⟩
  obtain ⟨p10, hp10⟩ : ∃ p, p = predAt T (pre ns k.toList q) 10 := ⟨_, rfl⟩
  obtain ⟨p11, hp11⟩ : ∃ p, p = predAt T (pre ns k.toList q) 11 := ⟨_, rfl⟩
  rw [← hp0] at HC
  rw [← hp0, ← hp1, ← hp2, ← hp3, ← hp4, ← hp5, ← hp6, ← hp7, ← hp8, ← hp9, ← hp10, ← hp11] at HP
  clear hv hz h hp0 hp1 hp2 hp3 hp4 hp5 hp6 hp7 hp8 hp9 hp10 hp11
  have hix : ∀ W : World, (Instr.index 50 (.agg #[.pointer (some ⟨p0, 0, none⟩), .pointer (some ⟨p1, 0, none⟩), .pointer (some ⟨p2, 0, none⟩), .pointer (some ⟨p3, 0, none⟩), .pointer (some ⟨p4, 0, none⟩), .pointer (some ⟨p5, 0, none⟩), .pointer (some ⟨p6, 0, none⟩), .pointer (some ⟨p7, 0, none⟩), .pointer (some ⟨p8, 0, none⟩), .pointer (some ⟨p9, 0, none⟩), .pointer (some ⟨p10, 0, none⟩), .pointer (some ⟨p11, 0, none⟩)]) (.int .i64 0)).run Try.prog W = .ok (.pointer (some ⟨p0, 0, none⟩)) W := fun _ => by kernel_rfl
  go_enter Try.func19, Try.ntmps19
  go_wp2_with (go_at_call 23; refine HP.out.mono ?_; rintro e w2 ⟨rfl, hb2⟩; have q0 : w2.cell? ⟨p0, 5, none⟩ = some v := HC.out w2 hb2)
  go_ret
  exact ⟨rfl, hb2⟩
/-- The first that isn't ahead, if it has this key. -/
def getN (ns : List Nd) (k : List UInt8) (q : Int) : Option Nd := (post ns k q).head?.filter fun n => decide (n.e.k = k)
def noE : En := ⟨⟨#[]⟩, 0, false, ⟨#[]⟩⟩
def getE (ns : List Nd) (k : List UInt8) (q : Int) : En := (((getN ns k q)).map (·.e)).getD noE
theorem cells4 {w : World} {g : Nat} {t : TypeId} {a b c d : Value} (h : Blk w g t #[a, b, c, d]) : (w.cell? ⟨g, 0, none⟩ = some a ∧ w.cell? ⟨g, 1, none⟩ = some b ∧ w.cell? ⟨g, 2, none⟩ = some c ∧ w.cell? ⟨g, 3, none⟩ = some d) ∧ w.frozen? ⟨g, 0, none⟩ = false ∧ w.frozen? ⟨g, 1, none⟩ = false ∧ w.frozen? ⟨g, 2, none⟩ = false ∧ w.frozen? ⟨g, 3, none⟩ = false :=
  ⟨⟨h.cell 0, h.cell 1, h.cell 2, h.cell 3⟩, h.frozen 0, h.frozen 1, h.frozen 2, h.frozen 3⟩
theorem set4 {w : World} {g : Nat} {t : TypeId} {a b c d : Value} (h : Blk w g t #[a, b, c, d]) (u0 u1 u2 u3 : Value) : Blk ((((w.setCell ⟨g, 0, none⟩ u0).setCell ⟨g, 1, none⟩ u1).setCell ⟨g, 2, none⟩ u2).setCell ⟨g, 3, none⟩ u3) g t #[u0, u1, u2, u3] := by
  have := (((h.set 0 u0).set 1 u1).set 2 u2).set 3 u3
  simpa using this
theorem bel4 {B g : Nat} {w w' : World} (h : Below B w w') (hg : B ≤ g) (u0 u1 u2 u3 : Value) : Below B w ((((w'.setCell ⟨g, 0, none⟩ u0).setCell ⟨g, 1, none⟩ u1).setCell ⟨g, 2, none⟩ u2).setCell ⟨g, 3, none⟩ u3) :=
  below_set (below_set (below_set (below_set h hg _) hg _) hg _) hg _
theorem infoEn : (Try.prog.info? 30).map (·.size) = some 4 := by kernel_rfl
theorem nodeCells {n : Nd} {r : List Nd} {cs : Array Value} (h : NodeAt w n r cs) : w.cell? ⟨n.blk, 0, none⟩ = some (.string n.e.key) ∧ w.cell? ⟨n.blk, 1, none⟩ = some (.int .i64 n.e.seq) ∧ w.cell? ⟨n.blk, 2, none⟩ = some (.bool n.e.del) ∧ w.cell? ⟨n.blk, 3, none⟩ = some (.string n.e.val) :=
  ⟨(h.blk.cell 0).trans h.c0, (h.blk.cell 1).trans h.c1, (h.blk.cell 2).trans h.c2, (h.blk.cell 3).trans h.c3⟩
set_option maxRecDepth 100000 in
set_option maxHeartbeats 1600000 in
theorem get_any (h : Rep w T ns cnt byt) (hg : Good ns) (k : ByteArray) (q : Int) :
    Calls Try.prog 15 #[.pointer (some ⟨T, 0, none⟩), .string k, .int .i64 q] w fun e w' => e = .returned (.tuple #[.agg #[.string (getE ns k.toList q).key, .int .i64 (getE ns k.toList q).seq, .bool (getE ns k.toList q).del, .string (getE ns k.toList q).val], .bool (getN ns k.toList q).isSome]) ∧ Below w.heap.size w w' := by
  have hb0 : Below w.heap.size w (w.alloc (.cells #[.string ⟨#[]⟩, .int .i64 0, .bool false, .string ⟨#[]⟩] 30)) := (Below.refl _ _).alloc (Nat.le_refl _) _
  have hR : Blk (w.alloc (.cells #[.string ⟨#[]⟩, .int .i64 0, .bool false, .string ⟨#[]⟩] 30)) w.heap.size 30 #[.string ⟨#[]⟩, .int .i64 0, .bool false, .string ⟨#[]⟩] := Blk.new _ _ _
  have hs := seek_any (h.below hb0) hg k q
  have HR := Lib.hid hR
  have HB0 := Lib.hid hb0
  cases hp : post ns k.toList q with
  | nil =>
    have e1 : getN ns k.toList q = none := by unfold getN; rw [hp]; rfl
    have e2 : getE ns k.toList q = noE := by unfold getE; rw [e1]; rfl
    rw [e1, e2]
    rw [hp] at hs
    simp only [List.head?_nil, Option.map_none, ptr] at hs
    have HS := Lib.hid hs
    clear hp hb0 hR h e1 e2 hs
    go_enter Try.func15, Try.ntmps15
    go_wp2_with (go_at_call 19; refine HS.out.mono ?_; rintro e w2 ⟨rfl, hb2⟩; have hR2 := HR.out.same (hb2.block _ HR.out.lt); have hr2 := cells4 hR2; obtain ⟨⟨r0, r1, r2, r3⟩, f0, f1, f2, f3⟩ := hr2; have HR2 := Lib.hid hR2; have HB2 := Lib.hid (HB0.out.trans (hb2.mono HB0.out.size)); clear hb2 hR2)
    (try simp only [Exit.inBlock, Exit.then])
    refine bodyPost_ret (results_cell_row_tmp rfl _ _ w.heap.size 30 #[.string ⟨#[]⟩, .int .i64 0, .bool false, .string ⟨#[]⟩] (0, 0) _ rfl (set4 HR2.out _ _ _ _) Try.underlying30 rfl infoEn) rfl ⟨rfl, bel4 HB2.out (Nat.le_refl _) _ _ _ _⟩
  | cons n r =>
    obtain ⟨cs, hnode⟩ := Chain.at_ (a := pre ns k.toList q) (n := n) (r := r) (by rw [← hp, pre_post]; exact h.chain)
    have HQ := Lib.hid (fun (W : World) (hW : Below w.heap.size w W) => nodeCells (hnode.same (w' := W) (hW.block _ hnode.blk.lt)))
    rw [hp] at hs
    simp only [List.head?_cons, Option.map_some, ptr] at hs
    have HS := Lib.hid hs
    by_cases hk : n.e.key.toList = k.toList
    · have hk2 : (n.e.key.toList == k.toList) = true := by simp [hk]
      have e1 : getN ns k.toList q = some n := by unfold getN; rw [hp]; simp [En.k, hk]
      have e2 : getE ns k.toList q = n.e := by unfold getE; rw [e1]; rfl
      rw [e1, e2]
      clear hp hb0 hR h e1 e2 hs hnode hk
      go_enter Try.func15, Try.ntmps15
      go_wp2_with (go_at_call 19; refine HS.out.mono ?_; rintro e w2 ⟨rfl, hb2⟩; have hR2 := HR.out.same (hb2.block _ HR.out.lt); have hr2 := cells4 hR2; obtain ⟨⟨r0, r1, r2, r3⟩, f0, f1, f2, f3⟩ := hr2; have HR2 := Lib.hid hR2; have hbb := HB0.out.trans (hb2.mono HB0.out.size); have hqq := HQ.out w2 hbb; obtain ⟨q0, q1, q2, q3⟩ := hqq; have HB2 := Lib.hid hbb; clear hb2 hR2 hbb)
      (try simp only [Exit.inBlock, Exit.then])
      refine bodyPost_ret (results_cell_row_tmp rfl _ _ w.heap.size 30 #[.string n.e.key, .int .i64 n.e.seq, .bool n.e.del, .string n.e.val] (0, 0) _ rfl (set4 HR2.out _ _ _ _) Try.underlying30 rfl infoEn) rfl ⟨rfl, bel4 HB2.out (Nat.le_refl _) _ _ _ _⟩
    · have hk2 : (n.e.key.toList == k.toList) = false := by simp [hk]
      have e1 : getN ns k.toList q = none := by unfold getN; rw [hp]; simp [En.k, hk]
      have e2 : getE ns k.toList q = noE := by unfold getE; rw [e1]; rfl
      rw [e1, e2]
      clear hp hb0 hR h e1 e2 hs hnode hk
      go_enter Try.func15, Try.ntmps15
      go_wp2_with (go_at_call 19; refine HS.out.mono ?_; rintro e w2 ⟨rfl, hb2⟩; have hR2 := HR.out.same (hb2.block _ HR.out.lt); have hr2 := cells4 hR2; obtain ⟨⟨r0, r1, r2, r3⟩, f0, f1, f2, f3⟩ := hr2; have HR2 := Lib.hid hR2; have hbb := HB0.out.trans (hb2.mono HB0.out.size); have hqq := HQ.out w2 hbb; obtain ⟨q0, q1, q2, q3⟩ := hqq; have HB2 := Lib.hid hbb; clear hb2 hR2 hbb)
      (try simp only [Exit.inBlock, Exit.then])
      refine bodyPost_ret (results_cell_row_tmp rfl _ _ w.heap.size 30 #[.string ⟨#[]⟩, .int .i64 0, .bool false, .string ⟨#[]⟩] (0, 0) _ rfl (set4 HR2.out _ _ _ _) Try.underlying30 rfl infoEn) rfl ⟨rfl, bel4 HB2.out (Nat.le_refl _) _ _ _ _⟩
end

end Mm
end Go.Proofs.Ytfnfjhfmhinkcaa
