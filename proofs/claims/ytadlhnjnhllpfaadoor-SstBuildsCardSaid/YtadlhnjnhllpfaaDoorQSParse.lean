/-
  WHAT IS PROVED: (1) what Parse of package sstable answers, of a table's bytes and of others; what Len, First, Last, Blocks answer. CONDITIONS: the bytes stand in memory as named, and so does frame's table.
-/
import Derived.Test.YtadlhnjnhllpfaaDoorQSBuild
import Derived.Test.YtadlhnjnhllpfaaDoorQSEnts
namespace Go.Proofs.YtadlhnjnhllpfaaDoor
open Go Go.RowKit Go.Shelf Go.Maps Go.Sort Go.Proofs.YtadlhnjnhllpfaaDoor.Mm Go.Proofs.YtadlhnjnhllpfaaDoor.Fr
namespace Ss
section
variable {w : World} {A B : Option Addr} {n c m d : Nat} {l k : Bs}
set_option maxRecDepth 100000 in
theorem equal_any (hl : l.length = n) (hk : k.length = m) (hA : Rd w A (bv l)) (hB : Rd w B (bv k)) {b : Bool} (hb : decide (l = k) = b) :
    Calls Tryd.prog 45 #[.slice A n c, .slice B m d] w fun e w' => e = .returned (.bool b) ∧ w = w' := by
  have h1 := run_str (P := Tryd.prog) w 25 9 5 Tryd.underlying25 Tryd.underlying5 Tryd.underlying9 A n c l hl hA
  have h2 := run_str (P := Tryd.prog) w 25 9 5 Tryd.underlying25 Tryd.underlying5 Tryd.underlying9 B m d k hk hB
  obtain ⟨s, hs⟩ : ∃ s : ByteArray, s = ⟨l.toArray⟩ := ⟨_, rfl⟩
  obtain ⟨t, ht⟩ : ∃ t : ByteArray, t = ⟨k.toArray⟩ := ⟨_, rfl⟩
  have hst : (s.toList == t.toList) = b := by
    rw [hs, ht, Lib.toList_data, Lib.toList_data, ← hb]
    by_cases e : l = k <;> simp [e]
  rw [← hs] at h1
  rw [← ht] at h2
  have HST := Lib.hid hst
  clear hl hk hA hB hs ht hst hb
  go_enter Tryd.func45, Tryd.ntmps45
  go_wp2
  go_ret
  exact ⟨by rw [← HST.out]; rfl, rfl⟩
end
theorem build_len {l : List En} (hg : GoodL l) : (build l).length ≤ 100104 := by
  have hn := hg.le
  have h1 := tbOf_len hg.ok (List.range ((l.length + 2) / 3))
  have h0 : (List.range ((l.length + 2) / 3)).length ≤ 28 := by rw [List.length_range]; omega
  have h2 : 3309 * (List.range ((l.length + 2) / 3)).length ≤ 3309 * 28 := Nat.mul_le_mul_left _ h0
  have h3 := filt_le hn
  have h4 := enc3 (n := (Bl.filt (keysB l) 10).length) (by omega)
  have h5 := ixOf_len hg.ok hn (List.range ((l.length + 2) / 3)).length (List.range ((l.length + 2) / 3)) rfl h0
  have h6 : 136 * (List.range ((l.length + 2) / 3)).length ≤ 136 * 28 := Nat.mul_le_mul_left _ h0
  have h7 := enc3 (n := (ixOf l (List.range ((l.length + 2) / 3))).length) (by omega)
  rw [build_eq rfl]
  simp only [List.length_append, le4_length, sealOf_length, List.length_cons, List.length_nil]
  omega
/-- A reader at R of the entries L. -/
def RdAt (W : World) (R base : Nat) (L : List En) (ex : Int) : Prop := ∃ (A : Option Addr) (n c : Nat) (F : Option Addr) (m d : Nat), Blk W R 72 #[.slice A n c, .slice F m d, .int .i64 ex] ∧ L.length = n ∧ n ≤ c ∧ (Bl.filt (keysB L) 10).length = m ∧ W.ownsRow base 42 4 (.slice A n c) n (ev L) ∧ W.ownsRow base 5 1 (.slice F m d) m (bv (Bl.filt (keysB L) 10))
def ParseYes (w : World) (L : List En) (e : Ending) (w' : World) : Prop := ∃ R, e = .returned (.tuple #[.pointer (some ⟨R, 0, none⟩), .int .i64 0]) ∧ w.heap.size ≤ R ∧ RdAt w' R w.heap.size L 0 ∧ Below w.heap.size w w'
def ParseNo (w : World) (e : Ending) (w' : World) : Prop := e = .returned (.tuple #[.pointer none, .int .i64 61]) ∧ Below w.heap.size w w'
section
variable {w : World} {A : Option Addr} {n c : Nat} {l : Bs} {L : List En}
set_option maxRecDepth 100000 in
set_option maxHeartbeats 1000000 in
theorem parse_yes (hg : GoodL L) (hl : (build L).length = n) (hnc : n ≤ c) (hr : Rd w A (bv (build L))) (hA : ∀ a, A = some a → a.block < w.heap.size) (ht : Tab w) :
    Calls Tryd.prog 13 #[.slice A n c] w (ParseYes w L) := by
  have hbl := build_len hg
  have hE := entriesOf_any hl hnc (by omega) hr hA ht
  rw [readAll_build hg] at hE
  have HE := Lib.hid hE
  have HG := Lib.hid hg
  have HL := Lib.hid hl
  have HR := Lib.hid hr
  have HT := Lib.hid ht
  clear hE hl hr hA ht hg
  go_enter Tryd.func13, Tryd.ntmps13
  go_wp2_with (first
    | (go_at_call 44; refine HE.out.mono ?_; rintro e w1 ⟨A1, m1, c1, rfl, hm1, hm84, hown1, hb1⟩; have hmc : m1 ≤ c1 := (own_shapeN hown1).elim fun A' h => h.elim fun c' h => by obtain ⟨e', h1, _⟩ := h; cases e'; exact h1)
    | (go_at_call 10; refine (build_any HG.out hm1 (rd_ownN hown1) hmc (HT.out.below hb1)).mono ?_; rintro e w2 ⟨A2, m2, c2, rfl, hm2, hown2, hb2⟩; have hb02 := hb1.trans (hb2.mono hb1.size))
    | (go_at_call 45; refine (equal_any (b := true) hm2 HL.out (Rd.own hown2) (HR.out.below hb02) (by simp)).mono ?_; rintro e w3 ⟨rfl, rfl⟩)
    | (go_at_call 35; refine (filterOf_any (c := c1) hm1 ((rd_ownN hown1).below hb2) hm84 (fun e he => (entry_ok (HG.out.ok e he)).1)).mono ?_; rintro e w4 ⟨v4, rfl, A4, m4, c4, rfl, hm4, hc4, hown4, hb4⟩))
  go_ret2
  have hs2 := hb02.size
  refine ⟨w4.heap.size, rfl, Nat.le_trans hs2 hb4.size, ⟨A1, m1, c1, A4, m4, c4, Blk.new _ _ _, hm1, hmc, hm4, (own_belowN (own_belowN hown1 hb2) hb4).alloc _, (own_mono hown4 hs2).alloc _⟩, (hb02.trans (hb4.mono hs2)).alloc (Nat.le_trans hs2 hb4.size) _⟩
set_option maxRecDepth 100000 in
set_option maxHeartbeats 1000000 in
theorem parse_no (hno : ∀ L, GoodL L → l ≠ build L) (hl : l.length = n) (hnc : n ≤ c) (hn : n ≤ 140737488355328) (hr : Rd w A (bv l)) (hA : ∀ a, A = some a → a.block < w.heap.size) (ht : Tab w) :
    Calls Tryd.prog 13 #[.slice A n c] w (ParseNo w) := by
  have hE := entriesOf_any hl hnc hn hr hA ht
  obtain ⟨L, hL⟩ : ∃ L, L = readAll l := ⟨_, rfl⟩
  rw [← hL] at hE
  have HE := Lib.hid hE
  have HL := Lib.hid hl
  have HR := Lib.hid hr
  have HT := Lib.hid ht
  by_cases hz : listErr L = 0
  · have hg := (listErr_good L).1 hz
    have HG := Lib.hid hg
    have hne : decide (build L = l) = false := decide_eq_false fun e => hno L hg e.symm
    have HNE := Lib.hid hne
    clear hE hl hr hA ht hL hno hz hg hne
    go_enter Tryd.func13, Tryd.ntmps13
    go_wp2_with (first
      | (go_at_call 44; refine HE.out.mono ?_; rintro e w1 ⟨A1, m1, c1, rfl, hm1, hm84, hown1, hb1⟩; have hmc : m1 ≤ c1 := (own_shapeN hown1).elim fun A' h => h.elim fun c' h => by obtain ⟨e', h1, _⟩ := h; cases e'; exact h1)
      | (go_at_call 10; refine (build_any HG.out hm1 (rd_ownN hown1) hmc (HT.out.below hb1)).mono ?_; rintro e w2 ⟨A2, m2, c2, rfl, hm2, hown2, hb2⟩; have hb02 := hb1.trans (hb2.mono hb1.size))
      | (go_at_call 45; refine (equal_any (b := false) hm2 HL.out (Rd.own hown2) (HR.out.below hb02) HNE.out).mono ?_; rintro e w3 ⟨rfl, rfl⟩))
    go_ret2
    exact ⟨rfl, hb02⟩
  · obtain ⟨z, hzz⟩ : ∃ z, listErr L = z := ⟨_, rfl⟩
    rw [hzz] at hz
    have HZ := Lib.hid hzz
    have kz : (z != 0) = true := by simpa using hz
    clear hE hl hr hA ht hL hno hzz
    go_enter Tryd.func13, Tryd.ntmps13
    go_wp2_with (first
      | (go_at_call 44; refine HE.out.mono ?_; rintro e w1 ⟨A1, m1, c1, rfl, hm1, hm84, hown1, hb1⟩)
      | (go_at_call 10; refine (build_bad (c := c1) HZ.out hz hm1 (rd_ownN hown1) (by omega)).mono ?_; rintro e w2 ⟨rfl, hb2⟩))
    go_ret2
    exact ⟨rfl, hb1.trans (hb2.mono hb1.size)⟩
end
section
variable {W : World} {R base : Nat} {L : List En} {ex : Int}
theorem RdAt.below {W' : World} (h : RdAt W R base L ex) (hb : Below W.heap.size W W') : RdAt W' R base L ex := by
  obtain ⟨A, n, c, F, m, d, h1, h2, h3, h4, h5, h6⟩ := h
  exact ⟨A, n, c, F, m, d, h1.same (hb.block _ h1.lt), h2, h3, h4, own_belowN h5 hb, own_belowN h6 hb⟩
theorem RdAt.lt (h : RdAt W R base L ex) : R < W.heap.size := by
  obtain ⟨A, n, c, F, m, d, h1, _⟩ := h
  exact h1.lt
set_option maxRecDepth 100000 in
theorem lenR_any (h : RdAt W R base L ex) : Calls Tryd.prog 17 #[.pointer (some ⟨R, 0, none⟩)] W fun e w' => e = .returned (.int .i64 (L.length : Int)) ∧ W = w' := by
  obtain ⟨A, n, c, F, m, d, h1, h2, h3, h4, h5, h6⟩ := h
  have c0 : W.cell? ⟨R, 0, none⟩ = some (.slice A n c) := h1.cell 0
  obtain ⟨N, hN⟩ : ∃ N, L.length = N := ⟨_, rfl⟩
  rw [hN] at h2 ⊢
  subst h2
  clear h1 h4 h5 h6 hN
  go_enter Tryd.func17, Tryd.ntmps17
  go_wp2
  go_ret
  exact ⟨rfl, rfl⟩
set_option maxRecDepth 100000 in
theorem firstR_any (h : RdAt W R base L ex) {x : En} (hx : L[0]? = some x) : Calls Tryd.prog 18 #[.pointer (some ⟨R, 0, none⟩)] W fun e w' => e = .returned (.string x.key) ∧ W = w' := by
  obtain ⟨A, n, c, F, m, d, h1, h2, h3, h4, h5, h6⟩ := h
  have c0 : W.cell? ⟨R, 0, none⟩ = some (.slice A n c) := h1.cell 0
  have hn : 0 < n := by have := (List.getElem?_eq_some_iff.1 hx).1; omega
  have HF := Lib.hid (first_any (c := c) hn hx (rd_ownN h5))
  clear h1 h2 h4 h5 h6 hx
  go_enter Tryd.func18, Tryd.ntmps18
  go_wp2_with (go_at_call 33; refine HF.out.mono ?_; rintro e _ ⟨rfl, rfl⟩)
  go_ret
  exact ⟨rfl, rfl⟩
set_option maxRecDepth 100000 in
theorem lastR_any (h : RdAt W R base L ex) {x : En} {j : Nat} (hj : L.length = j + 1) (hx : L[j]? = some x) (hle : L.length ≤ 1000000) : Calls Tryd.prog 19 #[.pointer (some ⟨R, 0, none⟩)] W fun e w' => e = .returned (.string x.key) ∧ W = w' := by
  obtain ⟨A, n, c, F, m, d, h1, h2, h3, h4, h5, h6⟩ := h
  have c0 : W.cell? ⟨R, 0, none⟩ = some (.slice A n c) := h1.cell 0
  have hn : n = j + 1 := by omega
  have HF := Lib.hid (last_any (c := c) hn hx (rd_ownN h5) (by omega))
  clear h1 h2 h4 h5 h6 hx hj hle hn
  go_enter Tryd.func19, Tryd.ntmps19
  go_wp2_with (go_at_call 34; refine HF.out.mono ?_; rintro e _ ⟨rfl, rfl⟩)
  go_ret
  exact ⟨rfl, rfl⟩
end
end Ss
end Go.Proofs.YtadlhnjnhllpfaaDoor
