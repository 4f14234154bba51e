/-
  WHAT IS PROVED: (1) what the reference's Before, Error and Get answer. CONDITIONS: the row stands in memory as named.
-/
import Derived.Test.YtadlhnjnhllpfaaDoorQMTwo
namespace Go.Proofs.YtadlhnjnhllpfaaDoor
open Go Go.RowKit Go.Maps Go.Sort Go.Proofs.YtadlhnjnhllpfaaDoor.Fr
namespace Mm
theorem before_any (w : World) (x y : En) :
    Calls Tryd.prog 38 #[.agg #[.string x.key, .int .i64 x.seq, .bool x.del, .string x.val], .agg #[.string y.key, .int .i64 y.seq, .bool y.del, .string y.val]] w fun e w' => e = .returned (.bool (decide (bef x y.k y.seq))) ∧ Below w.heap.size w w' := by
  have e1 : decide (bef x y.k y.seq) = (Op.bytesLess x.key.toList y.key.toList || ((x.key.toList == y.key.toList) && decide (y.seq < x.seq))) := by
    rw [bytesLess_eq]
    unfold bef En.k
    by_cases h1 : x.key.toList < y.key.toList <;> by_cases h2 : x.key.toList = y.key.toList <;> by_cases h3 : y.seq < x.seq <;> simp [h1, h2, h3]
  rw [e1]
  clear e1
  have hbb : ∀ o o' : Obj, Below w.heap.size w ((w.alloc o).alloc o') := fun o o' => ((Below.refl _ w).alloc (Nat.le_refl _) o).alloc (by simp) o'
  cases hb1 : Op.bytesLess x.key.toList y.key.toList with
  | true =>
    go_enter Tryd.func38, Tryd.ntmps38
    go_wp2
    go_ret
    exact ⟨by simp, hbb _ _⟩
  | false =>
    cases hk2 : (x.key.toList == y.key.toList) with
    | true =>
      go_enter Tryd.func38, Tryd.ntmps38
      go_wp2
      all_goals go_ret
      all_goals exact ⟨by simp_all, hbb _ _⟩
    | false =>
      go_enter Tryd.func38, Tryd.ntmps38
      go_wp2
      go_ret
      exact ⟨by simp, hbb _ _⟩
theorem bytes_pos {b : ByteArray} (h : 0 < b.size) : b.toList ≠ [] := fun h3 => by
  rw [Lib.toList_data] at h3
  have h4 : b.size = b.data.toList.length := by rw [Array.length_toList]; rfl
  rw [h3] at h4
  rw [h4] at h
  exact absurd h (Nat.lt_irrefl 0)
theorem entry_bad {e : En} (h0 : ¬ (64 < e.key.size ∨ 1024 < e.val.size)) (h : e.del = true) (h2 : e.seq < 1 ∨ 4611686018427387904 < e.seq ∨ 0 < e.val.size) : entryErr e = 1 := by
  unfold entryErr
  rw [if_neg h0, if_pos]
  rcases h2 with h2 | h2 | h2
  · exact .inl h2
  · exact .inr (.inl h2)
  · exact .inr (.inr ⟨h, by have := bytes_pos h2; cases hv : e.val.toList with | nil => exact absurd hv this | cons _ _ => rfl⟩)
theorem error_any (w : World) (e : En) :
    Calls Tryd.prog 37 #[.agg #[.string e.key, .int .i64 e.seq, .bool e.del, .string e.val]] w fun x w' => x = .returned (.int .i64 (entryErr e)) ∧ Below w.heap.size w w' := by
  obtain ⟨z, hz⟩ : ∃ z, z = entryErr e := ⟨_, rfl⟩
  have HZ := Lib.hid hz
  rw [← hz]
  clear hz
  go_enter Tryd.func37, Tryd.ntmps37
  go_wp2
  all_goals go_ret
  all_goals (refine ⟨?_, (Below.refl _ _).alloc (Nat.le_refl _) _⟩; rw [HZ.out]; clear HZ; first | (rw [entry_bad (by omega) (by assumption) (by omega)]; rfl) | skip; unfold entryErr; first | rfl | (rw [if_pos (by omega)]; rfl) | (rw [if_neg (by omega), if_pos (by simp_all)]; rfl) | (rw [if_neg (by omega), if_pos (by omega)]; rfl) | (rw [if_neg (by omega), if_neg (by simp_all; omega)]; rfl) | (rw [if_neg (by omega), if_neg (by simp_all)]; rfl))
/-- Is it of this key, and not above the number? -/
def hit (k : List UInt8) (q : Int) (x : En) : Bool := decide (x.k = k) && decide (x.seq ≤ q)
/-- What Get answers of a list. -/
def seen (l : List En) (k : List UInt8) (q : Int) : Option En := l.find? (hit k q)
theorem hit_iff {k : List UInt8} {q : Int} {x : En} : hit k q x = true ↔ x.k = k ∧ x.seq ≤ q := by simp [hit]
theorem get_seen {ns : List Nd} (hs : Sorted ns) (k : List UInt8) (q : Int) : getE ns k q = (seen (ns.map Nd.e) k q).getD noE ∧ (getN ns k q).isSome = (seen (ns.map Nd.e) k q).isSome := by
  have h : (getN ns k q).map Nd.e = seen (ns.map Nd.e) k q := by
    unfold seen
    have h1 := hs
    rw [← pre_post ns k q] at h1 ⊢
    rw [List.map_append, List.find?_append]
    have h2 : (List.map Nd.e (pre ns k q)).find? (hit k q) = none := List.find?_eq_none.2 fun x hx => by
      obtain ⟨m, hm, rfl⟩ := List.mem_map.1 hx
      rw [hit_iff]
      rintro ⟨h3, h4⟩
      rcases pre_bef m hm with h5 | ⟨_, h5⟩
      · rw [h3] at h5; exact absurd h5 (List.lt_irrefl _)
      · omega
    rw [h2, Option.none_or, pre_post]
    unfold getN
    cases hp : post ns k q with
    | nil => rfl
    | cons m r =>
      have hnb := post_head hp
      rw [hp] at h1
      simp only [List.head?_cons, Option.filter_some, List.map_cons, List.find?_cons]
      by_cases hk : m.e.k = k
      · have hq : m.e.seq ≤ q := by
          have h3 : ¬ q < m.e.seq := fun h3 => hnb (.inr ⟨hk, h3⟩)
          omega
        rw [hit_iff.2 ⟨hk, hq⟩]
        simp [hk]
      · have hn : hit k q m.e = false := by
          rw [← Bool.not_eq_true, hit_iff]
          exact fun h => hk h.1
        rw [hn]
        have h3 : (List.map Nd.e r).find? (hit k q) = none := List.find?_eq_none.2 fun x hx => by
          obtain ⟨m2, hm2, rfl⟩ := List.mem_map.1 hx
          rw [hit_iff]
          rintro ⟨h4, _⟩
          rcases (Sorted.mid h1).2 m2 hm2 with h5 | ⟨h5, _⟩
          · rw [h4] at h5; exact hnb (.inl h5)
          · exact hk (h5.trans h4)
        rw [h3]
        simp [hk]
  refine ⟨by unfold getE; rw [h], ?_⟩
  rw [← h, Option.isSome_map]
/-- A list in order. -/
def SortedE (l : List En) : Prop := l.Pairwise fun a b => bef a b.k b.seq
theorem Sorted.ents {ns : List Nd} (h : Sorted ns) : SortedE (ns.map Nd.e) := List.pairwise_map.2 h
section
variable {w : World} {A : Option Addr} {l : List En} {n c : Nat} {k : ByteArray} {q : Int}
theorem seen_hit {i : Nat} {x : En} (h : seen (l.take i) k.toList q = none) (hx : l[i]? = some x) (hh : hit k.toList q x = true) : seen (l.take (i + 1)) k.toList q = some x := by
  unfold seen at *
  rw [List.take_add_one, hx, List.find?_append, h]
  simp [hh]
theorem seen_keep {i : Nat} {y : En} (h : seen (l.take i) k.toList q = some y) : seen (l.take (i + 1)) k.toList q = some y := by
  unfold seen at *
  rw [List.take_add_one, List.find?_append, h]
  rfl
theorem seen_miss {i : Nat} {x : En} (hx : l[i]? = some x) (hh : hit k.toList q x = false) : seen (l.take (i + 1)) k.toList q = seen (l.take i) k.toList q := by
  unfold seen
  rw [List.take_add_one, hx, List.find?_append]
  simp [hh]
theorem set4_other {w : World} {R B : Nat} {t : TypeId} {cs : Array Value} (h : Blk w R t cs) (hne : R ≠ B) (u0 u1 u2 u3 : Value) : Blk ((((w.setCell ⟨B, 0, none⟩ u0).setCell ⟨B, 1, none⟩ u1).setCell ⟨B, 2, none⟩ u2).setCell ⟨B, 3, none⟩ u3) R t cs :=
  h.same ((((Below.heap_setCell _ _ _ _ hne).trans (Below.heap_setCell _ _ _ _ hne)).trans (Below.heap_setCell _ _ _ _ hne)).trans (Below.heap_setCell _ _ _ _ hne))
theorem blk_drewN {W : World} {g : Nat} {t : TypeId} {cs : Array Value} (h : Blk W g t cs) (m : Nat) : Blk (W.drewN m) g t cs := h
theorem seen_newer {i : Nat} {x y : En} (hs : SortedE l) (h : seen (l.take i) k.toList q = some y) (hx : l[i]? = some x) (hk : x.k = k.toList) : x.seq < y.seq := by
  have h1 := List.find?_some h
  have h2 := List.mem_of_find?_eq_some h
  have h3 : SortedE (l.take (i + 1)) := hs.sublist (List.take_sublist _ _)
  rw [List.take_add_one, hx] at h3
  have h4 := (List.pairwise_append.1 h3).2.2 y h2 x (by simp)
  rw [hit_iff] at h1
  rcases h4 with h5 | ⟨_, h5⟩
  · rw [h1.1, hk] at h5; exact absurd h5 (List.lt_irrefl _)
  · exact h5
def RgI (w : World) (R B : Nat) (l : List En) (k : ByteArray) (q : Int) (s9 s10 : Value) (W : World) : Prop :=
  ∃ (i : Nat) (b : En) (fd : Bool), i ≤ l.length ∧ s10 = .int .i64 ((i : Nat) : Int) ∧ s9 = .bool fd ∧ fd = (seen (l.take i) k.toList q).isSome ∧ b = (seen (l.take i) k.toList q).getD noE ∧
    Hid (Blk W R 42 #[.string ⟨#[]⟩, .int .i64 0, .bool false, .string ⟨#[]⟩]) ∧ Hid (Blk W B 42 #[.string b.key, .int .i64 b.seq, .bool b.del, .string b.val]) ∧ Hid (Below w.heap.size w W)
set_option maxRecDepth 100000 in
set_option maxHeartbeats 1600000 in
theorem refget_any (hl : l.length = n) (hn : n ≤ 100000) (hA : Rd w A (ev l)) (hs : SortedE l) :
    Calls Tryd.prog 22 #[.slice A n c, .string k, .int .i64 q] w fun e w' => e = .returned (.tuple #[.agg #[.string ((seen l k.toList q).getD noE).key, .int .i64 ((seen l k.toList q).getD noE).seq, .bool ((seen l k.toList q).getD noE).del, .string ((seen l k.toList q).getD noE).val], .bool (seen l k.toList q).isSome]) ∧ Below w.heap.size w w' := by
  have HL := Lib.hid hl
  have HA := Lib.hid hA
  have HS := Lib.hid hs
  clear hl hA hs
  go_enter Tryd.func22, Tryd.ntmps22
  go_wp2
  obtain ⟨W1, hW1⟩ : ∃ W1, W1 = ((w.alloc (.cells #[.string ⟨#[]⟩, .int .i64 0, .bool false, .string ⟨#[]⟩] 42)).alloc (.cells #[.string ⟨#[]⟩, .int .i64 0, .bool false, .string ⟨#[]⟩] 42)) := ⟨_, rfl⟩
  have hR1 : Blk W1 w.heap.size 42 #[.string ⟨#[]⟩, .int .i64 0, .bool false, .string ⟨#[]⟩] := by rw [hW1]; exact (Blk.new w _ _).alloc _
  have hB1 : Blk W1 (w.heap.size + 1) 42 #[.string ⟨#[]⟩, .int .i64 0, .bool false, .string ⟨#[]⟩] := by
    rw [hW1]
    have := Blk.new (w.alloc (.cells #[.string ⟨#[]⟩, .int .i64 0, .bool false, .string ⟨#[]⟩] 42)) 42 #[.string ⟨#[]⟩, .int .i64 0, .bool false, .string ⟨#[]⟩]
    simpa using this
  have hb1 : Below w.heap.size w W1 := by rw [hW1]; exact ((Below.refl _ w).alloc (Nat.le_refl _) _).alloc (by simp) _
  rw [← hW1]
  obtain ⟨R, hR⟩ : ∃ R, R = w.heap.size := ⟨_, rfl⟩
  obtain ⟨B, hB⟩ : ∃ B, B = w.heap.size + 1 := ⟨_, rfl⟩
  rw [← hB] at hB1 ⊢
  rw [← hR] at hR1 ⊢
  have hRB : R ≠ B := by omega
  have hRw : w.heap.size ≤ R := by omega
  have hBw : w.heap.size ≤ B := by omega
  clear hW1 hR hB
  go_loopw [9, 10] (RgI w R B l k q) (fun _ p _ => n - (intOf p).toNat)
  case atStart => exact ⟨0, noE, false, Nat.zero_le _, rfl, rfl, rfl, rfl, Lib.hid hR1, Lib.hid hB1, Lib.hid hb1⟩
  case round =>
    obtain ⟨i, b, fd, hi, rfl, rfl, hfd, hbe, HR, HB, HW⟩ := hrel
    rw [HL.out] at hi
    by_cases hlt : i < n
    · obtain ⟨x, hx⟩ : ∃ x, l[i]? = some x := ⟨l[i]'(by have := HL.out; omega), List.getElem?_eq_getElem _⟩
      obtain ⟨g, p, rfl, hg, x0, x1, x2, x3⟩ := erd_at (HA.out.below HW.out) hx
      obtain ⟨⟨b0, b1, b2, b3⟩, f0, f1, f2, f3⟩ := cells4 HB.out
      have k1 : (i : Int) < (n : Int) := by omega
      have k2 : (0 : Int) ≤ (i : Int) := by omega
      have HX := Lib.hid hx
      clear hx
      by_cases hk : x.k = k.toList
      · have hk2 : (x.key.toList == k.toList) = true := by simpa [En.k] using hk
        by_cases hq : x.seq ≤ q
        · cases fd with
          | false =>
            have hnone : seen (l.take i) k.toList q = none := by simpa using hfd.symm
            have HF := Lib.hid (seen_hit hnone HX.out (hit_iff.2 ⟨hk, hq⟩))
            clear hk hfd hbe hnone
            go_wp2
            refine wp_region_held_drew (S := fun W => W.cell? ⟨g, p + i * 4, none⟩ = some (.string x.key) ∧ W.cell? ⟨g, p + i * 4 + 1, none⟩ = some (.int .i64 x.seq) ∧ W.cell? ⟨B, 1, none⟩ = some (.int .i64 b.seq)) (by kernel_rfl) (by (exact ⟨x0, x1, b1⟩)) (fun hHeld => ?_)
            refine wpAnyH_take (i := 0) (v := ?vr1_0) (Fr.take_at rfl) (by kernel_rfl) (by kernel_rfl) (by kernel_rfl) (fun _ _ _ h => h) (Or.inl ⟨by rfl, ?yr1_0⟩) (by assumption) ?nr1_0
            case yr1_0 => (intro w_ hSw; obtain ⟨y0, y1, y2⟩ := hSw; go_simp; (try with_reducible rfl))
            try simp only [Act.put, List.setIfInBounds_toArray, List.set_cons_zero, List.set_cons_succ]
            refine wpAnyH_take (i := 1) (v := ?vr1_1) (Fr.take_at rfl) (by kernel_rfl) (by kernel_rfl) (by kernel_rfl) (fun _ _ _ h => h) (Or.inl ⟨by rfl, ?yr1_1⟩) (by assumption) ?nr1_1
            case yr1_1 => (intro w_ hSw; obtain ⟨y0, y1, y2⟩ := hSw; go_simp; (try with_reducible rfl))
            try simp only [Act.put, List.setIfInBounds_toArray, List.set_cons_zero, List.set_cons_succ]
            refine wpAnyH_take (i := 2) (v := ?vr1_2) (Fr.take_at rfl) (by kernel_rfl) (by kernel_rfl) (by kernel_rfl) (fun _ _ _ h => h) (Or.inl ⟨by rfl, ?yr1_2⟩) (by assumption) ?nr1_2
            case yr1_2 => (intro w_ hSw; obtain ⟨y0, y1, y2⟩ := hSw; go_simp; (try with_reducible rfl))
            try simp only [Act.put, List.setIfInBounds_toArray, List.set_cons_zero, List.set_cons_succ]
            refine wpAnyH_take (i := 3) (v := ?vr1_3) (Fr.take_at rfl) (by kernel_rfl) (by kernel_rfl) (by kernel_rfl) (fun _ _ _ h => h) (Or.inl ⟨by rfl, ?yr1_3⟩) (by assumption) ?nr1_3
            case yr1_3 => (intro w_ hSw; obtain ⟨y0, y1, y2⟩ := hSw; go_simp; (try with_reducible rfl))
            try simp only [Act.put, List.setIfInBounds_toArray, List.set_cons_zero, List.set_cons_succ]
            refine wpAnyH_take (i := 4) (v := ?vr1_4) (Fr.take_at rfl) (by kernel_rfl) (by kernel_rfl) (by kernel_rfl) (fun _ _ _ h => h) (Or.inl ⟨by rfl, ?yr1_4⟩) (by assumption) ?nr1_4
            case yr1_4 => (intro w_ hSw; obtain ⟨y0, y1, y2⟩ := hSw; go_simp; (try with_reducible rfl))
            try simp only [Act.put, List.setIfInBounds_toArray, List.set_cons_zero, List.set_cons_succ]
            refine wpAnyH_take (i := 5) (v := ?vr1_5) (Fr.take_at rfl) (by kernel_rfl) (by kernel_rfl) (by kernel_rfl) (fun _ _ _ h => h) (Or.inl ⟨by rfl, ?yr1_5⟩) (by assumption) ?nr1_5
            case yr1_5 => (intro w_ hSw; obtain ⟨y0, y1, y2⟩ := hSw; go_simp; (try with_reducible rfl))
            try simp only [Act.put, List.setIfInBounds_toArray, List.set_cons_zero, List.set_cons_succ]
            refine wpAnyH_take (i := 6) (v := ?vr1_6) (Fr.take_at rfl) (by kernel_rfl) (by kernel_rfl) (by kernel_rfl) (fun _ _ _ h => h) (Or.inl ⟨by rfl, ?yr1_6⟩) (by assumption) ?nr1_6
            case yr1_6 => (intro w_ hSw; obtain ⟨y0, y1, y2⟩ := hSw; go_simp; (try with_reducible rfl))
            try simp only [Act.put, List.setIfInBounds_toArray, List.set_cons_zero, List.set_cons_succ]
            refine wpAnyH_take (i := 7) (v := ?vr1_7) (Fr.take_at rfl) (by kernel_rfl) (by kernel_rfl) (by kernel_rfl) (fun _ _ _ h => h) (Or.inl ⟨by rfl, ?yr1_7⟩) (by assumption) ?nr1_7
            case yr1_7 => (intro w_ hSw; obtain ⟨y0, y1, y2⟩ := hSw; go_simp; (try with_reducible rfl))
            try simp only [Act.put, List.setIfInBounds_toArray, List.set_cons_zero, List.set_cons_succ]
            refine wpAnyH_take (i := 8) (v := ?vr1_8) (Fr.take_at rfl) (by kernel_rfl) (by kernel_rfl) (by kernel_rfl) (fun _ _ _ h => h) (Or.inl ⟨by rfl, ?yr1_8⟩) (by assumption) ?nr1_8
            case yr1_8 => (intro w_ hSw; obtain ⟨y0, y1, y2⟩ := hSw; go_simp; (try with_reducible rfl))
            try simp only [Act.put, List.setIfInBounds_toArray, List.set_cons_zero, List.set_cons_succ]
            refine wpAnyH_take (i := 9) (v := ?vr1_9) (Fr.take_at rfl) (by kernel_rfl) (by kernel_rfl) (by kernel_rfl) (fun _ _ _ h => h) (Or.inl ⟨by rfl, ?yr1_9⟩) (by assumption) ?nr1_9
            case yr1_9 => (intro w_ hSw; obtain ⟨y0, y1, y2⟩ := hSw; go_simp; (try with_reducible rfl))
            try simp only [Act.put, List.setIfInBounds_toArray, List.set_cons_zero, List.set_cons_succ]
            refine wpAnyH_take (i := 10) (v := ?vr1_10) (Fr.take_at rfl) (by kernel_rfl) (by kernel_rfl) (by kernel_rfl) (fun _ _ _ h => h) (Or.inl ⟨by rfl, ?yr1_10⟩) (by assumption) ?nr1_10
            case yr1_10 => (intro w_ hSw; obtain ⟨y0, y1, y2⟩ := hSw; go_simp; (try with_reducible rfl))
            try simp only [Act.put, List.setIfInBounds_toArray, List.set_cons_zero, List.set_cons_succ]
            refine wpAnyH_take (i := 11) (v := ?vr1_11) (Fr.take_at rfl) (by kernel_rfl) (by kernel_rfl) (by kernel_rfl) (fun _ _ _ h => h) (Or.inl ⟨by rfl, ?yr1_11⟩) (by assumption) ?nr1_11
            case yr1_11 => (intro w_ hSw; obtain ⟨y0, y1, y2⟩ := hSw; go_simp; (try with_reducible rfl))
            try simp only [Act.put, List.setIfInBounds_toArray, List.set_cons_zero, List.set_cons_succ]
            refine wpAnyH_take (i := 12) (v := ?vr1_12) (Fr.take_at rfl) (by kernel_rfl) (by kernel_rfl) (by kernel_rfl) (fun _ _ _ h => h) (Or.inl ⟨by rfl, ?yr1_12⟩) (by assumption) ?nr1_12
            case yr1_12 => (intro w_ hSw; obtain ⟨y0, y1, y2⟩ := hSw; go_simp; (try with_reducible rfl))
            try simp only [Act.put, List.setIfInBounds_toArray, List.set_cons_zero, List.set_cons_succ]
            refine wpAnyH_take (i := 13) (v := ?vr1_13) (Fr.take_at rfl) (by kernel_rfl) (by kernel_rfl) (by kernel_rfl) (fun _ _ _ h => h) (Or.inl ⟨by rfl, ?yr1_13⟩) (by assumption) ?nr1_13
            case yr1_13 => (intro w_ hSw; obtain ⟨y0, y1, y2⟩ := hSw; go_simp; (try with_reducible rfl))
            try simp only [Act.put, List.setIfInBounds_toArray, List.set_cons_zero, List.set_cons_succ]
            refine wpAnyH_take (i := 14) (v := ?vr1_14) (Fr.take_at rfl) (by kernel_rfl) (by kernel_rfl) (by kernel_rfl) (fun _ _ _ h => h) (Or.inl ⟨by rfl, ?yr1_14⟩) (by assumption) ?nr1_14
            case yr1_14 => (intro w_ hSw; obtain ⟨y0, y1, y2⟩ := hSw; go_simp; (try with_reducible rfl))
            try simp only [Act.put, List.setIfInBounds_toArray, List.set_cons_zero, List.set_cons_succ]
            refine wpAnyH_take (i := 15) (v := ?vr1_15) (Fr.take_at rfl) (by kernel_rfl) (by kernel_rfl) (by kernel_rfl) (fun _ _ _ h => h) (Or.inl ⟨by rfl, ?yr1_15⟩) (by assumption) ?nr1_15
            case yr1_15 => (intro w_ hSw; obtain ⟨y0, y1, y2⟩ := hSw; go_simp; (try with_reducible rfl))
            try simp only [Act.put, List.setIfInBounds_toArray, List.set_cons_zero, List.set_cons_succ]
            refine wpAnyH_take (i := 16) (v := ?vr1_16) (Fr.take_at rfl) (by kernel_rfl) (by kernel_rfl) (by kernel_rfl) (fun _ _ _ h => h) (Or.inl ⟨by rfl, ?yr1_16⟩) (by assumption) ?nr1_16
            case yr1_16 => (intro w_ hSw; obtain ⟨y0, y1, y2⟩ := hSw; go_simp; (try with_reducible rfl))
            try simp only [Act.put, List.setIfInBounds_toArray, List.set_cons_zero, List.set_cons_succ]
            refine wpAnyH_take (i := 17) (v := ?vr1_17) (Fr.take_at rfl) (by kernel_rfl) (by kernel_rfl) (by kernel_rfl) (fun _ _ _ h => h) (Or.inl ⟨by rfl, ?yr1_17⟩) (by assumption) ?nr1_17
            case yr1_17 => (intro w_ hSw; obtain ⟨y0, y1, y2⟩ := hSw; go_simp; (try with_reducible rfl))
            try simp only [Act.put, List.setIfInBounds_toArray, List.set_cons_zero, List.set_cons_succ]
            refine wpAnyH_take (i := 18) (v := ?vr1_18) (Fr.take_at rfl) (by kernel_rfl) (by kernel_rfl) (by kernel_rfl) (fun _ _ _ h => h) (Or.inl ⟨by rfl, ?yr1_18⟩) (by assumption) ?nr1_18
            case yr1_18 => (intro w_ hSw; obtain ⟨y0, y1, y2⟩ := hSw; go_simp; (try with_reducible rfl))
            try simp only [Act.put, List.setIfInBounds_toArray, List.set_cons_zero, List.set_cons_succ]
            refine wpAnyH_take (i := 19) (v := ?vr1_19) (Fr.take_at rfl) (by kernel_rfl) (by kernel_rfl) (by kernel_rfl) (fun _ _ _ h => h) (Or.inl ⟨by rfl, ?yr1_19⟩) (by assumption) ?nr1_19
            case yr1_19 => (intro w_ hSw; obtain ⟨y0, y1, y2⟩ := hSw; go_simp; (try with_reducible rfl))
            try simp only [Act.put, List.setIfInBounds_toArray, List.set_cons_zero, List.set_cons_succ]
            refine wpAnyH_take (i := 20) (v := undef) (Fr.take_at rfl) (by kernel_rfl) (by kernel_rfl) (by kernel_rfl) (fun _ _ _ h => h) (Or.inr ⟨by rfl, rfl⟩) (by assumption) ?_
            try simp only [Act.put, List.setIfInBounds_toArray, List.set_cons_zero, List.set_cons_succ]
            refine wpAnyH_take (i := 21) (v := undef) (Fr.take_at rfl) (by kernel_rfl) (by kernel_rfl) (by kernel_rfl) (fun _ _ _ h => h) (Or.inr ⟨by rfl, rfl⟩) (by assumption) ?_
            try simp only [Act.put, List.setIfInBounds_toArray, List.set_cons_zero, List.set_cons_succ]
            refine wpAnyH_take (i := 22) (v := undef) (Fr.take_at rfl) (by kernel_rfl) (by kernel_rfl) (by kernel_rfl) (fun _ _ _ h => h) (Or.inr ⟨by rfl, rfl⟩) (by assumption) ?_
            try simp only [Act.put, List.setIfInBounds_toArray, List.set_cons_zero, List.set_cons_succ]
            refine wpAnyH_take (i := 23) (v := undef) (Fr.take_at rfl) (by kernel_rfl) (by kernel_rfl) (by kernel_rfl) (fun _ _ _ h => h) (Or.inr ⟨by rfl, rfl⟩) (by assumption) ?_
            try simp only [Act.put, List.setIfInBounds_toArray, List.set_cons_zero, List.set_cons_succ]
            refine wpAnyH_take (i := 24) (v := undef) (Fr.take_at rfl) (by kernel_rfl) (by kernel_rfl) (by kernel_rfl) (fun _ _ _ h => h) (Or.inr ⟨by rfl, rfl⟩) (by assumption) ?_
            try simp only [Act.put, List.setIfInBounds_toArray, List.set_cons_zero, List.set_cons_succ]
            refine wpAnyH_take (i := 25) (v := undef) (Fr.take_at rfl) (by kernel_rfl) (by kernel_rfl) (by kernel_rfl) (fun _ _ _ h => h) (Or.inr ⟨by rfl, rfl⟩) (by assumption) ?_
            try simp only [Act.put, List.setIfInBounds_toArray, List.set_cons_zero, List.set_cons_succ]
            refine wpAnyH_take (i := 26) (v := undef) (Fr.take_at rfl) (by kernel_rfl) (by kernel_rfl) (by kernel_rfl) (fun _ _ _ h => h) (Or.inr ⟨by rfl, rfl⟩) (by assumption) ?_
            try simp only [Act.put, List.setIfInBounds_toArray, List.set_cons_zero, List.set_cons_succ]
            refine wpAnyH_take (i := 27) (v := undef) (Fr.take_at rfl) (by kernel_rfl) (by kernel_rfl) (by kernel_rfl) (fun _ _ _ h => h) (Or.inr ⟨by rfl, rfl⟩) (by assumption) ?_
            try simp only [Act.put, List.setIfInBounds_toArray, List.set_cons_zero, List.set_cons_succ]
            refine wpAnyH_take (i := 28) (v := ?vr1_28) (Fr.take_at rfl) (by kernel_rfl) (by kernel_rfl) (by kernel_rfl) (fun _ _ _ h => h) (Or.inl ⟨by rfl, ?yr1_28⟩) (by assumption) ?nr1_28
            case yr1_28 => (intro w_ hSw; obtain ⟨y0, y1, y2⟩ := hSw; go_simp; (try with_reducible rfl))
            try simp only [Act.put, List.setIfInBounds_toArray, List.set_cons_zero, List.set_cons_succ]
            refine wpAnyH_take (i := 29) (v := ?vr1_29) (Fr.take_at rfl) (by kernel_rfl) (by kernel_rfl) (by kernel_rfl) (fun _ _ _ h => h) (Or.inl ⟨by rfl, ?yr1_29⟩) (by assumption) ?nr1_29
            case yr1_29 => (intro w_ hSw; obtain ⟨y0, y1, y2⟩ := hSw; go_simp; (try with_reducible rfl))
            try simp only [Act.put, List.setIfInBounds_toArray, List.set_cons_zero, List.set_cons_succ]
            refine wpAnyH_done (by kernel_rfl) ?_ _
            go_wp2
            go_roundw
            case rel => exact ⟨i + 1, x, true, by rw [HL.out]; omega, by simp, rfl, by rw [HF.out]; rfl, by rw [HF.out]; rfl, Lib.hid (set4_other (blk_drewN HR.out 1) hRB _ _ _ _), Lib.hid (set4 (blk_drewN HB.out 1) _ _ _ _), Lib.hid (bel4 (below_drewN HW.out 1) hBw _ _ _ _)⟩
            case measure => simp [intOf]; omega
          | true =>
            obtain ⟨y, hy⟩ : ∃ y, seen (l.take i) k.toList q = some y := Option.isSome_iff_exists.1 hfd.symm
            obtain rfl : b = y := by rw [hbe, hy]; rfl
            have hlt3 : ¬ b.seq < x.seq := by have := seen_newer HS.out hy HX.out hk; omega
            have HF := Lib.hid ((seen_keep hy).trans hy.symm)
            have HFD := Lib.hid hfd
            have HBE := Lib.hid hbe
            clear hk hfd hbe hy
            go_wp2
            refine wp_region_held_drew (S := fun W => W.cell? ⟨g, p + i * 4, none⟩ = some (.string x.key) ∧ W.cell? ⟨g, p + i * 4 + 1, none⟩ = some (.int .i64 x.seq) ∧ W.cell? ⟨B, 1, none⟩ = some (.int .i64 b.seq)) (by kernel_rfl) (by (exact ⟨x0, x1, b1⟩)) (fun hHeld => ?_)
            refine wpAnyH_take (i := 0) (v := ?vr2_0) (Fr.take_at rfl) (by kernel_rfl) (by kernel_rfl) (by kernel_rfl) (fun _ _ _ h => h) (Or.inl ⟨by rfl, ?yr2_0⟩) (by assumption) ?nr2_0
            case yr2_0 => (intro w_ hSw; obtain ⟨y0, y1, y2⟩ := hSw; go_simp; (try with_reducible rfl))
            try simp only [Act.put, List.setIfInBounds_toArray, List.set_cons_zero, List.set_cons_succ]
            refine wpAnyH_take (i := 1) (v := ?vr2_1) (Fr.take_at rfl) (by kernel_rfl) (by kernel_rfl) (by kernel_rfl) (fun _ _ _ h => h) (Or.inl ⟨by rfl, ?yr2_1⟩) (by assumption) ?nr2_1
            case yr2_1 => (intro w_ hSw; obtain ⟨y0, y1, y2⟩ := hSw; go_simp; (try with_reducible rfl))
            try simp only [Act.put, List.setIfInBounds_toArray, List.set_cons_zero, List.set_cons_succ]
            refine wpAnyH_take (i := 2) (v := ?vr2_2) (Fr.take_at rfl) (by kernel_rfl) (by kernel_rfl) (by kernel_rfl) (fun _ _ _ h => h) (Or.inl ⟨by rfl, ?yr2_2⟩) (by assumption) ?nr2_2
            case yr2_2 => (intro w_ hSw; obtain ⟨y0, y1, y2⟩ := hSw; go_simp; (try with_reducible rfl))
            try simp only [Act.put, List.setIfInBounds_toArray, List.set_cons_zero, List.set_cons_succ]
            refine wpAnyH_take (i := 3) (v := ?vr2_3) (Fr.take_at rfl) (by kernel_rfl) (by kernel_rfl) (by kernel_rfl) (fun _ _ _ h => h) (Or.inl ⟨by rfl, ?yr2_3⟩) (by assumption) ?nr2_3
            case yr2_3 => (intro w_ hSw; obtain ⟨y0, y1, y2⟩ := hSw; go_simp; (try with_reducible rfl))
            try simp only [Act.put, List.setIfInBounds_toArray, List.set_cons_zero, List.set_cons_succ]
            refine wpAnyH_take (i := 4) (v := ?vr2_4) (Fr.take_at rfl) (by kernel_rfl) (by kernel_rfl) (by kernel_rfl) (fun _ _ _ h => h) (Or.inl ⟨by rfl, ?yr2_4⟩) (by assumption) ?nr2_4
            case yr2_4 => (intro w_ hSw; obtain ⟨y0, y1, y2⟩ := hSw; go_simp; (try with_reducible rfl))
            try simp only [Act.put, List.setIfInBounds_toArray, List.set_cons_zero, List.set_cons_succ]
            refine wpAnyH_take (i := 5) (v := ?vr2_5) (Fr.take_at rfl) (by kernel_rfl) (by kernel_rfl) (by kernel_rfl) (fun _ _ _ h => h) (Or.inl ⟨by rfl, ?yr2_5⟩) (by assumption) ?nr2_5
            case yr2_5 => (intro w_ hSw; obtain ⟨y0, y1, y2⟩ := hSw; go_simp; (try with_reducible rfl))
            try simp only [Act.put, List.setIfInBounds_toArray, List.set_cons_zero, List.set_cons_succ]
            refine wpAnyH_take (i := 6) (v := ?vr2_6) (Fr.take_at rfl) (by kernel_rfl) (by kernel_rfl) (by kernel_rfl) (fun _ _ _ h => h) (Or.inl ⟨by rfl, ?yr2_6⟩) (by assumption) ?nr2_6
            case yr2_6 => (intro w_ hSw; obtain ⟨y0, y1, y2⟩ := hSw; go_simp; (try with_reducible rfl))
            try simp only [Act.put, List.setIfInBounds_toArray, List.set_cons_zero, List.set_cons_succ]
            refine wpAnyH_take (i := 7) (v := ?vr2_7) (Fr.take_at rfl) (by kernel_rfl) (by kernel_rfl) (by kernel_rfl) (fun _ _ _ h => h) (Or.inl ⟨by rfl, ?yr2_7⟩) (by assumption) ?nr2_7
            case yr2_7 => (intro w_ hSw; obtain ⟨y0, y1, y2⟩ := hSw; go_simp; (try with_reducible rfl))
            try simp only [Act.put, List.setIfInBounds_toArray, List.set_cons_zero, List.set_cons_succ]
            refine wpAnyH_take (i := 8) (v := ?vr2_8) (Fr.take_at rfl) (by kernel_rfl) (by kernel_rfl) (by kernel_rfl) (fun _ _ _ h => h) (Or.inl ⟨by rfl, ?yr2_8⟩) (by assumption) ?nr2_8
            case yr2_8 => (intro w_ hSw; obtain ⟨y0, y1, y2⟩ := hSw; go_simp; (try with_reducible rfl))
            try simp only [Act.put, List.setIfInBounds_toArray, List.set_cons_zero, List.set_cons_succ]
            refine wpAnyH_take (i := 9) (v := ?vr2_9) (Fr.take_at rfl) (by kernel_rfl) (by kernel_rfl) (by kernel_rfl) (fun _ _ _ h => h) (Or.inl ⟨by rfl, ?yr2_9⟩) (by assumption) ?nr2_9
            case yr2_9 => (intro w_ hSw; obtain ⟨y0, y1, y2⟩ := hSw; go_simp; (try with_reducible rfl))
            try simp only [Act.put, List.setIfInBounds_toArray, List.set_cons_zero, List.set_cons_succ]
            refine wpAnyH_take (i := 10) (v := ?vr2_10) (Fr.take_at rfl) (by kernel_rfl) (by kernel_rfl) (by kernel_rfl) (fun _ _ _ h => h) (Or.inl ⟨by rfl, ?yr2_10⟩) (by assumption) ?nr2_10
            case yr2_10 => (intro w_ hSw; obtain ⟨y0, y1, y2⟩ := hSw; go_simp; (try with_reducible rfl))
            try simp only [Act.put, List.setIfInBounds_toArray, List.set_cons_zero, List.set_cons_succ]
            refine wpAnyH_take (i := 11) (v := ?vr2_11) (Fr.take_at rfl) (by kernel_rfl) (by kernel_rfl) (by kernel_rfl) (fun _ _ _ h => h) (Or.inl ⟨by rfl, ?yr2_11⟩) (by assumption) ?nr2_11
            case yr2_11 => (intro w_ hSw; obtain ⟨y0, y1, y2⟩ := hSw; go_simp; (try with_reducible rfl))
            try simp only [Act.put, List.setIfInBounds_toArray, List.set_cons_zero, List.set_cons_succ]
            refine wpAnyH_take (i := 12) (v := ?vr2_12) (Fr.take_at rfl) (by kernel_rfl) (by kernel_rfl) (by kernel_rfl) (fun _ _ _ h => h) (Or.inl ⟨by rfl, ?yr2_12⟩) (by assumption) ?nr2_12
            case yr2_12 => (intro w_ hSw; obtain ⟨y0, y1, y2⟩ := hSw; go_simp; (try with_reducible rfl))
            try simp only [Act.put, List.setIfInBounds_toArray, List.set_cons_zero, List.set_cons_succ]
            refine wpAnyH_take (i := 13) (v := ?vr2_13) (Fr.take_at rfl) (by kernel_rfl) (by kernel_rfl) (by kernel_rfl) (fun _ _ _ h => h) (Or.inl ⟨by rfl, ?yr2_13⟩) (by assumption) ?nr2_13
            case yr2_13 => (intro w_ hSw; obtain ⟨y0, y1, y2⟩ := hSw; go_simp; (try with_reducible rfl))
            try simp only [Act.put, List.setIfInBounds_toArray, List.set_cons_zero, List.set_cons_succ]
            refine wpAnyH_take (i := 14) (v := ?vr2_14) (Fr.take_at rfl) (by kernel_rfl) (by kernel_rfl) (by kernel_rfl) (fun _ _ _ h => h) (Or.inl ⟨by rfl, ?yr2_14⟩) (by assumption) ?nr2_14
            case yr2_14 => (intro w_ hSw; obtain ⟨y0, y1, y2⟩ := hSw; go_simp; (try with_reducible rfl))
            try simp only [Act.put, List.setIfInBounds_toArray, List.set_cons_zero, List.set_cons_succ]
            refine wpAnyH_take (i := 15) (v := ?vr2_15) (Fr.take_at rfl) (by kernel_rfl) (by kernel_rfl) (by kernel_rfl) (fun _ _ _ h => h) (Or.inl ⟨by rfl, ?yr2_15⟩) (by assumption) ?nr2_15
            case yr2_15 => (intro w_ hSw; obtain ⟨y0, y1, y2⟩ := hSw; go_simp; (try with_reducible rfl))
            try simp only [Act.put, List.setIfInBounds_toArray, List.set_cons_zero, List.set_cons_succ]
            refine wpAnyH_take (i := 16) (v := ?vr2_16) (Fr.take_at rfl) (by kernel_rfl) (by kernel_rfl) (by kernel_rfl) (fun _ _ _ h => h) (Or.inl ⟨by rfl, ?yr2_16⟩) (by assumption) ?nr2_16
            case yr2_16 => (intro w_ hSw; obtain ⟨y0, y1, y2⟩ := hSw; go_simp; (try with_reducible rfl))
            try simp only [Act.put, List.setIfInBounds_toArray, List.set_cons_zero, List.set_cons_succ]
            refine wpAnyH_take (i := 17) (v := ?vr2_17) (Fr.take_at rfl) (by kernel_rfl) (by kernel_rfl) (by kernel_rfl) (fun _ _ _ h => h) (Or.inl ⟨by rfl, ?yr2_17⟩) (by assumption) ?nr2_17
            case yr2_17 => (intro w_ hSw; obtain ⟨y0, y1, y2⟩ := hSw; go_simp; (try with_reducible rfl))
            try simp only [Act.put, List.setIfInBounds_toArray, List.set_cons_zero, List.set_cons_succ]
            refine wpAnyH_take (i := 18) (v := ?vr2_18) (Fr.take_at rfl) (by kernel_rfl) (by kernel_rfl) (by kernel_rfl) (fun _ _ _ h => h) (Or.inl ⟨by rfl, ?yr2_18⟩) (by assumption) ?nr2_18
            case yr2_18 => (intro w_ hSw; obtain ⟨y0, y1, y2⟩ := hSw; go_simp; (try with_reducible rfl))
            try simp only [Act.put, List.setIfInBounds_toArray, List.set_cons_zero, List.set_cons_succ]
            refine wpAnyH_take (i := 19) (v := ?vr2_19) (Fr.take_at rfl) (by kernel_rfl) (by kernel_rfl) (by kernel_rfl) (fun _ _ _ h => h) (Or.inl ⟨by rfl, ?yr2_19⟩) (by assumption) ?nr2_19
            case yr2_19 => (intro w_ hSw; obtain ⟨y0, y1, y2⟩ := hSw; go_simp; (try with_reducible rfl))
            try simp only [Act.put, List.setIfInBounds_toArray, List.set_cons_zero, List.set_cons_succ]
            refine wpAnyH_take (i := 20) (v := ?vr2_20) (Fr.take_at rfl) (by kernel_rfl) (by kernel_rfl) (by kernel_rfl) (fun _ _ _ h => h) (Or.inl ⟨by rfl, ?yr2_20⟩) (by assumption) ?nr2_20
            case yr2_20 => (intro w_ hSw; obtain ⟨y0, y1, y2⟩ := hSw; go_simp; (try with_reducible rfl))
            try simp only [Act.put, List.setIfInBounds_toArray, List.set_cons_zero, List.set_cons_succ]
            refine wpAnyH_take (i := 21) (v := ?vr2_21) (Fr.take_at rfl) (by kernel_rfl) (by kernel_rfl) (by kernel_rfl) (fun _ _ _ h => h) (Or.inl ⟨by rfl, ?yr2_21⟩) (by assumption) ?nr2_21
            case yr2_21 => (intro w_ hSw; obtain ⟨y0, y1, y2⟩ := hSw; go_simp; (try with_reducible rfl))
            try simp only [Act.put, List.setIfInBounds_toArray, List.set_cons_zero, List.set_cons_succ]
            refine wpAnyH_take (i := 22) (v := ?vr2_22) (Fr.take_at rfl) (by kernel_rfl) (by kernel_rfl) (by kernel_rfl) (fun _ _ _ h => h) (Or.inl ⟨by rfl, ?yr2_22⟩) (by assumption) ?nr2_22
            case yr2_22 => (intro w_ hSw; obtain ⟨y0, y1, y2⟩ := hSw; go_simp; (try with_reducible rfl))
            try simp only [Act.put, List.setIfInBounds_toArray, List.set_cons_zero, List.set_cons_succ]
            refine wpAnyH_take (i := 23) (v := ?vr2_23) (Fr.take_at rfl) (by kernel_rfl) (by kernel_rfl) (by kernel_rfl) (fun _ _ _ h => h) (Or.inl ⟨by rfl, ?yr2_23⟩) (by assumption) ?nr2_23
            case yr2_23 => (intro w_ hSw; obtain ⟨y0, y1, y2⟩ := hSw; go_simp; (try with_reducible rfl))
            try simp only [Act.put, List.setIfInBounds_toArray, List.set_cons_zero, List.set_cons_succ]
            refine wpAnyH_take (i := 24) (v := ?vr2_24) (Fr.take_at rfl) (by kernel_rfl) (by kernel_rfl) (by kernel_rfl) (fun _ _ _ h => h) (Or.inl ⟨by rfl, ?yr2_24⟩) (by assumption) ?nr2_24
            case yr2_24 => (intro w_ hSw; obtain ⟨y0, y1, y2⟩ := hSw; go_simp; (try with_reducible rfl))
            try simp only [Act.put, List.setIfInBounds_toArray, List.set_cons_zero, List.set_cons_succ]
            refine wpAnyH_take (i := 25) (v := ?vr2_25) (Fr.take_at rfl) (by kernel_rfl) (by kernel_rfl) (by kernel_rfl) (fun _ _ _ h => h) (Or.inl ⟨by rfl, ?yr2_25⟩) (by assumption) ?nr2_25
            case yr2_25 => (intro w_ hSw; obtain ⟨y0, y1, y2⟩ := hSw; go_simp; (try with_reducible rfl))
            try simp only [Act.put, List.setIfInBounds_toArray, List.set_cons_zero, List.set_cons_succ]
            refine wpAnyH_take (i := 26) (v := ?vr2_26) (Fr.take_at rfl) (by kernel_rfl) (by kernel_rfl) (by kernel_rfl) (fun _ _ _ h => h) (Or.inl ⟨by rfl, ?yr2_26⟩) (by assumption) ?nr2_26
            case yr2_26 => (intro w_ hSw; obtain ⟨y0, y1, y2⟩ := hSw; go_simp; (try with_reducible rfl))
            try simp only [Act.put, List.setIfInBounds_toArray, List.set_cons_zero, List.set_cons_succ]
            refine wpAnyH_take (i := 27) (v := ?vr2_27) (Fr.take_at rfl) (by kernel_rfl) (by kernel_rfl) (by kernel_rfl) (fun _ _ _ h => h) (Or.inl ⟨by rfl, ?yr2_27⟩) (by assumption) ?nr2_27
            case yr2_27 => (intro w_ hSw; obtain ⟨y0, y1, y2⟩ := hSw; go_simp; (try with_reducible rfl))
            try simp only [Act.put, List.setIfInBounds_toArray, List.set_cons_zero, List.set_cons_succ]
            refine wpAnyH_take (i := 28) (v := ?vr2_28) (Fr.take_at rfl) (by kernel_rfl) (by kernel_rfl) (by kernel_rfl) (fun _ _ _ h => h) (Or.inl ⟨by rfl, ?yr2_28⟩) (by assumption) ?nr2_28
            case yr2_28 => (intro w_ hSw; obtain ⟨y0, y1, y2⟩ := hSw; go_simp; (try with_reducible rfl))
            try simp only [Act.put, List.setIfInBounds_toArray, List.set_cons_zero, List.set_cons_succ]
            refine wpAnyH_take (i := 29) (v := ?vr2_29) (Fr.take_at rfl) (by kernel_rfl) (by kernel_rfl) (by kernel_rfl) (fun _ _ _ h => h) (Or.inl ⟨by rfl, ?yr2_29⟩) (by assumption) ?nr2_29
            case yr2_29 => (intro w_ hSw; obtain ⟨y0, y1, y2⟩ := hSw; go_simp; (try with_reducible rfl))
            try simp only [Act.put, List.setIfInBounds_toArray, List.set_cons_zero, List.set_cons_succ]
            refine wpAnyH_done (by kernel_rfl) ?_ _
            go_wp2
            have hfd := HFD.out
            have hbe := HBE.out
            go_roundw
            case rel => exact ⟨i + 1, b, true, by rw [HL.out]; omega, by simp, rfl, by rw [HF.out]; exact hfd, by rw [HF.out]; exact hbe, Lib.hid (blk_drewN HR.out 1), Lib.hid (blk_drewN HB.out 1), Lib.hid (below_drewN HW.out 1)⟩
            case measure => simp [intOf]; omega
        · have hq2 : decide (x.seq ≤ q) = false := by simp; omega
          have HF := Lib.hid (seen_miss (k := k) (q := q) HX.out (by rw [← Bool.not_eq_true, hit_iff]; exact fun h => hq h.2))
          have HFD := Lib.hid hfd
          have HBE := Lib.hid hbe
          clear hk hfd hbe
          go_wp2
          refine wp_region_held_drew (S := fun W => W.cell? ⟨g, p + i * 4, none⟩ = some (.string x.key) ∧ W.cell? ⟨g, p + i * 4 + 1, none⟩ = some (.int .i64 x.seq) ∧ W.cell? ⟨B, 1, none⟩ = some (.int .i64 b.seq)) (by kernel_rfl) (by (exact ⟨x0, x1, b1⟩)) (fun hHeld => ?_)
          refine wpAnyH_take (i := 0) (v := ?vr3_0) (Fr.take_at rfl) (by kernel_rfl) (by kernel_rfl) (by kernel_rfl) (fun _ _ _ h => h) (Or.inl ⟨by rfl, ?yr3_0⟩) (by assumption) ?nr3_0
          case yr3_0 => (intro w_ hSw; obtain ⟨y0, y1, y2⟩ := hSw; go_simp; (try with_reducible rfl))
          try simp only [Act.put, List.setIfInBounds_toArray, List.set_cons_zero, List.set_cons_succ]
          refine wpAnyH_take (i := 1) (v := ?vr3_1) (Fr.take_at rfl) (by kernel_rfl) (by kernel_rfl) (by kernel_rfl) (fun _ _ _ h => h) (Or.inl ⟨by rfl, ?yr3_1⟩) (by assumption) ?nr3_1
          case yr3_1 => (intro w_ hSw; obtain ⟨y0, y1, y2⟩ := hSw; go_simp; (try with_reducible rfl))
          try simp only [Act.put, List.setIfInBounds_toArray, List.set_cons_zero, List.set_cons_succ]
          refine wpAnyH_take (i := 2) (v := ?vr3_2) (Fr.take_at rfl) (by kernel_rfl) (by kernel_rfl) (by kernel_rfl) (fun _ _ _ h => h) (Or.inl ⟨by rfl, ?yr3_2⟩) (by assumption) ?nr3_2
          case yr3_2 => (intro w_ hSw; obtain ⟨y0, y1, y2⟩ := hSw; go_simp; (try with_reducible rfl))
          try simp only [Act.put, List.setIfInBounds_toArray, List.set_cons_zero, List.set_cons_succ]
          refine wpAnyH_take (i := 3) (v := ?vr3_3) (Fr.take_at rfl) (by kernel_rfl) (by kernel_rfl) (by kernel_rfl) (fun _ _ _ h => h) (Or.inl ⟨by rfl, ?yr3_3⟩) (by assumption) ?nr3_3
          case yr3_3 => (intro w_ hSw; obtain ⟨y0, y1, y2⟩ := hSw; go_simp; (try with_reducible rfl))
          try simp only [Act.put, List.setIfInBounds_toArray, List.set_cons_zero, List.set_cons_succ]
          refine wpAnyH_take (i := 4) (v := ?vr3_4) (Fr.take_at rfl) (by kernel_rfl) (by kernel_rfl) (by kernel_rfl) (fun _ _ _ h => h) (Or.inl ⟨by rfl, ?yr3_4⟩) (by assumption) ?nr3_4
          case yr3_4 => (intro w_ hSw; obtain ⟨y0, y1, y2⟩ := hSw; go_simp; (try with_reducible rfl))
          try simp only [Act.put, List.setIfInBounds_toArray, List.set_cons_zero, List.set_cons_succ]
          refine wpAnyH_take (i := 5) (v := ?vr3_5) (Fr.take_at rfl) (by kernel_rfl) (by kernel_rfl) (by kernel_rfl) (fun _ _ _ h => h) (Or.inl ⟨by rfl, ?yr3_5⟩) (by assumption) ?nr3_5
          case yr3_5 => (intro w_ hSw; obtain ⟨y0, y1, y2⟩ := hSw; go_simp; (try with_reducible rfl))
          try simp only [Act.put, List.setIfInBounds_toArray, List.set_cons_zero, List.set_cons_succ]
          refine wpAnyH_take (i := 6) (v := ?vr3_6) (Fr.take_at rfl) (by kernel_rfl) (by kernel_rfl) (by kernel_rfl) (fun _ _ _ h => h) (Or.inl ⟨by rfl, ?yr3_6⟩) (by assumption) ?nr3_6
          case yr3_6 => (intro w_ hSw; obtain ⟨y0, y1, y2⟩ := hSw; go_simp; (try with_reducible rfl))
          try simp only [Act.put, List.setIfInBounds_toArray, List.set_cons_zero, List.set_cons_succ]
          refine wpAnyH_take (i := 7) (v := ?vr3_7) (Fr.take_at rfl) (by kernel_rfl) (by kernel_rfl) (by kernel_rfl) (fun _ _ _ h => h) (Or.inl ⟨by rfl, ?yr3_7⟩) (by assumption) ?nr3_7
          case yr3_7 => (intro w_ hSw; obtain ⟨y0, y1, y2⟩ := hSw; go_simp; (try with_reducible rfl))
          try simp only [Act.put, List.setIfInBounds_toArray, List.set_cons_zero, List.set_cons_succ]
          refine wpAnyH_take (i := 8) (v := ?vr3_8) (Fr.take_at rfl) (by kernel_rfl) (by kernel_rfl) (by kernel_rfl) (fun _ _ _ h => h) (Or.inl ⟨by rfl, ?yr3_8⟩) (by assumption) ?nr3_8
          case yr3_8 => (intro w_ hSw; obtain ⟨y0, y1, y2⟩ := hSw; go_simp; (try with_reducible rfl))
          try simp only [Act.put, List.setIfInBounds_toArray, List.set_cons_zero, List.set_cons_succ]
          refine wpAnyH_take (i := 9) (v := ?vr3_9) (Fr.take_at rfl) (by kernel_rfl) (by kernel_rfl) (by kernel_rfl) (fun _ _ _ h => h) (Or.inl ⟨by rfl, ?yr3_9⟩) (by assumption) ?nr3_9
          case yr3_9 => (intro w_ hSw; obtain ⟨y0, y1, y2⟩ := hSw; go_simp; (try with_reducible rfl))
          try simp only [Act.put, List.setIfInBounds_toArray, List.set_cons_zero, List.set_cons_succ]
          refine wpAnyH_take (i := 10) (v := ?vr3_10) (Fr.take_at rfl) (by kernel_rfl) (by kernel_rfl) (by kernel_rfl) (fun _ _ _ h => h) (Or.inl ⟨by rfl, ?yr3_10⟩) (by assumption) ?nr3_10
          case yr3_10 => (intro w_ hSw; obtain ⟨y0, y1, y2⟩ := hSw; go_simp; (try with_reducible rfl))
          try simp only [Act.put, List.setIfInBounds_toArray, List.set_cons_zero, List.set_cons_succ]
          refine wpAnyH_take (i := 11) (v := ?vr3_11) (Fr.take_at rfl) (by kernel_rfl) (by kernel_rfl) (by kernel_rfl) (fun _ _ _ h => h) (Or.inl ⟨by rfl, ?yr3_11⟩) (by assumption) ?nr3_11
          case yr3_11 => (intro w_ hSw; obtain ⟨y0, y1, y2⟩ := hSw; go_simp; (try with_reducible rfl))
          try simp only [Act.put, List.setIfInBounds_toArray, List.set_cons_zero, List.set_cons_succ]
          refine wpAnyH_take (i := 12) (v := ?vr3_12) (Fr.take_at rfl) (by kernel_rfl) (by kernel_rfl) (by kernel_rfl) (fun _ _ _ h => h) (Or.inl ⟨by rfl, ?yr3_12⟩) (by assumption) ?nr3_12
          case yr3_12 => (intro w_ hSw; obtain ⟨y0, y1, y2⟩ := hSw; go_simp; (try with_reducible rfl))
          try simp only [Act.put, List.setIfInBounds_toArray, List.set_cons_zero, List.set_cons_succ]
          refine wpAnyH_take (i := 13) (v := ?vr3_13) (Fr.take_at rfl) (by kernel_rfl) (by kernel_rfl) (by kernel_rfl) (fun _ _ _ h => h) (Or.inl ⟨by rfl, ?yr3_13⟩) (by assumption) ?nr3_13
          case yr3_13 => (intro w_ hSw; obtain ⟨y0, y1, y2⟩ := hSw; go_simp; (try with_reducible rfl))
          try simp only [Act.put, List.setIfInBounds_toArray, List.set_cons_zero, List.set_cons_succ]
          refine wpAnyH_take (i := 14) (v := ?vr3_14) (Fr.take_at rfl) (by kernel_rfl) (by kernel_rfl) (by kernel_rfl) (fun _ _ _ h => h) (Or.inl ⟨by rfl, ?yr3_14⟩) (by assumption) ?nr3_14
          case yr3_14 => (intro w_ hSw; obtain ⟨y0, y1, y2⟩ := hSw; go_simp; (try with_reducible rfl))
          try simp only [Act.put, List.setIfInBounds_toArray, List.set_cons_zero, List.set_cons_succ]
          refine wpAnyH_take (i := 15) (v := ?vr3_15) (Fr.take_at rfl) (by kernel_rfl) (by kernel_rfl) (by kernel_rfl) (fun _ _ _ h => h) (Or.inl ⟨by rfl, ?yr3_15⟩) (by assumption) ?nr3_15
          case yr3_15 => (intro w_ hSw; obtain ⟨y0, y1, y2⟩ := hSw; go_simp; (try with_reducible rfl))
          try simp only [Act.put, List.setIfInBounds_toArray, List.set_cons_zero, List.set_cons_succ]
          refine wpAnyH_take (i := 16) (v := ?vr3_16) (Fr.take_at rfl) (by kernel_rfl) (by kernel_rfl) (by kernel_rfl) (fun _ _ _ h => h) (Or.inl ⟨by rfl, ?yr3_16⟩) (by assumption) ?nr3_16
          case yr3_16 => (intro w_ hSw; obtain ⟨y0, y1, y2⟩ := hSw; go_simp; (try with_reducible rfl))
          try simp only [Act.put, List.setIfInBounds_toArray, List.set_cons_zero, List.set_cons_succ]
          refine wpAnyH_take (i := 17) (v := undef) (Fr.take_at rfl) (by kernel_rfl) (by kernel_rfl) (by kernel_rfl) (fun _ _ _ h => h) (Or.inr ⟨by rfl, rfl⟩) (by assumption) ?_
          try simp only [Act.put, List.setIfInBounds_toArray, List.set_cons_zero, List.set_cons_succ]
          refine wpAnyH_take (i := 18) (v := undef) (Fr.take_at rfl) (by kernel_rfl) (by kernel_rfl) (by kernel_rfl) (fun _ _ _ h => h) (Or.inr ⟨by rfl, rfl⟩) (by assumption) ?_
          try simp only [Act.put, List.setIfInBounds_toArray, List.set_cons_zero, List.set_cons_succ]
          refine wpAnyH_take (i := 19) (v := undef) (Fr.take_at rfl) (by kernel_rfl) (by kernel_rfl) (by kernel_rfl) (fun _ _ _ h => h) (Or.inr ⟨by rfl, rfl⟩) (by assumption) ?_
          try simp only [Act.put, List.setIfInBounds_toArray, List.set_cons_zero, List.set_cons_succ]
          refine wpAnyH_take (i := 20) (v := undef) (Fr.take_at rfl) (by kernel_rfl) (by kernel_rfl) (by kernel_rfl) (fun _ _ _ h => h) (Or.inr ⟨by rfl, rfl⟩) (by assumption) ?_
          try simp only [Act.put, List.setIfInBounds_toArray, List.set_cons_zero, List.set_cons_succ]
          refine wpAnyH_take (i := 21) (v := undef) (Fr.take_at rfl) (by kernel_rfl) (by kernel_rfl) (by kernel_rfl) (fun _ _ _ h => h) (Or.inr ⟨by rfl, rfl⟩) (by assumption) ?_
          try simp only [Act.put, List.setIfInBounds_toArray, List.set_cons_zero, List.set_cons_succ]
          refine wpAnyH_take (i := 22) (v := undef) (Fr.take_at rfl) (by kernel_rfl) (by kernel_rfl) (by kernel_rfl) (fun _ _ _ h => h) (Or.inr ⟨by rfl, rfl⟩) (by assumption) ?_
          try simp only [Act.put, List.setIfInBounds_toArray, List.set_cons_zero, List.set_cons_succ]
          refine wpAnyH_take (i := 23) (v := undef) (Fr.take_at rfl) (by kernel_rfl) (by kernel_rfl) (by kernel_rfl) (fun _ _ _ h => h) (Or.inr ⟨by rfl, rfl⟩) (by assumption) ?_
          try simp only [Act.put, List.setIfInBounds_toArray, List.set_cons_zero, List.set_cons_succ]
          refine wpAnyH_take (i := 24) (v := undef) (Fr.take_at rfl) (by kernel_rfl) (by kernel_rfl) (by kernel_rfl) (fun _ _ _ h => h) (Or.inr ⟨by rfl, rfl⟩) (by assumption) ?_
          try simp only [Act.put, List.setIfInBounds_toArray, List.set_cons_zero, List.set_cons_succ]
          refine wpAnyH_take (i := 25) (v := undef) (Fr.take_at rfl) (by kernel_rfl) (by kernel_rfl) (by kernel_rfl) (fun _ _ _ h => h) (Or.inr ⟨by rfl, rfl⟩) (by assumption) ?_
          try simp only [Act.put, List.setIfInBounds_toArray, List.set_cons_zero, List.set_cons_succ]
          refine wpAnyH_take (i := 26) (v := undef) (Fr.take_at rfl) (by kernel_rfl) (by kernel_rfl) (by kernel_rfl) (fun _ _ _ h => h) (Or.inr ⟨by rfl, rfl⟩) (by assumption) ?_
          try simp only [Act.put, List.setIfInBounds_toArray, List.set_cons_zero, List.set_cons_succ]
          refine wpAnyH_take (i := 27) (v := undef) (Fr.take_at rfl) (by kernel_rfl) (by kernel_rfl) (by kernel_rfl) (fun _ _ _ h => h) (Or.inr ⟨by rfl, rfl⟩) (by assumption) ?_
          try simp only [Act.put, List.setIfInBounds_toArray, List.set_cons_zero, List.set_cons_succ]
          refine wpAnyH_take (i := 28) (v := undef) (Fr.take_at rfl) (by kernel_rfl) (by kernel_rfl) (by kernel_rfl) (fun _ _ _ h => h) (Or.inr ⟨by rfl, rfl⟩) (by assumption) ?_
          try simp only [Act.put, List.setIfInBounds_toArray, List.set_cons_zero, List.set_cons_succ]
          refine wpAnyH_take (i := 29) (v := ?vr3_29) (Fr.take_at rfl) (by kernel_rfl) (by kernel_rfl) (by kernel_rfl) (fun _ _ _ h => h) (Or.inl ⟨by rfl, ?yr3_29⟩) (by assumption) ?nr3_29
          case yr3_29 => (intro w_ hSw; obtain ⟨y0, y1, y2⟩ := hSw; go_simp; (try with_reducible rfl))
          try simp only [Act.put, List.setIfInBounds_toArray, List.set_cons_zero, List.set_cons_succ]
          refine wpAnyH_done (by kernel_rfl) ?_ _
          go_wp2
          have hfd := HFD.out
          have hbe := HBE.out
          go_roundw
          case rel => exact ⟨i + 1, b, fd, by rw [HL.out]; omega, by simp, rfl, by rw [HF.out]; exact hfd, by rw [HF.out]; exact hbe, Lib.hid (blk_drewN HR.out 1), Lib.hid (blk_drewN HB.out 1), Lib.hid (below_drewN HW.out 1)⟩
          case measure => simp [intOf]; omega
      · have hk2 : (x.key.toList == k.toList) = false := by simpa [En.k] using hk
        have HF := Lib.hid (seen_miss (k := k) (q := q) HX.out (by rw [← Bool.not_eq_true, hit_iff]; exact fun h => hk h.1))
        have HFD := Lib.hid hfd
        have HBE := Lib.hid hbe
        clear hk hfd hbe
        go_wp2
        refine wp_region_held_drew (S := fun W => W.cell? ⟨g, p + i * 4, none⟩ = some (.string x.key) ∧ W.cell? ⟨g, p + i * 4 + 1, none⟩ = some (.int .i64 x.seq) ∧ W.cell? ⟨B, 1, none⟩ = some (.int .i64 b.seq)) (by kernel_rfl) (by (exact ⟨x0, x1, b1⟩)) (fun hHeld => ?_)
        refine wpAnyH_take (i := 0) (v := ?vr4_0) (Fr.take_at rfl) (by kernel_rfl) (by kernel_rfl) (by kernel_rfl) (fun _ _ _ h => h) (Or.inl ⟨by rfl, ?yr4_0⟩) (by assumption) ?nr4_0
        case yr4_0 => (intro w_ hSw; obtain ⟨y0, y1, y2⟩ := hSw; go_simp; (try with_reducible rfl))
        try simp only [Act.put, List.setIfInBounds_toArray, List.set_cons_zero, List.set_cons_succ]
        refine wpAnyH_take (i := 1) (v := ?vr4_1) (Fr.take_at rfl) (by kernel_rfl) (by kernel_rfl) (by kernel_rfl) (fun _ _ _ h => h) (Or.inl ⟨by rfl, ?yr4_1⟩) (by assumption) ?nr4_1
        case yr4_1 => (intro w_ hSw; obtain ⟨y0, y1, y2⟩ := hSw; go_simp; (try with_reducible rfl))
        try simp only [Act.put, List.setIfInBounds_toArray, List.set_cons_zero, List.set_cons_succ]
        refine wpAnyH_take (i := 2) (v := ?vr4_2) (Fr.take_at rfl) (by kernel_rfl) (by kernel_rfl) (by kernel_rfl) (fun _ _ _ h => h) (Or.inl ⟨by rfl, ?yr4_2⟩) (by assumption) ?nr4_2
        case yr4_2 => (intro w_ hSw; obtain ⟨y0, y1, y2⟩ := hSw; go_simp; (try with_reducible rfl))
        try simp only [Act.put, List.setIfInBounds_toArray, List.set_cons_zero, List.set_cons_succ]
        refine wpAnyH_take (i := 3) (v := ?vr4_3) (Fr.take_at rfl) (by kernel_rfl) (by kernel_rfl) (by kernel_rfl) (fun _ _ _ h => h) (Or.inl ⟨by rfl, ?yr4_3⟩) (by assumption) ?nr4_3
        case yr4_3 => (intro w_ hSw; obtain ⟨y0, y1, y2⟩ := hSw; go_simp; (try with_reducible rfl))
        try simp only [Act.put, List.setIfInBounds_toArray, List.set_cons_zero, List.set_cons_succ]
        refine wpAnyH_take (i := 4) (v := ?vr4_4) (Fr.take_at rfl) (by kernel_rfl) (by kernel_rfl) (by kernel_rfl) (fun _ _ _ h => h) (Or.inl ⟨by rfl, ?yr4_4⟩) (by assumption) ?nr4_4
        case yr4_4 => (intro w_ hSw; obtain ⟨y0, y1, y2⟩ := hSw; go_simp; (try with_reducible rfl))
        try simp only [Act.put, List.setIfInBounds_toArray, List.set_cons_zero, List.set_cons_succ]
        refine wpAnyH_take (i := 5) (v := ?vr4_5) (Fr.take_at rfl) (by kernel_rfl) (by kernel_rfl) (by kernel_rfl) (fun _ _ _ h => h) (Or.inl ⟨by rfl, ?yr4_5⟩) (by assumption) ?nr4_5
        case yr4_5 => (intro w_ hSw; obtain ⟨y0, y1, y2⟩ := hSw; go_simp; (try with_reducible rfl))
        try simp only [Act.put, List.setIfInBounds_toArray, List.set_cons_zero, List.set_cons_succ]
        refine wpAnyH_take (i := 6) (v := ?vr4_6) (Fr.take_at rfl) (by kernel_rfl) (by kernel_rfl) (by kernel_rfl) (fun _ _ _ h => h) (Or.inl ⟨by rfl, ?yr4_6⟩) (by assumption) ?nr4_6
        case yr4_6 => (intro w_ hSw; obtain ⟨y0, y1, y2⟩ := hSw; go_simp; (try with_reducible rfl))
        try simp only [Act.put, List.setIfInBounds_toArray, List.set_cons_zero, List.set_cons_succ]
        refine wpAnyH_take (i := 7) (v := ?vr4_7) (Fr.take_at rfl) (by kernel_rfl) (by kernel_rfl) (by kernel_rfl) (fun _ _ _ h => h) (Or.inl ⟨by rfl, ?yr4_7⟩) (by assumption) ?nr4_7
        case yr4_7 => (intro w_ hSw; obtain ⟨y0, y1, y2⟩ := hSw; go_simp; (try with_reducible rfl))
        try simp only [Act.put, List.setIfInBounds_toArray, List.set_cons_zero, List.set_cons_succ]
        refine wpAnyH_take (i := 8) (v := undef) (Fr.take_at rfl) (by kernel_rfl) (by kernel_rfl) (by kernel_rfl) (fun _ _ _ h => h) (Or.inr ⟨by rfl, rfl⟩) (by assumption) ?_
        try simp only [Act.put, List.setIfInBounds_toArray, List.set_cons_zero, List.set_cons_succ]
        refine wpAnyH_take (i := 9) (v := undef) (Fr.take_at rfl) (by kernel_rfl) (by kernel_rfl) (by kernel_rfl) (fun _ _ _ h => h) (Or.inr ⟨by rfl, rfl⟩) (by assumption) ?_
        try simp only [Act.put, List.setIfInBounds_toArray, List.set_cons_zero, List.set_cons_succ]
        refine wpAnyH_take (i := 10) (v := undef) (Fr.take_at rfl) (by kernel_rfl) (by kernel_rfl) (by kernel_rfl) (fun _ _ _ h => h) (Or.inr ⟨by rfl, rfl⟩) (by assumption) ?_
        try simp only [Act.put, List.setIfInBounds_toArray, List.set_cons_zero, List.set_cons_succ]
        refine wpAnyH_take (i := 11) (v := undef) (Fr.take_at rfl) (by kernel_rfl) (by kernel_rfl) (by kernel_rfl) (fun _ _ _ h => h) (Or.inr ⟨by rfl, rfl⟩) (by assumption) ?_
        try simp only [Act.put, List.setIfInBounds_toArray, List.set_cons_zero, List.set_cons_succ]
        refine wpAnyH_take (i := 12) (v := undef) (Fr.take_at rfl) (by kernel_rfl) (by kernel_rfl) (by kernel_rfl) (fun _ _ _ h => h) (Or.inr ⟨by rfl, rfl⟩) (by assumption) ?_
        try simp only [Act.put, List.setIfInBounds_toArray, List.set_cons_zero, List.set_cons_succ]
        refine wpAnyH_take (i := 13) (v := undef) (Fr.take_at rfl) (by kernel_rfl) (by kernel_rfl) (by kernel_rfl) (fun _ _ _ h => h) (Or.inr ⟨by rfl, rfl⟩) (by assumption) ?_
        try simp only [Act.put, List.setIfInBounds_toArray, List.set_cons_zero, List.set_cons_succ]
        refine wpAnyH_take (i := 14) (v := undef) (Fr.take_at rfl) (by kernel_rfl) (by kernel_rfl) (by kernel_rfl) (fun _ _ _ h => h) (Or.inr ⟨by rfl, rfl⟩) (by assumption) ?_
        try simp only [Act.put, List.setIfInBounds_toArray, List.set_cons_zero, List.set_cons_succ]
        refine wpAnyH_take (i := 15) (v := ?vr4_15) (Fr.take_at rfl) (by kernel_rfl) (by kernel_rfl) (by kernel_rfl) (fun _ _ _ h => h) (Or.inl ⟨by rfl, ?yr4_15⟩) (by assumption) ?nr4_15
        case yr4_15 => (intro w_ hSw; obtain ⟨y0, y1, y2⟩ := hSw; go_simp; (try with_reducible rfl))
        try simp only [Act.put, List.setIfInBounds_toArray, List.set_cons_zero, List.set_cons_succ]
        refine wpAnyH_take (i := 16) (v := ?vr4_16) (Fr.take_at rfl) (by kernel_rfl) (by kernel_rfl) (by kernel_rfl) (fun _ _ _ h => h) (Or.inl ⟨by rfl, ?yr4_16⟩) (by assumption) ?nr4_16
        case yr4_16 => (intro w_ hSw; obtain ⟨y0, y1, y2⟩ := hSw; go_simp; (try with_reducible rfl))
        try simp only [Act.put, List.setIfInBounds_toArray, List.set_cons_zero, List.set_cons_succ]
        refine wpAnyH_take (i := 17) (v := undef) (Fr.take_at rfl) (by kernel_rfl) (by kernel_rfl) (by kernel_rfl) (fun _ _ _ h => h) (Or.inr ⟨by rfl, rfl⟩) (by assumption) ?_
        try simp only [Act.put, List.setIfInBounds_toArray, List.set_cons_zero, List.set_cons_succ]
        refine wpAnyH_take (i := 18) (v := undef) (Fr.take_at rfl) (by kernel_rfl) (by kernel_rfl) (by kernel_rfl) (fun _ _ _ h => h) (Or.inr ⟨by rfl, rfl⟩) (by assumption) ?_
        try simp only [Act.put, List.setIfInBounds_toArray, List.set_cons_zero, List.set_cons_succ]
        refine wpAnyH_take (i := 19) (v := undef) (Fr.take_at rfl) (by kernel_rfl) (by kernel_rfl) (by kernel_rfl) (fun _ _ _ h => h) (Or.inr ⟨by rfl, rfl⟩) (by assumption) ?_
        try simp only [Act.put, List.setIfInBounds_toArray, List.set_cons_zero, List.set_cons_succ]
        refine wpAnyH_take (i := 20) (v := undef) (Fr.take_at rfl) (by kernel_rfl) (by kernel_rfl) (by kernel_rfl) (fun _ _ _ h => h) (Or.inr ⟨by rfl, rfl⟩) (by assumption) ?_
        try simp only [Act.put, List.setIfInBounds_toArray, List.set_cons_zero, List.set_cons_succ]
        refine wpAnyH_take (i := 21) (v := undef) (Fr.take_at rfl) (by kernel_rfl) (by kernel_rfl) (by kernel_rfl) (fun _ _ _ h => h) (Or.inr ⟨by rfl, rfl⟩) (by assumption) ?_
        try simp only [Act.put, List.setIfInBounds_toArray, List.set_cons_zero, List.set_cons_succ]
        refine wpAnyH_take (i := 22) (v := undef) (Fr.take_at rfl) (by kernel_rfl) (by kernel_rfl) (by kernel_rfl) (fun _ _ _ h => h) (Or.inr ⟨by rfl, rfl⟩) (by assumption) ?_
        try simp only [Act.put, List.setIfInBounds_toArray, List.set_cons_zero, List.set_cons_succ]
        refine wpAnyH_take (i := 23) (v := undef) (Fr.take_at rfl) (by kernel_rfl) (by kernel_rfl) (by kernel_rfl) (fun _ _ _ h => h) (Or.inr ⟨by rfl, rfl⟩) (by assumption) ?_
        try simp only [Act.put, List.setIfInBounds_toArray, List.set_cons_zero, List.set_cons_succ]
        refine wpAnyH_take (i := 24) (v := undef) (Fr.take_at rfl) (by kernel_rfl) (by kernel_rfl) (by kernel_rfl) (fun _ _ _ h => h) (Or.inr ⟨by rfl, rfl⟩) (by assumption) ?_
        try simp only [Act.put, List.setIfInBounds_toArray, List.set_cons_zero, List.set_cons_succ]
        refine wpAnyH_take (i := 25) (v := undef) (Fr.take_at rfl) (by kernel_rfl) (by kernel_rfl) (by kernel_rfl) (fun _ _ _ h => h) (Or.inr ⟨by rfl, rfl⟩) (by assumption) ?_
        try simp only [Act.put, List.setIfInBounds_toArray, List.set_cons_zero, List.set_cons_succ]
        refine wpAnyH_take (i := 26) (v := undef) (Fr.take_at rfl) (by kernel_rfl) (by kernel_rfl) (by kernel_rfl) (fun _ _ _ h => h) (Or.inr ⟨by rfl, rfl⟩) (by assumption) ?_
        try simp only [Act.put, List.setIfInBounds_toArray, List.set_cons_zero, List.set_cons_succ]
        refine wpAnyH_take (i := 27) (v := undef) (Fr.take_at rfl) (by kernel_rfl) (by kernel_rfl) (by kernel_rfl) (fun _ _ _ h => h) (Or.inr ⟨by rfl, rfl⟩) (by assumption) ?_
        try simp only [Act.put, List.setIfInBounds_toArray, List.set_cons_zero, List.set_cons_succ]
        refine wpAnyH_take (i := 28) (v := undef) (Fr.take_at rfl) (by kernel_rfl) (by kernel_rfl) (by kernel_rfl) (fun _ _ _ h => h) (Or.inr ⟨by rfl, rfl⟩) (by assumption) ?_
        try simp only [Act.put, List.setIfInBounds_toArray, List.set_cons_zero, List.set_cons_succ]
        refine wpAnyH_take (i := 29) (v := ?vr4_29) (Fr.take_at rfl) (by kernel_rfl) (by kernel_rfl) (by kernel_rfl) (fun _ _ _ h => h) (Or.inl ⟨by rfl, ?yr4_29⟩) (by assumption) ?nr4_29
        case yr4_29 => (intro w_ hSw; obtain ⟨y0, y1, y2⟩ := hSw; go_simp; (try with_reducible rfl))
        try simp only [Act.put, List.setIfInBounds_toArray, List.set_cons_zero, List.set_cons_succ]
        refine wpAnyH_done (by kernel_rfl) ?_ _
        go_wp2
        have hfd := HFD.out
        have hbe := HBE.out
        go_roundw
        case rel => exact ⟨i + 1, b, fd, by rw [HL.out]; omega, by simp, rfl, by rw [HF.out]; exact hfd, by rw [HF.out]; exact hbe, Lib.hid (blk_drewN HR.out 1), Lib.hid (blk_drewN HB.out 1), Lib.hid (below_drewN HW.out 1)⟩
        case measure => simp [intOf]; omega
    · obtain rfl : i = n := by omega
      have k1 : ¬ (i : Int) < (i : Int) := by omega
      obtain ⟨⟨b0, b1, b2, b3⟩, f0, f1, f2, f3⟩ := cells4 HB.out
      obtain ⟨⟨r0, r1, r2, r3⟩, r4, r5, r6, r7⟩ := cells4 HR.out
      have HE := Lib.hid hbe
      have HFD := Lib.hid hfd
      clear hbe hfd
      go_wp2
      (try simp only [Exit.inBlock, Exit.then])
      have h1 := HFD.out
      have h2 := HE.out
      rw [List.take_of_length_le (by rw [HL.out]; exact Nat.le_refl _)] at h1 h2
      rw [← h1, ← h2]
      refine bodyPost_ret (results_cell_row_tmp rfl _ _ R 42 #[.string b.key, .int .i64 b.seq, .bool b.del, .string b.val] (0, 0) _ rfl (set4 HR.out _ _ _ _) Tryd.underlying42 rfl infoEn) rfl ⟨rfl, bel4 HW.out hRw _ _ _ _⟩
end
end Mm
end Go.Proofs.YtadlhnjnhllpfaaDoor
