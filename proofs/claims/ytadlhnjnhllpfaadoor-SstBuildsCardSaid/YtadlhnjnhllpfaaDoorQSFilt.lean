/-
  WHAT IS PROVED: (1) what filterOf of package sstable answers. CONDITIONS: the entries stand in memory as named.
-/
import Derived.Test.YtadlhnjnhllpfaaDoorQSPlain
import Derived.Test.YtadlhnjnhllpfaaDoorQSOpen
import Derived.Test.YtadlhnjnhllpfaaDoorQBBld
import Derived.Test.YtadlhnjnhllpfaaDoorQIterC
import Derived.Shelf.SlicesG.CompactS
import Derived.Sort.OwnSorted
namespace Go.Proofs.YtadlhnjnhllpfaaDoor
open Go Go.RowKit Go.Maps Go.Sort Go.Lib Go.Proofs.YtadlhnjnhllpfaaDoor.Mm Go.Proofs.YtadlhnjnhllpfaaDoor.Fr
namespace Ss
/-! ### the keys, each once -/
theorem keysF_snoc : ∀ (l : List En) (p : Option Bs) (e : En), keysF p (l ++ [e]) = keysF p l ++ (if ((l.getLast?.map kB).or p) = some (kB e) then [] else [kB e])
  | [], p, e => by
    by_cases h : p = some (kB e) <;> simp [keysF, h]
  | x :: r, p, e => by
    have h1 : ((x :: r).getLast?.map kB).or p = ((r.getLast?.map kB).or (some (kB x))) := by
      cases r with
      | nil => rfl
      | cons y s => rw [List.getLast?_cons_cons]; cases hh : (y :: s).getLast? with | none => simp at hh | some z => rfl
    rw [List.cons_append]
    simp only [keysF]
    rw [keysF_snoc r p e, keysF_snoc r (some (kB x)) e, h1]
    by_cases h : p = some (kB x)
    · rw [if_pos h, if_pos h, h]
    · rw [if_neg h, if_neg h, List.cons_append]
theorem compact_keys (l : List En) : compact (l.map kB) = keysB l := by
  have key : ∀ k, k ≤ l.length → compactUpTo (l.map kB).toArray k = keysF none (l.take k) := fun k => by
    induction k with
    | zero => intro _; rfl
    | succ k ih =>
      intro hk
      have hx : l.take (k + 1) = l.take k ++ [l[k]'(by omega)] := by rw [List.take_add_one, List.getElem?_eq_getElem (by omega)]; rfl
      rw [compactUpTo_succ, ih (by omega), hx, keysF_snoc]
      have e1 : (l.map kB).toArray[k]! = kB (l[k]'(by omega)) := by rw [getElem!_pos _ _ (by simp; omega)]; simp
      congr 1
      cases k with
      | zero => simp [keeps, e1]
      | succ j =>
        have e2 : (l.map kB).toArray[j]! = kB (l[j]'(by omega)) := by rw [getElem!_pos _ _ (by simp; omega)]; simp
        have e3 : (l.take (j + 1)).getLast? = some (l[j]'(by omega)) := by rw [List.take_add_one, List.getElem?_eq_getElem (by omega), Option.toList_some, List.getLast?_concat]
        rw [e3, e1]
        by_cases h : kB (l[j + 1]'(by omega)) = kB (l[j]'(by omega))
        · rw [keeps_neg (by omega) (by rw [e1, Nat.add_sub_cancel, e2, h])]
          simp [h]
        · rw [keeps_pos (by rw [e1, Nat.add_sub_cancel, e2]; exact h)]
          simp [Ne.symm h]
  have := key l.length (Nat.le_refl _)
  rw [List.take_length] at this
  unfold compact keysB
  rw [List.length_map]
  exact this
/-- The row of keys, i of n in. -/
def fRow (l : List En) (n i : Nat) : List Value := (l.take i).map (fun e => Value.string e.key) ++ List.replicate (n - i) (Value.string ⟨#[]⟩)
theorem fRow_set {l : List En} {n i : Nat} {x : En} (hl : l.length = n) (hx : l[i]? = some x) : (fRow l n i).toArray.setIfInBounds i (Value.string x.key) = (fRow l n (i + 1)).toArray := by
  have hi : i < l.length := (List.getElem?_eq_some_iff.1 hx).1
  have h1 : l.take (i + 1) = l.take i ++ [x] := by rw [List.take_add_one, hx]; rfl
  have h2 : n - i = (n - (i + 1)) + 1 := by omega
  rw [List.setIfInBounds_toArray]
  congr 1
  unfold fRow
  rw [h1, h2, List.replicate_succ, List.set_append_right _ _ (by rw [List.length_map, List.length_take]; omega), List.length_map, List.length_take, Nat.min_eq_left (by omega), Nat.sub_self, List.set_cons_zero, List.map_append, List.append_assoc]
  rfl
theorem fRow_all {l : List En} {n : Nat} (hl : l.length = n) : fRow l n n = (l.map kB).map encStr := by
  unfold fRow
  rw [Nat.sub_self, List.take_of_length_le (by omega), List.replicate_zero, List.append_nil, List.map_map]
  rfl
theorem fRow_none (l : List En) (n : Nat) : fRow l n 0 = List.replicate n (Value.string ⟨#[]⟩) := by simp [fRow]
set_option maxRecDepth 100000 in
theorem mk_strs (W : World) (n : Nat) (hn : n ≤ 1000000) : (Instr.makeSlice 51 (.int .i64 (n : Int)) (.int .i64 (n : Int))).run Tryd.prog W = .ok (.slice (some ⟨W.heap.size, 0, none⟩) n n) (W.alloc (.cells (List.replicate n (Value.string ⟨#[]⟩)).toArray 9)) := by
  obtain ⟨i0, hi, hz, hz1, hz2⟩ := info_parts Bl.info_str
  have h := run_make (P := Tryd.prog) W 51 9 i0 (.string ⟨#[]⟩) Tryd.underlying51 hi hz .i64 .i64 n n (by omega) (by omega) (by rw [hz2]; omega) (by omega)
  rw [hz1, Int.toNat_natCast] at h
  rw [h]
  congr 3
  apply Array.ext'
  rw [List.toList_toArray]
  apply List.ext_getElem?
  intro i
  by_cases hi : i < n
  · rw [Array.getElem?_toList, Array.getElem?_eq_getElem (by rw [size_madeCells]; omega), List.getElem?_replicate, if_pos hi]
    simp [madeCells, Value.cells, Nat.mod_one]
  · rw [List.getElem?_eq_none (by simp [size_madeCells]; omega), List.getElem?_eq_none (by simp; omega)]
section
variable {w : World} {A : Option Addr} {n c : Nat} {l : List En}
theorem compactK_any {g : Nat} {zs : List Bs} (hl : zs.length = n) (hb : Blk w g 9 (zs.map encStr).toArray) (hn : n ≤ 1000000) :
    Calls Tryd.prog 62 #[.slice (some ⟨g, 0, none⟩) n n] w fun e w' => ∃ m, e = .returned (.slice (some ⟨g, 0, none⟩) m n) ∧ (compact zs).length = m ∧ m ≤ n ∧ Rd w' (some ⟨g, 0, none⟩) ((compact zs).map encStr) ∧ Below g w w' := by
  subst hl
  have hH : Holds encStr w g 0 zs.toArray := holds_of_block (e := 9) hb (by rw [List.toList_toArray]; exact List.take_of_length_le (by simp))
  have hle : (compact zs).length ≤ zs.length := by
    unfold compact compactUpTo
    rw [List.length_map]
    exact Nat.le_trans (List.length_filter_le _ _) (by rw [List.length_range]; exact Nat.le_refl _)
  refine (AnyG.slices_Compact_string Tryd.compact62 g 0 zs.length zs w hH (by omega) (Nat.le_refl _)).mono fun e w' ⟨h1, q, h2⟩ => ⟨_, h1, rfl, hle, fun _ => ?_, ?_⟩
  · subst h2
    refine ⟨g, 0, rfl, ?_, fun i hi => ?_⟩
    · have := hb.lt
      simpa [putRow, mapBlock, Sort.ahead] using this
    · rw [List.length_map] at hi
      have h3 := cell?_putRow encStr (Sort.ahead w q) g 0 zs.toArray (compact zs ++ List.replicate (zs.length - (compact zs).length) []).toArray hH (by simp; omega) i (by simp; omega)
      rw [h3, List.getElem_map, getElem!_pos _ _ (by simp; omega)]
      simp [List.getElem_append_left hi]
  · subst h2
    refine (Below.refl _ _).grown (row := some g) ⟨rfl, rfl, rfl, by simp, fun k hk hne => ?_⟩ (Nat.le_of_lt hb.lt) fun k hk => by cases hk; exact Nat.le_refl _
    have hgk : g ≠ k := fun e => hne (by rw [e])
    simp [putRow, mapBlock, Sort.ahead, Array.getElem?_modify, hgk]
theorem enc_ks (ks : List Bs) : (ks.map fun b => (⟨b.toArray⟩ : ByteArray)).map Value.string = ks.map encStr := by rw [List.map_map]; rfl
theorem tl_ks (ks : List Bs) : (ks.map fun b => (⟨b.toArray⟩ : ByteArray)).map (·.toList) = ks := by
  rw [List.map_map]
  conv => rhs; rw [← List.map_id ks]
  refine List.map_congr_left fun b _ => ?_
  simp [Lib.toList_data]
theorem keys_size {ks : List Bs} (h : ∀ b ∈ ks, b.length ≤ 64) : ∀ s ∈ ks.map (fun b => (⟨b.toArray⟩ : ByteArray)), s.size ≤ maxLen := fun s hs => by
  obtain ⟨b, hb, rfl⟩ := List.mem_map.1 hs
  have := h b hb
  show b.toArray.size ≤ _
  rw [List.size_toArray]
  unfold maxLen
  omega
theorem keysF_mem : ∀ (l : List En) (p : Option Bs), ∀ b ∈ keysF p l, ∃ e ∈ l, b = kB e
  | [], _, b, hb => by cases hb
  | x :: r, p, b, hb => by
    simp only [keysF] at hb
    split at hb
    · obtain ⟨e, h1, h2⟩ := keysF_mem r p b hb
      exact ⟨e, List.mem_cons_of_mem _ h1, h2⟩
    · rcases List.mem_cons.1 hb with h | h
      · exact ⟨x, by simp, h⟩
      · obtain ⟨e, h1, h2⟩ := keysF_mem r _ b h
        exact ⟨e, List.mem_cons_of_mem _ h1, h2⟩
theorem keysB_len (l : List En) (h : ∀ e ∈ l, e.key.size ≤ 64) : ∀ b ∈ keysB l, b.length ≤ 64 := fun b hb => by
  obtain ⟨e, h1, rfl⟩ := keysF_mem l none b hb
  exact h e h1
set_option maxRecDepth 100000 in
set_option maxHeartbeats 1600000 in
theorem filterOf_any (hl : l.length = n) (hr : Rd w A (ev l)) (hn : n ≤ 84) (hs : ∀ e ∈ l, e.key.size ≤ 64) :
    Calls Tryd.prog 35 #[.slice A n c] w (MadeRet 5 w (Bl.filt (keysB l) 10)) := by
  have hks := keysB_len l hs
  have hck := compact_keys l
  obtain ⟨M0, hM0⟩ : ∃ M0, M0 = (fRow l n 0).toArray := ⟨_, rfl⟩
  have hmk : ∀ W : World, (Instr.makeSlice 51 (.int .i64 (n : Int)) (.int .i64 (n : Int))).run Tryd.prog W = .ok (.slice (some ⟨W.heap.size, 0, none⟩) n n) (W.alloc (.cells M0 9)) := fun W => by rw [hM0, fRow_none]; exact mk_strs W n (by omega)
  have HM0 := Lib.hid hM0
  have HL := Lib.hid hl
  have HR := Lib.hid hr
  have HKS := Lib.hid hks
  have HCK := Lib.hid hck
  clear hl hr hs hM0 hks hck
  go_enter Tryd.func35, Tryd.ntmps35
  go_wp2
  obtain ⟨M, hM⟩ : ∃ M, M = w.heap.size := ⟨_, rfl⟩
  have HBM : Hid (Blk (w.alloc (.cells M0 9)) M 9 (fRow l n 0).toArray) := by rw [hM, ← HM0.out]; exact Lib.hid (Blk.new _ _ _)
  have hB0 : Hid (Below w.heap.size w (w.alloc (.cells M0 9))) := Lib.hid ((Below.refl _ _).alloc (Nat.le_refl _) _)
  have hMw : w.heap.size ≤ M := by omega
  rw [← hM]
  clear hM HM0
  go_loopw [11] (fun i wr => ∃ j : Nat, j ≤ n ∧ i = .int .i64 (j : Int) ∧ Hid (Blk wr M 9 (fRow l n j).toArray) ∧ Hid (Below w.heap.size w wr)) (fun i _ => n - (RowKit.intOf i).toNat)
  case atStart => exact ⟨0, by omega, rfl, HBM, hB0⟩
  case round =>
    clear HBM hB0
    obtain ⟨j, hj, rfl, HM, HB⟩ := hrel
    by_cases hlt : j < n
    · obtain ⟨x, hx⟩ : ∃ x, l[j]? = some x := ⟨l[j]'(by have := HL.out; omega), List.getElem?_eq_getElem _⟩
      obtain ⟨g, p, rfl, hg, x0, x1, x2, x3⟩ := erd_at (HR.out.below HB.out) hx
      have k2 : (j : Int) < (n : Int) := by omega
      have k3 : (0 : Int) ≤ (j : Int) := by omega
      have HST := Lib.hid (fRow_set HL.out hx)
      clear hx
      obtain ⟨W1, hW1⟩ : ∃ W1, W1 = wr.alloc (.cells #[.string x.key, .int .i64 x.seq, .bool x.del, .string x.val] 42) := ⟨_, rfl⟩
      have hm1 : Blk W1 M 9 (fRow l n j).toArray := by rw [hW1]; exact HM.out.alloc _
      have hbx : Blk W1 wr.heap.size 42 #[.string x.key, .int .i64 x.seq, .bool x.del, .string x.val] := by rw [hW1]; exact Blk.new _ _ _
      have hb1 : Below w.heap.size w W1 := by rw [hW1]; exact HB.out.alloc HB.out.size _
      have hcm : W1.frozen? ⟨M, j, none⟩ = false := hm1.frozen j
      have hcl : ∃ u, W1.cell? ⟨M, j, none⟩ = some u := by
        rw [hm1.cell j]
        have : j < (fRow l n j).toArray.size := by
          have := HL.out
          simp [fRow]; omega
        exact ⟨_, Array.getElem?_eq_getElem this⟩
      obtain ⟨u0, hu0⟩ := hcl
      have HM1 := Lib.hid hm1
      have HBX := Lib.hid hbx
      have HB1 := Lib.hid hb1
      have HW1 := Lib.hid hW1
      clear hm1 hbx hb1 hW1
      go_upto_region 5 with fail
      rw [← HW1.out]
      obtain ⟨⟨y0, y1, y2, y3⟩, _⟩ := cells4 HBX.out
      clear HW1 x0 x1 x2 x3
      go_wp2
      go_roundw
      case rel => exact ⟨j + 1, by omega, by go_num, Lib.hid (by rw [← HST.out]; exact HM1.out.set j _), Lib.hid (HB1.out.setCell (p := ⟨M, j, none⟩) hMw _)⟩
      case measure => simp [RowKit.intOf]; omega
    · obtain rfl : j = n := by omega
      have k2 : ¬ (j : Int) < (j : Int) := by omega
      have hM := HM.out
      rw [fRow_all HL.out] at hM
      have hC := compactK_any (n := j) (zs := l.map kB) (by rw [List.length_map]; exact HL.out) hM (by omega)
      rw [HCK.out] at hC
      have HC := Lib.hid hC
      clear hM hC
      go_wp2_with (first
        | (go_at_call 62; refine HC.out.mono ?_; rintro e w2 ⟨m, rfl, hm, hmn, hr2, hb2⟩; have HB2 := Lib.hid (hb2.mono hMw); have hBU := Bl.build_any (w := w2) (A := some ⟨M, 0, none⟩) (c := j) (per := 10) (ks := (keysB l).map fun b => (⟨b.toArray⟩ : ByteArray)) (n := m) (by rw [List.length_map]; exact hm) (by rw [enc_ks]; exact hr2) (keys_size HKS.out) (by omega) hmn; rw [tl_ks] at hBU; have HBU := Lib.hid hBU; clear hBU hr2 hm hb2)
        | (go_at_call 61; refine HBU.out.mono ?_; rintro e w3 ⟨v, rfl, A3, m3, c3, rfl, hm3, hc3, hr3, hb3⟩))
      go_ret
      exact ⟨_, rfl, A3, m3, c3, rfl, hm3, hc3, own_mono hr3 (Nat.le_trans HB.out.size HB2.out.size), (HB.out.trans HB2.out).trans (hb3.mono (HB.out.trans HB2.out).size)⟩
end
end Ss
end Go.Proofs.YtadlhnjnhllpfaaDoor
