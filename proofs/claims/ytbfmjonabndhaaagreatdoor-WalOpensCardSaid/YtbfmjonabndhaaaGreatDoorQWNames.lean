/-
  WHAT IS PROVED: (1) what nameOf answers: the name of a segment, the empty text for a number that none has. CONDITIONS: the library's variables lie as laid.
-/
import Derived.Test.YtbfmjonabndhaaaGreatDoorQWNum
import Derived.Test.YtbfmjonabndhaaaGreatDoorQStrA
import Derived.Test.YtbfmjonabndhaaaGreatDoorQDWalkA
import Derived.Test.YtbfmjonabndhaaaGreatDoorQWalkC
import Derived.Lib.ItoaMem
namespace Go.Proofs.YtbfmjonabndhaaaGreatDoor
open Go Go.RowKit Go.Maps
namespace Wl

/-- A variable of the program, below block B. -/
def VarIs (B : Nat) (w : World) (name : String) (c : Array Value) : Prop := (∃ g, Tryz.prog.globalNamed name = some g ∧ g < B) ∧ w.var? Tryz.prog name = some c
/-- What the library reads. -/
structure Lb (B : Nat) (w : World) : Prop where
  up : B ≤ w.heap.size
  pow : VarIs B w "internal/strconv.uint64pow10" (Lib.pow10Tab.map fun z => Value.int .u64 z).toArray
  syn : ∃ tp p, VarIs B w "strconv.ErrSyntax" #[.iface tp p]
  rng : ∃ tp p, VarIs B w "strconv.ErrRange" #[.iface tp p]
  low : 0 < B
  tab : Fr.Tab w
theorem VarIs.keep {B : Nat} {w w' : World} {name : String} {c : Array Value} (h : VarIs B w name c) (hb : ∀ k, k < B → w'.heap[k]? = w.heap[k]?) : VarIs B w' name c := by
  obtain ⟨⟨g, hg, hl⟩, h⟩ := h
  refine ⟨⟨g, hg, hl⟩, ?_⟩
  unfold World.var? at h ⊢
  simp only [hg, Option.bind_some] at h ⊢
  rw [hb g hl]
  exact h
theorem Lb.keep {B : Nat} {w w' : World} (h : Lb B w) (hs : w.heap.size ≤ w'.heap.size) (hb : ∀ k, k < B → w'.heap[k]? = w.heap[k]?) : Lb B w' :=
  ⟨Nat.le_trans h.up hs, h.pow.keep hb, let ⟨a, b, c⟩ := h.syn; ⟨a, b, c.keep hb⟩, let ⟨a, b, c⟩ := h.rng; ⟨a, b, c.keep hb⟩, h.low, Nat.lt_of_lt_of_le h.tab.1 hs, fun i hi => (World.cell?_of_block (a := ⟨0, i, none⟩) (hb _ h.low)).trans (h.tab.2 i hi)⟩
theorem Lb.below {B : Nat} {w w' : World} (h : Lb B w) (hb : Below B w w') : Lb B w' := h.keep hb.size hb.block

theorem grow_below (w : World) (k : Nat) (os : Array Obj) : Below w.heap.size w (Sort.grow (w.drewN k) os) :=
  ⟨rfl, rfl, rfl, by show w.heap.size ≤ (w.heap ++ os).size; rw [Array.size_append]; omega, fun j hj => by
    show (w.heap ++ os)[j]? = w.heap[j]?
    rw [Array.getElem?_append_left hj]⟩
theorem itoa_seg {B : Nat} {w : World} {n : Int} (h1 : 1 ≤ n) (h2 : n ≤ 999999) (hL : Lb B w) :
    Calls Tryz.prog 60 #[.int .i64 (1000000 + n)] w fun e w' => e = .returned (.string ⟨(49 :: dig6 n.toNat).toArray⟩) ∧ Below w.heap.size w w' := by
  have h := Any.strconv_Itoa Tryz.laysM171 (1000000 + n) (by omega) (by omega) w hL.pow.2
  refine h.mono ?_
  rintro e w' ⟨rfl, k, os, rfl⟩
  rw [itoa_dig6 h1 h2]
  exact ⟨rfl, grow_below w k os⟩
theorem str_seg (D : Bs) (h : D.length = 6) : (⟨#[119, 97, 108, 45]⟩ ++ (⟨(49 :: D).toArray⟩ : ByteArray).extract 1 7 : ByteArray) = ⟨(pre ++ D).toArray⟩ := by
  apply ByteArray.ext
  apply Array.ext'
  rw [ByteArray.data_append, ByteArray.data_extract]
  simp [pre, List.take_of_length_le (Nat.le_of_eq h)]
theorem nameOf_low (n : Int) (h : n < 1) (w : World) :
    Calls Tryz.prog 36 #[.int .i64 n] w fun e w' => e = .returned (.string ⟨(seg n).toArray⟩) ∧ w = w' := by
  rw [seg_out (by omega)]
  have e1 : decide (n < 1) = true := decide_eq_true h
  go_enter Tryz.func36, Tryz.ntmps36
  go_wp2
  go_ret
  exact ⟨rfl, rfl⟩
theorem nameOf_high (n : Int) (h : 999999 < n) (w : World) :
    Calls Tryz.prog 36 #[.int .i64 n] w fun e w' => e = .returned (.string ⟨(seg n).toArray⟩) ∧ w = w' := by
  rw [seg_out (by omega)]
  have e1 : decide (n < 1) = false := decide_eq_false (by omega)
  have e2 : decide (999999 < n) = true := decide_eq_true h
  go_enter Tryz.func36, Tryz.ntmps36
  go_wp2
  go_ret
  exact ⟨rfl, rfl⟩
set_option maxHeartbeats 800000 in
theorem nameOf_in {B : Nat} {w : World} {n : Int} (h1 : 1 ≤ n) (h2 : n ≤ 999999) (hL : Lb B w) :
    Calls Tryz.prog 36 #[.int .i64 n] w fun e w' => e = .returned (.string ⟨(seg n).toArray⟩) ∧ Below w.heap.size w w' := by
  have HS := Lib.hid (seg_in h1 h2)
  have e1 : decide (n < 1) = false := decide_eq_false (by omega)
  have e2 : decide (999999 < n) = false := decide_eq_false (by omega)
  have e3 : wrap64 (1000000 + n) = 1000000 + n := by unfold wrap64; omega
  obtain ⟨D, hD⟩ : ∃ D, D = dig6 n.toNat := ⟨_, rfl⟩
  have hDl : D.length = 6 := by rw [hD]; exact dig6_len _
  have HD := Lib.hid hD
  have hI := itoa_seg h1 h2 hL
  rw [← hD] at hI
  clear hD
  go_enter Tryz.func36, Tryz.ntmps36
  go_wp2_with (go_at_call 60; ((with_reducible refine hI.mono ?_); rintro e w2 ⟨rfl, hb2⟩))
  go_ret
  have hq : seg n = pre ++ D := by rw [HS.out, HD.out]
  refine ⟨?_, hb2⟩
  rw [hq]
  exact congrArg (fun x => Ending.returned (Value.string x)) (str_seg D hDl)
/-- Its name, or the empty text. -/
theorem nameOf_any {B : Nat} {w : World} (n : Int) (hL : Lb B w) :
    Calls Tryz.prog 36 #[.int .i64 n] w fun e w' => e = .returned (.string ⟨(seg n).toArray⟩) ∧ Below w.heap.size w w' := by
  rcases Int.lt_or_le n 1 with h | h
  · refine (nameOf_low n h w).mono ?_
    rintro e w' ⟨h, rfl⟩
    exact ⟨h, Below.refl _ _⟩
  · rcases Int.lt_or_le 999999 n with k | k
    · refine (nameOf_high n k w).mono ?_
      rintro e w' ⟨h, rfl⟩
      exact ⟨h, Below.refl _ _⟩
    · exact nameOf_in h k hL

/-! ### the number of a name -/
def trim (l : Bs) : Bs := Lib.trimPrefix l pre
theorem trim_seg {n : Int} (h1 : 1 ≤ n) (h2 : n ≤ 999999) : trim (seg n) = dig6 n.toNat := by
  rw [seg_in h1 h2, trim, Lib.trimPrefix, if_pos, List.drop_left]
  exact List.isPrefixOf_iff_prefix.2 (List.prefix_append _ _)
theorem trim_len (l : Bs) : (trim l).length ≤ l.length := by
  unfold trim Lib.trimPrefix
  split
  · rw [List.length_drop]; omega
  · exact Nat.le_refl _
theorem bytes_size (l : Bs) : (⟨l.toArray⟩ : ByteArray).size = l.length := by
  show l.toArray.size = _
  simp
theorem atoi_ok {w : World} (l : Bs) (hl : l.length ≤ 281474976710656) (v : Int) (h : Lib.atoiAll l = .ok v) :
    Calls Tryz.prog 73 #[.string ⟨l.toArray⟩] w fun e w' => e = .returned (.tuple #[.int .i64 v, .nilIface]) ∧ Below w.heap.size w w' := by
  have hs : (⟨l.toArray⟩ : ByteArray).size ≤ 281474976710656 := by rw [bytes_size]; exact hl
  refine (Any.strconv_Atoi_ok Tryz.laysC172 ⟨l.toArray⟩ (by omega) v h w).mono ?_
  rintro e w' ⟨rfl, hw⟩
  refine ⟨rfl, ?_⟩
  rcases hw with rfl | ⟨t, rfl⟩
  · exact Below.refl _ _
  · exact Lib.bytesWorld_below _ _ _
/-- How Atoi ends at what is no number. -/
def AtoiBad (w : World) (e : Ending) (w' : World) : Prop := ∃ x a, e = .returned (.tuple #[.int .i64 x, .iface 146 (.pointer (some a))]) ∧ Below w.heap.size w w'
theorem atoi_bad {B : Nat} {w : World} (l : Bs) (hl : l.length ≤ 281474976710656) (hL : Lb B w) (hno : ∀ v, Lib.atoiAll l ≠ .ok v) :
    Calls Tryz.prog 73 #[.string ⟨l.toArray⟩] w (AtoiBad w) := by
  have hs : (⟨l.toArray⟩ : ByteArray).size ≤ 281474976710656 := by rw [bytes_size]; exact hl
  obtain ⟨t1, p1, hv1⟩ := hL.syn
  obtain ⟨t2, p2, hv2⟩ := hL.rng
  cases h : Lib.atoiAll l with
  | ok v => exact absurd h (hno v)
  | «syntax» =>
    refine (Any.strconv_Atoi_syntax_var Tryz.laysC172 ⟨l.toArray⟩ hs h t1 p1 w hv1.2).mono ?_
    rintro e w' ⟨N, rfl, _, _, hb⟩
    exact ⟨_, _, rfl, hb⟩
  | range =>
    refine (Any.strconv_Atoi_range_var Tryz.laysC172 ⟨l.toArray⟩ hs h t2 p2 w hv2.2).mono ?_
    rintro e w' ⟨N, rfl, _, _, hb⟩
    exact ⟨_, _, rfl, hb⟩
theorem trim_call (s : ByteArray) (w : World) :
    Calls Tryz.prog 74 #[.string s, .string ⟨#[119, 97, 108, 45]⟩] w fun e w' => e = .returned (.string ⟨(trim s.data.toList).toArray⟩) ∧ w = w' := by
  refine (Any.strings_TrimPrefix Tryz.lays101 s ⟨#[119, 97, 108, 45]⟩ w).mono ?_
  rintro e w' ⟨rfl, rfl⟩
  exact ⟨rfl, rfl⟩
theorem str_ne {l : Bs} {s q : ByteArray} (h : l ≠ s.data.toList) (hq : q = ⟨l.toArray⟩) : (q.toList == s.toList) = false := by
  subst hq
  rw [beq_eq_false_iff_ne, Lib.toList_data, Lib.toList_data]
  simpa using h
theorem str_eq {l : Bs} {s : ByteArray} (h : l = s.data.toList) : (⟨l.toArray⟩ : ByteArray) = s := by
  apply ByteArray.ext
  apply Array.ext'
  simp [h]
theorem nameOf_q {B : Nat} {w : World} (n : Int) (hL : Lb B w) {q : ByteArray} (HQ : Hid (q = (⟨(seg n).toArray⟩ : ByteArray))) :
    Calls Tryz.prog 36 #[.int .i64 n] w fun e w' => e = .returned (.string q) ∧ Below w.heap.size w w' := by
  rw [HQ.out]
  exact nameOf_any n hL
set_option maxHeartbeats 800000 in
theorem numberOf_bad {B : Nat} {w : World} (s : ByteArray) (hs : s.size ≤ 281474976710656) (hL : Lb B w) (h : ∀ v, Lib.atoiAll (trim s.data.toList) ≠ .ok v) :
    Calls Tryz.prog 53 #[.string s] w fun e w' => e = .returned (.int .i64 0) ∧ Below w.heap.size w w' := by
  have hT := trim_call s w
  obtain ⟨t, ht⟩ : ∃ t, t = trim s.data.toList := ⟨_, rfl⟩
  rw [← ht] at h hT
  have hA := atoi_bad t (by rw [ht]; exact Nat.le_trans (trim_len _) hs) hL h
  clear ht
  go_enter Tryz.func53, Tryz.ntmps53
  go_wp2_with first
    | (go_at_call 74; ((with_reducible refine hT.mono ?_); rintro e w2 ⟨rfl, rfl⟩))
    | (go_at_call 73; ((with_reducible refine hA.mono ?_); rintro e w2 ⟨x, a5, rfl, hb2⟩))
  go_ret
  exact ⟨rfl, hb2⟩
set_option maxHeartbeats 800000 in
theorem numberOf_no {B : Nat} {w : World} (s : ByteArray) (hs : s.size ≤ 281474976710656) (hL : Lb B w) (v : Int) (h : Lib.atoiAll (trim s.data.toList) = .ok v) (hne : seg v ≠ s.data.toList) :
    Calls Tryz.prog 53 #[.string s] w fun e w' => e = .returned (.int .i64 0) ∧ Below w.heap.size w w' := by
  have hT := trim_call s w
  obtain ⟨t, ht⟩ : ∃ t, t = trim s.data.toList := ⟨_, rfl⟩
  rw [← ht] at h hT
  have hA := atoi_ok (w := w) t (by rw [ht]; exact Nat.le_trans (trim_len _) hs) v h
  clear ht
  obtain ⟨q, hq⟩ : ∃ q, q = (⟨(seg v).toArray⟩ : ByteArray) := ⟨_, rfl⟩
  have hqs := str_ne hne hq
  have HQ := Lib.hid hq
  clear hq
  go_enter Tryz.func53, Tryz.ntmps53
  go_wp2_with first
    | (go_at_call 74; ((with_reducible refine hT.mono ?_); rintro e w2 ⟨rfl, rfl⟩))
    | (go_at_call 73; ((with_reducible refine hA.mono ?_); rintro e w2 ⟨rfl, hb2⟩))
    | (go_at_call 36; ((with_reducible refine (nameOf_q v (hL.below (hb2.mono hL.up)) HQ).mono ?_); rintro e w3 ⟨rfl, hb3⟩))
  go_ret
  exact ⟨rfl, hb2.trans (hb3.mono hb2.size)⟩
set_option maxHeartbeats 800000 in
theorem numberOf_yes {B : Nat} {w : World} (s : ByteArray) (hL : Lb B w) (v : Int) (h1 : 1 ≤ v) (h2 : v ≤ 999999) (he : seg v = s.data.toList) :
    Calls Tryz.prog 53 #[.string s] w fun e w' => e = .returned (.int .i64 v) ∧ Below w.heap.size w w' := by
  have hT := trim_call s w
  have ht : trim s.data.toList = dig6 v.toNat := by rw [← he, trim_seg h1 h2]
  have hA := atoi_ok (w := w) (dig6 v.toNat) (by rw [dig6_len]; decide) v (by rw [atoi_dig6 (by omega), Int.toNat_of_nonneg (by omega)])
  rw [ht] at hT
  obtain ⟨t, hd⟩ : ∃ t, t = dig6 v.toNat := ⟨_, rfl⟩
  rw [← hd] at hT hA
  clear hd ht
  have HQ := Lib.hid (str_eq he).symm
  clear he h1 h2
  go_enter Tryz.func53, Tryz.ntmps53
  go_wp2_with first
    | (go_at_call 74; ((with_reducible refine hT.mono ?_); rintro e w2 ⟨rfl, rfl⟩))
    | (go_at_call 73; ((with_reducible refine hA.mono ?_); rintro e w2 ⟨rfl, hb2⟩))
    | (go_at_call 36; ((with_reducible refine (nameOf_q v (hL.below (hb2.mono hL.up)) HQ).mono ?_); rintro e w3 ⟨rfl, hb3⟩))
  go_ret
  exact ⟨rfl, hb2.trans (hb3.mono hb2.size)⟩
/-- The number of the segment that has this name; 0 if none has. -/
theorem numberOf_any {B : Nat} {w : World} (s : ByteArray) (hs : s.size ≤ 281474976710656) (hL : Lb B w) :
    Calls Tryz.prog 53 #[.string s] w fun e w' => e = .returned (.int .i64 (num s.data.toList)) ∧ Below w.heap.size w w' := by
  rcases num_cases s.data.toList with ⟨h, hn⟩ | ⟨h1, h2, h3⟩
  · rw [h]
    cases ha : Lib.atoiAll (trim s.data.toList) with
    | ok v =>
      refine numberOf_no s hs hL v ha fun k => ?_
      by_cases hv : 1 ≤ v ∧ v ≤ 999999
      · exact hn v hv.1 hv.2 k
      · rw [seg_out hv] at k
        rw [← k] at ha
        cases ha
    | «syntax» => exact numberOf_bad s hs hL fun v k => by rw [ha] at k; cases k
    | range => exact numberOf_bad s hs hL fun v k => by rw [ha] at k; cases k
  · exact numberOf_yes s hL _ h1 h2 h3

end Wl
end Go.Proofs.YtbfmjonabndhaaaGreatDoor
