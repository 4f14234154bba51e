/-
  WHAT IS PROVED: what Compare and Check of package entry answer. NO CONDITION.
-/
import Derived.Test.YtfnfjhfmhinkcaaMPlain
import Derived.Sort.Walk0
import Derived.Lib.Bytealg
import Derived.Deep.Cut
namespace Go.Proofs.Ytfnfjhfmhinkcaa
open Go Go.RowKit Go.Maps Go.Sort Go.Proofs.Ytfnfjhfmhinkcaa.Fr
namespace Mm

theorem cb_lt : ∀ a b : List UInt8, Lib.compareBytes a b < 0 ↔ a < b
  | [], [] => by simp [Lib.compareBytes]
  | [], _ :: _ => by simp [Lib.compareBytes]
  | _ :: _, [] => by simp [Lib.compareBytes]
  | x :: a, y :: b => by
    have ih := cb_lt a b
    unfold Lib.compareBytes
    rw [List.cons_lt_cons_iff]
    by_cases h1 : x < y
    · simp [h1]
    · by_cases h2 : y < x
      · have h3 : x ≠ y := fun e => by subst e; exact h1 h2
        simp [h1, h2, h3]
      · have h3 : x = y := by
          rw [UInt8.lt_iff_toNat_lt] at h1 h2
          exact UInt8.toNat_inj.1 (by omega)
        simp [h3, ih]
theorem cb_eq : ∀ a b : List UInt8, Lib.compareBytes a b = 0 ↔ a = b
  | [], [] => by simp [Lib.compareBytes]
  | [], _ :: _ => by simp [Lib.compareBytes]
  | _ :: _, [] => by simp [Lib.compareBytes]
  | x :: a, y :: b => by
    have ih := cb_eq a b
    unfold Lib.compareBytes
    by_cases h1 : x < y
    · have h3 : x ≠ y := fun e => by subst e; exact absurd h1 (UInt8.lt_irrefl x)
      simp [h1, h3]
    · by_cases h2 : y < x
      · have h3 : x ≠ y := fun e => by subst e; exact h1 h2
        simp [h1, h2, h3]
      · have h3 : x = y := by
          rw [UInt8.lt_iff_toNat_lt] at h1 h2
          exact UInt8.toNat_inj.1 (by omega)
        simp [h3, ih]
def cmpI (x y : Int) : Int := if x < y then -1 else if x > y then 1 else 0
/-- How two entries compare. -/
def cmpE (x y : En) : Int := if Lib.compareBytes x.key.data.toList y.key.data.toList = 0 then cmpI y.seq x.seq else Lib.compareBytes x.key.data.toList y.key.data.toList
theorem k_data (x : En) : x.key.data.toList = x.k := (Lib.toList_data x.key).symm
theorem cmpE_lt (x y : En) : cmpE x y < 0 ↔ bef x y.k y.seq := by
  have h1 := cb_lt x.k y.k
  have h2 := cb_eq x.k y.k
  unfold cmpE bef cmpI
  rw [k_data, k_data]
  by_cases h : x.k = y.k
  · rw [if_pos (h2.2 h), h]
    have := List.lt_irrefl y.k
    split
    · rename_i h3; simp [this, h3]
    · rename_i h3; split <;> simp [this, h3]
  · rw [if_neg fun e => h (h2.1 e), h1]
    simp [h]
theorem cmpE_eq (x y : En) : cmpE x y = 0 ↔ x.k = y.k ∧ x.seq = y.seq := by
  have h2 := cb_eq x.k y.k
  unfold cmpE cmpI
  rw [k_data, k_data]
  by_cases h : x.k = y.k
  · rw [if_pos (h2.2 h)]
    simp only [h, true_and]
    split
    · constructor <;> intro <;> omega
    · split <;> constructor <;> intro <;> omega
  · rw [if_neg fun e => h (h2.1 e), h2]
    simp [h]
theorem cstr_any (a b : ByteArray) (w : World) :
    Calls Try.prog 31 #[.string a, .string b] w fun e w' => e = .returned (.int .i64 (Lib.compareBytes a.data.toList b.data.toList)) ∧ w' = w := by
  go_enter Try.func31, Try.ntmps31
  go_wp2
  rw [run_callFunc_extern Try.func33 (by kernel_rfl) (by kernel_rfl) (by kernel_rfl) (e := Extern.BytealgCompare.compare) (by kernel_rfl), Lib.run_compareString]
  simp only [Result.andThen]
  rw [Oper.upon_value]
  go_wp2
  go_ret
  exact ⟨rfl, rfl⟩
theorem strcmp_any (a b : ByteArray) (w : World) :
    Calls Try.prog 29 #[.string a, .string b] w fun e w' => e = .returned (.int .i64 (Lib.compareBytes a.data.toList b.data.toList)) ∧ w' = w := by
  go_enter Try.func29, Try.ntmps29
  go_wp2_with (go_at_call 31; refine (cstr_any _ _ _).mono ?_; rintro e w2 ⟨rfl, rfl⟩)
  go_ret
  exact ⟨rfl, rfl⟩
theorem intcmp_any (x y : Int) (w : World) :
    Calls Try.prog 30 #[.int .i64 x, .int .i64 y] w fun e w' => e = .returned (.int .i64 (cmpI x y)) ∧ w' = w := by
  go_enter Try.func30, Try.ntmps30
  go_wp2
  all_goals (go_ret; refine ⟨?_, rfl⟩; unfold cmpI; (repeat' split) <;> first | rfl | (exfalso; omega))
/-- cmp.Or of two numbers. -/
theorem or_any (x y : Int) (w : World) (g : Nat) (h0 : w.cell? ⟨g, 0, none⟩ = some (.int .i64 x)) (h1 : w.cell? ⟨g, 1, none⟩ = some (.int .i64 y)) :
    Calls Try.prog 28 #[.slice (some ⟨g, 0, none⟩) 2 2] w fun e w' => e = .returned (.int .i64 (if x = 0 then y else x)) ∧ w' = w := by
  obtain ⟨z, hz⟩ : ∃ z, z = if x = 0 then y else x := ⟨_, rfl⟩
  rw [← hz]
  have HZ := Lib.hid hz
  clear hz
  go_enter Try.func28, Try.ntmps28
  go_wp2
  go_loopw [8] (fun s wx => ∃ j : Nat, j ≤ 2 ∧ s = .int .i64 ((j : Nat) : Int) ∧ wx = w ∧ (1 ≤ j → x = 0) ∧ (2 ≤ j → y = 0)) (fun s _ => 2 - (intOf s).toNat)
  case atStart => exact ⟨0, by omega, rfl, rfl, fun h => by omega, fun h => by omega⟩
  case round =>
    obtain ⟨j, hj, rfl, rfl, hx, hy⟩ := hrel
    match j, hj with
    | 0, _ =>
      by_cases hx0 : x = 0
      · subst hx0
        go_wp2
        refine ⟨⟨1, by omega, rfl, trivial, fun _ => trivial, fun h => by omega⟩, by simp [intOf]⟩
      · have k1 : (x != 0) = true := by simpa using hx0
        go_wp2
        go_ret
        exact ⟨by rw [HZ.out, if_neg hx0]; rfl, rfl⟩
    | 1, _ =>
      obtain rfl := hx (by omega)
      by_cases hy0 : y = 0
      · subst hy0
        go_wp2
        refine ⟨⟨2, by omega, rfl, trivial, fun _ => trivial, fun _ => trivial⟩, by simp [intOf]⟩
      · have k1 : (y != 0) = true := by simpa using hy0
        go_wp2
        go_ret
        exact ⟨by have hz := HZ.out; simp at hz; rw [hz]; rfl, rfl⟩
    | 2, _ =>
      obtain rfl := hx (by omega)
      obtain rfl := hy (by omega)
      go_wp2
      go_ret
      exact ⟨by have hz := HZ.out; simp at hz; rw [hz]; rfl, rfl⟩
def enV (e : En) : Value := .agg #[.string e.key, .int .i64 e.seq, .bool e.del, .string e.val]
/-- Both entries in boxes. -/
def CmS (A B : Nat) (x y : En) (W : World) : Prop := W.cell? ⟨A, 0, none⟩ = some (.string x.key) ∧ W.cell? ⟨A, 1, none⟩ = some (.int .i64 x.seq) ∧ W.cell? ⟨B, 0, none⟩ = some (.string y.key) ∧ W.cell? ⟨B, 1, none⟩ = some (.int .i64 y.seq)
theorem CmS.alloc {A B : Nat} {x y : En} {W : World} (h : CmS A B x y W) (o : Obj) : CmS A B x y (W.alloc o) := by
  obtain ⟨a, b, c, d⟩ := h
  have l1 := World.block_lt_of_cell? W _ a
  have l2 := World.block_lt_of_cell? W _ c
  exact ⟨(World.cell?_alloc_lt W o ⟨A, 0, none⟩ l1).trans a, (World.cell?_alloc_lt W o ⟨A, 1, none⟩ l1).trans b, (World.cell?_alloc_lt W o ⟨B, 0, none⟩ l2).trans c, (World.cell?_alloc_lt W o ⟨B, 1, none⟩ l2).trans d⟩
def CmP (w : World) (x y : En) (W : World) : Prop := CmS w.heap.size (w.heap.size + 1) x y W ∧ Below w.heap.size w W
theorem CmP.alloc {w : World} {x y : En} {W : World} (h : CmP w x y W) (o : Obj) : CmP w x y (W.alloc o) := ⟨h.1.alloc o, h.2.alloc h.2.size o⟩
theorem CmP.drew {w : World} {x y : En} {W : World} (h : CmP w x y W) : CmP w x y W.drew := ⟨h.1, below_drewN h.2 1⟩
theorem CmP.mk (w : World) (x y : En) : CmP w x y ((w.alloc (.cells #[.string x.key, .int .i64 x.seq, .bool x.del, .string x.val] 30)).alloc (.cells #[.string y.key, .int .i64 y.seq, .bool y.del, .string y.val] 30)) := by
  have h1 := (Blk.new w 30 #[.string x.key, .int .i64 x.seq, .bool x.del, .string x.val]).alloc (.cells #[.string y.key, .int .i64 y.seq, .bool y.del, .string y.val] 30)
  have h2 := Blk.new (w.alloc (.cells #[.string x.key, .int .i64 x.seq, .bool x.del, .string x.val] 30)) 30 #[.string y.key, .int .i64 y.seq, .bool y.del, .string y.val]
  rw [World.size_alloc] at h2
  exact ⟨⟨(h1.cell 0).trans rfl, (h1.cell 1).trans rfl, (h2.cell 0).trans rfl, (h2.cell 1).trans rfl⟩, ((Below.refl _ _).alloc (Nat.le_refl _) _).alloc (by simp) _⟩
theorem lit_drew (W : World) (t : TypeId) (cs : Array Value) (i : Nat) : ((W.alloc (.cells cs t)).drew).cell? ⟨W.heap.size, i, none⟩ = cs[i]? := (Blk.new W t cs).cell i
set_option maxHeartbeats 1000000 in
theorem compare_any (w : World) (x y : En) :
    Calls Try.prog 24 #[.agg #[.string x.key, .int .i64 x.seq, .bool x.del, .string x.val], .agg #[.string y.key, .int .i64 y.seq, .bool y.del, .string y.val]] w fun e w' => e = .returned (.int .i64 (cmpE x y)) ∧ Below w.heap.size w w' := by
  obtain ⟨c, hc⟩ : ∃ c, c = Lib.compareBytes x.key.data.toList y.key.data.toList := ⟨_, rfl⟩
  obtain ⟨d, hd⟩ : ∃ d, d = cmpI y.seq x.seq := ⟨_, rfl⟩
  obtain ⟨z, hz⟩ : ∃ z, z = cmpE x y := ⟨_, rfl⟩
  have HZ := Lib.hid (show (if c = 0 then d else c) = z by rw [hz, hc, hd]; rfl)
  have h1 := fun W => strcmp_any x.key y.key W
  have h2 := fun W => intcmp_any y.seq x.seq W
  rw [← hc] at h1
  rw [← hd] at h2
  rw [← hz]
  have H1 := Lib.hid h1
  have H2 := Lib.hid h2
  have H3 := Lib.hid (fun (W : World) (g : Nat) (a : W.cell? ⟨g, 0, none⟩ = some (.int .i64 c)) (b : W.cell? ⟨g, 1, none⟩ = some (.int .i64 d)) => (show Calls Try.prog 28 #[.slice (some ⟨g, 0, none⟩) 2 2] W fun e w' => e = .returned (.int .i64 z) ∧ w' = W by have := or_any c d W g a b; rwa [HZ.out] at this))
  clear HZ
  have hp := CmP.mk w x y
  clear hz hc hd h1 h2
  go_enter Try.func24, Try.ntmps24
  go_upto_region 1 with fail
  obtain ⟨W0, hW0⟩ : ∃ W0, W0 = (w.alloc (.cells #[.string x.key, .int .i64 x.seq, .bool x.del, .string x.val] 30)).alloc (.cells #[.string y.key, .int .i64 y.seq, .bool y.del, .string y.val] 30) := ⟨_, rfl⟩
  rw [← hW0] at hp ⊢
  clear hW0
  refine wp_region_held_drew (S := CmP w x y) (by kernel_rfl) (by (first | (with_reducible assumption) | (with_reducible exact CmP.drew (by assumption)) | (with_reducible exact CmP.drew (CmP.alloc hp _)) | (with_reducible exact CmP.alloc (by assumption) _))) (fun hHeld => ?_)
  refine wpAnyH_take (i := 0) (v := ?vr1_0) (Fr.take_at rfl) (by kernel_rfl) (by kernel_rfl) (by kernel_rfl) (fun _ _ _ h => h) (Or.inl ⟨by rfl, ?yr1_0⟩) (by assumption) ?nr1_0
  case yr1_0 => (intro w_ hSw; obtain ⟨⟨q0, q1, q2, q3⟩, _⟩ := hSw; go_simp; (try with_reducible rfl))
  try simp only [Act.put, List.setIfInBounds_toArray, List.set_cons_zero, List.set_cons_succ]
  refine wpAnyH_take (i := 1) (v := ?vr1_1) (Fr.take_at rfl) (by kernel_rfl) (by kernel_rfl) (by kernel_rfl) (fun _ _ _ h => h) (Or.inl ⟨by rfl, ?yr1_1⟩) (by assumption) ?nr1_1
  case yr1_1 => (intro w_ hSw; obtain ⟨⟨q0, q1, q2, q3⟩, _⟩ := hSw; go_simp; (try with_reducible rfl))
  try simp only [Act.put, List.setIfInBounds_toArray, List.set_cons_zero, List.set_cons_succ]
  refine wpAnyH_take (i := 2) (v := ?vr1_2) (Fr.take_at rfl) (by kernel_rfl) (by kernel_rfl) (by kernel_rfl) (fun _ _ _ h => h) (Or.inl ⟨by rfl, ?yr1_2⟩) (by assumption) ?nr1_2
  case yr1_2 => (intro w_ hSw; obtain ⟨⟨q0, q1, q2, q3⟩, _⟩ := hSw; go_simp; (try with_reducible rfl))
  try simp only [Act.put, List.setIfInBounds_toArray, List.set_cons_zero, List.set_cons_succ]
  refine wpAnyH_take (i := 3) (v := ?vr1_3) (Fr.take_at rfl) (by kernel_rfl) (by kernel_rfl) (by kernel_rfl) (fun _ _ _ h => h) (Or.inl ⟨by rfl, ?yr1_3⟩) (by assumption) ?nr1_3
  case yr1_3 => (intro w_ hSw; obtain ⟨⟨q0, q1, q2, q3⟩, _⟩ := hSw; go_simp; (try with_reducible rfl))
  try simp only [Act.put, List.setIfInBounds_toArray, List.set_cons_zero, List.set_cons_succ]
  refine wpAnyH_take (i := 5) (v := ?vr1_5) (Fr.take_at rfl) (by kernel_rfl) (by kernel_rfl) (by kernel_rfl) (fun _ _ _ h => h) (Or.inl ⟨by rfl, ?yr1_5⟩) (by assumption) ?nr1_5
  case yr1_5 => (intro w_ hSw; obtain ⟨⟨q0, q1, q2, q3⟩, _⟩ := hSw; go_simp; (try with_reducible rfl))
  try simp only [Act.put, List.setIfInBounds_toArray, List.set_cons_zero, List.set_cons_succ]
  refine wpAnyH_take (i := 6) (v := ?vr1_6) (Fr.take_at rfl) (by kernel_rfl) (by kernel_rfl) (by kernel_rfl) (fun _ _ _ h => h) (Or.inl ⟨by rfl, ?yr1_6⟩) (by assumption) ?nr1_6
  case yr1_6 => (intro w_ hSw; obtain ⟨⟨q0, q1, q2, q3⟩, _⟩ := hSw; go_simp; (try with_reducible rfl))
  try simp only [Act.put, List.setIfInBounds_toArray, List.set_cons_zero, List.set_cons_succ]
  refine wpAnyH_take (i := 7) (v := ?vr1_7) (Fr.take_at rfl) (by kernel_rfl) (by kernel_rfl) (by kernel_rfl) (fun _ _ _ h => h) (Or.inl ⟨by rfl, ?yr1_7⟩) (by assumption) ?nr1_7
  case yr1_7 => (intro w_ hSw; obtain ⟨⟨q0, q1, q2, q3⟩, _⟩ := hSw; go_simp; (try with_reducible rfl))
  try simp only [Act.put, List.setIfInBounds_toArray, List.set_cons_zero, List.set_cons_succ]
  refine wpAnyH_take (i := 8) (v := ?vr1_8) (Fr.take_at rfl) (by kernel_rfl) (by kernel_rfl) (by kernel_rfl) (fun _ _ _ h => h) (Or.inl ⟨by rfl, ?yr1_8⟩) (by assumption) ?nr1_8
  case yr1_8 => (intro w_ hSw; obtain ⟨⟨q0, q1, q2, q3⟩, _⟩ := hSw; go_simp; (try with_reducible rfl))
  try simp only [Act.put, List.setIfInBounds_toArray, List.set_cons_zero, List.set_cons_succ]
  refine wpAnyH_ready (rs := [4]) (by kernel_rfl) (by simp) ?_
  refine AllReadyH.cons (Fr.take_at rfl) (fun K hK => ?_) AllReadyH.nil
  go_simp
  (go_at_call 29; refine (H1.out _).mono ?_; rintro e w2 ⟨rfl, rfl⟩)
  try go_wp2_with fail
  refine hK.out _ _ (by (first | (with_reducible assumption) | (with_reducible exact CmP.drew (by assumption)) | (with_reducible exact CmP.drew (CmP.alloc hp _)) | (with_reducible exact CmP.alloc (by assumption) _))) (fun hHeld => ?_)
  clear hK K
  try simp only [Act.put, List.setIfInBounds_toArray, List.set_cons_zero, List.set_cons_succ]
  refine wpAnyH_ready (rs := [9]) (by kernel_rfl) (by simp) ?_
  refine AllReadyH.cons (Fr.take_at rfl) (fun K hK => ?_) AllReadyH.nil
  go_simp
  (go_at_call 30; refine (H2.out _).mono ?_; rintro e w2 ⟨rfl, rfl⟩)
  try go_wp2_with fail
  refine hK.out _ _ (by (first | (with_reducible assumption) | (with_reducible exact CmP.drew (by assumption)) | (with_reducible exact CmP.drew (CmP.alloc hp _)) | (with_reducible exact CmP.alloc (by assumption) _))) (fun hHeld => ?_)
  clear hK K
  try simp only [Act.put, List.setIfInBounds_toArray, List.set_cons_zero, List.set_cons_succ]
  refine wpAnyH_ready (rs := [10]) (by kernel_rfl) (by simp) ?_
  refine AllReadyH.cons (Fr.take_at rfl) (fun K hK => ?_) AllReadyH.nil
  go_simp
  refine hK.out _ _ (by (first | (with_reducible assumption) | (with_reducible exact CmP.drew (by assumption)) | (with_reducible exact CmP.drew (CmP.alloc hp _)) | (with_reducible exact CmP.alloc (by assumption) _))) (fun hHeld => ?_)
  clear hK K
  try simp only [Act.put, List.setIfInBounds_toArray, List.set_cons_zero, List.set_cons_succ]
  refine wpAnyH_ready (rs := [11]) (by kernel_rfl) (by simp) ?_
  refine AllReadyH.cons (Fr.take_at rfl) (fun K hK => ?_) AllReadyH.nil
  go_simp
  (go_at_call 28; refine (H3.out _ _ ((lit_drew _ _ _ 0).trans rfl) ((lit_drew _ _ _ 1).trans rfl)).mono ?_; rintro e w2 ⟨rfl, rfl⟩)
  try go_wp2_with fail
  refine hK.out _ _ (by (first | (with_reducible assumption) | (with_reducible exact CmP.drew (by assumption)) | (with_reducible exact CmP.drew (CmP.alloc hp _)) | (with_reducible exact CmP.alloc (by assumption) _))) (fun hHeld => ?_)
  clear hK K
  try simp only [Act.put, List.setIfInBounds_toArray, List.set_cons_zero, List.set_cons_succ]
  refine wpAnyH_take (i := 12) (v := ?vr1_12) (Fr.take_at rfl) (by kernel_rfl) (by kernel_rfl) (by kernel_rfl) (fun _ _ _ h => h) (Or.inl ⟨by rfl, ?yr1_12⟩) (by assumption) ?nr1_12
  case yr1_12 => (intro w_ hSw; obtain ⟨⟨q0, q1, q2, q3⟩, _⟩ := hSw; go_simp; (try with_reducible rfl))
  try simp only [Act.put, List.setIfInBounds_toArray, List.set_cons_zero, List.set_cons_succ]
  refine wpAnyH_done (by kernel_rfl) ?_ _
  go_wp2
  go_ret
  exact ⟨rfl, hHeld.2⟩
theorem check_any (w : World) (e : En) :
    Calls Try.prog 22 #[.agg #[.string e.key, .int .i64 e.seq, .bool e.del, .string e.val]] w fun x w' => x = .returned (.int .i64 (entryErr e)) ∧ Below w.heap.size w w' := by
  obtain ⟨z, hz⟩ : ∃ z, z = entryErr e := ⟨_, rfl⟩
  have HZ := Lib.hid hz
  rw [← hz]
  clear hz
  go_enter Try.func22, Try.ntmps22
  go_wp2
  all_goals go_ret
  all_goals (refine ⟨?_, (Below.refl _ _).alloc (Nat.le_refl _) _⟩; rw [HZ.out]; unfold entryErr; clear HZ; first | (rw [if_pos (by omega)]; rfl) | (rw [if_neg (by omega), if_pos (by simp_all [or_assoc])]; rfl) | (rw [if_neg (by omega), if_pos (by omega)]; rfl) | (rw [if_neg (by omega), if_neg (by simp_all; omega)]; rfl) | (rw [if_neg (by omega), if_neg (by simp_all)]; rfl))

end Mm
end Go.Proofs.Ytfnfjhfmhinkcaa
