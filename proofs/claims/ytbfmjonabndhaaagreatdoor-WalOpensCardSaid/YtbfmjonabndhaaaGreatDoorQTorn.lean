/-
  WHAT IS PROVED: (1) of the forms of frames one behind the other, cut anywhere, just those are read that are whole. NO CONDITION beside those that each lemma names.
-/
import Derived.Test.YtbfmjonabndhaaaGreatDoorQFrm
import Derived.Test.YtbfmjonabndhaaaGreatDoorQMem
namespace Go.Proofs.YtbfmjonabndhaaaGreatDoor
open Go Go.RowKit
namespace Fr

def cat (ps : List (List UInt8)) : List UInt8 := (ps.map sealOf).flatten
theorem cat_cons (p : List UInt8) (r : List (List UInt8)) : cat (p :: r) = sealOf p ++ cat r := by simp [cat]
theorem cat_append (a b : List (List UInt8)) : cat (a ++ b) = cat a ++ cat b := by simp [cat]
theorem cat_snoc (a : List (List UInt8)) (p : List UInt8) : cat (a ++ [p]) = cat a ++ sealOf p := by simp [cat]
theorem sealOf_size {p : List UInt8} (h : p.length ≤ 4096) : (sealOf p).length ≤ 4102 := by
  have := len_enc2 h
  rw [sealOf_length]; omega
/-- A frame cut short is none. -/
theorem isFrame_part {p : List UInt8} (h : p.length ≤ 4096) {m : Nat} (hm : m < (sealOf p).length) : isFrame ((sealOf p).take m) = false := by
  cases hf : isFrame ((sealOf p).take m)
  · rfl
  · exfalso
    obtain ⟨L, hL⟩ : ∃ L, L = (sealOf p).take m := ⟨_, rfl⟩
    rw [← hL] at hf
    obtain ⟨h1, h2, h3, h4⟩ := isFrame_fits hf
    have h5 := (ref_frame h1 h3).2 h4
    obtain ⟨q, hq⟩ : ∃ q, q = (L.drop ((dec L).2 + 4)).take (dec L).1 := ⟨_, rfl⟩
    obtain ⟨z, hz⟩ : ∃ z, z = (dec L).2 + 4 + (dec L).1 := ⟨_, rfl⟩
    rw [← hq, ← hz] at h5
    rw [← hz] at h3
    have hLm : L.length = m := by rw [hL, List.length_take]; omega
    have hql : q.length ≤ 4096 := by rw [hq, List.length_take]; omega
    have hqz : (sealOf q).length = z := by rw [h5, List.length_take]; omega
    have e : sealOf p = sealOf q ++ (sealOf p).drop z := by
      have e1 : L.take z = (sealOf p).take z := by rw [hL, List.take_take, Nat.min_eq_left (by omega)]
      rw [h5, e1, List.take_append_drop]
    have t1 := takeF_sealOf h []
    have t2 := takeF_sealOf hql ((sealOf p).drop z)
    rw [← e] at t2
    rw [List.append_nil] at t1
    rw [t1] at t2
    have := congrArg Prod.snd t2
    simp only at this
    omega
theorem scan_seal {p : List UInt8} (h : p.length ≤ 4096) (b : List UInt8) : scan (sealOf p ++ b) = (p :: (scan b).1, (sealOf p).length + (scan b).2) := by
  rw [scan_yes (isFrame_sealOf h b), takeF_sealOf h b]
  simp only [List.drop_left]
theorem scan_cut : ∀ (ps : List (List UInt8)) (_ : ∀ p ∈ ps, p.length ≤ 4096) (k cut : Nat), k ≤ ps.length → (cat (ps.take k)).length ≤ cut → (k < ps.length → cut < (cat (ps.take (k + 1))).length) →
    scan ((cat ps).take cut) = (ps.take k, (cat (ps.take k)).length) := by
  intro ps
  induction ps with
  | nil =>
    intro _ k cut _ _ _
    have e : (cat []).take cut = [] := by simp [cat]
    rw [e, scan_no (by decide)]
    simp [cat]
  | cons p r ih =>
    intro h k cut hk h1 h2
    have hp := h p (by simp)
    cases k with
    | zero =>
      have h3 := h2 (by simp)
      simp only [List.take_succ_cons, List.take_zero, cat_cons] at h3
      have h4 : cut < (sealOf p).length := by simpa [cat] using h3
      rw [cat_cons, List.take_append_of_le_length (by omega), scan_no (isFrame_part hp h4)]
      simp [cat]
    | succ k =>
      simp only [List.length_cons] at hk
      simp only [List.take_succ_cons, cat_cons, List.length_append] at h1 h2 ⊢
      obtain ⟨c, rfl⟩ : ∃ c, cut = (sealOf p).length + c := ⟨cut - (sealOf p).length, by omega⟩
      have e : (sealOf p ++ cat r).take ((sealOf p).length + c) = sealOf p ++ (cat r).take c := by
        rw [List.take_length_add_append]
      rw [e, scan_seal hp, ih (fun q hq => h q (by simp [hq])) k c (by omega) (by omega) (fun h3 => by have := h2 (by simp only [List.length_cons]; omega); omega)]
theorem scan_all {ps : List (List UInt8)} (h : ∀ p ∈ ps, p.length ≤ 4096) : scan (cat ps) = (ps, (cat ps).length) := by
  have := scan_cut ps h ps.length (cat ps).length (Nat.le_refl _) (by rw [List.take_length]; exact Nat.le_refl _) (fun h => absurd h (Nat.lt_irrefl _))
  rwa [List.take_length, List.take_length] at this
theorem cat_take_le (ps : List (List UInt8)) (k : Nat) : (cat (ps.take k)).length ≤ (cat ps).length := by
  have e : cat ps = cat (ps.take k) ++ cat (ps.drop k) := by rw [← cat_append, List.take_append_drop]
  rw [e, List.length_append]; omega

/-- Where each frame ends, as cells. -/
def endsOf (ps : List (List UInt8)) : List Value := (List.range ps.length).map fun j => .int .i64 (((cat (ps.take (j + 1))).length : Nat) : Int)
theorem endsOf_length (ps : List (List UInt8)) : (endsOf ps).length = ps.length := by simp [endsOf]
theorem endsOf_snoc (ps : List (List UInt8)) (p : List UInt8) : endsOf (ps ++ [p]) = endsOf ps ++ [.int .i64 (((cat ps).length + (sealOf p).length : Nat) : Int)] := by
  unfold endsOf
  rw [List.length_append, List.length_singleton, List.range_succ, List.map_append, List.map_cons, List.map_nil]
  congr 1
  · refine List.map_congr_left fun j hj => ?_
    have := List.mem_range.1 hj
    rw [List.take_append_of_le_length (by omega)]
  · have e : (ps ++ [p]).take (ps.length + 1) = ps ++ [p] := List.take_of_length_le (by simp)
    rw [e, cat_snoc, List.length_append]
theorem endsOf_get {ps : List (List UInt8)} {j : Nat} (h : j < ps.length) : (endsOf ps)[j]? = some (.int .i64 (((cat (ps.take (j + 1))).length : Nat) : Int)) := by
  unfold endsOf
  rw [List.getElem?_map, List.getElem?_range h]
  rfl
end Fr
end Go.Proofs.YtbfmjonabndhaaaGreatDoor
