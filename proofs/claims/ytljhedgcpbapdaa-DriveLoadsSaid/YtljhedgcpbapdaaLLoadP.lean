/-
  WHAT IS PROVED: plain facts on Load: its error, the files that it leaves, and how many of sorted names differ from the one before. NO CONDITION beside those that each lemma names.
-/
import Derived.Test.YtljhedgcpbapdaaDPlain
import Derived.Lib.SlicesCompact
namespace Go.Proofs.Ytljhedgcpbapdaa
open Go Go.Lib
namespace Dr
/-- Load's error. -/
def loadErr (ns fs : List Bs) : Nat :=
  if ns.length ≠ fs.length then 1
  else if ns.any (fun n => !nameOk n) = true then 20
  else if ¬ ns.Nodup then 2
  else if 256 < ns.length ∨ fs.any (fun f => decide (262144 < f.length)) = true then 5 else 0
/-- One more file. -/
def loadF (n d : Bs) : Fl := ⟨n, d, d.length⟩
def loaded : List (Bs × Bs) → List Fl := fun ps => ps.foldl (fun l p => put (loadF p.1 p.2) l) []
theorem loaded_snoc (ps : List (Bs × Bs)) (p : Bs × Bs) : loaded (ps ++ [p]) = put (loadF p.1 p.2) (loaded ps) := by simp [loaded, List.foldl_append]
structure LoadedP (ps : List (Bs × Bs)) (l : List Fl) : Prop where
  rising : Rising l
  len : l.length ≤ ps.length
  mem : ∀ f ∈ l, ∃ p ∈ ps, f = loadF p.1 p.2
  names : ∀ n, (∃ f ∈ l, f.name = n) ↔ n ∈ ps.map (·.1)
theorem loadedP_nil : LoadedP [] [] := ⟨List.Pairwise.nil, Nat.le_refl _, (fun f hf => by cases hf), fun n => by simp⟩
theorem mem_put_self (f : Fl) (l : List Fl) : f ∈ put f l := by unfold put; simp
theorem mem_put_other {f g : Fl} {l : List Fl} (h : g ∈ l) (hn : g.name ≠ f.name) : g ∈ put f l := by
  unfold put
  rcases lt_total g.name f.name with h1 | h1 | h1
  · exact List.mem_append.2 (.inl (List.mem_filter.2 ⟨h, by simpa using h1⟩))
  · exact absurd h1 hn
  · exact List.mem_append.2 (.inr (List.mem_cons.2 (.inr (List.mem_filter.2 ⟨h, by simpa using h1⟩))))
theorem LoadedP.snoc {ps : List (Bs × Bs)} {l : List Fl} (h : LoadedP ps l) (p : Bs × Bs) : LoadedP (ps ++ [p]) (put (loadF p.1 p.2) l) := by
  refine ⟨h.rising.put _, ?_, fun f hf => ?_, fun n => ⟨fun ⟨f, hf, hn⟩ => ?_, fun hn => ?_⟩⟩
  · have := put_le (f := loadF p.1 p.2) l
    have := h.len
    rw [List.length_append, List.length_singleton]
    omega
  · rcases mem_put hf with rfl | ⟨h1, _⟩
    · exact ⟨p, by simp, rfl⟩
    · obtain ⟨q, hq, he⟩ := h.mem f h1
      exact ⟨q, by simp [hq], he⟩
  · rcases mem_put hf with rfl | ⟨h1, _⟩
    · rw [← hn]; simp [loadF]
    · have := (h.names n).1 ⟨f, h1, hn⟩
      rw [List.map_append]
      exact List.mem_append.2 (.inl this)
  · by_cases e : n = p.1
    · exact ⟨_, mem_put_self _ _, e.symm⟩
    · rw [List.map_append] at hn
      rcases List.mem_append.1 hn with hn | hn
      · obtain ⟨f, hf, hfn⟩ := (h.names n).2 hn
        exact ⟨f, mem_put_other hf (by rw [hfn]; exact e), hfn⟩
      · simp at hn; exact absurd hn e
theorem loadedP (ps : List (Bs × Bs)) : LoadedP ps (loaded ps) := by
  have key : ∀ (qs ps : List (Bs × Bs)) (l : List Fl), LoadedP ps l → LoadedP (ps ++ qs) (qs.foldl (fun l p => put (loadF p.1 p.2) l) l) := by
    intro qs
    induction qs with
    | nil => intro ps l h; simpa using h
    | cons q r ih =>
      intro ps l h
      have := ih _ _ (h.snoc q)
      simpa using this
  have := key ps [] [] loadedP_nil
  rw [List.nil_append] at this
  exact this
/-- The state behind a Load. -/
def loadSt (ns fs : List Bs) : St := { files := loaded (ns.zip fs), steps := 0, armed := false, left := 0 }
theorem loadSt_ok {ns fs : List Bs} (h : loadErr ns fs = 0) : (loadSt ns fs).Ok := by
  unfold loadErr at h
  split at h
  · cases h
  · split at h
    · cases h
    · split at h
      · cases h
      · split at h
        · cases h
        · rename_i h1 h2 h3 h4
          have hp := loadedP (ns.zip fs)
          refine ⟨hp.rising, ?_, fun f hf => ?_, by simp [loadSt]⟩
          · have := hp.len
            rw [List.length_zip] at this
            have : ¬ 256 < ns.length := fun e => h4 (.inl e)
            show (loaded (ns.zip fs)).length ≤ 256
            omega
          · obtain ⟨p, hp1, rfl⟩ := hp.mem f hf
            obtain ⟨q1, q2⟩ := List.of_mem_zip (a := p.1) (b := p.2) hp1
            have h5 : ¬ 262144 < p.2.length := fun e => h4 (.inr (List.any_eq_true.2 ⟨p.2, q2, by simpa using e⟩))
            have h6 : nameOk p.1 = true := by
              cases hn : nameOk p.1 with
              | true => rfl
              | false => exact absurd (List.any_eq_true.2 ⟨p.1, q1, by simp [hn]⟩) h2
            exact ⟨by show p.2.length ≤ 262144; omega, Nat.le_refl _, h6⟩
/-! ### how many of sorted names differ from the one before -/
theorem filter_full {n : Nat} {p : Nat → Bool} : ((List.range n).filter p).length = n ↔ ∀ j, j < n → p j = true := by
  constructor
  · intro h j hj
    have := List.length_filter_eq_length_iff.1 (h.trans List.length_range.symm)
    exact this j (List.mem_range.2 hj)
  · intro h
    rw [List.filter_eq_self.2 fun j hj => h j (List.mem_range.1 hj), List.length_range]
theorem compact_full (zs : List Bs) : (compact zs).length = zs.length ↔ ∀ j, j < zs.length → keeps zs.toArray j = true := by
  unfold compact compactUpTo
  rw [List.length_map]
  exact filter_full
theorem compact_le (zs : List Bs) : (compact zs).length ≤ zs.length := by
  unfold compact compactUpTo
  rw [List.length_map]
  exact Nat.le_trans (List.length_filter_le _ _) (by rw [List.length_range]; exact Nat.le_refl _)
theorem sorted_nodup {zs : List Bs} (hs : zs.Pairwise (· ≤ ·)) : (∀ j, j < zs.length → keeps zs.toArray j = true) ↔ zs.Nodup := by
  constructor
  · intro h
    have hadj : ∀ i (hi : i + 1 < zs.length), zs[i] < zs[i + 1] := fun i hi => by
      have h1 := h (i + 1) hi
      unfold keeps at h1
      rw [decide_eq_true_eq] at h1
      rcases h1 with h1 | h1
      · omega
      · have h2 : zs[i] ≤ zs[i + 1] := List.pairwise_iff_getElem.1 hs i (i + 1) (by omega) hi (by omega)
        rcases lt_total zs[i] zs[i + 1] with h3 | h3 | h3
        · exact h3
        · refine absurd ?_ h1
          rw [getElem!_pos _ _ (by simpa using hi), getElem!_pos _ _ (by simp; omega)]
          simp [h3]
        · exact absurd h3 (List.not_lt.2 h2)
    refine List.pairwise_iff_getElem.2 fun i j hi hj hij => ?_
    have key : ∀ d i (hi : i < zs.length) (hj : i + d + 1 < zs.length), zs[i] < zs[i + d + 1] := fun d => by
      induction d with
      | zero => intro i hi hj; exact hadj i hj
      | succ d ih => intro i hi hj; exact lt_trans (ih i hi (by omega)) (hadj (i + d + 1) hj)
    have := key (j - i - 1) i hi (by omega)
    have e : i + (j - i - 1) + 1 = j := by omega
    simp only [e] at this
    exact ne_of_lt this
  · intro h j hj
    unfold keeps
    rw [decide_eq_true_eq]
    by_cases h0 : j = 0
    · exact .inl h0
    · right
      intro e
      rw [getElem!_pos _ _ (by simpa using hj), getElem!_pos _ _ (by simp; omega)] at e
      simp only [List.getElem_toArray] at e
      exact List.pairwise_iff_getElem.1 h (j - 1) j (by omega) hj (by omega) e.symm
theorem compact_sorted (ns : List Bs) : (compact (ns.mergeSort fun x y => decide (x ≤ y))).length = ns.length ↔ ns.Nodup := by
  have hs : (ns.mergeSort fun x y => decide (x ≤ y)).Pairwise (· ≤ ·) := by
    have := List.pairwise_mergeSort (le := fun x y : Bs => decide (x ≤ y)) (fun a b c h1 h2 => by simpa using List.le_trans (by simpa using h1) (by simpa using h2)) (fun a b => by simpa using List.le_total a b) ns
    exact this.imp fun h => by simpa using h
  have h1 := compact_full (ns.mergeSort fun x y => decide (x ≤ y))
  rw [List.length_mergeSort] at h1
  rw [h1, ← (List.mergeSort_perm ns _).nodup_iff]
  have h2 := sorted_nodup hs
  rw [List.length_mergeSort] at h2
  exact h2
end Dr
end Go.Proofs.Ytljhedgcpbapdaa
