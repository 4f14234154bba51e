/-
  WHAT IS PROVED: plain facts: what a loss of power and a Drop leave of a log's payloads. NO CONDITION beside those that each lemma names.
-/
import Derived.Test.YtnijonjepgdinaaDoorWInv
namespace Go.Proofs.YtnijonjepgdinaaDoor
open Go Go.RowKit Go.Maps Go.Proofs.YtnijonjepgdinaaDoor.Fr Go.Proofs.YtnijonjepgdinaaDoor.Dr
namespace Wl

/-! ### a loss of power -/
theorem cut1_synced {f : Fl} (h : f.syn = f.dat.length) (ks : List Int) : cut1 f ks = (f, ks) := by
  unfold cut1
  rw [if_neg (by omega), ← h]
theorem cuts_synced : ∀ {l : List Fl} (_ : ∀ f ∈ l, f.syn = f.dat.length) (ks : List Int), cuts l ks = l ∧ rest l ks = ks
  | [], _, _ => ⟨rfl, rfl⟩
  | f :: r, h, ks => by
    have h1 := cut1_synced (h f (by simp)) ks
    have h2 := cuts_synced (l := r) (fun g hg => h g (by simp [hg])) ks
    unfold cuts rest
    rw [h1]
    exact ⟨by rw [h2.1], h2.2⟩
theorem cut1_some {f : Fl} (h : f.syn ≤ f.dat.length) (ks : List Int) : ∃ n, f.syn ≤ n ∧ n ≤ f.dat.length ∧ (cut1 f ks).1 = ⟨f.name, f.dat.take n, n⟩ := by
  unfold cut1
  split
  · next h1 =>
    simp only
    by_cases h2 : hdN ks < f.dat.length - f.syn
    · rw [if_pos h2]
      exact ⟨f.syn + hdN ks, by omega, by omega, rfl⟩
    · rw [if_neg h2]
      exact ⟨f.dat.length, h, Nat.le_refl _, rfl⟩
  · exact ⟨f.dat.length, h, Nat.le_refl _, by rw [List.take_length]⟩
theorem cut_at (ps : List Bs) (n : Nat) : ∀ (m j : Nat), ps.length - j ≤ m → j ≤ ps.length → (cat (ps.take j)).length ≤ n → ∃ k, k ≤ ps.length ∧ (cat (ps.take k)).length ≤ n ∧ (k < ps.length → n < (cat (ps.take (k + 1))).length) := by
  intro m
  induction m with
  | zero => exact fun j h1 h2 h3 => ⟨j, h2, h3, fun h => by omega⟩
  | succ m ih =>
    intro j h1 h2 h3
    by_cases hj : j < ps.length ∧ (cat (ps.take (j + 1))).length ≤ n
    · exact ih (j + 1) (by omega) (by omega) hj.2
    · exact ⟨j, h2, h3, fun h => Nat.lt_of_not_le fun k => hj ⟨h, k⟩⟩
theorem cat_mono (ps : List Bs) {a b : Nat} (h : a ≤ b) : (cat (ps.take a)).length ≤ (cat (ps.take b)).length := by
  have e : ps.take a = (ps.take b).take a := by rw [List.take_take, Nat.min_eq_left h]
  rw [e]
  exact cat_take_le _ _
section
variable {k t : Nat} {ar : Bool} {g : Int} {dead : Bool} {st : St} {old : List Fl} {ps : List Bs} {s z : Nat}
theorem segs_all {fs : List Fl} (h : Segs fs) : ∀ l : List Fl, (∀ f ∈ l, f ∈ fs) → Wl.segs l = l.map fun f => num f.name := by
  intro l hl
  unfold Wl.segs
  rw [List.filter_eq_self]
  intro n hn
  obtain ⟨f, hf, rfl⟩ := List.mem_map.1 hn
  obtain ⟨m, h1, h2, h3⟩ := h.2 f (hl f hf)
  rw [h3, num_seg h1 h2]
  exact decide_eq_true (by omega)
theorem Lg.crash (h : Lg k t ar g dead st old ps s) (hk : k ≤ 900) (ks : List Int) : ∃ m, s ≤ m ∧ m ≤ ps.length ∧ Wl.tag (st.crash ks).files = Wl.tag old ++ (ps.take m).map (fun p => (g, p)) ∧
    (∀ f ∈ (st.crash ks).files, f.syn = f.dat.length ∧ ∃ n : Int, 1 ≤ n ∧ n ≤ g ∧ f.name = seg n) ∧ (st.crash ks).files.length ≤ k + 1 := by
  have hg := h.hi
  have hfw := h.few
  have hlo := h.lo
  have hs := cuts_synced (fun f hf => (h.elder f hf).1) ks
  have hold : ∀ f ∈ old, f.syn = f.dat.length ∧ ∃ n : Int, 1 ≤ n ∧ n ≤ g ∧ f.name = seg n := fun f hf => by
    obtain ⟨h1, n, h2, h3, h4⟩ := h.elder f hf
    exact ⟨h1, n, h2, by omega, h4⟩
  show ∃ m, s ≤ m ∧ m ≤ ps.length ∧ Wl.tag (cuts st.files ks) = _ ∧ (∀ f ∈ cuts st.files ks, _) ∧ (cuts st.files ks).length ≤ _
  rw [h.files]
  by_cases hp : ps = []
  · have h1 := h.syn
    subst hp
    rw [cur_nil, List.append_nil, hs.1]
    exact ⟨s, Nat.le_refl _, h1, by simp, hold, by omega⟩
  · rw [cur_ne hp, cuts_snoc, hs.1, hs.2]
    obtain ⟨n, h1, h2, h3⟩ := cut1_some (f := ⟨seg g, cat ps, (cat (ps.take s)).length⟩) (cat_take_le _ _) ks
    simp only at h1 h2 h3
    rw [h3]
    obtain ⟨m, m1, m2, m3⟩ := cut_at ps n ps.length 0 (by omega) (by omega) (by simp [cat])
    have m4 : s ≤ m := by
      rcases Nat.lt_or_ge m s with q | q
      · have := m3 (by have := h.syn; omega)
        have := cat_mono ps (show m + 1 ≤ s from q)
        omega
      · exact q
    have hsc := scan_cut ps h.pay m n m1 m2 m3
    refine ⟨m, m4, m1, ?_, ?_, by rw [List.length_append, List.length_singleton]; omega⟩
    · rw [tag_append]
      simp [Wl.tag, hsc, num_seg hlo (by omega)]
    · intro f hf
      rcases List.mem_append.1 hf with hf | hf
      · exact hold f hf
      · obtain rfl := List.mem_singleton.1 hf
        exact ⟨by simp only [List.length_take]; omega, g, hlo, Int.le_refl _, rfl⟩
theorem Lx.crash (h : Lx k t ar g dead st z) (hk : k ≤ 899) (ks : List Int) : ∃ m, z ≤ m ∧ m ≤ (tag st.files).length ∧ tag (st.crash ks).files = (tag st.files).take m ∧
    Lx (k + 1) 0 false (nextOf 1 (Wl.segs (st.crash ks).files)) false (st.crash ks) m := by
  obtain ⟨old, ps, s, h, hz⟩ := h
  obtain ⟨m, h1, h2, h3, h4, h5⟩ := h.crash (by omega) ks
  have hg := h.hi
  have hok := h.ok.crash ks
  have hS : Segs (st.crash ks).files := ⟨hok.rising, fun f hf => let ⟨_, n, q1, q2, q3⟩ := h4 f hf; ⟨n, q1, by omega, q3⟩⟩
  have htag : tag (st.crash ks).files = (tag st.files).take ((tag old).length + m) := by
    rw [h3, h.tag (by omega), List.take_length_add_append, List.map_take]
  have hmem : ∀ n ∈ Wl.segs (st.crash ks).files, n ≤ g := by
    intro n hn
    rw [segs_all hS _ fun _ h => h] at hn
    obtain ⟨f, hf, rfl⟩ := List.mem_map.1 hn
    obtain ⟨_, n, q1, q2, q3⟩ := h4 f hf
    rw [q3, num_seg q1 (by omega)]
    exact q2
  refine ⟨(tag old).length + m, by omega, by rw [h.tag (by omega), List.length_append, List.length_map]; omega, htag, (st.crash ks).files, [], 0, ⟨hok, by rw [cur_nil, List.append_nil], ?_, nextOf_ge, nextOf_le (by omega) fun n hn => by have := hmem n hn; omega, h5, fun p hp => absurd hp (by simp), Nat.le_refl _, by simp [cat], Nat.le_refl _, rfl, fun h => by cases h⟩, ?_⟩
  · intro f hf
    obtain ⟨q0, n, q1, q2, q3⟩ := h4 f hf
    refine ⟨q0, n, q1, nextOf_gt n ?_, q3⟩
    rw [segs_all hS _ fun _ h => h]
    exact List.mem_map.2 ⟨f, hf, by rw [q3, num_seg q1 (by omega)]⟩
  · rw [htag, List.length_take, h.tag (by omega), List.length_append, List.length_map]
    omega
/-- A log that is opened over nothing. -/
theorem Lx.first : Lx 0 0 false 1 false St.empty 0 := ⟨[], [], 0, ⟨ok_empty, rfl, fun f hf => absurd hf (by simp), by omega, by omega, Nat.le_refl _, fun p hp => absurd hp (by simp), Nat.le_refl _, by simp [cat], Nat.le_refl _, rfl, fun h => by cases h⟩, Nat.zero_le _⟩
theorem Lx.arm (h : Lx k t false g dead st z) {n : Int} (h1 : 0 ≤ n) (h2 : n ≤ 9223372036854775807) : (st.arm n).2 = 0 ∧ Lx k t true g dead (st.arm n).1 z ∧ (st.arm n).1.files = st.files := by
  obtain ⟨old, ps, s, h, hz⟩ := h
  have hok := h.ok.arm h2
  have hd : ¬ st.dead = true := fun q => by have := dead_armed q; rw [h.arm] at this; cases this
  have e : st.arm n = ({ st with armed := true, left := n.toNat }, 0) := by
    unfold St.arm
    rw [if_neg (by omega), if_neg hd]
  rw [e] at hok ⊢
  exact ⟨rfl, ⟨old, ps, s, ⟨hok, h.files, h.elder, h.lo, h.hi, h.few, h.pay, h.syn, h.big, h.steps, rfl, fun _ => rfl⟩, hz⟩, rfl⟩

/-! ### Drop -/
theorem segs_nodup {fs : List Fl} (h : Segs fs) : (Wl.segs fs).Nodup := by
  rw [segs_all h _ fun _ h => h, List.Nodup, List.pairwise_map]
  refine List.Pairwise.imp_of_mem ?_ h.1
  intro a b ha hb hab e
  obtain ⟨n, h1, h2, h3⟩ := h.2 a ha
  obtain ⟨m, h4, h5, h6⟩ := h.2 b hb
  rw [h3, h6, num_seg h1 h2, num_seg h4 h5] at e
  subst e
  rw [h3, h6] at hab
  exact Dr.lt_irrefl _ hab
theorem look_go {st : St} {n : Int} (ha : st.armed = false) (h1 : 1 ≤ n) (h2 : n ≤ 999999) (hf : (find st.files (seg n)).isSome) : st.look (seg n) = 0 := by
  unfold St.look
  have hd : ¬ st.dead = true := fun q => by have := dead_armed q; rw [ha] at this; cases this
  rw [if_neg (by rw [nameOk_seg h1 h2]; decide), if_neg (by cases hc : find st.files (seg n) <;> simp_all), if_neg hd]
theorem drop_plain {a g : Int} : ∀ (r : List Int) (st : St), st.Ok → st.armed = false → r.Nodup → (∀ n ∈ r, 1 ≤ n ∧ n ≤ 999999 ∧ (find st.files (seg n)).isSome) →
    ∃ st', dropAll a g r st = (false, st', 0) ∧ st'.Ok ∧ st'.files = st.files.filter fun f => decide (num f.name ∈ r → a ≤ num f.name ∨ num f.name = g) := by
  intro r
  induction r with
  | nil =>
    intro st hok _ _ _
    exact ⟨st, rfl, hok, by rw [List.filter_eq_self.2 (fun f _ => decide_eq_true fun h => absurd h (by simp))]⟩
  | cons n r ih =>
    intro st hok ha hnd hm
    obtain ⟨hnr, hnd⟩ := List.nodup_cons.1 hnd
    obtain ⟨h1, h2, h3⟩ := hm n (by simp)
    by_cases hs : a ≤ n ∨ n = g
    · obtain ⟨st', q1, q2, q3⟩ := ih st hok ha hnd fun m hm' => hm m (by simp [hm'])
      refine ⟨st', by rw [drop_skip hs, q1], q2, ?_⟩
      rw [q3]
      refine List.filter_congr fun f hf => ?_
      rw [decide_eq_decide]
      constructor
      · intro q k
        rcases List.mem_cons.1 k with k | k
        · rw [k]; exact hs
        · exact q k
      · exact fun q k => q (by simp [k])
    · have e : st.delete (seg n) = ({ st.step with files := del (seg n) st.files }, 0) := by
        unfold St.delete
        rw [look_go ha h1 h2 h3, if_neg (by decide)]
      have hok2 := hok.delete (seg n)
      rw [e] at hok2
      obtain ⟨st', q1, q2, q3⟩ := ih _ hok2 ha hnd fun m hm' => by
        obtain ⟨a1, a2, a3⟩ := hm m (by simp [hm'])
        refine ⟨a1, a2, ?_⟩
        obtain ⟨f, hf⟩ := Option.isSome_iff_exists.1 a3
        obtain ⟨b1, b2⟩ := find_some hf
        have hmn : m ≠ n := fun e => hnr (e ▸ hm')
        have hne : f.name ≠ seg n := fun e => hmn (seg_inj a1 a2 h1 h2 (b2.symm.trans e))
        have := find_of_mem (hok.rising.del (seg n)) (f := f) (by unfold del; rw [List.mem_filter]; exact ⟨b1, by simpa using hne⟩)
        rw [b2] at this
        rw [this]; rfl
      refine ⟨st', ?_, q2, ?_⟩
      · rw [drop_go hs (by rw [e]), e]; exact q1
      · rw [q3]
        simp only
        unfold del
        rw [List.filter_filter]
        refine List.filter_congr fun f hf => ?_
        rw [Bool.eq_iff_iff, Bool.and_eq_true, decide_eq_true_eq, decide_eq_true_eq, decide_eq_true_eq]
        constructor
        · rintro ⟨k1, k2⟩ k
          rcases List.mem_cons.1 k with k | k
          · refine absurd ?_ k2
            rcases num_cases f.name with ⟨c, _⟩ | ⟨_, _, c⟩
            · omega
            · rw [← c, k]
          · exact k1 k
        · intro k
          refine ⟨fun q => k (by simp [q]), fun q => hs ?_⟩
          have hq : num f.name = n := by rw [q]; exact num_seg h1 h2
          have := k (by simp [hq])
          rwa [hq] at this
theorem tag_filter (p : Int → Bool) (l : List Fl) : tag (l.filter fun f => p (num f.name)) = (tag l).filter fun x => p x.1 := by
  induction l with
  | nil => rfl
  | cons f r ih =>
    have e : tag (f :: r) = ((scan f.dat).1.map fun q => (num f.name, q)) ++ tag r := by simp [tag]
    rw [e, List.filter_append, ← ih, List.filter_cons]
    by_cases h : p (num f.name) = true
    · rw [if_pos h]
      have e2 : ((scan f.dat).1.map fun q => (num f.name, q)).filter (fun x => p x.1) = (scan f.dat).1.map fun q => (num f.name, q) := by
        rw [List.filter_eq_self]
        intro x hx
        obtain ⟨q, _, rfl⟩ := List.mem_map.1 hx
        exact h
      rw [e2]
      simp [tag]
    · rw [if_neg h]
      have e2 : ((scan f.dat).1.map fun q => (num f.name, q)).filter (fun x => p x.1) = [] := by
        rw [List.filter_eq_nil_iff]
        intro x hx
        obtain ⟨q, _, rfl⟩ := List.mem_map.1 hx
        exact h
      rw [e2, List.nil_append]
theorem Lx.drop (h : Lx k t false g false st z) (hk : k ≤ 900) (a : Int) : ∃ st', dropAll a g (Wl.segs st.files) st = (false, st', 0) ∧ st'.Ok ∧
    paysOf st'.files 1 (Wl.segs st'.files) = ((tag st.files).filter fun x => decide (a ≤ x.1 ∨ x.1 = g)).map (·.2) := by
  obtain ⟨old, ps, s, h, _⟩ := h
  have hS := h.segs hk
  obtain ⟨st', q1, q2, q3⟩ := drop_plain (a := a) (g := g) (Wl.segs st.files) st h.ok h.arm (segs_nodup hS) fun n hn => by
    obtain ⟨h1, h2, _⟩ := segs_mem hn
    obtain ⟨f, hf⟩ := segs_find h.ok.rising hn
    exact ⟨h1, h2, by rw [hf]; rfl⟩
  have e : st'.files = st.files.filter fun f => decide (a ≤ num f.name ∨ num f.name = g) := by
    rw [q3]
    refine List.filter_congr fun f hf => ?_
    rw [decide_eq_decide]
    have hm : num f.name ∈ Wl.segs st.files := by rw [segs_all hS _ fun _ h => h]; exact List.mem_map.2 ⟨f, hf, rfl⟩
    exact ⟨fun q => q hm, fun q _ => q⟩
  have hS' : Segs st'.files := ⟨q2.rising, fun f hf => hS.2 f (by rw [e] at hf; exact (List.mem_filter.1 hf).1)⟩
  refine ⟨st', q1, q2, ?_⟩
  rw [pays_tag hS', e, tag_filter (fun x => decide (a ≤ x ∨ x = g))]
end

end Wl
end Go.Proofs.YtnijonjepgdinaaDoor
