/-
  WHAT IS PROVED: (1) what a log's Drop does. CONDITIONS: the log and its drive are newer than a world in which the library's variables lie as laid. (2) (1) plain facts: what a log's calls leave of its payloads, and what is opened behind them and behind a loss of power. NO CONDITION beside those that each lemma names. (2) plain facts: what a loss of power and a Drop leave of a log's payloads. NO CONDITION beside those that each lemma names.
-/
import Derived.Test.YtbfmjonabndhaaaGreatDoorQWAppA
import Derived.Test.YtbfmjonabndhaaaGreatDoorQDWalkG
namespace Go.Proofs.YtbfmjonabndhaaaGreatDoor
open Go Go.RowKit Go.Maps Go.Proofs.YtbfmjonabndhaaaGreatDoor.Fr Go.Proofs.YtbfmjonabndhaaaGreatDoor.Dr
namespace Wl

/-- What Drop does, over the numbers that were there at first: dead or not, the drive, the error. -/
def dropAll (a g : Int) : List Int → St → Bool × St × Nat
  | [], st => (false, st, 0)
  | n :: r, st => if a ≤ n ∨ n = g then dropAll a g r st else if (st.delete (seg n)).2 = 0 then dropAll a g r (st.delete (seg n)).1 else (decide ((st.delete (seg n)).2 = 6), (st.delete (seg n)).1, (st.delete (seg n)).2)
section
variable {a g n : Int} {r : List Int} {st : St}
theorem drop_skip (h : a ≤ n ∨ n = g) : dropAll a g (n :: r) st = dropAll a g r st := by rw [dropAll, if_pos h]
theorem drop_go (h : ¬ (a ≤ n ∨ n = g)) (h0 : (st.delete (seg n)).2 = 0) : dropAll a g (n :: r) st = dropAll a g r (st.delete (seg n)).1 := by rw [dropAll, if_neg h, if_pos h0]
theorem drop_end (h : ¬ (a ≤ n ∨ n = g)) (h0 : (st.delete (seg n)).2 ≠ 0) : dropAll a g (n :: r) st = (decide ((st.delete (seg n)).2 = 6), (st.delete (seg n)).1, (st.delete (seg n)).2) := by rw [dropAll, if_neg h, if_neg h0]
theorem delete_steps (st : St) (n : Bs) : (st.delete n).1.steps ≤ st.steps + 1 := by
  unfold St.delete
  split
  · simp
  · simp [St.step]
end
section
variable {w0 w w' : World} {X : Nat → Prop} {b d B : Nat} {g : Int} {dead : Bool} {st : St}
theorem LS.rowE (h : LS w0 w X b d g dead st) {t : TypeId} {A : Option Addr} {n c : Nat} {xs : List Value} (hb : Below w.heap.size w w') (hr : w'.ownsRow w.heap.size t 1 (.slice A n c) n xs) : LS w0 w' (Xa X A) b d g dead st := by
  have hx : ∀ a, A = some a → w.heap.size ≤ a.block ∧ a.block < w'.heap.size := by
    rintro a rfl
    exact hr.lt a.block rfl
  refine ⟨h.ds.add hb fun k hk => ?_, h.log.same (hb.block b h.log.lt), h.new, ?_⟩
  · rcases hk with (hk | ⟨a, e, rfl⟩) | hk
    · exact .inl (.inl hk)
    · exact .inr (hx a e)
    · exact .inl (.inr hk)
  · rintro (hk | ⟨a, e, he⟩)
    · exact h.off hk
    · have := (hx a e).1; have := h.log.lt; omega
theorem ls_segments (h : LS w0 w X b d g dead st) (hL : Lb B w0) (hok : st.Ok) :
    Calls Tryz.prog 24 #[.pointer (some ⟨b, 0, none⟩)] w fun e w' => ∃ A n c, e = .returned (.slice A n c) ∧ (segs st.files).length = n ∧ n ≤ c ∧ Rd w' A (ints (segs st.files)) ∧ LS w0 w' (Xa X A) b d g dead st ∧ ∀ k, X k → w'.heap[k]? = w.heap[k]? := by
  obtain ⟨S, h1, _⟩ := h.ds
  refine (segments_any h1 hok h.log (h.lib hL)).mono ?_
  rintro e w' ⟨A, n, c, h2, h3, h4, h5, h6⟩
  exact ⟨A, n, c, h2, h3, h4, Rd.own h5, h.rowE h6 h5, fun k hk => h6.block k (h.xlt hk)⟩
/-- Where the loop stands. -/
structure DrAt (w0 w : World) (X : Nat → Prop) (b d : Nat) (g a : Int) (s0 : Nat) (ns : List Int) (AN : Option Addr) (R : Bool × St × Nat) (i : Nat) (st : St) (wr : World) : Prop where
  ls : LS w0 wr (Xa X AN) b d g false st
  ok : st.Ok
  steps : st.steps ≤ s0 + i
  run : dropAll a g (ns.drop i) st = R
  num : Rd wr AN (ints ns)
  frame : ∀ k, X k → wr.heap[k]? = w.heap[k]?
def DrInv (w0 w : World) (X : Nat → Prop) (b d : Nat) (g a : Int) (s0 : Nat) (ns : List Int) (AN : Option Addr) (R : Bool × St × Nat) (nn : Nat) (x : Value) (wr : World) : Prop :=
  ∃ (i : Nat) (st : St), i ≤ nn ∧ x = .int .i64 (i : Int) ∧ Hid (DrAt w0 w X b d g a s0 ns AN R i st wr)
end

end Wl
end Go.Proofs.YtbfmjonabndhaaaGreatDoor
namespace Go.Proofs.YtbfmjonabndhaaaGreatDoor
open Go Go.RowKit Go.Maps Go.Proofs.YtbfmjonabndhaaaGreatDoor.Fr Go.Proofs.YtbfmjonabndhaaaGreatDoor.Dr
namespace Wl

/-! ### names -/
theorem dg_nb {k : Nat} (h : k < 10) : nb (dg k) = true := by
  have h2 := dg_toNat h
  unfold nb nbN
  rw [h2]
  simp only [Bool.or_eq_true, Bool.and_eq_true, decide_eq_true_eq]
  exact .inl (.inl (.inr ⟨by omega, by omega⟩))
theorem digs_nb : ∀ k n, (digs k n).all nb = true
  | 0, _ => rfl
  | k + 1, n => by rw [digs, List.all_append, digs_nb k]; simp [dg_nb (Nat.mod_lt n (by decide : 0 < 10))]
theorem nameOk_seg {n : Int} (h1 : 1 ≤ n) (h2 : n ≤ 999999) : nameOk (seg n) = true := by
  unfold nameOk
  rw [seg_len h1 h2, seg_in h1 h2, List.all_append, show (dig6 n.toNat).all nb = true from digs_nb 6 _]
  decide
/-- Files that are segments all. -/
def Segs (fs : List Fl) : Prop := Rising fs ∧ ∀ f ∈ fs, ∃ n : Int, 1 ≤ n ∧ n ≤ 999999 ∧ f.name = seg n
/-- All payloads, each with its segment's number. -/
noncomputable def tag (fs : List Fl) : List (Int × Bs) := fs.flatMap fun f => (scan f.dat).1.map fun p => (num f.name, p)
theorem tag_append (a b : List Fl) : tag (a ++ b) = tag a ++ tag b := by simp [tag]
theorem pays_sub {fs : List Fl} (h : Segs fs) : ∀ l : List Fl, (∀ f ∈ l, f ∈ fs) → paysOf fs 1 (segs l) = (tag l).map (·.2) := by
  intro l
  induction l with
  | nil => intro _; rfl
  | cons f r ih =>
    intro hl
    obtain ⟨n, h1, h2, h3⟩ := h.2 f (hl f (by simp))
    have hn : num f.name = n := by rw [h3]; exact num_seg h1 h2
    have hp : payOf fs n = (scan f.dat).1 := by
      unfold payOf
      rw [← h3, find_of_mem h.1 (hl f (by simp))]
    have e : segs (f :: r) = n :: segs r := by
      unfold segs
      rw [List.map_cons, List.filter_cons, hn, if_pos (decide_eq_true (by omega))]
    have ih2 := ih fun g hg => hl g (by simp [hg])
    unfold paysOf at ih2 ⊢
    rw [e, List.filter_cons, if_pos (decide_eq_true (by omega)), List.flatMap_cons, hp, ih2]
    simp [tag, Function.comp_def]
theorem pays_tag {fs : List Fl} (h : Segs fs) : paysOf fs 1 (segs fs) = (tag fs).map (·.2) := pays_sub h fs fun _ h => h
theorem nextOf_le {a K : Int} : ∀ {ns : List Int}, a ≤ K → (∀ n ∈ ns, n + 1 ≤ K) → nextOf a ns ≤ K := by
  intro ns
  induction ns generalizing a with
  | nil => exact fun h _ => h
  | cons n r ih => exact fun h1 h2 => ih (a := max a (n + 1)) (by have := h2 n (by simp); omega) fun m hm => h2 m (by simp [hm])
theorem nextOf_ge {a : Int} : ∀ {ns : List Int}, a ≤ nextOf a ns := by
  intro ns
  induction ns generalizing a with
  | nil => exact Int.le_refl _
  | cons n r ih => exact Int.le_trans (by omega) (ih (a := max a (n + 1)))
theorem nextOf_gt {a : Int} : ∀ {ns : List Int}, ∀ n ∈ ns, n < nextOf a ns := by
  intro ns
  induction ns generalizing a with
  | nil => intro n hn; cases hn
  | cons m r ih =>
    intro n hn
    rcases List.mem_cons.1 hn with rfl | hn
    · have := nextOf_ge (a := max a (n + 1)) (ns := r)
      show n < nextOf (max a (n + 1)) r
      omega
    · exact ih (a := max a (m + 1)) n hn

/-! ### a log and its files -/
/-- The log's own file. -/
def cur (g : Int) (ps : List Bs) (s : Nat) : List Fl := if ps = [] then [] else [⟨seg g, cat ps, (cat (ps.take s)).length⟩]
/-- A log, its elder segments all synced. -/
structure Lg (k t : Nat) (ar : Bool) (g : Int) (dead : Bool) (st : St) (old : List Fl) (ps : List Bs) (s : Nat) : Prop where
  ok : st.Ok
  files : st.files = old ++ cur g ps s
  elder : ∀ f ∈ old, f.syn = f.dat.length ∧ ∃ n : Int, 1 ≤ n ∧ n < g ∧ f.name = seg n
  lo : 1 ≤ g
  hi : g ≤ k + 1
  few : old.length ≤ k
  pay : ∀ p ∈ ps, p.length ≤ 4096
  syn : s ≤ ps.length
  big : (cat ps).length ≤ 4102
  steps : st.steps ≤ t
  arm : st.armed = ar
  dd : dead = true → ar = true
/-- .. of which at least z payloads are synced. -/
def Lx (k t : Nat) (ar : Bool) (g : Int) (dead : Bool) (st : St) (z : Nat) : Prop := ∃ old ps s, Lg k t ar g dead st old ps s ∧ z ≤ (tag old).length + s
section
variable {k t : Nat} {ar : Bool} {g : Int} {dead : Bool} {st : St} {old : List Fl} {ps : List Bs} {s z : Nat}
theorem cur_nil : cur g [] s = [] := rfl
theorem cur_ne (h : ps ≠ []) : cur g ps s = [⟨seg g, cat ps, (cat (ps.take s)).length⟩] := if_neg h
theorem Lg.lt (h : Lg k t ar g dead st old ps s) (hk : k ≤ 900) : ∀ f ∈ old, f.name < seg g := by
  intro f hf
  obtain ⟨n, h1, h2, h3⟩ := (h.elder f hf).2
  rw [h3]
  exact seg_lt h1 (by have := h.hi; omega) h2
theorem Lg.segs (h : Lg k t ar g dead st old ps s) (hk : k ≤ 900) : Segs st.files := by
  refine ⟨h.ok.rising, fun f hf => ?_⟩
  have := h.hi
  have := h.lo
  rw [h.files] at hf
  rcases List.mem_append.1 hf with hf | hf
  · obtain ⟨n, h1, h2, h3⟩ := (h.elder f hf).2
    exact ⟨n, h1, by omega, h3⟩
  · unfold cur at hf
    split at hf
    · cases hf
    · obtain rfl := List.mem_singleton.1 hf
      exact ⟨g, by omega, by omega, rfl⟩
theorem tag_cur (h : ∀ p ∈ ps, p.length ≤ 4096) (h1 : 1 ≤ g) (h2 : g ≤ 999999) : tag (cur g ps s) = ps.map fun p => (g, p) := by
  by_cases hp : ps = []
  · subst hp; rfl
  · rw [cur_ne hp]
    simp [tag, scan_all h, num_seg h1 h2]
theorem Lg.tag (h : Lg k t ar g dead st old ps s) (hk : k ≤ 900) : tag st.files = Wl.tag old ++ ps.map fun p => (g, p) := by
  have := h.hi
  rw [h.files, tag_append, tag_cur h.pay h.lo (by omega)]
theorem Lg.find (h : Lg k t ar g dead st old ps s) (hk : k ≤ 900) : (ps = [] ∧ Dr.find st.files (seg g) = none) ∨ (ps ≠ [] ∧ Dr.find st.files (seg g) = some ⟨seg g, cat ps, (cat (ps.take s)).length⟩) := by
  have hl := h.lt hk
  by_cases hp : ps = []
  · refine .inl ⟨hp, ?_⟩
    have e := h.files
    rw [hp, cur_nil, List.append_nil] at e
    rw [e]
    cases hf : Dr.find old (seg g) with
    | none => rfl
    | some f =>
      obtain ⟨h1, h2⟩ := find_some hf
      exact absurd h2 (ne_of_lt (hl f h1))
  · refine .inr ⟨hp, ?_⟩
    exact find_of_mem h.ok.rising (f := ⟨seg g, cat ps, (cat (ps.take s)).length⟩) (by rw [h.files, cur_ne hp]; simp)
theorem put_swap {l : List Fl} {f c : Fl} (h : ∀ g ∈ l, g.name < f.name) (hc : c.name = f.name) : put f (l ++ [c]) = l ++ [f] := by
  have e1 : (l.filter fun g => decide (g.name < f.name)) = l := by rw [List.filter_eq_self]; intro g hg; simpa using h g hg
  have e2 : (l.filter fun g => decide (f.name < g.name)) = [] := by rw [List.filter_eq_nil_iff]; intro g hg; simpa using lt_asymm (h g hg)
  unfold put
  rw [List.filter_append, List.filter_append, e1, e2]
  simp [hc, Dr.lt_irrefl]
theorem Lg.put (h : Lg k t ar g dead st old ps s) (hk : k ≤ 900) (b : Bs) (n : Nat) : put ⟨seg g, b, n⟩ st.files = old ++ [⟨seg g, b, n⟩] := by
  have hl := h.lt hk
  rw [h.files]
  by_cases hp : ps = []
  · rw [hp, cur_nil, List.append_nil]
    exact put_last hl
  · rw [cur_ne hp]
    exact put_swap hl rfl
theorem cat_nil_iff : (cat ps).length = 0 ↔ ps = [] := by
  constructor
  · intro h
    cases ps with
    | nil => rfl
    | cons p r =>
      rw [cat_cons, List.length_append, sealOf_length] at h
      omega
  · rintro rfl; rfl
theorem Lg.size (h : Lg k t ar g dead st old ps s) (hk : k ≤ 900) : st.sizeOf (seg g) = (cat ps).length := by
  unfold St.sizeOf
  rcases h.find hk with ⟨hp, hf⟩ | ⟨_, hf⟩
  · rw [hf, hp]; rfl
  · rw [hf]
theorem step_steps (st : St) : st.step.steps = st.steps + 1 := rfl
theorem step_armed (st : St) : st.step.armed = st.armed := rfl
theorem dead_armed {st : St} (h : st.dead = true) : st.armed = true := by
  unfold St.dead at h
  simp only [Bool.and_eq_true] at h
  exact h.1
/-- A payload is put into the log's own segment. -/
theorem Lg.append (h : Lg k t ar g false st old ps s) (hk : k ≤ 200) {p : Bs} (hp : p.length ≤ 4096) (hr : ps = [] ∨ (cat ps).length + (sealOf p).length ≤ 1024) :
    ((st.append (seg g) (sealOf p)).2 = 0 ∧ Lg k (t + 1) ar g false (st.append (seg g) (sealOf p)).1 old (ps ++ [p]) s) ∨ (st.append (seg g) (sealOf p) = (st, 6) ∧ ar = true) := by
  have hg := h.hi
  have hlo := h.lo
  have hbg := h.big
  have hsz := h.size (by omega)
  have hse := sealOf_size hp
  have hnk := nameOk_seg hlo (by omega)
  have hfw : st.files.length ≤ 201 := by
    rw [h.files, List.length_append]
    have : (cur g ps s).length ≤ 1 := by unfold cur; split <;> simp
    have := h.few
    omega
  have hok := h.ok.append (seg g) (sealOf p)
  have e1 : ¬ ((Dr.find st.files (seg g) = none ∧ 256 ≤ st.files.length) ∨ 262144 < st.sizeOf (seg g) + (sealOf p).length) := by
    rintro (⟨_, h1⟩ | h1)
    · omega
    · rw [hsz] at h1; omega
  by_cases hd : st.dead = true
  · refine .inr ⟨?_, ?_⟩
    · unfold St.append
      rw [if_neg (by rw [hnk]; decide), if_neg e1, if_pos hd]
    · rw [← h.arm]; exact dead_armed hd
  · refine .inl ?_
    have e2 : st.append (seg g) (sealOf p) = ({ st.step with files := old ++ cur g (ps ++ [p]) s }, 0) := by
      unfold St.append
      rw [if_neg (by rw [hnk]; decide), if_neg e1, if_neg hd]
      have e3 := h.put (by omega) (cat (ps ++ [p])) (cat ((ps ++ [p]).take s)).length
      have hs := h.syn
      rw [cur_ne (by simp)]
      rcases h.find (by omega) with ⟨hq, hf⟩ | ⟨_, hf⟩
      · rw [hf]
        subst hq
        have hs0 : s = 0 := by simpa using hs
        subst hs0
        rw [← e3]
        simp [cat]
      · rw [hf, ← e3]
        rw [cat_snoc, List.take_append_of_le_length hs]
    rw [e2] at hok ⊢
    refine ⟨rfl, hok, rfl, h.elder, hlo, hg, h.few, ?_, by rw [List.length_append]; have := h.syn; omega, ?_, by show st.step.steps ≤ _; rw [step_steps]; have := h.steps; omega, h.arm, fun h => by cases h⟩
    · intro q hq
      rcases List.mem_append.1 hq with hq | hq
      · exact h.pay q hq
      · obtain rfl := List.mem_singleton.1 hq; exact hp
    · rw [cat_snoc, List.length_append]
      rcases hr with rfl | hr
      · simpa [cat] using hse
      · omega
theorem take_all (ps : List Bs) : ps.take ps.length = ps := List.take_length
theorem Lg.sync (h : Lg k t ar g false st old ps s) (hk : k ≤ 200) :
    ((lsync g false st).2.2 = 0 ∧ (lsync g false st).1 = false ∧ Lg k (t + 1) ar g false (lsync g false st).2.1 old ps ps.length) ∨ (lsync g false st = (true, st, 6) ∧ ar = true) := by
  have hg := h.hi
  have hlo := h.lo
  have hnk := nameOk_seg hlo (by omega)
  unfold lsync
  simp only [Bool.false_eq_true, if_false]
  by_cases hz : st.looseOf (seg g) = 0
  · rw [if_pos hz]
    refine .inl ⟨rfl, rfl, h.ok, ?_, h.elder, hlo, hg, h.few, h.pay, Nat.le_refl _, h.big, by have := h.steps; simp only; omega, h.arm, fun h => by cases h⟩
    simp only
    rw [h.files]
    by_cases hp : ps = []
    · rw [hp]; rfl
    · rw [cur_ne hp, cur_ne hp, take_all]
      unfold St.looseOf at hz
      rcases h.find (by omega) with ⟨hq, _⟩ | ⟨_, hf⟩
      · exact absurd hq hp
      · rw [hf] at hz
        simp only at hz
        have := cat_take_le ps s
        rw [show (cat (ps.take s)).length = (cat ps).length by omega]
  · rw [if_neg hz]
    rcases h.find (by omega) with ⟨hq, hf⟩ | ⟨hp, hf⟩
    · unfold St.looseOf at hz; rw [hf] at hz; simp at hz
    by_cases hd : st.dead = true
    · have e : st.sync (seg g) = (st, 6) := by
        have hl : st.look (seg g) = 6 := by unfold St.look; rw [if_neg (by rw [hnk]; decide), hf, if_neg (by simp), if_pos hd]
        unfold St.sync
        rw [hl, if_pos (by decide)]
      rw [e]
      exact .inr ⟨rfl, by rw [← h.arm]; exact dead_armed hd⟩
    · have e : st.sync (seg g) = ({ st.step with files := old ++ cur g ps ps.length }, 0) := by
        have hl : st.look (seg g) = 0 := by unfold St.look; rw [if_neg (by rw [hnk]; decide), hf, if_neg (by simp), if_neg hd]
        unfold St.sync
        rw [hl, if_neg (by decide), hf]
        simp only
        rw [h.put (by omega), cur_ne hp, take_all]
      have hok := h.ok.sync (seg g)
      rw [e] at hok ⊢
      exact .inl ⟨rfl, rfl, hok, rfl, h.elder, hlo, hg, h.few, h.pay, Nat.le_refl _, h.big, by show st.step.steps ≤ _; rw [step_steps]; have := h.steps; omega, h.arm, fun h => by cases h⟩
/-- The next segment. -/
theorem Lg.next (h : Lg k t ar g false st old ps ps.length) : Lg (k + 1) t ar (g + 1) false st (old ++ cur g ps ps.length) [] 0 := by
  refine ⟨h.ok, by rw [h.files, cur_nil, List.append_nil], ?_, by have := h.lo; omega, by have := h.hi; omega, ?_, fun p hp => absurd hp (by simp), Nat.le_refl _, by simp [cat], h.steps, h.arm, fun h => by cases h⟩
  · intro f hf
    rcases List.mem_append.1 hf with hf | hf
    · obtain ⟨h1, n, h2, h3, h4⟩ := h.elder f hf
      exact ⟨h1, n, h2, by omega, h4⟩
    · unfold cur at hf
      split at hf
      · cases hf
      · obtain rfl := List.mem_singleton.1 hf
        exact ⟨by simp only; rw [take_all], g, h.lo, by omega, rfl⟩
  · rw [List.length_append]
    have : (cur g ps ps.length).length ≤ 1 := by unfold cur; split <;> simp
    have := h.few
    omega
theorem Lg.mono (h : Lg k t ar g dead st old ps s) {k' t' : Nat} (hk : k ≤ k') (ht : t ≤ t') : Lg k' t' ar g dead st old ps s :=
  ⟨h.ok, h.files, h.elder, h.lo, by have := h.hi; omega, by have := h.few; omega, h.pay, h.syn, h.big, by have := h.steps; omega, h.arm, h.dd⟩
theorem Lg.die (h : Lg k t ar g dead st old ps s) (ha : ar = true) : Lg k t ar g true st old ps s :=
  ⟨h.ok, h.files, h.elder, h.lo, h.hi, h.few, h.pay, h.syn, h.big, h.steps, h.arm, fun _ => ha⟩
/-- A payload more: it is behind all that there were, or the drive is dead. -/
def AppPost (k t : Nat) (ar dead : Bool) (st : St) (z : Nat) (p : Bs) (r : (Int × Bool × St) × Nat) : Prop :=
  (dead = false ∧ r.2 = 0 ∧ r.1.2.1 = false ∧ Lx (k + 1) (t + 2) ar r.1.1 false r.1.2.2 z ∧ tag r.1.2.2.files = tag st.files ++ [(r.1.1, p)]) ∨
  (r.2 = 6 ∧ r.1.2.1 = true ∧ ar = true ∧ Lx (k + 1) (t + 2) ar r.1.1 true r.1.2.2 z ∧ tag r.1.2.2.files = tag st.files)
theorem lput_post (h : Lg k t ar g false st old ps s) (hk : k ≤ 200) {p : Bs} (hp : p.length ≤ 4096) (hr : ps = [] ∨ (cat ps).length + (sealOf p).length ≤ 1024) (hz : z ≤ (tag old).length + s) {r : (Int × Bool × St) × Nat} (he : lput g false st p = r) :
    (r.2 = 0 ∧ r.1.2.1 = false ∧ Lx k (t + 1) ar r.1.1 false r.1.2.2 z ∧ tag r.1.2.2.files = tag st.files ++ [(r.1.1, p)]) ∨ (r.2 = 6 ∧ r.1.2.1 = true ∧ ar = true ∧ Lx k (t + 1) ar r.1.1 true r.1.2.2 z ∧ tag r.1.2.2.files = tag st.files) := by
  have hg := h.hi
  subst he
  unfold lput
  rw [if_neg (by omega)]
  rcases h.append hk hp hr with ⟨h1, h2⟩ | ⟨h1, h2⟩
  · rw [h1]
    refine .inl ⟨rfl, rfl, ⟨old, ps ++ [p], s, h2, hz⟩, ?_⟩
    simp only
    rw [h2.tag (by omega), h.tag (by omega)]
    simp
  · rw [h1]
    exact .inr ⟨rfl, rfl, h2, ⟨old, ps, s, (h.die h2).mono (Nat.le_refl _) (by omega), hz⟩, rfl⟩
theorem Lx.mono (h : Lx k t ar g dead st z) {k' t' z' : Nat} (hk : k ≤ k') (ht : t ≤ t') (hz : z' ≤ z) : Lx k' t' ar g dead st z' := by
  obtain ⟨old, ps, s, h1, h2⟩ := h
  exact ⟨old, ps, s, h1.mono hk ht, by omega⟩
theorem Lx.app (h : Lx k t ar g dead st z) (hk : k ≤ 199) {p : Bs} (hp : p.length ≤ 4096) : AppPost k t ar dead st z p (lapp g dead st p) := by
  obtain ⟨old, ps, s, h, hz⟩ := h
  unfold lapp
  rw [if_neg (by omega)]
  cases dead with
  | true =>
    rw [if_pos rfl]
    exact .inr ⟨rfl, rfl, h.dd rfl, ⟨old, ps, s, h.mono (by omega) (by omega), hz⟩, rfl⟩
  | false =>
    rw [if_neg (by decide)]
    have hg := h.hi
    have hsz := h.size (by omega)
    rw [hsz]
    by_cases hc : 0 < (cat ps).length ∧ 1024 < (cat ps).length + (sealOf p).length
    · rw [if_pos hc]
      unfold lroll
      rcases h.sync (by omega) with ⟨h1, h2, h3⟩ | ⟨h1, h2⟩
      · simp only [h1, if_true]
        have hm : min (g + 1) 1000000 = g + 1 := by omega
        rw [hm, h2]
        have h4 := h3.next
        have hz2 : z ≤ (tag (old ++ cur g ps ps.length)).length + 0 := by
          rw [tag_append, tag_cur h.pay h.lo (by omega), List.length_append, List.length_map]
          have := h.syn
          omega
        have e9 : tag (lsync g false st).2.1.files = tag st.files := by rw [h3.tag (by omega), h.tag (by omega)]
        rcases lput_post h4 (by omega) hp (.inl rfl) hz2 rfl with ⟨q1, q2, q3, q4⟩ | ⟨q1, q2, q3, q4, q5⟩
        · exact .inl ⟨rfl, q1, q2, q3.mono (by omega) (by omega) (Nat.le_refl _), by rw [q4, e9]⟩
        · exact .inr ⟨q1, q2, q3, q4.mono (by omega) (by omega) (Nat.le_refl _), by rw [q5, e9]⟩
      · rw [h1]
        simp only [show ¬ (6 : Nat) = 0 by decide, if_false]
        exact .inr ⟨rfl, rfl, h2, ⟨old, ps, s, (h.die h2).mono (by omega) (by omega), hz⟩, rfl⟩
    · rw [if_neg hc]
      have hr : ps = [] ∨ (cat ps).length + (sealOf p).length ≤ 1024 := by
        rcases Nat.eq_zero_or_pos (cat ps).length with h0 | h0
        · exact .inl (cat_nil_iff.1 h0)
        · exact .inr (by omega)
      rcases lput_post h (by omega) hp hr hz rfl with ⟨q1, q2, q3, q4⟩ | ⟨q1, q2, q3, q4, q5⟩
      · exact .inl ⟨rfl, q1, q2, q3.mono (by omega) (by omega) (Nat.le_refl _), q4⟩
      · exact .inr ⟨q1, q2, q3, q4.mono (by omega) (by omega) (Nat.le_refl _), q5⟩
/-- A Sync: all is safe, or the drive is dead. -/
theorem Lx.sync (h : Lx k t ar g dead st z) (hk : k ≤ 200) :
    (dead = false ∧ (lsync g dead st).2.2 = 0 ∧ (lsync g dead st).1 = false ∧ Lx k (t + 1) ar g false (lsync g dead st).2.1 (tag st.files).length ∧ tag (lsync g dead st).2.1.files = tag st.files) ∨
    (lsync g dead st = (true, st, 6) ∧ ar = true ∧ Lx k (t + 1) ar g true st z) := by
  obtain ⟨old, ps, s, h, hz⟩ := h
  cases dead with
  | true => exact .inr ⟨by unfold lsync; rw [if_pos rfl], h.dd rfl, ⟨old, ps, s, h.mono (Nat.le_refl _) (by omega), hz⟩⟩
  | false =>
    rcases h.sync hk with ⟨h1, h2, h3⟩ | ⟨h1, h2⟩
    · exact .inl ⟨rfl, h1, h2, ⟨old, ps, ps.length, h3, by rw [h.tag (by omega)]; simp⟩, by rw [h3.tag (by omega), h.tag (by omega)]⟩
    · exact .inr ⟨h1, h2, ⟨old, ps, s, (h.die h2).mono (Nat.le_refl _) (by omega), hz⟩⟩
theorem Lx.ok (h : Lx k t ar g dead st z) : st.Ok ∧ 1 ≤ g ∧ g ≤ k + 1 ∧ st.steps ≤ t := let ⟨_, _, _, h, _⟩ := h; ⟨h.ok, h.lo, h.hi, h.steps⟩
theorem Lx.pays (h : Lx k t ar g dead st z) (hk : k ≤ 900) : paysOf st.files 1 (Wl.segs st.files) = (tag st.files).map (·.2) := let ⟨_, _, _, h, _⟩ := h; pays_tag (h.segs hk)
end

end Wl
end Go.Proofs.YtbfmjonabndhaaaGreatDoor
namespace Go.Proofs.YtbfmjonabndhaaaGreatDoor
open Go Go.RowKit Go.Maps Go.Proofs.YtbfmjonabndhaaaGreatDoor.Fr Go.Proofs.YtbfmjonabndhaaaGreatDoor.Dr
namespace Wl

/-! ### a loss of power -/
theorem cut1_synced {f : Fl} (h : f.syn = f.dat.length) (ks : List Int) : cut1 f ks = (f, ks) := by
  unfold cut1
  rw [if_neg (by omega), ← h]
theorem cuts_synced : ∀ {l : List Fl} (_ : ∀ f ∈ l, f.syn = f.dat.length) (ks : List Int), cuts l ks = l ∧ rest l ks = ks
  | [], _, _ => ⟨rfl, rfl⟩
  | f :: r, h, ks => by
    have h1 := cut1_synced (h f (by simp)) ks
    have h2 := cuts_synced (l := r) (fun g hg => h g (by simp [hg])) ks
    unfold cuts rest
    rw [h1]
    exact ⟨by rw [h2.1], h2.2⟩
theorem cut1_some {f : Fl} (h : f.syn ≤ f.dat.length) (ks : List Int) : ∃ n, f.syn ≤ n ∧ n ≤ f.dat.length ∧ (cut1 f ks).1 = ⟨f.name, f.dat.take n, n⟩ := by
  unfold cut1
  split
  · next h1 =>
    simp only
    by_cases h2 : hdN ks < f.dat.length - f.syn
    · rw [if_pos h2]
      exact ⟨f.syn + hdN ks, by omega, by omega, rfl⟩
    · rw [if_neg h2]
      exact ⟨f.dat.length, h, Nat.le_refl _, rfl⟩
  · exact ⟨f.dat.length, h, Nat.le_refl _, by rw [List.take_length]⟩
theorem cut_at (ps : List Bs) (n : Nat) : ∀ (m j : Nat), ps.length - j ≤ m → j ≤ ps.length → (cat (ps.take j)).length ≤ n → ∃ k, k ≤ ps.length ∧ (cat (ps.take k)).length ≤ n ∧ (k < ps.length → n < (cat (ps.take (k + 1))).length) := by
  intro m
  induction m with
  | zero => exact fun j h1 h2 h3 => ⟨j, h2, h3, fun h => by omega⟩
  | succ m ih =>
    intro j h1 h2 h3
    by_cases hj : j < ps.length ∧ (cat (ps.take (j + 1))).length ≤ n
    · exact ih (j + 1) (by omega) (by omega) hj.2
    · exact ⟨j, h2, h3, fun h => Nat.lt_of_not_le fun k => hj ⟨h, k⟩⟩
theorem cat_mono (ps : List Bs) {a b : Nat} (h : a ≤ b) : (cat (ps.take a)).length ≤ (cat (ps.take b)).length := by
  have e : ps.take a = (ps.take b).take a := by rw [List.take_take, Nat.min_eq_left h]
  rw [e]
  exact cat_take_le _ _
section
variable {k t : Nat} {ar : Bool} {g : Int} {dead : Bool} {st : St} {old : List Fl} {ps : List Bs} {s z : Nat}
theorem segs_all {fs : List Fl} (h : Segs fs) : ∀ l : List Fl, (∀ f ∈ l, f ∈ fs) → Wl.segs l = l.map fun f => num f.name := by
  intro l hl
  unfold Wl.segs
  rw [List.filter_eq_self]
  intro n hn
  obtain ⟨f, hf, rfl⟩ := List.mem_map.1 hn
  obtain ⟨m, h1, h2, h3⟩ := h.2 f (hl f hf)
  rw [h3, num_seg h1 h2]
  exact decide_eq_true (by omega)
theorem Lg.crash (h : Lg k t ar g dead st old ps s) (hk : k ≤ 900) (ks : List Int) : ∃ m, s ≤ m ∧ m ≤ ps.length ∧ Wl.tag (st.crash ks).files = Wl.tag old ++ (ps.take m).map (fun p => (g, p)) ∧
    (∀ f ∈ (st.crash ks).files, f.syn = f.dat.length ∧ ∃ n : Int, 1 ≤ n ∧ n ≤ g ∧ f.name = seg n) ∧ (st.crash ks).files.length ≤ k + 1 := by
  have hg := h.hi
  have hfw := h.few
  have hlo := h.lo
  have hs := cuts_synced (fun f hf => (h.elder f hf).1) ks
  have hold : ∀ f ∈ old, f.syn = f.dat.length ∧ ∃ n : Int, 1 ≤ n ∧ n ≤ g ∧ f.name = seg n := fun f hf => by
    obtain ⟨h1, n, h2, h3, h4⟩ := h.elder f hf
    exact ⟨h1, n, h2, by omega, h4⟩
  show ∃ m, s ≤ m ∧ m ≤ ps.length ∧ Wl.tag (cuts st.files ks) = _ ∧ (∀ f ∈ cuts st.files ks, _) ∧ (cuts st.files ks).length ≤ _
  rw [h.files]
  by_cases hp : ps = []
  · have h1 := h.syn
    subst hp
    rw [cur_nil, List.append_nil, hs.1]
    exact ⟨s, Nat.le_refl _, h1, by simp, hold, by omega⟩
  · rw [cur_ne hp, cuts_snoc, hs.1, hs.2]
    obtain ⟨n, h1, h2, h3⟩ := cut1_some (f := ⟨seg g, cat ps, (cat (ps.take s)).length⟩) (cat_take_le _ _) ks
    simp only at h1 h2 h3
    rw [h3]
    obtain ⟨m, m1, m2, m3⟩ := cut_at ps n ps.length 0 (by omega) (by omega) (by simp [cat])
    have m4 : s ≤ m := by
      rcases Nat.lt_or_ge m s with q | q
      · have := m3 (by have := h.syn; omega)
        have := cat_mono ps (show m + 1 ≤ s from q)
        omega
      · exact q
    have hsc := scan_cut ps h.pay m n m1 m2 m3
    refine ⟨m, m4, m1, ?_, ?_, by rw [List.length_append, List.length_singleton]; omega⟩
    · rw [tag_append]
      simp [Wl.tag, hsc, num_seg hlo (by omega)]
    · intro f hf
      rcases List.mem_append.1 hf with hf | hf
      · exact hold f hf
      · obtain rfl := List.mem_singleton.1 hf
        exact ⟨by simp only [List.length_take]; omega, g, hlo, Int.le_refl _, rfl⟩
theorem Lx.crash (h : Lx k t ar g dead st z) (hk : k ≤ 899) (ks : List Int) : ∃ m, z ≤ m ∧ m ≤ (tag st.files).length ∧ tag (st.crash ks).files = (tag st.files).take m ∧
    Lx (k + 1) 0 false (nextOf 1 (Wl.segs (st.crash ks).files)) false (st.crash ks) m := by
  obtain ⟨old, ps, s, h, hz⟩ := h
  obtain ⟨m, h1, h2, h3, h4, h5⟩ := h.crash (by omega) ks
  have hg := h.hi
  have hok := h.ok.crash ks
  have hS : Segs (st.crash ks).files := ⟨hok.rising, fun f hf => let ⟨_, n, q1, q2, q3⟩ := h4 f hf; ⟨n, q1, by omega, q3⟩⟩
  have htag : tag (st.crash ks).files = (tag st.files).take ((tag old).length + m) := by
    rw [h3, h.tag (by omega), List.take_length_add_append, List.map_take]
  have hmem : ∀ n ∈ Wl.segs (st.crash ks).files, n ≤ g := by
    intro n hn
    rw [segs_all hS _ fun _ h => h] at hn
    obtain ⟨f, hf, rfl⟩ := List.mem_map.1 hn
    obtain ⟨_, n, q1, q2, q3⟩ := h4 f hf
    rw [q3, num_seg q1 (by omega)]
    exact q2
  refine ⟨(tag old).length + m, by omega, by rw [h.tag (by omega), List.length_append, List.length_map]; omega, htag, (st.crash ks).files, [], 0, ⟨hok, by rw [cur_nil, List.append_nil], ?_, nextOf_ge, nextOf_le (by omega) fun n hn => by have := hmem n hn; omega, h5, fun p hp => absurd hp (by simp), Nat.le_refl _, by simp [cat], Nat.le_refl _, rfl, fun h => by cases h⟩, ?_⟩
  · intro f hf
    obtain ⟨q0, n, q1, q2, q3⟩ := h4 f hf
    refine ⟨q0, n, q1, nextOf_gt n ?_, q3⟩
    rw [segs_all hS _ fun _ h => h]
    exact List.mem_map.2 ⟨f, hf, by rw [q3, num_seg q1 (by omega)]⟩
  · rw [htag, List.length_take, h.tag (by omega), List.length_append, List.length_map]
    omega
/-- A log that is opened over nothing. -/
theorem Lx.first : Lx 0 0 false 1 false St.empty 0 := ⟨[], [], 0, ⟨ok_empty, rfl, fun f hf => absurd hf (by simp), by omega, by omega, Nat.le_refl _, fun p hp => absurd hp (by simp), Nat.le_refl _, by simp [cat], Nat.le_refl _, rfl, fun h => by cases h⟩, Nat.zero_le _⟩
theorem Lx.arm (h : Lx k t false g dead st z) {n : Int} (h1 : 0 ≤ n) (h2 : n ≤ 9223372036854775807) : (st.arm n).2 = 0 ∧ Lx k t true g dead (st.arm n).1 z ∧ (st.arm n).1.files = st.files := by
  obtain ⟨old, ps, s, h, hz⟩ := h
  have hok := h.ok.arm h2
  have hd : ¬ st.dead = true := fun q => by have := dead_armed q; rw [h.arm] at this; cases this
  have e : st.arm n = ({ st with armed := true, left := n.toNat }, 0) := by
    unfold St.arm
    rw [if_neg (by omega), if_neg hd]
  rw [e] at hok ⊢
  exact ⟨rfl, ⟨old, ps, s, ⟨hok, h.files, h.elder, h.lo, h.hi, h.few, h.pay, h.syn, h.big, h.steps, rfl, fun _ => rfl⟩, hz⟩, rfl⟩

/-! ### Drop -/
theorem segs_nodup {fs : List Fl} (h : Segs fs) : (Wl.segs fs).Nodup := by
  rw [segs_all h _ fun _ h => h, List.Nodup, List.pairwise_map]
  refine List.Pairwise.imp_of_mem ?_ h.1
  intro a b ha hb hab e
  obtain ⟨n, h1, h2, h3⟩ := h.2 a ha
  obtain ⟨m, h4, h5, h6⟩ := h.2 b hb
  rw [h3, h6, num_seg h1 h2, num_seg h4 h5] at e
  subst e
  rw [h3, h6] at hab
  exact Dr.lt_irrefl _ hab
theorem look_go {st : St} {n : Int} (ha : st.armed = false) (h1 : 1 ≤ n) (h2 : n ≤ 999999) (hf : (find st.files (seg n)).isSome) : st.look (seg n) = 0 := by
  unfold St.look
  have hd : ¬ st.dead = true := fun q => by have := dead_armed q; rw [ha] at this; cases this
  rw [if_neg (by rw [nameOk_seg h1 h2]; decide), if_neg (by cases hc : find st.files (seg n) <;> simp_all), if_neg hd]
theorem drop_plain {a g : Int} : ∀ (r : List Int) (st : St), st.Ok → st.armed = false → r.Nodup → (∀ n ∈ r, 1 ≤ n ∧ n ≤ 999999 ∧ (find st.files (seg n)).isSome) →
    ∃ st', dropAll a g r st = (false, st', 0) ∧ st'.Ok ∧ st'.files = st.files.filter fun f => decide (num f.name ∈ r → a ≤ num f.name ∨ num f.name = g) := by
  intro r
  induction r with
  | nil =>
    intro st hok _ _ _
    exact ⟨st, rfl, hok, by rw [List.filter_eq_self.2 (fun f _ => decide_eq_true fun h => absurd h (by simp))]⟩
  | cons n r ih =>
    intro st hok ha hnd hm
    obtain ⟨hnr, hnd⟩ := List.nodup_cons.1 hnd
    obtain ⟨h1, h2, h3⟩ := hm n (by simp)
    by_cases hs : a ≤ n ∨ n = g
    · obtain ⟨st', q1, q2, q3⟩ := ih st hok ha hnd fun m hm' => hm m (by simp [hm'])
      refine ⟨st', by rw [drop_skip hs, q1], q2, ?_⟩
      rw [q3]
      refine List.filter_congr fun f hf => ?_
      rw [decide_eq_decide]
      constructor
      · intro q k
        rcases List.mem_cons.1 k with k | k
        · rw [k]; exact hs
        · exact q k
      · exact fun q k => q (by simp [k])
    · have e : st.delete (seg n) = ({ st.step with files := del (seg n) st.files }, 0) := by
        unfold St.delete
        rw [look_go ha h1 h2 h3, if_neg (by decide)]
      have hok2 := hok.delete (seg n)
      rw [e] at hok2
      obtain ⟨st', q1, q2, q3⟩ := ih _ hok2 ha hnd fun m hm' => by
        obtain ⟨a1, a2, a3⟩ := hm m (by simp [hm'])
        refine ⟨a1, a2, ?_⟩
        obtain ⟨f, hf⟩ := Option.isSome_iff_exists.1 a3
        obtain ⟨b1, b2⟩ := find_some hf
        have hmn : m ≠ n := fun e => hnr (e ▸ hm')
        have hne : f.name ≠ seg n := fun e => hmn (seg_inj a1 a2 h1 h2 (b2.symm.trans e))
        have := find_of_mem (hok.rising.del (seg n)) (f := f) (by unfold del; rw [List.mem_filter]; exact ⟨b1, by simpa using hne⟩)
        rw [b2] at this
        rw [this]; rfl
      refine ⟨st', ?_, q2, ?_⟩
      · rw [drop_go hs (by rw [e]), e]; exact q1
      · rw [q3]
        simp only
        unfold del
        rw [List.filter_filter]
        refine List.filter_congr fun f hf => ?_
        rw [Bool.eq_iff_iff, Bool.and_eq_true, decide_eq_true_eq, decide_eq_true_eq, decide_eq_true_eq]
        constructor
        · rintro ⟨k1, k2⟩ k
          rcases List.mem_cons.1 k with k | k
          · refine absurd ?_ k2
            rcases num_cases f.name with ⟨c, _⟩ | ⟨_, _, c⟩
            · omega
            · rw [← c, k]
          · exact k1 k
        · intro k
          refine ⟨fun q => k (by simp [q]), fun q => hs ?_⟩
          have hq : num f.name = n := by rw [q]; exact num_seg h1 h2
          have := k (by simp [hq])
          rwa [hq] at this
theorem tag_filter (p : Int → Bool) (l : List Fl) : tag (l.filter fun f => p (num f.name)) = (tag l).filter fun x => p x.1 := by
  induction l with
  | nil => rfl
  | cons f r ih =>
    have e : tag (f :: r) = ((scan f.dat).1.map fun q => (num f.name, q)) ++ tag r := by simp [tag]
    rw [e, List.filter_append, ← ih, List.filter_cons]
    by_cases h : p (num f.name) = true
    · rw [if_pos h]
      have e2 : ((scan f.dat).1.map fun q => (num f.name, q)).filter (fun x => p x.1) = (scan f.dat).1.map fun q => (num f.name, q) := by
        rw [List.filter_eq_self]
        intro x hx
        obtain ⟨q, _, rfl⟩ := List.mem_map.1 hx
        exact h
      rw [e2]
      simp [tag]
    · rw [if_neg h]
      have e2 : ((scan f.dat).1.map fun q => (num f.name, q)).filter (fun x => p x.1) = [] := by
        rw [List.filter_eq_nil_iff]
        intro x hx
        obtain ⟨q, _, rfl⟩ := List.mem_map.1 hx
        exact h
      rw [e2, List.nil_append]
theorem Lx.drop (h : Lx k t false g false st z) (hk : k ≤ 900) (a : Int) : ∃ st', dropAll a g (Wl.segs st.files) st = (false, st', 0) ∧ st'.Ok ∧
    paysOf st'.files 1 (Wl.segs st'.files) = ((tag st.files).filter fun x => decide (a ≤ x.1 ∨ x.1 = g)).map (·.2) := by
  obtain ⟨old, ps, s, h, _⟩ := h
  have hS := h.segs hk
  obtain ⟨st', q1, q2, q3⟩ := drop_plain (a := a) (g := g) (Wl.segs st.files) st h.ok h.arm (segs_nodup hS) fun n hn => by
    obtain ⟨h1, h2, _⟩ := segs_mem hn
    obtain ⟨f, hf⟩ := segs_find h.ok.rising hn
    exact ⟨h1, h2, by rw [hf]; rfl⟩
  have e : st'.files = st.files.filter fun f => decide (a ≤ num f.name ∨ num f.name = g) := by
    rw [q3]
    refine List.filter_congr fun f hf => ?_
    rw [decide_eq_decide]
    have hm : num f.name ∈ Wl.segs st.files := by rw [segs_all hS _ fun _ h => h]; exact List.mem_map.2 ⟨f, hf, rfl⟩
    exact ⟨fun q => q hm, fun q _ => q⟩
  have hS' : Segs st'.files := ⟨q2.rising, fun f hf => hS.2 f (by rw [e] at hf; exact (List.mem_filter.1 hf).1)⟩
  refine ⟨st', q1, q2, ?_⟩
  rw [pays_tag hS', e, tag_filter (fun x => decide (a ≤ x ∨ x = g))]
end

end Wl
end Go.Proofs.YtbfmjonabndhaaaGreatDoor
