/-
  WHAT IS PROVED: (1) plain facts on lists of files: a file found, put in, taken out, and what a loss of power leaves. NO CONDITION beside those that each lemma names. (2) plain facts on Load: its error, the files that it leaves, and how many of sorted names differ from the one before. NO CONDITION beside those that each lemma names.
-/
import Derived.Sort.KeysCollected
import Derived.Sort.Walk0
import Derived.Lib.SlicesCompact
namespace Go.Proofs.YtbfmjonabndhaaaGreatDoor
open Go
namespace Dr

abbrev Bs := List UInt8
theorem bb_eq : ∀ (x y : Bs), bytesBefore x y = decide (x < y)
  | [], [] => by simp [bytesBefore]
  | [], _ :: _ => by simp [bytesBefore]
  | _ :: _, [] => by simp [bytesBefore]
  | a :: r, b :: s => by
    rw [bytesBefore, bb_eq r s, Bool.eq_iff_iff]
    simp [List.cons_lt_cons_iff]
theorem lt_irrefl (a : Bs) : ¬ a < a := List.lt_irrefl a
theorem lt_trans {a b c : Bs} (h : a < b) (k : b < c) : a < c := List.lt_trans h k
theorem lt_asymm {a b : Bs} (h : a < b) : ¬ b < a := fun k => lt_irrefl a (lt_trans h k)
theorem lt_total (a b : Bs) : a < b ∨ a = b ∨ b < a := by
  rcases Decidable.em (a < b) with h | h
  · exact .inl h
  · rcases Decidable.em (b < a) with k | k
    · exact .inr (.inr k)
    · exact .inr (.inl (List.le_antisymm k h))
theorem ne_of_lt {a b : Bs} (h : a < b) : a ≠ b := fun e => lt_irrefl b (e ▸ h)

/-- A file. -/
structure Fl where
  name : Bs
  dat : Bs
  syn : Nat

/-- Rising by name. -/
def Rising (l : List Fl) : Prop := l.Pairwise fun f g => f.name < g.name
def find (l : List Fl) (n : Bs) : Option Fl := l.find? fun f => decide (f.name = n)
def put (f : Fl) (l : List Fl) : List Fl := l.filter (fun g => decide (g.name < f.name)) ++ f :: l.filter fun g => decide (f.name < g.name)
def del (n : Bs) (l : List Fl) : List Fl := l.filter fun g => decide (g.name ≠ n)

theorem Rising.filter {l : List Fl} (h : Rising l) (p : Fl → Bool) : Rising (l.filter p) := List.Pairwise.filter p h
theorem Rising.del {l : List Fl} (h : Rising l) (n : Bs) : Rising (del n l) := h.filter _
theorem Rising.put {l : List Fl} (h : Rising l) (f : Fl) : Rising (put f l) := by
  unfold Dr.put Rising
  rw [List.pairwise_append]
  refine ⟨h.filter _, List.pairwise_cons.2 ⟨fun g hg => by simpa using (List.mem_filter.1 hg).2, h.filter _⟩, fun a ha b hb => ?_⟩
  have h1 : a.name < f.name := by simpa using (List.mem_filter.1 ha).2
  rcases List.mem_cons.1 hb with rfl | hb
  · exact h1
  · exact lt_trans h1 (by simpa using (List.mem_filter.1 hb).2)
theorem find_some {l : List Fl} {n : Bs} {f : Fl} (h : find l n = some f) : f ∈ l ∧ f.name = n := ⟨List.mem_of_find?_eq_some h, by simpa using List.find?_some h⟩
theorem find_none {l : List Fl} {n : Bs} (h : find l n = none) : ∀ f ∈ l, f.name ≠ n := by simpa [find] using h
theorem find_of_mem {l : List Fl} (hr : Rising l) {f : Fl} (h : f ∈ l) : find l f.name = some f := by
  induction l with
  | nil => cases h
  | cons a r ih =>
    obtain ⟨h1, h2⟩ := List.pairwise_cons.1 hr
    unfold find
    rw [List.find?_cons]
    rcases List.mem_cons.1 h with rfl | h
    · simp
    · have := ne_of_lt (h1 f h)
      rw [decide_eq_false this]
      exact ih h2 h
/-- The place of a name. -/
def place (l : List Fl) (n : Bs) : Option Nat := l.findIdx? fun f => decide (f.name = n)
theorem length_del_le (n : Bs) (l : List Fl) : (del n l).length ≤ l.length := List.length_filter_le _ _
theorem del_of_none {l : List Fl} {n : Bs} (h : find l n = none) : del n l = l := by
  unfold del
  rw [List.filter_eq_self]
  intro f hf
  simpa using find_none h f hf
theorem put_of_none {l : List Fl} {f : Fl} (h : find l f.name = none) : (put f l).length = l.length + 1 := by
  have e : ∀ l : List Fl, (∀ g ∈ l, g.name ≠ f.name) → (l.filter fun g => decide (g.name < f.name)).length + (l.filter fun g => decide (f.name < g.name)).length = l.length := by
    intro l
    induction l with
    | nil => intro _; rfl
    | cons a r ih =>
      intro h
      have := ih fun g hg => h g (by simp [hg])
      rcases lt_total a.name f.name with h1 | h1 | h1
      · have h2 := lt_asymm h1
        simp only [List.filter_cons, h1, h2, decide_true, decide_false, if_true, if_false, List.length_cons, Bool.false_eq_true]; omega
      · exact absurd h1 (h a (by simp))
      · have h2 := lt_asymm h1
        simp only [List.filter_cons, h1, h2, decide_true, decide_false, if_true, if_false, List.length_cons, Bool.false_eq_true]; omega
  have := e l (find_none h)
  unfold put
  rw [List.length_append, List.length_cons]
  omega
theorem put_le {f : Fl} : ∀ l : List Fl, (put f l).length ≤ l.length + 1 := by
  intro l
  unfold put
  rw [List.length_append, List.length_cons]
  have : ∀ l : List Fl, (l.filter fun g => decide (g.name < f.name)).length + (l.filter fun g => decide (f.name < g.name)).length ≤ l.length := by
    intro l
    induction l with
    | nil => simp
    | cons a r ih =>
      by_cases h1 : a.name < f.name
      · have h2 := lt_asymm h1
        simp only [List.filter_cons, h1, h2, decide_true, decide_false, if_true, if_false, List.length_cons, Bool.false_eq_true]; omega
      · by_cases h2 : f.name < a.name
        · simp only [List.filter_cons, h1, h2, decide_true, decide_false, if_true, if_false, List.length_cons, Bool.false_eq_true]; omega
        · simp only [List.filter_cons, h1, h2, decide_false, if_false, List.length_cons, Bool.false_eq_true]; omega
  have := this l
  omega
theorem find_put_same {l : List Fl} {f : Fl} (hr : Rising l) : find (put f l) f.name = some f := find_of_mem (hr.put f) (by simp [put])
theorem mem_put {l : List Fl} {f g : Fl} (h : g ∈ put f l) : g = f ∨ (g ∈ l ∧ g.name ≠ f.name) := by
  unfold put at h
  rcases List.mem_append.1 h with h | h
  · obtain ⟨h1, h2⟩ := List.mem_filter.1 h
    exact .inr ⟨h1, ne_of_lt (by simpa using h2)⟩
  · rcases List.mem_cons.1 h with h | h
    · exact .inl h
    · obtain ⟨h1, h2⟩ := List.mem_filter.1 h
      exact .inr ⟨h1, (ne_of_lt (by simpa using h2)).symm⟩
theorem mem_del {l : List Fl} {n : Bs} {g : Fl} (h : g ∈ del n l) : g ∈ l ∧ g.name ≠ n := by
  obtain ⟨h1, h2⟩ := List.mem_filter.1 h
  exact ⟨h1, by simpa using h2⟩

/-- Is it a name? -/
def nbN (y : Nat) : Bool := (decide (97 ≤ y) && decide (y ≤ 122)) || (decide (48 ≤ y) && decide (y ≤ 57)) || y == 45 || y == 46
def nb (c : UInt8) : Bool := nbN c.toNat
def nameOk (n : Bs) : Bool := n.all nb && decide (1 ≤ n.length) && decide (n.length ≤ 32)

/-- A drive. -/
structure St where
  files : List Fl
  steps : Nat
  armed : Bool
  left : Nat

def St.dead (s : St) : Bool := s.armed && s.left == 0
def St.step (s : St) : St := { s with steps := s.steps + 1, left := if s.armed then s.left - 1 else s.left }
def St.sizeOf (s : St) (n : Bs) : Nat := match find s.files n with | some f => f.dat.length | none => 0
def St.append (s : St) (n b : Bs) : St × Nat :=
  if nameOk n = false then (s, 20)
  else if (find s.files n = none ∧ 256 ≤ s.files.length) ∨ 262144 < s.sizeOf n + b.length then (s, 5)
  else if s.dead then (s, 6)
  else ({ s.step with files := put (match find s.files n with | some f => { f with dat := f.dat ++ b } | none => { name := n, dat := b, syn := 0 }) s.files }, 0)
/-- What is wrong with a step on a file that must be there. -/
def St.look (s : St) (n : Bs) : Nat :=
  if nameOk n = false then 20 else if (find s.files n).isNone then 4 else if s.dead then 6 else 0
def St.sync (s : St) (n : Bs) : St × Nat :=
  if s.look n ≠ 0 then (s, s.look n)
  else match find s.files n with
    | some f => ({ s.step with files := put { f with syn := f.dat.length } s.files }, 0)
    | none => (s, 4)
def St.rename (s : St) (n t : Bs) : St × Nat :=
  if nameOk t = false then (s, 20)
  else if s.look n ≠ 0 then (s, s.look n)
  else match find s.files n with
    | some f => ({ s.step with files := put { f with name := t } (del t (del n s.files)) }, 0)
    | none => (s, 4)
def St.delete (s : St) (n : Bs) : St × Nat :=
  if s.look n ≠ 0 then (s, s.look n) else ({ s.step with files := del n s.files }, 0)
def St.arm (s : St) (k : Int) : St × Nat :=
  if k < 0 then (s, 1) else if s.dead then (s, 6) else ({ s with armed := true, left := k.toNat }, 0)
/-- The first number, if it is one of bytes. -/
def hdN : List Int → Nat
  | [] => 0
  | k :: _ => k.toNat
theorem hdN_nil : hdN [] = 0 := rfl
theorem hdN_cons (k : Int) (r : List Int) : hdN (k :: r) = k.toNat := rfl
def cut1 (f : Fl) (ks : List Int) : Fl × List Int :=
  if f.syn < f.dat.length then
    let k := hdN ks
    let n := if k < f.dat.length - f.syn then f.syn + k else f.dat.length
    ({ name := f.name, dat := f.dat.take n, syn := n }, ks.tail)
  else ({ name := f.name, dat := f.dat, syn := f.dat.length }, ks)
def cuts : List Fl → List Int → List Fl
  | [], _ => []
  | f :: r, ks => (cut1 f ks).1 :: cuts r (cut1 f ks).2
def St.crash (s : St) (ks : List Int) : St := { files := cuts s.files ks, steps := 0, armed := false, left := 0 }
theorem cut1_name (f : Fl) (ks : List Int) : (cut1 f ks).1.name = f.name := by unfold cut1; split <;> rfl
theorem cuts_names : ∀ (l : List Fl) (ks : List Int), (cuts l ks).map (·.name) = l.map (·.name)
  | [], _ => rfl
  | f :: r, ks => by simp [cuts, cut1_name, cuts_names r]
theorem cuts_length (l : List Fl) (ks : List Int) : (cuts l ks).length = l.length := by simpa using congrArg List.length (cuts_names l ks)
theorem cuts_rising {l : List Fl} (h : Rising l) (ks : List Int) : Rising (cuts l ks) := by
  have e : ∀ l : List Fl, Rising l ↔ (l.map (·.name)).Pairwise (· < ·) := fun l => by rw [List.pairwise_map]; rfl
  rw [e, cuts_names, ← e]
  exact h

/-- What holds of every drive. -/
structure St.Ok (s : St) : Prop where
  rising : Rising s.files
  few : s.files.length ≤ 256
  file : ∀ f ∈ s.files, f.dat.length ≤ 262144 ∧ f.syn ≤ f.dat.length ∧ nameOk f.name = true
  left : s.left ≤ 9223372036854775807
def St.empty : St := { files := [], steps := 0, armed := false, left := 0 }
theorem ok_empty : St.empty.Ok := ⟨List.Pairwise.nil, by simp [St.empty], by simp [St.empty], by simp [St.empty]⟩
theorem length_put_some {l : List Fl} {f g : Fl} (hr : Rising l) (h : find l f.name = some g) : (put f l).length = l.length := by
  have e : ∀ l : List Fl, Rising l → g ∈ l → g.name = f.name → (l.filter fun g => decide (g.name < f.name)).length + (l.filter fun g => decide (f.name < g.name)).length + 1 = l.length := by
    intro l
    induction l with
    | nil => intro _ h; cases h
    | cons a r ih =>
      intro hr hm hn
      obtain ⟨h1, h2⟩ := List.pairwise_cons.1 hr
      rcases List.mem_cons.1 hm with rfl | hm
      · have e1 : (r.filter fun x => decide (x.name < f.name)) = [] := by
          rw [List.filter_eq_nil_iff]; intro x hx; have := lt_asymm (h1 x hx); rw [hn] at this; simpa using this
        have e2 : (r.filter fun x => decide (f.name < x.name)) = r := by
          rw [List.filter_eq_self]; intro x hx; have := h1 x hx; rw [hn] at this; simpa using this
        have e3 := lt_irrefl f.name
        simp only [List.filter_cons, hn, e3, e1, e2, decide_false, if_false, List.length_nil, List.length_cons, Bool.false_eq_true]; omega
      · have h3 := h1 g hm
        rw [hn] at h3
        have h4 := lt_asymm h3
        have := ih h2 hm hn
        simp only [List.filter_cons, h3, h4, decide_true, decide_false, if_true, if_false, List.length_cons, Bool.false_eq_true]; omega
  obtain ⟨h1, h2⟩ := find_some h
  have := e l hr h1 h2
  unfold put
  rw [List.length_append, List.length_cons]
  omega
theorem look_zero {s : St} {n : Bs} (h : s.look n = 0) : nameOk n = true ∧ (∃ f, find s.files n = some f) ∧ s.dead = false := by
  unfold St.look at h
  split at h
  · cases h
  · rename_i h1
    split at h
    · cases h
    · rename_i h2
      split at h
      · cases h
      · rename_i h3
        refine ⟨by simpa using h1, ?_, by simpa using h3⟩
        cases e : find s.files n with
        | none => rw [e] at h2; simp at h2
        | some f => exact ⟨f, rfl⟩
theorem St.Ok.step {s : St} (h : s.Ok) : s.step.Ok := ⟨h.rising, h.few, h.file, by
  have := h.left
  unfold St.step
  dsimp only
  split <;> omega⟩
theorem St.Ok.append {s : St} (h : s.Ok) (n b : Bs) : (s.append n b).1.Ok := by
  unfold St.append
  split
  · exact h
  rename_i hn
  split
  · exact h
  rename_i hf
  split
  · exact h
  have hs := h.step
  refine ⟨h.rising.put _, ?_, fun f hm => ?_, hs.left⟩
  · cases e : find s.files n with
    | none =>
      have := put_of_none (f := { name := n, dat := b, syn := 0 }) e
      have : ¬ 256 ≤ s.files.length := fun k => hf (.inl ⟨e, k⟩)
      dsimp only
      omega
    | some g =>
      have hg := find_some e
      have := length_put_some (f := { g with dat := g.dat ++ b }) (g := g) h.rising (by rw [← hg.2] at e; exact e)
      have := h.few
      dsimp only at *
      omega
  · rcases mem_put hm with rfl | hm
    · have hsz : ¬ 262144 < s.sizeOf n + b.length := fun k => hf (.inr k)
      unfold St.sizeOf at hsz
      cases e : find s.files n with
      | none =>
        rw [e] at hsz
        dsimp only at hsz ⊢
        exact ⟨by omega, by omega, by simpa using hn⟩
      | some g =>
        rw [e] at hsz
        obtain ⟨h1, h2⟩ := find_some e
        have := h.file g h1
        dsimp only at hsz ⊢
        rw [List.length_append]
        exact ⟨by omega, by omega, this.2.2⟩
    · exact h.file f hm.1
theorem St.Ok.sync {s : St} (h : s.Ok) (n : Bs) : (s.sync n).1.Ok := by
  unfold St.sync
  split
  · exact h
  cases e : find s.files n with
  | none => exact h
  | some g =>
    have hs := h.step
    have hg := find_some e
    refine ⟨h.rising.put _, ?_, fun f hm => ?_, hs.left⟩
    · have := length_put_some (f := { g with syn := g.dat.length }) (g := g) h.rising (by rw [← hg.2] at e; exact e)
      have := h.few
      dsimp only at *
      omega
    · rcases mem_put hm with rfl | hm
      · have := h.file g hg.1
        exact ⟨this.1, Nat.le_refl _, this.2.2⟩
      · exact h.file f hm.1
theorem mem_del_length {l : List Fl} {n : Bs} {f : Fl} (h : f ∈ l) (hn : f.name = n) : (del n l).length + 1 ≤ l.length := by
  induction l with
  | nil => cases h
  | cons a r ih =>
    unfold del at *
    rcases List.mem_cons.1 h with rfl | h
    · have := List.length_filter_le (fun g : Fl => decide (g.name ≠ n)) r
      simp only [List.filter_cons, hn, List.length_cons, ne_eq, not_true_eq_false, decide_false, Bool.false_eq_true, if_false]
      exact Nat.succ_le_succ this
    · have := ih h
      rw [List.filter_cons]
      split <;> simp only [List.length_cons] <;> omega
theorem St.Ok.rename {s : St} (h : s.Ok) (n t : Bs) : (s.rename n t).1.Ok := by
  unfold St.rename
  split
  · exact h
  rename_i ht
  split
  · exact h
  cases e : find s.files n with
  | none => exact h
  | some g =>
    have hs := h.step
    have hg := find_some e
    refine ⟨((h.rising.del _).del _).put _, ?_, fun f hm => ?_, hs.left⟩
    · have h1 := mem_del_length hg.1 hg.2
      have h2 := length_del_le t (del n s.files)
      have h3 := put_le (f := { g with name := t }) (del t (del n s.files))
      have := h.few
      dsimp only
      omega
    · rcases mem_put hm with rfl | hm
      · have := h.file g hg.1
        exact ⟨this.1, this.2.1, by simpa using ht⟩
      · exact h.file f (mem_del (mem_del hm.1).1).1
theorem St.Ok.delete {s : St} (h : s.Ok) (n : Bs) : (s.delete n).1.Ok := by
  unfold St.delete
  split
  · exact h
  have hs := h.step
  refine ⟨h.rising.del _, Nat.le_trans (length_del_le _ _) h.few, fun f hm => h.file f (mem_del hm).1, hs.left⟩
theorem St.Ok.arm {s : St} (h : s.Ok) {k : Int} (hk : k ≤ 9223372036854775807) : (s.arm k).1.Ok := by
  unfold St.arm
  split
  · exact h
  split
  · exact h
  exact ⟨h.rising, h.few, h.file, by dsimp only; omega⟩
theorem cut1_ok {f : Fl} (h : f.dat.length ≤ 262144 ∧ f.syn ≤ f.dat.length ∧ nameOk f.name = true) (ks : List Int) : (cut1 f ks).1.dat.length ≤ 262144 ∧ (cut1 f ks).1.syn = (cut1 f ks).1.dat.length ∧ nameOk (cut1 f ks).1.name = true := by
  refine ⟨?_, ?_, by rw [cut1_name]; exact h.2.2⟩
  · unfold cut1
    split
    · simp only [List.length_take]; omega
    · exact h.1
  · unfold cut1
    split
    · simp only [List.length_take]; split <;> omega
    · rfl
theorem cuts_ok : ∀ {l : List Fl} (_ : ∀ f ∈ l, f.dat.length ≤ 262144 ∧ f.syn ≤ f.dat.length ∧ nameOk f.name = true) (ks : List Int), ∀ g ∈ cuts l ks, g.dat.length ≤ 262144 ∧ g.syn = g.dat.length ∧ nameOk g.name = true
  | [], _, _ => by simp [cuts]
  | f :: r, h, ks => by
    intro g hg
    unfold cuts at hg
    rcases List.mem_cons.1 hg with rfl | hg
    · exact cut1_ok (h f (by simp)) ks
    · exact cuts_ok (fun f hf => h f (by simp [hf])) _ g hg
theorem St.Ok.crash {s : St} (h : s.Ok) (ks : List Int) : (s.crash ks).Ok :=
  ⟨cuts_rising h.rising ks, by show (cuts s.files ks).length ≤ 256; rw [cuts_length]; exact h.few, fun f hf => by
    obtain ⟨h1, h2, h3⟩ := cuts_ok h.file ks f hf
    exact ⟨h1, by omega, h3⟩, by simp [St.crash]⟩
/-! ### Rising lists under a key -/
section
variable {α β : Type}
def putBy (k : α → Bs) (x : α) (l : List α) : List α := l.filter (fun g => decide (k g < k x)) ++ x :: l.filter fun g => decide (k x < k g)
def delBy (k : α → Bs) (n : Bs) (l : List α) : List α := l.filter fun g => decide (k g ≠ n)
def findBy (k : α → Bs) (n : Bs) (l : List α) : Option α := l.find? fun f => decide (k f = n)
def RisingBy (k : α → Bs) (l : List α) : Prop := l.Pairwise fun f g => k f < k g
theorem put_by (f : Fl) (l : List Fl) : put f l = putBy (·.name) f l := rfl
theorem del_by (n : Bs) (l : List Fl) : del n l = delBy (·.name) n l := rfl
theorem find_by (n : Bs) (l : List Fl) : find l n = findBy (·.name) n l := rfl
variable {k : α → Bs} {k' : β → Bs} {g : α → β}
theorem putBy_map (h : ∀ a, k' (g a) = k a) (x : α) (l : List α) : (putBy k x l).map g = putBy k' (g x) (l.map g) := by
  unfold putBy
  rw [List.map_append, List.map_cons, List.filter_map, List.filter_map]
  simp only [Function.comp_def, h]
theorem delBy_map (h : ∀ a, k' (g a) = k a) (n : Bs) (l : List α) : (delBy k n l).map g = delBy k' n (l.map g) := by
  unfold delBy
  rw [List.filter_map]
  simp only [Function.comp_def, h]
theorem findBy_map (h : ∀ a, k' (g a) = k a) (n : Bs) (l : List α) : (findBy k n l).map g = findBy k' n (l.map g) := by
  unfold findBy
  rw [List.find?_map]
  simp only [Function.comp_def, h]
theorem risingBy_map (h : ∀ a, k' (g a) = k a) (l : List α) : RisingBy k' (l.map g) ↔ RisingBy k l := by
  unfold RisingBy
  rw [List.pairwise_map]
  simp only [h]
theorem RisingBy.filter {l : List α} (h : RisingBy k l) (p : α → Bool) : RisingBy k (l.filter p) := List.Pairwise.filter p h
theorem RisingBy.del {l : List α} (h : RisingBy k l) (n : Bs) : RisingBy k (delBy k n l) := h.filter _
theorem RisingBy.put {l : List α} (h : RisingBy k l) (f : α) : RisingBy k (putBy k f l) := by
  unfold putBy RisingBy
  rw [List.pairwise_append]
  refine ⟨h.filter _, List.pairwise_cons.2 ⟨fun g hg => by simpa using (List.mem_filter.1 hg).2, h.filter _⟩, fun a ha b hb => ?_⟩
  have h1 : k a < k f := by simpa using (List.mem_filter.1 ha).2
  rcases List.mem_cons.1 hb with rfl | hb
  · exact h1
  · exact lt_trans h1 (by simpa using (List.mem_filter.1 hb).2)
theorem mem_putBy {l : List α} {f g : α} : g ∈ putBy k f l ↔ g = f ∨ (g ∈ l ∧ k g ≠ k f) := by
  unfold putBy
  simp only [List.mem_append, List.mem_cons, List.mem_filter, decide_eq_true_eq]
  constructor
  · rintro (⟨h1, h2⟩ | h | ⟨h1, h2⟩)
    · exact .inr ⟨h1, ne_of_lt h2⟩
    · exact .inl h
    · exact .inr ⟨h1, (ne_of_lt h2).symm⟩
  · rintro (h | ⟨h1, h2⟩)
    · exact .inr (.inl h)
    · rcases lt_total (k g) (k f) with h | h | h
      · exact .inl ⟨h1, h⟩
      · exact absurd h h2
      · exact .inr (.inr ⟨h1, h⟩)
theorem mem_delBy {l : List α} {n : Bs} {g : α} : g ∈ delBy k n l ↔ g ∈ l ∧ k g ≠ n := by
  unfold delBy
  simp
theorem findBy_some {l : List α} {n : Bs} {f : α} (h : findBy k n l = some f) : f ∈ l ∧ k f = n := ⟨List.mem_of_find?_eq_some h, by simpa using List.find?_some h⟩
theorem findBy_none {l : List α} {n : Bs} (h : findBy k n l = none) : ∀ f ∈ l, k f ≠ n := by simpa [findBy] using h
theorem findBy_mem {l : List α} (hr : RisingBy k l) {f : α} (h : f ∈ l) : findBy k (k f) l = some f := by
  induction l with
  | nil => cases h
  | cons a r ih =>
    obtain ⟨h1, h2⟩ := List.pairwise_cons.1 hr
    unfold findBy
    rw [List.find?_cons]
    rcases List.mem_cons.1 h with rfl | h
    · simp
    · have := ne_of_lt (h1 f h)
      rw [decide_eq_false this]
      exact ih h2 h
theorem findBy_none_of {l : List α} {n : Bs} (h : ∀ f ∈ l, k f ≠ n) : findBy k n l = none := by simpa [findBy] using h
theorem delBy_none {l : List α} {n : Bs} (h : findBy k n l = none) : delBy k n l = l := by
  unfold delBy
  rw [List.filter_eq_self]
  intro f hf
  simpa using findBy_none h f hf
/-- Putting in what is there changes nothing. -/
theorem putBy_mem : ∀ {l : List α} (_ : RisingBy k l) {x : α} (_ : x ∈ l), putBy k x l = l
  | [], _, _, h => by cases h
  | a :: r, hr, x, h => by
    obtain ⟨h1, h2⟩ := List.pairwise_cons.1 hr
    rcases List.mem_cons.1 h with rfl | h
    · have e1 : (r.filter fun g => decide (k g < k x)) = [] := by
        rw [List.filter_eq_nil_iff]; intro y hy; simpa using lt_asymm (h1 y hy)
      have e2 : (r.filter fun g => decide (k x < k g)) = r := by
        rw [List.filter_eq_self]; intro y hy; simpa using h1 y hy
      have e3 := lt_irrefl (k x)
      unfold putBy
      simp only [List.filter_cons, e3, e1, e2, decide_false, if_false, Bool.false_eq_true, List.nil_append]
    · have h3 := h1 x h
      have h4 := lt_asymm h3
      have ih := putBy_mem h2 h
      unfold putBy at ih ⊢
      simp only [List.filter_cons, h3, h4, decide_true, decide_false, if_true, if_false, Bool.false_eq_true, List.cons_append, ih]
theorem putBy_del (x : α) (l : List α) : putBy k x (delBy k (k x) l) = putBy k x l := by
  unfold putBy delBy
  rw [List.filter_filter, List.filter_filter]
  congr 2
  · funext y
    by_cases h : k y < k x
    · simp [h, ne_of_lt h]
    · simp [h]
  · congr 1
    funext y
    by_cases h : k x < k y
    · simp [h, (ne_of_lt h).symm]
    · simp [h]
theorem putBy_put {x y : α} (h : k x = k y) (l : List α) : putBy k x (putBy k y l) = putBy k x l := by
  have hy : ¬ k y < k x := by rw [h]; exact lt_irrefl _
  have hy' : ¬ k x < k y := by rw [h]; exact lt_irrefl _
  unfold putBy
  rw [List.filter_append, List.filter_append, List.filter_cons, List.filter_cons, decide_eq_false hy, decide_eq_false hy']
  simp only [Bool.false_eq_true, if_false, List.filter_filter, h]
  have e1 : (l.filter fun a => decide (k a < k y) && decide (k a < k y)) = l.filter fun a => decide (k a < k y) := by congr 1; funext a; simp
  have e2 : (l.filter fun a => decide (k a < k y) && decide (k y < k a)) = [] := by
    rw [List.filter_eq_nil_iff]; intro a _ hc; simp only [Bool.and_eq_true, decide_eq_true_eq] at hc; exact lt_asymm hc.1 hc.2
  have e3 : (l.filter fun a => decide (k y < k a) && decide (k a < k y)) = [] := by
    rw [List.filter_eq_nil_iff]; intro a _ hc; simp only [Bool.and_eq_true, decide_eq_true_eq] at hc; exact lt_asymm hc.1 hc.2
  have e4 : (l.filter fun a => decide (k y < k a) && decide (k y < k a)) = l.filter fun a => decide (k y < k a) := by congr 1; funext a; simp
  rw [e1, e2, e3, e4]
  simp
end
end Dr
end Go.Proofs.YtbfmjonabndhaaaGreatDoor
namespace Go.Proofs.YtbfmjonabndhaaaGreatDoor
open Go Go.Lib
namespace Dr
/-- Load's error. -/
def loadErr (ns fs : List Bs) : Nat :=
  if ns.length ≠ fs.length then 1
  else if ns.any (fun n => !nameOk n) = true then 20
  else if ¬ ns.Nodup then 2
  else if 256 < ns.length ∨ fs.any (fun f => decide (262144 < f.length)) = true then 5 else 0
/-- One more file. -/
def loadF (n d : Bs) : Fl := ⟨n, d, d.length⟩
def loaded : List (Bs × Bs) → List Fl := fun ps => ps.foldl (fun l p => put (loadF p.1 p.2) l) []
theorem loaded_snoc (ps : List (Bs × Bs)) (p : Bs × Bs) : loaded (ps ++ [p]) = put (loadF p.1 p.2) (loaded ps) := by simp [loaded, List.foldl_append]
structure LoadedP (ps : List (Bs × Bs)) (l : List Fl) : Prop where
  rising : Rising l
  len : l.length ≤ ps.length
  mem : ∀ f ∈ l, ∃ p ∈ ps, f = loadF p.1 p.2
  names : ∀ n, (∃ f ∈ l, f.name = n) ↔ n ∈ ps.map (·.1)
theorem loadedP_nil : LoadedP [] [] := ⟨List.Pairwise.nil, Nat.le_refl _, (fun f hf => by cases hf), fun n => by simp⟩
theorem mem_put_self (f : Fl) (l : List Fl) : f ∈ put f l := by unfold put; simp
theorem mem_put_other {f g : Fl} {l : List Fl} (h : g ∈ l) (hn : g.name ≠ f.name) : g ∈ put f l := by
  unfold put
  rcases lt_total g.name f.name with h1 | h1 | h1
  · exact List.mem_append.2 (.inl (List.mem_filter.2 ⟨h, by simpa using h1⟩))
  · exact absurd h1 hn
  · exact List.mem_append.2 (.inr (List.mem_cons.2 (.inr (List.mem_filter.2 ⟨h, by simpa using h1⟩))))
theorem LoadedP.snoc {ps : List (Bs × Bs)} {l : List Fl} (h : LoadedP ps l) (p : Bs × Bs) : LoadedP (ps ++ [p]) (put (loadF p.1 p.2) l) := by
  refine ⟨h.rising.put _, ?_, fun f hf => ?_, fun n => ⟨fun ⟨f, hf, hn⟩ => ?_, fun hn => ?_⟩⟩
  · have := put_le (f := loadF p.1 p.2) l
    have := h.len
    rw [List.length_append, List.length_singleton]
    omega
  · rcases mem_put hf with rfl | ⟨h1, _⟩
    · exact ⟨p, by simp, rfl⟩
    · obtain ⟨q, hq, he⟩ := h.mem f h1
      exact ⟨q, by simp [hq], he⟩
  · rcases mem_put hf with rfl | ⟨h1, _⟩
    · rw [← hn]; simp [loadF]
    · have := (h.names n).1 ⟨f, h1, hn⟩
      rw [List.map_append]
      exact List.mem_append.2 (.inl this)
  · by_cases e : n = p.1
    · exact ⟨_, mem_put_self _ _, e.symm⟩
    · rw [List.map_append] at hn
      rcases List.mem_append.1 hn with hn | hn
      · obtain ⟨f, hf, hfn⟩ := (h.names n).2 hn
        exact ⟨f, mem_put_other hf (by rw [hfn]; exact e), hfn⟩
      · simp at hn; exact absurd hn e
theorem loadedP (ps : List (Bs × Bs)) : LoadedP ps (loaded ps) := by
  have key : ∀ (qs ps : List (Bs × Bs)) (l : List Fl), LoadedP ps l → LoadedP (ps ++ qs) (qs.foldl (fun l p => put (loadF p.1 p.2) l) l) := by
    intro qs
    induction qs with
    | nil => intro ps l h; simpa using h
    | cons q r ih =>
      intro ps l h
      have := ih _ _ (h.snoc q)
      simpa using this
  have := key ps [] [] loadedP_nil
  rw [List.nil_append] at this
  exact this
/-- The state behind a Load. -/
def loadSt (ns fs : List Bs) : St := { files := loaded (ns.zip fs), steps := 0, armed := false, left := 0 }
theorem loadSt_ok {ns fs : List Bs} (h : loadErr ns fs = 0) : (loadSt ns fs).Ok := by
  unfold loadErr at h
  split at h
  · cases h
  · split at h
    · cases h
    · split at h
      · cases h
      · split at h
        · cases h
        · rename_i h1 h2 h3 h4
          have hp := loadedP (ns.zip fs)
          refine ⟨hp.rising, ?_, fun f hf => ?_, by simp [loadSt]⟩
          · have := hp.len
            rw [List.length_zip] at this
            have : ¬ 256 < ns.length := fun e => h4 (.inl e)
            show (loaded (ns.zip fs)).length ≤ 256
            omega
          · obtain ⟨p, hp1, rfl⟩ := hp.mem f hf
            obtain ⟨q1, q2⟩ := List.of_mem_zip (a := p.1) (b := p.2) hp1
            have h5 : ¬ 262144 < p.2.length := fun e => h4 (.inr (List.any_eq_true.2 ⟨p.2, q2, by simpa using e⟩))
            have h6 : nameOk p.1 = true := by
              cases hn : nameOk p.1 with
              | true => rfl
              | false => exact absurd (List.any_eq_true.2 ⟨p.1, q1, by simp [hn]⟩) h2
            exact ⟨by show p.2.length ≤ 262144; omega, Nat.le_refl _, h6⟩
/-! ### how many of sorted names differ from the one before -/
theorem filter_full {n : Nat} {p : Nat → Bool} : ((List.range n).filter p).length = n ↔ ∀ j, j < n → p j = true := by
  constructor
  · intro h j hj
    have := List.length_filter_eq_length_iff.1 (h.trans List.length_range.symm)
    exact this j (List.mem_range.2 hj)
  · intro h
    rw [List.filter_eq_self.2 fun j hj => h j (List.mem_range.1 hj), List.length_range]
theorem compact_full (zs : List Bs) : (compact zs).length = zs.length ↔ ∀ j, j < zs.length → keeps zs.toArray j = true := by
  unfold compact compactUpTo
  rw [List.length_map]
  exact filter_full
theorem compact_le (zs : List Bs) : (compact zs).length ≤ zs.length := by
  unfold compact compactUpTo
  rw [List.length_map]
  exact Nat.le_trans (List.length_filter_le _ _) (by rw [List.length_range]; exact Nat.le_refl _)
theorem sorted_nodup {zs : List Bs} (hs : zs.Pairwise (· ≤ ·)) : (∀ j, j < zs.length → keeps zs.toArray j = true) ↔ zs.Nodup := by
  constructor
  · intro h
    have hadj : ∀ i (hi : i + 1 < zs.length), zs[i] < zs[i + 1] := fun i hi => by
      have h1 := h (i + 1) hi
      unfold keeps at h1
      rw [decide_eq_true_eq] at h1
      rcases h1 with h1 | h1
      · omega
      · have h2 : zs[i] ≤ zs[i + 1] := List.pairwise_iff_getElem.1 hs i (i + 1) (by omega) hi (by omega)
        rcases lt_total zs[i] zs[i + 1] with h3 | h3 | h3
        · exact h3
        · refine absurd ?_ h1
          rw [getElem!_pos _ _ (by simpa using hi), getElem!_pos _ _ (by simp; omega)]
          simp [h3]
        · exact absurd h3 (List.not_lt.2 h2)
    refine List.pairwise_iff_getElem.2 fun i j hi hj hij => ?_
    have key : ∀ d i (hi : i < zs.length) (hj : i + d + 1 < zs.length), zs[i] < zs[i + d + 1] := fun d => by
      induction d with
      | zero => intro i hi hj; exact hadj i hj
      | succ d ih => intro i hi hj; exact lt_trans (ih i hi (by omega)) (hadj (i + d + 1) hj)
    have := key (j - i - 1) i hi (by omega)
    have e : i + (j - i - 1) + 1 = j := by omega
    simp only [e] at this
    exact ne_of_lt this
  · intro h j hj
    unfold keeps
    rw [decide_eq_true_eq]
    by_cases h0 : j = 0
    · exact .inl h0
    · right
      intro e
      rw [getElem!_pos _ _ (by simpa using hj), getElem!_pos _ _ (by simp; omega)] at e
      simp only [List.getElem_toArray] at e
      exact List.pairwise_iff_getElem.1 h (j - 1) j (by omega) hj (by omega) e.symm
theorem compact_sorted (ns : List Bs) : (compact (ns.mergeSort fun x y => decide (x ≤ y))).length = ns.length ↔ ns.Nodup := by
  have hs : (ns.mergeSort fun x y => decide (x ≤ y)).Pairwise (· ≤ ·) := by
    have := List.pairwise_mergeSort (le := fun x y : Bs => decide (x ≤ y)) (fun a b c h1 h2 => by simpa using List.le_trans (by simpa using h1) (by simpa using h2)) (fun a b => by simpa using List.le_total a b) ns
    exact this.imp fun h => by simpa using h
  have h1 := compact_full (ns.mergeSort fun x y => decide (x ≤ y))
  rw [List.length_mergeSort] at h1
  rw [h1, ← (List.mergeSort_perm ns _).nodup_iff]
  have h2 := sorted_nodup hs
  rw [List.length_mergeSort] at h2
  exact h2
end Dr
end Go.Proofs.YtbfmjonabndhaaaGreatDoor
