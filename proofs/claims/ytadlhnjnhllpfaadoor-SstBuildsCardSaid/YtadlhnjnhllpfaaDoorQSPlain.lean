/-
  WHAT IS PROVED: (1) plain facts on a table's bytes: what a good list is written as, and that it is read back. NO CONDITION beside those that each lemma names.
-/
import Derived.Test.YtadlhnjnhllpfaaDoorQMCmp
import Derived.Test.YtadlhnjnhllpfaaDoorQBNum
import Derived.Test.YtadlhnjnhllpfaaDoorQFrm
namespace Go.Proofs.YtadlhnjnhllpfaaDoor
open Go Go.RowKit Go.Proofs.YtadlhnjnhllpfaaDoor.Mm Go.Proofs.YtadlhnjnhllpfaaDoor.Fr
namespace Ss
abbrev Bs := List UInt8
def kB (e : En) : Bs := e.key.data.toList
def vB (e : En) : Bs := e.val.data.toList
def delB (b : Bool) : UInt8 := if b then 1 else 0
/-- An entry's bytes. -/
def encE (e : En) : Bs := textOf (kB e) ++ enc e.seq.toNat ++ [delB e.del] ++ textOf (vB e)
def blockB (b : List En) : Bs := b.flatMap encE
/-- Three by three. -/
def chunkF : Nat → List En → List (List En)
  | 0, _ => []
  | _, [] => []
  | k + 1, l => l.take 3 :: chunkF k (l.drop 3)
def chunks (l : List En) : List (List En) := chunkF l.length l
theorem chunkF_more : ∀ (k m : Nat) (l : List En), l.length ≤ k → l.length ≤ m → chunkF k l = chunkF m l
  | 0, 0, _, _, _ => rfl
  | 0, m + 1, l, h, _ => by
    obtain rfl : l = [] := List.length_eq_zero_iff.1 (by omega)
    rfl
  | k + 1, 0, l, _, h => by
    obtain rfl : l = [] := List.length_eq_zero_iff.1 (by omega)
    rfl
  | k + 1, m + 1, [], _, _ => rfl
  | k + 1, m + 1, x :: r, h, h2 => by
    rw [List.length_cons] at h h2
    simp only [chunkF]
    rw [chunkF_more k m _ (by rw [List.length_drop, List.length_cons]; omega) (by rw [List.length_drop, List.length_cons]; omega)]
theorem chunks_nil : chunks [] = [] := rfl
theorem chunks_cons {l : List En} (h : l ≠ []) : chunks l = l.take 3 :: chunks (l.drop 3) := by
  cases l with
  | nil => exact absurd rfl h
  | cons x r =>
    unfold chunks
    rw [List.length_cons]
    simp only [chunkF]
    rw [chunkF_more _ ((x :: r).drop 3).length _ (by rw [List.length_drop, List.length_cons]; omega) (Nat.le_refl _)]
theorem chunks_len : ∀ (n : Nat) (l : List En), l.length ≤ n → (chunks l).length = (l.length + 2) / 3 := by
  intro n
  induction n using Nat.strongRecOn with
  | _ n ih =>
    intro l hl
    by_cases h : l = []
    · subst h; rfl
    · have h0 : 0 < l.length := List.length_pos_iff.2 h
      rw [chunks_cons h, List.length_cons, ih (n - 1) (by omega) _ (by rw [List.length_drop]; omega), List.length_drop]
      omega
theorem chunks_flat : ∀ (n : Nat) (l : List En), l.length ≤ n → (chunks l).flatten = l := by
  intro n
  induction n using Nat.strongRecOn with
  | _ n ih =>
    intro l hl
    by_cases h : l = []
    · subst h; rfl
    · have h0 : 0 < l.length := List.length_pos_iff.2 h
      rw [chunks_cons h, List.flatten_cons, ih (n - 1) (by omega) _ (by rw [List.length_drop]; omega), List.take_append_drop]
def sealB (b : List En) : Bs := sealOf (blockB b)
/-- The blocks. -/
def tabB (l : List En) : Bs := (chunks l).flatMap sealB
def firstK (b : List En) : Bs := (b.head?.map kB).getD []
def lastK (b : List En) : Bs := (b.getLast?.map kB).getD []
def idxB (b : List En) (off : Nat) : Bs := textOf (firstK b) ++ textOf (lastK b) ++ enc off ++ enc (sealB b).length
def idxF : List (List En) → Nat → Bs
  | [], _ => []
  | b :: r, off => idxB b off ++ idxF r (off + (sealB b).length)
/-- The keys, each once. -/
def keysF : Option Bs → List En → List Bs
  | _, [] => []
  | p, e :: r => if p = some (kB e) then keysF p r else kB e :: keysF (some (kB e)) r
def keysB (l : List En) : List Bs := keysF none l
def filtB (l : List En) : Bs := sealOf (Bl.filt (keysB l) 10)
def indexB (l : List En) : Bs := sealOf (enc (chunks l).length ++ idxF (chunks l) 0)
/-- A TABLE's BYTES. -/
def build (l : List En) : Bs := tabB l ++ filtB l ++ indexB l ++ le4 (tabB l).length ++ le4 ((tabB l).length + (filtB l).length) ++ [99, 118, 116, 49]
/-- What is wrong with a list, the first thing. -/
def listF : Option En → List En → Int
  | _, [] => 0
  | p, e :: r => if entryErr e ≠ 0 then entryErr e else match p with
    | some q => if bef q e.k e.seq then listF (some e) r else 60
    | none => listF (some e) r
def listErr (l : List En) : Int := if l.length = 0 then 4 else if 84 < l.length then 5 else listF none l
structure GoodL (l : List En) : Prop where
  pos : 0 < l.length
  le : l.length ≤ 84
  ok : ∀ e ∈ l, entryErr e = 0
  sorted : l.Pairwise fun a b => bef a b.k b.seq
theorem listF_good : ∀ (l : List En) (p : Option En), listF p l = 0 ↔ (∀ e ∈ l, entryErr e = 0) ∧ (p.toList ++ l).Pairwise fun a b => bef a b.k b.seq
  | [], p => by cases p <;> simp [listF]
  | e :: r, p => by
    have ih := listF_good r (some e)
    unfold listF
    by_cases he : entryErr e = 0
    · rw [if_neg (by simpa using he)]
      cases p with
      | none =>
        simp only [ih]
        simp [he]
      | some q =>
        simp only
        by_cases hb : bef q e.k e.seq
        · rw [if_pos hb, ih]
          simp only [List.mem_cons, forall_eq_or_imp, he, true_and, Option.toList_some, List.singleton_append, List.pairwise_cons]
          constructor
          · rintro ⟨h1, h2, h3⟩
            exact ⟨h1, ⟨hb, fun a ha => bef_trans hb (h2 a ha)⟩, h2, h3⟩
          · rintro ⟨h1, _, h2, h3⟩
            exact ⟨h1, h2, h3⟩
        · rw [if_neg hb]
          simp [hb]
    · rw [if_pos he]
      simp only [he, List.mem_cons, forall_eq_or_imp, false_and]
theorem listErr_good (l : List En) : listErr l = 0 ↔ GoodL l := by
  unfold listErr
  constructor
  · intro h
    split at h
    · simp at h
    · split at h
      · simp at h
      · obtain ⟨h1, h2⟩ := (listF_good l none).1 h
        exact ⟨by omega, by omega, h1, by simpa using h2⟩
  · intro h
    rw [if_neg (by have := h.pos; omega), if_neg (by have := h.le; omega)]
    exact (listF_good l none).2 ⟨h.ok, by simpa using h.sorted⟩
theorem entry_ok {e : En} (h : entryErr e = 0) : e.key.size ≤ 64 ∧ e.val.size ≤ 1024 ∧ 1 ≤ e.seq ∧ e.seq ≤ 4611686018427387904 := by
  unfold entryErr at h
  split at h
  · simp at h
  · split at h
    · simp at h
    · omega
theorem kB_len (e : En) : (kB e).length = e.key.size := rfl
theorem vB_len (e : En) : (vB e).length = e.val.size := rfl
theorem encE_len {e : En} (h : entryErr e = 0) : (encE e).length ≤ 1101 ∧ 0 < (encE e).length := by
  obtain ⟨h1, h2, h3, h4⟩ := entry_ok h
  have e1 := len_enc 0 (kB e).length (by rw [kB_len]; simp; omega)
  have e2 := len_enc 8 e.seq.toNat (by simp only [Nat.reduceAdd, Nat.reducePow]; omega)
  have e3 := len_enc 1 (vB e).length (by rw [vB_len]; simp only [Nat.reduceAdd, Nat.reducePow]; omega)
  simp only [encE, textOf, List.length_append, List.length_singleton]
  rw [kB_len, vB_len] at *
  omega
theorem blockB_len : ∀ (b : List En), (∀ e ∈ b, entryErr e = 0) → (blockB b).length ≤ 1101 * b.length
  | [], _ => by simp [blockB]
  | e :: r, h => by
    have h1 := (encE_len (h e (by simp))).1
    have h2 := blockB_len r fun x hx => h x (by simp [hx])
    simp only [blockB, List.flatMap_cons, List.length_append, List.length_cons] at h2 ⊢
    omega
/-- What is read of an entry. -/
def readE (b : Bs) : En × Bs :=
  let k := takeText b
  let b1 := b.drop k.2
  let s := dec b1
  let b2 := b1.drop s.2
  let d := b2.head?.getD 0 == 1
  let b3 := b2.drop 1
  let v := takeText b3
  (⟨⟨k.1.toArray⟩, wrap64 (s.1 : Int), d, ⟨v.1.toArray⟩⟩, b3.drop v.2)
theorem readE_enc {e : En} (h : entryErr e = 0) (b : Bs) : readE (encE e ++ b) = (e, b) := by
  obtain ⟨h1, h2, h3, h4⟩ := entry_ok h
  have hk : (kB e).length < 18446744073709551616 := by rw [kB_len]; omega
  have hv : (vB e).length < 18446744073709551616 := by rw [vB_len]; omega
  have hs : e.seq.toNat < 18446744073709551616 := by omega
  unfold readE
  simp only [encE, List.append_assoc]
  rw [takeText_textOf _ _ hk]
  simp only [List.drop_left]
  rw [dec_enc hs]
  simp only [List.drop_left, List.singleton_append, List.head?_cons, Option.getD_some, List.drop_succ_cons, List.drop_zero]
  rw [takeText_textOf _ _ hv]
  simp only [List.drop_left, Prod.mk.injEq, and_true]
  have e1 : wrap64 ((e.seq.toNat : Nat) : Int) = e.seq := by
    rw [show ((e.seq.toNat : Nat) : Int) = e.seq by omega]
    exact IntWalk.wrap64_in _ (by omega)
  rw [e1]
  cases e with
  | mk k s d v =>
    simp only [En.mk.injEq]
    refine ⟨rfl, trivial, ?_, rfl⟩
    cases d <;> rfl
/-- Up to k entries of a block; false: it ended short. -/
def readB : Nat → Bs → List En × Bool
  | 0, _ => ([], true)
  | k + 1, b => if b = [] then ([], false) else ((readE b).1 :: (readB k (readE b).2).1, (readB k (readE b).2).2)
def readF : Nat → Bs → List En
  | 0, _ => []
  | k + 1, b => if (readB 3 (takeF b).1).2 then (readB 3 (takeF b).1).1 ++ readF k (b.drop (takeF b).2) else (readB 3 (takeF b).1).1
/-- What the four bytes at the end's beginning say. -/
def footB (b : Bs) : Bs := b.drop (b.length - 12)
def offB (b : Bs) : Nat := if (footB b).length < 4 then 0 else word ((footB b).take 4)
def frontB (b : Bs) : Bs := b.take (offB b)
def readAll (b : Bs) : List En := readF 28 (frontB b)
theorem readB_block : ∀ (k : Nat) (l : List En), l.length ≤ k → (∀ e ∈ l, entryErr e = 0) → readB k (blockB l) = (l, decide (l.length = k))
  | 0, l, h, _ => by
    obtain rfl : l = [] := List.length_eq_zero_iff.1 (by omega)
    rfl
  | k + 1, [], _, _ => rfl
  | k + 1, e :: r, h, ho => by
    rw [List.length_cons] at h
    have h1 := encE_len (ho e (by simp))
    have hne : blockB (e :: r) ≠ [] := fun e2 => by
      have := congrArg List.length e2
      simp only [blockB, List.flatMap_cons, List.length_append, List.length_nil] at this
      omega
    unfold readB
    rw [if_neg hne]
    rw [show blockB (e :: r) = encE e ++ blockB r from rfl, readE_enc (ho e (by simp)), readB_block k r (by omega) fun x hx => ho x (by simp [hx])]
    simp
theorem takeF_nil : takeF [] = ([], 0) := by
  refine takeF_no ?_
  cases h : isFrame [] with
  | false => rfl
  | true =>
    have := isFrame_fits h
    simp at this
theorem readF_nil (k : Nat) : readF k [] = [] := by
  cases k with
  | zero => rfl
  | succ k => unfold readF; rw [takeF_nil]; rfl
theorem readF_tab : ∀ (k : Nat) (l : List En), (l.length + 2) / 3 ≤ k → (∀ e ∈ l, entryErr e = 0) → readF k (tabB l) = l
  | 0, l, h, _ => by
    obtain rfl : l = [] := List.length_eq_zero_iff.1 (by omega)
    rfl
  | k + 1, l, h, ho => by
    by_cases hl : l = []
    · subst hl
      exact readF_nil _
    · have ho3 : ∀ e ∈ l.take 3, entryErr e = 0 := fun e he => ho e (List.mem_of_mem_take he)
      have hlen3 : (l.take 3).length ≤ 3 := by rw [List.length_take]; omega
      have hb := blockB_len _ ho3
      have ht : tabB l = sealOf (blockB (l.take 3)) ++ tabB (l.drop 3) := by unfold tabB; rw [chunks_cons hl]; rfl
      unfold readF
      rw [ht, takeF_sealOf (by omega), readB_block 3 _ hlen3 ho3]
      simp only [List.drop_left]
      by_cases h3 : (l.take 3).length = 3
      · rw [if_pos (by simpa using h3), readF_tab k _ (by rw [List.length_drop]; rw [List.length_take] at h3; omega) fun e he => ho e (List.mem_of_mem_drop he), List.take_append_drop]
      · rw [if_neg (by simpa using h3)]
        exact List.take_of_length_le (by rw [List.length_take] at h3; omega)
theorem chunk_mem : ∀ (n : Nat) (l : List En), l.length ≤ n → ∀ b ∈ chunks l, b.length ≤ 3 ∧ b ≠ [] ∧ ∀ e ∈ b, e ∈ l := by
  intro n
  induction n using Nat.strongRecOn with
  | _ n ih =>
    intro l hl b hb
    by_cases h : l = []
    · subst h; cases hb
    · have h0 : 0 < l.length := List.length_pos_iff.2 h
      rw [chunks_cons h] at hb
      rcases List.mem_cons.1 hb with rfl | hb
      · refine ⟨by rw [List.length_take]; omega, fun e => ?_, fun e he => List.mem_of_mem_take he⟩
        have := congrArg List.length e
        rw [List.length_take, List.length_nil] at this
        omega
      · obtain ⟨h1, h2, h3⟩ := ih (n - 1) (by omega) (l.drop 3) (by rw [List.length_drop]; omega) b hb
        exact ⟨h1, h2, fun e he => List.mem_of_mem_drop (h3 e he)⟩
theorem sealB_len {b : List En} (h : b.length ≤ 3) (ho : ∀ e ∈ b, entryErr e = 0) : (sealB b).length ≤ 3309 := by
  have h1 := blockB_len b ho
  have h2 := len_enc2 (n := (blockB b).length) (by omega)
  unfold sealB
  rw [sealOf_length]
  omega
theorem flat_len {f : List En → Bs} {m : Nat} : ∀ (bs : List (List En)), (∀ b ∈ bs, (f b).length ≤ m) → (bs.flatMap f).length ≤ m * bs.length
  | [], _ => by simp
  | b :: r, h => by
    have h1 := h b (by simp)
    have h2 := flat_len r fun x hx => h x (by simp [hx])
    rw [List.flatMap_cons, List.length_append, List.length_cons, Nat.mul_succ]
    omega
theorem tabB_len {l : List En} (h : GoodL l) : (tabB l).length ≤ 92652 := by
  have h1 := flat_len (f := sealB) (m := 3309) (chunks l) fun b hb => by
    obtain ⟨h2, _, h3⟩ := chunk_mem _ l (Nat.le_refl _) b hb
    exact sealB_len h2 fun e he => h.ok e (h3 e he)
  rw [chunks_len _ l (Nat.le_refl _)] at h1
  have := h.le
  unfold tabB
  omega
theorem front_build {l : List En} (h : GoodL l) : frontB (build l) = tabB l := by
  have ht := tabB_len h
  obtain ⟨X, hX⟩ : ∃ X, X = tabB l ++ filtB l ++ indexB l := ⟨_, rfl⟩
  have hb : build l = X ++ (le4 (tabB l).length ++ (le4 ((tabB l).length + (filtB l).length) ++ [99, 118, 116, 49])) := by
    unfold build
    rw [hX]
    simp only [List.append_assoc]
  have hl : (build l).length = X.length + 12 := by rw [hb]; simp [le4_length]
  have hf : footB (build l) = le4 (tabB l).length ++ (le4 ((tabB l).length + (filtB l).length) ++ [99, 118, 116, 49]) := by
    unfold footB
    rw [hl, hb, Nat.add_sub_cancel, List.drop_left]
  have ho : offB (build l) = (tabB l).length := by
    unfold offB
    rw [hf, if_neg (by simp [le4_length]), List.take_left' (le4_length _), word_le4 (by omega)]
  unfold frontB
  rw [ho, hb, hX, List.append_assoc, List.append_assoc, List.take_left']
  rfl
/-- A TABLE IS READ BACK. -/
theorem readAll_build {l : List En} (h : GoodL l) : readAll (build l) = l := by
  unfold readAll
  rw [front_build h]
  exact readF_tab 28 l (by have := h.le; omega) h.ok
theorem build_inj {l m : List En} (h : GoodL l) (hm : GoodL m) (e : build l = build m) : l = m := by rw [← readAll_build h, e, readAll_build hm]
end Ss
end Go.Proofs.YtadlhnjnhllpfaaDoor
