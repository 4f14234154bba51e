/-
  WHAT IS PROVED: (1) what Build of package sstable holds between two blocks: its table and its index, in boxes of their own; what changes them. NO CONDITION beside those that each lemma names.
-/
import Derived.Test.YtadlhnjnhllpfaaDoorQSChunk
import Derived.Test.YtadlhnjnhllpfaaDoorQSFilt
import Derived.Test.YtadlhnjnhllpfaaDoorQSList
import Derived.Test.YtadlhnjnhllpfaaDoorQSWalkA
namespace Go.Proofs.YtadlhnjnhllpfaaDoor
open Go Go.RowKit Go.Shelf Go.Maps Go.Sort Go.Proofs.YtadlhnjnhllpfaaDoor.Mm Go.Proofs.YtadlhnjnhllpfaaDoor.Fr
namespace Ss
/-! ### the plain side -/
def chk (l : List En) (x : Nat) : List En := (l.drop (3 * x)).take 3
theorem chk_len (l : List En) (x : Nat) : (chk l x).length = min 3 (l.length - 3 * x) := by simp [chk]
theorem chk_mem {l : List En} {x : Nat} {e : En} (h : e ∈ chk l x) : e ∈ l := List.mem_of_mem_drop (List.mem_of_mem_take h)
theorem chk_at {l : List En} {x j : Nat} (h : j < 3) : (chk l x)[j]? = l[3 * x + j]? := by rw [chk, List.getElem?_take_of_lt h, List.getElem?_drop]
theorem chk_succ (l : List En) (x : Nat) : chk l (x + 1) = chk (l.drop 3) x := by
  unfold chk
  rw [List.drop_drop]
  congr 2
  omega
theorem chunks_map : ∀ (k : Nat) (l : List En), k = (l.length + 2) / 3 → chunks l = (List.range k).map (chk l)
  | 0, l, h => by
    obtain rfl : l = [] := List.length_eq_zero_iff.1 (by omega)
    rfl
  | k + 1, l, h => by
    have hl : l ≠ [] := by rintro rfl; simp at h
    rw [chunks_cons hl, chunks_map k (l.drop 3) (by rw [List.length_drop]; omega), List.range_succ_eq_map, List.map_cons, List.map_map]
    congr 1
    exact List.map_congr_left fun x _ => (chk_succ l x).symm
theorem idxF_snoc : ∀ (bs : List (List En)) (b : List En) (off : Nat), idxF (bs ++ [b]) off = idxF bs off ++ idxB b (off + (bs.flatMap sealB).length)
  | [], b, off => by simp [idxF]
  | c :: r, b, off => by
    rw [List.cons_append]
    simp only [idxF]
    rw [idxF_snoc r b _, List.append_assoc, List.flatMap_cons, List.length_append, Nat.add_assoc]
def tbOf (l : List En) (xs : List Nat) : Bs := (xs.map (chk l)).flatMap sealB
def ixOf (l : List En) (xs : List Nat) : Bs := enc (chunks l).length ++ idxF (xs.map (chk l)) 0
theorem tbOf_snoc (l : List En) (xs : List Nat) (x : Nat) : tbOf l (xs ++ [x]) = tbOf l xs ++ sealB (chk l x) := by simp [tbOf]
theorem ixOf_snoc (l : List En) (xs : List Nat) (x : Nat) : ixOf l (xs ++ [x]) = ixOf l xs ++ (textOf (firstK (chk l x)) ++ textOf (lastK (chk l x)) ++ enc (tbOf l xs).length ++ enc (sealB (chk l x)).length) := by
  unfold ixOf
  rw [List.map_append, List.map_singleton, idxF_snoc, Nat.zero_add, List.append_assoc]
  rfl
theorem tbOf_all (l : List En) {K : Nat} (h : K = (l.length + 2) / 3) : tbOf l (List.range K) = tabB l := by unfold tbOf tabB; rw [chunks_map K l h]
theorem ixOf_all (l : List En) {K : Nat} (h : K = (l.length + 2) / 3) : sealOf (ixOf l (List.range K)) = indexB l := by
  unfold ixOf indexB
  rw [← chunks_map K l h]
theorem tbOf_len {l : List En} (ho : ∀ e ∈ l, entryErr e = 0) (xs : List Nat) : (tbOf l xs).length ≤ 3309 * xs.length := by
  have h := flat_len (f := sealB) (m := 3309) (xs.map (chk l)) fun b hb => by
    obtain ⟨x, _, rfl⟩ := List.mem_map.1 hb
    exact sealB_len (by rw [chk_len]; omega) fun e he => ho e (chk_mem he)
  rwa [List.length_map] at h
theorem key_len {l : List En} (ho : ∀ e ∈ l, entryErr e = 0) (x : Nat) : (firstK (chk l x)).length ≤ 64 ∧ (lastK (chk l x)).length ≤ 64 := by
  have key : ∀ o : Option En, (∀ e, o = some e → e ∈ l) → ((o.map kB).getD []).length ≤ 64 := fun o h => by
    cases o with
    | none => simp
    | some e => exact (entry_ok (ho e (h e rfl))).1
  exact ⟨key _ fun e he => chk_mem (List.mem_of_head? he), key _ fun e he => chk_mem (List.mem_of_getLast? he)⟩
theorem text_len {s : Bs} (h : s.length ≤ 64) : (textOf s).length ≤ 65 := by
  have := len_enc 0 s.length (by simp; omega)
  unfold textOf
  rw [List.length_append]
  omega
theorem enc3 {n : Nat} (h : n ≤ 100000) : (enc n).length ≤ 3 := len_enc 2 n (by simp only [Nat.reduceAdd, Nat.reducePow]; omega)
theorem ixOf_len {l : List En} (ho : ∀ e ∈ l, entryErr e = 0) (hl : l.length ≤ 84) : ∀ (k : Nat) (xs : List Nat), xs.length = k → k ≤ 28 → (ixOf l xs).length ≤ 3 + 136 * k
  | 0, xs, h, _ => by
    obtain rfl : xs = [] := List.length_eq_zero_iff.1 h
    have := enc3 (n := (chunks l).length) (by rw [chunks_len _ l (Nat.le_refl _)]; omega)
    simp [ixOf, idxF]
    omega
  | k + 1, xs, h, hk => by
    obtain ⟨ys, x, rfl⟩ : ∃ ys x, xs = ys ++ [x] := by
      rcases List.eq_nil_or_concat xs with h0 | ⟨ys, x, h0⟩
      · subst h0; simp at h
      · exact ⟨ys, x, by simpa using h0⟩
    rw [List.length_append, List.length_singleton] at h
    have h1 := ixOf_len ho hl k ys (by omega) (by omega)
    obtain ⟨k1, k2⟩ := key_len ho x
    have h2 := text_len k1
    have h3 := text_len k2
    have h4 := tbOf_len ho ys
    have h5 := enc3 (n := (tbOf l ys).length) (by have : 3309 * ys.length ≤ 3309 * 28 := Nat.mul_le_mul_left _ (by omega); omega)
    have h6 := sealB_len (b := chk l x) (by rw [chk_len]; omega) fun e he => ho e (chk_mem he)
    have h7 := enc3 (n := (sealB (chk l x)).length) (by omega)
    rw [ixOf_snoc, List.length_append, List.length_append, List.length_append, List.length_append]
    omega
theorem build_eq {l : List En} {K : Nat} (h : K = (l.length + 2) / 3) : build l = tbOf l (List.range K) ++ sealOf (Bl.filt (keysB l) 10) ++ sealOf (ixOf l (List.range K)) ++ le4 (tbOf l (List.range K)).length ++ le4 ((tbOf l (List.range K)).length + (sealOf (Bl.filt (keysB l) 10)).length) ++ [99, 118, 116, 49] := by
  rw [tbOf_all l h, ixOf_all l h]
  rfl
/-! ### the rows of entries, three by three -/
theorem ev_drop : ∀ (k : Nat) (l : List En), (ev l).drop (4 * k) = ev (l.drop k)
  | 0, l => by simp
  | k + 1, [] => by simp [ev]
  | k + 1, e :: r => by
    have : (ev (e :: r)) = ecells e ++ ev r := by simp [ev]
    rw [this, show 4 * (k + 1) = (ecells e).length + 4 * k by simp [ecells]; omega, List.drop_append, List.drop_eq_nil_of_le (by omega), List.nil_append, Nat.add_sub_cancel_left, ev_drop k r]
    rfl
theorem ev_take : ∀ (k : Nat) (l : List En), (ev l).take (4 * k) = ev (l.take k)
  | 0, l => by simp [ev]
  | k + 1, [] => by simp [ev]
  | k + 1, e :: r => by
    have : (ev (e :: r)) = ecells e ++ ev r := by simp [ev]
    rw [this, show 4 * (k + 1) = (ecells e).length + 4 * k by simp [ecells]; omega, List.take_append, List.take_of_length_le (by omega), Nat.add_sub_cancel_left, ev_take k r]
    simp [ev]
theorem rd_chk {W : World} {g p : Nat} {l : List En} (h : Rd W (some ⟨g, p, none⟩) (ev l)) (x : Nat) : Rd W (some ⟨g, p + x * 12, none⟩) (ev (chk l x)) := by
  have h1 := (h.drop (4 * (3 * x))).take (4 * 3)
  rw [ev_drop, ev_take] at h1
  have e : (some (⟨g, p, none⟩ : Addr)).map (·.add (4 * (3 * x))) = some ⟨g, p + x * 12, none⟩ := by
    rw [Option.map_some]
    have e4 : 4 * (3 * x) = x * 12 := by omega
    rw [e4]
    unfold Addr.add; split <;> simp_all
  rw [e] at h1
  exact h1
/-! ### the table and the index in memory -/
/-- Bytes, or slices of bytes. -/
def Byt (o : Obj) : Prop := ∃ cs t f, o = .cells cs t f ∧ (t = 5 ∨ t = 25)
/-- W' is W but for bytes, slices of bytes, and what is new. -/
structure U8s (W W' : World) : Prop where
  size : W.heap.size ≤ W'.heap.size
  same : ∀ (k : Nat) (o : Obj), W.heap[k]? = some o → ¬ Byt o → W'.heap[k]? = some o
section
variable {W W' W'' : World}
theorem U8s.refl (W : World) : U8s W W := ⟨Nat.le_refl _, fun _ _ h _ => h⟩
theorem U8s.trans (h : U8s W W') (k : U8s W' W'') : U8s W W'' := ⟨Nat.le_trans h.size k.size, fun i o h1 h2 => k.same i o (h.same i o h1 h2) h2⟩
theorem U8s.below (h : Below W.heap.size W W') : U8s W W' := ⟨h.size, fun k _ hk _ => (h.block k (Array.getElem?_eq_some_iff.1 hk).1).trans hk⟩
theorem U8s.drew (h : U8s W W') : U8s W W'.drew := ⟨h.size, h.same⟩
theorem U8s.set {g i : Nat} {t : TypeId} {cs : Array Value} (hb : Blk W g t cs) (ht : t = 5 ∨ t = 25) (v : Value) : U8s W (W.setCell ⟨g, i, none⟩ v) :=
  ⟨by simp [World.setCell], fun k _ hk ho => (Below.heap_setCell W ⟨g, i, none⟩ v k (fun e => by
    have e' : k = g := e
    subst e'
    rw [show W.heap[k]? = _ from hb] at hk
    cases hk
    exact ho ⟨cs, t, _, rfl, ht⟩)).trans hk⟩
theorem U8s.grown {base n : Nat} {v : Value} {xs : List Value} (ho : W.ownsRow base 5 1 v n xs) (hg : W.grownBy W' v.ownBlock) : U8s W W' :=
  ⟨hg.size, fun k _ hk hob => (hg.block k (Array.getElem?_eq_some_iff.1 hk).1 fun e => by
    obtain ⟨cur, hb⟩ := own_blk ho e.symm
    rw [show W.heap[k]? = _ from hb] at hk
    cases hk
    exact hob ⟨cur, _, _, rfl, .inl rfl⟩).trans hk⟩
theorem KeepsU.blk {g : Nat} {t : TypeId} {cs : Array Value} (h : KeepsU W W') (hb : Blk W g t cs) (h1 : t ≠ 5) : Blk W' g t cs := h g _ hb fun _ _ e => by cases e; exact h1 rfl
theorem U8s.keeps (hs : W.heap.size ≤ W'.heap.size) (h : KeepsU W W') : U8s W W' := ⟨hs, fun k o hk ho => h k o hk fun cs f e => ho ⟨cs, _, f, e, .inl rfl⟩⟩
theorem U8s.others (h : U8s W W') : KeepsOthers W W' := ⟨h.size, fun k _ hk hc => h.same k _ hk fun ⟨cs, t, f, e, _⟩ => by subst e; cases hc⟩
theorem U8s.blk {g : Nat} {t : TypeId} {cs : Array Value} (h : U8s W W') (hb : Blk W g t cs) (h1 : t ≠ 5) (h2 : t ≠ 25) : Blk W' g t cs := h.same g _ hb fun ⟨_, _, _, e, ht⟩ => by
  cases e
  exact ht.elim h1 h2
end
theorem own_box {W : World} {base n g : Nat} {t : TypeId} {cs : Array Value} {v : Value} {xs : List Value} (h : W.ownsRow base 5 1 v n xs) (hb : Blk W g t cs) (ht : t ≠ 5) (u : Value) : (W.setCell ⟨g, 0, none⟩ u).ownsRow base 5 1 v n xs := own_same h fun j e => Below.heap_setCell _ _ _ _ fun e' => by
  have e2 : j = g := e'
  subst e2
  rcases own_ne_b h hb ht with h1 | h1
  · rw [h1] at e; cases e
  · exact h1 e
/-- The table and the index. -/
structure BuS (w : World) (T X : Nat) (tb ix : Bs) (A : Option Addr) (n c : Nat) (B : Option Addr) (m d : Nat) (W : World) : Prop where
  t : Blk W T 25 #[.slice A n c]
  x : Blk W X 25 #[.slice B m d]
  tl : tb.length = n
  xl : ix.length = m
  town : W.ownsRow w.heap.size 5 1 (.slice A n c) n (bv tb)
  xown : W.ownsRow w.heap.size 5 1 (.slice B m d) m (bv ix)
  ne : ∀ k, (Value.slice A n c).ownBlock = some k → (Value.slice B m d).ownBlock ≠ some k
  bel : Below w.heap.size w W
  tw : w.heap.size ≤ T
  xw : w.heap.size ≤ X
  tx : T ≠ X
section
variable {w W W' : World} {T X : Nat} {tb ix : Bs} {A B : Option Addr} {n c m d : Nat}
theorem BuS.same (h : BuS w T X tb ix A n c B m d W) (hk : ∀ k t cs, Blk W k t cs → t = 5 ∨ t = 25 → W'.heap[k]? = W.heap[k]?) (hb : Below w.heap.size w W') : BuS w T X tb ix A n c B m d W' :=
  ⟨h.t.same (hk _ _ _ h.t (.inr rfl)), h.x.same (hk _ _ _ h.x (.inr rfl)), h.tl, h.xl, own_same h.town fun k e => by obtain ⟨_, hb⟩ := own_blk h.town e; exact hk _ _ _ hb (.inl rfl), own_same h.xown fun k e => by obtain ⟨_, hb⟩ := own_blk h.xown e; exact hk _ _ _ hb (.inl rfl), h.ne, hb, h.tw, h.xw, h.tx⟩
theorem BuS.below (h : BuS w T X tb ix A n c B m d W) (hb : Below W.heap.size W W') : BuS w T X tb ix A n c B m d W' := h.same (fun k _ _ hk _ => hb.block k hk.lt) (h.bel.trans (hb.mono h.bel.size))
theorem BuS.drew (h : BuS w T X tb ix A n c B m d W) : BuS w T X tb ix A n c B m d W.drew := ⟨h.t, h.x, h.tl, h.xl, h.town, h.xown, h.ne, h.bel.drew, h.tw, h.xw, h.tx⟩
theorem BuS.kept {row : Option Nat} (h : BuS w T X tb ix A n c B m d W) (hg : W.grownBy W' row) (hr : ∀ r, row = some r → w.heap.size ≤ r ∧ ∃ o : Obj, W.heap[r]? = some o ∧ o.isCells = false) : BuS w T X tb ix A n c B m d W' :=
  h.same (fun k t cs hk _ => hg.block k hk.lt fun e => by
    obtain ⟨_, o, ho, hc⟩ := hr _ e.symm
    rw [show W.heap[k]? = _ from hk] at ho
    cases ho
    cases hc) (h.bel.grown hg h.bel.size fun k e => (hr k e).1)
theorem BuS.cells (h : BuS w T X tb ix A n c B m d W) : W.cell? ⟨T, 0, none⟩ = some (.slice A n c) ∧ W.cell? ⟨X, 0, none⟩ = some (.slice B m d) ∧ W.frozen? ⟨T, 0, none⟩ = false ∧ W.frozen? ⟨X, 0, none⟩ = false := ⟨h.t.cell 0, h.x.cell 0, h.t.frozen 0, h.x.frozen 0⟩
/-- The index has grown: its box is filled anew. -/
theorem BuS.index {s : Bs} {B' : Option Addr} {m' d' : Nat} (h : BuS w T X tb ix A n c B m d W) (ho : W'.ownsRow w.heap.size 5 1 (.slice B' m' d') m' (bv ix ++ bv s)) (hg : W.grownBy W' (Value.slice B m d).ownBlock) (hn : (Value.slice B' m' d').ownBlock = (Value.slice B m d).ownBlock ∨ (Value.slice B' m' d').ownBlock = some W.heap.size) :
    BuS w T X tb (ix ++ s) A n c B' m' d' (W'.setCell ⟨X, 0, none⟩ (.slice B' m' d')) ∧ U8s W (W'.setCell ⟨X, 0, none⟩ (.slice B' m' d')) := by
  have hoff : ∀ k t cs, Blk W k t cs → t = 25 → W'.heap[k]? = W.heap[k]? := fun k t cs hk ht => hg.block k hk.lt fun e => by
    subst ht
    rcases own_ne_b h.xown hk (by decide) with h1 | h1
    · rw [h1] at e; cases e
    · exact h1 e.symm
  have hX := h.x.same (hoff _ _ _ h.x rfl)
  have hT := h.t.same (hoff _ _ _ h.t rfl)
  have hto := own_same h.town (w' := W') fun k e => by
    obtain ⟨_, hb⟩ := own_blk h.town e
    exact hg.block k hb.lt fun e' => h.ne k e e'.symm
  have hbase : ∀ k, (Value.slice B m d).ownBlock = some k → w.heap.size ≤ k := fun k e => (h.xown.lt k e).1
  have hb := h.bel.grown hg h.bel.size hbase
  have hset : ∀ {v : Value} {k : Nat} {ys : List Value}, W'.ownsRow w.heap.size 5 1 v k ys → (W'.setCell ⟨X, 0, none⟩ (.slice B' m' d')).ownsRow w.heap.size 5 1 v k ys := fun {v k ys} hv => own_same hv fun j e => Below.heap_setCell _ _ _ _ fun e' => by
    have e2 : j = X := e'
    subst e2
    rcases own_ne_b hv hX (by decide) with h1 | h1
    · rw [h1] at e; cases e
    · exact h1 e
  refine ⟨⟨hT.same (Below.heap_setCell _ _ _ _ h.tx), by simpa using hX.set 0 (.slice B' m' d'), h.tl, ?_, hset hto, by rw [bv_append]; exact hset ho, fun k e e' => ?_, hb.setCell (p := ⟨X, 0, none⟩) h.xw _, h.tw, h.xw, h.tx⟩, (U8s.grown h.xown hg).trans (U8s.set hX (.inr rfl) _)⟩
  · have := ho.1
    rw [List.length_append, bv_length, bv_length] at this
    rw [List.length_append]; omega
  · rcases hn with hn | hn
    · rw [hn] at e'; exact h.ne k e e'
    · rw [hn] at e'
      cases e'
      have := (h.town.lt _ e).2
      omega
/-- The table has grown. -/
theorem BuS.table {s : Bs} {A' : Option Addr} {n' c' : Nat} (h : BuS w T X tb ix A n c B m d W) (ho : W'.ownsRow w.heap.size 5 1 (.slice A' n' c') n' (bv tb ++ bv s)) (hg : W.grownBy W' (Value.slice A n c).ownBlock) (hn : (Value.slice A' n' c').ownBlock = (Value.slice A n c).ownBlock ∨ (Value.slice A' n' c').ownBlock = some W.heap.size) :
    BuS w T X (tb ++ s) ix A' n' c' B m d (W'.setCell ⟨T, 0, none⟩ (.slice A' n' c')) ∧ U8s W (W'.setCell ⟨T, 0, none⟩ (.slice A' n' c')) := by
  have hs : BuS w X T ix tb B m d A n c W := ⟨h.x, h.t, h.xl, h.tl, h.xown, h.town, fun k e e' => h.ne k e' e, h.bel, h.xw, h.tw, h.tx.symm⟩
  obtain ⟨h1, h2⟩ := hs.index ho hg hn
  exact ⟨⟨h1.x, h1.t, h1.xl, h1.tl, h1.xown, h1.town, fun k e e' => h1.ne k e' e, h1.bel, h1.xw, h1.tw, h1.tx.symm⟩, h2⟩
end
section
variable {w W W' : World} {T X : Nat} {tb ix : Bs} {A B : Option Addr} {n c m d : Nat}
theorem BuS.boxX (h : BuS w T X tb ix A n c B m d W) (hg : W.grownBy W' (Value.slice B m d).ownBlock) : W'.cell? ⟨X, 0, none⟩ = some (.slice B m d) ∧ W'.frozen? ⟨X, 0, none⟩ = false ∧ W'.cell? ⟨T, 0, none⟩ = some (.slice A n c) := by
  have hoff : ∀ k cs, Blk W k 25 cs → W'.heap[k]? = W.heap[k]? := fun k cs hk => hg.block k hk.lt fun e => by
    rcases own_ne_b h.xown hk (by decide) with h1 | h1
    · rw [h1] at e; cases e
    · exact h1 e.symm
  have hX := h.x.same (hoff _ _ h.x)
  exact ⟨hX.cell 0, hX.frozen 0, (h.t.same (hoff _ _ h.t)).cell 0⟩
theorem BuS.boxT (h : BuS w T X tb ix A n c B m d W) (hg : W.grownBy W' (Value.slice A n c).ownBlock) : W'.cell? ⟨T, 0, none⟩ = some (.slice A n c) ∧ W'.frozen? ⟨T, 0, none⟩ = false ∧ W'.cell? ⟨X, 0, none⟩ = some (.slice B m d) := by
  have hoff : ∀ k cs, Blk W k 25 cs → W'.heap[k]? = W.heap[k]? := fun k cs hk => hg.block k hk.lt fun e => by
    rcases own_ne_b h.town hk (by decide) with h1 | h1
    · rw [h1] at e; cases e
    · exact h1 e.symm
  have hT := h.t.same (hoff _ _ h.t)
  exact ⟨hT.cell 0, hT.frozen 0, (h.x.same (hoff _ _ h.x)).cell 0⟩
/-- Beside a row of the caller's own. -/
def BuF (w : World) (T X : Nat) (tb ix sb : Bs) (vs : Value) (ms : Nat) (W0 W : World) : Prop := U8s W0 W ∧ ∃ A n c B m d, BuS w T X tb ix A n c B m d W ∧ W.ownsRow w.heap.size 5 1 vs ms (bv sb) ∧ ∀ k, vs.ownBlock = some k → (Value.slice B m d).ownBlock ≠ some k
theorem BuS.indexF {W0 : World} {s sb : Bs} {vs : Value} {ms : Nat} {B' : Option Addr} {m' d' : Nat} (h : BuS w T X tb ix A n c B m d W) (hu : U8s W0 W) (hs : W.ownsRow w.heap.size 5 1 vs ms (bv sb)) (hsn : ∀ k, vs.ownBlock = some k → (Value.slice B m d).ownBlock ≠ some k) (ho : W'.ownsRow w.heap.size 5 1 (.slice B' m' d') m' (bv ix ++ bv s)) (hg : W.grownBy W' (Value.slice B m d).ownBlock) (hn : (Value.slice B' m' d').ownBlock = (Value.slice B m d).ownBlock ∨ (Value.slice B' m' d').ownBlock = some W.heap.size) :
    BuF w T X tb (ix ++ s) sb vs ms W0 (W'.setCell ⟨X, 0, none⟩ (.slice B' m' d')) := by
  obtain ⟨h1, h2⟩ := h.index ho hg hn
  refine ⟨hu.trans h2, A, n, c, B', m', d', h1, own_same hs fun k e => ?_, fun k e e' => ?_⟩
  · obtain ⟨_, hb⟩ := own_blk hs e
    have h3 := hg.block k hb.lt fun e' => hsn k e e'.symm
    refine (Below.heap_setCell _ _ _ _ fun e' => ?_).trans h3
    have e2 : k = X := e'
    subst e2
    have h4 := h.x
    unfold Blk at hb h4
    rw [hb] at h4
    injection h4 with h4
    injection h4 with _ h5
    exact absurd h5 (by decide)
  · rcases hn with hn | hn
    · rw [hn] at e'; exact hsn k e e'
    · rw [hn] at e'
      cases e'
      have := (hs.lt _ e).2
      omega
end
/-- The post at its good ends alone. -/
def OnlyRet (Q : Exit → Act → World → Prop) : Exit → Act → World → Prop
  | .ret, a, w => Q .ret a w
  | .normal, a, w => Q .normal a w
  | _, _, _ => False
theorem wp_only {P : Program} {c : Code} {Q : Exit → Act → World → Prop} {a : Act} {w : World} (h : c.wp P (OnlyRet Q) a w) : c.wp P Q a w :=
  Code.wp_mono (fun e a w h => by cases e <;> first | exact h | exact False.elim h) h
theorem act_gen {P : Program} {c : Code} {Q : Exit → Act → World → Prop} {a : Act} {w : World} (h : ∀ a0, a0 = a → c.wp P Q a0 w) : c.wp P Q a w := h a rfl
/-- The same, whatever the slices are; since W0 nothing but bytes has turned. -/
def BuE (w : World) (T X : Nat) (tb ix : Bs) (W0 W : World) : Prop := U8s W0 W ∧ ∃ A n c B m d, BuS w T X tb ix A n c B m d W
theorem BuE.below {w W0 W W' : World} {T X : Nat} {tb ix : Bs} (h : BuE w T X tb ix W0 W) (hb : Below W.heap.size W W') : BuE w T X tb ix W0 W' := by
  obtain ⟨h0, A, n, c, B, m, d, h1⟩ := h
  exact ⟨h0.trans (U8s.below hb), A, n, c, B, m, d, h1.below hb⟩
theorem BuE.kept {w W W' : World} {T X : Nat} {tb ix : Bs} {row : Option Nat} (h : BuE w T X tb ix W W) (hg : W.grownBy W' row) (hr : ∀ r, row = some r → w.heap.size ≤ r ∧ ∃ o : Obj, W.heap[r]? = some o ∧ o.isCells = false) : BuE w T X tb ix W' W' := by
  obtain ⟨h0, A, n, c, B, m, d, h1⟩ := h
  exact ⟨U8s.refl _, A, n, c, B, m, d, h1.kept hg hr⟩
theorem wpListIn_app {F : Fence} {q : Nat} {P : Program} (w : World) {ops : Array Oper} {rest : List Oper} {o : Oper} {a : Act} {Q : Exit → Act → World → Prop} (hgd : o.guard = none) (s x : Operand) (t : TypeId)
    (ho : o.op = .call { callee := .builtin .append, args := #[s, x], argTypes := #[t, t] })
    (base : Nat) (e : TypeId) (i : TypeInfo) (z : Value) (bytes : Nat) (ht : P.underlying t = some (.slice e)) (hi : P.info? e = some i) (hz : i.zero = some z)
    (hsize : i.size = 1) (hby : i.bytes = bytes) (hzs : z.cells.size = 1)
    (v : Value) (n : Nat) (xs : List Value) (hs : a.eval s = v) (hown : w.ownsRow base e 1 v n xs)
    (A : Option Addr) (m c : Nat) (news : List Value) (hx : a.eval x = .slice A m c) (hl : news.length = m) (hr : Rd w A news) (h1 : ∀ u ∈ news, u.oneCell' = true)
    (N : Nat) (hN : n + m = N) (h63 : N ≤ maxLen) (hbytes : N * bytes ≤ 140737488355328) (hbase : base ≤ w.heap.size)
    (h : ∀ A' c' w', w'.ownsRow base e 1 (.slice A' N c') N (xs ++ news) → w.grownBy w' v.ownBlock → ((Value.slice A' N c').ownBlock = v.ownBlock ∨ (Value.slice A' N c').ownBlock = some w.heap.size) → wpListIn F q P ops Q rest (a.put o.dst (.slice A' N c')) w') : wpListIn F q P ops Q (o :: rest) a w := by
  subst hN
  refine wpListIn_plain hgd fun K hK' => ?_
  obtain ⟨A', c', w', hrun, h2, h3, h4⟩ := run_app (P := P) w base t o.type e i z bytes ht hi hz hsize hby hzs v n xs hown A m c news hl hr h1 h63 hbytes hbase
  unfold Oper.wpIn
  refine ⟨by simp [Oper.about, ho, resolve, Target.leads, Sem.run_pure], ?_⟩
  rw [Oper.semAt_plain F _ _ (by rw [ho]; intro c hc'; cases hc')]
  simp [execOp, ho, resolve, invoke, builtin, hs, hx, hrun, Result.andThen]
  exact hK' _ _ (h A' c' w' h2 h3 h4)
end Ss
end Go.Proofs.YtadlhnjnhllpfaaDoor
