/-
  WHAT IS PROVED: (1) blocks that are known whole, and what leaves them so. NO CONDITION beside those that each lemma names. (2) plain facts on entries in order, on towers and on who comes next. NO CONDITION beside those that each lemma names. (3) what Compare and Check of package entry answer. NO CONDITION.
-/
import Derived.Test.YtadlhnjnhllpfaaDoorQMem
import Derived.Test.YtadlhnjnhllpfaaDoorProg
import Derived.Deep.RegionHeld3
import Derived.Deep.RegionWith
import Derived.Deep.LoopGhost
import Derived.Sort.Walk0
import Derived.Lib.Bytealg
import Derived.Deep.Cut
namespace Go.Proofs.YtadlhnjnhllpfaaDoor
open Go Go.RowKit Go.Maps Go.Proofs.YtadlhnjnhllpfaaDoor.Fr
namespace Mm

/-- w' is w but for the blocks of S and new ones. -/
structure Mod (S : Nat → Prop) (w w' : World) : Prop where
  os : w'.os = w.os
  tape : w'.tape = w.tape
  output : w'.output = w.output
  size : w.heap.size ≤ w'.heap.size
  block : ∀ k, k < w.heap.size → ¬ S k → w'.heap[k]? = w.heap[k]?
/-- S and what is new. -/
def ext (S : Nat → Prop) (w w' : World) (k : Nat) : Prop := S k ∨ (w.heap.size ≤ k ∧ k < w'.heap.size)
section
variable {S S' : Nat → Prop} {w w' w'' : World}
theorem Mod.refl (S : Nat → Prop) (w : World) : Mod S w w := ⟨rfl, rfl, rfl, Nat.le_refl _, fun _ _ _ => rfl⟩
theorem Mod.trans (h : Mod S w w') (k : Mod S' w' w'') (hs : ∀ b, b < w.heap.size → S' b → S b) : Mod S w w'' :=
  ⟨k.os.trans h.os, k.tape.trans h.tape, k.output.trans h.output, Nat.le_trans h.size k.size, fun b hb hn => (k.block b (Nat.lt_of_lt_of_le hb h.size) fun e => hn (hs b hb e)).trans (h.block b hb hn)⟩
theorem Mod.trans_ext (h : Mod S w w') (k : Mod (ext S w w') w' w'') : Mod S w w'' := h.trans k fun b hb e => e.elim id fun e => absurd e.1 (by omega)
theorem Mod.weaken (h : Mod S w w') (hs : ∀ b, b < w.heap.size → S b → S' b) : Mod S' w w' := ⟨h.os, h.tape, h.output, h.size, fun b hb hn => h.block b hb fun e => hn (hs b hb e)⟩
theorem Mod.drew (h : Mod S w w') : Mod S w w'.drew := ⟨h.os, h.tape, h.output, h.size, h.block⟩
theorem Mod.drewN (h : Mod S w w') (n : Nat) : Mod S w (w'.drewN n) := ⟨h.os, h.tape, h.output, h.size, h.block⟩
theorem Mod.of_drewN {n : Nat} (h : Mod S (w.drewN n) w') : Mod S w w' := ⟨h.os, h.tape, h.output, h.size, h.block⟩
theorem Mod.below (h : Below w.heap.size w w') : Mod S w w' := ⟨h.os, h.tape, h.output, h.size, fun b hb _ => h.block b hb⟩
theorem Mod.grown {row : Option Nat} (h : w.grownBy w' row) (hs : ∀ k, row = some k → S k) : Mod S w w' := ⟨h.os, h.tape, h.output, h.size, fun b hb hn => h.block b hb fun e => hn (hs b e.symm)⟩
theorem Mod.alloc (h : Mod S w w') (o : Obj) : Mod S w (w'.alloc o) := h.trans (S' := fun _ => False) ⟨rfl, rfl, rfl, by simp, fun b hb _ => Below.heap_alloc _ _ _ hb⟩ fun _ _ e => e.elim
theorem Mod.setCell (h : Mod S w w') {p : Addr} (hp : p.block < w.heap.size → S p.block) (u : Value) : Mod S w (w'.setCell p u) :=
  h.trans (S' := fun k => k = p.block) ⟨rfl, rfl, rfl, by simp [World.setCell], fun b _ hn => Below.heap_setCell _ _ _ _ hn⟩ fun b hb e => by subst e; exact hp hb
theorem Mod.to_below {B : Nat} (h : Mod S w w') (hs : ∀ k, S k → B ≤ k) (hB : B ≤ w.heap.size) : Below B w w' :=
  ⟨h.os, h.tape, h.output, h.size, fun k hk => h.block k (by omega) fun e => by have := hs k e; omega⟩
theorem ext_lt (hS : ∀ k, S k → k < w.heap.size) (h : w.heap.size ≤ w'.heap.size) : ∀ k, ext S w w' k → k < w'.heap.size := fun k hk => by
  rcases hk with hk | hk
  · have := hS k hk; omega
  · exact hk.2
theorem ext_ge {B : Nat} (hS : ∀ k, S k → B ≤ k) (hB : B ≤ w.heap.size) : ∀ k, ext S w w' k → B ≤ k := fun k hk => by
  rcases hk with hk | hk
  · exact hS k hk
  · omega
theorem ext_mono (h : w'.heap.size ≤ w''.heap.size) : ∀ k, ext S w w' k → ext S w w'' k := fun k hk => hk.imp id fun e => ⟨e.1, by omega⟩
theorem ext_trans (h : w.heap.size ≤ w'.heap.size) : ∀ k, ext (ext S w w') w' w'' k → w'.heap.size ≤ w''.heap.size → ext S w w'' k := fun k hk h2 => by
  rcases hk with (hk | hk) | hk
  · exact .inl hk
  · exact .inr ⟨hk.1, by omega⟩
  · exact .inr ⟨by omega, hk.2⟩
end

/-- A block that is known whole. -/
def Blk (w : World) (g : Nat) (t : TypeId) (cs : Array Value) : Prop := w.heap[g]? = some (.cells cs t (0, 0))
section
variable {w w' : World} {g : Nat} {t : TypeId} {cs : Array Value}
theorem Blk.lt (h : Blk w g t cs) : g < w.heap.size := (Array.getElem?_eq_some_iff.1 h).1
theorem Blk.cell (h : Blk w g t cs) (i : Nat) : w.cell? ⟨g, i, none⟩ = cs[i]? := cell_of_row w g i cs t (0, 0) h
theorem Blk.frozen (h : Blk w g t cs) (i : Nat) : w.frozen? ⟨g, i, none⟩ = false := frozen_of_row w g i cs t h
theorem Blk.new (w : World) (t : TypeId) (cs : Array Value) : Blk (w.alloc (.cells cs t)) w.heap.size t cs := heap_alloc_new w _
theorem Blk.same (h : Blk w g t cs) (hb : w'.heap[g]? = w.heap[g]?) : Blk w' g t cs := hb.trans h
theorem Blk.alloc (h : Blk w g t cs) (o : Obj) : Blk (w.alloc o) g t cs := h.same (Below.heap_alloc w o g h.lt)
theorem Blk.set (h : Blk w g t cs) (i : Nat) (u : Value) : Blk (w.setCell ⟨g, i, none⟩ u) g t (cs.setIfInBounds i u) := by
  unfold Blk at h ⊢
  simp [World.setCell, Array.getElem?_modify, h]
theorem Blk.ne {g' : Nat} {t' : TypeId} {cs' : Array Value} (h : Blk w g t cs) (h' : Blk w g' t' cs') (hne : t ≠ t') : g ≠ g' := by
  rintro rfl
  unfold Blk at h h'
  rw [h] at h'
  injection h' with h'
  injection h' with _ ht
  exact hne ht
theorem own_blk {base : Nat} {e : TypeId} {size n : Nat} {v : Value} {xs : List Value} (h : w.ownsRow base e size v n xs) {k : Nat} (hk : v.ownBlock = some k) : ∃ cur, Blk w k e cur := by
  rcases h.2 with ⟨rfl, _⟩ | ⟨g', cap, cur, rfl, _, hh, _⟩
  · simp [Value.ownBlock] at hk
  · have : g' = k := by simpa [Value.ownBlock] using hk
    subst this
    exact ⟨cur, hh⟩
theorem own_same {base : Nat} {e : TypeId} {size n : Nat} {v : Value} {xs : List Value} (h : w.ownsRow base e size v n xs) (hk : ∀ k, v.ownBlock = some k → w'.heap[k]? = w.heap[k]?) : w'.ownsRow base e size v n xs := by
  refine ⟨h.1, ?_⟩
  rcases h.2 with h0 | ⟨g', cap, cur, rfl, hb, hh, r⟩
  · exact .inl h0
  · exact .inr ⟨g', cap, cur, rfl, hb, (hk g' rfl).trans hh, r⟩
end
def Yes (w : World) (e : Ending) (w' : World) : Prop := e = .returned (.bool true) ∧ Below w.heap.size w w'
theorem Yes.mk {w w' : World} (h : Below w.heap.size w w') : Yes w (.returned (.bool true)) w' := ⟨rfl, h⟩

end Mm
end Go.Proofs.YtadlhnjnhllpfaaDoor
namespace Go.Proofs.YtadlhnjnhllpfaaDoor
open Go Go.RowKit Go.Maps Go.Proofs.YtadlhnjnhllpfaaDoor.Fr
namespace Mm

/-- An entry. -/
structure En where
  key : ByteArray
  seq : Int
  del : Bool
  val : ByteArray
def En.k (e : En) : List UInt8 := e.key.toList
/-- Does it come before this key and number? -/
def bef (e : En) (k : List UInt8) (q : Int) : Prop := e.k < k ∨ (e.k = k ∧ q < e.seq)
instance (e : En) (k : List UInt8) (q : Int) : Decidable (bef e k q) := by unfold bef; infer_instance
theorem bef_trans {a b : En} {k : List UInt8} {q : Int} (h : bef a b.k b.seq) (h2 : bef b k q) : bef a k q := by
  rcases h with h | ⟨h, h'⟩
  · rcases h2 with k | ⟨k, _⟩
    · exact .inl (List.lt_trans h k)
    · exact .inl (k ▸ h)
  · rcases h2 with k | ⟨k, k'⟩
    · exact .inl (h ▸ k)
    · exact .inr ⟨h.trans k, by omega⟩
/-- What is wrong with an entry by itself. -/
def entryErr (e : En) : Int := if 64 < e.key.size ∨ 1024 < e.val.size then 3 else if e.seq < 1 ∨ 4611686018427387904 < e.seq ∨ (e.del = true ∧ e.val.toList.isEmpty = false) then 1 else 0
/-- A node: its block, its entry, how many were ahead of it, its height. -/
structure Nd where
  blk : Nat
  e : En
  older : Nat
  h : Nat
def Sorted (ns : List Nd) : Prop := ns.Pairwise fun a b => bef a.e b.e.k b.e.seq
/-- The first that is higher than l. -/
def nextAt (ns : List Nd) (l : Nat) : Option Nat := (ns.find? fun n => decide (l < n.h)).map (·.blk)
/-- The last that is higher than l; T if none is. -/
def predAt (T : Nat) (pre : List Nd) (l : Nat) : Nat := ((pre.reverse.find? fun n => decide (l < n.h)).map (·.blk)).getD T
def ptr : Option Nat → Value
  | none => .pointer none
  | some b => .pointer (some ⟨b, 0, none⟩)
theorem nextAt_none {ns : List Nd} {l : Nat} (h : nextAt ns l = none) : ∀ n ∈ ns, ¬ l < n.h := by
  unfold nextAt at h
  rw [Option.map_eq_none_iff, List.find?_eq_none] at h
  intro n hn
  simpa using h n hn
theorem nextAt_some {ns : List Nd} {l b : Nat} (h : nextAt ns l = some b) : ∃ a n r, ns = a ++ n :: r ∧ (∀ x ∈ a, ¬ l < x.h) ∧ l < n.h ∧ n.blk = b := by
  unfold nextAt at h
  obtain ⟨n, hn, rfl⟩ := Option.map_eq_some_iff.1 h
  obtain ⟨h1, a, r, h2, h3⟩ := List.find?_eq_some_iff_append.1 hn
  exact ⟨a, n, r, h2, fun x hx => by simpa using h3 x hx, by simpa using h1, rfl⟩
theorem nextAt_skip {a : List Nd} {l : Nat} (h : ∀ x ∈ a, ¬ l < x.h) (r : List Nd) : nextAt (a ++ r) l = nextAt r l := by
  unfold nextAt
  rw [List.find?_append, List.find?_eq_none.2 (fun x hx => by simpa using h x hx), Option.none_or]
theorem nextAt_cons_yes {n : Nd} {l : Nat} (h : l < n.h) (r : List Nd) : nextAt (n :: r) l = some n.blk := by simp [nextAt, h]
theorem nextAt_cons_no {n : Nd} {l : Nat} (h : ¬ l < n.h) (r : List Nd) : nextAt (n :: r) l = nextAt r l := by simp [nextAt, h]
theorem nextAt_hit {a : List Nd} {l : Nat} {x : Nd} (hx : x ∈ a) (h : l < x.h) (r r' : List Nd) : nextAt (a ++ r) l = nextAt (a ++ r') l := by
  unfold nextAt
  rw [List.find?_append, List.find?_append]
  cases hf : a.find? fun n => decide (l < n.h) with
  | none => exact absurd h (by simpa using List.find?_eq_none.1 hf x hx)
  | some y => rfl
theorem predAt_head {T : Nat} {pre : List Nd} {l : Nat} (h : ∀ x ∈ pre, ¬ l < x.h) : predAt T pre l = T := by
  unfold predAt
  rw [List.find?_eq_none.2 (fun x hx => by simpa using h x (List.mem_reverse.1 hx))]
  rfl
theorem predAt_last {T : Nat} {a b : List Nd} {m : Nd} {l : Nat} (hm : l < m.h) (h : ∀ x ∈ b, ¬ l < x.h) : predAt T (a ++ m :: b) l = m.blk := by
  unfold predAt
  rw [List.reverse_append, List.reverse_cons, List.append_assoc, List.find?_append, List.find?_eq_none.2 (fun x hx => by simpa using h x (List.mem_reverse.1 hx)), Option.none_or]
  simp [hm]
/-- What is ahead of a key and number, and what isn't. -/
def pre (ns : List Nd) (k : List UInt8) (q : Int) : List Nd := ns.takeWhile fun n => decide (bef n.e k q)
def post (ns : List Nd) (k : List UInt8) (q : Int) : List Nd := ns.dropWhile fun n => decide (bef n.e k q)
theorem pre_post (ns : List Nd) (k : List UInt8) (q : Int) : pre ns k q ++ post ns k q = ns := List.takeWhile_append_dropWhile
theorem pre_bef {k : List UInt8} {q : Int} : ∀ {ns : List Nd}, ∀ n ∈ pre ns k q, bef n.e k q
  | [], n, hn => by cases hn
  | a :: r, n, hn => by
    unfold pre at hn
    by_cases h : bef a.e k q
    · rw [List.takeWhile_cons_of_pos (by simpa using h)] at hn
      rcases List.mem_cons.1 hn with rfl | hn
      · exact h
      · exact pre_bef (ns := r) n hn
    · rw [List.takeWhile_cons_of_neg (by simpa using h)] at hn
      cases hn
theorem pre_eq {a b : List Nd} {k : List UInt8} {q : Int} (ha : ∀ n ∈ a, bef n.e k q) (hb : ∀ n r, b = n :: r → ¬ bef n.e k q) : pre (a ++ b) k q = a := by
  unfold pre
  rw [List.takeWhile_append_of_pos (fun n hn => by simpa using ha n hn)]
  cases b with
  | nil => simp
  | cons n r => rw [List.takeWhile_cons_of_neg (by simpa using hb n r rfl), List.append_nil]
theorem Sorted.mid {a b : List Nd} {n : Nd} (h : Sorted (a ++ n :: b)) : (∀ x ∈ a, bef x.e n.e.k n.e.seq) ∧ ∀ x ∈ b, bef n.e x.e.k x.e.seq := by
  unfold Sorted at h
  rw [List.pairwise_append, List.pairwise_cons] at h
  exact ⟨fun x hx => h.2.2 x hx n (by simp), h.2.1.1⟩

end Mm
end Go.Proofs.YtadlhnjnhllpfaaDoor
namespace Go.Proofs.YtadlhnjnhllpfaaDoor
open Go Go.RowKit Go.Maps Go.Sort Go.Proofs.YtadlhnjnhllpfaaDoor.Fr
namespace Mm

theorem cb_lt : ∀ a b : List UInt8, Lib.compareBytes a b < 0 ↔ a < b
  | [], [] => by simp [Lib.compareBytes]
  | [], _ :: _ => by simp [Lib.compareBytes]
  | _ :: _, [] => by simp [Lib.compareBytes]
  | x :: a, y :: b => by
    have ih := cb_lt a b
    unfold Lib.compareBytes
    rw [List.cons_lt_cons_iff]
    by_cases h1 : x < y
    · simp [h1]
    · by_cases h2 : y < x
      · have h3 : x ≠ y := fun e => by subst e; exact h1 h2
        simp [h1, h2, h3]
      · have h3 : x = y := by
          rw [UInt8.lt_iff_toNat_lt] at h1 h2
          exact UInt8.toNat_inj.1 (by omega)
        simp [h3, ih]
theorem cb_eq : ∀ a b : List UInt8, Lib.compareBytes a b = 0 ↔ a = b
  | [], [] => by simp [Lib.compareBytes]
  | [], _ :: _ => by simp [Lib.compareBytes]
  | _ :: _, [] => by simp [Lib.compareBytes]
  | x :: a, y :: b => by
    have ih := cb_eq a b
    unfold Lib.compareBytes
    by_cases h1 : x < y
    · have h3 : x ≠ y := fun e => by subst e; exact absurd h1 (UInt8.lt_irrefl x)
      simp [h1, h3]
    · by_cases h2 : y < x
      · have h3 : x ≠ y := fun e => by subst e; exact h1 h2
        simp [h1, h2, h3]
      · have h3 : x = y := by
          rw [UInt8.lt_iff_toNat_lt] at h1 h2
          exact UInt8.toNat_inj.1 (by omega)
        simp [h3, ih]
def cmpI (x y : Int) : Int := if x < y then -1 else if x > y then 1 else 0
/-- How two entries compare. -/
def cmpE (x y : En) : Int := if Lib.compareBytes x.key.data.toList y.key.data.toList = 0 then cmpI y.seq x.seq else Lib.compareBytes x.key.data.toList y.key.data.toList
theorem k_data (x : En) : x.key.data.toList = x.k := (Lib.toList_data x.key).symm
theorem cmpE_lt (x y : En) : cmpE x y < 0 ↔ bef x y.k y.seq := by
  have h1 := cb_lt x.k y.k
  have h2 := cb_eq x.k y.k
  unfold cmpE bef cmpI
  rw [k_data, k_data]
  by_cases h : x.k = y.k
  · rw [if_pos (h2.2 h), h]
    have := List.lt_irrefl y.k
    split
    · rename_i h3; simp [this, h3]
    · rename_i h3; split <;> simp [this, h3]
  · rw [if_neg fun e => h (h2.1 e), h1]
    simp [h]
theorem cmpE_eq (x y : En) : cmpE x y = 0 ↔ x.k = y.k ∧ x.seq = y.seq := by
  have h2 := cb_eq x.k y.k
  unfold cmpE cmpI
  rw [k_data, k_data]
  by_cases h : x.k = y.k
  · rw [if_pos (h2.2 h)]
    simp only [h, true_and]
    split
    · constructor <;> intro <;> omega
    · split <;> constructor <;> intro <;> omega
  · rw [if_neg fun e => h (h2.1 e), h2]
    simp [h]
theorem cstr_any (a b : ByteArray) (w : World) :
    Calls Tryd.prog 73 #[.string a, .string b] w fun e w' => e = .returned (.int .i64 (Lib.compareBytes a.data.toList b.data.toList)) ∧ w' = w := by
  go_enter Tryd.func73, Tryd.ntmps73
  go_wp2
  rw [run_callFunc_extern Tryd.func86 (by kernel_rfl) (by kernel_rfl) (by kernel_rfl) (e := Extern.BytealgCompare.compare) (by kernel_rfl), Lib.run_compareString]
  simp only [Result.andThen]
  rw [Oper.upon_value]
  go_wp2
  go_ret
  exact ⟨rfl, rfl⟩
theorem strcmp_any (a b : ByteArray) (w : World) :
    Calls Tryd.prog 54 #[.string a, .string b] w fun e w' => e = .returned (.int .i64 (Lib.compareBytes a.data.toList b.data.toList)) ∧ w' = w := by
  go_enter Tryd.func54, Tryd.ntmps54
  go_wp2_with (go_at_call 73; refine (cstr_any _ _ _).mono ?_; rintro e w2 ⟨rfl, rfl⟩)
  go_ret
  exact ⟨rfl, rfl⟩
theorem intcmp_any (x y : Int) (w : World) :
    Calls Tryd.prog 72 #[.int .i64 x, .int .i64 y] w fun e w' => e = .returned (.int .i64 (cmpI x y)) ∧ w' = w := by
  go_enter Tryd.func72, Tryd.ntmps72
  go_wp2
  all_goals (go_ret; refine ⟨?_, rfl⟩; unfold cmpI; (repeat' split) <;> first | rfl | (exfalso; omega))
/-- cmp.Or of two numbers. -/
theorem or_any (x y : Int) (w : World) (g : Nat) (h0 : w.cell? ⟨g, 0, none⟩ = some (.int .i64 x)) (h1 : w.cell? ⟨g, 1, none⟩ = some (.int .i64 y)) :
    Calls Tryd.prog 71 #[.slice (some ⟨g, 0, none⟩) 2 2] w fun e w' => e = .returned (.int .i64 (if x = 0 then y else x)) ∧ w' = w := by
  obtain ⟨z, hz⟩ : ∃ z, z = if x = 0 then y else x := ⟨_, rfl⟩
  rw [← hz]
  have HZ := Lib.hid hz
  clear hz
  go_enter Tryd.func71, Tryd.ntmps71
  go_wp2
  go_loopw [8] (fun s wx => ∃ j : Nat, j ≤ 2 ∧ s = .int .i64 ((j : Nat) : Int) ∧ wx = w ∧ (1 ≤ j → x = 0) ∧ (2 ≤ j → y = 0)) (fun s _ => 2 - (intOf s).toNat)
  case atStart => exact ⟨0, by omega, rfl, rfl, fun h => by omega, fun h => by omega⟩
  case round =>
    obtain ⟨j, hj, rfl, rfl, hx, hy⟩ := hrel
    match j, hj with
    | 0, _ =>
      by_cases hx0 : x = 0
      · subst hx0
        go_wp2
        refine ⟨⟨1, by omega, rfl, trivial, fun _ => trivial, fun h => by omega⟩, by simp [intOf]⟩
      · have k1 : (x != 0) = true := by simpa using hx0
        go_wp2
        go_ret
        exact ⟨by rw [HZ.out, if_neg hx0]; rfl, rfl⟩
    | 1, _ =>
      obtain rfl := hx (by omega)
      by_cases hy0 : y = 0
      · subst hy0
        go_wp2
        refine ⟨⟨2, by omega, rfl, trivial, fun _ => trivial, fun _ => trivial⟩, by simp [intOf]⟩
      · have k1 : (y != 0) = true := by simpa using hy0
        go_wp2
        go_ret
        exact ⟨by have hz := HZ.out; simp at hz; rw [hz]; rfl, rfl⟩
    | 2, _ =>
      obtain rfl := hx (by omega)
      obtain rfl := hy (by omega)
      go_wp2
      go_ret
      exact ⟨by have hz := HZ.out; simp at hz; rw [hz]; rfl, rfl⟩
def enV (e : En) : Value := .agg #[.string e.key, .int .i64 e.seq, .bool e.del, .string e.val]
/-- Both entries in boxes. -/
def CmS (A B : Nat) (x y : En) (W : World) : Prop := W.cell? ⟨A, 0, none⟩ = some (.string x.key) ∧ W.cell? ⟨A, 1, none⟩ = some (.int .i64 x.seq) ∧ W.cell? ⟨B, 0, none⟩ = some (.string y.key) ∧ W.cell? ⟨B, 1, none⟩ = some (.int .i64 y.seq)
theorem CmS.alloc {A B : Nat} {x y : En} {W : World} (h : CmS A B x y W) (o : Obj) : CmS A B x y (W.alloc o) := by
  obtain ⟨a, b, c, d⟩ := h
  have l1 := World.block_lt_of_cell? W _ a
  have l2 := World.block_lt_of_cell? W _ c
  exact ⟨(World.cell?_alloc_lt W o ⟨A, 0, none⟩ l1).trans a, (World.cell?_alloc_lt W o ⟨A, 1, none⟩ l1).trans b, (World.cell?_alloc_lt W o ⟨B, 0, none⟩ l2).trans c, (World.cell?_alloc_lt W o ⟨B, 1, none⟩ l2).trans d⟩
def CmP (w : World) (x y : En) (W : World) : Prop := CmS w.heap.size (w.heap.size + 1) x y W ∧ Below w.heap.size w W
theorem CmP.alloc {w : World} {x y : En} {W : World} (h : CmP w x y W) (o : Obj) : CmP w x y (W.alloc o) := ⟨h.1.alloc o, h.2.alloc h.2.size o⟩
theorem CmP.drew {w : World} {x y : En} {W : World} (h : CmP w x y W) : CmP w x y W.drew := ⟨h.1, below_drewN h.2 1⟩
theorem CmP.mk (w : World) (x y : En) : CmP w x y ((w.alloc (.cells #[.string x.key, .int .i64 x.seq, .bool x.del, .string x.val] 42)).alloc (.cells #[.string y.key, .int .i64 y.seq, .bool y.del, .string y.val] 42)) := by
  have h1 := (Blk.new w 42 #[.string x.key, .int .i64 x.seq, .bool x.del, .string x.val]).alloc (.cells #[.string y.key, .int .i64 y.seq, .bool y.del, .string y.val] 42)
  have h2 := Blk.new (w.alloc (.cells #[.string x.key, .int .i64 x.seq, .bool x.del, .string x.val] 42)) 42 #[.string y.key, .int .i64 y.seq, .bool y.del, .string y.val]
  rw [World.size_alloc] at h2
  exact ⟨⟨(h1.cell 0).trans rfl, (h1.cell 1).trans rfl, (h2.cell 0).trans rfl, (h2.cell 1).trans rfl⟩, ((Below.refl _ _).alloc (Nat.le_refl _) _).alloc (by simp) _⟩
theorem lit_drew (W : World) (t : TypeId) (cs : Array Value) (i : Nat) : ((W.alloc (.cells cs t)).drew).cell? ⟨W.heap.size, i, none⟩ = cs[i]? := (Blk.new W t cs).cell i
set_option maxHeartbeats 1000000 in
theorem compare_any (w : World) (x y : En) :
    Calls Tryd.prog 51 #[.agg #[.string x.key, .int .i64 x.seq, .bool x.del, .string x.val], .agg #[.string y.key, .int .i64 y.seq, .bool y.del, .string y.val]] w fun e w' => e = .returned (.int .i64 (cmpE x y)) ∧ Below w.heap.size w w' := by
  obtain ⟨c, hc⟩ : ∃ c, c = Lib.compareBytes x.key.data.toList y.key.data.toList := ⟨_, rfl⟩
  obtain ⟨d, hd⟩ : ∃ d, d = cmpI y.seq x.seq := ⟨_, rfl⟩
  obtain ⟨z, hz⟩ : ∃ z, z = cmpE x y := ⟨_, rfl⟩
  have HZ := Lib.hid (show (if c = 0 then d else c) = z by rw [hz, hc, hd]; rfl)
  have h1 := fun W => strcmp_any x.key y.key W
  have h2 := fun W => intcmp_any y.seq x.seq W
  rw [← hc] at h1
  rw [← hd] at h2
  rw [← hz]
  have H1 := Lib.hid h1
  have H2 := Lib.hid h2
  have H3 := Lib.hid (fun (W : World) (g : Nat) (a : W.cell? ⟨g, 0, none⟩ = some (.int .i64 c)) (b : W.cell? ⟨g, 1, none⟩ = some (.int .i64 d)) => (show Calls Tryd.prog 71 #[.slice (some ⟨g, 0, none⟩) 2 2] W fun e w' => e = .returned (.int .i64 z) ∧ w' = W by have := or_any c d W g a b; rwa [HZ.out] at this))
  clear HZ
  have hp := CmP.mk w x y
  clear hz hc hd h1 h2
  go_enter Tryd.func51, Tryd.ntmps51
  go_upto_region 1 with fail
  obtain ⟨W0, hW0⟩ : ∃ W0, W0 = (w.alloc (.cells #[.string x.key, .int .i64 x.seq, .bool x.del, .string x.val] 42)).alloc (.cells #[.string y.key, .int .i64 y.seq, .bool y.del, .string y.val] 42) := ⟨_, rfl⟩
  rw [← hW0] at hp ⊢
  clear hW0
  refine wp_region_held_drew (S := CmP w x y) (by kernel_rfl) (by (first | (with_reducible assumption) | (with_reducible exact CmP.drew (by assumption)) | (with_reducible exact CmP.drew (CmP.alloc hp _)) | (with_reducible exact CmP.alloc (by assumption) _))) (fun hHeld => ?_)
  refine wpAnyH_take (i := 0) (v := ?vr1_0) (Fr.take_at rfl) (by kernel_rfl) (by kernel_rfl) (by kernel_rfl) (fun _ _ _ h => h) (Or.inl ⟨by rfl, ?yr1_0⟩) (by assumption) ?nr1_0
  case yr1_0 => (intro w_ hSw; obtain ⟨⟨q0, q1, q2, q3⟩, _⟩ := hSw; go_simp; (try with_reducible rfl))
  try simp only [Act.put, List.setIfInBounds_toArray, List.set_cons_zero, List.set_cons_succ]
  refine wpAnyH_take (i := 1) (v := ?vr1_1) (Fr.take_at rfl) (by kernel_rfl) (by kernel_rfl) (by kernel_rfl) (fun _ _ _ h => h) (Or.inl ⟨by rfl, ?yr1_1⟩) (by assumption) ?nr1_1
  case yr1_1 => (intro w_ hSw; obtain ⟨⟨q0, q1, q2, q3⟩, _⟩ := hSw; go_simp; (try with_reducible rfl))
  try simp only [Act.put, List.setIfInBounds_toArray, List.set_cons_zero, List.set_cons_succ]
  refine wpAnyH_take (i := 2) (v := ?vr1_2) (Fr.take_at rfl) (by kernel_rfl) (by kernel_rfl) (by kernel_rfl) (fun _ _ _ h => h) (Or.inl ⟨by rfl, ?yr1_2⟩) (by assumption) ?nr1_2
  case yr1_2 => (intro w_ hSw; obtain ⟨⟨q0, q1, q2, q3⟩, _⟩ := hSw; go_simp; (try with_reducible rfl))
  try simp only [Act.put, List.setIfInBounds_toArray, List.set_cons_zero, List.set_cons_succ]
  refine wpAnyH_take (i := 3) (v := ?vr1_3) (Fr.take_at rfl) (by kernel_rfl) (by kernel_rfl) (by kernel_rfl) (fun _ _ _ h => h) (Or.inl ⟨by rfl, ?yr1_3⟩) (by assumption) ?nr1_3
  case yr1_3 => (intro w_ hSw; obtain ⟨⟨q0, q1, q2, q3⟩, _⟩ := hSw; go_simp; (try with_reducible rfl))
  try simp only [Act.put, List.setIfInBounds_toArray, List.set_cons_zero, List.set_cons_succ]
  refine wpAnyH_take (i := 5) (v := ?vr1_5) (Fr.take_at rfl) (by kernel_rfl) (by kernel_rfl) (by kernel_rfl) (fun _ _ _ h => h) (Or.inl ⟨by rfl, ?yr1_5⟩) (by assumption) ?nr1_5
  case yr1_5 => (intro w_ hSw; obtain ⟨⟨q0, q1, q2, q3⟩, _⟩ := hSw; go_simp; (try with_reducible rfl))
  try simp only [Act.put, List.setIfInBounds_toArray, List.set_cons_zero, List.set_cons_succ]
  refine wpAnyH_take (i := 6) (v := ?vr1_6) (Fr.take_at rfl) (by kernel_rfl) (by kernel_rfl) (by kernel_rfl) (fun _ _ _ h => h) (Or.inl ⟨by rfl, ?yr1_6⟩) (by assumption) ?nr1_6
  case yr1_6 => (intro w_ hSw; obtain ⟨⟨q0, q1, q2, q3⟩, _⟩ := hSw; go_simp; (try with_reducible rfl))
  try simp only [Act.put, List.setIfInBounds_toArray, List.set_cons_zero, List.set_cons_succ]
  refine wpAnyH_take (i := 7) (v := ?vr1_7) (Fr.take_at rfl) (by kernel_rfl) (by kernel_rfl) (by kernel_rfl) (fun _ _ _ h => h) (Or.inl ⟨by rfl, ?yr1_7⟩) (by assumption) ?nr1_7
  case yr1_7 => (intro w_ hSw; obtain ⟨⟨q0, q1, q2, q3⟩, _⟩ := hSw; go_simp; (try with_reducible rfl))
  try simp only [Act.put, List.setIfInBounds_toArray, List.set_cons_zero, List.set_cons_succ]
  refine wpAnyH_take (i := 8) (v := ?vr1_8) (Fr.take_at rfl) (by kernel_rfl) (by kernel_rfl) (by kernel_rfl) (fun _ _ _ h => h) (Or.inl ⟨by rfl, ?yr1_8⟩) (by assumption) ?nr1_8
  case yr1_8 => (intro w_ hSw; obtain ⟨⟨q0, q1, q2, q3⟩, _⟩ := hSw; go_simp; (try with_reducible rfl))
  try simp only [Act.put, List.setIfInBounds_toArray, List.set_cons_zero, List.set_cons_succ]
  refine wpAnyH_ready (rs := [4]) (by kernel_rfl) (by simp) ?_
  refine AllReadyH.cons (Fr.take_at rfl) (fun K hK => ?_) AllReadyH.nil
  go_simp
  (go_at_call 54; refine (H1.out _).mono ?_; rintro e w2 ⟨rfl, rfl⟩)
  try go_wp2_with fail
  refine hK.out _ _ (by (first | (with_reducible assumption) | (with_reducible exact CmP.drew (by assumption)) | (with_reducible exact CmP.drew (CmP.alloc hp _)) | (with_reducible exact CmP.alloc (by assumption) _))) (fun hHeld => ?_)
  clear hK K
  try simp only [Act.put, List.setIfInBounds_toArray, List.set_cons_zero, List.set_cons_succ]
  refine wpAnyH_ready (rs := [9]) (by kernel_rfl) (by simp) ?_
  refine AllReadyH.cons (Fr.take_at rfl) (fun K hK => ?_) AllReadyH.nil
  go_simp
  (go_at_call 72; refine (H2.out _).mono ?_; rintro e w2 ⟨rfl, rfl⟩)
  try go_wp2_with fail
  refine hK.out _ _ (by (first | (with_reducible assumption) | (with_reducible exact CmP.drew (by assumption)) | (with_reducible exact CmP.drew (CmP.alloc hp _)) | (with_reducible exact CmP.alloc (by assumption) _))) (fun hHeld => ?_)
  clear hK K
  try simp only [Act.put, List.setIfInBounds_toArray, List.set_cons_zero, List.set_cons_succ]
  refine wpAnyH_ready (rs := [10]) (by kernel_rfl) (by simp) ?_
  refine AllReadyH.cons (Fr.take_at rfl) (fun K hK => ?_) AllReadyH.nil
  go_simp
  refine hK.out _ _ (by (first | (with_reducible assumption) | (with_reducible exact CmP.drew (by assumption)) | (with_reducible exact CmP.drew (CmP.alloc hp _)) | (with_reducible exact CmP.alloc (by assumption) _))) (fun hHeld => ?_)
  clear hK K
  try simp only [Act.put, List.setIfInBounds_toArray, List.set_cons_zero, List.set_cons_succ]
  refine wpAnyH_ready (rs := [11]) (by kernel_rfl) (by simp) ?_
  refine AllReadyH.cons (Fr.take_at rfl) (fun K hK => ?_) AllReadyH.nil
  go_simp
  (go_at_call 71; refine (H3.out _ _ ((lit_drew _ _ _ 0).trans rfl) ((lit_drew _ _ _ 1).trans rfl)).mono ?_; rintro e w2 ⟨rfl, rfl⟩)
  try go_wp2_with fail
  refine hK.out _ _ (by (first | (with_reducible assumption) | (with_reducible exact CmP.drew (by assumption)) | (with_reducible exact CmP.drew (CmP.alloc hp _)) | (with_reducible exact CmP.alloc (by assumption) _))) (fun hHeld => ?_)
  clear hK K
  try simp only [Act.put, List.setIfInBounds_toArray, List.set_cons_zero, List.set_cons_succ]
  refine wpAnyH_take (i := 12) (v := ?vr1_12) (Fr.take_at rfl) (by kernel_rfl) (by kernel_rfl) (by kernel_rfl) (fun _ _ _ h => h) (Or.inl ⟨by rfl, ?yr1_12⟩) (by assumption) ?nr1_12
  case yr1_12 => (intro w_ hSw; obtain ⟨⟨q0, q1, q2, q3⟩, _⟩ := hSw; go_simp; (try with_reducible rfl))
  try simp only [Act.put, List.setIfInBounds_toArray, List.set_cons_zero, List.set_cons_succ]
  refine wpAnyH_done (by kernel_rfl) ?_ _
  go_wp2
  go_ret
  exact ⟨rfl, hHeld.2⟩
theorem check_any (w : World) (e : En) :
    Calls Tryd.prog 57 #[.agg #[.string e.key, .int .i64 e.seq, .bool e.del, .string e.val]] w fun x w' => x = .returned (.int .i64 (entryErr e)) ∧ Below w.heap.size w w' := by
  obtain ⟨z, hz⟩ : ∃ z, z = entryErr e := ⟨_, rfl⟩
  have HZ := Lib.hid hz
  rw [← hz]
  clear hz
  go_enter Tryd.func57, Tryd.ntmps57
  go_wp2
  all_goals go_ret
  all_goals (refine ⟨?_, (Below.refl _ _).alloc (Nat.le_refl _) _⟩; rw [HZ.out]; unfold entryErr; clear HZ; first | (rw [if_pos (by omega)]; rfl) | (rw [if_neg (by omega), if_pos (by simp_all [or_assoc])]; rfl) | (rw [if_neg (by omega), if_pos (by omega)]; rfl) | (rw [if_neg (by omega), if_neg (by simp_all; omega)]; rfl) | (rw [if_neg (by omega), if_neg (by simp_all)]; rfl))

end Mm
end Go.Proofs.YtadlhnjnhllpfaaDoor
