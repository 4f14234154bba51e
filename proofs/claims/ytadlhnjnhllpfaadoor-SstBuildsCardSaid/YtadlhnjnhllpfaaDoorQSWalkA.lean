/-
  WHAT IS PROVED: (1) what appendOffset of package sstable answers. CONDITIONS: the bytes are a row of the caller's own. (2) what seal, delByte, firstKey, lastKey and blockPayload of package sstable answer, and the reference's Entry and four. CONDITIONS: what comes in stands in memory as named.
-/
import Derived.Test.YtadlhnjnhllpfaaDoorQSPlain
import Derived.Test.YtadlhnjnhllpfaaDoorQWalkH
import Derived.Test.YtadlhnjnhllpfaaDoorQSOpen
import Derived.Deep.Cut
namespace Go.Proofs.YtadlhnjnhllpfaaDoor
open Go Go.RowKit Go.Proofs.YtadlhnjnhllpfaaDoor.Mm Go.Proofs.YtadlhnjnhllpfaaDoor.Fr
namespace Ss
/-- What is no row of bytes stays. -/
def KeepsU (w w' : World) : Prop := ∀ (k : Nat) (o : Obj), w.heap[k]? = some o → (∀ cs f, o ≠ .cells cs 5 f) → w'.heap[k]? = some o
theorem KeepsU.refl (w : World) : KeepsU w w := fun _ _ h _ => h
theorem KeepsU.step {w w1 w2 : World} {o : Obj} {base n : Nat} {v : Value} {xs : List Value} (h : KeepsU w w1) (ho : w1.ownsRow base 5 1 v n xs) (hg : (w1.alloc o).grownBy w2 v.ownBlock) : KeepsU w w2 := fun k ob hk hn => by
  have h1 := h k ob hk hn
  have hlt : k < w1.heap.size := (Array.getElem?_eq_some_iff.1 h1).1
  refine (hg.block k (by simp; omega) fun e => ?_).trans ((Below.heap_alloc w1 o k hlt).trans h1)
  obtain ⟨cur, hb⟩ := own_blk ho e.symm
  rw [show w1.heap[k]? = _ from hb] at h1
  cases h1
  exact hn cur _ rfl
def ApoRet (base : Nat) (w : World) (l : Bs) (e : Ending) (w' : World) : Prop := ∃ A m c, e = .returned (.slice A m c) ∧ l.length = m ∧ w'.ownsRow base 5 1 (.slice A m c) m (bv l) ∧ Below base w w' ∧ KeepsU w w'
section
variable {w : World} {A : Option Addr} {n c base z : Nat} {l : Bs}
set_option maxRecDepth 100000 in
theorem appendOffset_any (hl : l.length = n) (hn : n ≤ 1000000) (ho : w.ownsRow base 5 1 (.slice A n c) n (bv l)) (hb : base ≤ w.heap.size) :
    Calls Tryd.prog 36 #[.slice A n c, .int .i64 (z : Int)] w (ApoRet base w (l ++ le4 z)) := by
  obtain ⟨i0, hi, hz0, hz1, hz2⟩ := info_parts Fr.info_u8
  have HL := Lib.hid hl
  have HO := Lib.hid ho
  clear hl ho
  go_enter Tryd.func36, Tryd.ntmps36
  go_wp2
  go_loopw [0, 6] (fun v i wr => ∃ (j m c : Nat) (A : Option Addr), j ≤ 4 ∧ i = .int .i64 (j : Int) ∧ v = .slice A m c ∧ Hid (m = n + j) ∧ m ≤ 1000004 ∧ Hid (wr.ownsRow base 5 1 (.slice A m c) m (bv (l ++ (le4 z).take j))) ∧ Hid (Below base w wr) ∧ Hid (KeepsU w wr)) (fun _ i _ => 4 - (intOf i).toNat)
  case atStart => exact ⟨0, n, c, A, by omega, rfl, rfl, Lib.hid rfl, by omega, by rw [List.take_zero, List.append_nil]; exact HO, Lib.hid (Below.refl _ _), Lib.hid (KeepsU.refl _)⟩
  case round =>
    obtain ⟨j, m, c', A', hj, rfl, rfl, HM, hm, HOW, HB, HKU⟩ := hrel
    by_cases hlt : j < 4
    · have k1 : (j : Int) < 4 := by omega
      have k2 : (0 : Int) ≤ (j : Int) := by omega
      have hbs : w.heap.size ≤ wr.heap.size := HB.out.size
      have HSN := Lib.hid (le4_take_succ z hlt)
      go_wp2_with (at_builtin; refine wpList_app _ rfl (.tmp 9) (.tmp 15) _ rfl base 5 i0 _ 1 Tryd.underlying25 hi hz0 hz1 hz2 rfl (.slice A' m c') m (bv (l ++ (le4 z).take j)) rfl (HOW.out.alloc _) (some ⟨wr.heap.size, 0, none⟩) 1 1 [_] rfl rfl (Rd.one _ _ _ _ _ rfl) (by intro u hu; simp at hu; subst hu; rfl) (m + 1) rfl (by unfold maxLen; omega) (by have := HM.out; omega) (by have := hb; simp; omega) ?_; intro A2 c2 w2 hown2 hb2 hg2 _)
      go_roundw
      case rel =>
        refine ⟨j + 1, m + 1, c2, A2, by omega, by go_num, rfl, Lib.hid (by rw [HM.out]; omega), by have := HM.out; omega, Lib.hid ?_, Lib.hid ((HB.out.trans ((Below.refl _ _).alloc (Nat.le_trans hb hbs) _)).trans hb2), Lib.hid (HKU.out.step HOW.out hg2)⟩
        rw [shr_cast, bv_snoc _ (by omega), List.append_assoc, ← HSN.out] at hown2
        exact hown2
      case measure => simp [intOf]; omega
    · obtain rfl : j = 4 := by omega
      have hown := HOW.out
      rw [List.take_of_length_le (by rw [le4_length]; exact Nat.le_refl _)] at hown
      go_wp2
      go_ret
      exact ⟨A', m, c', rfl, by rw [List.length_append, HL.out, le4_length, HM.out], hown, HB.out, HKU.out⟩
end
end Ss
end Go.Proofs.YtadlhnjnhllpfaaDoor
namespace Go.Proofs.YtadlhnjnhllpfaaDoor
open Go Go.RowKit Go.Proofs.YtadlhnjnhllpfaaDoor.Mm Go.Proofs.YtadlhnjnhllpfaaDoor.Fr
namespace Ss
theorem seal_any (A : Option Addr) (n c : Nat) (l : Bs) (w : World) (hl : l.length = n) (hr : Rd w A (bv l)) (hn : n ≤ 4096) (ht : Tab w) :
    Calls Tryd.prog 30 #[.slice A n c] w (MadeRet 5 w (sealOf l)) := by
  have HF := Lib.hid (Fseal_yes A n c l w hl hr hn ht)
  clear hl hr ht
  go_enter Tryd.func30, Tryd.ntmps30
  go_wp2_with (go_at_call 59; refine HF.out.mono ?_; rintro e w1 ⟨v, rfl, hv⟩)
  go_ret
  exact ⟨v, rfl, hv⟩
theorem delByte_any (b : Bool) (w : World) :
    Calls Tryd.prog 60 #[.bool b] w fun e w' => e = .returned (.int .u8 ((delB b).toNat : Int)) ∧ w = w' := by
  cases b
  all_goals (go_enter Tryd.func60, Tryd.ntmps60; go_wp2; go_ret; exact ⟨rfl, rfl⟩)
theorem own_bel {w w' : World} {base size n : Nat} {e : TypeId} {v : Value} {xs : List Value} (h : w.ownsRow base e size v n xs) (hb : Below w.heap.size w w') : w'.ownsRow base e size v n xs := own_same h fun k hk => by
  obtain ⟨_, h1⟩ := own_blk h hk
  exact hb.block k h1.lt
theorem blk_grown {W W' : World} {g base n : Nat} {t e : TypeId} {cs : Array Value} {v : Value} {xs : List Value} (h : Blk W g t cs) (ho : W.ownsRow base e 1 v n xs) (hne : t ≠ e) (hg : W.grownBy W' v.ownBlock) : Blk W' g t cs := h.same (hg.block g h.lt fun e' => by
  rcases own_ne_b ho h hne with h1 | h1
  · rw [h1] at e'; cases e'
  · exact h1 e'.symm)
section
variable {w : World} {A : Option Addr} {n c : Nat} {b : List En}
theorem first_any {x : En} (hn : 0 < n) (hx : b[0]? = some x) (hr : Rd w A (ev b)) :
    Calls Tryd.prog 33 #[.slice A n c] w fun e w' => e = .returned (.string x.key) ∧ w = w' := by
  obtain ⟨g, p, rfl, hg, x0, _, _, _⟩ := erd_at hr hx
  have k1 : (0 : Int) < (n : Int) := by omega
  go_enter Tryd.func33, Tryd.ntmps33
  simp only [Nat.zero_mul, Nat.add_zero] at x0
  go_wp2
  go_ret
  exact ⟨rfl, rfl⟩
theorem last_any {x : En} {j : Nat} (hn : n = j + 1) (hx : b[j]? = some x) (hr : Rd w A (ev b)) (hn2 : n ≤ 1000000) :
    Calls Tryd.prog 34 #[.slice A n c] w fun e w' => e = .returned (.string x.key) ∧ w = w' := by
  obtain ⟨g, p, rfl, hg, x0, _, _, _⟩ := erd_at hr hx
  have k1 : (n : Int) - 1 = (j : Int) := by omega
  have k2 : (0 : Int) ≤ (j : Int) := by omega
  have k3 : (j : Int) < (n : Int) := by omega
  go_enter Tryd.func34, Tryd.ntmps34
  go_wp2
  go_ret
  exact ⟨rfl, rfl⟩
theorem le_of_eq_le {a b m : Nat} (h : a = m) (h2 : a ≤ b) : m ≤ b := h ▸ h2
/-- A block's payload, j entries in. -/
def PyI (w : World) (b : List En) (n : Nat) (v i : Value) (wr : World) : Prop :=
  ∃ (j k c : Nat) (A : Option Addr), j ≤ n ∧ i = .int .i64 (j : Int) ∧ v = .slice A k c ∧ k ≤ 1101 * j ∧ Hid ((blockB (b.take j)).length = k) ∧ Hid (wr.ownsRow w.heap.size 5 1 (.slice A k c) k (bv (blockB (b.take j)))) ∧ Hid (Below w.heap.size w wr)
theorem block_step {b : List En} {j : Nat} {x : En} (hx : b[j]? = some x) : blockB (b.take (j + 1)) = blockB (b.take j) ++ encE x := by
  rw [List.take_add_one, hx]
  simp [blockB]
set_option maxRecDepth 100000 in
set_option maxHeartbeats 1600000 in
theorem payload_any (hl : b.length = n) (hn : n ≤ 3) (hr : Rd w A (ev b)) (ho : ∀ e ∈ b, entryErr e = 0) :
    Calls Tryd.prog 31 #[.slice A n c] w (MadeRet 5 w (blockB b)) := by
  obtain ⟨i0, hi, hz, hz1, hz2⟩ := info_parts Fr.info_u8
  have HL := Lib.hid hl
  have HR := Lib.hid hr
  have HO := Lib.hid ho
  clear hl hr ho
  go_enter Tryd.func31, Tryd.ntmps31
  go_wp2
  go_loopw [3, 8] (PyI w b n) (fun _ i _ => n - (intOf i).toNat)
  case atStart => exact ⟨0, 0, 0, none, by omega, rfl, rfl, by omega, Lib.hid rfl, Lib.hid (World.ownsRow_nil _ _ _ _), Lib.hid (Below.refl _ _)⟩
  case round =>
    obtain ⟨j, k, c', A', hj, rfl, rfl, hk, HK, HOW, HB⟩ := hrel
    by_cases hlt : j < n
    · obtain ⟨x, hx⟩ : ∃ x, b[j]? = some x := ⟨b[j]'(by have := HL.out; omega), List.getElem?_eq_getElem _⟩
      obtain ⟨g, p, rfl, hg, x0, x1, x2, x3⟩ := erd_at (HR.out.below HB.out) hx
      have hok := HO.out x (List.mem_of_getElem? hx)
      obtain ⟨z1, z2, z3, z4⟩ := entry_ok hok
      obtain ⟨N, hN⟩ : ∃ N : Nat, x.seq = (N : Int) := ⟨x.seq.toNat, by omega⟩
      have hNt : x.seq.toNat = N := by omega
      have hst := block_step hx
      have hel := (encE_len hok).1
      rw [hN] at x1
      obtain ⟨W0, hW0⟩ : ∃ W0, W0 = wr.alloc (.cells #[.string x.key, .int .i64 (N : Int), .bool x.del, .string x.val] 42) := ⟨_, rfl⟩
      have hE : Blk W0 wr.heap.size 42 #[.string x.key, .int .i64 (N : Int), .bool x.del, .string x.val] := by rw [hW0]; exact Blk.new wr _ _
      have hO0 := HOW.out.alloc (.cells #[.string x.key, .int .i64 (N : Int), .bool x.del, .string x.val] 42)
      have hB0 := HB.out.alloc HB.out.size (.cells #[.string x.key, .int .i64 (N : Int), .bool x.del, .string x.val] 42)
      rw [← hW0] at hO0 hB0
      have e1 := len_enc 0 (kB x).length (by rw [kB_len]; simp; omega)
      have e2 := len_enc 8 N (by simp only [Nat.reduceAdd, Nat.reducePow]; omega)
      have e3 := len_enc 1 (vB x).length (by rw [vB_len]; simp only [Nat.reduceAdd, Nat.reducePow]; omega)
      have q1 : (textOf x.key.data.toList).length ≤ 65 := by
        have h1 : x.key.data.toList.length = x.key.size := rfl
        rw [kB_len] at e1; unfold textOf; rw [List.length_append, h1]; omega
      have q3 : (textOf x.val.data.toList).length ≤ 1026 := by
        have h1 : x.val.data.toList.length = x.val.size := rfl
        rw [vB_len] at e3; unfold textOf; rw [List.length_append, h1]; omega
      have k1 : (j : Int) < (n : Int) := by omega
      have k2 : (0 : Int) ≤ (j : Int) := by omega
      have HE0 := Lib.hid hE
      have HO0 := Lib.hid hO0
      have HW0 := Lib.hid hB0
      have HST := Lib.hid hst
      have HQ1 := Lib.hid q1
      have HQ2 := Lib.hid e2
      have HQ3 := Lib.hid q3
      have HZ1 := Lib.hid (show x.key.size ≤ 70368744177664 by omega)
      have HZ2 := Lib.hid (show N < 18446744073709551616 by omega)
      have HZ3 := Lib.hid (show x.val.size ≤ 70368744177664 by omega)
      have HNN := Lib.hid hNt
      have hN62 : (N : Int) ≤ 4611686018427387904 := by omega
      have HEL := Lib.hid hel
      clear hst hok hx e1 e2 e3 q1 q3 hN hNt hO0 hB0 z3 z4 hel
      go_upto_region 5 with fail
      rw [← hW0]
      obtain ⟨E, hEE⟩ : ∃ E, E = wr.heap.size := ⟨_, rfl⟩
      rw [← hEE] at HE0 ⊢
      have hE := HE0.out
      obtain ⟨⟨y0, y1, y2, y3⟩, _⟩ := cells4 hE
      clear hW0 hEE hE x0 x1 x2 x3 z1 z2
      go_wp2_with (first
        | (go_at_call 32; (with_reducible refine (Ftext_any x.key W0 HZ1.out).mono ?_); rintro e w1 ⟨u1v, rfl, A1, m1, c1, rfl, hm1, hc1, hr1, hb1⟩; have hE1 := (HE0.out).same (hb1.block _ (HE0.out).lt); have hO1 := own_bel HO0.out hb1; have hW1 := (HW0.out).trans (hb1.mono (HW0.out).size); obtain ⟨⟨y0, y1, y2, y3⟩, _⟩ := cells4 hE1; have hm1b := le_of_eq_le hm1 HQ1.out; have HM1 := Lib.hid hm1; have HR1 := Lib.hid hr1; have HE1 := Lib.hid hE1; have HO1 := Lib.hid hO1; have HW1 := Lib.hid hW1; clear hm1 hr1 hE1 hO1 hW1 hb1)
        | (at_builtin; refine wpList_app _ rfl (.tmp 12) (.tmp 15) _ rfl w.heap.size 5 i0 _ 1 Tryd.underlying25 hi hz hz1 hz2 rfl (.slice A' (k) c') (k) (bv (blockB (b.take j))) rfl HO1.out A1 m1 c1 (bv (textOf x.key.data.toList)) rfl (by rw [bv_length]; exact HM1.out) (Rd.own HR1.out) (Fr.bv_one _) (k + m1) rfl (by unfold maxLen; omega) (by omega) HW1.out.size ?_; intro B2 d2 v2 hown2 hb2 hg2 _; have hE2 := blk_grown HE1.out HO1.out (by decide) hg2; have hW2 := HW1.out.trans hb2; obtain ⟨⟨y0, y1, y2, y3⟩, _⟩ := cells4 hE2; have HO2 := Lib.hid hown2; have HE2 := Lib.hid hE2; have HW2 := Lib.hid hW2; clear hown2 hb2 hg2 hE2 hW2)
        | (go_at_call 28; (with_reducible refine (Fuint_any N v2 HZ2.out).mono ?_); rintro e w3 ⟨u3v, rfl, A3, m3, c3, rfl, hm3, hc3, hr3, hb3⟩; have hE3 := HE2.out.same (hb3.block _ HE2.out.lt); have hO3 := own_bel HO2.out hb3; have hW3 := HW2.out.trans (hb3.mono HW2.out.size); obtain ⟨⟨y0, y1, y2, y3⟩, _⟩ := cells4 hE3; have HM3 := Lib.hid hm3; have HR3 := Lib.hid hr3; have HE3 := Lib.hid hE3; have HO3 := Lib.hid hO3; have HW3 := Lib.hid hW3; have hm3b := le_of_eq_le hm3 HQ2.out; clear hm3 hr3 hE3 hO3 hW3 hb3)
        | (at_builtin; refine wpList_app _ rfl (.tmp 17) (.tmp 21) _ rfl w.heap.size 5 i0 _ 1 Tryd.underlying25 hi hz hz1 hz2 rfl (.slice B2 (k + m1) d2) (k + m1) (bv (blockB (b.take j)) ++ bv (textOf x.key.data.toList)) rfl HO3.out A3 m3 c3 (bv (enc N)) rfl (by rw [bv_length]; exact HM3.out) (Rd.own HR3.out) (Fr.bv_one _) (k + m1 + m3) rfl (by unfold maxLen; omega) (by omega) HW3.out.size ?_; intro B4 d4 v4 hown4 hb4 hg4 _; have hE4 := blk_grown HE3.out HO3.out (by decide) hg4; have hW4 := HW3.out.trans hb4; obtain ⟨⟨y0, y1, y2, y3⟩, _⟩ := cells4 hE4; have HO4 := Lib.hid hown4; have HE4 := Lib.hid hE4; have HW4 := Lib.hid hW4; clear hown4 hb4 hg4 hE4 hW4)
        | (go_at_call 60; refine (delByte_any x.del v4).mono ?_; rintro e w5 ⟨rfl, rfl⟩; have hE5 := HE4.out.alloc (.cells #[.int .u8 ((delB x.del).toNat : Int)] 5); have hO5 := HO4.out.alloc (.cells #[.int .u8 ((delB x.del).toNat : Int)] 5); have hW5 := HW4.out.alloc HW4.out.size (.cells #[.int .u8 ((delB x.del).toNat : Int)] 5); have HE5 := Lib.hid hE5; have HO5 := Lib.hid hO5; have HW5 := Lib.hid hW5; clear hE5 hO5 hW5)
        | (at_builtin; refine wpList_app _ rfl (.tmp 23) (.tmp 27) _ rfl w.heap.size 5 i0 _ 1 Tryd.underlying25 hi hz hz1 hz2 rfl (.slice B4 (k + m1 + m3) d4) (k + m1 + m3) (bv (blockB (b.take j)) ++ bv (textOf x.key.data.toList) ++ bv (enc N)) rfl HO5.out (some ⟨v4.heap.size, 0, none⟩) 1 1 ([.int .u8 ((delB x.del).toNat : Int)]) rfl rfl (Rd.one _ _ _ _ _ rfl) (by intro u hu; simp at hu; subst hu; rfl) (k + m1 + m3 + 1) rfl (by unfold maxLen; omega) (by omega) HW5.out.size ?_; intro B6 d6 v6 hown6 hb6 hg6 _; have hE6 := blk_grown HE5.out HO5.out (by decide) hg6; have hW6 := HW5.out.trans hb6; obtain ⟨⟨y0, y1, y2, y3⟩, _⟩ := cells4 hE6; have HO6 := Lib.hid hown6; have HE6 := Lib.hid hE6; have HW6 := Lib.hid hW6; clear hown6 hb6 hg6 hE6 hW6)
        | (go_at_call 32; (with_reducible refine (Ftext_any x.val v6 HZ3.out).mono ?_); rintro e w7 ⟨u7v, rfl, A7, m7, c7, rfl, hm7, hc7, hr7, hb7⟩; have hE7 := (HE6.out).same (hb7.block _ (HE6.out).lt); have hO7 := own_bel HO6.out hb7; have hW7 := (HW6.out).trans (hb7.mono (HW6.out).size); obtain ⟨⟨y0, y1, y2, y3⟩, _⟩ := cells4 hE7; have hm7b := le_of_eq_le hm7 HQ3.out; have HM7 := Lib.hid hm7; have HR7 := Lib.hid hr7; have HE7 := Lib.hid hE7; have HO7 := Lib.hid hO7; have HW7 := Lib.hid hW7; clear hm7 hr7 hE7 hO7 hW7 hb7)
        | (at_builtin; refine wpList_app _ rfl (.tmp 29) (.tmp 32) _ rfl w.heap.size 5 i0 _ 1 Tryd.underlying25 hi hz hz1 hz2 rfl (.slice B6 (k + m1 + m3 + 1) d6) (k + m1 + m3 + 1) (bv (blockB (b.take j)) ++ bv (textOf x.key.data.toList) ++ bv (enc N) ++ [.int .u8 ((delB x.del).toNat : Int)]) rfl HO7.out A7 m7 c7 (bv (textOf x.val.data.toList)) rfl (by rw [bv_length]; exact HM7.out) (Rd.own HR7.out) (Fr.bv_one _) (k + m1 + m3 + 1 + m7) rfl (by unfold maxLen; omega) (by omega) HW7.out.size ?_; intro B8 d8 v8 hown8 hb8 hg8 _; have hE8 := blk_grown HE7.out HO7.out (by decide) hg8; have hW8 := HW7.out.trans hb8; obtain ⟨⟨y0, y1, y2, y3⟩, _⟩ := cells4 hE8; have HO8 := Lib.hid hown8; have HE8 := Lib.hid hE8; have HW8 := Lib.hid hW8; clear hown8 hb8 hg8 hE8 hW8))
      have hEn : blockB (b.take (j + 1)) = blockB (b.take j) ++ (textOf x.key.data.toList ++ enc N ++ [delB x.del] ++ textOf x.val.data.toList) := by rw [HST.out, ← HNN.out]; rfl
      have hlen : (blockB (b.take (j + 1))).length = k + m1 + m3 + 1 + m7 := by
        rw [hEn]
        simp only [List.length_append, List.length_singleton]
        rw [HK.out, HM1.out, HM3.out, HM7.out]
        omega
      have hbv : bv (blockB (b.take (j + 1))) = bv (blockB (b.take j)) ++ bv (textOf x.key.data.toList) ++ bv (enc N) ++ [.int .u8 ((delB x.del).toNat : Int)] ++ bv (textOf x.val.data.toList) := by
        rw [hEn]
        simp only [bv_append, List.append_assoc]
        rfl
      refine ⟨⟨j + 1, k + m1 + m3 + 1 + m7, d8, B8, by omega, by simp, rfl, ?_, Lib.hid hlen, Lib.hid (by rw [hbv]; exact HO8.out), HW8⟩, by simp [intOf]; omega⟩
      have h1 := congrArg List.length HST.out
      rw [List.length_append, hlen, HK.out] at h1
      have h2 := HEL.out
      omega
    · obtain rfl : j = n := by omega
      have k1 : ¬ (j : Int) < (j : Int) := by omega
      have ht : b.take j = b := List.take_of_length_le (by rw [HL.out]; exact Nat.le_refl _)
      rw [ht] at HK HOW
      go_wp2
      go_ret
      exact MadeRet.mk HK.out HOW.out HB.out
end
end Ss
end Go.Proofs.YtadlhnjnhllpfaaDoor
