/-
  WHAT IS PROVED: (1) what the reference's Build of a table answers. CONDITIONS: the entries stand in memory as named, and are good.
-/
import Derived.Test.YtadlhnjnhllpfaaDoorQSREnt
import Derived.Test.YtadlhnjnhllpfaaDoorQSBuild
import Derived.Test.YtadlhnjnhllpfaaDoorQBRbd
namespace Go.Proofs.YtadlhnjnhllpfaaDoor
open Go Go.RowKit Go.Maps Go.Sort Go.Proofs.YtadlhnjnhllpfaaDoor.Mm Go.Proofs.YtadlhnjnhllpfaaDoor.Fr
namespace Ss
/-- The table and the index in rows of their own. -/
structure R2 (w : World) (tb ix : Bs) (A : Option Addr) (n c : Nat) (B : Option Addr) (m d : Nat) (W : World) : Prop where
  tl : tb.length = n
  xl : ix.length = m
  town : W.ownsRow w.heap.size 5 1 (.slice A n c) n (bv tb)
  xown : W.ownsRow w.heap.size 5 1 (.slice B m d) m (bv ix)
  ne : ∀ k, (Value.slice A n c).ownBlock = some k → (Value.slice B m d).ownBlock ≠ some k
  bel : Below w.heap.size w W
section
variable {w W W' : World} {tb ix : Bs} {A B : Option Addr} {n c m d : Nat}
theorem R2.below (h : R2 w tb ix A n c B m d W) (hb : Below W.heap.size W W') : R2 w tb ix A n c B m d W' := ⟨h.tl, h.xl, own_below h.town hb (Nat.le_refl _), own_below h.xown hb (Nat.le_refl _), h.ne, h.bel.trans (hb.mono h.bel.size)⟩
/-- Another row is written. -/
theorem R2.off {row : Option Nat} (h : R2 w tb ix A n c B m d W) (hg : W.grownBy W' row) (hr : ∀ k, row = some k → w.heap.size ≤ k ∧ (Value.slice A n c).ownBlock ≠ some k ∧ (Value.slice B m d).ownBlock ≠ some k) : R2 w tb ix A n c B m d W' :=
  ⟨h.tl, h.xl, own_same h.town fun k e => by obtain ⟨_, hb⟩ := own_blk h.town e; exact hg.block k hb.lt fun e' => (hr k e'.symm).2.1 e, own_same h.xown fun k e => by obtain ⟨_, hb⟩ := own_blk h.xown e; exact hg.block k hb.lt fun e' => (hr k e'.symm).2.2 e, h.ne, h.bel.grown hg h.bel.size fun k e => (hr k e).1⟩
theorem R2.index {s : Bs} {B' : Option Addr} {m' d' : Nat} (h : R2 w tb ix A n c B m d W) (ho : W'.ownsRow w.heap.size 5 1 (.slice B' m' d') m' (bv ix ++ bv s)) (hg : W.grownBy W' (Value.slice B m d).ownBlock) (hn : (Value.slice B' m' d').ownBlock = (Value.slice B m d).ownBlock ∨ (Value.slice B' m' d').ownBlock = some W.heap.size) :
    R2 w tb (ix ++ s) A n c B' m' d' W' := by
  refine ⟨h.tl, ?_, own_same h.town fun k e => ?_, by rw [bv_append]; exact ho, fun k e e' => ?_, h.bel.grown hg h.bel.size fun k e => (h.xown.lt k e).1⟩
  · have := ho.1
    rw [List.length_append, bv_length, bv_length] at this
    rw [List.length_append]; omega
  · obtain ⟨_, hb⟩ := own_blk h.town e
    exact hg.block k hb.lt fun e' => h.ne k e e'.symm
  · rcases hn with hn | hn
    · rw [hn] at e'; exact h.ne k e e'
    · rw [hn] at e'
      cases e'
      have := (h.town.lt _ e).2
      omega
theorem R2.swap (h : R2 w tb ix A n c B m d W) : R2 w ix tb B m d A n c W := ⟨h.xl, h.tl, h.xown, h.town, fun k e e' => h.ne k e' e, h.bel⟩
theorem R2.table {s : Bs} {A' : Option Addr} {n' c' : Nat} (h : R2 w tb ix A n c B m d W) (ho : W'.ownsRow w.heap.size 5 1 (.slice A' n' c') n' (bv tb ++ bv s)) (hg : W.grownBy W' (Value.slice A n c).ownBlock) (hn : (Value.slice A' n' c').ownBlock = (Value.slice A n c).ownBlock ∨ (Value.slice A' n' c').ownBlock = some W.heap.size) :
    R2 w (tb ++ s) ix A' n' c' B m d W' := (h.swap.index ho hg hn).swap
/-- A row of another type stays. -/
theorem own_type {base base' size k j : Nat} {e : TypeId} {v u : Value} {xs ys : List Value} (h : W.ownsRow base e size v k xs) (h' : W.ownsRow base' 5 1 u j ys) (hg : W.grownBy W' u.ownBlock) (hne : e ≠ 5) : W'.ownsRow base e size v k xs := own_same h fun q hq => by
  obtain ⟨_, hb⟩ := own_blk h hq
  refine hg.block q hb.lt fun e' => ?_
  rcases own_ne_b h' hb hne with h1 | h1
  · rw [h1] at e'; cases e'
  · exact h1 e'.symm
/-- A row that is apart stays. -/
theorem own_apart {base size k : Nat} {e : TypeId} {v : Value} {xs : List Value} {row : Option Nat} (h : W.ownsRow base e size v k xs) (hg : W.grownBy W' row) (hne : ∀ q, v.ownBlock = some q → row ≠ some q) : W'.ownsRow base e size v k xs := own_same h fun q hq => by
  obtain ⟨_, hb⟩ := own_blk h hq
  exact hg.block q hb.lt fun e' => hne q hq e'.symm
end
theorem no_two {W : World} {b1 b2 n m k : Nat} {v u : Value} {xs ys : List Value} (h : W.ownsRow b1 5 1 v n xs) (h' : W.ownsRow b2 9 1 u m ys) (e : v.ownBlock = some k) (e' : u.ownBlock = some k) : False := by
  obtain ⟨_, hb⟩ := own_blk h' e'
  rcases own_ne_b h hb (by decide) with h1 | h1
  · rw [h1] at e; cases e
  · exact h1 e
theorem keysB_snoc {l : List En} {i : Nat} {x : En} (hx : l[i]? = some x) : keysB (l.take (i + 1)) = keysB (l.take i) ++ (if i ≠ 0 ∧ (l[i - 1]?).map kB = some (kB x) then [] else [kB x]) := by
  have h1 : l.take (i + 1) = l.take i ++ [x] := by rw [List.take_add_one, hx]; rfl
  unfold keysB
  rw [h1, keysF_snoc]
  have hi := (List.getElem?_eq_some_iff.1 hx).1
  congr 1
  cases i with
  | zero => simp
  | succ j =>
    have e3 : (l.take (j + 1)).getLast? = some (l[j]'(by omega)) := by rw [List.take_add_one, List.getElem?_eq_getElem (by omega), Option.toList_some, List.getLast?_concat]
    rw [e3, Nat.add_sub_cancel, List.getElem?_eq_getElem (by omega)]
    simp
/-- Behind so many blocks. -/
def RbI (w : World) (l : List En) (n : Nat) (s3 s4 s5 s6 s7 : Value) (W : World) : Prop :=
  ∃ (x i : Nat) (A : Option Addr) (a c : Nat) (B : Option Addr) (m d : Nat) (C : Option Addr) (k e : Nat) (tb ix : Bs) (ks : List Bs), i = 3 * x ∧ i ≤ n + 2 ∧ s3 = .slice A a c ∧ s4 = .slice B m d ∧ s5 = .slice C k e ∧ s6 = .int .i64 (x : Int) ∧ s7 = .int .i64 (i : Int) ∧ k ≤ 84 ∧
    Hid (R2 w tb ix A a c B m d W) ∧ Hid (W.ownsRow w.heap.size 9 1 (.slice C k e) k (ks.map encStr)) ∧ Hid (tb = tbOf l (List.range x)) ∧ Hid (ix = idxF ((List.range x).map (chk l)) 0) ∧ Hid (ks = keysB (l.take i)) ∧ Hid (ks.length = k)
/-- In a block, so many entries in. -/
def RbJ (w : World) (l : List En) (x i EN : Nat) (tb ix : Bs) (A1 : Option Addr) (a1 c1 : Nat) (B1 : Option Addr) (m1 d1 : Nat) (s5 s9 s10 : Value) (W : World) : Prop :=
  ∃ (K j : Nat) (C : Option Addr) (k e : Nat) (D : Option Addr) (q f : Nat) (ks : List Bs), K ≤ EN ∧ s5 = .slice C k e ∧ s9 = .slice D q f ∧ s10 = .int .i64 (K : Int) ∧ k ≤ 84 ∧ q ≤ 3303 ∧ Hid (K = i + j) ∧ Hid (q ≤ 1101 * j) ∧
    Hid (R2 w tb ix A1 a1 c1 B1 m1 d1 W) ∧ Hid (W.ownsRow w.heap.size 9 1 (.slice C k e) k (ks.map encStr)) ∧ Hid (ks = keysB (l.take K)) ∧ Hid (ks.length = k) ∧
    Hid (W.ownsRow w.heap.size 5 1 (.slice D q f) q (bv (blockB ((chk l x).take j)))) ∧ Hid ((blockB ((chk l x).take j)).length = q) ∧ Hid (∀ b, (Value.slice D q f).ownBlock = some b → (Value.slice A1 a1 c1).ownBlock ≠ some b ∧ (Value.slice B1 m1 d1).ownBlock ≠ some b)
/-- The rows, and the entries. -/
structure St1 (w : World) (tb ix : Bs) (E A : Option Addr) (n c : Nat) (B : Option Addr) (m d : Nat) (ks : List Bs) (C : Option Addr) (k e : Nat) (l : List En) (W : World) : Prop where
  r2 : R2 w tb ix A n c B m d W
  kown : W.ownsRow w.heap.size 9 1 (.slice C k e) k (ks.map encStr)
  rd : Rd w E (ev l)
structure St (w : World) (tb ix : Bs) (E A : Option Addr) (n c : Nat) (B : Option Addr) (m d : Nat) (ks : List Bs) (C : Option Addr) (k e : Nat) (l : List En) (sb : Bs) (V : Option Addr) (y z : Nat) (W : World) : Prop where
  r2 : R2 w tb ix A n c B m d W
  kown : W.ownsRow w.heap.size 9 1 (.slice C k e) k (ks.map encStr)
  rd : Rd w E (ev l)
  sown : W.ownsRow w.heap.size 5 1 (.slice V y z) y (bv sb)
  apart : ∀ q, (Value.slice V y z).ownBlock = some q → (Value.slice B m d).ownBlock ≠ some q
section
variable {w W W' : World} {tb ix sb : Bs} {E A B C V : Option Addr} {n c m d k e y z : Nat} {ks : List Bs} {l : List En}
theorem St1.st (h : St1 w tb ix E A n c B m d ks C k e l W) (hb : Below W.heap.size W W') (ho : W'.ownsRow W.heap.size 5 1 (.slice V y z) y (bv sb)) : St w tb ix E A n c B m d ks C k e l sb V y z W' :=
  ⟨h.r2.below hb, own_below h.kown hb (Nat.le_refl _), h.rd, own_mono ho h.r2.bel.size, fun q hq e' => absurd (h.r2.xown.lt q e').2 (Nat.not_lt.2 (ho.lt q hq).1)⟩
theorem St.below (h : St w tb ix E A n c B m d ks C k e l sb V y z W) (hb : Below W.heap.size W W') : St w tb ix E A n c B m d ks C k e l sb V y z W' :=
  ⟨h.r2.below hb, own_below h.kown hb (Nat.le_refl _), h.rd, own_below h.sown hb (Nat.le_refl _), h.apart⟩
theorem St.index {s : Bs} {B' : Option Addr} {m' d' : Nat} (h : St w tb ix E A n c B m d ks C k e l sb V y z W) (ho : W'.ownsRow w.heap.size 5 1 (.slice B' m' d') m' (bv ix ++ bv s)) (hg : W.grownBy W' (Value.slice B m d).ownBlock) (hn : (Value.slice B' m' d').ownBlock = (Value.slice B m d).ownBlock ∨ (Value.slice B' m' d').ownBlock = some W.heap.size) :
    St w tb (ix ++ s) E A n c B' m' d' ks C k e l sb V y z W' :=
  ⟨h.r2.index ho hg hn, own_type h.kown h.r2.xown hg (by decide), h.rd, own_apart h.sown hg h.apart, fun q hq e' => by
    rcases hn with hn | hn
    · rw [hn] at e'; exact h.apart q hq e'
    · rw [hn] at e'
      cases e'
      exact absurd (h.sown.lt _ hq).2 (Nat.lt_irrefl _)⟩
theorem St.key {g p i : Nat} {x : En} (h : St w tb ix (some ⟨g, p, none⟩) A n c B m d ks C k e l sb V y z W) (hx : l[i]? = some x) : W.cell? ⟨g, p + i * 4, none⟩ = some (.string x.key) := by
  obtain ⟨g', p', e', _, u0, _⟩ := erd_at (h.rd.below h.r2.bel) hx
  cases e'
  exact u0
end
theorem str_key (x : En) : Value.string x.key = encStr (kB x) := rfl
section
variable {w : World} {A : Option Addr} {n c : Nat} {l : List En}
set_option maxRecDepth 100000 in
set_option maxHeartbeats 2000000 in
theorem rtab_any (hg : GoodL l) (hl : l.length = n) (hr : Rd w A (ev l)) :
    Calls Tryd.prog 12 #[.slice A n c] w (MadeRet 5 w (build l)) := by
  have hn := hg.le
  have hn0 := hg.pos
  rw [hl] at hn hn0
  obtain ⟨i0, hi, hz, hz1, hz2⟩ := info_parts Fr.info_u8
  obtain ⟨is, his, hsz, hsz1, hsz2⟩ := info_parts Bl.info_str
  have HG := Lib.hid hg
  have HL := Lib.hid hl
  have HR := Lib.hid hr
  clear hg hl hr
  go_enter Tryd.func12, Tryd.ntmps12
  go_wp2
  go_loopw [3, 4, 5, 6, 7] (RbI w l n) (fun _ _ _ _ i _ => n + 3 - (intOf i).toNat)
  case atStart => exact ⟨0, 0, none, 0, 0, none, 0, 0, none, 0, 0, [], [], [], rfl, by omega, rfl, rfl, rfl, rfl, rfl, by omega, Lib.hid ⟨rfl, rfl, World.ownsRow_nil _ _ _ _, World.ownsRow_nil _ _ _ _, (fun k e => by cases e), Below.refl _ _⟩, Lib.hid (World.ownsRow_nil _ _ _ _), Lib.hid rfl, Lib.hid rfl, Lib.hid rfl, Lib.hid rfl⟩
  case round =>
    obtain ⟨x, i, A1, a1, c1, B1, m1, d1, C1, k1, e1, tb, ix, ks, hix, hi2, rfl, rfl, rfl, rfl, rfl, hk84, HR2, HKO, HTB, HIX, HKS, HKL⟩ := hrel
    by_cases hlt : i < n
    · obtain ⟨EN, hEN⟩ : ∃ EN, EN = min n (i + 3) := ⟨_, rfl⟩
      have hmn := Bl.mn (n : Int) ((i : Int) + 3) (EN : Int) (by omega)
      have hEi : i < EN := by omega
      have hEn : EN ≤ n := by omega
      have hE3 : EN ≤ i + 3 := by omega
      obtain ⟨J1, hJ1⟩ : ∃ J1, EN = J1 + 1 := ⟨EN - 1, by omega⟩
      have kk1 : (i : Int) < (n : Int) := by omega
      have HXI := Lib.hid hix
      have HEN := Lib.hid hEN
      have HJ1 := Lib.hid hJ1
      clear hix hEN hJ1 hi2
      go_wp2
      go_loopw [5, 9, 10] (RbJ w l x i EN tb ix A1 a1 c1 B1 m1 d1) (fun _ _ k _ => EN - (intOf k).toNat)
      case atStart => exact ⟨i, 0, C1, k1, e1, none, 0, 0, ks, by omega, rfl, rfl, rfl, hk84, by omega, Lib.hid rfl, Lib.hid (by omega), HR2, HKO, HKS, HKL, Lib.hid (World.ownsRow_nil _ _ _ _), Lib.hid rfl, Lib.hid fun b e => by cases e⟩
      case round =>
        clear HR2 HKO HKS HKL
        obtain ⟨wq, hwq⟩ : ∃ wq, wq = wr := ⟨_, rfl⟩
        obtain ⟨K, j, C2, k2, e2, D, q, f, ks2, hKE, rfl, rfl, rfl, hk284, hq33, HKJ, HQ, HR2, HKO, HKS, HKL2, HDO, HLB, HDN⟩ := hrel
        by_cases hKlt : K < EN
        · obtain ⟨y, hy⟩ : ∃ y, l[K]? = some y := ⟨l[K]'(by have := HL.out; omega), List.getElem?_eq_getElem _⟩
          have hj3 : j < 3 := by have := HKJ.out; omega
          have hyc : (chk l x)[j]? = some y := by rw [chk_at hj3, ← HXI.out, ← HKJ.out]; exact hy
          obtain ⟨g, p, rfl, hgl, y0, y1, y2, y3⟩ := erd_at (HR.out.below HR2.out.bel) hy
          have hok := HG.out.ok y (List.mem_of_getElem? hy)
          have hel := (encE_len hok).1
          have hst := block_step hyc
          obtain ⟨nK, hnK⟩ : ∃ nK, nK = k2 + 1 := ⟨_, rfl⟩
          have hkl4 : k2 + 1 ≤ 84 := by
            have h1 := keys_le (l.take K) none
            have h2 := HKL2.out
            have h3 : ks2.length ≤ K := by rw [HKS.out]; exact Nat.le_trans h1 (by rw [List.length_take]; omega)
            omega
          have hre := fun W => rentry_any y W hok
          have HRE := Lib.hid hre
          have HY := Lib.hid hy
          have HST := Lib.hid hst
          have HKL4 := Lib.hid hkl4
          have HJ3 := Lib.hid hj3
          have HEL := Lib.hid hel
          have kk2 : (K : Int) < (EN : Int) := by omega
          have kk3 : (0 : Int) ≤ (K : Int) := by omega
          have kk4 : (K : Int) < (n : Int) := by omega
          clear hyc hok hst hre hnK
          go_wp2_with (first
            | (go_at_call 39; refine (HRE.out _).mono ?_; rintro e w1 ⟨v1, rfl, Ae, me, ce, rfl, hme, hce, howne, hbe⟩; have hmeb : me ≤ 1101 := hme ▸ HEL.out; have HR1 := Lib.hid (HR2.out.below hbe); have HKO1 := Lib.hid (own_below HKO.out hbe (Nat.le_refl _)); have HDO1 := Lib.hid (own_below HDO.out hbe (Nat.le_refl _)); have HOE := Lib.hid howne; have HME := Lib.hid hme; clear howne hbe hme)
            | (at_builtin; refine wpList_app _ rfl (.tmp 31) (.tmp 36) _ rfl w.heap.size 5 i0 _ 1 Tryd.underlying25 hi hz hz1 hz2 rfl (.slice D q f) q (bv (blockB ((chk l x).take j))) rfl HDO1.out Ae me ce (bv (encE y)) rfl (by rw [bv_length]; exact HME.out) (Rd.own HOE.out) (bv_one _) (q + me) rfl (by unfold maxLen; omega) (by omega) HR1.out.bel.size ?_; intro D3 f3 w3 hown3 hb3 hg3 hn3))
          have HR3 := Lib.hid (HR1.out.off hg3 fun b hb => ⟨(HDO1.out.lt b hb).1, (HDN.out b hb).1, (HDN.out b hb).2⟩)
          have HKO3 := Lib.hid (own_type HKO1.out HDO1.out hg3 (by decide))
          have HLB3 : Hid ((blockB ((chk l x).take (j + 1))).length = q + me) := Lib.hid (by rw [HST.out, List.length_append, HLB.out, HME.out])
          have HDO3 : Hid (w3.ownsRow w.heap.size 5 1 (.slice D3 (q + me) f3) (q + me) (bv (blockB ((chk l x).take (j + 1))))) := Lib.hid (by rw [HST.out, bv_append]; exact hown3)
          have HDN3 : Hid (∀ b, (Value.slice D3 (q + me) f3).ownBlock = some b → (Value.slice A1 a1 c1).ownBlock ≠ some b ∧ (Value.slice B1 m1 d1).ownBlock ≠ some b) := Lib.hid fun b hb => by
            rcases hn3 with h1 | h1
            · rw [h1] at hb; exact HDN.out b hb
            · rw [h1] at hb
              cases hb
              exact ⟨fun e => absurd (HR1.out.town.lt _ e).2 (Nat.lt_irrefl _), fun e => absurd (HR1.out.xown.lt _ e).2 (Nat.lt_irrefl _)⟩
          have HBS := Lib.hid (fun o : Obj => le_alloc_ (w := w3) HR3.out.bel.size o)
          have HQ3 : Hid (q + me ≤ 1101 * (j + 1)) := Lib.hid (by have := HQ.out; omega)
          have hyk : w3.cell? ⟨g, p + K * 4, none⟩ = some (.string y.key) := by
            obtain ⟨g', p', e', _, u0, _, _, _⟩ := erd_at (HR.out.below HR3.out.bel) HY.out
            cases e'
            exact u0
          have HKSN := Lib.hid (keysB_snoc HY.out)
          clear hown3 hb3 hg3 hn3 y0 y1 y2 y3 HR1 HKO1 HDO1 HR2 HKO HDO
          rcases Nat.eq_zero_or_pos K with hK0 | hKp
          · subst hK0
            simp only [Nat.zero_mul, Nat.add_zero] at hyk
            refine wp_region_held_drew (S := fun _ => True) (by kernel_rfl) (by (exact True.intro)) (fun hHeld => ?_)
            refine wpAnyH_take (i := 0) (v := ?vr1_0) (Fr.take_at rfl) (by kernel_rfl) (by kernel_rfl) (by kernel_rfl) (fun _ _ _ h => h) (Or.inl ⟨by rfl, ?yr1_0⟩) (by assumption) ?nr1_0
            case yr1_0 => (intro w_ hSw; (try dsimp only at hSw); go_simp; (try with_reducible rfl))
            try simp only [Act.put, List.setIfInBounds_toArray, List.set_cons_zero, List.set_cons_succ]
            refine wpAnyH_take (i := 1) (v := ?vr1_1) (Fr.take_at rfl) (by kernel_rfl) (by kernel_rfl) (by kernel_rfl) (fun _ _ _ h => h) (Or.inl ⟨by rfl, ?yr1_1⟩) (by assumption) ?nr1_1
            case yr1_1 => (intro w_ hSw; (try dsimp only at hSw); go_simp; (try with_reducible rfl))
            try simp only [Act.put, List.setIfInBounds_toArray, List.set_cons_zero, List.set_cons_succ]
            refine wpAnyH_take (i := 2) (v := ?vr1_2) (Fr.take_at rfl) (by kernel_rfl) (by kernel_rfl) (by kernel_rfl) (fun _ _ _ h => h) (Or.inl ⟨by rfl, ?yr1_2⟩) (by assumption) ?nr1_2
            case yr1_2 => (intro w_ hSw; (try dsimp only at hSw); go_simp; (try with_reducible rfl))
            try simp only [Act.put, List.setIfInBounds_toArray, List.set_cons_zero, List.set_cons_succ]
            refine wpAnyH_take (i := 3) (v := undef) (Fr.take_at rfl) (by kernel_rfl) (by kernel_rfl) (by kernel_rfl) (fun _ _ _ h => h) (Or.inr ⟨by rfl, rfl⟩) (by assumption) ?_
            try simp only [Act.put, List.setIfInBounds_toArray, List.set_cons_zero, List.set_cons_succ]
            refine wpAnyH_take (i := 4) (v := undef) (Fr.take_at rfl) (by kernel_rfl) (by kernel_rfl) (by kernel_rfl) (fun _ _ _ h => h) (Or.inr ⟨by rfl, rfl⟩) (by assumption) ?_
            try simp only [Act.put, List.setIfInBounds_toArray, List.set_cons_zero, List.set_cons_succ]
            refine wpAnyH_take (i := 5) (v := undef) (Fr.take_at rfl) (by kernel_rfl) (by kernel_rfl) (by kernel_rfl) (fun _ _ _ h => h) (Or.inr ⟨by rfl, rfl⟩) (by assumption) ?_
            try simp only [Act.put, List.setIfInBounds_toArray, List.set_cons_zero, List.set_cons_succ]
            refine wpAnyH_take (i := 6) (v := undef) (Fr.take_at rfl) (by kernel_rfl) (by kernel_rfl) (by kernel_rfl) (fun _ _ _ h => h) (Or.inr ⟨by rfl, rfl⟩) (by assumption) ?_
            try simp only [Act.put, List.setIfInBounds_toArray, List.set_cons_zero, List.set_cons_succ]
            refine wpAnyH_take (i := 7) (v := undef) (Fr.take_at rfl) (by kernel_rfl) (by kernel_rfl) (by kernel_rfl) (fun _ _ _ h => h) (Or.inr ⟨by rfl, rfl⟩) (by assumption) ?_
            try simp only [Act.put, List.setIfInBounds_toArray, List.set_cons_zero, List.set_cons_succ]
            refine wpAnyH_take (i := 8) (v := undef) (Fr.take_at rfl) (by kernel_rfl) (by kernel_rfl) (by kernel_rfl) (fun _ _ _ h => h) (Or.inr ⟨by rfl, rfl⟩) (by assumption) ?_
            try simp only [Act.put, List.setIfInBounds_toArray, List.set_cons_zero, List.set_cons_succ]
            refine wpAnyH_take (i := 9) (v := undef) (Fr.take_at rfl) (by kernel_rfl) (by kernel_rfl) (by kernel_rfl) (fun _ _ _ h => h) (Or.inr ⟨by rfl, rfl⟩) (by assumption) ?_
            try simp only [Act.put, List.setIfInBounds_toArray, List.set_cons_zero, List.set_cons_succ]
            refine wpAnyH_take (i := 10) (v := undef) (Fr.take_at rfl) (by kernel_rfl) (by kernel_rfl) (by kernel_rfl) (fun _ _ _ h => h) (Or.inr ⟨by rfl, rfl⟩) (by assumption) ?_
            try simp only [Act.put, List.setIfInBounds_toArray, List.set_cons_zero, List.set_cons_succ]
            refine wpAnyH_take (i := 11) (v := undef) (Fr.take_at rfl) (by kernel_rfl) (by kernel_rfl) (by kernel_rfl) (fun _ _ _ h => h) (Or.inr ⟨by rfl, rfl⟩) (by assumption) ?_
            try simp only [Act.put, List.setIfInBounds_toArray, List.set_cons_zero, List.set_cons_succ]
            refine wpAnyH_take (i := 12) (v := undef) (Fr.take_at rfl) (by kernel_rfl) (by kernel_rfl) (by kernel_rfl) (fun _ _ _ h => h) (Or.inr ⟨by rfl, rfl⟩) (by assumption) ?_
            try simp only [Act.put, List.setIfInBounds_toArray, List.set_cons_zero, List.set_cons_succ]
            refine wpAnyH_take (i := 13) (v := undef) (Fr.take_at rfl) (by kernel_rfl) (by kernel_rfl) (by kernel_rfl) (fun _ _ _ h => h) (Or.inr ⟨by rfl, rfl⟩) (by assumption) ?_
            try simp only [Act.put, List.setIfInBounds_toArray, List.set_cons_zero, List.set_cons_succ]
            refine wpAnyH_take (i := 14) (v := undef) (Fr.take_at rfl) (by kernel_rfl) (by kernel_rfl) (by kernel_rfl) (fun _ _ _ h => h) (Or.inr ⟨by rfl, rfl⟩) (by assumption) ?_
            try simp only [Act.put, List.setIfInBounds_toArray, List.set_cons_zero, List.set_cons_succ]
            refine wpAnyH_take (i := 15) (v := ?vr1_15) (Fr.take_at rfl) (by kernel_rfl) (by kernel_rfl) (by kernel_rfl) (fun _ _ _ h => h) (Or.inl ⟨by rfl, ?yr1_15⟩) (by assumption) ?nr1_15
            case yr1_15 => (intro w_ hSw; (try dsimp only at hSw); go_simp; (try with_reducible rfl))
            try simp only [Act.put, List.setIfInBounds_toArray, List.set_cons_zero, List.set_cons_succ]
            refine wpAnyH_done (by kernel_rfl) ?_ _
            obtain ⟨w3', hw3'⟩ : ∃ y, y = w3.drew := ⟨_, rfl⟩
            have HR3 : Hid (R2 w tb ix A1 a1 c1 B1 m1 d1 w3') := Lib.hid (by rw [hw3']; exact ⟨HR3.out.tl, HR3.out.xl, HR3.out.town, HR3.out.xown, HR3.out.ne, HR3.out.bel.drew⟩)
            have HKO3 : Hid (w3'.ownsRow w.heap.size 9 1 (.slice C2 k2 e2) k2 (ks2.map encStr)) := Lib.hid (by rw [hw3']; exact HKO3.out)
            have HDO3 : Hid (w3'.ownsRow w.heap.size 5 1 (.slice D3 (q + me) f3) (q + me) (bv (blockB ((chk l x).take (j + 1))))) := Lib.hid (by rw [hw3']; exact HDO3.out)
            have HBS := Lib.hid (fun o : Obj => le_alloc_ (w := w3') HR3.out.bel.size o)
            have hyk' : w3'.cell? ⟨g, p, none⟩ = some (.string y.key) := by rw [hw3']; exact hyk
            (try rw [← hw3'])
            clear hw3' hyk
            go_wp2_with (at_builtin; refine wpList_app _ rfl (.tmp 54) (.tmp 60) _ rfl w.heap.size 9 is _ 16 Tryd.underlying51 his hsz hsz1 hsz2 rfl (.slice C2 k2 e2) k2 (ks2.map encStr) rfl (HKO3.out.alloc _) (some ⟨w3'.heap.size, 0, none⟩) 1 1 [.string y.key] rfl rfl (Rd.one _ _ _ _ _ rfl) (by intro u hu; simp at hu; subst hu; rfl) (k2 + 1) rfl (by unfold maxLen; omega) (by omega) (HBS.out _) ?_; intro C4 e4 w4 hown4 hb4 hg4 _)
            have hR4 := (HR3.out.below ((Below.refl _ w3').alloc (Nat.le_refl _) (.cells #[.string y.key] 9))).off hg4 fun b hb => ⟨(HKO3.out.lt b hb).1, fun e => no_two HR3.out.town HKO3.out e hb, fun e => no_two HR3.out.xown HKO3.out e hb⟩
            have hD4 := own_apart (HDO3.out.alloc (.cells #[.string y.key] 9)) hg4 fun b hb e => no_two HDO3.out HKO3.out hb e
            go_roundw
            case rel => exact ⟨0 + 1, j + 1, C4, k2 + 1, e4, D3, q + me, f3, ks2 ++ [kB y], by omega, rfl, rfl, by go_num, by have := HKL4.out; omega, by have := HQ3.out; have := HJ3.out; omega, Lib.hid (by rw [HKJ.out]; omega), Lib.hid (by have := HQ3.out; omega), Lib.hid hR4, Lib.hid (by rw [List.map_append, List.map_singleton, ← str_key]; exact hown4), Lib.hid (by rw [HKSN.out, ← HKS.out, if_neg (by simp)]), Lib.hid (by rw [List.length_append, List.length_singleton, HKL2.out]), Lib.hid hD4, HLB3, HDN3⟩
            case measure => simp [intOf]; omega
          · obtain ⟨K', rfl⟩ : ∃ K', K = K' + 1 := ⟨K - 1, by omega⟩
            obtain ⟨z, hz⟩ : ∃ z, l[K']? = some z := ⟨l[K']'(by have := HL.out; omega), List.getElem?_eq_getElem _⟩
            have hzk : w3.cell? ⟨g, p + K' * 4, none⟩ = some (.string z.key) := by
              obtain ⟨g', p', e', _, u0, _, _, _⟩ := erd_at (HR.out.below HR3.out.bel) hz
              cases e'
              exact u0
            have HZ := Lib.hid hz
            clear hz
            have m1' : ((K' : Int) + 1 == 0) = false := by rw [beq_eq_false_iff_ne]; omega
            have m2' : (K' : Int) + 1 - 1 = (K' : Int) := by omega
            have m3' : (0 : Int) ≤ (K' : Int) := by omega
            have m4' : (K' : Int) < (n : Int) := by omega
            have m5' : IntKind.i64.wrap (K' : Int) = (K' : Int) := IntWalk.i64_in _ (by omega)
            have m6' : (0 : Int) ≤ (K' : Int) + 1 := by omega
            have m7' : (K' : Int) + 1 < (n : Int) := by omega
            cases hke : (z.key.toList == y.key.toList) with
            | true =>
              refine wp_region_held_drew (S := fun W' => W'.cell? ⟨g, p + K' * 4, none⟩ = some (.string z.key) ∧ W'.cell? ⟨g, p + (K' + 1) * 4, none⟩ = some (.string y.key)) (by kernel_rfl) (by (first | exact ⟨hzk, hyk⟩ | (with_reducible assumption))) (fun hHeld => ?_)
              refine wpAnyH_take (i := 0) (v := ?vr2_0) (Fr.take_at rfl) (by kernel_rfl) (by kernel_rfl) (by kernel_rfl) (fun _ _ _ h => h) (Or.inl ⟨by rfl, ?yr2_0⟩) (by assumption) ?nr2_0
              case yr2_0 => (intro w_ hSw; obtain ⟨u0_, u1_⟩ := hSw; go_simp; (try with_reducible rfl))
              try simp only [Act.put, List.setIfInBounds_toArray, List.set_cons_zero, List.set_cons_succ]
              refine wpAnyH_take (i := 1) (v := ?vr2_1) (Fr.take_at rfl) (by kernel_rfl) (by kernel_rfl) (by kernel_rfl) (fun _ _ _ h => h) (Or.inl ⟨by rfl, ?yr2_1⟩) (by assumption) ?nr2_1
              case yr2_1 => (intro w_ hSw; obtain ⟨u0_, u1_⟩ := hSw; go_simp; (try with_reducible rfl))
              try simp only [Act.put, List.setIfInBounds_toArray, List.set_cons_zero, List.set_cons_succ]
              refine wpAnyH_take (i := 2) (v := ?vr2_2) (Fr.take_at rfl) (by kernel_rfl) (by kernel_rfl) (by kernel_rfl) (fun _ _ _ h => h) (Or.inl ⟨by rfl, ?yr2_2⟩) (by assumption) ?nr2_2
              case yr2_2 => (intro w_ hSw; obtain ⟨u0_, u1_⟩ := hSw; go_simp; (try with_reducible rfl))
              try simp only [Act.put, List.setIfInBounds_toArray, List.set_cons_zero, List.set_cons_succ]
              refine wpAnyH_take (i := 3) (v := ?vr2_3) (Fr.take_at rfl) (by kernel_rfl) (by kernel_rfl) (by kernel_rfl) (fun _ _ _ h => h) (Or.inl ⟨by rfl, ?yr2_3⟩) (by assumption) ?nr2_3
              case yr2_3 => (intro w_ hSw; obtain ⟨u0_, u1_⟩ := hSw; go_simp; (try with_reducible rfl))
              try simp only [Act.put, List.setIfInBounds_toArray, List.set_cons_zero, List.set_cons_succ]
              refine wpAnyH_take (i := 4) (v := ?vr2_4) (Fr.take_at rfl) (by kernel_rfl) (by kernel_rfl) (by kernel_rfl) (fun _ _ _ h => h) (Or.inl ⟨by rfl, ?yr2_4⟩) (by assumption) ?nr2_4
              case yr2_4 => (intro w_ hSw; obtain ⟨u0_, u1_⟩ := hSw; go_simp; (try with_reducible rfl))
              try simp only [Act.put, List.setIfInBounds_toArray, List.set_cons_zero, List.set_cons_succ]
              refine wpAnyH_take (i := 5) (v := ?vr2_5) (Fr.take_at rfl) (by kernel_rfl) (by kernel_rfl) (by kernel_rfl) (fun _ _ _ h => h) (Or.inl ⟨by rfl, ?yr2_5⟩) (by assumption) ?nr2_5
              case yr2_5 => (intro w_ hSw; obtain ⟨u0_, u1_⟩ := hSw; go_simp; (try with_reducible rfl))
              try simp only [Act.put, List.setIfInBounds_toArray, List.set_cons_zero, List.set_cons_succ]
              refine wpAnyH_take (i := 6) (v := ?vr2_6) (Fr.take_at rfl) (by kernel_rfl) (by kernel_rfl) (by kernel_rfl) (fun _ _ _ h => h) (Or.inl ⟨by rfl, ?yr2_6⟩) (by assumption) ?nr2_6
              case yr2_6 => (intro w_ hSw; obtain ⟨u0_, u1_⟩ := hSw; go_simp; (try with_reducible rfl))
              try simp only [Act.put, List.setIfInBounds_toArray, List.set_cons_zero, List.set_cons_succ]
              refine wpAnyH_take (i := 7) (v := ?vr2_7) (Fr.take_at rfl) (by kernel_rfl) (by kernel_rfl) (by kernel_rfl) (fun _ _ _ h => h) (Or.inl ⟨by rfl, ?yr2_7⟩) (by assumption) ?nr2_7
              case yr2_7 => (intro w_ hSw; obtain ⟨u0_, u1_⟩ := hSw; go_simp; (try with_reducible rfl))
              try simp only [Act.put, List.setIfInBounds_toArray, List.set_cons_zero, List.set_cons_succ]
              refine wpAnyH_take (i := 8) (v := ?vr2_8) (Fr.take_at rfl) (by kernel_rfl) (by kernel_rfl) (by kernel_rfl) (fun _ _ _ h => h) (Or.inl ⟨by rfl, ?yr2_8⟩) (by assumption) ?nr2_8
              case yr2_8 => (intro w_ hSw; obtain ⟨u0_, u1_⟩ := hSw; go_simp; (try with_reducible rfl))
              try simp only [Act.put, List.setIfInBounds_toArray, List.set_cons_zero, List.set_cons_succ]
              refine wpAnyH_take (i := 9) (v := ?vr2_9) (Fr.take_at rfl) (by kernel_rfl) (by kernel_rfl) (by kernel_rfl) (fun _ _ _ h => h) (Or.inl ⟨by rfl, ?yr2_9⟩) (by assumption) ?nr2_9
              case yr2_9 => (intro w_ hSw; obtain ⟨u0_, u1_⟩ := hSw; go_simp; (try with_reducible rfl))
              try simp only [Act.put, List.setIfInBounds_toArray, List.set_cons_zero, List.set_cons_succ]
              refine wpAnyH_take (i := 10) (v := ?vr2_10) (Fr.take_at rfl) (by kernel_rfl) (by kernel_rfl) (by kernel_rfl) (fun _ _ _ h => h) (Or.inl ⟨by rfl, ?yr2_10⟩) (by assumption) ?nr2_10
              case yr2_10 => (intro w_ hSw; obtain ⟨u0_, u1_⟩ := hSw; go_simp; (try with_reducible rfl))
              try simp only [Act.put, List.setIfInBounds_toArray, List.set_cons_zero, List.set_cons_succ]
              refine wpAnyH_take (i := 11) (v := ?vr2_11) (Fr.take_at rfl) (by kernel_rfl) (by kernel_rfl) (by kernel_rfl) (fun _ _ _ h => h) (Or.inl ⟨by rfl, ?yr2_11⟩) (by assumption) ?nr2_11
              case yr2_11 => (intro w_ hSw; obtain ⟨u0_, u1_⟩ := hSw; go_simp; (try with_reducible rfl))
              try simp only [Act.put, List.setIfInBounds_toArray, List.set_cons_zero, List.set_cons_succ]
              refine wpAnyH_take (i := 12) (v := ?vr2_12) (Fr.take_at rfl) (by kernel_rfl) (by kernel_rfl) (by kernel_rfl) (fun _ _ _ h => h) (Or.inl ⟨by rfl, ?yr2_12⟩) (by assumption) ?nr2_12
              case yr2_12 => (intro w_ hSw; obtain ⟨u0_, u1_⟩ := hSw; go_simp; (try with_reducible rfl))
              try simp only [Act.put, List.setIfInBounds_toArray, List.set_cons_zero, List.set_cons_succ]
              refine wpAnyH_take (i := 13) (v := ?vr2_13) (Fr.take_at rfl) (by kernel_rfl) (by kernel_rfl) (by kernel_rfl) (fun _ _ _ h => h) (Or.inl ⟨by rfl, ?yr2_13⟩) (by assumption) ?nr2_13
              case yr2_13 => (intro w_ hSw; obtain ⟨u0_, u1_⟩ := hSw; go_simp; (try with_reducible rfl))
              try simp only [Act.put, List.setIfInBounds_toArray, List.set_cons_zero, List.set_cons_succ]
              refine wpAnyH_take (i := 14) (v := ?vr2_14) (Fr.take_at rfl) (by kernel_rfl) (by kernel_rfl) (by kernel_rfl) (fun _ _ _ h => h) (Or.inl ⟨by rfl, ?yr2_14⟩) (by assumption) ?nr2_14
              case yr2_14 => (intro w_ hSw; obtain ⟨u0_, u1_⟩ := hSw; go_simp; (try with_reducible rfl))
              try simp only [Act.put, List.setIfInBounds_toArray, List.set_cons_zero, List.set_cons_succ]
              refine wpAnyH_take (i := 15) (v := ?vr2_15) (Fr.take_at rfl) (by kernel_rfl) (by kernel_rfl) (by kernel_rfl) (fun _ _ _ h => h) (Or.inl ⟨by rfl, ?yr2_15⟩) (by assumption) ?nr2_15
              case yr2_15 => (intro w_ hSw; obtain ⟨u0_, u1_⟩ := hSw; go_simp; (try with_reducible rfl))
              try simp only [Act.put, List.setIfInBounds_toArray, List.set_cons_zero, List.set_cons_succ]
              refine wpAnyH_done (by kernel_rfl) ?_ _
              have hyes : K' + 1 ≠ 0 ∧ (l[K' + 1 - 1]?).map kB = some (kB y) := by
                refine ⟨by omega, ?_⟩
                rw [Nat.add_sub_cancel, HZ.out, Option.map_some, Option.some.injEq]
                have h1 := eq_of_beq hke
                rwa [Lib.toList_data, Lib.toList_data] at h1
              have HYES := Lib.hid hyes
              clear hyes
              obtain ⟨w3', hw3'⟩ : ∃ y, y = w3.drew := ⟨_, rfl⟩
              have HR3 : Hid (R2 w tb ix A1 a1 c1 B1 m1 d1 w3') := Lib.hid (by rw [hw3']; exact ⟨HR3.out.tl, HR3.out.xl, HR3.out.town, HR3.out.xown, HR3.out.ne, HR3.out.bel.drew⟩)
              have HKO3 : Hid (w3'.ownsRow w.heap.size 9 1 (.slice C2 k2 e2) k2 (ks2.map encStr)) := Lib.hid (by rw [hw3']; exact HKO3.out)
              have HDO3 : Hid (w3'.ownsRow w.heap.size 5 1 (.slice D3 (q + me) f3) (q + me) (bv (blockB ((chk l x).take (j + 1))))) := Lib.hid (by rw [hw3']; exact HDO3.out)
              (try rw [← hw3'])
              clear hw3' hyk hzk HBS
              go_wp2
              go_roundw
              case rel => exact ⟨K' + 1 + 1, j + 1, C2, k2, e2, D3, q + me, f3, ks2, by omega, rfl, rfl, by go_num, by have := HKL4.out; omega, by have := HQ3.out; have := HJ3.out; omega, Lib.hid (by rw [HKJ.out]; omega), Lib.hid (by have := HQ3.out; omega), HR3, HKO3, Lib.hid (by rw [HKSN.out, ← HKS.out, if_pos HYES.out, List.append_nil]), HKL2, HDO3, HLB3, HDN3⟩
              case measure => simp [intOf]; omega
            | false =>
              refine wp_region_held_drew (S := fun W' => W'.cell? ⟨g, p + K' * 4, none⟩ = some (.string z.key) ∧ W'.cell? ⟨g, p + (K' + 1) * 4, none⟩ = some (.string y.key)) (by kernel_rfl) (by (first | exact ⟨hzk, hyk⟩ | (with_reducible assumption))) (fun hHeld => ?_)
              refine wpAnyH_take (i := 0) (v := ?vr3_0) (Fr.take_at rfl) (by kernel_rfl) (by kernel_rfl) (by kernel_rfl) (fun _ _ _ h => h) (Or.inl ⟨by rfl, ?yr3_0⟩) (by assumption) ?nr3_0
              case yr3_0 => (intro w_ hSw; obtain ⟨u0_, u1_⟩ := hSw; go_simp; (try with_reducible rfl))
              try simp only [Act.put, List.setIfInBounds_toArray, List.set_cons_zero, List.set_cons_succ]
              refine wpAnyH_take (i := 1) (v := ?vr3_1) (Fr.take_at rfl) (by kernel_rfl) (by kernel_rfl) (by kernel_rfl) (fun _ _ _ h => h) (Or.inl ⟨by rfl, ?yr3_1⟩) (by assumption) ?nr3_1
              case yr3_1 => (intro w_ hSw; obtain ⟨u0_, u1_⟩ := hSw; go_simp; (try with_reducible rfl))
              try simp only [Act.put, List.setIfInBounds_toArray, List.set_cons_zero, List.set_cons_succ]
              refine wpAnyH_take (i := 2) (v := ?vr3_2) (Fr.take_at rfl) (by kernel_rfl) (by kernel_rfl) (by kernel_rfl) (fun _ _ _ h => h) (Or.inl ⟨by rfl, ?yr3_2⟩) (by assumption) ?nr3_2
              case yr3_2 => (intro w_ hSw; obtain ⟨u0_, u1_⟩ := hSw; go_simp; (try with_reducible rfl))
              try simp only [Act.put, List.setIfInBounds_toArray, List.set_cons_zero, List.set_cons_succ]
              refine wpAnyH_take (i := 3) (v := ?vr3_3) (Fr.take_at rfl) (by kernel_rfl) (by kernel_rfl) (by kernel_rfl) (fun _ _ _ h => h) (Or.inl ⟨by rfl, ?yr3_3⟩) (by assumption) ?nr3_3
              case yr3_3 => (intro w_ hSw; obtain ⟨u0_, u1_⟩ := hSw; go_simp; (try with_reducible rfl))
              try simp only [Act.put, List.setIfInBounds_toArray, List.set_cons_zero, List.set_cons_succ]
              refine wpAnyH_take (i := 4) (v := ?vr3_4) (Fr.take_at rfl) (by kernel_rfl) (by kernel_rfl) (by kernel_rfl) (fun _ _ _ h => h) (Or.inl ⟨by rfl, ?yr3_4⟩) (by assumption) ?nr3_4
              case yr3_4 => (intro w_ hSw; obtain ⟨u0_, u1_⟩ := hSw; go_simp; (try with_reducible rfl))
              try simp only [Act.put, List.setIfInBounds_toArray, List.set_cons_zero, List.set_cons_succ]
              refine wpAnyH_take (i := 5) (v := ?vr3_5) (Fr.take_at rfl) (by kernel_rfl) (by kernel_rfl) (by kernel_rfl) (fun _ _ _ h => h) (Or.inl ⟨by rfl, ?yr3_5⟩) (by assumption) ?nr3_5
              case yr3_5 => (intro w_ hSw; obtain ⟨u0_, u1_⟩ := hSw; go_simp; (try with_reducible rfl))
              try simp only [Act.put, List.setIfInBounds_toArray, List.set_cons_zero, List.set_cons_succ]
              refine wpAnyH_take (i := 6) (v := ?vr3_6) (Fr.take_at rfl) (by kernel_rfl) (by kernel_rfl) (by kernel_rfl) (fun _ _ _ h => h) (Or.inl ⟨by rfl, ?yr3_6⟩) (by assumption) ?nr3_6
              case yr3_6 => (intro w_ hSw; obtain ⟨u0_, u1_⟩ := hSw; go_simp; (try with_reducible rfl))
              try simp only [Act.put, List.setIfInBounds_toArray, List.set_cons_zero, List.set_cons_succ]
              refine wpAnyH_take (i := 7) (v := ?vr3_7) (Fr.take_at rfl) (by kernel_rfl) (by kernel_rfl) (by kernel_rfl) (fun _ _ _ h => h) (Or.inl ⟨by rfl, ?yr3_7⟩) (by assumption) ?nr3_7
              case yr3_7 => (intro w_ hSw; obtain ⟨u0_, u1_⟩ := hSw; go_simp; (try with_reducible rfl))
              try simp only [Act.put, List.setIfInBounds_toArray, List.set_cons_zero, List.set_cons_succ]
              refine wpAnyH_take (i := 8) (v := ?vr3_8) (Fr.take_at rfl) (by kernel_rfl) (by kernel_rfl) (by kernel_rfl) (fun _ _ _ h => h) (Or.inl ⟨by rfl, ?yr3_8⟩) (by assumption) ?nr3_8
              case yr3_8 => (intro w_ hSw; obtain ⟨u0_, u1_⟩ := hSw; go_simp; (try with_reducible rfl))
              try simp only [Act.put, List.setIfInBounds_toArray, List.set_cons_zero, List.set_cons_succ]
              refine wpAnyH_take (i := 9) (v := ?vr3_9) (Fr.take_at rfl) (by kernel_rfl) (by kernel_rfl) (by kernel_rfl) (fun _ _ _ h => h) (Or.inl ⟨by rfl, ?yr3_9⟩) (by assumption) ?nr3_9
              case yr3_9 => (intro w_ hSw; obtain ⟨u0_, u1_⟩ := hSw; go_simp; (try with_reducible rfl))
              try simp only [Act.put, List.setIfInBounds_toArray, List.set_cons_zero, List.set_cons_succ]
              refine wpAnyH_take (i := 10) (v := ?vr3_10) (Fr.take_at rfl) (by kernel_rfl) (by kernel_rfl) (by kernel_rfl) (fun _ _ _ h => h) (Or.inl ⟨by rfl, ?yr3_10⟩) (by assumption) ?nr3_10
              case yr3_10 => (intro w_ hSw; obtain ⟨u0_, u1_⟩ := hSw; go_simp; (try with_reducible rfl))
              try simp only [Act.put, List.setIfInBounds_toArray, List.set_cons_zero, List.set_cons_succ]
              refine wpAnyH_take (i := 11) (v := ?vr3_11) (Fr.take_at rfl) (by kernel_rfl) (by kernel_rfl) (by kernel_rfl) (fun _ _ _ h => h) (Or.inl ⟨by rfl, ?yr3_11⟩) (by assumption) ?nr3_11
              case yr3_11 => (intro w_ hSw; obtain ⟨u0_, u1_⟩ := hSw; go_simp; (try with_reducible rfl))
              try simp only [Act.put, List.setIfInBounds_toArray, List.set_cons_zero, List.set_cons_succ]
              refine wpAnyH_take (i := 12) (v := ?vr3_12) (Fr.take_at rfl) (by kernel_rfl) (by kernel_rfl) (by kernel_rfl) (fun _ _ _ h => h) (Or.inl ⟨by rfl, ?yr3_12⟩) (by assumption) ?nr3_12
              case yr3_12 => (intro w_ hSw; obtain ⟨u0_, u1_⟩ := hSw; go_simp; (try with_reducible rfl))
              try simp only [Act.put, List.setIfInBounds_toArray, List.set_cons_zero, List.set_cons_succ]
              refine wpAnyH_take (i := 13) (v := ?vr3_13) (Fr.take_at rfl) (by kernel_rfl) (by kernel_rfl) (by kernel_rfl) (fun _ _ _ h => h) (Or.inl ⟨by rfl, ?yr3_13⟩) (by assumption) ?nr3_13
              case yr3_13 => (intro w_ hSw; obtain ⟨u0_, u1_⟩ := hSw; go_simp; (try with_reducible rfl))
              try simp only [Act.put, List.setIfInBounds_toArray, List.set_cons_zero, List.set_cons_succ]
              refine wpAnyH_take (i := 14) (v := ?vr3_14) (Fr.take_at rfl) (by kernel_rfl) (by kernel_rfl) (by kernel_rfl) (fun _ _ _ h => h) (Or.inl ⟨by rfl, ?yr3_14⟩) (by assumption) ?nr3_14
              case yr3_14 => (intro w_ hSw; obtain ⟨u0_, u1_⟩ := hSw; go_simp; (try with_reducible rfl))
              try simp only [Act.put, List.setIfInBounds_toArray, List.set_cons_zero, List.set_cons_succ]
              refine wpAnyH_take (i := 15) (v := ?vr3_15) (Fr.take_at rfl) (by kernel_rfl) (by kernel_rfl) (by kernel_rfl) (fun _ _ _ h => h) (Or.inl ⟨by rfl, ?yr3_15⟩) (by assumption) ?nr3_15
              case yr3_15 => (intro w_ hSw; obtain ⟨u0_, u1_⟩ := hSw; go_simp; (try with_reducible rfl))
              try simp only [Act.put, List.setIfInBounds_toArray, List.set_cons_zero, List.set_cons_succ]
              refine wpAnyH_done (by kernel_rfl) ?_ _
              have hne : ¬ (K' + 1 ≠ 0 ∧ (l[K' + 1 - 1]?).map kB = some (kB y)) := fun h => by
                have h1 := h.2
                rw [Nat.add_sub_cancel, HZ.out, Option.map_some, Option.some.injEq] at h1
                have h2 : z.key.toList = y.key.toList := by
                  rw [Lib.toList_data, Lib.toList_data]; exact h1
                rw [h2] at hke
                simp at hke
              have HNE := Lib.hid hne
              clear hne
              obtain ⟨w3', hw3'⟩ : ∃ y, y = w3.drew := ⟨_, rfl⟩
              have HR3 : Hid (R2 w tb ix A1 a1 c1 B1 m1 d1 w3') := Lib.hid (by rw [hw3']; exact ⟨HR3.out.tl, HR3.out.xl, HR3.out.town, HR3.out.xown, HR3.out.ne, HR3.out.bel.drew⟩)
              have HKO3 : Hid (w3'.ownsRow w.heap.size 9 1 (.slice C2 k2 e2) k2 (ks2.map encStr)) := Lib.hid (by rw [hw3']; exact HKO3.out)
              have HDO3 : Hid (w3'.ownsRow w.heap.size 5 1 (.slice D3 (q + me) f3) (q + me) (bv (blockB ((chk l x).take (j + 1))))) := Lib.hid (by rw [hw3']; exact HDO3.out)
              have HBS := Lib.hid (fun o : Obj => le_alloc_ (w := w3') HR3.out.bel.size o)
              have hyk' : w3'.cell? ⟨g, p + (K' + 1) * 4, none⟩ = some (.string y.key) := by rw [hw3']; exact hyk
              (try rw [← hw3'])
              clear hw3' hyk hzk
              go_wp2_with (at_builtin; refine wpList_app _ rfl (.tmp 54) (.tmp 60) _ rfl w.heap.size 9 is _ 16 Tryd.underlying51 his hsz hsz1 hsz2 rfl (.slice C2 k2 e2) k2 (ks2.map encStr) rfl (HKO3.out.alloc _) (some ⟨w3'.heap.size, 0, none⟩) 1 1 [.string y.key] rfl rfl (Rd.one _ _ _ _ _ rfl) (by intro u hu; simp at hu; subst hu; rfl) (k2 + 1) rfl (by unfold maxLen; omega) (by omega) (HBS.out _) ?_; intro C4 e4 w4 hown4 hb4 hg4 _)
              have hR4 := (HR3.out.below ((Below.refl _ w3').alloc (Nat.le_refl _) (.cells #[.string y.key] 9))).off hg4 fun b hb => ⟨(HKO3.out.lt b hb).1, fun e => no_two HR3.out.town HKO3.out e hb, fun e => no_two HR3.out.xown HKO3.out e hb⟩
              have hD4 := own_apart (HDO3.out.alloc (.cells #[.string y.key] 9)) hg4 fun b hb e => no_two HDO3.out HKO3.out hb e
              go_roundw
              case rel => exact ⟨K' + 1 + 1, j + 1, C4, k2 + 1, e4, D3, q + me, f3, ks2 ++ [kB y], by omega, rfl, rfl, by go_num, by have := HKL4.out; omega, by have := HQ3.out; have := HJ3.out; omega, Lib.hid (by rw [HKJ.out]; omega), Lib.hid (by have := HQ3.out; omega), Lib.hid hR4, Lib.hid (by rw [List.map_append, List.map_singleton, ← str_key]; exact hown4), Lib.hid (by rw [HKSN.out, ← HKS.out, if_neg HNE.out]), Lib.hid (by rw [List.length_append, List.length_singleton, HKL2.out]), Lib.hid hD4, HLB3, HDN3⟩
              case measure => simp [intOf]; omega
        · have hKe : K = EN := by omega
          subst hKe
          have hjl : (chk l x).take j = chk l x := List.take_of_length_le (by rw [chk_len, HL.out]; have := HKJ.out; have := HEN.out; have := HXI.out; omega)
          obtain ⟨bb, hbb⟩ : ∃ b, b = blockB (chk l x) := ⟨_, rfl⟩
          rw [hjl, ← hbb] at HDO HLB
          obtain ⟨sb, hsb⟩ : ∃ s, s = sealOf bb := ⟨_, rfl⟩
          have hsbb : sb = sealB (chk l x) := by rw [hsb, hbb]; rfl
          have hsbl : sb.length ≤ 3309 := by rw [hsbb]; exact sealB_len (by rw [chk_len]; omega) fun e he => HG.out.ok e (chk_mem he)
          obtain ⟨y0, hy0⟩ : ∃ y, l[i]? = some y := ⟨l[i]'(by have := HL.out; omega), List.getElem?_eq_getElem _⟩
          obtain ⟨y1, hy1⟩ : ∃ y, l[J1]? = some y := ⟨l[J1]'(by have := HL.out; have := HJ1.out; omega), List.getElem?_eq_getElem _⟩
          obtain ⟨g, p, rfl, _, _⟩ := erd_at (HR.out.below HR2.out.bel) hy0
          have hz0 := (entry_ok (HG.out.ok y0 (List.mem_of_getElem? hy0))).1
          have hz1' := (entry_ok (HG.out.ok y1 (List.mem_of_getElem? hy1))).1
          have hfk : firstK (chk l x) = y0.key.data.toList := by
            have h0 : (chk l x)[0]? = some y0 := by rw [chk_at (by omega), ← HXI.out]; exact hy0
            unfold firstK; rw [List.head?_eq_getElem?, h0]; rfl
          have hlk : lastK (chk l x) = y1.key.data.toList := by
            have hcl : (chk l x).length = K - i := by rw [chk_len, HL.out, ← HXI.out]; have := HEN.out; omega
            have h1 : (chk l x)[K - i - 1]? = some y1 := by rw [chk_at (by omega), ← HXI.out, show i + (K - i - 1) = J1 by have := HJ1.out; omega]; exact hy1
            unfold lastK; rw [List.getLast?_eq_getElem?, hcl, h1]; rfl
          obtain ⟨s9, hs9⟩ : ∃ s, s = textOf y0.key.data.toList := ⟨_, rfl⟩
          obtain ⟨s10, hs10⟩ : ∃ s, s = textOf y1.key.data.toList := ⟨_, rfl⟩
          obtain ⟨s11, hs11⟩ : ∃ s, s = enc a1 := ⟨_, rfl⟩
          obtain ⟨s12, hs12⟩ : ∃ s, s = enc sb.length := ⟨_, rfl⟩
          have hta1 : tb.length = a1 := HR2.out.tl
          have hxm1 : ix.length = m1 := HR2.out.xl
          have hx28 : x ≤ 27 := by have := HXI.out; omega
          have ha1 : a1 ≤ 92652 := by
            have h1 := tbOf_len HG.out.ok (List.range x)
            rw [← HTB.out, List.length_range] at h1
            have h2 : 3309 * x ≤ 3309 * 27 := Nat.mul_le_mul_left _ hx28
            omega
          have hm1 : m1 ≤ 3811 := by
            have h1 := ixOf_len HG.out.ok HG.out.le x (List.range x) (by rw [List.length_range]) (by omega)
            unfold ixOf at h1
            rw [← HIX.out, List.length_append] at h1
            omega
          have hl9 : s9.length ≤ 65 := by rw [hs9]; exact text_len hz0
          have hl10 : s10.length ≤ 65 := by rw [hs10]; exact text_len hz1'
          have hl11 : s11.length ≤ 3 := by rw [hs11]; exact enc3 (by omega)
          have hl12 : s12.length ≤ 3 := by rw [hs12]; exact enc3 (by omega)
          have hse := fun (W : World) (hr' : Rd W D (bv bb)) => Rseal_any D q f bb W HLB.out hr' (by omega)
          have hta := fun (W : World) => Rtext_any y0.key W (by omega)
          have htb := fun (W : World) => Rtext_any y1.key W (by omega)
          have hua := fun (W : World) => Ruint_any a1 W (by omega)
          have hub := fun (N : Nat) (hN : sb.length = N) (W : World) => Ruint_any N W (by omega)
          have hub := fun (N : Nat) (hN : sb.length = N) (W : World) => (by have h1 := hub N hN W; rw [← hN, ← hs12, hN] at h1; exact h1 : Calls Tryd.prog 42 #[.int .u64 (N : Int)] W (MadeRet 5 W s12))
          rw [← hsb] at hse
          rw [← hs9] at hta
          rw [← hs10] at htb
          rw [← hs11] at hua
          have hixn : ix ++ s9 ++ s10 ++ s11 ++ s12 = idxF ((List.range (x + 1)).map (chk l)) 0 := by
            rw [List.range_succ, List.map_append, List.map_singleton, idxF_snoc, Nat.zero_add, ← HIX.out, show (((List.range x).map (chk l)).flatMap sealB).length = a1 by rw [← hta1, HTB.out]; rfl, idxB, hfk, hlk, ← hsbb, ← hs9, ← hs10, ← hs11, ← hs12]
            simp only [List.append_assoc]
          have htbn : tb ++ sb = tbOf l (List.range (x + 1)) := by rw [List.range_succ, tbOf_snoc, ← HTB.out, ← hsbb]
          have HSE := Lib.hid hse
          have HTA := Lib.hid hta
          have HTC := Lib.hid htb
          have HUA := Lib.hid hua
          have HUB := Lib.hid hub
          have HIXN := Lib.hid hixn
          have HTBN := Lib.hid htbn
          have HY0 := Lib.hid hy0
          have HY1 := Lib.hid hy1
          have HSBL := Lib.hid hsbl
          have HHLT := Lib.hid hlt
          have n1' : (0 : Int) ≤ (i : Int) := by omega
          have n2' : (K : Int) - 1 = (J1 : Int) := by have := HJ1.out; omega
          have n3' : (0 : Int) ≤ (J1 : Int) := by omega
          have n4' : (J1 : Int) < (n : Int) := by have := HJ1.out; omega
          have n5' : IntKind.i64.wrap (J1 : Int) = (J1 : Int) := IntWalk.i64_in _ (by have := HJ1.out; omega)
          have n6' : IntKind.u64.wrap (a1 : Int) = (a1 : Int) := by rw [IntKind.wrap_u64]; omega
          clear hbb hsb hsbb hsbl hy0 hy1 hz0 hz1' hfk hlk hs9 hs10 hs11 hs12 hta1 hxm1 hse hta htb hua hub hixn htbn hjl HDN HTB HIX HKJ HQ
          have hS2 : St1 w tb ix (some ⟨g, p, none⟩) A1 a1 c1 B1 m1 d1 ks2 C2 k2 e2 l wr := ⟨HR2.out, HKO.out, HR.out⟩
          have HS2 := Lib.hid hS2
          clear hS2 HR2 HKO
          go_wp2_with (first
            | (go_at_call 40; refine (HSE.out _ (Rd.own HDO.out)).mono ?_; rintro e w5 ⟨v5, rfl, A5, m5, c5, rfl, hm5, hc5, hown5, hb5⟩; have HS5 : Hid (St w tb ix (some ⟨g, p, none⟩) A1 a1 c1 B1 m1 d1 ks2 C2 k2 e2 l sb A5 m5 c5 w5) := Lib.hid (HS2.out.st hb5 hown5); have hm5b : m5 ≤ 3309 := (by have := HSBL.out; have h2 : sb.length = m5 := hm5; omega); have n7' : IntKind.u64.wrap (m5 : Int) = (m5 : Int) := (by rw [IntKind.wrap_u64]; omega); have k5 := HS5.out.key HY0.out; have HM5 := Lib.hid hm5; clear hown5 hb5 hm5 hc5)
            | (go_at_call 41; (with_reducible refine (HTA.out _).mono ?_); rintro e w6 ⟨v6, rfl, A6, m6, c6, rfl, hm6, hc6, hown6, hb6⟩; have HS6 := Lib.hid (HS5.out.below hb6); have hm6b : m6 ≤ 65 := by omega)
            | (at_builtin; refine wpList_app _ rfl (.tmp 64) (.tmp 70) _ rfl w.heap.size 5 i0 _ 1 Tryd.underlying25 hi hz hz1 hz2 rfl (.slice B1 m1 d1) m1 (bv ix) rfl HS6.out.r2.xown A6 m6 c6 (bv s9) rfl (by rw [bv_length]; exact hm6) (Rd.own hown6) (bv_one _) (m1 + m6) rfl (by unfold maxLen; omega) (by omega) HS6.out.r2.bel.size ?_; intro B7 d7 w7 hown7 _ hg7 hn7; have HS7 := Lib.hid (HS6.out.index hown7 hg7 hn7); have k7 := HS7.out.key HY1.out; clear hown7 hg7 hn7 hown6 hb6 HS6 HS5)
            | (go_at_call 41; (with_reducible refine (HTC.out _).mono ?_); rintro e w8 ⟨v8, rfl, A8, m8, c8, rfl, hm8, hc8, hown8, hb8⟩; have HS8 := Lib.hid (HS7.out.below hb8); have hm8b : m8 ≤ 65 := by omega)
            | (at_builtin; refine wpList_app _ rfl (.tmp 72) (.tmp 79) _ rfl w.heap.size 5 i0 _ 1 Tryd.underlying25 hi hz hz1 hz2 rfl (.slice B7 (m1 + m6) d7) (m1 + m6) (bv (ix ++ s9)) rfl HS8.out.r2.xown A8 m8 c8 (bv s10) rfl (by rw [bv_length]; exact hm8) (Rd.own hown8) (bv_one _) (m1 + m6 + m8) rfl (by unfold maxLen; omega) (by omega) HS8.out.r2.bel.size ?_; intro B9 d9 w9 hown9 _ hg9 hn9; have HS9 := Lib.hid (HS8.out.index hown9 hg9 hn9); clear hown9 hg9 hn9 hown8 hb8 HS8 HS7)
            | (go_at_call 42; (with_reducible refine (HUA.out _).mono ?_); rintro e w10 ⟨v10, rfl, A10, m10, c10, rfl, hm10, hc10, hown10, hb10⟩; have HS10 := Lib.hid (HS9.out.below hb10); have hm10b : m10 ≤ 3 := by omega)
            | (at_builtin; refine wpList_app _ rfl (.tmp 81) (.tmp 85) _ rfl w.heap.size 5 i0 _ 1 Tryd.underlying25 hi hz hz1 hz2 rfl (.slice B9 (m1 + m6 + m8) d9) (m1 + m6 + m8) (bv (ix ++ s9 ++ s10)) rfl HS10.out.r2.xown A10 m10 c10 (bv s11) rfl (by rw [bv_length]; exact hm10) (Rd.own hown10) (bv_one _) (m1 + m6 + m8 + m10) rfl (by unfold maxLen; omega) (by omega) HS10.out.r2.bel.size ?_; intro B11 d11 w11 hown11 _ hg11 hn11; have HS11 := Lib.hid (HS10.out.index hown11 hg11 hn11); clear hown11 hg11 hn11 hown10 hb10 HS10 HS9)
            | (go_at_call 42; (with_reducible refine (HUB.out _ HM5.out _).mono ?_); rintro e w12 ⟨v12, rfl, A12, m12, c12, rfl, hm12, hc12, hown12, hb12⟩; have HS12 := Lib.hid (HS11.out.below hb12); have hm12b : m12 ≤ 3 := by omega)
            | (at_builtin; refine wpList_app _ rfl (.tmp 87) (.tmp 91) _ rfl w.heap.size 5 i0 _ 1 Tryd.underlying25 hi hz hz1 hz2 rfl (.slice B11 (m1 + m6 + m8 + m10) d11) (m1 + m6 + m8 + m10) (bv (ix ++ s9 ++ s10 ++ s11)) rfl HS12.out.r2.xown A12 m12 c12 (bv s12) rfl (by rw [bv_length]; exact hm12) (Rd.own hown12) (bv_one _) (m1 + m6 + m8 + m10 + m12) rfl (by unfold maxLen; omega) (by omega) HS12.out.r2.bel.size ?_; intro B13 d13 w13 hown13 _ hg13 hn13; have HS13 := Lib.hid (HS12.out.index hown13 hg13 hn13); clear hown13 hg13 hn13 hown12 hb12 HS12 HS11)
            | (at_builtin; refine wpList_app _ rfl (.tmp 93) (.tmp 94) _ rfl w.heap.size 5 i0 _ 1 Tryd.underlying25 hi hz hz1 hz2 rfl (.slice A1 a1 c1) a1 (bv tb) rfl HS13.out.r2.town A5 m5 c5 (bv sb) rfl (by rw [bv_length]; exact HM5.out) (Rd.own HS13.out.sown) (bv_one _) (a1 + m5) rfl (by unfold maxLen; omega) (by omega) HS13.out.r2.bel.size ?_; intro A14 c14 w14 hown14 _ hg14 hn14; have hR14 := HS13.out.r2.table hown14 hg14 hn14; have hK14 := own_type HS13.out.kown HS13.out.r2.town hg14 (by decide)))
          rw [HIXN.out, HTBN.out] at hR14
          go_roundw
          case rel => exact ⟨x + 1, i + 3, A14, a1 + m5, c14, B13, m1 + m6 + m8 + m10 + m12, d13, C2, k2, e2, _, _, ks2, by have := HXI.out; omega, by have := HHLT.out; omega, rfl, rfl, rfl, by go_num, by go_num, hk284, Lib.hid hR14, Lib.hid hK14, Lib.hid rfl, Lib.hid rfl, Lib.hid (by
            rw [HKS.out]
            have := HEN.out
            rcases Nat.le_total n (i + 3) with h | h
            · rw [List.take_of_length_le (by rw [HL.out]; omega), List.take_of_length_le (by rw [HL.out]; omega)]
            · rw [show K = i + 3 by omega]), HKL2⟩
          case measure => simp [intOf]; have := HHLT.out; omega
    · have hxK : x = (n + 2) / 3 := by omega
      have hbe := build_eq (l := l) (K := x) (by rw [HL.out]; exact hxK)
      have hkl : l.take i = l := List.take_of_length_le (by rw [HL.out]; omega)
      rw [hkl] at HKS
      have hx28 : x ≤ 28 := by omega
      have hke := keysB_len l fun e he => (entry_ok (HG.out.ok e he)).1
      obtain ⟨fl, hfl⟩ : ∃ f, f = Bl.filt (keysB l) 10 := ⟨_, rfl⟩
      have hta1 : tb.length = a1 := HR2.out.tl
      have hxm1 : ix.length = m1 := HR2.out.xl
      have ha1 : a1 ≤ 92652 := by
        have h1 := tbOf_len HG.out.ok (List.range x)
        rw [← HTB.out, List.length_range] at h1
        have h2 : 3309 * x ≤ 3309 * 28 := Nat.mul_le_mul_left _ hx28
        omega
      have hio : ixOf l (List.range x) = enc x ++ ix := by
        unfold ixOf
        rw [← HIX.out, chunks_len _ l (Nat.le_refl _), HL.out, ← hxK]
      obtain ⟨ux, hux⟩ : ∃ u, u = enc x := ⟨_, rfl⟩
      rw [← hux] at hio
      have hil : ux.length + ix.length ≤ 3811 := by
        have h1 := ixOf_len HG.out.ok HG.out.le x (List.range x) (by rw [List.length_range]) hx28
        rw [hio, List.length_append] at h1
        omega
      have hflen : fl.length ≤ 110 := by rw [hfl]; exact filt_le HG.out.le
      rw [hio, ← HTB.out, ← hfl] at hbe
      obtain ⟨sf, hsf⟩ : ∃ s, s = sealOf fl := ⟨_, rfl⟩
      obtain ⟨si, hsi⟩ : ∃ s, s = sealOf (ux ++ ix) := ⟨_, rfl⟩
      rw [← hsf, ← hsi] at hbe
      have hsfl : sf.length ≤ 120 := by rw [hsf, sealOf_length]; have := enc3 (n := fl.length) (by omega); omega
      have hsil : si.length ≤ 3820 := by rw [hsi, sealOf_length, List.length_append]; have := enc3 (n := ux.length + ix.length) (by omega); omega
      have hrb := fun (W : World) (hr' : Rd W C1 (ks.map encStr)) => Bl.rbuild_any (w := W) (A := C1) (c := e1) (per := 10) (ks := ks.map fun b => (⟨b.toArray⟩ : ByteArray)) (n := k1) (by rw [List.length_map]; exact HKL.out) (by rw [enc_ks]; exact hr') (keys_size (by rw [HKS.out]; exact hke)) (by omega)
      rw [tl_ks, show Bl.filt ks 10 = fl by rw [hfl, HKS.out]] at hrb
      have hrs := fun (W : World) (A' : Option Addr) (n' c' : Nat) (hl' : fl.length = n') (hr' : Rd W A' (bv fl)) => Rseal_any A' n' c' fl W hl' hr' (by omega)
      rw [← hsf] at hrs
      have hrx := fun (W : World) (A' : Option Addr) (n' c' : Nat) (hl' : (ux ++ ix).length = n') (hr' : Rd W A' (bv (ux ++ ix))) => Rseal_any A' n' c' (ux ++ ix) W hl' hr' (by rw [List.length_append] at hl'; omega)
      rw [← hsi] at hrx
      have hru := fun (W : World) => Ruint_any x W (by omega)
      rw [← hux] at hru
      have HBE := Lib.hid hbe
      have HRB := Lib.hid hrb
      have HRS := Lib.hid hrs
      have HRX := Lib.hid hrx
      have HRU := Lib.hid hru
      have HTA1 := Lib.hid hta1
      have HXM1 := Lib.hid hxm1
      have hm1u : m1 ≤ 3811 := by omega
      have hul : ux.length ≤ 3811 := by omega
      have p1' : IntKind.u64.wrap (x : Int) = (x : Int) := by rw [IntKind.wrap_u64]; omega
      clear hbe hrb hrs hrx hru hta1 hxm1 hxK hkl hke hfl hio hux hsf hsi hix HIX HTB
      go_wp2_with (first
        | (go_at_call 25; refine (HRB.out _ (Rd.own HKO.out)).mono ?_; rintro e w2 ⟨v2, rfl, A2, m2, c2, rfl, hm2, hc2, hown2, hb2⟩; have HR3 := Lib.hid (HR2.out.below hb2); have hm2b : m2 ≤ 110 := by omega)
        | (go_at_call 40; (with_reducible refine (HRS.out _ _ _ _ hm2 (Rd.own hown2)).mono ?_); rintro e w3 ⟨v3, rfl, A3, m3, c3, rfl, hm3, hc3, hown3, hb3⟩; have HR4 := Lib.hid (HR3.out.below hb3); have hm3b : m3 ≤ 120 := by omega)
        | (at_builtin; refine wpList_app _ rfl (.tmp 100) (.tmp 103) _ rfl w.heap.size 5 i0 _ 1 Tryd.underlying25 hi hz hz1 hz2 rfl (.slice A1 a1 c1) a1 (bv tb) rfl HR4.out.town A3 m3 c3 (bv sf) rfl (by rw [bv_length]; exact hm3) (Rd.own hown3) (bv_one _) (a1 + m3) rfl (by unfold maxLen; omega) (by omega) HR4.out.bel.size ?_; intro A5 c5 w5 hown5 _ hg5 hn5; have HR5 := Lib.hid (HR4.out.table hown5 hg5 hn5); clear hown5 hg5 hn5 hb3 hb2 hown2 hown3 HR4 HR3)
        | (go_at_call 42; (with_reducible refine (HRU.out _).mono ?_); rintro e w6 ⟨v6, rfl, A6, m6, c6, rfl, hm6, hc6, hown6, hb6⟩; have HR6 := Lib.hid (HR5.out.below hb6); have hm6b : m6 ≤ 3811 := by omega)
        | (at_builtin; refine wpList_app _ rfl (.tmp 110) (.tmp 111) _ rfl w5.heap.size 5 i0 _ 1 Tryd.underlying25 hi hz hz1 hz2 rfl (.slice A6 m6 c6) m6 (bv ux) rfl hown6 B1 m1 d1 (bv ix) rfl (by rw [bv_length]; exact HXM1.out) (Rd.own HR6.out.xown) (bv_one _) (m6 + m1) rfl (by unfold maxLen; omega) (by omega) hb6.size ?_; intro A7 c7 w7 hown7 _ hg7 _; have HR7 := Lib.hid (HR6.out.off hg7 fun k hk => ⟨Nat.le_trans HR5.out.bel.size (hown6.lt k hk).1, fun e => absurd (HR5.out.town.lt k e).2 (Nat.not_lt.2 (hown6.lt k hk).1), fun e => absurd (HR5.out.xown.lt k e).2 (Nat.not_lt.2 (hown6.lt k hk).1)⟩); rw [← bv_append] at hown7)
        | (go_at_call 40; (with_reducible refine (HRX.out _ _ _ _ (by rw [List.length_append, hm6, HXM1.out]) (Rd.own hown7)).mono ?_); rintro e w8 ⟨v8, rfl, A8, m8, c8, rfl, hm8, hc8, hown8, hb8⟩; have HR8 := Lib.hid (HR7.out.below hb8); have hm8b : m8 ≤ 3820 := by omega)
        | (at_builtin; refine wpList_app _ rfl (.tmp 107) (.tmp 113) _ rfl w.heap.size 5 i0 _ 1 Tryd.underlying25 hi hz hz1 hz2 rfl (.slice A5 (a1 + m3) c5) (a1 + m3) (bv (tb ++ sf)) rfl HR8.out.town A8 m8 c8 (bv si) rfl (by rw [bv_length]; exact hm8) (Rd.own hown8) (bv_one _) (a1 + m3 + m8) rfl (by unfold maxLen; omega) (by omega) HR8.out.bel.size ?_; intro A9 c9 w9 hown9 _ hg9 hn9; have HR9 := Lib.hid (HR8.out.table hown9 hg9 hn9); clear hown9 hg9 hn9 hb8 hown8 hown7 hown6 hg7 HR8 HR7 HR6 HR5)
        | (go_at_call 43; (with_reducible refine (four_any a1 _ (by omega)).mono ?_); rintro e w10 ⟨rfl, hr10, hb10⟩; have HR10 := Lib.hid (HR9.out.below hb10))
        | (at_builtin; refine wpList_app _ rfl (.tmp 115) (.tmp 117) _ rfl w.heap.size 5 i0 _ 1 Tryd.underlying25 hi hz hz1 hz2 rfl (.slice A9 (a1 + m3 + m8) c9) (a1 + m3 + m8) (bv (tb ++ sf ++ si)) rfl HR10.out.town (some ⟨w9.heap.size, 0, none⟩) 4 4 (bv (le4 a1)) rfl (by rw [bv_length]; rfl) hr10 (bv_one _) (a1 + m3 + m8 + 4) rfl (by unfold maxLen; omega) (by omega) HR10.out.bel.size ?_; intro A11 c11 w11 hown11 _ hg11 hn11; have HR11 := Lib.hid (HR10.out.table hown11 hg11 hn11))
        | (go_at_call 43; have hf2 := four_any (a1 + m3) w11 (by omega); rw [Int.natCast_add] at hf2; (with_reducible refine hf2.mono ?_); rintro e w12 ⟨rfl, hr12, hb12⟩; have HR12 := Lib.hid (HR11.out.below hb12))
        | (at_builtin; refine wpList_app _ rfl (.tmp 119) (.tmp 121) _ rfl w.heap.size 5 i0 _ 1 Tryd.underlying25 hi hz hz1 hz2 rfl (.slice A11 (a1 + m3 + m8 + 4) c11) (a1 + m3 + m8 + 4) (bv (tb ++ sf ++ si ++ le4 a1)) rfl HR12.out.town (some ⟨w11.heap.size, 0, none⟩) 4 4 (bv (le4 (a1 + m3))) rfl (by rw [bv_length]; rfl) hr12 (bv_one _) (a1 + m3 + m8 + 4 + 4) rfl (by unfold maxLen; omega) (by omega) HR12.out.bel.size ?_; intro A13 c13 w13 hown13 _ hg13 hn13; have HR13 := Lib.hid (HR12.out.table hown13 hg13 hn13))
        | (at_builtin; refine wpList_app _ rfl (.tmp 123) (.tmp 124) _ rfl w.heap.size 5 i0 _ 1 Tryd.underlying25 hi hz hz1 hz2 rfl (.slice A13 (a1 + m3 + m8 + 4 + 4) c13) (a1 + m3 + m8 + 4 + 4) (bv (tb ++ sf ++ si ++ le4 a1 ++ le4 (a1 + m3))) rfl (HR13.out.town.alloc _) (some ⟨w13.heap.size, 0, none⟩) 4 4 (bv [99, 118, 116, 49]) rfl rfl (Rd.block _ _ _ #[.int .u8 99, .int .u8 118, .int .u8 116, .int .u8 49]) (bv_one _) (a1 + m3 + m8 + 4 + 4 + 4) rfl (by unfold maxLen; omega) (by omega) (le_alloc_ HR13.out.bel.size _) ?_; intro A15 c15 w15 hown15 hb15 hg15 _))
      go_ret
      refine MadeRet.mk (n := a1 + m3 + m8 + 4 + 4 + 4) ?_ ?_ ((HR13.out.bel.alloc HR13.out.bel.size _).trans hb15)
      · rw [HBE.out]
        simp only [List.length_append, HTA1.out, hm3, hm8, le4_length]
        rfl
      · have h2 : sf.length = m3 := hm3
        rw [HBE.out, HTA1.out, h2, bv_append]
        exact hown15
end
end Ss
end Go.Proofs.YtadlhnjnhllpfaaDoor
