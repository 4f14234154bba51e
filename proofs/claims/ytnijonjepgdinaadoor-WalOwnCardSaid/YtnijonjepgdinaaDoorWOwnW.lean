/-
  WHAT IS PROVED: what the law WalOwn answers. CONDITIONS: the payloads stand in memory as named; the library's variables lie as laid.
-/
import Derived.Test.YtnijonjepgdinaaDoorWOwnP
import Derived.Deep.RegionHeld3
import Derived.Deep.RegionWith
namespace Go.Proofs.YtnijonjepgdinaaDoor
open Go Go.RowKit Go.Maps Go.Proofs.YtnijonjepgdinaaDoor.Fr Go.Proofs.YtnijonjepgdinaaDoor.Dr
namespace Wl

theorem own_at {w : World} {base : Nat} {e : TypeId} {A : Option Addr} {n c : Nat} {xs : List Value} (h : w.ownsRow base e 1 (.slice A n c) n xs) (hn : 0 < n) : ∃ g, A = some ⟨g, 0, none⟩ ∧ base ≤ g ∧ g < w.heap.size := by
  rcases h.2 with ⟨_, h0⟩ | ⟨g, cap, cur, hv, h1, hg, _⟩
  · omega
  · injection hv with h3 h4 h5
    exact ⟨g, h3, h1, (Array.getElem?_eq_some_iff.1 hg).1⟩
theorem rd_head {w : World} {A : Option Addr} {xs ys : List Value} (h : Rd w A (xs ++ ys)) : Rd w A xs := by
  have := h.take xs.length
  rwa [List.take_left] at this
theorem own_last_rd {w : World} {B : Nat} {us : List Value} {lq : List Bs} {A : Option Addr} {m c : Nat} {s : Bs} (h : OwnL w B (us ++ [.slice A m c]) (lq ++ [s])) : Rd w A (bv s) := by
  have h1 := h.1
  simp only [List.length_append, List.length_singleton] at h1
  obtain ⟨A', m', c', e, _, _, h2⟩ := h.reads.2 us.length (.slice A m c) s (by simp) (by rw [show us.length = lq.length by omega]; simp)
  cases e
  exact h2
/-- Where the loop that appends stands. -/
structure OwAt (w0 : World) (l0 : List Bs) (b d i : Nat) (X : Nat → Prop) (g : Int) (st : St) (v : Value) (us : List Value) (wr : World) : Prop where
  ls : LS w0 wr X b d g false st
  lx : Lx i (2 * i) false g false st 0
  tags : (tag st.files).map (·.2) = shorts (l0.take i)
  row : wr.ownsRow w0.heap.size 42 1 v i us
  own : OwnL wr w0.heap.size us (shorts (l0.take i))
  rowX : ∀ k, v.ownBlock = some k → X k
  ownX : ∀ u ∈ us, ∀ k, u.ownBlock = some k → X k
def OwInv (w0 : World) (l0 : List Bs) (b d n : Nat) (v x : Value) (wr : World) : Prop :=
  ∃ (i c : Nat) (A : Option Addr), i ≤ n ∧ i ≤ 20 ∧ x = .int .i64 (i : Int) ∧ v = .slice A i c ∧ i ≤ c ∧ Hid (∃ X g st us, OwAt w0 l0 b d i X g st (.slice A i c) us wr)
/-- Ahead of the Append: the room, the list with its new row. -/
structure OwMid (w0 wr : World) (b d i : Nat) (X : Nat → Prop) (g : Int) (st : St) (V : Value) (us : List Value) (lq : List Bs) (s : Bs) (g5 c5 : Nat) (v6 : Value) (W : World) : Prop where
  ls : LS w0 W X b d g false st
  row : W.ownsRow w0.heap.size 42 1 V (i + 1) (us ++ [v6])
  own : OwnL W w0.heap.size (us ++ [v6]) (lq ++ [s])
  room : W.ownsRow wr.heap.size 5 1 (.slice (some ⟨g5, 0, none⟩) (s.length + 1) c5) (s.length + 1) (bv s ++ [.int .u8 77])
  rowX : ∀ k, V.ownBlock = some k → X k
  ownX : ∀ u ∈ us ++ [v6], ∀ k, u.ownBlock = some k → X k ∧ k ≠ g5
  roomX : X g5
  geX : w0.heap.size ≤ g5
theorem ow_mid {w0 wr w4 w5 w6 w7 : World} {l0 : List Bs} {b d i : Nat} {X : Nat → Prop} {g : Int} {st : St} {A : Option Addr} {c : Nat} {us : List Value} (h : OwAt w0 l0 b d i X g st (.slice A i c) us wr) {s : Bs} {g5 c5 : Nat}
    (hb4 : Below wr.heap.size wr w4) (ho5 : w5.ownsRow wr.heap.size 5 1 (.slice (some ⟨g5, 0, none⟩) (s.length + 1) c5) (s.length + 1) (bv s ++ [.int .u8 77])) (hb5 : Below wr.heap.size (w4.alloc (.cells #[.int .u8 77] 5)) w5)
    {A6 : Option Addr} {m6 c6 : Nat} (hm6 : s.length = m6) (ho6 : w6.ownsRow w5.heap.size 5 1 (.slice A6 m6 c6) m6 (bv s)) (hb6 : Below w5.heap.size w5 w6) {A7 : Option Addr} {c7 : Nat}
    (hr7 : w7.ownsRow w0.heap.size 42 1 (.slice A7 (i + 1) c7) (i + 1) (us ++ [.slice A6 m6 c6])) (hg7 : (w6.alloc (.cells #[.slice A6 m6 c6] 42)).grownBy w7 (Value.slice A i c).ownBlock)
    (h8 : (Value.slice A7 (i + 1) c7).ownBlock = (Value.slice A i c).ownBlock ∨ (Value.slice A7 (i + 1) c7).ownBlock = some (w6.alloc (.cells #[.slice A6 m6 c6] 42)).heap.size) :
    ∃ X', OwMid w0 wr b d i X' g st (.slice A7 (i + 1) c7) us (shorts (l0.take i)) s g5 c5 (.slice A6 m6 c6) w7 := by
  have hs0 := h.ls.bel.size
  have hb5' : Below wr.heap.size wr w5 := (hb4.alloc hb4.size _).trans hb5
  have hb6' : Below wr.heap.size wr w6 := hb5'.trans (hb6.mono hb5'.size)
  have hb7' : Below wr.heap.size wr (w6.alloc (.cells #[.slice A6 m6 c6] 42)) := hb6'.alloc hb6'.size _
  have ha6 : Below w6.heap.size w6 (w6.alloc (.cells #[.slice A6 m6 c6] 42)) := (Below.refl _ _).alloc (Nat.le_refl _) _
  have h1 := h.ls.news hb7'
  have hrge := own_row h.row
  have h2 := h1.law (w' := w7) (Mod.grown hg7 fun k hk => ⟨.inl (h.rowX k hk), hrge k hk⟩)
  have hro : (w6.alloc (.cells #[.slice A6 m6 c6] 42)).ownsRow w0.heap.size 42 1 (.slice A i c) i us := own_below h.row hb7' (Nat.le_refl _)
  have hg5 := ho5.lt g5 rfl
  have h56 := hb6.size
  have h67 := hg7.size
  rw [World.size_alloc] at h67
  have hlt6 := ho6.lt
  have hlt7 := hr7.lt
  refine ⟨_, h2, hr7, ?_, ?_, ?_, ?_, ?_, Nat.le_trans hs0 hg5.1⟩
  · refine OwnL.grown (OwnL.below ?_ ha6) hro (by decide) hg7
    refine (h.own.below hb6').snoc hm6 ho6 (Nat.le_trans hs0 hb5'.size) ?_
    intro u k hu hk
    exact Nat.lt_of_lt_of_le (h.own.lt u k hu hk) hb5'.size
  · exact (own_below (own_below ho5 hb6 (Nat.le_refl _)) ha6 (Nat.le_refl _)).kept hg7 (own_ne (own_below (own_below ho5 hb6 (Nat.le_refl _)) ha6 (Nat.le_refl _)) hro (by decide))
  · intro k hk
    rcases h8 with h8 | h8
    · exact .inl (.inl (h.rowX k (h8 ▸ hk)))
    · have h9 := hlt7 k hk
      rw [h8] at hk
      exact .inr ⟨Nat.le_of_eq (Option.some.inj hk), h9.2⟩
  · intro u hu k hk
    rcases List.mem_append.1 hu with hu | hu
    · refine ⟨.inl (.inl (h.ownX u hu k hk)), ?_⟩
      have := h.own.lt u k hu hk
      omega
    · obtain rfl := List.mem_singleton.1 hu
      have h9 := hlt6 k hk
      refine ⟨.inl (.inr ⟨?_, ?_⟩), ?_⟩
      · have := hb5'.size; omega
      · rw [World.size_alloc]; omega
      · omega
  · refine .inl (.inr ⟨hg5.1, ?_⟩)
    rw [World.size_alloc]; omega
/-- Behind the Append. -/
theorem OwMid.op {w0 wr W W' : World} {b d i : Nat} {X : Nat → Prop} {g g' : Int} {st st' : St} {V : Value} {us : List Value} {ls : List Bs} {s : Bs} {g5 c5 : Nat} {v6 : Value} (h : OwMid w0 wr b d i X g st V us ls s g5 c5 v6 W)
    (h1 : LS w0 W' X b d g' false st') (hk : ∀ k, X k → W'.heap[k]? = W.heap[k]?) : OwMid w0 wr b d i X g' st' V us ls s g5 c5 v6 W' :=
  by
  refine ⟨h1, own_same h.row fun k e => hk k (h.rowX k e), ⟨h.own.1, fun j v l hv hl => ?_⟩, own_same h.room fun k e => ?_, h.rowX, h.ownX, h.roomX, h.geX⟩
  · obtain ⟨b', hb, ho, hd⟩ := h.own.2 j v l hv hl
    exact ⟨b', hb, own_same ho fun k e => hk k (h.ownX v (List.mem_of_getElem? hv) k e).1, hd⟩
  · obtain rfl : g5 = k := by simpa [Value.ownBlock] using e
    exact hk g5 h.roomX
/-- Where the loop that writes the room over stands. -/
def RmInv (wr W : World) (g5 n c5 : Nat) (x : Value) (W' : World) : Prop :=
  ∃ (j : Nat) (ys : List Value), j ≤ n ∧ x = .int .i64 (j : Int) ∧ Hid (W'.ownsRow wr.heap.size 5 1 (.slice (some ⟨g5, 0, none⟩) n c5) n ys ∧ Mod (fun q => q = g5) W W')
theorem OwMid.rest {w0 wr W W' : World} {l0 : List Bs} {b d i : Nat} {X : Nat → Prop} {g : Int} {st st0 : St} {A7 : Option Addr} {c7 : Nat} {us : List Value} {s : Bs} {g5 c5 : Nat} {v6 : Value} {l : Bs} (h : OwMid w0 wr b d i X g st (.slice A7 (i + 1) c7) us (shorts (l0.take i)) s g5 c5 v6 W)
    (hm : Mod (fun q => q = g5) W W') (hx : Lx (i + 1) (2 * i + 2) false g false st 0) (hl : l0[i]? = some l) (hs : s = l.take 700) (hT : (tag st0.files).map (·.2) = shorts (l0.take i)) (ht : tag st.files = tag st0.files ++ [(g, s)]) :
    ∃ X g st us, OwAt w0 l0 b d (i + 1) X g st (.slice A7 (i + 1) c7) us W' := by
  have e : shorts (l0.take (i + 1)) = shorts (l0.take i) ++ [s] := by
    rw [List.take_add_one, hl, hs]; simp [shorts]
  have h1 := h.ls.law (w' := W') (hm.weaken fun q _ e => by subst e; exact ⟨h.roomX, h.geX⟩)
  refine ⟨_, g, st, us ++ [v6], h1, hx, ?_, ?_, ?_, fun k hk => .inl (h.rowX k hk), fun u hu k hk => .inl (h.ownX u hu k hk).1⟩
  · rw [ht, List.map_append, hT, e]; rfl
  · refine own_mod h.row hm fun k hk e => ?_
    subst e
    obtain ⟨c1, q1⟩ := own_blk h.row hk
    obtain ⟨c2, q2⟩ := own_blk h.room (k := k) rfl
    exact Blk.ne q1 q2 (by decide) rfl
  · rw [e]
    exact OwnL.mod h.own hm fun u hu k hk => (h.ownX u hu k hk).2
/-- Where the loops over what was opened stand. -/
def PInv (B1 : Nat) (Y : Nat → Prop) (w3 : World) (V : Value) (k : Nat) (vs : List Value) (ls : List Bs) (x : Value) (W : World) : Prop :=
  ∃ i, i ≤ k ∧ x = .int .i64 ((i : Nat) : Int) ∧ Hid (PAt B1 Y w3 V k vs ls i W)
def CInv (B1 : Nat) (Y : Nat → Prop) (w3 : World) (V : Value) (k : Nat) (vs : List Value) (ls : List Bs) (i : Nat) (v : Value) (n : Nat) (x : Value) (W : World) : Prop :=
  ∃ j ys, j ≤ n ∧ x = .int .i64 ((j : Nat) : Int) ∧ Hid (CAt B1 Y w3 V k vs ls i v n ys W)
def EInv (B1 : Nat) (Y : Nat → Prop) (w3 : World) (V : Value) (k : Nat) (vs : List Value) (ls : List Bs) (i n : Nat) (x : Value) (W : World) : Prop :=
  ∃ j A c ys, j ≤ 20 ∧ n + j ≤ c ∧ x = .int .i64 ((j : Nat) : Int) ∧ Hid (CAt B1 Y w3 V k vs ls i (.slice A (n + j) c) (n + j) ys W)
theorem snoc_at {l : Bs} {n : Nat} (h : l.length = n) : (bv l ++ [Value.int .u8 77])[n]? = some (.int .u8 77) := by
  rw [List.getElem?_append_right (by rw [bv_length, h]; exact Nat.le_refl _), bv_length, h, Nat.sub_self]; rfl
/-- What was opened last and what is wanted: in blocks that the loops over the first list don't write. -/
structure OwOpen (wr w4 w5 : World) (A : Option Addr) (i c : Nat) (us : List Value) (A5 : Option Addr) (k5 c5 : Nat) (vs5 : List Value) (P : List Bs) : Prop where
  want : w5.ownsRow 0 42 1 (.slice A i c) i us
  wantL : OwnL w5 0 us P
  last : w5.ownsRow w4.heap.size 42 1 (.slice A5 k5 c5) k5 vs5
  lastL : OwnL w5 w4.heap.size vs5 P
  lo : ∀ k, (Value.slice A i c).ownBlock = some k → k < wr.heap.size
  loL : ∀ u ∈ us, ∀ k, u.ownBlock = some k → k < wr.heap.size
theorem ow_open {w0 wr w4 w5 : World} {l0 : List Bs} {b d i : Nat} {X : Nat → Prop} {g : Int} {st : St} {A : Option Addr} {c : Nat} {us : List Value} {P : List Bs} (h : OwAt w0 l0 b d i X g st (.slice A i c) us wr) (hb4 : Below wr.heap.size wr w4) (hb5 : Below w4.heap.size w4 w5)
    {A5 : Option Addr} {k5 c5 : Nat} {vs5 : List Value} (h5 : w5.ownsRow w4.heap.size 42 1 (.slice A5 k5 c5) k5 vs5) (o5 : OwnL w5 w4.heap.size vs5 P) (hP : P = shorts (l0.take i)) : OwOpen wr w4 w5 A i c us A5 k5 c5 vs5 P := by
  have hb := hb4.trans (hb5.mono hb4.size)
  subst hP
  exact ⟨own_below h.row hb (Nat.zero_le _), ownL_mono (h.own.below hb) (Nat.zero_le _), h5, o5, fun k hk => (h.row.lt k hk).2, fun u hu k hk => h.own.lt u k hu hk⟩
theorem ow_same {wr w4 w5 W : World} {A : Option Addr} {i c : Nat} {us : List Value} {A5 : Option Addr} {k5 c5 : Nat} {vs5 : List Value} {P : List Bs} (h : OwOpen wr w4 w5 A i c us A5 k5 c5 vs5 P) (hm : Mod (fun q => wr.heap.size ≤ q ∧ q < w4.heap.size) w5 W) (h1 : P.length = k5) (h2 : P.length = i) :
    Rd W A5 vs5 ∧ RdL W vs5 P ∧ Rd W A us ∧ RdL W us P ∧ k5 = i :=
  ⟨Rd.own (own_mod h.last hm fun k hk e => by have := (h.last.lt k hk).1; omega), (OwnL.mod h.lastL hm fun u hu k hk e => by have := (OwnL.ge h.lastL u hu k hk).1; omega).reads,
    Rd.own (own_mod h.want hm fun k hk e => by have := h.lo k hk; omega), (OwnL.mod h.wantL hm fun u hu k hk e => by have := h.loL u hu k hk; omega).reads, by omega⟩
theorem CAt.spot {B1 : Nat} {Y : Nat → Prop} {w3 W W1 W' : World} {v : Value} {k i n g cap : Nat} {vs ys : List Value} {ls : List Bs} (h : CAt B1 Y w3 (.slice (some ⟨g, 0, none⟩) k cap) k vs ls i v n ys W) (hb : Below W.heap.size W W1) (hg : W1.grownBy W' v.ownBlock) (hik : i < k) :
    W'.cell? ⟨g, i, none⟩ = some v ∧ W'.frozen? ⟨g, i, none⟩ = false := by
  obtain ⟨⟨us, h1, h2, _⟩, _, _⟩ := (h.news hb).grown hg
  exact ⟨(h1.cellAt i (by omega)).trans h2, h1.frozenAt i⟩
theorem CAt.spot0 {B1 : Nat} {Y : Nat → Prop} {w3 W : World} {v : Value} {k i n g cap : Nat} {vs ys : List Value} {ls : List Bs} (h : CAt B1 Y w3 (.slice (some ⟨g, 0, none⟩) k cap) k vs ls i v n ys W) (hik : i < k) : W.cell? ⟨g, i, none⟩ = some v := by
  obtain ⟨us, h1, h2, _⟩ := h.row
  exact (h1.cellAt i (by omega)).trans h2
theorem CAt.app {B1 : Nat} {Y : Nat → Prop} {w3 W W' : World} {v : Value} {k i n g cap m c : Nat} {vs ys : List Value} {ls : List Bs} {A : Option Addr} (h : CAt B1 Y w3 (.slice (some ⟨g, 0, none⟩) k cap) k vs ls i v n ys W) {o : Obj} {ys' : List Value} (hc : W'.ownsRow B1 5 1 (.slice A m c) m ys')
    (hg : (W.alloc o).grownBy W' v.ownBlock) (h8 : (Value.slice A m c).ownBlock = v.ownBlock ∨ (Value.slice A m c).ownBlock = some (W.alloc o).heap.size) (hik : i < k) : CAt B1 Y w3 (.slice (some ⟨g, 0, none⟩) k cap) k vs ls i (.slice A m c) m ys' (W'.setCell ⟨g, i, none⟩ (.slice A m c)) :=
  (h.news ((Below.refl _ _).alloc (Nat.le_refl _) o)).put hc hg h8 rfl hik
set_option maxHeartbeats 6400000 in
set_option maxRecDepth 100000 in
theorem wown_walk (A0 : Option Addr) (n0 c0 : Nat) (us0 : List Value) (l0 : List Bs) (w : World) (hl0 : l0.length = n0) (_ : n0 ≤ c0) (hr0 : Rd w A0 us0) (hrl0 : RdL w us0 l0) (_ : ∀ l ∈ l0, l.length ≤ 140737488351232)
    {B : Nat} (hL : Lb B w) :
    Calls Tryd.prog 5 #[.slice A0 n0 c0] w (Yes w) := by
  have hc1 := new_any w
  obtain ⟨i0, hi0, hz, hz1, hz2⟩ := info_parts Fr.info_u8
  obtain ⟨i1, hi1, hy1, hy11, hy12⟩ := info_parts info_sl
  have HL := Lib.hid hL
  have HR0 := Lib.hid hr0
  have HRL0 := Lib.hid hrl0
  have HL0 := Lib.hid hl0
  have HST := Lib.hid (fun (W : World) => run_str (P := Tryd.prog) W 42 9 5 Tryd.underlying42 Tryd.underlying5 Tryd.underlying9)
  clear hL hr0 hrl0 hl0
  go_enter Tryd.func5, Tryd.ntmps5
  go_wp2_with (first
    | (go_at_call 6; refine hc1.mono ?_; intro e w1 hp; have hp2 := hp.ds; clear hp; obtain ⟨d, rfl, hd1⟩ := hp2; have H1 := Lib.hid hd1; clear hd1)
    | (go_at_call 7; (with_reducible refine (wawake_any (HL.out.below (H1.out.bel.mono HL.out.up))).mono ?_); rintro e w2 ⟨rfl, hb2⟩; have H2 := Lib.hid (H1.out.below hb2); clear hb2)
    | (go_at_call 8; (with_reducible refine (aw_o1 H2.out HL.out).mono ?_); rintro e w3 ⟨b, A3, c3, rfl, h3⟩; have H3 := Lib.hid h3; clear h3))
  go_loopw [7, 8] (OwInv w l0 b d n0) (fun _ x _ => n0 - (intOf x).toNat)
  case atStart => exact ⟨0, 0, none, by omega, by omega, rfl, rfl, by omega, ⟨_, 1, _, [], H3.out, Lx.first, rfl, World.ownsRow_nil _ _ _ _, OwnL.nil _ _, fun k hk => absurd hk (by simp [Value.ownBlock]), fun u hu => absurd hu (by simp)⟩⟩
  case round =>
    clear H3
    obtain ⟨i, c, A, hi, hi20, rfl, rfl, hic, HK⟩ := hrel
    obtain ⟨X, g, st, us, hat⟩ := HK.out
    have HAT := Lib.hid hat
    clear HK hat
    by_cases hlt : i < n0 ∧ i < 20
    · have hbw := HAT.out.ls.bel
      obtain ⟨gl, ol, A1, m1, c1, l, rfl, hgl, q0, hl, hlm, hmc, hrl⟩ := pay_at (HR0.out.below hbw) (HRL0.out.below hbw) (i := i) (by rw [HL0.out]; exact hlt.1)
      have hlt1 : (i : Int) < (n0 : Int) := by omega
      have hlt2 : (i : Int) < 20 := by omega
      have hi2 : 2 * i ≤ 1000 := by omega
      obtain ⟨s, hs⟩ : ∃ s, s = l.take 700 := ⟨_, rfl⟩
      have hs7 : s.length ≤ 700 := by rw [hs, List.length_take]; omega
      have HCUT := Lib.hid (fun (W : World) (hW : Below wr.heap.size wr W) => hs ▸ cut_any A1 m1 c1 l W hlm hmc (hrl.below hW))
      have HS := Lib.hid hs
      have CT := Lib.hid (fun (A : Option Addr) (c : Nat) (h : s.length + 1 ≤ c) => cut_to (P := Tryd.prog) 42 5 i0 Tryd.underlying42 rfl hi0 hz1 A (s.length + 1) c s.length .i64 (s.length : Int) rfl (by omega))
      have HLI := Lib.hid hl
      have Q0 := Lib.hid (fun (W : World) (hW : Below wr.heap.size wr W) => (hW.cell (p := ⟨gl, ol + i, none⟩) hgl).trans q0)
      have hsn : ((s.length : Int) + 1 - 1) = (s.length : Int) := by omega
      clear hlm hrl hbw hl hs q0
      have q0 := Q0.out wr (Below.refl _ _)
      go_upto_region 14 with (first
        | (go_at_call 15; ((with_reducible refine (HCUT.out wr (Below.refl _ _)).mono ?_); rintro e w4 ⟨v, rfl, A4, m4, c4, rfl, hm4, hc4, hown4, hb4⟩; have HO4 := Lib.hid hown4; have HB4 := Lib.hid hb4; obtain rfl := hm4; clear hown4 hb4))
        | (at_builtin; refine wpList_app _ rfl (.tmp 54) (.tmp 55) _ rfl wr.heap.size 5 i0 _ 1 Tryd.underlying42 hi0 hz hz1 hz2 rfl (.slice A4 s.length c4) s.length (bv s) rfl (HO4.out.alloc _) (some ⟨w4.heap.size, 0, none⟩) 1 1 [_] rfl rfl (Rd.one _ _ _ _ _ rfl) (by intro u hu; simp at hu; subst hu; rfl) (s.length + 1) rfl (by unfold maxLen; omega) (by omega) (Nat.le_trans HB4.out.size (by simp)) ?_; intro A5 c5 w5 hown5 hb5 hg5 _; have hct := CT.out A5 c5 (own_cap hown5); obtain ⟨ct1, ct2⟩ := hct; have HO5 := Lib.hid hown5; have HB5 := Lib.hid hb5; have hb5w := (HB4.out.alloc HB4.out.size (.cells #[.int .u8 77] 5)).trans hb5; have HB5W := Lib.hid hb5w; have q5 := Q0.out w5 hb5w; clear hown5 hb5 hg5 hb5w)
        | (go_at_call 15; ((with_reducible refine (HCUT.out w5 HB5W.out).mono ?_); rintro e w6 ⟨v, rfl, A6, m6, c6, rfl, hm6, hc6, hown6, hb6⟩; have HM6 := Lib.hid hm6; have HO6 := Lib.hid hown6; have HB6 := Lib.hid hb6; clear hm6 hown6 hb6))
        | (at_builtin; refine wpList_app _ rfl (.tmp 62) (.tmp 68) _ rfl w.heap.size 42 i1 _ 24 Tryd.underlying26 hi1 hy1 hy11 hy12 rfl (.slice A i c) i us rfl ((own_below HAT.out.row (HB5W.out.trans (HB6.out.mono HB5W.out.size)) (Nat.le_refl _)).alloc _) (some ⟨w6.heap.size, 0, none⟩) 1 1 [_] rfl rfl (Rd.one _ _ _ _ _ rfl) (by intro u hu; simp at hu; subst hu; rfl) (i + 1) rfl (by unfold maxLen; omega) (by omega) (Nat.le_trans (Nat.le_trans HAT.out.ls.bel.size (Nat.le_trans HB5W.out.size HB6.out.size)) (by simp)) ?_; intro A7 c7 w7 hown7 hb7 hg7 he7; have HO7 := Lib.hid hown7; have HG7 := Lib.hid hg7; have HE7 := Lib.hid he7; clear hown7 hb7 hg7 he7))
      have hm5 : ∃ g5, A5 = some ⟨g5, 0, none⟩ ∧ wr.heap.size ≤ g5 ∧ g5 < w5.heap.size := own_at HO5.out (by omega)
      obtain ⟨g5, rfl, _, _⟩ := hm5
      obtain ⟨g7, rfl, _, _⟩ := own_at HO7.out (by omega)
      obtain ⟨X7, hmid⟩ := ow_mid HAT.out HB4.out HO5.out HB5.out HM6.out HO6.out HB6.out HO7.out HG7.out HE7.out
      have HMID := Lib.hid hmid
      have hus : us.length = i := by have := HAT.out.row.1; omega
      have HC7 := Lib.hid (fun (W : World) (g : Int) (st : St) (h : OwMid w wr b d i X7 g st (.slice (some ⟨g7, 0, none⟩) (i + 1) c7) us (shorts (l0.take i)) s g5 c5 (.slice A6 m6 c6) W) => (h.row.cellAt i (by omega)).trans (show (us ++ [Value.slice A6 m6 c6])[i]? = some (.slice A6 m6 c6) by rw [← hus]; simp))
      have HC5 := Lib.hid (fun (W : World) (g : Int) (st : St) (h : OwMid w wr b d i X7 g st (.slice (some ⟨g7, 0, none⟩) (i + 1) c7) us (shorts (l0.take i)) s g5 c5 (.slice A6 m6 c6) W) => (h.room.cellAt s.length (by omega)).trans (snoc_at rfl))
      have HX5 := Lib.hid (fun (W : World) (g : Int) (st : St) (h : OwMid w wr b d i X7 g st (.slice (some ⟨g7, 0, none⟩) (i + 1) c7) us (shorts (l0.take i)) s g5 c5 (.slice A6 m6 c6) W) => HST.out W (some ⟨g5, 0, none⟩) s.length c5 s rfl (rd_head (Rd.own h.room)))
      have HX7 := Lib.hid (fun (W : World) (g : Int) (st : St) (h : OwMid w wr b d i X7 g st (.slice (some ⟨g7, 0, none⟩) (i + 1) c7) us (shorts (l0.take i)) s g5 c5 (.slice A6 m6 c6) W) => HST.out W A6 m6 c6 s HM6.out (own_last_rd h.own))
      have y1 := HST.out w7.drew (some ⟨g5, 0, none⟩) s.length c5 s rfl (rd_head (Rd.own hmid.room)).drew
      have y2 := HST.out w7.drew A6 m6 c6 s HM6.out (own_last_rd hmid.own).drew
      have y3 : w7.drew.cell? ⟨g7, i, none⟩ = some (.slice A6 m6 c6) := HC7.out w7 _ _ hmid
      have y4 : w7.drew.cell? ⟨g5, s.length, none⟩ = some (.int .u8 77) := HC5.out w7 _ _ hmid
      have k1 : (0 : Int) ≤ (i : Int) := by omega
      have k2 : (i : Int) < (i : Int) + 1 := by omega
      have k3 : (0 : Int) ≤ (s.length : Int) := by omega
      have k4 : (s.length : Int) < (s.length : Int) + 1 := by omega
      clear hmid hus q0 q5
      refine wp_region_held_drew (S := fun W => (convert 42 9 (.slice (some ⟨g5, 0, none⟩) s.length c5)).run Tryd.prog W = .ok (.string ⟨s.toArray⟩) W ∧ (convert 42 9 (.slice A6 m6 c6)).run Tryd.prog W = .ok (.string ⟨s.toArray⟩) W ∧ W.cell? ⟨g7, i, none⟩ = some (.slice A6 m6 c6) ∧ W.cell? ⟨g5, s.length, none⟩ = some (.int .u8 77)) (by kernel_rfl) (by (first | exact ⟨by assumption, by assumption, by assumption, by assumption⟩ | go_keep)) (fun hHeld => ?_)
      refine wpAnyH_take (i := 0) (v := ?vr1_0) (Fr.take_at rfl) (by kernel_rfl) (by kernel_rfl) (by kernel_rfl) (fun _ _ _ h => h) (Or.inl ⟨by rfl, ?yr1_0⟩) (by assumption) ?nr1_0
      case yr1_0 => (intro w_ hSw; obtain ⟨z1, z2, z3, z4⟩ := hSw; go_simp; (try with_reducible rfl))
      try simp only [Act.put, List.setIfInBounds_toArray, List.set_cons_zero, List.set_cons_succ]
      refine wpAnyH_take (i := 1) (v := ?vr1_1) (Fr.take_at rfl) (by kernel_rfl) (by kernel_rfl) (by kernel_rfl) (fun _ _ _ h => h) (Or.inl ⟨by rfl, ?yr1_1⟩) (by assumption) ?nr1_1
      case yr1_1 => (intro w_ hSw; obtain ⟨z1, z2, z3, z4⟩ := hSw; go_simp; (try with_reducible rfl))
      try simp only [Act.put, List.setIfInBounds_toArray, List.set_cons_zero, List.set_cons_succ]
      refine wpAnyH_ready (rs := [2]) (by kernel_rfl) (by simp) ?_
      refine AllReadyH.cons (Fr.take_at rfl) (fun K hK => ?_) AllReadyH.nil
      go_simp
      (go_at_call 14; refine (lx_app0 (HMID.out.ls.drew) HAT.out.lx HL.out (by omega) hi2 (some ⟨g5, 0, none⟩) s.length c5 s rfl (rd_head (Rd.own HMID.out.room)).drew (by omega)).mono ?_; rintro e w8 ⟨g', st', rfl, h8, hk8, hx8, ht8⟩; have hm8 := OwMid.op HMID.out h8 hk8; have x1 := HX5.out w8 _ _ hm8; have x2 := HX7.out w8 _ _ hm8; have x3 := HC7.out w8 _ _ hm8; have x4 := HC5.out w8 _ _ hm8; have HM8 := Lib.hid hm8; have HX8 := Lib.hid hx8; have HT8 := Lib.hid ht8; clear h8 hk8 hx8 ht8 hm8)
      try go_wp2_with fail
      refine hK.out _ _ (by (first | exact ⟨by assumption, by assumption, by assumption, by assumption⟩ | go_keep)) (fun hHeld => ?_)
      clear hK K
      try simp only [Act.put, List.setIfInBounds_toArray, List.set_cons_zero, List.set_cons_succ]
      refine wpAnyH_take (i := 3) (v := ?vr1_3) (Fr.take_at rfl) (by kernel_rfl) (by kernel_rfl) (by kernel_rfl) (fun _ _ _ h => h) (Or.inl ⟨by rfl, ?yr1_3⟩) (by assumption) ?nr1_3
      case yr1_3 => (intro w_ hSw; obtain ⟨z1, z2, z3, z4⟩ := hSw; go_simp; (try with_reducible rfl))
      try simp only [Act.put, List.setIfInBounds_toArray, List.set_cons_zero, List.set_cons_succ]
      refine wpAnyH_take (i := 4) (v := ?vr1_4) (Fr.take_at rfl) (by kernel_rfl) (by kernel_rfl) (by kernel_rfl) (fun _ _ _ h => h) (Or.inl ⟨by rfl, ?yr1_4⟩) (by assumption) ?nr1_4
      case yr1_4 => (intro w_ hSw; obtain ⟨z1, z2, z3, z4⟩ := hSw; go_simp; (try with_reducible rfl))
      try simp only [Act.put, List.setIfInBounds_toArray, List.set_cons_zero, List.set_cons_succ]
      refine wpAnyH_take (i := 5) (v := ?vr1_5) (Fr.take_at rfl) (by kernel_rfl) (by kernel_rfl) (by kernel_rfl) (fun _ _ _ h => h) (Or.inl ⟨by rfl, ?yr1_5⟩) (by assumption) ?nr1_5
      case yr1_5 => (intro w_ hSw; obtain ⟨z1, z2, z3, z4⟩ := hSw; go_simp; (try with_reducible rfl))
      try simp only [Act.put, List.setIfInBounds_toArray, List.set_cons_zero, List.set_cons_succ]
      refine wpAnyH_take (i := 6) (v := ?vr1_6) (Fr.take_at rfl) (by kernel_rfl) (by kernel_rfl) (by kernel_rfl) (fun _ _ _ h => h) (Or.inl ⟨by rfl, ?yr1_6⟩) (by assumption) ?nr1_6
      case yr1_6 => (intro w_ hSw; obtain ⟨z1, z2, z3, z4⟩ := hSw; go_simp; (try with_reducible rfl))
      try simp only [Act.put, List.setIfInBounds_toArray, List.set_cons_zero, List.set_cons_succ]
      refine wpAnyH_take (i := 7) (v := ?vr1_7) (Fr.take_at rfl) (by kernel_rfl) (by kernel_rfl) (by kernel_rfl) (fun _ _ _ h => h) (Or.inl ⟨by rfl, ?yr1_7⟩) (by assumption) ?nr1_7
      case yr1_7 => (intro w_ hSw; obtain ⟨z1, z2, z3, z4⟩ := hSw; go_simp; (try with_reducible rfl))
      try simp only [Act.put, List.setIfInBounds_toArray, List.set_cons_zero, List.set_cons_succ]
      refine wpAnyH_take (i := 8) (v := ?vr1_8) (Fr.take_at rfl) (by kernel_rfl) (by kernel_rfl) (by kernel_rfl) (fun _ _ _ h => h) (Or.inl ⟨by rfl, ?yr1_8⟩) (by assumption) ?nr1_8
      case yr1_8 => (intro w_ hSw; obtain ⟨z1, z2, z3, z4⟩ := hSw; go_simp; (try with_reducible rfl))
      try simp only [Act.put, List.setIfInBounds_toArray, List.set_cons_zero, List.set_cons_succ]
      refine wpAnyH_take (i := 9) (v := ?vr1_9) (Fr.take_at rfl) (by kernel_rfl) (by kernel_rfl) (by kernel_rfl) (fun _ _ _ h => h) (Or.inl ⟨by rfl, ?yr1_9⟩) (by assumption) ?nr1_9
      case yr1_9 => (intro w_ hSw; obtain ⟨z1, z2, z3, z4⟩ := hSw; go_simp; (try with_reducible rfl))
      try simp only [Act.put, List.setIfInBounds_toArray, List.set_cons_zero, List.set_cons_succ]
      refine wpAnyH_take (i := 10) (v := ?vr1_10) (Fr.take_at rfl) (by kernel_rfl) (by kernel_rfl) (by kernel_rfl) (fun _ _ _ h => h) (Or.inl ⟨by rfl, ?yr1_10⟩) (by assumption) ?nr1_10
      case yr1_10 => (intro w_ hSw; obtain ⟨z1, z2, z3, z4⟩ := hSw; go_simp; (try with_reducible rfl))
      try simp only [Act.put, List.setIfInBounds_toArray, List.set_cons_zero, List.set_cons_succ]
      refine wpAnyH_take (i := 11) (v := ?vr1_11) (Fr.take_at rfl) (by kernel_rfl) (by kernel_rfl) (by kernel_rfl) (fun _ _ _ h => h) (Or.inl ⟨by rfl, ?yr1_11⟩) (by assumption) ?nr1_11
      case yr1_11 => (intro w_ hSw; obtain ⟨z1, z2, z3, z4⟩ := hSw; go_simp; (try with_reducible rfl))
      try simp only [Act.put, List.setIfInBounds_toArray, List.set_cons_zero, List.set_cons_succ]
      refine wpAnyH_take (i := 12) (v := ?vr1_12) (Fr.take_at rfl) (by kernel_rfl) (by kernel_rfl) (by kernel_rfl) (fun _ _ _ h => h) (Or.inl ⟨by rfl, ?yr1_12⟩) (by assumption) ?nr1_12
      case yr1_12 => (intro w_ hSw; obtain ⟨z1, z2, z3, z4⟩ := hSw; go_simp; (try with_reducible rfl))
      try simp only [Act.put, List.setIfInBounds_toArray, List.set_cons_zero, List.set_cons_succ]
      refine wpAnyH_take (i := 13) (v := ?vr1_13) (Fr.take_at rfl) (by kernel_rfl) (by kernel_rfl) (by kernel_rfl) (fun _ _ _ h => h) (Or.inl ⟨by rfl, ?yr1_13⟩) (by assumption) ?nr1_13
      case yr1_13 => (intro w_ hSw; obtain ⟨z1, z2, z3, z4⟩ := hSw; go_simp; (try with_reducible rfl))
      try simp only [Act.put, List.setIfInBounds_toArray, List.set_cons_zero, List.set_cons_succ]
      refine wpAnyH_take (i := 14) (v := ?vr1_14) (Fr.take_at rfl) (by kernel_rfl) (by kernel_rfl) (by kernel_rfl) (fun _ _ _ h => h) (Or.inl ⟨by rfl, ?yr1_14⟩) (by assumption) ?nr1_14
      case yr1_14 => (intro w_ hSw; obtain ⟨z1, z2, z3, z4⟩ := hSw; go_simp; (try with_reducible rfl))
      try simp only [Act.put, List.setIfInBounds_toArray, List.set_cons_zero, List.set_cons_succ]
      refine wpAnyH_take (i := 15) (v := ?vr1_15) (Fr.take_at rfl) (by kernel_rfl) (by kernel_rfl) (by kernel_rfl) (fun _ _ _ h => h) (Or.inl ⟨by rfl, ?yr1_15⟩) (by assumption) ?nr1_15
      case yr1_15 => (intro w_ hSw; obtain ⟨z1, z2, z3, z4⟩ := hSw; go_simp; (try with_reducible rfl))
      try simp only [Act.put, List.setIfInBounds_toArray, List.set_cons_zero, List.set_cons_succ]
      refine wpAnyH_take (i := 16) (v := ?vr1_16) (Fr.take_at rfl) (by kernel_rfl) (by kernel_rfl) (by kernel_rfl) (fun _ _ _ h => h) (Or.inl ⟨by rfl, ?yr1_16⟩) (by assumption) ?nr1_16
      case yr1_16 => (intro w_ hSw; obtain ⟨z1, z2, z3, z4⟩ := hSw; go_simp; (try with_reducible rfl))
      try simp only [Act.put, List.setIfInBounds_toArray, List.set_cons_zero, List.set_cons_succ]
      refine wpAnyH_take (i := 17) (v := ?vr1_17) (Fr.take_at rfl) (by kernel_rfl) (by kernel_rfl) (by kernel_rfl) (fun _ _ _ h => h) (Or.inl ⟨by rfl, ?yr1_17⟩) (by assumption) ?nr1_17
      case yr1_17 => (intro w_ hSw; obtain ⟨z1, z2, z3, z4⟩ := hSw; go_simp; (try with_reducible rfl))
      try simp only [Act.put, List.setIfInBounds_toArray, List.set_cons_zero, List.set_cons_succ]
      refine wpAnyH_take (i := 18) (v := ?vr1_18) (Fr.take_at rfl) (by kernel_rfl) (by kernel_rfl) (by kernel_rfl) (fun _ _ _ h => h) (Or.inl ⟨by rfl, ?yr1_18⟩) (by assumption) ?nr1_18
      case yr1_18 => (intro w_ hSw; obtain ⟨z1, z2, z3, z4⟩ := hSw; go_simp; (try with_reducible rfl))
      try simp only [Act.put, List.setIfInBounds_toArray, List.set_cons_zero, List.set_cons_succ]
      refine wpAnyH_take (i := 19) (v := ?vr1_19) (Fr.take_at rfl) (by kernel_rfl) (by kernel_rfl) (by kernel_rfl) (fun _ _ _ h => h) (Or.inl ⟨by rfl, ?yr1_19⟩) (by assumption) ?nr1_19
      case yr1_19 => (intro w_ hSw; obtain ⟨z1, z2, z3, z4⟩ := hSw; go_simp; (try with_reducible rfl))
      try simp only [Act.put, List.setIfInBounds_toArray, List.set_cons_zero, List.set_cons_succ]
      refine wpAnyH_take (i := 20) (v := ?vr1_20) (Fr.take_at rfl) (by kernel_rfl) (by kernel_rfl) (by kernel_rfl) (fun _ _ _ h => h) (Or.inl ⟨by rfl, ?yr1_20⟩) (by assumption) ?nr1_20
      case yr1_20 => (intro w_ hSw; obtain ⟨z1, z2, z3, z4⟩ := hSw; go_simp; (try with_reducible rfl))
      try simp only [Act.put, List.setIfInBounds_toArray, List.set_cons_zero, List.set_cons_succ]
      refine wpAnyH_take (i := 21) (v := ?vr1_21) (Fr.take_at rfl) (by kernel_rfl) (by kernel_rfl) (by kernel_rfl) (fun _ _ _ h => h) (Or.inl ⟨by rfl, ?yr1_21⟩) (by assumption) ?nr1_21
      case yr1_21 => (intro w_ hSw; obtain ⟨z1, z2, z3, z4⟩ := hSw; go_simp; (try with_reducible rfl))
      try simp only [Act.put, List.setIfInBounds_toArray, List.set_cons_zero, List.set_cons_succ]
      refine wpAnyH_done (by kernel_rfl) ?_ _
      clear y1 y2 y3 y4 x1 x2 x3 x4
      go_wp2
      go_loopw [94] (RmInv wr w8 g5 (s.length + 1) c5) (fun x _ => s.length + 1 - (intOf x).toNat)
      case atStart => exact ⟨0, _, by omega, rfl, HM8.out.room, Mod.refl _ _⟩
      case round =>
        obtain ⟨j, ys, hj, rfl, HZ⟩ := hrel
        by_cases hjl : j < s.length + 1
        · have hrow := HZ.out.1
          have hxl : ys.length = s.length + 1 := by have := hrow.1; omega
          have hc2 := hrow.cellAt j (by omega)
          rw [List.getElem?_eq_getElem (by omega)] at hc2
          have hf2 := hrow.frozenAt j
          have hst := hrow.stored j (.int .u8 0)
          have HSTO := Lib.hid hst
          have hjc : (j : Int) < (s.length : Int) + 1 := by omega
          clear hst hrow
          go_wp2
          go_roundw
          case rel => exact ⟨j + 1, _, hjl, by go_num, HSTO.out.1, HZ.out.2.setCell (p := ⟨g5, j, none⟩) (fun _ => rfl) _⟩
          case measure => simp [intOf]; omega
        · have hjc : ¬ (j : Int) < (s.length : Int) + 1 := by omega
          go_wp2
          go_roundw
          case rel => exact ⟨i + 1, c7, some ⟨g7, 0, none⟩, by omega, by omega, by go_num, rfl, own_cap HO7.out, OwMid.rest HM8.out HZ.out.2 HX8.out HLI.out HS.out HAT.out.tags HT8.out⟩
          case measure => simp [intOf]; omega
    · by_cases hin : i < n0
      · have hlt1 : (i : Int) < (n0 : Int) := by omega
        have hlt2 : ¬ (i : Int) < 20 := by omega
        obtain ⟨wq, hwq⟩ : ∃ wq, wq = wr := ⟨_, rfl⟩
        subst hwq
        obtain ⟨P, hP⟩ : ∃ P, P = shorts (l0.take i) := ⟨_, rfl⟩
        have hpp := HAT.out.lx.pays (by omega)
        rw [HAT.out.tags, ← hP] at hpp
        have HPP := Lib.hid hpp
        have HPL := Lib.hid (show P.length = i by rw [hP]; simp only [shorts, List.length_map, List.length_take, HL0.out]; omega)
        have HPS := Lib.hid (show ∀ l ∈ P, l.length ≤ 700 by rw [hP]; intro l hl; obtain ⟨m, _, rfl⟩ := List.mem_map.1 hl; rw [List.length_take]; omega)
        have HBR := Lib.hid HAT.out.ls.bel
        have hat := HAT.out
        have HPE := Lib.hid hP
        clear hpp hP hat
        go_wp2_with (first
          | (go_at_call 8; (with_reducible refine (ds_open HAT.out.ls.ds HL.out HAT.out.lx.ok.1 HPP.out).mono ?_); rintro e w4 ⟨b4, A4, k4, c4, vs4, rfl, h4, hk4, hkc4, hr4, ho4, hb4⟩; have H4 := Lib.hid h4.ds; have HK4 := Lib.hid hk4; have HR4 := Lib.hid hr4; have HO4 := Lib.hid ho4; have HB4 := Lib.hid hb4; clear h4 hk4 hr4 ho4 hb4)
          | (go_at_call 8; (with_reducible refine (ds_open H4.out HL.out HAT.out.lx.ok.1 HPP.out).mono ?_); rintro e w5 ⟨b5, A5, k5, c5, vs5, rfl, h5, hk5, hkc5, hr5, ho5, hb5⟩; have HBW := Lib.hid h5.bel; have HK5 := Lib.hid hk5; have HR5 := Lib.hid hr5; have HO5 := Lib.hid ho5; have HB5 := Lib.hid hb5; clear h5 hk5 hr5 ho5 hb5))
        have hW := ow_open HAT.out HB4.out HB5.out HR5.out HO5.out HPE.out
        have HW := Lib.hid hW
        have hbase : wq.heap.size ≤ w5.heap.size := Nat.le_trans HB4.out.size HB5.out.size
        clear hW
        go_loopw [115] (PInv wq.heap.size (fun q => wq.heap.size ≤ q ∧ q < w4.heap.size) w5 (.slice A4 k4 c4) k4 vs4 P) (fun x _ => k4 - (intOf x).toNat)
        case atStart => exact ⟨0, by omega, rfl, ⟨vs4, own_below HR4.out HB5.out (Nat.le_refl _), fun _ _ => rfl⟩, HO4.out.below HB5.out, Mod.refl _ _, fun q hq => HR4.out.lt q hq, fun u hu q hq => OwnL.ge HO4.out u hu q hq⟩
        case round =>
          clear HR4
          obtain ⟨j, hj, rfl, HP⟩ := hrel
          have hk20 : k4 ≤ 20 := by rw [← HK4.out, HPL.out]; exact hi20
          by_cases hjl : j < k4
          · obtain ⟨us4, hr4, _⟩ := HP.out.row
            obtain ⟨g4, rfl, _, _⟩ := own_at hr4 (by omega)
            obtain ⟨lj, hlj⟩ : ∃ lj, P[j]? = some lj := ⟨_, List.getElem?_eq_getElem (by rw [HK4.out]; exact hjl)⟩
            obtain ⟨vj, hvj⟩ : ∃ vj, vs4[j]? = some vj := ⟨_, List.getElem?_eq_getElem (by rw [HO4.out.1, HK4.out]; exact hjl)⟩
            have hca := HP.out.begin hvj hlj
            have hn7 : lj.length ≤ 700 := HPS.out lj (List.mem_of_getElem? hlj)
            obtain ⟨Aj, cj, rfl, hcj, _⟩ := own_shape hca.cur
            have q1 := hca.spot0 hjl
            have hjc : (j : Int) < (k4 : Int) := by omega
            obtain ⟨n, hn⟩ : ∃ n, n = lj.length := ⟨_, rfl⟩
            rw [← hn] at hca hn7 hcj q1
            have HCA := Lib.hid hca
            clear hr4 hlj hvj hca hn
            go_wp2
            go_loopw [123] (CInv wq.heap.size (fun q => wq.heap.size ≤ q ∧ q < w4.heap.size) w5 (.slice (some ⟨g4, 0, none⟩) k4 c4) k4 vs4 P j (.slice Aj n cj) n) (fun x _ => n - (intOf x).toNat)
            case atStart => exact ⟨0, _, by omega, rfl, HCA.out⟩
            case round =>
              clear HCA HP q1
              obtain ⟨t, ys, ht, rfl, HC⟩ := hrel
              by_cases htl : t < n
              · have hcur := HC.out.cur
                obtain ⟨gj, rfl, _, _⟩ := own_at hcur (by omega)
                have q1 := HC.out.spot0 hjl
                have hxl : ys.length = n := by have := hcur.1; omega
                have hc2 := hcur.cellAt t (by omega)
                rw [List.getElem?_eq_getElem (by omega)] at hc2
                have hf2 := hcur.frozenAt t
                have hst := hcur.stored t (.int .u8 9)
                have HSTO := Lib.hid hst
                have htc : (t : Int) < (n : Int) := by omega
                clear hst hcur
                go_wp2
                go_roundw
                case rel => exact ⟨t + 1, _, htl, by go_num, HC.out.write HSTO.out.1 HSTO.out.2⟩
                case measure => simp [intOf]; omega
              · have htc : ¬ (t : Int) < (n : Int) := by omega
                go_wp2
                go_loopw [20] (EInv wq.heap.size (fun q => wq.heap.size ≤ q ∧ q < w4.heap.size) w5 (.slice (some ⟨g4, 0, none⟩) k4 c4) k4 vs4 P j n) (fun x _ => 20 - (intOf x).toNat)
                case atStart => exact ⟨0, Aj, cj, _, by omega, by omega, rfl, HC.out⟩
                case round =>
                  clear HC
                  obtain ⟨r, Ar, cr, yr, hr20, hrc, rfl, HE⟩ := hrel
                  have hwb := HE.out.mod.size
                  by_cases hrl : r < 20
                  · have q1 := HE.out.spot0 hjl
                    have hrt : (r : Int) < 20 := by omega
                    go_wp2_with (at_builtin; refine wpList_app _ rfl (.tmp 142) (.tmp 143) _ rfl wq.heap.size 5 i0 _ 1 Tryd.underlying42 hi0 hz hz1 hz2 rfl (.slice Ar (n + r) cr) (n + r) yr rfl (HE.out.cur.alloc _) (some ⟨wr.heap.size, 0, none⟩) 1 1 [_] rfl rfl (Rd.one _ _ _ _ _ rfl) (by intro u hu; simp at hu; subst hu; rfl) (n + r + 1) rfl (by unfold maxLen; omega) (by omega) (Nat.le_trans (Nat.le_trans hbase hwb) (by simp)) ?_; intro A8 c8 w8 hown8 hb8 hg8 he8; have hsp := HE.out.spot ((Below.refl _ _).alloc (Nat.le_refl _) _) hg8 hjl; obtain ⟨qa, qb⟩ := hsp)
                    go_roundw
                    case rel => exact ⟨r + 1, A8, c8, _, by omega, own_cap hown8, by go_num, HE.out.app hown8 hg8 he8 hjl⟩
                    case measure => simp [intOf]; omega
                  · have hrt : ¬ (r : Int) < 20 := by omega
                    go_wp2
                    go_roundw
                    case rel => exact ⟨j + 1, by omega, by go_num, HE.out.done⟩
                    case measure => simp [intOf]; omega
          · have hjc : ¬ (j : Int) < (k4 : Int) := by omega
            obtain ⟨z1, z2, z3, z4, rfl⟩ := ow_same HW.out HP.out.mod HK5.out HPL.out
            have HS9 := Lib.hid (same_eq A5 A k5 c5 c vs5 us P _ HK5.out z1 z2 z3 z4 (by omega))
            have hbel := HBW.out.trans (HP.out.mod.to_below (fun q hq => Nat.le_trans HBR.out.size hq.1) HBW.out.size)
            clear z1 z2 z3 z4
            go_wp2_with (go_at_call 9; ((with_reducible refine HS9.out.mono ?_); rintro e w19 ⟨rfl, hb19⟩))
            go_ret
            exact Yes.mk (hbel.trans (hb19.mono hbel.size))
      · have hlt1 : ¬ (i : Int) < (n0 : Int) := by omega
        obtain ⟨wq, hwq⟩ : ∃ wq, wq = wr := ⟨_, rfl⟩
        subst hwq
        obtain ⟨P, hP⟩ : ∃ P, P = shorts (l0.take i) := ⟨_, rfl⟩
        have hpp := HAT.out.lx.pays (by omega)
        rw [HAT.out.tags, ← hP] at hpp
        have HPP := Lib.hid hpp
        have HPL := Lib.hid (show P.length = i by rw [hP]; simp only [shorts, List.length_map, List.length_take, HL0.out]; omega)
        have HPS := Lib.hid (show ∀ l ∈ P, l.length ≤ 700 by rw [hP]; intro l hl; obtain ⟨m, _, rfl⟩ := List.mem_map.1 hl; rw [List.length_take]; omega)
        have HBR := Lib.hid HAT.out.ls.bel
        have hat := HAT.out
        have HPE := Lib.hid hP
        clear hpp hP hat
        go_wp2_with (first
          | (go_at_call 8; (with_reducible refine (ds_open HAT.out.ls.ds HL.out HAT.out.lx.ok.1 HPP.out).mono ?_); rintro e w4 ⟨b4, A4, k4, c4, vs4, rfl, h4, hk4, hkc4, hr4, ho4, hb4⟩; have H4 := Lib.hid h4.ds; have HK4 := Lib.hid hk4; have HR4 := Lib.hid hr4; have HO4 := Lib.hid ho4; have HB4 := Lib.hid hb4; clear h4 hk4 hr4 ho4 hb4)
          | (go_at_call 8; (with_reducible refine (ds_open H4.out HL.out HAT.out.lx.ok.1 HPP.out).mono ?_); rintro e w5 ⟨b5, A5, k5, c5, vs5, rfl, h5, hk5, hkc5, hr5, ho5, hb5⟩; have HBW := Lib.hid h5.bel; have HK5 := Lib.hid hk5; have HR5 := Lib.hid hr5; have HO5 := Lib.hid ho5; have HB5 := Lib.hid hb5; clear h5 hk5 hr5 ho5 hb5))
        have hW := ow_open HAT.out HB4.out HB5.out HR5.out HO5.out HPE.out
        have HW := Lib.hid hW
        have hbase : wq.heap.size ≤ w5.heap.size := Nat.le_trans HB4.out.size HB5.out.size
        clear hW
        go_loopw [115] (PInv wq.heap.size (fun q => wq.heap.size ≤ q ∧ q < w4.heap.size) w5 (.slice A4 k4 c4) k4 vs4 P) (fun x _ => k4 - (intOf x).toNat)
        case atStart => exact ⟨0, by omega, rfl, ⟨vs4, own_below HR4.out HB5.out (Nat.le_refl _), fun _ _ => rfl⟩, HO4.out.below HB5.out, Mod.refl _ _, fun q hq => HR4.out.lt q hq, fun u hu q hq => OwnL.ge HO4.out u hu q hq⟩
        case round =>
          clear HR4
          obtain ⟨j, hj, rfl, HP⟩ := hrel
          have hk20 : k4 ≤ 20 := by rw [← HK4.out, HPL.out]; exact hi20
          by_cases hjl : j < k4
          · obtain ⟨us4, hr4, _⟩ := HP.out.row
            obtain ⟨g4, rfl, _, _⟩ := own_at hr4 (by omega)
            obtain ⟨lj, hlj⟩ : ∃ lj, P[j]? = some lj := ⟨_, List.getElem?_eq_getElem (by rw [HK4.out]; exact hjl)⟩
            obtain ⟨vj, hvj⟩ : ∃ vj, vs4[j]? = some vj := ⟨_, List.getElem?_eq_getElem (by rw [HO4.out.1, HK4.out]; exact hjl)⟩
            have hca := HP.out.begin hvj hlj
            have hn7 : lj.length ≤ 700 := HPS.out lj (List.mem_of_getElem? hlj)
            obtain ⟨Aj, cj, rfl, hcj, _⟩ := own_shape hca.cur
            have q1 := hca.spot0 hjl
            have hjc : (j : Int) < (k4 : Int) := by omega
            obtain ⟨n, hn⟩ : ∃ n, n = lj.length := ⟨_, rfl⟩
            rw [← hn] at hca hn7 hcj q1
            have HCA := Lib.hid hca
            clear hr4 hlj hvj hca hn
            go_wp2
            go_loopw [123] (CInv wq.heap.size (fun q => wq.heap.size ≤ q ∧ q < w4.heap.size) w5 (.slice (some ⟨g4, 0, none⟩) k4 c4) k4 vs4 P j (.slice Aj n cj) n) (fun x _ => n - (intOf x).toNat)
            case atStart => exact ⟨0, _, by omega, rfl, HCA.out⟩
            case round =>
              clear HCA HP q1
              obtain ⟨t, ys, ht, rfl, HC⟩ := hrel
              by_cases htl : t < n
              · have hcur := HC.out.cur
                obtain ⟨gj, rfl, _, _⟩ := own_at hcur (by omega)
                have q1 := HC.out.spot0 hjl
                have hxl : ys.length = n := by have := hcur.1; omega
                have hc2 := hcur.cellAt t (by omega)
                rw [List.getElem?_eq_getElem (by omega)] at hc2
                have hf2 := hcur.frozenAt t
                have hst := hcur.stored t (.int .u8 9)
                have HSTO := Lib.hid hst
                have htc : (t : Int) < (n : Int) := by omega
                clear hst hcur
                go_wp2
                go_roundw
                case rel => exact ⟨t + 1, _, htl, by go_num, HC.out.write HSTO.out.1 HSTO.out.2⟩
                case measure => simp [intOf]; omega
              · have htc : ¬ (t : Int) < (n : Int) := by omega
                go_wp2
                go_loopw [20] (EInv wq.heap.size (fun q => wq.heap.size ≤ q ∧ q < w4.heap.size) w5 (.slice (some ⟨g4, 0, none⟩) k4 c4) k4 vs4 P j n) (fun x _ => 20 - (intOf x).toNat)
                case atStart => exact ⟨0, Aj, cj, _, by omega, by omega, rfl, HC.out⟩
                case round =>
                  clear HC
                  obtain ⟨r, Ar, cr, yr, hr20, hrc, rfl, HE⟩ := hrel
                  have hwb := HE.out.mod.size
                  by_cases hrl : r < 20
                  · have q1 := HE.out.spot0 hjl
                    have hrt : (r : Int) < 20 := by omega
                    go_wp2_with (at_builtin; refine wpList_app _ rfl (.tmp 142) (.tmp 143) _ rfl wq.heap.size 5 i0 _ 1 Tryd.underlying42 hi0 hz hz1 hz2 rfl (.slice Ar (n + r) cr) (n + r) yr rfl (HE.out.cur.alloc _) (some ⟨wr.heap.size, 0, none⟩) 1 1 [_] rfl rfl (Rd.one _ _ _ _ _ rfl) (by intro u hu; simp at hu; subst hu; rfl) (n + r + 1) rfl (by unfold maxLen; omega) (by omega) (Nat.le_trans (Nat.le_trans hbase hwb) (by simp)) ?_; intro A8 c8 w8 hown8 hb8 hg8 he8; have hsp := HE.out.spot ((Below.refl _ _).alloc (Nat.le_refl _) _) hg8 hjl; obtain ⟨qa, qb⟩ := hsp)
                    go_roundw
                    case rel => exact ⟨r + 1, A8, c8, _, by omega, own_cap hown8, by go_num, HE.out.app hown8 hg8 he8 hjl⟩
                    case measure => simp [intOf]; omega
                  · have hrt : ¬ (r : Int) < 20 := by omega
                    go_wp2
                    go_roundw
                    case rel => exact ⟨j + 1, by omega, by go_num, HE.out.done⟩
                    case measure => simp [intOf]; omega
          · have hjc : ¬ (j : Int) < (k4 : Int) := by omega
            obtain ⟨z1, z2, z3, z4, rfl⟩ := ow_same HW.out HP.out.mod HK5.out HPL.out
            have HS9 := Lib.hid (same_eq A5 A k5 c5 c vs5 us P _ HK5.out z1 z2 z3 z4 (by omega))
            have hbel := HBW.out.trans (HP.out.mod.to_below (fun q hq => Nat.le_trans HBR.out.size hq.1) HBW.out.size)
            clear z1 z2 z3 z4
            go_wp2_with (go_at_call 9; ((with_reducible refine HS9.out.mono ?_); rintro e w19 ⟨rfl, hb19⟩))
            go_ret
            exact Yes.mk (hbel.trans (hb19.mono hbel.size))

end Wl
end Go.Proofs.YtnijonjepgdinaaDoor
