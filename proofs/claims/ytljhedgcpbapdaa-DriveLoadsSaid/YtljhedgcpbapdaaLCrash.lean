/-
  WHAT IS PROVED: what the law DriveCrashes answers. CONDITIONS: the scripts and the rows of numbers stand in memory as named.
-/
import Derived.Test.YtljhedgcpbapdaaLTwo
import Derived.Test.YtljhedgcpbapdaaLAwake
import Derived.Deep.Cut
import Derived.Deep.DeepCutAuto
namespace Go.Proofs.Ytljhedgcpbapdaa
open Go Go.RowKit Go.Maps Go.Proofs.Ytljhedgcpbapdaa.Fr
namespace Dr

/-- ROWS OF NUMBERS IN MEMORY. -/
structure KM where
  A : Option Addr
  n : Nat
  c : Nat
  ks : List Int
structure KRows (w : World) (A : Option Addr) (K : List KM) : Prop where
  cell : ∀ i k, K[i]? = some k → ∃ g p, A = some ⟨g, p, none⟩ ∧ g < w.heap.size ∧ w.cell? ⟨g, p + i, none⟩ = some (.slice k.A k.n k.c)
  rows : ∀ k ∈ K, KRow w k.A k.n k.c k.ks

/-- The first pair, and its reference's box. -/
structure CrS (w0 : World) (S T : Nat → Prop) (b : Nat) (st : St) (A : Option Addr) (c g8 : Nat) (W : World) : Prop where
  p : PairX w0 (fun k => k = g8) S T b st (.agg (refC A c st)) W
  m : Blk W g8 26 (refC A c st)
  g : w0.heap.size ≤ g8
/-- And a row of numbers at its place. -/
structure CrT (w0 : World) (S T : Nat → Prop) (b : Nat) (st : St) (A : Option Addr) (c g8 g p : Nat) (k : KM) (W : World) : Prop where
  s : CrS w0 S T b st A c g8 W
  l : g < w0.heap.size
  r : w0.cell? ⟨g, p, none⟩ = some (.slice k.A k.n k.c)
/-- Both, and the boxes of both references. -/
structure CrW (w0 : World) (S T : Nat → Prop) (b : Nat) (st : St) (A : Option Addr) (c g8 : Nat) (b2 : Nat) (st2 : St) (A2 : Option Addr) (c2 g12 : Nat) (W : World) : Prop where
  p : TwoX w0 (fun k => k = g8 ∨ k = g12) S T b st (.agg (refC A c st)) b2 st2 (.agg (refC A2 c2 st2)) W
  m : Blk W g8 26 (refC A c st)
  m2 : Blk W g12 26 (refC A2 c2 st2)
  g : w0.heap.size ≤ g8
  g2 : w0.heap.size ≤ g12
  ne : g8 ≠ g12
section
variable {w0 W W' Wa w5 Wb w6 Wf : World} {S T : Nat → Prop} {b : Nat} {st : St} {A A2 : Option Addr} {c c2 g8 g12 g p b2 : Nat} {k : KM} {st2 : St}
theorem CrS.below (h : CrS w0 S T b st A c g8 W) (hb : Below W.heap.size W W') : CrS w0 S T b st A c g8 W' := ⟨h.p.below hb, h.m.same (hb.block _ h.m.lt), h.g⟩
theorem CrT.below (h : CrT w0 S T b st A c g8 g p k W) (hb : Below W.heap.size W W') : CrT w0 S T b st A c g8 g p k W' := ⟨h.s.below hb, h.l, h.r⟩
theorem CrT.drew (h : CrT w0 S T b st A c g8 g p k W) : CrT w0 S T b st A c g8 g p k W.drew := h.below (below_drewN (Below.refl _ _) 1)
theorem CrT.alloc (h : CrT w0 S T b st A c g8 g p k W) (o : Obj) : CrT w0 S T b st A c g8 g p k (W.alloc o) := h.below ((Below.refl _ _).alloc (Nat.le_refl _) o)
theorem CrT.cells (h : CrT w0 S T b st A c g8 g p k W) : W.cell? ⟨g, p, none⟩ = some (.slice k.A k.n k.c) ∧ W.cell? ⟨g8, 0, none⟩ = some (.slice A st.files.length c) ∧ W.cell? ⟨g8, 1, none⟩ = some (.int .i64 (st.steps : Int)) ∧ W.cell? ⟨g8, 2, none⟩ = some (.bool st.armed) ∧ W.cell? ⟨g8, 3, none⟩ = some (.int .i64 (st.left : Int)) :=
  ⟨(h.s.p.bel.cell (p := ⟨g, p, none⟩) h.l).trans h.r, blk_cells4 h.s.m⟩
theorem CrT.crash (h : CrT w0 S T b st A c g8 g p k W) (hok : st.Ok) (hk : KRow w0 k.A k.n k.c k.ks) (h6 : st.crash k.ks = st2) : Calls Try.prog 15 #[.pointer (some ⟨b, 0, none⟩), .slice k.A k.n k.c] W (CrD st2 W) := h.s.p.crash hok (hk.below h.s.p.bel) h6
theorem CrT.rcrash (h : CrT w0 S T b st A c g8 g p k W) (hok : st.Ok) (hk : KRow w0 k.A k.n k.c k.ks) (h6 : st.crash k.ks = st2) : Calls Try.prog 16 #[.agg #[.slice A st.files.length c, .int .i64 (st.steps : Int), .bool st.armed, .int .i64 (st.left : Int)], .slice k.A k.n k.c] W (CrR T st2 W) := h.s.p.rcrash hok (hk.below h.s.p.bel) h6
theorem box_held {a0 a1 a2 a3 : Value} {t : TypeId} (_ : CrT w0 S T b st A c g8 g p k (W.drew.alloc (.cells #[a0, a1, a2, a3] t))) : Blk (W.drew.alloc (.cells #[a0, a1, a2, a3] t)) W.heap.size t #[a0, a1, a2, a3] := Blk.new W.drew _ _
theorem box_held0 {a0 a1 a2 a3 : Value} {t : TypeId} (_ : CrT w0 S T b st A c g8 g p k (W.alloc (.cells #[a0, a1, a2, a3] t))) : Blk (W.alloc (.cells #[a0, a1, a2, a3] t)) W.heap.size t #[a0, a1, a2, a3] := Blk.new W _ _
theorem box_past4 {t : TypeId} {a0 a1 a2 a3 : Value} (h : Blk W g t #[a0, a1, a2, a3]) (hb : Below W.heap.size W W') : Hid (Blk W' g t #[a0, a1, a2, a3]) ∧ (W'.cell? ⟨g, 0, none⟩ = some a0 ∧ W'.cell? ⟨g, 1, none⟩ = some a1 ∧ W'.cell? ⟨g, 2, none⟩ = some a2 ∧ W'.cell? ⟨g, 3, none⟩ = some a3) ∧ (W'.frozen? ⟨g, 0, none⟩ = false ∧ W'.frozen? ⟨g, 1, none⟩ = false ∧ W'.frozen? ⟨g, 2, none⟩ = false ∧ W'.frozen? ⟨g, 3, none⟩ = false) :=
  have h' := h.same (hb.block g h.lt)
  ⟨h', blk_cells4 h', blk_free4 h'⟩
theorem CrT.fill (h : CrT w0 S T b st A c g8 g p k W) (h0 : CrT w0 S T b st A c g8 g p k W') (hg : W'.heap.size ≤ g12) (a0 a1 a2 a3 : Value) : CrT w0 S T b st A c g8 g p k (set4 W g12 a0 a1 a2 a3) := by
  have hsz := set4_size W g12 a0 a1 a2 a3
  have hp := h.s.p
  have l8 := h0.s.p.lt g8 rfl
  exact ⟨⟨⟨hp.d.same (fun k hk => set4_off W a0 a1 a2 a3 (by have := h0.s.p.d.lt k hk; omega)) (by rw [hsz]; exact Nat.le_refl _), hp.r.same (fun k hk => set4_off W a0 a1 a2 a3 (by have := h0.s.p.r.lt k hk; omega)) (by rw [hsz]; exact Nat.le_refl _), hp.s, hp.t, hp.a, fun k hk => by rw [hsz]; exact hp.lt k hk, set4_below hp.bel (Nat.le_trans h0.s.p.bel.size hg)⟩, h.s.m.same (set4_off W a0 a1 a2 a3 (by omega)), h.s.g⟩, h.l, h.r⟩
theorem box_kept {t : TypeId} {a0 a1 a2 a3 : Value} (h : Blk W g t #[a0, a1, a2, a3]) (hk : W'.heap[g]? = W.heap[g]?) : Hid (Blk W' g t #[a0, a1, a2, a3]) ∧ (W'.cell? ⟨g, 0, none⟩ = some a0 ∧ W'.cell? ⟨g, 1, none⟩ = some a1 ∧ W'.cell? ⟨g, 2, none⟩ = some a2 ∧ W'.cell? ⟨g, 3, none⟩ = some a3) ∧ (W'.frozen? ⟨g, 0, none⟩ = false ∧ W'.frozen? ⟨g, 1, none⟩ = false ∧ W'.frozen? ⟨g, 2, none⟩ = false ∧ W'.frozen? ⟨g, 3, none⟩ = false) :=
  have h' := h.same hk
  ⟨h', blk_cells4 h', blk_free4 h'⟩
/-- What stands behind the region of the two crashes. -/
def CrMid (w0 : World) (S T : Nat → Prop) (b : Nat) (st : St) (A : Option Addr) (c g8 : Nat) (st2 : St) (s11 s12 : Value) (W : World) : Prop :=
  ∃ b2 A2 c2 g12, s11 = .pointer (some ⟨b2, 0, none⟩) ∧ s12 = .pointer (some ⟨g12, 0, none⟩) ∧ CrW w0 S T b st A c g8 b2 st2 A2 c2 g12 W
theorem CrMid.mk (h : CrS w0 S T b st A c g8 W) (ha : Below W.heap.size W Wa) (h5 : DriveRep w5 (New Wa w5) b2 st2) (hb5 : Below Wa.heap.size Wa w5) (hb : Below w5.heap.size w5 Wb) (h6 : RefRep w6 (ext T Wb w6) (.agg (refC A2 c2 st2)) st2) (hb6 : Below Wb.heap.size Wb w6) (hf : Below w6.heap.size w6 Wf)
    (hg : W.heap.size ≤ g12) (hg1 : g12 < Wa.heap.size ∨ w5.heap.size ≤ g12) (hg2 : g12 < Wb.heap.size ∨ w6.heap.size ≤ g12) (hx : Box4 Wf g12) :
    CrMid w0 S T b st A c g8 st2 (.pointer (some ⟨b2, 0, none⟩)) (.pointer (some ⟨g12, 0, none⟩)) (set4 Wf g12 (.slice A2 st2.files.length c2) (.int .i64 (st2.steps : Int)) (.bool st2.armed) (.int .i64 (st2.left : Int))) := by
  obtain ⟨a0, a1, a2, a3, hx⟩ := hx
  have hb1 : Below W.heap.size W Wf := ha.trans ((hb5.trans ((hb.trans ((hb6.trans (hf.mono hb6.size)).mono hb.size)).mono hb5.size)).mono ha.size)
  have hlt := h.p.lt g8 rfl
  have hs0 := h.p.bel.size
  exact ⟨b2, A2, c2, g12, rfl, rfl, (TwoX.made h.p ha h5 hb5 hb h6 hb6 hf hg hg1 hg2 hx.lt).fill (.inr rfl) (Nat.le_trans hs0 hg) _ _ _ _, (h.m.same (hb1.block _ hlt)).same (set4_off Wf _ _ _ _ (by omega)), set4_blk hx, h.g, Nat.le_trans hs0 hg, by omega⟩
theorem CrMid.mk1 (h : CrS w0 S T b st A c g8 W) (ha : Below W.heap.size W Wa) (h5 : DriveRep w5 (New Wa w5) b2 st2) (hb5 : Below Wa.heap.size Wa w5) (h6 : RefRep w6 (ext T w5 w6) (.agg (refC A2 c2 st2)) st2) (hb6 : Below w5.heap.size w5 w6) :
    CrMid w0 S T b st A c g8 st2 (.pointer (some ⟨b2, 0, none⟩)) (.pointer (some ⟨w6.heap.size, 0, none⟩)) (w6.alloc (.cells (refC A2 c2 st2) 26)) := by
  have hb1 : Below W.heap.size W w6 := ha.trans ((hb5.trans (hb6.mono hb5.size)).mono ha.size)
  have hlt := h.p.lt g8 rfl
  have hs0 := h.p.bel.size
  have hs1 := hb1.size
  exact ⟨b2, A2, c2, _, rfl, rfl, TwoX.made h.p ha h5 hb5 (Below.refl _ _) h6 hb6 ((Below.refl _ _).alloc (Nat.le_refl _) _) hs1 (.inr hb6.size) (.inr (Nat.le_refl _)) (by simp), (h.m.same (hb1.block _ hlt)).alloc _, Blk.new _ _ _, h.g, by omega, by omega⟩
theorem CrW.below (h : CrW w0 S T b st A c g8 b2 st2 A2 c2 g12 W) (hb : Below W.heap.size W W') : CrW w0 S T b st A c g8 b2 st2 A2 c2 g12 W' :=
  ⟨h.p.below hb, h.m.same (hb.block _ h.m.lt), h.m2.same (hb.block _ h.m2.lt), h.g, h.g2, h.ne⟩
theorem CrW.drew (h : CrW w0 S T b st A c g8 b2 st2 A2 c2 g12 W) : CrW w0 S T b st A c g8 b2 st2 A2 c2 g12 W.drew := h.below (below_drewN (Below.refl _ _) 1)
theorem CrW.back (h : CrW w0 S T b st A c g8 b2 st2 A2 c2 g12 W) : CrS w0 S T b st A c g8 W := ⟨h.p.p.weak fun _ hk => .inl hk, h.m, h.g⟩
theorem CrW.cells2 (h : CrW w0 S T b st A c g8 b2 st2 A2 c2 g12 W) : W.cell? ⟨g12, 0, none⟩ = some (.slice A2 st2.files.length c2) ∧ W.cell? ⟨g12, 1, none⟩ = some (.int .i64 (st2.steps : Int)) ∧ W.cell? ⟨g12, 2, none⟩ = some (.bool st2.armed) ∧ W.cell? ⟨g12, 3, none⟩ = some (.int .i64 (st2.left : Int)) := blk_cells4 h.m2
theorem CrS.cells (h : CrS w0 S T b st A c g8 W) : W.cell? ⟨g8, 0, none⟩ = some (.slice A st.files.length c) ∧ W.cell? ⟨g8, 1, none⟩ = some (.int .i64 (st.steps : Int)) ∧ W.cell? ⟨g8, 2, none⟩ = some (.bool st.armed) ∧ W.cell? ⟨g8, 3, none⟩ = some (.int .i64 (st.left : Int)) := blk_cells4 h.m
end
def CrOut (w0 : World) (S T : Nat → Prop) (b : Nat) (st : St) (A : Option Addr) (c g8 n1 : Nat) (s9 s10 : Value) (W : World) : Prop := ∃ i : Nat, i ≤ 12 ∧ i ≤ n1 ∧ s9 = .bool true ∧ s10 = .int .i64 (i : Int) ∧ CrS w0 S T b st A c g8 W
def CrIn (w0 : World) (S T : Nat → Prop) (b : Nat) (st : St) (A : Option Addr) (c g8 g12 nm : Nat) (s9 s11 s13 : Value) (W : World) : Prop :=
  ∃ (j b2 : Nat) (st2 : St) (A2 : Option Addr) (c2 : Nat), j ≤ 5 ∧ j ≤ nm ∧ s9 = .bool true ∧ s11 = .pointer (some ⟨b2, 0, none⟩) ∧ s13 = .int .i64 (j : Int) ∧ st2.Ok ∧ st2.steps ≤ j ∧ CrW w0 S T b st A c g8 b2 st2 A2 c2 g12 W
section
variable {w0 W W' : World} {S T : Nat → Prop} {b : Nat} {st : St} {A A2 A3 : Option Addr} {c c2 c3 g8 g12 b2 b3 : Nat} {st2 st3 : St}
theorem CrW.next (h : CrW w0 S T b st A c g8 b2 st2 A2 c2 g12 W) (hp : TwoX w0 (fun k => k = g8 ∨ k = g12) S T b st (.agg (refC A c st)) b3 st3 (.agg (refC A3 c3 st3)) W') (hk : ∀ k, (k = g8 ∨ k = g12) → W'.heap[k]? = W.heap[k]?) :
    CrW w0 S T b st A c g8 b3 st3 A3 c3 g12 (set4 W' g12 (.slice A3 st3.files.length c3) (.int .i64 (st3.steps : Int)) (.bool st3.armed) (.int .i64 (st3.left : Int))) :=
  ⟨hp.fill (.inr rfl) h.g2 _ _ _ _, (h.m.same (hk _ (.inl rfl))).same (set4_off W' _ _ _ _ h.ne), set4_blk (h.m2.same (hk _ (.inr rfl))), h.g, h.g2, h.ne⟩
theorem CrW.steps0 (h : CrW w0 S T b st A c g8 b2 st2 A2 c2 g12 W) (hd : st2.steps = 0) : Calls Try.prog 18 #[.pointer (some ⟨b2, 0, none⟩)] W fun e w' => e = .returned (.int .i64 0) ∧ W = w' := h.p.steps hd
end
/-- The crash of a state. -/
theorem crash_facts (st : St) (ks : List Int) (hok : st.Ok) : ∃ st2, st.crash ks = st2 ∧ st2.Ok ∧ st2.steps = 0 ∧ st2.dead = false := ⟨_, rfl, hok.crash ks, rfl, by simp [St.crash, St.dead]⟩
set_option maxRecDepth 100000 in
set_option maxHeartbeats 1000000 in
theorem crashes_any (w : World) (A0 : Option Addr) (n0 c0 : Nat) (L : List OpM) (hn : L.length = n0) (hL : Script w A0 L) (A1 : Option Addr) (n1 c1 : Nat) (K : List KM) (hn1 : K.length = n1) (hK : KRows w A1 K) (AM : Option Addr) (nm cm : Nat) (M : List OpM) (hnm : M.length = nm) (hM : Script w AM M) :
    Calls Try.prog 5 #[.slice A0 n0 c0, .slice A1 n1 c1, .slice AM nm cm] w fun e w' => e = .returned (.bool true) ∧ Below w.heap.size w w' := by
  have HB := Lib.hid (built_any w A0 n0 c0 L hn hL)
  have HW := Lib.hid awake_any
  have HK := Lib.hid hK
  have HM := Lib.hid hM
  have HNK := Lib.hid hn1
  have HNM := Lib.hid hnm
  clear hn hL hK hM hn1 hnm
  go_enter Try.func5, Try.ntmps5
  go_wp2_with (first
    | (go_at_call 9; refine HB.out.mono ?_; rintro e w1 ⟨b, st, A, c, rfl, h1, h2, h3, hP⟩; have HP := Lib.hid hP; have HOK := Lib.hid h2; clear h1 h2 h3 hP)
    | (go_at_call 10; refine (HW.out _).mono ?_; rintro e w2 ⟨rfl, hb2⟩))
  obtain ⟨S, T, hPX⟩ := HP.out.open_
  have hS0 : CrS w S T b st A c w1.heap.size w2 :=
    have hx := (hPX.below ((Below.refl _ _).alloc (Nat.le_refl _) (.cells #[.slice A st.files.length c, .int .i64 (st.steps : Int), .bool st.armed, .int .i64 (st.left : Int)] 26)))
    have hs0 := hPX.bel.size
    ⟨(⟨hx.d, hx.r, fun k hk => ⟨(hx.s k hk).1, fun e => by have := hPX.d.lt k hk; omega⟩, fun k hk => ⟨(hx.t k hk).1, fun e => by have := hPX.r.lt k hk; omega⟩, hx.a, fun k hk => by subst hk; simp, hx.bel⟩ : PairX w (fun k => k = w1.heap.size) S T b st (.agg (refC A c st)) _).below hb2, (Blk.new w1 _ _).same (hb2.block _ (by simp)), hs0⟩
  clear hPX hb2
  go_loopw [9, 10] (CrOut w S T b st A c w1.heap.size n1) (fun _ x _ => 12 - (intOf x).toNat)
  case atStart => exact ⟨0, by omega, by omega, rfl, rfl, hS0⟩
  case round =>
    clear hS0
    obtain ⟨i, hi, hin, rfl, rfl, hS⟩ := hrel
    by_cases hlt : i < 12 ∧ i < n1
    · obtain ⟨hlt1, hlt2⟩ := hlt
      obtain ⟨k, hk⟩ : ∃ k, K[i]? = some k := ⟨K[i]'(by have := HNK.out; omega), List.getElem?_eq_getElem _⟩
      obtain ⟨gk, pk, rfl, hgk, hck⟩ := HK.out.cell i k hk
      have hlt' : (i : Int) < (n1 : Int) := by omega
      obtain ⟨st2, h62, hok2, hst2, hde2⟩ := crash_facts st k.ks HOK.out
      have H62 := Lib.hid h62
      have HOK2 := Lib.hid hok2
      have HST2 := Lib.hid hst2
      have HDE2 := Lib.hid hde2
      have HKR := Lib.hid (HK.out.rows k (List.mem_of_getElem? hk))
      have hT : CrT w S T b st A c w1.heap.size gk (pk + i) k wr := ⟨hS, hgk, hck⟩
      have HS := Lib.hid hS
      clear h62 hok2 hst2 hde2 hk hck hS
      go_upto_region 7 with fail
      go_cut [11, 12] (CrMid w S T b st A c w1.heap.size st2)
      case first =>
        refine wp_region_held_drew (S := CrT w S T b st A c w1.heap.size gk (pk + i) k) (by kernel_rfl) (by (first | (with_reducible assumption) | (with_reducible exact CrT.drew (by assumption)) | (with_reducible exact CrT.alloc (by assumption) _) | (with_reducible exact CrT.below (by assumption) (by assumption)) | (with_reducible exact CrT.drew (CrT.alloc (by assumption) _)) | (exact CrT.fill (by assumption) hT (by have := hb5.size; simp at this; omega) _ _ _ _))) (fun hHeld => ?_)
        refine wpAnyH_take (i := 0) (v := ?vr1x_0) (Fr.take_at rfl) (by kernel_rfl) (by kernel_rfl) (by kernel_rfl) (fun _ _ _ h => h) (Or.inl ⟨by rfl, ?yr1x_0⟩) (by assumption) ?nr1x_0
        case yr1x_0 => (intro w_ hSw; obtain ⟨q0, q1, q2, q3, q4⟩ := CrT.cells hSw; go_simp; (try with_reducible rfl))
        try simp only [Act.put, List.setIfInBounds_toArray, List.set_cons_zero, List.set_cons_succ]
        refine wpAnyH_take (i := 1) (v := ?vr1x_1) (Fr.take_at rfl) (by kernel_rfl) (by kernel_rfl) (by kernel_rfl) (fun _ _ _ h => h) (Or.inl ⟨by rfl, ?yr1x_1⟩) (by assumption) ?nr1x_1
        case yr1x_1 => (intro w_ hSw; obtain ⟨q0, q1, q2, q3, q4⟩ := CrT.cells hSw; go_simp; (try with_reducible rfl))
        try simp only [Act.put, List.setIfInBounds_toArray, List.set_cons_zero, List.set_cons_succ]
        refine wpAnyH_take (i := 2) (v := ?vr1x_2) (Fr.take_at rfl) (by kernel_rfl) (by kernel_rfl) (by kernel_rfl) (fun _ _ _ h => h) (Or.inl ⟨by rfl, ?yr1x_2⟩) (by assumption) ?nr1x_2
        case yr1x_2 => (intro w_ hSw; obtain ⟨q0, q1, q2, q3, q4⟩ := CrT.cells hSw; go_simp; (try with_reducible rfl))
        try simp only [Act.put, List.setIfInBounds_toArray, List.set_cons_zero, List.set_cons_succ]
        refine wpAnyH_take (i := 3) (v := ?vr1x_3) (Fr.take_at rfl) (by kernel_rfl) (by kernel_rfl) (by kernel_rfl) (fun _ _ _ h => h) (Or.inl ⟨by rfl, ?yr1x_3⟩) (by assumption) ?nr1x_3
        case yr1x_3 => (intro w_ hSw; obtain ⟨q0, q1, q2, q3, q4⟩ := CrT.cells hSw; go_simp; (try with_reducible rfl))
        try simp only [Act.put, List.setIfInBounds_toArray, List.set_cons_zero, List.set_cons_succ]
        refine wpAnyH_take (i := 4) (v := ?vr1x_4) (Fr.take_at rfl) (by kernel_rfl) (by kernel_rfl) (by kernel_rfl) (fun _ _ _ h => h) (Or.inl ⟨by rfl, ?yr1x_4⟩) (by assumption) ?nr1x_4
        case yr1x_4 => (intro w_ hSw; obtain ⟨q0, q1, q2, q3, q4⟩ := CrT.cells hSw; go_simp; (try with_reducible rfl))
        try simp only [Act.put, List.setIfInBounds_toArray, List.set_cons_zero, List.set_cons_succ]
        refine wpAnyH_take (i := 6) (v := ?vr1x_6) (Fr.take_at rfl) (by kernel_rfl) (by kernel_rfl) (by kernel_rfl) (fun _ _ _ h => h) (Or.inl ⟨by rfl, ?yr1x_6⟩) (by assumption) ?nr1x_6
        case yr1x_6 => (intro w_ hSw; obtain ⟨q0, q1, q2, q3, q4⟩ := CrT.cells hSw; go_simp; (try with_reducible rfl))
        try simp only [Act.put, List.setIfInBounds_toArray, List.set_cons_zero, List.set_cons_succ]
        refine wpAnyH_take (i := 7) (v := ?vr1x_7) (Fr.take_at rfl) (by kernel_rfl) (by kernel_rfl) (by kernel_rfl) (fun _ _ _ h => h) (Or.inl ⟨by rfl, ?yr1x_7⟩) (by assumption) ?nr1x_7
        case yr1x_7 => (intro w_ hSw; obtain ⟨q0, q1, q2, q3, q4⟩ := CrT.cells hSw; go_simp; (try with_reducible rfl))
        try simp only [Act.put, List.setIfInBounds_toArray, List.set_cons_zero, List.set_cons_succ]
        refine wpAnyH_take (i := 8) (v := ?vr1x_8) (Fr.take_at rfl) (by kernel_rfl) (by kernel_rfl) (by kernel_rfl) (fun _ _ _ h => h) (Or.inl ⟨by rfl, ?yr1x_8⟩) (by assumption) ?nr1x_8
        case yr1x_8 => (intro w_ hSw; obtain ⟨q0, q1, q2, q3, q4⟩ := CrT.cells hSw; go_simp; (try with_reducible rfl))
        try simp only [Act.put, List.setIfInBounds_toArray, List.set_cons_zero, List.set_cons_succ]
        refine wpAnyH_take (i := 9) (v := ?vr1x_9) (Fr.take_at rfl) (by kernel_rfl) (by kernel_rfl) (by kernel_rfl) (fun _ _ _ h => h) (Or.inl ⟨by rfl, ?yr1x_9⟩) (by assumption) ?nr1x_9
        case yr1x_9 => (intro w_ hSw; obtain ⟨q0, q1, q2, q3, q4⟩ := CrT.cells hSw; go_simp; (try with_reducible rfl))
        try simp only [Act.put, List.setIfInBounds_toArray, List.set_cons_zero, List.set_cons_succ]
        refine wpAnyH_take (i := 10) (v := ?vr1x_10) (Fr.take_at rfl) (by kernel_rfl) (by kernel_rfl) (by kernel_rfl) (fun _ _ _ h => h) (Or.inl ⟨by rfl, ?yr1x_10⟩) (by assumption) ?nr1x_10
        case yr1x_10 => (intro w_ hSw; obtain ⟨q0, q1, q2, q3, q4⟩ := CrT.cells hSw; go_simp; (try with_reducible rfl))
        try simp only [Act.put, List.setIfInBounds_toArray, List.set_cons_zero, List.set_cons_succ]
        refine wpAnyH_ready (rs := [5, 12]) (by kernel_rfl) (by simp) ?_
        refine AllReadyH.cons (Fr.take_at rfl) (fun K hK => ?_) (AllReadyH.cons (Fr.take_at rfl) (fun K hK => ?_) AllReadyH.nil)
        go_simp
        (go_at_call 15; refine (CrT.crash hHeld HOK.out HKR.out H62.out).mono ?_; rintro e w5 ⟨b2, rfl, hN5, hb5⟩; (try (have hBy := Lib.hid (box_past4 hBx.out hb5).1)))
        try go_wp2_with fail
        refine hK.out _ _ (by (first | (with_reducible assumption) | (with_reducible exact CrT.drew (by assumption)) | (with_reducible exact CrT.alloc (by assumption) _) | (with_reducible exact CrT.below (by assumption) (by assumption)) | (with_reducible exact CrT.drew (CrT.alloc (by assumption) _)) | (exact CrT.fill (by assumption) hT (by have := hb5.size; simp at this; omega) _ _ _ _))) (fun hHeld => ?_)
        clear hK K
        try simp only [Act.put, List.setIfInBounds_toArray, List.set_cons_zero, List.set_cons_succ]
        refine wpAnyH_ready (rs := [11, 12]) (by kernel_rfl) (by simp) ?_
        refine AllReadyH.cons (Fr.take_at rfl) (fun K hK => ?_) (AllReadyH.cons (Fr.take_at rfl) (fun K hK => ?_) AllReadyH.nil)
        go_simp
        (go_at_call 16; refine (CrT.rcrash hHeld HOK.out HKR.out H62.out).mono ?_; rintro e w6 ⟨A6, c6, rfl, hN6, hb6⟩; (first | (have hq := box_past4 hBy.out.out hb6; obtain ⟨hBz, ⟨y0, y1, y2, y3⟩, ⟨z0, z1, z2, z3⟩⟩ := hq) | (have hq := box_past4 hBx.out hb6; obtain ⟨hBz, ⟨y0, y1, y2, y3⟩, ⟨z0, z1, z2, z3⟩⟩ := hq) | skip))
        try go_wp2_with fail
        refine hK.out _ _ (by (first | (with_reducible assumption) | (with_reducible exact CrT.drew (by assumption)) | (with_reducible exact CrT.alloc (by assumption) _) | (with_reducible exact CrT.below (by assumption) (by assumption)) | (with_reducible exact CrT.drew (CrT.alloc (by assumption) _)) | (exact CrT.fill (by assumption) hT (by have := hb5.size; simp at this; omega) _ _ _ _))) (fun hHeld => ?_)
        clear hK K
        try simp only [Act.put, List.setIfInBounds_toArray, List.set_cons_zero, List.set_cons_succ]
        refine wpAnyH_ready (rs := [12]) (by kernel_rfl) (by simp) ?_
        refine AllReadyH.cons (Fr.take_at rfl) (fun K hK => ?_) AllReadyH.nil
        go_simp
        refine hK.out _ _ (by (first | (with_reducible assumption) | (with_reducible exact CrT.drew (by assumption)) | (with_reducible exact CrT.alloc (by assumption) _) | (with_reducible exact CrT.below (by assumption) (by assumption)) | (with_reducible exact CrT.drew (CrT.alloc (by assumption) _)) | (exact CrT.fill (by assumption) hT (by have := hb5.size; simp at this; omega) _ _ _ _))) (fun hHeld => ?_)
        clear hK K
        first | have hBx := Lib.hid (box_held hHeld) | have hBx := Lib.hid (box_held0 hHeld)
        try simp only [Act.put, List.setIfInBounds_toArray, List.set_cons_zero, List.set_cons_succ]
        refine wpAnyH_take (i := 13) (v := ?vr1L1_13) (Fr.take_at rfl) (by kernel_rfl) (by kernel_rfl) (by kernel_rfl) (fun _ _ _ h => h) (Or.inl ⟨by rfl, ?yr1L1_13⟩) (by assumption) ?nr1L1_13
        case yr1L1_13 => (intro w_ hSw; obtain ⟨q0, q1, q2, q3, q4⟩ := CrT.cells hSw; go_simp; (try with_reducible rfl))
        try simp only [Act.put, List.setIfInBounds_toArray, List.set_cons_zero, List.set_cons_succ]
        refine wpAnyH_ready (rs := [14]) (by kernel_rfl) (by simp) ?_
        refine AllReadyH.cons (Fr.take_at rfl) (fun K hK => ?_) AllReadyH.nil
        go_simp
        refine hK.out _ _ (by (first | (with_reducible assumption) | (with_reducible exact CrT.drew (by assumption)) | (with_reducible exact CrT.alloc (by assumption) _) | (with_reducible exact CrT.below (by assumption) (by assumption)) | (with_reducible exact CrT.drew (CrT.alloc (by assumption) _)) | (exact CrT.fill (by assumption) hT (by have := hb5.size; simp at this; omega) _ _ _ _))) (fun hHeld => ?_)
        clear hK K
        try simp only [Act.put, List.setIfInBounds_toArray, List.set_cons_zero, List.set_cons_succ]
        refine wpAnyH_done (by kernel_rfl) ?_ _
        rotate_left
        go_simp
        refine hK.out _ _ (by (first | (with_reducible assumption) | (with_reducible exact CrT.drew (by assumption)) | (with_reducible exact CrT.alloc (by assumption) _) | (with_reducible exact CrT.below (by assumption) (by assumption)) | (with_reducible exact CrT.drew (CrT.alloc (by assumption) _)) | (exact CrT.fill (by assumption) hT (by have := hb5.size; simp at this; omega) _ _ _ _))) (fun hHeld => ?_)
        clear hK K
        first | have hBx := Lib.hid (box_held hHeld) | have hBx := Lib.hid (box_held0 hHeld)
        try simp only [Act.put, List.setIfInBounds_toArray, List.set_cons_zero, List.set_cons_succ]
        refine wpAnyH_ready (rs := [11]) (by kernel_rfl) (by simp) ?_
        refine AllReadyH.cons (Fr.take_at rfl) (fun K hK => ?_) AllReadyH.nil
        go_simp
        (go_at_call 16; refine (CrT.rcrash hHeld HOK.out HKR.out H62.out).mono ?_; rintro e w6 ⟨A6, c6, rfl, hN6, hb6⟩; (first | (have hq := box_past4 hBy.out.out hb6; obtain ⟨hBz, ⟨y0, y1, y2, y3⟩, ⟨z0, z1, z2, z3⟩⟩ := hq) | (have hq := box_past4 hBx.out hb6; obtain ⟨hBz, ⟨y0, y1, y2, y3⟩, ⟨z0, z1, z2, z3⟩⟩ := hq) | skip))
        try go_wp2_with fail
        refine hK.out _ _ (by (first | (with_reducible assumption) | (with_reducible exact CrT.drew (by assumption)) | (with_reducible exact CrT.alloc (by assumption) _) | (with_reducible exact CrT.below (by assumption) (by assumption)) | (with_reducible exact CrT.drew (CrT.alloc (by assumption) _)) | (exact CrT.fill (by assumption) hT (by have := hb5.size; simp at this; omega) _ _ _ _))) (fun hHeld => ?_)
        clear hK K
        try simp only [Act.put, List.setIfInBounds_toArray, List.set_cons_zero, List.set_cons_succ]
        refine wpAnyH_take (i := 13) (v := ?vr1L2_13) (Fr.take_at rfl) (by kernel_rfl) (by kernel_rfl) (by kernel_rfl) (fun _ _ _ h => h) (Or.inl ⟨by rfl, ?yr1L2_13⟩) (by assumption) ?nr1L2_13
        case yr1L2_13 => (intro w_ hSw; obtain ⟨q0, q1, q2, q3, q4⟩ := CrT.cells hSw; go_simp; (try with_reducible rfl))
        try simp only [Act.put, List.setIfInBounds_toArray, List.set_cons_zero, List.set_cons_succ]
        refine wpAnyH_ready (rs := [14]) (by kernel_rfl) (by simp) ?_
        refine AllReadyH.cons (Fr.take_at rfl) (fun K hK => ?_) AllReadyH.nil
        go_simp
        refine hK.out _ _ (by (first | (with_reducible assumption) | (with_reducible exact CrT.drew (by assumption)) | (with_reducible exact CrT.alloc (by assumption) _) | (with_reducible exact CrT.below (by assumption) (by assumption)) | (with_reducible exact CrT.drew (CrT.alloc (by assumption) _)) | (exact CrT.fill (by assumption) hT (by have := hb5.size; simp at this; omega) _ _ _ _))) (fun hHeld => ?_)
        clear hK K
        try simp only [Act.put, List.setIfInBounds_toArray, List.set_cons_zero, List.set_cons_succ]
        refine wpAnyH_done (by kernel_rfl) ?_ _
        rotate_left
        go_simp
        refine hK.out _ _ (by (first | (with_reducible assumption) | (with_reducible exact CrT.drew (by assumption)) | (with_reducible exact CrT.alloc (by assumption) _) | (with_reducible exact CrT.below (by assumption) (by assumption)) | (with_reducible exact CrT.drew (CrT.alloc (by assumption) _)) | (exact CrT.fill (by assumption) hT (by have := hb5.size; simp at this; omega) _ _ _ _))) (fun hHeld => ?_)
        clear hK K
        first | have hBx := Lib.hid (box_held hHeld) | have hBx := Lib.hid (box_held0 hHeld)
        try simp only [Act.put, List.setIfInBounds_toArray, List.set_cons_zero, List.set_cons_succ]
        refine wpAnyH_ready (rs := [5]) (by kernel_rfl) (by simp) ?_
        refine AllReadyH.cons (Fr.take_at rfl) (fun K hK => ?_) AllReadyH.nil
        go_simp
        (go_at_call 15; refine (CrT.crash hHeld HOK.out HKR.out H62.out).mono ?_; rintro e w5 ⟨b2, rfl, hN5, hb5⟩; (try (have hBy := Lib.hid (box_past4 hBx.out hb5).1)))
        try go_wp2_with fail
        refine hK.out _ _ (by (first | (with_reducible assumption) | (with_reducible exact CrT.drew (by assumption)) | (with_reducible exact CrT.alloc (by assumption) _) | (with_reducible exact CrT.below (by assumption) (by assumption)) | (with_reducible exact CrT.drew (CrT.alloc (by assumption) _)) | (exact CrT.fill (by assumption) hT (by have := hb5.size; simp at this; omega) _ _ _ _))) (fun hHeld => ?_)
        clear hK K
        try simp only [Act.put, List.setIfInBounds_toArray, List.set_cons_zero, List.set_cons_succ]
        refine wpAnyH_ready (rs := [11]) (by kernel_rfl) (by simp) ?_
        refine AllReadyH.cons (Fr.take_at rfl) (fun K hK => ?_) AllReadyH.nil
        go_simp
        (go_at_call 16; refine (CrT.rcrash hHeld HOK.out HKR.out H62.out).mono ?_; rintro e w6 ⟨A6, c6, rfl, hN6, hb6⟩; (first | (have hq := box_past4 hBy.out.out hb6; obtain ⟨hBz, ⟨y0, y1, y2, y3⟩, ⟨z0, z1, z2, z3⟩⟩ := hq) | (have hq := box_past4 hBx.out hb6; obtain ⟨hBz, ⟨y0, y1, y2, y3⟩, ⟨z0, z1, z2, z3⟩⟩ := hq) | skip))
        try go_wp2_with fail
        refine hK.out _ _ (by (first | (with_reducible assumption) | (with_reducible exact CrT.drew (by assumption)) | (with_reducible exact CrT.alloc (by assumption) _) | (with_reducible exact CrT.below (by assumption) (by assumption)) | (with_reducible exact CrT.drew (CrT.alloc (by assumption) _)) | (exact CrT.fill (by assumption) hT (by have := hb5.size; simp at this; omega) _ _ _ _))) (fun hHeld => ?_)
        clear hK K
        try simp only [Act.put, List.setIfInBounds_toArray, List.set_cons_zero, List.set_cons_succ]
        refine wpAnyH_take (i := 13) (v := ?vr1L3_13) (Fr.take_at rfl) (by kernel_rfl) (by kernel_rfl) (by kernel_rfl) (fun _ _ _ h => h) (Or.inl ⟨by rfl, ?yr1L3_13⟩) (by assumption) ?nr1L3_13
        case yr1L3_13 => (intro w_ hSw; obtain ⟨q0, q1, q2, q3, q4⟩ := CrT.cells hSw; go_simp; (try with_reducible rfl))
        try simp only [Act.put, List.setIfInBounds_toArray, List.set_cons_zero, List.set_cons_succ]
        refine wpAnyH_ready (rs := [14]) (by kernel_rfl) (by simp) ?_
        refine AllReadyH.cons (Fr.take_at rfl) (fun K hK => ?_) AllReadyH.nil
        go_simp
        refine hK.out _ _ (by (first | (with_reducible assumption) | (with_reducible exact CrT.drew (by assumption)) | (with_reducible exact CrT.alloc (by assumption) _) | (with_reducible exact CrT.below (by assumption) (by assumption)) | (with_reducible exact CrT.drew (CrT.alloc (by assumption) _)) | (exact CrT.fill (by assumption) hT (by have := hb5.size; simp at this; omega) _ _ _ _))) (fun hHeld => ?_)
        clear hK K
        try simp only [Act.put, List.setIfInBounds_toArray, List.set_cons_zero, List.set_cons_succ]
        refine wpAnyH_done (by kernel_rfl) ?_ _
        rotate_left
        · go_wp2_with fail
          go_meet
          exact CrMid.mk1 HS.out (below_drewN (Below.refl _ _) 1) hN5 hb5 hN6 hb6
        · go_wp2_with fail
          go_meet
          exact CrMid.mk HS.out (below_drewN (Below.refl _ _) 1) hN5 hb5 ((Below.refl _ _).alloc (Nat.le_refl _) _) hN6 hb6 (Below.refl _ _) hb5.size (.inr (Nat.le_refl _)) (.inl (by simp)) ⟨_, _, _, _, hBz.out⟩
        · go_wp2_with fail
          go_meet
          exact CrMid.mk HS.out (below_drewN ((Below.refl _ _).alloc (Nat.le_refl _) _) 1) hN5 hb5 (Below.refl _ _) hN6 hb6 (Below.refl _ _) (Nat.le_refl _) (.inl (by simp)) (.inl (by have := hb5.size; simp at this; omega)) ⟨_, _, _, _, hBz.out⟩
      case rest =>
        obtain ⟨b2, A2, c2, g12, rfl, rfl, hW⟩ := hcut
        obtain ⟨a0, a1, a2, a3⟩ := hW.cells2
        have HWW := Lib.hid hW
        clear hT hW
        go_wp2_with (first
          | (go_at_call 13; refine (HWW.out.p.tells HOK2.out).mono ?_; rintro e w3 ⟨rfl, hb3⟩; have HW3 := Lib.hid (HWW.out.below hb3))
          | (go_at_call 17; refine (HW3.out.p.dead HDE2.out).mono ?_; rintro e w4 ⟨rfl, rfl⟩)
          | (go_at_call 18; refine (HW3.out.steps0 HST2.out).mono ?_; rintro e w4 ⟨rfl, rfl⟩))
        go_loopw [9, 11, 13] (CrIn w S T b st A c w1.heap.size g12 nm) (fun _ _ x _ => 5 - (intOf x).toNat)
        case atStart => exact ⟨0, b2, st2, A2, c2, by omega, by omega, rfl, rfl, rfl, HOK2.out, by have := HST2.out; omega, HW3.out⟩
        case round =>
          clear HWW hb3 HW3 HDE2 H62 HOK2 HST2 HKR HS a0 a1 a2 a3
          obtain ⟨j, b3, st3, A3, c3, hj, hjm, rfl, rfl, rfl, hok3, hst3, hW⟩ := hrel
          have HOK3 := Lib.hid hok3
          have HW := Lib.hid hW
          clear hok3
          by_cases hltj : j < 5 ∧ j < nm
          · obtain ⟨hj1, hj2⟩ := hltj
            obtain ⟨m, hm⟩ : ∃ m, M[j]? = some m := ⟨M[j]'(by have := HNM.out; omega), List.getElem?_eq_getElem _⟩
            obtain ⟨gm, pm, rfl, hgm, hom⟩ := HM.out.cell j m hm
            have HOP := Lib.hid (HM.out.ops m (List.mem_of_getElem? hm))
            have hj' : (j : Int) < (nm : Int) := by omega
            obtain ⟨a0, a1, a2, a3⟩ := hW.cells2
            obtain ⟨st4, hrun⟩ : ∃ st4, m.o.run st3 = st4 := ⟨_, rfl⟩
            have HRUN := Lib.hid hrun
            have hR : BuR w gm (pm + j * 6) m wr := ⟨hom, hgm, hW.p.p.bel⟩
            clear hrun hm hom hW
            go_upto_region 13 with fail
            refine wp_region_held_drew (S := BuR w gm (pm + j * 6) m) (by kernel_rfl) (by (first | (with_reducible assumption) | (with_reducible exact BuR.drew (by assumption)) | (exact BuR.to hR hP4.p.bel) | (exact BuR.fill (by assumption) HW.out.g2 _ _ _ _))) (fun hHeld => ?_)
            refine wpAnyH_take (i := 0) (v := ?vr2_0) (Fr.take_at rfl) (by kernel_rfl) (by kernel_rfl) (by kernel_rfl) (fun _ _ _ h => h) (Or.inl ⟨by rfl, ?yr2_0⟩) (by assumption) ?nr2_0
            case yr2_0 => (intro w_ hSw; obtain ⟨q0, q1, q2, q3, q4, q5⟩ := BuR.cells hSw; go_simp; (try with_reducible rfl))
            try simp only [Act.put, List.setIfInBounds_toArray, List.set_cons_zero, List.set_cons_succ]
            refine wpAnyH_take (i := 2) (v := ?vr2_2) (Fr.take_at rfl) (by kernel_rfl) (by kernel_rfl) (by kernel_rfl) (fun _ _ _ h => h) (Or.inl ⟨by rfl, ?yr2_2⟩) (by assumption) ?nr2_2
            case yr2_2 => (intro w_ hSw; obtain ⟨q0, q1, q2, q3, q4, q5⟩ := BuR.cells hSw; go_simp; (try with_reducible rfl))
            try simp only [Act.put, List.setIfInBounds_toArray, List.set_cons_zero, List.set_cons_succ]
            refine wpAnyH_take (i := 3) (v := ?vr2_3) (Fr.take_at rfl) (by kernel_rfl) (by kernel_rfl) (by kernel_rfl) (fun _ _ _ h => h) (Or.inl ⟨by rfl, ?yr2_3⟩) (by assumption) ?nr2_3
            case yr2_3 => (intro w_ hSw; obtain ⟨q0, q1, q2, q3, q4, q5⟩ := BuR.cells hSw; go_simp; (try with_reducible rfl))
            try simp only [Act.put, List.setIfInBounds_toArray, List.set_cons_zero, List.set_cons_succ]
            refine wpAnyH_take (i := 4) (v := ?vr2_4) (Fr.take_at rfl) (by kernel_rfl) (by kernel_rfl) (by kernel_rfl) (fun _ _ _ h => h) (Or.inl ⟨by rfl, ?yr2_4⟩) (by assumption) ?nr2_4
            case yr2_4 => (intro w_ hSw; obtain ⟨q0, q1, q2, q3, q4, q5⟩ := BuR.cells hSw; go_simp; (try with_reducible rfl))
            try simp only [Act.put, List.setIfInBounds_toArray, List.set_cons_zero, List.set_cons_succ]
            refine wpAnyH_take (i := 5) (v := ?vr2_5) (Fr.take_at rfl) (by kernel_rfl) (by kernel_rfl) (by kernel_rfl) (fun _ _ _ h => h) (Or.inl ⟨by rfl, ?yr2_5⟩) (by assumption) ?nr2_5
            case yr2_5 => (intro w_ hSw; obtain ⟨q0, q1, q2, q3, q4, q5⟩ := BuR.cells hSw; go_simp; (try with_reducible rfl))
            try simp only [Act.put, List.setIfInBounds_toArray, List.set_cons_zero, List.set_cons_succ]
            refine wpAnyH_ready (rs := [1]) (by kernel_rfl) (by simp) ?_
            refine AllReadyH.cons (Fr.take_at rfl) (fun K hK => ?_) AllReadyH.nil
            go_simp
            refine hK.out _ _ (by (first | (with_reducible assumption) | (with_reducible exact BuR.drew (by assumption)) | (exact BuR.to hR hP4.p.bel) | (exact BuR.fill (by assumption) HW.out.g2 _ _ _ _))) (fun hHeld => ?_)
            clear hK K
            try simp only [Act.put, List.setIfInBounds_toArray, List.set_cons_zero, List.set_cons_succ]
            refine wpAnyH_ready (rs := [6]) (by kernel_rfl) (by simp) ?_
            refine AllReadyH.cons (Fr.take_at rfl) (fun K hK => ?_) AllReadyH.nil
            go_simp
            (go_at_call 14; refine (TwoX.play HW.out.drew.p HOK3.out (by omega) HOP.out HRUN.out).mono ?_; rintro e w5 ⟨b5, A5, c5, rfl, hP4, hk4⟩; have hW4 := HW.out.next hP4 hk4; obtain ⟨hx, ⟨y0, y1, y2, y3⟩, ⟨z0, z1, z2, z3⟩⟩ := box_kept HW.out.m2 (hk4 _ (Or.inr rfl)))
            try go_wp2_with fail
            refine hK.out _ _ (by (first | (with_reducible assumption) | (with_reducible exact BuR.drew (by assumption)) | (exact BuR.to hR hP4.p.bel) | (exact BuR.fill (by assumption) HW.out.g2 _ _ _ _))) (fun hHeld => ?_)
            clear hK K
            try simp only [Act.put, List.setIfInBounds_toArray, List.set_cons_zero, List.set_cons_succ]
            refine wpAnyH_take (i := 7) (v := ?vr2_7) (Fr.take_at rfl) (by kernel_rfl) (by kernel_rfl) (by kernel_rfl) (fun _ _ _ h => h) (Or.inl ⟨by rfl, ?yr2_7⟩) (by assumption) ?nr2_7
            case yr2_7 => (intro w_ hSw; obtain ⟨q0, q1, q2, q3, q4, q5⟩ := BuR.cells hSw; go_simp; (try with_reducible rfl))
            try simp only [Act.put, List.setIfInBounds_toArray, List.set_cons_zero, List.set_cons_succ]
            refine wpAnyH_take (i := 8) (v := ?vr2_8) (Fr.take_at rfl) (by kernel_rfl) (by kernel_rfl) (by kernel_rfl) (fun _ _ _ h => h) (Or.inl ⟨by rfl, ?yr2_8⟩) (by assumption) ?nr2_8
            case yr2_8 => (intro w_ hSw; obtain ⟨q0, q1, q2, q3, q4, q5⟩ := BuR.cells hSw; go_simp; (try with_reducible rfl))
            try simp only [Act.put, List.setIfInBounds_toArray, List.set_cons_zero, List.set_cons_succ]
            refine wpAnyH_take (i := 9) (v := ?vr2_9) (Fr.take_at rfl) (by kernel_rfl) (by kernel_rfl) (by kernel_rfl) (fun _ _ _ h => h) (Or.inl ⟨by rfl, ?yr2_9⟩) (by assumption) ?nr2_9
            case yr2_9 => (intro w_ hSw; obtain ⟨q0, q1, q2, q3, q4, q5⟩ := BuR.cells hSw; go_simp; (try with_reducible rfl))
            try simp only [Act.put, List.setIfInBounds_toArray, List.set_cons_zero, List.set_cons_succ]
            refine wpAnyH_take (i := 10) (v := ?vr2_10) (Fr.take_at rfl) (by kernel_rfl) (by kernel_rfl) (by kernel_rfl) (fun _ _ _ h => h) (Or.inl ⟨by rfl, ?yr2_10⟩) (by assumption) ?nr2_10
            case yr2_10 => (intro w_ hSw; obtain ⟨q0, q1, q2, q3, q4, q5⟩ := BuR.cells hSw; go_simp; (try with_reducible rfl))
            try simp only [Act.put, List.setIfInBounds_toArray, List.set_cons_zero, List.set_cons_succ]
            refine wpAnyH_take (i := 11) (v := ?vr2_11) (Fr.take_at rfl) (by kernel_rfl) (by kernel_rfl) (by kernel_rfl) (fun _ _ _ h => h) (Or.inl ⟨by rfl, ?yr2_11⟩) (by assumption) ?nr2_11
            case yr2_11 => (intro w_ hSw; obtain ⟨q0, q1, q2, q3, q4, q5⟩ := BuR.cells hSw; go_simp; (try with_reducible rfl))
            try simp only [Act.put, List.setIfInBounds_toArray, List.set_cons_zero, List.set_cons_succ]
            refine wpAnyH_ready (rs := [12]) (by kernel_rfl) (by simp) ?_
            refine AllReadyH.cons (Fr.take_at rfl) (fun K hK => ?_) AllReadyH.nil
            go_simp
            refine hK.out _ _ (by (first | (with_reducible assumption) | (with_reducible exact BuR.drew (by assumption)) | (exact BuR.to hR hP4.p.bel) | (exact BuR.fill (by assumption) HW.out.g2 _ _ _ _))) (fun hHeld => ?_)
            clear hK K
            try simp only [Act.put, List.setIfInBounds_toArray, List.set_cons_zero, List.set_cons_succ]
            refine wpAnyH_take (i := 13) (v := ?vr2_13) (Fr.take_at rfl) (by kernel_rfl) (by kernel_rfl) (by kernel_rfl) (fun _ _ _ h => h) (Or.inl ⟨by rfl, ?yr2_13⟩) (by assumption) ?nr2_13
            case yr2_13 => (intro w_ hSw; obtain ⟨q0, q1, q2, q3, q4, q5⟩ := BuR.cells hSw; go_simp; (try with_reducible rfl))
            try simp only [Act.put, List.setIfInBounds_toArray, List.set_cons_zero, List.set_cons_succ]
            refine wpAnyH_done (by kernel_rfl) ?_ _
            clear a0 a1 a2 a3
            have hst4 : st4.steps ≤ j + 1 := by have := run_steps st3 m.o; rw [HRUN.out] at this; omega
            have hok4 : st4.Ok := by have := run_ok HOK3.out m.o HOP.out.n1; rw [HRUN.out] at this; exact this
            have H1 := Lib.hid hst4
            have H2 := Lib.hid hok4
            clear hst4 hok4
            go_wp2
            go_roundw
            case rel => exact ⟨j + 1, _, st4, _, _, by omega, by omega, rfl, rfl, by go_num, H2.out, H1.out, hW4⟩
            case measure => simp [intOf]; omega
          · have hcase : j = nm ∨ (j < nm ∧ j = 5) := by omega
            have hS4 := hW.back
            obtain ⟨a0, a1, a2, a3⟩ := hS4.cells
            have HS4 := Lib.hid hS4
            clear hltj hW hS4
            rcases hcase with hcase | ⟨hc1, hc2⟩
            · subst hcase
              go_wp2_with (go_at_call 13; refine (HS4.out.p.tells HOK.out).mono ?_; rintro e w6 ⟨rfl, hb6⟩; have hS6 := HS4.out.below hb6)
              go_roundw
              case rel => exact ⟨i + 1, by omega, by omega, rfl, by go_num, hS6⟩
              case measure => simp [intOf]; omega
            · subst hc2
              have hc1' : (5 : Int) < (nm : Int) := by omega
              go_wp2_with (go_at_call 13; refine (HS4.out.p.tells HOK.out).mono ?_; rintro e w6 ⟨rfl, hb6⟩; have hS6 := HS4.out.below hb6)
              go_roundw
              case rel => exact ⟨i + 1, by omega, by omega, rfl, by go_num, hS6⟩
              case measure => simp [intOf]; omega
    · have hcase : i = n1 ∨ (i < n1 ∧ i = 12) := by omega
      have HS4 := Lib.hid hS
      clear hlt hS
      rcases hcase with hcase | ⟨hc1, hc2⟩
      · subst hcase
        go_wp2
        go_ret
        exact ⟨rfl, HS4.out.p.bel⟩
      · subst hc2
        have hc1' : (12 : Int) < (n1 : Int) := by omega
        go_wp2
        go_ret
        exact ⟨rfl, HS4.out.p.bel⟩
end Dr
end Go.Proofs.Ytljhedgcpbapdaa
