/-
  WHAT IS PROVED: what the law DriveLoads answers. CONDITIONS: the names, the files and the script stand in memory as named.
-/
import Derived.Test.YtljhedgcpbapdaaLLoadB
import Derived.Test.YtljhedgcpbapdaaRLoadB
import Derived.Test.YtljhedgcpbapdaaLScript
import Derived.Test.YtljhedgcpbapdaaLOwn
namespace Go.Proofs.Ytljhedgcpbapdaa
open Go Go.RowKit Go.Maps Go.Proofs.Ytljhedgcpbapdaa.Fr
namespace Dr
set_option maxRecDepth 100000 in
theorem rload_range (w : World) (A : Option Addr) (n c : Nat) (A2 : Option Addr) (n2 c2 : Nat) (hne : n ≠ n2) :
    Calls Try.prog 12 #[.slice A n c, .slice A2 n2 c2] w (RlRet w 1 .empty) := by
  have hne' : ¬ (n : Int) = (n2 : Int) := by omega
  go_enter Try.func12, Try.ntmps12
  go_wp2
  exact bodyPost_ret (results_cell_tmp (by rfl) _ _ _ _ _ _ _ _ (by rfl) (by rfl) (Blk.new w _ _) Try.underlying26 (by rfl) (by kernel_rfl)) rfl (RlRet.none (k := 1) ((Below.refl _ _).alloc (Nat.le_refl _) _))
/-- The copies. -/
structure InAt (w : World) (K : List BM) (i : Nat) (AI : Option Addr) (cI : Nat) (vs : List Value) (W : World) : Prop where
  row : W.ownsRow w.heap.size 33 1 (.slice AI i cI) i vs
  len : vs.length = i
  el : ∀ (j : Nat) (v : Value), vs[j]? = some v → ∃ (k : BM) (A' : Option Addr) (c' : Nat), K[j]? = some k ∧ v = .slice A' k.n c' ∧ W.ownsRow w.heap.size 5 1 v k.n (bv k.l)
  bel : Below w.heap.size w W
def InInv (w : World) (K : List BM) (n : Nat) (s7 s34 : Value) (W : World) : Prop := ∃ (i : Nat) (AI : Option Addr) (cI : Nat) (vs : List Value), i ≤ n ∧ s7 = .slice AI i cI ∧ s34 = .int .i64 (i : Int) ∧ InAt w K i AI cI vs W
def toBM (k : BM) (v : Value) : BM := match v with
  | .slice A n c => ⟨A, n, c, k.l⟩
  | _ => k
section
variable {w W W' : World} {K : List BM} {i : Nat} {AI : Option Addr} {cI : Nat} {vs : List Value}
theorem InAt.below (h : InAt w K i AI cI vs W) (hb : Below W.heap.size W W') : InAt w K i AI cI vs W' :=
  ⟨own_below h.row hb (Nat.le_refl _), h.len, fun j v hv => by
    obtain ⟨k, A', c', h1, h2, h3⟩ := h.el j v hv
    exact ⟨k, A', c', h1, h2, own_below h3 hb (Nat.le_refl _)⟩, h.bel.trans (hb.mono h.bel.size)⟩
theorem InAt.snoc (h : InAt w K i AI cI vs W) {k : BM} {A5 : Option Addr} {c5 : Nat} (hk : K[i]? = some k) (ho : W.ownsRow w.heap.size 5 1 (.slice A5 k.n c5) k.n (bv k.l)) {A6 : Option Addr} {c6 : Nat} {W6 : World} (h6 : W6.ownsRow w.heap.size 33 1 (.slice A6 (i + 1) c6) (i + 1) (vs ++ [.slice A5 k.n c5])) (hg : W.grownBy W6 (Value.slice AI i cI).ownBlock) :
    InAt w K (i + 1) A6 c6 (vs ++ [.slice A5 k.n c5]) W6 := by
  refine ⟨h6, by rw [List.length_append, h.len]; rfl, fun j v hv => ?_, h.bel.grown hg h.bel.size fun k hk => own_row h.row k hk⟩
  by_cases hj : j < i
  · rw [List.getElem?_append_left (by rw [h.len]; exact hj)] at hv
    obtain ⟨k', A', c', h1, h2, h3⟩ := h.el j v hv
    exact ⟨k', A', c', h1, h2, h3.kept hg (own_ne h3 h.row (by decide))⟩
  · have hji : j = i := by
      have := (List.getElem?_eq_some_iff.1 hv).1
      rw [List.length_append, h.len, List.length_singleton] at this
      omega
    subst hji
    rw [List.getElem?_append_right (by rw [h.len]; exact Nat.le_refl _), h.len, Nat.sub_self] at hv
    cases hv
    exact ⟨k, A5, c5, hk, rfl, ho.kept hg (own_ne ho h.row (by decide))⟩
theorem InAt.rows (h : InAt w K i AI cI vs W) (hK : K.length = i) (hm : ∀ k ∈ K, k.l.length = k.n ∧ k.n ≤ 140737488351232) : ∃ K', K'.length = i ∧ K'.map (·.l) = K.map (·.l) ∧ BRows W AI K' := by
  have hl : (List.zipWith toBM K vs).length = i := by rw [List.length_zipWith, hK, h.len, Nat.min_self]
  have at_ : ∀ (j : Nat) (kk : BM), (List.zipWith toBM K vs)[j]? = some kk → ∃ (k : BM) (A' : Option Addr) (c' : Nat), K[j]? = some k ∧ vs[j]? = some (.slice A' k.n c') ∧ kk = ⟨A', k.n, c', k.l⟩ ∧ W.ownsRow w.heap.size 5 1 (.slice A' k.n c') k.n (bv k.l) := fun j kk hkk => by
    rw [List.getElem?_zipWith_eq_some] at hkk
    obtain ⟨k0, v, h1, h2, h3⟩ := hkk
    obtain ⟨k, A', c', h4, h5, h6⟩ := h.el j v h2
    rw [h1] at h4
    cases h4
    subst h5
    exact ⟨k0, A', c', h1, h2, h3.symm, h6⟩
  refine ⟨_, hl, ?_, fun j kk hkk => ?_, fun kk hkk => ?_⟩
  · apply List.ext_getElem?
    intro j
    rw [List.getElem?_map, List.getElem?_map]
    cases h1 : (List.zipWith toBM K vs)[j]? with
    | none =>
      have := List.getElem?_eq_none_iff.1 h1
      rw [List.getElem?_eq_none (by omega)]
    | some kk =>
      obtain ⟨k, A', c', h2, _, h4, _⟩ := at_ j kk h1
      rw [h2, h4]
      rfl
  · obtain ⟨k, A', c', h2, h3, h4, _⟩ := at_ j kk hkk
    have hr := Rd.own h.row
    have hj : j < vs.length := (List.getElem?_eq_some_iff.1 h3).1
    obtain ⟨g, p, e, hg, hc⟩ := hr.at_ hj
    refine ⟨g, p, e, hg, hc.trans ?_⟩
    rw [(List.getElem?_eq_some_iff.1 h3).2, h4]
  · obtain ⟨j, hj⟩ := List.getElem?_of_mem hkk
    obtain ⟨k, A', c', h2, h3, rfl, h5⟩ := at_ j kk hj
    obtain ⟨h6, h7⟩ := hm k (List.mem_of_getElem? h2)
    obtain ⟨A0, c0, e, h8, _⟩ := own_shape h5
    cases e
    exact ⟨h6, h8, h7, Rd.own h5⟩
/-- What stays while bytes of the copies are written. -/
structure InW (w : World) (B n : Nat) (AI : Option Addr) (cI : Nat) (vs : List Value) (W : World) : Prop where
  row : W.ownsRow w.heap.size 33 1 (.slice AI n cI) n vs
  el : ∀ v ∈ vs, ∃ A m c xs, v = .slice A m c ∧ m ≤ 140737488351232 ∧ W.ownsRow w.heap.size 5 1 v m xs ∧ ∀ k, v.ownBlock = some k → k < B
theorem InAt.toW (h : InAt w K i AI cI vs W) (hm : ∀ k ∈ K, k.l.length = k.n ∧ k.n ≤ 140737488351232) : InW w W.heap.size i AI cI vs W :=
  ⟨h.row, fun v hv => by
    obtain ⟨j, hj⟩ := List.getElem?_of_mem hv
    obtain ⟨k, A', c', h1, h2, h3⟩ := h.el j v hj
    exact ⟨A', k.n, c', _, h2, (hm k (List.mem_of_getElem? h1)).2, h3, fun g hg => (h3.lt g hg).2⟩⟩
theorem InW.below {B n : Nat} (h : InW w B n AI cI vs W) (hb : Below W.heap.size W W') : InW w B n AI cI vs W' :=
  ⟨own_below h.row hb (Nat.le_refl _), fun v hv => by
    obtain ⟨A, m, c, xs, h1, h2, h3, h4⟩ := h.el v hv
    exact ⟨A, m, c, xs, h1, h2, own_below h3 hb (Nat.le_refl _), h4⟩⟩
theorem InW.more {B B' n : Nat} (h : InW w B n AI cI vs W) (hB : B ≤ B') : InW w B' n AI cI vs W :=
  ⟨h.row, fun v hv => by
    obtain ⟨A, m, c, xs, h1, h2, h3, h4⟩ := h.el v hv
    exact ⟨A, m, c, xs, h1, h2, h3, fun k hk => Nat.lt_of_lt_of_le (h4 k hk) hB⟩⟩
theorem own_setc {base g m j : Nat} {v u : Value} {xs : List Value} (h : W.ownsRow base 5 1 v m xs) : ∃ xs', (W.setCell ⟨g, j, none⟩ u).ownsRow base 5 1 v m xs' := by
  have hg : W.grownBy (W.setCell ⟨g, j, none⟩ u) (some g) := ⟨rfl, rfl, rfl, by simp [World.setCell], fun k _ hk => Below.heap_setCell _ _ _ _ fun e => hk (by rw [e])⟩
  by_cases e : v.ownBlock = some g
  · rcases h.2 with ⟨rfl, _⟩ | ⟨g', cap, cur, rfl, _⟩
    · simp [Value.ownBlock] at e
    · have : g' = g := by simpa [Value.ownBlock] using e
      subst this
      exact ⟨_, (h.stored j u).1⟩
  · exact ⟨xs, h.kept hg (.inr e)⟩
theorem InW.set {B n : Nat} (h : InW w B n AI cI vs W) {v : Value} (hv : v ∈ vs) {g m c : Nat} (e : v = .slice (some ⟨g, 0, none⟩) m c) (j : Nat) (u : Value) : InW w B n AI cI vs (W.setCell ⟨g, j, none⟩ u) := by
  obtain ⟨A, m', c', xs, h1, _, h3, _⟩ := h.el v hv
  subst e
  cases h1
  have hg := (h3.stored j u).2
  refine ⟨h.row.kept hg (own_ne h.row h3 (by decide)), fun v' hv' => ?_⟩
  obtain ⟨A2, m2, c2, xs2, k1, k2, k3, k5⟩ := h.el v' hv'
  obtain ⟨xs', k4⟩ := own_setc (g := g) (j := j) (u := u) k3
  exact ⟨A2, m2, c2, xs', k1, k2, k4, k5⟩
/-- What every world behind the two Loads has. -/
structure LoS (w : World) (B g b : Nat) (st : St) (A : Option Addr) (c : Nat) (W : World) : Prop where
  p : Pair w (fun k => k = g ∨ (w.heap.size ≤ k ∧ k < B)) b st (.agg (refC A c st)) W
  m : Blk W g 26 (refC A c st)
  g : w.heap.size ≤ g ∧ B ≤ g
theorem LoS.set {B g b : Nat} {st : St} {A : Option Addr} {c k : Nat} (h : LoS w B g b st A c W) (hk : w.heap.size ≤ k ∧ k < B) (j : Nat) (u : Value) : LoS w B g b st A c (W.setCell ⟨k, j, none⟩ u) := by
  obtain ⟨S, T, h1, h2, h3, h4, h5⟩ := h.p.reps
  have hsz : (W.setCell ⟨k, j, none⟩ u).heap.size = W.heap.size := by simp [World.setCell]
  have le : W.heap.size ≤ (W.setCell ⟨k, j, none⟩ u).heap.size := by rw [hsz]; exact Nat.le_refl _
  exact ⟨⟨⟨S, T, h1.same (fun q hq => Below.heap_setCell _ _ _ _ fun e => by subst e; exact (h3 _ hq).2 (.inr hk)) le, h2.same (fun q hq => Below.heap_setCell _ _ _ _ fun e => by subst e; exact (h4 _ hq).2 (.inr hk)) le, h3, h4, h5⟩, fun q hq => by rw [hsz]; exact h.p.lt q hq, h.p.bel.setCell (p := ⟨k, j, none⟩) hk.1 u⟩, h.m.same (Below.heap_setCell _ _ _ _ (by have := h.g; show g ≠ k; omega)), h.g⟩
theorem LoS.below {B g b : Nat} {st : St} {A : Option Addr} {c : Nat} (h : LoS w B g b st A c W) (hb : Below W.heap.size W W') : LoS w B g b st A c W' := ⟨h.p.below hb, h.m.same (hb.block _ h.m.lt), h.g⟩
theorem LoS.drew {B g b : Nat} {st : St} {A : Option Addr} {c : Nat} (h : LoS w B g b st A c W) : LoS w B g b st A c W.drew := h.below (below_drewN (Below.refl _ _) 1)
theorem LoS.cells {B g b : Nat} {st : St} {A : Option Addr} {c : Nat} (h : LoS w B g b st A c W) : W.cell? ⟨g, 0, none⟩ = some (.slice A st.files.length c) ∧ W.cell? ⟨g, 1, none⟩ = some (.int .i64 (st.steps : Int)) ∧ W.cell? ⟨g, 2, none⟩ = some (.bool st.armed) ∧ W.cell? ⟨g, 3, none⟩ = some (.int .i64 (st.left : Int)) := blk_cells4 h.m
theorem LoS.next {B g b b' : Nat} {st st' : St} {A A' : Option Addr} {c c' : Nat} (h : LoS w B g b st A c W) (hp : Pair w (fun k => k = g ∨ (w.heap.size ≤ k ∧ k < B)) b' st' (.agg (refC A' c' st')) W') (hk : ∀ k, (k = g ∨ (w.heap.size ≤ k ∧ k < B)) → W'.heap[k]? = W.heap[k]?) :
    LoS w B g b' st' A' c' (set4 W' g (.slice A' st'.files.length c') (.int .i64 (st'.steps : Int)) (.bool st'.armed) (.int .i64 (st'.left : Int))) :=
  ⟨hp.fill (.inl rfl) h.g.1 _ _ _ _, set4_blk (h.m.same (hk g (.inl rfl))), h.g⟩
theorem LoS.made {w5 w6 w7 : World} {b : Nat} {st : St} {A : Option Addr} {c : Nat} {T : Nat → Prop} (hd : DriveRep w6 (New w5 w6) b st) (hb : Below w.heap.size w w6) (h5 : w.heap.size ≤ w5.heap.size) (h56 : w5.heap.size ≤ w6.heap.size) (hr : RefRep w7 T (.agg (refC A c st)) st) (hT : ∀ k, T k → w6.heap.size ≤ k) (hb7 : Below w6.heap.size w6 w7) :
    LoS w w5.heap.size w7.heap.size b st A c (w7.alloc (.cells (refC A c st) 26)) := by
  have hs := hb7.size
  have hx := (Below.refl w7.heap.size w7).alloc (Nat.le_refl _) (.cells (refC A c st) 26)
  refine ⟨⟨⟨New w5 w6, T, (hd.below hb7).below hx, hr.below hx, fun k hk => ⟨by have := hk.1; omega, fun e => ?_⟩, fun k hk => ⟨by have := hT k hk; omega, fun e => ?_⟩, fun k hk e => ?_⟩, fun k hk => ?_, (hb.trans (hb7.mono hb.size)).trans (hx.mono (by have := hb.size; omega))⟩, Blk.new _ _ _, by omega, by omega⟩
  · have := hk.1; have := hk.2
    rcases e with e | e <;> omega
  · have := hT k hk; have := hr.lt k hk
    rcases e with e | e <;> omega
  · have := hT k e; have := hk.2; omega
  · rw [World.size_alloc]
    rcases hk with hk | hk <;> omega
def ZiInv (w : World) (B n : Nat) (AI : Option Addr) (cI : Nat) (vs : List Value) (g b : Nat) (st : St) (A : Option Addr) (c m : Nat) (s74 : Value) (W : World) : Prop := ∃ j : Nat, j ≤ m ∧ s74 = .int .i64 (j : Int) ∧ InW w B n AI cI vs W ∧ LoS w B g b st A c W
def ZoInv (w : World) (B n : Nat) (AI : Option Addr) (cI : Nat) (vs : List Value) (g b : Nat) (st : St) (A : Option Addr) (c : Nat) (s68 : Value) (W : World) : Prop := ∃ i : Nat, i ≤ n ∧ s68 = .int .i64 (i : Int) ∧ InW w B n AI cI vs W ∧ LoS w B g b st A c W
def LoInv (w : World) (B g n3 : Nat) (s10 s17 s18 : Value) (W : World) : Prop := ∃ (i b : Nat) (st : St) (A : Option Addr) (c : Nat), i ≤ 80 ∧ i ≤ n3 ∧ s10 = .pointer (some ⟨b, 0, none⟩) ∧ s17 = .bool true ∧ s18 = .int .i64 (i : Int) ∧ st.Ok ∧ st.steps ≤ i ∧ LoS w B g b st A c W
theorem info_sl : (Try.prog.info? 33).map (fun i => (i.zero, i.size, i.bytes)) = some (some (.slice none 0 0), 1, 24) := by kernel_rfl
theorem lit_ownS (W : World) : (W.alloc (.cells #[] 9)).ownsRow W.heap.size 9 1 (.slice (some ⟨W.heap.size, 0, none⟩) 0 0) 0 [] := World.ownsRow_lit W #[] 0 (Nat.le_refl _) (by decide) rfl
theorem encs_one (ns : List Bs) : ∀ u ∈ ns.map encStr, u.oneCell' = true := by
  intro u hu
  obtain ⟨x, _, rfl⟩ := List.mem_map.1 hu
  rfl
theorem loads_big (w : World) (A : Option Addr) (n c : Nat) (A2 : Option Addr) (n2 c2 : Nat) (A3 : Option Addr) (n3 c3 : Nat) (hbig : 300 < n ∨ 300 < n2) :
    Calls Try.prog 4 #[.slice A n c, .slice A2 n2 c2, .slice A3 n3 c3] w fun e w' => e = .returned (.bool true) ∧ Below w.heap.size w w' := by
  have HW := Lib.hid awake_any
  by_cases h1 : 300 < n
  · have h1' : (300 : Int) < (n : Int) := by omega
    clear hbig
    go_enter Try.func4, Try.ntmps4
    go_wp2_with (first
      | (go_at_call 10; (with_reducible refine (HW.out w).mono ?_); rintro e w1 ⟨rfl, hb1⟩)
      | (go_at_call 10; (with_reducible refine (HW.out w1).mono ?_); rintro e w2 ⟨rfl, hb2⟩))
    go_ret
    exact ⟨rfl, hb1.trans (hb2.mono hb1.size)⟩
  · have h1' : ¬ (300 : Int) < (n : Int) := by omega
    have h2' : (300 : Int) < (n2 : Int) := by omega
    clear hbig
    go_enter Try.func4, Try.ntmps4
    go_wp2_with (first
      | (go_at_call 10; (with_reducible refine (HW.out w).mono ?_); rintro e w1 ⟨rfl, hb1⟩)
      | (go_at_call 10; (with_reducible refine (HW.out w1).mono ?_); rintro e w2 ⟨rfl, hb2⟩))
    go_ret
    exact ⟨rfl, hb1.trans (hb2.mono hb1.size)⟩
set_option maxRecDepth 100000 in
set_option maxHeartbeats 2000000 in
theorem loads_bad (w : World) (A : Option Addr) (n c : Nat) (ns : List Bs) (hl : ns.length = n) (h : Nms w A ns) (hn : n ≤ 300) (A2 : Option Addr) (n2 c2 : Nat) (K : List BM) (hl2 : K.length = n2) (h2 : BRows w A2 K) (hn2 : n2 ≤ 300) (A3 : Option Addr) (n3 c3 : Nat) {kk : Nat} (hkk : loadErr ns (K.map (·.l)) = kk) (hk0 : kk ≠ 0) :
    Calls Try.prog 4 #[.slice A n c, .slice A2 n2 c2, .slice A3 n3 c3] w fun e w' => e = .returned (.bool true) ∧ Below w.heap.size w w' := by
  have HW := Lib.hid awake_any
  have HL := Lib.hid hl
  have HN := Lib.hid h
  have HL2 := Lib.hid hl2
  have HF := Lib.hid h2
  have HKK := Lib.hid hkk
  have hn' : ¬ (300 : Int) < (n : Int) := by omega
  have hn2' : ¬ (300 : Int) < (n2 : Int) := by omega
  obtain ⟨i0, hi, hz, hz1, hz2⟩ := info_parts info_u8
  obtain ⟨i1, hi1, hzz, hzz1, hzz2⟩ := info_parts info_sl
  obtain ⟨i2, hi2, hy, hy1, hy2⟩ := info_parts info_str
  have HR : Hid (∀ W, Below w.heap.size w W → Calls Try.prog 12 #[.slice A n c, .slice A2 n2 c2] W (RlRet W kk .empty)) := fun W hW => by
    by_cases e : n = n2
    · subst e
      have := rload_any W A n c ns HL.out (HN.out.below hW) hn A2 c2 K HL2.out (HF.out.below hW) HKK.out
      rw [if_neg hk0] at this
      exact this
    · have : kk = 1 := by rw [← HKK.out]; unfold loadErr; rw [if_pos (by rw [List.length_map, HL.out, HL2.out]; exact e)]
      subst this
      exact rload_range W A n c A2 n2 c2 e
  have k1 : ((kk : Int) == 0) = false := by rw [beq_eq_false_iff_ne]; omega
  have k2 : ((kk : Int) != 0) = true := by rw [bne, k1]; rfl
  clear hl h hl2 h2 hkk
  go_enter Try.func4, Try.ntmps4
  go_wp2_with (go_at_call 10; (with_reducible refine (HW.out w).mono ?_); rintro e w1 ⟨rfl, hb1⟩)
  go_loopw [7, 34] (InInv w K n2) (fun _ x _ => n2 - (intOf x).toNat)
  case atStart => exact ⟨0, none, 0, [], by omega, rfl, rfl, World.ownsRow_nil _ _ _ _, rfl, fun j v hv => by simp at hv, hb1⟩
  case round =>
    clear hb1
    obtain ⟨i, AI, cI, vs, hi', rfl, rfl, hI⟩ := hrel
    have HI := Lib.hid hI
    by_cases hlt : i < n2
    · obtain ⟨k, hk⟩ : ∃ k, K[i]? = some k := ⟨K[i]'(by have := HL2.out; omega), List.getElem?_eq_getElem _⟩
      have hFb := HF.out.below hI.bel
      obtain ⟨gf, pf, rfl, hgf, hcf⟩ := hFb.cell i k hk
      obtain ⟨hkl, hkc, hkm, hkr⟩ := hFb.rows k (List.mem_of_getElem? hk)
      have HK := Lib.hid hk
      have HKL := Lib.hid hkl
      have HKR := Lib.hid hkr
      have hsz := hI.bel.size
      have hlt' : (i : Int) < (n2 : Int) := by omega
      clear hk hkl hkr hI hFb
      go_wp2_with (first
        | (at_builtin; refine wpList_app _ rfl (.tmp 39) (.tmp 40) _ rfl wr.heap.size 5 i0 _ 1 Try.underlying33 hi hz hz1 hz2 rfl (.slice (some ⟨wr.heap.size, 0, none⟩) 0 0) 0 [] rfl (lit_own wr) k.A k.n k.c (bv k.l) rfl (by rw [bv_length]; exact HKL.out) (HKR.out.alloc _) (bv_one _) k.n (by omega) (by unfold maxLen; omega) (by omega) (by simp) ?_; intro A5 c5 w5 hown5 hb5 hg5 hl5; have HO5 := Lib.hid hown5; have HB5 := Lib.hid (((Below.refl wr.heap.size wr).alloc (Nat.le_refl _) (.cells #[] 5)).trans hb5); clear hown5 hb5 hg5 hl5)
        | (at_builtin; refine wpList_app _ rfl (.tmp 38) (.tmp 42) _ rfl w.heap.size 33 i1 _ 24 Try.underlying32 hi1 hzz hzz1 hzz2 rfl (.slice AI i cI) i vs rfl ((own_below HI.out.row HB5.out (Nat.le_refl _)).alloc _) (some ⟨w5.heap.size, 0, none⟩) 1 1 [_] rfl rfl (Rd.one _ _ _ _ _ rfl) (by intro u hu; simp at hu; subst hu; rfl) (i + 1) rfl (by unfold maxLen; omega) (by omega) (by have := HB5.out.size; simp; omega) ?_; intro A6 c6 w6 hown6 hb6 hg6 hl6; have HI6 := Lib.hid (InAt.snoc ((HI.out.below HB5.out).below ((Below.refl _ _).alloc (Nat.le_refl _) _)) HK.out (own_mono (HO5.out.alloc _) hsz) hown6 hg6); clear hown6 hb6 hg6 hl6))
      go_roundw
      case rel => exact ⟨i + 1, A6, c6, _, by omega, rfl, by go_num, HI6.out⟩
      case measure => simp [intOf]; omega
    · obtain rfl : i = n2 := by omega
      have hsz := hI.bel.size
      obtain ⟨K', hK1, hK2, hK3⟩ := hI.rows HL2.out fun k hk => ⟨(HF.out.rows k hk).1, (HF.out.rows k hk).2.2.1⟩
      have HK1 := Lib.hid hK1
      have HK2 : Hid (loadErr ns (K'.map (·.l)) = kk) := by show loadErr ns _ = kk; rw [hK2]; exact HKK.out
      have HK3 := Lib.hid hK3
      clear hI hK1 hK2 hK3
      go_wp2_with (first
        | (at_builtin; refine wpList_app _ rfl (.tmp 46) (.tmp 47) _ rfl wr.heap.size 9 i2 _ 16 Try.underlying31 hi2 hy hy1 hy2 rfl (.slice (some ⟨wr.heap.size, 0, none⟩) 0 0) 0 [] rfl (lit_ownS wr) A n c (ns.map encStr) rfl (by rw [List.length_map]; exact HL.out) ((HN.out.below HI.out.bel).r.alloc _) (encs_one _) n (by omega) (by unfold maxLen; omega) (by omega) (by simp) ?_; intro A5 c5 w5 hown5 hb5 hg5 hl5; have HO5 := Lib.hid hown5; have HB5 := Lib.hid (((Below.refl wr.heap.size wr).alloc (Nat.le_refl _) (.cells #[] 9)).trans hb5); clear hown5 hb5 hg5 hl5)
        | (go_at_call 11; refine (load_bad w5 A5 n c5 ns HL.out ⟨Rd.own HO5.out, HN.out.s⟩ (by omega) AI i cI K' HK1.out (HK3.out.below HB5.out) (by omega) HK2.out hk0).mono ?_; rintro e w6 ⟨rfl, hb6⟩; have HB6 := Lib.hid (HI.out.bel.trans ((HB5.out.trans (hb6.mono HB5.out.size)).mono HI.out.bel.size)); clear hb6)
        | (go_at_call 12; refine (HR.out _ HB6.out).mono ?_; rintro e w7 ⟨A7, c7, T7, rfl, hr7, hT7, hb7⟩))
      go_ret
      exact ⟨rfl, HB6.out.trans ((hb7.trans ((Below.refl _ _).alloc hb7.size _)).mono HB6.out.size)⟩
theorem load_ok' (w : World) (A : Option Addr) (n c : Nat) (ns : List Bs) (hl : ns.length = n) (h : Nms w A ns) (hn : n ≤ 1000) (A2 : Option Addr) (c2 : Nat) (K : List BM) (hl2 : K.length = n) (h2 : BRows w A2 K) (hk : loadErr ns (K.map (·.l)) = 0) {st : St} (hst : loadSt ns (K.map (·.l)) = st) :
    Calls Try.prog 11 #[.slice A n c, .slice A2 n c2] w (LoadOk st w) := by subst hst; exact load_ok w A n c ns hl h hn A2 c2 K hl2 h2 hk
set_option maxRecDepth 100000 in
set_option maxHeartbeats 2000000 in
theorem loads_ok (w : World) (A : Option Addr) (n c : Nat) (ns : List Bs) (hl : ns.length = n) (h : Nms w A ns) (hn : n ≤ 300) (A2 : Option Addr) (c2 : Nat) (K : List BM) (hl2 : K.length = n) (h2 : BRows w A2 K) (A3 : Option Addr) (n3 c3 : Nat) (L : List OpM) (hl3 : L.length = n3) (hL : Script w A3 L) (hkk : loadErr ns (K.map (·.l)) = 0) :
    Calls Try.prog 4 #[.slice A n c, .slice A2 n c2, .slice A3 n3 c3] w fun e w' => e = .returned (.bool true) ∧ Below w.heap.size w w' := by
  have HW := Lib.hid awake_any
  have HL := Lib.hid hl
  have HN := Lib.hid h
  have HL2 := Lib.hid hl2
  have HF := Lib.hid h2
  have HKK := Lib.hid hkk
  have hn' : ¬ (300 : Int) < (n : Int) := by omega
  have HL3 := Lib.hid hl3
  have HSC := Lib.hid hL
  obtain ⟨st, hst⟩ : ∃ st, loadSt ns (K.map (·.l)) = st := ⟨_, rfl⟩
  have hok : st.Ok := by rw [← hst]; exact loadSt_ok hkk
  have hsteps : st.steps = 0 := by rw [← hst]; rfl
  have HST := Lib.hid hst
  have HOK := Lib.hid hok
  have HSTP := Lib.hid hsteps
  obtain ⟨i0, hi, hz, hz1, hz2⟩ := info_parts info_u8
  obtain ⟨i1, hi1, hzz, hzz1, hzz2⟩ := info_parts info_sl
  obtain ⟨i2, hi2, hy, hy1, hy2⟩ := info_parts info_str
  have HR : Hid (∀ W, Below w.heap.size w W → Calls Try.prog 12 #[.slice A n c, .slice A2 n c2] W (RlRet W 0 st)) := fun W hW => by
    have := rload_any W A n c ns HL.out (HN.out.below hW) hn A2 c2 K HL2.out (HF.out.below hW) HKK.out
    rw [if_pos rfl, HST.out] at this
    exact this
  clear hl h hl2 h2 hkk hl3 hL hst hok hsteps
  go_enter Try.func4, Try.ntmps4
  go_wp2_with (go_at_call 10; (with_reducible refine (HW.out w).mono ?_); rintro e w1 ⟨rfl, hb1⟩)
  go_loopw [7, 34] (InInv w K n) (fun _ x _ => n - (intOf x).toNat)
  case atStart => exact ⟨0, none, 0, [], by omega, rfl, rfl, World.ownsRow_nil _ _ _ _, rfl, fun j v hv => by simp at hv, hb1⟩
  case round =>
    clear hb1
    obtain ⟨i, AI, cI, vs, hi', rfl, rfl, hI⟩ := hrel
    have HI := Lib.hid hI
    by_cases hlt : i < n
    · obtain ⟨k, hk⟩ : ∃ k, K[i]? = some k := ⟨K[i]'(by have := HL2.out; omega), List.getElem?_eq_getElem _⟩
      have hFb := HF.out.below hI.bel
      obtain ⟨gf, pf, rfl, hgf, hcf⟩ := hFb.cell i k hk
      obtain ⟨hkl, hkc, hkm, hkr⟩ := hFb.rows k (List.mem_of_getElem? hk)
      have HK := Lib.hid hk
      have HKL := Lib.hid hkl
      have HKR := Lib.hid hkr
      have hsz := hI.bel.size
      have hlt' : (i : Int) < (n : Int) := by omega
      clear hk hkl hkr hI hFb
      go_wp2_with (first
        | (at_builtin; refine wpList_app _ rfl (.tmp 39) (.tmp 40) _ rfl wr.heap.size 5 i0 _ 1 Try.underlying33 hi hz hz1 hz2 rfl (.slice (some ⟨wr.heap.size, 0, none⟩) 0 0) 0 [] rfl (lit_own wr) k.A k.n k.c (bv k.l) rfl (by rw [bv_length]; exact HKL.out) (HKR.out.alloc _) (bv_one _) k.n (by omega) (by unfold maxLen; omega) (by omega) (by simp) ?_; intro A5 c5 w5 hown5 hb5 hg5 hl5; have HO5 := Lib.hid hown5; have HB5 := Lib.hid (((Below.refl wr.heap.size wr).alloc (Nat.le_refl _) (.cells #[] 5)).trans hb5); clear hown5 hb5 hg5 hl5)
        | (at_builtin; refine wpList_app _ rfl (.tmp 38) (.tmp 42) _ rfl w.heap.size 33 i1 _ 24 Try.underlying32 hi1 hzz hzz1 hzz2 rfl (.slice AI i cI) i vs rfl ((own_below HI.out.row HB5.out (Nat.le_refl _)).alloc _) (some ⟨w5.heap.size, 0, none⟩) 1 1 [_] rfl rfl (Rd.one _ _ _ _ _ rfl) (by intro u hu; simp at hu; subst hu; rfl) (i + 1) rfl (by unfold maxLen; omega) (by omega) (by have := HB5.out.size; simp; omega) ?_; intro A6 c6 w6 hown6 hb6 hg6 hl6; have HI6 := Lib.hid (InAt.snoc ((HI.out.below HB5.out).below ((Below.refl _ _).alloc (Nat.le_refl _) _)) HK.out (own_mono (HO5.out.alloc _) hsz) hown6 hg6); clear hown6 hb6 hg6 hl6))
      go_roundw
      case rel => exact ⟨i + 1, A6, c6, _, by omega, rfl, by go_num, HI6.out⟩
      case measure => simp [intOf]; omega
    · obtain rfl : n = i := by omega
      have hsz := hI.bel.size
      obtain ⟨K', hK1, hK2, hK3⟩ := hI.rows HL2.out fun k hk => ⟨(HF.out.rows k hk).1, (HF.out.rows k hk).2.2.1⟩
      have HK1 := Lib.hid hK1
      have HK2 : Hid (loadErr ns (K'.map (·.l)) = 0) := by show loadErr ns _ = 0; rw [hK2]; exact HKK.out
      have HK4 : Hid (loadSt ns (K'.map (·.l)) = st) := by show loadSt ns _ = st; rw [hK2]; exact HST.out
      have HIW := Lib.hid (hI.toW fun k hk => ⟨(HF.out.rows k hk).1, (HF.out.rows k hk).2.2.1⟩)
      have HK3 := Lib.hid hK3
      clear hI hK1 hK2 hK3
      go_wp2_with (first
        | (at_builtin; refine wpList_app _ rfl (.tmp 46) (.tmp 47) _ rfl wr.heap.size 9 i2 _ 16 Try.underlying31 hi2 hy hy1 hy2 rfl (.slice (some ⟨wr.heap.size, 0, none⟩) 0 0) 0 [] rfl (lit_ownS wr) A n c (ns.map encStr) rfl (by rw [List.length_map]; exact HL.out) ((HN.out.below HI.out.bel).r.alloc _) (encs_one _) n (by omega) (by unfold maxLen; omega) (by omega) (by simp) ?_; intro A5 c5 w5 hown5 hb5 hg5 hl5; have HO5 := Lib.hid hown5; have HB5 := Lib.hid (((Below.refl wr.heap.size wr).alloc (Nat.le_refl _) (.cells #[] 9)).trans hb5); clear hown5 hb5 hg5 hl5)
        | (go_at_call 11; refine (load_ok' w5 A5 n c5 ns HL.out ⟨Rd.own HO5.out, HN.out.s⟩ (by omega) AI cI K' HK1.out (HK3.out.below HB5.out) HK2.out HK4.out).mono ?_; rintro e w6 ⟨b, rfl, hd6, hb6⟩; have HB6 := Lib.hid (HI.out.bel.trans ((HB5.out.trans (hb6.mono HB5.out.size)).mono HI.out.bel.size)); have HD6 := Lib.hid hd6; have HB56 := Lib.hid hb6; clear hb6 hd6)
        | (go_at_call 12; refine (HR.out _ HB6.out).mono ?_; rintro e w7 ⟨A7, c7, T7, rfl, hr7, hT7, hb7⟩; have HLS := Lib.hid (LoS.made HD6.out HB6.out (Nat.le_trans hsz HB5.out.size) HB56.out.size hr7 hT7 hb7); have HIW7 := Lib.hid (((((HIW.out.more HB5.out.size).below HB5.out).below HB56.out).below hb7).below ((Below.refl _ _).alloc (Nat.le_refl _) (.cells (refC A7 c7 st) 26))); clear hr7 hT7 hb7))
      obtain ⟨g12, hg12⟩ : ∃ g12, g12 = w7.heap.size := ⟨_, rfl⟩
      rw [← hg12] at HLS ⊢
      have hwb : w.heap.size ≤ w5.heap.size := Nat.le_trans hsz HB5.out.size
      go_loopw [68] (ZoInv w w5.heap.size n AI cI vs g12 b st A7 c7) (fun x _ => n - (intOf x).toNat)
      case atStart => exact ⟨0, by omega, rfl, HIW7.out, HLS.out⟩
      case round =>
        clear HLS HIW7 HIW HD6 HB56 HB6 hg12
        obtain ⟨i, hi3, rfl, hIW, hLS⟩ := hrel
        have HLS := Lib.hid hLS
        by_cases hlti : i < n
        · have hvs : vs.length = n := by have := hIW.row.1; omega
          obtain ⟨v, hv⟩ : ∃ v, vs[i]? = some v := ⟨vs[i]'(by omega), List.getElem?_eq_getElem _⟩
          have hvm := List.mem_of_getElem? hv
          obtain ⟨A9, m9, c9, xs9, rfl, hm9, ho9, hlt9⟩ := hIW.el v hvm
          obtain ⟨g, o, rfl, hg, hc⟩ := (Rd.own hIW.row).at_ (i := i) (by omega)
          have hc' : wr.cell? ⟨g, o + i, none⟩ = some (.slice A9 m9 c9) := by rw [hc, (List.getElem?_eq_some_iff.1 hv).2]
          have hlti' : (i : Int) < (n : Int) := by omega
          have HIW := Lib.hid hIW
          have HVM := Lib.hid hvm
          clear hc hv hvm ho9 hlt9 hIW hLS
          go_wp2
          go_loopw [74] (ZiInv w w5.heap.size n (some ⟨g, o, none⟩) cI vs g12 b st A7 c7 m9) (fun x _ => m9 - (intOf x).toNat)
          case atStart => exact ⟨0, by omega, rfl, HIW.out, HLS.out⟩
          case round =>
            clear HIW HLS hc'
            obtain ⟨j, hj, rfl, hIW, hLS⟩ := hrel
            by_cases hltj : j < m9
            · obtain ⟨A8, m8, c8, xs8, he, _, ho8, hlt8⟩ := hIW.el _ HVM.out
              cases he
              obtain ⟨g9, rfl, hg9, _⟩ := own_from ho8 (by omega)
              have hxl : xs8.length = m9 := by have := ho8.1; omega
              have hc1 := ho8.cellAt j (by omega)
              rw [List.getElem?_eq_getElem (by omega)] at hc1
              have hf1 := ho8.frozenAt j
              have hg9b := hlt8 g9 rfl
              have HI9 := Lib.hid (hIW.set HVM.out rfl j (.int .u8 0))
              have HL9 := Lib.hid (hLS.set ⟨hg9, hg9b⟩ j (.int .u8 0))
              clear hIW hLS ho8 hlt8
              go_wp2
              go_roundw
              case rel => exact ⟨j + 1, by omega, by go_num, HI9.out, HL9.out⟩
              case measure => simp [intOf]; omega
            · have HI9 := Lib.hid hIW
              have HL9 := Lib.hid hLS
              clear hIW hLS
              go_wp2
              go_roundw
              case rel => exact ⟨i + 1, by omega, by go_num, HI9.out, HL9.out⟩
              case measure => simp [intOf]; omega
        · obtain ⟨a0, a1, a2, a3⟩ := hLS.cells
          clear hIW hLS
          go_wp2_with (go_at_call 13; refine (HLS.out.p.tells HOK.out).mono ?_; rintro e w8 ⟨rfl, hb8⟩; have HL8 := Lib.hid (HLS.out.below hb8); clear hb8)
          clear a0 a1 a2 a3 HLS
          go_loopw [10, 17, 18] (LoInv w w5.heap.size g12 n3) (fun _ _ x _ => 80 - (intOf x).toNat)
          case atStart => exact ⟨0, b, st, A7, c7, by omega, by omega, rfl, rfl, rfl, HOK.out, by have := HSTP.out; omega, HL8.out⟩
          case round =>
            clear HL8
            obtain ⟨j, b3, st3, A8, c8, hj, hjn, rfl, rfl, rfl, hok3, hst3, hLS⟩ := hrel
            have HOK3 := Lib.hid hok3
            have HLS := Lib.hid hLS
            clear hok3
            by_cases hltj : j < 80 ∧ j < n3
            · obtain ⟨hj1, hj2⟩ := hltj
              obtain ⟨m, hm⟩ : ∃ m, L[j]? = some m := ⟨L[j]'(by have := HL3.out; omega), List.getElem?_eq_getElem _⟩
              obtain ⟨gm, pm, rfl, hgm, hom⟩ := HSC.out.cell j m hm
              have HOP := Lib.hid (HSC.out.ops m (List.mem_of_getElem? hm))
              have hj' : (j : Int) < (n3 : Int) := by omega
              obtain ⟨a0, a1, a2, a3⟩ := hLS.cells
              obtain ⟨st4, hrun⟩ : ∃ st4, m.o.run st3 = st4 := ⟨_, rfl⟩
              have HRUN := Lib.hid hrun
              have hR : BuR w gm (pm + j * 6) m wr := ⟨hom, hgm, hLS.p.bel⟩
              clear hrun hm hom hLS
              go_upto_region 28 with fail
              refine wp_region_held_drew (S := BuR w gm (pm + j * 6) m) (by kernel_rfl) (by (first | (with_reducible assumption) | (with_reducible exact BuR.drew (by assumption)) | (exact BuR.to hR hP4.bel) | (exact BuR.fill (by assumption) HLS.out.g.1 _ _ _ _))) (fun hHeld => ?_)
              refine wpAnyH_take (i := 0) (v := ?vr1_0) (Fr.take_at rfl) (by kernel_rfl) (by kernel_rfl) (by kernel_rfl) (fun _ _ _ h => h) (Or.inl ⟨by rfl, ?yr1_0⟩) (by assumption) ?nr1_0
              case yr1_0 => (intro w_ hSw; obtain ⟨q0, q1, q2, q3, q4, q5⟩ := BuR.cells hSw; go_simp; (try with_reducible rfl))
              try simp only [Act.put, List.setIfInBounds_toArray, List.set_cons_zero, List.set_cons_succ]
              refine wpAnyH_take (i := 2) (v := ?vr1_2) (Fr.take_at rfl) (by kernel_rfl) (by kernel_rfl) (by kernel_rfl) (fun _ _ _ h => h) (Or.inl ⟨by rfl, ?yr1_2⟩) (by assumption) ?nr1_2
              case yr1_2 => (intro w_ hSw; obtain ⟨q0, q1, q2, q3, q4, q5⟩ := BuR.cells hSw; go_simp; (try with_reducible rfl))
              try simp only [Act.put, List.setIfInBounds_toArray, List.set_cons_zero, List.set_cons_succ]
              refine wpAnyH_take (i := 3) (v := ?vr1_3) (Fr.take_at rfl) (by kernel_rfl) (by kernel_rfl) (by kernel_rfl) (fun _ _ _ h => h) (Or.inl ⟨by rfl, ?yr1_3⟩) (by assumption) ?nr1_3
              case yr1_3 => (intro w_ hSw; obtain ⟨q0, q1, q2, q3, q4, q5⟩ := BuR.cells hSw; go_simp; (try with_reducible rfl))
              try simp only [Act.put, List.setIfInBounds_toArray, List.set_cons_zero, List.set_cons_succ]
              refine wpAnyH_take (i := 4) (v := ?vr1_4) (Fr.take_at rfl) (by kernel_rfl) (by kernel_rfl) (by kernel_rfl) (fun _ _ _ h => h) (Or.inl ⟨by rfl, ?yr1_4⟩) (by assumption) ?nr1_4
              case yr1_4 => (intro w_ hSw; obtain ⟨q0, q1, q2, q3, q4, q5⟩ := BuR.cells hSw; go_simp; (try with_reducible rfl))
              try simp only [Act.put, List.setIfInBounds_toArray, List.set_cons_zero, List.set_cons_succ]
              refine wpAnyH_take (i := 5) (v := ?vr1_5) (Fr.take_at rfl) (by kernel_rfl) (by kernel_rfl) (by kernel_rfl) (fun _ _ _ h => h) (Or.inl ⟨by rfl, ?yr1_5⟩) (by assumption) ?nr1_5
              case yr1_5 => (intro w_ hSw; obtain ⟨q0, q1, q2, q3, q4, q5⟩ := BuR.cells hSw; go_simp; (try with_reducible rfl))
              try simp only [Act.put, List.setIfInBounds_toArray, List.set_cons_zero, List.set_cons_succ]
              refine wpAnyH_ready (rs := [1]) (by kernel_rfl) (by simp) ?_
              refine AllReadyH.cons (Fr.take_at rfl) (fun K hK => ?_) AllReadyH.nil
              go_simp
              refine hK.out _ _ (by (first | (with_reducible assumption) | (with_reducible exact BuR.drew (by assumption)) | (exact BuR.to hR hP4.bel) | (exact BuR.fill (by assumption) HLS.out.g.1 _ _ _ _))) (fun hHeld => ?_)
              clear hK K
              try simp only [Act.put, List.setIfInBounds_toArray, List.set_cons_zero, List.set_cons_succ]
              refine wpAnyH_ready (rs := [6]) (by kernel_rfl) (by simp) ?_
              refine AllReadyH.cons (Fr.take_at rfl) (fun K hK => ?_) AllReadyH.nil
              go_simp
              (go_at_call 14; refine (Pair.play HLS.out.drew.p HOK3.out (by omega) HOP.out HRUN.out).mono ?_; rintro e w5 ⟨b5, A5, c5, rfl, hP4, hk4⟩; have hW4 := HLS.out.next hP4 hk4; obtain ⟨hx, ⟨y0, y1, y2, y3⟩, ⟨z0, z1, z2, z3⟩⟩ := box_kept HLS.out.m (hk4 _ (Or.inl rfl)))
              try go_wp2_with fail
              refine hK.out _ _ (by (first | (with_reducible assumption) | (with_reducible exact BuR.drew (by assumption)) | (exact BuR.to hR hP4.bel) | (exact BuR.fill (by assumption) HLS.out.g.1 _ _ _ _))) (fun hHeld => ?_)
              clear hK K
              try simp only [Act.put, List.setIfInBounds_toArray, List.set_cons_zero, List.set_cons_succ]
              refine wpAnyH_take (i := 7) (v := ?vr1_7) (Fr.take_at rfl) (by kernel_rfl) (by kernel_rfl) (by kernel_rfl) (fun _ _ _ h => h) (Or.inl ⟨by rfl, ?yr1_7⟩) (by assumption) ?nr1_7
              case yr1_7 => (intro w_ hSw; obtain ⟨q0, q1, q2, q3, q4, q5⟩ := BuR.cells hSw; go_simp; (try with_reducible rfl))
              try simp only [Act.put, List.setIfInBounds_toArray, List.set_cons_zero, List.set_cons_succ]
              refine wpAnyH_take (i := 8) (v := ?vr1_8) (Fr.take_at rfl) (by kernel_rfl) (by kernel_rfl) (by kernel_rfl) (fun _ _ _ h => h) (Or.inl ⟨by rfl, ?yr1_8⟩) (by assumption) ?nr1_8
              case yr1_8 => (intro w_ hSw; obtain ⟨q0, q1, q2, q3, q4, q5⟩ := BuR.cells hSw; go_simp; (try with_reducible rfl))
              try simp only [Act.put, List.setIfInBounds_toArray, List.set_cons_zero, List.set_cons_succ]
              refine wpAnyH_take (i := 9) (v := ?vr1_9) (Fr.take_at rfl) (by kernel_rfl) (by kernel_rfl) (by kernel_rfl) (fun _ _ _ h => h) (Or.inl ⟨by rfl, ?yr1_9⟩) (by assumption) ?nr1_9
              case yr1_9 => (intro w_ hSw; obtain ⟨q0, q1, q2, q3, q4, q5⟩ := BuR.cells hSw; go_simp; (try with_reducible rfl))
              try simp only [Act.put, List.setIfInBounds_toArray, List.set_cons_zero, List.set_cons_succ]
              refine wpAnyH_take (i := 10) (v := ?vr1_10) (Fr.take_at rfl) (by kernel_rfl) (by kernel_rfl) (by kernel_rfl) (fun _ _ _ h => h) (Or.inl ⟨by rfl, ?yr1_10⟩) (by assumption) ?nr1_10
              case yr1_10 => (intro w_ hSw; obtain ⟨q0, q1, q2, q3, q4, q5⟩ := BuR.cells hSw; go_simp; (try with_reducible rfl))
              try simp only [Act.put, List.setIfInBounds_toArray, List.set_cons_zero, List.set_cons_succ]
              refine wpAnyH_take (i := 11) (v := ?vr1_11) (Fr.take_at rfl) (by kernel_rfl) (by kernel_rfl) (by kernel_rfl) (fun _ _ _ h => h) (Or.inl ⟨by rfl, ?yr1_11⟩) (by assumption) ?nr1_11
              case yr1_11 => (intro w_ hSw; obtain ⟨q0, q1, q2, q3, q4, q5⟩ := BuR.cells hSw; go_simp; (try with_reducible rfl))
              try simp only [Act.put, List.setIfInBounds_toArray, List.set_cons_zero, List.set_cons_succ]
              refine wpAnyH_ready (rs := [12]) (by kernel_rfl) (by simp) ?_
              refine AllReadyH.cons (Fr.take_at rfl) (fun K hK => ?_) AllReadyH.nil
              go_simp
              refine hK.out _ _ (by (first | (with_reducible assumption) | (with_reducible exact BuR.drew (by assumption)) | (exact BuR.to hR hP4.bel) | (exact BuR.fill (by assumption) HLS.out.g.1 _ _ _ _))) (fun hHeld => ?_)
              clear hK K
              try simp only [Act.put, List.setIfInBounds_toArray, List.set_cons_zero, List.set_cons_succ]
              refine wpAnyH_take (i := 13) (v := ?vr1_13) (Fr.take_at rfl) (by kernel_rfl) (by kernel_rfl) (by kernel_rfl) (fun _ _ _ h => h) (Or.inl ⟨by rfl, ?yr1_13⟩) (by assumption) ?nr1_13
              case yr1_13 => (intro w_ hSw; obtain ⟨q0, q1, q2, q3, q4, q5⟩ := BuR.cells hSw; go_simp; (try with_reducible rfl))
              try simp only [Act.put, List.setIfInBounds_toArray, List.set_cons_zero, List.set_cons_succ]
              refine wpAnyH_done (by kernel_rfl) ?_ _
              clear a0 a1 a2 a3
              have hst4 : st4.steps ≤ j + 1 := by have := run_steps st3 m.o; rw [HRUN.out] at this; omega
              have hok4 : st4.Ok := by have := run_ok HOK3.out m.o HOP.out.n1; rw [HRUN.out] at this; exact this
              have H1 := Lib.hid hst4
              have H2 := Lib.hid hok4
              clear hst4 hok4
              go_wp2
              go_roundw
              case rel => exact ⟨j + 1, _, st4, _, _, by omega, by omega, rfl, rfl, by go_num, H2.out, H1.out, hW4⟩
              case measure => simp [intOf]; omega
            · have hcase : j = n3 ∨ (j < n3 ∧ j = 80) := by omega
              clear hltj hLS
              rcases hcase with hcase | ⟨hc1, hc2⟩
              · subst hcase
                go_wp2
                go_ret
                exact ⟨rfl, HLS.out.p.bel⟩
              · subst hc2
                have hc1' : (80 : Int) < (n3 : Int) := by omega
                go_wp2
                go_ret
                exact ⟨rfl, HLS.out.p.bel⟩
end
end Dr
end Go.Proofs.Ytljhedgcpbapdaa
