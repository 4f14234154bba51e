/-
  WHAT IS PROVED: (1) lives in memory; a drive behind a loss of power; what each step of the law WalCrashes leaves. NO CONDITION beside those that each lemma names. (2) lives that came in as an argument, opened: they stand in memory as named. NO CONDITION beside those that each lemma names.
-/
import Derived.Test.YtnijonjepgdinaaDoorWLived
import Derived.Test.YtnijonjepgdinaaDoorWLeft
import Derived.Test.YtnijonjepgdinaaDoorKitL
import Derived.Deep.Slices
import Derived.Deep.Fields
import Derived.Deep.Matrix
namespace Go.Proofs.YtnijonjepgdinaaDoor
open Go Go.RowKit Go.Maps Go.Proofs.YtnijonjepgdinaaDoor.Fr Go.Proofs.YtnijonjepgdinaaDoor.Dr
namespace Wl

/-- A LIFE IN MEMORY. -/
structure LM where
  AP : Option Addr
  nP : Nat
  cP : Nat
  us : List Value
  PL : List Bs
  ev : Int
  lf : Int
  AK : Option Addr
  nK : Nat
  cK : Nat
  ks : List Int
structure LM.Ok (w : World) (m : LM) : Prop where
  pl : m.PL.length = m.nP
  pr : Rd w m.AP m.us
  prl : RdL w m.us m.PL
  e1 : -9223372036854775808 ≤ m.ev
  e2 : m.ev ≤ 9223372036854775807
  l1 : -9223372036854775808 ≤ m.lf
  l2 : m.lf ≤ 9223372036854775807
  kl : m.ks.length = m.nK
  kc : m.nK ≤ m.cK
  kr : Rd w m.AK (iv m.ks)
def LCells (w : World) (g p : Nat) (m : LM) : Prop :=
  w.cell? ⟨g, p, none⟩ = some (.slice m.AP m.nP m.cP) ∧ w.cell? ⟨g, p + 1, none⟩ = some (.int .i64 m.ev) ∧ w.cell? ⟨g, p + 2, none⟩ = some (.int .i64 m.lf) ∧ w.cell? ⟨g, p + 3, none⟩ = some (.slice m.AK m.nK m.cK)
structure Lives (w : World) (A : Option Addr) (L : List LM) : Prop where
  cell : ∀ i m, L[i]? = some m → ∃ g p, A = some ⟨g, p, none⟩ ∧ g < w.heap.size ∧ LCells w g (p + i * 4) m
  ok : ∀ m ∈ L, m.Ok w
section
variable {w0 w w' : World} {X : Nat → Prop} {b d B : Nat} {g : Int} {dead : Bool} {st : St}
theorem LCells.below {p q : Nat} {m : LM} (h : LCells w q p m) (hq : q < w.heap.size) (hb : Below w.heap.size w w') : LCells w' q p m :=
  ⟨(hb.cell (p := ⟨q, p, none⟩) hq).trans h.1, (hb.cell (p := ⟨q, p + 1, none⟩) hq).trans h.2.1, (hb.cell (p := ⟨q, p + 2, none⟩) hq).trans h.2.2.1, (hb.cell (p := ⟨q, p + 3, none⟩) hq).trans h.2.2.2⟩
theorem ds_crash (h : DS w0 w X d st) (hok : st.Ok) (A : Option Addr) (m c : Nat) (ks : List Int) (hl : ks.length = m) (hmc : m ≤ c) (hr : Rd w A (iv ks)) :
    Calls Tryd.prog 12 #[.pointer (some ⟨d, 0, none⟩), .slice A m c] w fun e w' => ∃ d', e = .returned (.pointer (some ⟨d', 0, none⟩)) ∧ DS w0 w' (fun k => k < w.heap.size) d' (st.crash ks) ∧ Below w.heap.size w w' := by
  obtain ⟨S, h1, h2, h3, h4⟩ := h
  refine (crash_any h1 hok A m c ks hl hmc hr).mono ?_
  rintro e w' ⟨d', rfl, h5, h6⟩
  exact ⟨d', rfl, ⟨New w w', h5, fun k hk => Nat.le_trans h3.size hk.1, h3.trans (h6.mono h3.size), fun k hk => ⟨Nat.lt_of_lt_of_le hk h6.size, fun e => by have := e.1; omega⟩⟩, h6⟩
theorem ls_arm (h : LS w0 w X b d g dead st) (k : Int) (h0 : -9223372036854775808 ≤ k) (h1 : k ≤ 9223372036854775807) :
    Calls Tryd.prog 10 #[.pointer (some ⟨d, 0, none⟩), .int .i64 k] w (LSOp w0 X b d g dead (st.arm k) w) :=
  h.op fun _ h2 _ => arm_any h2 k h0 h1
end
/-- Where the loop over the lives stands. -/
structure CrAt (w : World) (i : Nat) (X : Nat → Prop) (d : Nat) (st : St) (F : List Bs) (v : Value) (vs : List Value) (wr : World) : Prop where
  ds : DS w wr X d st
  lx : Lx (21 * i) 0 false (nextOf 1 (segs st.files)) false st F.length
  tags : (tag st.files).map (·.2) = F
  row : wr.ownsRow w.heap.size 42 1 v F.length vs
  own : OwnL wr w.heap.size vs F
  rowX : ∀ k, v.ownBlock = some k → X k
  ownX : ∀ u ∈ vs, ∀ k, u.ownBlock = some k → X k
  few : F.length ≤ 20 * i
def CrInv (w : World) (n : Nat) (dv v x : Value) (wr : World) : Prop :=
  ∃ (i c d j : Nat) (A : Option Addr), i ≤ n ∧ i ≤ 5 ∧ x = .int .i64 (i : Int) ∧ dv = .pointer (some ⟨d, 0, none⟩) ∧ v = .slice A j c ∧ j ≤ c ∧ Hid (∃ X st F vs, F.length = j ∧ CrAt w i X d st F (.slice A j c) vs wr)
section
variable {w wr w4 w5 w6 w7 : World} {X : Nat → Prop} {i d b : Nat} {st st7 : St} {F D : List Bs} {v : Value} {vs : List Value}
theorem CrAt.pays (h : CrAt w i X d st F v vs wr) (hi : i ≤ 5) : paysOf st.files 1 (segs st.files) = F := by rw [h.lx.pays (by omega), h.tags]
/-- What is opened behind a loss of power: what there was, and a beginning of what was done. -/
theorem crash_pays {k t z m : Nat} {ar : Bool} {g : Int} {dead : Bool} (hx : Lx k t ar g dead st7 (F.length + z)) (hk : k ≤ 199) (ht : (tag st7.files).map (·.2) = F ++ D.take m) (ks : List Int) :
    ∃ q, z ≤ q ∧ q ≤ m ∧ q ≤ D.length ∧ paysOf (st7.crash ks).files 1 (segs (st7.crash ks).files) = F ++ D.take q ∧ (tag (st7.crash ks).files).map (·.2) = F ++ D.take q ∧ (st7.crash ks).Ok ∧
      Lx (k + 1) 0 false (nextOf 1 (segs (st7.crash ks).files)) false (st7.crash ks) (F ++ D.take q).length := by
  obtain ⟨r, h1, h2, h3, h4⟩ := hx.crash (by omega) ks
  have hlen := congrArg List.length ht
  simp only [List.length_map, List.length_append, List.length_take] at hlen
  have e : (tag (st7.crash ks).files).map (·.2) = F ++ D.take (r - F.length) := by
    rw [h3, List.map_take, ht]
    have e1 : F ++ D.take (r - F.length) = (F ++ D.take m).take r := by
      rw [List.take_append, List.take_of_length_le (by omega : F.length ≤ r), List.take_take, Nat.min_eq_left (by omega)]
    rw [e1]
  refine ⟨r - F.length, by omega, by omega, by omega, ?_, e, h4.ok.1, ?_⟩
  · rw [h4.pays (by omega), e]
  · have h5 : (F ++ D.take (r - F.length)).length = r := by rw [List.length_append, List.length_take]; omega
    rw [h5]; exact h4
end

end Wl
end Go.Proofs.YtnijonjepgdinaaDoor
namespace Go.Proofs.YtnijonjepgdinaaDoor
open Go Go.ChangeShapes Go.WideShapes Go.ChangeAt Go.RowKit Go.Deep Go.Proofs.YtnijonjepgdinaaDoor.Fr Go.Proofs.YtnijonjepgdinaaDoor.Dr
namespace Wl

section
variable {H : Type} {enc : TypeId × Value → H} {P : Program} {W : World}
/-- A slice of slices of bytes, by its type, in one cell. -/
theorem list_cell {t e q n' : Nat} {v : Value} {y : DataW H × List MemPlace} (ht : P.underlying t = some (.slice e)) (he : P.underlying e = some (.slice q)) (hq : P.underlying q = some (.int .u8)) (ce : P.cellsOf e = 1) (cq : P.cellsOf q = 1)
    (hf : DataW.trod enc P W 0 (fun _ => true) true n' t [v] = some y) :
    ∃ A n c vs ls, v = .slice A n c ∧ ls.length = n ∧ n ≤ c ∧ Rd W A vs ∧ RdL W vs ls := by
  rcases Deep.open_int_rows ht he hq ce cq hf with ⟨hcs, hx⟩ | ⟨a, len, cap, A, L, C, Z, hcs, _, hl, _, hx, hrow⟩
  · simp only [List.cons.injEq, and_true] at hcs
    exact ⟨none, 0, 0, [], [], hcs, rfl, Nat.le_refl _, Rd.nil, ⟨rfl, fun i v l h => by simp at h⟩⟩
  · simp only [List.cons.injEq, and_true] at hcs
    subst hcs
    refine ⟨some a, len, cap, (List.range len).map fun r => .slice (A r) (L r) (C r), (List.range len).map fun r => u8s ((Z r).take (L r)), rfl, by simp, hl, ?_, ⟨by simp, ?_⟩⟩
    · intro hne
      have h0 : 0 < len := by
        rcases Nat.eq_zero_or_pos len with h0 | h0
        · subst h0; simp at hne
        · exact h0
      obtain ⟨b, off, spot⟩ := a
      have hc0 := (hrow 0 (by omega)).1
      have hspot : spot = none := by simpa [Addr.add] using World.cell?_spot hc0
      subst hspot
      refine ⟨b, off, rfl, ?_, fun i hi => ?_⟩
      · have := World.block_lt_of_cell? W _ hc0
        simpa [Addr.add] using this
      · simp only [List.length_map, List.length_range] at hi
        have hci := (hrow i (by omega)).1
        have hadd : (⟨b, off, none⟩ : Addr).add i = ⟨b, off + i, none⟩ := by unfold Addr.add; split <;> simp_all
        rw [hadd] at hci
        rw [hci]
        simp
    · intro i v l hv hl'
      by_cases hi : i < len
      · rw [List.getElem?_map, List.getElem?_range hi] at hv hl'
        simp only [Option.map_some, Option.some.injEq] at hv hl'
        subst hv hl'
        obtain ⟨_, r1, _, r3, r4, r5, r6⟩ := hrow i (by omega)
        refine ⟨A i, L i, C i, rfl, by rw [u8s_length, List.length_take, r3]; omega, r1, ?_⟩
        cases hA : A i with
        | none =>
          have h0 : L i = 0 := by have := r5 hA; omega
          rw [h0]
          exact Rd.nil
        | some a' => exact rd_bytes r1 r3 r4 (r6 a' hA).2
      · rw [List.getElem?_eq_none (by simp; omega)] at hv
        cases hv
theorem spot_none {a : Addr} {v : Value} (h : W.cell? a = some v) : ∃ b o, a = ⟨b, o, none⟩ ∧ b < W.heap.size := by
  obtain ⟨b, o, spot⟩ := a
  have hspot : spot = none := World.cell?_spot h
  subst hspot
  exact ⟨b, o, rfl, World.block_lt_of_cell? W _ h⟩
theorem add_none (b o j : Nat) : (⟨b, o, none⟩ : Addr).add j = ⟨b, o + j, none⟩ := by unfold Addr.add; split <;> simp_all
theorem rd_vals {a : Addr} {xs : List Value} (hc : ∀ i (h : i < xs.length), W.cell? (a.add i) = some xs[i]) : Rd W (some a) xs := by
  intro hne
  have h0 : 0 < xs.length := List.length_pos_iff.2 hne
  have hc0 := hc 0 h0
  have hz : a.add 0 = a := by unfold Addr.add; split <;> simp_all
  rw [hz] at hc0
  obtain ⟨b, o, rfl, hb⟩ := spot_none hc0
  exact ⟨b, o, rfl, hb, fun i hi => by rw [← add_none]; exact hc i hi⟩
theorem rd_ints {a : Addr} {zs : List Int} {n : Nat} (hc : ∀ i, i < zs.length → W.cell? (a.add i) = some (.int .i64 (zs.getD i 0))) : Rd W (some a) (iv (zs.take n)) := by
  refine rd_vals fun i hi => ?_
  simp only [iv, List.length_map, List.length_take] at hi
  have hiz : i < zs.length := by omega
  rw [hc i hiz]
  simp [iv, List.getElem_take, List.getD_eq_getElem?_getD, List.getElem?_eq_getElem hiz]
end
section
variable {H : Type} {enc : TypeId × Value → H} {W : World}
theorem cellsInt : Tryd.prog.cellsOf 3 = 1 := by kernel_rfl
theorem ints_cell {n : Nat} {c : Value} {y : DataW H × List MemPlace} (h : DataW.trod enc Tryd.prog W 0 (fun _ => true) true n 32 [c] = some y) :
    ∃ A m cp l, c = .slice A m cp ∧ l.length = m ∧ m ≤ cp ∧ Rd W A (iv l) := by
  rcases open_ints Tryd.underlying32 Tryd.underlying3 cellsInt h with ⟨hcs, hx⟩ | ⟨a, len, cap, zs, hcs, _, hl, hm, hz, hx, hcell, hwz⟩
  · simp only [List.cons.injEq, and_true] at hcs
    exact ⟨none, 0, 0, [], hcs, rfl, Nat.le_refl _, Rd.nil⟩
  · simp only [List.cons.injEq, and_true] at hcs
    simp only [if_true] at hz
    exact ⟨some a, len, cap, zs.take len, hcs, by rw [List.length_take]; omega, hl, rd_ints hcell⟩
theorem lifeFields : oneCellFields Tryd.prog #[⟨"Payloads", 26, 0, false, "", "", 0⟩, ⟨"Every", 3, 1, false, "", "", 24⟩, ⟨"Left", 3, 2, false, "", "", 32⟩, ⟨"Keeps", 32, 3, false, "", "", 40⟩] = true := by kernel_rfl
theorem cellsLife : Tryd.prog.cellsOf 34 = 4 := by kernel_rfl
-- one life that came in
set_option maxRecDepth 100000 in
theorem life_open {a : Addr} {cs : List Value} {n : Nat} {x : DataW H × List MemPlace} (hc : W.cells? 0 a 4 = some cs) (h : DataW.trod enc Tryd.prog W 0 (fun _ => true) true n 34 cs = some x) :
    ∃ (m : LM) (g p : Nat), a = ⟨g, p, none⟩ ∧ g < W.heap.size ∧ LCells W g p m ∧ m.Ok W := by
  obtain ⟨_, hcl, hat⟩ := World.cells?_some hc
  obtain ⟨ys, n', _, hx, hlen, hyl, hf⟩ := DataW.trod_struct Tryd.underlying34 h
  match cs, hcl with
  | [c0, c1, c2, c3], _ =>
    match ys, hyl with
    | [y0, y1, y2, y3], _ =>
      have k0 : Tryd.prog.cellsOf 26 = 1 := (hone_of lifeFields 0 _ rfl).2
      have k1 : Tryd.prog.cellsOf 3 = 1 := (hone_of lifeFields 1 _ rfl).2
      have k3 : Tryd.prog.cellsOf 32 = 1 := (hone_of lifeFields 3 _ rfl).2
      have f0 : DataW.trod enc Tryd.prog W 0 (fun _ => true) true n' 26 [c0] = some y0 := by simpa [k0] using hf 0 _ rfl
      have f1 : DataW.trod enc Tryd.prog W 0 (fun _ => true) true n' 3 [c1] = some y1 := by simpa [k1] using hf 1 _ rfl
      have f2 : DataW.trod enc Tryd.prog W 0 (fun _ => true) true n' 3 [c2] = some y2 := by simpa [k1] using hf 2 _ rfl
      have f3 : DataW.trod enc Tryd.prog W 0 (fun _ => true) true n' 32 [c3] = some y3 := by simpa [k3] using hf 3 _ rfl
      obtain ⟨A0, m0, p0, us, ls, rfl, h01, h02, h03, h04⟩ := list_cell Tryd.underlying26 Tryd.underlying42 Tryd.underlying5 cellsSl cellsU8 f0
      obtain ⟨z1, e1, _, b1⟩ := DataW.trod_int Tryd.underlying3 f1
      obtain ⟨z2, e2, _, b2⟩ := DataW.trod_int Tryd.underlying3 f2
      obtain ⟨A3, m3, p3, l3, rfl, h31, h32, h33⟩ := ints_cell f3
      simp only [List.cons.injEq, and_true] at e1 e2
      subst e1 e2
      have c0 := hat 0 (by omega)
      have hz : a.add 0 = a := by unfold Addr.add; split <;> simp_all
      rw [hz] at c0
      obtain ⟨g, p, rfl, hg⟩ := spot_none (c0.trans rfl)
      have at_ : ∀ j, j < 4 → W.cell? ⟨g, p + j, none⟩ = ([.slice A0 m0 p0, .int .i64 z1, .int .i64 z2, .slice A3 m3 p3] : List Value)[j]? := fun j hj => by rw [← add_none]; exact hat j hj
      exact ⟨⟨A0, m0, p0, us, ls, z1, z2, A3, m3, p3, l3⟩, g, p, rfl, hg, ⟨at_ 0 (by omega), at_ 1 (by omega), at_ 2 (by omega), at_ 3 (by omega)⟩,
        ⟨h01, h03, h04, (bounds_i64 b1).1, (bounds_i64 b1).2, (bounds_i64 b2).1, (bounds_i64 b2).2, h31, h32, h33⟩⟩
-- lives that came in
set_option maxRecDepth 100000 in
theorem lives_open {v : Value} {d : DataW H} {p : List MemPlace} {base : Nat} (hv : Value.okWide Tryd.prog W .any base 22 v) (h : DataW.Trod enc Tryd.prog W 0 (fun _ => true) true 22 v d p) :
    ∃ A n c L, v = .slice A n c ∧ L.length = n ∧ Lives W A L := by
  obtain ⟨a0, len, cap, rfl⟩ := okWide_slice Tryd.underlying22 hv
  obtain ⟨fuel, hf⟩ := h
  rcases open_slice Tryd.underlying22 hf with ⟨hcs, hx⟩ | ⟨a, len', cap', m, n, D, Pl, hcs, _, hl, hm, hmm, hx, hi⟩
  · simp only [Value.cells, List.cons.injEq, Value.slice.injEq, and_true] at hcs
    obtain ⟨rfl, rfl, rfl⟩ := hcs
    exact ⟨none, 0, 0, [], rfl, rfl, fun i m h => by simp at h, fun m h => by cases h⟩
  · simp only [Value.cells, List.cons.injEq, Value.slice.injEq, and_true] at hcs
    obtain ⟨rfl, rfl, rfl⟩ := hcs
    simp only [if_true] at hmm
    have each : ∀ i, i < len → ∃ (m : LM) (g p : Nat), a.add (i * 4) = ⟨g, p, none⟩ ∧ g < W.heap.size ∧ LCells W g p m ∧ m.Ok W := fun i hlt => by
      obtain ⟨cs', hc, ht⟩ := hi i (by omega)
      rw [cellsLife] at hc
      exact life_open hc ht
    rcases Nat.eq_zero_or_pos len with h0 | h0
    · subst h0
      exact ⟨some a, 0, cap, [], rfl, rfl, fun i m h => by simp at h, fun m h => by cases h⟩
    · obtain ⟨_, g, p, ha, hg, _⟩ := each 0 h0
      have hz : a.add (0 * 4) = a := by rw [Nat.zero_mul]; unfold Addr.add; split <;> simp_all
      rw [hz] at ha
      subst ha
      have each' : ∀ i : Fin len, ∃ m : LM, LCells W g (p + i.1 * 4) m ∧ m.Ok W := fun i => by
        obtain ⟨m, g', p', ha, _, h1, h2⟩ := each i.1 i.2
        rw [add_none] at ha
        cases ha
        exact ⟨m, h1, h2⟩
      let M : Fin len → LM := fun i => (each' i).choose
      have hM : ∀ i : Fin len, LCells W g (p + i.1 * 4) (M i) ∧ (M i).Ok W := fun i => (each' i).choose_spec
      refine ⟨some ⟨g, p, none⟩, len, cap, List.ofFn M, rfl, by simp, fun i m hm => ?_, fun m hm => ?_⟩
      · obtain ⟨hlt, rfl⟩ := List.getElem?_eq_some_iff.1 hm
        rw [List.length_ofFn] at hlt
        refine ⟨g, p, rfl, hg, ?_⟩
        rw [List.getElem_ofFn]
        exact (hM ⟨i, hlt⟩).1
      · obtain ⟨i, rfl⟩ := List.mem_ofFn.1 hm
        exact (hM i).2
end
end Wl
end Go.Proofs.YtnijonjepgdinaaDoor
