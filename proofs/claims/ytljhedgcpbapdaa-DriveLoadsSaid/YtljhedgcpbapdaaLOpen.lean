/-
  WHAT IS PROVED: a script that came in as an argument, opened: its ops stand in memory as named. NO CONDITION beside those that each lemma names.
-/
import Derived.Test.YtljhedgcpbapdaaLKit
import Derived.Test.YtljhedgcpbapdaaLScript
import Derived.Deep.Slices
import Derived.Deep.Fields
import Derived.ChangeSame
namespace Go.Proofs.Ytljhedgcpbapdaa
open Go Go.ChangeShapes Go.WideShapes Go.ChangeAt Go.RowKit Go.Deep Go.Proofs.Ytljhedgcpbapdaa.Fr
namespace Dr

/-- Numbers that are bytes, as bytes. -/
def u8s (zs : List Int) : List UInt8 := zs.map fun z => UInt8.ofNat z.toNat
theorem u8s_length (zs : List Int) : (u8s zs).length = zs.length := by simp [u8s]
section
variable {W : World}
theorem spot_none {a : Addr} {v : Value} (h : W.cell? a = some v) : ∃ b o, a = ⟨b, o, none⟩ ∧ b < W.heap.size := by
  obtain ⟨b, o, spot⟩ := a
  have hspot : spot = none := World.cell?_spot h
  subst hspot
  exact ⟨b, o, rfl, World.block_lt_of_cell? W _ h⟩
theorem add_none (b o j : Nat) : (⟨b, o, none⟩ : Addr).add j = ⟨b, o + j, none⟩ := by unfold Addr.add; split <;> simp_all
/-- Values at an address, as a slice that reads so. -/
theorem rd_vals {a : Addr} {xs : List Value} (hc : ∀ i (h : i < xs.length), W.cell? (a.add i) = some xs[i]) : Rd W (some a) xs := by
  intro hne
  have h0 : 0 < xs.length := List.length_pos_iff.2 hne
  have hc0 := hc 0 h0
  have hz : a.add 0 = a := by unfold Addr.add; split <;> simp_all
  rw [hz] at hc0
  obtain ⟨b, o, rfl, hb⟩ := spot_none hc0
  exact ⟨b, o, rfl, hb, fun i hi => by rw [← add_none]; exact hc i hi⟩
theorem rd_bytes {a : Addr} {zs : List Int} {n : Nat} (hw : ∀ z ∈ zs, (Lit.int .u8 z).wf = true) (hc : ∀ i, i < zs.length → W.cell? (a.add i) = some (.int .u8 (zs.getD i 0))) : Rd W (some a) (bv (u8s (zs.take n))) := by
  refine rd_vals fun i hi => ?_
  rw [bv_length, u8s_length, List.length_take] at hi
  have hiz : i < zs.length := by omega
  rw [hc i hiz, bv_get (by rw [u8s_length, List.length_take]; omega)]
  have hrange : 0 ≤ zs[i] ∧ zs[i] ≤ 255 := bounds_u8 (hw (zs[i]) (List.getElem_mem hiz))
  simp only [u8s, List.getElem_map, List.getElem_take, List.getD_eq_getElem?_getD, List.getElem?_eq_getElem hiz, Option.getD_some]
  rw [ofNat_toNat (by omega)]
  congr 2
  omega
theorem rd_ints {a : Addr} {zs : List Int} {n : Nat} (hc : ∀ i, i < zs.length → W.cell? (a.add i) = some (.int .i64 (zs.getD i 0))) : Rd W (some a) (iv (zs.take n)) := by
  refine rd_vals fun i hi => ?_
  simp only [iv, List.length_map, List.length_take] at hi
  have hiz : i < zs.length := by omega
  rw [hc i hiz]
  simp [iv, List.getElem_take, List.getD_eq_getElem?_getD, List.getElem?_eq_getElem hiz]
section
variable {H : Type} {enc : TypeId × Value → H}
/-- A row of bytes, by its type. -/
theorem open_u8 {n : Nat} {c : Value} {y : DataW H × List MemPlace} (h : DataW.trod enc Try.prog W 0 (fun _ => true) true n 33 [c] = some y) (hsz : ∀ k ∈ y.1.weights Try.prog 33, k ≤ reachBytes) :
    ∃ A m cp l, c = .slice A m cp ∧ l.length = m ∧ m ≤ cp ∧ cp ≤ 140737488351232 ∧ Rd W A (bv l) := by
  rcases open_ints Try.underlying33 Try.underlying5 cellsU8 h with ⟨hcs, hx⟩ | ⟨a, len, cap, zs, hcs, _, hl, hm, hz, hx, hcell, hwz⟩
  · simp only [List.cons.injEq, and_true] at hcs
    exact ⟨none, 0, 0, [], hcs, rfl, Nat.le_refl _, by omega, Rd.nil⟩
  · simp only [List.cons.injEq, and_true] at hcs
    simp only [if_true] at hz
    refine ⟨some a, len, cap, u8s (zs.take len), hcs, by rw [u8s_length, List.length_take]; omega, hl, ?_, rd_bytes hwz hcell⟩
    have := hsz ((lits .u8 (zs.take len) : List (DataW H)).length + (lits .u8 (zs.drop len) : List (DataW H)).length) (by
      subst hx
      simp [DataW.weights, Try.underlying33, bytesU8])
    simp only [lits, List.length_map, List.length_take, List.length_drop, reachBytes] at this
    omega
theorem bytesInt : Try.prog.bytesOf 3 = 8 := by kernel_rfl
theorem cellsInt : Try.prog.cellsOf 3 = 1 := by kernel_rfl
theorem open_i64 {n : Nat} {c : Value} {y : DataW H × List MemPlace} (h : DataW.trod enc Try.prog W 0 (fun _ => true) true n 41 [c] = some y) (hsz : ∀ k ∈ y.1.weights Try.prog 41, k ≤ reachBytes) :
    ∃ A m cp l, c = .slice A m cp ∧ l.length = m ∧ m ≤ cp ∧ cp ≤ 140737488355328 ∧ Rd W A (iv l) ∧ ∀ k ∈ l, -9223372036854775808 ≤ k ∧ k ≤ 9223372036854775807 := by
  rcases open_ints Try.underlying41 Try.underlying3 cellsInt h with ⟨hcs, hx⟩ | ⟨a, len, cap, zs, hcs, _, hl, hm, hz, hx, hcell, hwz⟩
  · simp only [List.cons.injEq, and_true] at hcs
    exact ⟨none, 0, 0, [], hcs, rfl, Nat.le_refl _, by omega, Rd.nil, fun k hk => by cases hk⟩
  · simp only [List.cons.injEq, and_true] at hcs
    simp only [if_true] at hz
    refine ⟨some a, len, cap, zs.take len, hcs, by rw [List.length_take]; omega, hl, ?_, rd_ints hcell, fun k hk => bounds_i64 (hwz k (List.mem_of_mem_take hk))⟩
    have := hsz (((lits .i64 (zs.take len) : List (DataW H)).length + (lits .i64 (zs.drop len) : List (DataW H)).length) * 8) (by
      subst hx
      simp [DataW.weights, Try.underlying41, bytesInt])
    simp only [lits, List.length_map, List.length_take, List.length_drop, reachBytes] at this
    omega
theorem weights_in {e : TypeId} {d : DataW H} {n : Nat} : ∀ {l : List (DataW H)}, d ∈ l → n ∈ d.weights Try.prog e → n ∈ DataW.weightsAll Try.prog e l := by
  intro l
  induction l with
  | nil => intro h; cases h
  | cons x r ih =>
    intro h hn
    unfold DataW.weightsAll
    cases h with
    | head => exact List.mem_append_left _ hn
    | tail _ h => exact List.mem_append_right _ (ih h hn)
theorem weights_of {ts : List TypeId} {ds : List (DataW H)} (h : (DataW.weightsEach Try.prog ts ds).all (· ≤ reachBytes) = true) {j : Nat} {t : TypeId} {d : DataW H} (ht : ts[j]? = some t) (hd : ds[j]? = some d) : ∀ n ∈ d.weights Try.prog t, n ≤ reachBytes :=
  fun n hn => by simpa using List.all_eq_true.1 h n (DataW.weights_mem_each ht hd n hn)
theorem opFields : oneCellFields Try.prog #[⟨"Kind", 3, 0, false, "", "", 0⟩, ⟨"Name", 9, 1, false, "", "", 8⟩, ⟨"To", 9, 2, false, "", "", 24⟩, ⟨"B", 33, 3, false, "", "", 40⟩, ⟨"N", 3, 4, false, "", "", 64⟩, ⟨"Keeps", 41, 5, false, "", "", 72⟩] = true := by kernel_rfl
theorem cellsOp : Try.prog.cellsOf 43 = 6 := by kernel_rfl
-- one op that came in
set_option maxRecDepth 100000 in
theorem op_open {a : Addr} {cs : List Value} {n : Nat} {x : DataW H × List MemPlace} (hc : W.cells? 0 a 6 = some cs) (h : DataW.trod enc Try.prog W 0 (fun _ => true) true n 43 cs = some x) (hsz : ∀ k ∈ x.1.weights Try.prog 43, k ≤ reachBytes) :
    ∃ (m : OpM) (g p : Nat), a = ⟨g, p, none⟩ ∧ g < W.heap.size ∧ OpCells W g p m ∧ OpAt W (fun _ => False) m.o m.AB m.nB m.cB m.AK m.nK m.cK := by
  obtain ⟨_, hcl, hat⟩ := World.cells?_some hc
  obtain ⟨ys, n', _, hx, hlen, hyl, hf⟩ := DataW.trod_struct Try.underlying43 h
  match cs, hcl with
  | [c0, c1, c2, c3, c4, c5], _ =>
    match ys, hyl with
    | [y0, y1, y2, y3, y4, y5], _ =>
      have w_of : ∀ (j : Nat) (t : TypeId) (y : DataW H), ([3, 9, 9, 33, 3, 41] : List TypeId)[j]? = some t → ([y0.1, y1.1, y2.1, y3.1, y4.1, y5.1] : List (DataW H))[j]? = some y → ∀ k ∈ y.weights Try.prog t, k ≤ reachBytes := fun j t y ht hy k hk =>
        hsz k (by
          rw [hx]
          simp only [DataW.weights, Try.underlying43]
          exact DataW.weights_mem_each (j := j) ht hy k hk)
      have k0 : Try.prog.cellsOf 3 = 1 := (hone_of opFields 0 _ rfl).2
      have k1 : Try.prog.cellsOf 9 = 1 := (hone_of opFields 1 _ rfl).2
      have k3 : Try.prog.cellsOf 33 = 1 := (hone_of opFields 3 _ rfl).2
      have k5 : Try.prog.cellsOf 41 = 1 := (hone_of opFields 5 _ rfl).2
      have f0 : DataW.trod enc Try.prog W 0 (fun _ => true) true n' 3 [c0] = some y0 := by simpa [k0] using hf 0 _ rfl
      have f1 : DataW.trod enc Try.prog W 0 (fun _ => true) true n' 9 [c1] = some y1 := by simpa [k1] using hf 1 _ rfl
      have f2 : DataW.trod enc Try.prog W 0 (fun _ => true) true n' 9 [c2] = some y2 := by simpa [k1] using hf 2 _ rfl
      have f3 : DataW.trod enc Try.prog W 0 (fun _ => true) true n' 33 [c3] = some y3 := by simpa [k3] using hf 3 _ rfl
      have f4 : DataW.trod enc Try.prog W 0 (fun _ => true) true n' 3 [c4] = some y4 := by simpa [k0] using hf 4 _ rfl
      have f5 : DataW.trod enc Try.prog W 0 (fun _ => true) true n' 41 [c5] = some y5 := by simpa [k5] using hf 5 _ rfl
      obtain ⟨z0, e0, _, b0⟩ := DataW.trod_int Try.underlying3 f0
      obtain ⟨s1, e1, _, b1⟩ := DataW.trod_string Try.underlying9 f1
      obtain ⟨s2, e2, _, b2⟩ := DataW.trod_string Try.underlying9 f2
      obtain ⟨A3, m3, p3, l3, rfl, h31, h32, h33, h34⟩ := open_u8 f3 (w_of 3 _ _ rfl rfl)
      obtain ⟨z4, e4, _, b4⟩ := DataW.trod_int Try.underlying3 f4
      obtain ⟨A5, m5, p5, l5, rfl, h51, h52, h53, h54, h55⟩ := open_i64 f5 (w_of 5 _ _ rfl rfl)
      simp only [List.cons.injEq, and_true] at e0 e1 e2 e4
      subst e0 e1 e2 e4
      have c0 := hat 0 (by omega)
      have hz : a.add 0 = a := by unfold Addr.add; split <;> simp_all
      rw [hz] at c0
      obtain ⟨g, p, rfl, hg⟩ := spot_none (c0.trans rfl)
      have at_ : ∀ j, j < 6 → W.cell? ⟨g, p + j, none⟩ = ([.int .i64 z0, .string s1, .string s2, .slice A3 m3 p3, .int .i64 z4, .slice A5 m5 p5] : List Value)[j]? := fun j hj => by rw [← add_none]; exact hat j hj
      exact ⟨⟨⟨z0, s1, s2, l3, z4, l5⟩, A3, m3, p3, A5, m5, p5⟩, g, p, rfl, hg, ⟨at_ 0 (by omega), at_ 1 (by omega), at_ 2 (by omega), at_ 3 (by omega), at_ 4 (by omega), at_ 5 (by omega)⟩,
        ⟨(bounds_i64 b0).1, (bounds_i64 b0).2, b1, b2, h31, Nat.le_trans h32 h33, h34, fun _ _ _ h => h.elim, (bounds_i64 b4).1, (bounds_i64 b4).2, h51, h52, Nat.le_trans h52 h53, h54, fun _ _ _ h => h.elim, h55⟩⟩
-- a script that came in
set_option maxRecDepth 100000 in
theorem script_open {v : Value} {d : DataW H} {p : List MemPlace} {base : Nat} (hv : Value.okWide Try.prog W .any base 22 v) (h : DataW.Trod enc Try.prog W 0 (fun _ => true) true 22 v d p) (hsz : ∀ k ∈ d.weights Try.prog 22, k ≤ reachBytes) :
    ∃ A n c L, v = .slice A n c ∧ L.length = n ∧ Script W A L := by
  obtain ⟨a0, len, cap, rfl⟩ := okWide_slice Try.underlying22 hv
  obtain ⟨fuel, hf⟩ := h
  rcases open_slice Try.underlying22 hf with ⟨hcs, hx⟩ | ⟨a, len', cap', m, n, D, Pl, hcs, _, hl, hm, hmm, hx, hi⟩
  · simp only [Value.cells, List.cons.injEq, Value.slice.injEq, and_true] at hcs
    obtain ⟨rfl, rfl, rfl⟩ := hcs
    exact ⟨none, 0, 0, [], rfl, rfl, fun i m h => by simp at h, fun m h => by cases h⟩
  · simp only [Value.cells, List.cons.injEq, Value.slice.injEq, and_true] at hcs
    obtain ⟨rfl, rfl, rfl⟩ := hcs
    simp only [if_true] at hmm
    simp only [Prod.mk.injEq] at hx
    have each : ∀ i, i < len → ∃ (m : OpM) (g p : Nat), a.add (i * 6) = ⟨g, p, none⟩ ∧ g < W.heap.size ∧ OpCells W g p m ∧ OpAt W (fun _ => False) m.o m.AB m.nB m.cB m.AK m.nK m.cK := fun i hlt => by
      obtain ⟨cs', hc, ht⟩ := hi i (by omega)
      rw [cellsOp] at hc
      refine op_open hc ht fun k hk => hsz k ?_
      rw [hx.1]
      simp only [DataW.weights, Try.underlying22]
      exact List.mem_cons_of_mem _ (List.mem_append_left _ (weights_in (List.mem_map.2 ⟨i, List.mem_range.2 hlt, rfl⟩) hk))
    rcases Nat.eq_zero_or_pos len with h0 | h0
    · subst h0
      exact ⟨some a, 0, cap, [], rfl, rfl, fun i m h => by simp at h, fun m h => by cases h⟩
    · obtain ⟨_, g, p, ha, hg, _⟩ := each 0 h0
      have hz : a.add (0 * 6) = a := by rw [Nat.zero_mul]; unfold Addr.add; split <;> simp_all
      rw [hz] at ha
      subst ha
      have each' : ∀ i : Fin len, ∃ m : OpM, OpCells W g (p + i.1 * 6) m ∧ OpAt W (fun _ => False) m.o m.AB m.nB m.cB m.AK m.nK m.cK := fun i => by
        obtain ⟨m, g', p', ha, _, h1, h2⟩ := each i.1 i.2
        rw [add_none] at ha
        cases ha
        exact ⟨m, h1, h2⟩
      let M : Fin len → OpM := fun i => (each' i).choose
      have hM : ∀ i : Fin len, OpCells W g (p + i.1 * 6) (M i) ∧ OpAt W (fun _ => False) (M i).o (M i).AB (M i).nB (M i).cB (M i).AK (M i).nK (M i).cK := fun i => (each' i).choose_spec
      refine ⟨some ⟨g, p, none⟩, len, cap, List.ofFn M, rfl, by simp, fun i m hm => ?_, fun m hm => ?_⟩
      · obtain ⟨hlt, rfl⟩ := List.getElem?_eq_some_iff.1 hm
        rw [List.length_ofFn] at hlt
        refine ⟨g, p, rfl, hg, ?_⟩
        rw [List.getElem_ofFn]
        exact (hM ⟨i, hlt⟩).1
      · obtain ⟨i, rfl⟩ := List.mem_ofFn.1 hm
        exact (hM i).2
end
end
end Dr
end Go.Proofs.Ytljhedgcpbapdaa
