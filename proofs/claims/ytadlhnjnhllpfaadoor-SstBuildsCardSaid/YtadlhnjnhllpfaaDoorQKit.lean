/-
  WHAT IS PROVED: (1) small facts on how arguments read: a slice of bytes that came in, opened; the table of half bytes, as the row lists it; the program's plain facts. NO CONDITION beside those that each lemma names.
-/
import Derived.Test.YtadlhnjnhllpfaaDoorQWalkE
import Derived.Test.YtadlhnjnhllpfaaDoorCards
import Derived.Test.YtadlhnjnhllpfaaDoorTie
import Derived.ProofKit
import Derived.OpenShut
import Derived.Carry
import Derived.SizedLaws
import Derived.Deep.DeepHandedRow
import Derived.Lib.LaidTab
namespace Go.Proofs.YtadlhnjnhllpfaaDoor
open Go Go.ChangeShapes Go.WideShapes Go.ChangeAt Go.RowKit
namespace Fr

theorem own : ownKnob Tryd.prog.godebug = none := by kernel_rfl
theorem laidOut : laidOutB Tryd.prog = true := by kernel_rfl
theorem gTab : Tryd.prog.globalNamed "convoy/frame.sums" = some 1 := by kernel_rfl
theorem gTabType : (Tryd.prog.globals[1]?).map (·.type) = some 116 := by kernel_rfl
theorem cellsTab : Tryd.prog.cellsOf 116 = 16 := by kernel_rfl
theorem cellsU32 : Tryd.prog.cellsOf 91 = 1 := by kernel_rfl
theorem cellsU8 : Tryd.prog.cellsOf 5 = 1 := by kernel_rfl
theorem bytesU8 : Tryd.prog.bytesOf 5 = 1 := by kernel_rfl

theorem tab_cast : ∀ i, i < 16 → ([0, 498536548, 997073096, 651767980, 1994146192, 1802195444, 1303535960, 1342533948, 3988292384, 4027552580, 3604390888, 3412177804, 2607071920, 2262029012, 2685067896, 3183342108] : List Int).getD i 0 = ((tab[i]?.getD 0 : Nat) : Int) := by decide
def laidList : List (String × DataW Unit) := [("convoy/frame.sums", Rows.laid_convoy_frame_sums)]
/-- The listed table's cells. -/
theorem tab_of {W : World} (h : laidMetH Tryd.prog laidList W) : Tab W := by
  have ht : Lib.TabIs Tryd.prog W "convoy/frame.sums" .u32 [0, 498536548, 997073096, 651767980, 1994146192, 1802195444, 1303535960, 1342533948, 3988292384, 4027552580, 3604390888, 3412177804, 2607071920, 2262029012, 2685067896, 3183342108] :=
    Lib.tabIs_of_head (rest := []) gTab gTabType Tryd.underlying116 Tryd.underlying91 cellsU32 cellsTab h
  refine ⟨World.block_lt_of_cell? W _ (ht.cell gTab 0 (by decide)), fun i hi => ?_⟩
  have hc := ht.cell gTab i (by simpa using hi)
  rw [hc]
  rw [tab_cast i hi]

/-- Numbers that are bytes, as bytes. -/
def u8s (zs : List Int) : List UInt8 := zs.map fun z => UInt8.ofNat z.toNat
theorem u8s_length (zs : List Int) : (u8s zs).length = zs.length := by simp [u8s]

section
variable {H : Type} {enc : TypeId × Value → H} {P : Program} {W : World}
/-- A SLICE OF BYTES THAT CAME IN: its bytes; and its datum, by which its size is known. -/
theorem open_bytes {t e base : Nat} {v : Value} {d : DataW H} {p : List MemPlace} (ht : P.underlying t = some (.slice e)) (he : P.underlying e = some (.int .u8)) (hc : P.cellsOf e = 1)
    (hv : Value.okWide P W .any base t v) (h : DataW.Trod enc P W 0 (fun _ => true) true t v d p) :
    ∃ A n c l, v = .slice A n c ∧ l.length = n ∧ n ≤ c ∧ Rd W A (bv l) ∧ ((d = .nil ∧ c = 0) ∨ ∃ zs : List Int, d = .slice (lits .u8 (zs.take n)) (lits .u8 (zs.drop n)) ∧ zs.length = c) := by
  obtain ⟨a0, len, cap, rfl⟩ := okWide_slice ht hv
  obtain ⟨fuel, hf⟩ := h
  rcases open_ints ht he hc hf with ⟨hcs, hx⟩ | ⟨a, len', cap', zs, hcs, _, hl, hm, hz, hx, hcell, hwz⟩
  · simp only [Value.cells, List.cons.injEq, Value.slice.injEq, and_true] at hcs
    obtain ⟨rfl, rfl, rfl⟩ := hcs
    simp only [Prod.mk.injEq] at hx
    exact ⟨none, 0, 0, [], rfl, rfl, Nat.le_refl _, Rd.nil, .inl ⟨hx.1, rfl⟩⟩
  · simp only [Value.cells, List.cons.injEq, Value.slice.injEq, and_true] at hcs
    obtain ⟨rfl, rfl, rfl⟩ := hcs
    simp only [Prod.mk.injEq] at hx
    simp only [if_true] at hz
    refine ⟨some a, len, cap, u8s (zs.take len), rfl, by rw [u8s_length, List.length_take]; omega, hl, ?_, .inr ⟨zs, hx.1, hz⟩⟩
    intro hne
    have h0 : 0 < len := by
      rcases Nat.eq_zero_or_pos len with h0 | h0
      · subst h0; simp [u8s, bv] at hne
      · exact h0
    obtain ⟨b, off, spot⟩ := a
    have hc0 := hcell 0 (by omega)
    have hspot : spot = none := by simpa [Addr.add] using World.cell?_spot hc0
    subst hspot
    refine ⟨b, off, rfl, ?_, fun i hi => ?_⟩
    · have := World.block_lt_of_cell? W _ hc0
      simpa [Addr.add] using this
    · rw [bv_length, u8s_length, List.length_take] at hi
      have hci := hcell i (by omega)
      have hadd : (⟨b, off, none⟩ : Addr).add i = ⟨b, off + i, none⟩ := by unfold Addr.add; split <;> simp_all
      rw [hadd] at hci
      rw [hci, bv_get (by rw [u8s_length, List.length_take]; omega)]
      have hiz : i < zs.length := by omega
      have hw := hwz (zs[i]) (List.getElem_mem hiz)
      have hrange : 0 ≤ zs[i] ∧ zs[i] ≤ 255 := bounds_u8 hw
      simp only [u8s, List.getElem_map, List.getElem_take, List.getD_eq_getElem?_getD, List.getElem?_eq_getElem hiz, Option.getD_some]
      rw [ofNat_toNat (by omega)]
      congr 2
      omega
/-- AN ARRAY OF FOUR BYTES THAT CAME IN. -/
theorem open_arr4 {t e base : Nat} {v : Value} {d : DataW H} {p : List MemPlace} (ht : P.underlying t = some (.array 4 e)) (he : P.underlying e = some (.int .u8)) (hc : P.cellsOf e = 1) (hct : P.cellsOf t = 4)
    (hv : Value.okWide P W .any base t v) (h : DataW.Trod enc P W 0 (fun _ => true) true t v d p) :
    ∃ t0 t1 t2 t3 : UInt8, v = .agg #[.int .u8 (t0.toNat : Int), .int .u8 (t1.toNat : Int), .int .u8 (t2.toNat : Int), .int .u8 (t3.toNat : Int)] := by
  simp only [Value.okWide, ht] at hv
  obtain ⟨cs, rfl, hsz, _⟩ := hv
  obtain ⟨fuel, hf⟩ := h
  obtain ⟨xs, m, rfl, hx, hl, hxl, hg⟩ := DataW.trod_array ht hf
  rw [hct] at hsz
  obtain ⟨l⟩ := cs
  have hl4 : l.length = 4 := by simpa using hsz
  have key : ∀ i, i < 4 → ∃ b : UInt8, l[i]? = some (.int .u8 (b.toNat : Int)) := by
    intro i hi
    have h1 := hg i hi
    rw [hc, List.getElem?_eq_getElem (by omega : i < xs.length)] at h1
    obtain ⟨n, hn, _, hw⟩ := DataW.trod_int he h1
    have hb := bounds_u8 hw
    have h2 : (Value.cells (.agg ⟨l⟩)).toList = l := rfl
    rw [h2, Nat.mul_one] at hn
    refine ⟨UInt8.ofNat n.toNat, ?_⟩
    have h3 : ((l.drop i).take 1)[0]? = some (.int .u8 n) := by rw [hn]; rfl
    rw [List.getElem?_take_of_lt (by omega), List.getElem?_drop, Nat.add_zero] at h3
    rw [h3, ofNat_toNat (by omega)]
    congr 2
    omega
  obtain ⟨b0, h0⟩ := key 0 (by omega)
  obtain ⟨b1, h1⟩ := key 1 (by omega)
  obtain ⟨b2, h2⟩ := key 2 (by omega)
  obtain ⟨b3, h3⟩ := key 3 (by omega)
  refine ⟨b0, b1, b2, b3, ?_⟩
  match l, hl4, h0, h1, h2, h3 with
  | [x0, x1, x2, x3], _, h0, h1, h2, h3 =>
    simp at h0 h1 h2 h3
    subst h0 h1 h2 h3
    rfl
end
/-- A WORLD FOR THE WITNESSES: the settled one, the table holding what its initialiser lays. -/
noncomputable def laidWorld (os : Os) : World :=
  { World.holding Tryd.prog os ⟨#[], #[], []⟩ with heap := (World.holding Tryd.prog os ⟨#[], #[], []⟩).heap.modify 1 fun
      | .cells _ t frozen => .cells (tab.toArray.map fun (x : Nat) => Value.int .u32 (x : Int)) t frozen
      | o => o }
theorem bulk_lits {H : Type} (k : IntKind) (zs : List Int) : Rows.uptoBulkAll (H := H) (lits k zs) = zs.length := by
  induction zs with
  | nil => rfl
  | cons z r ih =>
    show Rows.uptoBulk (H := H) (.lit (.int k z)) + Rows.uptoBulkAll (lits k r) = r.length + 1
    rw [ih]
    simp only [Rows.uptoBulk]
    omega
theorem bulk_slice {H : Type} (k : IntKind) (xs ys : List Int) : Rows.uptoBulk (H := H) (.slice (lits k xs) (lits k ys)) = xs.length + ys.length + 1 := by
  simp only [Rows.uptoBulk, bulk_lits]
end Fr
end Go.Proofs.YtadlhnjnhllpfaaDoor
