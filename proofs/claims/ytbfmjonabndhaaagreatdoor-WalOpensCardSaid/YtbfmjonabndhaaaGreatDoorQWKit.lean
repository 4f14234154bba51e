/-
  WHAT IS PROVED: (1) small facts on how arguments read: a slice of bytes that came in, opened; the table of half bytes, as the row lists it; the program's plain facts. NO CONDITION beside those that each lemma names. (2) a slice of slices of bytes that came in, opened: the lists of bytes that it reads as, and that each is no longer than its datum. NO CONDITION beside those that each lemma names. (3) what the listed variables hold, as the walks need it; a world for the witnesses. NO CONDITION beside those that each lemma names.
-/
import Derived.Test.YtbfmjonabndhaaaGreatDoorQWalkE
import Derived.Test.YtbfmjonabndhaaaGreatDoorCards
import Derived.Test.YtbfmjonabndhaaaGreatDoorTie
import Derived.ProofKit
import Derived.OpenShut
import Derived.Carry
import Derived.SizedLaws
import Derived.Deep.DeepHandedRow
import Derived.Lib.LaidTab
import Derived.Test.YtbfmjonabndhaaaGreatDoorQWalkH
import Derived.Deep.Matrix
import Derived.Test.YtbfmjonabndhaaaGreatDoorQWNames
import Derived.Stop.LaidErr
namespace Go.Proofs.YtbfmjonabndhaaaGreatDoor
open Go Go.ChangeShapes Go.WideShapes Go.ChangeAt Go.RowKit
namespace Fr

theorem own : ownKnob Tryz.prog.godebug = none := by kernel_rfl
theorem laidOut : laidOutB Tryz.prog = true := by kernel_rfl
theorem gTab : Tryz.prog.globalNamed "convoy/frame.sums" = some 0 := by kernel_rfl
theorem gTabType : (Tryz.prog.globals[0]?).map (·.type) = some 124 := by kernel_rfl
theorem cellsTab : Tryz.prog.cellsOf 124 = 16 := by kernel_rfl
theorem cellsU32 : Tryz.prog.cellsOf 106 = 1 := by kernel_rfl
theorem cellsU8 : Tryz.prog.cellsOf 5 = 1 := by kernel_rfl
theorem bytesU8 : Tryz.prog.bytesOf 5 = 1 := by kernel_rfl

theorem tab_cast : ∀ i, i < 16 → ([0, 498536548, 997073096, 651767980, 1994146192, 1802195444, 1303535960, 1342533948, 3988292384, 4027552580, 3604390888, 3412177804, 2607071920, 2262029012, 2685067896, 3183342108] : List Int).getD i 0 = ((tab[i]?.getD 0 : Nat) : Int) := by decide
def laidList : List (String × DataW Unit) := [("convoy/frame.sums", Rows.laid_convoy_frame_sums)]
/-- The listed table's cells. -/
theorem tab_of {W : World} (h : laidMetH Tryz.prog laidList W) : Tab W := by
  have ht : Lib.TabIs Tryz.prog W "convoy/frame.sums" .u32 [0, 498536548, 997073096, 651767980, 1994146192, 1802195444, 1303535960, 1342533948, 3988292384, 4027552580, 3604390888, 3412177804, 2607071920, 2262029012, 2685067896, 3183342108] :=
    Lib.tabIs_of_head (rest := []) gTab gTabType Tryz.underlying124 Tryz.underlying106 cellsU32 cellsTab h
  refine ⟨World.block_lt_of_cell? W _ (ht.cell gTab 0 (by decide)), fun i hi => ?_⟩
  have hc := ht.cell gTab i (by simpa using hi)
  rw [hc]
  rw [tab_cast i hi]

/-- Numbers that are bytes, as bytes. -/
def u8s (zs : List Int) : List UInt8 := zs.map fun z => UInt8.ofNat z.toNat
theorem u8s_length (zs : List Int) : (u8s zs).length = zs.length := by simp [u8s]

section
variable {H : Type} {enc : TypeId × Value → H} {P : Program} {W : World}
/-- A SLICE OF BYTES THAT CAME IN: its bytes; and its datum, by which its size is known. -/
theorem open_bytes {t e base : Nat} {v : Value} {d : DataW H} {p : List MemPlace} (ht : P.underlying t = some (.slice e)) (he : P.underlying e = some (.int .u8)) (hc : P.cellsOf e = 1)
    (hv : Value.okWide P W .any base t v) (h : DataW.Trod enc P W 0 (fun _ => true) true t v d p) :
    ∃ A n c l, v = .slice A n c ∧ l.length = n ∧ n ≤ c ∧ Rd W A (bv l) ∧ ((d = .nil ∧ c = 0) ∨ ∃ zs : List Int, d = .slice (lits .u8 (zs.take n)) (lits .u8 (zs.drop n)) ∧ zs.length = c) := by
  obtain ⟨a0, len, cap, rfl⟩ := okWide_slice ht hv
  obtain ⟨fuel, hf⟩ := h
  rcases open_ints ht he hc hf with ⟨hcs, hx⟩ | ⟨a, len', cap', zs, hcs, _, hl, hm, hz, hx, hcell, hwz⟩
  · simp only [Value.cells, List.cons.injEq, Value.slice.injEq, and_true] at hcs
    obtain ⟨rfl, rfl, rfl⟩ := hcs
    simp only [Prod.mk.injEq] at hx
    exact ⟨none, 0, 0, [], rfl, rfl, Nat.le_refl _, Rd.nil, .inl ⟨hx.1, rfl⟩⟩
  · simp only [Value.cells, List.cons.injEq, Value.slice.injEq, and_true] at hcs
    obtain ⟨rfl, rfl, rfl⟩ := hcs
    simp only [Prod.mk.injEq] at hx
    simp only [if_true] at hz
    refine ⟨some a, len, cap, u8s (zs.take len), rfl, by rw [u8s_length, List.length_take]; omega, hl, ?_, .inr ⟨zs, hx.1, hz⟩⟩
    intro hne
    have h0 : 0 < len := by
      rcases Nat.eq_zero_or_pos len with h0 | h0
      · subst h0; simp [u8s, bv] at hne
      · exact h0
    obtain ⟨b, off, spot⟩ := a
    have hc0 := hcell 0 (by omega)
    have hspot : spot = none := by simpa [Addr.add] using World.cell?_spot hc0
    subst hspot
    refine ⟨b, off, rfl, ?_, fun i hi => ?_⟩
    · have := World.block_lt_of_cell? W _ hc0
      simpa [Addr.add] using this
    · rw [bv_length, u8s_length, List.length_take] at hi
      have hci := hcell i (by omega)
      have hadd : (⟨b, off, none⟩ : Addr).add i = ⟨b, off + i, none⟩ := by unfold Addr.add; split <;> simp_all
      rw [hadd] at hci
      rw [hci, bv_get (by rw [u8s_length, List.length_take]; omega)]
      have hiz : i < zs.length := by omega
      have hw := hwz (zs[i]) (List.getElem_mem hiz)
      have hrange : 0 ≤ zs[i] ∧ zs[i] ≤ 255 := bounds_u8 hw
      simp only [u8s, List.getElem_map, List.getElem_take, List.getD_eq_getElem?_getD, List.getElem?_eq_getElem hiz, Option.getD_some]
      rw [ofNat_toNat (by omega)]
      congr 2
      omega
/-- AN ARRAY OF FOUR BYTES THAT CAME IN. -/
theorem open_arr4 {t e base : Nat} {v : Value} {d : DataW H} {p : List MemPlace} (ht : P.underlying t = some (.array 4 e)) (he : P.underlying e = some (.int .u8)) (hc : P.cellsOf e = 1) (hct : P.cellsOf t = 4)
    (hv : Value.okWide P W .any base t v) (h : DataW.Trod enc P W 0 (fun _ => true) true t v d p) :
    ∃ t0 t1 t2 t3 : UInt8, v = .agg #[.int .u8 (t0.toNat : Int), .int .u8 (t1.toNat : Int), .int .u8 (t2.toNat : Int), .int .u8 (t3.toNat : Int)] := by
  simp only [Value.okWide, ht] at hv
  obtain ⟨cs, rfl, hsz, _⟩ := hv
  obtain ⟨fuel, hf⟩ := h
  obtain ⟨xs, m, rfl, hx, hl, hxl, hg⟩ := DataW.trod_array ht hf
  rw [hct] at hsz
  obtain ⟨l⟩ := cs
  have hl4 : l.length = 4 := by simpa using hsz
  have key : ∀ i, i < 4 → ∃ b : UInt8, l[i]? = some (.int .u8 (b.toNat : Int)) := by
    intro i hi
    have h1 := hg i hi
    rw [hc, List.getElem?_eq_getElem (by omega : i < xs.length)] at h1
    obtain ⟨n, hn, _, hw⟩ := DataW.trod_int he h1
    have hb := bounds_u8 hw
    have h2 : (Value.cells (.agg ⟨l⟩)).toList = l := rfl
    rw [h2, Nat.mul_one] at hn
    refine ⟨UInt8.ofNat n.toNat, ?_⟩
    have h3 : ((l.drop i).take 1)[0]? = some (.int .u8 n) := by rw [hn]; rfl
    rw [List.getElem?_take_of_lt (by omega), List.getElem?_drop, Nat.add_zero] at h3
    rw [h3, ofNat_toNat (by omega)]
    congr 2
    omega
  obtain ⟨b0, h0⟩ := key 0 (by omega)
  obtain ⟨b1, h1⟩ := key 1 (by omega)
  obtain ⟨b2, h2⟩ := key 2 (by omega)
  obtain ⟨b3, h3⟩ := key 3 (by omega)
  refine ⟨b0, b1, b2, b3, ?_⟩
  match l, hl4, h0, h1, h2, h3 with
  | [x0, x1, x2, x3], _, h0, h1, h2, h3 =>
    simp at h0 h1 h2 h3
    subst h0 h1 h2 h3
    rfl
end
/-- A WORLD FOR THE WITNESSES: the settled one, the table holding what its initialiser lays. -/
noncomputable def laidWorld (os : Os) : World :=
  { World.holding Tryz.prog os ⟨#[], #[], []⟩ with heap := (World.holding Tryz.prog os ⟨#[], #[], []⟩).heap.modify 0 fun
      | .cells _ t frozen => .cells (tab.toArray.map fun (x : Nat) => Value.int .u32 (x : Int)) t frozen
      | o => o }
theorem bulk_lits {H : Type} (k : IntKind) (zs : List Int) : Rows.uptoBulkAll (H := H) (lits k zs) = zs.length := by
  induction zs with
  | nil => rfl
  | cons z r ih =>
    show Rows.uptoBulk (H := H) (.lit (.int k z)) + Rows.uptoBulkAll (lits k r) = r.length + 1
    rw [ih]
    simp only [Rows.uptoBulk]
    omega
theorem bulk_slice {H : Type} (k : IntKind) (xs ys : List Int) : Rows.uptoBulk (H := H) (.slice (lits k xs) (lits k ys)) = xs.length + ys.length + 1 := by
  simp only [Rows.uptoBulk, bulk_lits]
end Fr
end Go.Proofs.YtbfmjonabndhaaaGreatDoor
namespace Go.Proofs.YtbfmjonabndhaaaGreatDoor
open Go Go.ChangeShapes Go.WideShapes Go.ChangeAt Go.RowKit
namespace Fr

section
variable {H : Type} {enc : TypeId × Value → H} {P : Program} {W : World}
/-- Numbers at an address, as the bytes that they are. -/
theorem rd_bytes {a : Addr} {zs : List Int} {n c : Nat} (hn : n ≤ c) (hz : zs.length = c) (hw : ∀ z ∈ zs, (Lit.int .u8 z).wf = true) (hc : ∀ i, i < c → W.cell? (a.add i) = some (.int .u8 (zs.getD i 0))) : Rd W (some a) (bv (u8s (zs.take n))) := by
  intro hne
  have h0 : 0 < n := by
    rcases Nat.eq_zero_or_pos n with h0 | h0
    · subst h0; simp [u8s, bv] at hne
    · exact h0
  obtain ⟨b, off, spot⟩ := a
  have hc0 := hc 0 (by omega)
  have hspot : spot = none := by simpa [Addr.add] using World.cell?_spot hc0
  subst hspot
  refine ⟨b, off, rfl, ?_, fun i hi => ?_⟩
  · have := World.block_lt_of_cell? W _ hc0
    simpa [Addr.add] using this
  · rw [bv_length, u8s_length, List.length_take] at hi
    have hci := hc i (by omega)
    have hadd : (⟨b, off, none⟩ : Addr).add i = ⟨b, off + i, none⟩ := by unfold Addr.add; split <;> simp_all
    rw [hadd] at hci
    rw [hci, bv_get (by rw [u8s_length, List.length_take]; omega)]
    have hiz : i < zs.length := by omega
    have hrange : 0 ≤ zs[i] ∧ zs[i] ≤ 255 := bounds_u8 (hw (zs[i]) (List.getElem_mem hiz))
    simp only [u8s, List.getElem_map, List.getElem_take, List.getD_eq_getElem?_getD, List.getElem?_eq_getElem hiz, Option.getD_some]
    rw [ofNat_toNat (by omega)]
    congr 2
    omega
/-- A SLICE OF SLICES OF BYTES THAT CAME IN. -/
theorem open_list {t e q base : Nat} {v : Value} {d : DataW H} {p : List MemPlace} (ht : P.underlying t = some (.slice e)) (he : P.underlying e = some (.slice q)) (hq : P.underlying q = some (.int .u8)) (ce : P.cellsOf e = 1) (cq : P.cellsOf q = 1)
    (hv : Value.okWide P W .any base t v) (h : DataW.Trod enc P W 0 (fun _ => true) true t v d p) :
    ∃ A n c vs ls, v = .slice A n c ∧ ls.length = n ∧ n ≤ c ∧ Rd W A vs ∧ RdL W vs ls ∧ ∀ l ∈ ls, l = [] ∨ ∃ (elems spare : List (DataW H)) (x y : List Int), d = .slice elems spare ∧ .slice (lits .u8 x) (lits .u8 y) ∈ elems ∧ l.length = x.length := by
  obtain ⟨a0, len, cap, rfl⟩ := okWide_slice ht hv
  obtain ⟨fuel, hf⟩ := h
  rcases Deep.open_int_rows ht he hq ce cq hf with ⟨hcs, hx⟩ | ⟨a, len', cap', A, L, C, Z, hcs, _, hl, _, hx, hrow⟩
  · simp only [Value.cells, List.cons.injEq, Value.slice.injEq, and_true] at hcs
    obtain ⟨rfl, rfl, rfl⟩ := hcs
    exact ⟨none, 0, 0, [], [], rfl, rfl, Nat.le_refl _, Rd.nil, ⟨rfl, fun i v l h => by simp at h⟩, fun l hl => by simp at hl⟩
  · simp only [Value.cells, List.cons.injEq, Value.slice.injEq, and_true] at hcs
    obtain ⟨rfl, rfl, rfl⟩ := hcs
    simp only [Prod.mk.injEq] at hx
    refine ⟨some a, len, cap, (List.range len).map fun r => .slice (A r) (L r) (C r), (List.range len).map fun r => u8s ((Z r).take (L r)), rfl, by simp, hl, ?_, ⟨by simp, ?_⟩, ?_⟩
    · intro hne
      have h0 : 0 < len := by
        rcases Nat.eq_zero_or_pos len with h0 | h0
        · subst h0; simp at hne
        · exact h0
      obtain ⟨b, off, spot⟩ := a
      have hc0 := (hrow 0 (by omega)).1
      have hspot : spot = none := by simpa [Addr.add] using World.cell?_spot hc0
      subst hspot
      refine ⟨b, off, rfl, ?_, fun i hi => ?_⟩
      · have := World.block_lt_of_cell? W _ hc0
        simpa [Addr.add] using this
      · simp only [List.length_map, List.length_range] at hi
        have hci := (hrow i (by omega)).1
        have hadd : (⟨b, off, none⟩ : Addr).add i = ⟨b, off + i, none⟩ := by unfold Addr.add; split <;> simp_all
        rw [hadd] at hci
        rw [hci]
        simp
    · intro i v l hv hl'
      by_cases hi : i < len
      · rw [List.getElem?_map, List.getElem?_range hi] at hv hl'
        simp only [Option.map_some, Option.some.injEq] at hv hl'
        subst hv hl'
        obtain ⟨_, r1, _, r3, r4, r5, r6⟩ := hrow i (by omega)
        refine ⟨A i, L i, C i, rfl, by rw [u8s_length, List.length_take, r3]; omega, r1, ?_⟩
        cases hA : A i with
        | none =>
          have h0 : L i = 0 := by have := r5 hA; omega
          rw [h0]
          exact Rd.nil
        | some a' => exact rd_bytes r1 r3 r4 (r6 a' hA).2
      · rw [List.getElem?_eq_none (by simp; omega)] at hv
        cases hv
    · intro l hl'
      simp only [List.mem_map, List.mem_range] at hl'
      obtain ⟨r, hr, rfl⟩ := hl'
      obtain ⟨_, r1, _, r3, r4, r5, r6⟩ := hrow r (by omega)
      cases hA : A r with
      | none =>
        left
        have h0 : L r = 0 := by have := r5 hA; omega
        rw [h0]; rfl
      | some a' =>
        right
        refine ⟨_, _, (Z r).take (L r), (Z r).drop (L r), hx.1, ?_, u8s_length _⟩
        refine List.mem_map.2 ⟨r, List.mem_range.2 hr, ?_⟩
        simp only [Deep.intRow, hA]
end
/-- The weights of a list of data have all of each one's. -/
theorem weights_in {H : Type} {P : Program} {e : TypeId} {d : DataW H} {n : Nat} : ∀ {l : List (DataW H)}, d ∈ l → n ∈ d.weights P e → n ∈ DataW.weightsAll P e l := by
  intro l
  induction l with
  | nil => intro h; cases h
  | cons x r ih =>
    intro h hn
    unfold DataW.weightsAll
    cases h with
    | head => exact List.mem_append_left _ hn
    | tail _ h => exact List.mem_append_right _ (ih h hn)
/-- A row's own size, where the whole argument's is bounded. -/
theorem row_sized {H : Type} {P : Program} {ts : List TypeId} {ds : List (DataW H)} (h : (DataW.weightsEach P ts ds).all (· ≤ reachBytes) = true) {j : Nat} {t e q : TypeId} {elems spare x y : List (DataW H)}
    (ht : ts[j]? = some t) (hd : ds[j]? = some (.slice elems spare)) (hu : P.underlying t = some (.slice e)) (hu2 : P.underlying e = some (.slice q)) (hx : DataW.slice x y ∈ elems) : (x.length + y.length) * P.bytesOf q ≤ reachBytes := by
  have key : (x.length + y.length) * P.bytesOf q ∈ DataW.weightsEach P ts ds := by
    refine DataW.weights_mem_each ht hd _ ?_
    simp only [DataW.weights, hu]
    refine List.mem_cons_of_mem _ (List.mem_append_left _ (weights_in hx ?_))
    simp only [DataW.weights, hu2]
    exact List.mem_cons_self
  simpa using List.all_eq_true.1 h _ key
theorem cellsSl : Tryz.prog.cellsOf 28 = 1 := by kernel_rfl
end Fr
end Go.Proofs.YtbfmjonabndhaaaGreatDoor
namespace Go.Proofs.YtbfmjonabndhaaaGreatDoor
open Go Go.ChangeShapes Go.WideShapes Go.ChangeAt Go.RowKit
namespace Wl

theorem gPow : Tryz.prog.globalNamed "internal/strconv.uint64pow10" = some 3 := by kernel_rfl
theorem gPowType : (Tryz.prog.globals[3]?).map (·.type) = some 167 := by kernel_rfl
theorem cellsPow : Tryz.prog.cellsOf 167 = 20 := by kernel_rfl
theorem cellsU64 : Tryz.prog.cellsOf 105 = 1 := by kernel_rfl
theorem gRng : Tryz.prog.globalNamed "strconv.ErrRange" = some 2 := by kernel_rfl
theorem gRngType : (Tryz.prog.globals[2]?).map (·.type) = some 116 := by kernel_rfl
theorem gSyn : Tryz.prog.globalNamed "strconv.ErrSyntax" = some 1 := by kernel_rfl
theorem gSynType : (Tryz.prog.globals[1]?).map (·.type) = some 116 := by kernel_rfl
theorem starErr : "*" ++ "errors.errorString" = "*errors.errorString" := by decide
theorem rowErr (u : TypeId) (h : Tryz.prog.typeName? 3 u = some "*errors.errorString") : u = 175 :=
  typeName_ptr_named (nm := "errors.errorString") (by rw [starErr]; kernel_rfl) (by kernel_rfl) (by decide) u (by rw [starErr]; exact h)
theorem cellsES : Tryz.prog.cellsOf 177 = 1 := by kernel_rfl
theorem cellsStr : Tryz.prog.cellsOf 9 = 1 := by kernel_rfl
def laidList6 : List (String × DataW Unit) := [("math/bits.deBruijn32tab", Rows.laid_math_bits_deBruijn32tab), ("math/bits.deBruijn64tab", Rows.laid_math_bits_deBruijn64tab), ("internal/strconv.uint64pow10", Rows.laid_internal_strconv_uint64pow10), ("strconv.ErrRange", Rows.laid_strconv_ErrRange), ("strconv.ErrSyntax", Rows.laid_strconv_ErrSyntax), ("convoy/frame.sums", Rows.laid_convoy_frame_sums)]
theorem met6 {W : World} (h : laidMetH Tryz.prog laidList6 W) : laidMet Tryz.prog laidList6 W := h
set_option maxRecDepth 100000 in
/-- What the library and the frames read. -/
theorem lb_of {W : World} (h : laidMetH Tryz.prog laidList6 W) : Lb 4 W := by
  have h0 := met6 h
  have hp : Lib.TabIs Tryz.prog W "internal/strconv.uint64pow10" .u64 [1, 10, 100, 1000, 10000, 100000, 1000000, 10000000, 100000000, 1000000000, 10000000000, 100000000000, 1000000000000, 10000000000000, 100000000000000, 1000000000000000, 10000000000000000, 100000000000000000, 1000000000000000000, 10000000000000000000] :=
    Lib.tabIs_of_head gPow gPowType Tryz.underlying167 Tryz.underlying105 cellsU64 cellsPow h0.tail.tail
  obtain ⟨a0, s0, hv0, -, -, -⟩ := laid_sentinel h0.tail.tail.tail gRng gRngType Tryz.underlying116 rowErr Tryz.underlying175 Tryz.underlying177 rfl rfl Tryz.underlying9 cellsES cellsStr
  obtain ⟨a1, s1, hv1, -, -, -⟩ := laid_sentinel h0.tail.tail.tail.tail gSyn gSynType Tryz.underlying116 rowErr Tryz.underlying175 Tryz.underlying177 rfl rfl Tryz.underlying9 cellsES cellsStr
  have ht : Fr.Tab W := Fr.tab_of (show laidMetH Tryz.prog Fr.laidList W from h0.tail.tail.tail.tail.tail)
  have hb := World.block_lt_of_cell? W _ (hp.cell gPow 0 (by decide))
  exact ⟨hb, ⟨⟨_, gPow, by decide⟩, hp⟩, ⟨_, _, ⟨_, gSyn, by decide⟩, hv1⟩, ⟨_, _, ⟨_, gRng, by decide⟩, hv0⟩, by decide, ht⟩

def rangeS : ByteArray := { data := #[118, 97, 108, 117, 101, 32, 111, 117, 116, 32, 111, 102, 32, 114, 97, 110, 103, 101] }
def syntaxS : ByteArray := { data := #[105, 110, 118, 97, 108, 105, 100, 32, 115, 121, 110, 116, 97, 120] }
def tab32 : List Int := [0, 1, 28, 2, 29, 14, 24, 3, 30, 22, 20, 15, 25, 17, 4, 8, 31, 27, 13, 23, 21, 19, 16, 7, 26, 12, 18, 6, 11, 5, 10, 9]
def tab64 : List Int := [0, 1, 56, 2, 57, 49, 28, 3, 61, 58, 42, 50, 38, 29, 17, 4, 62, 47, 59, 36, 45, 43, 51, 22, 53, 39, 33, 30, 24, 18, 12, 5, 63, 55, 48, 27, 60, 41, 37, 16, 46, 35, 44, 21, 52, 32, 23, 11, 54, 26, 40, 15, 34, 20, 31, 10, 25, 14, 19, 9, 13, 8, 7, 6]
noncomputable def low : Nat := (World.holding Tryz.prog default ⟨#[], #[], []⟩).heap.size
def fill (cs : Array Value) : Obj → Obj
  | .cells _ t frozen => .cells cs t frozen
  | o => o
/-- A WORLD FOR THE WITNESSES: the settled one, each listed variable holding what its initialiser lays. -/
noncomputable def laidWorld6 (os : Os) : World :=
  let w0 := World.holding Tryz.prog os ⟨#[.cells #[.string rangeS] 177, .cells #[.string syntaxS] 177], #[], []⟩
  { w0 with heap := (((((w0.heap.modify 0 (fill (Fr.tab.toArray.map fun (x : Nat) => Value.int .u32 (x : Int)))).modify 1 (fill #[.iface 175 (.pointer (some ⟨low + 1, 0, none⟩))])).modify 2 (fill #[.iface 175 (.pointer (some ⟨low, 0, none⟩))])).modify 3 (fill (Lib.pow10Tab.toArray.map fun z => Value.int .u64 z))).modify 4 (fill (tab32.toArray.map fun z => Value.int .u8 z))).modify 5 (fill (tab64.toArray.map fun z => Value.int .u8 z)) }
end Wl
end Go.Proofs.YtbfmjonabndhaaaGreatDoor
