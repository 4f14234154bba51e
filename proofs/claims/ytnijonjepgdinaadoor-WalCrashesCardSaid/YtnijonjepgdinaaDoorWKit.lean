/-
  WHAT IS PROVED: what the listed variables hold, as the walks need it; a world for the witnesses. NO CONDITION beside those that each lemma names.
-/
import Derived.Test.YtnijonjepgdinaaDoorWNames
import Derived.Test.YtnijonjepgdinaaDoorKit
import Derived.Test.YtnijonjepgdinaaDoorKitL
import Derived.Stop.LaidErr
namespace Go.Proofs.YtnijonjepgdinaaDoor
open Go Go.ChangeShapes Go.WideShapes Go.ChangeAt Go.RowKit
namespace Wl

theorem gPow : Tryd.prog.globalNamed "internal/strconv.uint64pow10" = some 3 := by kernel_rfl
theorem gPowType : (Tryd.prog.globals[3]?).map (·.type) = some 137 := by kernel_rfl
theorem cellsPow : Tryd.prog.cellsOf 137 = 20 := by kernel_rfl
theorem cellsU64 : Tryd.prog.cellsOf 78 = 1 := by kernel_rfl
theorem gRng : Tryd.prog.globalNamed "strconv.ErrRange" = some 2 := by kernel_rfl
theorem gRngType : (Tryd.prog.globals[2]?).map (·.type) = some 85 := by kernel_rfl
theorem gSyn : Tryd.prog.globalNamed "strconv.ErrSyntax" = some 1 := by kernel_rfl
theorem gSynType : (Tryd.prog.globals[1]?).map (·.type) = some 85 := by kernel_rfl
theorem starErr : "*" ++ "errors.errorString" = "*errors.errorString" := by decide
theorem rowErr (u : TypeId) (h : Tryd.prog.typeName? 3 u = some "*errors.errorString") : u = 142 :=
  typeName_ptr_named (nm := "errors.errorString") (by rw [starErr]; kernel_rfl) (by kernel_rfl) (by decide) u (by rw [starErr]; exact h)
theorem cellsES : Tryd.prog.cellsOf 144 = 1 := by kernel_rfl
theorem cellsStr : Tryd.prog.cellsOf 9 = 1 := by kernel_rfl
def laidList6 : List (String × DataW Unit) := [("math/bits.deBruijn32tab", Rows.laid_math_bits_deBruijn32tab), ("math/bits.deBruijn64tab", Rows.laid_math_bits_deBruijn64tab), ("internal/strconv.uint64pow10", Rows.laid_internal_strconv_uint64pow10), ("strconv.ErrRange", Rows.laid_strconv_ErrRange), ("strconv.ErrSyntax", Rows.laid_strconv_ErrSyntax), ("convoy/frame.sums", Rows.laid_convoy_frame_sums)]
theorem met6 {W : World} (h : laidMetH Tryd.prog laidList6 W) : laidMet Tryd.prog laidList6 W := h
set_option maxRecDepth 100000 in
/-- What the library and the frames read. -/
theorem lb_of {W : World} (h : laidMetH Tryd.prog laidList6 W) : Lb 4 W := by
  have h0 := met6 h
  have hp : Lib.TabIs Tryd.prog W "internal/strconv.uint64pow10" .u64 [1, 10, 100, 1000, 10000, 100000, 1000000, 10000000, 100000000, 1000000000, 10000000000, 100000000000, 1000000000000, 10000000000000, 100000000000000, 1000000000000000, 10000000000000000, 100000000000000000, 1000000000000000000, 10000000000000000000] :=
    Lib.tabIs_of_head gPow gPowType Tryd.underlying137 Tryd.underlying78 cellsU64 cellsPow h0.tail.tail
  obtain ⟨a0, s0, hv0, -, -, -⟩ := laid_sentinel h0.tail.tail.tail gRng gRngType Tryd.underlying85 rowErr Tryd.underlying142 Tryd.underlying144 rfl rfl Tryd.underlying9 cellsES cellsStr
  obtain ⟨a1, s1, hv1, -, -, -⟩ := laid_sentinel h0.tail.tail.tail.tail gSyn gSynType Tryd.underlying85 rowErr Tryd.underlying142 Tryd.underlying144 rfl rfl Tryd.underlying9 cellsES cellsStr
  have ht : Fr.Tab W := Fr.tab_of (show laidMetH Tryd.prog Fr.laidList W from h0.tail.tail.tail.tail.tail)
  have hb := World.block_lt_of_cell? W _ (hp.cell gPow 0 (by decide))
  exact ⟨hb, ⟨⟨_, gPow, by decide⟩, hp⟩, ⟨_, _, ⟨_, gSyn, by decide⟩, hv1⟩, ⟨_, _, ⟨_, gRng, by decide⟩, hv0⟩, by decide, ht⟩

def rangeS : ByteArray := { data := #[118, 97, 108, 117, 101, 32, 111, 117, 116, 32, 111, 102, 32, 114, 97, 110, 103, 101] }
def syntaxS : ByteArray := { data := #[105, 110, 118, 97, 108, 105, 100, 32, 115, 121, 110, 116, 97, 120] }
def tab32 : List Int := [0, 1, 28, 2, 29, 14, 24, 3, 30, 22, 20, 15, 25, 17, 4, 8, 31, 27, 13, 23, 21, 19, 16, 7, 26, 12, 18, 6, 11, 5, 10, 9]
def tab64 : List Int := [0, 1, 56, 2, 57, 49, 28, 3, 61, 58, 42, 50, 38, 29, 17, 4, 62, 47, 59, 36, 45, 43, 51, 22, 53, 39, 33, 30, 24, 18, 12, 5, 63, 55, 48, 27, 60, 41, 37, 16, 46, 35, 44, 21, 52, 32, 23, 11, 54, 26, 40, 15, 34, 20, 31, 10, 25, 14, 19, 9, 13, 8, 7, 6]
noncomputable def low : Nat := (World.holding Tryd.prog default ⟨#[], #[], []⟩).heap.size
def fill (cs : Array Value) : Obj → Obj
  | .cells _ t frozen => .cells cs t frozen
  | o => o
/-- A WORLD FOR THE WITNESSES: the settled one, each listed variable holding what its initialiser lays. -/
noncomputable def laidWorld6 (os : Os) : World :=
  let w0 := World.holding Tryd.prog os ⟨#[.cells #[.string rangeS] 144, .cells #[.string syntaxS] 144], #[], []⟩
  { w0 with heap := (((((w0.heap.modify 0 (fill (Fr.tab.toArray.map fun (x : Nat) => Value.int .u32 (x : Int)))).modify 1 (fill #[.iface 142 (.pointer (some ⟨low + 1, 0, none⟩))])).modify 2 (fill #[.iface 142 (.pointer (some ⟨low, 0, none⟩))])).modify 3 (fill (Lib.pow10Tab.toArray.map fun z => Value.int .u64 z))).modify 4 (fill (tab32.toArray.map fun z => Value.int .u8 z))).modify 5 (fill (tab64.toArray.map fun z => Value.int .u8 z)) }
end Wl
end Go.Proofs.YtnijonjepgdinaaDoor
