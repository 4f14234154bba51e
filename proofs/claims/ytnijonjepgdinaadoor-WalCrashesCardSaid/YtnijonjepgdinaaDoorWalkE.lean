/-
  WHAT IS PROVED: the call of awake answers true in whatever memory holds the table, and makes new memory alone. CONDITION: the table lies where it is laid.
-/
import Derived.Test.YtnijonjepgdinaaDoorWalkD
import Derived.Lib.SlBytesConst
namespace Go.Proofs.YtnijonjepgdinaaDoor
open Go Go.RowKit
namespace Fr

theorem enc_300 : enc 300 = [172, 2] := by rw [enc_ge (by omega), enc_lt (by omega)]; rfl
theorem dec_300 : dec [172, 2, 9] = (300, 2) := by
  have h := dec_enc (n := 300) (by omega) [9]
  rw [enc_300] at h
  exact h
theorem seal_nil : sealOf [] = [0, 0, 0, 0, 0] := by
  unfold sealOf
  rw [show ([] : List UInt8).length = 0 from rfl, enc_lt (by omega), show crc [] = 0 by decide]
  rfl
theorem text_ab : textOf [97, 98] = [2, 97, 98] := by
  unfold textOf
  rw [show [(97 : UInt8), 98].length = 2 from rfl, enc_lt (by omega)]
  rfl
def nine : List UInt8 := [49, 50, 51, 52, 53, 54, 55, 56, 57]
theorem crc_nine : crc nine = 3421780262 := by decide +kernel

def Yes (w : World) (e : Ending) (w' : World) : Prop := e = .returned (.bool true) ∧ Below w.heap.size w w'
theorem Yes.mk {w w' : World} (h : Below w.heap.size w w') : Yes w (.returned (.bool true)) w' := ⟨rfl, h⟩

theorem Fseal_nil (w : World) (ht : Tab w) : Calls Tryd.prog 25 #[.slice none 0 0] w fun e w' => ∃ v, e = .returned (.tuple #[v, .int .i64 0]) ∧ Made 5 w w' [0, 0, 0, 0, 0] v := by
  have h := Fseal_yes none 0 0 [] w rfl Rd.nil (by omega) ht
  unfold SealRet at h
  rw [seal_nil] at h
  exact h
theorem Fsum_nine (w : World) (A : Option Addr) (c : Nat) (hr : Rd w A (bv nine)) (ht : Tab w) : Calls Tryd.prog 40 #[.slice A 9 c] w fun e w' => e = .returned (.int .u32 3421780262) ∧ w = w' := by
  have h := Fsum_any A 9 c nine w rfl hr (by omega) ht
  rw [crc_nine] at h
  exact h
theorem rd_nine (w : World) (fr : Nat × Nat) : Rd (w.alloc (.cells #[.int .u8 49, .int .u8 50, .int .u8 51, .int .u8 52, .int .u8 53, .int .u8 54, .int .u8 55, .int .u8 56, .int .u8 57] 5 fr)) (some ⟨w.heap.size, 0, none⟩) (bv nine) :=
  Rd.block w 5 fr #[.int .u8 49, .int .u8 50, .int .u8 51, .int .u8 52, .int .u8 53, .int .u8 54, .int .u8 55, .int .u8 56, .int .u8 57]

end Fr
end Go.Proofs.YtnijonjepgdinaaDoor
