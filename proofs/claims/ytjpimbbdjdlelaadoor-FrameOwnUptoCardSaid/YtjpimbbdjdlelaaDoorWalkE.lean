/-
  WHAT IS PROVED: the call of awake answers true in whatever memory holds the table, and makes new memory alone. CONDITION: the table lies where it is laid.
-/
import Derived.Test.YtjpimbbdjdlelaaDoorWalkD
import Derived.Lib.SlBytesConst
namespace Go.Proofs.YtjpimbbdjdlelaaDoor
open Go Go.RowKit
namespace Fr

theorem enc_300 : enc 300 = [172, 2] := by rw [enc_ge (by omega), enc_lt (by omega)]; rfl
theorem dec_300 : dec [172, 2, 9] = (300, 2) := by
  have h := dec_enc (n := 300) (by omega) [9]
  rw [enc_300] at h
  exact h
theorem seal_nil : sealOf [] = [0, 0, 0, 0, 0] := by
  unfold sealOf
  rw [show ([] : List UInt8).length = 0 from rfl, enc_lt (by omega), show crc [] = 0 by decide]
  rfl
theorem text_ab : textOf [97, 98] = [2, 97, 98] := by
  unfold textOf
  rw [show [(97 : UInt8), 98].length = 2 from rfl, enc_lt (by omega)]
  rfl
def nine : List UInt8 := [49, 50, 51, 52, 53, 54, 55, 56, 57]
theorem crc_nine : crc nine = 3421780262 := by decide +kernel

def Yes (w : World) (e : Ending) (w' : World) : Prop := e = .returned (.bool true) ∧ Below w.heap.size w w'
theorem Yes.mk {w w' : World} (h : Below w.heap.size w w') : Yes w (.returned (.bool true)) w' := ⟨rfl, h⟩

theorem Fseal_nil (w : World) (ht : Tab w) : Calls Tryd.prog 23 #[.slice none 0 0] w fun e w' => ∃ v, e = .returned (.tuple #[v, .int .i64 0]) ∧ Made 5 w w' [0, 0, 0, 0, 0] v := by
  have h := Fseal_yes none 0 0 [] w rfl Rd.nil (by omega) ht
  unfold SealRet at h
  rw [seal_nil] at h
  exact h
theorem Ftext_ab (w : World) : Calls Tryd.prog 17 #[.string ⟨#[97, 98]⟩] w fun e w' => ∃ v, e = .returned v ∧ Made 5 w w' [2, 97, 98] v := by
  have h := Ftext_any ⟨#[97, 98]⟩ w (by decide)
  unfold MadeRet at h
  rw [show (⟨#[97, 98]⟩ : ByteArray).data.toList = [97, 98] from rfl, text_ab] at h
  exact h
theorem Fsum_nine (w : World) (A : Option Addr) (c : Nat) (hr : Rd w A (bv nine)) (ht : Tab w) : Calls Tryd.prog 21 #[.slice A 9 c] w fun e w' => e = .returned (.int .u32 3421780262) ∧ w = w' := by
  have h := Fsum_any A 9 c nine w rfl hr (by omega) ht
  rw [crc_nine] at h
  exact h
theorem rd_nine (w : World) (fr : Nat × Nat) : Rd (w.alloc (.cells #[.int .u8 49, .int .u8 50, .int .u8 51, .int .u8 52, .int .u8 53, .int .u8 54, .int .u8 55, .int .u8 56, .int .u8 57] 5 fr)) (some ⟨w.heap.size, 0, none⟩) (bv nine) :=
  Rd.block w 5 fr #[.int .u8 49, .int .u8 50, .int .u8 51, .int .u8 52, .int .u8 53, .int .u8 54, .int .u8 55, .int .u8 56, .int .u8 57]

set_option maxRecDepth 100000 in
theorem awake_any (w : World) (ht : Tab w) : Calls Tryd.prog 11 #[] w (Yes w) := by
  have HT := Lib.hid ht
  clear ht
  have hcs := fun (W : World) => run_str (P := Tryd.prog) W 23 9 5 Tryd.underlying23 Tryd.underlying5 Tryd.underlying9
  have HCS := Lib.hid hcs
  clear hcs
  have kc := fun (w : World) (C : Array Value) (n c : Nat) => Lib.run_convert_bytes_const (P := Tryd.prog) w 23 5 C n c Tryd.underlying23 Tryd.underlying5
  go_enter Tryd.func11, Tryd.ntmps11
  go_wp2_with (first
    | (go_at_call 13; refine (Ftake_any _ 3 3 [172, 2, 9] _ rfl (Rd.block w 5 (0, 0) #[.int .u8 172, .int .u8 2, .int .u8 9]) (by omega)).mono ?_; rw [dec_300]; rintro e w1 ⟨rfl, rfl⟩)
    | (go_at_call 23; refine (Fseal_nil _ (HT.out.below ((Below.refl _ _).alloc (Nat.le_refl _) _))).mono ?_; rintro e w2 ⟨v, rfl, A2, m2, c2, rfl, hm2, hc2, hown2, hb2⟩; have hs5 := fun (o : Obj) => HCS.out (w2.alloc o) A2 m2 c2 [0, 0, 0, 0, 0] hm2 ((Rd.own hown2).alloc o); have hbw2 : Below w.heap.size w w2 := ((Below.refl _ _).alloc (Nat.le_refl _) _).trans (hb2.mono (by simp)); have HM2 := Lib.hid hm2; clear hm2)
    | (go_at_call 21; refine (Fsum_nine _ _ _ (rd_nine _ _) ((HT.out.below (((Below.refl _ _).alloc (Nat.le_refl _) _).trans (hb2.mono (by simp)))).below ((Below.refl _ _).alloc (Nat.le_refl _) _))).mono ?_; rintro e w3 ⟨rfl, rfl⟩)
    | (go_at_call 17; refine (Ftext_ab _).mono ?_; rintro e w4 ⟨v, rfl, A4, m4, c4, rfl, hm4, hc4, hown4, hb4⟩; have hs6 := HCS.out w4 A4 m4 c4 [2, 97, 98] hm4 (Rd.own hown4); have HM4 := Lib.hid hm4; clear hm4))
  go_ret
  refine Yes.mk ((hbw2.trans ((Below.refl _ _).alloc hbw2.size _)).trans (hb4.mono (by have := hbw2.size; simp; omega)))
end Fr
end Go.Proofs.YtjpimbbdjdlelaaDoor
