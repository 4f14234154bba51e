/-
  WHAT IS PROVED: what the calls of the reference's Scan and of Same do, in whatever memory: the payloads of the longest beginning that is frames, each in a row of its own; two lists of equal bytes are the same. CONDITIONS: the slices that come in read as the bytes that are named; lengths are bounded.
-/
import Derived.Test.YtnijonjepgdinaaDoorWalkG
namespace Go.Proofs.YtnijonjepgdinaaDoor
open Go Go.RowKit
namespace Fr

/-- A list of slices that reads as a list of bytes. -/
def RdL (w : World) (vs : List Value) (ls : List (List UInt8)) : Prop :=
  vs.length = ls.length ∧ ∀ (i : Nat) (v : Value) (l : List UInt8), vs[i]? = some v → ls[i]? = some l → ∃ A m c, v = .slice A m c ∧ l.length = m ∧ m ≤ c ∧ Rd w A (bv l)
theorem RdL.below {w w' : World} {vs : List Value} {ls : List (List UInt8)} (h : RdL w vs ls) (hb : Below w.heap.size w w') : RdL w' vs ls :=
  ⟨h.1, fun i v l hv hl => by
    obtain ⟨A, m, c, h1, h2, h3, h4⟩ := h.2 i v l hv hl
    exact ⟨A, m, c, h1, h2, h3, h4.below hb⟩⟩
theorem OwnL.reads {w : World} {B : Nat} {vs : List Value} {ls : List (List UInt8)} (h : OwnL w B vs ls) : RdL w vs ls :=
  ⟨h.1, fun i v l hv hl => by
    obtain ⟨b, _, ho, _⟩ := h.2 i v l hv hl
    obtain ⟨A, c, rfl, h1, _⟩ := own_shape ho
    exact ⟨A, _, c, rfl, rfl, h1, Rd.own ho⟩⟩
theorem RdL.take {w : World} {vs : List Value} {ls : List (List UInt8)} (h : RdL w vs ls) (k : Nat) : RdL w (vs.take k) (ls.take k) :=
  ⟨by rw [List.length_take, List.length_take, h.1], fun i v l hv hl => by
    rw [List.getElem?_take] at hv hl
    split at hv
    · rename_i hik
      rw [if_pos hik] at hl
      exact h.2 i v l hv hl
    · cases hv⟩

set_option maxRecDepth 100000 in
set_option maxHeartbeats 1000000 in
theorem same_eq (A B : Option Addr) (n c d : Nat) (vs us : List Value) (ls : List (List UInt8)) (w : World) (hl : ls.length = n) (hA : Rd w A vs) (hvs : RdL w vs ls) (hB : Rd w B us) (hus : RdL w us ls) (hn : n ≤ 1099511627776) :
    Calls Tryd.prog 9 #[.slice A n c, .slice B n d] w (Yes w) := by
  have HL := Lib.hid hl
  have HA := Lib.hid hA
  have HB := Lib.hid hB
  have HV := Lib.hid hvs
  have HU := Lib.hid hus
  have hcs := fun (W : World) => run_str (P := Tryd.prog) W 42 9 5 Tryd.underlying42 Tryd.underlying5 Tryd.underlying9
  have HCS := Lib.hid hcs
  clear hl hA hB hvs hus hcs
  go_enter Tryd.func9, Tryd.ntmps9
  go_wp2
  go_loopw [13] (fun x wr => ∃ (k q : Nat), k ≤ n ∧ x = .int .i64 k ∧ wr = w.drewN q) (fun x _ => n - (intOf x).toNat)
  case atStart => exact ⟨0, 0, Nat.zero_le _, rfl, rfl⟩
  case round =>
    obtain ⟨k, q, hk, rfl, rfl⟩ := hrel
    by_cases hkn : k < n
    · obtain ⟨b, o, rfl, _, hca⟩ := HA.out.at_ (i := k) (by rw [HV.out.1, HL.out]; exact hkn)
      obtain ⟨b', o', rfl, _, hcb⟩ := HB.out.at_ (i := k) (by rw [HU.out.1, HL.out]; exact hkn)
      obtain ⟨A1, m1, c1, h1, h2, _, h4⟩ := HV.out.2 k _ _ (List.getElem?_eq_getElem (by rw [HV.out.1, HL.out]; exact hkn)) (List.getElem?_eq_getElem (by rw [HL.out]; exact hkn))
      obtain ⟨B1, m2, c2, g1, g2, _, g4⟩ := HU.out.2 k _ _ (List.getElem?_eq_getElem (by rw [HU.out.1, HL.out]; exact hkn)) (List.getElem?_eq_getElem (by rw [HL.out]; exact hkn))
      obtain ⟨lk, hlk⟩ : ∃ lk, lk = ls[k]'(by rw [HL.out]; exact hkn) := ⟨_, rfl⟩
      rw [← hlk] at h2 h4 g2 g4
      rw [h1] at hca
      rw [g1] at hcb
      have hx1 := fun (r : Nat) => HCS.out (w.drewN r) A1 m1 c1 lk h2 h4
      have hx2 := fun (r : Nat) => HCS.out (w.drewN r) B1 m2 c2 lk g2 g4
      clear h1 h2 h4 g1 g2 g4 hlk
      have i1 : (0 : Int) ≤ (k : Int) := Int.natCast_nonneg _
      have i2 : (k : Int) < (n : Int) := by omega
      go_wp2
      go_quiet (fail)
      go_wp2
      go_roundw
      case rel => exact ⟨k + 1, _, by omega, by go_num, rfl⟩
      case measure => simp [intOf]; omega
    · go_wp2
      go_ret
      exact Yes.mk (below_drewN (Below.refl _ _) _)
end Fr
end Go.Proofs.YtnijonjepgdinaaDoor
