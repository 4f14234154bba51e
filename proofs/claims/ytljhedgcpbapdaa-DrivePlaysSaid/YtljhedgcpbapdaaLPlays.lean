/-
  WHAT IS PROVED: what the law DrivePlays answers. CONDITIONS: the script stands in memory as named.
-/
import Derived.Test.YtljhedgcpbapdaaLScript
import Derived.Test.YtljhedgcpbapdaaLAwake
namespace Go.Proofs.Ytljhedgcpbapdaa
open Go Go.RowKit Go.Maps Go.Proofs.Ytljhedgcpbapdaa.Fr
namespace Dr
set_option maxRecDepth 100000 in
theorem plays_any (w : World) (A0 : Option Addr) (n0 c0 : Nat) (L : List OpM) (hn : L.length = n0) (hL : Script w A0 L) :
    Calls Try.prog 3 #[.slice A0 n0 c0] w fun e w' => e = .returned (.bool true) ∧ Below w.heap.size w w' := by
  have HB := Lib.hid (built_any w A0 n0 c0 L hn hL)
  have HW := Lib.hid awake_any
  clear hn hL
  go_enter Try.func3, Try.ntmps3
  go_wp2_with (first
    | (go_at_call 9; refine HB.out.mono ?_; rintro e w1 ⟨b, st, A, c, rfl, h1, h2, h3, hP⟩; have HP := Lib.hid hP; clear h1 h2 h3 hP)
    | (go_at_call 10; refine (HW.out _).mono ?_; rintro e w2 ⟨rfl, hb2⟩))
  go_ret
  exact ⟨rfl, HP.out.bel.trans ((((Below.refl _ _).alloc (Nat.le_refl _) _).trans (hb2.mono (by simp))).mono HP.out.bel.size)⟩
end Dr
end Go.Proofs.Ytljhedgcpbapdaa
