/-
  WHAT IS PROVED: the document's example is as it says. NO CONDITION.
-/
import Derived.Test.YtljhedgcpbapdaaLBase
namespace Go.Proofs.Ytljhedgcpbapdaa
open Go Go.RowKit Go.Maps Go.Proofs.Ytljhedgcpbapdaa.Fr
namespace Dr

def aw1 : St := ⟨[⟨[97], [1, 2, 3], 0⟩], 1, false, 0⟩
def aw2 : St := ⟨[⟨[97], [1, 2, 3], 3⟩], 2, false, 0⟩
def aw3 : St := ⟨[⟨[97], [1, 2, 3, 4, 5], 3⟩], 3, false, 0⟩
def aw4 : St := ⟨[⟨[97], [1, 2, 3, 4], 4⟩], 0, false, 0⟩
theorem aw1_eq : St.empty.append [97] [1, 2, 3] = (aw1, 0) := by rfl
theorem aw2_eq : aw1.sync [97] = (aw2, 0) := by rfl
theorem aw3_eq : aw2.append [97] [4, 5] = (aw3, 0) := by rfl
theorem aw4_eq : aw3.crash [1] = aw4 := by rfl
theorem aw1_ok : aw1.Ok := by have := ok_empty.append [97] [1, 2, 3]; rw [aw1_eq] at this; exact this
theorem aw2_ok : aw2.Ok := by have := aw1_ok.sync [97]; rw [aw2_eq] at this; exact this
theorem aw3_ok : aw3.Ok := by have := aw2_ok.append [97] [4, 5]; rw [aw3_eq] at this; exact this
theorem aw4_ok : aw4.Ok := by have := aw3_ok.crash [1]; rw [aw4_eq] at this; exact this
section
variable {w0 w1 w : World} {b : Nat} {st : St}
def AwOp (w0 : World) (b : Nat) (st : St) (e : Ending) (w' : World) : Prop := e = .returned (.int .i64 0) ∧ DS w0 w' (fun _ => False) b st
theorem AwOp.of {X : Nat → Prop} {p : St × Nat} {st : St} {e : Ending} {w' : World} (h : DSOp w0 X b p w e w') (hp : p = (st, 0)) : AwOp w0 b st e w' := by
  subst hp
  exact ⟨h.1, h.2.1.weak fun _ hk => hk.elim⟩
theorem new_X (h : DS w0 w1 (fun _ => False) b st) (cs : Array Value) (t : TypeId) : DS w0 (w1.alloc (.cells cs t)) (fun k => k = w1.heap.size) b st :=
  h.add ((Below.refl _ _).alloc (Nat.le_refl _) _) fun k hk => .inr ⟨by omega, by simp; omega⟩
theorem aw_c1 (h : DS w0 w1 (fun _ => False) b St.empty) : Calls Try.prog 24 #[.pointer (some ⟨b, 0, none⟩), .string ⟨#[97]⟩, .slice (some ⟨w1.heap.size, 0, none⟩) 3 3] (w1.alloc (.cells #[.int .u8 1, .int .u8 2, .int .u8 3] 5)) (AwOp w0 b aw1) :=
  ((new_X h _ _).append ok_empty (by decide) ⟨#[97]⟩ (by decide) (some ⟨w1.heap.size, 0, none⟩) 3 3 [1, 2, 3] rfl (by decide) (Rd.block _ _ _ _) fun a ha => by cases ha; rfl).mono fun _ _ hp => AwOp.of hp aw1_eq
theorem aw_c2 (h : DS w0 w (fun _ => False) b aw1) : Calls Try.prog 21 #[.pointer (some ⟨b, 0, none⟩), .string ⟨#[97]⟩] w (AwOp w0 b aw2) :=
  (h.op fun _ h1 _ => sync_any h1 aw1_ok (by decide) ⟨#[97]⟩ (by decide)).mono fun _ _ hp => AwOp.of hp aw2_eq
theorem aw_c3 (h : DS w0 w1 (fun _ => False) b aw2) : Calls Try.prog 24 #[.pointer (some ⟨b, 0, none⟩), .string ⟨#[97]⟩, .slice (some ⟨w1.heap.size, 0, none⟩) 2 2] (w1.alloc (.cells #[.int .u8 4, .int .u8 5] 5)) (AwOp w0 b aw3) :=
  ((new_X h _ _).append aw2_ok (by decide) ⟨#[97]⟩ (by decide) (some ⟨w1.heap.size, 0, none⟩) 2 2 [4, 5] rfl (by decide) (Rd.block _ _ _ _) fun a ha => by cases ha; rfl).mono fun _ _ hp => AwOp.of hp aw3_eq
def AwCr (w : World) (e : Ending) (w' : World) : Prop := ∃ b, e = .returned (.pointer (some ⟨b, 0, none⟩)) ∧ DS w w' (fun _ => False) b aw4
theorem aw_c4 (h : DS w0 w1 (fun _ => False) b aw3) : Calls Try.prog 15 #[.pointer (some ⟨b, 0, none⟩), .slice (some ⟨w1.heap.size, 0, none⟩) 1 1] (w1.alloc (.cells #[.int .i64 1] 3)) (AwCr (w1.alloc (.cells #[.int .i64 1] 3))) := by
  obtain ⟨S, h1, _⟩ := (h.alloc (.cells #[.int .i64 1] 3)).rep
  exact (crash_any h1 aw3_ok (some ⟨w1.heap.size, 0, none⟩) 1 1 [1] rfl (by decide) (Rd.block _ _ _ _)).mono fun _ _ hp => hp.ds
def AwRd (w : World) (l : Bs) (e : Ending) (w' : World) : Prop := ∃ A m c, e = .returned (.tuple #[.slice A m c, .int .i64 0]) ∧ l.length = m ∧ Rd w' A (bv l) ∧ Below w.heap.size w w'
theorem aw_c5 (h : DS w0 w (fun _ => False) b aw4) : Calls Try.prog 29 #[.pointer (some ⟨b, 0, none⟩), .string ⟨#[97]⟩] w (AwRd w [1, 2, 3, 4]) := by
  obtain ⟨S, h1, _⟩ := h.rep
  exact (read_some h1 aw4_ok ⟨#[97]⟩ (by decide) (f := ⟨[97], [1, 2, 3, 4], 4⟩) rfl).mono fun e w' ⟨A, m, c, h2, h3, h4, h5⟩ => ⟨A, m, c, h2, h3, Rd.own h4, h5⟩
def AwLo (w : World) (n : Int) (e : Ending) (w' : World) : Prop := e = .returned (.int .i64 n) ∧ ∃ k, w' = w.drewN k
theorem aw_c6 (h : DS w0 w (fun _ => False) b aw3) : Calls Try.prog 22 #[.pointer (some ⟨b, 0, none⟩), .string ⟨#[97]⟩] w (AwLo w 2) := by
  obtain ⟨S, h1, _⟩ := h.rep
  exact loose_any h1 aw3_ok ⟨#[97]⟩ (by decide)
theorem aw_c7 (h : DS w0 w (fun _ => False) b aw4) : Calls Try.prog 22 #[.pointer (some ⟨b, 0, none⟩), .string ⟨#[97]⟩] w (AwLo w 0) := by
  obtain ⟨S, h1, _⟩ := h.rep
  exact loose_any h1 aw4_ok ⟨#[97]⟩ (by decide)
theorem awake_any (w : World) : Calls Try.prog 10 #[] w fun e w' => e = .returned (.bool true) ∧ Below w.heap.size w w' := by
  have hc1 := new_any w
  have hst := fun (W : World) (A : Option Addr) (m c : Nat) (hl : ([1, 2, 3, 4] : Bs).length = m) (hr : Rd W A (bv [1, 2, 3, 4])) => run_str (P := Try.prog) W 33 9 5 Try.underlying33 Try.underlying5 Try.underlying9 A m c [1, 2, 3, 4] hl hr
  go_enter Try.func10, Try.ntmps10
  go_wp2_with (first
    | (go_at_call 23; refine hc1.mono ?_; intro e w1 hp; have hp2 := hp.ds; clear hp; obtain ⟨b, rfl, hd1⟩ := hp2)
    | (go_at_call 24; (with_reducible refine (aw_c1 hd1).mono ?_); rintro e w2 ⟨rfl, hd2⟩)
    | (go_at_call 21; (with_reducible refine (aw_c2 hd2).mono ?_); rintro e w3 ⟨rfl, hd3⟩)
    | (go_at_call 24; (with_reducible refine (aw_c3 hd3).mono ?_); rintro e w4 ⟨rfl, hd4⟩)
    | (go_at_call 15; (with_reducible refine (aw_c4 hd4).mono ?_); rintro e w5 ⟨b2, rfl, hd5⟩; have hd6 := (hd4.alloc (.cells #[.int .i64 1] 3)).below hd5.bel)
    | (go_at_call 29; (with_reducible refine (aw_c5 hd5).mono ?_); rintro e w6 ⟨A, m, c, rfl, hl6, hr6, hb6⟩; have hd7 := hd5.below hb6; have hd8 := hd6.below hb6; have hst6 := hst w6 A m c hl6 hr6; clear hl6)
    | (go_at_call 22; (with_reducible refine (aw_c6 hd8).mono ?_); rintro e w7 ⟨rfl, k7, rfl⟩; have hd9 := hd7.drewN k7)
    | (go_at_call 22; (with_reducible refine (aw_c7 hd9).mono ?_); rintro e w8 ⟨rfl, k8, rfl⟩))
  go_ret
  exact ⟨rfl, below_drewN hd8.bel (k7 + k8)⟩
end
end Dr
end Go.Proofs.Ytljhedgcpbapdaa
