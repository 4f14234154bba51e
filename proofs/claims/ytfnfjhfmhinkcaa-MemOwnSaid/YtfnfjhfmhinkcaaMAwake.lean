/-
  WHAT IS PROVED: the document's example answers as it says. CONDITIONS: none.
-/
import Derived.Test.YtfnfjhfmhinkcaaMPutE
namespace Go.Proofs.Ytfnfjhfmhinkcaa
open Go Go.RowKit Go.Maps Go.Sort Go.Proofs.Ytfnfjhfmhinkcaa.Fr
namespace Mm

section
variable {w0 w : World} {T : Nat} {ns : List Nd} {byt : Int}
theorem Tb.made {w w' : World} {T : Nat} (hT : T = w.heap.size) (h : TabAt w' T [] 0 0) (hb : Below w.heap.size w w') : Tb w w' T [] 0 :=
  ⟨⟨h, trivial, List.Pairwise.nil⟩, (fun n hn => by cases hn), List.nodup_nil, (by omega), (fun n hn => by cases hn), hb, (by omega), (by simp)⟩
def ea1 : En := ⟨⟨#[97]⟩, 1, false, ⟨#[120]⟩⟩
def ea3 : En := ⟨⟨#[97]⟩, 3, false, ⟨#[122]⟩⟩
theorem ea1_ok : entryErr ea1 = 0 := by decide +kernel
theorem ea3_ok : entryErr ea3 = 0 := by decide +kernel
theorem aw_put1 (h : Tb w0 w T [] 0) : Calls Try.prog 16 #[.pointer (some ⟨T, 0, none⟩), .agg #[.string ⟨#[97]⟩, .int .i64 1, .bool false, .string ⟨#[120]⟩], .int .i64 1] w fun x w' => x = .returned (.int .i64 0) ∧ ∃ N H, Tb w0 w' T [⟨N, ea1, 0, H⟩] 2 := by
  refine (put_any h ea1 1 (by simp)).mono ?_
  rintro x w' (⟨z, hz, _⟩ | ⟨_, _, hx, N, H, _, _, _, h1, _⟩)
  · rcases hz with ⟨h1, h2⟩ | ⟨_, ⟨m, hm, _⟩, _⟩
    · rw [ea1_ok] at h2; omega
    · cases hm
  · exact ⟨hx, N, H, h1⟩
theorem aw_put2 {N H : Nat} (h : Tb w0 w T [⟨N, ea1, 0, H⟩] 2) : Calls Try.prog 16 #[.pointer (some ⟨T, 0, none⟩), .agg #[.string ⟨#[97]⟩, .int .i64 3, .bool false, .string ⟨#[122]⟩], .int .i64 9] w fun x w' => x = .returned (.int .i64 0) ∧ ∃ M G, Tb w0 w' T [⟨M, ea3, 1, G⟩, ⟨N, ea1, 0, H⟩] 4 := by
  refine (put_any h ea3 9 (by simp)).mono ?_
  have hb : ¬ bef (⟨N, ea1, 0, H⟩ : Nd).e ea3.k ea3.seq := by show ¬ bef ea1 ea3.k ea3.seq; decide +kernel
  have h2 : pre [⟨N, ea1, 0, H⟩] ea3.k ea3.seq = [] := by unfold pre; rw [List.takeWhile_cons_of_neg (by simpa using hb)]
  have h3 : post [⟨N, ea1, 0, H⟩] ea3.k ea3.seq = [⟨N, ea1, 0, H⟩] := by unfold post; rw [List.dropWhile_cons_of_neg (by simpa using hb)]
  rintro x w' (⟨z, hz, _⟩ | ⟨_, _, hx, M, G, _, _, _, h1, _⟩)
  · rcases hz with ⟨h1, h2⟩ | ⟨_, ⟨m, hm, _, hq⟩, _⟩
    · rw [ea3_ok] at h2; omega
    · rw [List.mem_singleton] at hm
      subst hm
      exact absurd (show (1 : Int) = 3 from hq) (by decide)
  · rw [h2, h3] at h1
    exact ⟨hx, M, G, h1⟩
theorem aw_get {N H M G : Nat} (h : Tb w0 w T [⟨M, ea3, 1, G⟩, ⟨N, ea1, 0, H⟩] 4) : Calls Try.prog 15 #[.pointer (some ⟨T, 0, none⟩), .string ⟨#[97]⟩, .int .i64 2] w fun e w' => e = .returned (.tuple #[.agg #[.string ⟨#[97]⟩, .int .i64 1, .bool false, .string ⟨#[120]⟩], .bool true]) ∧ Tb w0 w' T [⟨M, ea3, 1, G⟩, ⟨N, ea1, 0, H⟩] 4 := by
  have hb3 : bef (⟨M, ea3, 1, G⟩ : Nd).e ea1.k 2 := by show bef ea3 ea1.k 2; decide +kernel
  have hb1 : ¬ bef (⟨N, ea1, 0, H⟩ : Nd).e ea1.k 2 := by show ¬ bef ea1 ea1.k 2; decide +kernel
  have hp : post [⟨M, ea3, 1, G⟩, ⟨N, ea1, 0, H⟩] ea1.k 2 = [⟨N, ea1, 0, H⟩] := by
    unfold post
    rw [List.dropWhile_cons_of_pos (by simpa using hb3), List.dropWhile_cons_of_neg (by simpa using hb1)]
  have hN : getN [⟨M, ea3, 1, G⟩, ⟨N, ea1, 0, H⟩] ea1.k 2 = some ⟨N, ea1, 0, H⟩ := by
    unfold getN
    rw [hp]
    simp
  have hE : getE [⟨M, ea3, 1, G⟩, ⟨N, ea1, 0, H⟩] ea1.k 2 = ea1 := by unfold getE; rw [hN]; rfl
  have hg := get_any h.rep h.good ⟨#[97]⟩ 2
  rw [show (⟨#[97]⟩ : ByteArray).toList = ea1.k from rfl, hN, hE] at hg
  exact hg.mono fun e w' hx => ⟨hx.1, h.below hx.2⟩
theorem awake_any (w : World) : Calls Try.prog 8 #[] w fun e w' => e = .returned (.bool true) ∧ Below w.heap.size w w' := by
  have hc1 := new_any w
  go_enter Try.func8, Try.ntmps8
  go_wp2_with (first
    | (go_at_call 7; refine hc1.mono ?_; rintro e w1 ⟨rfl, hp1, hp2⟩; have ht1 := Tb.made rfl hp1 hp2; clear hp1 hp2)
    | (go_at_call 16; (with_reducible refine (aw_put1 ht1).mono ?_); rintro e w2 ⟨rfl, N, H, ht2⟩)
    | (go_at_call 16; (with_reducible refine (aw_put2 ht2).mono ?_); rintro e w3 ⟨rfl, M, G, ht3⟩)
    | (go_at_call 15; (with_reducible refine (aw_get ht3).mono ?_); rintro e w4 ⟨rfl, ht4⟩; have ht5 := ht4.below ((Below.refl _ _).alloc (Nat.le_refl _) (.cells #[.string ⟨#[97]⟩, .int .i64 1, .bool false, .string ⟨#[120]⟩] 30)))
    | (go_at_call 10; (with_reducible refine (len_any ht5.rep.tab).mono ?_); rintro e w5 ⟨rfl, rfl⟩)
    | (go_at_call 14; (with_reducible refine (bytes_any ht5.rep.tab).mono ?_); rintro e w6 ⟨rfl, rfl⟩))
  go_ret
  exact ⟨rfl, ht5.bel⟩
end

end Mm
end Go.Proofs.Ytfnfjhfmhinkcaa
