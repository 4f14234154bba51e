/-
  WHAT IS PROVED: (1) two tables that were given the same entries keep and answer the same. CONDITIONS: both stand in memory as named.
-/
import Derived.Test.YtadlhnjnhllpfaaDoorQSOpen
namespace Go.Proofs.YtadlhnjnhllpfaaDoor
open Go Go.RowKit Go.Maps Go.Sort Go.Proofs.YtadlhnjnhllpfaaDoor.Fr
namespace Mm
theorem pre_map (ns : List Nd) (k : List UInt8) (q : Int) : (pre ns k q).map Nd.e = (ns.map Nd.e).takeWhile fun e => decide (bef e k q) := by
  unfold pre
  rw [List.takeWhile_map]
  rfl
theorem post_map (ns : List Nd) (k : List UInt8) (q : Int) : (post ns k q).map Nd.e = (ns.map Nd.e).dropWhile fun e => decide (bef e k q) := by
  unfold post
  rw [List.dropWhile_map]
  rfl
theorem getN_map (ns : List Nd) (k : List UInt8) (q : Int) : (getN ns k q).map Nd.e = ((post ns k q).map Nd.e).head?.filter fun e => decide (e.k = k) := by
  unfold getN
  cases post ns k q with
  | nil => rfl
  | cons n r =>
    simp only [List.head?_cons, List.map_cons, Option.filter_some]
    split <;> rfl
theorem get_same {ns ms : List Nd} (h : ns.map Nd.e = ms.map Nd.e) (k : List UInt8) (q : Int) : getE ns k q = getE ms k q ∧ (getN ns k q).isSome = (getN ms k q).isSome := by
  have h1 : (getN ns k q).map Nd.e = (getN ms k q).map Nd.e := by rw [getN_map, getN_map, post_map, post_map, h]
  refine ⟨by unfold getE; rw [h1], ?_⟩
  have := congrArg Option.isSome h1
  simpa using this
theorem twice_map (ns : List Nd) (e : En) : twice ns e ↔ ∃ x ∈ ns.map Nd.e, x.k = e.k ∧ x.seq = e.seq := by
  unfold twice
  constructor
  · rintro ⟨m, hm, h⟩
    exact ⟨m.e, List.mem_map_of_mem hm, h⟩
  · rintro ⟨x, hx, h⟩
    obtain ⟨m, hm, rfl⟩ := List.mem_map.1 hx
    exact ⟨m, hm, h⟩
theorem put_map (ns : List Nd) (e : En) (N o H : Nat) : (pre ns e.k e.seq ++ (⟨N, e, o, H⟩ : Nd) :: post ns e.k e.seq).map Nd.e = ((ns.map Nd.e).takeWhile fun x => decide (bef x e.k e.seq)) ++ e :: (ns.map Nd.e).dropWhile fun x => decide (bef x e.k e.seq) := by
  rw [List.map_append, List.map_cons, pre_map, post_map]
theorem own_put {T k N o H : Nat} {ns : List Nd} {e : En} (h : Own T (pre ns e.k e.seq ++ (⟨N, e, o, H⟩ : Nd) :: post ns e.k e.seq) k) : Own T ns k ∨ k = N := by
  rcases h with rfl | ⟨m, hm, rfl⟩
  · exact .inl (.inl rfl)
  · rcases List.mem_append.1 hm with h | h
    · exact .inl (.inr ⟨m, by rw [← pre_post ns e.k e.seq]; exact List.mem_append.2 (.inl h), rfl⟩)
    · rcases List.mem_cons.1 h with rfl | h
      · exact .inr rfl
      · exact .inl (.inr ⟨m, by rw [← pre_post ns e.k e.seq]; exact List.mem_append.2 (.inr h), rfl⟩)
section
variable {w0 w w' w2 : World} {T U : Nat} {ns ms : List Nd} {byt : Int}
end
end Mm
end Go.Proofs.YtadlhnjnhllpfaaDoor
