/-
  WHAT IS PROVED: two tables that were given the same entries keep and answer the same. CONDITIONS: both stand in memory as named.
-/
import Derived.Test.YtfnfjhfmhinkcaaMSame
namespace Go.Proofs.Ytfnfjhfmhinkcaa
open Go Go.RowKit Go.Maps Go.Sort Go.Proofs.Ytfnfjhfmhinkcaa.Fr
namespace Mm
/-- TWO TABLES with the same entries. -/
structure Two (w0 w : World) (T U : Nat) (ns ms : List Nd) (byt : Int) : Prop where
  t : Tb w0 w T ns byt
  u : Tb w0 w U ms byt
  same : ns.map Nd.e = ms.map Nd.e
  vt : Val ns
  vu : Val ms
  apart : ∀ k, Own T ns k → ¬ Own U ms k
theorem pre_map (ns : List Nd) (k : List UInt8) (q : Int) : (pre ns k q).map Nd.e = (ns.map Nd.e).takeWhile fun e => decide (bef e k q) := by
  unfold pre
  rw [List.takeWhile_map]
  rfl
theorem post_map (ns : List Nd) (k : List UInt8) (q : Int) : (post ns k q).map Nd.e = (ns.map Nd.e).dropWhile fun e => decide (bef e k q) := by
  unfold post
  rw [List.dropWhile_map]
  rfl
theorem getN_map (ns : List Nd) (k : List UInt8) (q : Int) : (getN ns k q).map Nd.e = ((post ns k q).map Nd.e).head?.filter fun e => decide (e.k = k) := by
  unfold getN
  cases post ns k q with
  | nil => rfl
  | cons n r =>
    simp only [List.head?_cons, List.map_cons, Option.filter_some]
    split <;> rfl
theorem get_same {ns ms : List Nd} (h : ns.map Nd.e = ms.map Nd.e) (k : List UInt8) (q : Int) : getE ns k q = getE ms k q ∧ (getN ns k q).isSome = (getN ms k q).isSome := by
  have h1 : (getN ns k q).map Nd.e = (getN ms k q).map Nd.e := by rw [getN_map, getN_map, post_map, post_map, h]
  refine ⟨by unfold getE; rw [h1], ?_⟩
  have := congrArg Option.isSome h1
  simpa using this
theorem twice_map (ns : List Nd) (e : En) : twice ns e ↔ ∃ x ∈ ns.map Nd.e, x.k = e.k ∧ x.seq = e.seq := by
  unfold twice
  constructor
  · rintro ⟨m, hm, h⟩
    exact ⟨m.e, List.mem_map_of_mem hm, h⟩
  · rintro ⟨x, hx, h⟩
    obtain ⟨m, hm, rfl⟩ := List.mem_map.1 hx
    exact ⟨m, hm, h⟩
theorem put_map (ns : List Nd) (e : En) (N o H : Nat) : (pre ns e.k e.seq ++ (⟨N, e, o, H⟩ : Nd) :: post ns e.k e.seq).map Nd.e = ((ns.map Nd.e).takeWhile fun x => decide (bef x e.k e.seq)) ++ e :: (ns.map Nd.e).dropWhile fun x => decide (bef x e.k e.seq) := by
  rw [List.map_append, List.map_cons, pre_map, post_map]
theorem own_put {T k N o H : Nat} {ns : List Nd} {e : En} (h : Own T (pre ns e.k e.seq ++ (⟨N, e, o, H⟩ : Nd) :: post ns e.k e.seq) k) : Own T ns k ∨ k = N := by
  rcases h with rfl | ⟨m, hm, rfl⟩
  · exact .inl (.inl rfl)
  · rcases List.mem_append.1 hm with h | h
    · exact .inl (.inr ⟨m, by rw [← pre_post ns e.k e.seq]; exact List.mem_append.2 (.inl h), rfl⟩)
    · rcases List.mem_cons.1 h with rfl | h
      · exact .inr rfl
      · exact .inl (.inr ⟨m, by rw [← pre_post ns e.k e.seq]; exact List.mem_append.2 (.inr h), rfl⟩)
section
variable {w0 w w' w2 : World} {T U : Nat} {ns ms : List Nd} {byt : Int}
theorem Two.below (h : Two w0 w T U ns ms byt) (hb : Below w.heap.size w w') : Two w0 w' T U ns ms byt := { h with t := h.t.below hb, u := h.u.below hb }
theorem Two.len (h : Two w0 w T U ns ms byt) : ns.length = ms.length := by
  have := congrArg List.length h.same
  simpa using this
theorem Two.made {w1 : World} (h1 : TabAt w1 w0.heap.size [] 0 0) (hb1 : Below w0.heap.size w0 w1) (h2 : TabAt w2 w1.heap.size [] 0 0) (hb2 : Below w1.heap.size w1 w2) : Two w0 w2 w0.heap.size w1.heap.size [] [] 0 := by
  have ht := (Tb.made rfl h1 hb1).below hb2
  have hu := Tb.made rfl h2 hb2
  have hlt : w0.heap.size < w1.heap.size := by obtain ⟨_, h3, _⟩ := h1; exact h3.lt
  refine ⟨ht, ⟨hu.rep, hu.good, hu.nodup, by omega, (fun n hn => by cases hn), ht.bel, hu.b0, hu.b1⟩, rfl, Val.nil, Val.nil, ?_⟩
  rintro k (rfl | ⟨_, h, _⟩) (h2 | ⟨_, h2, _⟩)
  · omega
  · cases h2
  · cases h
  · cases h
/-- What the second Put does when the first has answered z. -/
def Mid (w0 : World) (T U n : Nat) (ms : List Nd) (e : En) (z : Int) (w' : World) : Prop :=
  ∀ w2, Below w'.heap.size w' w2 → ∀ hgt : Int, Calls Try.prog 16 #[.pointer (some ⟨U, 0, none⟩), .agg #[.string e.key, .int .i64 e.seq, .bool e.del, .string e.val], .int .i64 hgt] w2 fun x w3 =>
    x = .returned (.int .i64 z) ∧ Below w0.heap.size w0 w3 ∧ (∀ k, k < w2.heap.size → ¬ Own U ms k → w3.heap[k]? = w2.heap[k]?) ∧ ∃ ns' ms' byt', ns'.length ≤ n + 1 ∧ Two w0 w3 T U ns' ms' byt'
theorem put_one (h : Two w0 w T U ns ms byt) (hn : ns.length ≤ 100) (e : En) (hgt : Int) :
    Calls Try.prog 16 #[.pointer (some ⟨T, 0, none⟩), .agg #[.string e.key, .int .i64 e.seq, .bool e.del, .string e.val], .int .i64 hgt] w fun x w' => ∃ z, x = .returned (.int .i64 z) ∧ Below w0.heap.size w0 w' ∧ w.heap.size ≤ w'.heap.size ∧ (∀ k, k < w.heap.size → ¬ Own T ns k → w'.heap[k]? = w.heap[k]?) ∧ Hid (Mid w0 T U ns.length ms e z w') := by
  have hlen := h.len
  refine (put_any h.t e hgt (by omega)).mono ?_
  rintro x w' (⟨z, hz, hx, hb⟩ | ⟨he, htw, hx, N, H, _, _, hN, h1, h2⟩)
  · refine ⟨z, hx, h.t.bel.trans (hb.mono h.t.bel.size), hb.size, fun k hk _ => hb.block k hk, Lib.hid fun w2 hb2 hgt2 => ?_⟩
    have h' := h.below (hb.trans (hb2.mono hb.size))
    refine (put_any h'.u e hgt2 (by omega)).mono ?_
    rintro x w3 (⟨z', hz', hx', hb'⟩ | ⟨he', htw', hx', N', H', _, _, hN', h1', h2'⟩)
    · have hzz : z' = z := by
        rcases hz with ⟨a, b⟩ | ⟨a, b, c⟩ <;> rcases hz' with ⟨a', b'⟩ | ⟨a', b', c'⟩ <;> omega
      subst hzz
      exact ⟨hx', h'.t.bel.trans (hb'.mono h'.t.bel.size), fun k hk _ => hb'.block k hk, ns, ms, byt, by omega, h'.below hb'⟩
    · exfalso
      rcases hz with ⟨a, b⟩ | ⟨a, b, c⟩
      · omega
      · exact htw' ((twice_map ms e).2 (by rw [← h.same]; exact (twice_map ns e).1 b))
  · refine ⟨0, hx, h1.bel, h2.size, h2.block, Lib.hid fun w2 hb2 hgt2 => ?_⟩
    have hu1 : Tb w0 w' U ms byt := h.u.off h1.bel fun k hk => h2.block k (h.u.own_lt k hk) fun ho => h.apart k ho hk
    have hu2 := hu1.below hb2
    have ht2 := h1.below hb2
    refine (put_any hu2 e hgt2 (by omega)).mono ?_
    rintro x w3 (⟨z', hz', hx', hb'⟩ | ⟨he', htw', hx', N', H', _, _, hN', h1', h2'⟩)
    · exfalso
      rcases hz' with ⟨a, b⟩ | ⟨a, b, c⟩
      · omega
      · exact htw ((twice_map ns e).2 (by rw [h.same]; exact (twice_map ms e).1 b))
    · have hap : ∀ k, Own T (pre ns e.k e.seq ++ (⟨N, e, ns.length, H⟩ : Nd) :: post ns e.k e.seq) k → ¬ Own U ms k := fun k hk hk2 => by
        rcases own_put hk with h3 | rfl
        · exact h.apart k h3 hk2
        · have := h.u.own_lt _ hk2; omega
      have ht3 := ht2.off h1'.bel fun k hk => h2'.block k (ht2.own_lt k hk) (hap k hk)
      refine ⟨hx', h1'.bel, h2'.block, _, _, _, ?_, ht3, h1', ?_, h.vt.put he N H, h.vu.put he' N' H', fun k hk hk2 => ?_⟩
      · have := congrArg List.length (pre_post ns e.k e.seq)
        simp only [List.length_append, List.length_cons] at this ⊢
        omega
      · rw [put_map, put_map, h.same]
      · rcases own_put hk2 with h3 | rfl
        · exact hap k hk h3
        · have := ht2.own_lt _ hk; omega
end
end Mm
end Go.Proofs.Ytfnfjhfmhinkcaa
