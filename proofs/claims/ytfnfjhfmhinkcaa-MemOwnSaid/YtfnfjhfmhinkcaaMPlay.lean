/-
  WHAT IS PROVED: play answers true and keeps the table and the list alike. CONDITIONS: both stand in memory as named.
-/
import Derived.Test.YtfnfjhfmhinkcaaMRPut
import Derived.Test.YtfnfjhfmhinkcaaMNew
namespace Go.Proofs.Ytfnfjhfmhinkcaa
open Go Go.RowKit Go.Maps Go.Sort Go.Proofs.Ytfnfjhfmhinkcaa.Fr
namespace Mm
theorem opc_cells {W : World} {O : Nat} {ask : Bool} {e : En} {hgt : Int} (h : Blk W O 32 #[.bool ask, .string e.key, .int .i64 e.seq, .bool e.del, .string e.val, .int .i64 hgt]) :
    W.cell? ⟨O, 0, none⟩ = some (.bool ask) ∧ W.cell? ⟨O, 1, none⟩ = some (.string e.key) ∧ W.cell? ⟨O, 2, none⟩ = some (.int .i64 e.seq) ∧ W.cell? ⟨O, 3, none⟩ = some (.bool e.del) ∧ W.cell? ⟨O, 4, none⟩ = some (.string e.val) ∧ W.cell? ⟨O, 5, none⟩ = some (.int .i64 hgt) :=
  ⟨h.cell 0, h.cell 1, h.cell 2, h.cell 3, h.cell 4, h.cell 5⟩
/-- Bytes of all keys and values. -/
def tot (l : List En) : Int := (l.map fun e => (e.key.size : Int) + (e.val.size : Int)).sum
theorem tot_append (a b : List En) : tot (a ++ b) = tot a + tot b := by unfold tot; rw [List.map_append, List.sum_append]
theorem tot_cons (e : En) (b : List En) : tot (e :: b) = (e.key.size : Int) + (e.val.size : Int) + tot b := by unfold tot; rw [List.map_cons, List.sum_cons]
theorem tot_put (ns : List Nd) (e : En) (N o H : Nat) : tot ((pre ns e.k e.seq ++ (⟨N, e, o, H⟩ : Nd) :: post ns e.k e.seq).map Nd.e) = tot (ns.map Nd.e) + ((e.key.size : Int) + (e.val.size : Int)) := by
  have h : tot (ns.map Nd.e) = tot ((pre ns e.k e.seq).map Nd.e) + tot ((post ns e.k e.seq).map Nd.e) := by rw [← tot_append, ← List.map_append, pre_post]
  rw [h, List.map_append, List.map_cons, tot_append, tot_cons]
  dsimp only
  omega
/-- A table and the list of its entries. -/
structure Pl (w0 w : World) (T : Nat) (ns : List Nd) (byt : Int) (A : Option Addr) (n c : Nat) : Prop where
  t : Tb w0 w T ns byt
  v : Val ns
  len : ns.length = n
  bytes : byt = tot (ns.map Nd.e)
  row : w.ownsRow w0.heap.size 30 4 (.slice A n c) n (ev (ns.map Nd.e))
theorem Tb.own_not {w0 w : World} {T : Nat} {ns : List Nd} {byt : Int} {g : Nat} {t : TypeId} {cs : Array Value} (h : Tb w0 w T ns byt) (hb : Blk w g t cs) (h1 : t ≠ 54) (h2 : t ≠ 52) : ¬ Own T ns g := fun hk => by
  rcases hk with rfl | ⟨m, hm, rfl⟩
  · obtain ⟨cs', h3, _⟩ := h.rep.tab
    have := (show w.heap[g]? = _ from hb).symm.trans h3
    cases this
    exact h1 rfl
  · obtain ⟨a, r, e2⟩ := List.append_of_mem hm
    obtain ⟨cN, hN⟩ := Chain.at_ (a := a) (n := m) (r := r) (by have := h.rep.chain; rw [e2] at this; exact this)
    have := (show w.heap[m.blk]? = _ from hb).symm.trans hN.blk
    cases this
    exact h2 rfl
section
variable {w0 w w' : World} {T : Nat} {ns : List Nd} {byt : Int} {A : Option Addr} {n c : Nat}
theorem Pl.below (h : Pl w0 w T ns byt A n c) (hb : Below w.heap.size w w') : Pl w0 w' T ns byt A n c := ⟨h.t.below hb, h.v, h.len, h.bytes, own_belowN h.row hb⟩
theorem Pl.shape (h : Pl w0 w T ns byt A n c) : n ≤ c ∧ ((A = none ∧ c = 0 ∧ n = 0) ∨ ∃ g, A = some ⟨g, 0, none⟩) := by
  rcases h.row.2 with ⟨h1, h2⟩ | ⟨g, cap, cur, h1, _, _, h2, _⟩
  · cases h1
    exact ⟨Nat.le_refl _, .inl ⟨rfl, rfl, rfl⟩⟩
  · cases h1
    exact ⟨h2, .inr ⟨g, rfl⟩⟩
theorem Pl.made {w1 : World} (h : Tb w0 w1 T [] 0) : Pl w0 w1 T [] 0 none 0 0 := ⟨h, Val.nil, rfl, rfl, rfl, .inl ⟨rfl, rfl⟩⟩
/-- What the table's Put does when the reference's has answered z. -/
def MidP (w0 : World) (T : Nat) (ns : List Nd) (n0 : Nat) (e : En) (A : Option Addr) (n c : Nat) (z : Int) (w1 : World) : Prop :=
  ∀ w2, Below w1.heap.size w1 w2 → ∀ hgt : Int, Calls Try.prog 16 #[.pointer (some ⟨T, 0, none⟩), .agg #[.string e.key, .int .i64 e.seq, .bool e.del, .string e.val], .int .i64 hgt] w2 fun x w3 =>
    x = .returned (.int .i64 z) ∧ w2.heap.size ≤ w3.heap.size ∧ (∀ k, k < w2.heap.size → ¬ Own T ns k → w3.heap[k]? = w2.heap[k]?) ∧ ∃ ns' byt', ns'.length ≤ n0 + 1 ∧ Pl w0 w3 T ns' byt' A n c
theorem rp_any (h : Pl w0 w T ns byt A n c) (hn : n ≤ 100) (e : En) :
    Calls Try.prog 18 #[.slice A n c, .agg #[.string e.key, .int .i64 e.seq, .bool e.del, .string e.val]] w fun x w1 => ∃ z A' n' c', x = .returned (.tuple #[.slice A' n' c', .int .i64 z]) ∧ Below w.heap.size w w1 ∧ Hid (MidP w0 T ns ns.length e A' n' c' z w1) := by
  have hlen := h.len
  by_cases hz : entryErr e = 0
  · refine (refput_any hz (by rw [List.length_map, hlen]) (by omega) h.t.rep.sorted.ents h.shape.1 (rd_ownN h.row) h.shape.2).mono ?_
    rintro x w1 (⟨htw, rfl, hb⟩ | ⟨htw, A', c', rfl, ho, hb⟩)
    · refine ⟨2, A, n, c, rfl, hb, Lib.hid fun w2 hb2 hgt => ?_⟩
      have h2 := h.below (hb.trans (hb2.mono hb.size))
      refine (put_any h2.t e hgt (by omega)).mono ?_
      rintro x w3 (⟨z, hz2, rfl, hb3⟩ | ⟨_, htw2, _⟩)
      · have : z = 2 := by
          rcases hz2 with ⟨h3, h4⟩ | ⟨_, _, h4⟩
          · omega
          · exact h4
        subst this
        exact ⟨rfl, hb3.size, fun k hk _ => hb3.block k hk, ns, byt, by omega, h2.below hb3⟩
      · exact absurd ((twice_map ns e).2 htw) htw2
    · refine ⟨0, A', n + 1, c', rfl, hb, Lib.hid fun w2 hb2 hgt => ?_⟩
      have h2 := h.below (hb.trans (hb2.mono hb.size))
      have ho2 := own_belowN ho hb2
      refine (put_any h2.t e hgt (by omega)).mono ?_
      rintro x w3 (⟨z, hz2, rfl, hb3⟩ | ⟨he, htw2, rfl, N, H, _, _, hN, h3, h4⟩)
      · exfalso
        rcases hz2 with ⟨h3, h4⟩ | ⟨_, h3, _⟩
        · omega
        · exact htw ((twice_map ns e).1 h3)
      · have hl : (pre ns e.k e.seq ++ (⟨N, e, ns.length, H⟩ : Nd) :: post ns e.k e.seq).length = ns.length + 1 := by
          have := congrArg List.length (pre_post ns e.k e.seq)
          simp only [List.length_append, List.length_cons] at this ⊢
          omega
        have hr := own_mod h2.t ho2 h4
        refine ⟨rfl, h4.size, h4.block, _, _, by rw [hl]; omega, h3, h.v.put he N H, by rw [hl]; omega, by rw [tot_put, h.bytes], ?_⟩
        rw [put_map]
        exact own_base hr h.t.bel.size
  · refine (refput_bad (z := entryErr e) rfl (by simpa using hz)).mono ?_
    rintro x w1 ⟨rfl, hb⟩
    refine ⟨entryErr e, A, n, c, rfl, hb, Lib.hid fun w2 hb2 hgt => ?_⟩
    have h2 := h.below (hb.trans (hb2.mono hb.size))
    refine (put_any h2.t e hgt (by omega)).mono ?_
    rintro x w3 (⟨z, hz2, rfl, hb3⟩ | ⟨he, _⟩)
    · have : z = entryErr e := by
        rcases hz2 with ⟨_, h4⟩ | ⟨h3, _⟩
        · exact h4.symm
        · exact absurd h3 hz
      subst this
      exact ⟨rfl, hb3.size, fun k hk _ => hb3.block k hk, ns, byt, by omega, h2.below hb3⟩
    · exact absurd he hz
theorem eq_same (w : World) (x : En) : (binOp .eql 30 (.agg #[.string x.key, .int .i64 x.seq, .bool x.del, .string x.val]) (.agg #[.string x.key, .int .i64 x.seq, .bool x.del, .string x.val])).run Try.prog w = .ok (.bool true) w := by
  rw [eq_entry, (enEq_iff x x).2 rfl]
/-- What play answers. -/
def PlRet (w0 w : World) (T : Nat) (ns : List Nd) (n0 : Nat) (x : Ending) (w' : World) : Prop := w.heap.size ≤ w'.heap.size ∧ (∀ k, k < w.heap.size → ¬ Own T ns k → w'.heap[k]? = w.heap[k]?) ∧ ∃ A' n' c' ns' byt', x = .returned (.tuple #[.slice A' n' c', .bool true]) ∧ ns'.length ≤ n0 + 1 ∧ Pl w0 w' T ns' byt' A' n' c'
set_option maxRecDepth 100000 in
set_option maxHeartbeats 1600000 in
theorem play_any (h : Pl w0 w T ns byt A n c) (hn : n ≤ 100) (ask : Bool) (e : En) (hgt : Int) :
    Calls Try.prog 9 #[.pointer (some ⟨T, 0, none⟩), .slice A n c, .agg #[.bool ask, .string e.key, .int .i64 e.seq, .bool e.del, .string e.val, .int .i64 hgt]] w (PlRet w0 w T ns ns.length) := by
  have hw0 := h.t.bel.size
  obtain ⟨W8, hW8⟩ : ∃ W8, W8 = w.alloc (.cells #[.bool ask, .string e.key, .int .i64 e.seq, .bool e.del, .string e.val, .int .i64 hgt] 32) := ⟨_, rfl⟩
  have hE8 : Blk W8 w.heap.size 32 #[.bool ask, .string e.key, .int .i64 e.seq, .bool e.del, .string e.val, .int .i64 hgt] := by rw [hW8]; exact Blk.new _ _ _
  have hB8 : Below w.heap.size w W8 := by rw [hW8]; exact (Below.refl _ _).alloc (Nat.le_refl _) _
  have hp8 := h.below hB8
  have hlen := h.len
  have hc8 := fun W (hW : Below W8.heap.size W8 W) => opc_cells (hE8.same (hW.block _ hE8.lt))
  have HC := Lib.hid hc8
  have HP := Lib.hid hp8
  have HB8 := Lib.hid hB8
  obtain ⟨c0, c1, c2, c3, c4, c5⟩ := opc_cells hE8
  clear hc8 h hp8 hE8
  cases ask
  · go_enter Try.func9, Try.ntmps9
    go_upto_region 1 with fail
    rw [← hW8]
    obtain ⟨O, hO⟩ : ∃ O, O = w.heap.size := ⟨_, rfl⟩
    rw [← hO] at c0 c1 c2 c3 c4 c5 HC ⊢
    clear hW8 hB8 hO
    go_wp2_with (first
      | (go_at_call 18; refine (rp_any HP.out hn e).mono ?_; rintro x w1 ⟨z, A', n', c', rfl, hb1, HM⟩; obtain ⟨d0, d1, d2, d3, d4, d5⟩ := HC.out w1 hb1)
      | (go_at_call 16; refine (HM.out _ (Below.refl _ _) hgt).mono ?_; rintro x w3 ⟨rfl, hsz3, hbk3, ns', byt', hn', hP'⟩))
    (try simp only [Exit.inBlock, Exit.then])
    refine bodyPost_ret (results_tmp2 rfl _ _ _) rfl ?_
    have hbw : Below w.heap.size w w1 := HB8.out.trans (hb1.mono HB8.out.size)
    exact ⟨Nat.le_trans hbw.size hsz3, fun k hk hk2 => (hbk3 k (Nat.lt_of_lt_of_le hk hbw.size) hk2).trans (hbw.block k hk), A', n', c', ns', byt', by simp, hn', hP'⟩
  · have hs := get_seen HP.out.t.rep.sorted e.key.toList e.seq
    have hg1 := get_any HP.out.t.rep HP.out.t.good e.key e.seq
    have hg2 := fun W (hW : Below W8.heap.size W8 W) => refget_any (k := e.key) (q := e.seq) (c := c) (by rw [List.length_map, hlen]) (by omega) (rd_ownN (HP.out.below hW).row) HP.out.t.rep.sorted.ents
    rw [← hs.1, ← hs.2] at hg2
    obtain ⟨re, hre⟩ : ∃ re, re = getE ns e.key.toList e.seq := ⟨_, rfl⟩
    obtain ⟨ok, hok⟩ : ∃ ok, ok = (getN ns e.key.toList e.seq).isSome := ⟨_, rfl⟩
    rw [← hre, ← hok] at hg1 hg2
    have HG1 := Lib.hid hg1
    have HG2 := Lib.hid hg2
    clear hg1 hg2 hs hre hok
    go_enter Try.func9, Try.ntmps9
    go_upto_region 1 with fail
    rw [← hW8]
    obtain ⟨O, hO⟩ : ∃ O, O = w.heap.size := ⟨_, rfl⟩
    rw [← hO] at c0 c1 c2 c3 c4 c5 HC ⊢
    clear hW8 hB8 hO
    go_upto_region 2 with fail
    go_upto_region 3 with (go_at_call 15; go_loud (refine HG1.out.mono ?_; rintro x w6 ⟨rfl, hb6⟩))
    obtain ⟨W9, hW9⟩ : ∃ W9, W9 = w6.alloc (.cells #[.string re.key, .int .i64 re.seq, .bool re.del, .string re.val] 30) := ⟨_, rfl⟩
    have hE9 : Blk W9 w6.heap.size 30 #[.string re.key, .int .i64 re.seq, .bool re.del, .string re.val] := by rw [hW9]; exact Blk.new _ _ _
    have hB9 : Below W8.heap.size W8 W9 := by rw [hW9]; exact hb6.alloc hb6.size _
    rw [← hW9]
    obtain ⟨a, ha⟩ : ∃ a, a = w6.heap.size := ⟨_, rfl⟩
    rw [← ha] at hE9 ⊢
    have HB9 := Lib.hid hB9
    have HE9 := Lib.hid hE9
    clear c0 c1 c2 c3 c4 c5
    obtain ⟨c0, c1, c2, c3, c4, c5⟩ := HC.out W9 hB9
    clear hW9 ha hb6 hB9 hE9
    go_upto_region 4 with (go_at_call 17; refine (HG2.out _ HB9.out).mono ?_; rintro x w7 ⟨rfl, hb7⟩)
    obtain ⟨W10, hW10⟩ : ∃ W10, W10 = w7.alloc (.cells #[.string re.key, .int .i64 re.seq, .bool re.del, .string re.val] 30) := ⟨_, rfl⟩
    have hE10 : Blk W10 w7.heap.size 30 #[.string re.key, .int .i64 re.seq, .bool re.del, .string re.val] := by rw [hW10]; exact Blk.new _ _ _
    have hB10 : Below W9.heap.size W9 W10 := by rw [hW10]; exact hb7.alloc hb7.size _
    rw [← hW10]
    obtain ⟨b, hb⟩ : ∃ b, b = w7.heap.size := ⟨_, rfl⟩
    rw [← hb] at hE10 ⊢
    have HB10 := Lib.hid (HB9.out.trans (hB10.mono HB9.out.size))
    obtain ⟨⟨x0, x1, x2, x3⟩, _⟩ := cells4 (HE9.out.same (hB10.block _ HE9.out.lt))
    obtain ⟨⟨y0, y1, y2, y3⟩, _⟩ := cells4 hE10
    have z0 := fun (W : World) => eq_same W re
    clear c0 c1 c2 c3 c4 c5 hW10 hb hb7 hB10 hE10
    cases ok
    · go_wp2
      (try simp only [Exit.inBlock, Exit.then])
      refine bodyPost_ret (results_tmp2 rfl _ _ _) rfl ?_
      have hbw := HB8.out.trans (HB10.out.mono HB8.out.size)
      exact ⟨hbw.size, fun k hk _ => hbw.block k hk, A, n, c, ns, byt, rfl, by omega, HP.out.below HB10.out⟩
    · go_wp2
      (try simp only [Exit.inBlock, Exit.then])
      refine bodyPost_ret (results_tmp2 rfl _ _ _) rfl ?_
      have hbw := HB8.out.trans (HB10.out.mono HB8.out.size)
      exact ⟨hbw.size, fun k hk _ => hbw.block k hk, A, n, c, ns, byt, rfl, by omega, HP.out.below HB10.out⟩
end
end Mm
end Go.Proofs.Ytfnfjhfmhinkcaa
