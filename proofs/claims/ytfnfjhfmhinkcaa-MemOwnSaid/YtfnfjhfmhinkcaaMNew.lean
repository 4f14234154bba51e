/-
  WHAT IS PROVED: MemNewest holds for every script. CONDITIONS: the script stands in memory as named.
-/
import Derived.Test.YtfnfjhfmhinkcaaMEq
namespace Go.Proofs.Ytfnfjhfmhinkcaa
open Go Go.RowKit Go.Maps Go.Sort Go.Proofs.Ytfnfjhfmhinkcaa.Fr
namespace Mm

/-- What is taken so far: the table and the row of entries hold the same ones. -/
def NInv (w0 : World) (T len : Nat) (s8 s9 : Value) (wr : World) : Prop :=
  ∃ (i : Nat) (A : Option Addr) (n c : Nat) (acc : List En) (ns : List Nd) (byt : Int), i ≤ len ∧ i ≤ 100 ∧ s9 = .int .i64 ((i : Nat) : Int) ∧ s8 = .slice A n c ∧ acc.length = n ∧ n ≤ i ∧ ns.length ≤ i ∧ (∀ e, e ∈ acc ↔ ∃ m ∈ ns, m.e = e) ∧
    Hid (wr.ownsRow w0.heap.size 30 4 (.slice A n c) n (ev acc)) ∧ Hid (Tb w0 wr T ns byt)
theorem yes_eq (w0 : World) {g p : Nat} {m : MOp} (hg : g < w0.heap.size) (h : OpC w0 g p m) : ∀ W, Below w0.heap.size w0 W → OpC W g p m := fun _ hb => h.below hg hb
theorem OpC.drew {W : World} {g p : Nat} {m : MOp} (h : OpC W g p m) : OpC W.drew g p m := h
theorem put_z {w0 w : World} {T : Nat} {ns : List Nd} {byt : Int} (h : Tb w0 w T ns byt) (hn : ns.length ≤ 100) (e : En) (hgt : Int) :
    Calls Try.prog 16 #[.pointer (some ⟨T, 0, none⟩), .agg #[.string e.key, .int .i64 e.seq, .bool e.del, .string e.val], .int .i64 hgt] w fun x w' => ∃ z, x = .returned (.int .i64 z) ∧ Below w0.heap.size w0 w' ∧
      Hid ((z ≠ 0 ∧ Below w.heap.size w w') ∨ (z = 0 ∧ entryErr e = 0 ∧ ∃ N H, Tb w0 w' T (pre ns e.k e.seq ++ ⟨N, e, ns.length, H⟩ :: post ns e.k e.seq) (byt + ((e.key.size : Int) + (e.val.size : Int))) ∧ Mod (Own T ns) w w')) := by
  refine (put_any h e hgt (by omega)).mono ?_
  rintro x w' (⟨z, hz, hx, hb⟩ | ⟨he, _, hx, N, H, _, _, _, h1, h2⟩)
  · refine ⟨z, hx, h.bel.trans (hb.mono h.bel.size), .inl ⟨?_, hb⟩⟩
    rcases hz with ⟨h1, _⟩ | ⟨_, _, h1⟩
    · exact h1
    · omega
  · exact ⟨0, hx, h1.bel, .inr ⟨rfl, he, N, H, h1, h2⟩⟩
theorem mem_new {ns : List Nd} {acc : List En} {e : En} {N H o : Nat} (h : ∀ x, x ∈ acc ↔ ∃ m ∈ ns, m.e = x) : ∀ x, x ∈ acc ++ [e] ↔ ∃ m ∈ pre ns e.k e.seq ++ (⟨N, e, o, H⟩ : Nd) :: post ns e.k e.seq, m.e = x := fun x => by
  rw [List.mem_append, List.mem_singleton, h]
  constructor
  · rintro (⟨m, hm, rfl⟩ | rfl)
    · rw [← pre_post ns e.k e.seq] at hm
      refine ⟨m, ?_, rfl⟩
      rcases List.mem_append.1 hm with hm | hm
      · exact List.mem_append.2 (.inl hm)
      · exact List.mem_append.2 (.inr (List.mem_cons_of_mem _ hm))
    · exact ⟨⟨N, x, o, H⟩, by simp, rfl⟩
  · rintro ⟨m, hm, rfl⟩
    rcases List.mem_append.1 hm with hm | hm
    · exact .inl ⟨m, by rw [← pre_post ns e.k e.seq]; exact List.mem_append.2 (.inl hm), rfl⟩
    · rcases List.mem_cons.1 hm with rfl | hm
      · exact .inr rfl
      · exact .inl ⟨m, by rw [← pre_post ns e.k e.seq]; exact List.mem_append.2 (.inr hm), rfl⟩
theorem len_new {ns : List Nd} {e : En} {N H o i : Nat} (h : ns.length ≤ i) : (pre ns e.k e.seq ++ (⟨N, e, o, H⟩ : Nd) :: post ns e.k e.seq).length ≤ i + 1 := by
  have h1 : (pre ns e.k e.seq ++ post ns e.k e.seq).length = ns.length := by rw [pre_post]
  simp only [List.length_append, List.length_cons] at h1 ⊢
  omega
/-- WHAT Get ANSWERS, of the entries that were taken. -/
theorem get_says {ns : List Nd} {acc : List En} {k : ByteArray} {q : Int} (hs : Sorted ns) (hm : ∀ e, e ∈ acc ↔ ∃ m ∈ ns, m.e = e) :
    ((getN ns k.toList q).isSome = true → getE ns k.toList q ∈ acc ∧ (getE ns k.toList q).k = k.toList ∧ (getE ns k.toList q).seq ≤ q) ∧ ((getN ns k.toList q).isSome = false → getE ns k.toList q = noE) ∧
    (∀ x ∈ acc, x.k = k.toList → x.seq ≤ q → (getN ns k.toList q).isSome = true ∧ x.seq ≤ (getE ns k.toList q).seq) := by
  have hnb : ∀ m r, post ns k.toList q = m :: r → ¬ bef m.e k.toList q := fun m r h => post_head h
  refine ⟨fun h => ?_, fun h => ?_, fun x hx hk hq => ?_⟩
  · obtain ⟨m, hm2⟩ := Option.isSome_iff_exists.1 h
    have hE : getE ns k.toList q = m.e := by unfold getE; rw [hm2]; rfl
    rw [hE]
    unfold getN at hm2
    cases hp : post ns k.toList q with
    | nil => rw [hp] at hm2; simp at hm2
    | cons m' r =>
      rw [hp] at hm2
      simp only [List.head?_cons, Option.filter_some, Option.ite_none_right_eq_some, decide_eq_true_eq, Option.some.injEq] at hm2
      obtain ⟨hk, rfl⟩ := hm2
      refine ⟨(hm _).2 ⟨m', by rw [← pre_post ns k.toList q, hp]; simp, rfl⟩, hk, ?_⟩
      have := hnb m' r hp
      unfold bef at this
      have h2 : ¬ q < m'.e.seq := fun h3 => this (.inr ⟨hk, h3⟩)
      omega
  · unfold getE
    rw [Option.isSome_eq_false_iff, Option.isNone_iff_eq_none] at h
    rw [h]
    rfl
  · obtain ⟨y, hy, rfl⟩ := (hm x).1 hx
    have hyb : ¬ bef y.e k.toList q := by
      rintro (h | ⟨_, h⟩)
      · rw [hk] at h; exact absurd h (List.lt_irrefl _)
      · omega
    have hyp : y ∈ post ns k.toList q := by
      rw [← pre_post ns k.toList q] at hy
      rcases List.mem_append.1 hy with h | h
      · exact absurd (pre_bef y h) hyb
      · exact h
    cases hp : post ns k.toList q with
    | nil => rw [hp] at hyp; cases hyp
    | cons m r =>
      rw [hp] at hyp
      have hmb := hnb m r hp
      have hmid : ∀ x ∈ r, bef m.e x.e.k x.e.seq := by
        have h1 := hs
        rw [← pre_post ns k.toList q, hp] at h1
        exact (Sorted.mid h1).2
      have hboth : m.e.k = k.toList ∧ y.e.seq ≤ m.e.seq := by
        rcases List.mem_cons.1 hyp with rfl | h
        · exact ⟨hk, Int.le_refl _⟩
        · rcases hmid y h with h1 | ⟨h1, h2⟩
          · rw [hk] at h1
            exact absurd (.inl h1) hmb
          · exact ⟨h1.trans hk, by omega⟩
      have hN : getN ns k.toList q = some m := by unfold getN; rw [hp]; simp [hboth.1]
      have hE : getE ns k.toList q = m.e := by unfold getE; rw [hN]; rfl
      rw [hN, hE]
      exact ⟨rfl, hboth.2⟩
def N2 (W7 : World) (acc : List En) (n1 : Nat) (re : En) (s12 s70 : Value) (W : World) : Prop :=
  ∃ (j : Nat) (fb : Bool), j ≤ n1 ∧ s70 = .int .i64 ((j : Nat) : Int) ∧ s12 = .bool fb ∧ (fb = true ↔ re ∈ acc.take j) ∧ Hid (Below W7.heap.size W7 W)
theorem eq_none (w : World) : (binOp .eql 30 (.agg #[.string ⟨#[]⟩, .int .i64 0, .bool false, .string ⟨#[]⟩]) (.agg #[.string ⟨#[]⟩, .int .i64 0, .bool false, .string ⟨#[]⟩])).run Try.prog w = .ok (.bool true) w := by
  have h := eq_entry w noE noE
  rw [show enEq noE noE = true from (enEq_iff _ _).2 rfl] at h
  exact h
theorem n2_step {acc : List En} {j : Nat} {x re : En} {fb b : Bool} (h : fb = true ↔ re ∈ acc.take j) (hx : acc[j]? = some x) (hb : enEq x re = b) : (fb || b) = true ↔ re ∈ acc.take (j + 1) := by
  rw [List.take_add_one, hx, Bool.or_eq_true, h, ← hb, enEq_iff]
  simp [eq_comm]
theorem ev_get : ∀ {acc : List En} {j : Nat} {x : En}, acc[j]? = some x → ∀ t, t < 4 → (ev acc)[j * 4 + t]? = (ecells x)[t]?
  | [], j, x, h, _, _ => by simp at h
  | a :: r, 0, x, h, t, ht => by
    have : a = x := by simpa using h
    subst this
    rw [Nat.zero_mul, Nat.zero_add, show ev (a :: r) = ecells a ++ ev r by simp [ev]]
    exact List.getElem?_append_left (by simpa [ecells] using ht)
  | a :: r, j + 1, x, h, t, ht => by
    rw [show ev (a :: r) = ecells a ++ ev r by simp [ev], List.getElem?_append_right (by simp [ecells]; omega)]
    have := ev_get (acc := r) (j := j) (x := x) (by simpa using h) t ht
    rw [← this]
    congr 1
    simp [ecells]
    omega
theorem row_cells {w w' : World} {base n c : Nat} {B : Option Addr} {acc : List En} {j : Nat} {x : En} (h : w.ownsRow base 30 4 (.slice B n c) n (ev acc)) (hb : Below w.heap.size w w') (hj : acc[j]? = some x) :
    ∃ g, B = some ⟨g, 0, none⟩ ∧ g < w'.heap.size ∧ w'.cell? ⟨g, j * 4, none⟩ = some (.string x.key) ∧ w'.cell? ⟨g, j * 4 + 1, none⟩ = some (.int .i64 x.seq) ∧ w'.cell? ⟨g, j * 4 + 2, none⟩ = some (.bool x.del) ∧ w'.cell? ⟨g, j * 4 + 3, none⟩ = some (.string x.val) := by
  have he := ev_get hj
  rcases h.2 with ⟨h1, h2⟩ | ⟨g, cap, cur, h1, _, hg, _, _, _, h2⟩
  · have h3 := h.1
    have h4 := he 0 (by omega)
    rw [List.getElem?_eq_none (by omega)] at h4
    cases h4
  · cases h1
    have hblk : Blk w' g 30 cur := (show Blk w g 30 cur from hg).same (hb.block g (Blk.lt (t := 30) (cs := cur) hg))
    have key : ∀ t, t < 4 → w'.cell? ⟨g, j * 4 + t, none⟩ = (ecells x)[t]? := fun t ht => by
      rw [hblk.cell, ← he t ht, ← h2]
      have hlt : j * 4 + t < n * 4 := by
        have h4 := he t ht
        have h5 : (ecells x)[t]?.isSome := by match t, ht with | 0, _ | 1, _ | 2, _ | 3, _ => rfl
        rw [← h4] at h5
        have h6 : j * 4 + t < (ev acc).length := by
          rcases Nat.lt_or_ge (j * 4 + t) (ev acc).length with h7 | h7
          · exact h7
          · rw [List.getElem?_eq_none h7] at h5; cases h5
        rw [h.1] at h6
        exact h6
      rw [List.getElem?_take_of_lt hlt, Array.getElem?_toList]
    exact ⟨g, rfl, hblk.lt, key 0 (by omega), key 1 (by omega), key 2 (by omega), key 3 (by omega)⟩
section
variable {w0 : World} {A : Option Addr} {L : List MOp} {k : ByteArray} {q : Int}
set_option maxRecDepth 100000 in
set_option maxHeartbeats 6400000 in
theorem newest_any (h : MScript w0 A L) (n c : Nat) (hl : L.length = n) :
    Calls Try.prog 5 #[.slice A n c, .string k, .int .i64 q] w0 (Yes w0) := by
  have hc1 := new_any w0
  obtain ⟨ie, hie, hiz, hiz1, hiz2⟩ := info_parts info_entry
  have HS := Lib.hid h
  have HL := Lib.hid hl
  clear h
  go_enter Try.func5, Try.ntmps5
  go_wp2_with (first
    | (go_at_call 7; refine hc1.mono ?_; rintro e w1 ⟨rfl, hp1, hp2⟩; have ht1 := Tb.made rfl hp1 hp2; clear hp1 hp2)
    | (go_at_call 8; refine (awake_any w1).mono ?_; rintro e w2 ⟨rfl, hb2⟩; have ht2 := ht1.below hb2))
  go_loopw [8, 9] (NInv w0 w0.heap.size n) (fun _ x _ => n - (intOf x).toNat)
  case atStart => exact ⟨0, none, 0, 0, [], [], 0, by omega, by omega, rfl, rfl, rfl, by omega, by simp, by simp, Lib.hid ⟨rfl, .inl ⟨rfl, rfl⟩⟩, Lib.hid (ht2.below (by first | exact Below.refl _ _ | exact below_drewN (Below.refl _ _) 1))⟩
  case round =>
    obtain ⟨i, B, n1, c1, acc, ns, byt, hin, hi100, rfl, rfl, hac, hn1, hns, hmem, HR, HTB⟩ := hrel
    by_cases hlt : i < n ∧ i < 100
    · obtain ⟨hlt, hlt2⟩ := hlt
      obtain ⟨m, hm⟩ : ∃ m, L[i]? = some m := ⟨L[i]'(by omega), List.getElem?_eq_getElem _⟩
      obtain ⟨g, p, rfl, hg, hop⟩ := HS.out.cell i m hm
      have HO := Lib.hid (fun W hW => yes_eq w0 hg hop W hW)
      have k1 : (i : Int) < (n : Int) := by omega
      have k2 : (i : Int) < 100 := by omega
      have k3 : (0 : Int) ≤ (i : Int) := by omega
      have hS0 : OpC wr g (p + i * 6) m := HO.out wr HTB.out.bel
      obtain ⟨ask, e, hgt⟩ := m
      have HM := Lib.hid hm
      clear hm hop
      cases ask
      · go_upto_region 8 with fail
        refine wp_region_held_drew (S := (fun W => OpC W g (p + i * 6) ⟨false, e, hgt⟩)) (by kernel_rfl) (by (first | (with_reducible assumption) | (with_reducible exact OpC.drew (by assumption)))) (fun hHeld => ?_)
        refine wpAnyH_take (i := 0) (v := ?vr1_0) (Fr.take_at rfl) (by kernel_rfl) (by kernel_rfl) (by kernel_rfl) (fun _ _ _ h => h) (Or.inl ⟨by rfl, ?yr1_0⟩) (by assumption) ?nr1_0
        case yr1_0 => (intro w_ hSw; obtain ⟨q0, q1, q2, q3, q4, q5⟩ := hSw; go_simp; (try with_reducible rfl))
        try simp only [Act.put, List.setIfInBounds_toArray, List.set_cons_zero, List.set_cons_succ]
        refine wpAnyH_take (i := 1) (v := ?vr1_1) (Fr.take_at rfl) (by kernel_rfl) (by kernel_rfl) (by kernel_rfl) (fun _ _ _ h => h) (Or.inl ⟨by rfl, ?yr1_1⟩) (by assumption) ?nr1_1
        case yr1_1 => (intro w_ hSw; obtain ⟨q0, q1, q2, q3, q4, q5⟩ := hSw; go_simp; (try with_reducible rfl))
        try simp only [Act.put, List.setIfInBounds_toArray, List.set_cons_zero, List.set_cons_succ]
        refine wpAnyH_take (i := 2) (v := ?vr1_2) (Fr.take_at rfl) (by kernel_rfl) (by kernel_rfl) (by kernel_rfl) (fun _ _ _ h => h) (Or.inl ⟨by rfl, ?yr1_2⟩) (by assumption) ?nr1_2
        case yr1_2 => (intro w_ hSw; obtain ⟨q0, q1, q2, q3, q4, q5⟩ := hSw; go_simp; (try with_reducible rfl))
        try simp only [Act.put, List.setIfInBounds_toArray, List.set_cons_zero, List.set_cons_succ]
        refine wpAnyH_take (i := 3) (v := ?vr1_3) (Fr.take_at rfl) (by kernel_rfl) (by kernel_rfl) (by kernel_rfl) (fun _ _ _ h => h) (Or.inl ⟨by rfl, ?yr1_3⟩) (by assumption) ?nr1_3
        case yr1_3 => (intro w_ hSw; obtain ⟨q0, q1, q2, q3, q4, q5⟩ := hSw; go_simp; (try with_reducible rfl))
        try simp only [Act.put, List.setIfInBounds_toArray, List.set_cons_zero, List.set_cons_succ]
        refine wpAnyH_take (i := 4) (v := ?vr1_4) (Fr.take_at rfl) (by kernel_rfl) (by kernel_rfl) (by kernel_rfl) (fun _ _ _ h => h) (Or.inl ⟨by rfl, ?yr1_4⟩) (by assumption) ?nr1_4
        case yr1_4 => (intro w_ hSw; obtain ⟨q0, q1, q2, q3, q4, q5⟩ := hSw; go_simp; (try with_reducible rfl))
        try simp only [Act.put, List.setIfInBounds_toArray, List.set_cons_zero, List.set_cons_succ]
        refine wpAnyH_take (i := 5) (v := ?vr1_5) (Fr.take_at rfl) (by kernel_rfl) (by kernel_rfl) (by kernel_rfl) (fun _ _ _ h => h) (Or.inl ⟨by rfl, ?yr1_5⟩) (by assumption) ?nr1_5
        case yr1_5 => (intro w_ hSw; obtain ⟨q0, q1, q2, q3, q4, q5⟩ := hSw; go_simp; (try with_reducible rfl))
        try simp only [Act.put, List.setIfInBounds_toArray, List.set_cons_zero, List.set_cons_succ]
        refine wpAnyH_take (i := 6) (v := ?vr1_6) (Fr.take_at rfl) (by kernel_rfl) (by kernel_rfl) (by kernel_rfl) (fun _ _ _ h => h) (Or.inl ⟨by rfl, ?yr1_6⟩) (by assumption) ?nr1_6
        case yr1_6 => (intro w_ hSw; obtain ⟨q0, q1, q2, q3, q4, q5⟩ := hSw; go_simp; (try with_reducible rfl))
        try simp only [Act.put, List.setIfInBounds_toArray, List.set_cons_zero, List.set_cons_succ]
        refine wpAnyH_take (i := 7) (v := ?vr1_7) (Fr.take_at rfl) (by kernel_rfl) (by kernel_rfl) (by kernel_rfl) (fun _ _ _ h => h) (Or.inl ⟨by rfl, ?yr1_7⟩) (by assumption) ?nr1_7
        case yr1_7 => (intro w_ hSw; obtain ⟨q0, q1, q2, q3, q4, q5⟩ := hSw; go_simp; (try with_reducible rfl))
        try simp only [Act.put, List.setIfInBounds_toArray, List.set_cons_zero, List.set_cons_succ]
        refine wpAnyH_take (i := 8) (v := ?vr1_8) (Fr.take_at rfl) (by kernel_rfl) (by kernel_rfl) (by kernel_rfl) (fun _ _ _ h => h) (Or.inl ⟨by rfl, ?yr1_8⟩) (by assumption) ?nr1_8
        case yr1_8 => (intro w_ hSw; obtain ⟨q0, q1, q2, q3, q4, q5⟩ := hSw; go_simp; (try with_reducible rfl))
        try simp only [Act.put, List.setIfInBounds_toArray, List.set_cons_zero, List.set_cons_succ]
        refine wpAnyH_take (i := 9) (v := ?vr1_9) (Fr.take_at rfl) (by kernel_rfl) (by kernel_rfl) (by kernel_rfl) (fun _ _ _ h => h) (Or.inl ⟨by rfl, ?yr1_9⟩) (by assumption) ?nr1_9
        case yr1_9 => (intro w_ hSw; obtain ⟨q0, q1, q2, q3, q4, q5⟩ := hSw; go_simp; (try with_reducible rfl))
        try simp only [Act.put, List.setIfInBounds_toArray, List.set_cons_zero, List.set_cons_succ]
        refine wpAnyH_take (i := 10) (v := ?vr1_10) (Fr.take_at rfl) (by kernel_rfl) (by kernel_rfl) (by kernel_rfl) (fun _ _ _ h => h) (Or.inl ⟨by rfl, ?yr1_10⟩) (by assumption) ?nr1_10
        case yr1_10 => (intro w_ hSw; obtain ⟨q0, q1, q2, q3, q4, q5⟩ := hSw; go_simp; (try with_reducible rfl))
        try simp only [Act.put, List.setIfInBounds_toArray, List.set_cons_zero, List.set_cons_succ]
        refine wpAnyH_take (i := 11) (v := ?vr1_11) (Fr.take_at rfl) (by kernel_rfl) (by kernel_rfl) (by kernel_rfl) (fun _ _ _ h => h) (Or.inl ⟨by rfl, ?yr1_11⟩) (by assumption) ?nr1_11
        case yr1_11 => (intro w_ hSw; obtain ⟨q0, q1, q2, q3, q4, q5⟩ := hSw; go_simp; (try with_reducible rfl))
        try simp only [Act.put, List.setIfInBounds_toArray, List.set_cons_zero, List.set_cons_succ]
        refine wpAnyH_take (i := 12) (v := ?vr1_12) (Fr.take_at rfl) (by kernel_rfl) (by kernel_rfl) (by kernel_rfl) (fun _ _ _ h => h) (Or.inl ⟨by rfl, ?yr1_12⟩) (by assumption) ?nr1_12
        case yr1_12 => (intro w_ hSw; obtain ⟨q0, q1, q2, q3, q4, q5⟩ := hSw; go_simp; (try with_reducible rfl))
        try simp only [Act.put, List.setIfInBounds_toArray, List.set_cons_zero, List.set_cons_succ]
        refine wpAnyH_take (i := 13) (v := ?vr1_13) (Fr.take_at rfl) (by kernel_rfl) (by kernel_rfl) (by kernel_rfl) (fun _ _ _ h => h) (Or.inl ⟨by rfl, ?yr1_13⟩) (by assumption) ?nr1_13
        case yr1_13 => (intro w_ hSw; obtain ⟨q0, q1, q2, q3, q4, q5⟩ := hSw; go_simp; (try with_reducible rfl))
        try simp only [Act.put, List.setIfInBounds_toArray, List.set_cons_zero, List.set_cons_succ]
        refine wpAnyH_take (i := 14) (v := ?vr1_14) (Fr.take_at rfl) (by kernel_rfl) (by kernel_rfl) (by kernel_rfl) (fun _ _ _ h => h) (Or.inl ⟨by rfl, ?yr1_14⟩) (by assumption) ?nr1_14
        case yr1_14 => (intro w_ hSw; obtain ⟨q0, q1, q2, q3, q4, q5⟩ := hSw; go_simp; (try with_reducible rfl))
        try simp only [Act.put, List.setIfInBounds_toArray, List.set_cons_zero, List.set_cons_succ]
        refine wpAnyH_take (i := 15) (v := ?vr1_15) (Fr.take_at rfl) (by kernel_rfl) (by kernel_rfl) (by kernel_rfl) (fun _ _ _ h => h) (Or.inl ⟨by rfl, ?yr1_15⟩) (by assumption) ?nr1_15
        case yr1_15 => (intro w_ hSw; obtain ⟨q0, q1, q2, q3, q4, q5⟩ := hSw; go_simp; (try with_reducible rfl))
        try simp only [Act.put, List.setIfInBounds_toArray, List.set_cons_zero, List.set_cons_succ]
        refine wpAnyH_take (i := 16) (v := ?vr1_16) (Fr.take_at rfl) (by kernel_rfl) (by kernel_rfl) (by kernel_rfl) (fun _ _ _ h => h) (Or.inl ⟨by rfl, ?yr1_16⟩) (by assumption) ?nr1_16
        case yr1_16 => (intro w_ hSw; obtain ⟨q0, q1, q2, q3, q4, q5⟩ := hSw; go_simp; (try with_reducible rfl))
        try simp only [Act.put, List.setIfInBounds_toArray, List.set_cons_zero, List.set_cons_succ]
        refine wpAnyH_take (i := 17) (v := ?vr1_17) (Fr.take_at rfl) (by kernel_rfl) (by kernel_rfl) (by kernel_rfl) (fun _ _ _ h => h) (Or.inl ⟨by rfl, ?yr1_17⟩) (by assumption) ?nr1_17
        case yr1_17 => (intro w_ hSw; obtain ⟨q0, q1, q2, q3, q4, q5⟩ := hSw; go_simp; (try with_reducible rfl))
        try simp only [Act.put, List.setIfInBounds_toArray, List.set_cons_zero, List.set_cons_succ]
        refine wpAnyH_ready (rs := [18]) (by kernel_rfl) (by simp) ?_
        refine AllReadyH.cons (Fr.take_at rfl) (fun K hK => ?_) AllReadyH.nil
        go_simp
        (go_at_call 16; (refine (put_z (HTB.out.below (below_drewN (Below.refl _ _) 1)) (by omega) e hgt).mono ?_); rintro x w5 ⟨z, rfl, hb5, HZ⟩; have hS5 := HO.out w5 hb5)
        try go_wp2_with fail
        refine hK.out _ _ (by (first | (with_reducible assumption) | (with_reducible exact OpC.drew (by assumption)))) (fun hHeld => ?_)
        clear hK K
        try simp only [Act.put, List.setIfInBounds_toArray, List.set_cons_zero, List.set_cons_succ]
        refine wpAnyH_take (i := 19) (v := ?vr1_19) (Fr.take_at rfl) (by kernel_rfl) (by kernel_rfl) (by kernel_rfl) (fun _ _ _ h => h) (Or.inl ⟨by rfl, ?yr1_19⟩) (by assumption) ?nr1_19
        case yr1_19 => (intro w_ hSw; obtain ⟨q0, q1, q2, q3, q4, q5⟩ := hSw; go_simp; (try with_reducible rfl))
        try simp only [Act.put, List.setIfInBounds_toArray, List.set_cons_zero, List.set_cons_succ]
        refine wpAnyH_take (i := 20) (v := ?vr1_20) (Fr.take_at rfl) (by kernel_rfl) (by kernel_rfl) (by kernel_rfl) (fun _ _ _ h => h) (Or.inl ⟨by rfl, ?yr1_20⟩) (by assumption) ?nr1_20
        case yr1_20 => (intro w_ hSw; obtain ⟨q0, q1, q2, q3, q4, q5⟩ := hSw; go_simp; (try with_reducible rfl))
        try simp only [Act.put, List.setIfInBounds_toArray, List.set_cons_zero, List.set_cons_succ]
        refine wpAnyH_done (by kernel_rfl) ?_ _
        by_cases hz0 : z = 0
        · subst hz0
          obtain ⟨q0, q1, q2, q3, q4, q5⟩ := hS5
          have u2 : w5.cell? ⟨g, p + i * 6 + 1 + 1, none⟩ = some (.int .i64 e.seq) := q2
          have u3 : w5.cell? ⟨g, p + i * 6 + 1 + 2, none⟩ = some (.bool e.del) := q3
          have u4 : w5.cell? ⟨g, p + i * 6 + 1 + 3, none⟩ = some (.string e.val) := q4
          have q1' : w5.cell? ⟨g, p + i * 6 + 1, none⟩ = some (.string e.key) := q1
          have hz5 : entryErr e = 0 ∧ ∃ N H, Tb w0 w5 w0.heap.size (pre ns e.k e.seq ++ ⟨N, e, ns.length, H⟩ :: post ns e.k e.seq) (byt + ((e.key.size : Int) + (e.val.size : Int))) ∧ Mod (Own w0.heap.size ns) wr w5 := by
            rcases HZ.out with h1 | ⟨_, h0, N, H, h1, h2⟩
            · exact absurd rfl h1.1
            · exact ⟨h0, N, H, h1, ⟨h2.os, h2.tape, h2.output, h2.size, h2.block⟩⟩
          obtain ⟨he0, N, H, hT5, hM5⟩ := hz5
          have hown5 := own_mod HTB.out HR.out hM5
          have hsz5 := hT5.bel.size
          have HT5 := Lib.hid hT5
          have HO5 := Lib.hid hown5
          clear hT5 hM5 hown5
          go_wp2_with (at_builtin; refine wpList_appN _ rfl (.tmp 53) (.tmp 59) _ rfl w0.heap.size 30 ie _ 4 48 Try.underlying26 hie hiz hiz1 hiz2 rfl (by decide) _ n1 (ev acc) rfl (HO5.out.alloc _) ⟨_, 0, none⟩ 1 1 (ecells e) rfl rfl (one_cells _ _ _) (ecells_one _) (n1 + 1) rfl (by unfold maxLen; omega) (by omega) (by simp; omega) ?_; intro A9 c9 w9 hown9 hb9 hg9)
          go_roundw
          case rel =>
            have hb99 : Below w0.heap.size w5 w9 := ((Below.refl _ _).alloc hsz5 _).trans hb9
            exact ⟨i + 1, A9, n1 + 1, c9, acc ++ [e], _, _, by omega, by omega, by simp, rfl, by simp [hac], by omega, len_new hns, mem_new hmem, Lib.hid (by rw [ev_snoc]; exact hown9), Lib.hid (HT5.out.grown HO5.out hg9 hb99)⟩
          case measure => simp [intOf]; omega
        · have hz1 : (z == 0) = false := by simpa using hz0
          have hz5 : Below wr.heap.size wr w5 := by
            rcases HZ.out with h1 | ⟨h0, _⟩
            · exact (below_drewN (Below.refl _ _) 1).trans h1.2
            · exact absurd h0 hz0
          go_wp2
          go_roundw
          case rel => exact ⟨i + 1, B, n1, c1, acc, ns, byt, by omega, by omega, by simp, rfl, hac, by omega, by omega, hmem, Lib.hid (own_same HR.out fun k hk => hz5.block k (by obtain ⟨_, h1⟩ := own_blk HR.out hk; exact h1.lt)), Lib.hid (HTB.out.below hz5)⟩
          case measure => simp [intOf]; omega
      · go_upto_region 8 with fail
        refine wp_region_held_drew (S := (fun W => OpC W g (p + i * 6) ⟨true, e, hgt⟩)) (by kernel_rfl) (by (first | (with_reducible assumption) | (with_reducible exact OpC.drew (by assumption)))) (fun hHeld => ?_)
        refine wpAnyH_take (i := 0) (v := ?vr2_0) (Fr.take_at rfl) (by kernel_rfl) (by kernel_rfl) (by kernel_rfl) (fun _ _ _ h => h) (Or.inl ⟨by rfl, ?yr2_0⟩) (by assumption) ?nr2_0
        case yr2_0 => (intro w_ hSw; obtain ⟨q0, q1, q2, q3, q4, q5⟩ := hSw; go_simp; (try with_reducible rfl))
        try simp only [Act.put, List.setIfInBounds_toArray, List.set_cons_zero, List.set_cons_succ]
        refine wpAnyH_take (i := 1) (v := ?vr2_1) (Fr.take_at rfl) (by kernel_rfl) (by kernel_rfl) (by kernel_rfl) (fun _ _ _ h => h) (Or.inl ⟨by rfl, ?yr2_1⟩) (by assumption) ?nr2_1
        case yr2_1 => (intro w_ hSw; obtain ⟨q0, q1, q2, q3, q4, q5⟩ := hSw; go_simp; (try with_reducible rfl))
        try simp only [Act.put, List.setIfInBounds_toArray, List.set_cons_zero, List.set_cons_succ]
        refine wpAnyH_take (i := 2) (v := ?vr2_2) (Fr.take_at rfl) (by kernel_rfl) (by kernel_rfl) (by kernel_rfl) (fun _ _ _ h => h) (Or.inl ⟨by rfl, ?yr2_2⟩) (by assumption) ?nr2_2
        case yr2_2 => (intro w_ hSw; obtain ⟨q0, q1, q2, q3, q4, q5⟩ := hSw; go_simp; (try with_reducible rfl))
        try simp only [Act.put, List.setIfInBounds_toArray, List.set_cons_zero, List.set_cons_succ]
        refine wpAnyH_take (i := 3) (v := ?vr2_3) (Fr.take_at rfl) (by kernel_rfl) (by kernel_rfl) (by kernel_rfl) (fun _ _ _ h => h) (Or.inl ⟨by rfl, ?yr2_3⟩) (by assumption) ?nr2_3
        case yr2_3 => (intro w_ hSw; obtain ⟨q0, q1, q2, q3, q4, q5⟩ := hSw; go_simp; (try with_reducible rfl))
        try simp only [Act.put, List.setIfInBounds_toArray, List.set_cons_zero, List.set_cons_succ]
        refine wpAnyH_take (i := 4) (v := ?vr2_4) (Fr.take_at rfl) (by kernel_rfl) (by kernel_rfl) (by kernel_rfl) (fun _ _ _ h => h) (Or.inl ⟨by rfl, ?yr2_4⟩) (by assumption) ?nr2_4
        case yr2_4 => (intro w_ hSw; obtain ⟨q0, q1, q2, q3, q4, q5⟩ := hSw; go_simp; (try with_reducible rfl))
        try simp only [Act.put, List.setIfInBounds_toArray, List.set_cons_zero, List.set_cons_succ]
        refine wpAnyH_take (i := 5) (v := ?vr2_5) (Fr.take_at rfl) (by kernel_rfl) (by kernel_rfl) (by kernel_rfl) (fun _ _ _ h => h) (Or.inl ⟨by rfl, ?yr2_5⟩) (by assumption) ?nr2_5
        case yr2_5 => (intro w_ hSw; obtain ⟨q0, q1, q2, q3, q4, q5⟩ := hSw; go_simp; (try with_reducible rfl))
        try simp only [Act.put, List.setIfInBounds_toArray, List.set_cons_zero, List.set_cons_succ]
        refine wpAnyH_take (i := 6) (v := ?vr2_6) (Fr.take_at rfl) (by kernel_rfl) (by kernel_rfl) (by kernel_rfl) (fun _ _ _ h => h) (Or.inl ⟨by rfl, ?yr2_6⟩) (by assumption) ?nr2_6
        case yr2_6 => (intro w_ hSw; obtain ⟨q0, q1, q2, q3, q4, q5⟩ := hSw; go_simp; (try with_reducible rfl))
        try simp only [Act.put, List.setIfInBounds_toArray, List.set_cons_zero, List.set_cons_succ]
        refine wpAnyH_take (i := 7) (v := undef) (Fr.take_at rfl) (by kernel_rfl) (by kernel_rfl) (by kernel_rfl) (fun _ _ _ h => h) (Or.inr ⟨by rfl, rfl⟩) (by assumption) ?_
        try simp only [Act.put, List.setIfInBounds_toArray, List.set_cons_zero, List.set_cons_succ]
        refine wpAnyH_take (i := 8) (v := undef) (Fr.take_at rfl) (by kernel_rfl) (by kernel_rfl) (by kernel_rfl) (fun _ _ _ h => h) (Or.inr ⟨by rfl, rfl⟩) (by assumption) ?_
        try simp only [Act.put, List.setIfInBounds_toArray, List.set_cons_zero, List.set_cons_succ]
        refine wpAnyH_take (i := 9) (v := undef) (Fr.take_at rfl) (by kernel_rfl) (by kernel_rfl) (by kernel_rfl) (fun _ _ _ h => h) (Or.inr ⟨by rfl, rfl⟩) (by assumption) ?_
        try simp only [Act.put, List.setIfInBounds_toArray, List.set_cons_zero, List.set_cons_succ]
        refine wpAnyH_take (i := 10) (v := undef) (Fr.take_at rfl) (by kernel_rfl) (by kernel_rfl) (by kernel_rfl) (fun _ _ _ h => h) (Or.inr ⟨by rfl, rfl⟩) (by assumption) ?_
        try simp only [Act.put, List.setIfInBounds_toArray, List.set_cons_zero, List.set_cons_succ]
        refine wpAnyH_take (i := 11) (v := undef) (Fr.take_at rfl) (by kernel_rfl) (by kernel_rfl) (by kernel_rfl) (fun _ _ _ h => h) (Or.inr ⟨by rfl, rfl⟩) (by assumption) ?_
        try simp only [Act.put, List.setIfInBounds_toArray, List.set_cons_zero, List.set_cons_succ]
        refine wpAnyH_take (i := 12) (v := undef) (Fr.take_at rfl) (by kernel_rfl) (by kernel_rfl) (by kernel_rfl) (fun _ _ _ h => h) (Or.inr ⟨by rfl, rfl⟩) (by assumption) ?_
        try simp only [Act.put, List.setIfInBounds_toArray, List.set_cons_zero, List.set_cons_succ]
        refine wpAnyH_take (i := 13) (v := undef) (Fr.take_at rfl) (by kernel_rfl) (by kernel_rfl) (by kernel_rfl) (fun _ _ _ h => h) (Or.inr ⟨by rfl, rfl⟩) (by assumption) ?_
        try simp only [Act.put, List.setIfInBounds_toArray, List.set_cons_zero, List.set_cons_succ]
        refine wpAnyH_take (i := 14) (v := undef) (Fr.take_at rfl) (by kernel_rfl) (by kernel_rfl) (by kernel_rfl) (fun _ _ _ h => h) (Or.inr ⟨by rfl, rfl⟩) (by assumption) ?_
        try simp only [Act.put, List.setIfInBounds_toArray, List.set_cons_zero, List.set_cons_succ]
        refine wpAnyH_take (i := 15) (v := undef) (Fr.take_at rfl) (by kernel_rfl) (by kernel_rfl) (by kernel_rfl) (fun _ _ _ h => h) (Or.inr ⟨by rfl, rfl⟩) (by assumption) ?_
        try simp only [Act.put, List.setIfInBounds_toArray, List.set_cons_zero, List.set_cons_succ]
        refine wpAnyH_take (i := 16) (v := undef) (Fr.take_at rfl) (by kernel_rfl) (by kernel_rfl) (by kernel_rfl) (fun _ _ _ h => h) (Or.inr ⟨by rfl, rfl⟩) (by assumption) ?_
        try simp only [Act.put, List.setIfInBounds_toArray, List.set_cons_zero, List.set_cons_succ]
        refine wpAnyH_take (i := 17) (v := undef) (Fr.take_at rfl) (by kernel_rfl) (by kernel_rfl) (by kernel_rfl) (fun _ _ _ h => h) (Or.inr ⟨by rfl, rfl⟩) (by assumption) ?_
        try simp only [Act.put, List.setIfInBounds_toArray, List.set_cons_zero, List.set_cons_succ]
        refine wpAnyH_take (i := 18) (v := undef) (Fr.take_at rfl) (by kernel_rfl) (by kernel_rfl) (by kernel_rfl) (fun _ _ _ h => h) (Or.inr ⟨by rfl, rfl⟩) (by assumption) ?_
        try simp only [Act.put, List.setIfInBounds_toArray, List.set_cons_zero, List.set_cons_succ]
        refine wpAnyH_take (i := 19) (v := undef) (Fr.take_at rfl) (by kernel_rfl) (by kernel_rfl) (by kernel_rfl) (fun _ _ _ h => h) (Or.inr ⟨by rfl, rfl⟩) (by assumption) ?_
        try simp only [Act.put, List.setIfInBounds_toArray, List.set_cons_zero, List.set_cons_succ]
        refine wpAnyH_take (i := 20) (v := ?vr2_20) (Fr.take_at rfl) (by kernel_rfl) (by kernel_rfl) (by kernel_rfl) (fun _ _ _ h => h) (Or.inl ⟨by rfl, ?yr2_20⟩) (by assumption) ?nr2_20
        case yr2_20 => (intro w_ hSw; obtain ⟨q0, q1, q2, q3, q4, q5⟩ := hSw; go_simp; (try with_reducible rfl))
        try simp only [Act.put, List.setIfInBounds_toArray, List.set_cons_zero, List.set_cons_succ]
        refine wpAnyH_done (by kernel_rfl) ?_ _
        go_wp2
        go_roundw
        case rel => exact ⟨i + 1, B, n1, c1, acc, ns, byt, by omega, by omega, by simp, rfl, hac, by omega, by omega, hmem, Lib.hid (own_same HR.out fun _ _ => rfl), Lib.hid (HTB.out.below (below_drewN (Below.refl _ _) 1))⟩
        case measure => simp [intOf]; omega
    · have hG := get_any HTB.out.rep HTB.out.good k q
      have HP := Lib.hid (get_says HTB.out.rep.sorted hmem (k := k) (q := q))
      obtain ⟨re, hre⟩ : ∃ re, re = getE ns k.toList q := ⟨_, rfl⟩
      obtain ⟨ok, hok⟩ : ∃ ok, ok = (getN ns k.toList q).isSome := ⟨_, rfl⟩
      rw [← hre, ← hok] at hG HP
      have HG := Lib.hid hG
      clear hG hre hok
      by_cases hin2 : i < n
      · have k1 : (i : Int) < (n : Int) := by omega
        have k2 : ¬ (i : Int) < 100 := by omega
        go_wp2_with (go_at_call 15; refine HG.out.mono ?_; rintro x w6 ⟨rfl, hb6⟩)
        have HB7 : Hid (Below wr.heap.size wr (w6.alloc (.cells #[.string re.key, .int .i64 re.seq, .bool re.del, .string re.val] 30))) := Lib.hid (hb6.alloc hb6.size _)
        have hE7 : Blk (w6.alloc (.cells #[.string re.key, .int .i64 re.seq, .bool re.del, .string re.val] 30)) w6.heap.size 30 #[.string re.key, .int .i64 re.seq, .bool re.del, .string re.val] := Blk.new _ _ _
        obtain ⟨W7, hW7⟩ : ∃ W7, W7 = w6.alloc (.cells #[.string re.key, .int .i64 re.seq, .bool re.del, .string re.val] 30) := ⟨_, rfl⟩
        obtain ⟨E, hE⟩ : ∃ E, E = w6.heap.size := ⟨_, rfl⟩
        rw [← hW7, ← hE] at hE7
        rw [← hW7] at HB7 ⊢
        rw [← hE]
        have HE7 := Lib.hid hE7
        have HX7 := Lib.hid (fun j x (hj : acc[j]? = some x) => row_cells HR.out HB7.out hj)
        clear hE7 hW7 hE hb6
        go_loopw [12, 70] (N2 W7 acc n1 re) (fun _ x _ => n1 - (intOf x).toNat)
        case atStart => exact ⟨0, false, by omega, rfl, rfl, by simp, Lib.hid (Below.refl _ _)⟩
        case round =>
          obtain ⟨j, fb, hj, rfl, rfl, hfb, HB⟩ := hrel
          by_cases hjn : j < n1
          · obtain ⟨x, hx⟩ : ∃ x, acc[j]? = some x := ⟨acc[j]'(by omega), List.getElem?_eq_getElem _⟩
            obtain ⟨gB, rfl, hgB, x0, x1, x2, x3⟩ := HX7.out j x hx
            have hxm := List.mem_of_getElem? hx
            have y0 := (HB.out.cell hgB).trans x0
            have y1 := (HB.out.cell hgB).trans x1
            have y2 := (HB.out.cell hgB).trans x2
            have y3 := (HB.out.cell hgB).trans x3
            have hE8 := HE7.out.same (w' := wr.alloc (.cells #[.string x.key, .int .i64 x.seq, .bool x.del, .string x.val] 30)) ((Below.heap_alloc _ _ _ (Nat.lt_of_lt_of_le HE7.out.lt HB.out.size)).trans (HB.out.block _ HE7.out.lt))
            obtain ⟨⟨e0, e1, e2, e3⟩, _⟩ := cells4 hE8
            have f0 := World.frozen?_alloc_new (w := wr) #[.string ⟨#[]⟩, .int .i64 0, .bool false, .string ⟨#[]⟩] 30 0
            have f1 := World.frozen?_alloc_new (w := wr) #[.string ⟨#[]⟩, .int .i64 0, .bool false, .string ⟨#[]⟩] 30 1
            have f2 := World.frozen?_alloc_new (w := wr) #[.string ⟨#[]⟩, .int .i64 0, .bool false, .string ⟨#[]⟩] 30 2
            have f3 := World.frozen?_alloc_new (w := wr) #[.string ⟨#[]⟩, .int .i64 0, .bool false, .string ⟨#[]⟩] 30 3
            clear hE8
            have hpx := HP.out.2.2 x hxm
            have k1 : (j : Int) < (n1 : Int) := by omega
            have k2 : (0 : Int) ≤ (j : Int) := by omega
            have HXM := Lib.hid hx
            clear x0 x1 x2 x3 hx hxm
            have q1 := fun (W : World) => eq_entry W x re
            obtain ⟨b, hb⟩ : ∃ b, enEq x re = b := ⟨_, rfl⟩
            simp only [hb] at q1
            have HN2 := Lib.hid (n2_step hfb HXM.out hb)
            clear hb hfb
            by_cases hk : x.key.toList = k.toList
            · have hk2 : (x.key.toList == k.toList) = true := by simpa using hk
              by_cases hq : x.seq ≤ q
              · obtain ⟨rfl, hq2⟩ := hpx hk hq
                have hq3 : ¬ re.seq < x.seq := by omega
                cases fb
                · go_wp2
                  go_roundw
                  case rel => exact ⟨j + 1, _, by omega, by simp, rfl, HN2.out, Lib.hid (HB.out.alloc HB.out.size _)⟩
                  case measure => simp [intOf]; omega
                · go_wp2
                  go_roundw
                  case rel => exact ⟨j + 1, _, by omega, by simp, rfl, HN2.out, Lib.hid (HB.out.alloc HB.out.size _)⟩
                  case measure => simp [intOf]; omega
              · cases fb
                · go_wp2
                  go_roundw
                  case rel => exact ⟨j + 1, _, by omega, by simp, rfl, HN2.out, Lib.hid (HB.out.alloc HB.out.size _)⟩
                  case measure => simp [intOf]; omega
                · go_wp2
                  go_roundw
                  case rel => exact ⟨j + 1, _, by omega, by simp, rfl, HN2.out, Lib.hid (HB.out.alloc HB.out.size _)⟩
                  case measure => simp [intOf]; omega
            · have hk2 : (x.key.toList == k.toList) = false := by simpa using hk
              clear hpx
              cases fb
              · go_wp2
                go_roundw
                case rel => exact ⟨j + 1, _, by omega, by simp, rfl, HN2.out, Lib.hid (HB.out.alloc HB.out.size _)⟩
                case measure => simp [intOf]; omega
              · go_wp2
                go_roundw
                case rel => exact ⟨j + 1, _, by omega, by simp, rfl, HN2.out, Lib.hid (HB.out.alloc HB.out.size _)⟩
                case measure => simp [intOf]; omega
          · obtain rfl : j = n1 := by omega
            have hall : fb = true ↔ re ∈ acc := by rw [List.take_of_length_le (by omega)] at hfb; exact hfb
            obtain ⟨⟨e0, e1, e2, e3⟩, _⟩ := cells4 (HE7.out.same (w' := wr) (HB.out.block _ HE7.out.lt))
            have hbe : Below w0.heap.size w0 wr := (HTB.out.bel.trans (HB7.out.mono HTB.out.bel.size)).trans (HB.out.mono (Nat.le_trans HTB.out.bel.size HB7.out.size))
            have HBE := Lib.hid hbe
            have k4 : ¬ (j : Int) < (j : Int) := by omega
            have hp1 := HP.out.1
            have hp2 := HP.out.2.1
            clear hbe hfb
            cases ok with
            | true =>
              obtain ⟨g1, g2, g3⟩ := hp1 rfl
              have g4 : (re.key.toList == k.toList) = true := by simpa [En.k] using g2
              obtain rfl : fb = true := hall.2 g1
              clear hp1 hp2 g1 g2 hall
              go_wp2
              go_ret
              exact Yes.mk HBE.out
            | false =>
              obtain rfl := hp2 rfl
              have q3 := fun (W : World) => eq_none W
              simp only [noE] at e0 e1 e2 e3
              clear hp1 hp2 hall
              go_wp2
              go_ret
              exact Yes.mk HBE.out
      · have k1 : ¬ (i : Int) < (n : Int) := by omega
        go_wp2_with (go_at_call 15; refine HG.out.mono ?_; rintro x w6 ⟨rfl, hb6⟩)
        have HB7 : Hid (Below wr.heap.size wr (w6.alloc (.cells #[.string re.key, .int .i64 re.seq, .bool re.del, .string re.val] 30))) := Lib.hid (hb6.alloc hb6.size _)
        have hE7 : Blk (w6.alloc (.cells #[.string re.key, .int .i64 re.seq, .bool re.del, .string re.val] 30)) w6.heap.size 30 #[.string re.key, .int .i64 re.seq, .bool re.del, .string re.val] := Blk.new _ _ _
        obtain ⟨W7, hW7⟩ : ∃ W7, W7 = w6.alloc (.cells #[.string re.key, .int .i64 re.seq, .bool re.del, .string re.val] 30) := ⟨_, rfl⟩
        obtain ⟨E, hE⟩ : ∃ E, E = w6.heap.size := ⟨_, rfl⟩
        rw [← hW7, ← hE] at hE7
        rw [← hW7] at HB7 ⊢
        rw [← hE]
        have HE7 := Lib.hid hE7
        have HX7 := Lib.hid (fun j x (hj : acc[j]? = some x) => row_cells HR.out HB7.out hj)
        clear hE7 hW7 hE hb6
        go_loopw [12, 70] (N2 W7 acc n1 re) (fun _ x _ => n1 - (intOf x).toNat)
        case atStart => exact ⟨0, false, by omega, rfl, rfl, by simp, Lib.hid (Below.refl _ _)⟩
        case round =>
          obtain ⟨j, fb, hj, rfl, rfl, hfb, HB⟩ := hrel
          by_cases hjn : j < n1
          · obtain ⟨x, hx⟩ : ∃ x, acc[j]? = some x := ⟨acc[j]'(by omega), List.getElem?_eq_getElem _⟩
            obtain ⟨gB, rfl, hgB, x0, x1, x2, x3⟩ := HX7.out j x hx
            have hxm := List.mem_of_getElem? hx
            have y0 := (HB.out.cell hgB).trans x0
            have y1 := (HB.out.cell hgB).trans x1
            have y2 := (HB.out.cell hgB).trans x2
            have y3 := (HB.out.cell hgB).trans x3
            have hE8 := HE7.out.same (w' := wr.alloc (.cells #[.string x.key, .int .i64 x.seq, .bool x.del, .string x.val] 30)) ((Below.heap_alloc _ _ _ (Nat.lt_of_lt_of_le HE7.out.lt HB.out.size)).trans (HB.out.block _ HE7.out.lt))
            obtain ⟨⟨e0, e1, e2, e3⟩, _⟩ := cells4 hE8
            have f0 := World.frozen?_alloc_new (w := wr) #[.string ⟨#[]⟩, .int .i64 0, .bool false, .string ⟨#[]⟩] 30 0
            have f1 := World.frozen?_alloc_new (w := wr) #[.string ⟨#[]⟩, .int .i64 0, .bool false, .string ⟨#[]⟩] 30 1
            have f2 := World.frozen?_alloc_new (w := wr) #[.string ⟨#[]⟩, .int .i64 0, .bool false, .string ⟨#[]⟩] 30 2
            have f3 := World.frozen?_alloc_new (w := wr) #[.string ⟨#[]⟩, .int .i64 0, .bool false, .string ⟨#[]⟩] 30 3
            clear hE8
            have hpx := HP.out.2.2 x hxm
            have k1 : (j : Int) < (n1 : Int) := by omega
            have k2 : (0 : Int) ≤ (j : Int) := by omega
            have HXM := Lib.hid hx
            clear x0 x1 x2 x3 hx hxm
            have q1 := fun (W : World) => eq_entry W x re
            obtain ⟨b, hb⟩ : ∃ b, enEq x re = b := ⟨_, rfl⟩
            simp only [hb] at q1
            have HN2 := Lib.hid (n2_step hfb HXM.out hb)
            clear hb hfb
            by_cases hk : x.key.toList = k.toList
            · have hk2 : (x.key.toList == k.toList) = true := by simpa using hk
              by_cases hq : x.seq ≤ q
              · obtain ⟨rfl, hq2⟩ := hpx hk hq
                have hq3 : ¬ re.seq < x.seq := by omega
                cases fb
                · go_wp2
                  go_roundw
                  case rel => exact ⟨j + 1, _, by omega, by simp, rfl, HN2.out, Lib.hid (HB.out.alloc HB.out.size _)⟩
                  case measure => simp [intOf]; omega
                · go_wp2
                  go_roundw
                  case rel => exact ⟨j + 1, _, by omega, by simp, rfl, HN2.out, Lib.hid (HB.out.alloc HB.out.size _)⟩
                  case measure => simp [intOf]; omega
              · cases fb
                · go_wp2
                  go_roundw
                  case rel => exact ⟨j + 1, _, by omega, by simp, rfl, HN2.out, Lib.hid (HB.out.alloc HB.out.size _)⟩
                  case measure => simp [intOf]; omega
                · go_wp2
                  go_roundw
                  case rel => exact ⟨j + 1, _, by omega, by simp, rfl, HN2.out, Lib.hid (HB.out.alloc HB.out.size _)⟩
                  case measure => simp [intOf]; omega
            · have hk2 : (x.key.toList == k.toList) = false := by simpa using hk
              clear hpx
              cases fb
              · go_wp2
                go_roundw
                case rel => exact ⟨j + 1, _, by omega, by simp, rfl, HN2.out, Lib.hid (HB.out.alloc HB.out.size _)⟩
                case measure => simp [intOf]; omega
              · go_wp2
                go_roundw
                case rel => exact ⟨j + 1, _, by omega, by simp, rfl, HN2.out, Lib.hid (HB.out.alloc HB.out.size _)⟩
                case measure => simp [intOf]; omega
          · obtain rfl : j = n1 := by omega
            have hall : fb = true ↔ re ∈ acc := by rw [List.take_of_length_le (by omega)] at hfb; exact hfb
            obtain ⟨⟨e0, e1, e2, e3⟩, _⟩ := cells4 (HE7.out.same (w' := wr) (HB.out.block _ HE7.out.lt))
            have hbe : Below w0.heap.size w0 wr := (HTB.out.bel.trans (HB7.out.mono HTB.out.bel.size)).trans (HB.out.mono (Nat.le_trans HTB.out.bel.size HB7.out.size))
            have HBE := Lib.hid hbe
            have k4 : ¬ (j : Int) < (j : Int) := by omega
            have hp1 := HP.out.1
            have hp2 := HP.out.2.1
            clear hbe hfb
            cases ok with
            | true =>
              obtain ⟨g1, g2, g3⟩ := hp1 rfl
              have g4 : (re.key.toList == k.toList) = true := by simpa [En.k] using g2
              obtain rfl : fb = true := hall.2 g1
              clear hp1 hp2 g1 g2 hall
              go_wp2
              go_ret
              exact Yes.mk HBE.out
            | false =>
              obtain rfl := hp2 rfl
              have q3 := fun (W : World) => eq_none W
              simp only [noE] at e0 e1 e2 e3
              clear hp1 hp2 hall
              go_wp2
              go_ret
              exact Yes.mk HBE.out
end

end Mm
end Go.Proofs.Ytfnfjhfmhinkcaa
