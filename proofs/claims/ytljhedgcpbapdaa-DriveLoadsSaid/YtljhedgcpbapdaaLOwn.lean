/-
  WHAT IS PROVED: what the law DriveOwn answers. CONDITIONS: the script and the bytes stand in memory as named.
-/
import Derived.Test.YtljhedgcpbapdaaLQuad
import Derived.Laws.OwnMore
namespace Go.Proofs.Ytljhedgcpbapdaa
open Go Go.RowKit Go.Maps Go.Proofs.Ytljhedgcpbapdaa.Fr
namespace Dr
/-- The file's name. -/
def ownN : Bs := [111, 119, 110]
theorem own_facts (st : St) (hok : st.Ok) (l : Bs) : ∃ st2 st3 n, st.crash [] = st2 ∧ st2.Ok ∧ st2.steps = 0 ∧ st2.append ownN l = (st3, n) ∧ st3.Ok := by
  refine ⟨_, _, _, rfl, hok.crash [], rfl, rfl, ?_⟩
  exact (hok.crash []).append ownN l
theorem rd_front {w : World} {A : Option Addr} {xs ys : List Value} (h : Rd w A (xs ++ ys)) : Rd w A xs := by
  have := h.take xs.length
  rwa [List.take_left] at this
theorem own_from {w : World} {base : Nat} {e : TypeId} {A : Option Addr} {n c : Nat} {xs : List Value} (h : w.ownsRow base e 1 (.slice A n c) n xs) (hn : 0 < n) : ∃ g, A = some ⟨g, 0, none⟩ ∧ base ≤ g ∧ g < w.heap.size := by
  rcases h.2 with ⟨_, h0⟩ | ⟨g, cap, cur, hv, h1, hg, _⟩
  · omega
  · injection hv with h3 h4 h5
    exact ⟨g, h3, h1, (Array.getElem?_eq_some_iff.1 hg).1⟩
section
variable {w0 W W' : World} {B : Nat} {X S T S2 T2 : Nat → Prop} {b : Nat} {st : St} {A : Option Addr} {c g6 b2 : Nat} {sd sr st3 : St} {v2 : Value} {g9 : Nat} {c9 : Array Value} {n3 : Nat}
theorem size_arr (l : Bs) : (⟨l.toArray⟩ : ByteArray).size = l.length := by show l.toArray.size = _; simp
/-- The file is appended to. -/
theorem Quad.app (h : Quad w0 B (fun _ => False) S T S2 T2 b st A c g6 b2 sd sr v2 g9 c9 W) (hok : sd.Ok) (hst : sd.steps = 0) {AR : Option Addr} {K cR : Nat} {l' : Bs} {ys : List Value} (hown : W.ownsRow B 5 1 (.slice AR (K + 1) cR) (K + 1) (bv l' ++ ys)) (hl : l'.length = K) (hK : K ≤ 1000) (hp : sd.append ownN l' = (st3, n3)) :
    Calls Try.prog 24 #[.pointer (some ⟨b2, 0, none⟩), .string ⟨#[111, 119, 110]⟩, .slice AR K cR] W fun e W' => e = .returned (.int .i64 (n3 : Int)) ∧ (∃ S2', Quad w0 W'.heap.size (XA AR) S T S2' T2 b st A c g6 b2 st3 sr v2 g9 c9 W') ∧ W'.ownsRow B 5 1 (.slice AR (K + 1) cR) (K + 1) (bv l' ++ ys) := by
  have hrow : ∀ a, AR = some a → B ≤ a.block ∧ a.block < W.heap.size := fun a ha => by
    subst ha
    exact ⟨own_row hown a.block rfl, (hown.lt a.block rfl).2⟩
  have hlt : ∀ a, AR = some a → ¬ S2 a.block := fun a ha hs => by
    have := (hrow a ha).1
    have := (h.o a.block (.inr (.inr (.inl hs)))).1
    omega
  refine (append_any h.d2 hok (by omega) ⟨#[111, 119, 110]⟩ (by decide) AR K cR l' hl (by unfold maxLen; omega) (rd_front (Rd.own hown)) hlt).mono fun e W' hd => ?_
  have hd' : DOp S2 b2 (sd.append ownN l') W e W' := hd
  rw [hp] at hd'
  obtain ⟨he, hq⟩ := h.drive (X := XA AR) (fun k hk => by obtain ⟨a, ha, rfl⟩ := hk; exact hrow a ha) hd'
  refine ⟨he, ⟨_, hq⟩, own_same hown fun k hk => ?_⟩
  have hkk : ∃ a, AR = some a ∧ a.block = k := by
    cases AR with
    | none => cases hk
    | some a => cases hk; exact ⟨a, rfl, rfl⟩
  obtain ⟨a, ha, rfl⟩ := hkk
  exact hd.2.2.block _ (hrow a ha).2 (hlt a ha)
/-- And the reference's. -/
theorem Quad.rapp (h : Quad w0 B X S T S2 T2 b st A c g6 b2 sd sr v2 g9 c9 W) (hok : sr.Ok) (hst : sr.steps = 0) {K : Nat} {l' : Bs} (hl : l'.length = K) (hK : K ≤ 1000) (hp : sr.append ownN l' = (st3, n3)) :
    Calls Try.prog 28 #[v2, .string ⟨#[111, 119, 110]⟩, .string ⟨l'.toArray⟩] W fun e W' => ∃ A3 c3, e = .returned (.tuple #[.agg #[.slice A3 st3.files.length c3, .int .i64 (st3.steps : Int), .bool st3.armed, .int .i64 (st3.left : Int)], .int .i64 (n3 : Int)]) ∧ (∃ T2', Quad w0 W'.heap.size X S T S2 T2' b st A c g6 b2 sd st3 (.agg (refC A3 c3 st3)) g9 c9 W') ∧ Below W.heap.size W W' := by
  refine (rappend_any h.r2 hok (by omega) ⟨#[111, 119, 110]⟩ ⟨l'.toArray⟩ (by decide) (by rw [size_arr]; omega)).mono fun e W' hd => ?_
  have hd' : RRet2 T2 W (sr.append ownN l') e W' := hd
  rw [hp] at hd'
  obtain ⟨A3, c3, he, hq⟩ := h.ref hd'
  obtain ⟨_, _, _, hb⟩ := hd'
  exact ⟨A3, c3, he, ⟨_, hq⟩, hb⟩
/-- A row of X is no box. -/
theorem own_fill {AR : Option Addr} (h : Quad w0 B (XA AR) S T S2 T2 b st A c g6 b2 sd sr v2 g9 c9 W) {base n c' : Nat} {e : TypeId} {xs : List Value} (hown : W.ownsRow base e 1 (.slice AR n c') n xs) (a0 a1 a2 a3 : Value) : (set4 W g9 a0 a1 a2 a3).ownsRow base e 1 (.slice AR n c') n xs := by
  refine own_same hown fun k hk => set4_off W a0 a1 a2 a3 fun e => ?_
  subst e
  have := (h.o k (.inr (.inr (.inr (.inr (.inr rfl)))))).2
  cases AR with
  | none => cases hk
  | some a => cases hk; exact this ⟨a, rfl, rfl⟩
end
/-- The two pairs, whatever blocks they have. -/
def QF (w0 : World) (B : Nat) (X : Nat → Prop) (b : Nat) (st : St) (A : Option Addr) (c g6 b2 : Nat) (st3 : St) (A3 : Option Addr) (c3 g9 : Nat) (W : World) : Prop := ∃ S T S2 T2, Quad w0 B X S T S2 T2 b st A c g6 b2 st3 st3 (.agg (refC A3 c3 st3)) g9 (refC A3 c3 st3) W
theorem QF.row {w0 W W' : World} {B : Nat} {X : Nat → Prop} {b : Nat} {st : St} {A : Option Addr} {c g6 b2 : Nat} {st3 : St} {A3 : Option Addr} {c3 g9 : Nat} (h : QF w0 B X b st A c g6 b2 st3 A3 c3 g9 W) {row : Option Nat} (hg : W.grownBy W' row) (hr : ∀ k, row = some k → X k ∨ B ≤ k) : QF w0 B X b st A c g6 b2 st3 A3 c3 g9 W' :=
  let ⟨S, T, S2, T2, h1⟩ := h; ⟨S, T, S2, T2, h1.row hg hr⟩
theorem QF.below {w0 W W' : World} {B : Nat} {X : Nat → Prop} {b : Nat} {st : St} {A : Option Addr} {c g6 b2 : Nat} {st3 : St} {A3 : Option Addr} {c3 g9 : Nat} (h : QF w0 B X b st A c g6 b2 st3 A3 c3 g9 W) (hb : Below W.heap.size W W') : QF w0 B X b st A c g6 b2 st3 A3 c3 g9 W' :=
  let ⟨S, T, S2, T2, h1⟩ := h; ⟨S, T, S2, T2, h1.below hb⟩
theorem own_ne {w : World} {b b' e e' n n' : Nat} {v v' : Value} {xs xs' : List Value} (h : w.ownsRow b e 1 v n xs) (h' : w.ownsRow b' e' 1 v' n' xs') (hne : e ≠ e') : v.ownBlock = none ∨ v.ownBlock ≠ v'.ownBlock := by
  rcases h.2 with ⟨rfl, _⟩ | ⟨g, cap, cur, rfl, _, hg, _⟩
  · exact .inl rfl
  · rcases h'.2 with ⟨rfl, _⟩ | ⟨g', cap', cur', rfl, _, hg', _⟩
    · exact .inr (by simp [Value.ownBlock])
    · refine .inr fun he => ?_
      have hgg : g = g' := by simpa [Value.ownBlock] using he
      subst hgg
      rw [hg] at hg'
      simp only [Option.some.injEq, Obj.cells.injEq] at hg'
      exact hne hg'.2.1

section
variable {w0 W W' : World} {B : Nat} {X : Nat → Prop} {b : Nat} {st : St} {A : Option Addr} {c g6 b2 : Nat} {st3 : St} {A3 : Option Addr} {c3 g9 : Nat}
theorem QF.alloc (h : QF w0 B X b st A c g6 b2 st3 A3 c3 g9 W) (o : Obj) : QF w0 B X b st A c g6 b2 st3 A3 c3 g9 (W.alloc o) := h.below ((Below.refl _ _).alloc (Nat.le_refl _) o)
theorem QF.l1 (h : QF w0 B X b st A c g6 b2 st3 A3 c3 g9 W) : B ≤ W.heap.size := let ⟨_, _, _, _, h1⟩ := h; h1.l1
theorem QF.bel (h : QF w0 B X b st A c g6 b2 st3 A3 c3 g9 W) : Below w0.heap.size w0 W := let ⟨_, _, _, _, h1⟩ := h; h1.bel
/-- What the file reads as, in a row of its own. -/
theorem QF.read (h : QF w0 B X b st A c g6 b2 st3 A3 c3 g9 W) (hok : st3.Ok) : Calls Try.prog 29 #[.pointer (some ⟨b2, 0, none⟩), .string ⟨#[111, 119, 110]⟩] W fun e W' => ∃ A1 m c1 k ys, e = .returned (.tuple #[.slice A1 m c1, .int .i64 k]) ∧ m ≤ 262144 ∧ W'.ownsRow B 5 1 (.slice A1 m c1) m ys ∧ QF w0 B X b st A c g6 b2 st3 A3 c3 g9 W' := by
  obtain ⟨S, T, S2, T2, h1⟩ := id h
  cases hf : find st3.files ownN with
  | none => exact (read_none h1.d2 ⟨#[111, 119, 110]⟩ (by decide) (by decide) hf).mono fun e W' ⟨h2, h3⟩ => ⟨none, 0, 0, 4, [], h2, by omega, World.ownsRow_nil _ _ _ _, h3 ▸ h⟩
  | some f =>
    have hlen := (hok.file f (find_some hf).1).1
    exact (read_some h1.d2 hok ⟨#[111, 119, 110]⟩ (by decide) (f := f) hf).mono fun e W' ⟨A1, m, c1, h2, h3, h4, h5⟩ => ⟨A1, m, c1, 0, bv f.dat, h2, by omega, own_mono h4 h1.l1, h.below h5⟩
theorem QF.names (h : QF w0 B X b st A c g6 b2 st3 A3 c3 g9 W) (hok : st3.Ok) : Calls Try.prog 20 #[.pointer (some ⟨b2, 0, none⟩)] W fun e W' => ∃ AL n cl zs, e = .returned (.slice AL n cl) ∧ n ≤ 256 ∧ W'.ownsRow B 9 1 (.slice AL n cl) n zs ∧ QF w0 B X b st A c g6 b2 st3 A3 c3 g9 W' ∧ Below W.heap.size W W' := by
  obtain ⟨S, T, S2, T2, h1⟩ := id h
  have := hok.few
  exact (names_any h1.d2 hok).mono fun e W' ⟨AL, n, cl, h2, h3, h4, h5, h6⟩ => ⟨AL, n, cl, _, h2, by rw [List.length_map] at h3; omega, own_mono h5 h1.l1, h.below h6, h6⟩
theorem QF.tells2 (h : QF w0 B X b st A c g6 b2 st3 A3 c3 g9 W) (hok : st3.Ok) : Calls Try.prog 13 #[.pointer (some ⟨b2, 0, none⟩), .agg #[.slice A3 st3.files.length c3, .int .i64 (st3.steps : Int), .bool st3.armed, .int .i64 (st3.left : Int)]] W fun e W' => e = .returned (.bool true) ∧ QF w0 B X b st A c g6 b2 st3 A3 c3 g9 W' ∧ Below W.heap.size W W' :=
  let ⟨_, _, _, _, h1⟩ := id h; (h1.tells2 hok).mono fun _ _ ⟨h2, h3⟩ => ⟨h2, h.below h3, h3⟩
theorem QF.tells1 (h : QF w0 B X b st A c g6 b2 st3 A3 c3 g9 W) (hok : st.Ok) : Calls Try.prog 13 #[.pointer (some ⟨b, 0, none⟩), .agg #[.slice A st.files.length c, .int .i64 (st.steps : Int), .bool st.armed, .int .i64 (st.left : Int)]] W fun e W' => e = .returned (.bool true) ∧ QF w0 B X b st A c g6 b2 st3 A3 c3 g9 W' ∧ Below W.heap.size W W' :=
  let ⟨_, _, _, _, h1⟩ := id h; (h1.tells1 hok).mono fun _ _ ⟨h2, h3⟩ => ⟨h2, h.below h3, h3⟩
theorem QF.cells2 (h : QF w0 B X b st A c g6 b2 st3 A3 c3 g9 W) : W.cell? ⟨g9, 0, none⟩ = some (.slice A3 st3.files.length c3) ∧ W.cell? ⟨g9, 1, none⟩ = some (.int .i64 (st3.steps : Int)) ∧ W.cell? ⟨g9, 2, none⟩ = some (.bool st3.armed) ∧ W.cell? ⟨g9, 3, none⟩ = some (.int .i64 (st3.left : Int)) := let ⟨_, _, _, _, h1⟩ := h; blk_cells4 h1.m2
theorem QF.cells1 (h : QF w0 B X b st A c g6 b2 st3 A3 c3 g9 W) : W.cell? ⟨g6, 0, none⟩ = some (.slice A st.files.length c) ∧ W.cell? ⟨g6, 1, none⟩ = some (.int .i64 (st.steps : Int)) ∧ W.cell? ⟨g6, 2, none⟩ = some (.bool st.armed) ∧ W.cell? ⟨g6, 3, none⟩ = some (.int .i64 (st.left : Int)) := let ⟨_, _, _, _, h1⟩ := h; blk_cells4 h1.m1
end
def OneInv (w0 : World) (B : Nat) (X : Nat → Prop) (b : Nat) (st : St) (A : Option Addr) (c g6 b2 : Nat) (st3 : St) (A3 : Option Addr) (c3 g9 : Nat) (A1 : Option Addr) (m c1 : Nat) (s98 : Value) (W : World) : Prop :=
  ∃ (i : Nat) (ys : List Value), i ≤ m ∧ s98 = .int .i64 (i : Int) ∧ W.ownsRow B 5 1 (.slice A1 m c1) m ys ∧ QF w0 B X b st A c g6 b2 st3 A3 c3 g9 W
def EigInv (w0 : World) (B : Nat) (X : Nat → Prop) (b : Nat) (st : St) (A : Option Addr) (c g6 b2 : Nat) (st3 : St) (A3 : Option Addr) (c3 g9 : Nat) (m : Nat) (s16 s19 : Value) (W : World) : Prop :=
  ∃ (i N cb : Nat) (Ab : Option Addr) (ys : List Value), i ≤ 20 ∧ N = m + i ∧ s16 = .slice Ab N cb ∧ s19 = .int .i64 (i : Int) ∧ W.ownsRow B 5 1 (.slice Ab N cb) N ys ∧ QF w0 B X b st A c g6 b2 st3 A3 c3 g9 W ∧ (0 < i → ∀ P, N = P + 1 → ys[P]? = some (.int .u8 8))
def NmInv (w0 : World) (B : Nat) (X : Nat → Prop) (b : Nat) (st : St) (A : Option Addr) (c g6 b2 : Nat) (st3 : St) (A3 : Option Addr) (c3 g9 : Nat) (g1 P c1 : Nat) (ys : List Value) (AL : Option Addr) (n cl : Nat) (s116 : Value) (W : World) : Prop :=
  ∃ (i : Nat) (zs : List Value), i ≤ n ∧ s116 = .int .i64 (i : Int) ∧ W.ownsRow B 9 1 (.slice AL n cl) n zs ∧ W.ownsRow B 5 1 (.slice (some ⟨g1, 0, none⟩) (P + 1) c1) (P + 1) ys ∧ QF w0 B X b st A c g6 b2 st3 A3 c3 g9 W
def RmInv (w0 : World) (B : Nat) (b : Nat) (st : St) (A : Option Addr) (c g6 b2 : Nat) (st3 : St) (A3 : Option Addr) (c3 g9 : Nat) (base gR m cR : Nat) (s84 : Value) (W : World) : Prop :=
  ∃ (i : Nat) (xs : List Value), i ≤ m ∧ s84 = .int .i64 (i : Int) ∧ W.ownsRow base 5 1 (.slice (some ⟨gR, 0, none⟩) m cR) m xs ∧ QF w0 B (XA (some ⟨gR, 0, none⟩)) b st A c g6 b2 st3 A3 c3 g9 W
set_option maxRecDepth 100000 in
set_option maxHeartbeats 2000000 in
theorem own_any (w : World) (A0 : Option Addr) (n0 c0 : Nat) (L : List OpM) (hn : L.length = n0) (hL : Script w A0 L) (AB : Option Addr) (nB cB : Nat) (l : Bs) (hl : l.length = nB) (hlc : nB ≤ cB) (_ : cB ≤ 140737488351232) (hB : Rd w AB (bv l)) :
    Calls Try.prog 8 #[.slice A0 n0 c0, .slice AB nB cB] w fun e w' => e = .returned (.bool true) ∧ Below w.heap.size w w' := by
  have HB := Lib.hid (built_any w A0 n0 c0 L hn hL)
  have HW := Lib.hid awake_any
  have HRB := Lib.hid hB
  have HLB := Lib.hid hl
  obtain ⟨i0, hi, hz, hz1, hz2⟩ := info_parts info_u8
  clear hn hL hB hl
  go_enter Try.func8, Try.ntmps8
  go_upto_region 4 with (first
    | (go_at_call 9; refine HB.out.mono ?_; rintro e w1 ⟨b, st, A, c, rfl, h1, h2, h3, hP⟩; have HP := Lib.hid hP; have HOK := Lib.hid h2; clear h1 h2 h3 hP)
    | (go_at_call 10; refine (HW.out _).mono ?_; rintro e w2 ⟨rfl, hb2⟩))
  obtain ⟨S, T, hPX⟩ := HP.out.open_
  have hS0 : CrS w S T b st A c w1.heap.size w2 :=
    have hx := (hPX.below ((Below.refl _ _).alloc (Nat.le_refl _) (.cells #[.slice A st.files.length c, .int .i64 (st.steps : Int), .bool st.armed, .int .i64 (st.left : Int)] 26)))
    have hs0 := hPX.bel.size
    ⟨(⟨hx.d, hx.r, fun k hk => ⟨(hx.s k hk).1, fun e => by have := hPX.d.lt k hk; omega⟩, fun k hk => ⟨(hx.t k hk).1, fun e => by have := hPX.r.lt k hk; omega⟩, hx.a, fun k hk => by subst hk; simp, hx.bel⟩ : PairX w (fun k => k = w1.heap.size) S T b st (.agg (refC A c st)) _).below hb2, (Blk.new w1 _ _).same (hb2.block _ (by simp)), hs0⟩
  obtain ⟨st2, st3, n3, h62, hok2, hst2, hap, hok3⟩ := own_facts st HOK.out (l.take 1000)
  have H62 := Lib.hid h62
  have HOK2 := Lib.hid hok2
  have HST2 := Lib.hid hst2
  have HAP := Lib.hid hap
  have HOK3 := Lib.hid hok3
  have HS := Lib.hid hS0
  clear hPX hb2 h62 hok2 hst2 hap hok3
  go_cut [8, 9] (CrMid w S T b st A c w1.heap.size st2)
  case first =>
    refine wp_region_held_drew (S := CrS w S T b st A c w1.heap.size) (by kernel_rfl) (by (first | (with_reducible assumption) | (with_reducible exact CrS.drew (by assumption)) | (with_reducible exact CrS.alloc (by assumption) _) | (with_reducible exact CrS.below (by assumption) (by assumption)) | (with_reducible exact CrS.drew (CrS.alloc (by assumption) _)) | (exact CrS.fill (by assumption) hS0 (by have := hb5.size; simp at this; omega) _ _ _ _))) (fun hHeld => ?_)
    refine wpAnyH_take (i := 0) (v := ?vr1x_0) (Fr.take_at rfl) (by kernel_rfl) (by kernel_rfl) (by kernel_rfl) (fun _ _ _ h => h) (Or.inl ⟨by rfl, ?yr1x_0⟩) (by assumption) ?nr1x_0
    case yr1x_0 => (intro w_ hSw; obtain ⟨q1, q2, q3, q4⟩ := CrS.cells hSw; go_simp; (try with_reducible rfl))
    try simp only [Act.put, List.setIfInBounds_toArray, List.set_cons_zero, List.set_cons_succ]
    refine wpAnyH_take (i := 2) (v := ?vr1x_2) (Fr.take_at rfl) (by kernel_rfl) (by kernel_rfl) (by kernel_rfl) (fun _ _ _ h => h) (Or.inl ⟨by rfl, ?yr1x_2⟩) (by assumption) ?nr1x_2
    case yr1x_2 => (intro w_ hSw; obtain ⟨q1, q2, q3, q4⟩ := CrS.cells hSw; go_simp; (try with_reducible rfl))
    try simp only [Act.put, List.setIfInBounds_toArray, List.set_cons_zero, List.set_cons_succ]
    refine wpAnyH_ready (rs := [1, 4]) (by kernel_rfl) (by simp) ?_
    refine AllReadyH.cons (Fr.take_at rfl) (fun K hK => ?_) (AllReadyH.cons (Fr.take_at rfl) (fun K hK => ?_) AllReadyH.nil)
    go_simp
    (go_at_call 15; refine (CrS.crash0 hHeld HOK.out H62.out).mono ?_; rintro e w5 ⟨b2, rfl, hN5, hb5⟩; (try (have hBy := Lib.hid (box_past4 hBx.out hb5).1)))
    try go_wp2_with fail
    refine hK.out _ _ (by (first | (with_reducible assumption) | (with_reducible exact CrS.drew (by assumption)) | (with_reducible exact CrS.alloc (by assumption) _) | (with_reducible exact CrS.below (by assumption) (by assumption)) | (with_reducible exact CrS.drew (CrS.alloc (by assumption) _)) | (exact CrS.fill (by assumption) hS0 (by have := hb5.size; simp at this; omega) _ _ _ _))) (fun hHeld => ?_)
    clear hK K
    try simp only [Act.put, List.setIfInBounds_toArray, List.set_cons_zero, List.set_cons_succ]
    refine wpAnyH_ready (rs := [3, 4]) (by kernel_rfl) (by simp) ?_
    refine AllReadyH.cons (Fr.take_at rfl) (fun K hK => ?_) (AllReadyH.cons (Fr.take_at rfl) (fun K hK => ?_) AllReadyH.nil)
    go_simp
    (go_at_call 16; refine (CrS.rcrash0 hHeld HOK.out H62.out).mono ?_; rintro e w6 ⟨A6, c6, rfl, hN6, hb6⟩; (first | (have hq := box_past4 hBy.out.out hb6; obtain ⟨hBz, ⟨y0, y1, y2, y3⟩, ⟨z0, z1, z2, z3⟩⟩ := hq) | (have hq := box_past4 hBx.out hb6; obtain ⟨hBz, ⟨y0, y1, y2, y3⟩, ⟨z0, z1, z2, z3⟩⟩ := hq) | skip))
    try go_wp2_with fail
    refine hK.out _ _ (by (first | (with_reducible assumption) | (with_reducible exact CrS.drew (by assumption)) | (with_reducible exact CrS.alloc (by assumption) _) | (with_reducible exact CrS.below (by assumption) (by assumption)) | (with_reducible exact CrS.drew (CrS.alloc (by assumption) _)) | (exact CrS.fill (by assumption) hS0 (by have := hb5.size; simp at this; omega) _ _ _ _))) (fun hHeld => ?_)
    clear hK K
    try simp only [Act.put, List.setIfInBounds_toArray, List.set_cons_zero, List.set_cons_succ]
    refine wpAnyH_ready (rs := [4]) (by kernel_rfl) (by simp) ?_
    refine AllReadyH.cons (Fr.take_at rfl) (fun K hK => ?_) AllReadyH.nil
    go_simp
    refine hK.out _ _ (by (first | (with_reducible assumption) | (with_reducible exact CrS.drew (by assumption)) | (with_reducible exact CrS.alloc (by assumption) _) | (with_reducible exact CrS.below (by assumption) (by assumption)) | (with_reducible exact CrS.drew (CrS.alloc (by assumption) _)) | (exact CrS.fill (by assumption) hS0 (by have := hb5.size; simp at this; omega) _ _ _ _))) (fun hHeld => ?_)
    clear hK K
    first | have hBx := Lib.hid (CrS.held hHeld) | have hBx := Lib.hid (CrS.held0 hHeld)
    try simp only [Act.put, List.setIfInBounds_toArray, List.set_cons_zero, List.set_cons_succ]
    refine wpAnyH_take (i := 5) (v := ?vr1L1_5) (Fr.take_at rfl) (by kernel_rfl) (by kernel_rfl) (by kernel_rfl) (fun _ _ _ h => h) (Or.inl ⟨by rfl, ?yr1L1_5⟩) (by assumption) ?nr1L1_5
    case yr1L1_5 => (intro w_ hSw; obtain ⟨q1, q2, q3, q4⟩ := CrS.cells hSw; go_simp; (try with_reducible rfl))
    try simp only [Act.put, List.setIfInBounds_toArray, List.set_cons_zero, List.set_cons_succ]
    refine wpAnyH_ready (rs := [6]) (by kernel_rfl) (by simp) ?_
    refine AllReadyH.cons (Fr.take_at rfl) (fun K hK => ?_) AllReadyH.nil
    go_simp
    refine hK.out _ _ (by (first | (with_reducible assumption) | (with_reducible exact CrS.drew (by assumption)) | (with_reducible exact CrS.alloc (by assumption) _) | (with_reducible exact CrS.below (by assumption) (by assumption)) | (with_reducible exact CrS.drew (CrS.alloc (by assumption) _)) | (exact CrS.fill (by assumption) hS0 (by have := hb5.size; simp at this; omega) _ _ _ _))) (fun hHeld => ?_)
    clear hK K
    try simp only [Act.put, List.setIfInBounds_toArray, List.set_cons_zero, List.set_cons_succ]
    refine wpAnyH_done (by kernel_rfl) ?_ _
    rotate_left
    go_simp
    refine hK.out _ _ (by (first | (with_reducible assumption) | (with_reducible exact CrS.drew (by assumption)) | (with_reducible exact CrS.alloc (by assumption) _) | (with_reducible exact CrS.below (by assumption) (by assumption)) | (with_reducible exact CrS.drew (CrS.alloc (by assumption) _)) | (exact CrS.fill (by assumption) hS0 (by have := hb5.size; simp at this; omega) _ _ _ _))) (fun hHeld => ?_)
    clear hK K
    first | have hBx := Lib.hid (CrS.held hHeld) | have hBx := Lib.hid (CrS.held0 hHeld)
    try simp only [Act.put, List.setIfInBounds_toArray, List.set_cons_zero, List.set_cons_succ]
    refine wpAnyH_ready (rs := [3]) (by kernel_rfl) (by simp) ?_
    refine AllReadyH.cons (Fr.take_at rfl) (fun K hK => ?_) AllReadyH.nil
    go_simp
    (go_at_call 16; refine (CrS.rcrash0 hHeld HOK.out H62.out).mono ?_; rintro e w6 ⟨A6, c6, rfl, hN6, hb6⟩; (first | (have hq := box_past4 hBy.out.out hb6; obtain ⟨hBz, ⟨y0, y1, y2, y3⟩, ⟨z0, z1, z2, z3⟩⟩ := hq) | (have hq := box_past4 hBx.out hb6; obtain ⟨hBz, ⟨y0, y1, y2, y3⟩, ⟨z0, z1, z2, z3⟩⟩ := hq) | skip))
    try go_wp2_with fail
    refine hK.out _ _ (by (first | (with_reducible assumption) | (with_reducible exact CrS.drew (by assumption)) | (with_reducible exact CrS.alloc (by assumption) _) | (with_reducible exact CrS.below (by assumption) (by assumption)) | (with_reducible exact CrS.drew (CrS.alloc (by assumption) _)) | (exact CrS.fill (by assumption) hS0 (by have := hb5.size; simp at this; omega) _ _ _ _))) (fun hHeld => ?_)
    clear hK K
    try simp only [Act.put, List.setIfInBounds_toArray, List.set_cons_zero, List.set_cons_succ]
    refine wpAnyH_take (i := 5) (v := ?vr1L2_5) (Fr.take_at rfl) (by kernel_rfl) (by kernel_rfl) (by kernel_rfl) (fun _ _ _ h => h) (Or.inl ⟨by rfl, ?yr1L2_5⟩) (by assumption) ?nr1L2_5
    case yr1L2_5 => (intro w_ hSw; obtain ⟨q1, q2, q3, q4⟩ := CrS.cells hSw; go_simp; (try with_reducible rfl))
    try simp only [Act.put, List.setIfInBounds_toArray, List.set_cons_zero, List.set_cons_succ]
    refine wpAnyH_ready (rs := [6]) (by kernel_rfl) (by simp) ?_
    refine AllReadyH.cons (Fr.take_at rfl) (fun K hK => ?_) AllReadyH.nil
    go_simp
    refine hK.out _ _ (by (first | (with_reducible assumption) | (with_reducible exact CrS.drew (by assumption)) | (with_reducible exact CrS.alloc (by assumption) _) | (with_reducible exact CrS.below (by assumption) (by assumption)) | (with_reducible exact CrS.drew (CrS.alloc (by assumption) _)) | (exact CrS.fill (by assumption) hS0 (by have := hb5.size; simp at this; omega) _ _ _ _))) (fun hHeld => ?_)
    clear hK K
    try simp only [Act.put, List.setIfInBounds_toArray, List.set_cons_zero, List.set_cons_succ]
    refine wpAnyH_done (by kernel_rfl) ?_ _
    rotate_left
    go_simp
    refine hK.out _ _ (by (first | (with_reducible assumption) | (with_reducible exact CrS.drew (by assumption)) | (with_reducible exact CrS.alloc (by assumption) _) | (with_reducible exact CrS.below (by assumption) (by assumption)) | (with_reducible exact CrS.drew (CrS.alloc (by assumption) _)) | (exact CrS.fill (by assumption) hS0 (by have := hb5.size; simp at this; omega) _ _ _ _))) (fun hHeld => ?_)
    clear hK K
    first | have hBx := Lib.hid (CrS.held hHeld) | have hBx := Lib.hid (CrS.held0 hHeld)
    try simp only [Act.put, List.setIfInBounds_toArray, List.set_cons_zero, List.set_cons_succ]
    refine wpAnyH_ready (rs := [1]) (by kernel_rfl) (by simp) ?_
    refine AllReadyH.cons (Fr.take_at rfl) (fun K hK => ?_) AllReadyH.nil
    go_simp
    (go_at_call 15; refine (CrS.crash0 hHeld HOK.out H62.out).mono ?_; rintro e w5 ⟨b2, rfl, hN5, hb5⟩; (try (have hBy := Lib.hid (box_past4 hBx.out hb5).1)))
    try go_wp2_with fail
    refine hK.out _ _ (by (first | (with_reducible assumption) | (with_reducible exact CrS.drew (by assumption)) | (with_reducible exact CrS.alloc (by assumption) _) | (with_reducible exact CrS.below (by assumption) (by assumption)) | (with_reducible exact CrS.drew (CrS.alloc (by assumption) _)) | (exact CrS.fill (by assumption) hS0 (by have := hb5.size; simp at this; omega) _ _ _ _))) (fun hHeld => ?_)
    clear hK K
    try simp only [Act.put, List.setIfInBounds_toArray, List.set_cons_zero, List.set_cons_succ]
    refine wpAnyH_ready (rs := [3]) (by kernel_rfl) (by simp) ?_
    refine AllReadyH.cons (Fr.take_at rfl) (fun K hK => ?_) AllReadyH.nil
    go_simp
    (go_at_call 16; refine (CrS.rcrash0 hHeld HOK.out H62.out).mono ?_; rintro e w6 ⟨A6, c6, rfl, hN6, hb6⟩; (first | (have hq := box_past4 hBy.out.out hb6; obtain ⟨hBz, ⟨y0, y1, y2, y3⟩, ⟨z0, z1, z2, z3⟩⟩ := hq) | (have hq := box_past4 hBx.out hb6; obtain ⟨hBz, ⟨y0, y1, y2, y3⟩, ⟨z0, z1, z2, z3⟩⟩ := hq) | skip))
    try go_wp2_with fail
    refine hK.out _ _ (by (first | (with_reducible assumption) | (with_reducible exact CrS.drew (by assumption)) | (with_reducible exact CrS.alloc (by assumption) _) | (with_reducible exact CrS.below (by assumption) (by assumption)) | (with_reducible exact CrS.drew (CrS.alloc (by assumption) _)) | (exact CrS.fill (by assumption) hS0 (by have := hb5.size; simp at this; omega) _ _ _ _))) (fun hHeld => ?_)
    clear hK K
    try simp only [Act.put, List.setIfInBounds_toArray, List.set_cons_zero, List.set_cons_succ]
    refine wpAnyH_take (i := 5) (v := ?vr1L3_5) (Fr.take_at rfl) (by kernel_rfl) (by kernel_rfl) (by kernel_rfl) (fun _ _ _ h => h) (Or.inl ⟨by rfl, ?yr1L3_5⟩) (by assumption) ?nr1L3_5
    case yr1L3_5 => (intro w_ hSw; obtain ⟨q1, q2, q3, q4⟩ := CrS.cells hSw; go_simp; (try with_reducible rfl))
    try simp only [Act.put, List.setIfInBounds_toArray, List.set_cons_zero, List.set_cons_succ]
    refine wpAnyH_ready (rs := [6]) (by kernel_rfl) (by simp) ?_
    refine AllReadyH.cons (Fr.take_at rfl) (fun K hK => ?_) AllReadyH.nil
    go_simp
    refine hK.out _ _ (by (first | (with_reducible assumption) | (with_reducible exact CrS.drew (by assumption)) | (with_reducible exact CrS.alloc (by assumption) _) | (with_reducible exact CrS.below (by assumption) (by assumption)) | (with_reducible exact CrS.drew (CrS.alloc (by assumption) _)) | (exact CrS.fill (by assumption) hS0 (by have := hb5.size; simp at this; omega) _ _ _ _))) (fun hHeld => ?_)
    clear hK K
    try simp only [Act.put, List.setIfInBounds_toArray, List.set_cons_zero, List.set_cons_succ]
    refine wpAnyH_done (by kernel_rfl) ?_ _
    rotate_left
    · go_wp2_with fail
      go_meet
      exact CrMid.mk1 HS.out (below_drewN (Below.refl _ _) 1) hN5 hb5 hN6 hb6
    · go_wp2_with fail
      go_meet
      exact CrMid.mk HS.out (below_drewN (Below.refl _ _) 1) hN5 hb5 ((Below.refl _ _).alloc (Nat.le_refl _) _) hN6 hb6 (Below.refl _ _) hb5.size (.inr (Nat.le_refl _)) (.inl (by simp)) ⟨_, _, _, _, hBz.out⟩
    · go_wp2_with fail
      go_meet
      exact CrMid.mk HS.out (below_drewN ((Below.refl _ _).alloc (Nat.le_refl _) _) 1) hN5 hb5 (Below.refl _ _) hN6 hb6 (Below.refl _ _) (Nat.le_refl _) (.inl (by simp)) (.inl (by have := hb5.size; simp at this; omega)) ⟨_, _, _, _, hBz.out⟩
  case rest =>
    obtain ⟨b2, A2, c2, g9, rfl, rfl, hW⟩ := hcut
    obtain ⟨S2, T2, hQ4⟩ := Quad.of hW
    clear hS0 hW HS
    obtain ⟨K, hK⟩ : ∃ K, K = min nB 1000 := ⟨_, rfl⟩
    have hKm : K ≤ 1000 := by omega
    have hmin : min (nB : Int) 1000 = (K : Int) := by omega
    obtain ⟨l', hl'⟩ : ∃ l', l.take 1000 = l' := ⟨_, rfl⟩
    have HLK : Hid (l'.length = K) := by have := HLB.out; show l'.length = K; rw [← hl', List.length_take]; omega
    have hlt : l.take K = l' := by
      rw [← hl', hK]
      have := HLB.out
      by_cases h : nB ≤ 1000
      · rw [Nat.min_eq_left h, List.take_of_length_le (by omega), List.take_of_length_le (by omega)]
      · rw [Nat.min_eq_right (by omega)]
    have HRK : Hid (Rd wc AB (bv l')) := by have := (HRB.out.below hQ4.bel).take K; rw [bv_take, hlt] at this; exact this
    obtain ⟨hcut1, hcut2⟩ := cut_to (P := Try.prog) 33 5 i0 Try.underlying33 rfl hi hz1 AB nB cB K .i64 (K : Int) rfl (by omega)
    rw [hl'] at HAP
    have HQ := Lib.hid hQ4
    clear hl' hlt hK hQ4
    go_upto_region 11 with (first
      | (at_builtin; refine wpList_app _ rfl (.tmp 38) (.tmp 43) _ rfl wc.heap.size 5 i0 _ 1 Try.underlying33 hi hz hz1 hz2 rfl (.slice (some ⟨wc.heap.size, 0, none⟩) 0 0) 0 [] rfl (lit_own wc) AB K cB (bv l') rfl (by rw [bv_length]; exact HLK.out) (HRK.out.alloc _) (bv_one _) K (by omega) (by unfold maxLen; omega) (by omega) (by simp) ?_; intro A5 c5 w5 hown5 hb5 hg5 hl5; have hbc5 : Below wc.heap.size wc w5 := ((Below.refl _ _).alloc (Nat.le_refl _) _).trans hb5; clear hg5 hl5 hb5)
      | (at_builtin; refine wpList_app _ rfl (.tmp 44) (.tmp 45) _ rfl wc.heap.size 5 i0 _ 1 Try.underlying33 hi hz hz1 hz2 rfl (.slice A5 K c5) K (bv l') rfl (hown5.alloc _) (some ⟨w5.heap.size, 0, none⟩) 1 1 [_] rfl rfl (Rd.one _ _ _ _ _ rfl) (by intro u hu; simp at hu; subst hu; rfl) (K + 1) rfl (by unfold maxLen; omega) (by omega) (by have := hbc5.size; simp; omega) ?_; intro AR cR w6 hown6 hb6 hg6 hl6; have hb46 : Below wc.heap.size wc w6 := (hbc5.alloc hbc5.size _).trans hb6; obtain ⟨hcut3, hcut4⟩ := cut_to (P := Try.prog) 33 5 i0 Try.underlying33 rfl hi hz1 AR (K + 1) cR K .i64 (K : Int) rfl (by have := own_shape hown6; obtain ⟨_, _, e, h, _⟩ := this; cases e; omega); have hst6 := run_str (P := Try.prog) w6 33 9 5 Try.underlying33 Try.underlying5 Try.underlying9 AR K cR l' HLK.out (rd_front (Rd.own hown6)); clear hg6 hl6 hb6))
    have HO6 := Lib.hid hown6
    have HQ6 := Lib.hid (HQ.out.below hb46)
    clear hown5 hown6 hcut1 hcut2 hcut3 hcut4 hbc5 hst6 hmin HRK
    go_upto_region 13 with (first
      | (go_at_call 24; refine (Quad.app HQ6.out HOK2.out HST2.out HO6.out HLK.out hKm HAP.out).mono ?_; rintro e w7 ⟨rfl, ⟨S3, hq7⟩, ho7⟩; have HQ7 := Lib.hid hq7; have HO7 := Lib.hid ho7; obtain ⟨x0, x1, x2, x3⟩ := blk_cells4 hq7.m2; clear hq7 ho7)
      | (go_at_call 28; refine (Quad.rapp HQ7.out HOK2.out HST2.out HLK.out hKm HAP.out).mono ?_; rintro e w8 ⟨A3, c3, rfl, ⟨T3, hq8⟩, hb8⟩; have HQ8 := Lib.hid hq8; have HO8 := Lib.hid (own_below HO7.out hb8 (Nat.le_refl _)); obtain ⟨y0, y1, y2, y3⟩ := blk_cells4 hq8.m2; obtain ⟨z0, z1, z2, z3⟩ := blk_free4 hq8.m2; clear hq8))
    obtain ⟨gR, rfl, hgR1, hgR2⟩ := own_from HO8.out (by omega)
    have hQ9 : QF w w8.heap.size (XA (some ⟨gR, 0, none⟩)) b st A c w1.heap.size b2 st3 A3 c3 g9 (set4 w8 g9 (.slice A3 st3.files.length c3) (.int .i64 (st3.steps : Int)) (.bool st3.armed) (.int .i64 (st3.left : Int))) := ⟨S, T, S3, T3, HQ8.out.fill rfl _ _ _ _⟩
    have hO9 := own_fill HQ8.out HO8.out (.slice A3 st3.files.length c3) (.int .i64 (st3.steps : Int)) (.bool st3.armed) (.int .i64 (st3.left : Int))
    obtain ⟨W9, hW9⟩ : ∃ W9, W9 = set4 w8 g9 (.slice A3 st3.files.length c3) (.int .i64 (st3.steps : Int)) (.bool st3.armed) (.int .i64 (st3.left : Int)) := ⟨_, rfl⟩
    unfold set4 at hW9
    unfold set4 at hQ9 hO9
    rw [← hW9] at hQ9 hO9 ⊢
    have hst9 := run_str (P := Try.prog) W9 33 9 5 Try.underlying33 Try.underlying5 Try.underlying9 (some ⟨gR, 0, none⟩) K cR l' HLK.out (rd_front (Rd.own hO9))
    have hc9 : W9.cell? ⟨gR, K, none⟩ = some (.int .u8 77) := by
      rw [hO9.cellAt K (by omega), List.getElem?_append_right (by rw [bv_length]; exact Nat.le_of_eq HLK.out), bv_length, HLK.out, Nat.sub_self]
      rfl
    have hwc : w.heap.size ≤ wc.heap.size := HQ.out.bel.size
    have hw8 : wc.heap.size ≤ w8.heap.size := by have := HQ8.out.l1; have := HQ7.out.l1; have := hb46.size; have := (HO8.out.lt gR rfl).2; have := hb8.size; omega
    have HQ9 := Lib.hid hQ9
    have HO9 := Lib.hid hO9
    clear hW9 hQ9 hO9 x0 x1 x2 x3 y0 y1 y2 y3 z0 z1 z2 z3 HQ6 HQ7 HQ8 HO6 HO7 HO8 hb8 hb46
    have hlt1 : (K : Int) < (K : Int) + 1 := by omega
    have hlt0 : (0 : Int) ≤ (K : Int) := by omega
    go_wp2
    go_loopw [84] (RmInv w w8.heap.size b st A c w1.heap.size b2 st3 A3 c3 g9 wc.heap.size gR (K + 1) cR) (fun x _ => K + 1 - (intOf x).toNat)
    case atStart => exact ⟨0, _, by omega, rfl, HO9.out, HQ9.out⟩
    case round =>
      clear hst9 hc9 HO9 HQ9
      obtain ⟨i, xs, hi', rfl, hrow, hqf⟩ := hrel
      have HQF := Lib.hid hqf
      clear hqf
      by_cases hit : i < K + 1
      · have hxl : xs.length = K + 1 := by have := hrow.1; omega
        have hc1 := hrow.cellAt i (by omega)
        rw [List.getElem?_eq_getElem (by omega)] at hc1
        have hf1 := hrow.frozenAt i
        have hst := hrow.stored i (.int .u8 0)
        have HST := Lib.hid hst
        clear hst
        go_wp2
        go_roundw
        case rel => exact ⟨i + 1, _, hit, by go_num, HST.out.1, HQF.out.row HST.out.2 fun k hk => .inl (by cases hk; exact ⟨_, rfl, rfl⟩)⟩
        case measure => simp [intOf]; omega
      · clear hrow
        have hB8 := HQF.out.l1
        go_wp2_with (go_at_call 29; refine (QF.read HQF.out HOK3.out).mono ?_; rintro e w10 ⟨A1, m, c1, k1, ys, rfl, hm, ho10, hq10⟩; have HO10 := Lib.hid ho10; have HQ10 := Lib.hid hq10; clear ho10 hq10)
        go_loopw [98] (OneInv w w8.heap.size (XA (some ⟨gR, 0, none⟩)) b st A c w1.heap.size b2 st3 A3 c3 g9 A1 m c1) (fun x _ => m - (intOf x).toNat)
        case atStart => exact ⟨0, _, by omega, rfl, HO10.out, HQ10.out⟩
        case round =>
          clear HO10 HQ10 HQF hB8
          obtain ⟨i2, ys2, hi2, rfl, hrow, hqf⟩ := hrel
          have HQF := Lib.hid hqf
          clear hqf
          by_cases hit2 : i2 < m
          · obtain ⟨g1, rfl, hg1, _⟩ := own_from hrow (by omega)
            have hxl : ys2.length = m := by have := hrow.1; omega
            have hc1 := hrow.cellAt i2 (by omega)
            rw [List.getElem?_eq_getElem (by omega)] at hc1
            have hf1 := hrow.frozenAt i2
            have hst := hrow.stored i2 (.int .u8 9)
            have HST := Lib.hid hst
            clear hst
            go_wp2
            go_roundw
            case rel => exact ⟨i2 + 1, _, hit2, by go_num, HST.out.1, HQF.out.row HST.out.2 fun k hk => .inr (by cases hk; exact hg1)⟩
            case measure => simp [intOf]; omega
          · have HRW := Lib.hid hrow
            clear hrow
            go_wp2
            go_loopw [16, 19] (EigInv w w8.heap.size (XA (some ⟨gR, 0, none⟩)) b st A c w1.heap.size b2 st3 A3 c3 g9 m) (fun _ x _ => 20 - (intOf x).toNat)
            case atStart => exact ⟨0, m, c1, A1, _, by omega, by omega, rfl, rfl, HRW.out, HQF.out, fun h => by omega⟩
            case round =>
              clear HRW HQF
              obtain ⟨i3, N, cb, Ab, ys3, hi3, hN, rfl, rfl, hrow, hqf, hlast⟩ := hrel
              have HQF := Lib.hid hqf
              have HRW := Lib.hid hrow
              have HLAST := Lib.hid hlast
              have HN := Lib.hid hN
              have hN9 : N ≤ 262164 := by omega
              have hl1 := hqf.l1
              clear hqf hrow hlast hN
              by_cases hit3 : i3 < 20
              · go_wp2_with (at_builtin; refine wpList_app _ rfl (.tmp 109) (.tmp 110) _ rfl w8.heap.size 5 i0 _ 1 Try.underlying33 hi hz hz1 hz2 rfl (.slice Ab N cb) N ys3 rfl (HRW.out.alloc _) (some ⟨wr.heap.size, 0, none⟩) 1 1 [_] rfl rfl (Rd.one _ _ _ _ _ rfl) (by intro u hu; simp at hu; subst hu; rfl) (N + 1) rfl (by unfold maxLen; omega) (by omega) (by simp; omega) ?_; intro A20 c20 w20 ho20 hb20 hg20 hk20; have HO20 := Lib.hid ho20; have HQ20 := Lib.hid ((HQF.out.alloc _).row hg20 fun k hk => .inr (own_row HRW.out k hk)); clear ho20 hb20 hg20 hk20)
                go_roundw
                case rel => exact ⟨i3 + 1, N + 1, c20, A20, _, by omega, by have := HN.out; omega, rfl, by go_num, HO20.out, HQ20.out, fun _ P hP => by
                  have h1 := HRW.out.1
                  have h2 : P = ys3.length := by omega
                  rw [h2, List.getElem?_append_right (Nat.le_refl _), Nat.sub_self]
                  rfl⟩
                case measure => simp [intOf]; omega
              · obtain rfl : i3 = 20 := by omega
                obtain ⟨P, hP⟩ : ∃ P, N = P + 1 := ⟨m + 19, by have := HN.out; omega⟩
                have hP8 := HLAST.out (by omega) P hP
                subst hP
                obtain ⟨g1, rfl, hg1, _⟩ := own_from HRW.out (by omega)
                have HP8 := Lib.hid hP8
                clear hP8 HN HLAST
                go_wp2_with (go_at_call 20; refine (QF.names HQF.out HOK3.out).mono ?_; rintro e w30 ⟨AL, nl, cl, zs, rfl, hnl, ho30, hq30, hb30⟩; have HO30 := Lib.hid ho30; have HQ30 := Lib.hid hq30; have HR30 := Lib.hid (own_below HRW.out hb30 (Nat.le_refl _)); clear ho30 hq30 hb30)
                go_loopw [116] (NmInv w w8.heap.size (XA (some ⟨gR, 0, none⟩)) b st A c w1.heap.size b2 st3 A3 c3 g9 g1 P cb ys3 AL nl cl) (fun x _ => nl - (intOf x).toNat)
                case atStart => exact ⟨0, _, by omega, rfl, HO30.out, HR30.out, HQ30.out⟩
                case round =>
                  clear HO30 HQ30 HR30 HRW HQF
                  obtain ⟨i4, zs4, hi4, rfl, hrow, hrow1, hqf⟩ := hrel
                  have HQF := Lib.hid hqf
                  have HR1 := Lib.hid hrow1
                  by_cases hit4 : i4 < nl
                  · obtain ⟨g4, rfl, hg4, _⟩ := own_from hrow (by omega)
                    have hxl : zs4.length = nl := by have := hrow.1; omega
                    have hc1 := hrow.cellAt i4 (by omega)
                    rw [List.getElem?_eq_getElem (by omega)] at hc1
                    have hf1 := hrow.frozenAt i4
                    have hst := hrow.stored i4 (.string ⟨#[63]⟩)
                    have HST := Lib.hid hst
                    have HNE := Lib.hid (own_ne hrow1 hrow (by decide))
                    clear hst hqf hrow1 hrow
                    go_wp2
                    go_roundw
                    case rel => exact ⟨i4 + 1, _, hit4, by go_num, HST.out.1, HR1.out.kept HST.out.2 HNE.out, HQF.out.row HST.out.2 fun k hk => .inr (by cases hk; exact hg4)⟩
                    case measure => simp [intOf]; omega
                  · obtain ⟨a0, a1, a2, a3⟩ := hqf.cells2
                    have hp0 : (P : Int) < (P : Int) + 1 := by omega
                    have hp1 : (0 : Int) ≤ (P : Int) := by omega
                    clear hqf hrow1 hrow
                    go_wp2_with (first
                      | (go_at_call 13; (with_reducible refine (QF.tells2 HQF.out HOK3.out).mono ?_); rintro e w40 ⟨rfl, hq40, hb40⟩; have HQ40 := Lib.hid hq40; have HR40 := Lib.hid (own_below HR1.out hb40 (Nat.le_refl _)); obtain ⟨d0, d1, d2, d3⟩ := hq40.cells1; clear hq40 hb40)
                      | (go_at_call 13; (with_reducible refine (QF.tells1 HQ40.out HOK.out).mono ?_); rintro e w41 ⟨rfl, hq41, hb41⟩; have HQ41 := Lib.hid hq41; have hc41 := ((own_below HR40.out hb41 (Nat.le_refl _)).cellAt P (by omega)).trans HP8.out; clear hq41 hb41))
                    go_ret
                    exact ⟨rfl, HQ41.out.bel⟩
end Dr
end Go.Proofs.Ytljhedgcpbapdaa
