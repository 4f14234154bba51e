/-
  WHAT IS PROVED: what the law DriveSyncs answers. CONDITIONS: the script and the numbers stand in memory as named.
-/
import Derived.Test.YtljhedgcpbapdaaLTwo
import Derived.Test.YtljhedgcpbapdaaLAwake
import Derived.Test.YtljhedgcpbapdaaLSame
namespace Go.Proofs.Ytljhedgcpbapdaa
open Go Go.RowKit Go.Maps Go.Proofs.Ytljhedgcpbapdaa.Fr
namespace Dr

/-! ### plain -/
theorem cut1_all {f : Fl} (h : f.dat.length ≤ 262144) {ks : List Int} (hk : ∀ k ∈ ks, 262144 ≤ k) (hne : ks ≠ []) : (cut1 f ks).1.nd = f.nd ∧ (∀ k ∈ (cut1 f ks).2, 262144 ≤ k) ∧ ks.length ≤ (cut1 f ks).2.length + 1 := by
  unfold cut1
  split
  · cases ks with
    | nil => exact absurd rfl hne
    | cons k r =>
      have hk1 := hk k (by simp)
      have h1 : ¬ k.toNat < f.dat.length - f.syn := by omega
      refine ⟨?_, fun x hx => hk x (by simp at hx; simp [hx]), by simp⟩
      simp [hdN_cons, h1, Fl.nd]
  · exact ⟨by simp [Fl.nd], hk, by simp⟩
theorem cuts_all : ∀ {l : List Fl} (_ : ∀ f ∈ l, f.dat.length ≤ 262144) {ks : List Int} (_ : ∀ k ∈ ks, 262144 ≤ k) (_ : l.length ≤ ks.length), (cuts l ks).map Fl.nd = l.map Fl.nd
  | [], _, _, _, _ => rfl
  | f :: r, h, ks, hk, hl => by
    obtain ⟨h1, h2, h3⟩ := cut1_all (h f (by simp)) hk (fun e => by subst e; simp at hl)
    simp only [cuts, List.map_cons, h1]
    rw [cuts_all (fun g hg => h g (by simp [hg])) h2 (by simp at hl; omega)]
theorem cuts_synced : ∀ {l : List Fl} (_ : ∀ f ∈ l, f.syn = f.dat.length) (ks : List Int), (cuts l ks).map Fl.nd = l.map Fl.nd
  | [], _, _ => rfl
  | f :: r, h, ks => by
    have h1 : ¬ f.syn < f.dat.length := by have := h f (by simp); omega
    simp only [cuts, List.map_cons]
    rw [cuts_synced (fun g hg => h g (by simp [hg]))]
    simp [cut1, h1, Fl.nd]
theorem put_map {f : Fl} : ∀ {l : List Fl} (_ : Rising l) (_ : ∃ g ∈ l, g.name = f.name), put f l = l.map fun g => if g.name = f.name then f else g
  | [], _, h => by obtain ⟨_, h, _⟩ := h; cases h
  | a :: r, hr, h => by
    obtain ⟨h1, h2⟩ := List.pairwise_cons.1 hr
    by_cases ha : a.name = f.name
    · have e1 : (r.filter fun g => decide (g.name < f.name)) = [] := List.filter_eq_nil_iff.2 fun g hg => by
        have := h1 g hg; rw [ha] at this; simpa using List.le_of_lt this
      have e2 : (r.filter fun g => decide (f.name < g.name)) = r := List.filter_eq_self.2 fun g hg => by
        have := h1 g hg; rw [ha] at this; simpa using this
      have e3 : (r.map fun g => if g.name = f.name then f else g) = r := by
        refine (List.map_congr_left fun g hg => ?_).trans (List.map_id r)
        have := h1 g hg; rw [ha] at this
        rw [if_neg (ne_of_lt this).symm]; rfl
      have l1 : ¬ a.name < f.name := by rw [ha]; exact lt_irrefl _
      have l2 : ¬ f.name < a.name := by rw [ha]; exact lt_irrefl _
      unfold put
      rw [List.filter_cons_of_neg (by simpa using l1), List.filter_cons_of_neg (by simpa using l2), e1, e2, List.map_cons, if_pos ha, e3]
      rfl
    · have hr' : ∃ g ∈ r, g.name = f.name := by
        obtain ⟨g, hg, hn⟩ := h
        rcases List.mem_cons.1 hg with rfl | hg
        · exact absurd hn ha
        · exact ⟨g, hg, hn⟩
      obtain ⟨g, hg, hn⟩ := hr'
      have l1 : a.name < f.name := by rw [← hn]; exact h1 g hg
      have ih := put_map (f := f) h2 ⟨g, hg, hn⟩
      unfold put at ih ⊢
      rw [List.filter_cons_of_pos (by simpa using l1), List.filter_cons_of_neg (by simpa using List.le_of_lt l1), List.map_cons, if_neg ha, ← ih]
      rfl
/-- What holds when the first i files have been synced. -/
structure SyP (st0 : St) (i : Nat) (st : St) : Prop where
  ok : st.Ok
  steps : st.steps ≤ 80 + i
  names : st.files.map (·.name) = st0.files.map (·.name)
  syn : ∀ j f, j < i → st.files[j]? = some f → f.syn = f.dat.length
theorem SyP.step {st0 st : St} {i : Nat} (h : SyP st0 i st) {f0 : Fl} (hi : st0.files[i]? = some f0) :
    (st.dead = true ∧ st.sync f0.name = (st, 6)) ∨ ∃ st', st.sync f0.name = (st', 0) ∧ SyP st0 (i + 1) st' ∧ st'.looseOf f0.name = 0 := by
  have h1 := congrArg (·[i]?) h.names
  simp only [List.getElem?_map, hi, Option.map_some] at h1
  obtain ⟨f, hf, hn⟩ : ∃ f, st.files[i]? = some f ∧ f.name = f0.name := by
    cases h2 : st.files[i]? with
    | none => rw [h2] at h1; cases h1
    | some f => rw [h2] at h1; exact ⟨f, rfl, by simpa using h1⟩
  have hm := List.mem_of_getElem? hf
  have hfd := find_of_mem h.ok.rising hm
  have hok := (h.ok.file f hm).2.2
  rw [← hn]
  have hl : st.look f.name = if st.dead then 6 else 0 := by unfold St.look; rw [hok, hfd]; rfl
  cases hd : st.dead with
  | true =>
    left
    refine ⟨rfl, ?_⟩
    rw [hd] at hl
    unfold St.sync
    rw [hl]
    rfl
  | false =>
    right
    rw [hd] at hl
    have hs : st.sync f.name = ({ st.step with files := put { f with syn := f.dat.length } st.files }, 0) := by
      unfold St.sync
      rw [hl, hfd]
      rfl
    have hok' : ({ st.step with files := put { f with syn := f.dat.length } st.files } : St).Ok := by have := h.ok.sync f.name; rw [hs] at this; exact this
    have hpm := put_map (f := { f with syn := f.dat.length }) h.ok.rising ⟨f, hm, rfl⟩
    refine ⟨_, hs, ⟨hok', by show st.steps + 1 ≤ _; have := h.steps; omega, ?_, ?_⟩, ?_⟩
    · show (put { f with syn := f.dat.length } st.files).map (·.name) = _
      rw [hpm, ← h.names, List.map_map]
      refine List.map_congr_left fun g _ => ?_
      simp only [Function.comp_apply]
      split
      · rename_i e; exact e.symm
      · rfl
    · intro j g hj hg
      replace hg : (put { f with syn := f.dat.length } st.files)[j]? = some g := hg
      rw [hpm, List.getElem?_map] at hg
      cases h3 : st.files[j]? with
      | none => rw [h3] at hg; cases hg
      | some g0 =>
        rw [h3] at hg
        simp only [Option.map_some, Option.some.injEq] at hg
        by_cases e : g0.name = f.name
        · rw [if_pos e] at hg; subst hg; rfl
        · rw [if_neg e] at hg; subst hg
          by_cases hji : j = i
          · subst hji; rw [hf] at h3; cases h3; exact absurd rfl e
          · exact h.syn j g0 (by omega) h3
    · unfold St.looseOf
      show (match find (put { f with syn := f.dat.length } st.files) f.name with | some f => f.dat.length - f.syn | none => 0) = 0
      rw [show find (put { f with syn := f.dat.length } st.files) f.name = some { f with syn := f.dat.length } from find_put_same h.ok.rising]
      exact Nat.sub_self _
theorem SyP.done {st0 st : St} {i : Nat} (h : SyP st0 i st) (hi : st0.files.length ≤ i) (ks : List Int) : st.files.map Fl.nd = (st.crash ks).files.map Fl.nd := by
  refine (cuts_synced (fun f hf => ?_) ks).symm
  obtain ⟨j, hj, rfl⟩ := List.mem_iff_getElem.1 hf
  have hl := congrArg List.length h.names
  simp only [List.length_map] at hl
  exact h.syn j _ (by omega) (List.getElem?_eq_getElem hj)
theorem crash_all {st : St} (h : st.Ok) : st.files.map Fl.nd = (st.crash (List.replicate 300 1099511627776)).files.map Fl.nd :=
  (cuts_all (fun f hf => (h.file f hf).1) (fun k hk => by rw [List.eq_of_mem_replicate hk]; decide) (by rw [List.length_replicate]; have := h.few; omega)).symm

/-! ### in memory -/
/-- The row of three hundred, its first i filled. -/
structure AllAt (g i : Nat) (W : World) : Prop where
  b : ∃ cs : Array Value, Blk W g 3 cs ∧ cs.size = 300 ∧ ∀ j, j < i → cs[j]? = some (.int .i64 1099511627776)
section
variable {w0 W W' : World} {b g i : Nat} {st : St} {X : Nat → Prop}
theorem AllAt.cell (h : AllAt g i W) {j : Nat} (hj : j < 300) : ∃ v, W.cell? ⟨g, j, none⟩ = some v ∧ W.frozen? ⟨g, j, none⟩ = false :=
  let ⟨cs, h1, h2, _⟩ := h.b; ⟨cs[j]'(by omega), by rw [h1.cell j, Array.getElem?_eq_getElem], h1.frozen j⟩
theorem AllAt.set (h : AllAt g i W) (hi : i < 300) : AllAt g (i + 1) (W.setCell ⟨g, i, none⟩ (.int .i64 1099511627776)) := by
  obtain ⟨cs, h1, h2, h3⟩ := h.b
  refine ⟨_, h1.set i _, by simp [h2], fun j hj => ?_⟩
  by_cases e : j = i
  · subst e; simp [h2, hi]
  · rw [Array.getElem?_setIfInBounds_ne (by omega)]; exact h3 j (by omega)
theorem AllAt.rd (h : AllAt g 300 W) : Rd W (some ⟨g, 0, none⟩) (iv (List.replicate 300 1099511627776)) := by
  obtain ⟨cs, h1, h2, h3⟩ := h.b
  intro _
  refine ⟨g, 0, rfl, h1.lt, fun j hj => ?_⟩
  simp only [iv, List.length_map, List.length_replicate] at hj
  rw [Nat.zero_add, h1.cell j, h3 j hj]
  simp only [iv, List.getElem_map, List.getElem_replicate]
theorem DS.set (h : DS w0 W X b st) (hx : X g) (hg : w0.heap.size ≤ g) (i : Nat) (u : Value) : DS w0 (W.setCell ⟨g, i, none⟩ u) X b st := by
  obtain ⟨S, h1, h2, h3, h4⟩ := h
  have hsz : (W.setCell ⟨g, i, none⟩ u).heap.size = W.heap.size := by simp [World.setCell]
  refine ⟨S, h1.same (fun k hk => Below.heap_setCell _ _ _ _ fun e => ?_) (by rw [hsz]; exact Nat.le_refl _), h2, h3.setCell (p := ⟨g, i, none⟩) hg u, fun k hk => ⟨by rw [hsz]; exact (h4 k hk).1, (h4 k hk).2⟩⟩
  subst e
  exact (h4 _ hx).2 hk
theorem Pair.ds {v : Value} (h : Pair w0 X b st v W) : DS w0 W X b st :=
  let ⟨S, _, h1, _, h3, _, _⟩ := h.reps; ⟨S, h1, fun k hk => (h3 k hk).1, h.bel, fun k hk => ⟨h.lt k hk, fun e => (h3 k e).2 hk⟩⟩
theorem zeros_int : (Try.prog.info? 3).map (fun i => (i.zero, i.size, i.bytes)) = some (some (.int .i64 0), 1, 8) := by kernel_rfl
theorem mk_ints (W : World) : (Instr.makeSlice 41 (.int .i64 300) (.int .i64 300)).run Try.prog W = .ok (.slice (some ⟨W.heap.size, 0, none⟩) 300 300) (W.alloc (.cells (madeCells #[Value.int .i64 0] 300) 3)) := by
  obtain ⟨i0, hi, hz, hz1, hz2⟩ := info_parts zeros_int
  have h := run_make (P := Try.prog) W 41 3 i0 (.int .i64 0) Try.underlying41 hi hz .i64 .i64 300 300 (by omega) (by omega) (by rw [hz2]; omega) (by omega)
  rw [hz1] at h
  exact h
theorem AllAt.new (W : World) : AllAt W.heap.size 0 (W.alloc (.cells (madeCells #[Value.int .i64 0] 300) 3)) :=
  ⟨_, Blk.new _ _ _, by simp [size_madeCells], fun j hj => by omega⟩
theorem ds_same {st2 : St} {b2 : Nat} {W2 : World} (h : DS w0 W X b st) (hn : DNew W st2 (.returned (.pointer (some ⟨b2, 0, none⟩))) W2) (hok : st.Ok) (hok2 : st2.Ok) (he : st.files.map Fl.nd = st2.files.map Fl.nd) :
    Calls Try.prog 19 #[.pointer (some ⟨b, 0, none⟩), .pointer (some ⟨b2, 0, none⟩)] W2 fun e w' => e = .returned (.bool true) ∧ Below W.heap.size W w' := by
  obtain ⟨b', e', h1, h2⟩ := hn
  cases e'
  obtain ⟨S, h3, _⟩ := h
  exact (same_any W2 (h3.below h2) h1 hok hok2 he).mono fun e w' ⟨k1, k2⟩ => ⟨k1, h2.trans (k2.mono h2.size)⟩
end
/-- The blocks of a row. -/
def XA (A : Option Addr) (k : Nat) : Prop := ∃ a, A = some a ∧ a.block = k
section
variable {w0 W W' : World} {b : Nat} {st st' : St} {X : Nat → Prop} {A : Option Addr}
theorem ds_names (h : DS w0 W X b st) (hok : st.Ok) : Calls Try.prog 20 #[.pointer (some ⟨b, 0, none⟩)] W fun e W' => ∃ A n c, e = .returned (.slice A n c) ∧ st.files.length = n ∧ n ≤ c ∧ Rd W' A ((st.files.map (·.name)).map encStr) ∧ DS w0 W' (XA A) b st := by
  obtain ⟨S, h1, _⟩ := id h
  refine (names_any h1 hok).mono fun e W' ⟨A, n, c, h2, h3, h4, h5, h6⟩ => ⟨A, n, c, h2, by rw [List.length_map] at h3; exact h3, h4, Rd.own h5, h.add h6 fun k hk => .inr ?_⟩
  obtain ⟨a, rfl, rfl⟩ := hk
  obtain ⟨_, hb⟩ := own_blk h5 (k := a.block) rfl
  exact ⟨own_row h5 a.block rfl, hb.lt⟩
theorem ds_sync (h : DS w0 W (XA A) b st) (hok : st.Ok) (hst : st.steps ≤ 1000) {xs : List Value} (hr : Rd W A xs) {s : Bs} (hs : (⟨s.toArray⟩ : ByteArray).size ≤ maxLen) {n : Nat} {k : Int} (hp : st.sync s = (st', n)) (hk : (n : Int) = k) :
    Calls Try.prog 21 #[.pointer (some ⟨b, 0, none⟩), .string ⟨s.toArray⟩] W fun e W' => e = .returned (.int .i64 k) ∧ DS w0 W' (XA A) b st' ∧ Rd W' A xs := by
  refine (h.op fun S h1 _ => sync_any h1 hok (by omega) ⟨s.toArray⟩ hs).mono fun e W' ⟨h2, h3, h4⟩ => ?_
  replace h2 : e = .returned (.int .i64 ((st.sync s).2 : Int)) := h2
  replace h3 : DS w0 W' (XA A) b (st.sync s).1 := h3
  rw [hp] at h2 h3
  subst hk
  exact ⟨h2, h3, h4 A xs hr fun a ha => ⟨a, ha, rfl⟩⟩
theorem ds_dead (h : DS w0 W X b st) {d : Bool} (hd : st.dead = d) : Calls Try.prog 17 #[.pointer (some ⟨b, 0, none⟩)] W fun e w' => e = .returned (.bool d) ∧ W = w' := by
  obtain ⟨S, ⟨mb, Q, h1, _⟩, _⟩ := h
  subst hd
  exact dead_any h1
theorem ds_loose (h : DS w0 W X b st) (hok : st.Ok) {s : Bs} (hs : (⟨s.toArray⟩ : ByteArray).size ≤ maxLen) (h0 : st.looseOf s = 0) : Calls Try.prog 22 #[.pointer (some ⟨b, 0, none⟩), .string ⟨s.toArray⟩] W fun e w' => e = .returned (.int .i64 0) ∧ ∃ k, w' = W.drewN k := by
  obtain ⟨S, h1, _⟩ := h
  have h2 := loose_any h1 hok ⟨s.toArray⟩ hs
  rw [show st.looseOf (⟨s.toArray⟩ : ByteArray).data.toList = 0 from h0] at h2
  exact h2
theorem ds_crash (h : DS w0 W X b st) (hok : st.Ok) {AK : Option Addr} {nK cK : Nat} {ks : List Int} (hk : KRow W AK nK cK ks) : Calls Try.prog 15 #[.pointer (some ⟨b, 0, none⟩), .slice AK nK cK] W (DNew W (st.crash ks)) :=
  let ⟨_, h1, _⟩ := h; crash_any h1 hok AK nK cK ks hk.l hk.c hk.r
end
def SyInv (w0 : World) (st0 : St) (b n : Nat) (A : Option Addr) (s44 : Value) (W : World) : Prop :=
  ∃ (i : Nat) (st : St), i ≤ n ∧ s44 = .int .i64 (i : Int) ∧ SyP st0 i st ∧ DS w0 W (XA A) b st ∧ Rd W A ((st0.files.map (·.name)).map encStr)
def AlInv (w0 : World) (g b : Nat) (st : St) (s28 : Value) (W : World) : Prop := ∃ i : Nat, i ≤ 300 ∧ s28 = .int .i64 (i : Int) ∧ AllAt g i W ∧ DS w0 W (fun k => k = g) b st
set_option maxRecDepth 100000 in
set_option maxHeartbeats 1000000 in
theorem syncs_any (w : World) (A0 : Option Addr) (n0 c0 : Nat) (L : List OpM) (hn : L.length = n0) (hL : Script w A0 L) (AK : Option Addr) (nK cK : Nat) (ks : List Int) (hK : KRow w AK nK cK ks) :
    Calls Try.prog 6 #[.slice A0 n0 c0, .slice AK nK cK] w fun e w' => e = .returned (.bool true) ∧ Below w.heap.size w w' := by
  have HB := Lib.hid (built_any w A0 n0 c0 L hn hL)
  have HW := Lib.hid awake_any
  have HK := Lib.hid hK
  have hmk := mk_ints
  clear hn hL hK
  go_enter Try.func6, Try.ntmps6
  go_wp2_with (first
    | (go_at_call 9; refine HB.out.mono ?_; rintro e w1 ⟨b, st, A, c, rfl, h1, h2, h3, hP⟩; have HP := Lib.hid hP; have HOK := Lib.hid h2; have HST := Lib.hid h3; clear h1 h2 h3 hP)
    | (go_at_call 10; refine (HW.out _).mono ?_; rintro e w2 ⟨rfl, hb2⟩))
  have hds : DS w (w2.alloc (.cells (madeCells #[Value.int .i64 0] 300) 3)) (fun k => k = w2.heap.size) b st :=
    ((HP.out.ds.alloc _).below hb2).add ((Below.refl _ _).alloc (Nat.le_refl _) _) fun k hk => .inr ⟨by omega, by simp; omega⟩
  have hal := AllAt.new w2
  have hg2 : w.heap.size ≤ w2.heap.size := by have := HP.out.bel.size; have := hb2.size; simp at this; omega
  obtain ⟨W3, hW3⟩ : ∃ W3, W3 = w2.alloc (.cells (madeCells #[Value.int .i64 0] 300) 3) := ⟨_, rfl⟩
  rw [← hW3] at hds hal ⊢
  clear hW3 hb2 hmk
  go_loopw [28] (AlInv w w2.heap.size b st) (fun x _ => 300 - (intOf x).toNat)
  case atStart => exact ⟨0, by omega, rfl, hal, hds⟩
  case round =>
    clear hds hal
    obtain ⟨i, hi, rfl, hal, hds⟩ := hrel
    by_cases hlt : i < 300
    · obtain ⟨v, hv, hf⟩ := hal.cell hlt
      have hal' := hal.set hlt
      have hds' := hds.set rfl hg2 i (.int .i64 1099511627776)
      have HA := Lib.hid hal'
      have HD := Lib.hid hds'
      clear hal hds hal' hds'
      go_wp2
      go_roundw
      case rel => exact ⟨i + 1, by omega, by go_num, HA.out, HD.out⟩
      case measure => simp [intOf]; omega
    · obtain rfl : i = 300 := by omega
      have HR := Lib.hid hal.rd
      have HD := Lib.hid hds
      have HC := Lib.hid (fun S (h : DriveRep wr S b st) => crash_any h HOK.out (some ⟨w2.heap.size, 0, none⟩) 300 300 (List.replicate 300 1099511627776) List.length_replicate (Nat.le_refl _) HR.out)
      clear hal hds
      go_wp2_with (first
        | (go_at_call 15; obtain ⟨SS, hSS, _⟩ := HD.out; refine (HC.out SS hSS).mono ?_; intro e w4 hp; have hp2 := hp; obtain ⟨b2, rfl, hn4, hb4⟩ := hp2; have HP4 := Lib.hid hp; clear hp hn4)
        | (go_at_call 19; refine (ds_same HD.out HP4.out HOK.out (HOK.out.crash _) (crash_all HOK.out)).mono ?_; rintro e w5 ⟨rfl, hb5⟩; have HD5 := Lib.hid (HD.out.below hb5))
        | (go_at_call 20; refine (ds_names HD5.out HOK.out).mono ?_; rintro e w6 ⟨AL, nl, cl, rfl, hnl, hncl, hrl, hd6⟩; have HNL := Lib.hid hnl; have HRL := Lib.hid hrl; have HD6 := Lib.hid hd6; clear hnl hrl hd6))
      have hnl256 : nl ≤ 256 := by have := HOK.out.few; have := HNL.out; omega
      clear hb4 hb5 HP4 HD HR HC
      go_loopw [44] (SyInv w st b nl AL) (fun x _ => nl - (intOf x).toNat)
      case atStart => exact ⟨0, st, by omega, rfl, ⟨HOK.out, HST.out, rfl, fun j f hj => by omega⟩, HD6.out, HRL.out⟩
      case round =>
        clear HRL HD6 HD5
        obtain ⟨i, st1, hi, rfl, hsy, hds, hrd⟩ := hrel
        have HSY := Lib.hid hsy
        have HDS := Lib.hid hds
        have HRD := Lib.hid hrd
        by_cases hlt : i < nl
        · obtain ⟨f, hf⟩ : ∃ f, st.files[i]? = some f := ⟨st.files[i]'(by have := HNL.out; omega), List.getElem?_eq_getElem _⟩
          obtain ⟨gl, ol, rfl, hgl, q0⟩ := name_at hrd hf
          have HSN := Lib.hid (name_size HOK.out hf)
          have hst1 : st1.steps ≤ 1000 := by have := hsy.steps; omega
          have HST1 := Lib.hid hst1
          have hlt' : (i : Int) < (nl : Int) := by omega
          rcases hsy.step hf with ⟨hde, hs⟩ | ⟨st2, hs, hsy2, hlo⟩
          · have HDE := Lib.hid hde
            have HS := Lib.hid hs
            clear hsy hds hrd hde hs hf hst1
            go_wp2_with (first
              | (go_at_call 21; refine (ds_sync HDS.out HSY.out.ok HST1.out HRD.out HSN.out HS.out (k := 6) rfl).mono ?_; rintro e w7 ⟨rfl, hd7, hr7⟩; have HD7 := Lib.hid hd7; clear hd7 hr7)
              | (go_at_call 17; refine (ds_dead HD7.out HDE.out).mono ?_; rintro e w8 ⟨rfl, rfl⟩))
            go_ret
            exact ⟨rfl, HD7.out.bel⟩
          · have HSY2 := Lib.hid hsy2
            have HS := Lib.hid hs
            have HLO := Lib.hid hlo
            clear hsy hds hrd hs hf hst1 hsy2 hlo
            go_wp2_with (first
              | (go_at_call 21; refine (ds_sync HDS.out HSY.out.ok HST1.out HRD.out HSN.out HS.out (k := 0) rfl).mono ?_; rintro e w7 ⟨rfl, hd7, hr7⟩; have HD7 := Lib.hid hd7; have HR7 := Lib.hid hr7; clear hd7 hr7)
              | (go_at_call 22; refine (ds_loose HD7.out HSY2.out.ok HSN.out HLO.out).mono ?_; rintro e w8 ⟨rfl, k8, rfl⟩))
            go_roundw
            case rel => exact ⟨i + 1, st2, by omega, by go_num, HSY2.out, HD7.out.drewN k8, HR7.out.drewN k8⟩
            case measure => simp [intOf]; omega
        · obtain rfl : i = nl := by omega
          clear hsy hds hrd
          go_wp2_with (first
            | (go_at_call 15; refine (ds_crash HDS.out HSY.out.ok (HK.out.below HDS.out.bel)).mono ?_; intro e w7 hp; have hp2 := hp; obtain ⟨b2, rfl, hn7, hb7⟩ := hp2; have HP7 := Lib.hid hp; clear hp hn7)
            | (go_at_call 19; refine (ds_same HDS.out HP7.out HSY.out.ok (HSY.out.ok.crash _) (HSY.out.done (Nat.le_of_eq HNL.out) ks)).mono ?_; rintro e w8 ⟨rfl, hb8⟩))
          go_ret
          exact ⟨rfl, HDS.out.bel.trans (hb8.mono HDS.out.bel.size)⟩
end Dr
end Go.Proofs.Ytljhedgcpbapdaa
