/-
  WHAT IS PROVED: (1) a log's calls as the laws need them, and the document's example. CONDITIONS: the log and its drive are newer than a world in which the library's variables lie as laid.
-/
import Derived.Test.YtbfmjonabndhaaaGreatDoorQWInvB
import Derived.Test.YtbfmjonabndhaaaGreatDoorQWLawA
namespace Go.Proofs.YtbfmjonabndhaaaGreatDoor
open Go Go.RowKit Go.Maps Go.Proofs.YtbfmjonabndhaaaGreatDoor.Fr Go.Proofs.YtbfmjonabndhaaaGreatDoor.Dr
namespace Wl

section
variable {w0 w w' : World} {X : Nat → Prop} {b d B : Nat} {g : Int} {dead : Bool} {st : St}
/-- What a law does by itself: it writes into rows of its own, and makes new ones. -/
theorem LS.law (h : LS w0 w X b d g dead st) (hm : Mod (fun k => X k ∧ w0.heap.size ≤ k) w w') : LS w0 w' (ext X w w') b d g dead st := by
  obtain ⟨⟨S, h1, h2, h3, h4⟩, hl, hn, hx⟩ := h
  have hll := hl.lt
  refine ⟨⟨S, h1.mod hm fun k hk e => (h4 k (.inl e.1)).2 hk, h2, h3.trans (hm.to_below (fun k hk => hk.2) h3.size), fun k hk => ?_⟩, hl.same (hm.block b hll fun e => hx e.1), hn, ?_⟩
  · rcases hk with (hk | hk) | rfl
    · exact ⟨Nat.lt_of_lt_of_le (h4 k (.inl hk)).1 hm.size, (h4 k (.inl hk)).2⟩
    · exact ⟨hk.2, fun hs => by have := h1.lt k hs; omega⟩
    · exact ⟨Nat.lt_of_lt_of_le hll hm.size, (h4 _ (.inr rfl)).2⟩
  · rintro (e | e)
    · exact hx e
    · omega
theorem LS.news (h : LS w0 w X b d g dead st) (hb : Below w.heap.size w w') : LS w0 w' (ext X w w') b d g dead st := h.law (Mod.below hb)
/-- What is opened over a drive. -/
def OpRes (w0 w : World) (X : Nat → Prop) (d : Nat) (st : St) (pays : List Bs) (e : Ending) (w' : World) : Prop :=
  ∃ b A k c vs, e = .returned (.tuple #[.pointer (some ⟨b, 0, none⟩), .slice A k c, .int .i64 0]) ∧ LS w0 w' (fun k => ext X w w' k ∧ k ≠ b) b d (nextOf 1 (segs st.files)) false st ∧ pays.length = k ∧ k ≤ c ∧
    w'.ownsRow w.heap.size 28 1 (.slice A k c) k vs ∧ OwnL w' w.heap.size vs pays ∧ Below w.heap.size w w'
theorem ds_open (h : DS w0 w X d st) (hL : Lb B w0) (hok : st.Ok) {pays : List Bs} (hp : paysOf st.files 1 (segs st.files) = pays) :
    Calls Tryz.prog 8 #[.pointer (some ⟨d, 0, none⟩), .int .i64 1] w (OpRes w0 w X d st pays) := by
  subst hp
  obtain ⟨S, h1, h2, h3, h4⟩ := h
  refine (open_any h1 hok (hL.below (h3.mono hL.up)) 1 (by omega) (by omega)).mono ?_
  rintro e w' ⟨b, A, k, c, vs, rfl, hb, hl, hk, hkc, hrow, hown, hbel⟩
  refine ⟨b, A, k, c, vs, rfl, ⟨⟨S, h1.below hbel, h2, h3.trans (hbel.mono h3.size), fun k hk => ?_⟩, hl, Nat.le_trans h3.size hb, fun e => e.2 rfl⟩, hk, hkc, hrow, hown, hbel⟩
  rcases hk with ⟨hk | hk, _⟩ | rfl
  · exact ⟨Nat.lt_of_lt_of_le (h4 k hk).1 hbel.size, (h4 k hk).2⟩
  · exact ⟨hk.2, fun hs => by have := h1.lt k hs; omega⟩
  · exact ⟨hl.lt, fun hs => by have := h1.lt _ hs; omega⟩
/-- The block of a row that the opened log isn't. -/
theorem row_off {w : World} {base e n : Nat} {v : Value} {xs : List Value} (hr : w.ownsRow base e 1 v n xs) (hl : LogAt w b d g dead) (hne : e ≠ 67) : ∀ k, v.ownBlock = some k → base ≤ k ∧ k < w.heap.size ∧ k ≠ b := by
  intro k hk
  obtain ⟨cur, hc⟩ := own_blk hr hk
  exact ⟨(hr.lt k hk).1, (hr.lt k hk).2, Blk.ne hc hl hne⟩
/-- What an Append leaves. -/
def AppRes (k t : Nat) (ar dead : Bool) (st : St) (z : Nat) (p : Bs) (g' : Int) (dead' : Bool) (st' : St) (code : Nat) : Prop :=
  (dead = false ∧ code = 0 ∧ dead' = false ∧ Lx (k + 1) (t + 2) ar g' false st' z ∧ tag st'.files = tag st.files ++ [(g', p)]) ∨ (code = 6 ∧ dead' = true ∧ ar = true ∧ Lx (k + 1) (t + 2) ar g' true st' z ∧ tag st'.files = tag st.files)
theorem lx_app {k t z : Nat} {ar : Bool} (h : LS w0 w X b d g dead st) (hx : Lx k t ar g dead st z) (hL : Lb B w0) (hk : k ≤ 199) (ht : t ≤ 1000) (A : Option Addr) (n c : Nat) (l : Bs) (hl : l.length = n) (hr : Rd w A (bv l)) (hn : l.length ≤ 4096) :
    Calls Tryz.prog 12 #[.pointer (some ⟨b, 0, none⟩), .slice A n c] w fun e w' => ∃ g' dead' st' code, e = .returned (.int .i64 ((code : Nat) : Int)) ∧ LS w0 w' X b d g' dead' st' ∧ (∀ k, X k → w'.heap[k]? = w.heap[k]?) ∧ AppRes k t ar dead st z l g' dead' st' code := by
  obtain ⟨h1, h2, h3, h4⟩ := hx.ok
  refine (lapp_any h hL h1 (by omega) h2 (by omega) A n c l hl hr).mono ?_
  rintro e w' ⟨rfl, h5, h6⟩
  exact ⟨_, _, _, _, rfl, h5, h6, hx.app hk (by omega)⟩
/-- .. on a drive that isn't armed. -/
theorem lx_app0 {k t z : Nat} (h : LS w0 w X b d g false st) (hx : Lx k t false g false st z) (hL : Lb B w0) (hk : k ≤ 199) (ht : t ≤ 1000) (A : Option Addr) (n c : Nat) (l : Bs) (hl : l.length = n) (hr : Rd w A (bv l)) (hn : l.length ≤ 4096) :
    Calls Tryz.prog 12 #[.pointer (some ⟨b, 0, none⟩), .slice A n c] w fun e w' => ∃ g' st', e = .returned (.int .i64 0) ∧ LS w0 w' X b d g' false st' ∧ (∀ k, X k → w'.heap[k]? = w.heap[k]?) ∧ Lx (k + 1) (t + 2) false g' false st' z ∧ tag st'.files = tag st.files ++ [(g', l)] := by
  refine (lx_app h hx hL hk ht A n c l hl hr hn).mono ?_
  rintro e w' ⟨g', dead', st', code, rfl, h1, h2, h3⟩
  rcases h3 with ⟨_, rfl, rfl, h4, h5⟩ | ⟨_, _, h4, _⟩
  · exact ⟨g', st', rfl, h1, h2, h4, h5⟩
  · cases h4

/-! ### the document's example -/
def aw1 : St := ⟨[⟨seg 1, sealOf [1, 2, 3], 0⟩], 1, false, 0⟩
theorem aw1_eq : lapp 1 false St.empty [1, 2, 3] = ((1, false, aw1), 0) := by kernel_rfl
theorem aw1_pays : aw1.Ok ∧ paysOf aw1.files 1 (segs aw1.files) = [[1, 2, 3]] := by
  have h := Lx.first.app (k := 0) (p := [1, 2, 3]) (by omega) (by decide)
  rw [aw1_eq] at h
  rcases h with ⟨_, _, _, h1, h2⟩ | ⟨h1, _⟩
  · refine ⟨h1.ok.1, ?_⟩
    have h3 := h1.pays (by omega)
    simp only at h2 h3
    rw [h3, h2]
    rfl
  · cases h1
theorem aw1_loose : aw1.looseOf (⟨#[119, 97, 108, 45, 48, 48, 48, 48, 48, 49]⟩ : ByteArray).data.toList = 8 := by kernel_rfl
theorem aw_o1 (h : DS w0 w (fun _ => False) d St.empty) (hL : Lb B w0) :
    Calls Tryz.prog 8 #[.pointer (some ⟨d, 0, none⟩), .int .i64 1] w fun e w' => ∃ b A c, e = .returned (.tuple #[.pointer (some ⟨b, 0, none⟩), .slice A 0 c, .int .i64 0]) ∧ LS w0 w' (fun _ => False) b d 1 false St.empty := by
  refine (ds_open h hL ok_empty (pays := []) rfl).mono ?_
  rintro e w' ⟨b, A, k, c, vs, rfl, h1, rfl, _, _, _, _⟩
  exact ⟨b, A, c, rfl, h1.weak fun _ h => h.elim⟩
theorem aw_ap (h : LS w0 w (fun _ => False) b d 1 false St.empty) (hL : Lb B w0) :
    Calls Tryz.prog 12 #[.pointer (some ⟨b, 0, none⟩), .slice (some ⟨w.heap.size, 0, none⟩) 3 3] (w.alloc (.cells #[.int .u8 1, .int .u8 2, .int .u8 3] 5)) fun e w' => e = .returned (.int .i64 0) ∧ DS w0 w' (fun _ => False) d aw1 := by
  have h1 := h.below ((Below.refl _ _).alloc (Nat.le_refl _) (.cells #[.int .u8 1, .int .u8 2, .int .u8 3] 5))
  refine (lapp_any h1 hL ok_empty (by decide) (by omega) (by omega) _ 3 3 [1, 2, 3] rfl (Rd.block _ _ _ _)).mono ?_
  rw [aw1_eq]
  rintro e w' ⟨h2, h3, _⟩
  exact ⟨h2, h3.ds.weak fun _ h => h.elim⟩
theorem aw_o2 (h : DS w0 w (fun _ => False) d aw1) (hL : Lb B w0) :
    Calls Tryz.prog 8 #[.pointer (some ⟨d, 0, none⟩), .int .i64 1] w fun e w' => ∃ b gl o c A3 c3, e = .returned (.tuple #[.pointer (some ⟨b, 0, none⟩), .slice (some ⟨gl, o, none⟩) 1 c, .int .i64 0]) ∧ w'.cell? ⟨gl, o, none⟩ = some (.slice A3 3 c3) ∧ Rd w' A3 (bv [1, 2, 3]) ∧ DS w0 w' (fun _ => False) d aw1 := by
  refine (ds_open h hL aw1_pays.1 aw1_pays.2).mono ?_
  rintro e w' ⟨b, A, k, c, vs, rfl, h1, rfl, _, h2, h3, _⟩
  obtain ⟨A3, m, c3, h4, h5, _, h6⟩ := h3.reads.2 0 (vs[0]'(by rw [h3.1]; decide)) [1, 2, 3] (List.getElem?_eq_getElem _) rfl
  obtain ⟨gl, o, rfl, _, h7⟩ := (Rd.own h2).at_ (i := 0) (by rw [h3.1]; decide)
  rw [h4] at h7
  have hm : m = 3 := h5.symm
  subst hm
  exact ⟨b, gl, o, c, A3, c3, rfl, h7, h6, h1.ds.weak fun _ h => h.elim⟩
theorem aw_lo (h : DS w0 w (fun _ => False) d aw1) :
    Calls Tryz.prog 16 #[.pointer (some ⟨d, 0, none⟩), .string ⟨#[119, 97, 108, 45, 48, 48, 48, 48, 48, 49]⟩] w fun e w' => e = .returned (.int .i64 8) ∧ ∃ k, w' = w.drewN k := by
  obtain ⟨S, h1, _⟩ := h.rep
  have h2 := loose_any h1 aw1_pays.1 ⟨#[119, 97, 108, 45, 48, 48, 48, 48, 48, 49]⟩ (by decide)
  rw [aw1_loose] at h2
  exact h2
end
set_option maxHeartbeats 1600000 in
theorem wawake_any {B : Nat} {w : World} (hL : Lb B w) : Calls Tryz.prog 4 #[] w (Yes w) := by
  have hc1 := new_any w
  have HL := Lib.hid hL
  have HST := Lib.hid (fun (W : World) (A : Option Addr) (m c : Nat) (hl : ([1, 2, 3] : Bs).length = m) (hr : Rd W A (bv [1, 2, 3])) => run_str (P := Tryz.prog) W 28 9 5 Tryz.underlying28 Tryz.underlying5 Tryz.underlying9 A m c [1, 2, 3] hl hr)
  clear hL
  go_enter Tryz.func4, Tryz.ntmps4
  go_wp2_with (first
    | (go_at_call 15; refine hc1.mono ?_; intro e w1 hp; have hp2 := hp.ds; clear hp; obtain ⟨d, rfl, hd1⟩ := hp2; have H1 := Lib.hid hd1; clear hd1)
    | (go_at_call 8; (with_reducible refine (aw_o1 H1.out HL.out).mono ?_); rintro e w2 ⟨b, A, c, rfl, h2⟩; have HLG := Lib.hid h2.log; have H2 := Lib.hid h2; clear h2)
    | (go_at_call 14; (with_reducible refine (segment_any HLG.out).mono ?_); rintro e w3 ⟨rfl, rfl⟩)
    | (go_at_call 12; (with_reducible refine (aw_ap H2.out HL.out).mono ?_); rintro e w4 ⟨rfl, h4⟩; have H4 := Lib.hid h4; clear h4)
    | (go_at_call 8; (with_reducible refine (aw_o2 H4.out HL.out).mono ?_); rintro e w5 ⟨b5, gl, o, c5, A3, c3, rfl, q5, hr5, h5⟩; have hst5 := HST.out w5 A3 3 c3 rfl hr5; have H5 := Lib.hid h5; clear h5 hr5)
    | (go_at_call 16; (with_reducible refine (aw_lo H5.out).mono ?_); rintro e w6 ⟨rfl, k6, rfl⟩))
  go_ret
  exact Yes.mk (below_drewN H5.out.bel k6)

end Wl
end Go.Proofs.YtbfmjonabndhaaaGreatDoor
