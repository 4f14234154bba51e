/-
  WHAT IS PROVED: (1) (1) what a log's Sync and Roll do. CONDITIONS: the log and its drive are newer than a world in which the library's variables lie as laid. (2) what a log's Roll does. CONDITIONS: the log and its drive are newer than a world in which the library's variables lie as laid.
-/
import Derived.Test.YtbfmjonabndhaaaGreatDoorQWOpen
namespace Go.Proofs.YtbfmjonabndhaaaGreatDoor
open Go Go.RowKit Go.Maps Go.Proofs.YtbfmjonabndhaaaGreatDoor.Fr Go.Proofs.YtbfmjonabndhaaaGreatDoor.Dr
namespace Wl

/-- A LOG and its drive, newer than w0; X: blocks that neither has. -/
structure LS (w0 w : World) (X : Nat → Prop) (b d : Nat) (g : Int) (dead : Bool) (st : St) : Prop where
  ds : DS w0 w (fun k => X k ∨ k = b) d st
  log : LogAt w b d g dead
  new : w0.heap.size ≤ b
  off : ¬ X b
/-- What an operation on both leaves. -/
def LSOp (w0 : World) (X : Nat → Prop) (b d : Nat) (g : Int) (dead : Bool) (p : St × Nat) (w : World) (e : Ending) (w' : World) : Prop :=
  e = .returned (.int .i64 (p.2 : Int)) ∧ LS w0 w' X b d g dead p.1 ∧ ∀ k, X k → w'.heap[k]? = w.heap[k]?
section
variable {w0 w w' : World} {X : Nat → Prop} {b d B : Nat} {g : Int} {dead : Bool} {st : St}
theorem LS.c0 (h : LS w0 w X b d g dead st) : w.cell? ⟨b, 0, none⟩ = some (.pointer (some ⟨d, 0, none⟩)) := h.log.c0
theorem LS.c1 (h : LS w0 w X b d g dead st) : w.cell? ⟨b, 1, none⟩ = some (.int .i64 g) := h.log.c1
theorem LS.c2 (h : LS w0 w X b d g dead st) : w.cell? ⟨b, 2, none⟩ = some (.bool dead) := h.log.c2
theorem LS.f1 (h : LS w0 w X b d g dead st) : w.frozen? ⟨b, 1, none⟩ = false := h.log.frozen 1
theorem LS.bel (h : LS w0 w X b d g dead st) : Below w0.heap.size w0 w := h.ds.bel
theorem LS.lib (h : LS w0 w X b d g dead st) (hL : Lb B w0) : Lb B w := hL.below (h.bel.mono hL.up)
theorem LS.below (h : LS w0 w X b d g dead st) (hb : Below w.heap.size w w') : LS w0 w' X b d g dead st := ⟨h.ds.below hb, h.log.same (hb.block b h.log.lt), h.new, h.off⟩
theorem LS.xlt (h : LS w0 w X b d g dead st) {k : Nat} (hk : X k) : k < w.heap.size := let ⟨_, _, _, _, h4⟩ := h.ds; (h4 k (.inl hk)).1
theorem LS.set (h : LS w0 w X b d g dead st) (i : Nat) (u : Value) {g' : Int} {dead' : Bool} (hl : LogAt (w.setCell ⟨b, i, none⟩ u) b d g' dead') : LS w0 (w.setCell ⟨b, i, none⟩ u) X b d g' dead' st ∧ ∀ k, X k → (w.setCell ⟨b, i, none⟩ u).heap[k]? = w.heap[k]? := by
  have hm : Mod (fun k => k = b) w (w.setCell ⟨b, i, none⟩ u) := (Mod.refl (fun k => k = b) w).setCell (p := ⟨b, i, none⟩) (fun _ => rfl) u
  obtain ⟨S, h1, h2, h3, h4⟩ := h.ds
  exact ⟨⟨⟨S, h1.mod hm fun k hk e => (h4 b (.inr rfl)).2 (e ▸ hk), h2, h3.trans (hm.to_below (fun k e => by subst e; exact h.new) h3.size), fun k hk => ⟨Nat.lt_of_lt_of_le (h4 k hk).1 hm.size, (h4 k hk).2⟩⟩, hl, h.new, h.off⟩,
    fun k hk => hm.block k (h.xlt hk) fun e => h.off (e ▸ hk)⟩
theorem LS.op {f : FuncId} {args : Array Value} {p : St × Nat} (h : LS w0 w X b d g dead st) (hc : ∀ S, DriveRep w S d st → (∀ k, X k → ¬ S k) → Calls Tryz.prog f args w (DOp S d p w)) : Calls Tryz.prog f args w (LSOp w0 X b d g dead p w) := by
  obtain ⟨S, h1, h2, h3, h4⟩ := h.ds
  refine (hc S h1 fun k hk => (h4 k (.inl hk)).2).mono fun e w' ⟨h5, h6, h7⟩ => ⟨h5, ⟨⟨ext S w w', h6, ext_ge h2 h3.size, h3.trans (h7.to_below h2 h3.size), fun k hk => ⟨Nat.lt_of_lt_of_le (h4 k hk).1 h7.size, fun hs => ?_⟩⟩,
    h.log.same (h7.block b h.log.lt (h4 b (.inr rfl)).2), h.new, h.off⟩, fun k hk => h7.block k (h4 k (.inl hk)).1 (h4 k (.inl hk)).2⟩
  rcases hs with hs | hs
  · exact (h4 k hk).2 hs
  · have := (h4 k hk).1; omega
theorem ls_name (h : LS w0 w X b d g dead st) (hL : Lb B w0) (n : Int) {q : ByteArray} (HQ : Hid (q = (⟨(seg n).toArray⟩ : ByteArray))) :
    Calls Tryz.prog 36 #[.int .i64 n] w fun e w' => e = .returned (.string q) ∧ LS w0 w' X b d g dead st ∧ Below w.heap.size w w' :=
  (nameOf_q n (h.lib hL) HQ).mono fun _ _ ⟨h1, h2⟩ => ⟨h1, h.below h2, h2⟩
theorem ls_loose (h : LS w0 w X b d g dead st) (hok : st.Ok) {n : Int} {q : ByteArray} (HQ : Hid (q = (⟨(seg n).toArray⟩ : ByteArray))) :
    Calls Tryz.prog 16 #[.pointer (some ⟨d, 0, none⟩), .string q] w fun e w' => e = .returned (.int .i64 (st.looseOf (seg n) : Int)) ∧ LS w0 w' X b d g dead st ∧ Below w.heap.size w w' := by
  obtain ⟨S, h1, _⟩ := h.ds
  have hc := loose_any h1 hok q (by rw [HQ.out]; exact seg_size n)
  rw [show q.data.toList = seg n by rw [HQ.out]] at hc
  refine hc.mono fun e w' ⟨h2, k, h3⟩ => ?_
  subst h3
  have hb : Below w.heap.size w (w.drewN k) := below_drewN (Below.refl _ _) k
  exact ⟨h2, h.below hb, hb⟩
theorem ls_sync (h : LS w0 w X b d g dead st) (hok : st.Ok) (hst : st.steps + 1 ≤ 9223372036854775807) {n : Int} {q : ByteArray} (HQ : Hid (q = (⟨(seg n).toArray⟩ : ByteArray))) :
    Calls Tryz.prog 79 #[.pointer (some ⟨d, 0, none⟩), .string q] w (LSOp w0 X b d g dead (st.sync (seg n)) w) := by
  refine h.op fun S h1 _ => ?_
  have hc := sync_any h1 hok hst q (by rw [HQ.out]; exact seg_size n)
  rw [show q.data.toList = seg n by rw [HQ.out]] at hc
  exact hc
/-- A step's error, remembered. -/
theorem ls_noted (h : LS w0 w X b d g dead st) (k : Nat) :
    Calls Tryz.prog 38 #[.pointer (some ⟨b, 0, none⟩), .int .i64 (k : Int)] w (LSOp w0 X b d g (dead || decide (k = 6)) (st, k) w) := by
  by_cases hk : k = 6
  · subst hk
    refine (noted_yes h.log).mono fun e w' ⟨h1, h2⟩ => ?_
    subst h2
    have hl : LogAt (w.setCell ⟨b, 2, none⟩ (.bool true)) b d g (dead || decide (6 = 6)) := by
      rw [decide_eq_true rfl, Bool.or_true]; exact Blk.set h.log 2 _
    have := h.set 2 (.bool true) hl
    exact ⟨h1, this.1, this.2⟩
  · refine (noted_no (b := b) (k : Int) (by omega) w).mono fun e w' ⟨h1, h2⟩ => ?_
    subst h2
    rw [decide_eq_false hk, Bool.or_false]
    exact ⟨h1, h, fun _ _ => rfl⟩
end

/-- What Sync does: dead or not, the drive, the error. -/
def lsync (g : Int) (dead : Bool) (st : St) : Bool × St × Nat :=
  if dead then (dead, st, 6) else if st.looseOf (seg g) = 0 then (dead, st, 0) else (dead || decide ((st.sync (seg g)).2 = 6), st.sync (seg g))
def LSyncRet (w0 : World) (X : Nat → Prop) (b d : Nat) (g : Int) (p : Bool × St × Nat) (w : World) : Ending → World → Prop := LSOp w0 X b d g p.1 p.2 w
section
variable {w0 w : World} {X : Nat → Prop} {b d B : Nat} {g : Int} {dead : Bool} {st : St}
set_option maxHeartbeats 800000 in
theorem lsync_dead (h : LS w0 w X b d g true st) :
    Calls Tryz.prog 61 #[.pointer (some ⟨b, 0, none⟩)] w (LSyncRet w0 X b d g (true, st, 6) w) := by
  have c2 := h.c2
  have H := Lib.hid h
  clear h
  go_enter Tryz.func61, Tryz.ntmps61
  go_wp2
  go_ret
  exact ⟨rfl, H.out, fun _ _ => rfl⟩
set_option maxHeartbeats 800000 in
theorem lsync_none (h : LS w0 w X b d g false st) (hL : Lb B w0) (hok : st.Ok) (hz : st.looseOf (seg g) = 0) :
    Calls Tryz.prog 61 #[.pointer (some ⟨b, 0, none⟩)] w (LSyncRet w0 X b d g (false, st, 0) w) := by
  obtain ⟨q, hq⟩ : ∃ q, q = (⟨(seg g).toArray⟩ : ByteArray) := ⟨_, rfl⟩
  have HQ := Lib.hid hq
  have c1 := h.c1
  have c2 := h.c2
  have HL := Lib.hid hL
  have HO := Lib.hid (fun (W : World) (hW : LS w0 W X b d g false st) => hz ▸ ls_loose hW hok HQ)
  have HN := Lib.hid (ls_name h hL g HQ)
  have H := Lib.hid h
  clear h hL hok hz hq
  go_enter Tryz.func61, Tryz.ntmps61
  go_wp2_with first
    | (go_at_call 36; ((with_reducible refine HN.out.mono ?_); rintro e w2 ⟨rfl, h2, hb2⟩; have q2 := h2.c0; have H2 := Lib.hid h2; clear h2))
    | (go_at_call 16; ((with_reducible refine (HO.out w2 H2.out).mono ?_); rintro e w3 ⟨rfl, h3, hb3⟩; have H3 := Lib.hid h3; clear h3))
  go_ret
  exact ⟨rfl, H3.out, fun k hk => (hb3.block k (H2.out.xlt hk)).trans (hb2.block k (H.out.xlt hk))⟩
set_option maxHeartbeats 1600000 in
theorem lsync_some (h : LS w0 w X b d g false st) (hL : Lb B w0) (hok : st.Ok) (hst : st.steps + 1 ≤ 9223372036854775807) (hz : st.looseOf (seg g) ≠ 0) :
    Calls Tryz.prog 61 #[.pointer (some ⟨b, 0, none⟩)] w (LSyncRet w0 X b d g (false || decide ((st.sync (seg g)).2 = 6), st.sync (seg g)) w) := by
  obtain ⟨q, hq⟩ : ∃ q, q = (⟨(seg g).toArray⟩ : ByteArray) := ⟨_, rfl⟩
  have HQ := Lib.hid hq
  have c1 := h.c1
  have c2 := h.c2
  have HL := Lib.hid hL
  have HO := Lib.hid (fun (W : World) (hW : LS w0 W X b d g false st) => ls_loose hW hok HQ)
  have HS := Lib.hid (fun (W : World) (hW : LS w0 W X b d g false st) => ls_sync hW hok hst HQ)
  obtain ⟨z, hzz⟩ : ∃ z, z = st.looseOf (seg g) := ⟨_, rfl⟩
  have e1 : ((z : Int) == 0) = false := by rw [beq_eq_false_iff_ne]; omega
  obtain ⟨r, hr⟩ : ∃ r, r = st.sync (seg g) := ⟨_, rfl⟩
  rw [← hzz] at HO
  rw [← hr] at HS ⊢
  have HN := Lib.hid (ls_name h hL g HQ)
  have H := Lib.hid h
  clear h hL hok hz hq hzz hr hst
  obtain ⟨st', k⟩ := r
  go_enter Tryz.func61, Tryz.ntmps61
  go_wp2_with first
    | (go_at_call 36; ((with_reducible refine HN.out.mono ?_); rintro e w2 ⟨rfl, h2, hb2⟩; have q2 := h2.c0; have H2 := Lib.hid h2; clear h2))
    | (go_at_call 16; ((with_reducible refine (HO.out w2 H2.out).mono ?_); rintro e w3 ⟨rfl, h3, hb3⟩; have q3 := h3.c0; have H3 := Lib.hid h3; clear h3))
    | (go_at_call 79; ((with_reducible refine (HS.out w3 H3.out).mono ?_); rintro e w4 ⟨rfl, h4, hb4⟩; have H4 := Lib.hid h4; clear h4))
    | (go_at_call 38; ((with_reducible refine (ls_noted H4.out k).mono ?_); rintro e w5 ⟨rfl, h5, hb5⟩; have H5 := Lib.hid h5; clear h5))
  go_ret
  exact ⟨rfl, H5.out, fun x hx => (hb5 x hx).trans ((hb4 x hx).trans ((hb3.block x (H2.out.xlt hx)).trans (hb2.block x (H.out.xlt hx))))⟩
theorem lsync_any (h : LS w0 w X b d g dead st) (hL : Lb B w0) (hok : st.Ok) (hst : st.steps + 1 ≤ 9223372036854775807) :
    Calls Tryz.prog 61 #[.pointer (some ⟨b, 0, none⟩)] w (LSyncRet w0 X b d g (lsync g dead st) w) := by
  unfold lsync
  cases dead with
  | true => exact lsync_dead h
  | false =>
    simp only [Bool.false_eq_true, if_false]
    by_cases hz : st.looseOf (seg g) = 0
    · rw [if_pos hz]; exact lsync_none h hL hok hz
    · rw [if_neg hz]; exact lsync_some h hL hok hst hz
end

end Wl
end Go.Proofs.YtbfmjonabndhaaaGreatDoor
namespace Go.Proofs.YtbfmjonabndhaaaGreatDoor
open Go Go.RowKit Go.Maps Go.Proofs.YtbfmjonabndhaaaGreatDoor.Fr Go.Proofs.YtbfmjonabndhaaaGreatDoor.Dr
namespace Wl

/-- What Roll does: the log's number, dead or not, the drive; the two answers. -/
def lroll (g : Int) (dead : Bool) (st : St) : (Int × Bool × St) × Int × Nat :=
  if (lsync g dead st).2.2 = 0 then ((min (g + 1) 1000000, (lsync g dead st).1, (lsync g dead st).2.1), min (g + 1) 1000000, 0)
  else ((g, (lsync g dead st).1, (lsync g dead st).2.1), 0, (lsync g dead st).2.2)
def LRollRet (w0 : World) (X : Nat → Prop) (b d : Nat) (p : (Int × Bool × St) × Int × Nat) (w : World) (e : Ending) (w' : World) : Prop :=
  e = .returned (.tuple #[.int .i64 p.2.1, .int .i64 (p.2.2 : Int)]) ∧ LS w0 w' X b d p.1.1 p.1.2.1 p.1.2.2 ∧ ∀ k, X k → w'.heap[k]? = w.heap[k]?
section
variable {w0 w : World} {X : Nat → Prop} {b d B : Nat} {g : Int} {dead : Bool} {st : St}
set_option maxHeartbeats 800000 in
theorem lroll_any (h : LS w0 w X b d g dead st) (hL : Lb B w0) (hok : st.Ok) (hst : st.steps + 1 ≤ 9223372036854775807) (hg1 : 1 ≤ g) (hg2 : g ≤ 1000000) :
    Calls Tryz.prog 37 #[.pointer (some ⟨b, 0, none⟩)] w (LRollRet w0 X b d (lroll g dead st) w) := by
  have HS := Lib.hid (lsync_any h hL hok hst)
  unfold lroll
  obtain ⟨p, hp⟩ : ∃ p, p = lsync g dead st := ⟨_, rfl⟩
  rw [← hp] at HS ⊢
  obtain ⟨dead', st', k⟩ := p
  have e5 : wrap64 (g + 1) = g + 1 := by unfold wrap64; omega
  clear hp h hL hok hst
  simp only
  by_cases hk : k = 0
  · subst hk
    rw [if_pos rfl]
    go_enter Tryz.func37, Tryz.ntmps37
    go_wp2_with (go_at_call 61; ((with_reducible refine HS.out.mono ?_); rintro e w2 ⟨rfl, h2, hb2⟩; have q1 := h2.c1; have q3 := h2.f1; have q4 := (h2.log.set1 (min (g + 1) 1000000)).c1; have H2 := Lib.hid h2; clear h2))
    go_ret2
    have h3 := H2.out.set 1 (.int .i64 (min (g + 1) 1000000)) (H2.out.log.set1 _)
    exact ⟨rfl, h3.1, fun x hx => (h3.2 x hx).trans (hb2 x hx)⟩
  · rw [if_neg hk]
    have e1 : ((k : Int) == 0) = false := by rw [beq_eq_false_iff_ne]; omega
    go_enter Tryz.func37, Tryz.ntmps37
    go_wp2_with (go_at_call 61; ((with_reducible refine HS.out.mono ?_); rintro e w2 ⟨rfl, h2, hb2⟩; have H2 := Lib.hid h2; clear h2))
    go_ret2
    exact ⟨rfl, H2.out, hb2⟩
end

end Wl
end Go.Proofs.YtbfmjonabndhaaaGreatDoor
