/-
  WHAT IS PROVED: what Sync, Rename and Delete do. CONDITIONS: the drive stands in memory as the plain one says.
-/
import Derived.Test.YtnijonjepgdinaaDoorDWalkE
namespace Go.Proofs.YtnijonjepgdinaaDoor
open Go Go.RowKit Go.Maps Go.Proofs.YtnijonjepgdinaaDoor.Fr
namespace Dr

section
variable {st : St} {n t : Bs}
theorem look_bad (hn : nameOk n = false) : st.look n = 20 := by unfold St.look; rw [if_pos hn]
theorem look_none (hn : nameOk n = true) (hf : find st.files n = none) : st.look n = 4 := by unfold St.look; rw [if_neg (by simp [hn]), if_pos (by rw [hf]; rfl)]
theorem look_dead (hn : nameOk n = true) {f : Fl} (hf : find st.files n = some f) (hd : st.dead = true) : st.look n = 6 := by unfold St.look; rw [if_neg (by simp [hn]), if_neg (by rw [hf]; simp), if_pos hd]
theorem look_live (hn : nameOk n = true) {f : Fl} (hf : find st.files n = some f) (hd : st.dead = false) : st.look n = 0 := by unfold St.look; rw [if_neg (by simp [hn]), if_neg (by rw [hf]; simp), if_neg (by simp [hd])]
theorem sync_err {k : Nat} (h : st.look n = k) (hk : k ≠ 0) : st.sync n = (st, k) := by subst h; unfold St.sync; rw [if_pos hk]
theorem sync_ok (h : st.look n = 0) {f : Fl} (hf : find st.files n = some f) : st.sync n = ({ st.step with files := put { f with syn := f.dat.length } st.files }, 0) := by unfold St.sync; rw [if_neg (by simp [h]), hf]
theorem delete_err {k : Nat} (h : st.look n = k) (hk : k ≠ 0) : st.delete n = (st, k) := by subst h; unfold St.delete; rw [if_pos hk]
theorem delete_ok (h : st.look n = 0) : st.delete n = ({ st.step with files := del n st.files }, 0) := by unfold St.delete; rw [if_neg (by simp [h])]
theorem rename_bad (ht : nameOk t = false) : st.rename n t = (st, 20) := by unfold St.rename; rw [if_pos ht]
theorem rename_err (ht : nameOk t = true) {k : Nat} (h : st.look n = k) (hk : k ≠ 0) : st.rename n t = (st, k) := by subst h; unfold St.rename; rw [if_neg (by simp [ht]), if_pos hk]
theorem rename_ok (ht : nameOk t = true) (h : st.look n = 0) {f : Fl} (hf : find st.files n = some f) : st.rename n t = ({ st.step with files := put { f with name := t } (del n st.files) }, 0) := by
  unfold St.rename; rw [if_neg (by simp [ht]), if_neg (by simp [h]), hf]
  dsimp only
  rw [put_by, del_by t, putBy_del (k := fun f : Fl => f.name) { f with name := t }]
  rfl
end

section
variable {w w1 w2 : World} {b mb : Nat} {st : St} {Q : List Ent} {S : Nat → Prop}
theorem find_ent (h : DriveAt w b mb st Q) {n : Bs} {f : Fl} (hf : find st.files n = some f) : ∃ e, findBy Ent.key n Q = some e ∧ e.fl = f := by
  have := h.find n
  rw [hf] at this
  simpa using this
theorem find_ent_no (h : DriveAt w b mb st Q) {n : Bs} (hf : find st.files n = none) : findBy Ent.key n Q = none := by
  have := h.find n
  rw [hf] at this
  simpa using this

set_option maxRecDepth 100000 in
theorem sync_any (h : DriveRep w S b st) (hok : st.Ok) (hstep : st.steps + 1 ≤ 9223372036854775807) (s : ByteArray) (hs : s.size ≤ maxLen) :
    Calls Tryd.prog 35 #[.pointer (some ⟨b, 0, none⟩), .string s] w (DOp S b (st.sync s.data.toList) w) := by
  have HR := Lib.hid h
  obtain ⟨mb, Q, h, hf, hS⟩ := h
  have HF := Lib.hid hf
  have HS := Lib.hid hS
  clear hf hS
  cases hn : nameOk s.data.toList
  · have HE := Lib.hid (sync_err (look_bad (st := st) hn) (by decide))
    have hc := find_bad w b s hs hn
    clear h hn
    go_enter Tryd.func35, Tryd.ntmps35
    go_wp2_with (go_at_call 44; refine hc.mono ?_; rintro e w' ⟨rfl, rfl⟩)
    go_ret
    rw [HE.out]
    exact DOp.stay HR.out rfl
  · cases hfi : find st.files s.data.toList with
    | none =>
      have HE := Lib.hid (sync_err (look_none hn hfi) (by decide))
      have hc := find_no h s hs hn (find_ent_no h hfi)
      clear h hn hfi
      go_enter Tryd.func35, Tryd.ntmps35
      go_wp2_with (go_at_call 44; refine hc.mono ?_; rintro e w' ⟨rfl, rfl⟩)
      go_ret
      rw [HE.out]
      exact DOp.stay HR.out rfl
    | some f =>
      obtain ⟨e, hq, rfl⟩ := find_ent h hfi
      have hc := find_yes h s hs hn hq
      cases hd : st.dead
      · have HE := Lib.hid (sync_ok (look_live hn hfi hd) hfi)
        have hlive := step_live h hd hstep hok.left
        have heq := (findBy_some hq).1
        obtain ⟨A0, c00, hrow, _, _⟩ := (h.ents e heq).row_
        have HROW := Lib.hid hrow
        clear h hn hfi hq hd hrow
        go_enter Tryd.func35, Tryd.ntmps35
        go_wp2_with (first
          | (go_at_call 44; refine hc.mono ?_; rintro e' w' ⟨rfl, rfl⟩)
          | (go_at_call 43; refine hlive.mono ?_; rintro e' w1 ⟨rfl, hst⟩; obtain ⟨d0, d1, down, _, dz⟩ := hst.ent heq HROW.out))
        go_ret
        rw [HE.out]
        exact dop_of (hst.grew (hst.1.synced heq)) HF.out HS.out
      · have HE := Lib.hid (sync_err (look_dead hn hfi hd) (by decide))
        have hdd := step_dead h hd
        clear h hn hfi hq hd
        go_enter Tryd.func35, Tryd.ntmps35
        go_wp2_with (first
          | (go_at_call 44; refine hc.mono ?_; rintro e w' ⟨rfl, rfl⟩)
          | (go_at_call 43; refine hdd.mono ?_; rintro e w' ⟨rfl, rfl⟩))
        go_ret
        rw [HE.out]
        exact DOp.stay HR.out rfl

/-- The file struck, behind a step. -/
theorem Stepped.struck (h : Stepped w b mb st Q w1) {n : Bs} (hm : MapAt Tryd.prog 9 w2 mb (delBy (fun p : NB => p.1) n (Q.map Ent.nb))) (hg : w1.grownBy w2 (some mb)) :
    Grew w w2 b mb Q { st.step with files := del n st.files } ∧ DriveAt w2 b mb { st.step with files := del n st.step.files } (delBy Ent.key n Q) := by
  obtain ⟨h1, h2, h3⟩ := h.1.struck n hm hg
  exact ⟨h.grew ⟨_, h1, h2, h3⟩, h1⟩
set_option maxRecDepth 100000 in
theorem delete_any (h : DriveRep w S b st) (hok : st.Ok) (hstep : st.steps + 1 ≤ 9223372036854775807) (s : ByteArray) (hs : s.size ≤ maxLen) :
    Calls Tryd.prog 31 #[.pointer (some ⟨b, 0, none⟩), .string s] w (DOp S b (st.delete s.data.toList) w) := by
  have HR := Lib.hid h
  obtain ⟨mb, Q, h, hf, hS⟩ := h
  have HF := Lib.hid hf
  have HS := Lib.hid hS
  clear hf hS
  cases hn : nameOk s.data.toList
  · have HE := Lib.hid (delete_err (look_bad (st := st) hn) (by decide))
    have hc := find_bad w b s hs hn
    clear h hn
    go_enter Tryd.func31, Tryd.ntmps31
    go_wp2_with (go_at_call 44; refine hc.mono ?_; rintro e w' ⟨rfl, rfl⟩)
    go_ret
    rw [HE.out]
    exact DOp.stay HR.out rfl
  · cases hfi : find st.files s.data.toList with
    | none =>
      have HE := Lib.hid (delete_err (look_none hn hfi) (by decide))
      have hc := find_no h s hs hn (find_ent_no h hfi)
      clear h hn hfi
      go_enter Tryd.func31, Tryd.ntmps31
      go_wp2_with (go_at_call 44; refine hc.mono ?_; rintro e w' ⟨rfl, rfl⟩)
      go_ret
      rw [HE.out]
      exact DOp.stay HR.out rfl
    | some f =>
      obtain ⟨e, hq, rfl⟩ := find_ent h hfi
      have hc := find_yes h s hs hn hq
      cases hd : st.dead
      · have HE := Lib.hid (delete_ok (look_live hn hfi hd))
        have hlive := step_live h hd hstep hok.left
        clear h hn hfi hq hd
        go_enter Tryd.func31, Tryd.ntmps31
        go_wp2_with (first
          | (go_at_call 44; refine hc.mono ?_; rintro e' w' ⟨rfl, rfl⟩)
          | (go_at_call 43; refine hlive.mono ?_; rintro e' w1 ⟨rfl, hst⟩; have c0' := hst.c0; have hm1 := hst.1.map)
          | (at_delete; refine wpList_mdrop _ rfl _ _ 47 9 rfl rfl hm1 Tryd.underlying9 Tryd.underlying47 s rfl hs ?_; intro w2 hm2 hg2 _))
        go_ret
        rw [HE.out]
        exact dop_of (hst.struck hm2 hg2).1 HF.out HS.out
      · have HE := Lib.hid (delete_err (look_dead hn hfi hd) (by decide))
        have hdd := step_dead h hd
        clear h hn hfi hq hd
        go_enter Tryd.func31, Tryd.ntmps31
        go_wp2_with (first
          | (go_at_call 44; refine hc.mono ?_; rintro e w' ⟨rfl, rfl⟩)
          | (go_at_call 43; refine hdd.mono ?_; rintro e w' ⟨rfl, rfl⟩))
        go_ret
        rw [HE.out]
        exact DOp.stay HR.out rfl

theorem map_cast {L L' : List NB} (h : MapAt Tryd.prog 9 w mb L) (e : L = L') : MapAt Tryd.prog 9 w mb L' := e ▸ h
theorem delBy_nb (n : Bs) (Q : List Ent) : delBy (fun p : NB => p.1) n (Q.map Ent.nb) = (delBy Ent.key n Q).map Ent.nb := (delBy_map (k := Ent.key) (k' := fun p : NB => p.1) nb_name n Q).symm
end
end Dr
end Go.Proofs.YtnijonjepgdinaaDoor
