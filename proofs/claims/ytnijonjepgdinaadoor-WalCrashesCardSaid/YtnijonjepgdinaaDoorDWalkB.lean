/-
  WHAT IS PROVED: what the calls of a drive do that look at it: Dead, step, find, Size, Loose, Steps, Arm. CONDITIONS: the drive stands in memory as the plain one says.
-/
import Derived.Test.YtnijonjepgdinaaDoorDWalkA
namespace Go.Proofs.YtnijonjepgdinaaDoor
open Go Go.RowKit Go.Maps Go.Proofs.YtnijonjepgdinaaDoor.Fr
namespace Dr

theorem zeroP (w : World) : (zeroValue 58).run Tryd.prog w = .ok (.pointer none) w := by kernel_rfl
section
variable {w : World} {b mb : Nat} {st : St} {Q : List Ent}
theorem DriveAt.c0 (h : DriveAt w b mb st Q) : w.cell? ⟨b, 0, none⟩ = some (.map (some mb)) := h.head.cell 0
theorem DriveAt.c1 (h : DriveAt w b mb st Q) : w.cell? ⟨b, 1, none⟩ = some (.int .i64 (st.steps : Int)) := h.head.cell 1
theorem DriveAt.c2 (h : DriveAt w b mb st Q) : w.cell? ⟨b, 2, none⟩ = some (.bool st.armed) := h.head.cell 2
theorem DriveAt.c3 (h : DriveAt w b mb st Q) : w.cell? ⟨b, 3, none⟩ = some (.int .i64 (st.left : Int)) := h.head.cell 3
theorem DriveAt.fz (h : DriveAt w b mb st Q) (i : Nat) : w.frozen? ⟨b, i, none⟩ = false := h.head.frozen i

theorem dead_any (h : DriveAt w b mb st Q) : Calls Tryd.prog 21 #[.pointer (some ⟨b, 0, none⟩)] w fun e w' => e = .returned (.bool st.dead) ∧ w = w' := by
  have c2 := h.c2
  have c3 := h.c3
  cases ha : st.armed
  · have hd : st.dead = false := by simp [St.dead, ha]
    have HD := Lib.hid hd
    rw [ha] at c2
    clear ha hd h
    go_enter Tryd.func21, Tryd.ntmps21
    go_wp2
    go_ret
    exact ⟨ret_bool HD.out.symm, rfl⟩
  · have hd : st.dead = ((st.left : Int) == 0) := by
      simp only [St.dead, ha, Bool.true_and]
      rw [Bool.eq_iff_iff]
      simp
    have HD := Lib.hid hd
    rw [ha] at c2
    clear ha hd h
    go_enter Tryd.func21, Tryd.ntmps21
    go_wp2
    go_ret
    exact ⟨ret_bool HD.out.symm, rfl⟩
theorem step_dead (h : DriveAt w b mb st Q) (hd : st.dead = true) : Calls Tryd.prog 43 #[.pointer (some ⟨b, 0, none⟩)] w fun e w' => e = .returned (.int .i64 6) ∧ w = w' := by
  have hc := dead_any h
  rw [hd] at hc
  clear h hd
  go_enter Tryd.func43, Tryd.ntmps43
  go_wp2_with (go_at_call 21; refine hc.mono ?_; rintro e w' ⟨rfl, rfl⟩)
  go_ret
  exact ⟨rfl, rfl⟩
/-- What a live step leaves. -/
def Stepped (w : World) (b mb : Nat) (st : St) (Q : List Ent) (w' : World) : Prop := DriveAt w' b mb st.step Q ∧ Mod (fun k => k = b) w w' ∧ w'.heap.size = w.heap.size
theorem stepped_mk (h : DriveAt w b mb st Q) {w' : World} (hm : Mod (fun k => k = b) w w') (hs : w'.heap.size = w.heap.size)
    (hh : Blk w' b 49 #[.map (some mb), .int .i64 (st.step.steps : Int), .bool st.step.armed, .int .i64 (st.step.left : Int)]) : Stepped w b mb st Q w' :=
  ⟨h.head' (st' := st.step) rfl (fun k hk hne => hm.block k hk hne) hh, hm, hs⟩
theorem step_live (h : DriveAt w b mb st Q) (hd : st.dead = false) (hs : st.steps + 1 ≤ 9223372036854775807) (hl : st.left ≤ 9223372036854775807) :
    Calls Tryd.prog 43 #[.pointer (some ⟨b, 0, none⟩)] w fun e w' => e = .returned (.int .i64 0) ∧ Stepped w b mb st Q w' := by
  have hc := dead_any h
  rw [hd] at hc
  have c1 := h.c1
  have c2 := h.c2
  have c3 := h.c3
  have fz1 := h.fz 1
  have fz3 := h.fz 3
  have HH := Lib.hid h
  have hb := h.head
  cases ha : st.armed
  · rw [ha] at c2
    have HA := Lib.hid ha
    have HB := Lib.hid hb
    clear h hd ha hb
    go_enter Tryd.func43, Tryd.ntmps43
    go_wp2_with (go_at_call 21; refine hc.mono ?_; rintro e w' ⟨rfl, rfl⟩)
    go_ret
    refine ⟨rfl, stepped_mk HH.out ((Mod.refl (fun k => k = b) _).setCell (p := ⟨b, 1, none⟩) (fun _ => rfl) _) (by simp [World.setCell]) ?_⟩
    have := HB.out.set 1 (.int .i64 ((st.steps : Int) + 1))
    simp only [St.step, HA.out] at this ⊢
    simpa using this
  · rw [ha] at c2
    have HA := Lib.hid ha
    have HB := Lib.hid hb
    have h1 : 1 ≤ st.left := by
      simp only [St.dead, ha, Bool.true_and, beq_eq_false_iff_ne] at hd
      omega
    clear h hd ha hb
    go_enter Tryd.func43, Tryd.ntmps43
    go_wp2_with (go_at_call 21; refine hc.mono ?_; rintro e w' ⟨rfl, rfl⟩)
    go_ret
    refine ⟨rfl, stepped_mk HH.out (((Mod.refl (fun k => k = b) _).setCell (p := ⟨b, 1, none⟩) (fun _ => rfl) _).setCell (p := ⟨b, 3, none⟩) (fun _ => rfl) _) (by simp [World.setCell]) ?_⟩
    have := (HB.out.set 1 (.int .i64 ((st.steps : Int) + 1))).set 3 (.int .i64 ((st.left : Int) - 1))
    have e1 : ((st.left - 1 : Nat) : Int) = (st.left : Int) - 1 := by omega
    simp only [St.step, HA.out, if_true, e1] at this ⊢
    simpa using this

/-- Where a name's file stands. -/
theorem find_bad (w : World) (b : Nat) (s : ByteArray) (hs : s.size ≤ maxLen) (hn : nameOk s.data.toList = false) :
    Calls Tryd.prog 44 #[.pointer (some ⟨b, 0, none⟩), .string s] w fun e w' => e = .returned (.tuple #[.pointer none, .int .i64 20]) ∧ w = w' := by
  have hc := isName_any s w hs
  rw [hn] at hc
  clear hn
  go_enter Tryd.func44, Tryd.ntmps44
  go_wp2_with (go_at_call 42; refine hc.mono ?_; rintro e w' ⟨rfl, rfl⟩)
  go_ret2
  exact ⟨rfl, rfl⟩
theorem look_no {n : Bs} {Q : List Ent} (h : findBy Ent.key n Q = none) : ptrOf (findBy (fun p : NB => p.1) n (Q.map Ent.nb)) = .pointer none := by rw [findM, h]; rfl
theorem look_yes {n : Bs} {Q : List Ent} {e : Ent} (h : findBy Ent.key n Q = some e) : ptrOf (findBy (fun p : NB => p.1) n (Q.map Ent.nb)) = .pointer (some ⟨e.blk, 0, none⟩) := by rw [findM, h]; rfl
theorem find_no (h : DriveAt w b mb st Q) (s : ByteArray) (hs : s.size ≤ maxLen) (hn : nameOk s.data.toList = true) (hf : findBy Ent.key s.data.toList Q = none) :
    Calls Tryd.prog 44 #[.pointer (some ⟨b, 0, none⟩), .string s] w fun e w' => e = .returned (.tuple #[.pointer none, .int .i64 4]) ∧ w = w' := by
  have hc := isName_any s w hs
  rw [hn] at hc
  have c0 := h.c0
  have hm := h.map
  have hv := look_no hf
  have HV := Lib.hid hv
  clear h hn hf hv
  go_enter Tryd.func44, Tryd.ntmps44
  go_wp2_with (first
    | (go_at_call 42; refine hc.mono ?_; rintro e w' ⟨rfl, rfl⟩)
    | (at_lookup; refine wpList_look _ rfl _ _ 47 rfl rfl hm Tryd.underlying9 Tryd.underlying47 (zeroP _) s rfl hs _ HV.out ?_))
  go_ret2
  exact ⟨rfl, rfl⟩
theorem find_yes (h : DriveAt w b mb st Q) (s : ByteArray) (hs : s.size ≤ maxLen) (hn : nameOk s.data.toList = true) {e : Ent} (hf : findBy Ent.key s.data.toList Q = some e) :
    Calls Tryd.prog 44 #[.pointer (some ⟨b, 0, none⟩), .string s] w fun r w' => r = .returned (.tuple #[.pointer (some ⟨e.blk, 0, none⟩), .int .i64 0]) ∧ w = w' := by
  have hc := isName_any s w hs
  rw [hn] at hc
  have c0 := h.c0
  have hm := h.map
  have hv := look_yes hf
  have HV := Lib.hid hv
  clear h hn hf hv
  go_enter Tryd.func44, Tryd.ntmps44
  go_wp2_with (first
    | (go_at_call 42; refine hc.mono ?_; rintro e w' ⟨rfl, rfl⟩)
    | (at_lookup; refine wpList_look _ rfl _ _ 47 rfl rfl hm Tryd.underlying9 Tryd.underlying47 (zeroP _) s rfl hs _ HV.out ?_))
  go_ret2
  exact ⟨rfl, rfl⟩
end
end Dr
end Go.Proofs.YtnijonjepgdinaaDoor
