/-
  WHAT IS PROVED: (1) what the calls of a drive do that look at it: Dead, step, find, Size, Loose, Steps, Arm. CONDITIONS: the drive stands in memory as the plain one says. (2) what New, Clone, syncedFile, Read, Size, Loose, Arm and Names do. CONDITIONS: the drive stands in memory as the plain one says.
-/
import Derived.Test.YtbfmjonabndhaaaGreatDoorQDWalkA
import Derived.Test.YtbfmjonabndhaaaGreatDoorQIterC
namespace Go.Proofs.YtbfmjonabndhaaaGreatDoor
open Go Go.RowKit Go.Maps Go.Proofs.YtbfmjonabndhaaaGreatDoor.Fr
namespace Dr

theorem zeroP (w : World) : (zeroValue 55).run Tryz.prog w = .ok (.pointer none) w := by kernel_rfl
section
variable {w : World} {b mb : Nat} {st : St} {Q : List Ent}
theorem DriveAt.c0 (h : DriveAt w b mb st Q) : w.cell? ⟨b, 0, none⟩ = some (.map (some mb)) := h.head.cell 0
theorem DriveAt.c1 (h : DriveAt w b mb st Q) : w.cell? ⟨b, 1, none⟩ = some (.int .i64 (st.steps : Int)) := h.head.cell 1
theorem DriveAt.c2 (h : DriveAt w b mb st Q) : w.cell? ⟨b, 2, none⟩ = some (.bool st.armed) := h.head.cell 2
theorem DriveAt.c3 (h : DriveAt w b mb st Q) : w.cell? ⟨b, 3, none⟩ = some (.int .i64 (st.left : Int)) := h.head.cell 3
theorem DriveAt.fz (h : DriveAt w b mb st Q) (i : Nat) : w.frozen? ⟨b, i, none⟩ = false := h.head.frozen i

theorem dead_any (h : DriveAt w b mb st Q) : Calls Tryz.prog 30 #[.pointer (some ⟨b, 0, none⟩)] w fun e w' => e = .returned (.bool st.dead) ∧ w = w' := by
  have c2 := h.c2
  have c3 := h.c3
  cases ha : st.armed
  · have hd : st.dead = false := by simp [St.dead, ha]
    have HD := Lib.hid hd
    rw [ha] at c2
    clear ha hd h
    go_enter Tryz.func30, Tryz.ntmps30
    go_wp2
    go_ret
    exact ⟨ret_bool HD.out.symm, rfl⟩
  · have hd : st.dead = ((st.left : Int) == 0) := by
      simp only [St.dead, ha, Bool.true_and]
      rw [Bool.eq_iff_iff]
      simp
    have HD := Lib.hid hd
    rw [ha] at c2
    clear ha hd h
    go_enter Tryz.func30, Tryz.ntmps30
    go_wp2
    go_ret
    exact ⟨ret_bool HD.out.symm, rfl⟩
theorem steps_any (h : DriveAt w b mb st Q) : Calls Tryz.prog 29 #[.pointer (some ⟨b, 0, none⟩)] w fun e w' => e = .returned (.int .i64 (st.steps : Int)) ∧ w = w' := by
  have c1 := h.c1
  clear h
  go_enter Tryz.func29, Tryz.ntmps29
  go_wp2
  go_ret
  exact ⟨rfl, rfl⟩
theorem step_dead (h : DriveAt w b mb st Q) (hd : st.dead = true) : Calls Tryz.prog 62 #[.pointer (some ⟨b, 0, none⟩)] w fun e w' => e = .returned (.int .i64 6) ∧ w = w' := by
  have hc := dead_any h
  rw [hd] at hc
  clear h hd
  go_enter Tryz.func62, Tryz.ntmps62
  go_wp2_with (go_at_call 30; refine hc.mono ?_; rintro e w' ⟨rfl, rfl⟩)
  go_ret
  exact ⟨rfl, rfl⟩
/-- What a live step leaves. -/
def Stepped (w : World) (b mb : Nat) (st : St) (Q : List Ent) (w' : World) : Prop := DriveAt w' b mb st.step Q ∧ Mod (fun k => k = b) w w' ∧ w'.heap.size = w.heap.size
theorem stepped_mk (h : DriveAt w b mb st Q) {w' : World} (hm : Mod (fun k => k = b) w w') (hs : w'.heap.size = w.heap.size)
    (hh : Blk w' b 59 #[.map (some mb), .int .i64 (st.step.steps : Int), .bool st.step.armed, .int .i64 (st.step.left : Int)]) : Stepped w b mb st Q w' :=
  ⟨h.head' (st' := st.step) rfl (fun k hk hne => hm.block k hk hne) hh, hm, hs⟩
theorem step_live (h : DriveAt w b mb st Q) (hd : st.dead = false) (hs : st.steps + 1 ≤ 9223372036854775807) (hl : st.left ≤ 9223372036854775807) :
    Calls Tryz.prog 62 #[.pointer (some ⟨b, 0, none⟩)] w fun e w' => e = .returned (.int .i64 0) ∧ Stepped w b mb st Q w' := by
  have hc := dead_any h
  rw [hd] at hc
  have c1 := h.c1
  have c2 := h.c2
  have c3 := h.c3
  have fz1 := h.fz 1
  have fz3 := h.fz 3
  have HH := Lib.hid h
  have hb := h.head
  cases ha : st.armed
  · rw [ha] at c2
    have HA := Lib.hid ha
    have HB := Lib.hid hb
    clear h hd ha hb
    go_enter Tryz.func62, Tryz.ntmps62
    go_wp2_with (go_at_call 30; refine hc.mono ?_; rintro e w' ⟨rfl, rfl⟩)
    go_ret
    refine ⟨rfl, stepped_mk HH.out ((Mod.refl (fun k => k = b) _).setCell (p := ⟨b, 1, none⟩) (fun _ => rfl) _) (by simp [World.setCell]) ?_⟩
    have := HB.out.set 1 (.int .i64 ((st.steps : Int) + 1))
    simp only [St.step, HA.out] at this ⊢
    simpa using this
  · rw [ha] at c2
    have HA := Lib.hid ha
    have HB := Lib.hid hb
    have h1 : 1 ≤ st.left := by
      simp only [St.dead, ha, Bool.true_and, beq_eq_false_iff_ne] at hd
      omega
    clear h hd ha hb
    go_enter Tryz.func62, Tryz.ntmps62
    go_wp2_with (go_at_call 30; refine hc.mono ?_; rintro e w' ⟨rfl, rfl⟩)
    go_ret
    refine ⟨rfl, stepped_mk HH.out (((Mod.refl (fun k => k = b) _).setCell (p := ⟨b, 1, none⟩) (fun _ => rfl) _).setCell (p := ⟨b, 3, none⟩) (fun _ => rfl) _) (by simp [World.setCell]) ?_⟩
    have := (HB.out.set 1 (.int .i64 ((st.steps : Int) + 1))).set 3 (.int .i64 ((st.left : Int) - 1))
    have e1 : ((st.left - 1 : Nat) : Int) = (st.left : Int) - 1 := by omega
    simp only [St.step, HA.out, if_true, e1] at this ⊢
    simpa using this

/-- Where a name's file stands. -/
theorem find_bad (w : World) (b : Nat) (s : ByteArray) (hs : s.size ≤ maxLen) (hn : nameOk s.data.toList = false) :
    Calls Tryz.prog 57 #[.pointer (some ⟨b, 0, none⟩), .string s] w fun e w' => e = .returned (.tuple #[.pointer none, .int .i64 20]) ∧ w = w' := by
  have hc := isName_any s w hs
  rw [hn] at hc
  clear hn
  go_enter Tryz.func57, Tryz.ntmps57
  go_wp2_with (go_at_call 46; refine hc.mono ?_; rintro e w' ⟨rfl, rfl⟩)
  go_ret2
  exact ⟨rfl, rfl⟩
theorem look_no {n : Bs} {Q : List Ent} (h : findBy Ent.key n Q = none) : ptrOf (findBy (fun p : NB => p.1) n (Q.map Ent.nb)) = .pointer none := by rw [findM, h]; rfl
theorem look_yes {n : Bs} {Q : List Ent} {e : Ent} (h : findBy Ent.key n Q = some e) : ptrOf (findBy (fun p : NB => p.1) n (Q.map Ent.nb)) = .pointer (some ⟨e.blk, 0, none⟩) := by rw [findM, h]; rfl
theorem find_no (h : DriveAt w b mb st Q) (s : ByteArray) (hs : s.size ≤ maxLen) (hn : nameOk s.data.toList = true) (hf : findBy Ent.key s.data.toList Q = none) :
    Calls Tryz.prog 57 #[.pointer (some ⟨b, 0, none⟩), .string s] w fun e w' => e = .returned (.tuple #[.pointer none, .int .i64 4]) ∧ w = w' := by
  have hc := isName_any s w hs
  rw [hn] at hc
  have c0 := h.c0
  have hm := h.map
  have hv := look_no hf
  have HV := Lib.hid hv
  clear h hn hf hv
  go_enter Tryz.func57, Tryz.ntmps57
  go_wp2_with (first
    | (go_at_call 46; refine hc.mono ?_; rintro e w' ⟨rfl, rfl⟩)
    | (at_lookup; refine wpList_look _ rfl _ _ 57 rfl rfl hm Tryz.underlying9 Tryz.underlying57 (zeroP _) s rfl hs _ HV.out ?_))
  go_ret2
  exact ⟨rfl, rfl⟩
theorem find_yes (h : DriveAt w b mb st Q) (s : ByteArray) (hs : s.size ≤ maxLen) (hn : nameOk s.data.toList = true) {e : Ent} (hf : findBy Ent.key s.data.toList Q = some e) :
    Calls Tryz.prog 57 #[.pointer (some ⟨b, 0, none⟩), .string s] w fun r w' => r = .returned (.tuple #[.pointer (some ⟨e.blk, 0, none⟩), .int .i64 0]) ∧ w = w' := by
  have hc := isName_any s w hs
  rw [hn] at hc
  have c0 := h.c0
  have hm := h.map
  have hv := look_yes hf
  have HV := Lib.hid hv
  clear h hn hf hv
  go_enter Tryz.func57, Tryz.ntmps57
  go_wp2_with (first
    | (go_at_call 46; refine hc.mono ?_; rintro e w' ⟨rfl, rfl⟩)
    | (at_lookup; refine wpList_look _ rfl _ _ 57 rfl rfl hm Tryz.underlying9 Tryz.underlying57 (zeroP _) s rfl hs _ HV.out ?_))
  go_ret2
  exact ⟨rfl, rfl⟩
end
end Dr
end Go.Proofs.YtbfmjonabndhaaaGreatDoor
namespace Go.Proofs.YtbfmjonabndhaaaGreatDoor
open Go Go.RowKit Go.Maps Go.Proofs.YtbfmjonabndhaaaGreatDoor.Fr
namespace Dr

theorem info_u8 : (Tryz.prog.info? 5).map (fun i => (i.zero, i.size, i.bytes)) = some (some (.int .u8 0), 1, 1) := by kernel_rfl
theorem clone_any (A : Option Addr) (n c : Nat) (l : List UInt8) (w : World) (hl : l.length = n) (hr : Rd w A (bv l)) (hn : n ≤ 140737488355328) :
    Calls Tryz.prog 52 #[.slice A n c] w (MadeRet 5 w l) := by
  obtain ⟨i0, hi, hz, hz1, hz2⟩ := info_parts info_u8
  have e1 := fun (W : World) => Lib.run_eql_slice_nil (P := Tryz.prog) W 28
  rcases A with _ | a
  · have h0 : l = [] := by
      rcases l with _ | ⟨x, r⟩
      · rfl
      · obtain ⟨_, _, h, _⟩ := hr (by simp [bv])
        cases h
    go_enter Tryz.func52, Tryz.ntmps52
    go_wp2
    go_ret
    subst h0
    exact MadeRet.mk (n := 0) rfl (World.ownsRow_nil _ _ _ _) (Below.refl _ _)
  · go_enter Tryz.func52, Tryz.ntmps52
    go_wp2_with (at_builtin; refine wpList_app _ rfl (.tmp 5) (.tmp 6) _ rfl w.heap.size 5 i0 _ 1 Tryz.underlying28 hi hz hz1 hz2 rfl (.slice (some ⟨w.heap.size, 0, none⟩) 0 0) 0 [] rfl (World.ownsRow_lit w #[] 0 (Nat.le_refl _) (by simp [maxLen]) rfl) (some a) n c (bv l) rfl (by rw [bv_length]; exact hl) (hr.alloc _) (bv_one l) n (Nat.zero_add _) (by unfold maxLen; omega) (by omega) (by simp) ?_; intro A1 c1 w1 hown1 hb1 _ _)
    go_ret
    exact MadeRet.mk hl hown1 (((Below.refl _ _).alloc (Nat.le_refl _) _).trans hb1)


/-- What is new between two worlds. -/
def New (w w' : World) (k : Nat) : Prop := w.heap.size ≤ k ∧ k < w'.heap.size
/-- A new drive is answered. -/
def DNew (w : World) (st : St) (e : Ending) (w' : World) : Prop := ∃ b, e = .returned (.pointer (some ⟨b, 0, none⟩)) ∧ DriveRep w' (New w w') b st ∧ Below w.heap.size w w'
theorem at_new (w : World) : DriveAt ((w.alloc (.map #[] 0)).alloc (.cells #[.map (some w.heap.size), .int .i64 0, .bool false, .int .i64 0] 59)) (w.heap.size + 1) w.heap.size St.empty [] :=
  ⟨by have := Blk.new (w.alloc (.map #[] 0)) 59 #[.map (some w.heap.size), .int .i64 0, .bool false, .int .i64 0]; rw [World.size_alloc] at this; exact this,
   (MapAt.made _ _ w).same (Below.heap_alloc _ _ _ (by simp)), rfl, fun _ h => (by cases h), fun _ h => (by cases h)⟩
theorem new_any (w : World) : Calls Tryz.prog 15 #[] w (DNew w St.empty) := by
  have hmm := @run_makeMap Tryz.prog
  go_enter Tryz.func15, Tryz.ntmps15
  go_wp2
  go_ret
  refine ⟨w.heap.size + 1, rfl, ⟨w.heap.size, [], at_new w, fun k hk => ?_, fun k hk => hk.2⟩, ((Below.refl _ _).alloc (Nat.le_refl _) _).alloc (by simp) _⟩
  rcases hk with rfl | rfl | ⟨e, he, _⟩
  · exact ⟨by omega, by simp⟩
  · exact ⟨Nat.le_refl _, by simp; omega⟩
  · cases he

/-- A new file, synced, is answered. -/
def SFile (w : World) (l : Bs) (e : Ending) (w' : World) : Prop := ∃ g v, e = .returned (.pointer (some ⟨g, 0, none⟩)) ∧ Blk w' g 90 #[v, .int .i64 (l.length : Int)] ∧ w'.ownsRow w.heap.size 5 1 v l.length (bv l) ∧ w.heap.size ≤ g ∧ Below w.heap.size w w'
theorem synced_any (A : Option Addr) (n c : Nat) (l : List UInt8) (w : World) (hl : l.length = n) (hr : Rd w A (bv l)) (hn : n ≤ 140737488355328) :
    Calls Tryz.prog 19 #[.slice A n c] w (SFile w l) := by
  have HL := Lib.hid hl
  have hc := clone_any A n c l w hl hr hn
  clear hl hr
  go_enter Tryz.func19, Tryz.ntmps19
  go_wp2_with (go_at_call 52; refine hc.mono ?_; rintro e w1 ⟨v, rfl, A1, m1, c1, rfl, hl1, hmc1, hown1, hb1⟩; have HL1 := Lib.hid hl1; clear hl1)
  go_ret
  have hs := hb1.size
  refine ⟨w1.heap.size, .slice A1 m1 c1, rfl, ?_, ?_, hs, hb1.alloc hb1.size _⟩
  · rw [HL.out]; exact Blk.new _ _ _
  · rw [HL1.out]; exact hown1.alloc _

section
variable {w : World} {b mb : Nat} {st : St} {Q : List Ent}
theorem EntAt.row_ {e : Ent} (h : EntAt w e) : ∃ A c, e.row = .slice A e.fl.dat.length c ∧ e.fl.dat.length ≤ c ∧ c ≤ maxLen := own_shape h.2
theorem size_none (h : DriveAt w b mb st Q) (s : ByteArray) (hs : s.size ≤ maxLen) (hf : findBy Ent.key s.data.toList Q = none) :
    Calls Tryz.prog 33 #[.pointer (some ⟨b, 0, none⟩), .string s] w fun e w' => e = .returned (.int .i64 0) ∧ w = w' := by
  have c0 := h.c0
  have hm := h.map
  have hv := look_no hf
  have HV := Lib.hid hv
  clear h hf hv
  go_enter Tryz.func33, Tryz.ntmps33
  go_wp2_with (at_lookup; refine wpList_look _ rfl _ _ 57 rfl rfl hm Tryz.underlying9 Tryz.underlying57 (zeroP _) s rfl hs _ HV.out ?_)
  go_ret
  exact ⟨rfl, rfl⟩
theorem size_some (h : DriveAt w b mb st Q) (s : ByteArray) (hs : s.size ≤ maxLen) {e : Ent} (hf : findBy Ent.key s.data.toList Q = some e) :
    Calls Tryz.prog 33 #[.pointer (some ⟨b, 0, none⟩), .string s] w fun r w' => r = .returned (.int .i64 (e.fl.dat.length : Int)) ∧ w = w' := by
  have c0 := h.c0
  have hm := h.map
  have hv := look_yes hf
  have HV := Lib.hid hv
  have he := h.ents e (findBy_some hf).1
  obtain ⟨A, c, hrow, _, _⟩ := he.row_
  have d0 : w.cell? ⟨e.blk, 0, none⟩ = some e.row := he.1.cell 0
  rw [hrow] at d0
  clear h hf hv he hrow
  go_enter Tryz.func33, Tryz.ntmps33
  go_wp2_with (at_lookup; refine wpList_look _ rfl _ _ 57 rfl rfl hm Tryz.underlying9 Tryz.underlying57 (zeroP _) s rfl hs _ HV.out ?_)
  go_ret
  exact ⟨rfl, rfl⟩
theorem loose_none (h : DriveAt w b mb st Q) (s : ByteArray) (hs : s.size ≤ maxLen) (hf : findBy Ent.key s.data.toList Q = none) :
    Calls Tryz.prog 16 #[.pointer (some ⟨b, 0, none⟩), .string s] w fun e w' => e = .returned (.int .i64 0) ∧ w = w' := by
  have c0 := h.c0
  have hm := h.map
  have hv := look_no hf
  have HV := Lib.hid hv
  clear h hf hv
  go_enter Tryz.func16, Tryz.ntmps16
  go_wp2_with (at_lookup; refine wpList_look _ rfl _ _ 57 rfl rfl hm Tryz.underlying9 Tryz.underlying57 (zeroP _) s rfl hs _ HV.out ?_)
  go_ret
  exact ⟨rfl, rfl⟩
theorem loose_some (h : DriveAt w b mb st Q) (s : ByteArray) (hs : s.size ≤ maxLen) {e : Ent} (hf : findBy Ent.key s.data.toList Q = some e) (hd : e.fl.dat.length ≤ 262144) (hsy : e.fl.syn ≤ e.fl.dat.length) :
    Calls Tryz.prog 16 #[.pointer (some ⟨b, 0, none⟩), .string s] w fun r w' => r = .returned (.int .i64 ((e.fl.dat.length : Int) - (e.fl.syn : Int))) ∧ ∃ k, w' = w.drewN k := by
  have c0 := h.c0
  have hm := h.map
  have hv := look_yes hf
  have HV := Lib.hid hv
  have he := h.ents e (findBy_some hf).1
  obtain ⟨A, c, hrow, _, _⟩ := he.row_
  have d0 : w.cell? ⟨e.blk, 0, none⟩ = some e.row := he.1.cell 0
  have d1 : w.cell? ⟨e.blk, 1, none⟩ = some (.int .i64 (e.fl.syn : Int)) := he.1.cell 1
  rw [hrow] at d0
  clear h hf hv he hrow
  go_enter Tryz.func16, Tryz.ntmps16
  go_wp2_with (at_lookup; refine wpList_look _ rfl _ _ 57 rfl rfl hm Tryz.underlying9 Tryz.underlying57 (zeroP _) s rfl hs _ HV.out ?_)
  go_quiet (fail)
  go_wp2
  go_ret
  exact ⟨rfl, _, rfl⟩
end
end Dr
end Go.Proofs.YtbfmjonabndhaaaGreatDoor
