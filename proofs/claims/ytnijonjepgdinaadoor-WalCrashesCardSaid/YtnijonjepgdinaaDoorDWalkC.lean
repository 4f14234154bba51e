/-
  WHAT IS PROVED: what New, Clone, syncedFile, Read, Size, Loose, Arm and Names do. CONDITIONS: the drive stands in memory as the plain one says.
-/
import Derived.Test.YtnijonjepgdinaaDoorDWalkB
import Derived.Test.YtnijonjepgdinaaDoorIter
namespace Go.Proofs.YtnijonjepgdinaaDoor
open Go Go.RowKit Go.Maps Go.Proofs.YtnijonjepgdinaaDoor.Fr
namespace Dr

theorem info_u8 : (Tryd.prog.info? 5).map (fun i => (i.zero, i.size, i.bytes)) = some (some (.int .u8 0), 1, 1) := by kernel_rfl
theorem clone_any (A : Option Addr) (n c : Nat) (l : List UInt8) (w : World) (hl : l.length = n) (hr : Rd w A (bv l)) (hn : n ≤ 140737488355328) :
    Calls Tryd.prog 38 #[.slice A n c] w (MadeRet 5 w l) := by
  obtain ⟨i0, hi, hz, hz1, hz2⟩ := info_parts info_u8
  have e1 := fun (W : World) => Lib.run_eql_slice_nil (P := Tryd.prog) W 42
  rcases A with _ | a
  · have h0 : l = [] := by
      rcases l with _ | ⟨x, r⟩
      · rfl
      · obtain ⟨_, _, h, _⟩ := hr (by simp [bv])
        cases h
    go_enter Tryd.func38, Tryd.ntmps38
    go_wp2
    go_ret
    subst h0
    exact MadeRet.mk (n := 0) rfl (World.ownsRow_nil _ _ _ _) (Below.refl _ _)
  · go_enter Tryd.func38, Tryd.ntmps38
    go_wp2_with (at_builtin; refine wpList_app _ rfl (.tmp 5) (.tmp 6) _ rfl w.heap.size 5 i0 _ 1 Tryd.underlying42 hi hz hz1 hz2 rfl (.slice (some ⟨w.heap.size, 0, none⟩) 0 0) 0 [] rfl (World.ownsRow_lit w #[] 0 (Nat.le_refl _) (by simp [maxLen]) rfl) (some a) n c (bv l) rfl (by rw [bv_length]; exact hl) (hr.alloc _) (bv_one l) n (Nat.zero_add _) (by unfold maxLen; omega) (by omega) (by simp) ?_; intro A1 c1 w1 hown1 hb1 _ _)
    go_ret
    exact MadeRet.mk hl hown1 (((Below.refl _ _).alloc (Nat.le_refl _) _).trans hb1)


/-- What is new between two worlds. -/
def New (w w' : World) (k : Nat) : Prop := w.heap.size ≤ k ∧ k < w'.heap.size
/-- A new drive is answered. -/
def DNew (w : World) (st : St) (e : Ending) (w' : World) : Prop := ∃ b, e = .returned (.pointer (some ⟨b, 0, none⟩)) ∧ DriveRep w' (New w w') b st ∧ Below w.heap.size w w'
theorem at_new (w : World) : DriveAt ((w.alloc (.map #[] 0)).alloc (.cells #[.map (some w.heap.size), .int .i64 0, .bool false, .int .i64 0] 49)) (w.heap.size + 1) w.heap.size St.empty [] :=
  ⟨by have := Blk.new (w.alloc (.map #[] 0)) 49 #[.map (some w.heap.size), .int .i64 0, .bool false, .int .i64 0]; rw [World.size_alloc] at this; exact this,
   (MapAt.made _ _ w).same (Below.heap_alloc _ _ _ (by simp)), rfl, fun _ h => (by cases h), fun _ h => (by cases h)⟩
theorem new_any (w : World) : Calls Tryd.prog 6 #[] w (DNew w St.empty) := by
  have hmm := @run_makeMap Tryd.prog
  go_enter Tryd.func6, Tryd.ntmps6
  go_wp2
  go_ret
  refine ⟨w.heap.size + 1, rfl, ⟨w.heap.size, [], at_new w, fun k hk => ?_, fun k hk => hk.2⟩, ((Below.refl _ _).alloc (Nat.le_refl _) _).alloc (by simp) _⟩
  rcases hk with rfl | rfl | ⟨e, he, _⟩
  · exact ⟨by omega, by simp⟩
  · exact ⟨Nat.le_refl _, by simp; omega⟩
  · cases he

/-- A new file, synced, is answered. -/
def SFile (w : World) (l : Bs) (e : Ending) (w' : World) : Prop := ∃ g v, e = .returned (.pointer (some ⟨g, 0, none⟩)) ∧ Blk w' g 60 #[v, .int .i64 (l.length : Int)] ∧ w'.ownsRow w.heap.size 5 1 v l.length (bv l) ∧ w.heap.size ≤ g ∧ Below w.heap.size w w'
theorem synced_any (A : Option Addr) (n c : Nat) (l : List UInt8) (w : World) (hl : l.length = n) (hr : Rd w A (bv l)) (hn : n ≤ 140737488355328) :
    Calls Tryd.prog 24 #[.slice A n c] w (SFile w l) := by
  have HL := Lib.hid hl
  have hc := clone_any A n c l w hl hr hn
  clear hl hr
  go_enter Tryd.func24, Tryd.ntmps24
  go_wp2_with (go_at_call 38; refine hc.mono ?_; rintro e w1 ⟨v, rfl, A1, m1, c1, rfl, hl1, hmc1, hown1, hb1⟩; have HL1 := Lib.hid hl1; clear hl1)
  go_ret
  have hs := hb1.size
  refine ⟨w1.heap.size, .slice A1 m1 c1, rfl, ?_, ?_, hs, hb1.alloc hb1.size _⟩
  · rw [HL.out]; exact Blk.new _ _ _
  · rw [HL1.out]; exact hown1.alloc _

section
variable {w : World} {b mb : Nat} {st : St} {Q : List Ent}
theorem EntAt.row_ {e : Ent} (h : EntAt w e) : ∃ A c, e.row = .slice A e.fl.dat.length c ∧ e.fl.dat.length ≤ c ∧ c ≤ maxLen := own_shape h.2
theorem size_none (h : DriveAt w b mb st Q) (s : ByteArray) (hs : s.size ≤ maxLen) (hf : findBy Ent.key s.data.toList Q = none) :
    Calls Tryd.prog 26 #[.pointer (some ⟨b, 0, none⟩), .string s] w fun e w' => e = .returned (.int .i64 0) ∧ w = w' := by
  have c0 := h.c0
  have hm := h.map
  have hv := look_no hf
  have HV := Lib.hid hv
  clear h hf hv
  go_enter Tryd.func26, Tryd.ntmps26
  go_wp2_with (at_lookup; refine wpList_look _ rfl _ _ 47 rfl rfl hm Tryd.underlying9 Tryd.underlying47 (zeroP _) s rfl hs _ HV.out ?_)
  go_ret
  exact ⟨rfl, rfl⟩
theorem size_some (h : DriveAt w b mb st Q) (s : ByteArray) (hs : s.size ≤ maxLen) {e : Ent} (hf : findBy Ent.key s.data.toList Q = some e) :
    Calls Tryd.prog 26 #[.pointer (some ⟨b, 0, none⟩), .string s] w fun r w' => r = .returned (.int .i64 (e.fl.dat.length : Int)) ∧ w = w' := by
  have c0 := h.c0
  have hm := h.map
  have hv := look_yes hf
  have HV := Lib.hid hv
  have he := h.ents e (findBy_some hf).1
  obtain ⟨A, c, hrow, _, _⟩ := he.row_
  have d0 : w.cell? ⟨e.blk, 0, none⟩ = some e.row := he.1.cell 0
  rw [hrow] at d0
  clear h hf hv he hrow
  go_enter Tryd.func26, Tryd.ntmps26
  go_wp2_with (at_lookup; refine wpList_look _ rfl _ _ 47 rfl rfl hm Tryd.underlying9 Tryd.underlying47 (zeroP _) s rfl hs _ HV.out ?_)
  go_ret
  exact ⟨rfl, rfl⟩
theorem loose_none (h : DriveAt w b mb st Q) (s : ByteArray) (hs : s.size ≤ maxLen) (hf : findBy Ent.key s.data.toList Q = none) :
    Calls Tryd.prog 18 #[.pointer (some ⟨b, 0, none⟩), .string s] w fun e w' => e = .returned (.int .i64 0) ∧ w = w' := by
  have c0 := h.c0
  have hm := h.map
  have hv := look_no hf
  have HV := Lib.hid hv
  clear h hf hv
  go_enter Tryd.func18, Tryd.ntmps18
  go_wp2_with (at_lookup; refine wpList_look _ rfl _ _ 47 rfl rfl hm Tryd.underlying9 Tryd.underlying47 (zeroP _) s rfl hs _ HV.out ?_)
  go_ret
  exact ⟨rfl, rfl⟩
theorem loose_some (h : DriveAt w b mb st Q) (s : ByteArray) (hs : s.size ≤ maxLen) {e : Ent} (hf : findBy Ent.key s.data.toList Q = some e) (hd : e.fl.dat.length ≤ 262144) (hsy : e.fl.syn ≤ e.fl.dat.length) :
    Calls Tryd.prog 18 #[.pointer (some ⟨b, 0, none⟩), .string s] w fun r w' => r = .returned (.int .i64 ((e.fl.dat.length : Int) - (e.fl.syn : Int))) ∧ ∃ k, w' = w.drewN k := by
  have c0 := h.c0
  have hm := h.map
  have hv := look_yes hf
  have HV := Lib.hid hv
  have he := h.ents e (findBy_some hf).1
  obtain ⟨A, c, hrow, _, _⟩ := he.row_
  have d0 : w.cell? ⟨e.blk, 0, none⟩ = some e.row := he.1.cell 0
  have d1 : w.cell? ⟨e.blk, 1, none⟩ = some (.int .i64 (e.fl.syn : Int)) := he.1.cell 1
  rw [hrow] at d0
  clear h hf hv he hrow
  go_enter Tryd.func18, Tryd.ntmps18
  go_wp2_with (at_lookup; refine wpList_look _ rfl _ _ 47 rfl rfl hm Tryd.underlying9 Tryd.underlying47 (zeroP _) s rfl hs _ HV.out ?_)
  go_quiet (fail)
  go_wp2
  go_ret
  exact ⟨rfl, _, rfl⟩
end
end Dr
end Go.Proofs.YtnijonjepgdinaaDoor
