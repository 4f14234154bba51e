/-
  WHAT IS PROVED: (1) what Arm, Names, Read, Append, Sync, Rename and Delete do. CONDITIONS: the drive stands in memory as the plain one says; what comes in lies elsewhere.
-/
import Derived.Test.YtbfmjonabndhaaaGreatDoorQDWalkC
import Derived.Test.YtbfmjonabndhaaaGreatDoorQDOps
namespace Go.Proofs.YtbfmjonabndhaaaGreatDoor
open Go Go.RowKit Go.Maps Go.Proofs.YtbfmjonabndhaaaGreatDoor.Fr
namespace Dr

section
variable {w : World} {b mb : Nat} {st : St} {Q : List Ent} {S : Nat → Prop}
/-- The names, in a new row. -/
def DNames (w : World) (l : List Bs) (e : Ending) (w' : World) : Prop := ∃ A n c, e = .returned (.slice A n c) ∧ l.length = n ∧ n ≤ c ∧ w'.ownsRow w.heap.size 9 1 (.slice A n c) n (l.map encStr) ∧ Below w.heap.size w w'
theorem names_sorted {ss : List Bs} {l : List Fl} (hr : Rising l) (h : ss.Perm (l.map (·.name))) : ss.mergeSort (fun x y => decide (x ≤ y)) = l.map (·.name) := by
  have h1 : ss.mergeSort leB = (l.map (·.name)).mergeSort leB := mergeSort_of_perm h
  have h2 : (l.map (·.name)).mergeSort leB = l.map (·.name) := by
    apply List.mergeSort_of_pairwise
    rw [List.pairwise_map]
    refine List.Pairwise.imp ?_ hr
    intro a c hac
    simpa using List.le_of_lt hac
  exact h1.trans h2
set_option maxHeartbeats 1000000 in
theorem names_any (h : DriveRep w S b st) (hok : st.Ok) :
    Calls Tryz.prog 28 #[.pointer (some ⟨b, 0, none⟩)] w (DNames w (st.files.map (·.name))) := by
  obtain ⟨mb, Q, h, _, _⟩ := h
  have c0 := h.c0
  have hown := h.map.owns
  have hlen : Q.length = st.files.length := h.length
  have hmx : Maps.size (datM (Q.map Ent.nb)) ≤ maxLen := by rw [size_datM, List.length_map, hlen]; have := hok.few; unfold maxLen; omega
  have hby : Maps.size (datM (Q.map Ent.nb)) * 16 ≤ 140737488355328 := by rw [size_datM, List.length_map, hlen]; have := hok.few; omega
  have hkeys : strKeys (datM (Q.map Ent.nb)) = st.files.map (·.name) := by rw [strKeys_datM, List.map_map, ← h.files, List.map_map]; rfl
  have HK := Lib.hid hkeys
  have HR := Lib.hid hok.rising
  clear h hlen hkeys hok
  refine (callsIn_wide (n := 6)).1 ?_
  have hfK : Fence.wide.fn 56 := trivial
  have hfS : Fence.wide.fn 48 := trivial
  refine callsIn_of_wp Tryz.func28 rfl trivial ?_ rfl
  simp only [Tryz.ntmps28, List.size_toArray, List.length_cons, List.length_nil, Nat.reduceAdd, Nat.reduceSub, Array.replicate_succ, Array.replicate_zero, List.push_toArray, List.append_toArray, List.nil_append, List.cons_append]
  gi_wp2_with (first
    | (gi_at_call 56; refine (Tryz.maps_Keys_56 _ _).mono ?_; rintro e w' ⟨rfl, rfl⟩)
    | (gi_at_call 48; refine (Tryz.slices_Sorted_keys_48_56 mb _ _ ptrElem w hown hmx hby).mono ?_; rintro e w' ⟨v, ss, rfl, hS, hrow, hnil, hb⟩))
  go_ret
  have hrow' : w'.ownsRow w.heap.size 9 1 v ss.length ((ss.mergeSort fun x y => decide (x ≤ y)).map encStr) := ownsRow_base_a hrow (by simp)
  rw [HK.out] at hS
  rw [names_sorted HR.out hS] at hrow'
  have hl : (st.files.map (·.name)).length = ss.length := hS.length_eq.symm
  obtain ⟨A, c, rfl, h1, _⟩ := own_shape hrow'
  exact ⟨A, ss.length, c, rfl, hl, h1, hrow', ((Below.refl _ w).alloc (Nat.le_refl _) _).trans (hb.mono (by simp))⟩

/-- A file's bytes in a new row. -/
def DRead (w : World) (l : Bs) (e : Ending) (w' : World) : Prop := ∃ v, e = .returned (.tuple #[v, .int .i64 0]) ∧ Made 5 w w' l v
theorem read_bad (b : Nat) (w : World) (s : ByteArray) (hs : s.size ≤ maxLen) (hn : nameOk s.data.toList = false) :
    Calls Tryz.prog 32 #[.pointer (some ⟨b, 0, none⟩), .string s] w fun e w' => e = .returned (.tuple #[.slice none 0 0, .int .i64 20]) ∧ w = w' := by
  have hc := find_bad w b s hs hn
  clear hn
  go_enter Tryz.func32, Tryz.ntmps32
  go_wp2_with (go_at_call 57; refine hc.mono ?_; rintro e w' ⟨rfl, rfl⟩)
  go_ret2
  exact ⟨rfl, rfl⟩
theorem read_no (h : DriveAt w b mb st Q) (s : ByteArray) (hs : s.size ≤ maxLen) (hn : nameOk s.data.toList = true) (hf : findBy Ent.key s.data.toList Q = none) :
    Calls Tryz.prog 32 #[.pointer (some ⟨b, 0, none⟩), .string s] w fun e w' => e = .returned (.tuple #[.slice none 0 0, .int .i64 4]) ∧ w = w' := by
  have hc := find_no h s hs hn hf
  clear hn h hf
  go_enter Tryz.func32, Tryz.ntmps32
  go_wp2_with (go_at_call 57; refine hc.mono ?_; rintro e w' ⟨rfl, rfl⟩)
  go_ret2
  exact ⟨rfl, rfl⟩
theorem read_yes (h : DriveAt w b mb st Q) (s : ByteArray) (hs : s.size ≤ maxLen) (hn : nameOk s.data.toList = true) {e : Ent} (hf : findBy Ent.key s.data.toList Q = some e) (hd : e.fl.dat.length ≤ 262144) :
    Calls Tryz.prog 32 #[.pointer (some ⟨b, 0, none⟩), .string s] w (DRead w e.fl.dat) := by
  have hc := find_yes h s hs hn hf
  have he := h.ents e (findBy_some hf).1
  obtain ⟨A, c, hrow, _, _⟩ := he.row_
  have d0 : w.cell? ⟨e.blk, 0, none⟩ = some e.row := he.1.cell 0
  have hown := he.2
  rw [hrow] at d0 hown
  have hcl := clone_any A _ c e.fl.dat w rfl (Rd.own hown) (by omega)
  clear hn h hf he hrow hown
  go_enter Tryz.func32, Tryz.ntmps32
  go_wp2_with (first
    | (go_at_call 57; refine hc.mono ?_; rintro e w' ⟨rfl, rfl⟩)
    | (go_at_call 52; refine hcl.mono ?_; rintro e w1 ⟨v, rfl, hmade⟩))
  go_ret2
  exact ⟨v, rfl, hmade⟩
end
end Dr
end Go.Proofs.YtbfmjonabndhaaaGreatDoor
