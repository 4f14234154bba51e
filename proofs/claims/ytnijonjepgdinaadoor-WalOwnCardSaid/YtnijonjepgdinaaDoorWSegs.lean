/-
  WHAT IS PROVED: what a log's Segment, noted and Segments do. CONDITIONS: the log and its drive stand in memory as told; the library's variables lie as laid.
-/
import Derived.Test.YtnijonjepgdinaaDoorWNames
import Derived.Test.YtnijonjepgdinaaDoorLBase
import Derived.Test.YtnijonjepgdinaaDoorWalkH
namespace Go.Proofs.YtnijonjepgdinaaDoor
open Go Go.RowKit Go.Maps Go.Proofs.YtnijonjepgdinaaDoor.Fr Go.Proofs.YtnijonjepgdinaaDoor.Dr
namespace Wl

/-- BLOCK b IS A LOG on the drive in block d. -/
def LogAt (w : World) (b d : Nat) (g : Int) (dead : Bool) : Prop := Blk w b 52 #[.pointer (some ⟨d, 0, none⟩), .int .i64 g, .bool dead]
section
variable {w w' : World} {b d : Nat} {g : Int} {dead : Bool}
theorem LogAt.c0 (h : LogAt w b d g dead) : w.cell? ⟨b, 0, none⟩ = some (.pointer (some ⟨d, 0, none⟩)) := h.cell 0
theorem LogAt.c1 (h : LogAt w b d g dead) : w.cell? ⟨b, 1, none⟩ = some (.int .i64 g) := h.cell 1
theorem LogAt.c2 (h : LogAt w b d g dead) : w.cell? ⟨b, 2, none⟩ = some (.bool dead) := h.cell 2
theorem segment_any (h : LogAt w b d g dead) :
    Calls Tryd.prog 16 #[.pointer (some ⟨b, 0, none⟩)] w fun e w' => e = .returned (.int .i64 g) ∧ w = w' := by
  have c1 := h.c1
  go_enter Tryd.func16, Tryd.ntmps16
  go_wp2
  go_ret
  exact ⟨rfl, rfl⟩
theorem noted_no (e : Int) (he : e ≠ 6) (w : World) :
    Calls Tryd.prog 29 #[.pointer (some ⟨b, 0, none⟩), .int .i64 e] w fun x w' => x = .returned (.int .i64 e) ∧ w = w' := by
  have e1 : (e == 6) = false := by rw [beq_eq_false_iff_ne]; exact he
  go_enter Tryd.func29, Tryd.ntmps29
  go_wp2
  go_ret
  exact ⟨rfl, rfl⟩
theorem noted_yes (h : LogAt w b d g dead) :
    Calls Tryd.prog 29 #[.pointer (some ⟨b, 0, none⟩), .int .i64 6] w fun x w' => x = .returned (.int .i64 6) ∧ w' = w.setCell ⟨b, 2, none⟩ (.bool true) := by
  have c2 := h.c2
  have f2 : w.frozen? ⟨b, 2, none⟩ = false := h.frozen 2
  go_enter Tryd.func29, Tryd.ntmps29
  go_wp2
  go_ret
  exact ⟨rfl, rfl⟩
end

def ints (l : List Int) : List Value := l.map fun n => .int .i64 n
/-- The numbers of all segments. -/
noncomputable def segs (l : List Fl) : List Int := (l.map fun f => num f.name).filter fun n => decide (0 < n)
theorem segs_snoc_yes {l : List Fl} {i : Nat} {f : Fl} (h : l[i]? = some f) (hp : 0 < num f.name) : ints (segs (l.take (i + 1))) = ints (segs (l.take i)) ++ [.int .i64 (num f.name)] := by
  rw [List.take_add_one, h]
  simp [segs, ints, hp]
theorem segs_snoc_no {l : List Fl} {i : Nat} {f : Fl} (h : l[i]? = some f) (hp : num f.name = 0) : ints (segs (l.take (i + 1))) = ints (segs (l.take i)) := by
  rw [List.take_add_one, h]
  simp [segs, ints, hp]
theorem ints_len (l : List Int) : (ints l).length = l.length := List.length_map _
theorem info_int : (Tryd.prog.info? 3).map (fun i => (i.zero, i.size, i.bytes)) = some (some (.int .i64 0), 1, 8) := by kernel_rfl
theorem name_size {st : St} (hok : st.Ok) {f : Fl} {i : Nat} (hi : st.files[i]? = some f) : (⟨f.name.toArray⟩ : ByteArray).size ≤ 281474976710656 := by
  have := (hok.file _ (List.mem_of_getElem? hi)).2.2
  simp only [nameOk, Bool.and_eq_true, decide_eq_true_eq] at this
  show f.name.toArray.size ≤ _
  simp only [List.size_toArray]
  omega
theorem name_at {X : World} {l : List Fl} {A : Option Addr} (h : Rd X A ((l.map (·.name)).map encStr)) {i : Nat} {f : Fl} (hi : l[i]? = some f) : ∃ gl ol, A = some ⟨gl, ol, none⟩ ∧ gl < X.heap.size ∧ X.cell? ⟨gl, ol + i, none⟩ = some (.string ⟨f.name.toArray⟩) := by
  have hlt : i < l.length := (List.getElem?_eq_some_iff.1 hi).1
  obtain ⟨gl, o, e, h1, h2⟩ := h.at_ (i := i) (by rw [List.length_map, List.length_map]; exact hlt)
  refine ⟨gl, o, e, h1, h2.trans ?_⟩
  simp only [List.getElem_map, Option.some.injEq]
  rw [(List.getElem?_eq_some_iff.1 hi).2]
/-- A list of numbers, in a new row. -/
def IntsRet (w : World) (l : List Int) (e : Ending) (w' : World) : Prop :=
  ∃ A n c, e = .returned (.slice A n c) ∧ l.length = n ∧ n ≤ c ∧ w'.ownsRow w.heap.size 3 1 (.slice A n c) n (ints l) ∧ Below w.heap.size w w'
/-- Where the loop over the names stands. -/
def SgInv (w1 : World) (fs : List Fl) (nl : Nat) (v x : Value) (wr : World) : Prop :=
  ∃ (i j c : Nat) (A : Option Addr), i ≤ nl ∧ x = .int .i64 (i : Int) ∧ v = .slice A j c ∧ j ≤ i ∧ j ≤ c ∧ Hid (wr.ownsRow w1.heap.size 3 1 (.slice A j c) j (ints (segs (fs.take i))) ∧ (segs (fs.take i)).length = j ∧ Below w1.heap.size w1 wr)
set_option maxHeartbeats 1600000 in
theorem segments_any {B : Nat} {w : World} {S : Nat → Prop} {b d : Nat} {g : Int} {dead : Bool} {st : St} (h : DriveRep w S d st) (hok : st.Ok) (hl : LogAt w b d g dead) (hL : Lb B w) :
    Calls Tryd.prog 19 #[.pointer (some ⟨b, 0, none⟩)] w (IntsRet w (segs st.files)) := by
  have c0 := hl.c0
  have HN := Lib.hid (names_any h hok)
  have HOK := Lib.hid hok
  have HL := Lib.hid hL
  obtain ⟨i3, hi3, hv, hv1, hv2⟩ := info_parts info_int
  obtain ⟨fs, hfs⟩ : ∃ fs, fs = st.files := ⟨_, rfl⟩
  have HFS := Lib.hid hfs
  have hfw : fs.length ≤ 256 := by rw [hfs]; exact hok.few
  have HSZ := Lib.hid (fun (f : Fl) (i : Nat) (hi : fs[i]? = some f) => name_size (st := st) hok (f := f) (i := i) (by rw [← hfs]; exact hi))
  rw [← hfs] at HN ⊢
  clear hfs h hok hL hl
  go_enter Tryd.func19, Tryd.ntmps19
  go_wp2_with (go_at_call 23; refine HN.out.mono ?_; rintro e w1 ⟨AL, nl, cl, rfl, hnl, hncl, hown, hb1⟩)
  have hrd := Rd.own hown
  rw [List.length_map] at hnl
  have HRD := Lib.hid hrd
  have HB1 := Lib.hid hb1
  have hnl2 : nl ≤ 256 := by omega
  clear hown hrd hb1 HN c0
  go_loopw [3, 13] (SgInv w1 fs nl) (fun _ x _ => nl - (intOf x).toNat)
  case atStart => exact ⟨0, 0, 0, none, by omega, rfl, rfl, by omega, by omega, ⟨World.ownsRow_nil _ _ _ _, rfl, Below.refl _ _⟩⟩
  case round =>
    obtain ⟨i, j, c, A, hi, rfl, rfl, hji, hjc, HK⟩ := hrel
    by_cases hlt : i < nl
    · obtain ⟨f, hf⟩ : ∃ f, fs[i]? = some f := ⟨fs[i]'(by omega), List.getElem?_eq_getElem _⟩
      obtain ⟨gl, ol, rfl, hgl, q0⟩ := name_at HRD.out hf
      have q1 : wr.cell? ⟨gl, ol + i, none⟩ = some (.string ⟨f.name.toArray⟩) := (HK.out.2.2.cell (p := ⟨gl, ol + i, none⟩) hgl).trans q0
      have hlt' : (i : Int) < (nl : Int) := by omega
      have hbw := HB1.out.trans (HK.out.2.2.mono HB1.out.size)
      have hLw := HL.out.below (hbw.mono HL.out.up)
      have hC := numberOf_any ⟨f.name.toArray⟩ (HSZ.out f i hf) hLw
      have hs : (⟨f.name.toArray⟩ : ByteArray).data.toList = f.name := by simp
      rw [hs] at hC
      obtain ⟨z, hz⟩ : ∃ z, z = num f.name := ⟨_, rfl⟩
      have HC := Lib.hid hC
      rw [← hz] at HC
      have HZ := Lib.hid hz
      have HF := Lib.hid hf
      have HBW := Lib.hid hbw
      clear hC hbw hLw hs hf q0
      by_cases hzp : 0 < z
      · clear hz
        go_wp2_with (first
          | (go_at_call 32; refine HC.out.mono ?_; rintro e w2 ⟨rfl, hb2⟩; have HB2 := Lib.hid hb2; clear hb2)
          | (at_builtin; refine wpList_app _ rfl (.tmp 21) (.tmp 23) _ rfl w1.heap.size 3 i3 _ 8 Tryd.underlying32 hi3 hv hv1 hv2 rfl (.slice A j c) j (ints (segs (fs.take i))) rfl ((own_below HK.out.1 HB2.out (Nat.le_refl _)).alloc _) (some ⟨w2.heap.size, 0, none⟩) 1 1 [_] rfl rfl (Rd.one _ _ _ _ _ rfl) (by intro u hu; simp at hu; subst hu; rfl) (j + 1) rfl (by unfold maxLen; omega) (by omega) (by have := HK.out.2.2.size; have := HB2.out.size; simp; omega) ?_; intro A8 c8 w6 hown8 hb8 hg8 _))
        go_roundw
        case rel =>
          refine ⟨i + 1, j + 1, c8, A8, by omega, by go_num, rfl, by omega, own_cap hown8, ?_, ?_, ?_⟩
          · rw [segs_snoc_yes HF.out (by rw [← HZ.out]; exact hzp), ← HZ.out]; exact hown8
          · rw [← ints_len, segs_snoc_yes HF.out (by rw [← HZ.out]; exact hzp), List.length_append, ints_len, HK.out.2.1]; rfl
          · exact ((HK.out.2.2.trans (HB2.out.mono HK.out.2.2.size)).alloc (Nat.le_trans HK.out.2.2.size HB2.out.size) _).trans hb8
        case measure => simp [intOf]; omega
      · have hz0 : z = 0 := by
          rcases num_cases f.name with ⟨h, _⟩ | ⟨h, _⟩
          · rw [hz, h]
          · rw [← hz] at h; omega
        subst hz0
        clear hz
        go_wp2_with (go_at_call 32; refine HC.out.mono ?_; rintro e w2 ⟨rfl, hb2⟩; have HB2 := Lib.hid hb2; clear hb2)
        go_roundw
        case rel =>
          have e1 : ints (segs (fs.take (i + 1))) = ints (segs (fs.take i)) := segs_snoc_no HF.out HZ.out.symm
          have e2 : (segs (fs.take (i + 1))).length = (segs (fs.take i)).length := by rw [← ints_len, e1, ints_len]
          refine ⟨i + 1, j, c, A, by omega, by go_num, rfl, by omega, hjc, ?_, ?_, ?_⟩
          · rw [e1]; exact own_below HK.out.1 HB2.out (Nat.le_refl _)
          · rw [e2]; exact HK.out.2.1
          · exact HK.out.2.2.trans (HB2.out.mono HK.out.2.2.size)
        case measure => simp [intOf]; omega
    · obtain rfl : i = nl := by omega
      have hlt' : ¬ (i : Int) < (i : Int) := by omega
      go_wp2
      go_ret
      have e1 : fs.take i = fs := List.take_of_length_le (by omega)
      have HK' := HK.out
      rw [e1] at HK'
      exact ⟨_, _, _, rfl, HK'.2.1, hjc, own_mono HK'.1 HB1.out.size, HB1.out.trans (HK'.2.2.mono HB1.out.size)⟩

end Wl
end Go.Proofs.YtnijonjepgdinaaDoor
