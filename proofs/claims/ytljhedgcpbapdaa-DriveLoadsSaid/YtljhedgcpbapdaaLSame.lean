/-
  WHAT IS PROVED: the law's 'same' answers true of two drives whose files have the same names and bytes. CONDITIONS: both stand in memory as named.
-/
import Derived.Test.YtljhedgcpbapdaaLTell
namespace Go.Proofs.Ytljhedgcpbapdaa
open Go Go.RowKit Go.Maps Go.Proofs.Ytljhedgcpbapdaa.Fr
namespace Dr
/-- A file's name and bytes. -/
def Fl.nd (f : Fl) : Bs × Bs := (f.name, f.dat)
structure SameS (w0 : World) (b : Nat) (st : St) (b2 : Nat) (st2 : St) (AL AM : Option Addr) (X : World) : Prop where
  d1 : ∃ S, DriveRep X S b st
  d2 : ∃ S, DriveRep X S b2 st2
  n1 : Rd X AL ((st.files.map (·.name)).map encStr)
  n2 : Rd X AM ((st2.files.map (·.name)).map encStr)
  bel : Below w0.heap.size w0 X
structure SameR (w0 : World) (b : Nat) (st : St) (b2 : Nat) (st2 : St) (AL AM : Option Addr) (f : Fl) (gl ol gm om : Nat) (A1 A2 : Option Addr) (X : World) : Prop where
  s : SameS w0 b st b2 st2 AL AM X
  r1 : Rd X A1 (bv f.dat)
  r2 : Rd X A2 (bv f.dat)
  c1 : gl < X.heap.size ∧ X.cell? ⟨gl, ol, none⟩ = some (.string ⟨f.name.toArray⟩)
  c2 : gm < X.heap.size ∧ X.cell? ⟨gm, om, none⟩ = some (.string ⟨f.name.toArray⟩)
def SmInv (w0 : World) (b : Nat) (st : St) (b2 : Nat) (st2 : St) (AL AM : Option Addr) (n : Nat) (s25 : Value) (X : World) : Prop := ∃ i : Nat, i ≤ n ∧ s25 = .int .i64 (i : Int) ∧ SameS w0 b st b2 st2 AL AM X
section
variable {w0 X X' : World} {b b2 : Nat} {st st2 : St} {AL AM A1 A2 : Option Addr} {f : Fl} {gl ol gm om : Nat} {S S2 : Nat → Prop}
theorem SameS.keep (h : SameS w0 b st b2 st2 AL AM X) (hb : Below X.heap.size X X') : SameS w0 b st b2 st2 AL AM X' :=
  ⟨let ⟨S, h1⟩ := h.d1; ⟨S, h1.below hb⟩, let ⟨S, h1⟩ := h.d2; ⟨S, h1.below hb⟩, h.n1.below hb, h.n2.below hb, h.bel.trans (hb.mono h.bel.size)⟩
theorem SameR.keep (h : SameR w0 b st b2 st2 AL AM f gl ol gm om A1 A2 X) (hb : Below X.heap.size X X') : SameR w0 b st b2 st2 AL AM f gl ol gm om A1 A2 X' :=
  ⟨h.s.keep hb, h.r1.below hb, h.r2.below hb, ⟨Nat.lt_of_lt_of_le h.c1.1 hb.size, (hb.cell (p := ⟨gl, ol, none⟩) h.c1.1).trans h.c1.2⟩, ⟨Nat.lt_of_lt_of_le h.c2.1 hb.size, (hb.cell (p := ⟨gm, om, none⟩) h.c2.1).trans h.c2.2⟩⟩
theorem SameR.drew (h : SameR w0 b st b2 st2 AL AM f gl ol gm om A1 A2 X) : SameR w0 b st b2 st2 AL AM f gl ol gm om A1 A2 X.drew := h.keep (below_drewN (Below.refl _ _) 1)
theorem SameR.cells (h : SameR w0 b st b2 st2 AL AM f gl ol gm om A1 A2 X) (m1 c1 m2 c2 : Nat) (hl1 : f.dat.length = m1) (hl2 : f.dat.length = m2) : X.cell? ⟨gl, ol, none⟩ = some (.string ⟨f.name.toArray⟩) ∧ X.cell? ⟨gm, om, none⟩ = some (.string ⟨f.name.toArray⟩) ∧
    (convert 33 9 (.slice A1 m1 c1)).run Try.prog X = .ok (.string ⟨f.dat.toArray⟩) X ∧ (convert 33 9 (.slice A2 m2 c2)).run Try.prog X = .ok (.string ⟨f.dat.toArray⟩) X :=
  ⟨h.c1.2, h.c2.2, run_str (P := Try.prog) _ 33 9 5 Try.underlying33 Try.underlying5 Try.underlying9 _ m1 c1 f.dat hl1 h.r1, run_str (P := Try.prog) _ 33 9 5 Try.underlying33 Try.underlying5 Try.underlying9 _ m2 c2 f.dat hl2 h.r2⟩
theorem name_at {l : List Fl} {A : Option Addr} (h : Rd X A ((l.map (·.name)).map encStr)) {i : Nat} {f : Fl} (hi : l[i]? = some f) : ∃ gl ol, A = some ⟨gl, ol, none⟩ ∧ gl < X.heap.size ∧ X.cell? ⟨gl, ol + i, none⟩ = some (.string ⟨f.name.toArray⟩) := by
  have hlt : i < l.length := (List.getElem?_eq_some_iff.1 hi).1
  obtain ⟨gl, o, e, h1, h2⟩ := h.at_ (i := i) (by rw [List.length_map, List.length_map]; exact hlt)
  refine ⟨gl, o, e, h1, h2.trans ?_⟩
  simp only [List.getElem_map, Option.some.injEq]
  rw [(List.getElem?_eq_some_iff.1 hi).2]
theorem same_read1 (h : SameS w0 b st b2 st2 AL AM X) (hok : st.Ok) {f : Fl} {i : Nat} (hi : st.files[i]? = some f) (hs : (⟨f.name.toArray⟩ : ByteArray).size ≤ maxLen) :
    Calls Try.prog 29 #[.pointer (some ⟨b, 0, none⟩), .string ⟨f.name.toArray⟩] X fun e w' => ∃ A2 m2 c2, e = .returned (.tuple #[.slice A2 m2 c2, .int .i64 0]) ∧ f.dat.length = m2 ∧ Rd w' A2 (bv f.dat) ∧ Below X.heap.size X w' := by
  obtain ⟨S, h1⟩ := h.d1
  exact (read_some h1 hok ⟨f.name.toArray⟩ hs (f := f) (find_of_mem hok.rising (List.mem_of_getElem? hi))).mono fun e w' ⟨A2, m2, c2, h2, h3, h4, h5⟩ => ⟨A2, m2, c2, h2, h3, Rd.own h4, h5⟩
theorem same_read2 (h : SameS w0 b st b2 st2 AL AM X) (hok : st2.Ok) {f f2 : Fl} {i : Nat} (hi : st2.files[i]? = some f2) (hn : f2.nd = f.nd) (hs : (⟨f.name.toArray⟩ : ByteArray).size ≤ maxLen) :
    Calls Try.prog 29 #[.pointer (some ⟨b2, 0, none⟩), .string ⟨f.name.toArray⟩] X fun e w' => ∃ A2 m2 c2, e = .returned (.tuple #[.slice A2 m2 c2, .int .i64 0]) ∧ f.dat.length = m2 ∧ Rd w' A2 (bv f.dat) ∧ Below X.heap.size X w' := by
  simp only [Fl.nd, Prod.mk.injEq] at hn
  obtain ⟨S, h1⟩ := h.d2
  rw [← hn.1] at hs ⊢
  rw [← hn.2]
  exact (read_some h1 hok ⟨f2.name.toArray⟩ hs (f := f2) (find_of_mem hok.rising (List.mem_of_getElem? hi))).mono fun e w' ⟨A2, m2, c2, h2, h3, h4, h5⟩ => ⟨A2, m2, c2, h2, h3, Rd.own h4, h5⟩
theorem nd_at {l l2 : List Fl} (h : l.map Fl.nd = l2.map Fl.nd) {i : Nat} {f : Fl} (hi : l[i]? = some f) : ∃ f2, l2[i]? = some f2 ∧ f2.nd = f.nd := by
  have h1 := congrArg (·[i]?) h
  simp only [List.getElem?_map, hi, Option.map_some] at h1
  cases h2 : l2[i]? with
  | none => rw [h2] at h1; cases h1
  | some f2 => rw [h2] at h1; exact ⟨f2, rfl, by simpa using h1.symm⟩
theorem names_len {l : List Fl} {k n : Nat} (h : (l.map (·.name)).length = k) (hn : l.length = n) : k = n := by rw [List.length_map] at h; omega
set_option maxRecDepth 100000 in
theorem same_any (w : World) (hd1 : DriveRep w S b st) (hd2 : DriveRep w S2 b2 st2) (hok : st.Ok) (hok2 : st2.Ok) (he : st.files.map Fl.nd = st2.files.map Fl.nd) :
    Calls Try.prog 19 #[.pointer (some ⟨b, 0, none⟩), .pointer (some ⟨b2, 0, none⟩)] w fun e w' => e = .returned (.bool true) ∧ Below w.heap.size w w' := by
  obtain ⟨n, hnn⟩ : ∃ n, st.files.length = n := ⟨_, rfl⟩
  have hnn2 : st2.files.length = n := by have := congrArg List.length he; simp only [List.length_map] at this; omega
  have HNN := Lib.hid hnn
  have HNN2 := Lib.hid hnn2
  have HD1 := Lib.hid hd1
  have HD2 := Lib.hid hd2
  have HN1 := Lib.hid (fun W (k : Below w.heap.size w W) => names_any (hd1.below k) hok)
  have HN2 := Lib.hid (fun W (k : Below w.heap.size w W) => names_any (hd2.below k) hok2)
  have HOK := Lib.hid hok
  have HOK2 := Lib.hid hok2
  have HE := Lib.hid he
  clear hd1 hd2 hok hok2 he hnn hnn2
  go_enter Try.func19, Try.ntmps19
  go_wp2_with (first
    | (go_at_call 20; (with_reducible refine (HN1.out _ (Below.refl _ _)).mono ?_); rintro e w1 ⟨AL, nl, cl, rfl, hnl, hncl, hown, hb1⟩; have HO1 := Lib.hid hown; obtain rfl : nl = n := (names_len hnl HNN.out); clear hown hnl)
    | (go_at_call 20; (with_reducible refine (HN2.out _ hb1).mono ?_); rintro e w2 ⟨AM, nm, cm, rfl, hnm, hncm, hown2, hb2⟩; have HO2 := Lib.hid hown2; obtain rfl : nm = nl := (names_len hnm HNN2.out); clear hown2 hnm))
  have hS : SameS w b st b2 st2 AL AM w2 :=
    ⟨⟨_, (HD1.out.below hb1).below hb2⟩, ⟨_, (HD2.out.below hb1).below hb2⟩, (Rd.own HO1.out).below hb2, Rd.own HO2.out, hb1.trans (hb2.mono hb1.size)⟩
  have hn256 : nm ≤ 256 := by have := HOK.out.few; have := HNN.out; omega
  clear HO1 HO2 hb1 hb2
  go_loopw [25] (SmInv w b st b2 st2 AL AM nm) (fun x _ => nm - (intOf x).toNat)
  case atStart => exact ⟨0, by omega, rfl, hS⟩
  case round =>
    clear hS
    obtain ⟨i, hi, rfl, hT⟩ := hrel
    by_cases hlt : i < nm
    · obtain ⟨f, hf⟩ : ∃ f, st.files[i]? = some f := ⟨st.files[i]'(by have := HNN.out; omega), List.getElem?_eq_getElem _⟩
      obtain ⟨f2, hf2, hnd⟩ := nd_at HE.out hf
      obtain ⟨gl, ol, rfl, hgl, q0⟩ := name_at hT.n1 hf
      obtain ⟨gm, om, rfl, hgm, q1'⟩ := name_at hT.n2 hf2
      have q1 : wr.cell? ⟨gm, om + i, none⟩ = some (.string ⟨f.name.toArray⟩) := by simp only [Fl.nd, Prod.mk.injEq] at hnd; rw [← hnd.1]; exact q1'
      have HF := Lib.hid hf
      have HF2 := Lib.hid hf2
      have HND := Lib.hid hnd
      have HSN := Lib.hid (name_size HOK.out hf)
      have hlt' : (i : Int) < (nm : Int) := by omega
      have HT := Lib.hid hT
      have HQ := Lib.hid q0
      have HQ1 := Lib.hid q1
      clear hf hf2 hnd q1' hT q1
      go_upto_region 11 with (first
        | (go_at_call 29; (with_reducible refine (same_read1 HT.out HOK.out HF.out HSN.out).mono ?_); rintro e w7 ⟨A1, m1, c1, rfl, hl1, hr1, hb7⟩; have HT7 := Lib.hid (HT.out.keep hb7); have q07 := (hb7.cell (p := ⟨gl, ol + i, none⟩) hgl).trans HQ.out; have HL1 := Lib.hid hl1; clear hl1)
        | (go_at_call 29; (with_reducible refine (same_read2 HT7.out HOK2.out HF2.out HND.out HSN.out).mono ?_); rintro e w8 ⟨A2, m2, c2, rfl, hl2, hr2, hb8⟩; have HL2 := Lib.hid hl2; clear hl2))
      have hR : SameR w b st b2 st2 (some ⟨gl, ol, none⟩) (some ⟨gm, om, none⟩) f gl (ol + i) gm (om + i) A1 A2 w8 :=
        ⟨HT7.out.keep hb8, hr1.below hb8, hr2, ⟨by have := hb7.size; have := hb8.size; omega, (hb8.cell (p := ⟨gl, ol + i, none⟩) (by have := hb7.size; show gl < _; omega)).trans q07⟩, ⟨by have := hb7.size; have := hb8.size; omega, (hb8.cell (p := ⟨gm, om + i, none⟩) (by have := hb7.size; show gm < _; omega)).trans ((hb7.cell (p := ⟨gm, om + i, none⟩) hgm).trans HQ1.out)⟩⟩
      clear hr1 hr2 q07 q0 hb7 hb8
      refine wp_region_held_drew (S := SameR w b st b2 st2 (some ⟨gl, ol, none⟩) (some ⟨gm, om, none⟩) f gl (ol + i) gm (om + i) A1 A2) (by kernel_rfl) (by (first | assumption | (exact SameR.drew (by assumption)))) (fun hHeld => ?_)
      refine wpAnyH_take (i := 0) (v := ?vr1_0) (Fr.take_at rfl) (by kernel_rfl) (by kernel_rfl) (by kernel_rfl) (fun _ _ _ h => h) (Or.inl ⟨by rfl, ?yr1_0⟩) (by assumption) ?nr1_0
      case yr1_0 => (intro w_ hSw; obtain ⟨q0, q1, q2, q3⟩ := SameR.cells hSw m1 c1 m2 c2 HL1.out HL2.out; go_simp; (try with_reducible rfl))
      try simp only [Act.put, List.setIfInBounds_toArray, List.set_cons_zero, List.set_cons_succ]
      refine wpAnyH_take (i := 1) (v := ?vr1_1) (Fr.take_at rfl) (by kernel_rfl) (by kernel_rfl) (by kernel_rfl) (fun _ _ _ h => h) (Or.inl ⟨by rfl, ?yr1_1⟩) (by assumption) ?nr1_1
      case yr1_1 => (intro w_ hSw; obtain ⟨q0, q1, q2, q3⟩ := SameR.cells hSw m1 c1 m2 c2 HL1.out HL2.out; go_simp; (try with_reducible rfl))
      try simp only [Act.put, List.setIfInBounds_toArray, List.set_cons_zero, List.set_cons_succ]
      refine wpAnyH_take (i := 2) (v := ?vr1_2) (Fr.take_at rfl) (by kernel_rfl) (by kernel_rfl) (by kernel_rfl) (fun _ _ _ h => h) (Or.inl ⟨by rfl, ?yr1_2⟩) (by assumption) ?nr1_2
      case yr1_2 => (intro w_ hSw; obtain ⟨q0, q1, q2, q3⟩ := SameR.cells hSw m1 c1 m2 c2 HL1.out HL2.out; go_simp; (try with_reducible rfl))
      try simp only [Act.put, List.setIfInBounds_toArray, List.set_cons_zero, List.set_cons_succ]
      refine wpAnyH_take (i := 3) (v := ?vr1_3) (Fr.take_at rfl) (by kernel_rfl) (by kernel_rfl) (by kernel_rfl) (fun _ _ _ h => h) (Or.inl ⟨by rfl, ?yr1_3⟩) (by assumption) ?nr1_3
      case yr1_3 => (intro w_ hSw; obtain ⟨q0, q1, q2, q3⟩ := SameR.cells hSw m1 c1 m2 c2 HL1.out HL2.out; go_simp; (try with_reducible rfl))
      try simp only [Act.put, List.setIfInBounds_toArray, List.set_cons_zero, List.set_cons_succ]
      refine wpAnyH_take (i := 4) (v := ?vr1_4) (Fr.take_at rfl) (by kernel_rfl) (by kernel_rfl) (by kernel_rfl) (fun _ _ _ h => h) (Or.inl ⟨by rfl, ?yr1_4⟩) (by assumption) ?nr1_4
      case yr1_4 => (intro w_ hSw; obtain ⟨q0, q1, q2, q3⟩ := SameR.cells hSw m1 c1 m2 c2 HL1.out HL2.out; go_simp; (try with_reducible rfl))
      try simp only [Act.put, List.setIfInBounds_toArray, List.set_cons_zero, List.set_cons_succ]
      refine wpAnyH_take (i := 5) (v := ?vr1_5) (Fr.take_at rfl) (by kernel_rfl) (by kernel_rfl) (by kernel_rfl) (fun _ _ _ h => h) (Or.inl ⟨by rfl, ?yr1_5⟩) (by assumption) ?nr1_5
      case yr1_5 => (intro w_ hSw; obtain ⟨q0, q1, q2, q3⟩ := SameR.cells hSw m1 c1 m2 c2 HL1.out HL2.out; go_simp; (try with_reducible rfl))
      try simp only [Act.put, List.setIfInBounds_toArray, List.set_cons_zero, List.set_cons_succ]
      refine wpAnyH_take (i := 6) (v := ?vr1_6) (Fr.take_at rfl) (by kernel_rfl) (by kernel_rfl) (by kernel_rfl) (fun _ _ _ h => h) (Or.inl ⟨by rfl, ?yr1_6⟩) (by assumption) ?nr1_6
      case yr1_6 => (intro w_ hSw; obtain ⟨q0, q1, q2, q3⟩ := SameR.cells hSw m1 c1 m2 c2 HL1.out HL2.out; go_simp; (try with_reducible rfl))
      try simp only [Act.put, List.setIfInBounds_toArray, List.set_cons_zero, List.set_cons_succ]
      refine wpAnyH_take (i := 7) (v := ?vr1_7) (Fr.take_at rfl) (by kernel_rfl) (by kernel_rfl) (by kernel_rfl) (fun _ _ _ h => h) (Or.inl ⟨by rfl, ?yr1_7⟩) (by assumption) ?nr1_7
      case yr1_7 => (intro w_ hSw; obtain ⟨q0, q1, q2, q3⟩ := SameR.cells hSw m1 c1 m2 c2 HL1.out HL2.out; go_simp; (try with_reducible rfl))
      try simp only [Act.put, List.setIfInBounds_toArray, List.set_cons_zero, List.set_cons_succ]
      refine wpAnyH_take (i := 8) (v := ?vr1_8) (Fr.take_at rfl) (by kernel_rfl) (by kernel_rfl) (by kernel_rfl) (fun _ _ _ h => h) (Or.inl ⟨by rfl, ?yr1_8⟩) (by assumption) ?nr1_8
      case yr1_8 => (intro w_ hSw; obtain ⟨q0, q1, q2, q3⟩ := SameR.cells hSw m1 c1 m2 c2 HL1.out HL2.out; go_simp; (try with_reducible rfl))
      try simp only [Act.put, List.setIfInBounds_toArray, List.set_cons_zero, List.set_cons_succ]
      refine wpAnyH_take (i := 9) (v := ?vr1_9) (Fr.take_at rfl) (by kernel_rfl) (by kernel_rfl) (by kernel_rfl) (fun _ _ _ h => h) (Or.inl ⟨by rfl, ?yr1_9⟩) (by assumption) ?nr1_9
      case yr1_9 => (intro w_ hSw; obtain ⟨q0, q1, q2, q3⟩ := SameR.cells hSw m1 c1 m2 c2 HL1.out HL2.out; go_simp; (try with_reducible rfl))
      try simp only [Act.put, List.setIfInBounds_toArray, List.set_cons_zero, List.set_cons_succ]
      refine wpAnyH_take (i := 10) (v := ?vr1_10) (Fr.take_at rfl) (by kernel_rfl) (by kernel_rfl) (by kernel_rfl) (fun _ _ _ h => h) (Or.inl ⟨by rfl, ?yr1_10⟩) (by assumption) ?nr1_10
      case yr1_10 => (intro w_ hSw; obtain ⟨q0, q1, q2, q3⟩ := SameR.cells hSw m1 c1 m2 c2 HL1.out HL2.out; go_simp; (try with_reducible rfl))
      try simp only [Act.put, List.setIfInBounds_toArray, List.set_cons_zero, List.set_cons_succ]
      refine wpAnyH_take (i := 11) (v := ?vr1_11) (Fr.take_at rfl) (by kernel_rfl) (by kernel_rfl) (by kernel_rfl) (fun _ _ _ h => h) (Or.inl ⟨by rfl, ?yr1_11⟩) (by assumption) ?nr1_11
      case yr1_11 => (intro w_ hSw; obtain ⟨q0, q1, q2, q3⟩ := SameR.cells hSw m1 c1 m2 c2 HL1.out HL2.out; go_simp; (try with_reducible rfl))
      try simp only [Act.put, List.setIfInBounds_toArray, List.set_cons_zero, List.set_cons_succ]
      refine wpAnyH_take (i := 12) (v := ?vr1_12) (Fr.take_at rfl) (by kernel_rfl) (by kernel_rfl) (by kernel_rfl) (fun _ _ _ h => h) (Or.inl ⟨by rfl, ?yr1_12⟩) (by assumption) ?nr1_12
      case yr1_12 => (intro w_ hSw; obtain ⟨q0, q1, q2, q3⟩ := SameR.cells hSw m1 c1 m2 c2 HL1.out HL2.out; go_simp; (try with_reducible rfl))
      try simp only [Act.put, List.setIfInBounds_toArray, List.set_cons_zero, List.set_cons_succ]
      refine wpAnyH_take (i := 13) (v := ?vr1_13) (Fr.take_at rfl) (by kernel_rfl) (by kernel_rfl) (by kernel_rfl) (fun _ _ _ h => h) (Or.inl ⟨by rfl, ?yr1_13⟩) (by assumption) ?nr1_13
      case yr1_13 => (intro w_ hSw; obtain ⟨q0, q1, q2, q3⟩ := SameR.cells hSw m1 c1 m2 c2 HL1.out HL2.out; go_simp; (try with_reducible rfl))
      try simp only [Act.put, List.setIfInBounds_toArray, List.set_cons_zero, List.set_cons_succ]
      refine wpAnyH_take (i := 14) (v := ?vr1_14) (Fr.take_at rfl) (by kernel_rfl) (by kernel_rfl) (by kernel_rfl) (fun _ _ _ h => h) (Or.inl ⟨by rfl, ?yr1_14⟩) (by assumption) ?nr1_14
      case yr1_14 => (intro w_ hSw; obtain ⟨q0, q1, q2, q3⟩ := SameR.cells hSw m1 c1 m2 c2 HL1.out HL2.out; go_simp; (try with_reducible rfl))
      try simp only [Act.put, List.setIfInBounds_toArray, List.set_cons_zero, List.set_cons_succ]
      refine wpAnyH_take (i := 15) (v := ?vr1_15) (Fr.take_at rfl) (by kernel_rfl) (by kernel_rfl) (by kernel_rfl) (fun _ _ _ h => h) (Or.inl ⟨by rfl, ?yr1_15⟩) (by assumption) ?nr1_15
      case yr1_15 => (intro w_ hSw; obtain ⟨q0, q1, q2, q3⟩ := SameR.cells hSw m1 c1 m2 c2 HL1.out HL2.out; go_simp; (try with_reducible rfl))
      try simp only [Act.put, List.setIfInBounds_toArray, List.set_cons_zero, List.set_cons_succ]
      refine wpAnyH_done (by kernel_rfl) ?_ _
      go_wp2
      go_roundw
      case rel => exact ⟨i + 1, by omega, by go_num, hHeld.s⟩
      case measure => simp [intOf]; omega
    · obtain rfl : i = nm := by omega
      have HT := Lib.hid hT
      clear hT
      go_wp2
      go_ret
      exact ⟨rfl, HT.out.bel⟩
end
end Dr
end Go.Proofs.Ytljhedgcpbapdaa
