/-
  WHAT IS PROVED: (1) the law's 'Tells' answers true of a drive and a reference that are the same plain drive. CONDITIONS: both stand in memory as named.
-/
import Derived.Test.YtbfmjonabndhaaaGreatDoorQLMiss
import Derived.Test.YtbfmjonabndhaaaGreatDoorQDWalkG
import Derived.Deep.Cut
import Derived.Deep.DeepCutAuto
namespace Go.Proofs.YtbfmjonabndhaaaGreatDoor
open Go Go.RowKit Go.Maps Go.Proofs.YtbfmjonabndhaaaGreatDoor.Fr
namespace Dr

/-- What every world in the walk has. -/
structure TellS (w0 : World) (g b : Nat) (st : St) (A : Option Addr) (n c : Nat) (AL : Option Addr) (X : World) : Prop where
  drive : ∃ S, DriveRep X S b st
  ref : ∃ T, RefRep X T (refV (.slice A n c) st) st
  box : Blk X g 35 #[.slice A n c, .int .i64 (st.steps : Int), .bool st.armed, .int .i64 (st.left : Int)]
  names : Rd X AL ((st.files.map (·.name)).map encStr)
  bel : Below w0.heap.size w0 X
def TlInv (w0 : World) (g b : Nat) (st : St) (A : Option Addr) (n c : Nat) (AL : Option Addr) (s40 : Value) (wr : World) : Prop := ∃ i : Nat, i ≤ n ∧ s40 = .int .i64 (i : Int) ∧ TellS w0 g b st A n c AL wr
section
variable {w w0 X X' : World} {S T : Nat → Prop} {g b : Nat} {st : St} {A AL : Option Addr} {n c : Nat} {v : Value}
theorem TellS.keep (h : TellS w0 g b st A n c AL X) (hb : Below X.heap.size X X') : TellS w0 g b st A n c AL X' :=
  ⟨let ⟨S, h1⟩ := h.drive; ⟨S, h1.below hb⟩, let ⟨T, h1⟩ := h.ref; ⟨T, h1.below hb⟩, h.box.same (hb.block g h.box.lt), h.names.below hb, h.bel.trans (hb.mono h.bel.size)⟩
theorem TellS.drew (h : TellS w0 g b st A n c AL X) : TellS w0 g b st A n c AL X.drew := h.keep (below_drewN (Below.refl _ _) 1)
theorem TellS.cells (h : TellS w0 g b st A n c AL X) : X.cell? ⟨g, 0, none⟩ = some (.slice A n c) ∧ X.cell? ⟨g, 1, none⟩ = some (.int .i64 (st.steps : Int)) ∧ X.cell? ⟨g, 2, none⟩ = some (.bool st.armed) ∧ X.cell? ⟨g, 3, none⟩ = some (.int .i64 (st.left : Int)) :=
  ⟨h.box.cell 0, h.box.cell 1, h.box.cell 2, h.box.cell 3⟩
theorem tell_file (h : TellS w0 g b st A n c AL X) {i : Nat} {f : Fl} (hi : st.files[i]? = some f) :
    ∃ g, A = some ⟨g, 0, none⟩ ∧ g < X.heap.size ∧ X.cell? ⟨g, i * 3, none⟩ = some (.string ⟨f.name.toArray⟩) ∧ X.cell? ⟨g, i * 3 + 1, none⟩ = some (.string ⟨f.dat.toArray⟩) ∧ X.cell? ⟨g, i * 3 + 2, none⟩ = some (.int .i64 (f.syn : Int)) := by
  obtain ⟨T, u, hu, hl⟩ := h.ref
  simp only [refV, Value.agg.injEq, Array.mk.injEq, List.cons.injEq, and_true] at hu
  obtain rfl := hu
  exact hl.file hi
/-- What every world in the loop's test has. -/
structure TellR (w0 : World) (g b : Nat) (st : St) (A : Option Addr) (n c : Nat) (AL : Option Addr) (f : Fl) (g7 gl ol : Nat) (A2 : Option Addr) (X : World) : Prop where
  t : TellS w0 g b st A n c AL X
  box2 : Blk X g7 64 #[.string ⟨f.name.toArray⟩, .string ⟨f.dat.toArray⟩, .int .i64 (f.syn : Int)]
  row : Rd X A2 (bv f.dat)
  nm : gl < X.heap.size ∧ X.cell? ⟨gl, ol, none⟩ = some (.string ⟨f.name.toArray⟩)
theorem TellR.keep {f : Fl} {g7 gl ol : Nat} {A2 : Option Addr} (h : TellR w0 g b st A n c AL f g7 gl ol A2 X) (hb : Below X.heap.size X X') : TellR w0 g b st A n c AL f g7 gl ol A2 X' :=
  ⟨h.t.keep hb, h.box2.same (hb.block g7 h.box2.lt), h.row.below hb, Nat.lt_of_lt_of_le h.nm.1 hb.size, (hb.cell (p := ⟨gl, ol, none⟩) h.nm.1).trans h.nm.2⟩
theorem TellR.drewN {f : Fl} {g7 gl ol : Nat} {A2 : Option Addr} (h : TellR w0 g b st A n c AL f g7 gl ol A2 X) (k : Nat) : TellR w0 g b st A n c AL f g7 gl ol A2 (X.drewN k) := h.keep (below_drewN (Below.refl _ _) k)
theorem TellR.drew {f : Fl} {g7 gl ol : Nat} {A2 : Option Addr} (h : TellR w0 g b st A n c AL f g7 gl ol A2 X) : TellR w0 g b st A n c AL f g7 gl ol A2 X.drew := h.drewN 1
theorem TellR.cells {f : Fl} {g7 gl ol : Nat} {A2 : Option Addr} (h : TellR w0 g b st A n c AL f g7 gl ol A2 X) (m2 c2 : Nat) (hl : f.dat.length = m2) : X.cell? ⟨gl, ol, none⟩ = some (.string ⟨f.name.toArray⟩) ∧ X.cell? ⟨g7, 0, none⟩ = some (.string ⟨f.name.toArray⟩) ∧ X.cell? ⟨g7, 1, none⟩ = some (.string ⟨f.dat.toArray⟩) ∧ X.cell? ⟨g7, 2, none⟩ = some (.int .i64 (f.syn : Int)) ∧ (convert 28 9 (.slice A2 m2 c2)).run Tryz.prog X = .ok (.string ⟨f.dat.toArray⟩) X :=
  ⟨h.nm.2, h.box2.cell 0, h.box2.cell 1, h.box2.cell 2, run_str (P := Tryz.prog) _ 28 9 5 Tryz.underlying28 Tryz.underlying5 Tryz.underlying9 _ m2 c2 f.dat hl h.row⟩
theorem tell_names (h : TellS w0 g b st A n c AL X) {i : Nat} {f : Fl} (hi : st.files[i]? = some f) : ∃ gl ol, AL = some ⟨gl, ol, none⟩ ∧ gl < X.heap.size ∧ X.cell? ⟨gl, ol + i, none⟩ = some (.string ⟨f.name.toArray⟩) := by
  have hlt : i < st.files.length := (List.getElem?_eq_some_iff.1 hi).1
  obtain ⟨gl, o, e, h1, h2⟩ := h.names.at_ (i := i) (by rw [List.length_map, List.length_map]; exact hlt)
  refine ⟨gl, o, e, h1, h2.trans ?_⟩
  simp only [List.getElem_map, Option.some.injEq]
  rw [(List.getElem?_eq_some_iff.1 hi).2]
theorem tell_read (h : TellS w0 g b st A n c AL X) (hok : st.Ok) {f : Fl} {i : Nat} (hi : st.files[i]? = some f) (hs : (⟨f.name.toArray⟩ : ByteArray).size ≤ maxLen) :
    Calls Tryz.prog 32 #[.pointer (some ⟨b, 0, none⟩), .string ⟨f.name.toArray⟩] X fun e w' => ∃ A2 m2 c2, e = .returned (.tuple #[.slice A2 m2 c2, .int .i64 0]) ∧ f.dat.length = m2 ∧ Rd w' A2 (bv f.dat) ∧ Below X.heap.size X w' := by
  obtain ⟨S, h1⟩ := h.drive
  exact (read_some h1 hok ⟨f.name.toArray⟩ hs (f := f) (find_of_mem hok.rising (List.mem_of_getElem? hi))).mono fun e w' ⟨A2, m2, c2, h2, h3, h4, h5⟩ => ⟨A2, m2, c2, h2, h3, Rd.own h4, h5⟩
theorem tell_size (h : TellS w0 g b st A n c AL X) (hok : st.Ok) {f : Fl} {i : Nat} (hi : st.files[i]? = some f) (hs : (⟨f.name.toArray⟩ : ByteArray).size ≤ maxLen) :
    Calls Tryz.prog 33 #[.pointer (some ⟨b, 0, none⟩), .string ⟨f.name.toArray⟩] X fun e w' => e = .returned (.int .i64 (f.dat.length : Int)) ∧ X = w' := by
  obtain ⟨S, h1⟩ := h.drive
  have h2 := size_any h1 ⟨f.name.toArray⟩ hs
  rw [show st.sizeOf (⟨f.name.toArray⟩ : ByteArray).data.toList = f.dat.length from sizeOf_some (find_of_mem hok.rising (List.mem_of_getElem? hi))] at h2
  exact h2
theorem tell_loose (h : TellS w0 g b st A n c AL X) (hok : st.Ok) {f : Fl} {i : Nat} (hi : st.files[i]? = some f) (hs : (⟨f.name.toArray⟩ : ByteArray).size ≤ maxLen) :
    Calls Tryz.prog 16 #[.pointer (some ⟨b, 0, none⟩), .string ⟨f.name.toArray⟩] X fun e w' => e = .returned (.int .i64 ((f.dat.length : Int) - (f.syn : Int))) ∧ ∃ k, w' = X.drewN k := by
  obtain ⟨S, mb, Q, h1, _, _⟩ := h.drive
  have hm := List.mem_of_getElem? hi
  obtain ⟨e, hq, rfl⟩ := find_ent h1 (find_of_mem hok.rising hm)
  exact loose_some h1 ⟨e.fl.name.toArray⟩ hs hq (hok.file _ hm).1 (hok.file _ hm).2.1
theorem name_size (hok : st.Ok) {f : Fl} {i : Nat} (hi : st.files[i]? = some f) : (⟨f.name.toArray⟩ : ByteArray).size ≤ maxLen := by
  have := (hok.file _ (List.mem_of_getElem? hi)).2.2
  simp only [nameOk, Bool.and_eq_true, decide_eq_true_eq] at this
  show f.name.toArray.size ≤ _
  simp only [List.size_toArray, maxLen]
  omega
theorem tell_miss_read (h : TellS w0 g b st A n c AL X) {s : ByteArray} (hs : s.size ≤ 100) (hn : nameOk s.data.toList = true) (hf : find st.files s.data.toList = none) :
    Calls Tryz.prog 32 #[.pointer (some ⟨b, 0, none⟩), .string s] X fun e w' => e = .returned (.tuple #[.slice none 0 0, .int .i64 4]) ∧ X = w' := by
  obtain ⟨S, h1⟩ := h.drive
  exact read_none h1 s (by simp only [maxLen]; omega) hn hf
theorem tell_bad_size (h : TellS w0 g b st A n c AL X) (hok : st.Ok) :
    Calls Tryz.prog 33 #[.pointer (some ⟨b, 0, none⟩), .string ⟨#[66, 97, 100]⟩] X fun e w' => e = .returned (.int .i64 0) ∧ X = w' := by
  obtain ⟨S, h1⟩ := h.drive
  have h2 := size_any h1 ⟨#[66, 97, 100]⟩ (by decide)
  have hf : find st.files [66, 97, 100] = none := findBy_none_of (k := fun f : Fl => f.name) fun f hf hn => by
    have := (hok.file f hf).2.2
    rw [hn] at this
    revert this
    decide
  rw [show st.sizeOf (⟨#[66, 97, 100]⟩ : ByteArray).data.toList = 0 from sizeOf_none hf] at h2
  exact h2
theorem tell_miss_loose (h : TellS w0 g b st A n c AL X) (hok : st.Ok) {s : ByteArray} (hs : s.size ≤ 100) (hf : find st.files s.data.toList = none) :
    Calls Tryz.prog 16 #[.pointer (some ⟨b, 0, none⟩), .string s] X fun e w' => e = .returned (.int .i64 0) ∧ ∃ k, w' = X.drewN k := by
  obtain ⟨S, h1⟩ := h.drive
  have h2 := loose_any h1 hok s (by simp only [maxLen]; omega)
  rw [show st.looseOf s.data.toList = 0 by unfold St.looseOf; rw [hf]] at h2
  exact h2
theorem tell_missing (h : TellS w0 g b st A n c AL X) (hok : st.Ok) : Calls Tryz.prog 34 #[.agg #[.slice A n c, .int .i64 (st.steps : Int), .bool st.armed, .int .i64 (st.left : Int)]] X fun e w' => ∃ s : ByteArray, e = .returned (.string s) ∧ Hid (s.size ≤ 100) ∧ Hid (nameOk s.data.toList = true) ∧ Hid (find st.files s.data.toList = none) ∧ TellS w0 g b st A n c AL w' := by
  obtain ⟨T, h1⟩ := h.ref
  exact (missing_any h1 hok).mono fun e w' ⟨s, h2, h3, h4, h5, h6⟩ => ⟨s, h2, h3, h4, h5, h.keep h6⟩
set_option maxRecDepth 100000 in
theorem tells_any (h : DriveRep w S b st) (hr : RefRep w T v st) (hok : st.Ok) :
    Calls Tryz.prog 11 #[.pointer (some ⟨b, 0, none⟩), v] w fun e w' => e = .returned (.bool true) ∧ Below w.heap.size w w' := by
  obtain ⟨A, c, rfl, hl, hlc⟩ := refV_of hr
  obtain ⟨n, hnn⟩ : ∃ n, st.files.length = n := ⟨_, rfl⟩
  have HNN := Lib.hid hnn
  have hn := fun W (k : Below w.heap.size w W) => names_any (h.below k) hok
  have HN := Lib.hid hn
  have HOK := Lib.hid hok
  have HD := Lib.hid h
  have HR : Hid (RefRep w T (refV (.slice A st.files.length c) st) st) := hr
  rw [hnn] at HR hlc ⊢
  clear hn hok h hr hl hnn
  go_enter Tryz.func11, Tryz.ntmps11
  go_upto_region 2 with (go_at_call 28; refine (HN.out _ ((Below.refl _ _).alloc (Nat.le_refl _) _)).mono ?_; rintro e w1 ⟨AL, nl, cl, rfl, hnl, hncl, hown, hb1⟩)
  have ht1 : TellS w w.heap.size b st A n c AL w1 :=
    have hbw : Below w.heap.size w w1 := box_trans hb1
    ⟨⟨_, HD.out.below hbw⟩, ⟨_, HR.out.below hbw⟩, (Blk.new w _ _).same (hb1.block _ (by simp)), Rd.own hown, hbw⟩
  obtain rfl : nl = n := by rw [List.length_map] at hnl; exact hnl.symm.trans HNN.out
  clear hown hb1 hnl hncl
  refine wp_region_held_drew (S := TellS w w.heap.size b st A nl c AL) (by kernel_rfl) (by (first | assumption | (exact TellS.drew (by assumption)) | (exact TellS.keep (by assumption) (by assumption)))) (fun hHeld => ?_)
  refine wpAnyH_take (i := 0) (v := ?vr1_0) (Fr.take_at rfl) (by kernel_rfl) (by kernel_rfl) (by kernel_rfl) (fun _ _ _ h => h) (Or.inl ⟨by rfl, ?yr1_0⟩) (by assumption) ?nr1_0
  case yr1_0 => (intro w_ hSw; obtain ⟨q0, q1, q2, q3⟩ := TellS.cells hSw; go_simp; (try with_reducible rfl))
  try simp only [Act.put, List.setIfInBounds_toArray, List.set_cons_zero, List.set_cons_succ]
  refine wpAnyH_take (i := 1) (v := ?vr1_1) (Fr.take_at rfl) (by kernel_rfl) (by kernel_rfl) (by kernel_rfl) (fun _ _ _ h => h) (Or.inl ⟨by rfl, ?yr1_1⟩) (by assumption) ?nr1_1
  case yr1_1 => (intro w_ hSw; obtain ⟨q0, q1, q2, q3⟩ := TellS.cells hSw; go_simp; (try with_reducible rfl))
  try simp only [Act.put, List.setIfInBounds_toArray, List.set_cons_zero, List.set_cons_succ]
  refine wpAnyH_take (i := 2) (v := ?vr1_2) (Fr.take_at rfl) (by kernel_rfl) (by kernel_rfl) (by kernel_rfl) (fun _ _ _ h => h) (Or.inl ⟨by rfl, ?yr1_2⟩) (by assumption) ?nr1_2
  case yr1_2 => (intro w_ hSw; obtain ⟨q0, q1, q2, q3⟩ := TellS.cells hSw; go_simp; (try with_reducible rfl))
  try simp only [Act.put, List.setIfInBounds_toArray, List.set_cons_zero, List.set_cons_succ]
  refine wpAnyH_take (i := 3) (v := ?vr1_3) (Fr.take_at rfl) (by kernel_rfl) (by kernel_rfl) (by kernel_rfl) (fun _ _ _ h => h) (Or.inl ⟨by rfl, ?yr1_3⟩) (by assumption) ?nr1_3
  case yr1_3 => (intro w_ hSw; obtain ⟨q0, q1, q2, q3⟩ := TellS.cells hSw; go_simp; (try with_reducible rfl))
  try simp only [Act.put, List.setIfInBounds_toArray, List.set_cons_zero, List.set_cons_succ]
  refine wpAnyH_take (i := 4) (v := ?vr1_4) (Fr.take_at rfl) (by kernel_rfl) (by kernel_rfl) (by kernel_rfl) (fun _ _ _ h => h) (Or.inl ⟨by rfl, ?yr1_4⟩) (by assumption) ?nr1_4
  case yr1_4 => (intro w_ hSw; obtain ⟨q0, q1, q2, q3⟩ := TellS.cells hSw; go_simp; (try with_reducible rfl))
  try simp only [Act.put, List.setIfInBounds_toArray, List.set_cons_zero, List.set_cons_succ]
  refine wpAnyH_take (i := 5) (v := ?vr1_5) (Fr.take_at rfl) (by kernel_rfl) (by kernel_rfl) (by kernel_rfl) (fun _ _ _ h => h) (Or.inl ⟨by rfl, ?yr1_5⟩) (by assumption) ?nr1_5
  case yr1_5 => (intro w_ hSw; obtain ⟨q0, q1, q2, q3⟩ := TellS.cells hSw; go_simp; (try with_reducible rfl))
  try simp only [Act.put, List.setIfInBounds_toArray, List.set_cons_zero, List.set_cons_succ]
  refine wpAnyH_take (i := 6) (v := ?vr1_6) (Fr.take_at rfl) (by kernel_rfl) (by kernel_rfl) (by kernel_rfl) (fun _ _ _ h => h) (Or.inl ⟨by rfl, ?yr1_6⟩) (by assumption) ?nr1_6
  case yr1_6 => (intro w_ hSw; obtain ⟨q0, q1, q2, q3⟩ := TellS.cells hSw; go_simp; (try with_reducible rfl))
  try simp only [Act.put, List.setIfInBounds_toArray, List.set_cons_zero, List.set_cons_succ]
  refine wpAnyH_take (i := 7) (v := ?vr1_7) (Fr.take_at rfl) (by kernel_rfl) (by kernel_rfl) (by kernel_rfl) (fun _ _ _ h => h) (Or.inl ⟨by rfl, ?yr1_7⟩) (by assumption) ?nr1_7
  case yr1_7 => (intro w_ hSw; obtain ⟨q0, q1, q2, q3⟩ := TellS.cells hSw; go_simp; (try with_reducible rfl))
  try simp only [Act.put, List.setIfInBounds_toArray, List.set_cons_zero, List.set_cons_succ]
  refine wpAnyH_take (i := 9) (v := ?vr1_9) (Fr.take_at rfl) (by kernel_rfl) (by kernel_rfl) (by kernel_rfl) (fun _ _ _ h => h) (Or.inl ⟨by rfl, ?yr1_9⟩) (by assumption) ?nr1_9
  case yr1_9 => (intro w_ hSw; obtain ⟨q0, q1, q2, q3⟩ := TellS.cells hSw; go_simp; (try with_reducible rfl))
  try simp only [Act.put, List.setIfInBounds_toArray, List.set_cons_zero, List.set_cons_succ]
  refine wpAnyH_take (i := 10) (v := ?vr1_10) (Fr.take_at rfl) (by kernel_rfl) (by kernel_rfl) (by kernel_rfl) (fun _ _ _ h => h) (Or.inl ⟨by rfl, ?yr1_10⟩) (by assumption) ?nr1_10
  case yr1_10 => (intro w_ hSw; obtain ⟨q0, q1, q2, q3⟩ := TellS.cells hSw; go_simp; (try with_reducible rfl))
  try simp only [Act.put, List.setIfInBounds_toArray, List.set_cons_zero, List.set_cons_succ]
  refine wpAnyH_ready (rs := [8]) (by kernel_rfl) (by simp) ?_
  refine AllReadyH.cons (Fr.take_at rfl) (fun K hK => ?_) AllReadyH.nil
  go_simp
  (go_at_call 29; obtain ⟨SS, HSS⟩ := hHeld.drive; obtain ⟨mb, Q, hat, _, _⟩ := HSS; refine (steps_any hat).mono ?_; rintro e w2 ⟨rfl, rfl⟩; clear hat)
  try go_wp2_with fail
  refine hK.out _ _ (by (first | assumption | (exact TellS.drew (by assumption)) | (exact TellS.keep (by assumption) (by assumption)))) (fun hHeld => ?_)
  clear hK K
  try simp only [Act.put, List.setIfInBounds_toArray, List.set_cons_zero, List.set_cons_succ]
  refine wpAnyH_take (i := 11) (v := ?vr1_11) (Fr.take_at rfl) (by kernel_rfl) (by kernel_rfl) (by kernel_rfl) (fun _ _ _ h => h) (Or.inl ⟨by rfl, ?yr1_11⟩) (by assumption) ?nr1_11
  case yr1_11 => (intro w_ hSw; obtain ⟨q0, q1, q2, q3⟩ := TellS.cells hSw; go_simp; (try with_reducible rfl))
  try simp only [Act.put, List.setIfInBounds_toArray, List.set_cons_zero, List.set_cons_succ]
  refine wpAnyH_take (i := 12) (v := ?vr1_12) (Fr.take_at rfl) (by kernel_rfl) (by kernel_rfl) (by kernel_rfl) (fun _ _ _ h => h) (Or.inl ⟨by rfl, ?yr1_12⟩) (by assumption) ?nr1_12
  case yr1_12 => (intro w_ hSw; obtain ⟨q0, q1, q2, q3⟩ := TellS.cells hSw; go_simp; (try with_reducible rfl))
  try simp only [Act.put, List.setIfInBounds_toArray, List.set_cons_zero, List.set_cons_succ]
  refine wpAnyH_take (i := 13) (v := ?vr1_13) (Fr.take_at rfl) (by kernel_rfl) (by kernel_rfl) (by kernel_rfl) (fun _ _ _ h => h) (Or.inl ⟨by rfl, ?yr1_13⟩) (by assumption) ?nr1_13
  case yr1_13 => (intro w_ hSw; obtain ⟨q0, q1, q2, q3⟩ := TellS.cells hSw; go_simp; (try with_reducible rfl))
  try simp only [Act.put, List.setIfInBounds_toArray, List.set_cons_zero, List.set_cons_succ]
  refine wpAnyH_take (i := 14) (v := ?vr1_14) (Fr.take_at rfl) (by kernel_rfl) (by kernel_rfl) (by kernel_rfl) (fun _ _ _ h => h) (Or.inl ⟨by rfl, ?yr1_14⟩) (by assumption) ?nr1_14
  case yr1_14 => (intro w_ hSw; obtain ⟨q0, q1, q2, q3⟩ := TellS.cells hSw; go_simp; (try with_reducible rfl))
  try simp only [Act.put, List.setIfInBounds_toArray, List.set_cons_zero, List.set_cons_succ]
  refine wpAnyH_take (i := 16) (v := ?vr1_16) (Fr.take_at rfl) (by kernel_rfl) (by kernel_rfl) (by kernel_rfl) (fun _ _ _ h => h) (Or.inl ⟨by rfl, ?yr1_16⟩) (by assumption) ?nr1_16
  case yr1_16 => (intro w_ hSw; obtain ⟨q0, q1, q2, q3⟩ := TellS.cells hSw; go_simp; (try with_reducible rfl))
  try simp only [Act.put, List.setIfInBounds_toArray, List.set_cons_zero, List.set_cons_succ]
  refine wpAnyH_ready (rs := [15]) (by kernel_rfl) (by simp) ?_
  refine AllReadyH.cons (Fr.take_at rfl) (fun K hK => ?_) AllReadyH.nil
  go_simp
  (go_at_call 30; obtain ⟨SS, HSS⟩ := hHeld.drive; obtain ⟨mb, Q, hat, _, _⟩ := HSS; refine (dead_any hat).mono ?_; rintro e w2 ⟨rfl, rfl⟩; clear hat)
  try go_wp2_with fail
  refine hK.out _ _ (by (first | assumption | (exact TellS.drew (by assumption)) | (exact TellS.keep (by assumption) (by assumption)))) (fun hHeld => ?_)
  clear hK K
  try simp only [Act.put, List.setIfInBounds_toArray, List.set_cons_zero, List.set_cons_succ]
  refine wpAnyH_ready (rs := [17]) (by kernel_rfl) (by simp) ?_
  refine AllReadyH.cons (Fr.take_at rfl) (fun K hK => ?_) AllReadyH.nil
  go_simp
  (go_at_call 31; obtain ⟨TT, HTT⟩ := hHeld.ref; refine (rdead_any HTT).mono ?_; rintro e w5 ⟨rfl, hb5⟩; clear HTT)
  try go_wp2_with fail
  refine hK.out _ _ (by (first | assumption | (exact TellS.drew (by assumption)) | (exact TellS.keep (by assumption) (by assumption)))) (fun hHeld => ?_)
  clear hK K
  try simp only [Act.put, List.setIfInBounds_toArray, List.set_cons_zero, List.set_cons_succ]
  refine wpAnyH_take (i := 18) (v := ?vr1_18) (Fr.take_at rfl) (by kernel_rfl) (by kernel_rfl) (by kernel_rfl) (fun _ _ _ h => h) (Or.inl ⟨by rfl, ?yr1_18⟩) (by assumption) ?nr1_18
  case yr1_18 => (intro w_ hSw; obtain ⟨q0, q1, q2, q3⟩ := TellS.cells hSw; go_simp; (try with_reducible rfl))
  try simp only [Act.put, List.setIfInBounds_toArray, List.set_cons_zero, List.set_cons_succ]
  refine wpAnyH_take (i := 19) (v := ?vr1_19) (Fr.take_at rfl) (by kernel_rfl) (by kernel_rfl) (by kernel_rfl) (fun _ _ _ h => h) (Or.inl ⟨by rfl, ?yr1_19⟩) (by assumption) ?nr1_19
  case yr1_19 => (intro w_ hSw; obtain ⟨q0, q1, q2, q3⟩ := TellS.cells hSw; go_simp; (try with_reducible rfl))
  try simp only [Act.put, List.setIfInBounds_toArray, List.set_cons_zero, List.set_cons_succ]
  refine wpAnyH_done (by kernel_rfl) ?_ _
  clear ht1
  obtain ⟨q0, q1, q2, q3⟩ := TellS.cells hHeld
  go_wp2
  go_loopw [40] (TlInv w w.heap.size b st A nl c AL) (fun x _ => nl - (intOf x).toNat)
  case atStart => exact ⟨0, by omega, rfl, hHeld⟩
  case round =>
    clear hHeld hb5 TT q0 q1 q2 q3
    obtain ⟨i, hi, rfl, hT⟩ := hrel
    by_cases hlt : i < nl
    · obtain ⟨f, hf⟩ : ∃ f, st.files[i]? = some f := ⟨st.files[i]'(by have := HNN.out; omega), List.getElem?_eq_getElem _⟩
      obtain ⟨g2, rfl, hg2, r0, r1, r2⟩ := tell_file hT hf
      obtain ⟨gl, ol, rfl, hgl, n0⟩ := tell_names hT hf
      have HF := Lib.hid hf
      have hsn := name_size HOK.out hf
      have HT7 := hT.keep ((Below.refl _ _).alloc (Nat.le_refl _) (.cells #[.string ⟨f.name.toArray⟩, .string ⟨f.dat.toArray⟩, .int .i64 (f.syn : Int)] 64))
      have hnl9 : nl ≤ 256 := by have := HOK.out.few; have := HNN.out; omega
      have hlt' : (i : Int) < (nl : Int) := by omega
      have HSN := Lib.hid hsn
      obtain ⟨hfd, hfs, _⟩ := HOK.out.file f (List.mem_of_getElem? hf)
      have hwr : IntKind.i64.wrap ((f.dat.length : Int) - (f.syn : Int)) = (f.dat.length : Int) - (f.syn : Int) := by rw [IntKind.wrap_i64]; omega
      clear hf hsn
      go_upto_region 8 with (go_at_call 32; refine (tell_read HT7 HOK.out HF.out HSN.out).mono ?_; rintro e w7 ⟨A2, m2, c2, rfl, hl2, hr2, hb7⟩)
      have HL2 := Lib.hid hl2
      have hR : TellR w w.heap.size b st (some ⟨g2, 0, none⟩) nl c (some ⟨gl, ol, none⟩) f wr.heap.size gl (ol + i) A2 w7 :=
        ⟨HT7.keep hb7, (Blk.new wr _ _).same (hb7.block _ (by simp)), hr2, by have := hb7.size; rw [World.size_alloc] at this; omega, (hb7.cell (p := ⟨gl, ol + i, none⟩) (by simp; omega)).trans ((World.cell?_alloc_lt wr _ ⟨gl, ol + i, none⟩ hgl).trans n0)⟩
      clear hl2 hr2 HT7 r0 r1 r2 n0 hT
      refine wp_region_held_drew (S := TellR w w.heap.size b st (some ⟨g2, 0, none⟩) nl c (some ⟨gl, ol, none⟩) f wr.heap.size gl (ol + i) A2) (by kernel_rfl) (by (first | assumption | (exact TellR.drew (by assumption)) | (exact TellR.drewN (by assumption) _))) (fun hHeld => ?_)
      refine wpAnyH_take (i := 0) (v := ?vr2_0) (Fr.take_at rfl) (by kernel_rfl) (by kernel_rfl) (by kernel_rfl) (fun _ _ _ h => h) (Or.inl ⟨by rfl, ?yr2_0⟩) (by assumption) ?nr2_0
      case yr2_0 => (intro w_ hSw; obtain ⟨q0, q1, q2, q3, q4⟩ := TellR.cells hSw m2 c2 HL2.out; go_simp; (try with_reducible rfl))
      try simp only [Act.put, List.setIfInBounds_toArray, List.set_cons_zero, List.set_cons_succ]
      refine wpAnyH_take (i := 1) (v := ?vr2_1) (Fr.take_at rfl) (by kernel_rfl) (by kernel_rfl) (by kernel_rfl) (fun _ _ _ h => h) (Or.inl ⟨by rfl, ?yr2_1⟩) (by assumption) ?nr2_1
      case yr2_1 => (intro w_ hSw; obtain ⟨q0, q1, q2, q3, q4⟩ := TellR.cells hSw m2 c2 HL2.out; go_simp; (try with_reducible rfl))
      try simp only [Act.put, List.setIfInBounds_toArray, List.set_cons_zero, List.set_cons_succ]
      refine wpAnyH_take (i := 2) (v := ?vr2_2) (Fr.take_at rfl) (by kernel_rfl) (by kernel_rfl) (by kernel_rfl) (fun _ _ _ h => h) (Or.inl ⟨by rfl, ?yr2_2⟩) (by assumption) ?nr2_2
      case yr2_2 => (intro w_ hSw; obtain ⟨q0, q1, q2, q3, q4⟩ := TellR.cells hSw m2 c2 HL2.out; go_simp; (try with_reducible rfl))
      try simp only [Act.put, List.setIfInBounds_toArray, List.set_cons_zero, List.set_cons_succ]
      refine wpAnyH_take (i := 3) (v := ?vr2_3) (Fr.take_at rfl) (by kernel_rfl) (by kernel_rfl) (by kernel_rfl) (fun _ _ _ h => h) (Or.inl ⟨by rfl, ?yr2_3⟩) (by assumption) ?nr2_3
      case yr2_3 => (intro w_ hSw; obtain ⟨q0, q1, q2, q3, q4⟩ := TellR.cells hSw m2 c2 HL2.out; go_simp; (try with_reducible rfl))
      try simp only [Act.put, List.setIfInBounds_toArray, List.set_cons_zero, List.set_cons_succ]
      refine wpAnyH_take (i := 4) (v := ?vr2_4) (Fr.take_at rfl) (by kernel_rfl) (by kernel_rfl) (by kernel_rfl) (fun _ _ _ h => h) (Or.inl ⟨by rfl, ?yr2_4⟩) (by assumption) ?nr2_4
      case yr2_4 => (intro w_ hSw; obtain ⟨q0, q1, q2, q3, q4⟩ := TellR.cells hSw m2 c2 HL2.out; go_simp; (try with_reducible rfl))
      try simp only [Act.put, List.setIfInBounds_toArray, List.set_cons_zero, List.set_cons_succ]
      refine wpAnyH_take (i := 5) (v := ?vr2_5) (Fr.take_at rfl) (by kernel_rfl) (by kernel_rfl) (by kernel_rfl) (fun _ _ _ h => h) (Or.inl ⟨by rfl, ?yr2_5⟩) (by assumption) ?nr2_5
      case yr2_5 => (intro w_ hSw; obtain ⟨q0, q1, q2, q3, q4⟩ := TellR.cells hSw m2 c2 HL2.out; go_simp; (try with_reducible rfl))
      try simp only [Act.put, List.setIfInBounds_toArray, List.set_cons_zero, List.set_cons_succ]
      refine wpAnyH_take (i := 6) (v := ?vr2_6) (Fr.take_at rfl) (by kernel_rfl) (by kernel_rfl) (by kernel_rfl) (fun _ _ _ h => h) (Or.inl ⟨by rfl, ?yr2_6⟩) (by assumption) ?nr2_6
      case yr2_6 => (intro w_ hSw; obtain ⟨q0, q1, q2, q3, q4⟩ := TellR.cells hSw m2 c2 HL2.out; go_simp; (try with_reducible rfl))
      try simp only [Act.put, List.setIfInBounds_toArray, List.set_cons_zero, List.set_cons_succ]
      refine wpAnyH_take (i := 7) (v := ?vr2_7) (Fr.take_at rfl) (by kernel_rfl) (by kernel_rfl) (by kernel_rfl) (fun _ _ _ h => h) (Or.inl ⟨by rfl, ?yr2_7⟩) (by assumption) ?nr2_7
      case yr2_7 => (intro w_ hSw; obtain ⟨q0, q1, q2, q3, q4⟩ := TellR.cells hSw m2 c2 HL2.out; go_simp; (try with_reducible rfl))
      try simp only [Act.put, List.setIfInBounds_toArray, List.set_cons_zero, List.set_cons_succ]
      refine wpAnyH_take (i := 8) (v := ?vr2_8) (Fr.take_at rfl) (by kernel_rfl) (by kernel_rfl) (by kernel_rfl) (fun _ _ _ h => h) (Or.inl ⟨by rfl, ?yr2_8⟩) (by assumption) ?nr2_8
      case yr2_8 => (intro w_ hSw; obtain ⟨q0, q1, q2, q3, q4⟩ := TellR.cells hSw m2 c2 HL2.out; go_simp; (try with_reducible rfl))
      try simp only [Act.put, List.setIfInBounds_toArray, List.set_cons_zero, List.set_cons_succ]
      refine wpAnyH_take (i := 9) (v := ?vr2_9) (Fr.take_at rfl) (by kernel_rfl) (by kernel_rfl) (by kernel_rfl) (fun _ _ _ h => h) (Or.inl ⟨by rfl, ?yr2_9⟩) (by assumption) ?nr2_9
      case yr2_9 => (intro w_ hSw; obtain ⟨q0, q1, q2, q3, q4⟩ := TellR.cells hSw m2 c2 HL2.out; go_simp; (try with_reducible rfl))
      try simp only [Act.put, List.setIfInBounds_toArray, List.set_cons_zero, List.set_cons_succ]
      refine wpAnyH_take (i := 10) (v := ?vr2_10) (Fr.take_at rfl) (by kernel_rfl) (by kernel_rfl) (by kernel_rfl) (fun _ _ _ h => h) (Or.inl ⟨by rfl, ?yr2_10⟩) (by assumption) ?nr2_10
      case yr2_10 => (intro w_ hSw; obtain ⟨q0, q1, q2, q3, q4⟩ := TellR.cells hSw m2 c2 HL2.out; go_simp; (try with_reducible rfl))
      try simp only [Act.put, List.setIfInBounds_toArray, List.set_cons_zero, List.set_cons_succ]
      refine wpAnyH_take (i := 11) (v := ?vr2_11) (Fr.take_at rfl) (by kernel_rfl) (by kernel_rfl) (by kernel_rfl) (fun _ _ _ h => h) (Or.inl ⟨by rfl, ?yr2_11⟩) (by assumption) ?nr2_11
      case yr2_11 => (intro w_ hSw; obtain ⟨q0, q1, q2, q3, q4⟩ := TellR.cells hSw m2 c2 HL2.out; go_simp; (try with_reducible rfl))
      try simp only [Act.put, List.setIfInBounds_toArray, List.set_cons_zero, List.set_cons_succ]
      refine wpAnyH_take (i := 12) (v := ?vr2_12) (Fr.take_at rfl) (by kernel_rfl) (by kernel_rfl) (by kernel_rfl) (fun _ _ _ h => h) (Or.inl ⟨by rfl, ?yr2_12⟩) (by assumption) ?nr2_12
      case yr2_12 => (intro w_ hSw; obtain ⟨q0, q1, q2, q3, q4⟩ := TellR.cells hSw m2 c2 HL2.out; go_simp; (try with_reducible rfl))
      try simp only [Act.put, List.setIfInBounds_toArray, List.set_cons_zero, List.set_cons_succ]
      refine wpAnyH_take (i := 13) (v := ?vr2_13) (Fr.take_at rfl) (by kernel_rfl) (by kernel_rfl) (by kernel_rfl) (fun _ _ _ h => h) (Or.inl ⟨by rfl, ?yr2_13⟩) (by assumption) ?nr2_13
      case yr2_13 => (intro w_ hSw; obtain ⟨q0, q1, q2, q3, q4⟩ := TellR.cells hSw m2 c2 HL2.out; go_simp; (try with_reducible rfl))
      try simp only [Act.put, List.setIfInBounds_toArray, List.set_cons_zero, List.set_cons_succ]
      refine wpAnyH_take (i := 14) (v := ?vr2_14) (Fr.take_at rfl) (by kernel_rfl) (by kernel_rfl) (by kernel_rfl) (fun _ _ _ h => h) (Or.inl ⟨by rfl, ?yr2_14⟩) (by assumption) ?nr2_14
      case yr2_14 => (intro w_ hSw; obtain ⟨q0, q1, q2, q3, q4⟩ := TellR.cells hSw m2 c2 HL2.out; go_simp; (try with_reducible rfl))
      try simp only [Act.put, List.setIfInBounds_toArray, List.set_cons_zero, List.set_cons_succ]
      refine wpAnyH_take (i := 15) (v := ?vr2_15) (Fr.take_at rfl) (by kernel_rfl) (by kernel_rfl) (by kernel_rfl) (fun _ _ _ h => h) (Or.inl ⟨by rfl, ?yr2_15⟩) (by assumption) ?nr2_15
      case yr2_15 => (intro w_ hSw; obtain ⟨q0, q1, q2, q3, q4⟩ := TellR.cells hSw m2 c2 HL2.out; go_simp; (try with_reducible rfl))
      try simp only [Act.put, List.setIfInBounds_toArray, List.set_cons_zero, List.set_cons_succ]
      refine wpAnyH_take (i := 16) (v := ?vr2_16) (Fr.take_at rfl) (by kernel_rfl) (by kernel_rfl) (by kernel_rfl) (fun _ _ _ h => h) (Or.inl ⟨by rfl, ?yr2_16⟩) (by assumption) ?nr2_16
      case yr2_16 => (intro w_ hSw; obtain ⟨q0, q1, q2, q3, q4⟩ := TellR.cells hSw m2 c2 HL2.out; go_simp; (try with_reducible rfl))
      try simp only [Act.put, List.setIfInBounds_toArray, List.set_cons_zero, List.set_cons_succ]
      refine wpAnyH_take (i := 17) (v := ?vr2_17) (Fr.take_at rfl) (by kernel_rfl) (by kernel_rfl) (by kernel_rfl) (fun _ _ _ h => h) (Or.inl ⟨by rfl, ?yr2_17⟩) (by assumption) ?nr2_17
      case yr2_17 => (intro w_ hSw; obtain ⟨q0, q1, q2, q3, q4⟩ := TellR.cells hSw m2 c2 HL2.out; go_simp; (try with_reducible rfl))
      try simp only [Act.put, List.setIfInBounds_toArray, List.set_cons_zero, List.set_cons_succ]
      refine wpAnyH_take (i := 18) (v := ?vr2_18) (Fr.take_at rfl) (by kernel_rfl) (by kernel_rfl) (by kernel_rfl) (fun _ _ _ h => h) (Or.inl ⟨by rfl, ?yr2_18⟩) (by assumption) ?nr2_18
      case yr2_18 => (intro w_ hSw; obtain ⟨q0, q1, q2, q3, q4⟩ := TellR.cells hSw m2 c2 HL2.out; go_simp; (try with_reducible rfl))
      try simp only [Act.put, List.setIfInBounds_toArray, List.set_cons_zero, List.set_cons_succ]
      refine wpAnyH_take (i := 19) (v := ?vr2_19) (Fr.take_at rfl) (by kernel_rfl) (by kernel_rfl) (by kernel_rfl) (fun _ _ _ h => h) (Or.inl ⟨by rfl, ?yr2_19⟩) (by assumption) ?nr2_19
      case yr2_19 => (intro w_ hSw; obtain ⟨q0, q1, q2, q3, q4⟩ := TellR.cells hSw m2 c2 HL2.out; go_simp; (try with_reducible rfl))
      try simp only [Act.put, List.setIfInBounds_toArray, List.set_cons_zero, List.set_cons_succ]
      refine wpAnyH_take (i := 20) (v := ?vr2_20) (Fr.take_at rfl) (by kernel_rfl) (by kernel_rfl) (by kernel_rfl) (fun _ _ _ h => h) (Or.inl ⟨by rfl, ?yr2_20⟩) (by assumption) ?nr2_20
      case yr2_20 => (intro w_ hSw; obtain ⟨q0, q1, q2, q3, q4⟩ := TellR.cells hSw m2 c2 HL2.out; go_simp; (try with_reducible rfl))
      try simp only [Act.put, List.setIfInBounds_toArray, List.set_cons_zero, List.set_cons_succ]
      refine wpAnyH_take (i := 21) (v := ?vr2_21) (Fr.take_at rfl) (by kernel_rfl) (by kernel_rfl) (by kernel_rfl) (fun _ _ _ h => h) (Or.inl ⟨by rfl, ?yr2_21⟩) (by assumption) ?nr2_21
      case yr2_21 => (intro w_ hSw; obtain ⟨q0, q1, q2, q3, q4⟩ := TellR.cells hSw m2 c2 HL2.out; go_simp; (try with_reducible rfl))
      try simp only [Act.put, List.setIfInBounds_toArray, List.set_cons_zero, List.set_cons_succ]
      refine wpAnyH_take (i := 23) (v := ?vr2_23) (Fr.take_at rfl) (by kernel_rfl) (by kernel_rfl) (by kernel_rfl) (fun _ _ _ h => h) (Or.inl ⟨by rfl, ?yr2_23⟩) (by assumption) ?nr2_23
      case yr2_23 => (intro w_ hSw; obtain ⟨q0, q1, q2, q3, q4⟩ := TellR.cells hSw m2 c2 HL2.out; go_simp; (try with_reducible rfl))
      try simp only [Act.put, List.setIfInBounds_toArray, List.set_cons_zero, List.set_cons_succ]
      refine wpAnyH_take (i := 24) (v := ?vr2_24) (Fr.take_at rfl) (by kernel_rfl) (by kernel_rfl) (by kernel_rfl) (fun _ _ _ h => h) (Or.inl ⟨by rfl, ?yr2_24⟩) (by assumption) ?nr2_24
      case yr2_24 => (intro w_ hSw; obtain ⟨q0, q1, q2, q3, q4⟩ := TellR.cells hSw m2 c2 HL2.out; go_simp; (try with_reducible rfl))
      try simp only [Act.put, List.setIfInBounds_toArray, List.set_cons_zero, List.set_cons_succ]
      refine wpAnyH_take (i := 25) (v := ?vr2_25) (Fr.take_at rfl) (by kernel_rfl) (by kernel_rfl) (by kernel_rfl) (fun _ _ _ h => h) (Or.inl ⟨by rfl, ?yr2_25⟩) (by assumption) ?nr2_25
      case yr2_25 => (intro w_ hSw; obtain ⟨q0, q1, q2, q3, q4⟩ := TellR.cells hSw m2 c2 HL2.out; go_simp; (try with_reducible rfl))
      try simp only [Act.put, List.setIfInBounds_toArray, List.set_cons_zero, List.set_cons_succ]
      refine wpAnyH_ready (rs := [22]) (by kernel_rfl) (by simp) ?_
      refine AllReadyH.cons (Fr.take_at rfl) (fun K hK => ?_) AllReadyH.nil
      go_simp
      (go_at_call 33; refine (tell_size hHeld.t HOK.out HF.out HSN.out).mono ?_; rintro e w8 ⟨rfl, rfl⟩)
      try go_wp2_with fail
      refine hK.out _ _ (by (first | assumption | (exact TellR.drew (by assumption)) | (exact TellR.drewN (by assumption) _))) (fun hHeld => ?_)
      clear hK K
      try simp only [Act.put, List.setIfInBounds_toArray, List.set_cons_zero, List.set_cons_succ]
      refine wpAnyH_take (i := 26) (v := ?vr2_26) (Fr.take_at rfl) (by kernel_rfl) (by kernel_rfl) (by kernel_rfl) (fun _ _ _ h => h) (Or.inl ⟨by rfl, ?yr2_26⟩) (by assumption) ?nr2_26
      case yr2_26 => (intro w_ hSw; obtain ⟨q0, q1, q2, q3, q4⟩ := TellR.cells hSw m2 c2 HL2.out; go_simp; (try with_reducible rfl))
      try simp only [Act.put, List.setIfInBounds_toArray, List.set_cons_zero, List.set_cons_succ]
      refine wpAnyH_take (i := 27) (v := ?vr2_27) (Fr.take_at rfl) (by kernel_rfl) (by kernel_rfl) (by kernel_rfl) (fun _ _ _ h => h) (Or.inl ⟨by rfl, ?yr2_27⟩) (by assumption) ?nr2_27
      case yr2_27 => (intro w_ hSw; obtain ⟨q0, q1, q2, q3, q4⟩ := TellR.cells hSw m2 c2 HL2.out; go_simp; (try with_reducible rfl))
      try simp only [Act.put, List.setIfInBounds_toArray, List.set_cons_zero, List.set_cons_succ]
      refine wpAnyH_take (i := 28) (v := ?vr2_28) (Fr.take_at rfl) (by kernel_rfl) (by kernel_rfl) (by kernel_rfl) (fun _ _ _ h => h) (Or.inl ⟨by rfl, ?yr2_28⟩) (by assumption) ?nr2_28
      case yr2_28 => (intro w_ hSw; obtain ⟨q0, q1, q2, q3, q4⟩ := TellR.cells hSw m2 c2 HL2.out; go_simp; (try with_reducible rfl))
      try simp only [Act.put, List.setIfInBounds_toArray, List.set_cons_zero, List.set_cons_succ]
      refine wpAnyH_take (i := 29) (v := ?vr2_29) (Fr.take_at rfl) (by kernel_rfl) (by kernel_rfl) (by kernel_rfl) (fun _ _ _ h => h) (Or.inl ⟨by rfl, ?yr2_29⟩) (by assumption) ?nr2_29
      case yr2_29 => (intro w_ hSw; obtain ⟨q0, q1, q2, q3, q4⟩ := TellR.cells hSw m2 c2 HL2.out; go_simp; (try with_reducible rfl))
      try simp only [Act.put, List.setIfInBounds_toArray, List.set_cons_zero, List.set_cons_succ]
      refine wpAnyH_take (i := 30) (v := ?vr2_30) (Fr.take_at rfl) (by kernel_rfl) (by kernel_rfl) (by kernel_rfl) (fun _ _ _ h => h) (Or.inl ⟨by rfl, ?yr2_30⟩) (by assumption) ?nr2_30
      case yr2_30 => (intro w_ hSw; obtain ⟨q0, q1, q2, q3, q4⟩ := TellR.cells hSw m2 c2 HL2.out; go_simp; (try with_reducible rfl))
      try simp only [Act.put, List.setIfInBounds_toArray, List.set_cons_zero, List.set_cons_succ]
      refine wpAnyH_take (i := 31) (v := ?vr2_31) (Fr.take_at rfl) (by kernel_rfl) (by kernel_rfl) (by kernel_rfl) (fun _ _ _ h => h) (Or.inl ⟨by rfl, ?yr2_31⟩) (by assumption) ?nr2_31
      case yr2_31 => (intro w_ hSw; obtain ⟨q0, q1, q2, q3, q4⟩ := TellR.cells hSw m2 c2 HL2.out; go_simp; (try with_reducible rfl))
      try simp only [Act.put, List.setIfInBounds_toArray, List.set_cons_zero, List.set_cons_succ]
      refine wpAnyH_take (i := 33) (v := ?vr2_33) (Fr.take_at rfl) (by kernel_rfl) (by kernel_rfl) (by kernel_rfl) (fun _ _ _ h => h) (Or.inl ⟨by rfl, ?yr2_33⟩) (by assumption) ?nr2_33
      case yr2_33 => (intro w_ hSw; obtain ⟨q0, q1, q2, q3, q4⟩ := TellR.cells hSw m2 c2 HL2.out; go_simp; (try with_reducible rfl))
      try simp only [Act.put, List.setIfInBounds_toArray, List.set_cons_zero, List.set_cons_succ]
      refine wpAnyH_take (i := 34) (v := ?vr2_34) (Fr.take_at rfl) (by kernel_rfl) (by kernel_rfl) (by kernel_rfl) (fun _ _ _ h => h) (Or.inl ⟨by rfl, ?yr2_34⟩) (by assumption) ?nr2_34
      case yr2_34 => (intro w_ hSw; obtain ⟨q0, q1, q2, q3, q4⟩ := TellR.cells hSw m2 c2 HL2.out; go_simp; (try with_reducible rfl))
      try simp only [Act.put, List.setIfInBounds_toArray, List.set_cons_zero, List.set_cons_succ]
      refine wpAnyH_take (i := 35) (v := ?vr2_35) (Fr.take_at rfl) (by kernel_rfl) (by kernel_rfl) (by kernel_rfl) (fun _ _ _ h => h) (Or.inl ⟨by rfl, ?yr2_35⟩) (by assumption) ?nr2_35
      case yr2_35 => (intro w_ hSw; obtain ⟨q0, q1, q2, q3, q4⟩ := TellR.cells hSw m2 c2 HL2.out; go_simp; (try with_reducible rfl))
      try simp only [Act.put, List.setIfInBounds_toArray, List.set_cons_zero, List.set_cons_succ]
      refine wpAnyH_take (i := 36) (v := ?vr2_36) (Fr.take_at rfl) (by kernel_rfl) (by kernel_rfl) (by kernel_rfl) (fun _ _ _ h => h) (Or.inl ⟨by rfl, ?yr2_36⟩) (by assumption) ?nr2_36
      case yr2_36 => (intro w_ hSw; obtain ⟨q0, q1, q2, q3, q4⟩ := TellR.cells hSw m2 c2 HL2.out; go_simp; (try with_reducible rfl))
      try simp only [Act.put, List.setIfInBounds_toArray, List.set_cons_zero, List.set_cons_succ]
      refine wpAnyH_take (i := 37) (v := ?vr2_37) (Fr.take_at rfl) (by kernel_rfl) (by kernel_rfl) (by kernel_rfl) (fun _ _ _ h => h) (Or.inl ⟨by rfl, ?yr2_37⟩) (by assumption) ?nr2_37
      case yr2_37 => (intro w_ hSw; obtain ⟨q0, q1, q2, q3, q4⟩ := TellR.cells hSw m2 c2 HL2.out; go_simp; (try with_reducible rfl))
      try simp only [Act.put, List.setIfInBounds_toArray, List.set_cons_zero, List.set_cons_succ]
      refine wpAnyH_take (i := 38) (v := ?vr2_38) (Fr.take_at rfl) (by kernel_rfl) (by kernel_rfl) (by kernel_rfl) (fun _ _ _ h => h) (Or.inl ⟨by rfl, ?yr2_38⟩) (by assumption) ?nr2_38
      case yr2_38 => (intro w_ hSw; obtain ⟨q0, q1, q2, q3, q4⟩ := TellR.cells hSw m2 c2 HL2.out; go_simp; (try with_reducible rfl))
      try simp only [Act.put, List.setIfInBounds_toArray, List.set_cons_zero, List.set_cons_succ]
      refine wpAnyH_ready (rs := [32]) (by kernel_rfl) (by simp) ?_
      refine AllReadyH.cons (Fr.take_at rfl) (fun K hK => ?_) AllReadyH.nil
      go_simp
      (go_at_call 16; refine (tell_loose hHeld.t HOK.out HF.out HSN.out).mono ?_; rintro e w8 ⟨rfl, k8, rfl⟩)
      try go_wp2_with fail
      refine hK.out _ _ (by (first | assumption | (exact TellR.drew (by assumption)) | (exact TellR.drewN (by assumption) _))) (fun hHeld => ?_)
      clear hK K
      try simp only [Act.put, List.setIfInBounds_toArray, List.set_cons_zero, List.set_cons_succ]
      refine wpAnyH_take (i := 39) (v := ?vr2_39) (Fr.take_at rfl) (by kernel_rfl) (by kernel_rfl) (by kernel_rfl) (fun _ _ _ h => h) (Or.inl ⟨by rfl, ?yr2_39⟩) (by assumption) ?nr2_39
      case yr2_39 => (intro w_ hSw; obtain ⟨q0, q1, q2, q3, q4⟩ := TellR.cells hSw m2 c2 HL2.out; go_simp; (try with_reducible rfl))
      try simp only [Act.put, List.setIfInBounds_toArray, List.set_cons_zero, List.set_cons_succ]
      refine wpAnyH_take (i := 40) (v := ?vr2_40) (Fr.take_at rfl) (by kernel_rfl) (by kernel_rfl) (by kernel_rfl) (fun _ _ _ h => h) (Or.inl ⟨by rfl, ?yr2_40⟩) (by assumption) ?nr2_40
      case yr2_40 => (intro w_ hSw; obtain ⟨q0, q1, q2, q3, q4⟩ := TellR.cells hSw m2 c2 HL2.out; go_simp; (try with_reducible rfl))
      try simp only [Act.put, List.setIfInBounds_toArray, List.set_cons_zero, List.set_cons_succ]
      refine wpAnyH_done (by kernel_rfl) ?_ _
      clear hwr
      go_wp2
      go_roundw
      case rel => exact ⟨i + 1, by omega, by go_num, hHeld.t⟩
      case measure => simp [intOf]; omega
    · obtain rfl : i = nl := by omega
      obtain ⟨q0, q1, q2, q3⟩ := TellS.cells hT
      go_wp2_with (first
        | (go_at_call 34; refine (tell_missing hT HOK.out).mono ?_; rintro e w8 ⟨sm, rfl, hsm, hnm, hfm, hT8⟩)
        | (go_at_call 32; (with_reducible refine (tell_miss_read hT8 hsm.out hnm.out hfm.out).mono ?_); rintro e w9 ⟨rfl, rfl⟩)
        | (go_at_call 32; (with_reducible refine (read_bad b _ ⟨#[66, 97, 100]⟩ (by decide) (by decide)).mono ?_); rintro e w9 ⟨rfl, rfl⟩)
        | (go_at_call 33; refine (tell_bad_size hT8 HOK.out).mono ?_; rintro e w9 ⟨rfl, rfl⟩)
        | (go_at_call 16; refine (tell_miss_loose hT8 HOK.out hsm.out hfm.out).mono ?_; rintro e w9 ⟨rfl, k9, rfl⟩))
      go_ret
      exact ⟨rfl, below_drewN hT8.bel k9⟩
end
end Dr
end Go.Proofs.YtbfmjonabndhaaaGreatDoor
