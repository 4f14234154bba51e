/-
  WHAT IS PROVED: (1) (1) what a log's Segment, noted and Segments do. CONDITIONS: the log and its drive stand in memory as told; the library's variables lie as laid. (2) what payloadsOf answers, and plain facts on the numbers and the payloads of a drive's segments. CONDITIONS: the log and its drive stand in memory as told; the library's variables lie as laid.
-/
import Derived.Test.YtbfmjonabndhaaaGreatDoorQWNames
import Derived.Test.YtbfmjonabndhaaaGreatDoorQLBase
import Derived.Test.YtbfmjonabndhaaaGreatDoorQWalkH
namespace Go.Proofs.YtbfmjonabndhaaaGreatDoor
open Go Go.RowKit Go.Maps Go.Proofs.YtbfmjonabndhaaaGreatDoor.Fr Go.Proofs.YtbfmjonabndhaaaGreatDoor.Dr
namespace Wl

/-- BLOCK b IS A LOG on the drive in block d. -/
def LogAt (w : World) (b d : Nat) (g : Int) (dead : Bool) : Prop := Blk w b 67 #[.pointer (some ⟨d, 0, none⟩), .int .i64 g, .bool dead]
section
variable {w w' : World} {b d : Nat} {g : Int} {dead : Bool}
theorem LogAt.c0 (h : LogAt w b d g dead) : w.cell? ⟨b, 0, none⟩ = some (.pointer (some ⟨d, 0, none⟩)) := h.cell 0
theorem LogAt.c1 (h : LogAt w b d g dead) : w.cell? ⟨b, 1, none⟩ = some (.int .i64 g) := h.cell 1
theorem LogAt.c2 (h : LogAt w b d g dead) : w.cell? ⟨b, 2, none⟩ = some (.bool dead) := h.cell 2
theorem segment_any (h : LogAt w b d g dead) :
    Calls Tryz.prog 14 #[.pointer (some ⟨b, 0, none⟩)] w fun e w' => e = .returned (.int .i64 g) ∧ w = w' := by
  have c1 := h.c1
  go_enter Tryz.func14, Tryz.ntmps14
  go_wp2
  go_ret
  exact ⟨rfl, rfl⟩
theorem noted_no (e : Int) (he : e ≠ 6) (w : World) :
    Calls Tryz.prog 38 #[.pointer (some ⟨b, 0, none⟩), .int .i64 e] w fun x w' => x = .returned (.int .i64 e) ∧ w = w' := by
  have e1 : (e == 6) = false := by rw [beq_eq_false_iff_ne]; exact he
  go_enter Tryz.func38, Tryz.ntmps38
  go_wp2
  go_ret
  exact ⟨rfl, rfl⟩
theorem noted_yes (h : LogAt w b d g dead) :
    Calls Tryz.prog 38 #[.pointer (some ⟨b, 0, none⟩), .int .i64 6] w fun x w' => x = .returned (.int .i64 6) ∧ w' = w.setCell ⟨b, 2, none⟩ (.bool true) := by
  have c2 := h.c2
  have f2 : w.frozen? ⟨b, 2, none⟩ = false := h.frozen 2
  go_enter Tryz.func38, Tryz.ntmps38
  go_wp2
  go_ret
  exact ⟨rfl, rfl⟩
end

def ints (l : List Int) : List Value := l.map fun n => .int .i64 n
/-- The numbers of all segments. -/
noncomputable def segs (l : List Fl) : List Int := (l.map fun f => num f.name).filter fun n => decide (0 < n)
theorem segs_snoc_yes {l : List Fl} {i : Nat} {f : Fl} (h : l[i]? = some f) (hp : 0 < num f.name) : ints (segs (l.take (i + 1))) = ints (segs (l.take i)) ++ [.int .i64 (num f.name)] := by
  rw [List.take_add_one, h]
  simp [segs, ints, hp]
theorem segs_snoc_no {l : List Fl} {i : Nat} {f : Fl} (h : l[i]? = some f) (hp : num f.name = 0) : ints (segs (l.take (i + 1))) = ints (segs (l.take i)) := by
  rw [List.take_add_one, h]
  simp [segs, ints, hp]
theorem ints_len (l : List Int) : (ints l).length = l.length := List.length_map _
theorem info_int : (Tryz.prog.info? 3).map (fun i => (i.zero, i.size, i.bytes)) = some (some (.int .i64 0), 1, 8) := by kernel_rfl
theorem name_size {st : St} (hok : st.Ok) {f : Fl} {i : Nat} (hi : st.files[i]? = some f) : (⟨f.name.toArray⟩ : ByteArray).size ≤ 281474976710656 := by
  have := (hok.file _ (List.mem_of_getElem? hi)).2.2
  simp only [nameOk, Bool.and_eq_true, decide_eq_true_eq] at this
  show f.name.toArray.size ≤ _
  simp only [List.size_toArray]
  omega
theorem name_at {X : World} {l : List Fl} {A : Option Addr} (h : Rd X A ((l.map (·.name)).map encStr)) {i : Nat} {f : Fl} (hi : l[i]? = some f) : ∃ gl ol, A = some ⟨gl, ol, none⟩ ∧ gl < X.heap.size ∧ X.cell? ⟨gl, ol + i, none⟩ = some (.string ⟨f.name.toArray⟩) := by
  have hlt : i < l.length := (List.getElem?_eq_some_iff.1 hi).1
  obtain ⟨gl, o, e, h1, h2⟩ := h.at_ (i := i) (by rw [List.length_map, List.length_map]; exact hlt)
  refine ⟨gl, o, e, h1, h2.trans ?_⟩
  simp only [List.getElem_map, Option.some.injEq]
  rw [(List.getElem?_eq_some_iff.1 hi).2]
/-- A list of numbers, in a new row. -/
def IntsRet (w : World) (l : List Int) (e : Ending) (w' : World) : Prop :=
  ∃ A n c, e = .returned (.slice A n c) ∧ l.length = n ∧ n ≤ c ∧ w'.ownsRow w.heap.size 3 1 (.slice A n c) n (ints l) ∧ Below w.heap.size w w'
/-- Where the loop over the names stands. -/
def SgInv (w1 : World) (fs : List Fl) (nl : Nat) (v x : Value) (wr : World) : Prop :=
  ∃ (i j c : Nat) (A : Option Addr), i ≤ nl ∧ x = .int .i64 (i : Int) ∧ v = .slice A j c ∧ j ≤ i ∧ j ≤ c ∧ Hid (wr.ownsRow w1.heap.size 3 1 (.slice A j c) j (ints (segs (fs.take i))) ∧ (segs (fs.take i)).length = j ∧ Below w1.heap.size w1 wr)
set_option maxHeartbeats 1600000 in
theorem segments_any {B : Nat} {w : World} {S : Nat → Prop} {b d : Nat} {g : Int} {dead : Bool} {st : St} (h : DriveRep w S d st) (hok : st.Ok) (hl : LogAt w b d g dead) (hL : Lb B w) :
    Calls Tryz.prog 24 #[.pointer (some ⟨b, 0, none⟩)] w (IntsRet w (segs st.files)) := by
  have c0 := hl.c0
  have HN := Lib.hid (names_any h hok)
  have HOK := Lib.hid hok
  have HL := Lib.hid hL
  obtain ⟨i3, hi3, hv, hv1, hv2⟩ := info_parts info_int
  obtain ⟨fs, hfs⟩ : ∃ fs, fs = st.files := ⟨_, rfl⟩
  have HFS := Lib.hid hfs
  have hfw : fs.length ≤ 256 := by rw [hfs]; exact hok.few
  have HSZ := Lib.hid (fun (f : Fl) (i : Nat) (hi : fs[i]? = some f) => name_size (st := st) hok (f := f) (i := i) (by rw [← hfs]; exact hi))
  rw [← hfs] at HN ⊢
  clear hfs h hok hL hl
  go_enter Tryz.func24, Tryz.ntmps24
  go_wp2_with (go_at_call 28; refine HN.out.mono ?_; rintro e w1 ⟨AL, nl, cl, rfl, hnl, hncl, hown, hb1⟩)
  have hrd := Rd.own hown
  rw [List.length_map] at hnl
  have HRD := Lib.hid hrd
  have HB1 := Lib.hid hb1
  have hnl2 : nl ≤ 256 := by omega
  clear hown hrd hb1 HN c0
  go_loopw [3, 13] (SgInv w1 fs nl) (fun _ x _ => nl - (intOf x).toNat)
  case atStart => exact ⟨0, 0, 0, none, by omega, rfl, rfl, by omega, by omega, ⟨World.ownsRow_nil _ _ _ _, rfl, Below.refl _ _⟩⟩
  case round =>
    obtain ⟨i, j, c, A, hi, rfl, rfl, hji, hjc, HK⟩ := hrel
    by_cases hlt : i < nl
    · obtain ⟨f, hf⟩ : ∃ f, fs[i]? = some f := ⟨fs[i]'(by omega), List.getElem?_eq_getElem _⟩
      obtain ⟨gl, ol, rfl, hgl, q0⟩ := name_at HRD.out hf
      have q1 : wr.cell? ⟨gl, ol + i, none⟩ = some (.string ⟨f.name.toArray⟩) := (HK.out.2.2.cell (p := ⟨gl, ol + i, none⟩) hgl).trans q0
      have hlt' : (i : Int) < (nl : Int) := by omega
      have hbw := HB1.out.trans (HK.out.2.2.mono HB1.out.size)
      have hLw := HL.out.below (hbw.mono HL.out.up)
      have hC := numberOf_any ⟨f.name.toArray⟩ (HSZ.out f i hf) hLw
      have hs : (⟨f.name.toArray⟩ : ByteArray).data.toList = f.name := by simp
      rw [hs] at hC
      obtain ⟨z, hz⟩ : ∃ z, z = num f.name := ⟨_, rfl⟩
      have HC := Lib.hid hC
      rw [← hz] at HC
      have HZ := Lib.hid hz
      have HF := Lib.hid hf
      have HBW := Lib.hid hbw
      clear hC hbw hLw hs hf q0
      by_cases hzp : 0 < z
      · clear hz
        go_wp2_with (first
          | (go_at_call 53; refine HC.out.mono ?_; rintro e w2 ⟨rfl, hb2⟩; have HB2 := Lib.hid hb2; clear hb2)
          | (at_builtin; refine wpList_app _ rfl (.tmp 21) (.tmp 23) _ rfl w1.heap.size 3 i3 _ 8 Tryz.underlying22 hi3 hv hv1 hv2 rfl (.slice A j c) j (ints (segs (fs.take i))) rfl ((own_below HK.out.1 HB2.out (Nat.le_refl _)).alloc _) (some ⟨w2.heap.size, 0, none⟩) 1 1 [_] rfl rfl (Rd.one _ _ _ _ _ rfl) (by intro u hu; simp at hu; subst hu; rfl) (j + 1) rfl (by unfold maxLen; omega) (by omega) (by have := HK.out.2.2.size; have := HB2.out.size; simp; omega) ?_; intro A8 c8 w6 hown8 hb8 hg8 _))
        go_roundw
        case rel =>
          refine ⟨i + 1, j + 1, c8, A8, by omega, by go_num, rfl, by omega, own_cap hown8, ?_, ?_, ?_⟩
          · rw [segs_snoc_yes HF.out (by rw [← HZ.out]; exact hzp), ← HZ.out]; exact hown8
          · rw [← ints_len, segs_snoc_yes HF.out (by rw [← HZ.out]; exact hzp), List.length_append, ints_len, HK.out.2.1]; rfl
          · exact ((HK.out.2.2.trans (HB2.out.mono HK.out.2.2.size)).alloc (Nat.le_trans HK.out.2.2.size HB2.out.size) _).trans hb8
        case measure => simp [intOf]; omega
      · have hz0 : z = 0 := by
          rcases num_cases f.name with ⟨h, _⟩ | ⟨h, _⟩
          · rw [hz, h]
          · rw [← hz] at h; omega
        subst hz0
        clear hz
        go_wp2_with (go_at_call 53; refine HC.out.mono ?_; rintro e w2 ⟨rfl, hb2⟩; have HB2 := Lib.hid hb2; clear hb2)
        go_roundw
        case rel =>
          have e1 : ints (segs (fs.take (i + 1))) = ints (segs (fs.take i)) := segs_snoc_no HF.out HZ.out.symm
          have e2 : (segs (fs.take (i + 1))).length = (segs (fs.take i)).length := by rw [← ints_len, e1, ints_len]
          refine ⟨i + 1, j, c, A, by omega, by go_num, rfl, by omega, hjc, ?_, ?_, ?_⟩
          · rw [e1]; exact own_below HK.out.1 HB2.out (Nat.le_refl _)
          · rw [e2]; exact HK.out.2.1
          · exact HK.out.2.2.trans (HB2.out.mono HK.out.2.2.size)
        case measure => simp [intOf]; omega
    · obtain rfl : i = nl := by omega
      have hlt' : ¬ (i : Int) < (i : Int) := by omega
      go_wp2
      go_ret
      have e1 : fs.take i = fs := List.take_of_length_le (by omega)
      have HK' := HK.out
      rw [e1] at HK'
      exact ⟨_, _, _, rfl, HK'.2.1, hjc, own_mono HK'.1 HB1.out.size, HB1.out.trans (HK'.2.2.mono HB1.out.size)⟩

end Wl
end Go.Proofs.YtbfmjonabndhaaaGreatDoor
namespace Go.Proofs.YtbfmjonabndhaaaGreatDoor
open Go Go.RowKit Go.Maps Go.Proofs.YtbfmjonabndhaaaGreatDoor.Fr Go.Proofs.YtbfmjonabndhaaaGreatDoor.Dr
namespace Wl

/-- The payloads of a segment. -/
def payOf (l : List Fl) (n : Int) : List Bs := match find l (seg n) with
  | some f => (scan f.dat).1
  | none => []
/-- A list of payloads in new memory. -/
def PayRet (w : World) (l : List Bs) (e : Ending) (w' : World) : Prop :=
  ∃ A k c vs, e = .returned (.slice A k c) ∧ l.length = k ∧ k ≤ c ∧ w'.ownsRow w.heap.size 28 1 (.slice A k c) k vs ∧ OwnL w' w.heap.size vs l ∧ Below w.heap.size w w'
theorem ownL_mono {w : World} {B B' : Nat} {vs : List Value} {ls : List Bs} (h : OwnL w B vs ls) (hB : B' ≤ B) : OwnL w B' vs ls :=
  ⟨h.1, fun i v l h1 h2 => let ⟨b, a1, a2, a3⟩ := h.2 i v l h1 h2; ⟨b, Nat.le_trans hB a1, a2, a3⟩⟩
theorem PayRet.on {w w1 w' : World} {l : List Bs} {e : Ending} (hb : Below w.heap.size w w1) (h : PayRet w1 l e w') : PayRet w l e w' := by
  obtain ⟨A, k, c, vs, h1, h2, h3, h4, h5, h6⟩ := h
  exact ⟨A, k, c, vs, h1, h2, h3, own_mono h4 hb.size, ownL_mono h5 hb.size, hb.trans (h6.mono hb.size)⟩
/-- One list behind another. -/
theorem ownL_join {w : World} {B B' : Nat} {vs us : List Value} {ls ms : List Bs} (h : OwnL w B vs ls) (k : OwnL w B' us ms) (hB : B ≤ B') (hd : ∀ (u : Value) (q : Nat), u ∈ vs → u.ownBlock = some q → q < B') : OwnL w B (vs ++ us) (ls ++ ms) := by
  refine ⟨by rw [List.length_append, List.length_append, h.1, k.1], fun i v l hv hl => ?_⟩
  rcases Nat.lt_or_ge i vs.length with hi | hi
  · rw [List.getElem?_append_left hi] at hv
    rw [List.getElem?_append_left (by rw [← h.1]; exact hi)] at hl
    obtain ⟨b, h1, h2, h3⟩ := h.2 i v l hv hl
    refine ⟨b, h1, h2, fun j u q hj hu hq => h3 j u q hj ?_ hq⟩
    rwa [List.getElem?_append_left (by omega)] at hu
  · rw [List.getElem?_append_right hi] at hv
    rw [List.getElem?_append_right (by rw [← h.1]; exact hi), ← h.1] at hl
    obtain ⟨b, h1, h2, h3⟩ := k.2 _ v l hv hl
    refine ⟨b, Nat.le_trans hB h1, h2, fun j u q hj hu hq => ?_⟩
    rcases Nat.lt_or_ge j vs.length with hj2 | hj2
    · rw [List.getElem?_append_left hj2] at hu
      exact Nat.lt_of_lt_of_le (hd u q (List.mem_of_getElem? hu) hq) h1
    · rw [List.getElem?_append_right hj2] at hu
      exact h3 _ u q (by omega) hu hq
theorem seg_size (n : Int) : (⟨(seg n).toArray⟩ : ByteArray).size ≤ maxLen := by
  rw [bytes_size]
  by_cases h : 1 ≤ n ∧ n ≤ 999999
  · rw [seg_len h.1 h.2]; decide
  · rw [seg_out h]; decide
set_option maxHeartbeats 1600000 in
theorem payloadsOf_any {B : Nat} {w : World} {S : Nat → Prop} {d : Nat} {st : St} (h : DriveRep w S d st) (hok : st.Ok) (hL : Lb B w) (n : Int) {f : Fl} (hf : find st.files (seg n) = some f) :
    Calls Tryz.prog 25 #[.pointer (some ⟨d, 0, none⟩), .int .i64 n] w (PayRet w (payOf st.files n)) := by
  have hp : payOf st.files n = (scan f.dat).1 := by unfold payOf; rw [hf]
  have hfd := (hok.file _ (find_some hf).1).1
  obtain ⟨q, hq⟩ : ∃ q, q = (⟨(seg n).toArray⟩ : ByteArray) := ⟨_, rfl⟩
  have hqs : q.size ≤ maxLen := by rw [hq]; exact seg_size n
  have hqd : q.data.toList = seg n := by rw [hq]
  rw [← hqd] at hf
  have HQ := Lib.hid hq
  have HR := Lib.hid (fun (W : World) (hW : DriveRep W S d st) => read_some hW hok q hqs hf)
  have HD := Lib.hid h
  have HL := Lib.hid hL
  have hc := nameOf_q n hL HQ
  obtain ⟨l, hl⟩ : ∃ l, l = f.dat := ⟨_, rfl⟩
  rw [← hl] at hp hfd HR
  rw [hp]
  clear hq hqd hf h hok hL hp hl
  go_enter Tryz.func25, Tryz.ntmps25
  go_wp2_with first
    | (go_at_call 36; ((with_reducible refine hc.mono ?_); rintro e w2 ⟨rfl, hb2⟩))
    | (go_at_call 32; ((with_reducible refine (HR.out _ (HD.out.below hb2)).mono ?_); rintro e w3 ⟨A3, m3, c3, rfl, hl3, hown3, hb3⟩; have HL3 := Lib.hid hl3; have hm3 : m3 ≤ 262144 := Nat.le_trans (Nat.le_of_eq hl3.symm) hfd; clear hl3))
    | (go_at_call 54; ((with_reducible refine (Fscan_any A3 m3 c3 _ w3 HL3.out (Rd.own hown3) (own_cap hown3) (by omega) ((HL.out.tab.below hb2).below hb3)).mono ?_); rintro e w4 ⟨A4, m4, c4, vs, rfl, hl4, hc4, hown4, hol4, hb4⟩))
  go_ret
  exact PayRet.on (hb2.trans (hb3.mono hb2.size)) ⟨A4, m4, c4, vs, rfl, hl4, hc4, hown4, hol4, hb4⟩

/-! ### the numbers of a drive's segments -/
theorem segs_mem {l : List Fl} {n : Int} (h : n ∈ segs l) : 1 ≤ n ∧ n ≤ 999999 ∧ ∃ f ∈ l, f.name = seg n := by
  obtain ⟨h1, h2⟩ := List.mem_filter.1 h
  obtain ⟨f, hf, rfl⟩ := List.mem_map.1 h1
  have h3 : 0 < num f.name := by simpa using h2
  rcases num_cases f.name with ⟨k, _⟩ | ⟨k1, k2, k3⟩
  · omega
  · exact ⟨k1, k2, f, hf, k3.symm⟩
theorem segs_find {l : List Fl} (hr : Rising l) {n : Int} (h : n ∈ segs l) : ∃ f, find l (seg n) = some f := by
  obtain ⟨_, _, f, hf, e⟩ := segs_mem h
  exact ⟨f, e ▸ find_of_mem hr hf⟩
theorem segs_length (l : List Fl) : (segs l).length ≤ l.length := by
  unfold segs
  refine Nat.le_trans (List.length_filter_le _ _) ?_
  rw [List.length_map]
  exact Nat.le_refl _
/-- The number behind all of these. -/
def nextOf (from_ : Int) (ns : List Int) : Int := ns.foldl (fun a n => max a (n + 1)) from_
/-- The payloads of these segments, from a number on. -/
def paysOf (l : List Fl) (from_ : Int) (ns : List Int) : List Bs := (ns.filter fun n => decide (from_ ≤ n)).flatMap (payOf l)
theorem nextOf_snoc (a : Int) (ns : List Int) (n : Int) : nextOf a (ns ++ [n]) = max (nextOf a ns) (n + 1) := by simp [nextOf]
theorem paysOf_yes (l : List Fl) {a n : Int} (ns : List Int) (h : a ≤ n) : paysOf l a (ns ++ [n]) = paysOf l a ns ++ payOf l n := by simp [paysOf, h]
theorem paysOf_no (l : List Fl) {a n : Int} (ns : List Int) (h : ¬ a ≤ n) : paysOf l a (ns ++ [n]) = paysOf l a ns := by simp [paysOf, h]
theorem nextOf_bound {a : Int} (h1 : 1 ≤ a) (h2 : a ≤ 1000000) : ∀ (ns : List Int), (∀ n ∈ ns, 1 ≤ n ∧ n ≤ 999999) → 1 ≤ nextOf a ns ∧ nextOf a ns ≤ 1000000 := by
  intro ns
  induction ns generalizing a with
  | nil => exact fun _ => ⟨h1, h2⟩
  | cons n r ih =>
    intro h
    have := h n (by simp)
    exact ih (a := max a (n + 1)) (by omega) (by omega) fun m hm => h m (by simp [hm])
theorem payOf_len {l : List Fl} (h : ∀ f ∈ l, f.dat.length ≤ 262144) (n : Int) : (payOf l n).length ≤ 262144 := by
  unfold payOf
  cases hf : find l (seg n) with
  | none => simp
  | some f =>
    have := h f (find_some hf).1
    have := scan_len _ f.dat (Nat.le_refl _)
    simp only
    omega

end Wl
end Go.Proofs.YtbfmjonabndhaaaGreatDoor
