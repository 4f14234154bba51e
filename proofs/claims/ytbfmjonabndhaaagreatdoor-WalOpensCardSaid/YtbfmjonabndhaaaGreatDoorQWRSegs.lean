/-
  WHAT IS PROVED: (1) what the reference's Digits and Name answer for a number up to 1,000,000. NO CONDITION. (2) what the reference's Segments answers: the numbers of all segments. CONDITIONS: the drive stands in memory as named.
-/
import Derived.Test.YtbfmjonabndhaaaGreatDoorQWOpen
import Derived.Test.YtbfmjonabndhaaaGreatDoorQLMiss
import Derived.Deep.Cut
import Derived.Deep.CutBlock
namespace Go.Proofs.YtbfmjonabndhaaaGreatDoor
open Go Go.RowKit Go.Maps Go.Proofs.YtbfmjonabndhaaaGreatDoor.Dr Go.Proofs.YtbfmjonabndhaaaGreatDoor.Fr
namespace Wl
theorem dgs_more : ∀ (f n : Nat), n < 10 ^ f → dgs (f + 1) n = dgs f n
  | 0, n, h => by
    obtain rfl : n = 0 := by simpa using h
    rfl
  | f + 1, n, h => by
    rw [dgs]
    by_cases h0 : n = 0
    · subst h0; simp [dgs]
    · rw [if_neg h0, dgs_more f (n / 10) (by rw [Nat.pow_succ] at h; omega)]
      conv => rhs; rw [dgs, if_neg h0]
theorem dgs_pad : ∀ (f n : Nat), n < 10 ^ f → (dgs f n).length ≤ f ∧ List.replicate (f - (dgs f n).length) 48 ++ dgs f n = digs f n
  | 0, n, _ => ⟨by simp [dgs], by simp [dgs, digs]⟩
  | f + 1, n, h => by
    have hq : n / 10 < 10 ^ f := by rw [Nat.pow_succ] at h; omega
    obtain ⟨h1, h2⟩ := dgs_pad f (n / 10) hq
    by_cases h0 : n = 0
    · subst h0
      have h3 : dgs (f + 1) 0 = [] := by simp [dgs]
      have h4 : dgs f 0 = [] := by cases f <;> simp [dgs]
      rw [Nat.zero_div, h4] at h2
      rw [h3]
      refine ⟨by simp, ?_⟩
      simp only [List.length_nil, Nat.sub_zero, List.append_nil] at h2 ⊢
      rw [digs, Nat.zero_div, ← h2, List.replicate_succ']
      rfl
    · rw [dgs, if_neg h0, List.length_append, List.length_singleton]
      refine ⟨by omega, ?_⟩
      rw [digs, ← h2, show f + 1 - ((dgs f (n / 10)).length + 1) = f - (dgs f (n / 10)).length by omega]
      simp only [List.append_assoc]
      rfl
/-- Its digits. -/
def dec7 (n : Nat) : Bs := if n = 0 then [48] else dgs 7 n
/-- Its name. -/
def rname (n : Nat) : Bs := pre ++ (if n ≤ 999999 then dig6 n else [49, 48, 48, 48, 48, 48, 48])
theorem dec7_len {n : Nat} (h : n ≤ 1000000) : 1 ≤ (dec7 n).length ∧ (dec7 n).length ≤ 7 := by
  unfold dec7
  by_cases h0 : n = 0
  · rw [if_pos h0]; simp
  · rw [if_neg h0]
    have h1 := dgs_pad 7 n (by omega)
    refine ⟨?_, h1.1⟩
    rw [dgs, if_neg h0, List.length_append, List.length_singleton]
    omega
theorem dec7_pad {n : Nat} (h : n ≤ 1000000) : List.replicate (6 - (dec7 n).length) 48 ++ dec7 n = (if n ≤ 999999 then dig6 n else [49, 48, 48, 48, 48, 48, 48]) := by
  by_cases h6 : n ≤ 999999
  · rw [if_pos h6]
    unfold dec7 dig6
    by_cases h0 : n = 0
    · subst h0; rfl
    · rw [if_neg h0, dgs_more 6 n (by omega)]
      exact (dgs_pad 6 n (by omega)).2
  · obtain rfl : n = 1000000 := by omega
    decide +kernel
def Dg7 (w0 : World) (n : Nat) (s3 s4 : Value) (wr : World) : Prop := ∃ (f k : Nat) (s : ByteArray), s3 = .string s ∧ s4 = .int .i64 (k : Int) ∧ f ≤ 7 ∧ k < 10 ^ f ∧ dgs f k ++ s.data.toList = dgs 7 n ∧ s.size + f ≤ 7 ∧ Below w0.heap.size w0 wr
theorem dg7_step {w0 wr : World} {n f k : Nat} {s d : ByteArray} (hk : k < 10 ^ f) (hs : dgs f k ++ s.data.toList = dgs 7 n) (hsz : s.size + f ≤ 7) (hd : d = ⟨#[UInt8.ofNat (48 + k % 10)]⟩) (hf : f ≤ 7) (hk0 : ¬ k = 0) (hb : Below w0.heap.size w0 wr) {o : Obj} {c : Int} (hc : c = ((k / 10 : Nat) : Int)) : Dg7 w0 n (.string (d ++ s)) (.int .i64 c) (wr.alloc o) := by
  subst hc hd
  rcases f with _ | f
  · simp at hk; omega
  refine ⟨f, k / 10, _, rfl, rfl, by omega, by rw [Nat.pow_succ] at hk; omega, ?_, ?_, hb.alloc hb.size _⟩
  · rw [← hs, ByteArray.data_append, Array.toList_append, dgs, if_neg hk0]
    simp
  · rw [ByteArray.size_append]
    show 1 + s.size + f ≤ 7
    omega
set_option maxRecDepth 100000 in
theorem rdigits_any (n : Nat) (w : World) (hn : n ≤ 1000000) : Calls Tryz.prog 17 #[.int .i64 (n : Int)] w fun e w' => ∃ s : ByteArray, e = .returned (.string s) ∧ s.data.toList = dec7 n ∧ s.size ≤ 7 ∧ Below w.heap.size w w' := by
  by_cases h0 : n = 0
  · subst h0
    go_enter Tryz.func17, Tryz.ntmps17
    go_wp2
    go_ret
    exact ⟨_, rfl, rfl, by decide, Below.refl _ _⟩
  · have hd : dec7 n = dgs 7 n := by unfold dec7; rw [if_neg h0]
    have HD := Lib.hid hd
    have h0' : ¬ (n : Int) = 0 := by omega
    clear hd
    go_enter Tryz.func17, Tryz.ntmps17
    go_wp2
    go_loopw [3, 4] (Dg7 w n) (fun _ x _ => (intOf x).toNat)
    case atStart => exact ⟨7, n, ⟨#[]⟩, rfl, rfl, by omega, by omega, by simp, by decide, Below.refl _ _⟩
    case round =>
      obtain ⟨f, k, s, rfl, rfl, hf, hk, hs, hsz, hb⟩ := hrel
      have HK := Lib.hid hk
      have HS := Lib.hid hs
      have HSZ := Lib.hid hsz
      have hk9 : k < 100000000 := by
        have : 10 ^ f ≤ 10 ^ 7 := Nat.pow_le_pow_right (by omega) hf
        omega
      clear hk hs hsz
      by_cases hk0 : k = 0
      · subst hk0
        go_wp2
        go_ret
        refine ⟨s, rfl, ?_, by have := HSZ.out; omega, hb⟩
        rw [HD.out, ← HS.out]
        cases f <;> simp [dgs]
      · have hk0' : ¬ (k : Int) = 0 := by omega
        have hk1 : (k : Int) ≤ 99999999 := by omega
        have hk2 : (1 : Int) ≤ k := by omega
        obtain ⟨d, hd⟩ : ∃ d : ByteArray, d = ⟨#[UInt8.ofNat (48 + k % 10)]⟩ := ⟨_, rfl⟩
        have hst := dg_str wr k hd
        have hcat := fun W => cat_run d s W (by rw [hd]; show (1 : Nat) ≤ 100; omega) (by have := HSZ.out; omega)
        have HDD := Lib.hid hd
        clear hd
        go_wp2
        go_roundw
        case rel => exact dg7_step HK.out HS.out HSZ.out HDD.out hf hk0 hb (by omega)
        case measure => simp [intOf]; omega
def NmI (w0 : World) (n : Nat) (s3 : Value) (wr : World) : Prop := ∃ s : ByteArray, s3 = .string s ∧ s.size ≤ 7 ∧ Hid (List.replicate (6 - s.size) 48 ++ s.data.toList = (if n ≤ 999999 then dig6 n else [49, 48, 48, 48, 48, 48, 48])) ∧ Hid (Below w0.heap.size w0 wr)
theorem rname_any (n : Nat) (w : World) (hn : n ≤ 1000000) : Calls Tryz.prog 5 #[.int .i64 (n : Int)] w fun e w' => ∃ s : ByteArray, e = .returned (.string s) ∧ s.data.toList = rname n ∧ s.size ≤ 100 ∧ Below w.heap.size w w' := by
  go_enter Tryz.func5, Tryz.ntmps5
  go_wp2_with (go_at_call 17; refine (rdigits_any n w hn).mono ?_; rintro e w1 ⟨s, rfl, hs, hsz, hb⟩)
  go_loopw [3] (NmI w n) (fun x _ => match x with | .string s => 6 - s.size | _ => 0)
  case atStart =>
    refine ⟨s, rfl, hsz, Lib.hid ?_, Lib.hid hb⟩
    rw [← dec7_pad hn, ← hs]
    rfl
  case round =>
    clear hs hsz hb
    obtain ⟨s, rfl, hsz, HS, HB⟩ := hrel
    have hcat := fun W => cat_run ⟨#[48]⟩ s W (by show (1 : Nat) ≤ 100; omega) (by omega)
    have hcat2 := fun W => cat_run ⟨#[119, 97, 108, 45]⟩ s W (by show (4 : Nat) ≤ 100; omega) (by omega)
    by_cases h6 : s.size < 6
    · have k1 : (s.size : Int) < 6 := by omega
      go_wp2
      have hs2 : ((⟨#[48]⟩ : ByteArray) ++ s).size = s.size + 1 := by rw [ByteArray.size_append]; show 1 + s.size = _; omega
      refine ⟨⟨_, rfl, by omega, Lib.hid ?_, HB⟩, by simp only [hs2]; omega⟩
      rw [hs2, ← HS.out, ByteArray.data_append, Array.toList_append, show 6 - s.size = 6 - (s.size + 1) + 1 by omega, List.replicate_succ']
      simp
    · have k1 : ¬ (s.size : Int) < 6 := by omega
      go_wp2
      go_ret
      refine ⟨_, rfl, ?_, by rw [ByteArray.size_append]; show 4 + s.size ≤ 100; omega, HB.out⟩
      have := HS.out
      rw [show 6 - s.size = 0 by omega, List.replicate_zero, List.nil_append] at this
      rw [ByteArray.data_append, Array.toList_append, this]
      rfl
end Wl
end Go.Proofs.YtbfmjonabndhaaaGreatDoor
namespace Go.Proofs.YtbfmjonabndhaaaGreatDoor
open Go Go.RowKit Go.Maps Go.Proofs.YtbfmjonabndhaaaGreatDoor.Dr Go.Proofs.YtbfmjonabndhaaaGreatDoor.Fr
namespace Wl
/-- The value of digits, whatever bytes they are. -/
def valI (l : Bs) : Int := l.foldl (fun a c => 10 * a + (c.toNat : Int) - 48) 0
theorem valI_snoc (l : Bs) (c : UInt8) : valI (l ++ [c]) = 10 * valI l + (c.toNat : Int) - 48 := by simp [valI]
theorem valI_bound : ∀ (k : Nat) (l : Bs), l.length = k → -(23 * (10 : Int) ^ k - 23) ≤ valI l ∧ valI l ≤ 23 * (10 : Int) ^ k - 23
  | 0, l, h => by
    obtain rfl := List.length_eq_zero_iff.1 h
    simp [valI]
  | k + 1, l, h => by
    obtain ⟨a, c, rfl⟩ : ∃ a c, l = a ++ [c] := ⟨l.dropLast, l.getLast (by intro e; subst e; simp at h), (List.dropLast_concat_getLast _).symm⟩
    have ih := valI_bound k a (by rw [List.length_append, List.length_singleton] at h; omega)
    have hc : c.toNat < 256 := UInt8.toNat_lt c
    rw [valI_snoc]
    rw [Int.pow_succ]
    omega
theorem valI_le {l : Bs} (h : l.length ≤ 6) : -23000000 ≤ valI l ∧ valI l ≤ 23000000 := by
  have h1 := valI_bound l.length l rfl
  have h2 : (10 : Int) ^ l.length ≤ 1000000 := by
    have : (10 : Nat) ^ l.length ≤ 10 ^ 6 := Nat.pow_le_pow_right (by decide) h
    have e : ((10 : Nat) ^ l.length : Int) = (10 : Int) ^ l.length := by norm_cast
    omega
  omega
theorem valI_digs : ∀ (k n : Nat), n < 10 ^ k → valI (digs k n) = (n : Int)
  | 0, n, h => by
    obtain rfl : n = 0 := by simpa using h
    rfl
  | k + 1, n, h => by
    rw [digs, valI_snoc, valI_digs k (n / 10) (by rw [Nat.pow_succ] at h; omega), dg_toNat (Nat.mod_lt _ (by decide))]
    omega
theorem seg_rname {n : Nat} (h1 : 1 ≤ n) (h2 : n ≤ 999999) : seg (n : Int) = rname n := by
  rw [seg_in (by omega) (by omega), Int.toNat_natCast]
  unfold rname
  rw [if_pos h2]
/-- A number that Segments takes, and one that it doesn't. -/
theorem take_yes {s : Bs} {z : Int} (h : seg z = s) (h1 : 1 ≤ z) (h2 : z ≤ 999999) : num s = z := by rw [← h]; exact num_seg h1 h2
theorem take_no {s : Bs} (h : ¬ (1 ≤ valI (s.drop 4) ∧ valI (s.drop 4) ≤ 999999 ∧ seg (valI (s.drop 4)) = s)) : num s = 0 := by
  rcases num_cases s with ⟨h1, _⟩ | ⟨h1, h2, h3⟩
  · exact h1
  · exfalso
    apply h
    obtain ⟨m, hm⟩ : ∃ m, m = num s := ⟨_, rfl⟩
    rw [← hm] at h1 h2 h3
    have hd : s.drop 4 = dig6 m.toNat := by rw [← h3, seg_in h1 h2]; rfl
    have hv : valI (s.drop 4) = m := by
      rw [hd]
      have := valI_digs 6 m.toNat (by omega)
      unfold dig6
      rw [this]
      omega
    rw [hv]
    exact ⟨h1, h2, h3⟩
theorem taken_len {s : Bs} (h : s.length ≠ 10) : num s = 0 := by
  rcases num_cases s with ⟨h1, _⟩ | ⟨h1, h2, h3⟩
  · exact h1
  · exact absurd (by rw [← h3]; exact seg_len h1 h2) h
/-- What the digits say. -/
def zOf (s : Bs) : Int := if s.length = 10 then valI (s.drop 4) else 0
theorem zOf_le {s : Bs} (_ : s.length ≤ 32) : -23000000 ≤ zOf s ∧ zOf s ≤ 23000000 := by
  unfold zOf
  split
  · exact valI_le (by rw [List.length_drop]; omega)
  · omega
theorem zOf_no {s : Bs} (h : ¬ (1 ≤ zOf s ∧ zOf s ≤ 999999 ∧ seg (zOf s) = s)) : num s = 0 := by
  by_cases h10 : s.length = 10
  · unfold zOf at h
    rw [if_pos h10] at h
    exact take_no h
  · exact taken_len h10
theorem name_beq_yes {a b : ByteArray} {x y : Bs} (h1 : a.data.toList = x) (h2 : x = y) (h3 : b.data.toList = y) : (a.toList == b.toList) = true := by
  rw [Lib.toList_data, Lib.toList_data, h1, h2, h3]; simp
theorem name_beq_no {a b : ByteArray} {x y : Bs} (h1 : a.data.toList = x) (h2 : ¬ x = y) (h3 : b.data.toList = y) : (a.toList == b.toList) = false := by
  rw [Lib.toList_data, Lib.toList_data, h1, h3]; simpa using h2
theorem own_not_box {W : World} {base e size n g t : Nat} {v : Value} {xs : List Value} {cs : Array Value} (h : W.ownsRow base e size v n xs) (hb : Blk W g t cs) (hne : t ≠ e) : v.ownBlock ≠ some g := fun hk => by
  obtain ⟨cur, h1⟩ := own_blk h hk
  have := (show W.heap[g]? = _ from hb).symm.trans h1
  simp only [Option.some.injEq, Obj.cells.injEq] at this
  exact hne this.2.1
section
variable {w : World} {T : Nat → Prop} {v : Value} {st : St}
/-- Where the loop over the files stands. -/
def RsI (w : World) (fs : List Fl) (A0 : Option Addr) (c0 : Nat) (st : St) (N D : Nat) (v x : Value) (wr : World) : Prop :=
  ∃ (i j c : Nat) (A : Option Addr), i ≤ N ∧ x = .int .i64 (i : Int) ∧ v = .slice A j c ∧ j ≤ i ∧ j ≤ c ∧ Hid (wr.ownsRow w.heap.size 3 1 (.slice A j c) j (ints (segs (fs.take i)))) ∧ Hid ((segs (fs.take i)).length = j) ∧ Hid (Below w.heap.size w wr) ∧ Hid (Blk wr D 35 #[.slice A0 N c0, .int .i64 (st.steps : Int), .bool st.armed, .int .i64 (st.left : Int)])
def RkI (s : Bs) (s6 s7 : Value) (wq wr : World) : Prop := ∃ k : Nat, 4 ≤ k ∧ k ≤ 10 ∧ s7 = .int .i64 (k : Int) ∧ s6 = .int .i64 (valI ((s.drop 4).take (k - 4))) ∧ wr = wq
set_option maxRecDepth 100000 in
set_option maxHeartbeats 1600000 in
theorem rsegments_any (h : RefRep w T v st) (hok : st.Ok) :
    Calls Tryz.prog 26 #[v] w (IntsRet w (segs st.files)) := by
  obtain ⟨i3, hi3, hv, hv1, hv2⟩ := info_parts info_int
  obtain ⟨A0, c0, rfl, hl, hlc⟩ := refV_of h
  obtain ⟨fs, hfs⟩ : ∃ fs, fs = st.files := ⟨_, rfl⟩
  obtain ⟨N, hN⟩ : ∃ N, N = st.files.length := ⟨_, rfl⟩
  rw [← hN] at hl hlc ⊢
  rw [← hfs] at hl ⊢
  have hNl : fs.length = N := by rw [hfs, hN]
  have hfw : N ≤ 256 := by rw [hN]; exact hok.few
  have hsz : ∀ f ∈ fs, f.name.length ≤ 32 := fun f hf => by
    have := (hok.file f (by rw [← hfs]; exact hf)).2.2
    simp only [nameOk, Bool.and_eq_true, decide_eq_true_eq] at this
    omega
  obtain ⟨W1, hW1⟩ : ∃ W1, W1 = w.alloc (.cells #[.slice A0 N c0, .int .i64 (st.steps : Int), .bool st.armed, .int .i64 (st.left : Int)] 35) := ⟨_, rfl⟩
  have hbx : Blk W1 w.heap.size 35 #[.slice A0 N c0, .int .i64 (st.steps : Int), .bool st.armed, .int .i64 (st.left : Int)] := by rw [hW1]; exact Blk.new _ _ _
  have hb1 : Below w.heap.size w W1 := by rw [hW1]; exact (Below.refl _ _).alloc (Nat.le_refl _) _
  have HL := Lib.hid hl
  have HNL := Lib.hid hNl
  have HSZ := Lib.hid hsz
  have HBX := Lib.hid hbx
  have HB1 := Lib.hid hb1
  clear hfs hN h hok hl hNl hsz hbx hb1
  go_enter Tryz.func26, Tryz.ntmps26
  go_upto_region 2 with fail
  rw [← hW1]
  clear hW1
  obtain ⟨D, hD⟩ : ∃ D, D = w.heap.size := ⟨_, rfl⟩
  rw [← hD] at HBX ⊢
  have HD := Lib.hid hD
  clear hD
  go_wp2
  go_loopw [3, 4] (RsI w fs A0 c0 st N D) (fun _ x _ => N - (intOf x).toNat)
  case atStart => exact ⟨0, 0, 0, none, by omega, rfl, rfl, by omega, by omega, Lib.hid (World.ownsRow_nil _ _ _ _), Lib.hid rfl, HB1, HBX⟩
  case round =>
    clear HB1 HBX
    obtain ⟨i, j, c, A, hi, rfl, rfl, hji, hjc, HK, HJ, HB, HX⟩ := hrel
    have d0 := HX.out.cell 0
    simp only [List.getElem?_toArray, List.getElem?_cons_zero] at d0
    obtain ⟨wq, hwq⟩ : ∃ wq, wq = wr := ⟨_, rfl⟩
    subst hwq
    by_cases hlt : i < N
    · obtain ⟨f, hf⟩ : ∃ f, fs[i]? = some f := ⟨fs[i]'(by have := HNL.out; omega), List.getElem?_eq_getElem _⟩
      obtain ⟨g, rfl, hg, x0, _, _⟩ := (HL.out.below HB.out).file hf
      have hs32 := HSZ.out f (List.mem_of_getElem? hf)
      obtain ⟨s, hs⟩ : ∃ s : ByteArray, s = ⟨f.name.toArray⟩ := ⟨_, rfl⟩
      have hsn : s.data.toList = f.name := by rw [hs]
      have hss : s.size = f.name.length := by rw [← hsn]; rfl
      rw [← hs] at x0
      have k1 : (i : Int) < (N : Int) := by omega
      have k2 : (0 : Int) ≤ (i : Int) := by omega
      have HF := Lib.hid hf
      have HSN := Lib.hid hsn
      have HSS := Lib.hid hss
      clear hf hs hsn hss
      have hzz := zOf_le hs32
      obtain ⟨zz, hz⟩ : ∃ zz, zz = zOf f.name := ⟨_, rfl⟩
      rw [← hz] at hzz
      have HZ := Lib.hid hz
      clear hz
      go_upto_block 2 with fail
      go_cut [6] from 21 to 39 (fun s6 W => s6 = .int .i64 zz ∧ W = wq)
      case first =>
        by_cases hten : s.size = 10
        · go_wp2_with fail
          go_loopw [6, 7] (fun s6 s7 W => ∃ (k : Nat) (V : Int), 4 ≤ k ∧ k ≤ 10 ∧ s7 = .int .i64 (k : Int) ∧ s6 = .int .i64 V ∧ W = wq ∧ Hid (V = valI ((f.name.drop 4).take (k - 4)))) (fun _ x _ => 10 - (intOf x).toNat)
          case atStart => exact ⟨4, 0, by omega, by omega, rfl, rfl, rfl, Lib.hid (by simp [valI])⟩
          case round =>
            obtain ⟨k, V, hk4, hk10, rfl, rfl, rfl, HV⟩ := hrel
            have hVb : -23000000 ≤ V ∧ V ≤ 23000000 := by rw [HV.out]; exact valI_le (by rw [List.length_take]; omega)
            obtain ⟨hV1, hV2⟩ := hVb
            by_cases hk : k < 10
            · have hks : k < s.size := by omega
              obtain ⟨y, hy⟩ : ∃ y, s[k].toNat = y := ⟨_, rfl⟩
              have hy2 : y < 256 := by rw [← hy]; exact UInt8.toNat_lt _
              have hyi : (s[k].toNat : Int) = (y : Int) := by rw [hy]
              have hstep : valI ((f.name.drop 4).take (k + 1 - 4)) = 10 * V + (y : Int) - 48 := by
                rw [show k + 1 - 4 = k - 4 + 1 by omega, List.take_add_one, List.getElem?_drop, show 4 + (k - 4) = k by omega]
                have hlk : k < f.name.length := by rw [← HSS.out]; exact hks
                rw [List.getElem?_eq_getElem hlk, Option.toList_some, valI_snoc, ← HV.out]
                have e : (f.name[k]'hlk).toNat = y := by rw [← hy]; simp only [← HSN.out]; rfl
                rw [e]
              have HST := Lib.hid hstep
              have q1 : (k : Int) < (s.size : Int) := by omega
              have q2 : (s.size : Int) = 10 := by omega
              have q3 : (0 : Int) ≤ (k : Int) := by omega
              have q4 : ((s.size : Int) == 10) = true := by rw [q2]; rfl
              clear hy hstep q2 hten
              go_wp2_with fail
              go_roundw
              case rel => exact ⟨k + 1, 10 * V + (y : Int) - 48, by omega, by omega, by simp, rfl, trivial, Lib.hid HST.out.symm⟩
              case measure => simp [intOf]; omega
            · obtain rfl : k = 10 := by omega
              have q1 : ¬ ((10 : Nat) : Int) < (s.size : Int) := by omega
              go_wp2_with fail
              go_meet
              case rel =>
                refine ⟨?_, rfl⟩
                rw [HZ.out, HV.out, zOf, if_pos (by rw [← HSS.out]; exact hten), List.take_of_length_le (by rw [List.length_drop, ← HSS.out]; omega)]
        · have hz0 : zz = 0 := by rw [HZ.out, zOf, if_neg (by rw [← HSS.out]; exact hten)]
          go_wp2_with fail
          go_loopw [6, 7] (fun s6 s7 W => s7 = .int .i64 4 ∧ s6 = .int .i64 0 ∧ W = wq) (fun _ _ _ => 0)
          case atStart => exact ⟨rfl, rfl, rfl⟩
          case round =>
            obtain ⟨rfl, rfl, rfl⟩ := hrel
            have q4 : ((s.size : Int) == 10) = false := by rw [beq_eq_false_iff_ne]; omega
            by_cases h4 : 4 < s.size
            · have q1 : (4 : Int) < (s.size : Int) := by omega
              go_wp2_with fail
              go_meet
              case rel => exact ⟨by rw [hz0], rfl⟩
            · have q1 : ¬ (4 : Int) < (s.size : Int) := by omega
              go_wp2_with fail
              go_meet
              case rel => exact ⟨by rw [hz0], rfl⟩
      case rest =>
        obtain ⟨rfl, rfl⟩ := hcut
        by_cases hin : 1 ≤ zz ∧ zz ≤ 999999
        · obtain ⟨hin1, hin2⟩ := hin
          obtain ⟨M, hM⟩ : ∃ M : Nat, zz = (M : Int) := ⟨zz.toNat, by omega⟩
          have hM1 : 1 ≤ M := by omega
          have hM2 : M ≤ 999999 := by omega
          have hsr := seg_rname hM1 hM2
          have hmi1 : (1 : Int) ≤ (M : Int) := by omega
          have hmi2 : (M : Int) ≤ 999999 := by omega
          have HMZ := Lib.hid hM
          have HSR := Lib.hid hsr
          subst hM
          clear hsr
          by_cases hq : seg (M : Int) = f.name
          · have hnum := take_yes hq hin1 hin2
            have HQ := Lib.hid (HSR.out.symm.trans hq)
            have HNM := Lib.hid hnum
            clear hq hnum
            go_wp2_with (first
              | (go_at_call 5; refine (rname_any M _ (by omega)).mono ?_; rintro e w2 ⟨s2, rfl, hs2, hsz2, hb2⟩; have hbq := name_beq_yes hs2 HQ.out HSN.out; have HB2 := Lib.hid hb2; clear hb2 hs2)
              | (at_builtin; refine wpList_app _ rfl (.tmp 52) (.tmp 54) _ rfl w.heap.size 3 i3 _ 8 Tryz.underlying22 hi3 hv hv1 hv2 rfl (.slice A j c) j (ints (segs (fs.take i))) rfl ((own_below HK.out HB2.out (Nat.le_refl _)).alloc _) (some ⟨w2.heap.size, 0, none⟩) 1 1 [_] rfl rfl (Rd.one _ _ _ _ _ rfl) (by intro u hu; simp at hu; subst hu; rfl) (j + 1) rfl (by unfold maxLen; omega) (by omega) (by have := HB.out.size; have := HB2.out.size; simp; omega) ?_; intro A8 c8 w6 hown8 hb8 hg8 _))
            have hpos : 0 < num f.name := by rw [HNM.out]; omega
            have hX2 := (HX.out.same (HB2.out.block _ HX.out.lt)).alloc (.cells #[.int .i64 (M : Int)] 3)
            have hX6 := hX2.same (hg8.block _ hX2.lt (fun e => own_not_box HK.out HX.out (by decide) e.symm))
            refine ⟨⟨i + 1, j + 1, c8, A8, by omega, by simp, rfl, by omega, own_cap hown8, Lib.hid ?_, Lib.hid ?_, Lib.hid (((HB.out.trans (HB2.out.mono HB.out.size)).alloc (Nat.le_trans HB.out.size HB2.out.size) _).trans hb8), Lib.hid hX6⟩, by simp [intOf]; omega⟩
            · rw [segs_snoc_yes HF.out hpos, HNM.out]; exact hown8
            · rw [← ints_len, segs_snoc_yes HF.out hpos, List.length_append, ints_len, HJ.out]; rfl
          · have hnum := zOf_no (s := f.name) (by rw [← HZ.out]; exact fun h => hq h.2.2)
            have HQ := Lib.hid (fun h : rname M = f.name => hq (HSR.out.trans h))
            have HNM := Lib.hid hnum
            clear hq hnum
            go_wp2_with (go_at_call 5; refine (rname_any M _ (by omega)).mono ?_; rintro e w2 ⟨s2, rfl, hs2, hsz2, hb2⟩; have hbq := name_beq_no hs2 HQ.out HSN.out; have HB2 := Lib.hid hb2; clear hb2 hs2)
            have e1 : ints (segs (fs.take (i + 1))) = ints (segs (fs.take i)) := segs_snoc_no HF.out HNM.out
            refine ⟨⟨i + 1, j, c, A, by omega, by simp, rfl, by omega, hjc, Lib.hid (by rw [e1]; exact own_below HK.out HB2.out (Nat.le_refl _)), Lib.hid (by rw [← ints_len, e1, ints_len]; exact HJ.out), Lib.hid (HB.out.trans (HB2.out.mono HB.out.size)), Lib.hid (HX.out.same (HB2.out.block _ HX.out.lt))⟩, by simp [intOf]; omega⟩
        · have hnum := zOf_no (s := f.name) (by rw [← HZ.out]; exact fun h => hin ⟨h.1, h.2.1⟩)
          have HNM := Lib.hid hnum
          have hcs : zz < 1 ∨ (1 ≤ zz ∧ 999999 < zz) := by omega
          clear hnum hin
          rcases hcs with h | ⟨h, h'⟩
          all_goals go_wp2
          all_goals (have e1 : ints (segs (fs.take (i + 1))) = ints (segs (fs.take i)) := segs_snoc_no HF.out HNM.out)
          all_goals exact ⟨⟨i + 1, j, c, A, by omega, by simp, rfl, by omega, hjc, Lib.hid (by rw [e1]; exact HK.out), Lib.hid (by rw [← ints_len, e1, ints_len]; exact HJ.out), HB, HX⟩, by simp [intOf]; omega⟩
    · obtain rfl : i = N := by omega
      have k1 : ¬ (i : Int) < (i : Int) := by omega
      have ht : fs.take i = fs := List.take_of_length_le (by rw [HNL.out]; exact Nat.le_refl _)
      rw [ht] at HK HJ
      go_wp2
      go_ret
      exact ⟨A, j, c, rfl, HJ.out, hjc, HK.out, HB.out⟩
end
end Wl
end Go.Proofs.YtbfmjonabndhaaaGreatDoor
