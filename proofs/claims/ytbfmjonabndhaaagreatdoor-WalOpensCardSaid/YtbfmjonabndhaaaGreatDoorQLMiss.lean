/-
  WHAT IS PROVED: (1) what the reference's Digits answers of a small number, and that the law's 'missing' finds a name that no file has. CONDITION: the list stands in memory as named.
-/
import Derived.Test.YtbfmjonabndhaaaGreatDoorQRWalkJ
import Derived.Test.YtbfmjonabndhaaaGreatDoorQLBase
namespace Go.Proofs.YtbfmjonabndhaaaGreatDoor
open Go Go.RowKit Go.Maps Go.Proofs.YtbfmjonabndhaaaGreatDoor.Fr
namespace Dr

/-- The digits of a number below 10^f; none of 0. -/
def dgs : Nat → Nat → Bs
  | 0, _ => []
  | f + 1, n => if n = 0 then [] else dgs f (n / 10) ++ [UInt8.ofNat (48 + n % 10)]
def dg (n : Nat) : Bs := if n = 0 then [48] else dgs 4 n
def qn (n : Nat) : Bs := 113 :: dg n
def qval (l : Bs) : Nat := (l.drop 1).foldl (fun a c => 10 * a + (c.toNat - 48)) 0
theorem qval_qn : ∀ n, n < 300 → qval (qn n) = n := by decide +kernel
theorem qn_ok : ∀ n, n < 300 → nameOk (qn n) = true := by decide +kernel
theorem qn_inj {i j : Nat} (hi : i < 300) (hj : j < 300) (h : qn i = qn j) : i = j := by rw [← qval_qn i hi, ← qval_qn j hj, h]
theorem length_of_nodup {α : Type} [DecidableEq α] : ∀ (l m : List α), l.Nodup → (∀ x ∈ l, x ∈ m) → l.length ≤ m.length
  | [], _, _, _ => Nat.zero_le _
  | a :: r, m, hn, hs => by
    obtain ⟨h1, h2⟩ := List.nodup_cons.1 hn
    have hm := hs a (by simp)
    have ih := length_of_nodup r (m.erase a) h2 fun x hx => (List.mem_erase_of_ne (by rintro rfl; exact h1 hx)).2 (hs x (by simp [hx]))
    rw [List.length_erase_of_mem hm] at ih
    have : 0 < m.length := List.length_pos_of_mem hm
    simp only [List.length_cons]
    omega
theorem some_missing {l : List Fl} (hl : l.length ≤ 256) {i : Nat} (hi : i ≤ 257) (h : ∀ j, j < i → find l (qn j) ≠ none) : i ≤ 256 := by
  have h1 := length_of_nodup ((List.range i).map qn) (l.map (·.name)) (by
    rw [List.nodup_iff_pairwise_ne, List.pairwise_map]
    exact List.Pairwise.imp_of_mem (fun ha hb hne k => hne (qn_inj (by have := List.mem_range.1 ha; omega) (by have := List.mem_range.1 hb; omega) k)) (List.nodup_iff_pairwise_ne.1 List.nodup_range)) (by
    intro x hx
    obtain ⟨j, hj, rfl⟩ := List.mem_map.1 hx
    have := h j (List.mem_range.1 hj)
    cases e : find l (qn j) with
    | none => exact absurd e this
    | some f => exact List.mem_map.2 ⟨f, (find_some e).1, (find_some e).2⟩)
  rw [List.length_map, List.length_range, List.length_map] at h1
  omega
def DgInv (w0 : World) (n : Nat) (s3 s4 : Value) (wr : World) : Prop := ∃ (f k : Nat) (s : ByteArray), s3 = .string s ∧ s4 = .int .i64 (k : Int) ∧ f ≤ 4 ∧ k < 10 ^ f ∧ dgs f k ++ s.data.toList = dgs 4 n ∧ s.size + f ≤ 4 ∧ Below w0.heap.size w0 wr
theorem dg_str (W : World) (k : Nat) {d : ByteArray} (hd : d = ⟨#[UInt8.ofNat (48 + k % 10)]⟩) :
    (convert 28 9 (.slice (some ⟨W.heap.size, 0, none⟩) 1 1)).run Tryz.prog (W.alloc (.cells #[.int .u8 (48 + (k : Int) % 10)] 5)) = .ok (.string d) (W.alloc (.cells #[.int .u8 (48 + (k : Int) % 10)] 5)) := by
  subst hd
  refine run_str (P := Tryz.prog) _ 28 9 5 Tryz.underlying28 Tryz.underlying5 Tryz.underlying9 _ 1 1 [UInt8.ofNat (48 + k % 10)] rfl ?_
  have h := Rd.block W 5 (0, 0) #[.int .u8 (48 + (k : Int) % 10)]
  have e : bv [UInt8.ofNat (48 + k % 10)] = [.int .u8 (48 + (k : Int) % 10)] := by
    simp only [bv, List.map_cons, List.map_nil, UInt8.toNat_ofNat', List.cons.injEq, Value.int.injEq, true_and, and_true]
    omega
  rw [e]
  exact h
theorem cat_run (a b : ByteArray) (W : World) (ha : a.size ≤ 100) (hb : b.size ≤ 1000) : (Op.stringOp .add a b).run Tryz.prog W = .ok (.string (a ++ b)) W := run_string_add_sum (P := Tryz.prog) (w := W) a b (by omega)
theorem dg_step {w0 wr : World} {n f k : Nat} {s d : ByteArray} (hk : k < 10 ^ f) (hs : dgs f k ++ s.data.toList = dgs 4 n) (hsz : s.size + f ≤ 4) (hd : d = ⟨#[UInt8.ofNat (48 + k % 10)]⟩) (hf : f ≤ 4) (hk0 : ¬ k = 0) (hb : Below w0.heap.size w0 wr) {o : Obj} {c : Int} (hc : c = ((k / 10 : Nat) : Int)) : DgInv w0 n (.string (d ++ s)) (.int .i64 c) (wr.alloc o) := by
  subst hc hd
  rcases f with _ | f
  · simp at hk; omega
  refine ⟨f, k / 10, _, rfl, rfl, by omega, by rw [Nat.pow_succ] at hk; omega, ?_, ?_, hb.alloc hb.size _⟩
  · rw [← hs, ByteArray.data_append, Array.toList_append, dgs, if_neg hk0]
    simp
  · rw [ByteArray.size_append]
    show 1 + s.size + f ≤ 4
    omega
set_option maxRecDepth 100000 in
theorem digits_any (n : Nat) (w : World) (hn : n < 300) : Calls Tryz.prog 17 #[.int .i64 (n : Int)] w fun e w' => ∃ s : ByteArray, e = .returned (.string s) ∧ s.data.toList = dg n ∧ s.size ≤ 4 ∧ Below w.heap.size w w' := by
  by_cases h0 : n = 0
  · subst h0
    go_enter Tryz.func17, Tryz.ntmps17
    go_wp2
    go_ret
    exact ⟨_, rfl, rfl, by decide, Below.refl _ _⟩
  · have hd : dg n = dgs 4 n := by unfold dg; rw [if_neg h0]
    have HD := Lib.hid hd
    have h0' : ¬ (n : Int) = 0 := by omega
    clear hd
    go_enter Tryz.func17, Tryz.ntmps17
    go_wp2
    go_loopw [3, 4] (DgInv w n) (fun _ x _ => (intOf x).toNat)
    case atStart => exact ⟨4, n, ⟨#[]⟩, rfl, rfl, by omega, by omega, by simp, by decide, Below.refl _ _⟩
    case round =>
      obtain ⟨f, k, s, rfl, rfl, hf, hk, hs, hsz, hb⟩ := hrel
      have HK := Lib.hid hk
      have HS := Lib.hid hs
      have HSZ := Lib.hid hsz
      have hk9 : k < 100000 := by
        have : 10 ^ f ≤ 10 ^ 4 := Nat.pow_le_pow_right (by omega) hf
        omega
      clear hk hs hsz
      by_cases hk0 : k = 0
      · subst hk0
        go_wp2
        go_ret
        refine ⟨s, rfl, ?_, by have := HSZ.out; omega, hb⟩
        rw [HD.out, ← HS.out]
        cases f <;> simp [dgs]
      · have hk0' : ¬ (k : Int) = 0 := by omega
        have hk1 : (k : Int) ≤ 99999 := by omega
        have hk2 : (1 : Int) ≤ k := by omega
        obtain ⟨d, hd⟩ : ∃ d : ByteArray, d = ⟨#[UInt8.ofNat (48 + k % 10)]⟩ := ⟨_, rfl⟩
        have hst := dg_str wr k hd
        have hcat := fun W => cat_run d s W (by rw [hd]; show (1 : Nat) ≤ 100; omega) (by have := HSZ.out; omega)
        have HDD := Lib.hid hd
        clear hd
        go_wp2
        go_roundw
        case rel => exact dg_step HK.out HS.out HSZ.out HDD.out hf hk0 hb (by omega)
        case measure => simp [intOf]; omega
section
variable {w : World} {T : Nat → Prop} {v : Value} {st : St}
def MiInv (w0 : World) (l : List Fl) (s3 : Value) (wr : World) : Prop := ∃ i : Nat, i ≤ 256 ∧ s3 = .int .i64 (i : Int) ∧ (∀ j, j < i → find l (qn j) ≠ none) ∧ Below w0.heap.size w0 wr
theorem name_made {sd : ByteArray} {i : Nat} (h : sd.data.toList = dg i) (hs : sd.size ≤ 4) : ∃ x : ByteArray, (∀ W, (Op.stringOp .add ⟨#[113]⟩ sd).run Tryz.prog W = .ok (.string x) W) ∧ Hid (x.data.toList = qn i ∧ x.size ≤ 100) := by
  refine ⟨⟨#[113]⟩ ++ sd, fun W => cat_run _ sd W (by show (1 : Nat) ≤ 100; omega) (by omega), ?_, ?_⟩
  · rw [ByteArray.data_append, Array.toList_append, h]
    rfl
  · rw [ByteArray.size_append]
    show 1 + sd.size ≤ 100
    omega
set_option maxRecDepth 100000 in
theorem missing_any (h : RefRep w T v st) (hok : st.Ok) :
    Calls Tryz.prog 34 #[v] w fun e w' => ∃ s : ByteArray, e = .returned (.string s) ∧ s.size ≤ 100 ∧ nameOk s.data.toList = true ∧ find st.files s.data.toList = none ∧ Below w.heap.size w w' := by
  have HAT := Lib.hid fun W (k : Below w.heap.size w W) => at_any (h.below k) hok
  have HOK := Lib.hid hok
  obtain ⟨A, c, rfl, hl, hlc⟩ := refV_of h
  clear h hl hok
  go_enter Tryz.func34, Tryz.ntmps34
  go_wp2
  go_loopw [3] (MiInv (w.alloc (.cells #[.slice A st.files.length c, .int .i64 (st.steps : Int), .bool st.armed, .int .i64 (st.left : Int)] 35)) st.files) (fun x _ => 257 - (intOf x).toNat)
  case atStart => exact ⟨0, by omega, rfl, fun j hj => absurd hj (by omega), Below.refl _ _⟩
  case round =>
    obtain ⟨i, hi, rfl, hm, hb⟩ := hrel
    have HM := Lib.hid hm
    have hbw := box_trans hb
    have hdg := digits_any i wr (by omega)
    clear hm
    cases hf : find st.files (qn i) with
    | none =>
      have HF := Lib.hid hf
      clear hf
      go_wp2_with (first
        | (go_at_call 17; refine hdg.mono ?_; rintro e w1 ⟨sd, rfl, hsd, hsz, hb1⟩; have hb2 := hb.trans (hb1.mono hb.size); have hbw1 := hbw.trans (hb1.mono hbw.size); have kc := box_cell hb2; have hnm := name_made hsd hsz; clear hsd hsz; obtain ⟨x, hcat, HX⟩ := hnm)
        | (go_at_call 21; refine (HAT.out _ hbw1 x).mono ?_; intro e w2 hra; have hra2 := rat_none hra (by rw [HX.out.1]; exact HF.out); obtain ⟨rfl, hb3⟩ := hra2; clear hra))
      go_ret
      exact ⟨x, rfl, HX.out.2, by rw [HX.out.1]; exact qn_ok i (by omega), by rw [HX.out.1]; exact HF.out, hbw1.trans (hb3.mono hbw1.size)⟩
    | some f =>
      have HF := Lib.hid hf
      clear hf
      have hi2 : i + 1 ≤ 256 := some_missing HOK.out.few (i := i + 1) (by omega) fun j hj => by
        by_cases e : j = i
        · subst e; rw [HF.out]; exact fun h => by cases h
        · exact HM.out j (by omega)
      go_wp2_with (first
        | (go_at_call 17; refine hdg.mono ?_; rintro e w1 ⟨sd, rfl, hsd, hsz, hb1⟩; have hb2 := hb.trans (hb1.mono hb.size); have hbw1 := hbw.trans (hb1.mono hbw.size); have kc := box_cell hb2; have hnm := name_made hsd hsz; clear hsd hsz; obtain ⟨x, hcat, HX⟩ := hnm)
        | (go_at_call 21; refine (HAT.out _ hbw1 x).mono ?_; intro e w2 hra; have hra2 := rat_some hra (f := f) (by rw [HX.out.1]; exact HF.out); obtain ⟨i2, f2, hi2', rfl, hb3⟩ := hra2; clear hra))
      go_roundw
      case rel =>
        refine ⟨i + 1, hi2, by go_num, fun j hj => ?_, hb2.trans (hb3.mono hb2.size)⟩
        by_cases e : j = i
        · subst e; rw [HF.out]; exact fun h => by cases h
        · exact HM.out j (by omega)
      case measure => simp [intOf]; omega
end
end Dr
end Go.Proofs.YtbfmjonabndhaaaGreatDoor
