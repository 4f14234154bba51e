/-
  WHAT IS PROVED: what payloadsOf answers, and plain facts on the numbers and the payloads of a drive's segments. CONDITIONS: the log and its drive stand in memory as told; the library's variables lie as laid.
-/
import Derived.Test.YtnijonjepgdinaaDoorWSegs
namespace Go.Proofs.YtnijonjepgdinaaDoor
open Go Go.RowKit Go.Maps Go.Proofs.YtnijonjepgdinaaDoor.Fr Go.Proofs.YtnijonjepgdinaaDoor.Dr
namespace Wl

/-- The payloads of a segment. -/
def payOf (l : List Fl) (n : Int) : List Bs := match find l (seg n) with
  | some f => (scan f.dat).1
  | none => []
/-- A list of payloads in new memory. -/
def PayRet (w : World) (l : List Bs) (e : Ending) (w' : World) : Prop :=
  ∃ A k c vs, e = .returned (.slice A k c) ∧ l.length = k ∧ k ≤ c ∧ w'.ownsRow w.heap.size 42 1 (.slice A k c) k vs ∧ OwnL w' w.heap.size vs l ∧ Below w.heap.size w w'
theorem ownL_mono {w : World} {B B' : Nat} {vs : List Value} {ls : List Bs} (h : OwnL w B vs ls) (hB : B' ≤ B) : OwnL w B' vs ls :=
  ⟨h.1, fun i v l h1 h2 => let ⟨b, a1, a2, a3⟩ := h.2 i v l h1 h2; ⟨b, Nat.le_trans hB a1, a2, a3⟩⟩
theorem PayRet.on {w w1 w' : World} {l : List Bs} {e : Ending} (hb : Below w.heap.size w w1) (h : PayRet w1 l e w') : PayRet w l e w' := by
  obtain ⟨A, k, c, vs, h1, h2, h3, h4, h5, h6⟩ := h
  exact ⟨A, k, c, vs, h1, h2, h3, own_mono h4 hb.size, ownL_mono h5 hb.size, hb.trans (h6.mono hb.size)⟩
/-- One list behind another. -/
theorem ownL_join {w : World} {B B' : Nat} {vs us : List Value} {ls ms : List Bs} (h : OwnL w B vs ls) (k : OwnL w B' us ms) (hB : B ≤ B') (hd : ∀ (u : Value) (q : Nat), u ∈ vs → u.ownBlock = some q → q < B') : OwnL w B (vs ++ us) (ls ++ ms) := by
  refine ⟨by rw [List.length_append, List.length_append, h.1, k.1], fun i v l hv hl => ?_⟩
  rcases Nat.lt_or_ge i vs.length with hi | hi
  · rw [List.getElem?_append_left hi] at hv
    rw [List.getElem?_append_left (by rw [← h.1]; exact hi)] at hl
    obtain ⟨b, h1, h2, h3⟩ := h.2 i v l hv hl
    refine ⟨b, h1, h2, fun j u q hj hu hq => h3 j u q hj ?_ hq⟩
    rwa [List.getElem?_append_left (by omega)] at hu
  · rw [List.getElem?_append_right hi] at hv
    rw [List.getElem?_append_right (by rw [← h.1]; exact hi), ← h.1] at hl
    obtain ⟨b, h1, h2, h3⟩ := k.2 _ v l hv hl
    refine ⟨b, Nat.le_trans hB h1, h2, fun j u q hj hu hq => ?_⟩
    rcases Nat.lt_or_ge j vs.length with hj2 | hj2
    · rw [List.getElem?_append_left hj2] at hu
      exact Nat.lt_of_lt_of_le (hd u q (List.mem_of_getElem? hu) hq) h1
    · rw [List.getElem?_append_right hj2] at hu
      exact h3 _ u q (by omega) hu hq
theorem seg_size (n : Int) : (⟨(seg n).toArray⟩ : ByteArray).size ≤ maxLen := by
  rw [bytes_size]
  by_cases h : 1 ≤ n ∧ n ≤ 999999
  · rw [seg_len h.1 h.2]; decide
  · rw [seg_out h]; decide
set_option maxHeartbeats 1600000 in
theorem payloadsOf_any {B : Nat} {w : World} {S : Nat → Prop} {d : Nat} {st : St} (h : DriveRep w S d st) (hok : st.Ok) (hL : Lb B w) (n : Int) {f : Fl} (hf : find st.files (seg n) = some f) :
    Calls Tryd.prog 20 #[.pointer (some ⟨d, 0, none⟩), .int .i64 n] w (PayRet w (payOf st.files n)) := by
  have hp : payOf st.files n = (scan f.dat).1 := by unfold payOf; rw [hf]
  have hfd := (hok.file _ (find_some hf).1).1
  obtain ⟨q, hq⟩ : ∃ q, q = (⟨(seg n).toArray⟩ : ByteArray) := ⟨_, rfl⟩
  have hqs : q.size ≤ maxLen := by rw [hq]; exact seg_size n
  have hqd : q.data.toList = seg n := by rw [hq]
  rw [← hqd] at hf
  have HQ := Lib.hid hq
  have HR := Lib.hid (fun (W : World) (hW : DriveRep W S d st) => read_some hW hok q hqs hf)
  have HD := Lib.hid h
  have HL := Lib.hid hL
  have hc := nameOf_q n hL HQ
  obtain ⟨l, hl⟩ : ∃ l, l = f.dat := ⟨_, rfl⟩
  rw [← hl] at hp hfd HR
  rw [hp]
  clear hq hqd hf h hok hL hp hl
  go_enter Tryd.func20, Tryd.ntmps20
  go_wp2_with first
    | (go_at_call 27; ((with_reducible refine hc.mono ?_); rintro e w2 ⟨rfl, hb2⟩))
    | (go_at_call 33; ((with_reducible refine (HR.out _ (HD.out.below hb2)).mono ?_); rintro e w3 ⟨A3, m3, c3, rfl, hl3, hown3, hb3⟩; have HL3 := Lib.hid hl3; have hm3 : m3 ≤ 262144 := Nat.le_trans (Nat.le_of_eq hl3.symm) hfd; clear hl3))
    | (go_at_call 34; ((with_reducible refine (Fscan_any A3 m3 c3 _ w3 HL3.out (Rd.own hown3) (own_cap hown3) (by omega) ((HL.out.tab.below hb2).below hb3)).mono ?_); rintro e w4 ⟨A4, m4, c4, vs, rfl, hl4, hc4, hown4, hol4, hb4⟩))
  go_ret
  exact PayRet.on (hb2.trans (hb3.mono hb2.size)) ⟨A4, m4, c4, vs, rfl, hl4, hc4, hown4, hol4, hb4⟩

/-! ### the numbers of a drive's segments -/
theorem segs_mem {l : List Fl} {n : Int} (h : n ∈ segs l) : 1 ≤ n ∧ n ≤ 999999 ∧ ∃ f ∈ l, f.name = seg n := by
  obtain ⟨h1, h2⟩ := List.mem_filter.1 h
  obtain ⟨f, hf, rfl⟩ := List.mem_map.1 h1
  have h3 : 0 < num f.name := by simpa using h2
  rcases num_cases f.name with ⟨k, _⟩ | ⟨k1, k2, k3⟩
  · omega
  · exact ⟨k1, k2, f, hf, k3.symm⟩
theorem segs_find {l : List Fl} (hr : Rising l) {n : Int} (h : n ∈ segs l) : ∃ f, find l (seg n) = some f := by
  obtain ⟨_, _, f, hf, e⟩ := segs_mem h
  exact ⟨f, e ▸ find_of_mem hr hf⟩
theorem segs_length (l : List Fl) : (segs l).length ≤ l.length := by
  unfold segs
  refine Nat.le_trans (List.length_filter_le _ _) ?_
  rw [List.length_map]
  exact Nat.le_refl _
/-- The number behind all of these. -/
def nextOf (from_ : Int) (ns : List Int) : Int := ns.foldl (fun a n => max a (n + 1)) from_
/-- The payloads of these segments, from a number on. -/
def paysOf (l : List Fl) (from_ : Int) (ns : List Int) : List Bs := (ns.filter fun n => decide (from_ ≤ n)).flatMap (payOf l)
theorem nextOf_snoc (a : Int) (ns : List Int) (n : Int) : nextOf a (ns ++ [n]) = max (nextOf a ns) (n + 1) := by simp [nextOf]
theorem paysOf_yes (l : List Fl) {a n : Int} (ns : List Int) (h : a ≤ n) : paysOf l a (ns ++ [n]) = paysOf l a ns ++ payOf l n := by simp [paysOf, h]
theorem paysOf_no (l : List Fl) {a n : Int} (ns : List Int) (h : ¬ a ≤ n) : paysOf l a (ns ++ [n]) = paysOf l a ns := by simp [paysOf, h]
theorem nextOf_bound {a : Int} (h1 : 1 ≤ a) (h2 : a ≤ 1000000) : ∀ (ns : List Int), (∀ n ∈ ns, 1 ≤ n ∧ n ≤ 999999) → 1 ≤ nextOf a ns ∧ nextOf a ns ≤ 1000000 := by
  intro ns
  induction ns generalizing a with
  | nil => exact fun _ => ⟨h1, h2⟩
  | cons n r ih =>
    intro h
    have := h n (by simp)
    exact ih (a := max a (n + 1)) (by omega) (by omega) fun m hm => h m (by simp [hm])
theorem payOf_len {l : List Fl} (h : ∀ f ∈ l, f.dat.length ≤ 262144) (n : Int) : (payOf l n).length ≤ 262144 := by
  unfold payOf
  cases hf : find l (seg n) with
  | none => simp
  | some f =>
    have := h f (find_some hf).1
    have := scan_len _ f.dat (Nat.le_refl _)
    simp only
    omega

end Wl
end Go.Proofs.YtnijonjepgdinaaDoor
