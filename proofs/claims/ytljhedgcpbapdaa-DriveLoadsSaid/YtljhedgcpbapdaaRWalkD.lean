/-
  WHAT IS PROVED: what the reference's without does. CONDITIONS: the list stands in memory as named.
-/
import Derived.Test.YtljhedgcpbapdaaRWalkC
namespace Go.Proofs.Ytljhedgcpbapdaa
open Go Go.RowKit Go.Maps Go.Proofs.Ytljhedgcpbapdaa.Fr
namespace Dr

/-- The loop's state. -/
def OInv (W3 : World) (n : Bs) (l : List Fl) (s5 s6 : Value) (wr : World) : Prop :=
  ∃ (i : Nat) (A : Option Addr) (k c : Nat) (acc : List Fl), i ≤ l.length ∧ s6 = .int .i64 (i : Int) ∧ s5 = .slice A k c ∧ acc.length = k ∧ k ≤ i ∧ del n (l.take i) = acc ∧
    wr.ownsRow W3.heap.size 74 3 (.slice A k c) k (fv acc) ∧ Below W3.heap.size W3 wr
theorem del_snoc {n : Bs} {l : List Fl} {i : Nat} {g : Fl} (hi : l[i]? = some g) : del n (l.take (i + 1)) = if g.name = n then del n (l.take i) else del n (l.take i) ++ [g] := by
  rw [List.take_add_one, hi]
  unfold del
  rw [List.filter_append]
  split
  · rename_i h; simp [h]
  · rename_i h; simp [h]
theorem oinv_step {W3 wr w' : World} {n : Bs} {l : List Fl} {i : Nat} {acc : List Fl} {A' : Option Addr} {k c' : Nat} (hil : i < l.length) (hf : del n (l.take (i + 1)) = acc) (hn : acc.length = k) (hn2 : k ≤ i + 1)
    (hown : w'.ownsRow W3.heap.size 74 3 (.slice A' k c') k (fv acc)) (hb : Below W3.heap.size W3 wr) (hb' : Below W3.heap.size wr w') : OInv W3 n l (.slice A' k c') (.int .i64 ((i : Int) + 1)) w' :=
  ⟨i + 1, A', k, c', acc, hil, by go_num, rfl, hn, hn2, hf, hown, hb.trans hb'⟩
section
variable {w : World} {T : Nat → Prop} {v : Value} {st : St}
set_option maxRecDepth 100000 in
set_option maxHeartbeats 1000000 in
theorem without_any (h : RefRep w T v st) (hok : st.Ok) (s : ByteArray) :
    Calls Try.prog 58 #[v, .string s] w (RRet T w { st with files := del s.data.toList st.files }) := by
  obtain ⟨A, c, rfl, hl, hlc⟩ := refV_of h
  have hfew := hok.few
  have HL := Lib.hid hl
  obtain ⟨ii, hii, hiz, hiz1, hiz2⟩ := info_parts info_file
  clear h hl hok
  go_enter Try.func58, Try.ntmps58
  go_wp2
  obtain ⟨W3, hW3⟩ : ∃ W3, W3 = ((w.alloc (.cells #[.slice A st.files.length c, .int .i64 (st.steps : Int), .bool st.armed, .int .i64 (st.left : Int)] 26)).alloc (.cells #[.slice none 0 0, .int .i64 0, .bool false, .int .i64 0] 26)) := ⟨_, rfl⟩
  rw [← hW3]
  have hsz3 : W3.heap.size = w.heap.size + 2 := by rw [hW3]; simp
  have hbw3 : Below w.heap.size w W3 := by rw [hW3]; exact ((Below.refl _ _).alloc (Nat.le_refl _) _).alloc (by simp) _
  have k1 : Blk W3 w.heap.size 26 #[.slice A st.files.length c, .int .i64 (st.steps : Int), .bool st.armed, .int .i64 (st.left : Int)] := by rw [hW3]; exact (Blk.new w _ _).alloc _
  have k3 : Blk W3 (w.heap.size + 1) 26 #[.slice none 0 0, .int .i64 0, .bool false, .int .i64 0] := by rw [hW3]; exact blk_new' (by simp)
  have HK : Hid (∀ W, Below W3.heap.size W3 W → Blk W w.heap.size 26 #[.slice A st.files.length c, .int .i64 (st.steps : Int), .bool st.armed, .int .i64 (st.left : Int)] ∧ Blk W (w.heap.size + 1) 26 #[.slice none 0 0, .int .i64 0, .bool false, .int .i64 0]) :=
    fun W hb => ⟨k1.same (hb.block _ (by omega)), k3.same (hb.block _ (by omega))⟩
  clear k1 k3 hW3
  go_loopw [5, 6] (OInv W3 s.data.toList st.files) (fun _ x _ => st.files.length - (intOf x).toNat)
  case atStart => exact ⟨0, none, 0, 0, [], Nat.zero_le _, rfl, rfl, rfl, Nat.le_refl _, rfl, World.ownsRow_nil _ _ _ _, Below.refl _ _⟩
  case round =>
    obtain ⟨i, A1, n1, c1, acc, hi, rfl, rfl, hacc, hn1, hfold, hown, hb⟩ := hrel
    obtain ⟨b1, b3⟩ := HK.out wr hb
    have HB3 := Lib.hid b3
    have hws := hb.size
    have HACC := Lib.hid hacc
    have HFOLD := Lib.hid hfold
    by_cases hlt : i < st.files.length
    · have q10 := b1.cell 0
      clear b1 b3 hacc hfold
      obtain ⟨g, hg⟩ : ∃ g, st.files[i]? = some g := ⟨_, List.getElem?_eq_getElem hlt⟩
      obtain ⟨gb, rfl, hgb, e0, e1, e2⟩ := (HL.out.below (hbw3.trans (hb.mono hbw3.size))).file hg
      have hds := del_snoc (n := s.data.toList) hg
      clear hg
      have hbq := beq_name g.name s
      by_cases hn : g.name = s.data.toList
      · rw [if_pos hn] at hds
        have HDS := Lib.hid hds
        rw [decide_eq_true hn] at hbq
        clear hn hds
        go_wp2
        go_roundw
        case rel => exact oinv_step hlt (HDS.out.trans HFOLD.out) HACC.out (by omega) hown hb (Below.refl _ _)
        case measure => simp [intOf]; omega
      · rw [if_neg hn] at hds
        have HDS := Lib.hid hds
        rw [decide_eq_false hn] at hbq
        clear hn hds
        go_wp2_with (at_builtin; refine wpList_appN _ rfl (.tmp 22) (.tmp 28) _ rfl W3.heap.size 74 ii _ 3 40 Try.underlying24 hii hiz hiz1 hiz2 rfl (by decide) _ (n1) (fv (acc)) rfl (hown.alloc _) ⟨_, 0, none⟩ 1 1 (fcells g) rfl rfl (one_cells _ _ _) (fcells_one _) (n1 + 1) rfl (by unfold maxLen; omega) (by omega) (by simp; omega) ?_; intro A9 c9 w9 hown9 hb9 _)
        go_roundw
        case rel => exact oinv_step hlt (by rw [HDS.out, HFOLD.out]) (len_snoc HACC.out) (by omega) (own_snoc hown9) hb (below_app0 (by omega) hb9)
        case measure => simp [intOf]; omega
    · have hput : del s.data.toList st.files = acc := by
        have htk : st.files.take i = st.files := List.take_of_length_le (by omega)
        rw [← hfold, htk]
      have HPUT := Lib.hid hput
      obtain ⟨r0, r1, r2, r3, z0, y0, y1, y2, y3, x0, x1, x2, x3⟩ := box_facts b1 b3
      clear hput hacc hfold b1 b3
      go_wp2
      obtain ⟨hl9, hbl9⟩ := fill4_list (T := T) (w := w) (g := w.heap.size) (g' := w.heap.size + 1) (u := .slice A1 n1 c1) (a0 := .slice A1 n1 c1) (a1 := .int .i64 (st.steps : Int)) (a2 := .bool st.armed) (a3 := .int .i64 (st.left : Int)) (by omega) (by omega) (Nat.le_refl _) (by omega) (hown) (HACC.out) ((hbw3.trans (hb.mono hbw3.size))) HL.out.lt
      have hk9 := fill4_blk (g := w.heap.size) (u := .slice A1 n1 c1) (a0 := .slice A1 n1 c1) (a1 := .int .i64 (st.steps : Int)) (a2 := .bool st.armed) (a3 := .int .i64 (st.left : Int)) HB3.out (by omega)
      exact bodyPost_ret (results_cell_row (by rfl) _ _ _ _ _ _ _ (by rfl) hk9 Try.underlying26 (by rfl) (by kernel_rfl)) rfl (RRet.mk hl9 HPUT.out hbl9 rfl)
end
end Dr
end Go.Proofs.Ytljhedgcpbapdaa
