/-
  WHAT IS PROVED: what a log's Drop does. CONDITIONS: the log and its drive are newer than a world in which the library's variables lie as laid.
-/
import Derived.Test.YtnijonjepgdinaaDoorWAppR
namespace Go.Proofs.YtnijonjepgdinaaDoor
open Go Go.RowKit Go.Maps Go.Proofs.YtnijonjepgdinaaDoor.Fr Go.Proofs.YtnijonjepgdinaaDoor.Dr
namespace Wl

/-- What Drop does, over the numbers that were there at first: dead or not, the drive, the error. -/
def dropAll (a g : Int) : List Int → St → Bool × St × Nat
  | [], st => (false, st, 0)
  | n :: r, st => if a ≤ n ∨ n = g then dropAll a g r st else if (st.delete (seg n)).2 = 0 then dropAll a g r (st.delete (seg n)).1 else (decide ((st.delete (seg n)).2 = 6), (st.delete (seg n)).1, (st.delete (seg n)).2)
section
variable {a g n : Int} {r : List Int} {st : St}
theorem drop_skip (h : a ≤ n ∨ n = g) : dropAll a g (n :: r) st = dropAll a g r st := by rw [dropAll, if_pos h]
theorem drop_go (h : ¬ (a ≤ n ∨ n = g)) (h0 : (st.delete (seg n)).2 = 0) : dropAll a g (n :: r) st = dropAll a g r (st.delete (seg n)).1 := by rw [dropAll, if_neg h, if_pos h0]
theorem drop_end (h : ¬ (a ≤ n ∨ n = g)) (h0 : (st.delete (seg n)).2 ≠ 0) : dropAll a g (n :: r) st = (decide ((st.delete (seg n)).2 = 6), (st.delete (seg n)).1, (st.delete (seg n)).2) := by rw [dropAll, if_neg h, if_neg h0]
theorem delete_steps (st : St) (n : Bs) : (st.delete n).1.steps ≤ st.steps + 1 := by
  unfold St.delete
  split
  · simp
  · simp [St.step]
end
section
variable {w0 w w' : World} {X : Nat → Prop} {b d B : Nat} {g : Int} {dead : Bool} {st : St}
theorem LS.rowE (h : LS w0 w X b d g dead st) {t : TypeId} {A : Option Addr} {n c : Nat} {xs : List Value} (hb : Below w.heap.size w w') (hr : w'.ownsRow w.heap.size t 1 (.slice A n c) n xs) : LS w0 w' (Xa X A) b d g dead st := by
  have hx : ∀ a, A = some a → w.heap.size ≤ a.block ∧ a.block < w'.heap.size := by
    rintro a rfl
    exact hr.lt a.block rfl
  refine ⟨h.ds.add hb fun k hk => ?_, h.log.same (hb.block b h.log.lt), h.new, ?_⟩
  · rcases hk with (hk | ⟨a, e, rfl⟩) | hk
    · exact .inl (.inl hk)
    · exact .inr (hx a e)
    · exact .inl (.inr hk)
  · rintro (hk | ⟨a, e, he⟩)
    · exact h.off hk
    · have := (hx a e).1; have := h.log.lt; omega
theorem ls_segments (h : LS w0 w X b d g dead st) (hL : Lb B w0) (hok : st.Ok) :
    Calls Tryd.prog 19 #[.pointer (some ⟨b, 0, none⟩)] w fun e w' => ∃ A n c, e = .returned (.slice A n c) ∧ (segs st.files).length = n ∧ n ≤ c ∧ Rd w' A (ints (segs st.files)) ∧ LS w0 w' (Xa X A) b d g dead st ∧ ∀ k, X k → w'.heap[k]? = w.heap[k]? := by
  obtain ⟨S, h1, _⟩ := h.ds
  refine (segments_any h1 hok h.log (h.lib hL)).mono ?_
  rintro e w' ⟨A, n, c, h2, h3, h4, h5, h6⟩
  exact ⟨A, n, c, h2, h3, h4, Rd.own h5, h.rowE h6 h5, fun k hk => h6.block k (h.xlt hk)⟩
theorem ls_delete (h : LS w0 w X b d g dead st) (hok : st.Ok) (hst : st.steps + 1 ≤ 9223372036854775807) {n : Int} {q : ByteArray} (HQ : Hid (q = (⟨(seg n).toArray⟩ : ByteArray))) :
    Calls Tryd.prog 31 #[.pointer (some ⟨d, 0, none⟩), .string q] w (LSOp w0 X b d g dead (st.delete (seg n)) w) := by
  refine h.op fun S h1 _ => ?_
  have hc := delete_any h1 hok hst q (by rw [HQ.out]; exact seg_size n)
  rw [show q.data.toList = seg n by rw [HQ.out]] at hc
  exact hc
theorem ldrop_dead (h : LS w0 w X b d g true st) (a : Int) :
    Calls Tryd.prog 17 #[.pointer (some ⟨b, 0, none⟩), .int .i64 a] w (LSOp w0 X b d g true (st, 6) w) := by
  have c2 := h.c2
  have H := Lib.hid h
  clear h
  go_enter Tryd.func17, Tryd.ntmps17
  go_wp2
  go_ret
  exact ⟨rfl, H.out, fun _ _ => rfl⟩
/-- Where the loop stands. -/
structure DrAt (w0 w : World) (X : Nat → Prop) (b d : Nat) (g a : Int) (s0 : Nat) (ns : List Int) (AN : Option Addr) (R : Bool × St × Nat) (i : Nat) (st : St) (wr : World) : Prop where
  ls : LS w0 wr (Xa X AN) b d g false st
  ok : st.Ok
  steps : st.steps ≤ s0 + i
  run : dropAll a g (ns.drop i) st = R
  num : Rd wr AN (ints ns)
  frame : ∀ k, X k → wr.heap[k]? = w.heap[k]?
def DrInv (w0 w : World) (X : Nat → Prop) (b d : Nat) (g a : Int) (s0 : Nat) (ns : List Int) (AN : Option Addr) (R : Bool × St × Nat) (nn : Nat) (x : Value) (wr : World) : Prop :=
  ∃ (i : Nat) (st : St), i ≤ nn ∧ x = .int .i64 (i : Int) ∧ Hid (DrAt w0 w X b d g a s0 ns AN R i st wr)
set_option maxHeartbeats 3200000 in
theorem ldrop_live (h : LS w0 w X b d g false st) (hL : Lb B w0) (hok : st.Ok) (hst : st.steps + 257 ≤ 9223372036854775807) (a : Int) :
    Calls Tryd.prog 17 #[.pointer (some ⟨b, 0, none⟩), .int .i64 a] w (LSOp w0 X b d g (dropAll a g (segs st.files) st).1 (dropAll a g (segs st.files) st).2 w) := by
  have c2 := h.c2
  obtain ⟨ns, hns⟩ : ∃ ns, ns = segs st.files := ⟨_, rfl⟩
  have hnw : ns.length ≤ 256 := by rw [hns]; exact Nat.le_trans (segs_length _) hok.few
  obtain ⟨R, hR⟩ : ∃ R, R = dropAll a g ns st := ⟨_, rfl⟩
  have HS := Lib.hid (ls_segments h hL hok)
  rw [← hns] at HS ⊢
  rw [← hR]
  have HRR := Lib.hid hR
  have HOK := Lib.hid hok
  have HST := Lib.hid hst
  obtain ⟨s0, hs0⟩ : ∃ s0, s0 = st.steps := ⟨_, rfl⟩
  have hst0 : s0 + 257 ≤ 9223372036854775807 := by omega
  have HS0 := Lib.hid hs0
  clear h hok hst hns hR hs0
  go_enter Tryd.func17, Tryd.ntmps17
  go_wp2_with (go_at_call 19; ((with_reducible refine HS.out.mono ?_); rintro e w1 ⟨AN, nn, cn, rfl, hnn, hnc, hr1, h1, hk1⟩; have H1 := Lib.hid h1; have HN1 := Lib.hid hr1; have HK1 := Lib.hid hk1; clear h1 hr1 hk1))
  subst hnn
  go_loopw [15] (DrInv w0 w X b d g a s0 ns AN R ns.length) (fun x _ => ns.length - (intOf x).toNat)
  case atStart => exact ⟨0, st, by omega, rfl, ⟨H1.out, HOK.out, by rw [HS0.out]; omega, HRR.out.symm, HN1.out, HK1.out⟩⟩
  case round =>
    clear H1 HN1 HK1
    obtain ⟨i, s1, hi, rfl, HK⟩ := hrel
    by_cases hlt : i < ns.length
    · obtain ⟨n, hn⟩ : ∃ n, ns[i]? = some n := ⟨ns[i]'(by omega), List.getElem?_eq_getElem _⟩
      obtain ⟨gn, on, rfl, hgn, q0⟩ := HK.out.num.at_ (i := i) (by rw [ints_len]; omega)
      have q1 : wr.cell? ⟨gn, on + i, none⟩ = some (.int .i64 n) := by
        rw [q0]
        simp only [ints, List.getElem_map, Option.some.injEq]
        rw [(List.getElem?_eq_some_iff.1 hn).2]
      have q3 := HK.out.ls.c1
      have hS1 := HK.out.ls.lc
      have hlt' : (i : Int) < (ns.length : Int) := by omega
      have hdr : ns.drop i = n :: ns.drop (i + 1) := by
        rw [List.drop_eq_getElem_cons hlt, (List.getElem?_eq_some_iff.1 hn).2]
      have hrun := HK.out.run
      rw [hdr] at hrun
      have HRUN := Lib.hid hrun
      have hsp := HK.out.steps
      clear q0 hn hdr hrun c2
      by_cases hsk : a ≤ n ∨ n = g
      · by_cases han : a ≤ n
        · go_wp2
          go_roundw
          case rel => exact ⟨i + 1, s1, by omega, by go_num, HK.out.ls, HK.out.ok, by omega, by rw [← HRUN.out, drop_skip hsk], HK.out.num, HK.out.frame⟩
          case measure => simp [intOf]; omega
        · have hng : n = g := hsk.resolve_left han
          have e9 : (n == g) = true := by simp [hng]
          go_wp2
          go_roundw
          case rel => exact ⟨i + 1, s1, by omega, by go_num, HK.out.ls, HK.out.ok, by omega, by rw [← HRUN.out, drop_skip hsk], HK.out.num, HK.out.frame⟩
          case measure => simp [intOf]; omega
      · have han : ¬ a ≤ n := fun k => hsk (.inl k)
        have hng : ¬ n = g := fun k => hsk (.inr k)
        have e9 : (n == g) = false := by rw [beq_eq_false_iff_ne]; exact hng
        obtain ⟨q, hq⟩ : ∃ q, q = (⟨(seg n).toArray⟩ : ByteArray) := ⟨_, rfl⟩
        have HQ := Lib.hid hq
        have HN := Lib.hid (ls_name HK.out.ls.drew hL n HQ)
        have hst1 : s1.steps + 1 ≤ 9223372036854775807 := by omega
        have HD := Lib.hid (fun (W : World) (hW : LS w0 W (Xa X (some ⟨gn, on, none⟩)) b d g false s1) => ls_delete hW HK.out.ok hst1 HQ)
        obtain ⟨p, hp⟩ : ∃ p, p = s1.delete (seg n) := ⟨_, rfl⟩
        have hpo : p.1.Ok := by rw [hp]; exact HK.out.ok.delete _
        have hps : p.1.steps ≤ s0 + (i + 1) := by have := delete_steps s1 (seg n); rw [← hp] at this; omega
        have hgo := drop_go (r := ns.drop (i + 1)) (st := s1) hsk
        have hen := drop_end (r := ns.drop (i + 1)) (st := s1) hsk
        rw [← hp] at HD hgo hen
        have HGO := Lib.hid hgo
        have HEN := Lib.hid hen
        have HPO := Lib.hid hpo
        clear hq hp hsk hgo hen hpo
        obtain ⟨s2, k⟩ := p
        go_upto_region 7 with fail
        refine wp_region_held_drew (S := LC b d g) (by kernel_rfl) (by (first | (with_reducible assumption) | (with_reducible exact LC.drew (by assumption)))) (fun hHeld => ?_)
        refine wpAnyH_take (i := 0) (v := ?vr1_0) (Fr.take_at rfl) (by kernel_rfl) (by kernel_rfl) (by kernel_rfl) (fun _ _ _ h => h) (Or.inl ⟨by rfl, ?yr1_0⟩) (by assumption) ?nr1_0
        case yr1_0 => (intro w_ hSw; obtain ⟨q0, q5⟩ := hSw; go_simp; (try with_reducible rfl))
        try simp only [Act.put, List.setIfInBounds_toArray, List.set_cons_zero, List.set_cons_succ]
        refine wpAnyH_take (i := 1) (v := ?vr1_1) (Fr.take_at rfl) (by kernel_rfl) (by kernel_rfl) (by kernel_rfl) (fun _ _ _ h => h) (Or.inl ⟨by rfl, ?yr1_1⟩) (by assumption) ?nr1_1
        case yr1_1 => (intro w_ hSw; obtain ⟨q0, q5⟩ := hSw; go_simp; (try with_reducible rfl))
        try simp only [Act.put, List.setIfInBounds_toArray, List.set_cons_zero, List.set_cons_succ]
        refine wpAnyH_take (i := 2) (v := ?vr1_2) (Fr.take_at rfl) (by kernel_rfl) (by kernel_rfl) (by kernel_rfl) (fun _ _ _ h => h) (Or.inl ⟨by rfl, ?yr1_2⟩) (by assumption) ?nr1_2
        case yr1_2 => (intro w_ hSw; obtain ⟨q0, q5⟩ := hSw; go_simp; (try with_reducible rfl))
        try simp only [Act.put, List.setIfInBounds_toArray, List.set_cons_zero, List.set_cons_succ]
        refine wpAnyH_take (i := 3) (v := ?vr1_3) (Fr.take_at rfl) (by kernel_rfl) (by kernel_rfl) (by kernel_rfl) (fun _ _ _ h => h) (Or.inl ⟨by rfl, ?yr1_3⟩) (by assumption) ?nr1_3
        case yr1_3 => (intro w_ hSw; obtain ⟨q0, q5⟩ := hSw; go_simp; (try with_reducible rfl))
        try simp only [Act.put, List.setIfInBounds_toArray, List.set_cons_zero, List.set_cons_succ]
        refine wpAnyH_take (i := 4) (v := ?vr1_4) (Fr.take_at rfl) (by kernel_rfl) (by kernel_rfl) (by kernel_rfl) (fun _ _ _ h => h) (Or.inl ⟨by rfl, ?yr1_4⟩) (by assumption) ?nr1_4
        case yr1_4 => (intro w_ hSw; obtain ⟨q0, q5⟩ := hSw; go_simp; (try with_reducible rfl))
        try simp only [Act.put, List.setIfInBounds_toArray, List.set_cons_zero, List.set_cons_succ]
        refine wpAnyH_take (i := 5) (v := ?vr1_5) (Fr.take_at rfl) (by kernel_rfl) (by kernel_rfl) (by kernel_rfl) (fun _ _ _ h => h) (Or.inl ⟨by rfl, ?yr1_5⟩) (by assumption) ?nr1_5
        case yr1_5 => (intro w_ hSw; obtain ⟨q0, q5⟩ := hSw; go_simp; (try with_reducible rfl))
        try simp only [Act.put, List.setIfInBounds_toArray, List.set_cons_zero, List.set_cons_succ]
        refine wpAnyH_ready (rs := [6]) (by kernel_rfl) (by simp) ?_
        refine AllReadyH.cons (Fr.take_at rfl) (fun K hK => ?_) AllReadyH.nil
        go_simp
        (go_at_call 27; refine HN.out.mono ?_; rintro e w5 ⟨rfl, h7, hb7⟩; have hS5 := h7.lc; have H7 := Lib.hid h7; have HB7 := Lib.hid hb7; clear h7 hb7)
        try go_wp2_with fail
        refine hK.out _ _ (by (first | (with_reducible assumption) | (with_reducible exact LC.drew (by assumption)))) (fun hHeld => ?_)
        clear hK K
        try simp only [Act.put, List.setIfInBounds_toArray, List.set_cons_zero, List.set_cons_succ]
        refine wpAnyH_ready (rs := [7]) (by kernel_rfl) (by simp) ?_
        refine AllReadyH.cons (Fr.take_at rfl) (fun K hK => ?_) AllReadyH.nil
        go_simp
        (go_at_call 31; refine (HD.out _ H7.out).mono ?_; rintro e w6 ⟨rfl, h8, hk8⟩; have hS6 := h8.lc; have H8 := Lib.hid h8; have HK8 := Lib.hid hk8; clear h8 hk8)
        try go_wp2_with fail
        refine hK.out _ _ (by (first | (with_reducible assumption) | (with_reducible exact LC.drew (by assumption)))) (fun hHeld => ?_)
        clear hK K
        try simp only [Act.put, List.setIfInBounds_toArray, List.set_cons_zero, List.set_cons_succ]
        refine wpAnyH_ready (rs := [8]) (by kernel_rfl) (by simp) ?_
        refine AllReadyH.cons (Fr.take_at rfl) (fun K hK => ?_) AllReadyH.nil
        go_simp
        (go_at_call 29; refine (ls_noted H8.out k).mono ?_; rintro e w7 ⟨rfl, h9, hk9⟩; have hS7 := h9.lc; have H9 := Lib.hid h9; have HK9 := Lib.hid hk9; clear h9 hk9)
        try go_wp2_with fail
        refine hK.out _ _ (by (first | (with_reducible assumption) | (with_reducible exact LC.drew (by assumption)))) (fun hHeld => ?_)
        clear hK K
        try simp only [Act.put, List.setIfInBounds_toArray, List.set_cons_zero, List.set_cons_succ]
        refine wpAnyH_take (i := 9) (v := ?vr1_9) (Fr.take_at rfl) (by kernel_rfl) (by kernel_rfl) (by kernel_rfl) (fun _ _ _ h => h) (Or.inl ⟨by rfl, ?yr1_9⟩) (by assumption) ?nr1_9
        case yr1_9 => (intro w_ hSw; obtain ⟨q0, q5⟩ := hSw; go_simp; (try with_reducible rfl))
        try simp only [Act.put, List.setIfInBounds_toArray, List.set_cons_zero, List.set_cons_succ]
        refine wpAnyH_done (by kernel_rfl) ?_ _
        have hfr : ∀ x, Xa X (some ⟨gn, on, none⟩) x → w7.heap[x]? = wr.heap[x]? := fun x hx => (HK9.out x hx).trans ((HK8.out x hx).trans ((below_of_drew HB7.out).block x (HK.out.ls.xlt hx)))
        have HFR := Lib.hid hfr
        clear hfr
        by_cases hk0 : k = 0
        · subst hk0
          go_wp2
          go_roundw
          case rel => exact ⟨i + 1, s2, by omega, by go_num, H9.out, HPO.out, hps, by rw [← HRUN.out, HGO.out rfl], row_on HK.out.num HFR.out, fun x hx => (HFR.out x (.inl hx)).trans (HK.out.frame x hx)⟩
          case measure => simp [intOf]; omega
        · have e8 : ((k : Int) == 0) = false := by rw [beq_eq_false_iff_ne]; omega
          go_wp2
          go_ret
          rw [← HRUN.out, HEN.out hk0]
          exact ⟨rfl, H9.out.weak fun _ hk => .inl hk, fun x hx => (HFR.out x (.inl hx)).trans (HK.out.frame x hx)⟩
    · obtain rfl : i = ns.length := by omega
      have hlt' : ¬ (ns.length : Int) < (ns.length : Int) := by omega
      go_wp2
      go_ret
      have h9 := HK.out.run
      rw [List.drop_length] at h9
      rw [← h9]
      exact ⟨rfl, HK.out.ls.weak fun _ hk => .inl hk, HK.out.frame⟩
end

end Wl
end Go.Proofs.YtnijonjepgdinaaDoor
