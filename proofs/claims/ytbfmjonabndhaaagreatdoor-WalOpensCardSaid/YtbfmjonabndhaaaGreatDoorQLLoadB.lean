/-
  WHAT IS PROVED: (1) what Load answers. CONDITIONS: the names and the files stand in memory as named.
-/
import Derived.Test.YtbfmjonabndhaaaGreatDoorQLLoadA
import Derived.Test.YtbfmjonabndhaaaGreatDoorQDWalkG
namespace Go.Proofs.YtbfmjonabndhaaaGreatDoor
open Go Go.RowKit Go.Maps Go.Proofs.YtbfmjonabndhaaaGreatDoor.Fr
namespace Dr
def LdInv (w : World) (b2 mb2 : Nat) (ps : List (Bs × Bs)) (n : Nat) (s19 : Value) (wr : World) : Prop := ∃ i : Nat, i ≤ n ∧ s19 = .int .i64 (i : Int) ∧ Fills w wr b2 mb2 (loaded (ps.take i))
def LoadBad (k : Nat) (w : World) (e : Ending) (w' : World) : Prop := e = .returned (.tuple #[.pointer none, .int .i64 (k : Int)]) ∧ Below w.heap.size w w'
def LoadOk (st : St) (w : World) (e : Ending) (w' : World) : Prop := ∃ b, e = .returned (.tuple #[.pointer (some ⟨b, 0, none⟩), .int .i64 0]) ∧ DriveRep w' (New w w') b st ∧ Below w.heap.size w w'
section
theorem load_bad (w : World) (A : Option Addr) (n c : Nat) (ns : List Bs) (hl : ns.length = n) (h : Nms w A ns) (hn : n ≤ 1000) (A2 : Option Addr) (n2 c2 : Nat) (K : List BM) (hl2 : K.length = n2) (h2 : BRows w A2 K) (hn2 : n2 ≤ 1000) {k : Nat} (hk : loadErr ns (K.map (·.l)) = k) (hk0 : k ≠ 0) :
    Calls Tryz.prog 6 #[.slice A n c, .slice A2 n2 c2] w (LoadBad k w) := by
  have HE := Lib.hid (loadError_any w A n c ns hl h hn A2 n2 c2 K hl2 h2 hn2)
  rw [hk] at HE
  have k1 : ((k : Int) == 0) = false := by rw [beq_eq_false_iff_ne]; omega
  have k2 : ((k : Int) != 0) = true := by rw [bne, k1]; rfl
  clear hl h hl2 h2 hk
  go_enter Tryz.func6, Tryz.ntmps6
  go_wp2_with (go_at_call 18; refine HE.out.mono ?_; rintro e w1 ⟨rfl, hb1⟩)
  go_ret2
  exact ⟨rfl, hb1⟩
set_option maxRecDepth 100000 in
set_option maxHeartbeats 2000000 in
theorem load_ok (w : World) (A : Option Addr) (n c : Nat) (ns : List Bs) (hl : ns.length = n) (h : Nms w A ns) (hn : n ≤ 1000) (A2 : Option Addr) (c2 : Nat) (K : List BM) (hl2 : K.length = n) (h2 : BRows w A2 K) (hk : loadErr ns (K.map (·.l)) = 0) :
    Calls Tryz.prog 6 #[.slice A n c, .slice A2 n c2] w (LoadOk (loadSt ns (K.map (·.l))) w) := by
  have HE := Lib.hid (loadError_any w A n c ns hl h hn A2 n c2 K hl2 h2 hn)
  rw [hk] at HE
  have HL := Lib.hid hl
  have HN := Lib.hid h
  have HL2 := Lib.hid hl2
  have HF := Lib.hid h2
  have hc1 := fun W => new_any W
  have HC1 := Lib.hid hc1
  clear hl h hl2 h2 hk hc1
  go_enter Tryz.func6, Tryz.ntmps6
  go_wp2_with (first
    | (go_at_call 18; refine HE.out.mono ?_; rintro e w1 ⟨rfl, hb1⟩)
    | (go_at_call 15; refine (HC1.out _).mono ?_; rintro e w2 ⟨b2, rfl, ⟨mb2, Q2, hat0, hf0, hlt0⟩, hb2⟩))
  have hfl : Fills w w2 b2 mb2 [] := ⟨⟨Q2, hat0, fun k hk => ⟨by have := (hf0 k hk).1; have := hb1.size; omega, (hf0 k hk).2⟩⟩, hb1.trans (hb2.mono hb1.size)⟩
  clear hat0 hf0 hlt0 hb1 hb2
  go_loopw [19] (LdInv w b2 mb2 (ns.zip (K.map (·.l))) n) (fun x _ => n - (intOf x).toNat)
  case atStart => exact ⟨0, by omega, rfl, hfl⟩
  case round =>
    clear hfl
    obtain ⟨i, hi, rfl, hfl⟩ := hrel
    have HFL := Lib.hid hfl
    by_cases hlt : i < n
    · obtain ⟨x, hx⟩ : ∃ x, ns[i]? = some x := ⟨ns[i]'(by have := HL.out; omega), List.getElem?_eq_getElem _⟩
      obtain ⟨k, hk⟩ : ∃ k, K[i]? = some k := ⟨K[i]'(by have := HL2.out; omega), List.getElem?_eq_getElem _⟩
      obtain ⟨gn, pn, rfl, hgn, hcn⟩ := (HN.out.below hfl.below).cell hx
      obtain ⟨gf, pf, rfl, hgf, hcf⟩ := (HF.out.below hfl.below).cell i k hk
      obtain ⟨hkl, hkc, hkm, hkr⟩ := (HF.out.below hfl.below).rows k (List.mem_of_getElem? hk)
      have hs := HN.out.s x (List.mem_of_getElem? hx)
      have HTK : Hid (loaded ((ns.zip (K.map (·.l))).take (i + 1)) = put (loadF x k.l) (loaded ((ns.zip (K.map (·.l))).take i))) := by
        have : (ns.zip (K.map (·.l)))[i]? = some (x, k.l) := by rw [List.getElem?_zip_eq_some]; exact ⟨hx, by rw [List.getElem?_map, hk]; rfl⟩
        show loaded _ = _
        rw [List.take_add_one, this]
        exact loaded_snoc _ (x, k.l)
      obtain ⟨Q3, hat3, hf3⟩ := hfl.at_
      have cb2 := hfl.c0
      have hbl2 : b2 < wr.heap.size := hat3.head.lt
      have hQl3 : (Q3.map Ent.nb).length < maxLen := by
        have h1 := hat3.length
        have h2 := (loadedP ((ns.zip (K.map (·.l))).take i)).len
        rw [List.length_take] at h2
        dsimp only at h1
        rw [List.length_map]; unfold maxLen; omega
      have HST : Hid (∀ w4 : World, Below wr.heap.size wr w4 → ∀ g4 : Nat, ∃ w5, (Instr.mapUpdate 57 (.map (some mb2)) (.string ⟨x.toArray⟩) (.pointer (some ⟨g4, 0, none⟩))).run Tryz.prog w4 = .ok () w5 ∧ MapAt Tryz.prog 9 w5 mb2 (putBy (fun p : NB => p.1) (x, g4) (Q3.map Ent.nb)) ∧ w4.grownBy w5 (some mb2) ∧ w5.heap.size = w4.heap.size) :=
        fun w4 hb4 g4 => (hat3.map.same (hb4.block mb2 hat3.map.lt)).store Tryz.underlying9 Tryz.underlying57 hQl3 hs g4
      have hne2 : b2 ≠ mb2 := hat3.map_ne_head.symm
      have hnef : gf ≠ mb2 := by
        have := hfl.below.size
        have := (hf3 mb2 (.inr (.inl rfl))).1
        obtain ⟨_, _, e, h1, _⟩ := HF.out.cell i k hk
        cases e
        omega
      have HAT3 := Lib.hid hat3
      have HF3 := Lib.hid hf3
      have HSY : Hid (∀ W : World, Below wr.heap.size wr W → Calls Tryz.prog 19 #[.slice k.A k.n k.c] W (SFile W k.l)) :=
        fun W hW => synced_any k.A k.n k.c k.l W hkl (hkr.below hW) (by omega)
      have hlt' : (i : Int) < (n : Int) := by omega
      clear hx hk hat3 hf3 hfl hkl hkc hkm hkr hs
      go_upto_region 8 with fail
      refine wp_region_held_drew (S := fun W => W.cell? ⟨b2, 0, none⟩ = some (.map (some mb2)) ∧ W.cell? ⟨gf, pf + i, none⟩ = some (.slice k.A k.n k.c)) (by kernel_rfl) (by (first | exact ⟨by assumption, by assumption⟩ | go_keep)) (fun hHeld => ?_)
      refine wpAnyH_take (i := 0) (v := ?vr1_0) (Fr.take_at rfl) (by kernel_rfl) (by kernel_rfl) (by kernel_rfl) (fun _ _ _ h => h) (Or.inl ⟨by rfl, ?yr1_0⟩) (by assumption) ?nr1_0
      case yr1_0 => (intro w_ hSw; (try dsimp only at hSw); go_simp; (try with_reducible rfl))
      try simp only [Act.put, List.setIfInBounds_toArray, List.set_cons_zero, List.set_cons_succ]
      refine wpAnyH_take (i := 1) (v := ?vr1_1) (Fr.take_at rfl) (by kernel_rfl) (by kernel_rfl) (by kernel_rfl) (fun _ _ _ h => h) (Or.inl ⟨by rfl, ?yr1_1⟩) (by assumption) ?nr1_1
      case yr1_1 => (intro w_ hSw; (try dsimp only at hSw); go_simp; (try with_reducible rfl))
      try simp only [Act.put, List.setIfInBounds_toArray, List.set_cons_zero, List.set_cons_succ]
      refine wpAnyH_take (i := 2) (v := ?vr1_2) (Fr.take_at rfl) (by kernel_rfl) (by kernel_rfl) (by kernel_rfl) (fun _ _ _ h => h) (Or.inl ⟨by rfl, ?yr1_2⟩) (by assumption) ?nr1_2
      case yr1_2 => (intro w_ hSw; (try dsimp only at hSw); go_simp; (try with_reducible rfl))
      try simp only [Act.put, List.setIfInBounds_toArray, List.set_cons_zero, List.set_cons_succ]
      refine wpAnyH_take (i := 3) (v := ?vr1_3) (Fr.take_at rfl) (by kernel_rfl) (by kernel_rfl) (by kernel_rfl) (fun _ _ _ h => h) (Or.inl ⟨by rfl, ?yr1_3⟩) (by assumption) ?nr1_3
      case yr1_3 => (intro w_ hSw; (try dsimp only at hSw); go_simp; (try with_reducible rfl))
      try simp only [Act.put, List.setIfInBounds_toArray, List.set_cons_zero, List.set_cons_succ]
      refine wpAnyH_take (i := 4) (v := ?vr1_4) (Fr.take_at rfl) (by kernel_rfl) (by kernel_rfl) (by kernel_rfl) (fun _ _ _ h => h) (Or.inl ⟨by rfl, ?yr1_4⟩) (by assumption) ?nr1_4
      case yr1_4 => (intro w_ hSw; (try dsimp only at hSw); go_simp; (try with_reducible rfl))
      try simp only [Act.put, List.setIfInBounds_toArray, List.set_cons_zero, List.set_cons_succ]
      refine wpAnyH_take (i := 5) (v := ?vr1_5) (Fr.take_at rfl) (by kernel_rfl) (by kernel_rfl) (by kernel_rfl) (fun _ _ _ h => h) (Or.inl ⟨by rfl, ?yr1_5⟩) (by assumption) ?nr1_5
      case yr1_5 => (intro w_ hSw; (try dsimp only at hSw); go_simp; (try with_reducible rfl))
      try simp only [Act.put, List.setIfInBounds_toArray, List.set_cons_zero, List.set_cons_succ]
      refine wpAnyH_take (i := 6) (v := ?vr1_6) (Fr.take_at rfl) (by kernel_rfl) (by kernel_rfl) (by kernel_rfl) (fun _ _ _ h => h) (Or.inl ⟨by rfl, ?yr1_6⟩) (by assumption) ?nr1_6
      case yr1_6 => (intro w_ hSw; (try dsimp only at hSw); go_simp; (try with_reducible rfl))
      try simp only [Act.put, List.setIfInBounds_toArray, List.set_cons_zero, List.set_cons_succ]
      refine wpAnyH_take (i := 7) (v := ?vr1_7) (Fr.take_at rfl) (by kernel_rfl) (by kernel_rfl) (by kernel_rfl) (fun _ _ _ h => h) (Or.inl ⟨by rfl, ?yr1_7⟩) (by assumption) ?nr1_7
      case yr1_7 => (intro w_ hSw; (try dsimp only at hSw); go_simp; (try with_reducible rfl))
      try simp only [Act.put, List.setIfInBounds_toArray, List.set_cons_zero, List.set_cons_succ]
      refine wpAnyH_take (i := 8) (v := ?vr1_8) (Fr.take_at rfl) (by kernel_rfl) (by kernel_rfl) (by kernel_rfl) (fun _ _ _ h => h) (Or.inl ⟨by rfl, ?yr1_8⟩) (by assumption) ?nr1_8
      case yr1_8 => (intro w_ hSw; (try dsimp only at hSw); go_simp; (try with_reducible rfl))
      try simp only [Act.put, List.setIfInBounds_toArray, List.set_cons_zero, List.set_cons_succ]
      refine wpAnyH_ready (rs := [9]) (by kernel_rfl) (by simp) ?_
      refine AllReadyH.cons (Fr.take_at rfl) (fun K hK => ?_) AllReadyH.nil
      go_simp
      (go_at_call 19; refine (HSY.out _ (below_drewN (Below.refl _ _) 1)).mono ?_; rintro r w4 ⟨g4, v4, rfl, hblk4, hown4, hge4, hb4⟩; have hb4' := below_of_drewN (n := 1) hb4; have cb4 := (hb4'.cell (p := ⟨b2, 0, none⟩) hbl2).trans cb2; have d4 := (hb4'.cell (p := ⟨gf, pf + i, none⟩) hgf).trans hcf; obtain ⟨w5, hrun5, hm5, hg5, _⟩ := HST.out w4 hb4' g4; have cb5 := cell_past hg5 (Nat.lt_of_lt_of_le hbl2 hb4'.size) hne2 cb4; have d5 := cell_past hg5 (Nat.lt_of_lt_of_le hgf hb4'.size) hnef d4)
      try go_wp2_with fail
      refine hK.out _ _ (by (first | exact ⟨by assumption, by assumption⟩ | go_keep)) (fun hHeld => ?_)
      clear hK K
      try simp only [Act.put, List.setIfInBounds_toArray, List.set_cons_zero, List.set_cons_succ]
      refine wpAnyH_ready (rs := [10]) (by kernel_rfl) (by simp) ?_
      refine AllReadyH.cons (Fr.take_at rfl) (fun K hK => ?_) AllReadyH.nil
      go_simp
      refine hK.out _ _ (by (first | exact ⟨by assumption, by assumption⟩ | go_keep)) (fun hHeld => ?_)
      clear hK K
      try simp only [Act.put, List.setIfInBounds_toArray, List.set_cons_zero, List.set_cons_succ]
      refine wpAnyH_done (by kernel_rfl) ?_ _
      go_wp2
      go_roundw
      case rel => exact ⟨i + 1, by omega, by go_num, by rw [HTK.out]; exact fills_put (f' := loadF x k.l) HAT3.out HF3.out HFL.out.below hb4' rfl hblk4 hown4 hge4 hm5 hg5⟩
      case measure => simp [intOf]; omega
    · obtain rfl : i = n := by omega
      clear hfl
      go_wp2
      go_ret2
      have htk : (ns.zip (K.map (·.l))).take i = ns.zip (K.map (·.l)) := List.take_of_length_le (by rw [List.length_zip, List.length_map]; have := HL.out; omega)
      obtain ⟨⟨Q3, hat3, hf3⟩, hbw⟩ := HFL.out
      rw [htk] at hat3
      exact ⟨b2, rfl, ⟨mb2, Q3, hat3, hf3, fun k hk => hk.2⟩, hbw⟩
end
end Dr
end Go.Proofs.YtbfmjonabndhaaaGreatDoor
