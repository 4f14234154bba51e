/-
  WHAT IS PROVED: what Crash does. CONDITIONS: the drive stands in memory as the plain one says; the numbers that come in are read as named.
-/
import Derived.Test.YtnijonjepgdinaaDoorDCrash
namespace Go.Proofs.YtnijonjepgdinaaDoor
open Go Go.RowKit Go.Maps Go.Proofs.YtnijonjepgdinaaDoor.Fr
namespace Dr

/-- The loop's state. -/
def CInv (w : World) (b2 mb2 : Nat) (fs : List Fl) (ks : List Int) (A2 : Option Addr) (n2 c2 : Nat) (s1 s15 : Value) (wr : World) : Prop :=
  ∃ (i : Nat) (A' : Option Addr) (m' c' : Nat) (kr : List Int), i ≤ n2 ∧ s15 = .int .i64 (i : Int) ∧ s1 = .slice A' m' c' ∧ rest (fs.take i) ks = kr ∧ kr.length = m' ∧ m' ≤ c' ∧ Rd w A' (iv kr) ∧ wr.ownsRow w.heap.size 9 1 (.slice A2 n2 c2) n2 ((fs.map (·.name)).map encStr) ∧ Fills w wr b2 mb2 (cuts (fs.take i) ks)
theorem info_int : (Tryd.prog.info? 3).map (fun i => (i.zero, i.size, i.bytes)) = some (some (.int .i64 0), 1, 8) := by kernel_rfl
/-- The state behind a round. -/
theorem cinv_step {w wr w4 w5 : World} {b2 mb2 : Nat} {fs : List Fl} {ks : List Int} {A2 : Option Addr} {n2 c2 : Nat} {i : Nat} {f : Fl} {kr kr2 : List Int} {E : Nat} {A3 : Option Addr} {m3 c3 : Nat} {Q3 : List Ent} {g : Nat} {v : Value}
    (hr : Rising fs) (hi : fs[i]? = some f) (hin : i < n2) (hkr : rest (fs.take i) ks = kr) (hE : keepN f kr = E) (hk2 : (cut1 f kr).2 = kr2) (hl3 : kr2.length = m3) (hmc3 : m3 ≤ c3) (hr3 : Rd w A3 (iv kr2))
    (hown : wr.ownsRow w.heap.size 9 1 (.slice A2 n2 c2) n2 ((fs.map (·.name)).map encStr)) (hat : DriveAt wr b2 mb2 { files := cuts (fs.take i) ks, steps := 0, armed := false, left := 0 } Q3) (hfoot : ∀ k, footD b2 mb2 Q3 k → New w wr k) (hbw : Below w.heap.size w wr)
    (hW : Below wr.heap.size wr w4) (hg : Blk w4 g 60 #[v, .int .i64 (E : Int)]) (ho : w4.ownsRow wr.heap.size 5 1 v E (bv (f.dat.take E))) (hge : wr.heap.size ≤ g)
    (hm : MapAt Tryd.prog 9 w5 mb2 (putBy (fun p : NB => p.1) (f.name, g) (Q3.map Ent.nb))) (hg5 : w4.grownBy w5 (some mb2)) :
    CInv w b2 mb2 fs ks A2 n2 c2 (.slice A3 m3 c3) (.int .i64 ((i : Int) + 1)) w5 := by
  obtain ⟨e1, e2⟩ := cuts_take_succ hi ks
  obtain ⟨e3, e4⟩ := cut1_eq f kr
  rw [hkr] at e1 e2
  rw [hE] at e3 e4
  rw [e3] at e1
  have hlen : (f.dat.take E).length = E := by rw [List.length_take]; omega
  have hnb := names_below hr hi ks
  have hput := put_last (f := { name := f.name, dat := f.dat.take E, syn := E }) hnb
  have hfill := fills_put (f' := { name := f.name, dat := f.dat.take E, syn := E }) hat hfoot hbw hW hlen.symm (by rw [hlen]; exact hg) (by rw [hlen]; exact ho) hge hm hg5
  rw [hput, ← e1] at hfill
  refine ⟨i + 1, A3, m3, c3, kr2, hin, by go_num, rfl, e2.trans hk2, hl3, hmc3, hr3, ?_, hfill⟩
  refine own_same hown fun k hk => ?_
  have hkl := (hown.lt k hk).2
  obtain ⟨cur, hc⟩ := own_blk hown hk
  have hne : mb2 ≠ k := by rintro rfl; exact hat.map.not_cells hc
  rw [hg5.block k (Nat.lt_of_lt_of_le hkl hW.size) (fun e => hne (Option.some.inj e).symm), hW.block k hkl]
theorem len_tail {k : Int} {kr : List Int} {m : Nat} (h : (k :: kr).length = m) : kr.length = m - 1 := by simp at h; omega
theorem sf_len {d : Bs} {E : Nat} (hE : E ≤ d.length) : (d.take E).length = E := by rw [List.length_take]; omega
theorem sf_blk {w : World} {g : Nat} {v : Value} {d : Bs} {E : Nat} (h : Blk w g 60 #[v, .int .i64 ((d.take E).length : Int)]) (hE : E ≤ d.length) : Blk w g 60 #[v, .int .i64 (E : Int)] := by rw [sf_len hE] at h; exact h
theorem sf_own {w : World} {base : Nat} {v : Value} {d : Bs} {E : Nat} (h : w.ownsRow base 5 1 v (d.take E).length (bv (d.take E))) (hE : E ≤ d.length) : w.ownsRow base 5 1 v E (bv (d.take E)) := by rw [sf_len hE] at h; exact h
theorem cell_past {w w' : World} {m b i : Nat} {v : Option Value} (hg : w.grownBy w' (some m)) (hb : b < w.heap.size) (hne : b ≠ m) (h : w.cell? ⟨b, i, none⟩ = v) : w'.cell? ⟨b, i, none⟩ = v :=
  (World.cell?_of_block (a := ⟨b, i, none⟩) (hg.block b hb fun e => hne (Option.some.inj e))).trans h
section
variable {w : World} {b : Nat} {st : St} {S : Nat → Prop}
set_option maxRecDepth 100000 in
set_option maxHeartbeats 2000000 in
theorem crash_any (h : DriveRep w S b st) (hok : st.Ok) (A : Option Addr) (m c : Nat) (ks : List Int) (hl : ks.length = m) (hmc : m ≤ c) (hr : Rd w A (iv ks)) :
    Calls Tryd.prog 12 #[.pointer (some ⟨b, 0, none⟩), .slice A m c] w (DNew w (st.crash ks)) := by
  have hc1 := new_any w
  have HH := Lib.hid h
  have HOK := Lib.hid hok
  have HKS := Lib.hid hl
  have hfew := hok.few
  clear hl h hok
  go_enter Tryd.func12, Tryd.ntmps12
  go_wp2_with (first
    | (go_at_call 6; refine hc1.mono ?_; rintro e w1 ⟨b2, rfl, ⟨mb2, Q2, hat0, hf0, hlt0⟩, hb1⟩; have hn1 := names_any (HH.out.below hb1) HOK.out)
    | (go_at_call 23; refine hn1.mono ?_; rintro e w2 ⟨A2, n2, c2, rfl, hl2, hn2, hown2, hb2⟩; have HL2 := Lib.hid hl2; clear hl2 hn1))
  have hbw2 : Below w.heap.size w w2 := hb1.trans (hb2.mono hb1.size)
  have hfl : Fills w w2 b2 mb2 [] := ⟨⟨Q2, hat0.same fun k hk => hb2.block k (hat0.lt k hk), fun k hk => ⟨(hf0 k hk).1, Nat.lt_of_lt_of_le (hf0 k hk).2 hb2.size⟩⟩, hbw2⟩
  have hown0 : w2.ownsRow w.heap.size 9 1 (.slice A2 n2 c2) n2 ((st.files.map (·.name)).map encStr) := own_mono hown2 hb1.size
  have hn2 : n2 ≤ 256 := by have := HL2.out; rw [List.length_map] at this; omega
  clear hown2 hb2 hat0 hf0 hlt0 hb1 hbw2 hc1
  go_loopw [1, 15] (CInv w b2 mb2 st.files ks A2 n2 c2) (fun _ x _ => n2 - (intOf x).toNat)
  case atStart => exact ⟨0, A, m, c, ks, Nat.zero_le _, rfl, rfl, rfl, HKS.out, hmc, hr, hown0, hfl⟩
  case round =>
    clear hown0 hfl hr hmc
    obtain ⟨i, A', m', c', kr, hi, rfl, rfl, hkr, hkl, hmc', hr', hown, hfl⟩ := hrel
    have HKR := Lib.hid hkr
    have HKL := Lib.hid hkl
    have HFL := Lib.hid hfl
    clear hkr hkl
    by_cases hlt : i < n2
    · obtain ⟨f, hf⟩ : ∃ f, st.files[i]? = some f := ⟨st.files[i]'(by have := HL2.out; rw [List.length_map] at this; omega), List.getElem?_eq_getElem _⟩
      have hfm : f ∈ st.files := List.mem_of_getElem? hf
      have hfo := HOK.out.file f hfm
      obtain ⟨hf1, hf2, hf3⟩ := hfo
      obtain ⟨mb, Q, hat, _, _⟩ := HH.out.below hfl.below
      obtain ⟨e, hq, rfl⟩ := find_ent hat (find_of_mem HOK.out.rising hfm)
      have hname : e.fl.name.length ≤ 32 := by
        simp only [nameOk, Bool.and_eq_true, decide_eq_true_eq] at hf3
        omega
      have hsz : (⟨e.fl.name.toArray⟩ : ByteArray).size ≤ maxLen := by show e.fl.name.toArray.size ≤ _; simp; unfold maxLen; omega
      have heq := (findBy_some hq).1
      obtain ⟨A0, c00, hrow, hc00, _⟩ := (hat.ents e heq).row_
      have d0 : wr.cell? ⟨e.blk, 0, none⟩ = some e.row := (hat.ents e heq).1.cell 0
      have d1 : wr.cell? ⟨e.blk, 1, none⟩ = some (.int .i64 (e.fl.syn : Int)) := (hat.ents e heq).1.cell 1
      have hrd : Rd wr A0 (bv e.fl.dat) := by have := (hat.ents e heq).2; rw [hrow] at this; exact Rd.own this
      rw [hrow] at d0
      have c0 := hat.c0
      have cb2 := hfl.c0
      have hm0 := hat.map
      have HV := Lib.hid (look_yes hq)
      have hloose := loose_some hat ⟨e.fl.name.toArray⟩ hsz hq hf1 hf2
      obtain ⟨g, o, rfl, hgl, hgc⟩ := (Rd.own hown).at_ (i := i) (by rw [List.length_map]; have := HL2.out; omega)
      have hgc' : wr.cell? ⟨g, o + i, none⟩ = some (encStr e.fl.name) := by
        rw [hgc]
        simp only [List.getElem_map, Option.some.injEq]
        rw [(List.getElem?_eq_some_iff.1 hf).2]
      have HF := Lib.hid hf
      have HQ := Lib.hid hq
      have HOWN := Lib.hid hown
      have HAT := Lib.hid hat
      have HROW := Lib.hid hrow
      have HRD := Lib.hid hrd
      have HR' := Lib.hid hr'
      clear hf hfm hf3 hq hat hown hgc hrow hrd hfl
      have hst3 : ∃ Q3, DriveAt wr b2 mb2 { files := cuts (st.files.take i) ks, steps := 0, armed := false, left := 0 } Q3 ∧ ∀ k, footD b2 mb2 Q3 k → New w wr k := HFL.out.at_
      obtain ⟨Q3, hat3, hf3⟩ := hst3
      have hbl2 : b2 < wr.heap.size := hat3.head.lt
      have hebl : e.blk < wr.heap.size := World.block_lt_of_cell? _ _ d0
      have hQl3 : (Q3.map Ent.nb).length < maxLen := by
        have h1 := hat3.length
        have h2 : (cuts (st.files.take i) ks).length ≤ i := by rw [cuts_length, List.length_take]; omega
        dsimp only at h1
        rw [List.length_map]; unfold maxLen; omega
      have HST : Hid (∀ w4 : World, Below wr.heap.size wr w4 → ∀ g4 : Nat, ∃ w5, (Instr.mapUpdate 47 (.map (some mb2)) (encStr e.fl.name) (.pointer (some ⟨g4, 0, none⟩))).run Tryd.prog w4 = .ok () w5 ∧ MapAt Tryd.prog 9 w5 mb2 (putBy (fun p : NB => p.1) (e.fl.name, g4) (Q3.map Ent.nb)) ∧ w4.grownBy w5 (some mb2) ∧ w5.heap.size = w4.heap.size) :=
        fun w4 hb4 g4 => (hat3.map.same (hb4.block mb2 hat3.map.lt)).store Tryd.underlying9 Tryd.underlying47 hQl3 hsz g4
      have hne2 : b2 ≠ mb2 := hat3.map_ne_head.symm
      have hneb : e.blk ≠ mb2 := by
        intro e1
        have := (HAT.out.ents e heq).1
        rw [e1] at this
        exact hat3.map.not_cells this
      have HAT3 := Lib.hid hat3
      have HF3 := Lib.hid hf3
      obtain ⟨iu, hiu, hzu, hzu1, hzu2⟩ := info_parts info_u8
      have HSYE : Hid (∀ E : Nat, E ≤ e.fl.dat.length → ∀ W : World, Below wr.heap.size wr W → Calls Tryd.prog 24 #[.slice A0 E c00] W (SFile W (e.fl.dat.take E))) :=
        fun E hE W hW => synced_any A0 E c00 (e.fl.dat.take E) W (by rw [List.length_take]; omega) (by rw [← bv_take]; exact (HRD.out.below hW).take E) (by omega)
      have hcutE := fun (E : Nat) (hE : E ≤ c00) => Fr.cut_to 42 5 iu Tryd.underlying42 (by kernel_rfl) hiu hzu1 A0 e.fl.dat.length c00 E .i64 (E : Int) rfl hE
      have HCE := Lib.hid hcutE
      clear hcutE hat3 hf3 hiu hzu hzu1 hzu2
      by_cases hfull : e.fl.syn = e.fl.dat.length
      · have h1 : (e.fl.dat.length : Int) ≤ (e.fl.syn : Int) := by omega
        have h1' : e.fl.dat.length ≤ e.fl.syn := by omega
        have HFULL := Lib.hid hfull
        have HSY : Hid (∀ W : World, Below wr.heap.size wr W → Calls Tryd.prog 24 #[.slice A0 e.fl.syn c00] W (SFile W (e.fl.dat.take e.fl.syn))) := HSYE.out e.fl.syn hf2
        obtain ⟨hk1, hk2⟩ := HCE.out e.fl.syn (by omega)
        clear hfull hr'
        go_wp2_with (first
          | (go_at_call 18; refine hloose.mono ?_; rintro r w3 ⟨rfl, q, rfl⟩)
          | (at_lookup; refine wpList_look _ rfl _ _ 47 rfl rfl hm0 Tryd.underlying9 Tryd.underlying47 (zeroP _) ⟨e.fl.name.toArray⟩ rfl hsz _ HV.out ?_))
        refine wp_region_held_drew (S := fun W => W.cell? ⟨b2, 0, none⟩ = some (.map (some mb2)) ∧ W.cell? ⟨e.blk, 0, none⟩ = some (.slice A0 e.fl.dat.length c00)) (by kernel_rfl) (by (first | exact ⟨by assumption, by assumption⟩ | go_keep)) (fun hHeld => ?_)
        refine wpAnyH_take (i := 0) (v := ?vr1_0) (Fr.take_at rfl) (by kernel_rfl) (by kernel_rfl) (by kernel_rfl) (fun _ _ _ h => h) (Or.inl ⟨by rfl, ?yr1_0⟩) (by assumption) ?nr1_0
        case yr1_0 => (intro w_ hSw; (try dsimp only at hSw); go_simp; (try with_reducible rfl))
        try simp only [Act.put, List.setIfInBounds_toArray, List.set_cons_zero, List.set_cons_succ]
        refine wpAnyH_take (i := 1) (v := ?vr1_1) (Fr.take_at rfl) (by kernel_rfl) (by kernel_rfl) (by kernel_rfl) (fun _ _ _ h => h) (Or.inl ⟨by rfl, ?yr1_1⟩) (by assumption) ?nr1_1
        case yr1_1 => (intro w_ hSw; (try dsimp only at hSw); go_simp; (try with_reducible rfl))
        try simp only [Act.put, List.setIfInBounds_toArray, List.set_cons_zero, List.set_cons_succ]
        refine wpAnyH_take (i := 2) (v := ?vr1_2) (Fr.take_at rfl) (by kernel_rfl) (by kernel_rfl) (by kernel_rfl) (fun _ _ _ h => h) (Or.inl ⟨by rfl, ?yr1_2⟩) (by assumption) ?nr1_2
        case yr1_2 => (intro w_ hSw; (try dsimp only at hSw); go_simp; (try with_reducible rfl))
        try simp only [Act.put, List.setIfInBounds_toArray, List.set_cons_zero, List.set_cons_succ]
        refine wpAnyH_take (i := 3) (v := ?vr1_3) (Fr.take_at rfl) (by kernel_rfl) (by kernel_rfl) (by kernel_rfl) (fun _ _ _ h => h) (Or.inl ⟨by rfl, ?yr1_3⟩) (by assumption) ?nr1_3
        case yr1_3 => (intro w_ hSw; (try dsimp only at hSw); go_simp; (try with_reducible rfl))
        try simp only [Act.put, List.setIfInBounds_toArray, List.set_cons_zero, List.set_cons_succ]
        refine wpAnyH_take (i := 4) (v := ?vr1_4) (Fr.take_at rfl) (by kernel_rfl) (by kernel_rfl) (by kernel_rfl) (fun _ _ _ h => h) (Or.inl ⟨by rfl, ?yr1_4⟩) (by assumption) ?nr1_4
        case yr1_4 => (intro w_ hSw; (try dsimp only at hSw); go_simp; (try with_reducible rfl))
        try simp only [Act.put, List.setIfInBounds_toArray, List.set_cons_zero, List.set_cons_succ]
        refine wpAnyH_take (i := 5) (v := ?vr1_5) (Fr.take_at rfl) (by kernel_rfl) (by kernel_rfl) (by kernel_rfl) (fun _ _ _ h => h) (Or.inl ⟨by rfl, ?yr1_5⟩) (by assumption) ?nr1_5
        case yr1_5 => (intro w_ hSw; (try dsimp only at hSw); go_simp; (try with_reducible rfl))
        try simp only [Act.put, List.setIfInBounds_toArray, List.set_cons_zero, List.set_cons_succ]
        refine wpAnyH_take (i := 6) (v := ?vr1_6) (Fr.take_at rfl) (by kernel_rfl) (by kernel_rfl) (by kernel_rfl) (fun _ _ _ h => h) (Or.inl ⟨by rfl, ?yr1_6⟩) (by assumption) ?nr1_6
        case yr1_6 => (intro w_ hSw; (try dsimp only at hSw); go_simp; (try with_reducible rfl))
        try simp only [Act.put, List.setIfInBounds_toArray, List.set_cons_zero, List.set_cons_succ]
        refine wpAnyH_take (i := 7) (v := ?vr1_7) (Fr.take_at rfl) (by kernel_rfl) (by kernel_rfl) (by kernel_rfl) (fun _ _ _ h => h) (Or.inl ⟨by rfl, ?yr1_7⟩) (by assumption) ?nr1_7
        case yr1_7 => (intro w_ hSw; (try dsimp only at hSw); go_simp; (try with_reducible rfl))
        try simp only [Act.put, List.setIfInBounds_toArray, List.set_cons_zero, List.set_cons_succ]
        refine wpAnyH_take (i := 8) (v := ?vr1_8) (Fr.take_at rfl) (by kernel_rfl) (by kernel_rfl) (by kernel_rfl) (fun _ _ _ h => h) (Or.inl ⟨by rfl, ?yr1_8⟩) (by assumption) ?nr1_8
        case yr1_8 => (intro w_ hSw; (try dsimp only at hSw); go_simp; (try with_reducible rfl))
        try simp only [Act.put, List.setIfInBounds_toArray, List.set_cons_zero, List.set_cons_succ]
        refine wpAnyH_take (i := 9) (v := ?vr1_9) (Fr.take_at rfl) (by kernel_rfl) (by kernel_rfl) (by kernel_rfl) (fun _ _ _ h => h) (Or.inl ⟨by rfl, ?yr1_9⟩) (by assumption) ?nr1_9
        case yr1_9 => (intro w_ hSw; (try dsimp only at hSw); go_simp; (try with_reducible rfl))
        try simp only [Act.put, List.setIfInBounds_toArray, List.set_cons_zero, List.set_cons_succ]
        refine wpAnyH_take (i := 10) (v := ?vr1_10) (Fr.take_at rfl) (by kernel_rfl) (by kernel_rfl) (by kernel_rfl) (fun _ _ _ h => h) (Or.inl ⟨by rfl, ?yr1_10⟩) (by assumption) ?nr1_10
        case yr1_10 => (intro w_ hSw; (try dsimp only at hSw); go_simp; (try with_reducible rfl))
        try simp only [Act.put, List.setIfInBounds_toArray, List.set_cons_zero, List.set_cons_succ]
        refine wpAnyH_ready (rs := [11]) (by kernel_rfl) (by simp) ?_
        refine AllReadyH.cons (Fr.take_at rfl) (fun K hK => ?_) AllReadyH.nil
        go_simp
        (go_at_call 24; refine (HSY.out _ (below_drewN (Below.refl _ _) (q + 1))).mono ?_; rintro r w4 ⟨g4, v4, rfl, hblk4, hown4, hge4, hb4⟩; have hb4' := below_of_drewN (n := q + 1) hb4; have cb4 := (hb4'.cell (p := ⟨b2, 0, none⟩) hbl2).trans cb2; have d4 := (hb4'.cell (p := ⟨e.blk, 0, none⟩) hebl).trans d0; obtain ⟨w5, hrun5, hm5, hg5, _⟩ := HST.out w4 hb4' g4; have cb5 := cell_past hg5 (Nat.lt_of_lt_of_le hbl2 hb4'.size) hne2 cb4; have d5 := cell_past hg5 (Nat.lt_of_lt_of_le hebl hb4'.size) hneb d4)
        try go_wp2_with fail
        refine hK.out _ _ (by (first | exact ⟨by assumption, by assumption⟩ | go_keep)) (fun hHeld => ?_)
        clear hK K
        try simp only [Act.put, List.setIfInBounds_toArray, List.set_cons_zero, List.set_cons_succ]
        refine wpAnyH_ready (rs := [12]) (by kernel_rfl) (by simp) ?_
        refine AllReadyH.cons (Fr.take_at rfl) (fun K hK => ?_) AllReadyH.nil
        go_simp
        refine hK.out _ _ (by (first | exact ⟨by assumption, by assumption⟩ | go_keep)) (fun hHeld => ?_)
        clear hK K
        try simp only [Act.put, List.setIfInBounds_toArray, List.set_cons_zero, List.set_cons_succ]
        refine wpAnyH_done (by kernel_rfl) ?_ _
        go_wp2
        go_roundw
        case rel => exact cinv_step HOK.out.rising HF.out hlt HKR.out (keep_full HFULL.out kr).1 (keep_full HFULL.out kr).2 HKL.out hmc' HR'.out HOWN.out HAT3.out HF3.out HFL.out.below hb4' (sf_blk hblk4 (by omega)) (sf_own hown4 (by omega)) hge4 hm5 hg5
        case measure => simp [intOf]; omega
      · have h1 : e.fl.syn < e.fl.dat.length := by omega
        have h1' : (e.fl.syn : Int) < (e.fl.dat.length : Int) := by omega
        rcases kr with _ | ⟨k, kr⟩
        · obtain rfl : m' = 0 := by have := HKL.out; simpa using this.symm
          have HSY : Hid (∀ W : World, Below wr.heap.size wr W → Calls Tryd.prog 24 #[.slice A0 e.fl.syn c00] W (SFile W (e.fl.dat.take e.fl.syn))) := HSYE.out e.fl.syn hf2
          obtain ⟨hk1, hk2⟩ := HCE.out e.fl.syn (by omega)
          clear hfull hr'
          go_wp2_with (first
            | (go_at_call 18; refine hloose.mono ?_; rintro r w3 ⟨rfl, q, rfl⟩)
            | (at_lookup; refine wpList_look _ rfl _ _ 47 rfl rfl hm0 Tryd.underlying9 Tryd.underlying47 (zeroP _) ⟨e.fl.name.toArray⟩ rfl hsz _ HV.out ?_))
          refine wp_region_held_drew (S := fun W => W.cell? ⟨b2, 0, none⟩ = some (.map (some mb2)) ∧ W.cell? ⟨e.blk, 0, none⟩ = some (.slice A0 e.fl.dat.length c00)) (by kernel_rfl) (by (first | exact ⟨by assumption, by assumption⟩ | go_keep)) (fun hHeld => ?_)
          refine wpAnyH_take (i := 0) (v := ?vr2_0) (Fr.take_at rfl) (by kernel_rfl) (by kernel_rfl) (by kernel_rfl) (fun _ _ _ h => h) (Or.inl ⟨by rfl, ?yr2_0⟩) (by assumption) ?nr2_0
          case yr2_0 => (intro w_ hSw; (try dsimp only at hSw); go_simp; (try with_reducible rfl))
          try simp only [Act.put, List.setIfInBounds_toArray, List.set_cons_zero, List.set_cons_succ]
          refine wpAnyH_take (i := 1) (v := ?vr2_1) (Fr.take_at rfl) (by kernel_rfl) (by kernel_rfl) (by kernel_rfl) (fun _ _ _ h => h) (Or.inl ⟨by rfl, ?yr2_1⟩) (by assumption) ?nr2_1
          case yr2_1 => (intro w_ hSw; (try dsimp only at hSw); go_simp; (try with_reducible rfl))
          try simp only [Act.put, List.setIfInBounds_toArray, List.set_cons_zero, List.set_cons_succ]
          refine wpAnyH_take (i := 2) (v := ?vr2_2) (Fr.take_at rfl) (by kernel_rfl) (by kernel_rfl) (by kernel_rfl) (fun _ _ _ h => h) (Or.inl ⟨by rfl, ?yr2_2⟩) (by assumption) ?nr2_2
          case yr2_2 => (intro w_ hSw; (try dsimp only at hSw); go_simp; (try with_reducible rfl))
          try simp only [Act.put, List.setIfInBounds_toArray, List.set_cons_zero, List.set_cons_succ]
          refine wpAnyH_take (i := 3) (v := ?vr2_3) (Fr.take_at rfl) (by kernel_rfl) (by kernel_rfl) (by kernel_rfl) (fun _ _ _ h => h) (Or.inl ⟨by rfl, ?yr2_3⟩) (by assumption) ?nr2_3
          case yr2_3 => (intro w_ hSw; (try dsimp only at hSw); go_simp; (try with_reducible rfl))
          try simp only [Act.put, List.setIfInBounds_toArray, List.set_cons_zero, List.set_cons_succ]
          refine wpAnyH_take (i := 4) (v := ?vr2_4) (Fr.take_at rfl) (by kernel_rfl) (by kernel_rfl) (by kernel_rfl) (fun _ _ _ h => h) (Or.inl ⟨by rfl, ?yr2_4⟩) (by assumption) ?nr2_4
          case yr2_4 => (intro w_ hSw; (try dsimp only at hSw); go_simp; (try with_reducible rfl))
          try simp only [Act.put, List.setIfInBounds_toArray, List.set_cons_zero, List.set_cons_succ]
          refine wpAnyH_take (i := 5) (v := ?vr2_5) (Fr.take_at rfl) (by kernel_rfl) (by kernel_rfl) (by kernel_rfl) (fun _ _ _ h => h) (Or.inl ⟨by rfl, ?yr2_5⟩) (by assumption) ?nr2_5
          case yr2_5 => (intro w_ hSw; (try dsimp only at hSw); go_simp; (try with_reducible rfl))
          try simp only [Act.put, List.setIfInBounds_toArray, List.set_cons_zero, List.set_cons_succ]
          refine wpAnyH_take (i := 6) (v := ?vr2_6) (Fr.take_at rfl) (by kernel_rfl) (by kernel_rfl) (by kernel_rfl) (fun _ _ _ h => h) (Or.inl ⟨by rfl, ?yr2_6⟩) (by assumption) ?nr2_6
          case yr2_6 => (intro w_ hSw; (try dsimp only at hSw); go_simp; (try with_reducible rfl))
          try simp only [Act.put, List.setIfInBounds_toArray, List.set_cons_zero, List.set_cons_succ]
          refine wpAnyH_take (i := 7) (v := ?vr2_7) (Fr.take_at rfl) (by kernel_rfl) (by kernel_rfl) (by kernel_rfl) (fun _ _ _ h => h) (Or.inl ⟨by rfl, ?yr2_7⟩) (by assumption) ?nr2_7
          case yr2_7 => (intro w_ hSw; (try dsimp only at hSw); go_simp; (try with_reducible rfl))
          try simp only [Act.put, List.setIfInBounds_toArray, List.set_cons_zero, List.set_cons_succ]
          refine wpAnyH_take (i := 8) (v := ?vr2_8) (Fr.take_at rfl) (by kernel_rfl) (by kernel_rfl) (by kernel_rfl) (fun _ _ _ h => h) (Or.inl ⟨by rfl, ?yr2_8⟩) (by assumption) ?nr2_8
          case yr2_8 => (intro w_ hSw; (try dsimp only at hSw); go_simp; (try with_reducible rfl))
          try simp only [Act.put, List.setIfInBounds_toArray, List.set_cons_zero, List.set_cons_succ]
          refine wpAnyH_take (i := 9) (v := ?vr2_9) (Fr.take_at rfl) (by kernel_rfl) (by kernel_rfl) (by kernel_rfl) (fun _ _ _ h => h) (Or.inl ⟨by rfl, ?yr2_9⟩) (by assumption) ?nr2_9
          case yr2_9 => (intro w_ hSw; (try dsimp only at hSw); go_simp; (try with_reducible rfl))
          try simp only [Act.put, List.setIfInBounds_toArray, List.set_cons_zero, List.set_cons_succ]
          refine wpAnyH_take (i := 10) (v := ?vr2_10) (Fr.take_at rfl) (by kernel_rfl) (by kernel_rfl) (by kernel_rfl) (fun _ _ _ h => h) (Or.inl ⟨by rfl, ?yr2_10⟩) (by assumption) ?nr2_10
          case yr2_10 => (intro w_ hSw; (try dsimp only at hSw); go_simp; (try with_reducible rfl))
          try simp only [Act.put, List.setIfInBounds_toArray, List.set_cons_zero, List.set_cons_succ]
          refine wpAnyH_ready (rs := [11]) (by kernel_rfl) (by simp) ?_
          refine AllReadyH.cons (Fr.take_at rfl) (fun K hK => ?_) AllReadyH.nil
          go_simp
          (go_at_call 24; refine (HSY.out _ (below_drewN (Below.refl _ _) (q + 1))).mono ?_; rintro r w4 ⟨g4, v4, rfl, hblk4, hown4, hge4, hb4⟩; have hb4' := below_of_drewN (n := q + 1) hb4; have cb4 := (hb4'.cell (p := ⟨b2, 0, none⟩) hbl2).trans cb2; have d4 := (hb4'.cell (p := ⟨e.blk, 0, none⟩) hebl).trans d0; obtain ⟨w5, hrun5, hm5, hg5, _⟩ := HST.out w4 hb4' g4; have cb5 := cell_past hg5 (Nat.lt_of_lt_of_le hbl2 hb4'.size) hne2 cb4; have d5 := cell_past hg5 (Nat.lt_of_lt_of_le hebl hb4'.size) hneb d4)
          try go_wp2_with fail
          refine hK.out _ _ (by (first | exact ⟨by assumption, by assumption⟩ | go_keep)) (fun hHeld => ?_)
          clear hK K
          try simp only [Act.put, List.setIfInBounds_toArray, List.set_cons_zero, List.set_cons_succ]
          refine wpAnyH_ready (rs := [12]) (by kernel_rfl) (by simp) ?_
          refine AllReadyH.cons (Fr.take_at rfl) (fun K hK => ?_) AllReadyH.nil
          go_simp
          refine hK.out _ _ (by (first | exact ⟨by assumption, by assumption⟩ | go_keep)) (fun hHeld => ?_)
          clear hK K
          try simp only [Act.put, List.setIfInBounds_toArray, List.set_cons_zero, List.set_cons_succ]
          refine wpAnyH_done (by kernel_rfl) ?_ _
          go_wp2
          go_roundw
          case rel => exact cinv_step HOK.out.rising HF.out hlt HKR.out (keep_none h1).1 (keep_none h1).2 rfl (Nat.zero_le _) HR'.out HOWN.out HAT3.out HF3.out HFL.out.below hb4' (sf_blk hblk4 (by omega)) (sf_own hown4 (by omega)) hge4 hm5 hg5
          case measure => simp [intOf]; omega
        · obtain ⟨gk, ok, rfl, hgk, hck⟩ := hr'.at_ (i := 0) (by simp [iv])
          have hck' : wr.cell? ⟨gk, ok, none⟩ = some (.int .i64 k) := ((HFL.out.below).cell (p := ⟨gk, ok, none⟩) hgk).trans hck
          have hm1 : 1 ≤ m' := by have := HKL.out; simp at this; omega
          obtain ⟨ii, hii, hiz, hiz1, hiz2⟩ := info_parts info_int
          obtain ⟨A3, ⟨hq1, hq2⟩, hq3⟩ := Fr.cut_l 32 3 ii Tryd.underlying32 (by kernel_rfl) hii hiz1 (some ⟨gk, ok, none⟩) m' c' 1 (m' - 1) (c' - 1) .i64 1 rfl (by omega) (by omega)
          have HR3 : Hid (Rd w A3 (iv kr)) := hq3 w (iv (k :: kr)) HR'.out (by rw [iv_length, HKL.out]; exact hmc')
          obtain ⟨E, hE⟩ : ∃ E, keepN e.fl (k :: kr) = E := ⟨_, rfl⟩
          have hEq := (keep_some h1 k kr).1
          have hEle := (cut1_eq e.fl (k :: kr)).2
          rw [hE] at hEq hEle
          have hEq' := hEq.symm
          have HE := Lib.hid hE
          have HSY : Hid (∀ W : World, Below wr.heap.size wr W → Calls Tryd.prog 24 #[.slice A0 E c00] W (SFile W (e.fl.dat.take E))) := HSYE.out E hEle
          obtain ⟨hk1, hk2⟩ := HCE.out E (by omega)
          clear hfull hr' hck hq3 hii hiz hiz1 hiz2 hE hEq
          go_wp2_with (first
            | (go_at_call 18; refine hloose.mono ?_; rintro r w3 ⟨rfl, q, rfl⟩)
            | (at_lookup; refine wpList_look _ rfl _ _ 47 rfl rfl hm0 Tryd.underlying9 Tryd.underlying47 (zeroP _) ⟨e.fl.name.toArray⟩ rfl hsz _ HV.out ?_))
          refine wp_region_held_drew (S := fun W => W.cell? ⟨b2, 0, none⟩ = some (.map (some mb2)) ∧ W.cell? ⟨e.blk, 0, none⟩ = some (.slice A0 e.fl.dat.length c00)) (by kernel_rfl) (by (first | exact ⟨by assumption, by assumption⟩ | go_keep)) (fun hHeld => ?_)
          refine wpAnyH_take (i := 0) (v := ?vr3_0) (Fr.take_at rfl) (by kernel_rfl) (by kernel_rfl) (by kernel_rfl) (fun _ _ _ h => h) (Or.inl ⟨by rfl, ?yr3_0⟩) (by assumption) ?nr3_0
          case yr3_0 => (intro w_ hSw; (try dsimp only at hSw); go_simp; (try with_reducible rfl))
          try simp only [Act.put, List.setIfInBounds_toArray, List.set_cons_zero, List.set_cons_succ]
          refine wpAnyH_take (i := 1) (v := ?vr3_1) (Fr.take_at rfl) (by kernel_rfl) (by kernel_rfl) (by kernel_rfl) (fun _ _ _ h => h) (Or.inl ⟨by rfl, ?yr3_1⟩) (by assumption) ?nr3_1
          case yr3_1 => (intro w_ hSw; (try dsimp only at hSw); go_simp; (try with_reducible rfl))
          try simp only [Act.put, List.setIfInBounds_toArray, List.set_cons_zero, List.set_cons_succ]
          refine wpAnyH_take (i := 2) (v := ?vr3_2) (Fr.take_at rfl) (by kernel_rfl) (by kernel_rfl) (by kernel_rfl) (fun _ _ _ h => h) (Or.inl ⟨by rfl, ?yr3_2⟩) (by assumption) ?nr3_2
          case yr3_2 => (intro w_ hSw; (try dsimp only at hSw); go_simp; (try with_reducible rfl))
          try simp only [Act.put, List.setIfInBounds_toArray, List.set_cons_zero, List.set_cons_succ]
          refine wpAnyH_take (i := 3) (v := ?vr3_3) (Fr.take_at rfl) (by kernel_rfl) (by kernel_rfl) (by kernel_rfl) (fun _ _ _ h => h) (Or.inl ⟨by rfl, ?yr3_3⟩) (by assumption) ?nr3_3
          case yr3_3 => (intro w_ hSw; (try dsimp only at hSw); go_simp; (try with_reducible rfl))
          try simp only [Act.put, List.setIfInBounds_toArray, List.set_cons_zero, List.set_cons_succ]
          refine wpAnyH_take (i := 4) (v := ?vr3_4) (Fr.take_at rfl) (by kernel_rfl) (by kernel_rfl) (by kernel_rfl) (fun _ _ _ h => h) (Or.inl ⟨by rfl, ?yr3_4⟩) (by assumption) ?nr3_4
          case yr3_4 => (intro w_ hSw; (try dsimp only at hSw); go_simp; (try with_reducible rfl))
          try simp only [Act.put, List.setIfInBounds_toArray, List.set_cons_zero, List.set_cons_succ]
          refine wpAnyH_take (i := 5) (v := ?vr3_5) (Fr.take_at rfl) (by kernel_rfl) (by kernel_rfl) (by kernel_rfl) (fun _ _ _ h => h) (Or.inl ⟨by rfl, ?yr3_5⟩) (by assumption) ?nr3_5
          case yr3_5 => (intro w_ hSw; (try dsimp only at hSw); go_simp; (try with_reducible rfl))
          try simp only [Act.put, List.setIfInBounds_toArray, List.set_cons_zero, List.set_cons_succ]
          refine wpAnyH_take (i := 6) (v := ?vr3_6) (Fr.take_at rfl) (by kernel_rfl) (by kernel_rfl) (by kernel_rfl) (fun _ _ _ h => h) (Or.inl ⟨by rfl, ?yr3_6⟩) (by assumption) ?nr3_6
          case yr3_6 => (intro w_ hSw; (try dsimp only at hSw); go_simp; (try with_reducible rfl))
          try simp only [Act.put, List.setIfInBounds_toArray, List.set_cons_zero, List.set_cons_succ]
          refine wpAnyH_take (i := 7) (v := ?vr3_7) (Fr.take_at rfl) (by kernel_rfl) (by kernel_rfl) (by kernel_rfl) (fun _ _ _ h => h) (Or.inl ⟨by rfl, ?yr3_7⟩) (by assumption) ?nr3_7
          case yr3_7 => (intro w_ hSw; (try dsimp only at hSw); go_simp; (try with_reducible rfl))
          try simp only [Act.put, List.setIfInBounds_toArray, List.set_cons_zero, List.set_cons_succ]
          refine wpAnyH_take (i := 8) (v := ?vr3_8) (Fr.take_at rfl) (by kernel_rfl) (by kernel_rfl) (by kernel_rfl) (fun _ _ _ h => h) (Or.inl ⟨by rfl, ?yr3_8⟩) (by assumption) ?nr3_8
          case yr3_8 => (intro w_ hSw; (try dsimp only at hSw); go_simp; (try with_reducible rfl))
          try simp only [Act.put, List.setIfInBounds_toArray, List.set_cons_zero, List.set_cons_succ]
          refine wpAnyH_take (i := 9) (v := ?vr3_9) (Fr.take_at rfl) (by kernel_rfl) (by kernel_rfl) (by kernel_rfl) (fun _ _ _ h => h) (Or.inl ⟨by rfl, ?yr3_9⟩) (by assumption) ?nr3_9
          case yr3_9 => (intro w_ hSw; (try dsimp only at hSw); go_simp; (try with_reducible rfl))
          try simp only [Act.put, List.setIfInBounds_toArray, List.set_cons_zero, List.set_cons_succ]
          refine wpAnyH_take (i := 10) (v := ?vr3_10) (Fr.take_at rfl) (by kernel_rfl) (by kernel_rfl) (by kernel_rfl) (fun _ _ _ h => h) (Or.inl ⟨by rfl, ?yr3_10⟩) (by assumption) ?nr3_10
          case yr3_10 => (intro w_ hSw; (try dsimp only at hSw); go_simp; (try with_reducible rfl))
          try simp only [Act.put, List.setIfInBounds_toArray, List.set_cons_zero, List.set_cons_succ]
          refine wpAnyH_ready (rs := [11]) (by kernel_rfl) (by simp) ?_
          refine AllReadyH.cons (Fr.take_at rfl) (fun K hK => ?_) AllReadyH.nil
          go_simp
          (go_at_call 24; refine (HSY.out _ (below_drewN (Below.refl _ _) (q + 1))).mono ?_; rintro r w4 ⟨g4, v4, rfl, hblk4, hown4, hge4, hb4⟩; have hb4' := below_of_drewN (n := q + 1) hb4; have cb4 := (hb4'.cell (p := ⟨b2, 0, none⟩) hbl2).trans cb2; have d4 := (hb4'.cell (p := ⟨e.blk, 0, none⟩) hebl).trans d0; obtain ⟨w5, hrun5, hm5, hg5, _⟩ := HST.out w4 hb4' g4; have cb5 := cell_past hg5 (Nat.lt_of_lt_of_le hbl2 hb4'.size) hne2 cb4; have d5 := cell_past hg5 (Nat.lt_of_lt_of_le hebl hb4'.size) hneb d4)
          try go_wp2_with fail
          refine hK.out _ _ (by (first | exact ⟨by assumption, by assumption⟩ | go_keep)) (fun hHeld => ?_)
          clear hK K
          try simp only [Act.put, List.setIfInBounds_toArray, List.set_cons_zero, List.set_cons_succ]
          refine wpAnyH_ready (rs := [12]) (by kernel_rfl) (by simp) ?_
          refine AllReadyH.cons (Fr.take_at rfl) (fun K hK => ?_) AllReadyH.nil
          go_simp
          refine hK.out _ _ (by (first | exact ⟨by assumption, by assumption⟩ | go_keep)) (fun hHeld => ?_)
          clear hK K
          try simp only [Act.put, List.setIfInBounds_toArray, List.set_cons_zero, List.set_cons_succ]
          refine wpAnyH_done (by kernel_rfl) ?_ _
          go_wp2
          go_roundw
          case rel => exact cinv_step HOK.out.rising HF.out hlt HKR.out HE.out (keep_some h1 k kr).2 (len_tail HKL.out) (by omega) HR3.out HOWN.out HAT3.out HF3.out HFL.out.below hb4' (sf_blk hblk4 (by omega)) (sf_own hown4 (by omega)) hge4 hm5 hg5
          case measure => simp [intOf]; omega
    · go_wp2
      go_ret
      have hi2 : i = n2 := by omega
      have htk : st.files.take i = st.files := List.take_of_length_le (by have := HL2.out; rw [List.length_map] at this; omega)
      obtain ⟨⟨Q3, hat3, hf3⟩, hbw⟩ := HFL.out
      rw [htk] at hat3
      exact ⟨b2, rfl, ⟨mb2, Q3, hat3, hf3, fun k hk => hk.2⟩, hbw⟩
end
end Dr
end Go.Proofs.YtnijonjepgdinaaDoor
