/-
  WHAT IS PROVED: (1) what the reference's without does. CONDITIONS: the list stands in memory as named. (2) what the reference's Append does. CONDITIONS: the list stands in memory as named.
-/
import Derived.Test.YtbfmjonabndhaaaGreatDoorQRWalkC
namespace Go.Proofs.YtbfmjonabndhaaaGreatDoor
open Go Go.RowKit Go.Maps Go.Proofs.YtbfmjonabndhaaaGreatDoor.Fr
namespace Dr

/-- The loop's state. -/
def OInv (W3 : World) (n : Bs) (l : List Fl) (s5 s6 : Value) (wr : World) : Prop :=
  ∃ (i : Nat) (A : Option Addr) (k c : Nat) (acc : List Fl), i ≤ l.length ∧ s6 = .int .i64 (i : Int) ∧ s5 = .slice A k c ∧ acc.length = k ∧ k ≤ i ∧ del n (l.take i) = acc ∧
    wr.ownsRow W3.heap.size 64 3 (.slice A k c) k (fv acc) ∧ Below W3.heap.size W3 wr
theorem del_snoc {n : Bs} {l : List Fl} {i : Nat} {g : Fl} (hi : l[i]? = some g) : del n (l.take (i + 1)) = if g.name = n then del n (l.take i) else del n (l.take i) ++ [g] := by
  rw [List.take_add_one, hi]
  unfold del
  rw [List.filter_append]
  split
  · rename_i h; simp [h]
  · rename_i h; simp [h]
theorem oinv_step {W3 wr w' : World} {n : Bs} {l : List Fl} {i : Nat} {acc : List Fl} {A' : Option Addr} {k c' : Nat} (hil : i < l.length) (hf : del n (l.take (i + 1)) = acc) (hn : acc.length = k) (hn2 : k ≤ i + 1)
    (hown : w'.ownsRow W3.heap.size 64 3 (.slice A' k c') k (fv acc)) (hb : Below W3.heap.size W3 wr) (hb' : Below W3.heap.size wr w') : OInv W3 n l (.slice A' k c') (.int .i64 ((i : Int) + 1)) w' :=
  ⟨i + 1, A', k, c', acc, hil, by go_num, rfl, hn, hn2, hf, hown, hb.trans hb'⟩
section
variable {w : World} {T : Nat → Prop} {v : Value} {st : St}
end
end Dr
end Go.Proofs.YtbfmjonabndhaaaGreatDoor
namespace Go.Proofs.YtbfmjonabndhaaaGreatDoor
open Go Go.RowKit Go.Maps Go.Proofs.YtbfmjonabndhaaaGreatDoor.Fr
namespace Dr

theorem results_cell_tmp {P : Program} {fn : Func} {p q : Tmp} {ty : TypeId} (h : fn.results = #[.cell p ty, .tmp q]) (tmps : Array Value) (w : World) (g : Nat) (t : TypeId) (cs : Array Value) (fr : Nat × Nat) (d : TypeDesc) (v : Value)
    (hp : tmps.getD p undef = .pointer (some ⟨g, 0, none⟩)) (hq : tmps.getD q undef = v) (hg : w.heap[g]? = some (.cells cs t fr))
    (hu : P.underlying ty = some d) (hd : (match d with | .struct _ | .array _ _ => true | _ => false) = true) (hi : (P.info? ty).map (·.size) = some cs.size) :
    (results fn tmps).run P w = .ok (.tuple #[.agg cs, v]) w := by
  have hp' : tmps[p]?.getD undef = .pointer (some ⟨g, 0, none⟩) := by simpa using hp
  have hq' : tmps[q]?.getD undef = v := by simpa using hq
  simp [results, h, hp', hq', asAddr, run_loadVar_row w g t ty cs fr d hg hu hd hi]

/-- Four cells of a box set. -/
def set4 (w : World) (g : Nat) (a0 a1 a2 a3 : Value) : World := (((w.setCell ⟨g, 0, none⟩ a0).setCell ⟨g, 1, none⟩ a1).setCell ⟨g, 2, none⟩ a2).setCell ⟨g, 3, none⟩ a3
theorem set4_blk {wr : World} {g : Nat} {t : TypeId} {a0 a1 a2 a3 c0 c1 c2 c3 : Value} (h : Blk wr g t #[c0, c1, c2, c3]) : Blk (set4 wr g a0 a1 a2 a3) g t #[a0, a1, a2, a3] := by
  have := (((h.set 0 a0).set 1 a1).set 2 a2).set 3 a3
  unfold set4
  simpa using this
theorem set4_below {w wr : World} {g : Nat} {a0 a1 a2 a3 : Value} (hb : Below w.heap.size w wr) (hg : w.heap.size ≤ g) : Below w.heap.size w (set4 wr g a0 a1 a2 a3) :=
  (((hb.setCell (p := ⟨g, 0, none⟩) hg a0).setCell (p := ⟨g, 1, none⟩) hg a1).setCell (p := ⟨g, 2, none⟩) hg a2).setCell (p := ⟨g, 3, none⟩) hg a3
/-- What was handed in is handed back, with a code. -/
theorem RRet2.same {w wr : World} {T : Nat → Prop} {st : St} {n : Nat} {u : Value} {g : Nat} (hl : ListAt w T u st.files) (hb : Below w.heap.size w wr) (hg : w.heap.size ≤ g) {a0 a1 a2 a3 : Value} {v : Value} (hv : v = refV u st) :
    RRet2 T w (st, n) (.returned (.tuple #[v, .int .i64 (n : Int)])) (set4 wr g a0 a1 a2 a3) := RRet2.mk (hl.ext (set4_below hb hg)) rfl (set4_below hb hg) hv
theorem ret_code {k n : Nat} {T : Nat → Prop} {w w' : World} {st : St} {v : Value} {c : Int} (h : RRet2 T w (st, n) (.returned (.tuple #[v, .int .i64 (n : Int)])) w') (hn : k = n) (hc : c = (n : Int)) : RRet2 T w (st, k) (.returned (.tuple #[v, .int .i64 c])) w' := by subst hn hc; exact h

/-- The answer of step and with, opened. -/
theorem RRet.open_ {w w' : World} {T : Nat → Prop} {st : St} {e : Ending} (h : RRet T w st e w') : ∃ A c, e = .returned (.agg #[.slice A st.files.length c, .int .i64 (st.steps : Int), .bool st.armed, .int .i64 (st.left : Int)]) ∧ ListAt w' (Dr.ext T w w') (.slice A st.files.length c) st.files ∧ Below w.heap.size w w' := by
  obtain ⟨v, rfl, hr, hb⟩ := h
  obtain ⟨A, c, rfl, hl, _⟩ := refV_of hr
  exact ⟨A, c, rfl, hl, hb⟩
/-- A list that an inner call answered, behind the filling of the result's box. -/
theorem ListAt.settle {w w6 : World} {T T6 : Nat → Prop} {u : Value} {l : List Fl} {B g' : Nat} {a0 a1 a2 a3 : Value} (h : ListAt w6 T6 u l) (h6 : ∀ k, T6 k → T k ∨ B ≤ k) (hg : g' < B) (hB : w.heap.size ≤ g') (hT : ∀ k, T k → k < w.heap.size) (hb : Below w.heap.size w w6) :
    ListAt (set4 w6 g' a0 a1 a2 a3) (Dr.ext T w (set4 w6 g' a0 a1 a2 a3)) u l := by
  have hsz : (set4 w6 g' a0 a1 a2 a3).heap.size = w6.heap.size := by simp [set4, World.setCell]
  refine ⟨own_same h.1 fun k hk => ?_, fun k hk => ?_, ext_lt hT (by rw [hsz]; exact hb.size)⟩
  · have hne : k ≠ g' := by
      rcases h6 k (h.2.1 k hk) with h1 | h1
      · have := hT k h1; omega
      · omega
    unfold set4
    rw [Below.heap_setCell _ _ _ _ hne, Below.heap_setCell _ _ _ _ hne, Below.heap_setCell _ _ _ _ hne, Below.heap_setCell _ _ _ _ hne]
  · rcases h6 k (h.2.1 k hk) with h1 | h1
    · exact .inl h1
    · exact .inr ⟨by omega, by rw [hsz]; exact h.lt k (h.2.1 k hk)⟩
theorem ext_two {T : Nat → Prop} {W W5 W5' w6 : World} {B : Nat} (h1 : B ≤ W.heap.size) (h2 : W.heap.size ≤ W5'.heap.size) : ∀ k, Dr.ext (Dr.ext T W W5) W5' w6 k → T k ∨ B ≤ k := fun k hk => by
  rcases hk with (hk | hk) | hk
  · exact .inl hk
  · exact .inr (by omega)
  · exact .inr (by omega)
theorem blk_cells4 {W : World} {g : Nat} {t : TypeId} {a0 a1 a2 a3 : Value} (h : Blk W g t #[a0, a1, a2, a3]) : W.cell? ⟨g, 0, none⟩ = some a0 ∧ W.cell? ⟨g, 1, none⟩ = some a1 ∧ W.cell? ⟨g, 2, none⟩ = some a2 ∧ W.cell? ⟨g, 3, none⟩ = some a3 := ⟨h.cell 0, h.cell 1, h.cell 2, h.cell 3⟩
theorem blk_cells3 {W : World} {g : Nat} {t : TypeId} {a0 a1 a2 : Value} (h : Blk W g t #[a0, a1, a2]) : W.cell? ⟨g, 0, none⟩ = some a0 ∧ W.cell? ⟨g, 1, none⟩ = some a1 ∧ W.cell? ⟨g, 2, none⟩ = some a2 := ⟨h.cell 0, h.cell 1, h.cell 2⟩
theorem blk_free4 {W : World} {g : Nat} {t : TypeId} {cs : Array Value} (h : Blk W g t cs) : W.frozen? ⟨g, 0, none⟩ = false ∧ W.frozen? ⟨g, 1, none⟩ = false ∧ W.frozen? ⟨g, 2, none⟩ = false ∧ W.frozen? ⟨g, 3, none⟩ = false := ⟨h.frozen 0, h.frozen 1, h.frozen 2, h.frozen 3⟩
theorem Blk.under {W W' : World} {B g : Nat} {t : TypeId} {cs : Array Value} (h : Blk W g t cs) (hb : Below B W W') (hg : g < B) : Blk W' g t cs := h.same (hb.block g hg)
section
variable {w : World} {T : Nat → Prop} {v : Value} {st : St}
set_option maxRecDepth 100000 in
theorem rappend_bad (h : RefRep w T v st) (s t : ByteArray) (hs : s.size ≤ maxLen) (hn : nameOk s.data.toList = false) :
    Calls Tryz.prog 43 #[v, .string s, .string t] w (RRet2 T w (st.append s.data.toList t.data.toList)) := by
  have HE := Lib.hid (append_bad (st := st) (l := t.data.toList) hn)
  have hc := fun W => rname_any s W hs
  rw [hn] at hc
  obtain ⟨A, c, rfl, hl, hlc⟩ := refV_of h
  have HL := Lib.hid hl
  clear h hl hn
  go_enter Tryz.func43, Tryz.ntmps43
  go_wp2_with (go_at_call 20; refine (hc _).mono ?_; rintro e w' ⟨rfl, rfl⟩)
  have hb : Below w.heap.size w _ := ((Below.refl w.heap.size w).alloc (Nat.le_refl _) (.cells #[.slice A st.files.length c, .int .i64 (st.steps : Int), .bool st.armed, .int .i64 (st.left : Int)] 35)).alloc (by simp) (.cells #[.slice A st.files.length c, .int .i64 (st.steps : Int), .bool st.armed, .int .i64 (st.left : Int)] 35)
  rw [HE.out]
  exact bodyPost_ret (v := .tuple #[.agg #[.slice A st.files.length c, .int .i64 (st.steps : Int), .bool st.armed, .int .i64 (st.left : Int)], .int .i64 20]) (by simp [results, Tryz.results43, go_sem]) rfl (RRet2.mk (HL.out.ext hb) rfl hb rfl)
set_option maxRecDepth 100000 in
set_option maxHeartbeats 1000000 in
theorem rappend_no (h : RefRep w T v st) (hok : st.Ok) (hstep : st.steps + 1 ≤ 9223372036854775807) (s t : ByteArray) (hs : s.size ≤ maxLen) (ht : t.size ≤ maxLen) (hn : nameOk s.data.toList = true) (hfind : find st.files s.data.toList = none) :
    Calls Tryz.prog 43 #[v, .string s, .string t] w (RRet2 T w (st.append s.data.toList t.data.toList)) := by
  have hc := fun W => rname_any s W hs
  rw [hn] at hc
  have HREP := Lib.hid fun W (hb : Below w.heap.size w W) => h.below hb
  have HOK := Lib.hid hok
  have HN := Lib.hid hn
  have HFI := Lib.hid hfind
  have HAT := Lib.hid fun W (hb : Below w.heap.size w W) => at_any (h.below hb) hok s
  have HDD := Lib.hid fun W (hb : Below w.heap.size w W) => rdead_any (h.below hb)
  have hfew := hok.few
  unfold maxLen at ht
  obtain ⟨A, c, rfl, hl, hlc⟩ := refV_of h
  have HL := Lib.hid hl
  have hcat : (⟨#[]⟩ : ByteArray) ++ t = t := by apply ByteArray.ext; simp
  clear h hl hok hn hfind
  go_enter Tryz.func43, Tryz.ntmps43
  go_wp2_with (go_at_call 20; refine (hc _).mono ?_; rintro e w' ⟨rfl, rfl⟩)
  obtain ⟨W1, hW1⟩ : ∃ W1, W1 = ((w.alloc (.cells #[.slice A st.files.length c, .int .i64 (st.steps : Int), .bool st.armed, .int .i64 (st.left : Int)] 35)).alloc (.cells #[.slice none 0 0, .int .i64 0, .bool false, .int .i64 0] 35)).alloc (.cells #[.string s, .string ⟨#[]⟩, .int .i64 0] 64) := ⟨_, rfl⟩
  rw [← hW1]
  have hs1 : W1.heap.size = w.heap.size + 3 := by rw [hW1]; simp
  have hbw1 : Below w.heap.size w W1 := by rw [hW1]; exact (((Below.refl _ _).alloc (Nat.le_refl _) _).alloc (by simp) _).alloc (by simp; omega) _
  have k1 : Blk W1 w.heap.size 35 #[.slice A st.files.length c, .int .i64 (st.steps : Int), .bool st.armed, .int .i64 (st.left : Int)] := by rw [hW1]; exact ((Blk.new w _ _).alloc _).alloc _
  have k2 : Blk W1 (w.heap.size + 1) 35 #[.slice none 0 0, .int .i64 0, .bool false, .int .i64 0] := by rw [hW1]; exact (blk_new' (by simp)).alloc _
  have k3 : Blk W1 (w.heap.size + 1 + 1) 64 #[.string s, .string ⟨#[]⟩, .int .i64 0] := by rw [hW1]; exact blk_new' (by simp)
  clear hW1
  refine (HAT.out W1 hbw1).mono ?_
  intro e w2 hra
  obtain ⟨rfl, hb2⟩ := rat_none hra HFI.out
  clear hra
  have hs2 := hb2.size
  have hbw2 : Below w.heap.size w w2 := hbw1.trans (hb2.mono hbw1.size)
  have HK1 := Lib.hid (k1.under hb2 (by omega))
  have HK2 := Lib.hid (k2.under hb2 (by omega))
  have HK3 := Lib.hid (k3.under hb2 (by omega))
  clear k1 k2 k3
  obtain ⟨a0, a1, a2, a3⟩ := blk_cells4 HK1.out
  obtain ⟨b0, b1, b2, b3⟩ := blk_cells4 HK2.out
  obtain ⟨f0, f1, f2, f3⟩ := blk_free4 HK2.out
  obtain ⟨d0, d1, d2⟩ := blk_cells3 HK3.out
  have fd1 : w2.frozen? ⟨w.heap.size + 1 + 1, 1, none⟩ = false := HK3.out.frozen 1
  by_cases hmany : 256 ≤ st.files.length
  · have HE := Lib.hid (append_many (l := t.data.toList) HN.out HFI.out hmany)
    go_wp2
    rw [HE.out]
    exact bodyPost_ret (results_cell_tmp (by rfl) _ _ _ _ _ _ _ _ (by rfl) (by rfl) (set4_blk HK2.out) Tryz.underlying35 (by rfl) (by kernel_rfl)) rfl (RRet2.same HL.out hbw2 (by omega) rfl)
  · have hfew' : st.files.length < 256 := by omega
    clear hfew
    by_cases hlong : 262144 < t.size
    · have HE := Lib.hid (append_long (st := st) (l := t.data.toList) HN.out (by rw [sizeOf_none HFI.out, size_list]; omega))
      clear hmany
      go_wp2
      rw [HE.out]
      exact bodyPost_ret (results_cell_tmp (by rfl) _ _ _ _ _ _ _ _ (by rfl) (by rfl) (set4_blk HK2.out) Tryz.underlying35 (by rfl) (by kernel_rfl)) rfl (RRet2.same HL.out hbw2 (by omega) rfl)
    · have hno : ¬ ((find st.files s.data.toList = none ∧ 256 ≤ st.files.length) ∨ 262144 < st.sizeOf s.data.toList + t.data.toList.length) := by
        rw [sizeOf_none HFI.out, size_list]
        rintro (⟨_, h⟩ | h) <;> omega
      have hlong' : t.size ≤ 262144 := by omega
      clear hmany hlong
      have hdd := HDD.out w2 hbw2
      cases hd : st.dead
      · have HE := Lib.hid (append_new HN.out hno hd HFI.out)
        have HD := Lib.hid hd
        rw [hd] at hdd
        clear hno hd
        go_wp2_with (go_at_call 31; refine hdd.mono ?_; rintro e w3 ⟨rfl, hb3⟩; have j1 := HK1.out.under hb3 HK1.out.lt; have j2 := HK2.out.under hb3 HK2.out.lt; have j3 := HK3.out.under hb3 HK3.out.lt; have J1 := Lib.hid j1; have J2 := Lib.hid j2; have J3 := Lib.hid j3; obtain ⟨a0', a1', a2', a3'⟩ := blk_cells4 j1; obtain ⟨d0', d1', d2'⟩ := blk_cells3 j3; have fd1' := j3.frozen 1; clear j1 j2 j3)
        obtain ⟨W4, hW4⟩ : ∃ W4, W4 = w3.setCell ⟨w.heap.size + 1 + 1, 1, none⟩ (.string t) := ⟨_, rfl⟩
        rw [← hW4]
        have hs4 : W4.heap.size = w3.heap.size := by rw [hW4]; simp [World.setCell]
        have hs3 := hb3.size
        have hbw4 : Below w.heap.size w W4 := by rw [hW4]; exact (hbw2.trans (hb3.mono hbw2.size)).setCell (p := ⟨w.heap.size + 1 + 1, 1, none⟩) (by show w.heap.size ≤ w.heap.size + 1 + 1; omega) _
        have l1 : Blk W4 w.heap.size 35 #[.slice A st.files.length c, .int .i64 (st.steps : Int), .bool st.armed, .int .i64 (st.left : Int)] := by rw [hW4]; exact J1.out.same (Below.heap_setCell _ _ _ _ (by show w.heap.size ≠ w.heap.size + 1 + 1; omega))
        have l2 : Blk W4 (w.heap.size + 1) 35 #[.slice none 0 0, .int .i64 0, .bool false, .int .i64 0] := by rw [hW4]; exact J2.out.same (Below.heap_setCell _ _ _ _ (by show w.heap.size + 1 ≠ w.heap.size + 1 + 1; omega))
        have l3 : Blk W4 (w.heap.size + 1 + 1) 64 #[.string s, .string t, .int .i64 0] := by rw [hW4]; have := J3.out.set 1 (.string t); simpa using this
        have L1 := Lib.hid l1
        have L2 := Lib.hid l2
        have L3 := Lib.hid l3
        have HSTEP : Hid (∀ W, Below w.heap.size w W → Calls Tryz.prog 66 #[.agg #[.slice A st.files.length c, .int .i64 (st.steps : Int), .bool st.armed, .int .i64 (st.left : Int)]] W (RRet T W st.step)) := fun W hb => rstep_any (HREP.out W hb) HD.out hstep HOK.out.left
        clear l1 l2 l3 a0 a1 a2 a3 b0 b1 b2 b3 f0 f1 f2 f3 d0 d1 d2 a0' a1' a2' a3' d0' d1' d2' fd1 fd1'
        obtain ⟨a0, a1, a2, a3⟩ := blk_cells4 L1.out
        obtain ⟨d0, d1, d2⟩ := blk_cells3 L3.out
        clear hW4
        refine wp_region_held_drew (S := fun W => W.cell? ⟨w.heap.size, 0, none⟩ = some (.slice A st.files.length c) ∧ W.cell? ⟨w.heap.size, 1, none⟩ = some (.int .i64 (st.steps : Int)) ∧ W.cell? ⟨w.heap.size, 2, none⟩ = some (.bool st.armed) ∧ W.cell? ⟨w.heap.size, 3, none⟩ = some (.int .i64 (st.left : Int)) ∧ W.cell? ⟨w.heap.size + 1 + 1, 0, none⟩ = some (.string s) ∧ W.cell? ⟨w.heap.size + 1 + 1, 1, none⟩ = some (.string t) ∧ W.cell? ⟨w.heap.size + 1 + 1, 2, none⟩ = some (.int .i64 0)) (by kernel_rfl) (by (first | (refine ⟨?_, ?_, ?_, ?_, ?_, ?_, ?_⟩ <;> with_reducible assumption) | go_keep)) (fun hHeld => ?_)
        refine wpAnyH_take (i := 0) (v := ?vr1_0) (Fr.take_at rfl) (by kernel_rfl) (by kernel_rfl) (by kernel_rfl) (fun _ _ _ h => h) (Or.inl ⟨by rfl, ?yr1_0⟩) (by assumption) ?nr1_0
        case yr1_0 => (intro w_ hSw; (try dsimp only at hSw); go_simp; (try with_reducible rfl))
        try simp only [Act.put, List.setIfInBounds_toArray, List.set_cons_zero, List.set_cons_succ]
        refine wpAnyH_take (i := 2) (v := ?vr1_2) (Fr.take_at rfl) (by kernel_rfl) (by kernel_rfl) (by kernel_rfl) (fun _ _ _ h => h) (Or.inl ⟨by rfl, ?yr1_2⟩) (by assumption) ?nr1_2
        case yr1_2 => (intro w_ hSw; (try dsimp only at hSw); go_simp; (try with_reducible rfl))
        try simp only [Act.put, List.setIfInBounds_toArray, List.set_cons_zero, List.set_cons_succ]
        refine wpAnyH_ready (rs := [1]) (by kernel_rfl) (by simp) ?_
        refine AllReadyH.cons (Fr.take_at rfl) (fun K hK => ?_) AllReadyH.nil
        go_simp
        (go_at_call 66; refine (HSTEP.out _ hbw4.drew).mono ?_; rintro e w5 ⟨v5, rfl, hrep5, hb5⟩; have hb5' := below_of_drew hb5; have m1 := L1.out.under hb5' L1.out.lt; have m3 := L3.out.under hb5' L3.out.lt; obtain ⟨g0, g1, g2, g3⟩ := blk_cells4 m1; obtain ⟨i0, i1, i2⟩ := blk_cells3 m3; have HWITH := Lib.hid (with_any hrep5 HOK.out.step ⟨s.data.toList, t.data.toList, 0⟩))
        try go_wp2_with fail
        refine hK.out _ _ (by (first | (refine ⟨?_, ?_, ?_, ?_, ?_, ?_, ?_⟩ <;> with_reducible assumption) | go_keep)) (fun hHeld => ?_)
        clear hK K
        try simp only [Act.put, List.setIfInBounds_toArray, List.set_cons_zero, List.set_cons_succ]
        refine wpAnyH_ready (rs := [3]) (by kernel_rfl) (by simp) ?_
        refine AllReadyH.cons (Fr.take_at rfl) (fun K hK => ?_) AllReadyH.nil
        go_simp
        (go_at_call 22; refine HWITH.out.mono ?_; intro e w6 hret; obtain ⟨A6, c6, rfl, hl6, hb6⟩ := hret.open_; clear hret; have p1 := m1.under hb6 m1.lt; have p3 := m3.under hb6 m3.lt; have p2 := (L2.out.under hb5' L2.out.lt).under hb6 (L2.out.under hb5' L2.out.lt).lt; have P2 := Lib.hid p2; obtain ⟨n0, n1, n2, n3⟩ := blk_cells4 p1; obtain ⟨o0, o1, o2⟩ := blk_cells3 p3; obtain ⟨q0, q1, q2, q3⟩ := blk_cells4 p2; obtain ⟨z0, z1, z2, z3⟩ := blk_free4 p2)
        try go_wp2_with fail
        refine hK.out _ _ (by (first | (refine ⟨?_, ?_, ?_, ?_, ?_, ?_, ?_⟩ <;> with_reducible assumption) | go_keep)) (fun hHeld => ?_)
        clear hK K
        try simp only [Act.put, List.setIfInBounds_toArray, List.set_cons_zero, List.set_cons_succ]
        refine wpAnyH_ready (rs := [4]) (by kernel_rfl) (by simp) ?_
        refine AllReadyH.cons (Fr.take_at rfl) (fun K hK => ?_) AllReadyH.nil
        go_simp
        refine hK.out _ _ (by (first | (refine ⟨?_, ?_, ?_, ?_, ?_, ?_, ?_⟩ <;> with_reducible assumption) | go_keep)) (fun hHeld => ?_)
        clear hK K
        try simp only [Act.put, List.setIfInBounds_toArray, List.set_cons_zero, List.set_cons_succ]
        refine wpAnyH_take (i := 5) (v := ?vr1_5) (Fr.take_at rfl) (by kernel_rfl) (by kernel_rfl) (by kernel_rfl) (fun _ _ _ h => h) (Or.inl ⟨by rfl, ?yr1_5⟩) (by assumption) ?nr1_5
        case yr1_5 => (intro w_ hSw; (try dsimp only at hSw); go_simp; (try with_reducible rfl))
        try simp only [Act.put, List.setIfInBounds_toArray, List.set_cons_zero, List.set_cons_succ]
        refine wpAnyH_done (by kernel_rfl) ?_ _
        go_wp2
        rw [HE.out]
        have hb56 : Below w.heap.size w w6 := (hbw4.trans ((below_of_drew hb5).mono hbw4.size)).trans (hb6.mono (Nat.le_trans hbw4.size (below_of_drew hb5).size))
        have hs5 := (below_of_drew hb5).size
        have hset : ListAt w6 _ _ _ := hl6
        exact bodyPost_ret (results_cell_tmp (by rfl) _ _ _ _ _ _ _ _ (by rfl) (by rfl) (set4_blk P2.out) Tryz.underlying35 (by rfl) (by kernel_rfl)) rfl
          (RRet2.mk (ListAt.settle hset (B := W4.heap.size) (ext_two (Nat.le_refl _) hs5) (by omega) (by omega) HL.out.lt hb56) rfl (set4_below hb56 (by omega)) rfl)
      · have HE := Lib.hid (append_dead HN.out hno hd)
        rw [hd] at hdd
        clear hno hd
        go_wp2_with (go_at_call 31; refine hdd.mono ?_; rintro e w3 ⟨rfl, hb3⟩; have j1 := HK1.out.under hb3 HK1.out.lt; have j2 := HK2.out.under hb3 HK2.out.lt; have J2 := Lib.hid j2; obtain ⟨a0', a1', a2', a3'⟩ := blk_cells4 j1; obtain ⟨b0', b1', b2', b3'⟩ := blk_cells4 j2; obtain ⟨f0', f1', f2', f3'⟩ := blk_free4 j2; clear j1 j2)
        rw [HE.out]
        exact bodyPost_ret (results_cell_tmp (by rfl) _ _ _ _ _ _ _ _ (by rfl) (by rfl) (set4_blk J2.out) Tryz.underlying35 (by rfl) (by kernel_rfl)) rfl (RRet2.same HL.out (hbw2.trans (hb3.mono hbw2.size)) (by omega) rfl)
end
end Dr
end Go.Proofs.YtbfmjonabndhaaaGreatDoor
