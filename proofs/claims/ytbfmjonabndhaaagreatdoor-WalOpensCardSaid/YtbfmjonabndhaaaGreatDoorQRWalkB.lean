/-
  WHAT IS PROVED: (1) what the reference's Dead, step and look do, and how a row of files is appended to. CONDITIONS: the list stands in memory as named.
-/
import Derived.Test.YtbfmjonabndhaaaGreatDoorQRWalkA
import Derived.Test.YtbfmjonabndhaaaGreatDoorQDWalkF
namespace Go.Proofs.YtbfmjonabndhaaaGreatDoor
open Go Go.RowKit Go.Maps Go.Proofs.YtbfmjonabndhaaaGreatDoor.Fr
namespace Dr

/-- A value of the reference is answered. -/
def RRet (T : Nat → Prop) (w : World) (st : St) (e : Ending) (w' : World) : Prop := ∃ v', e = .returned v' ∧ RefRep w' (ext T w w') v' st ∧ Below w.heap.size w w'
/-- With a code. -/
def RRet2 (T : Nat → Prop) (w : World) (p : St × Nat) (e : Ending) (w' : World) : Prop := ∃ v', e = .returned (.tuple #[v', .int .i64 (p.2 : Int)]) ∧ RefRep w' (ext T w w') v' p.1 ∧ Below w.heap.size w w'
theorem RefRep.ext {w w' : World} {T : Nat → Prop} {v : Value} {st : St} (h : RefRep w T v st) (hb : Below w.heap.size w w') : RefRep w' (ext T w w') v st := (h.below hb).more (fun _ hk => .inl hk) (ext_lt h.lt hb.size)
theorem ListAt.ext {w w' : World} {T : Nat → Prop} {v : Value} {l : List Fl} (h : ListAt w T v l) (hb : Below w.heap.size w w') : ListAt w' (ext T w w') v l := (h.below hb).more (fun _ hk => .inl hk) (ext_lt h.lt hb.size)
theorem RRet.mk {w w' : World} {T : Nat → Prop} {st : St} {u v : Value} {l : List Fl} (hl : ListAt w' (Dr.ext T w w') u l) (hf : st.files = l) (hb : Below w.heap.size w w') (hv : v = refV u st) : RRet T w st (.returned v) w' := ⟨v, rfl, ⟨u, hv, by rw [hf]; exact hl⟩, hb⟩
theorem RRet2.mk {w w' : World} {T : Nat → Prop} {st : St} {n : Nat} {u v : Value} {l : List Fl} (hl : ListAt w' (Dr.ext T w w') u l) (hf : st.files = l) (hb : Below w.heap.size w w') (hv : v = refV u st) : RRet2 T w (st, n) (.returned (.tuple #[v, .int .i64 (n : Int)])) w' := ⟨v, rfl, ⟨u, hv, by rw [hf]; exact hl⟩, hb⟩
theorem refV_mk {u : Value} {st : St} {a c : Int} {b : Bool} (h1 : a = (st.steps : Int)) (h2 : b = st.armed) (h3 : c = (st.left : Int)) : (.agg #[u, .int .i64 a, .bool b, .int .i64 c] : Value) = refV u st := by subst h1 h2 h3; rfl
theorem rat_none {w w' : World} {l : List Fl} {n : Bs} {e : Ending} (h : RAt w l n e w') (hf : find l n = none) : e = .returned (.int .i64 (-1)) ∧ Below w.heap.size w w' := by
  obtain ⟨hb, ⟨_, h⟩ | ⟨i, f, _, h, _⟩⟩ := h
  · exact ⟨h, hb⟩
  · rw [hf] at h; cases h
theorem rat_some {w w' : World} {l : List Fl} {n : Bs} {e : Ending} {f : Fl} (h : RAt w l n e w') (hf : find l n = some f) : ∃ (i : Nat) (f' : Fl), Hid (l[i]? = some f' ∧ f' = f) ∧ e = .returned (.int .i64 (i : Int)) ∧ Below w.heap.size w w' := by
  obtain ⟨hb, ⟨h, _⟩ | ⟨i, f', h1, h, h2⟩⟩ := h
  · rw [hf] at h; cases h
  · rw [hf] at h; cases h
    exact ⟨i, f, ⟨h1, rfl⟩, h2, hb⟩
theorem box_trans {w w1 : World} {o : Obj} (hb : Below (w.alloc o).heap.size (w.alloc o) w1) : Below w.heap.size w w1 := ((Below.refl w.heap.size w).alloc (Nat.le_refl _) o).trans (hb.mono (by simp))
/-- The box's cells. -/
theorem box_cell {w w1 : World} {cs : Array Value} {t : TypeId} (hb : Below (w.alloc (.cells cs t)).heap.size (w.alloc (.cells cs t)) w1) : ∀ i, w1.cell? ⟨w.heap.size, i, none⟩ = cs[i]? := fun i => by
  have h1 : Blk w1 w.heap.size t cs := (Blk.new w t cs).same (hb.block _ (by simp))
  exact h1.cell i
section
variable {w : World} {T : Nat → Prop} {v : Value} {st : St}
theorem rdead_any (h : RefRep w T v st) : Calls Tryz.prog 31 #[v] w fun e w' => e = .returned (.bool st.dead) ∧ Below w.heap.size w w' := by
  obtain ⟨A, c, rfl, hl, hlc⟩ := refV_of h
  cases ha : st.armed
  · have hd : st.dead = false := by simp [St.dead, ha]
    have HD := Lib.hid hd
    clear h hl hd ha
    go_enter Tryz.func31, Tryz.ntmps31
    go_wp2
    go_ret
    exact ⟨ret_bool HD.out.symm, (Below.refl _ _).alloc (Nat.le_refl _) _⟩
  · have hd : st.dead = ((st.left : Int) == 0) := by
      simp only [St.dead, ha, Bool.true_and]
      rw [Bool.eq_iff_iff]
      simp
    have HD := Lib.hid hd
    clear h hl hd ha
    go_enter Tryz.func31, Tryz.ntmps31
    go_wp2
    go_ret
    exact ⟨ret_bool HD.out.symm, (Below.refl _ _).alloc (Nat.le_refl _) _⟩
theorem rstep_any (h : RefRep w T v st) (hd : st.dead = false) (hs : st.steps + 1 ≤ 9223372036854775807) (hleft : st.left ≤ 9223372036854775807) :
    Calls Tryz.prog 66 #[v] w (RRet T w st.step) := by
  obtain ⟨A, c, rfl, hl, hlc⟩ := refV_of h
  have HL := Lib.hid hl
  cases ha : st.armed
  · have HA := Lib.hid ha
    clear h hl ha hd
    go_enter Tryz.func66, Tryz.ntmps66
    go_wp2
    have hb : Below w.heap.size w _ := ((Below.refl w.heap.size w).alloc (Nat.le_refl _) (.cells #[.slice A st.files.length c, .int .i64 ((st.steps : Int) + 1), .bool false, .int .i64 (st.left : Int)] 35)).alloc (by simp) (.cells #[.slice A st.files.length c, .int .i64 ((st.steps : Int) + 1), .bool false, .int .i64 (st.left : Int)] 35)
    exact bodyPost_ret (v := .agg #[.slice A st.files.length c, .int .i64 ((st.steps : Int) + 1), .bool false, .int .i64 (st.left : Int)]) (by simp [results, Tryz.results66, go_sem]) rfl (RRet.mk (HL.out.ext hb) rfl hb (refV_mk (by simp [St.step]) (by simp [St.step, HA.out]) (by simp [St.step, HA.out])))
  · have h1 : 1 ≤ st.left := by
      simp only [St.dead, ha, Bool.true_and, beq_eq_false_iff_ne] at hd
      omega
    have HA := Lib.hid ha
    clear h hl ha hd
    go_enter Tryz.func66, Tryz.ntmps66
    go_wp2
    have hb : Below w.heap.size w _ := ((Below.refl w.heap.size w).alloc (Nat.le_refl _) (.cells #[.slice A st.files.length c, .int .i64 ((st.steps : Int) + 1), .bool true, .int .i64 ((st.left : Int) - 1)] 35)).alloc (by simp) (.cells #[.slice A st.files.length c, .int .i64 ((st.steps : Int) + 1), .bool true, .int .i64 ((st.left : Int) - 1)] 35)
    exact bodyPost_ret (v := .agg #[.slice A st.files.length c, .int .i64 ((st.steps : Int) + 1), .bool true, .int .i64 ((st.left : Int) - 1)]) (by simp [results, Tryz.results66, go_sem]) rfl (RRet.mk (HL.out.ext hb) rfl hb (refV_mk (by simp [St.step]) (by simp [St.step, HA.out]) (by simp only [St.step, HA.out, if_true]; omega)))

theorem rlook_any (h : RefRep w T v st) (hok : st.Ok) (s : ByteArray) (hs : s.size ≤ maxLen) :
    Calls Tryz.prog 90 #[v, .string s] w fun e w' => e = .returned (.int .i64 (st.look s.data.toList : Int)) ∧ Below w.heap.size w w' := by
  have HH := Lib.hid h
  have hc := fun W => rname_any s W hs
  have hb : ∀ W, Below w.heap.size w W → RefRep W T v st := fun W k => h.below k
  have HAT := Lib.hid fun W (k : Below w.heap.size w W) => at_any (hb W k) hok s
  have HDD := Lib.hid fun W (k : Below w.heap.size w W) => rdead_any (hb W k)
  obtain ⟨A, c, rfl, hl, hlc⟩ := refV_of h
  clear h hl hb
  cases hn : nameOk s.data.toList
  · have HE := Lib.hid (look_bad (st := st) hn)
    rw [hn] at hc
    clear hn
    go_enter Tryz.func90, Tryz.ntmps90
    go_wp2_with (go_at_call 20; refine (hc _).mono ?_; rintro e w' ⟨rfl, rfl⟩)
    go_ret
    rw [HE.out]
    exact ⟨rfl, (Below.refl _ _).alloc (Nat.le_refl _) _⟩
  · rw [hn] at hc
    cases hf : find st.files s.data.toList with
    | none =>
      have HE := Lib.hid (look_none hn hf)
      have HF := Lib.hid hf
      clear hn hf
      go_enter Tryz.func90, Tryz.ntmps90
      go_wp2_with (first
        | (go_at_call 20; refine (hc _).mono ?_; rintro e w' ⟨rfl, rfl⟩)
        | (go_at_call 21; refine (HAT.out _ ((Below.refl _ _).alloc (Nat.le_refl _) _)).mono ?_; intro e w1 hra; have hra2 := rat_none hra HF.out; obtain ⟨rfl, hb1⟩ := hra2; clear hra))
      go_ret
      rw [HE.out]
      exact ⟨rfl, ((Below.refl _ _).alloc (Nat.le_refl _) _).trans (hb1.mono (by simp))⟩
    | some f =>
      have HF := Lib.hid hf
      cases hd : st.dead
      all_goals
        first | (have HE := Lib.hid (look_live hn hf hd)) | (have HE := Lib.hid (look_dead hn hf hd))
        have HD := Lib.hid hd
        clear hn hf hd
        go_enter Tryz.func90, Tryz.ntmps90
        go_wp2_with (first
          | (go_at_call 20; refine (hc _).mono ?_; rintro e w' ⟨rfl, rfl⟩)
          | (go_at_call 21; refine (HAT.out _ ((Below.refl _ _).alloc (Nat.le_refl _) _)).mono ?_; intro e w1 hra; have hra2 := rat_some hra HF.out; obtain ⟨i, f', hi, rfl, hb1⟩ := hra2; clear hra; have hbw1 := box_trans hb1; have kc := box_cell hb1)
          | (go_at_call 31; refine (HDD.out _ hbw1).mono ?_; rw [HD.out]; rintro e w2 ⟨rfl, hb2⟩))
        go_ret
        rw [HE.out]
        exact ⟨rfl, hbw1.trans (hb2.mono hbw1.size)⟩
end
end Dr
end Go.Proofs.YtbfmjonabndhaaaGreatDoor
