/-
  WHAT IS PROVED: what the reference's Crash does. CONDITIONS: the list stands in memory as named; the numbers are read as named.
-/
import Derived.Test.YtljhedgcpbapdaaRWalkI
import Derived.Test.YtljhedgcpbapdaaDCrash
import Derived.Deep.DeepCutAuto
namespace Go.Proofs.Ytljhedgcpbapdaa
open Go Go.RowKit Go.Maps Go.Proofs.Ytljhedgcpbapdaa.Fr
namespace Dr

theorem wp_appN {P : Program} (w : World) {o : Oper} {a : Act} {K : Act → World → Prop} {Q : Exit → Act → World → Prop} (s x : Operand) (t : TypeId)
    (ho : o.op = .call { callee := .builtin .append, args := #[s, x], argTypes := #[t, t] })
    (base : Nat) (e : TypeId) (i : TypeInfo) (z : Value) (size bytes : Nat) (ht : P.underlying t = some (.slice e)) (hi : P.info? e = some i) (hz : i.zero = some z)
    (hsize : i.size = size) (hby : i.bytes = bytes) (hzs : z.cells.size = size) (hsz : 0 < size)
    (v : Value) (n : Nat) (xs : List Value) (hs : a.eval s = v) (hown : w.ownsRow base e size v n xs)
    (ad : Addr) (m c : Nat) (news : List Value) (hx : a.eval x = .slice (some ad) m c) (hl : news.length = m * size) (hr : ∀ j u, news[j]? = some u → w.cell? (ad.add j) = some u) (h1 : ∀ u ∈ news, u.oneCell' = true)
    (N : Nat) (hN : n + m = N) (h63 : N ≤ maxLen) (hbytes : N * bytes ≤ 140737488355328) (hbase : base ≤ w.heap.size)
    (h : ∀ A' c' w', w'.ownsRow base e size (.slice A' N c') N (xs ++ news) → Below base w w' → w.grownBy w' v.ownBlock → K (a.put o.dst (.slice A' N c')) w') : o.wp P a w K Q := by
  subst hN
  obtain ⟨v', w', hrun, h2, h3, _, _⟩ := run_append_own_at (P := P) w base t o.type e i z size bytes ht hi hz hsize hby hzs hsz v n xs hown ad m c news hl hr h1 h63 hbytes hbase
  obtain ⟨A', c', rfl, _, _⟩ := own_shapeN h2
  unfold Oper.wp execOp
  simp only [ho, resolve, invoke, builtin, Sem.run_bind, Sem.run_pure, Result.andThen_ok, List.map_toArray, List.map_cons, List.map_nil, hs, hx, hrun]
  exact h A' c' w' h2 ((Below.refl _ _).grown h3 hbase (own_rowN hown)) h3

/-- The loop's state. -/
def CrInv (W3 : World) (bx : Nat) (l : List Fl) (ks : List Int) (s6 s7 : Value) (wr : World) : Prop :=
  ∃ (i nx : Nat) (A : Option Addr) (c : Nat), i ≤ l.length ∧ nx ≤ i ∧ s7 = .int .i64 (i : Int) ∧ s6 = .int .i64 (nx : Int) ∧ rest (l.take i) ks = ks.drop nx ∧ wr.ownsRow W3.heap.size 74 3 (.slice A i c) i (fv (cuts (l.take i) ks)) ∧
    Below bx W3 wr ∧ Blk wr bx 26 #[.slice A i c, .int .i64 0, .bool false, .int .i64 0] ∧ W3.heap.size ≤ wr.heap.size
theorem vint {k : IntKind} {a b : Int} (h : a = b) : Value.int k a = Value.int k b := by rw [h]
/-- Behind the reckoning of what is kept. -/
def CMid (W : World) (f : Fl) (kr ks : List Int) (i : Nat) (s6 s9 : Value) (wx : World) : Prop :=
  ∃ nx' E : Nat, s6 = .int .i64 (nx' : Int) ∧ s9 = .int .i64 (E : Int) ∧ keepN f kr = E ∧ (cut1 f kr).2 = ks.drop nx' ∧ nx' ≤ i + 1 ∧ wx = W
theorem keep_le0 {f : Fl} (h : f.syn < f.dat.length) {k : Int} (hk : k ≤ 0) (ks : List Int) : keepN f (k :: ks) = f.syn := by
  have := (keep_some h k ks).1
  omega
theorem keep_part {f : Fl} (h : f.syn < f.dat.length) {k : Int} (hk : 0 < k) (hl : k < (f.dat.length : Int) - (f.syn : Int)) (ks : List Int) : (keepN f (k :: ks) : Int) = (f.syn : Int) + k := by
  have := (keep_some h k ks).1
  omega
theorem keep_all {f : Fl} (h : f.syn < f.dat.length) {k : Int} (hl : ¬ k < (f.dat.length : Int) - (f.syn : Int)) (ks : List Int) : keepN f (k :: ks) = f.dat.length := by
  have := (keep_some h k ks).1
  omega
theorem below_of_drew' {B : Nat} {a b : World} (h : Below B a.drew b) : Below B a b := ⟨h.os, h.tape, h.output, h.size, h.block⟩
theorem blk_drew {w : World} {g : Nat} {t : TypeId} {cs : Array Value} (h : Blk w g t cs) : Blk w.drew g t cs := h
theorem fb_grown {X w9 : World} {g : Nat} {t : TypeId} {cs : Array Value} {v : Value} (h : Blk X g t cs) (hg : X.grownBy w9 v.ownBlock) (hv : ∀ k, v.ownBlock = some k → k < g) : Blk w9 g t cs := h.same (hg.block g h.lt fun e => by have := hv g e.symm; omega)
theorem crinv_step {W3 wr wc w9 : World} {bx : Nat} {l : List Fl} {ks : List Int} {i nx nx' E : Nat} {f : Fl} {A1 A9 : Option Addr} {c1 c9 : Nat} (hi : l[i]? = some f) (hil : i < l.length) (hr : rest (l.take i) ks = ks.drop nx) (hE : keepN f (ks.drop nx) = E) (hk2 : (cut1 f (ks.drop nx)).2 = ks.drop nx') (hnx : nx' ≤ i + 1)
    (hown : w9.ownsRow W3.heap.size 74 3 (.slice A9 (i + 1) c9) (i + 1) (fv (cuts (l.take i) ks) ++ fcells ⟨f.name, f.dat.take E, E⟩)) (hbx : Blk w9 bx 26 #[.slice A1 i c1, .int .i64 0, .bool false, .int .i64 0]) (hb : Below bx W3 wr) (hbW : Below wr.heap.size wr wc) (hbl : bx < W3.heap.size) (hws : W3.heap.size ≤ wr.heap.size) (hwc : W3.heap.size ≤ wc.heap.size) (hb9 : Below W3.heap.size wc w9) :
    CrInv W3 bx l ks (.int .i64 (nx' : Int)) (.int .i64 ((i : Int) + 1)) (w9.setCell ⟨bx, 0, none⟩ (.slice A9 (i + 1) c9)) := by
  obtain ⟨e1, e2⟩ := cuts_take_succ hi ks
  rw [hr] at e1 e2
  have e3 := (cut1_eq f (ks.drop nx)).1
  rw [hE] at e3
  rw [e3] at e1
  refine ⟨i + 1, nx', A9, c9, hil, hnx, by go_num, rfl, e2.trans hk2, ?_, ?_, ?_, ?_⟩
  · rw [e1, fv_append, fv_one]
    exact own_same hown fun k hk => Below.heap_setCell _ _ _ _ (by show k ≠ bx; have := (hown.lt k hk).1; omega)
  · exact ((hb.trans (hbW.mono (by omega))).trans (hb9.mono (by omega))).setCell (p := ⟨bx, 0, none⟩) (Nat.le_refl _) _
  · have := hbx.set 0 (.slice A9 (i + 1) c9)
    simpa using this
  · have := hb9.size
    simp only [World.setCell, Array.size_modify]
    omega
section
variable {w : World} {T : Nat → Prop} {v : Value} {st : St}
set_option maxRecDepth 100000 in
set_option maxHeartbeats 2000000 in
theorem rcrash_any (h : RefRep w T v st) (hok : st.Ok) (A : Option Addr) (m c : Nat) (ks : List Int) (hl : ks.length = m) (hr : Rd w A (iv ks)) (hm : m ≤ 140737488355328) (hks : ∀ k ∈ ks, -9223372036854775808 ≤ k ∧ k ≤ 9223372036854775807) :
    Calls Try.prog 16 #[v, .slice A m c] w (RRet T w (st.crash ks)) := by
  have HOK := Lib.hid hok
  obtain ⟨A0, c0, rfl, hl0, hlc⟩ := refV_of h
  have HL := Lib.hid hl0
  have hfew := hok.few
  have HKS := Lib.hid hl
  have HR := Lib.hid hr
  have HKB := Lib.hid hks
  obtain ⟨ii, hii, hiz, hiz1, hiz2⟩ := info_parts info_file
  clear h hl0 hok hl hr hks
  go_enter Try.func16, Try.ntmps16
  go_wp2
  obtain ⟨W3, hW3⟩ : ∃ W3, W3 = ((w.alloc (.cells #[.slice A0 st.files.length c0, .int .i64 (st.steps : Int), .bool st.armed, .int .i64 (st.left : Int)] 26)).alloc (.cells #[.slice none 0 0, .int .i64 0, .bool false, .int .i64 0] 26)).alloc (.cells #[.slice none 0 0, .int .i64 0, .bool false, .int .i64 0] 26) := ⟨_, rfl⟩
  rw [← hW3]
  have hsz3 : W3.heap.size = w.heap.size + 3 := by rw [hW3]; simp
  have hbw3 : Below w.heap.size w W3 := by rw [hW3]; exact (((Below.refl _ _).alloc (Nat.le_refl _) _).alloc (by simp) _).alloc (by simp; omega) _
  have k1 : Blk W3 w.heap.size 26 #[.slice A0 st.files.length c0, .int .i64 (st.steps : Int), .bool st.armed, .int .i64 (st.left : Int)] := by rw [hW3]; exact ((Blk.new w _ _).alloc _).alloc _
  have k2 : Blk W3 (w.heap.size + 1) 26 #[.slice none 0 0, .int .i64 0, .bool false, .int .i64 0] := by rw [hW3]; exact (blk_new' (by simp)).alloc _
  have k3 : Blk W3 (w.heap.size + 1 + 1) 26 #[.slice none 0 0, .int .i64 0, .bool false, .int .i64 0] := by rw [hW3]; exact blk_new' (by simp)
  have HK1 := Lib.hid k1
  have HK2 := Lib.hid k2
  have hst0 : CrInv W3 (w.heap.size + 1 + 1) st.files ks (.int .i64 0) (.int .i64 0) W3 := ⟨0, 0, none, 0, Nat.zero_le _, Nat.le_refl _, rfl, rfl, rfl, World.ownsRow_nil _ _ _ _, Below.refl _ _, k3, Nat.le_refl _⟩
  clear k1 k2 k3 hW3
  go_loopw [6, 7] (CrInv W3 (w.heap.size + 1 + 1) st.files ks) (fun _ x _ => st.files.length - (intOf x).toNat)
  case atStart => exact hst0
  case round =>
    clear hst0
    obtain ⟨i, nx, A1, c1, hi, hnx, rfl, rfl, hrest, hown, hb, hbx, hws⟩ := hrel
    have HREST := Lib.hid hrest
    have HBX := Lib.hid hbx
    clear hrest hbx
    have HB1 := Lib.hid (HK1.out.under hb (by omega))
    have a0 := HB1.out.cell 0
    by_cases hlt : i < st.files.length
    · obtain ⟨f, hf⟩ : ∃ f, st.files[i]? = some f := ⟨_, List.getElem?_eq_getElem hlt⟩
      have hbww : Below w.heap.size w wr := hbw3.trans (hb.mono (by omega))
      obtain ⟨gb, rfl, hgb, x0, x1, x2⟩ := (HL.out.below hbww).file hf
      have hfo := HOK.out.file f (List.mem_of_getElem? hf)
      obtain ⟨hf1, hf2, _⟩ := hfo
      have HF := Lib.hid hf
      clear hf
      go_upto_if 30 with (fail)
      obtain ⟨W, hW⟩ : ∃ W, W = wr.alloc (.cells #[.string ⟨f.name.toArray⟩, .string ⟨f.dat.toArray⟩, .int .i64 (f.syn : Int)] 74) := ⟨_, rfl⟩
      rw [← hW]
      have hsW1 : wr.heap.size < W.heap.size := by rw [hW]; simp
      have hsW2 : W.heap.size ≤ wr.heap.size + 1 := by rw [hW]; simp
      have hbW : Below wr.heap.size wr W := by rw [hW]; exact (Below.refl _ _).alloc (Nat.le_refl _) _
      have hfb : Blk W wr.heap.size 74 #[.string ⟨f.name.toArray⟩, .string ⟨f.dat.toArray⟩, .int .i64 (f.syn : Int)] := by rw [hW]; exact Blk.new wr _ _
      have HFB := Lib.hid hfb
      have HBXW := Lib.hid (HBX.out.under hbW HBX.out.lt)
      have HOWNW : Hid (W.ownsRow W3.heap.size 74 3 (.slice A1 i c1) i (fv (cuts (st.files.take i) ks))) := own_same hown fun k hk => hbW.block k (hown.lt k hk).2
      have HRW : Hid (Rd W A (iv ks)) := (HR.out.below hbww).below hbW
      have hrowlt : ∀ k, (Value.slice A1 i c1).ownBlock = some k → k < wr.heap.size := fun k hk => (hown.lt k hk).2
      clear hW hfb x0 x1 x2 a0 hown
      obtain ⟨d0, d1, d2⟩ := blk_cells3 HFB.out
      have hkr := HREST.out
      go_cut [6, 9] (CMid W f (ks.drop nx) ks i)
      case first =>
        by_cases hfull : f.syn = f.dat.length
        · have h1 : ¬ f.syn < f.dat.length := by omega
          have HFU := Lib.hid hfull
          clear hfull hkr
          go_wp2
          go_meet
          case rel => exact ⟨nx, f.dat.length, rfl, rfl, (keep_full HFU.out _).1.trans HFU.out, (keep_full HFU.out _).2, by omega, rfl⟩
        · have h1 : f.syn < f.dat.length := by omega
          have h1' : (f.syn : Int) < (f.dat.length : Int) := by omega
          have h1'' : 0 < (f.dat.length : Int) - (f.syn : Int) := by omega
          clear hfull hkr
          by_cases hnm : nx < m
          · obtain ⟨k, hk⟩ : ∃ k, ks[nx]? = some k := ⟨_, List.getElem?_eq_getElem (by have := HKS.out; omega)⟩
            have hkl : nx < ks.length := (List.getElem?_eq_some_iff.1 hk).1
            have hdr : ks.drop nx = k :: ks.drop (nx + 1) := by rw [List.drop_eq_getElem_cons hkl]; congr 1; exact (List.getElem?_eq_some_iff.1 hk).2
            have hkb := HKB.out k (List.mem_of_getElem? hk)
            obtain ⟨hkb1, hkb2⟩ := hkb
            obtain ⟨bk, ok, rfl, hbk, hck⟩ := HRW.out.at_ (i := nx) (by rw [iv_length]; exact hkl)
            have hck' : W.cell? ⟨bk, ok + nx, none⟩ = some (.int .i64 k) := by rw [hck]; simp only [iv, List.getElem_map]; rw [(List.getElem?_eq_some_iff.1 hk).2]
            have HDR := Lib.hid hdr
            clear hck hk hdr
            by_cases hk0 : 0 < k
            · by_cases hkp : k < (f.dat.length : Int) - (f.syn : Int)
              · go_wp2
                go_meet
                case rel => exact ⟨nx + 1, _, by go_num, vint (keep_part h1 hk0 hkp (ks.drop (nx + 1))).symm, by rw [HDR.out], by rw [HDR.out]; exact (keep_some h1 _ _).2, by omega, rfl⟩
              · go_wp2
                go_meet
                case rel => exact ⟨nx + 1, f.dat.length, by go_num, rfl, by rw [HDR.out]; exact keep_all h1 (by omega) _, by rw [HDR.out]; exact (keep_some h1 _ _).2, by omega, rfl⟩
            · have hk0' : k ≤ 0 := by omega
              go_wp2
              go_meet
              case rel => exact ⟨nx + 1, f.syn, by go_num, by first | rfl | exact vint (by omega), by rw [HDR.out]; exact keep_le0 h1 hk0' _, by rw [HDR.out]; exact (keep_some h1 _ _).2, by omega, rfl⟩
          · have hdr : ks.drop nx = [] := List.drop_eq_nil_of_le (by have := HKS.out; omega)
            have hdr' : ks.drop (nx + 1) = [] := List.drop_eq_nil_of_le (by have := HKS.out; omega)
            have HDR := Lib.hid hdr
            have HDR' := Lib.hid hdr'
            clear hdr hdr'
            go_wp2
            go_meet
            case rel => exact ⟨nx + 1, f.syn, by go_num, by first | rfl | exact vint (by omega), by rw [HDR.out]; exact (keep_none h1).1, by rw [HDR.out, HDR'.out]; exact (keep_none h1).2, by omega, rfl⟩
      case rest =>
        obtain ⟨nx', E, rfl, rfl, hE, hk2, hnx', rfl⟩ := hcut
        have hEle := (cut1_eq f (ks.drop nx)).2
        rw [hE] at hEle
        have hsl : ∀ X : World, (Instr.slice 9 (.string ⟨f.dat.toArray⟩) none (some (.int .i64 (E : Int))) none).run Try.prog X = .ok (.string ⟨(f.dat.take E).toArray⟩) X := fun X => by
          rw [run_slice_string_h X 9 ⟨f.dat.toArray⟩ Try.underlying9 .i64 (E : Int) (by omega) (by show (E : Int) ≤ ((f.dat.toArray.size : Nat) : Int); simp; omega)]
          congr 2
          apply ByteArray.ext
          apply Array.toList_inj.1
          rw [Lib.extract_data]
          simp
        have hsl2 : ∀ X : World, (Instr.sliceAt 9 (.string ⟨f.dat.toArray⟩) none (some (.int .i64 (E : Int))) none).run Try.prog X = .ok (.string ⟨(f.dat.take E).toArray⟩) X := fun X => by
          rw [run_sliceAt_string X 9 _ _ _ _ Try.underlying9]; exact hsl X
        have HE := Lib.hid hE
        have HK2X := Lib.hid hk2
        have bx0 := HBXW.out.cell 0
        have hne1 : ¬ w.heap.size + 1 + 1 = wc.heap.size := by omega
        have hltx : w.heap.size + 1 + 1 < wc.heap.size := by omega
        have hne2 : ¬ wr.heap.size = w.heap.size + 1 + 1 := by omega
        have hne3 : ¬ w.heap.size + 1 + 1 = wr.heap.size := by omega
        have bx1 : wc.cell? ⟨w.heap.size + 1 + 1, 0, none⟩ = some (.slice A1 i c1) := bx0
        clear bx0
        clear hE hk2 hkr
        go_wp2_with fail
        have hbx3 : w.heap.size + 1 + 1 < W3.heap.size := by omega
        refine wp_region_held_drew (S := fun X => X.cell? ⟨wr.heap.size, 0, none⟩ = some (.string ⟨f.name.toArray⟩) ∧ X.cell? ⟨wr.heap.size, 1, none⟩ = some (.string ⟨f.dat.toArray⟩)) (by kernel_rfl) (by (first | (refine ⟨?_, ?_⟩ <;> with_reducible assumption) | go_keep)) (fun hHeld => ?_)
        refine wpAnyH_take (i := 0) (v := ?vr1x_0) (Fr.take_at rfl) (by kernel_rfl) (by kernel_rfl) (by kernel_rfl) (fun _ _ _ h => h) (Or.inl ⟨by rfl, ?yr1x_0⟩) (by assumption) ?nr1x_0
        case yr1x_0 => (intro w_ hSw; (try dsimp only at hSw); go_simp; (try with_reducible rfl))
        try simp only [Act.put, List.setIfInBounds_toArray, List.set_cons_zero, List.set_cons_succ]
        refine wpAnyH_take (i := 2) (v := ?vr1x_2) (Fr.take_at rfl) (by kernel_rfl) (by kernel_rfl) (by kernel_rfl) (fun _ _ _ h => h) (Or.inl ⟨by rfl, ?yr1x_2⟩) (by assumption) ?nr1x_2
        case yr1x_2 => (intro w_ hSw; (try dsimp only at hSw); go_simp; (try with_reducible rfl))
        try simp only [Act.put, List.setIfInBounds_toArray, List.set_cons_zero, List.set_cons_succ]
        refine wpAnyH_take (i := 3) (v := ?vr1x_3) (Fr.take_at rfl) (by kernel_rfl) (by kernel_rfl) (by kernel_rfl) (fun _ _ _ h => h) (Or.inl ⟨by rfl, ?yr1x_3⟩) (by assumption) ?nr1x_3
        case yr1x_3 => (intro w_ hSw; (try dsimp only at hSw); go_simp; (try with_reducible rfl))
        try simp only [Act.put, List.setIfInBounds_toArray, List.set_cons_zero, List.set_cons_succ]
        refine wpAnyH_take (i := 4) (v := ?vr1x_4) (Fr.take_at rfl) (by kernel_rfl) (by kernel_rfl) (by kernel_rfl) (fun _ _ _ h => h) (Or.inl ⟨by rfl, ?yr1x_4⟩) (by assumption) ?nr1x_4
        case yr1x_4 => (intro w_ hSw; (try dsimp only at hSw); go_simp; (try with_reducible rfl))
        try simp only [Act.put, List.setIfInBounds_toArray, List.set_cons_zero, List.set_cons_succ]
        refine wpAnyH_take (i := 5) (v := ?vr1x_5) (Fr.take_at rfl) (by kernel_rfl) (by kernel_rfl) (by kernel_rfl) (fun _ _ _ h => h) (Or.inl ⟨by rfl, ?yr1x_5⟩) (by assumption) ?nr1x_5
        case yr1x_5 => (intro w_ hSw; (try dsimp only at hSw); go_simp; (try with_reducible rfl))
        try simp only [Act.put, List.setIfInBounds_toArray, List.set_cons_zero, List.set_cons_succ]
        refine wpAnyH_take (i := 6) (v := ?vr1x_6) (Fr.take_at rfl) (by kernel_rfl) (by kernel_rfl) (by kernel_rfl) (fun _ _ _ h => h) (Or.inl ⟨by rfl, ?yr1x_6⟩) (by assumption) ?nr1x_6
        case yr1x_6 => (intro w_ hSw; (try dsimp only at hSw); go_simp; (try with_reducible rfl))
        try simp only [Act.put, List.setIfInBounds_toArray, List.set_cons_zero, List.set_cons_succ]
        refine wpAnyH_take (i := 7) (v := ?vr1x_7) (Fr.take_at rfl) (by kernel_rfl) (by kernel_rfl) (by kernel_rfl) (fun _ _ _ h => h) (Or.inl ⟨by rfl, ?yr1x_7⟩) (by assumption) ?nr1x_7
        case yr1x_7 => (intro w_ hSw; (try dsimp only at hSw); go_simp; (try with_reducible rfl))
        try simp only [Act.put, List.setIfInBounds_toArray, List.set_cons_zero, List.set_cons_succ]
        refine wpAnyH_take (i := 8) (v := ?vr1x_8) (Fr.take_at rfl) (by kernel_rfl) (by kernel_rfl) (by kernel_rfl) (fun _ _ _ h => h) (Or.inl ⟨by rfl, ?yr1x_8⟩) (by assumption) ?nr1x_8
        case yr1x_8 => (intro w_ hSw; (try dsimp only at hSw); go_simp; (try with_reducible rfl))
        try simp only [Act.put, List.setIfInBounds_toArray, List.set_cons_zero, List.set_cons_succ]
        refine wpAnyH_take (i := 9) (v := ?vr1x_9) (Fr.take_at rfl) (by kernel_rfl) (by kernel_rfl) (by kernel_rfl) (fun _ _ _ h => h) (Or.inl ⟨by rfl, ?yr1x_9⟩) (by assumption) ?nr1x_9
        case yr1x_9 => (intro w_ hSw; (try dsimp only at hSw); go_simp; (try with_reducible rfl))
        try simp only [Act.put, List.setIfInBounds_toArray, List.set_cons_zero, List.set_cons_succ]
        refine wpAnyH_ready (rs := [1, 10]) (by kernel_rfl) (by simp) ?_
        refine AllReadyH.cons (Fr.take_at rfl) (fun K hK => ?_) (AllReadyH.cons (Fr.take_at rfl) (fun K hK => ?_) AllReadyH.nil)
        go_simp
        refine hK.out _ _ (by (first | (refine ⟨?_, ?_⟩ <;> with_reducible assumption) | go_keep)) (fun hHeld => ?_)
        clear hK K
        try simp only [Act.put, List.setIfInBounds_toArray, List.set_cons_zero, List.set_cons_succ]
        refine wpAnyH_ready (rs := [10]) (by kernel_rfl) (by simp) ?_
        refine AllReadyH.cons (Fr.take_at rfl) (fun K hK => ?_) AllReadyH.nil
        go_simp
        refine hK.out _ _ (by (first | (refine ⟨?_, ?_⟩ <;> with_reducible assumption) | go_keep)) (fun hHeld => ?_)
        clear hK K
        try simp only [Act.put, List.setIfInBounds_toArray, List.set_cons_zero, List.set_cons_succ]
        refine wpAnyH_ready (rs := [11]) (by kernel_rfl) (by simp) ?_
        refine AllReadyH.cons (Fr.take_at rfl) (fun K hK => ?_) AllReadyH.nil
        rw [if_pos (by rfl)]
        (refine wp_appN _ (.tmp 59) (.tmp 68) 24 (by rfl) W3.heap.size 74 ii _ 3 40 Try.underlying24 hii hiz hiz1 hiz2 (by rfl) (by decide) (.slice A1 i c1) i (fv (cuts (st.files.take i) ks)) (by rfl) (HOWNW.out.alloc _) ⟨_, 0, none⟩ 1 1 (fcells ⟨f.name, f.dat.take E, E⟩) (by rfl) (by rfl) (one_cells _ _ _) (fcells_one _) (i + 1) rfl (by unfold maxLen; omega) (by omega) (by simp; omega) ?_; intro A9 c9 w9 hown9 hb9' hg9; have hb9 := below_of_drew' hb9'; have b9 := (HBXW.out.alloc _).under hb9 hbx3; have g9 := fb_grown (blk_drew (HFB.out.alloc _)) hg9 hrowlt; have b90 := b9.cell 0; have b9z := b9.frozen 0; have g90 := g9.cell 0; have g91 := g9.cell 1; have B9 := Lib.hid b9; clear b9 g9)
        refine hK.out _ _ (by (first | (refine ⟨?_, ?_⟩ <;> with_reducible assumption) | go_keep)) (fun hHeld => ?_)
        clear hK K
        try simp only [Act.put, List.setIfInBounds_toArray, List.set_cons_zero, List.set_cons_succ]
        refine wpAnyH_take (i := 12) (v := ?vr1a_12) (Fr.take_at rfl) (by kernel_rfl) (by kernel_rfl) (by kernel_rfl) (fun _ _ _ h => h) (Or.inl ⟨by rfl, ?yr1a_12⟩) (by assumption) ?nr1a_12
        case yr1a_12 => (intro w_ hSw; (try dsimp only at hSw); go_simp; (try with_reducible rfl))
        try simp only [Act.put, List.setIfInBounds_toArray, List.set_cons_zero, List.set_cons_succ]
        refine wpAnyH_ready (rs := [13]) (by kernel_rfl) (by simp) ?_
        refine AllReadyH.cons (Fr.take_at rfl) (fun K hK => ?_) AllReadyH.nil
        go_simp
        refine hK.out _ _ (by (first | (refine ⟨?_, ?_⟩ <;> with_reducible assumption) | go_keep)) (fun hHeld => ?_)
        clear hK K
        try simp only [Act.put, List.setIfInBounds_toArray, List.set_cons_zero, List.set_cons_succ]
        refine wpAnyH_done (by kernel_rfl) ?_ _
        rotate_left
        go_simp
        refine hK.out _ _ (by (first | (refine ⟨?_, ?_⟩ <;> with_reducible assumption) | go_keep)) (fun hHeld => ?_)
        clear hK K
        try simp only [Act.put, List.setIfInBounds_toArray, List.set_cons_zero, List.set_cons_succ]
        refine wpAnyH_ready (rs := [1]) (by kernel_rfl) (by simp) ?_
        refine AllReadyH.cons (Fr.take_at rfl) (fun K hK => ?_) AllReadyH.nil
        go_simp
        refine hK.out _ _ (by (first | (refine ⟨?_, ?_⟩ <;> with_reducible assumption) | go_keep)) (fun hHeld => ?_)
        clear hK K
        try simp only [Act.put, List.setIfInBounds_toArray, List.set_cons_zero, List.set_cons_succ]
        refine wpAnyH_ready (rs := [11]) (by kernel_rfl) (by simp) ?_
        refine AllReadyH.cons (Fr.take_at rfl) (fun K hK => ?_) AllReadyH.nil
        rw [if_pos (by rfl)]
        (refine wp_appN _ (.tmp 59) (.tmp 68) 24 (by rfl) W3.heap.size 74 ii _ 3 40 Try.underlying24 hii hiz hiz1 hiz2 (by rfl) (by decide) (.slice A1 i c1) i (fv (cuts (st.files.take i) ks)) (by rfl) (HOWNW.out.alloc _) ⟨_, 0, none⟩ 1 1 (fcells ⟨f.name, f.dat.take E, E⟩) (by rfl) (by rfl) (one_cells _ _ _) (fcells_one _) (i + 1) rfl (by unfold maxLen; omega) (by omega) (by simp; omega) ?_; intro A9 c9 w9 hown9 hb9' hg9; have hb9 := below_of_drew' hb9'; have b9 := (HBXW.out.alloc _).under hb9 hbx3; have g9 := fb_grown (blk_drew (HFB.out.alloc _)) hg9 hrowlt; have b90 := b9.cell 0; have b9z := b9.frozen 0; have g90 := g9.cell 0; have g91 := g9.cell 1; have B9 := Lib.hid b9; clear b9 g9)
        refine hK.out _ _ (by (first | (refine ⟨?_, ?_⟩ <;> with_reducible assumption) | go_keep)) (fun hHeld => ?_)
        clear hK K
        try simp only [Act.put, List.setIfInBounds_toArray, List.set_cons_zero, List.set_cons_succ]
        refine wpAnyH_take (i := 12) (v := ?vr1b_12) (Fr.take_at rfl) (by kernel_rfl) (by kernel_rfl) (by kernel_rfl) (fun _ _ _ h => h) (Or.inl ⟨by rfl, ?yr1b_12⟩) (by assumption) ?nr1b_12
        case yr1b_12 => (intro w_ hSw; (try dsimp only at hSw); go_simp; (try with_reducible rfl))
        try simp only [Act.put, List.setIfInBounds_toArray, List.set_cons_zero, List.set_cons_succ]
        refine wpAnyH_ready (rs := [13]) (by kernel_rfl) (by simp) ?_
        refine AllReadyH.cons (Fr.take_at rfl) (fun K hK => ?_) AllReadyH.nil
        go_simp
        refine hK.out _ _ (by (first | (refine ⟨?_, ?_⟩ <;> with_reducible assumption) | go_keep)) (fun hHeld => ?_)
        clear hK K
        try simp only [Act.put, List.setIfInBounds_toArray, List.set_cons_zero, List.set_cons_succ]
        refine wpAnyH_done (by kernel_rfl) ?_ _
        all_goals
          go_wp2
          refine ⟨crinv_step HF.out hlt HREST.out HE.out HK2X.out hnx' hown9 B9.out hb hbW (by omega) hws (by omega) (below_app0 (by omega) hb9), by simp [intOf]; omega⟩
    · have hi2 : i = st.files.length := by omega
      have htk : st.files.take i = st.files := List.take_of_length_le (by omega)
      have HB2 := Lib.hid (HK2.out.under hb (by omega))
      obtain ⟨r0, r1, r2, r3⟩ := blk_cells4 HBX.out
      obtain ⟨y0, y1, y2, y3⟩ := blk_cells4 HB2.out
      obtain ⟨z0, z1, z2, z3⟩ := blk_free4 HB2.out
      have hbw : Below w.heap.size w wr := hbw3.trans (hb.mono (by omega))
      rw [htk] at hown
      have hlen : (cuts st.files ks).length = i := by rw [cuts_length]; omega
      have hlist : ListAt wr (fun k => W3.heap.size ≤ k ∧ k < wr.heap.size) (.slice A1 i c1) (cuts st.files ks) := ⟨by rw [hlen]; exact own_zero hown, fun k hk => hown.lt k hk, fun k hk => hk.2⟩
      have HLI := Lib.hid hlist
      clear hlist hlen htk hown
      go_wp2
      exact bodyPost_ret (results_cell_row (by rfl) _ _ _ _ _ _ _ (by rfl) (set4_blk HB2.out) Try.underlying26 (by rfl) (by kernel_rfl)) rfl
        (RRet.mk (ListAt.settle HLI.out (T := T) (B := W3.heap.size) (fun k hk => .inr hk.1) (by omega) (by omega) HL.out.lt hbw) rfl (set4_below hbw (by omega)) (by rw [hi2]; exact refV_mk rfl rfl rfl))
end
end Dr
end Go.Proofs.Ytljhedgcpbapdaa
