/-
  WHAT IS PROVED: (1) what the reference's Open answers. CONDITIONS: the drive stands in memory as named.
-/
import Derived.Test.YtbfmjonabndhaaaGreatDoorQWRSegs
import Derived.Laws.IdiomStrings
import Derived.Laws.AppendOwn
namespace Go.Proofs.YtbfmjonabndhaaaGreatDoor
open Go Go.RowKit Go.Maps Go.Proofs.YtbfmjonabndhaaaGreatDoor.Dr Go.Proofs.YtbfmjonabndhaaaGreatDoor.Fr
namespace Wl
theorem mxi (x y z : Int) (h : max x y = z) : ∀ W : World, (Builtin.max_ #[3, 3] 3 #[.int .i64 x, .int .i64 y]).run Tryz.prog W = .ok (.int .i64 z) W := fun W => by
  rw [run_max_int2]
  congr 2
  split <;> omega
/-- A string's bytes in new memory. -/
theorem conv_str (s : ByteArray) (W : World) : ∃ A c W', (convert 9 28 (.string s)).run Tryz.prog W = .ok (.slice A s.size c) W' ∧ s.size ≤ c ∧ Rd W' A (bv s.data.toList) ∧ Below W.heap.size W W' := by
  obtain ⟨g, hg⟩ : ∃ g, g = grownCap W s.size 0 5 := ⟨_, rfl⟩
  have hrun := run_bytes_of_string (P := Tryz.prog) W 9 28 5 s Tryz.underlying9 Tryz.underlying28 Tryz.underlying5
  refine ⟨_, _, _, hrun, ?_, ?_, (below_drewN (Below.refl _ W) 1).alloc (by simp) _⟩
  · exact grownCap_ge _ _ _ _
  · intro _
    have hb := Rd.block W.drew 5 ((bytesRow s (grownCap W s.size 0 5)).size, (bytesRow s (grownCap W s.size 0 5)).size + 1) (bytesRow s (grownCap W s.size 0 5))
    have ht := hb.take s.size
    have e : (bytesRow s (grownCap W s.size 0 5)).toList.take s.size = bv s.data.toList := by
      unfold bytesRow
      rw [Array.toList_append, List.take_left' (by simp)]
      simp [bv]
    rw [e] at ht
    exact ht ‹_›
theorem wp_conv {P : Program} {o : Oper} {a : Act} {w w' : World} {K : Act → World → Prop} {Q : Exit → Act → World → Prop} {s d : TypeId} {x : Operand} {v v' : Value} (ho : o.op = .convert s d x) (hx : a.eval x = v) (hrun : (convert s d v).run P w = .ok v' w') (h : K (a.put o.dst v') w') : o.wp P a w K Q := by
  unfold Oper.wp execOp
  simp only [ho, hx, Sem.run_bind, hrun, Result.andThen_ok, Sem.run_pure]
  exact h
section
variable {w : World} {T : Nat → Prop} {v : Value} {st : St}
theorem rat_some (h : RefRep w T v st) (hok : st.Ok) (s : ByteArray) {f : Fl} (hf : find st.files s.data.toList = some f) :
    Calls Tryz.prog 21 #[v, .string s] w fun e w' => ∃ k : Nat, st.files[k]? = some f ∧ e = .returned (.int .i64 (k : Int)) ∧ Below w.heap.size w w' := by
  refine (at_any h hok s).mono ?_
  rintro e w' ⟨hb, ⟨h1, _⟩ | ⟨k, f', h1, h2, rfl⟩⟩
  · rw [hf] at h1; cases h1
  · rw [hf] at h2; cases h2
    exact ⟨k, h1, rfl, hb⟩
theorem rat_none (h : RefRep w T v st) (hok : st.Ok) (s : ByteArray) (hf : find st.files s.data.toList = none) :
    Calls Tryz.prog 21 #[v, .string s] w fun e w' => e = .returned (.int .i64 (-1)) ∧ Below w.heap.size w w' := by
  refine (at_any h hok s).mono ?_
  rintro e w' ⟨hb, ⟨_, rfl⟩ | ⟨k, f', h1, h2, rfl⟩⟩
  · exact ⟨rfl, hb⟩
  · rw [hf] at h2; cases h2
end
theorem results_c2 {P : Program} {fn : Func} {p q r : Tmp} {ty : TypeId} (h : fn.results = #[.cell p ty, .tmp q, .tmp r]) (tmps : Array Value) (w : World) (g : Nat) (t : TypeId) (cs : Array Value) (fr : Nat × Nat) (d : TypeDesc) (v x : Value)
    (hp : tmps.getD p undef = .pointer (some ⟨g, 0, none⟩)) (hq : tmps.getD q undef = v) (hr : tmps.getD r undef = x) (hg : w.heap[g]? = some (.cells cs t fr))
    (hu : P.underlying ty = some d) (hd : (match d with | .struct _ | .array _ _ => true | _ => false) = true) (hi : (P.info? ty).map (·.size) = some cs.size) :
    (results fn tmps).run P w = .ok (.tuple #[.agg cs, v, x]) w := by
  have hp' : tmps[p]?.getD undef = .pointer (some ⟨g, 0, none⟩) := by simpa using hp
  have hq' : tmps[q]?.getD undef = v := by simpa using hq
  have hr' : tmps[r]?.getD undef = x := by simpa using hr
  simp [results, h, hp', hq', hr', asAddr, run_loadVar_row w g t ty cs fr d hg hu hd hi]
/-- The drive's, the log's and the result's boxes. -/
structure RoB (W : World) (D R L : Nat) (vs : List Value) (g : Int) : Prop where
  d : Blk W D 35 vs.toArray
  r : Blk W R 42 #[.int .i64 0, .bool false]
  l : Blk W L 42 #[.int .i64 g, .bool false]
  ne : R ≠ L
structure RoAt (w wr : World) (D R L : Nat) (vd : List Value) (a : Int) (fs : List Fl) (ns : List Int) (NV : Value) (i : Nat) (g : Int) (v : Value) (j : Nat) (vs : List Value) : Prop where
  box : RoB wr D R L vd g
  row : wr.ownsRow w.heap.size 28 1 v j vs
  pays : OwnL wr w.heap.size vs (paysOf fs a (ns.take i))
  len : (paysOf fs a (ns.take i)).length = j
  few : j ≤ 262144 * i
  bel : Below w.heap.size w wr
  new : w.heap.size ≤ D ∧ w.heap.size ≤ R ∧ w.heap.size ≤ L
  num : wr.ownsRow w.heap.size 3 1 NV ns.length (ints ns)
section
variable {w wr : World} {D R L i j : Nat} {vd : List Value} {a g : Int} {fs : List Fl} {ns : List Int} {NV v : Value} {vs : List Value}
theorem RoB.same {W W' : World} (h : RoB W D R L vd g) (hk : ∀ k t cs, Blk W k t cs → t = 35 ∨ t = 42 → W'.heap[k]? = W.heap[k]?) : RoB W' D R L vd g :=
  ⟨h.d.same (hk _ _ _ h.d (.inl rfl)), h.r.same (hk _ _ _ h.r (.inr rfl)), h.l.same (hk _ _ _ h.l (.inr rfl)), h.ne⟩
theorem RoB.below {W W' : World} (h : RoB W D R L vd g) (hb : Below W.heap.size W W') : RoB W' D R L vd g := h.same fun k _ _ hk _ => hb.block k hk.lt
theorem RoAt.below {wx : World} (h : RoAt w wr D R L vd a fs ns NV i g v j vs) (hb : Below wr.heap.size wr wx) : RoAt w wx D R L vd a fs ns NV i g v j vs :=
  ⟨h.box.below hb, own_below h.row hb (Nat.le_refl _), h.pays.below hb, h.len, h.few, h.bel.trans (hb.mono h.bel.size), h.new, own_below h.num hb (Nat.le_refl _)⟩
theorem RoAt.set (h : RoAt w wr D R L vd a fs ns NV i g v j vs) (z : Int) : RoAt w (wr.setCell ⟨L, 0, none⟩ (.int .i64 z)) D R L vd a fs ns NV i z v j vs := by
  have hDL : D ≠ L := Blk.ne h.box.d h.box.l (by decide)
  have hl := h.box.l.set 0 (.int .i64 z)
  exact ⟨⟨h.box.d.same (Below.heap_setCell _ _ _ _ hDL), h.box.r.same (Below.heap_setCell _ _ _ _ h.box.ne), hl, h.box.ne⟩, row_set h.row h.box.l (by decide) _, h.pays.keep fun _ _ _ _ ho => row_set ho h.box.l (by decide) _, h.len, h.few,
    h.bel.trans (((Mod.refl (fun k => k = L) wr).setCell (p := ⟨L, 0, none⟩) (fun _ => rfl) (.int .i64 z)).to_below (fun k e => by subst e; exact h.new.2.2) h.bel.size), h.new, row_set h.num h.box.l (by decide) _⟩
theorem RoAt.no {n : Int} (h : RoAt w wr D R L vd a fs ns NV i g v j vs) (hn : ns[i]? = some n) (hle : ¬ a ≤ n) : RoAt w wr D R L vd a fs ns NV (i + 1) g v j vs := by
  have e : paysOf fs a (ns.take (i + 1)) = paysOf fs a (ns.take i) := by rw [List.take_add_one, hn]; exact paysOf_no _ _ hle
  exact ⟨h.box, h.row, by rw [e]; exact h.pays, by rw [e]; exact h.len, by have := h.few; omega, h.bel, h.new, h.num⟩
/-- The segment's payloads are put behind the others. -/
theorem RoAt.yes {n : Int} {wx : World} {A8 : Option Addr} {k2 c8 b2 : Nat} {us : List Value} (h : RoAt w wr D R L vd a fs ns NV i g v j vs) (hn : ns[i]? = some n) (hle : a ≤ n) (hk : (payOf fs n).length = k2) (hk2 : k2 ≤ 262144) (hol : OwnL wr b2 us (payOf fs n)) (hb2 : w.heap.size ≤ b2) (hd : ∀ (u : Value) (q : Nat), u ∈ vs → u.ownBlock = some q → q < b2)
    (hown : wx.ownsRow w.heap.size 28 1 (.slice A8 (j + k2) c8) (j + k2) (vs ++ us)) (hb : Below w.heap.size wr wx) (hg : wr.grownBy wx v.ownBlock) : RoAt w wx D R L vd a fs ns NV (i + 1) g (.slice A8 (j + k2) c8) (j + k2) (vs ++ us) := by
  have e : paysOf fs a (ns.take (i + 1)) = paysOf fs a (ns.take i) ++ payOf fs n := by rw [List.take_add_one, hn]; exact paysOf_yes _ _ hle
  refine ⟨h.box.same fun k t cs hk ht => hg.block k hk.lt fun e => own_not_box h.row hk (by rcases ht with rfl | rfl <;> decide) e.symm, hown, ?_, by rw [e, List.length_append, h.len, hk], by have := h.few; omega, h.bel.trans hb, h.new, own_kept h.num h.row (by decide) hg⟩
  rw [e]
  exact ownL_join (h.pays.grown h.row (by decide) hg) (hol.grown h.row (by decide) hg) hb2 hd
end
/-- What the reference's Open answers. -/
def ROpenRet (w : World) (a : Int) (fs : List Fl) (e : Ending) (w' : World) : Prop :=
  ∃ A k c vs, e = .returned (.tuple #[.agg #[.int .i64 (nextOf a (segs fs)), .bool false], .slice A k c, .int .i64 0]) ∧ (paysOf fs a (segs fs)).length = k ∧ k ≤ c ∧ k ≤ 67108864 ∧
    w'.ownsRow w.heap.size 28 1 (.slice A k c) k vs ∧ OwnL w' w.heap.size vs (paysOf fs a (segs fs)) ∧ Below w.heap.size w w'
def RoI (w : World) (D R L : Nat) (vd : List Value) (a : Int) (fs : List Fl) (ns : List Int) (NV : Value) (s8 s10 : Value) (wr : World) : Prop :=
  ∃ (i j c : Nat) (A : Option Addr) (vs : List Value), i ≤ ns.length ∧ s10 = .int .i64 (i : Int) ∧ s8 = .slice A j c ∧ j ≤ c ∧ Hid (RoAt w wr D R L vd a fs ns NV i (nextOf a (ns.take i)) (.slice A j c) j vs)
theorem find_seg {fs : List Fl} {M : Nat} {s : ByteArray} {f : Fl} (h1 : s.data.toList = rname M) (h2 : seg (M : Int) = rname M) (h3 : find fs (seg (M : Int)) = some f) : find fs s.data.toList = some f := by rw [h1, ← h2]; exact h3
theorem idx_lt {α : Type} {l : List α} {k N : Nat} {x : α} (h : l[k]? = some x) (hN : l.length = N) : (k : Int) < (N : Int) := by
  have := (List.getElem?_eq_some_iff.1 h).1
  omega
theorem cellsD {W : World} {D : Nat} {vd : List Value} {x0 x1 x2 x3 : Value} (h : Blk W D 35 vd.toArray) (hv : vd = [x0, x1, x2, x3]) : W.cell? ⟨D, 0, none⟩ = some x0 ∧ W.cell? ⟨D, 1, none⟩ = some x1 ∧ W.cell? ⟨D, 2, none⟩ = some x2 ∧ W.cell? ⟨D, 3, none⟩ = some x3 := by
  subst hv
  exact ⟨h.cell 0, h.cell 1, h.cell 2, h.cell 3⟩
section
variable {w : World} {T : Nat → Prop} {v : Value} {st : St}
set_option maxRecDepth 100000 in
set_option maxHeartbeats 3200000 in
theorem ropen_any (h : RefRep w T v st) (hok : st.Ok) (a : Int) (ha : 1 ≤ a) (ha2 : a ≤ 999999) :
    Calls Tryz.prog 9 #[v, .int .i64 a] w (ROpenRet w a st.files) := by
  obtain ⟨A0, c0, rfl, hl, hlc⟩ := refV_of h
  obtain ⟨fs, hfs⟩ : ∃ fs, fs = st.files := ⟨_, rfl⟩
  obtain ⟨ns, hns⟩ : ∃ ns, ns = segs fs := ⟨_, rfl⟩
  obtain ⟨N, hN⟩ : ∃ N, N = st.files.length := ⟨_, rfl⟩
  have hfw : fs.length ≤ 256 := by rw [hfs]; exact hok.few
  have hnw : ns.length ≤ 256 := by rw [hns]; exact Nat.le_trans (segs_length _) hfw
  have HM := Lib.hid (fun n (hn : n ∈ ns) => segs_mem (l := fs) (n := n) (hns ▸ hn))
  have HF := Lib.hid (fun n (hn : n ∈ ns) => segs_find (l := fs) (by rw [hfs]; exact hok.rising) (n := n) (hns ▸ hn))
  have HP := Lib.hid (fun n => payOf_len (l := fs) (by rw [hfs]; exact fun f hf => (hok.file f hf).1) n)
  have HDL := Lib.hid (fun (f : Fl) (k : Nat) (hk : fs[k]? = some f) => (hok.file f (List.mem_of_getElem? (hfs ▸ hk))).1)
  have HS := Lib.hid (fun (W : World) (hW : Below w.heap.size w W) => rsegments_any (h.below hW) hok)
  have HAT := Lib.hid (fun (W : World) (hW : Below w.heap.size w W) (s : ByteArray) (f : Fl) (hf : find fs s.data.toList = some f) => rat_some (h.below hW) hok s (f := f) (by rw [← hfs]; exact hf))
  have HL := Lib.hid (fun (W : World) (hW : Below w.heap.size w W) => hl.below hW)
  rw [← hN] at HS HAT HL ⊢
  rw [← hfs] at HS HAT HL ⊢
  rw [← hns] at HS
  have HNS := Lib.hid hns
  have HNN := Lib.hid (show fs.length = N by rw [hfs, hN])
  obtain ⟨i1, hi1, hy, hy1, hy2⟩ := info_parts info_sl
  obtain ⟨vd, hvd⟩ : ∃ vd : List Value, vd = [.slice A0 N c0, .int .i64 (st.steps : Int), .bool st.armed, .int .i64 (st.left : Int)] := ⟨_, rfl⟩
  have HVD := Lib.hid hvd
  clear hfs hns hN h hok hl hlc hvd
  have k1 : ¬ a < 1 := by omega
  have k2 : ¬ 999999 < a := by omega
  go_enter Tryz.func9, Tryz.ntmps9
  go_upto_region 5 with fail
  obtain ⟨W1, hW1⟩ : ∃ W1, W1 = ((w.alloc (.cells #[.slice A0 N c0, .int .i64 (st.steps : Int), .bool st.armed, .int .i64 (st.left : Int)] 35)).alloc (.cells #[.int .i64 0, .bool false] 42)).alloc (.cells #[.int .i64 a, .bool false] 42) := ⟨_, rfl⟩
  obtain ⟨D, hD⟩ : ∃ D, D = w.heap.size := ⟨_, rfl⟩
  obtain ⟨R, hR⟩ : ∃ R, R = D + 1 := ⟨_, rfl⟩
  obtain ⟨L, hL⟩ : ∃ L, L = R + 1 := ⟨_, rfl⟩
  have hb1 : Below w.heap.size w W1 := by rw [hW1]; exact (((Below.refl _ _).alloc (Nat.le_refl _) _).alloc (by simp) _).alloc (by simp; omega) _
  have hbx : RoB W1 D R L vd a := by
    refine ⟨?_, ?_, ?_, by omega⟩
    · rw [hW1, hD, HVD.out]; exact ((Blk.new w _ _).alloc _).alloc _
    · have h1 := Blk.new (w.alloc (.cells #[.slice A0 N c0, .int .i64 (st.steps : Int), .bool st.armed, .int .i64 (st.left : Int)] 35)) 42 #[.int .i64 0, .bool false]
      rw [World.size_alloc] at h1
      rw [hW1, hR, hD]; exact h1.alloc _
    · have h1 := Blk.new ((w.alloc (.cells #[.slice A0 N c0, .int .i64 (st.steps : Int), .bool st.armed, .int .i64 (st.left : Int)] 35)).alloc (.cells #[.int .i64 0, .bool false] 42)) 42 #[.int .i64 a, .bool false]
      rw [World.size_alloc, World.size_alloc] at h1
      rw [hW1, hL, hR, hD]; exact h1
  have hcs := cellsD hbx.d HVD.out
  rw [← hW1, ← hD, ← hR, ← hL]
  have HB1 := Lib.hid hb1
  have HBX := Lib.hid hbx
  have HDR := Lib.hid (show w.heap.size ≤ D ∧ w.heap.size ≤ R ∧ w.heap.size ≤ L by omega)
  clear hW1 hb1 hbx hD hR hL
  obtain ⟨q0, q1, q2, q3⟩ := hcs
  go_upto_region 6 with (go_at_call 26; refine (HS.out W1 HB1.out).mono ?_; rintro e w2 ⟨AN, nn, cn, rfl, hnn, hnc, hown, hb2⟩)
  subst hnn
  have h0 : RoAt w w2 D R L vd a fs ns (.slice AN ns.length cn) 0 (nextOf a (ns.take 0)) (.slice none 0 0) 0 [] :=
    ⟨HBX.out.below hb2, World.ownsRow_nil _ _ _ _, ⟨rfl, fun i v l h => by simp at h⟩, rfl, by omega, HB1.out.trans (hb2.mono HB1.out.size), HDR.out, own_mono hown HB1.out.size⟩
  have H0 := Lib.hid h0
  clear h0 hb2 hown q0 q1 q2 q3 HBX HB1
  go_wp2
  go_loopw [8, 10] (RoI w D R L vd a fs ns (.slice AN ns.length cn)) (fun _ x _ => ns.length - (intOf x).toNat)
  case atStart => exact ⟨0, 0, 0, none, [], by omega, rfl, rfl, by omega, H0⟩
  case round =>
    clear H0
    obtain ⟨i, j, c, A, vs, hi, rfl, rfl, hjc, HK⟩ := hrel
    by_cases hlt : i < ns.length
    · obtain ⟨n, hn⟩ : ∃ n, ns[i]? = some n := ⟨ns[i]'(by omega), List.getElem?_eq_getElem _⟩
      have hnm : n ∈ ns := List.mem_of_getElem? hn
      obtain ⟨hn1, hn2, _⟩ := HM.out n hnm
      obtain ⟨f, hf⟩ := HF.out n hnm
      obtain ⟨M, rfl⟩ : ∃ M : Nat, n = (M : Int) := ⟨n.toNat, by omega⟩
      obtain ⟨gn, on, rfl, hgn, q0⟩ := (Rd.own HK.out.num).at_ (i := i) (by rw [ints_len]; omega)
      have q1 : wr.cell? ⟨gn, on + i, none⟩ = some (.int .i64 (M : Int)) := by
        rw [q0]
        simp only [ints, List.getElem_map, Option.some.injEq]
        rw [(List.getElem?_eq_some_iff.1 hn).2]
      obtain ⟨g, hg⟩ : ∃ g, g = nextOf a (ns.take i) := ⟨_, rfl⟩
      rw [← hg] at HK
      obtain ⟨g2, hg2⟩ : ∃ g2, g2 = max g ((M : Int) + 1) := ⟨_, rfl⟩
      have hgn2 : g2 = nextOf a (ns.take (i + 1)) := by rw [hg2, hg, List.take_add_one, hn]; exact (nextOf_snoc _ _ _).symm
      have c1 : wr.cell? ⟨L, 0, none⟩ = some (.int .i64 g) := HK.out.box.l.cell 0
      have f1 := HK.out.box.l.frozen 0
      have hgL : gn ≠ L := fun e => own_not_box HK.out.num HK.out.box.l (by decide) (by rw [e]; rfl)
      have q1s := fun v : Value => (World.cell?_of_block (a := ⟨gn, on + i, none⟩) (Below.heap_setCell wr ⟨L, 0, none⟩ v gn hgL)).trans q1
      have hw : IntKind.i64.wrap ((M : Int) + 1) = (M : Int) + 1 := IntWalk.i64_in _ (by omega)
      have HW := Lib.hid (show max g (IntKind.i64.wrap ((M : Int) + 1)) = g2 by rw [hw, hg2])
      have hlt' : (i : Int) < (ns.length : Int) := by omega
      have hi0 : (0 : Int) ≤ (i : Int) := by omega
      have HSET := Lib.hid (HK.out.set g2)
      have HN := Lib.hid hn
      have HFF := Lib.hid hf
      have HG2 := Lib.hid hgn2
      have hjw := HK.out.few
      have hM1 : M ≤ 999999 := by omega
      clear q0 hn hf hg hg2 hgn2 hnm hw
      go_upto_region 9 with fail
      refine wp_region_held_drew (S := (fun W => W.cell? ⟨gn, on + i, none⟩ = some (.int .i64 (M : Int)))) (by kernel_rfl) (by (first | exact q1 | exact q1s _)) (fun hHeld => ?_)
      refine wpAnyH_take (i := 0) (v := ?vr1_0) (Fr.take_at rfl) (by kernel_rfl) (by kernel_rfl) (by kernel_rfl) (fun _ _ _ h => h) (Or.inl ⟨by rfl, ?yr1_0⟩) (by assumption) ?nr1_0
      case yr1_0 => (intro w_ hSw; (try dsimp only at hSw); go_simp; (try with_reducible rfl))
      try simp only [Act.put, List.setIfInBounds_toArray, List.set_cons_zero, List.set_cons_succ]
      refine wpAnyH_take (i := 2) (v := ?vr1_2) (Fr.take_at rfl) (by kernel_rfl) (by kernel_rfl) (by kernel_rfl) (fun _ _ _ h => h) (Or.inl ⟨by rfl, ?yr1_2⟩) (by assumption) ?nr1_2
      case yr1_2 => (intro w_ hSw; (try dsimp only at hSw); go_simp; (try with_reducible rfl))
      try simp only [Act.put, List.setIfInBounds_toArray, List.set_cons_zero, List.set_cons_succ]
      refine wpAnyH_take (i := 3) (v := ?vr1_3) (Fr.take_at rfl) (by kernel_rfl) (by kernel_rfl) (by kernel_rfl) (fun _ _ _ h => h) (Or.inl ⟨by rfl, ?yr1_3⟩) (by assumption) ?nr1_3
      case yr1_3 => (intro w_ hSw; (try dsimp only at hSw); go_simp; (try with_reducible rfl))
      try simp only [Act.put, List.setIfInBounds_toArray, List.set_cons_zero, List.set_cons_succ]
      refine wpAnyH_take (i := 4) (v := ?vr1_4) (Fr.take_at rfl) (by kernel_rfl) (by kernel_rfl) (by kernel_rfl) (fun _ _ _ h => h) (Or.inl ⟨by rfl, ?yr1_4⟩) (by assumption) ?nr1_4
      case yr1_4 => (intro w_ hSw; (try dsimp only at hSw); go_simp; (try with_reducible rfl))
      try simp only [Act.put, List.setIfInBounds_toArray, List.set_cons_zero, List.set_cons_succ]
      refine wpAnyH_take (i := 5) (v := ?vr1_5) (Fr.take_at rfl) (by kernel_rfl) (by kernel_rfl) (by kernel_rfl) (fun _ _ _ h => h) (Or.inl ⟨by rfl, ?yr1_5⟩) (by assumption) ?nr1_5
      case yr1_5 => (intro w_ hSw; (try dsimp only at hSw); go_simp; (try with_reducible rfl))
      try simp only [Act.put, List.setIfInBounds_toArray, List.set_cons_zero, List.set_cons_succ]
      refine wpAnyH_take (i := 6) (v := ?vr1_6) (Fr.take_at rfl) (by kernel_rfl) (by kernel_rfl) (by kernel_rfl) (fun _ _ _ h => h) (Or.inl ⟨by rfl, ?yr1_6⟩) (by assumption) ?nr1_6
      case yr1_6 => (intro w_ hSw; (try dsimp only at hSw); go_simp; (try with_reducible rfl))
      try simp only [Act.put, List.setIfInBounds_toArray, List.set_cons_zero, List.set_cons_succ]
      refine wpAnyH_ready (rs := [1]) (by kernel_rfl) (by simp) ?_
      refine AllReadyH.cons (Fr.take_at rfl) (fun K hK => ?_) AllReadyH.nil
      go_simp
      refine hK.out _ _ (by (first | exact q1 | exact q1s _)) (fun hHeld => ?_)
      clear hK K
      try simp only [Act.put, List.setIfInBounds_toArray, List.set_cons_zero, List.set_cons_succ]
      refine wpAnyH_take (i := 7) (v := ?vr1_7) (Fr.take_at rfl) (by kernel_rfl) (by kernel_rfl) (by kernel_rfl) (fun _ _ _ h => h) (Or.inl ⟨by rfl, ?yr1_7⟩) (by assumption) ?nr1_7
      case yr1_7 => (intro w_ hSw; (try dsimp only at hSw); go_simp; (try with_reducible rfl))
      try simp only [Act.put, List.setIfInBounds_toArray, List.set_cons_zero, List.set_cons_succ]
      refine wpAnyH_take (i := 8) (v := ?vr1_8) (Fr.take_at rfl) (by kernel_rfl) (by kernel_rfl) (by kernel_rfl) (fun _ _ _ h => h) (Or.inl ⟨by rfl, ?yr1_8⟩) (by assumption) ?nr1_8
      case yr1_8 => (intro w_ hSw; (try dsimp only at hSw); go_simp; (try with_reducible rfl))
      try simp only [Act.put, List.setIfInBounds_toArray, List.set_cons_zero, List.set_cons_succ]
      refine wpAnyH_ready (rs := [9]) (by kernel_rfl) (by simp) ?_
      refine AllReadyH.cons (Fr.take_at rfl) (fun K hK => ?_) AllReadyH.nil
      go_simp
      refine hK.out _ _ (by (first | exact q1 | exact q1s _)) (fun hHeld => ?_)
      clear hK K
      try simp only [Act.put, List.setIfInBounds_toArray, List.set_cons_zero, List.set_cons_succ]
      refine wpAnyH_done (by kernel_rfl) ?_ _
      rw [HW.out]
      obtain ⟨W2, hW2⟩ : ∃ W2, W2 = (wr.setCell ⟨L, 0, none⟩ (.int .i64 g2)).drew := ⟨_, rfl⟩
      have hk2 : RoAt w W2 D R L vd a fs ns (.slice (some ⟨gn, on, none⟩) ns.length cn) i g2 (.slice A j c) j vs := by rw [hW2]; exact HSET.out.below (below_drewN (Below.refl _ _) 1)
      have r1 : W2.cell? ⟨gn, on + i, none⟩ = some (.int .i64 (M : Int)) := by rw [hW2]; exact q1s _
      rw [← hW2]
      have HK2 := Lib.hid hk2
      clear hW2 hk2 q1s q1 c1 f1 hHeld HW HSET HK
      by_cases hle : a ≤ (M : Int)
      · obtain ⟨k0, hk0⟩ : ∃ k0, fs[k0]? = some f := List.mem_iff_getElem?.1 (find_some HFF.out).1
        obtain ⟨gd, rfl, _⟩ := (HL.out W2 HK2.out.bel).file hk0
        obtain ⟨fd, hfd⟩ : ∃ fd : ByteArray, fd = ⟨f.dat.toArray⟩ := ⟨_, rfl⟩
        have hfdl : fd.data.toList = f.dat := by rw [hfd]
        have hfds : fd.size ≤ 262144 := by have := HDL.out f k0 hk0; rw [← hfdl] at this; exact this
        have HFC := Lib.hid (fun (W : World) (hW : Below W2.heap.size W2 W) (k : Nat) (hk : fs[k]? = some f) => show W.cell? ⟨gd, k * 3 + 1, none⟩ = some (.string fd) from by
          obtain ⟨g', e, _, _, h2, _⟩ := (HL.out W (HK2.out.bel.trans (hW.mono HK2.out.bel.size))).file hk
          cases e
          rw [hfd]; exact h2)
        have HOP := Lib.hid (fun (W : World) (hW : Below W2.heap.size W2 W) => And.intro (cellsD (HK2.out.box.d.same (hW.block _ HK2.out.box.d.lt)) HVD.out) ((hW.cell (p := ⟨gn, on + i, none⟩) (World.block_lt_of_cell? W2 _ r1)).trans r1))
        have HSR := Lib.hid (seg_rname (n := M) (by omega) hM1)
        have HPO := Lib.hid (show payOf fs (M : Int) = (scan fd.data.toList).1 by unfold payOf; rw [HFF.out, hfdl])
        have HFS := Lib.hid hfds
        clear hfd hfdl hk0
        go_upto_region 11 with fail
        clear r1
        refine wp_region_held_drew (S := (fun W => Below W2.heap.size W2 W)) (by kernel_rfl) (by (first | (with_reducible assumption) | exact Below.refl _ _ | exact below_drewN (Below.refl _ _) 1 | exact below_drewN (by assumption) 1)) (fun hHeld => ?_)
        refine wpAnyH_take (i := 0) (v := ?vr2_0) (Fr.take_at rfl) (by kernel_rfl) (by kernel_rfl) (by kernel_rfl) (fun _ _ _ h => h) (Or.inl ⟨by rfl, ?yr2_0⟩) (by assumption) ?nr2_0
        case yr2_0 => (intro w_ hSw; obtain ⟨⟨u0, u1, u2, u3⟩, u4⟩ := HOP.out _ hSw; (try have u5 := HFC.out _ hSw _ hk4); go_simp; (try with_reducible rfl))
        try simp only [Act.put, List.setIfInBounds_toArray, List.set_cons_zero, List.set_cons_succ]
        refine wpAnyH_take (i := 1) (v := ?vr2_1) (Fr.take_at rfl) (by kernel_rfl) (by kernel_rfl) (by kernel_rfl) (fun _ _ _ h => h) (Or.inl ⟨by rfl, ?yr2_1⟩) (by assumption) ?nr2_1
        case yr2_1 => (intro w_ hSw; obtain ⟨⟨u0, u1, u2, u3⟩, u4⟩ := HOP.out _ hSw; (try have u5 := HFC.out _ hSw _ hk4); go_simp; (try with_reducible rfl))
        try simp only [Act.put, List.setIfInBounds_toArray, List.set_cons_zero, List.set_cons_succ]
        refine wpAnyH_take (i := 2) (v := ?vr2_2) (Fr.take_at rfl) (by kernel_rfl) (by kernel_rfl) (by kernel_rfl) (fun _ _ _ h => h) (Or.inl ⟨by rfl, ?yr2_2⟩) (by assumption) ?nr2_2
        case yr2_2 => (intro w_ hSw; obtain ⟨⟨u0, u1, u2, u3⟩, u4⟩ := HOP.out _ hSw; (try have u5 := HFC.out _ hSw _ hk4); go_simp; (try with_reducible rfl))
        try simp only [Act.put, List.setIfInBounds_toArray, List.set_cons_zero, List.set_cons_succ]
        refine wpAnyH_take (i := 3) (v := ?vr2_3) (Fr.take_at rfl) (by kernel_rfl) (by kernel_rfl) (by kernel_rfl) (fun _ _ _ h => h) (Or.inl ⟨by rfl, ?yr2_3⟩) (by assumption) ?nr2_3
        case yr2_3 => (intro w_ hSw; obtain ⟨⟨u0, u1, u2, u3⟩, u4⟩ := HOP.out _ hSw; (try have u5 := HFC.out _ hSw _ hk4); go_simp; (try with_reducible rfl))
        try simp only [Act.put, List.setIfInBounds_toArray, List.set_cons_zero, List.set_cons_succ]
        refine wpAnyH_take (i := 4) (v := ?vr2_4) (Fr.take_at rfl) (by kernel_rfl) (by kernel_rfl) (by kernel_rfl) (fun _ _ _ h => h) (Or.inl ⟨by rfl, ?yr2_4⟩) (by assumption) ?nr2_4
        case yr2_4 => (intro w_ hSw; obtain ⟨⟨u0, u1, u2, u3⟩, u4⟩ := HOP.out _ hSw; (try have u5 := HFC.out _ hSw _ hk4); go_simp; (try with_reducible rfl))
        try simp only [Act.put, List.setIfInBounds_toArray, List.set_cons_zero, List.set_cons_succ]
        refine wpAnyH_take (i := 5) (v := ?vr2_5) (Fr.take_at rfl) (by kernel_rfl) (by kernel_rfl) (by kernel_rfl) (fun _ _ _ h => h) (Or.inl ⟨by rfl, ?yr2_5⟩) (by assumption) ?nr2_5
        case yr2_5 => (intro w_ hSw; obtain ⟨⟨u0, u1, u2, u3⟩, u4⟩ := HOP.out _ hSw; (try have u5 := HFC.out _ hSw _ hk4); go_simp; (try with_reducible rfl))
        try simp only [Act.put, List.setIfInBounds_toArray, List.set_cons_zero, List.set_cons_succ]
        refine wpAnyH_take (i := 6) (v := ?vr2_6) (Fr.take_at rfl) (by kernel_rfl) (by kernel_rfl) (by kernel_rfl) (fun _ _ _ h => h) (Or.inl ⟨by rfl, ?yr2_6⟩) (by assumption) ?nr2_6
        case yr2_6 => (intro w_ hSw; obtain ⟨⟨u0, u1, u2, u3⟩, u4⟩ := HOP.out _ hSw; (try have u5 := HFC.out _ hSw _ hk4); go_simp; (try with_reducible rfl))
        try simp only [Act.put, List.setIfInBounds_toArray, List.set_cons_zero, List.set_cons_succ]
        refine wpAnyH_ready (rs := [7]) (by kernel_rfl) (by simp) ?_
        refine AllReadyH.cons (Fr.take_at rfl) (fun K hK => ?_) AllReadyH.nil
        go_simp
        (go_at_call 5; refine (rname_any M _ (by omega)).mono ?_; rintro e w3 ⟨s3, rfl, hs3, hz3, hb3⟩; have hb3' := (by assumption : Below W2.heap.size W2 _).trans (hb3.mono (Below.size (by assumption))))
        try go_wp2_with fail
        refine hK.out _ _ (by (first | (with_reducible assumption) | exact Below.refl _ _ | exact below_drewN (Below.refl _ _) 1 | exact below_drewN (by assumption) 1)) (fun hHeld => ?_)
        clear hK K
        try simp only [Act.put, List.setIfInBounds_toArray, List.set_cons_zero, List.set_cons_succ]
        refine wpAnyH_ready (rs := [8]) (by kernel_rfl) (by simp) ?_
        refine AllReadyH.cons (Fr.take_at rfl) (fun K hK => ?_) AllReadyH.nil
        go_simp
        (go_at_call 21; refine (HAT.out _ (HK2.out.bel.trans ((by assumption : Below W2.heap.size W2 _).mono HK2.out.bel.size)) s3 f (find_seg hs3 HSR.out HFF.out)).mono ?_; rintro e w4 ⟨k4, hk4, rfl, hb4⟩; have hb4' := (by assumption : Below W2.heap.size W2 _).trans (hb4.mono (Below.size (by assumption))); have b1 := idx_lt hk4 HNN.out; have b2 : (0 : Int) ≤ (k4 : Int) := Int.natCast_nonneg _)
        try go_wp2_with fail
        refine hK.out _ _ (by (first | (with_reducible assumption) | exact Below.refl _ _ | exact below_drewN (Below.refl _ _) 1 | exact below_drewN (by assumption) 1)) (fun hHeld => ?_)
        clear hK K
        try simp only [Act.put, List.setIfInBounds_toArray, List.set_cons_zero, List.set_cons_succ]
        refine wpAnyH_take (i := 9) (v := ?vr2_9) (Fr.take_at rfl) (by kernel_rfl) (by kernel_rfl) (by kernel_rfl) (fun _ _ _ h => h) (Or.inl ⟨by rfl, ?yr2_9⟩) (by assumption) ?nr2_9
        case yr2_9 => (intro w_ hSw; obtain ⟨⟨u0, u1, u2, u3⟩, u4⟩ := HOP.out _ hSw; (try have u5 := HFC.out _ hSw _ hk4); go_simp; (try with_reducible rfl))
        try simp only [Act.put, List.setIfInBounds_toArray, List.set_cons_zero, List.set_cons_succ]
        refine wpAnyH_take (i := 10) (v := ?vr2_10) (Fr.take_at rfl) (by kernel_rfl) (by kernel_rfl) (by kernel_rfl) (fun _ _ _ h => h) (Or.inl ⟨by rfl, ?yr2_10⟩) (by assumption) ?nr2_10
        case yr2_10 => (intro w_ hSw; obtain ⟨⟨u0, u1, u2, u3⟩, u4⟩ := HOP.out _ hSw; (try have u5 := HFC.out _ hSw _ hk4); go_simp; (try with_reducible rfl))
        try simp only [Act.put, List.setIfInBounds_toArray, List.set_cons_zero, List.set_cons_succ]
        refine wpAnyH_take (i := 11) (v := ?vr2_11) (Fr.take_at rfl) (by kernel_rfl) (by kernel_rfl) (by kernel_rfl) (fun _ _ _ h => h) (Or.inl ⟨by rfl, ?yr2_11⟩) (by assumption) ?nr2_11
        case yr2_11 => (intro w_ hSw; obtain ⟨⟨u0, u1, u2, u3⟩, u4⟩ := HOP.out _ hSw; (try have u5 := HFC.out _ hSw _ hk4); go_simp; (try with_reducible rfl))
        try simp only [Act.put, List.setIfInBounds_toArray, List.set_cons_zero, List.set_cons_succ]
        refine wpAnyH_ready (rs := [12]) (by kernel_rfl) (by simp) ?_
        refine AllReadyH.cons (Fr.take_at rfl) (fun K hK => ?_) AllReadyH.nil
        rw [if_pos (by rfl)]
        (obtain ⟨A5, c5, W5, hrun5, hc5, hr5, hb5⟩ := conv_str fd _; refine wp_conv rfl rfl hrun5 ?_; have hb5' := (by assumption : Below W2.heap.size W2 _).trans (hb5.mono (Below.size (by assumption))))
        refine hK.out _ _ (by (first | (with_reducible assumption) | exact Below.refl _ _ | exact below_drewN (Below.refl _ _) 1 | exact below_drewN (by assumption) 1)) (fun hHeld => ?_)
        clear hK K
        try simp only [Act.put, List.setIfInBounds_toArray, List.set_cons_zero, List.set_cons_succ]
        refine wpAnyH_ready (rs := [13]) (by kernel_rfl) (by simp) ?_
        refine AllReadyH.cons (Fr.take_at rfl) (fun K hK => ?_) AllReadyH.nil
        go_simp
        (go_at_call 27; refine (Rscan_any A5 fd.size c5 fd.data.toList _ rfl hr5 hc5 (Nat.le_trans HFS.out (by decide))).mono ?_; rintro e w6 ⟨A6, k6, c6, us, rfl, hl6, hc6, hown6, hol6, hb6⟩; have hb6' := (by assumption : Below W2.heap.size W2 _).trans (hb6.mono (Below.size (by assumption))))
        try go_wp2_with fail
        refine hK.out _ _ (by (first | (with_reducible assumption) | exact Below.refl _ _ | exact below_drewN (Below.refl _ _) 1 | exact below_drewN (by assumption) 1)) (fun hHeld => ?_)
        clear hK K
        try simp only [Act.put, List.setIfInBounds_toArray, List.set_cons_zero, List.set_cons_succ]
        refine wpAnyH_take (i := 14) (v := ?vr2_14) (Fr.take_at rfl) (by kernel_rfl) (by kernel_rfl) (by kernel_rfl) (fun _ _ _ h => h) (Or.inl ⟨by rfl, ?yr2_14⟩) (by assumption) ?nr2_14
        case yr2_14 => (intro w_ hSw; obtain ⟨⟨u0, u1, u2, u3⟩, u4⟩ := HOP.out _ hSw; (try have u5 := HFC.out _ hSw _ hk4); go_simp; (try with_reducible rfl))
        try simp only [Act.put, List.setIfInBounds_toArray, List.set_cons_zero, List.set_cons_succ]
        refine wpAnyH_take (i := 15) (v := ?vr2_15) (Fr.take_at rfl) (by kernel_rfl) (by kernel_rfl) (by kernel_rfl) (fun _ _ _ h => h) (Or.inl ⟨by rfl, ?yr2_15⟩) (by assumption) ?nr2_15
        case yr2_15 => (intro w_ hSw; obtain ⟨⟨u0, u1, u2, u3⟩, u4⟩ := HOP.out _ hSw; (try have u5 := HFC.out _ hSw _ hk4); go_simp; (try with_reducible rfl))
        try simp only [Act.put, List.setIfInBounds_toArray, List.set_cons_zero, List.set_cons_succ]
        refine wpAnyH_take (i := 16) (v := ?vr2_16) (Fr.take_at rfl) (by kernel_rfl) (by kernel_rfl) (by kernel_rfl) (fun _ _ _ h => h) (Or.inl ⟨by rfl, ?yr2_16⟩) (by assumption) ?nr2_16
        case yr2_16 => (intro w_ hSw; obtain ⟨⟨u0, u1, u2, u3⟩, u4⟩ := HOP.out _ hSw; (try have u5 := HFC.out _ hSw _ hk4); go_simp; (try with_reducible rfl))
        try simp only [Act.put, List.setIfInBounds_toArray, List.set_cons_zero, List.set_cons_succ]
        refine wpAnyH_take (i := 17) (v := ?vr2_17) (Fr.take_at rfl) (by kernel_rfl) (by kernel_rfl) (by kernel_rfl) (fun _ _ _ h => h) (Or.inl ⟨by rfl, ?yr2_17⟩) (by assumption) ?nr2_17
        case yr2_17 => (intro w_ hSw; obtain ⟨⟨u0, u1, u2, u3⟩, u4⟩ := HOP.out _ hSw; (try have u5 := HFC.out _ hSw _ hk4); go_simp; (try with_reducible rfl))
        try simp only [Act.put, List.setIfInBounds_toArray, List.set_cons_zero, List.set_cons_succ]
        refine wpAnyH_take (i := 18) (v := ?vr2_18) (Fr.take_at rfl) (by kernel_rfl) (by kernel_rfl) (by kernel_rfl) (fun _ _ _ h => h) (Or.inl ⟨by rfl, ?yr2_18⟩) (by assumption) ?nr2_18
        case yr2_18 => (intro w_ hSw; obtain ⟨⟨u0, u1, u2, u3⟩, u4⟩ := HOP.out _ hSw; (try have u5 := HFC.out _ hSw _ hk4); go_simp; (try with_reducible rfl))
        try simp only [Act.put, List.setIfInBounds_toArray, List.set_cons_zero, List.set_cons_succ]
        refine wpAnyH_done (by kernel_rfl) ?_ _
        have hk6 := HK2.out.below hb6'
        have hlen : (payOf fs (M : Int)).length = k6 := by rw [HPO.out]; exact hl6
        have hk6b : k6 ≤ 262144 := by rw [← hlen]; exact HP.out _
        have hol : OwnL w6 W5.heap.size us (payOf fs (M : Int)) := by rw [HPO.out]; exact hol6
        have HK6 := Lib.hid hk6
        have HLE := Lib.hid hlen
        have HOL := Lib.hid hol
        have HO6 := Lib.hid hown6
        have HB5 := Lib.hid hb5'.size
        have HUL := Lib.hid (hol6.1.trans hl6)
        have HON := Lib.hid (ownL_one hol6)
        clear hk6 hlen hol hown6 hol6 hb6' hb5' hb4' hb3' hHeld hl6 hrun5 hr5 hb6 hb5 hb4 hb3 HOP HFC HSR hk4 hs3 b1 b2
        go_wp2_with (at_builtin; refine wpList_app _ rfl (.tmp 62) (.tmp 63) _ rfl w.heap.size 28 i1 _ 24 Tryz.underlying23 hi1 hy hy1 hy2 rfl (.slice A j c) j vs rfl HK6.out.row A6 k6 c6 us rfl HUL.out (Rd.own HO6.out) HON.out (j + k6) rfl (by unfold maxLen; omega) (by omega) HK6.out.bel.size ?_; intro A8 c8 w8 hown8 hb8 hg8 _)
        exact ⟨⟨i + 1, j + k6, c8, A8, vs ++ us, by omega, by simp, rfl, own_cap hown8, Lib.hid (by rw [← HG2.out]; exact HK6.out.yes HN.out hle HLE.out hk6b HOL.out (Nat.le_trans HK2.out.bel.size HB5.out) (fun u q hu hq => Nat.lt_of_lt_of_le (HK2.out.pays.lt u q hu hq) HB5.out) hown8 hb8 hg8)⟩, by simp [intOf]; omega⟩
      · go_wp2
        exact ⟨⟨i + 1, j, c, A, vs, by omega, by simp, rfl, hjc, Lib.hid (by rw [← HG2.out]; exact HK2.out.no HN.out hle)⟩, by simp [intOf]; omega⟩
    · obtain rfl : i = ns.length := by omega
      have hlt' : ¬ (ns.length : Int) < (ns.length : Int) := by omega
      obtain ⟨g, hg⟩ : ∃ g, g = nextOf a (ns.take ns.length) := ⟨_, rfl⟩
      rw [← hg] at HK
      have l0 : wr.cell? ⟨L, 0, none⟩ = some (.int .i64 g) := HK.out.box.l.cell 0
      have l1 : wr.cell? ⟨L, 1, none⟩ = some (.bool false) := HK.out.box.l.cell 1
      have r0 : wr.cell? ⟨R, 0, none⟩ = some (.int .i64 0) := HK.out.box.r.cell 0
      have r1 : wr.cell? ⟨R, 1, none⟩ = some (.bool false) := HK.out.box.r.cell 1
      have f0 := HK.out.box.r.frozen 0
      have f1 := HK.out.box.r.frozen 1
      have HG := Lib.hid hg
      clear hg
      go_wp2
      have hR : Blk ((wr.setCell ⟨R, 0, none⟩ (.int .i64 g)).setCell ⟨R, 1, none⟩ (.bool false)) R 42 #[.int .i64 g, .bool false] := (HK.out.box.r.set 0 (.int .i64 g)).set 1 (.bool false)
      have hbR : Below w.heap.size w ((wr.setCell ⟨R, 0, none⟩ (.int .i64 g)).setCell ⟨R, 1, none⟩ (.bool false)) := (HK.out.bel.setCell (p := ⟨R, 0, none⟩) HK.out.new.2.1 _).setCell (p := ⟨R, 1, none⟩) HK.out.new.2.1 _
      have h3 := HK.out.len
      have h4 := HK.out.few
      have h2 := HK.out.pays
      rw [List.take_length] at h2 h3
      rw [HNS.out] at h2 h3
      have hro := HK.out.row
      have hrow2 := row_set (row_set hro HK.out.box.r (by decide) (.int .i64 g) (i := 0)) (HK.out.box.r.set 0 (.int .i64 g)) (by decide) (.bool false) (i := 1)
      have hol2 := (h2.keep fun _ _ _ _ ho => row_set (row_set ho HK.out.box.r (by decide) (.int .i64 g) (i := 0)) (HK.out.box.r.set 0 (.int .i64 g)) (by decide) (.bool false) (i := 1))
      have hgg : g = nextOf a (segs fs) := by rw [HG.out, List.take_length, HNS.out]
      refine bodyPost_ret (results_c2 (by rfl) _ _ R 42 #[.int .i64 g, .bool false] (0, 0) _ _ _ (by rfl) (by rfl) (by rfl) hR Tryz.underlying42 (by rfl) (by kernel_rfl)) rfl ⟨A, j, c, vs, ?_, h3, hjc, by omega, hrow2, hol2, hbR⟩
      rw [← hgg]
      rfl
end
end Wl
end Go.Proofs.YtbfmjonabndhaaaGreatDoor
