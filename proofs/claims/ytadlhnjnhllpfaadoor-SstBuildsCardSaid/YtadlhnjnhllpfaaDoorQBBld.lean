/-
  WHAT IS PROVED: (1) what bloom's Build answers. CONDITIONS: the keys stand in memory as named.
-/
import Derived.Test.YtadlhnjnhllpfaaDoorQBMay
namespace Go.Proofs.YtadlhnjnhllpfaaDoor
open Go Go.RowKit Go.Shelf
attribute [local go_sem] Oper.semAt_some
namespace Bl
open Go.Proofs.YtadlhnjnhllpfaaDoor.Fr
/-- So many bytes that are 0. -/
def zs (N : Nat) : Array Value := madeCells (Value.int .u8 0).cells (N * 1)
theorem zs_list (N : Nat) : (zs N).toList = bv (List.replicate N 0) := by
  apply List.ext_getElem?
  intro i
  by_cases h : i < N
  · have hsz : (zs N).size = N := by simp [zs, size_madeCells]
    rw [Array.getElem?_toList, Array.getElem?_eq_getElem (by omega), List.getElem?_eq_getElem (by simp [bv]; exact h)]
    simp [zs, madeCells, bv, Value.cells, Nat.mod_one]
  · rw [List.getElem?_eq_none (by simp [zs, size_madeCells]; omega), List.getElem?_eq_none (by simp [bv]; omega)]
theorem info_str : (Tryd.prog.info? 9).map (fun i => (i.zero, i.size, i.bytes)) = some (some (.string ⟨#[]⟩), 1, 16) := by kernel_rfl
theorem info_u8 : (Tryd.prog.info? 5).map (fun i => (i.zero, i.size, i.bytes)) = some (some (.int .u8 0), 1, 1) := by kernel_rfl
theorem mk_zeros (W : World) (L : Int) (N : Nat) (hL : L = (N : Int)) (hN : N ≤ 1000000) :
    (Instr.makeSlice 25 (.int .i64 L) (.int .i64 L)).run Tryd.prog W = .ok (.slice (some ⟨W.heap.size, 0, none⟩) N N) (W.alloc (.cells (bv (List.replicate N 0)).toArray 5)) := by
  subst hL
  obtain ⟨i0, hi, hz, hz1, hz2⟩ := info_parts info_u8
  rw [← zs_list, Array.toArray_toList]
  have h := run_make (P := Tryd.prog) W 25 5 i0 (.int .u8 0) Tryd.underlying25 hi hz .i64 .i64 N N (by omega) (by omega) (by rw [hz2]; omega) (by omega)
  rw [hz1, Int.toNat_natCast] at h
  exact h
theorem mx (x y z : Int) (h : max x y = z) : ∀ W : World, (Builtin.max_ #[3, 3] 3 #[.int .i64 x, .int .i64 y]).run Tryd.prog W = .ok (.int .i64 z) W := fun W => by
  rw [run_max_int2]
  congr 2
  split <;> omega
theorem mn (x y z : Int) (h : min x y = z) : ∀ W : World, (Builtin.min_ #[3, 3] 3 #[.int .i64 x, .int .i64 y]).run Tryd.prog W = .ok (.int .i64 z) W := fun W => by
  rw [run_min_int2]
  congr 2
  split <;> omega
/-- Between two rounds of Build. -/
structure BldI (w : World) (f : Bs) (T : Nat) (W : World) : Prop where
  arr : Mm.Blk W w.heap.size 5 (bv f).toArray
  box : Mm.Blk W (w.heap.size + 1) 25 #[.slice (some ⟨w.heap.size, 0, none⟩) (T + 1) (T + 1)]
  bel : Below w.heap.size w W
/-- The marks of the loops over a function that are over: each a block of its own, the last one laid is the first. -/
def Marks (B : Nat) : List Deferred → Nat → World → Prop
  | [], _, _ => True
  | d :: r, top, W => ∃ D, d = { target := .collected D, args := #[] } ∧ B ≤ D ∧ D < top ∧ W.heap[D]? = some (.deferred (some [])) ∧ Marks B r D W
theorem Marks.mono {B : Nat} : ∀ {ds : List Deferred} {t t' : Nat} {W : World}, Marks B ds t W → t ≤ t' → Marks B ds t' W
  | [], _, _, _, _, _ => trivial
  | _ :: _, _, _, _, ⟨D, e, h1, h2, h3, h4⟩, ht => ⟨D, e, h1, Nat.lt_of_lt_of_le h2 ht, h3, h4⟩
theorem Marks.same {B : Nat} : ∀ {ds : List Deferred} {t : Nat} {W W' : World}, Marks B ds t W → (∀ D, D < t → W.heap[D]? = some (.deferred (some [])) → W'.heap[D]? = some (.deferred (some []))) → Marks B ds t W'
  | [], _, _, _, _, _ => trivial
  | _ :: _, _, _, _, ⟨D, e, h1, h2, h3, h4⟩, hk => ⟨D, e, h1, h2, hk D h2 h3, h4.same fun D' h5 => hk D' (Nat.lt_trans h5 h2)⟩
/-- All marks are taken up: what is cells stays, and what lay ahead. -/
structure Took (B : Nat) (W W' : World) : Prop where
  cells : ∀ g t cs, Mm.Blk W g t cs → Mm.Blk W' g t cs
  bel : Below B W W'
theorem Took.refl (B : Nat) (W : World) : Took B W W := ⟨fun _ _ _ h => h, Below.refl _ _⟩
theorem leaves_marks {B : Nat} {F : Fence} {n : Nat} {P : Program} {fn : Func} {tmps : Array Value} {R : Ending → World → Prop} : ∀ (ds : List Deferred) (t : Nat) (W : World), Marks B ds t W → B ≤ W.heap.size → (∀ W', Took B W W' → LeavesIn F n P fn tmps R [] .returning W') → LeavesInM F n P fn tmps R ds .returning W
  | [], _, W, _, _, h => h W (Took.refl B W)
  | _ :: ds, _, W, ⟨D, e, h1, h2, h3, h4⟩, hB, h => by
    subst e
    have hD : D < W.heap.size := (Array.getElem?_eq_some_iff.1 h3).1
    refine ⟨by simp, .inl ⟨D, _, rfl, run_takeDeferred h3, ?_⟩⟩
    refine leaves_marks ds D _ (h4.same fun D' hlt hh => (World.putObj_heap_other (by omega)).trans hh) (by simpa using hB) fun W' hW' => h W' ⟨fun g t cs hb => hW'.cells g t cs (blk_put hb h3 _), ?_⟩
    exact ((Below.refl B W).grown (grownBy_putObj' W D (.deferred none)) hB fun k e => by cases e; exact h1).trans hW'.bel
theorem BldI.kept {w : World} {f : Bs} {T B : Nat} (hB : w.heap.size ≤ B) {W W' : World} {row : Option Nat} (h : BldI w f T W) (hg : W.grownBy W' row) (hr : ∀ k, row = some k → B ≤ k ∧ ∃ o : Obj, W.heap[k]? = some o ∧ o.isCells = false) : BldI w f T W' :=
  ⟨blk_kept h.arr hg fun k e => (hr k e).2, blk_kept h.box hg fun k e => (hr k e).2, h.bel.grown hg h.bel.size fun k e => by have := (hr k e).1; omega⟩
theorem Marks.kept {B0 t B : Nat} {ds : List Deferred} {W W' : World} {row : Option Nat} (h : Marks B0 ds t W) (hB : t ≤ B) (hg : W.grownBy W' row) (hr : ∀ k, row = some k → B ≤ k) : Marks B0 ds t W' :=
  h.same fun D hD hh => (hg.block D (Array.getElem?_eq_some_iff.1 hh).1 fun e => by have := hr D e.symm; omega).trans hh
theorem BldI.drew {w : World} {f : Bs} {T : Nat} {W : World} (h : BldI w f T W) : BldI w f T W.drew := ⟨h.arr, h.box, below_drewN h.bel 1⟩
theorem BldI.alloc {w : World} {f : Bs} {T : Nat} {W : World} (h : BldI w f T W) (o : Obj) : BldI w f T (W.alloc o) := ⟨h.arr.alloc o, h.box.alloc o, h.bel.alloc h.bel.size o⟩
theorem Marks.alloc {B t : Nat} {ds : List Deferred} {W : World} (h : Marks B ds t W) (o : Obj) : Marks B ds t (W.alloc o) :=
  h.same fun D _ hh => (Below.heap_alloc W o D (Array.getElem?_eq_some_iff.1 hh).1).trans hh
theorem Marks.set {B t g : Nat} {ds : List Deferred} {W : World} {ty : TypeId} {cs : Array Value} (h : Marks B ds t W) (hb : Mm.Blk W g ty cs) (i : Nat) (u : Value) : Marks B ds t (W.setCell ⟨g, i, none⟩ u) :=
  h.same fun D _ hh => (Below.heap_setCell W ⟨g, i, none⟩ u D (by rintro rfl; rw [show W.heap[D]? = _ from hb] at hh; cases hh)).trans hh
theorem or_bit {Y r : Nat} (hY : Y < 256) (hr : r < 8) : bits .or .u8 (Y : Int) (IntKind.u8.wrap ((2 : Int) ^ r)) = ((Y ||| 2 ^ r : Nat) : Int) := by
  rw [wrap_pow hr, u8_or_nat _ _ hY (pow_lt8 hr)]
theorem bv_set (f : Bs) (i v : Nat) (hv : v < 256) : (bv f).toArray.setIfInBounds i (.int .u8 (v : Int)) = (bv (f.set i (UInt8.ofNat v))).toArray := by
  rw [List.setIfInBounds_toArray]
  congr 1
  unfold bv
  rw [List.map_set, UInt8.toNat_ofNat', Nat.mod_eq_of_lt hv]
theorem BldI.put {w : World} {f : Bs} {T : Nat} {W : World} (h : BldI w f T W) (p : Nat) {a r Y : Nat} (ha : a = p / 8) (hr : r = p % 8) (hY : Y = (f[a]?.getD 0).toNat) : BldI w (put f p) T (W.setCell ⟨w.heap.size, a, none⟩ (.int .u8 (bits .or .u8 (Y : Int) (IntKind.u8.wrap ((2 : Int) ^ r))))) := by
  subst ha hr hY
  rw [or_bit (UInt8.toNat_lt _) (Nat.mod_lt _ (by decide))]
  refine ⟨?_, h.box.same (Below.heap_setCell _ _ _ _ (by simp)), below_set h.bel (Nat.le_refl _) _⟩
  have := h.arr.set (p / 8) (.int .u8 (((f[p / 8]?.getD 0).toNat ||| 2 ^ (p % 8) : Nat) : Int))
  rw [bv_set f _ _ (or_lt8 _ _ (Nat.mod_lt _ (by decide)))] at this
  exact this
theorem bv_cell (f : Bs) {i : Nat} (h : i < f.length) : (bv f).toArray[i]? = some (.int .u8 (((f[i]?.getD 0).toNat : Nat) : Int)) := by
  simp [bv, h]
theorem made_block {w W' : World} {l : Bs} {n : Nat} (hl : l.length = n) (hn : n ≤ 1000000) (h : Mm.Blk W' w.heap.size 5 (bv l).toArray) (hb : Below w.heap.size w W') : MadeRet 5 w l (.returned (.slice (some ⟨w.heap.size, 0, none⟩) n n)) W' := by
  refine ⟨_, rfl, _, n, n, rfl, hl, Nat.le_refl _, ⟨by rw [bv_length, hl, Nat.mul_one], .inr ⟨_, n, _, rfl, Nat.le_refl _, h, Nat.le_refl _, by unfold maxLen; omega, by simp [bv_length, hl], ?_⟩⟩, hb⟩
  rw [Nat.mul_one]
  exact List.take_of_length_le (by rw [bv_length]; omega)
section
variable {w : World} {A : Option Addr} {n c : Nat} {ks : List ByteArray} {per : Int}
set_option maxRecDepth 100000 in
set_option maxHeartbeats 2000000 in
theorem build_any (hl : ks.length = n) (hr : Rd w A (ks.map Value.string)) (hs : ∀ s ∈ ks, s.size ≤ maxLen) (hn : n ≤ 200) (hnc : n ≤ c) :
    Calls Tryd.prog 61 #[.slice A n c, .int .i64 per] w (MadeRet 5 w (filt (ks.map (·.toList)) per)) := by
  refine (callsIn_wide (n := 5)).1 ?_
  refine callsIn_of_wp_marks Tryd.func61 rfl trivial ?_ rfl
  simp only [Tryd.ntmps61, List.size_toArray, List.length_cons, List.length_nil, Nat.reduceAdd, Nat.reduceSub, Array.replicate_succ, Array.replicate_zero, List.push_toArray, List.append_toArray, List.nil_append, List.cons_append]
  obtain ⟨i0, hi, hz, hz1, hz2⟩ := info_parts info_str
  obtain ⟨hct, hct2⟩ := cut_to (P := Tryd.prog) 51 9 i0 Tryd.underlying51 rfl hi hz1 A n c n .i64 (n : Int) rfl hnc
  obtain ⟨P, hP⟩ : ∃ P, P = per1 per := ⟨_, rfl⟩
  have hP1 := per1_le per
  have eP : min (max per 1) 24 = (P : Int) := by rw [hP]; unfold per1; omega
  obtain ⟨K, hK⟩ : ∃ K, K = kOf per := ⟨_, rfl⟩
  have hK1 := kOf_le per
  have eK : max ((P : Int) * 69 / 100) 1 = (K : Int) := by rw [hK]; unfold kOf; rw [← hP]; omega
  obtain ⟨Q, hQ⟩ : ∃ Q, Q = n * P := ⟨_, rfl⟩
  have eQ : (n : Int) * (P : Int) = (Q : Int) := by rw [hQ]; exact (Int.natCast_mul _ _).symm
  obtain ⟨T, hT⟩ : ∃ T, T = sizeOf n per := ⟨_, rfl⟩
  have hT1 := sizeOf_le n per hn
  have eT : max (Q : Int) 64 = ((max Q 64 : Nat) : Int) := by omega
  have eT2 : T = (max Q 64 + 7) / 8 := by rw [hT, hQ, hP]; rfl
  have hQ2 : Q ≤ 4800 := by rw [hQ, hP]; exact Nat.mul_le_mul (show n ≤ 200 from hn) hP1.2
  rw [← hP] at hP1
  rw [← hK] at hK1
  rw [← hT] at hT1
  obtain ⟨X, hX⟩ : ∃ X, X = max Q 64 := ⟨_, rfl⟩
  rw [← hX] at eT eT2
  have hX2 : X ≤ 4800 := by omega
  obtain ⟨M, hM⟩ : ∃ M, M = max per 1 := ⟨_, rfl⟩
  rw [← hM] at eP
  have m1 := mn (n : Int) 65536 (n : Int) (by omega)
  have m2 := mx per 1 M hM.symm
  have m3 := mn M 24 (P : Int) eP
  have m4 := mx ((P : Int) * 69 / 100) 1 (K : Int) eK
  have m5 := mx (Q : Int) 64 (X : Int) eT
  obtain ⟨hP1, hP2⟩ := hP1
  obtain ⟨hK1, hK2⟩ := hK1
  obtain ⟨hT1, hT2⟩ := hT1
  have eT3 : ((X : Int) + 7) / 8 = (T : Int) := by omega
  have mk := fun W => mk_zeros W ((T : Int) + 1) (T + 1) rfl (by omega)
  have HP := Lib.hid hP
  have HK := Lib.hid hK
  have HT := Lib.hid hT
  have HL := Lib.hid hl
  have HR := Lib.hid hr
  have HS := Lib.hid hs
  clear hP hK hT hl hr hs eP eK hQ eT eT2 hX hM
  gi_wp2
  simp only [eT3]
  have hI0 : BldI w (bitsOf T K []) T ((w.alloc (.cells (bv (List.replicate (T + 1) 0)).toArray 5)).alloc (.cells #[.slice (some ⟨w.heap.size, 0, none⟩) (T + 1) (T + 1)] 25)) := by
    refine ⟨(Mm.Blk.new w 5 _).alloc _, ?_, two_below w _ _⟩
    have := Mm.Blk.new (w.alloc (.cells (bv (List.replicate (T + 1) 0)).toArray 5)) 25 #[.slice (some ⟨w.heap.size, 0, none⟩) (T + 1) (T + 1)]
    rwa [World.size_alloc] at this
  have HI0 := Lib.hid hI0
  clear hI0 m1 m2 m3 m4 m5 mk hct hct2 eQ
  refine wpIn_loop (fun a' W => ∃ (p : Value) (ds : List Deferred) (i : Nat) (u9 u10 u36 u37 u38 u39 u40 u41 u42 u43 u44 u45 u46 u47 u48 u49 u50 u51 u52 u53 u54 u55 : Value), (i ≤ n ∧ p = .int .i64 (i : Int) ∧ Hid (BldI w (bitsOf T K ((ks.map (·.toList)).take i)) T W) ∧ Hid (Marks w.heap.size ds W.heap.size W)) ∧ a' = { tmps := #[.slice A n c, .int .i64 (P : Int), undef, undef, .slice none 0 0, .int .i64 (K : Int), .int .i64 (T : Int), .pointer (some ⟨w.heap.size + 1, 0, none⟩), undef, u9, u10, .slice A n c, .slice A n c, .int .i64 (n : Int), .int .i64 (n : Int), .slice A n c, .int .i64 per, .int .i64 M, .int .i64 (P : Int), .int .i64 (P : Int), .int .i64 ((P : Int) * 69), .int .i64 ((P : Int) * 69 / 100), .int .i64 (K : Int), .slice A n c, .int .i64 (n : Int), .int .i64 (P : Int), .int .i64 (Q : Int), .int .i64 (X : Int), .int .i64 ((X : Int) + 7), .int .i64 (T : Int), .int .i64 (T : Int), .int .i64 ((T : Int) + 1), .slice (some ⟨w.heap.size, 0, none⟩) (T + 1) (T + 1), .slice A n c, .int .i64 (n : Int), p, u36, u37, u38, u39, u40, u41, u42, u43, u44, u45, u46, u47, u48, u49, u50, u51, u52, u53, u54, u55, undef, undef, undef, undef, undef, undef], defers := ds }) (fun a' _ => n - (intOf (a'.tmps.getD 35 undef)).toNat) ?start ?round
  case start =>
    exact ⟨_, [], 0, undef, undef, undef, undef, undef, undef, undef, undef, undef, undef, undef, undef, undef, undef, undef, undef, undef, undef, undef, undef, undef, undef, ⟨Nat.zero_le _, rfl, Lib.hid (by rw [List.take_zero]; exact HI0.out), Lib.hid trivial⟩, rfl⟩
  case round =>
    rintro a' wr ⟨p, ds, i, u9, u10, u36, u37, u38, u39, u40, u41, u42, u43, u44, u45, u46, u47, u48, u49, u50, u51, u52, u53, u54, u55, ⟨hi, rfl, HI, HM⟩, rfl⟩
    dsimp only
    by_cases hlt : i < n
    · have kk1 : (i : Int) < (n : Int) := by omega
      have kk2 : (0 : Int) ≤ (i : Int) := by omega
      obtain ⟨s, hs⟩ : ∃ s, ks[i]? = some s := ⟨ks[i]'(by have := HL.out; omega), List.getElem?_eq_getElem _⟩
      obtain ⟨b, o, rfl, hb, hc0⟩ := HR.out.at_ (i := i) (by rw [List.length_map]; have := HL.out; omega)
      have hc1 : wr.cell? ⟨b, o + i, none⟩ = some (.string s) := by
        refine (HI.out.bel.cell (p := ⟨b, o + i, none⟩) hb).trans (hc0.trans ?_)
        rw [List.getElem_map, (List.getElem?_eq_some_iff.1 hs).2]
      have hsz := HS.out s (List.mem_of_getElem? hs)
      have HSS := Lib.hid hs
      obtain ⟨N, hN⟩ : ∃ N, N = 8 * T := ⟨_, rfl⟩
      have eN : (8 : Int) * (T : Int) = (N : Int) := by omega
      have hN0 : 0 < N := by omega
      have hN1 : N < 4294967296 := by omega
      have HN := Lib.hid hN
      clear hs hN hc0
      have hf1 : Fence.wide.fn 70 := trivial
      gi_wp2_with (gi_at_call 70; refine (places_in _ _ _ _ _).mono ?_; rintro e W1 ⟨rfl, rfl⟩)
      obtain ⟨W0, hW0⟩ : ∃ W0, W0 = ((wr.alloc (.cells #[.string s] 9)).alloc (.cells #[.int .i64 (K : Int)] 3)).alloc (.cells #[.int .i64 (N : Int)] 3) := ⟨_, rfl⟩
      have hsz0 : W0.heap.size = wr.heap.size + 1 + 1 + 1 := by rw [hW0]; simp
      have b0 : Mm.Blk W0 wr.heap.size 9 #[.string s] := by rw [hW0]; exact ((Mm.Blk.new wr _ _).alloc _).alloc _
      have b1 : Mm.Blk W0 (wr.heap.size + 1) 3 #[.int .i64 (K : Int)] := by
        rw [hW0]
        have := Mm.Blk.new (wr.alloc (.cells #[.string s] 9)) 3 #[.int .i64 (K : Int)]
        rw [World.size_alloc] at this
        exact this.alloc _
      have b2 : Mm.Blk W0 (wr.heap.size + 1 + 1) 3 #[.int .i64 (N : Int)] := by
        rw [hW0]
        have := Mm.Blk.new ((wr.alloc (.cells #[.string s] 9)).alloc (.cells #[.int .i64 (K : Int)] 3)) 3 #[.int .i64 (N : Int)]
        rw [World.size_alloc, World.size_alloc] at this
        exact this
      have hI0 : BldI w (bitsOf T K ((ks.map (·.toList)).take i)) T W0 := by rw [hW0]; exact ((HI.out.alloc _).alloc _).alloc _
      have hM0 : Marks w.heap.size ds wr.heap.size W0 := by rw [hW0]; exact ((HM.out.alloc _).alloc _).alloc _
      obtain ⟨f0, hf0⟩ : ∃ f0, f0 = bitsOf T K ((ks.map (·.toList)).take i) := ⟨_, rfl⟩
      have hf0l : f0.length = T + 1 := by rw [hf0, bitsOf_len]
      rw [← hf0] at hI0
      have hwsz := HI.out.bel.size
      rw [← hW0]
      have HF0 := Lib.hid hf0
      have HW0 := Lib.hid hW0
      clear hf0 hW0
      refine wpIn_rangeFunc_ownF rfl (by omega) (gf := 82) (lb := #[.pointer (some ⟨wr.heap.size, 0, none⟩), .pointer (some ⟨wr.heap.size + 1, 0, none⟩), .pointer (some ⟨wr.heap.size + 1 + 1, 0, none⟩)]) rfl trivial (enters_of Tryd.func82 (by kernel_rfl) rfl)
        (plc_stops (s := s) (k := K) (n := N) (5 - 1) (by omega) hsz (by omega) hN0 hN1 (by omega) (by omega) (by omega) (b0.cell 0) (b1.cell 0) (b2.cell 0)) kpB_t (kpB_b (by omega)) (Below.refl _ _) (fun _ => rfl)
        (fun (pre : List (Fin N)) W => BldI w (puts f0 (pre.map fun x : Fin N => x.1)) T W ∧ Marks w.heap.size ds wr.heap.size W)
        (fun _ _ _ => False)
        (fun s A B row hs hg hr => ⟨hs.1.kept (by omega) hg hr, hs.2.kept (B := W0.heap.size) (by omega) hg fun k e => (hr k e).1⟩)
        (fun _ _ _ _ _ hs _ _ => hs)
        ⟨hI0, hM0⟩
        (fun x => { tmps := #[.slice (some ⟨b, o, none⟩) n c, .int .i64 (P : Int), undef, undef, .slice none 0 0, .int .i64 (K : Int), .int .i64 (T : Int), .pointer (some ⟨w.heap.size + 1, 0, none⟩), undef, .string s, .int .i64 ((x.1 : Nat) : Int), .slice (some ⟨b, o, none⟩) n c, .slice (some ⟨b, o, none⟩) n c, .int .i64 (n : Int), .int .i64 (n : Int), .slice (some ⟨b, o, none⟩) n c, .int .i64 per, .int .i64 M, .int .i64 (P : Int), .int .i64 (P : Int), .int .i64 ((P : Int) * 69), .int .i64 ((P : Int) * 69 / 100), .int .i64 (K : Int), .slice (some ⟨b, o, none⟩) n c, .int .i64 (n : Int), .int .i64 (P : Int), .int .i64 (Q : Int), .int .i64 (X : Int), .int .i64 ((X : Int) + 7), .int .i64 (T : Int), .int .i64 (T : Int), .int .i64 ((T : Int) + 1), .slice (some ⟨w.heap.size, 0, none⟩) (T + 1) (T + 1), .slice (some ⟨b, o, none⟩) n c, .int .i64 (n : Int), .int .i64 (i : Int), .bool true, .pointer (some ⟨b, o + i, none⟩), .string s, .string s, .int .i64 (K : Int), .int .i64 (T : Int), .int .i64 (N : Int), .func (.func 82) #[] #[.pointer (some ⟨wr.heap.size, 0, none⟩), .pointer (some ⟨wr.heap.size + 1, 0, none⟩), .pointer (some ⟨wr.heap.size + 1 + 1, 0, none⟩)], .int .i64 ((x.1 : Nat) : Int), u45, u46, u47, u48, u49, u50, u51, u52, u53, u54, u55, undef, undef, undef, undef, undef, undef], defers := [] }) ?assign ?body ?done ?stop
      case assign =>
        intro l x W K hK
        gi_wp2
        exact hK
      case body =>
        rintro q pre x W ⟨hI, hM⟩ _
        obtain ⟨g, hg⟩ : ∃ g, g = puts f0 (pre.map fun x : Fin N => x.1) := ⟨_, rfl⟩
        have hgl : g.length = T + 1 := by rw [hg, puts_len, hf0l]
        rw [← hg] at hI
        have HG := Lib.hid hg
        clear hg
        obtain ⟨p, hp8⟩ := x
        obtain ⟨a, ha⟩ : ∃ a, a = p / 8 := ⟨_, rfl⟩
        obtain ⟨r, hr⟩ : ∃ r, r = p % 8 := ⟨_, rfl⟩
        have ham : a < T := by have := HN.out; omega
        have hr8 : r < 8 := by omega
        have c0 := hI.box.cell 0
        have c1 := (hI.arr.cell a).trans (bv_cell g (by omega))
        have f1 := hI.arr.frozen a
        have e1 : (p : Int) / 8 = (a : Int) := by omega
        have e2 : (p : Int) % 8 = (r : Int) := by omega
        have e3 : (p : Int).tmod 8 = (r : Int) := by rw [Int.tmod_eq_emod_of_nonneg (by omega)]; exact e2
        have k1 : (0 : Int) ≤ (a : Int) := by omega
        have k2 : (a : Int) < (T : Int) + 1 := by omega
        have k3 : (0 : Int) ≤ (r : Int) := by omega
        have hwa : IntKind.i64.wrap (a : Int) = (a : Int) := IntWalk.i64_in _ (by omega)
        have hwr : IntKind.i64.wrap (r : Int) = (r : Int) := IntWalk.i64_in _ (by omega)
        obtain ⟨Y, hY⟩ : ∃ Y, Y = (g[a]?.getD 0).toNat := ⟨_, rfl⟩
        rw [← hY] at c1
        have HY := Lib.hid hY
        have HA := Lib.hid ha
        have HRr := Lib.hid hr
        have HI := Lib.hid hI
        have HM := Lib.hid hM
        clear hI hM hY ha hr
        simp only [List.getElem?_toArray, List.getElem?_cons_zero] at c0
        gi_wp2
        refine Bl.region_round (S := fun W' => W'.cell? ⟨w.heap.size + 1, 0, none⟩ = some (.slice (some ⟨w.heap.size, 0, none⟩) (T + 1) (T + 1))) (by kernel_rfl) (by kernel_rfl) (by (first | assumption | exact (Mm.Blk.cell (HI.out.box.same (Below.heap_setCell _ _ _ _ (by simp))) 0))) (fun hHeld => ?_)
        refine wpAnyH_take (i := 0) (v := ?vr1_0) (Fr.take_at rfl) (by kernel_rfl) (by kernel_rfl) (by kernel_rfl) (fun _ _ _ h => h) (Or.inl ⟨by rfl, ?yr1_0⟩) (by assumption) ?nr1_0
        case yr1_0 => (intro w_ hSw; (try dsimp only at hSw); go_simp; (try with_reducible rfl))
        try simp only [Act.put, List.setIfInBounds_toArray, List.set_cons_zero, List.set_cons_succ]
        refine wpAnyH_take (i := 1) (v := ?vr1_1) (Fr.take_at rfl) (by kernel_rfl) (by kernel_rfl) (by kernel_rfl) (fun _ _ _ h => h) (Or.inl ⟨by rfl, ?yr1_1⟩) (by assumption) ?nr1_1
        case yr1_1 => (intro w_ hSw; (try dsimp only at hSw); go_simp; (try with_reducible rfl))
        try simp only [Act.put, List.setIfInBounds_toArray, List.set_cons_zero, List.set_cons_succ]
        refine wpAnyH_take (i := 2) (v := ?vr1_2) (Fr.take_at rfl) (by kernel_rfl) (by kernel_rfl) (by kernel_rfl) (fun _ _ _ h => h) (Or.inl ⟨by rfl, ?yr1_2⟩) (by assumption) ?nr1_2
        case yr1_2 => (intro w_ hSw; (try dsimp only at hSw); go_simp; (try with_reducible rfl))
        try simp only [Act.put, List.setIfInBounds_toArray, List.set_cons_zero, List.set_cons_succ]
        refine wpAnyH_take (i := 3) (v := ?vr1_3) (Fr.take_at rfl) (by kernel_rfl) (by kernel_rfl) (by kernel_rfl) (fun _ _ _ h => h) (Or.inl ⟨by rfl, ?yr1_3⟩) (by assumption) ?nr1_3
        case yr1_3 => (intro w_ hSw; (try dsimp only at hSw); go_simp; (try with_reducible rfl))
        try simp only [Act.put, List.setIfInBounds_toArray, List.set_cons_zero, List.set_cons_succ]
        refine wpAnyH_take (i := 5) (v := ?vr1_5) (Fr.take_at rfl) (by kernel_rfl) (by kernel_rfl) (by kernel_rfl) (fun _ _ _ h => h) (Or.inl ⟨by rfl, ?yr1_5⟩) (by assumption) ?nr1_5
        case yr1_5 => (intro w_ hSw; (try dsimp only at hSw); go_simp; (try with_reducible rfl))
        try simp only [Act.put, List.setIfInBounds_toArray, List.set_cons_zero, List.set_cons_succ]
        refine wpAnyH_take (i := 6) (v := ?vr1_6) (Fr.take_at rfl) (by kernel_rfl) (by kernel_rfl) (by kernel_rfl) (fun _ _ _ h => h) (Or.inl ⟨by rfl, ?yr1_6⟩) (by assumption) ?nr1_6
        case yr1_6 => (intro w_ hSw; (try dsimp only at hSw); go_simp; (try with_reducible rfl))
        try simp only [Act.put, List.setIfInBounds_toArray, List.set_cons_zero, List.set_cons_succ]
        refine wpAnyH_take (i := 7) (v := ?vr1_7) (Fr.take_at rfl) (by kernel_rfl) (by kernel_rfl) (by kernel_rfl) (fun _ _ _ h => h) (Or.inl ⟨by rfl, ?yr1_7⟩) (by assumption) ?nr1_7
        case yr1_7 => (intro w_ hSw; (try dsimp only at hSw); go_simp; (try with_reducible rfl))
        try simp only [Act.put, List.setIfInBounds_toArray, List.set_cons_zero, List.set_cons_succ]
        refine wpAnyH_ready (rs := [4]) (by kernel_rfl) (by simp) ?_
        refine AllReadyH.cons (Fr.take_at rfl) (fun K hK => ?_) AllReadyH.nil
        go_simp
        refine hK.out _ _ (by (first | assumption | exact (Mm.Blk.cell (HI.out.box.same (Below.heap_setCell _ _ _ _ (by simp))) 0))) (fun hHeld => ?_)
        clear hK K
        try simp only [Act.put, List.setIfInBounds_toArray, List.set_cons_zero, List.set_cons_succ]
        refine wpAnyH_take (i := 8) (v := ?vr1_8) (Fr.take_at rfl) (by kernel_rfl) (by kernel_rfl) (by kernel_rfl) (fun _ _ _ h => h) (Or.inl ⟨by rfl, ?yr1_8⟩) (by assumption) ?nr1_8
        case yr1_8 => (intro w_ hSw; (try dsimp only at hSw); go_simp; (try with_reducible rfl))
        try simp only [Act.put, List.setIfInBounds_toArray, List.set_cons_zero, List.set_cons_succ]
        refine wpAnyH_take (i := 9) (v := ?vr1_9) (Fr.take_at rfl) (by kernel_rfl) (by kernel_rfl) (by kernel_rfl) (fun _ _ _ h => h) (Or.inl ⟨by rfl, ?yr1_9⟩) (by assumption) ?nr1_9
        case yr1_9 => (intro w_ hSw; (try dsimp only at hSw); go_simp; (try with_reducible rfl))
        try simp only [Act.put, List.setIfInBounds_toArray, List.set_cons_zero, List.set_cons_succ]
        refine wpAnyH_ready (rs := [10]) (by kernel_rfl) (by simp) ?_
        refine AllReadyH.cons (Fr.take_at rfl) (fun K hK => ?_) AllReadyH.nil
        go_simp
        refine hK.out _ _ (by (first | assumption | exact (Mm.Blk.cell (HI.out.box.same (Below.heap_setCell _ _ _ _ (by simp))) 0))) (fun hHeld => ?_)
        clear hK K
        try simp only [Act.put, List.setIfInBounds_toArray, List.set_cons_zero, List.set_cons_succ]
        refine wpAnyH_done (by kernel_rfl) ?_ _
        dsimp only [Bl.OnlyNormal]
        clear hwa hwr e1 e2 e3 eN k1 k2 k3 c0 c1 f1
        gi_wp2
        refine ⟨(KeepsOthers.setCell _ _ _).trans (KeepsOthers.drew _), World.cell?_setCell_far W _ ⟨wr.heap.size + 1 + 1, 0, none⟩ _ (by show w.heap.size ≠ wr.heap.size + 1 + 1; omega), ?_, ?_⟩
        · have := (HI.out.put p HA.out HRr.out HY.out).drew
          rw [HG.out, ← puts_one, ← puts_append, ← List.map_singleton (f := fun x : Fin N => x.1) (a := ⟨p, hp8⟩), ← List.map_append] at this
          exact this
        · exact (HM.out.set HI.out.arr _ _).same fun _ _ h => h
      case done =>
        rintro D ys W hD hys ⟨hI, hM⟩ hK
        rw [hys] at hI
        have hKl : D < W.heap.size := (Array.getElem?_eq_some_iff.1 hK).1
        have HI := Lib.hid hI
        have HM := Lib.hid hM
        have HK2 := Lib.hid hK
        clear hI hM hys hK
        gi_wp2
        refine ⟨⟨_, _, i + 1, _, _, _, _, _, _, _, _, _, _, _, _, _, _, _, _, _, _, _, _, _, _, ⟨?_, ?_, ?_, ?_⟩, rfl⟩, ?_⟩
        · omega
        · simp
        · refine Lib.hid ?_
          have e : (ks.map (·.toList)).take (i + 1) = (ks.map (·.toList)).take i ++ [s.toList] := by
            rw [List.take_add_one, List.getElem?_map, HSS.out]; rfl
          rw [e, bitsOf_snoc, ← HF0.out, ← HN.out]
          exact HI.out
        · exact Lib.hid ⟨D, rfl, by omega, hKl, HK2.out, HM.out.mono (by omega)⟩
        · simp [intOf]; omega
      case stop =>
        rintro D c pre W _ _ h _
        exact h.elim
    · obtain rfl : i = n := by omega
      have hI := HI.out
      rw [List.take_of_length_le (by rw [List.length_map]; have := HL.out; omega)] at hI
      obtain ⟨g, hg⟩ : ∃ g, g = bitsOf T K (ks.map (·.toList)) := ⟨_, rfl⟩
      have hgl : g.length = T + 1 := by rw [hg, bitsOf_len]
      rw [← hg] at hI
      have c0 := hI.box.cell 0
      have c1 := (hI.arr.cell T).trans (bv_cell g (by omega))
      have f1 := hI.arr.frozen T
      have hne : (⟨w.heap.size, T, none⟩ : Addr) ≠ ⟨w.heap.size + 1, 0, none⟩ := by simp
      simp only [List.getElem?_toArray, List.getElem?_cons_zero] at c0
      have HI2 := Lib.hid hI
      have HG := Lib.hid hg
      have k1 : ¬ (i : Int) < (i : Int) := by omega
      clear hI hg
      gi_wp2
      show LeavesInM _ _ _ _ _ _ ds .returning _
      have hsz := HI2.out.bel.size
      refine leaves_marks ds _ _ (HM.out.set HI2.out.arr _ _) (by simpa using hsz) fun W' hT => ?_
      refine ⟨_, results_tmp rfl _ _ _, ?_⟩
      have hB := HI2.out.arr.set T (.int .u8 (K : Int))
      rw [bv_set g T K (by omega)] at hB
      have hF : g.set T (UInt8.ofNat K) = filt (ks.map (·.toList)) per := by
        have h1 := HT.out
        unfold filt
        rw [List.length_map, HL.out, ← h1, ← HK.out, HG.out]
      rw [hF] at hB
      have hfl : (filt (ks.map (·.toList)) per).length = T + 1 := by rw [← hF, List.length_set, hgl]
      exact made_block hfl (by omega) (hT.cells _ _ _ hB) ((below_set HI2.out.bel (Nat.le_refl _) _).trans hT.bel)
end
end Bl
end Go.Proofs.YtadlhnjnhllpfaaDoor
