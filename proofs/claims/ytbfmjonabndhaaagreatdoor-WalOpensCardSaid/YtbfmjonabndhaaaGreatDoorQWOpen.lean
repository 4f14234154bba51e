/-
  WHAT IS PROVED: (1) what Open answers. CONDITIONS: the drive stands in memory as told; the library's variables lie as laid.
-/
import Derived.Test.YtbfmjonabndhaaaGreatDoorQWPay
namespace Go.Proofs.YtbfmjonabndhaaaGreatDoor
open Go Go.RowKit Go.Maps Go.Proofs.YtbfmjonabndhaaaGreatDoor.Fr Go.Proofs.YtbfmjonabndhaaaGreatDoor.Dr
namespace Wl

/-- What the loop over the segments has. -/
structure OpAt (w wr : World) (b d : Nat) (a : Int) (fs : List Fl) (ns : List Int) (NV : Value) (i : Nat) (v : Value) (j : Nat) (vs : List Value) : Prop where
  log : LogAt wr b d (nextOf a (ns.take i)) false
  row : wr.ownsRow w.heap.size 28 1 v j vs
  pays : OwnL wr w.heap.size vs (paysOf fs a (ns.take i))
  len : (paysOf fs a (ns.take i)).length = j
  few : j ≤ 262144 * i
  bel : Below w.heap.size w wr
  new : w.heap.size ≤ b
  num : wr.ownsRow w.heap.size 3 1 NV ns.length (ints ns)
theorem row_set {w : World} {base e n b i : Nat} {v : Value} {xs : List Value} {t : TypeId} {cs : Array Value} (h : w.ownsRow base e 1 v n xs) (hb : Blk w b t cs) (hne : e ≠ t) (u : Value) : (w.setCell ⟨b, i, none⟩ u).ownsRow base e 1 v n xs := by
  refine own_same h fun k hk => ?_
  obtain ⟨cur, hc⟩ := own_blk h hk
  have := Blk.ne hc hb hne
  simp [World.setCell, Array.getElem?_modify, Ne.symm this]
theorem LogAt.set1 {w : World} {b d : Nat} {g : Int} {dead : Bool} (h : LogAt w b d g dead) (g' : Int) : LogAt (w.setCell ⟨b, 1, none⟩ (.int .i64 g')) b d g' dead := Blk.set h 1 _
theorem LogAt.grown {w w' : World} {b d base e n : Nat} {g : Int} {dead : Bool} {v : Value} {xs : List Value} (h : LogAt w b d g dead) (hr : w.ownsRow base e 1 v n xs) (hne : e ≠ 67) (hg : w.grownBy w' v.ownBlock) : LogAt w' b d g dead :=
  h.same (hg.block b h.lt fun k => by
    obtain ⟨cur, hc⟩ := own_blk hr k.symm
    exact Blk.ne hc h hne rfl)
theorem ownL_one {w : World} {B : Nat} {us : List Value} {ls : List Bs} (h : OwnL w B us ls) : ∀ u ∈ us, u.oneCell' = true := by
  intro u hu
  obtain ⟨i, hi, rfl⟩ := List.mem_iff_getElem.1 hu
  have hl : ls[i]? = some (ls[i]'(by rw [← h.1]; exact hi)) := List.getElem?_eq_getElem _
  obtain ⟨A, m, c, e, _⟩ := h.reads.2 i _ _ (List.getElem?_eq_getElem hi) hl
  rw [e]
  rfl
theorem OpAt.set {w wr : World} {b d : Nat} {a : Int} {fs : List Fl} {ns : List Int} {NV : Value} {i : Nat} {v : Value} {j : Nat} {vs : List Value} (h : OpAt w wr b d a fs ns NV i v j vs) (g : Int) :
    LogAt (wr.setCell ⟨b, 1, none⟩ (.int .i64 g)) b d g false ∧ (wr.setCell ⟨b, 1, none⟩ (.int .i64 g)).ownsRow w.heap.size 28 1 v j vs ∧ OwnL (wr.setCell ⟨b, 1, none⟩ (.int .i64 g)) w.heap.size vs (paysOf fs a (ns.take i)) ∧
      Below w.heap.size w (wr.setCell ⟨b, 1, none⟩ (.int .i64 g)) ∧ (wr.setCell ⟨b, 1, none⟩ (.int .i64 g)).ownsRow w.heap.size 3 1 NV ns.length (ints ns) :=
  ⟨h.log.set1 g, row_set h.row h.log (by decide) _, h.pays.keep fun _ _ _ _ ho => row_set ho h.log (by decide) _,
    h.bel.trans (((Mod.refl (fun k => k = b) wr).setCell (p := ⟨b, 1, none⟩) (fun _ => rfl) (.int .i64 g)).to_below (fun k e => by subst e; exact h.new) h.bel.size), row_set h.num h.log (by decide) _⟩
theorem own_kept {w w' : World} {b b' e e' n n' : Nat} {v v' : Value} {xs xs' : List Value} (h : w.ownsRow b e 1 v n xs) (h' : w.ownsRow b' e' 1 v' n' xs') (hne : e ≠ e') (hg : w.grownBy w' v'.ownBlock) : w'.ownsRow b e 1 v n xs := h.kept hg (own_ne h h' hne)
/-- What Open answers. -/
def OpenRet (w : World) (d : Nat) (a : Int) (fs : List Fl) (e : Ending) (w' : World) : Prop :=
  ∃ b A k c vs, e = .returned (.tuple #[.pointer (some ⟨b, 0, none⟩), .slice A k c, .int .i64 0]) ∧ w.heap.size ≤ b ∧ LogAt w' b d (nextOf a (segs fs)) false ∧ (paysOf fs a (segs fs)).length = k ∧ k ≤ c ∧
    w'.ownsRow w.heap.size 28 1 (.slice A k c) k vs ∧ OwnL w' w.heap.size vs (paysOf fs a (segs fs)) ∧ Below w.heap.size w w'
def OpInv (w : World) (b d : Nat) (a : Int) (fs : List Fl) (ns : List Int) (NV : Value) (nn : Nat) (v x : Value) (wr : World) : Prop :=
  ∃ (i j c : Nat) (A : Option Addr) (vs : List Value), i ≤ nn ∧ x = .int .i64 (i : Int) ∧ v = .slice A j c ∧ j ≤ c ∧ Hid (OpAt w wr b d a fs ns NV i (.slice A j c) j vs)
set_option maxHeartbeats 3200000 in
theorem open_any {B : Nat} {w : World} {S : Nat → Prop} {d : Nat} {st : St} (h : DriveRep w S d st) (hok : st.Ok) (hL : Lb B w) (a : Int) (ha : 1 ≤ a) (ha2 : a ≤ 999999) :
    Calls Tryz.prog 8 #[.pointer (some ⟨d, 0, none⟩), .int .i64 a] w (OpenRet w d a st.files) := by
  have e1 : decide (a < 1) = false := decide_eq_false (by omega)
  have e2 : decide (999999 < a) = false := decide_eq_false (by omega)
  obtain ⟨fs, hfs⟩ : ∃ fs, fs = st.files := ⟨_, rfl⟩
  have hfw : fs.length ≤ 256 := by rw [hfs]; exact hok.few
  obtain ⟨ns, hns⟩ : ∃ ns, ns = segs fs := ⟨_, rfl⟩
  have hnw : ns.length ≤ 256 := by rw [hns]; exact Nat.le_trans (segs_length _) hfw
  have HM := Lib.hid (fun n (hn : n ∈ ns) => segs_mem (l := fs) (n := n) (hns ▸ hn))
  have HF := Lib.hid (fun n (hn : n ∈ ns) => segs_find (l := fs) (by rw [hfs]; exact hok.rising) (n := n) (hns ▸ hn))
  have HP := Lib.hid (fun n => payOf_len (l := fs) (by rw [hfs]; exact fun f hf => (hok.file f hf).1) n)
  have HC := Lib.hid (fun (W : World) (hW : Below w.heap.size w W) (n : Int) (f : Fl) (hf : find fs (seg n) = some f) => payloadsOf_any (h.below hW) hok (hL.below (hW.mono hL.up)) n (f := f) (by rw [← hfs]; exact hf))
  have HS := Lib.hid (fun (W : World) (b : Nat) (g : Int) (dead : Bool) (hl : LogAt W b d g dead) (hW : Below w.heap.size w W) => segments_any (h.below hW) hok hl (hL.below (hW.mono hL.up)))
  rw [← hfs] at HC HS ⊢
  rw [← hns] at HS
  have HNS := Lib.hid hns
  obtain ⟨i1, hi1, hy, hy1, hy2⟩ := info_parts info_sl
  clear hfs hns h hok hL
  go_enter Tryz.func8, Tryz.ntmps8
  have hlg : LogAt (w.alloc (.cells #[.pointer (some ⟨d, 0, none⟩), .int .i64 a, .bool false] 67)) w.heap.size d a false := Blk.new _ _ _
  have hbw : Below w.heap.size w (w.alloc (.cells #[.pointer (some ⟨d, 0, none⟩), .int .i64 a, .bool false] 67)) := (Below.refl _ _).alloc (Nat.le_refl _) _
  go_wp2_with first
    | (go_at_call 24; ((with_reducible refine (HS.out _ _ _ _ hlg hbw).mono ?_); rintro e w1 ⟨AN, nn, cn, rfl, hnn, hnc, hown, hb1⟩; have HO1 := Lib.hid hown; have HB1 := Lib.hid hb1; clear hown hb1))
  subst hnn
  have h0 : OpAt w w1 w.heap.size d a fs ns (.slice AN ns.length cn) 0 (.slice none 0 0) 0 [] :=
    ⟨hlg.same (HB1.out.block _ hlg.lt), World.ownsRow_nil _ _ _ _, ⟨rfl, fun i v l h => by simp at h⟩, rfl, by omega, hbw.trans (HB1.out.mono hbw.size), Nat.le_refl _, own_mono HO1.out hbw.size⟩
  have H0 := Lib.hid h0
  clear h0 hlg hbw HO1 HB1
  go_loopw [8, 24] (OpInv w w.heap.size d a fs ns (.slice AN ns.length cn) ns.length) (fun _ x _ => ns.length - (intOf x).toNat)
  case atStart => exact ⟨0, 0, 0, none, [], by omega, rfl, rfl, by omega, H0.out⟩
  case round =>
    clear H0
    obtain ⟨i, j, c, A, vs, hi, rfl, rfl, hjc, HK⟩ := hrel
    by_cases hlt : i < ns.length
    · obtain ⟨n, hn⟩ : ∃ n, ns[i]? = some n := ⟨ns[i]'(by omega), List.getElem?_eq_getElem _⟩
      have hnm : n ∈ ns := List.mem_of_getElem? hn
      obtain ⟨hn1, hn2, _⟩ := HM.out n hnm
      obtain ⟨f, hf⟩ := HF.out n hnm
      obtain ⟨gn, on, rfl, hgn, q0⟩ := (Rd.own HK.out.num).at_ (i := i) (by rw [ints_len]; omega)
      have q1 : wr.cell? ⟨gn, on + i, none⟩ = some (.int .i64 n) := by
        rw [q0]
        simp only [ints, List.getElem_map, Option.some.injEq]
        rw [(List.getElem?_eq_some_iff.1 hn).2]
      obtain ⟨g, hg⟩ : ∃ g, g = nextOf a (ns.take i) := ⟨_, rfl⟩
      have hlog : LogAt wr w.heap.size d g false := hg ▸ HK.out.log
      have c1 := hlog.c1
      have f1 : wr.frozen? ⟨w.heap.size, 1, none⟩ = false := hlog.frozen 1
      have hlt' : (i : Int) < (ns.length : Int) := by omega
      have e5 : wrap64 (n + 1) = n + 1 := by unfold wrap64; omega
      have hset := fun g => HK.out.set g
      have HSET := Lib.hid hset
      have HNN := Lib.hid hn
      have HFF := Lib.hid hf
      have HG := Lib.hid hg
      have htk : ns.take (i + 1) = ns.take i ++ [n] := by rw [List.take_add_one, hn]; rfl
      have HTK := Lib.hid htk
      have hjw := HK.out.few
      clear q0 hn hf hg hset htk hlog hnm
      by_cases hle : a ≤ n
      · go_wp2_with first
          | (go_at_call 25; ((with_reducible refine (HC.out _ (HSET.out _).2.2.2.1 n f HFF.out).mono ?_); rintro e w2 ⟨A2, k2, c2, us, rfl, hl2, hc2, hown2, hol2, hb2⟩; have hk2 : k2 ≤ 262144 := Nat.le_trans (Nat.le_of_eq hl2.symm) (HP.out n); have HO2 := Lib.hid hown2; have HL2 := Lib.hid hol2; have HB2 := Lib.hid hb2; have HE2 := Lib.hid hl2; clear hown2 hol2 hb2 hl2))
          | (at_builtin; refine wpList_app _ rfl (.tmp 41) (.tmp 44) _ rfl w.heap.size 28 i1 _ 24 Tryz.underlying23 hi1 hy hy1 hy2 rfl (.slice A j c) j vs rfl (own_below (HSET.out _).2.1 HB2.out (Nat.le_refl _)) A2 k2 c2 us rfl (HL2.out.1.trans HE2.out) (Rd.own HO2.out) (ownL_one HL2.out) (j + k2) rfl (by unfold maxLen; omega) (by omega) (Nat.le_trans (HSET.out (max g (n + 1))).2.2.2.1.size HB2.out.size) ?_; intro A8 c8 w6 hown8 hb8 hg8 _)
        have hs := HSET.out (max g (n + 1))
        have hrow := own_below hs.2.1 HB2.out (Nat.le_refl _)
        go_roundw
        case rel =>
          refine ⟨i + 1, j + k2, c8, A8, vs ++ us, by omega, by go_num, rfl, own_cap hown8, ?_, hown8, ?_, ?_, by omega, ?_, Nat.le_refl _, ?_⟩
          · rw [HTK.out, nextOf_snoc, ← HG.out]
            exact LogAt.grown (hs.1.same (HB2.out.block _ hs.1.lt)) hrow (by decide) hg8
          · rw [HTK.out, paysOf_yes _ _ hle]
            exact ownL_join ((hs.2.2.1.below HB2.out).grown hrow (by decide) hg8) (HL2.out.grown hrow (by decide) hg8) hs.2.2.2.1.size hs.2.2.1.lt
          · rw [HTK.out, paysOf_yes _ _ hle, List.length_append, HK.out.len, HE2.out]
          · exact (hs.2.2.2.1.trans (HB2.out.mono hs.2.2.2.1.size)).trans hb8
          · exact own_kept (own_below hs.2.2.2.2 HB2.out (Nat.le_refl _)) hrow (by decide) hg8
        case measure => simp [intOf]; omega
      · go_wp2
        have hs := HSET.out (max g (n + 1))
        go_roundw
        case rel =>
          refine ⟨i + 1, j, c, A, vs, by omega, by go_num, rfl, hjc, ?_, hs.2.1, ?_, ?_, by omega, hs.2.2.2.1, Nat.le_refl _, hs.2.2.2.2⟩
          · rw [HTK.out, nextOf_snoc, ← HG.out]; exact hs.1
          · rw [HTK.out, paysOf_no _ _ hle]; exact hs.2.2.1
          · rw [HTK.out, paysOf_no _ _ hle]; exact HK.out.len
        case measure => simp [intOf]; omega
    · obtain rfl : i = ns.length := by omega
      have hlt' : ¬ (ns.length : Int) < (ns.length : Int) := by omega
      go_wp2
      go_ret3
      have h9 := HK.out
      have h1 := h9.log
      have h2 := h9.pays
      have h3 := h9.len
      rw [List.take_length] at h1 h2 h3
      rw [HNS.out] at h1 h2 h3
      exact ⟨_, _, _, _, vs, rfl, Nat.le_refl _, h1, h3, hjc, h9.row, h2, h9.bel⟩

end Wl
end Go.Proofs.YtbfmjonabndhaaaGreatDoor
