/-
  WHAT IS PROVED: (1) what Build of package sstable answers. CONDITIONS: the entries stand in memory as named, and so does frame's table.
-/
import Derived.Test.YtadlhnjnhllpfaaDoorQSBuP
import Derived.Test.YtadlhnjnhllpfaaDoorQSReg
namespace Go.Proofs.YtadlhnjnhllpfaaDoor
open Go Go.RowKit Go.Shelf Go.Maps Go.Sort Go.Proofs.YtadlhnjnhllpfaaDoor.Mm Go.Proofs.YtadlhnjnhllpfaaDoor.Fr
attribute [local go_sem] Oper.semAt_some
namespace Ss
theorem listError_z {l : List En} {z : Int} {w : World} {A : Option Addr} {n c : Nat} (h : listErr l = z) (hl : l.length = n) (hr : Rd w A (ev l)) (hn : n ≤ 1000000) : Calls Tryd.prog 27 #[.slice A n c] w fun e w' => e = .returned (.int .i64 z) ∧ Below w.heap.size w w' := by
  rw [← h]; exact listError_any hl hr hn
section
variable {w : World} {A : Option Addr} {n c : Nat} {l : List En}
set_option maxRecDepth 100000 in
theorem build_bad {z : Int} (hz : listErr l = z) (h0 : z ≠ 0) (hl : l.length = n) (hr : Rd w A (ev l)) (hn : n ≤ 1000000) :
    Calls Tryd.prog 10 #[.slice A n c] w fun e w' => e = .returned (.tuple #[.slice none 0 0, .int .i64 z]) ∧ Below w.heap.size w w' := by
  have HE := Lib.hid (listError_z (c := c) hz hl hr hn)
  have k0 : (z != 0) = true := by simpa using h0
  clear hz hl hr
  go_enter Tryd.func10, Tryd.ntmps10
  go_wp2_with (go_at_call 27; refine HE.out.mono ?_; rintro e w1 ⟨rfl, hb1⟩)
  go_ret2
  exact ⟨rfl, hb1⟩
def BuildRet (w : World) (l : List En) (e : Ending) (w' : World) : Prop := ∃ A n c, e = .returned (.tuple #[.slice A n c, .int .i64 0]) ∧ (build l).length = n ∧ w'.ownsRow w.heap.size 5 1 (.slice A n c) n (bv (build l)) ∧ Below w.heap.size w w'
/-- Between two blocks. -/
def BuI (w : World) (T X : Nat) (v0 : Value) (l : List En) (K : Nat) (pre : List (Fin K)) (W : World) : Prop := BuE w T X (tbOf l (pre.map (·.1))) (ixOf l (pre.map (·.1))) W W ∧ Blk W (X + 1) 22 #[v0] ∧ Blk W (X + 1 + 1) 3 #[.int .i64 3]
theorem blk_keptB {W W' : World} {row : Option Nat} {g : Nat} {t : TypeId} {cs : Array Value} (h : Blk W g t cs) (hg : W.grownBy W' row) (hr : ∀ r, row = some r → ∃ o : Obj, W.heap[r]? = some o ∧ o.isCells = false) : Blk W' g t cs := by
  refine h.same (hg.block _ h.lt fun e => ?_)
  obtain ⟨o, ho, hc⟩ := hr _ e.symm
  rw [show W.heap[g]? = _ from h] at ho
  cases ho
  cases hc
theorem BuI.own {w : World} {T X K B : Nat} {v0 : Value} {l : List En} (hB : w.heap.size ≤ B) : OwnFrom B (BuI w T X v0 l K) := fun _ _ _ _ h hg hr => ⟨BuE.kept h.1 hg fun r e => ⟨Nat.le_trans hB (hr r e).1, (hr r e).2⟩, blk_keptB h.2.1 hg fun r e => (hr r e).2, blk_keptB h.2.2 hg fun r e => (hr r e).2⟩
theorem len28 {tb sf si : Bs} {m28 n20 m22 m25 : Nat} (h : (tb ++ sf ++ si ++ le4 n20).length = m28) (h1 : tb.length = n20) (h2 : sf.length = m22) (h3 : si.length = m25) (b1 : n20 ≤ 92652) (b2 : m22 ≤ 120) (b3 : m25 ≤ 3820) : m28 ≤ 100000 := by
  rw [List.length_append, List.length_append, List.length_append, le4_length] at h
  omega
theorem len30 {l : Bs} {m28 m30 z : Nat} (h : (l ++ le4 z).length = m30) (h1 : l.length = m28) (h2 : m28 ≤ 100000) : m30 ≤ 100100 := by
  rw [List.length_append, le4_length] at h
  omega
theorem sz4 {m : Nat} (h : m ≤ 100100) : m + (⟨#[99, 118, 116, 49]⟩ : ByteArray).size ≤ maxLen := by
  have : (⟨#[99, 118, 116, 49]⟩ : ByteArray).size = 4 := rfl
  unfold maxLen; omega
theorem sz4b {m : Nat} (h : m ≤ 100100) : m + (⟨#[99, 118, 116, 49]⟩ : ByteArray).size ≤ 140737488355328 := by
  have : (⟨#[99, 118, 116, 49]⟩ : ByteArray).size = 4 := rfl
  omega
theorem apo2 {W : World} {A : Option Addr} {k c base : Nat} {l : Bs} (a b : Nat) (hl : l.length = k) (hn : k ≤ 1000000) (ho : W.ownsRow base 5 1 (.slice A k c) k (bv l)) (hb : base ≤ W.heap.size) :
    Calls Tryd.prog 36 #[.slice A k c, .int .i64 ((a : Int) + (b : Int))] W (ApoRet base W (l ++ le4 (a + b))) := by
  rw [← Int.natCast_add]
  exact appendOffset_any hl hn ho hb
theorem keys_le : ∀ (l : List En) (p : Option Bs), (keysF p l).length ≤ l.length
  | [], _ => Nat.le_refl _
  | e :: r, p => by
    simp only [keysF]
    split
    · exact Nat.le_trans (keys_le r p) (by simp)
    · rw [List.length_cons, List.length_cons]; exact Nat.succ_le_succ (keys_le r _)
theorem filt_le {l : List En} (h : l.length ≤ 84) : (Bl.filt (keysB l) 10).length ≤ 110 := by
  have h1 := keys_le l none
  have h2 : (keysB l).length ≤ 84 := Nat.le_trans h1 h
  have h3 : Bl.per1 10 = 10 := by decide
  rw [Bl.filt_len]
  unfold Bl.sizeOf
  rw [h3]
  omega
set_option maxRecDepth 100000 in
set_option maxHeartbeats 1000000 in
theorem build_any (hg : GoodL l) (hl : l.length = n) (hr : Rd w A (ev l)) (hnc : n ≤ c) (ht : Tab w) :
    Calls Tryd.prog 10 #[.slice A n c] w (BuildRet w l) := by
  have hn := hg.le
  have hn0 := hg.pos
  rw [hl] at hn hn0
  obtain ⟨i0, hi, hz, hz1, hz2⟩ := info_parts Fr.info_u8
  obtain ⟨g, p, rfl, hgl, hcl⟩ := hr (by intro e; have := Mm.ev_len l; rw [e] at this; simp at this; omega)
  have HE := Lib.hid (listError_z (c := c) ((listErr_good l).2 hg) hl hr (by omega))
  obtain ⟨K, hK⟩ : ∃ K, K = (n + 2) / 3 := ⟨_, rfl⟩
  have hKe : ((n : Int) + 3 - 1).tdiv 3 = (K : Int) := by rw [Int.tdiv_eq_ediv_of_nonneg (by omega)]; omega
  have hKe2 : ((n : Int) + 3 - 1) / 3 = (K : Int) := by omega
  have hcnt : (chunks l).length = K := by rw [chunks_len _ l (Nat.le_refl _), hl, hK]
  have HG := Lib.hid hg
  have HL := Lib.hid hl
  have HR := Lib.hid hr
  have HT := Lib.hid ht
  have HK := Lib.hid hK
  have HCN := Lib.hid hcnt
  clear hg hl hr ht hcl hK hcnt
  refine (callsIn_wide (n := 7)).1 (callsIn_of_wp_marks Tryd.func10 rfl trivial ?_ rfl)
  simp only [Tryd.ntmps10, List.size_toArray, List.length_cons, List.length_nil, Nat.reduceAdd, Nat.reduceSub, Array.replicate_succ, Array.replicate_zero, List.push_toArray, List.append_toArray, List.nil_append, List.cons_append]
  refine wpIn_wide.2 (wp_only ?_)
  go_wp2_with (first
    | (go_at_call 27; refine HE.out.mono ?_; rintro e w1 ⟨rfl, hb1⟩)
    | (go_at_call 28; refine (Fuint_any K (w1.alloc (.cells #[.slice none 0 0] 25)) (by omega)).mono ?_; rintro e w2 ⟨v2, rfl, A2, m2, c2, rfl, hm2, hc2, hown2, hb2⟩)
    | (go_at_call 29; refine (callsIn_wide.1 (chunk_in (n := n) (c := c) 5 (w2.alloc (.cells #[.slice A2 m2 c2] 25)) (some ⟨g, p, none⟩))).mono ?_; rintro e w3 ⟨rfl, rfl⟩))
  obtain ⟨T, hT⟩ : ∃ T, T = w1.heap.size := ⟨_, rfl⟩
  obtain ⟨X, hX⟩ : ∃ X, X = w2.heap.size := ⟨_, rfl⟩
  have hsz2 := hb2.size
  rw [World.size_alloc] at hsz2
  have hTX : T < X := by omega
  have hw1 := hb1.size
  have hb02 : Below w.heap.size w w2 := (hb1.alloc hw1 _).trans (hb2.mono (by rw [World.size_alloc]; omega))
  have hT2 : Blk w2 T 25 #[.slice none 0 0] := by rw [hT]; exact (Blk.new w1 _ _).same (hb2.block _ (by simp))
  obtain ⟨W3, hW3⟩ : ∃ W3, W3 = ((w2.alloc (.cells #[.slice A2 m2 c2] 25)).alloc (.cells #[.slice (some ⟨g, p, none⟩) n c] 22)).alloc (.cells #[.int .i64 3] 3) := ⟨_, rfl⟩
  have hX3 : Blk W3 X 25 #[.slice A2 m2 c2] := by rw [hW3, hX]; exact ((Blk.new w2 _ _).alloc _).alloc _
  have hP1 : Blk W3 (X + 1) 22 #[.slice (some ⟨g, p, none⟩) n c] := by
    rw [hW3, hX]
    have := Blk.new (w2.alloc (.cells #[.slice A2 m2 c2] 25)) 22 #[.slice (some ⟨g, p, none⟩) n c]
    rw [World.size_alloc] at this
    exact this.alloc _
  have hP2 : Blk W3 (X + 1 + 1) 3 #[.int .i64 3] := by
    rw [hW3, hX]
    have := Blk.new ((w2.alloc (.cells #[.slice A2 m2 c2] 25)).alloc (.cells #[.slice (some ⟨g, p, none⟩) n c] 22)) 3 #[.int .i64 3]
    rw [World.size_alloc, World.size_alloc] at this
    exact this
  have hs3 : W3.heap.size = X + 1 + 1 + 1 := by rw [hW3, hX]; simp
  have hown3 : W3.ownsRow w.heap.size 5 1 (.slice A2 m2 c2) m2 (bv (enc K)) := by
    rw [hW3]
    exact ((((own_mono hown2 (by rw [World.size_alloc]; omega)).alloc _).alloc _).alloc _)
  have hB3 : Below w.heap.size w W3 := by
    have h2 := hb02.size
    rw [hW3]
    exact ((hb02.alloc h2 _).alloc (by simp; omega) _).alloc (by simp; omega) _
  have hI0 : BuI w T X (.slice (some ⟨g, p, none⟩) n c) l K [] W3 := by
    refine ⟨⟨U8s.refl _, none, 0, 0, A2, m2, c2, ?_, hX3, rfl, ?_, World.ownsRow_nil _ _ _ _, ?_, (fun k e => by cases e), hB3, by omega, by omega, by omega⟩, hP1, hP2⟩
    · rw [hW3]; exact ((hT2.alloc _).alloc _).alloc _
    · rw [← hm2]; simp [ixOf, idxF, HCN.out]
    · simpa [ixOf, idxF, HCN.out] using hown3
  rw [← hW3]
  (try simp only [World.size_alloc])
  rw [← hX, ← hT]
  have HB3 := Lib.hid hB3
  have HI0 := Lib.hid hI0
  have HP1 := Lib.hid hP1
  have HP2 := Lib.hid hP2
  have hTw : w.heap.size ≤ T := by omega
  have hXw : w.heap.size ≤ X := by omega
  have hWw : w.heap.size ≤ W3.heap.size := by omega
  have hX1 : X + 1 < W3.heap.size := by omega
  have hX2 : X + 1 + 1 < W3.heap.size := by omega
  clear hI0 hP1 hP2 hs3 hown3 hB3 hX3 hT2 hb02 hW3 hX hT hm2 hc2 hown2 hb2 hsz2 hb1 hw1
  refine act_gen fun a0 ha0 => ?_
  refine (wpIn_wide (n := 7)).1 ?_
  refine wpIn_rangeFunc_ownH rfl (by omega) (gf := 58) (lb := #[.pointer (some ⟨X + 1, 0, none⟩), .pointer (some ⟨X + 1 + 1, 0, none⟩)]) (by rw [ha0]; rfl) trivial (enters_of Tryd.func58 (by kernel_rfl) rfl)
    (chunk_stops (g := g) (p := p) (n := n) (c := c) (K := K) (7 - 1) (by omega) (some ⟨g, p, none⟩) (fun _ => rfl) HK.out (by omega) hnc HP1.out HP2.out) kpS_t (kpS_b (fun b hb => by rcases hb with rfl | rfl <;> assumption)) (Below.refl _ _) (fun _ => rfl)
    (BuI w T X (.slice (some ⟨g, p, none⟩) n c) l K) (fun _ _ _ => False) (BuI.own hWw) (fun _ _ _ _ _ hs _ _ => hs) HI0.out
    (fun x a' _ => a' = { tmps := (a0.tmps.setIfInBounds 25 (cvl g p n x.1)).setIfInBounds 7 (cvl g p n x.1), defers := [] })
    (fun x a' s W W' row h hg hr => h) ?assign ?body ?done ?stop
  case assign =>
    intro l' pre x W K' hI hK'
    subst ha0
    gi_wp2
    exact hK' _ _ (KeepsFrom.refl _ _) (fun _ _ => rfl) hI rfl
  case body =>
    rintro l' pre x a' W _ _ hI rfl hlen
    subst ha0
    simp only [List.setIfInBounds_toArray, List.set_cons_zero, List.set_cons_succ]
    obtain ⟨x, hxK⟩ := x
    obtain ⟨q, hq⟩ : ∃ q, q = min 3 (n - 3 * x) := ⟨_, rfl⟩
    have hcv : cvl g p n x = .slice (some ⟨g, p + x * 12, none⟩) q q := by unfold cvl; rw [← hq]
    obtain ⟨b, hb⟩ : ∃ b, b = chk l x := ⟨_, rfl⟩
    have hbl : b.length = q := by rw [hb, chk_len, HL.out, hq]
    have hq3 : q ≤ 3 := by omega
    have hq0 : 0 < q := by have := HK.out; omega
    have hob : ∀ e ∈ b, entryErr e = 0 := fun e he => HG.out.ok e (chk_mem (hb ▸ he))
    obtain ⟨⟨_, hE0⟩, hq1, hq2⟩ := hI
    have HQ1 := Lib.hid hq1
    have HQ2 := Lib.hid hq2
    have hE : BuE w T X (tbOf l (pre.map (·.1))) (ixOf l (pre.map (·.1))) W W := ⟨U8s.refl _, hE0⟩
    obtain ⟨tb, htb⟩ : ∃ tb, tb = tbOf l (pre.map (·.1)) := ⟨_, rfl⟩
    obtain ⟨ix, hix⟩ : ∃ ix, ix = ixOf l (pre.map (·.1)) := ⟨_, rfl⟩
    rw [← htb, ← hix] at hE
    have htl : tb.length ≤ 92652 := by
      have h1 := tbOf_len HG.out.ok (pre.map (·.1))
      rw [← htb, List.length_map] at h1
      have h2 : 3309 * pre.length ≤ 3309 * 28 := Nat.mul_le_mul_left _ (by have := HK.out; omega)
      omega
    have hil : ix.length ≤ 3811 := by
      have h1 := ixOf_len HG.out.ok HG.out.le pre.length (pre.map (·.1)) (by rw [List.length_map]) (by have := HK.out; omega)
      rw [← hix] at h1
      omega
    have hbW : Below w.heap.size w W := by obtain ⟨_, _, _, _, _, _, _, h1⟩ := hE; exact h1.bel
    have hRb : ∀ W', Below w.heap.size w W' → Rd W' (some ⟨g, p + x * 12, none⟩) (ev b) := fun W' h' => by rw [hb]; exact rd_chk (HR.out.below h') x
    have hpl := payload_any (c := q) hbl hq3 (hRb _ hbW) hob
    have hsl : (blockB b).length ≤ 4096 := by have := blockB_len b hob; omega
    have hsb := sealB_len (b := b) (by omega) hob
    obtain ⟨pb, hpb⟩ : ∃ pb, pb = blockB b := ⟨_, rfl⟩
    have hsq : sealB b = sealOf pb := by rw [hpb]; rfl
    obtain ⟨sb, hsbb⟩ : ∃ sb, sb = sealOf pb := ⟨_, rfl⟩
    rw [hsq, ← hsbb] at hsb
    rw [← hpb] at hpl hsl
    have HPL := Lib.hid hpl
    have HRB := Lib.hid hRb
    have HEE := Lib.hid hE
    have HTB := Lib.hid htb
    have HIX := Lib.hid hix
    have HBB := Lib.hid hb
    have HSQ := Lib.hid (hsq.trans hsbb.symm)
    have HSB := Lib.hid hsbb
    have HBL := Lib.hid hbl
    have HOB := Lib.hid hob
    have HBW := Lib.hid hbW
    have hd1 : 1 ≤ 7 - 1 - 1 := by omega
    have hf1 : Fence.wide.fn 31 := trivial
    have hf2 : Fence.wide.fn 30 := trivial
    have HQQ := Lib.hid hq
    dsimp only
    rw [hcv]
    clear hq1 hq2 hq hcv hpl hRb hE hE0 htb hix hb hsq hsbb hpb hbl hob hbW HI0 HP1 HP2 HE HB3
    gi_wp2_with (first
      | (gi_at_call 31; refine (CallsIn.inRound _ (callsIn_wide.2 HPL.out)).mono ?_; rintro e w4 ⟨v4, rfl, A4, m4, c4, rfl, hm4, hc4, hown4, hb4⟩; have hbW4 := HBW.out.trans (hb4.mono HBW.out.size); have HSE := Lib.hid (seal_any A4 m4 c4 pb w4 hm4 (Rd.own hown4) (by omega) (HT.out.below hbW4)); clear hown4 hm4 hc4)
      | (gi_at_call 30; refine (CallsIn.inRound _ (callsIn_wide.2 HSE.out)).mono ?_; rintro e w5 ⟨v5, rfl, A5, m5, c5, rfl, hm5, hc5, hown5, hb5⟩))
    have hbW5 := hbW4.trans (hb5.mono hbW4.size)
    obtain ⟨hu4, A5', n5', c5', B5', m5', d5', hS4⟩ := HEE.out.below hb4
    have hS5 := hS4.below hb5
    have hu5 := hu4.trans (U8s.below hb5)
    have hside : ∀ k, (Value.slice A5 m5 c5).ownBlock = some k → (Value.slice B5' m5' d5').ownBlock ≠ some k := fun k e e' => by
      have h1 := (hown5.lt k e).1
      have h2 := (hS4.xown.lt k e').2
      omega
    have hF5 : BuF w T X tb ix sb (.slice A5 m5 c5) m5 W w5 := ⟨hu5, A5', n5', c5', B5', m5', d5', hS5, by rw [HSB.out]; exact own_mono hown5 hbW4.size, hside⟩
    have HF9 := Lib.hid hF5
    have hm5s : sb.length = m5 := by rw [HSB.out]; exact hm5
    have HM5 := Lib.hid hm5s
    have HBW9 := Lib.hid hbW5
    clear hF5 hown5 hm5 hm5s hbW4 hb4 hb5 HSE HPL hbW5 hsl hS4 hS5 hu4 hu5 hside
    obtain ⟨e0, he0⟩ : ∃ e, b[0]? = some e := ⟨b[0]'(by have := HBL.out; omega), List.getElem?_eq_getElem _⟩
    have hfk : firstK b = e0.key.data.toList := by unfold firstK; rw [List.head?_eq_getElem?, he0]; rfl
    have hz0 := (entry_ok (HOB.out e0 (List.mem_of_getElem? he0))).1
    obtain ⟨j0, hqj⟩ : ∃ j0, q = j0 + 1 := ⟨q - 1, by omega⟩
    obtain ⟨e1, he1⟩ : ∃ e, b[j0]? = some e := ⟨b[j0]'(by have := HBL.out; omega), List.getElem?_eq_getElem _⟩
    have hlk : lastK b = e1.key.data.toList := by unfold lastK; rw [List.getLast?_eq_getElem?, HBL.out, hqj, Nat.add_sub_cancel, he1]; rfl
    have hz1' := (entry_ok (HOB.out e1 (List.mem_of_getElem? he1))).1
    have HE0 := Lib.hid he0
    have HE1 := Lib.hid he1
    have HFK := Lib.hid hfk
    have HLK := Lib.hid hlk
    have HQJ := Lib.hid hqj
    obtain ⟨s9, hs9⟩ : ∃ s, s = textOf e0.key.data.toList := ⟨_, rfl⟩
    obtain ⟨s10, hs10⟩ : ∃ s, s = textOf e1.key.data.toList := ⟨_, rfl⟩
    obtain ⟨s11, hs11⟩ : ∃ s, s = enc tb.length := ⟨_, rfl⟩
    obtain ⟨s12, hs12⟩ : ∃ s, s = enc m5 := ⟨_, rfl⟩
    have hl9 : s9.length ≤ 65 := by rw [hs9]; exact text_len hz0
    have hl10 : s10.length ≤ 65 := by rw [hs10]; exact text_len hz1'
    have hl11 : s11.length ≤ 3 := by rw [hs11]; exact enc3 (by omega)
    have hl12 : s12.length ≤ 3 := by rw [hs12]; exact enc3 (by have := HM5.out; omega)
    have hm5b : m5 ≤ 3309 := by have := HM5.out; omega
    have hFT := fun (W : World) => Ftext_any e0.key W (by omega)
    have hLT := fun (W : World) => Ftext_any e1.key W (by omega)
    have hU1 := fun (N : Nat) (hN : tb.length = N) (W : World) => Fuint_any N W (by omega)
    have hU1 := fun (N : Nat) (hN : tb.length = N) (W : World) => (by have h1 := hU1 N hN W; rw [← hN, ← hs11, hN] at h1; exact h1 : Calls Tryd.prog 28 #[.int .u64 (N : Int)] W (MadeRet 5 W s11))
    have hU2 := fun (W : World) => Fuint_any m5 W (by omega)
    rw [← hs9] at hFT
    rw [← hs10] at hLT
    rw [← hs12] at hU2
    have HT9 := Lib.hid hFT
    have HT10 := Lib.hid hLT
    have HT11 := Lib.hid hU1
    have HT12 := Lib.hid hU2
    have HV9 := Lib.hid hs9
    have HV10 := Lib.hid hs10
    have HV11 := Lib.hid hs11
    have HV12 := Lib.hid hs12
    have hil9 : ix.length ≤ 3811 := hil
    obtain ⟨ix9, hix9⟩ : ∃ y, y = ix := ⟨_, rfl⟩
    rw [← hix9] at HF9 hil9
    have HI9 := Lib.hid hix9
    obtain ⟨w9, hw9⟩ : ∃ y, y = w5 := ⟨_, rfl⟩
    rw [← hw9] at HF9 HBW9 ⊢
    clear he0 he1 hfk hlk hqj hs9 hs10 hs11 hs12 hFT hLT hU1 hU2 hix9 hw9 hz0 hz1' hil
    obtain ⟨hu9, A9', n9', c9', B9, m9, d9, hS9, hs9, hsn9⟩ := HF9.out
    have hm9 : m9 ≤ 3811 := by have := hS9.xl; omega
    have hn9 : tb.length = n9' := hS9.tl
    have HN9 := Lib.hid hn9
    have HU9 := Lib.hid hu9
    have HS9 := Lib.hid hS9
    have HD9 := Lib.hid hs9
    have HSN9 := Lib.hid hsn9
    have htn9 : n9' ≤ 92652 := by omega
    clear hu9 hS9 hs9 hsn9 HF9 hn9
    refine Ss.round_z (z := 5) (S := fun W' => W'.cell? ⟨X, 0, none⟩ = some (.slice B9 m9 d9)) (by kernel_rfl) (by kernel_rfl) (by (first | (with_reducible assumption) | exact HS9.out.x.cell 0)) (fun hHeld => ?_)
    refine Ss.z_take (i := 0) (v := ?vr1_0) (Fr.take_at rfl) (by kernel_rfl) (by kernel_rfl) (by kernel_rfl) (by kernel_rfl) (fun _ _ _ h => h) (Or.inl ⟨by rfl, ?yr1_0⟩) (by assumption) ?nr1_0
    case yr1_0 => (intro w_ hSw; (try dsimp only at hSw); go_simp; (try with_reducible rfl))
    try simp only [Act.put, List.setIfInBounds_toArray, List.set_cons_zero, List.set_cons_succ]
    refine Ss.z_take (i := 1) (v := ?vr1_1) (Fr.take_at rfl) (by kernel_rfl) (by kernel_rfl) (by kernel_rfl) (by kernel_rfl) (fun _ _ _ h => h) (Or.inl ⟨by rfl, ?yr1_1⟩) (by assumption) ?nr1_1
    case yr1_1 => (intro w_ hSw; (try dsimp only at hSw); go_simp; (try with_reducible rfl))
    try simp only [Act.put, List.setIfInBounds_toArray, List.set_cons_zero, List.set_cons_succ]
    refine Ss.z_ready (rs := [2]) (by kernel_rfl) (by simp) ?_
    refine Ss.AllZ.cons (Fr.take_at rfl) (fun K hK => ?_) Ss.AllZ.nil
    go_simp
    (go_at_call 33; refine (first_any hq0 HE0.out (HRB.out _ (below_drewN HBW9.out 1))).mono ?_; rintro e _ ⟨rfl, rfl⟩)
    try go_wp2_with fail
    refine hK.out _ _ (fun _ => by (first | (with_reducible assumption) | exact HS9.out.x.cell 0)) (fun hHeld => ?_)
    replace hHeld := hHeld (by decide)
    clear hK K
    try simp only [Act.put, List.setIfInBounds_toArray, List.set_cons_zero, List.set_cons_succ]
    refine Ss.z_ready (rs := [3]) (by kernel_rfl) (by simp) ?_
    refine Ss.AllZ.cons (Fr.take_at rfl) (fun K hK => ?_) Ss.AllZ.nil
    go_simp
    (go_at_call 32; refine (HT9.out _).mono ?_; rintro e w9b ⟨vb9, rfl, Ab9, mb9, cb9, rfl, hmb9, hcb9, hownb9, hb9⟩; have HS9b := Lib.hid (HS9.out.drew.below hb9); have cx9b : w9b.cell? ⟨X, 0, none⟩ = some (.slice B9 m9 d9) := HS9b.out.x.cell 0)
    try go_wp2_with fail
    refine hK.out _ _ (fun _ => by (first | (with_reducible assumption) | exact HS9.out.x.cell 0)) (fun hHeld => ?_)
    replace hHeld := hHeld (by decide)
    clear hK K
    try simp only [Act.put, List.setIfInBounds_toArray, List.set_cons_zero, List.set_cons_succ]
    refine Ss.z_ready (rs := [4]) (by kernel_rfl) (by simp) ?_
    refine Ss.AllZ.cons (Fr.take_at rfl) (fun K hK => ?_) Ss.AllZ.nil
    rw [if_pos (by rfl)]
    (refine wp_app w9b (.tmp 29) (.tmp 32) _ (by rfl) w.heap.size 5 i0 _ 1 Tryd.underlying25 hi hz hz1 hz2 (by rfl) (.slice B9 m9 d9) m9 (bv ix9) (by rfl) HS9b.out.xown Ab9 mb9 cb9 (bv s9) (by rfl) (by rw [bv_length]; exact hmb9) (Rd.own hownb9) (bv_one _) (m9 + mb9) rfl (by unfold maxLen; omega) (by omega) HS9b.out.bel.size ?_; intro Ac9 cc9 w9c hown9 _ hg9 hn9; obtain ⟨x90, x9f, x9t⟩ := HS9b.out.boxX hg9)
    refine hK.out _ _ (fun _ => by (first | (with_reducible assumption) | exact HS9.out.x.cell 0)) (fun hHeld => ?_)
    replace hHeld := hHeld (by decide)
    clear hK K
    try simp only [Act.put, List.setIfInBounds_toArray, List.set_cons_zero, List.set_cons_succ]
    refine Ss.z_ready (rs := [5]) (by kernel_rfl) (by simp) ?_
    refine Ss.AllZ.cons (Fr.take_at rfl) (fun K hK => ?_) Ss.AllZ.nil
    go_simp
    refine hK.out _ _ (fun e => absurd rfl e) (fun _ => ?_)
    clear hK K
    try simp only [Act.put, List.setIfInBounds_toArray, List.set_cons_zero, List.set_cons_succ]
    refine Ss.z_done (by kernel_rfl) ?_ _
    dsimp only [Bl.OnlyNormal]
    have hF10 := HS9b.out.indexF (HU9.out.drew.trans (U8s.below hb9)) (own_below (w := w9.drew) HD9.out hb9 (Nat.le_refl _)) HSN9.out hown9 hg9 hn9
    obtain ⟨w10, hw10⟩ : ∃ y, y = w9c.setCell ⟨X, 0, none⟩ (.slice Ac9 (m9 + mb9) cc9) := ⟨_, rfl⟩
    obtain ⟨ix10, hix10⟩ : ∃ y, y = ix9 ++ s9 := ⟨_, rfl⟩
    rw [← hw10, ← hix10] at hF10
    rw [← hw10]
    have hil10 : ix10.length ≤ 3811 + 65 := by rw [hix10, List.length_append]; omega
    have HBW10 : Hid (Below w.heap.size w w10) := by obtain ⟨_, _, _, _, _, _, _, h1, _⟩ := hF10; exact Lib.hid h1.bel
    have HF10 := Lib.hid hF10
    have HI10 := Lib.hid hix10
    clear hF10 hw10 hix10 HS9 HS9b HD9 HU9 HSN9 hown9 hg9 hn9 x90 x9f x9t hb9 hownb9 hHeld HBW9
    clear cx9b
    gi_wp2
    obtain ⟨hu10, A10', n10', c10', B10, m10, d10, hS10, hs10, hsn10⟩ := HF10.out
    have hm10 : m10 ≤ 3876 := by have := hS10.xl; omega
    have hn10 : tb.length = n10' := hS10.tl
    have HN10 := Lib.hid hn10
    have HU10 := Lib.hid hu10
    have HS10 := Lib.hid hS10
    have HD10 := Lib.hid hs10
    have HSN10 := Lib.hid hsn10
    have htn10 : n10' ≤ 92652 := by omega
    clear hu10 hS10 hs10 hsn10 HF10 hn10
    refine Ss.round_z (z := 5) (S := fun W' => W'.cell? ⟨X, 0, none⟩ = some (.slice B10 m10 d10)) (by kernel_rfl) (by kernel_rfl) (by (first | (with_reducible assumption) | exact HS10.out.x.cell 0)) (fun hHeld => ?_)
    refine Ss.z_take (i := 0) (v := ?vr2_0) (Fr.take_at rfl) (by kernel_rfl) (by kernel_rfl) (by kernel_rfl) (by kernel_rfl) (fun _ _ _ h => h) (Or.inl ⟨by rfl, ?yr2_0⟩) (by assumption) ?nr2_0
    case yr2_0 => (intro w_ hSw; (try dsimp only at hSw); go_simp; (try with_reducible rfl))
    try simp only [Act.put, List.setIfInBounds_toArray, List.set_cons_zero, List.set_cons_succ]
    refine Ss.z_take (i := 1) (v := ?vr2_1) (Fr.take_at rfl) (by kernel_rfl) (by kernel_rfl) (by kernel_rfl) (by kernel_rfl) (fun _ _ _ h => h) (Or.inl ⟨by rfl, ?yr2_1⟩) (by assumption) ?nr2_1
    case yr2_1 => (intro w_ hSw; (try dsimp only at hSw); go_simp; (try with_reducible rfl))
    try simp only [Act.put, List.setIfInBounds_toArray, List.set_cons_zero, List.set_cons_succ]
    refine Ss.z_ready (rs := [2]) (by kernel_rfl) (by simp) ?_
    refine Ss.AllZ.cons (Fr.take_at rfl) (fun K hK => ?_) Ss.AllZ.nil
    go_simp
    (go_at_call 34; refine (last_any (n := q) (j := j0) HQJ.out HE1.out (HRB.out _ (below_drewN HBW10.out 1)) (by omega)).mono ?_; rintro e _ ⟨rfl, rfl⟩)
    try go_wp2_with fail
    refine hK.out _ _ (fun _ => by (first | (with_reducible assumption) | exact HS10.out.x.cell 0)) (fun hHeld => ?_)
    replace hHeld := hHeld (by decide)
    clear hK K
    try simp only [Act.put, List.setIfInBounds_toArray, List.set_cons_zero, List.set_cons_succ]
    refine Ss.z_ready (rs := [3]) (by kernel_rfl) (by simp) ?_
    refine Ss.AllZ.cons (Fr.take_at rfl) (fun K hK => ?_) Ss.AllZ.nil
    go_simp
    (go_at_call 32; refine (HT10.out _).mono ?_; rintro e w10b ⟨vb10, rfl, Ab10, mb10, cb10, rfl, hmb10, hcb10, hownb10, hb10⟩; have HS10b := Lib.hid (HS10.out.drew.below hb10); have cx10b : w10b.cell? ⟨X, 0, none⟩ = some (.slice B10 m10 d10) := HS10b.out.x.cell 0)
    try go_wp2_with fail
    refine hK.out _ _ (fun _ => by (first | (with_reducible assumption) | exact HS10.out.x.cell 0)) (fun hHeld => ?_)
    replace hHeld := hHeld (by decide)
    clear hK K
    try simp only [Act.put, List.setIfInBounds_toArray, List.set_cons_zero, List.set_cons_succ]
    refine Ss.z_ready (rs := [4]) (by kernel_rfl) (by simp) ?_
    refine Ss.AllZ.cons (Fr.take_at rfl) (fun K hK => ?_) Ss.AllZ.nil
    rw [if_pos (by rfl)]
    (refine wp_app w10b (.tmp 34) (.tmp 37) _ (by rfl) w.heap.size 5 i0 _ 1 Tryd.underlying25 hi hz hz1 hz2 (by rfl) (.slice B10 m10 d10) m10 (bv ix10) (by rfl) HS10b.out.xown Ab10 mb10 cb10 (bv s10) (by rfl) (by rw [bv_length]; exact hmb10) (Rd.own hownb10) (bv_one _) (m10 + mb10) rfl (by unfold maxLen; omega) (by omega) HS10b.out.bel.size ?_; intro Ac10 cc10 w10c hown10 _ hg10 hn10; obtain ⟨x100, x10f, x10t⟩ := HS10b.out.boxX hg10)
    refine hK.out _ _ (fun _ => by (first | (with_reducible assumption) | exact HS10.out.x.cell 0)) (fun hHeld => ?_)
    replace hHeld := hHeld (by decide)
    clear hK K
    try simp only [Act.put, List.setIfInBounds_toArray, List.set_cons_zero, List.set_cons_succ]
    refine Ss.z_ready (rs := [5]) (by kernel_rfl) (by simp) ?_
    refine Ss.AllZ.cons (Fr.take_at rfl) (fun K hK => ?_) Ss.AllZ.nil
    go_simp
    refine hK.out _ _ (fun e => absurd rfl e) (fun _ => ?_)
    clear hK K
    try simp only [Act.put, List.setIfInBounds_toArray, List.set_cons_zero, List.set_cons_succ]
    refine Ss.z_done (by kernel_rfl) ?_ _
    dsimp only [Bl.OnlyNormal]
    have hF11 := HS10b.out.indexF (HU10.out.drew.trans (U8s.below hb10)) (own_below (w := w10.drew) HD10.out hb10 (Nat.le_refl _)) HSN10.out hown10 hg10 hn10
    obtain ⟨w11, hw11⟩ : ∃ y, y = w10c.setCell ⟨X, 0, none⟩ (.slice Ac10 (m10 + mb10) cc10) := ⟨_, rfl⟩
    obtain ⟨ix11, hix11⟩ : ∃ y, y = ix10 ++ s10 := ⟨_, rfl⟩
    rw [← hw11, ← hix11] at hF11
    rw [← hw11]
    have hil11 : ix11.length ≤ 3876 + 65 := by rw [hix11, List.length_append]; omega
    have HBW11 : Hid (Below w.heap.size w w11) := by obtain ⟨_, _, _, _, _, _, _, h1, _⟩ := hF11; exact Lib.hid h1.bel
    have HF11 := Lib.hid hF11
    have HI11 := Lib.hid hix11
    clear hF11 hw11 hix11 HS10 HS10b HD10 HU10 HSN10 hown10 hg10 hn10 x100 x10f x10t hb10 hownb10 hHeld HBW10
    clear cx10b
    gi_wp2
    obtain ⟨hu11, A11', n11', c11', B11, m11, d11, hS11, hs11, hsn11⟩ := HF11.out
    have hm11 : m11 ≤ 3941 := by have := hS11.xl; omega
    have hn11 : tb.length = n11' := hS11.tl
    have HN11 := Lib.hid hn11
    have HU11 := Lib.hid hu11
    have HS11 := Lib.hid hS11
    have HD11 := Lib.hid hs11
    have HSN11 := Lib.hid hsn11
    have htn11 : n11' ≤ 92652 := by omega
    have hwr11 : IntKind.u64.wrap ((n11' : Nat) : Int) = (n11' : Int) := by rw [IntKind.wrap_u64]; omega
    clear hu11 hS11 hs11 hsn11 HF11 hn11
    refine Ss.round_z (z := 6) (S := fun W' => W'.cell? ⟨X, 0, none⟩ = some (.slice B11 m11 d11) ∧ W'.cell? ⟨T, 0, none⟩ = some (.slice A11' n11' c11')) (by kernel_rfl) (by kernel_rfl) (by (first | (with_reducible assumption) | exact ⟨x110, x11t⟩ | exact ⟨HS11.out.x.cell 0, HS11.out.t.cell 0⟩)) (fun hHeld => ?_)
    refine Ss.z_take (i := 0) (v := ?vr3_0) (Fr.take_at rfl) (by kernel_rfl) (by kernel_rfl) (by kernel_rfl) (by kernel_rfl) (fun _ _ _ h => h) (Or.inl ⟨by rfl, ?yr3_0⟩) (by assumption) ?nr3_0
    case yr3_0 => (intro w_ hSw; obtain ⟨u0_, u1_⟩ := hSw; go_simp; (try with_reducible rfl))
    try simp only [Act.put, List.setIfInBounds_toArray, List.set_cons_zero, List.set_cons_succ]
    refine Ss.z_take (i := 1) (v := ?vr3_1) (Fr.take_at rfl) (by kernel_rfl) (by kernel_rfl) (by kernel_rfl) (by kernel_rfl) (fun _ _ _ h => h) (Or.inl ⟨by rfl, ?yr3_1⟩) (by assumption) ?nr3_1
    case yr3_1 => (intro w_ hSw; obtain ⟨u0_, u1_⟩ := hSw; go_simp; (try with_reducible rfl))
    try simp only [Act.put, List.setIfInBounds_toArray, List.set_cons_zero, List.set_cons_succ]
    refine Ss.z_take (i := 2) (v := ?vr3_2) (Fr.take_at rfl) (by kernel_rfl) (by kernel_rfl) (by kernel_rfl) (by kernel_rfl) (fun _ _ _ h => h) (Or.inl ⟨by rfl, ?yr3_2⟩) (by assumption) ?nr3_2
    case yr3_2 => (intro w_ hSw; obtain ⟨u0_, u1_⟩ := hSw; go_simp; (try with_reducible rfl))
    try simp only [Act.put, List.setIfInBounds_toArray, List.set_cons_zero, List.set_cons_succ]
    refine Ss.z_take (i := 3) (v := ?vr3_3) (Fr.take_at rfl) (by kernel_rfl) (by kernel_rfl) (by kernel_rfl) (by kernel_rfl) (fun _ _ _ h => h) (Or.inl ⟨by rfl, ?yr3_3⟩) (by assumption) ?nr3_3
    case yr3_3 => (intro w_ hSw; obtain ⟨u0_, u1_⟩ := hSw; go_simp; (try with_reducible rfl))
    try simp only [Act.put, List.setIfInBounds_toArray, List.set_cons_zero, List.set_cons_succ]
    refine Ss.z_ready (rs := [4]) (by kernel_rfl) (by simp) ?_
    refine Ss.AllZ.cons (Fr.take_at rfl) (fun K hK => ?_) Ss.AllZ.nil
    go_simp
    (go_at_call 28; (with_reducible refine (HT11.out _ HN11.out _).mono ?_); rintro e w11b ⟨vb11, rfl, Ab11, mb11, cb11, rfl, hmb11, hcb11, hownb11, hb11⟩; have HS11b := Lib.hid (HS11.out.drew.below hb11); have cx11b : w11b.cell? ⟨X, 0, none⟩ = some (.slice B11 m11 d11) ∧ w11b.cell? ⟨T, 0, none⟩ = some (.slice A11' n11' c11') := ⟨HS11b.out.x.cell 0, HS11b.out.t.cell 0⟩)
    try go_wp2_with fail
    refine hK.out _ _ (fun _ => by (first | (with_reducible assumption) | exact ⟨x110, x11t⟩ | exact ⟨HS11.out.x.cell 0, HS11.out.t.cell 0⟩)) (fun hHeld => ?_)
    replace hHeld := hHeld (by decide)
    clear hK K
    try simp only [Act.put, List.setIfInBounds_toArray, List.set_cons_zero, List.set_cons_succ]
    refine Ss.z_ready (rs := [5]) (by kernel_rfl) (by simp) ?_
    refine Ss.AllZ.cons (Fr.take_at rfl) (fun K hK => ?_) Ss.AllZ.nil
    rw [if_pos (by rfl)]
    (refine wp_app w11b (.tmp 39) (.tmp 43) _ (by rfl) w.heap.size 5 i0 _ 1 Tryd.underlying25 hi hz hz1 hz2 (by rfl) (.slice B11 m11 d11) m11 (bv ix11) (by rfl) HS11b.out.xown Ab11 mb11 cb11 (bv s11) (by rfl) (by rw [bv_length]; exact hmb11) (Rd.own hownb11) (bv_one _) (m11 + mb11) rfl (by unfold maxLen; omega) (by omega) HS11b.out.bel.size ?_; intro Ac11 cc11 w11c hown11 _ hg11 hn11; obtain ⟨x110, x11f, x11t⟩ := HS11b.out.boxX hg11)
    refine hK.out _ _ (fun _ => by (first | (with_reducible assumption) | exact ⟨x110, x11t⟩ | exact ⟨HS11.out.x.cell 0, HS11.out.t.cell 0⟩)) (fun hHeld => ?_)
    replace hHeld := hHeld (by decide)
    clear hK K
    try simp only [Act.put, List.setIfInBounds_toArray, List.set_cons_zero, List.set_cons_succ]
    refine Ss.z_ready (rs := [6]) (by kernel_rfl) (by simp) ?_
    refine Ss.AllZ.cons (Fr.take_at rfl) (fun K hK => ?_) Ss.AllZ.nil
    go_simp
    refine hK.out _ _ (fun e => absurd rfl e) (fun _ => ?_)
    clear hK K
    try simp only [Act.put, List.setIfInBounds_toArray, List.set_cons_zero, List.set_cons_succ]
    refine Ss.z_done (by kernel_rfl) ?_ _
    dsimp only [Bl.OnlyNormal]
    have hF12 := HS11b.out.indexF (HU11.out.drew.trans (U8s.below hb11)) (own_below (w := w11.drew) HD11.out hb11 (Nat.le_refl _)) HSN11.out hown11 hg11 hn11
    obtain ⟨w12, hw12⟩ : ∃ y, y = w11c.setCell ⟨X, 0, none⟩ (.slice Ac11 (m11 + mb11) cc11) := ⟨_, rfl⟩
    obtain ⟨ix12, hix12⟩ : ∃ y, y = ix11 ++ s11 := ⟨_, rfl⟩
    rw [← hw12, ← hix12] at hF12
    rw [← hw12]
    have hil12 : ix12.length ≤ 3941 + 3 := by rw [hix12, List.length_append]; omega
    have HBW12 : Hid (Below w.heap.size w w12) := by obtain ⟨_, _, _, _, _, _, _, h1, _⟩ := hF12; exact Lib.hid h1.bel
    have HF12 := Lib.hid hF12
    have HI12 := Lib.hid hix12
    clear hF12 hw12 hix12 HS11 HS11b HD11 HU11 HSN11 hown11 hg11 hn11 x110 x11f x11t hb11 hownb11 hHeld HBW11
    clear cx11b
    gi_wp2
    obtain ⟨hu12, A12', n12', c12', B12, m12, d12, hS12, hs12, hsn12⟩ := HF12.out
    have hm12 : m12 ≤ 3944 := by have := hS12.xl; omega
    have hn12 : tb.length = n12' := hS12.tl
    have HN12 := Lib.hid hn12
    have HU12 := Lib.hid hu12
    have HS12 := Lib.hid hS12
    have HD12 := Lib.hid hs12
    have HSN12 := Lib.hid hsn12
    have htn12 : n12' ≤ 92652 := by omega
    have hwr12 : IntKind.u64.wrap ((m5 : Nat) : Int) = (m5 : Int) := by rw [IntKind.wrap_u64]; omega
    clear hu12 hS12 hs12 hsn12 HF12 hn12
    refine Ss.round_z (z := 6) (S := fun W' => W'.cell? ⟨X, 0, none⟩ = some (.slice B12 m12 d12)) (by kernel_rfl) (by kernel_rfl) (by (first | (with_reducible assumption) | exact HS12.out.x.cell 0)) (fun hHeld => ?_)
    refine Ss.z_take (i := 0) (v := ?vr4_0) (Fr.take_at rfl) (by kernel_rfl) (by kernel_rfl) (by kernel_rfl) (by kernel_rfl) (fun _ _ _ h => h) (Or.inl ⟨by rfl, ?yr4_0⟩) (by assumption) ?nr4_0
    case yr4_0 => (intro w_ hSw; (try dsimp only at hSw); go_simp; (try with_reducible rfl))
    try simp only [Act.put, List.setIfInBounds_toArray, List.set_cons_zero, List.set_cons_succ]
    refine Ss.z_take (i := 1) (v := ?vr4_1) (Fr.take_at rfl) (by kernel_rfl) (by kernel_rfl) (by kernel_rfl) (by kernel_rfl) (fun _ _ _ h => h) (Or.inl ⟨by rfl, ?yr4_1⟩) (by assumption) ?nr4_1
    case yr4_1 => (intro w_ hSw; (try dsimp only at hSw); go_simp; (try with_reducible rfl))
    try simp only [Act.put, List.setIfInBounds_toArray, List.set_cons_zero, List.set_cons_succ]
    refine Ss.z_take (i := 2) (v := ?vr4_2) (Fr.take_at rfl) (by kernel_rfl) (by kernel_rfl) (by kernel_rfl) (by kernel_rfl) (fun _ _ _ h => h) (Or.inl ⟨by rfl, ?yr4_2⟩) (by assumption) ?nr4_2
    case yr4_2 => (intro w_ hSw; (try dsimp only at hSw); go_simp; (try with_reducible rfl))
    try simp only [Act.put, List.setIfInBounds_toArray, List.set_cons_zero, List.set_cons_succ]
    refine Ss.z_take (i := 3) (v := ?vr4_3) (Fr.take_at rfl) (by kernel_rfl) (by kernel_rfl) (by kernel_rfl) (by kernel_rfl) (fun _ _ _ h => h) (Or.inl ⟨by rfl, ?yr4_3⟩) (by assumption) ?nr4_3
    case yr4_3 => (intro w_ hSw; (try dsimp only at hSw); go_simp; (try with_reducible rfl))
    try simp only [Act.put, List.setIfInBounds_toArray, List.set_cons_zero, List.set_cons_succ]
    refine Ss.z_ready (rs := [4]) (by kernel_rfl) (by simp) ?_
    refine Ss.AllZ.cons (Fr.take_at rfl) (fun K hK => ?_) Ss.AllZ.nil
    go_simp
    (go_at_call 28; refine (HT12.out _).mono ?_; rintro e w12b ⟨vb12, rfl, Ab12, mb12, cb12, rfl, hmb12, hcb12, hownb12, hb12⟩; have HS12b := Lib.hid (HS12.out.drew.below hb12); have cx12b : w12b.cell? ⟨X, 0, none⟩ = some (.slice B12 m12 d12) := HS12b.out.x.cell 0)
    try go_wp2_with fail
    refine hK.out _ _ (fun _ => by (first | (with_reducible assumption) | exact HS12.out.x.cell 0)) (fun hHeld => ?_)
    replace hHeld := hHeld (by decide)
    clear hK K
    try simp only [Act.put, List.setIfInBounds_toArray, List.set_cons_zero, List.set_cons_succ]
    refine Ss.z_ready (rs := [5]) (by kernel_rfl) (by simp) ?_
    refine Ss.AllZ.cons (Fr.take_at rfl) (fun K hK => ?_) Ss.AllZ.nil
    rw [if_pos (by rfl)]
    (refine wp_app w12b (.tmp 45) (.tmp 49) _ (by rfl) w.heap.size 5 i0 _ 1 Tryd.underlying25 hi hz hz1 hz2 (by rfl) (.slice B12 m12 d12) m12 (bv ix12) (by rfl) HS12b.out.xown Ab12 mb12 cb12 (bv s12) (by rfl) (by rw [bv_length]; exact hmb12) (Rd.own hownb12) (bv_one _) (m12 + mb12) rfl (by unfold maxLen; omega) (by omega) HS12b.out.bel.size ?_; intro Ac12 cc12 w12c hown12 _ hg12 hn12; obtain ⟨x120, x12f, x12t⟩ := HS12b.out.boxX hg12)
    refine hK.out _ _ (fun _ => by (first | (with_reducible assumption) | exact HS12.out.x.cell 0)) (fun hHeld => ?_)
    replace hHeld := hHeld (by decide)
    clear hK K
    try simp only [Act.put, List.setIfInBounds_toArray, List.set_cons_zero, List.set_cons_succ]
    refine Ss.z_ready (rs := [6]) (by kernel_rfl) (by simp) ?_
    refine Ss.AllZ.cons (Fr.take_at rfl) (fun K hK => ?_) Ss.AllZ.nil
    go_simp
    refine hK.out _ _ (fun e => absurd rfl e) (fun _ => ?_)
    clear hK K
    try simp only [Act.put, List.setIfInBounds_toArray, List.set_cons_zero, List.set_cons_succ]
    refine Ss.z_done (by kernel_rfl) ?_ _
    dsimp only [Bl.OnlyNormal]
    have hF13 := HS12b.out.indexF (HU12.out.drew.trans (U8s.below hb12)) (own_below (w := w12.drew) HD12.out hb12 (Nat.le_refl _)) HSN12.out hown12 hg12 hn12
    obtain ⟨w13, hw13⟩ : ∃ y, y = w12c.setCell ⟨X, 0, none⟩ (.slice Ac12 (m12 + mb12) cc12) := ⟨_, rfl⟩
    obtain ⟨ix13, hix13⟩ : ∃ y, y = ix12 ++ s12 := ⟨_, rfl⟩
    rw [← hw13, ← hix13] at hF13
    rw [← hw13]
    have hil13 : ix13.length ≤ 3944 + 3 := by rw [hix13, List.length_append]; omega
    have HBW13 : Hid (Below w.heap.size w w13) := by obtain ⟨_, _, _, _, _, _, _, h1, _⟩ := hF13; exact Lib.hid h1.bel
    have HF13 := Lib.hid hF13
    have HI13 := Lib.hid hix13
    clear hF13 hw13 hix13 HS12 HS12b HD12 HU12 HSN12 hown12 hg12 hn12 x120 x12f x12t hb12 hownb12 hHeld HBW12
    clear cx12b
    obtain ⟨hu13, A13', n13', c13', B13, m13, d13, hS13, hs13, _⟩ := HF13.out
    have c13t : w13.cell? ⟨T, 0, none⟩ = some (.slice A13' n13' c13') := hS13.t.cell 0
    have hn13 : tb.length = n13' := hS13.tl
    have htn13 : n13' ≤ 92652 := by omega
    have HU13 := Lib.hid hu13
    have HS13 := Lib.hid hS13
    have HD13 := Lib.hid hs13
    clear hu13 hS13 hs13 HF13 hn13
    gi_wp2_with (gi_at_builtin; refine wpListIn_app _ rfl (.tmp 51) (.tmp 52) _ rfl w.heap.size 5 i0 _ 1 Tryd.underlying25 hi hz hz1 hz2 rfl (.slice A13' n13' c13') n13' (bv tb) rfl HS13.out.town A5 m5 c5 (bv sb) rfl (by rw [bv_length]; exact HM5.out) (Rd.own HD13.out) (bv_one _) (n13' + m5) rfl (by unfold maxLen; omega) (by omega) HS13.out.bel.size ?_; intro A14 c14 w14 hown14 hg14 hn14; obtain ⟨t140, t14f, _⟩ := HS13.out.boxT hg14)
    obtain ⟨hS15, hU15⟩ := HS13.out.table hown14 hg14 hn14
    have hUU := HU13.out.trans hU15
    have hP1 := hUU.blk HQ1.out (by decide) (by decide)
    have hP2 := hUU.blk HQ2.out (by decide) (by decide)
    have e1 : tb ++ sb = tbOf l ((pre ++ [(⟨x, hxK⟩ : Fin K)]).map (·.1)) := by rw [List.map_append, List.map_singleton, tbOf_snoc, ← HTB.out, ← HBB.out, HSQ.out]
    have e2 : ix13 = ixOf l ((pre ++ [(⟨x, hxK⟩ : Fin K)]).map (·.1)) := by
      rw [List.map_append, List.map_singleton, ixOf_snoc, ← HIX.out, ← HTB.out, ← HBB.out, HSQ.out, HM5.out, HFK.out, HLK.out, HI13.out, HI12.out, HI11.out, HI10.out, HI9.out, HV9.out, HV10.out, HV11.out, HV12.out]
      simp only [List.append_assoc]
    rw [e1, e2] at hS15
    exact ⟨hUU.others.from _, fun k hk => (by rcases hk with rfl | rfl; exact hP1.trans HQ1.out.symm; exact hP2.trans HQ2.out.symm), ⟨U8s.refl _, _, _, _, _, _, _, hS15⟩, hP1, hP2⟩
  case done =>
    rintro D ys W hD hys ⟨⟨_, hE0⟩, _, _⟩ hK
    subst ha0
    rw [hys] at hE0
    obtain ⟨A20, n20, c20, B20, m20, d20, hS20⟩ := hE0
    obtain ⟨fl, hfl⟩ : ∃ f, f = Bl.filt (keysB l) 10 := ⟨_, rfl⟩
    have hbe := build_eq (l := l) (K := K) (by rw [HL.out]; exact HK.out)
    have hKl : (List.range K).length ≤ 28 := by rw [List.length_range]; have := HK.out; omega
    have htl := tbOf_len HG.out.ok (List.range K)
    have htl2 : 3309 * (List.range K).length ≤ 3309 * 28 := Nat.mul_le_mul_left _ hKl
    have hil := ixOf_len HG.out.ok HG.out.le (List.range K).length (List.range K) rfl hKl
    obtain ⟨tb, htb⟩ : ∃ tb, tb = tbOf l (List.range K) := ⟨_, rfl⟩
    obtain ⟨ix, hix⟩ : ∃ ix, ix = ixOf l (List.range K) := ⟨_, rfl⟩
    rw [← htb, ← hix, ← hfl] at hbe
    rw [← htb] at htl
    rw [← hix] at hil
    rw [← htb, ← hix] at hS20
    have htn : tb.length = n20 := hS20.tl
    have hxn : ix.length = m20 := hS20.xl
    have hflen : fl.length ≤ 110 := by rw [hfl]; exact filt_le HG.out.le
    have hn20 : n20 ≤ 92652 := by omega
    have hm20 : m20 ≤ 3811 := by omega
    have hs20 : sealOf fl = sealOf fl := rfl
    obtain ⟨sf, hsf⟩ : ∃ s, s = sealOf fl := ⟨_, rfl⟩
    obtain ⟨si, hsi⟩ : ∃ s, s = sealOf ix := ⟨_, rfl⟩
    rw [← hsf, ← hsi] at hbe
    have hsfl : sf.length ≤ 120 := by rw [hsf, sealOf_length]; have := enc3 (n := fl.length) (by omega); omega
    have hsil : si.length ≤ 3820 := by rw [hsi, sealOf_length]; have := enc3 (n := ix.length) (by omega); omega
    have hfo := fun (W' : World) (h' : Below w.heap.size w W') => filterOf_any (c := c) HL.out (HR.out.below h') hn (fun e he => (entry_ok (HG.out.ok e he)).1)
    rw [← hfl] at hfo
    have HFO := Lib.hid hfo
    have hse := fun (W' : World) (A' : Option Addr) (n' c' : Nat) (hl' : fl.length = n') (hr' : Rd W' A' (bv fl)) (ht' : Tab W') => seal_any A' n' c' fl W' hl' hr' (by omega) ht'
    rw [← hsf] at hse
    have HSEF := Lib.hid hse
    have hsx := fun (W' : World) (hl' : Rd W' B20 (bv ix)) (ht' : Tab W') => seal_any B20 m20 d20 ix W' hxn hl' (by omega) ht'
    rw [← hsi] at hsx
    have HSEX := Lib.hid hsx
    have HBE := Lib.hid hbe
    have HTN := Lib.hid htn
    have HXN := Lib.hid hxn
    have HS20 := Lib.hid hS20
    have HK20 := Lib.hid hK
    have hDw : w.heap.size ≤ D := by omega
    have ct20 : W.cell? ⟨T, 0, none⟩ = some (.slice A20 n20 c20) := hS20.t.cell 0
    clear hS20 hK hse hsx hfo hbe htn hxn hs20 hfl hsf hsi htb hix htl htl2 hil hKl HE hgl HP1 HP2 HB3 HI0
    go_upto_region 15 with fail
    refine Ss.region_z (z := 5) (S := fun W' => W'.cell? ⟨T, 0, none⟩ = some (.slice A20 n20 c20)) (by kernel_rfl) (by (first | (with_reducible assumption) | exact HS20.out.t.cell 0)) (fun hHeld => ?_)
    refine Ss.z_take (i := 0) (v := ?vr5_0) (Fr.take_at rfl) (by kernel_rfl) (by kernel_rfl) (by kernel_rfl) (by kernel_rfl) (fun _ _ _ h => h) (Or.inl ⟨by rfl, ?yr5_0⟩) (by assumption) ?nr5_0
    case yr5_0 => (intro w_ hSw; (try dsimp only at hSw); go_simp; (try with_reducible rfl))
    try simp only [Act.put, List.setIfInBounds_toArray, List.set_cons_zero, List.set_cons_succ]
    refine Ss.z_take (i := 1) (v := ?vr5_1) (Fr.take_at rfl) (by kernel_rfl) (by kernel_rfl) (by kernel_rfl) (by kernel_rfl) (fun _ _ _ h => h) (Or.inl ⟨by rfl, ?yr5_1⟩) (by assumption) ?nr5_1
    case yr5_1 => (intro w_ hSw; (try dsimp only at hSw); go_simp; (try with_reducible rfl))
    try simp only [Act.put, List.setIfInBounds_toArray, List.set_cons_zero, List.set_cons_succ]
    refine Ss.z_ready (rs := [2]) (by kernel_rfl) (by simp) ?_
    refine Ss.AllZ.cons (Fr.take_at rfl) (fun K hK => ?_) Ss.AllZ.nil
    go_simp
    (go_at_call 35; refine (HFO.out _ HS20.out.bel.drew).mono ?_; rintro e w21 ⟨v21, rfl, A21, m21, c21, rfl, hm21, hc21, hown21, hb21⟩; have HS21 := Lib.hid (HS20.out.drew.below hb21); have ct21 : w21.cell? ⟨T, 0, none⟩ = some (.slice A20 n20 c20) := HS21.out.t.cell 0)
    try go_wp2_with fail
    refine hK.out _ _ (fun _ => by (first | (with_reducible assumption) | exact HS20.out.t.cell 0)) (fun hHeld => ?_)
    replace hHeld := hHeld (by decide)
    clear hK K
    try simp only [Act.put, List.setIfInBounds_toArray, List.set_cons_zero, List.set_cons_succ]
    refine Ss.z_ready (rs := [3]) (by kernel_rfl) (by simp) ?_
    refine Ss.AllZ.cons (Fr.take_at rfl) (fun K hK => ?_) Ss.AllZ.nil
    go_simp
    (go_at_call 30; refine (HSEF.out _ _ _ _ hm21 (Rd.own hown21) (HT.out.below HS21.out.bel)).mono ?_; rintro e w22 ⟨v22, rfl, A22, m22, c22, rfl, hm22, hc22, hown22, hb22⟩; have HS22 := Lib.hid (HS21.out.below hb22); have ct22 : w22.cell? ⟨T, 0, none⟩ = some (.slice A20 n20 c20) := HS22.out.t.cell 0)
    try go_wp2_with fail
    refine hK.out _ _ (fun _ => by (first | (with_reducible assumption) | exact HS20.out.t.cell 0)) (fun hHeld => ?_)
    replace hHeld := hHeld (by decide)
    clear hK K
    try simp only [Act.put, List.setIfInBounds_toArray, List.set_cons_zero, List.set_cons_succ]
    refine Ss.z_ready (rs := [4]) (by kernel_rfl) (by simp) ?_
    refine Ss.AllZ.cons (Fr.take_at rfl) (fun K hK => ?_) Ss.AllZ.nil
    rw [if_pos (by rfl)]
    (refine wp_app w22 (.tmp 56) (.tmp 59) _ (by rfl) w.heap.size 5 i0 _ 1 Tryd.underlying25 hi hz hz1 hz2 (by rfl) (.slice A20 n20 c20) n20 (bv tb) (by rfl) HS22.out.town A22 m22 c22 (bv sf) (by rfl) (by rw [bv_length]; exact hm22) (Rd.own hown22) (bv_one _) (n20 + m22) rfl (by unfold maxLen; omega) (by omega) HS22.out.bel.size ?_; intro A23 c23 w23 hown23 _ hg23 hn23; obtain ⟨t230, t23f, _⟩ := HS22.out.boxT hg23)
    refine hK.out _ _ (fun _ => by (first | (with_reducible assumption) | exact HS20.out.t.cell 0)) (fun hHeld => ?_)
    replace hHeld := hHeld (by decide)
    clear hK K
    try simp only [Act.put, List.setIfInBounds_toArray, List.set_cons_zero, List.set_cons_succ]
    refine Ss.z_ready (rs := [5]) (by kernel_rfl) (by simp) ?_
    refine Ss.AllZ.cons (Fr.take_at rfl) (fun K hK => ?_) Ss.AllZ.nil
    go_simp
    refine hK.out _ _ (fun e => absurd rfl e) (fun _ => ?_)
    clear hK K
    try simp only [Act.put, List.setIfInBounds_toArray, List.set_cons_zero, List.set_cons_succ]
    refine Ss.z_done (by kernel_rfl) ?_ _
    obtain ⟨hS24, hU24⟩ := HS22.out.table hown23 hg23 hn23
    have hU24' := ((U8s.refl W).drew.trans (U8s.below hb21)).trans ((U8s.below hb22).trans hU24)
    obtain ⟨w24, hw24⟩ : ∃ y, y = w23.setCell ⟨T, 0, none⟩ (.slice A23 (n20 + m22) c23) := ⟨_, rfl⟩
    rw [← hw24] at hS24 hU24' ⊢
    have ct24 : w24.cell? ⟨T, 0, none⟩ = some (.slice A23 (n20 + m22) c23) := hS24.t.cell 0
    have HS24 := Lib.hid hS24
    have HU24 := Lib.hid hU24'
    have hmf : sf.length = m22 := hm22
    have HMF := Lib.hid hmf
    have hmb22 : m22 ≤ 120 := by omega
    clear hS24 hU24 hU24' hw24 hown21 hown22 hown23 hb21 hb22 hg23 hn23 t230 t23f ct20 ct21 ct22 HS20 HS21 HS22 hHeld hm22 hmf
    have cx24 : w24.cell? ⟨X, 0, none⟩ = some (.slice B20 m20 d20) := HS24.out.x.cell 0
    go_upto_region 17 with fail
    refine Ss.region_z (z := 4) (S := fun W' => W'.cell? ⟨T, 0, none⟩ = some (.slice A23 (n20 + m22) c23) ∧ W'.cell? ⟨X, 0, none⟩ = some (.slice B20 m20 d20)) (by kernel_rfl) (by (first | (with_reducible assumption) | exact ⟨t260, x26⟩ | exact ⟨ct25, cx25⟩ | exact ⟨HS24.out.t.cell 0, HS24.out.x.cell 0⟩)) (fun hHeld => ?_)
    refine Ss.z_take (i := 0) (v := ?vr6_0) (Fr.take_at rfl) (by kernel_rfl) (by kernel_rfl) (by kernel_rfl) (by kernel_rfl) (fun _ _ _ h => h) (Or.inl ⟨by rfl, ?yr6_0⟩) (by assumption) ?nr6_0
    case yr6_0 => (intro w_ hSw; obtain ⟨u0_, u1_⟩ := hSw; go_simp; (try with_reducible rfl))
    try simp only [Act.put, List.setIfInBounds_toArray, List.set_cons_zero, List.set_cons_succ]
    refine Ss.z_take (i := 1) (v := ?vr6_1) (Fr.take_at rfl) (by kernel_rfl) (by kernel_rfl) (by kernel_rfl) (by kernel_rfl) (fun _ _ _ h => h) (Or.inl ⟨by rfl, ?yr6_1⟩) (by assumption) ?nr6_1
    case yr6_1 => (intro w_ hSw; obtain ⟨u0_, u1_⟩ := hSw; go_simp; (try with_reducible rfl))
    try simp only [Act.put, List.setIfInBounds_toArray, List.set_cons_zero, List.set_cons_succ]
    refine Ss.z_ready (rs := [2]) (by kernel_rfl) (by simp) ?_
    refine Ss.AllZ.cons (Fr.take_at rfl) (fun K hK => ?_) Ss.AllZ.nil
    go_simp
    (go_at_call 30; refine (HSEX.out _ (Rd.own HS24.out.drew.xown) (HT.out.below HS24.out.bel.drew)).mono ?_; rintro e w25 ⟨v25, rfl, A25, m25, c25, rfl, hm25, hc25, hown25, hb25⟩; have HS25 := Lib.hid (HS24.out.drew.below hb25); have ct25 : w25.cell? ⟨T, 0, none⟩ = some (.slice A23 (n20 + m22) c23) := HS25.out.t.cell 0; have cx25 : w25.cell? ⟨X, 0, none⟩ = some (.slice B20 m20 d20) := HS25.out.x.cell 0)
    try go_wp2_with fail
    refine hK.out _ _ (fun _ => by (first | (with_reducible assumption) | exact ⟨t260, x26⟩ | exact ⟨ct25, cx25⟩ | exact ⟨HS24.out.t.cell 0, HS24.out.x.cell 0⟩)) (fun hHeld => ?_)
    replace hHeld := hHeld (by decide)
    clear hK K
    try simp only [Act.put, List.setIfInBounds_toArray, List.set_cons_zero, List.set_cons_succ]
    refine Ss.z_ready (rs := [3]) (by kernel_rfl) (by simp) ?_
    refine Ss.AllZ.cons (Fr.take_at rfl) (fun K hK => ?_) Ss.AllZ.nil
    rw [if_pos (by rfl)]
    (refine wp_app w25 (.tmp 63) (.tmp 65) _ (by rfl) w.heap.size 5 i0 _ 1 Tryd.underlying25 hi hz hz1 hz2 (by rfl) (.slice A23 (n20 + m22) c23) (n20 + m22) (bv (tb ++ sf)) (by rfl) HS25.out.town A25 m25 c25 (bv si) (by rfl) (by rw [bv_length]; exact hm25) (Rd.own hown25) (bv_one _) (n20 + m22 + m25) rfl (by unfold maxLen; omega) (by omega) HS25.out.bel.size ?_; intro A26 c26 w26 hown26 _ hg26 hn26; obtain ⟨t260, t26f, x26⟩ := HS25.out.boxT hg26)
    refine hK.out _ _ (fun _ => by (first | (with_reducible assumption) | exact ⟨t260, x26⟩ | exact ⟨ct25, cx25⟩ | exact ⟨HS24.out.t.cell 0, HS24.out.x.cell 0⟩)) (fun hHeld => ?_)
    replace hHeld := hHeld (by decide)
    clear hK K
    try simp only [Act.put, List.setIfInBounds_toArray, List.set_cons_zero, List.set_cons_succ]
    refine Ss.z_ready (rs := [4]) (by kernel_rfl) (by simp) ?_
    refine Ss.AllZ.cons (Fr.take_at rfl) (fun K hK => ?_) Ss.AllZ.nil
    go_simp
    refine hK.out _ _ (fun e => absurd rfl e) (fun _ => ?_)
    clear hK K
    try simp only [Act.put, List.setIfInBounds_toArray, List.set_cons_zero, List.set_cons_succ]
    refine Ss.z_done (by kernel_rfl) ?_ _
    obtain ⟨hS27, hU27⟩ := HS25.out.table hown26 hg26 hn26
    have hU27' := (HU24.out.drew.trans (U8s.below hb25)).trans hU27
    obtain ⟨w27, hw27⟩ : ∃ y, y = w26.setCell ⟨T, 0, none⟩ (.slice A26 (n20 + m22 + m25) c26) := ⟨_, rfl⟩
    rw [← hw27] at hS27 hU27' ⊢
    have ct27 : w27.cell? ⟨T, 0, none⟩ = some (.slice A26 (n20 + m22 + m25) c26) := hS27.t.cell 0
    have hmi : si.length = m25 := hm25
    have hmb25 : m25 ≤ 3820 := by omega
    have hap := appendOffset_any (z := n20) hS27.tl (by omega) hS27.town hS27.bel.size
    have HAP := Lib.hid hap
    have HT27 := Lib.hid hS27.t
    have HB27 := Lib.hid hS27.bel
    have HU27 := Lib.hid hU27'
    have hTw' := hS27.tw
    have HMI := Lib.hid hmi
    clear hS27 hU27 hU27' hw27 hown25 hown26 hb25 hg26 hn26 t260 t26f x26 ct24 ct25 cx24 cx25 HS24 HS25 hHeld hm25 hmi HU24 hap
    go_wp2_with (first
      | (go_at_call 36; (with_reducible refine HAP.out.mono ?_); rintro e w28 ⟨A28, m28, c28, rfl, hm28, hown28, hb28, hk28⟩; have hT28 := hk28.blk HT27.out (by decide); have f28 := hT28.frozen 0; have c28t : w28.cell? ⟨T, 0, none⟩ = some (.slice A26 (n20 + m22 + m25) c26) := hT28.cell 0; have hown29 := own_box hown28 hT28 (by decide) (.slice A28 m28 c28); have hT29 := hT28.set 0 (.slice A28 m28 c28); have hm28' : m28 ≤ 100000 := len28 hm28 HTN.out HMF.out HMI.out hn20 hmb22 hmb25; have hb29 := (HB27.out.trans hb28).setCell (p := ⟨T, 0, none⟩) hTw' (.slice A28 m28 c28); have hap2 := apo2 n20 m22 hm28 (Nat.le_trans hm28' (by decide)) hown29 hb29.size; have HAP2 := Lib.hid hap2; have HT29 := Lib.hid hT29; have HB29 := Lib.hid hb29; have HU29 := Lib.hid ((HU27.out.trans (U8s.keeps hb28.size hk28)).trans (U8s.set (i := 0) hT28 (.inr rfl) (.slice A28 m28 c28))); clear hap2 hT29 hb29 hown29 hown28 hb28 hk28 hT28 HAP HU27 HT27)
      | (go_at_call 36; (with_reducible refine HAP2.out.mono ?_); rintro e w30 ⟨A30, m30, c30, rfl, hm30, hown30, hb30, hk30⟩; have hT30 := hk30.blk HT29.out (by decide); have f30 := hT30.frozen 0; have c30t := hT30.cell 0; have hown31 := own_box hown30 hT30 (by decide) (.slice A30 m30 c30); have hm30' : m30 ≤ 100100 := len30 hm30 hm28 hm28'; have HOW31 := Lib.hid hown31; have HB31 := Lib.hid ((HB29.out.trans hb30).setCell (p := ⟨T, 0, none⟩) hTw' (.slice A30 m30 c30)); have HU31 := Lib.hid ((HU29.out.trans (U8s.keeps hb30.size hk30)).trans (U8s.set (i := 0) hT30 (.inr rfl) (.slice A30 m30 c30))); clear hown31 hown30 hb30 hk30 hT30 HAP2 HU29)
      | (at_builtin; refine Lib.wpList_append_own_string _ rfl (.tmp 73) _ 25 9 rfl w.heap.size 5 i0 Tryd.underlying25 (by kernel_rfl) hi hz hz1 hz2 (.slice A30 m30 c30) m30 _ rfl HOW31.out ⟨#[99, 118, 116, 49]⟩ rfl (sz4 hm30') (sz4b hm30') HB31.out.size ?_; intro v32 w32 hown32 hg32 _; obtain ⟨A32, c32, rfl, _, _⟩ := own_shape hown32))
    have hUU := HU31.out.trans (U8s.grown HOW31.out hg32)
    have hK32 := hUU.same D _ HK20.out fun ⟨_, _, _, e, _⟩ => by cases e
    have hb32 := HB31.out.grown hg32 HB31.out.size fun k e => own_row HOW31.out k e
    have hlen : (build l).length = m30 + 4 := by rw [HBE.out, List.length_append, ← hm30, HTN.out, HMF.out]; rfl
    have hbv : bv (build l) = bv (tb ++ sf ++ si ++ le4 n20 ++ le4 (n20 + m22)) ++ bv [99, 118, 116, 49] := by rw [HBE.out, bv_append, HTN.out, HMF.out]
    dsimp only [OnlyRet]
    refine ⟨by simp, .inl ⟨_, _, rfl, run_takeDeferred hK32, ?_⟩⟩
    refine ⟨.tuple #[.slice A32 (m30 + 4) c32, .int .i64 0], by simp [results, Tryd.f10, go_sem], A32, m30 + 4, c32, rfl, hlen, ?_, hb32.grown (grownBy_putObj' _ D (.deferred none)) hb32.size fun k e => by cases e; exact hDw⟩
    rw [hbv]
    have hg33 := grownBy_putObj' w32 D (.deferred none)
    refine own_same hown32 fun k hk => ?_
    obtain ⟨_, hb⟩ := own_blk hown32 hk
    refine hg33.block k hb.lt fun e => ?_
    have hb' : w32.heap[k]? = _ := hb
    cases e
    rw [hK32] at hb'
    cases hb'
  case stop =>
    rintro D c' pre W _ _ h _
    exact h.elim
end
end Ss
end Go.Proofs.YtadlhnjnhllpfaaDoor
