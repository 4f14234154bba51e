/-
  WHAT IS PROVED: (1) what the taker of package sstable takes from the front of its bytes. CONDITIONS: the taker and its bytes stand in memory as named. (2) what the taker of package sstable takes as an offset, as an entry. CONDITIONS: the taker and its bytes stand in memory as named. (3) what the taker of package sstable takes as an entry. CONDITIONS: the taker and its bytes stand in memory as named.
-/
import Derived.Test.YtadlhnjnhllpfaaDoorQSWalkA
namespace Go.Proofs.YtadlhnjnhllpfaaDoor
open Go Go.RowKit Go.Proofs.YtadlhnjnhllpfaaDoor.Mm Go.Proofs.YtadlhnjnhllpfaaDoor.Fr
namespace Ss
/-- 'x[l:]' of bytes, which lie in the same block. -/
theorem cut_b (A : Option Addr) (n c l N C : Nat) (k1 : IntKind) (lo : Int) (hl : lo = (l : Int)) (hN : l + N = n) (hC : l + C = c) :
    ∃ A', ((∀ W : World, (Instr.slice 25 (.slice A n c) (some (.int k1 lo)) none none).run Tryd.prog W = .ok (.slice A' N C) W) ∧ ∀ W : World, (Instr.sliceAt 25 (.slice A n c) (some (.int k1 lo)) none none).run Tryd.prog W = .ok (.slice A' N C) W) ∧ (∀ (W : World) (xs : List Value), Rd W A xs → xs.length ≤ c → Rd W A' (xs.drop l)) ∧ ∀ a, A' = some a → ∃ a0, A = some a0 ∧ a0.block = a.block := by
  subst hl
  obtain ⟨i0, hi, _, hs, _⟩ := info_parts Fr.info_u8
  have he : Tryd.prog.elem 25 = 5 := by kernel_rfl
  have key : ∀ W : World, (Instr.slice 25 (.slice A n c) (some (.int k1 (l : Int))) none none).run Tryd.prog W = .ok (.slice (if c = l then A else A.map (·.add l)) N C) W := fun W => by
    rw [run_slice_l (P := Tryd.prog) W _ _ n c (by rw [he]; exact Tryd.underlying25) k1 _ (by omega) (by omega), he]
    have e1 : n - l = N := by omega
    have e2 : c - l = C := by omega
    rw [size_one _ i0 hi hs]
    simp only [sliced, Result.andThen, Int.toNat_natCast, Nat.mul_one, e1, e2]
  refine ⟨_, ⟨key, fun W => (cut_at (P := Tryd.prog) _ _ Tryd.underlying25 he _ _ _ _ W).trans (key W)⟩, fun W xs h hx => h.cut hx, fun a e => ?_⟩
  split at e
  · exact ⟨a, e, rfl⟩
  · obtain ⟨a0, h0, rfl⟩ := Option.map_eq_some_iff.1 e
    exact ⟨a0, h0, by unfold Addr.add; split <;> rfl⟩
/-- A taker at G, whose bytes are l, and lie in a block of S. -/
def TkAt (S : Nat → Prop) (W : World) (G : Nat) (l : Bs) : Prop := ∃ (A : Option Addr) (n c : Nat), Blk W G 94 #[.slice A n c] ∧ l.length = n ∧ n ≤ c ∧ n ≤ 140737488355328 ∧ Rd W A (bv l) ∧ ∀ a, A = some a → S a.block
/-- Only G has turned, and it holds l. -/
structure Tk (S : Nat → Prop) (W : World) (G : Nat) (l : Bs) (W' : World) : Prop where
  at_ : TkAt S W' G l
  mod : Mod (fun b => b = G) W W'
theorem rd_apart {W : World} {G : Nat} {t : TypeId} {A0 A : Option Addr} {n c : Nat} {l : Bs} (hb : Blk W G t #[.slice A0 n c]) (hr : Rd W A (bv l)) (v : Value) : Rd (W.setCell ⟨G, 0, none⟩ v) A (bv l) := fun hx => by
  obtain ⟨b, o, e, hlt, hc⟩ := hr hx
  refine ⟨b, o, e, by simpa [World.setCell] using hlt, fun i hi => ?_⟩
  have hbG : b ≠ G := by
    rintro rfl
    have h1 := hc i hi
    rw [hb.cell] at h1
    have hl : (bv l)[i] = .int .u8 ((l[i]'(by simpa [bv] using hi)).toNat : Int) := by simp [bv]
    rw [hl] at h1
    cases ho : o + i with
    | zero => rw [ho] at h1; cases h1
    | succ k => rw [ho] at h1; cases h1
  exact (World.cell?_of_block (a := ⟨b, o + i, none⟩) (Below.heap_setCell W ⟨G, 0, none⟩ v b hbG)).trans (hc i hi)
theorem Tk.store {S : Nat → Prop} {W W2 : World} {G n c d : Nat} {A A' : Option Addr} {l : Bs} (hb : Blk W G 94 #[.slice A n c]) (hl : l.length = n) (hn : n ≤ 140737488355328) (hnc : n ≤ c) (hd : d ≤ n) (hr : Rd W A' (bv (l.drop d))) (hw : Mod (fun b => b = G) W2 W) (hS : ∀ a, A' = some a → S a.block) : Tk S W2 G (l.drop d) (W.setCell ⟨G, 0, none⟩ (.slice A' (n - d) (c - d))) :=
  ⟨⟨A', n - d, c - d, hb.set 0 _, by rw [List.length_drop, hl], by omega, by omega, rd_apart hb hr _, hS⟩, hw.setCell (fun _ => rfl) _⟩
theorem takeText_size (l : Bs) : (takeText l).2 ≤ l.length := by
  have h := (dec_size l).1
  unfold takeText
  split
  · exact Nat.zero_le _
  · simp only
    omega
section
variable {S : Nat → Prop} {w : World} {G : Nat} {l : Bs}
set_option maxRecDepth 100000 in
theorem ttext_any (h : TkAt S w G l) : Calls Tryd.prog 79 #[.pointer (some ⟨G, 0, none⟩)] w fun e w' => e = .returned (.string ⟨(takeText l).1.toArray⟩) ∧ Tk S w G (l.drop (takeText l).2) w' := by
  obtain ⟨A, n, c, hb, hl, hnc, hn, hr, hS⟩ := h
  obtain ⟨i0, hi, hz, hz1, hz2⟩ := info_parts Fr.info_u8
  have hF := FtakeText_any A n c l w hl hr hnc hn
  obtain ⟨d, hd⟩ : ∃ d, d = (takeText l).2 := ⟨_, rfl⟩
  have hdl : d ≤ n := by rw [hd, ← hl]; exact takeText_size l
  rw [← hd] at hF ⊢
  obtain ⟨A1, ⟨ha1, ha2⟩, ha3, ha4⟩ := cut_b A n c d (n - d) (c - d) .i64 (d : Int) rfl (by omega) (by omega)
  have HSS : Hid (∀ a, A1 = some a → S a.block) := Lib.hid fun a e => by obtain ⟨a0, e0, e1⟩ := ha4 a e; rw [← e1]; exact hS a0 e0
  clear ha4 hS
  have hq := (by rw [← bv_drop]; exact ha3 w _ hr (by rw [bv_length, hl]; exact hnc) : Rd w A1 (bv (l.drop d)))
  have g0 : w.cell? ⟨G, 0, none⟩ = some (.slice A n c) := hb.cell 0
  have gf := hb.frozen 0
  have HF := Lib.hid hF
  have HB := Lib.hid hb
  have HL := Lib.hid hl
  have HQ := Lib.hid hq
  clear hF hd ha3 hr hb hl hq
  go_enter Tryd.func79, Tryd.ntmps79
  go_wp2_with (go_at_call 90; refine HF.out.mono ?_; rintro e w2 ⟨rfl, rfl⟩)
  go_ret
  exact ⟨rfl, Tk.store HB.out HL.out hn hnc hdl HQ.out (Mod.refl _ _) HSS.out⟩
set_option maxRecDepth 100000 in
theorem tnum_any (h : TkAt S w G l) : Calls Tryd.prog 80 #[.pointer (some ⟨G, 0, none⟩)] w fun e w' => e = .returned (.int .i64 (wrap64 ((dec l).1 : Int))) ∧ Tk S w G (l.drop (dec l).2) w' := by
  obtain ⟨A, n, c, hb, hl, hnc, hn, hr, hS⟩ := h
  obtain ⟨i0, hi, hz, hz1, hz2⟩ := info_parts Fr.info_u8
  have hF := Ftake_any A n c l w hl hr hn
  obtain ⟨d, hd⟩ : ∃ d, d = (dec l).2 := ⟨_, rfl⟩
  have hdl : d ≤ n := by rw [hd, ← hl]; exact (dec_size l).1
  rw [← hd] at hF ⊢
  obtain ⟨A1, ⟨ha1, ha2⟩, ha3, ha4⟩ := cut_b A n c d (n - d) (c - d) .i64 (d : Int) rfl (by omega) (by omega)
  have HSS : Hid (∀ a, A1 = some a → S a.block) := Lib.hid fun a e => by obtain ⟨a0, e0, e1⟩ := ha4 a e; rw [← e1]; exact hS a0 e0
  clear ha4 hS
  have hq := (by rw [← bv_drop]; exact ha3 w _ hr (by rw [bv_length, hl]; exact hnc) : Rd w A1 (bv (l.drop d)))
  have g0 : w.cell? ⟨G, 0, none⟩ = some (.slice A n c) := hb.cell 0
  have gf := hb.frozen 0
  have HF := Lib.hid hF
  have HB := Lib.hid hb
  have HL := Lib.hid hl
  have HQ := Lib.hid hq
  clear hF hd ha3 hr hb hl hq
  go_enter Tryd.func80, Tryd.ntmps80
  go_wp2_with (go_at_call 87; refine HF.out.mono ?_; rintro e w2 ⟨rfl, rfl⟩)
  go_ret
  exact ⟨rfl, Tk.store HB.out HL.out hn hnc hdl HQ.out (Mod.refl _ _) HSS.out⟩
set_option maxRecDepth 100000 in
theorem tpay_any (h : TkAt S w G l) (ht : Tab w) : Calls Tryd.prog 65 #[.pointer (some ⟨G, 0, none⟩)] w fun e w' => ∃ (A : Option Addr) (n c : Nat), e = .returned (.slice A n c) ∧ (takeF l).1.length = n ∧ n ≤ c ∧ w'.ownsRow w.heap.size 5 1 (.slice A n c) n (bv (takeF l).1) ∧ Tk S w G (l.drop (takeF l).2) w' := by
  obtain ⟨A, n, c, hb, hl, hnc, hn, hr, hS⟩ := h
  obtain ⟨i0, hi, hz, hz1, hz2⟩ := info_parts Fr.info_u8
  have hF := Ftakef_any A n c l w hl hr hnc hn ht
  obtain ⟨d, hd⟩ : ∃ d, d = (takeF l).2 := ⟨_, rfl⟩
  have hdl : d ≤ n := by rw [hd, ← hl]; exact takeF_size l
  unfold TakeRet at hF
  rw [← hd] at hF ⊢
  obtain ⟨A1, ⟨ha1, ha2⟩, ha3, ha4⟩ := cut_b A n c d (n - d) (c - d) .i64 (d : Int) rfl (by omega) (by omega)
  have HSS : Hid (∀ a, A1 = some a → S a.block) := Lib.hid fun a e => by obtain ⟨a0, e0, e1⟩ := ha4 a e; rw [← e1]; exact hS a0 e0
  clear ha4 hS
  have hq := (by rw [← bv_drop]; exact ha3 w _ hr (by rw [bv_length, hl]; exact hnc) : Rd w A1 (bv (l.drop d)))
  have g0 : w.cell? ⟨G, 0, none⟩ = some (.slice A n c) := hb.cell 0
  have gf := hb.frozen 0
  have HF := Lib.hid hF
  have HB := Lib.hid hb
  have HL := Lib.hid hl
  have HQ := Lib.hid hq
  clear hF hd ha3 hr hb hl hq ht
  go_enter Tryd.func65, Tryd.ntmps65
  go_wp2_with (go_at_call 78; refine HF.out.mono ?_; rintro e w2 ⟨v, rfl, A2, m2, c2, rfl, hm2, hc2, hr2, hb2⟩; have hB2 := HB.out.same (hb2.block _ HB.out.lt); have y0 : w2.cell? ⟨G, 0, none⟩ = some (.slice A n c) := hB2.cell 0; have yf := hB2.frozen 0; have HB2 := Lib.hid hB2; have HBB := Lib.hid hb2; have HR2 := Lib.hid hr2; have HM2 := Lib.hid hm2; clear hB2 hb2 hr2 hm2)
  all_goals go_ret
  all_goals refine ⟨A2, m2, c2, rfl, HM2.out, hc2, ?_, Tk.store HB2.out HL.out hn hnc hdl (HQ.out.below HBB.out) (Mod.below HBB.out) HSS.out⟩
  all_goals exact own_same HR2.out fun k hk => Below.heap_setCell _ _ _ _ (by show k ≠ G; have h1 := HR2.out.lt k hk; have h2 := HB.out.lt; omega)
set_option maxRecDepth 100000 in
theorem tdel_any (h : TkAt S w G l) : Calls Tryd.prog 81 #[.pointer (some ⟨G, 0, none⟩)] w fun e w' => e = .returned (.bool (l.head?.getD 0 == 1)) ∧ Tk S w G (l.drop 1) w' := by
  obtain ⟨A, n, c, hb, hl, hnc, hn, hr, hS⟩ := h
  obtain ⟨i0, hi, hz, hz1, hz2⟩ := info_parts Fr.info_u8
  have g0 : w.cell? ⟨G, 0, none⟩ = some (.slice A n c) := hb.cell 0
  have gf := hb.frozen 0
  have HB := Lib.hid hb
  cases l with
  | nil =>
    obtain rfl : n = 0 := hl.symm
    clear hb
    go_enter Tryd.func81, Tryd.ntmps81
    go_wp2
    go_ret
    exact ⟨rfl, ⟨A, 0, c, HB.out, rfl, hnc, hn, hr, hS⟩, Mod.refl _ _⟩
  | cons x r =>
    have hn0 : 0 < n := by rw [← hl]; simp
    obtain ⟨A1, ⟨ha1, ha2⟩, ha3, ha4⟩ := cut_b A n c 1 (n - 1) (c - 1) .i64 1 rfl (by omega) (by omega)
    have HSS : Hid (∀ a, A1 = some a → S a.block) := Lib.hid fun a e => by obtain ⟨a0, e0, e1⟩ := ha4 a e; rw [← e1]; exact hS a0 e0
    clear ha4 hS
    have hq := (by rw [← bv_drop]; exact ha3 w _ hr (by rw [bv_length, hl]; exact hnc) : Rd w A1 (bv ((x :: r).drop 1)))
    obtain ⟨b, o, rfl, hlt, hc0⟩ := hr.at_ (i := 0) (by simp [bv])
    have c0 : w.cell? ⟨b, o, none⟩ = some (.int .u8 (x.toNat : Int)) := by
      rw [Nat.add_zero] at hc0
      rw [hc0]
      rfl
    have k1 : (0 : Int) < (n : Int) := by omega
    have hD := Lib.hid (show ((x.toNat : Int) == 1) = ((x :: r).head?.getD 0 == 1) from by
      simp only [List.head?_cons, Option.getD_some]
      rw [Bool.eq_iff_iff, beq_iff_eq, beq_iff_eq, ← UInt8.toNat_inj]
      exact ⟨fun h => (by omega : x.toNat = 1), fun h => by have h' : x.toNat = 1 := h; omega⟩)
    obtain ⟨z, hz⟩ : ∃ z, z = ((x :: r).head?.getD 0 == 1) := ⟨_, rfl⟩
    rw [← hz] at hD ⊢
    have HQ := Lib.hid hq
    have HL := Lib.hid hl
    clear hb hz hq hl hr ha3
    go_enter Tryd.func81, Tryd.ntmps81
    go_wp2
    go_ret
    exact ⟨by rw [← hD.out]; rfl, Tk.store HB.out HL.out hn hnc hn0 HQ.out (Mod.refl _ _) HSS.out⟩
end
end Ss
end Go.Proofs.YtadlhnjnhllpfaaDoor
namespace Go.Proofs.YtadlhnjnhllpfaaDoor
open Go Go.RowKit Go.Proofs.YtadlhnjnhllpfaaDoor.Mm Go.Proofs.YtadlhnjnhllpfaaDoor.Fr
namespace Ss
theorem bits_or_i64 (a b : Nat) (ha : a < 4294967296) (hb : b < 4294967296) : bits .or .i64 (a : Int) (b : Int) = ((a ||| b : Nat) : Int) := by
  have h3 : a ||| b < 4294967296 := Nat.or_lt_two_pow (n := 32) ha hb
  show IntKind.i64.wrap ((BitVec.ofInt 64 (a : Int) ||| BitVec.ofInt 64 (b : Int)).toNat : Int) = _
  rw [BitVec.toNat_or, ofInt_u64 a (by omega), ofInt_u64 b (by omega)]
  generalize a ||| b = q at h3
  have e : (q : Int) % 2 ^ 64 = q := Int.emod_eq_of_lt (by omega) (by omega)
  simp only [IntKind.wrap, IntKind.bits, IntKind.signed, e]
  rw [if_neg]
  simp
  omega
theorem orshl64 {V y j : Nat} (hy : y < 256) (hj : j < 4) (hV : V < 256 ^ j) : bits .or .i64 (V : Int) (wrap64 ((y : Int) * 2 ^ (8 * j))) = ((V + y * 256 ^ j : Nat) : Int) := by
  have e2 : (y : Int) * 2 ^ (8 * j) = ((y * 256 ^ j : Nat) : Int) := by rw [← pow256, Int.natCast_mul, Int.natCast_pow]; rfl
  have hp : 256 ^ j ≤ 256 ^ 3 := Nat.pow_le_pow_right (by omega) (by omega)
  have hp3 : (256 : Nat) ^ 3 = 16777216 := by decide
  have hb : y * 256 ^ j < 4294967296 := by
    have h := Nat.mul_le_mul (show y ≤ 255 by omega) hp
    omega
  rw [e2, show wrap64 ((y * 256 ^ j : Nat) : Int) = ((y * 256 ^ j : Nat) : Int) by unfold wrap64; omega, bits_or_i64 _ _ (by omega) hb]
  congr 1
  rw [Nat.or_comm, nat_join (8 * j) _ _ (by rw [pow256]; exact Nat.mul_mod_left _ _) (by rw [pow256]; exact hV), Nat.add_comm]
section
variable {S : Nat → Prop} {w : World} {G : Nat} {l : Bs}
def offOf (l : Bs) : Nat := if l.length < 4 then 0 else word (l.take 4)
set_option maxRecDepth 100000 in
theorem toff_any (h : TkAt S w G l) : Calls Tryd.prog 77 #[.pointer (some ⟨G, 0, none⟩)] w fun e w' => e = .returned (.int .i64 (offOf l : Int)) ∧ Tk S w G (if l.length < 4 then l else l.drop 4) w' := by
  obtain ⟨A, n, c, hb, hl, hnc, hn, hr, hS⟩ := h
  obtain ⟨i0, hi, hz, hz1, hz2⟩ := info_parts Fr.info_u8
  have g0 : w.cell? ⟨G, 0, none⟩ = some (.slice A n c) := hb.cell 0
  have gf := hb.frozen 0
  have HB := Lib.hid hb
  unfold offOf
  by_cases h4 : n < 4
  · have k1 : (n : Int) < 4 := by omega
    rw [if_pos (by omega), if_pos (by omega)]
    clear hb
    go_enter Tryd.func77, Tryd.ntmps77
    go_wp2
    go_ret
    exact ⟨rfl, ⟨A, n, c, HB.out, hl, hnc, hn, hr, hS⟩, Mod.refl _ _⟩
  · have k1 : ¬ (n : Int) < 4 := by omega
    rw [if_neg (by omega), if_neg (by omega)]
    obtain ⟨A1, ⟨ha1, ha2⟩, ha3, ha4⟩ := cut_b A n c 4 (n - 4) (c - 4) .i64 4 rfl (by omega) (by omega)
    have HSS : Hid (∀ a, A1 = some a → S a.block) := Lib.hid fun a e => by obtain ⟨a0, e0, e1⟩ := ha4 a e; rw [← e1]; exact hS a0 e0
    clear ha4 hS
    have hq := (by rw [← bv_drop]; exact ha3 w _ hr (by rw [bv_length, hl]; exact hnc) : Rd w A1 (bv (l.drop 4)))
    have HQ := Lib.hid hq
    have HL := Lib.hid hl
    have HR := Lib.hid hr
    clear hb hz hq hl hr ha3
    go_enter Tryd.func77, Tryd.ntmps77
    go_wp2
    go_loopw [3, 11] (fun s i W => ∃ (k S : Nat), k ≤ 4 ∧ i = .int .i64 (k : Int) ∧ s = .int .i64 (S : Int) ∧ W = w ∧ Hid (S = word (l.take k))) (fun _ i _ => 4 - (intOf i).toNat)
    case atStart => exact ⟨0, 0, by omega, rfl, rfl, rfl, Lib.hid rfl⟩
    case round =>
      obtain ⟨k, S, hk, rfl, rfl, rfl, HS⟩ := hrel
      by_cases hkn : k < 4
      · obtain ⟨b, o, y, rfl, hbs, hc, hy2, HY⟩ := HR.out.byteY (i := k) (by have := HL.out; omega)
        have hV := word_take_lt l k
        rw [← HS.out] at hV
        have hp : 256 ^ k ≤ 256 ^ 3 := Nat.pow_le_pow_right (by omega) (by omega)
        have hp3 : (256 : Nat) ^ 3 = 16777216 := by decide
        have HV := Lib.hid hV
        have HP := Lib.hid (And.intro hp hp3)
        have k2 : (k : Int) < (n : Int) := by omega
        have k3 : (k : Int) < 4 := by omega
        have k4 : (0 : Int) ≤ (k : Int) := by omega
        clear hV hp hp3
        go_wp2
        refine ⟨⟨k + 1, S + y * 256 ^ k, by omega, by simp, by rw [orshl64 hy2 hkn HV.out], trivial, Lib.hid ?_⟩, by simp [intOf]; omega⟩
        obtain ⟨hkl, hyv⟩ := HY.out
        rw [word_take_succ hkl, ← HS.out, hyv]
      · obtain rfl : k = 4 := by omega
        go_wp2
        go_ret
        exact ⟨by rw [HS.out]; rfl, Tk.store HB.out HL.out hn hnc (by omega) HQ.out (Mod.refl _ _) HSS.out⟩
end
theorem cells4E {w : World} {g : Nat} {t : TypeId} {a b c d : Value} (h : Blk w g t #[a, b, c, d]) : (w.cell? ⟨g, 0, none⟩ = some a ∧ w.cell? ⟨g, 1, none⟩ = some b ∧ w.cell? ⟨g, 2, none⟩ = some c ∧ w.cell? ⟨g, 3, none⟩ = some d) ∧ w.frozen? ⟨g, 0, none⟩ = false ∧ w.frozen? ⟨g, 1, none⟩ = false ∧ w.frozen? ⟨g, 2, none⟩ = false ∧ w.frozen? ⟨g, 3, none⟩ = false :=
  ⟨⟨h.cell 0, h.cell 1, h.cell 2, h.cell 3⟩, h.frozen 0, h.frozen 1, h.frozen 2, h.frozen 3⟩
theorem set4E {w : World} {g : Nat} {t : TypeId} {a b c d : Value} (h : Blk w g t #[a, b, c, d]) (u0 u1 u2 u3 : Value) : Blk ((((w.setCell ⟨g, 0, none⟩ u0).setCell ⟨g, 1, none⟩ u1).setCell ⟨g, 2, none⟩ u2).setCell ⟨g, 3, none⟩ u3) g t #[u0, u1, u2, u3] := by
  have := (((h.set 0 u0).set 1 u1).set 2 u2).set 3 u3
  simpa using this
theorem infoEn' : (Tryd.prog.info? 42).map (·.size) = some 4 := by kernel_rfl
section
variable {S : Nat → Prop} {w : World} {G : Nat} {l : Bs}
theorem TkAt.alloc (h : TkAt S w G l) (o : Obj) : TkAt S (w.alloc o) G l := by
  obtain ⟨A, n, c, hb, hl, hnc, hn, hr, hS⟩ := h
  exact ⟨A, n, c, hb.alloc o, hl, hnc, hn, hr.alloc o, hS⟩
theorem Tk.next {W1 W2 : World} {l2 : Bs} (h : Tk S w G l W1) (h2 : Tk S W1 G l2 W2) : Tk S w G l2 W2 := ⟨h2.at_, h.mod.trans h2.mod fun _ _ e => e⟩
theorem TkAt.off4 {W : World} (h : TkAt S W G l) {g : Nat} {t : TypeId} {a d : ByteArray} {b : Int} {c : Bool} (hx : Blk W g t #[.string a, .int .i64 b, .bool c, .string d]) (hg : g ≠ G) (u0 u1 u2 u3 : Value) :
    TkAt S ((((W.setCell ⟨g, 0, none⟩ u0).setCell ⟨g, 1, none⟩ u1).setCell ⟨g, 2, none⟩ u2).setCell ⟨g, 3, none⟩ u3) G l := by
  have hoff : ∀ k, k ≠ g → ((((W.setCell ⟨g, 0, none⟩ u0).setCell ⟨g, 1, none⟩ u1).setCell ⟨g, 2, none⟩ u2).setCell ⟨g, 3, none⟩ u3).heap[k]? = W.heap[k]? := fun k hk => (Below.heap_setCell _ ⟨g, 3, none⟩ _ _ hk).trans ((Below.heap_setCell _ ⟨g, 2, none⟩ _ _ hk).trans ((Below.heap_setCell _ ⟨g, 1, none⟩ _ _ hk).trans (Below.heap_setCell _ ⟨g, 0, none⟩ _ _ hk)))
  obtain ⟨A, n, cc, hb, hl, hnc, hn, hr, hS⟩ := h
  refine ⟨A, n, cc, hb.same (hoff G hg.symm), hl, hnc, hn, fun hx0 => ?_, hS⟩
  obtain ⟨b0, o, e, hlt, hc⟩ := hr hx0
  have hbg : b0 ≠ g := by
    rintro rfl
    have h0 : 0 < (bv l).length := List.length_pos_iff.2 hx0
    have h1 := hc 0 h0
    have hv : (bv l)[0] = .int .u8 ((l[0]'(by simpa [bv] using h0)).toNat : Int) := by simp [bv]
    rw [hx.cell, hv, Nat.add_zero] at h1
    match o, h1 with
    | 0, h1 => simp at h1
    | 1, h1 => simp at h1
    | 2, h1 => simp at h1
    | 3, h1 => simp at h1
    | k + 4, h1 => simp at h1
  exact ⟨b0, o, e, by simpa [World.setCell] using hlt, fun i hi => (World.cell?_of_block (a := ⟨b0, o + i, none⟩) (hoff b0 hbg)).trans (hc i hi)⟩
theorem tent_mod {W1 W2 : World} (h : Mod (fun b => b = G) w W1) (h2 : Mod (fun b => b = G) W1 W2) {B : Nat} (hB : w.heap.size ≤ B) (u0 u1 u2 u3 : Value) : Mod (fun b => b = G) w ((((W2.setCell ⟨B, 0, none⟩ u0).setCell ⟨B, 1, none⟩ u1).setCell ⟨B, 2, none⟩ u2).setCell ⟨B, 3, none⟩ u3) := by
  have h3 : Mod (fun b => b = G) w W2 := h.trans h2 fun _ _ e => e
  have h4 : Mod (fun b => b = G ∨ w.heap.size ≤ b) w W2 := h3.weaken fun _ _ e => Or.inl e
  have s0 := h4.setCell (p := ⟨B, 0, none⟩) (fun _ => Or.inr hB) u0
  have s1 := s0.setCell (p := ⟨B, 1, none⟩) (fun _ => Or.inr hB) u1
  have s2 := s1.setCell (p := ⟨B, 2, none⟩) (fun _ => Or.inr hB) u2
  have s3 := s2.setCell (p := ⟨B, 3, none⟩) (fun _ => Or.inr hB) u3
  exact s3.weaken fun b hb e => by
    rcases e with e | e
    · exact e
    · exact absurd hb (Nat.not_lt.2 e)
end
end Ss
end Go.Proofs.YtadlhnjnhllpfaaDoor
namespace Go.Proofs.YtadlhnjnhllpfaaDoor
open Go Go.RowKit Go.Proofs.YtadlhnjnhllpfaaDoor.Mm Go.Proofs.YtadlhnjnhllpfaaDoor.Fr
namespace Ss
section
variable {S : Nat → Prop} {w : World} {G : Nat} {l : Bs}
variable {k : ByteArray} {s : Int} {b : Bool} {l' : Bs}
theorem ttextN (h : TkAt S w G l) (hk : Hid (k = ⟨(takeText l).1.toArray⟩)) (hl : Hid (l' = l.drop (takeText l).2)) : Calls Tryd.prog 79 #[.pointer (some ⟨G, 0, none⟩)] w fun e w' => e = .returned (.string k) ∧ Tk S w G l' w' := by
  rw [hk.out, hl.out]; exact ttext_any h
theorem tnumN (h : TkAt S w G l) (hk : Hid (s = wrap64 ((dec l).1 : Int))) (hl : Hid (l' = l.drop (dec l).2)) : Calls Tryd.prog 80 #[.pointer (some ⟨G, 0, none⟩)] w fun e w' => e = .returned (.int .i64 s) ∧ Tk S w G l' w' := by
  rw [hk.out, hl.out]; exact tnum_any h
theorem tdelN (h : TkAt S w G l) (hk : Hid (b = (l.head?.getD 0 == 1))) (hl : Hid (l' = l.drop 1)) : Calls Tryd.prog 81 #[.pointer (some ⟨G, 0, none⟩)] w fun e w' => e = .returned (.bool b) ∧ Tk S w G l' w' := by
  rw [hk.out, hl.out]; exact tdel_any h
def enA (e : En) : Value := .agg #[.string e.key, .int .i64 e.seq, .bool e.del, .string e.val]
set_option maxRecDepth 100000 in
theorem tent_any (h : TkAt S w G l) : Calls Tryd.prog 66 #[.pointer (some ⟨G, 0, none⟩)] w fun e w' => e = .returned (.agg #[.string (readE l).1.key, .int .i64 (readE l).1.seq, .bool (readE l).1.del, .string (readE l).1.val]) ∧ Tk S w G (readE l).2 w' := by
  obtain ⟨k, hk⟩ : ∃ k : ByteArray, k = ⟨(takeText l).1.toArray⟩ := ⟨_, rfl⟩
  obtain ⟨l1, hl1⟩ : ∃ l1, l1 = l.drop (takeText l).2 := ⟨_, rfl⟩
  obtain ⟨s, hs⟩ : ∃ s : Int, s = wrap64 ((dec l1).1 : Int) := ⟨_, rfl⟩
  obtain ⟨l2, hl2⟩ : ∃ l2, l2 = l1.drop (dec l1).2 := ⟨_, rfl⟩
  obtain ⟨b, hb⟩ : ∃ b : Bool, b = (l2.head?.getD 0 == 1) := ⟨_, rfl⟩
  obtain ⟨l3, hl3⟩ : ∃ l3, l3 = l2.drop 1 := ⟨_, rfl⟩
  obtain ⟨v, hv⟩ : ∃ v : ByteArray, v = ⟨(takeText l3).1.toArray⟩ := ⟨_, rfl⟩
  obtain ⟨l4, hl4⟩ : ∃ l4, l4 = l3.drop (takeText l3).2 := ⟨_, rfl⟩
  have hR : readE l = (⟨k, s, b, v⟩, l4) := by rw [hl4, hv, hl3, hb, hl2, hs, hl1, hk]; rfl
  rw [hR]
  have HK := Lib.hid hk
  have HL1 := Lib.hid hl1
  have HS := Lib.hid hs
  have HL2 := Lib.hid hl2
  have HB := Lib.hid hb
  have HL3 := Lib.hid hl3
  have HV := Lib.hid hv
  have HL4 := Lib.hid hl4
  clear hk hl1 hs hl2 hb hl3 hv hl4 hR
  obtain ⟨W1, hW1⟩ : ∃ W1, W1 = w.alloc (.cells #[.string ⟨#[]⟩, .int .i64 0, .bool false, .string ⟨#[]⟩] 42) := ⟨_, rfl⟩
  have hbx : Blk W1 w.heap.size 42 #[.string ⟨#[]⟩, .int .i64 0, .bool false, .string ⟨#[]⟩] := by rw [hW1]; exact Blk.new _ _ _
  have h1 : TkAt S W1 G l := by rw [hW1]; exact h.alloc _
  have hG : G < w.heap.size := by obtain ⟨A, n, c, hb, _⟩ := h; exact hb.lt
  have H1 := Lib.hid h1
  have HBX := Lib.hid hbx
  clear h h1 hbx
  go_enter Tryd.func66, Tryd.ntmps66
  go_upto_region 1 with fail
  have hw1 : Mod (fun b => b = G) w W1 := by rw [hW1]; exact Mod.below ((Below.refl _ _).alloc (Nat.le_refl _) _)
  have HM1 := Lib.hid hw1
  rw [← hW1]
  clear hW1 hw1
  obtain ⟨B, hB⟩ : ∃ B, B = w.heap.size := ⟨_, rfl⟩
  have hBG : B ≠ G := by omega
  have hBw : w.heap.size ≤ B := by omega
  rw [← hB] at HBX ⊢
  clear hB hG
  go_wp2_with (first
    | (go_at_call 79; (with_reducible refine (ttextN H1.out HK HL1).mono ?_); rintro e w2 ⟨rfl, h2⟩; have H2 := Lib.hid h2; clear h2)
    | (go_at_call 80; (with_reducible refine (tnumN H2.out.at_ HS HL2).mono ?_); rintro e w3 ⟨rfl, h3⟩; have H3 := Lib.hid (H2.out.next h3); clear h3)
    | (go_at_call 81; (with_reducible refine (tdelN H3.out.at_ HB HL3).mono ?_); rintro e w4 ⟨rfl, h4⟩; have H4 := Lib.hid (H3.out.next h4); clear h4)
    | (go_at_call 79; (with_reducible refine (ttextN H4.out.at_ HV HL4).mono ?_); rintro e w5 ⟨rfl, h5⟩; have H5 := Lib.hid (H4.out.next h5); have hB5 := HBX.out.same (H5.out.mod.block _ HBX.out.lt hBG); obtain ⟨⟨r0, r1, r2, r3⟩, f0, f1, f2, f3⟩ := cells4E hB5; have HB5 := Lib.hid hB5; clear h5 hB5))
  exact bodyPost_ret (results_cell_row rfl _ _ B 42 _ (0, 0) _ rfl (set4E HB5.out _ _ _ _) Tryd.underlying42 rfl infoEn') rfl ⟨rfl, H5.out.at_.off4 HB5.out hBG _ _ _ _, tent_mod HM1.out H5.out.mod hBw _ _ _ _⟩
end
end Ss
end Go.Proofs.YtadlhnjnhllpfaaDoor
