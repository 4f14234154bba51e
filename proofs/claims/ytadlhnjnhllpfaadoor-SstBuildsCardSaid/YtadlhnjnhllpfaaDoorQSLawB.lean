/-
  WHAT IS PROVED: (1) what the law's awake answers. CONDITIONS: frame's table lies as laid. (2) what the law's own answers: the first 90 entries as a row of its own. CONDITIONS: the entries stand in memory as named. (3) SstBuilds answers true. CONDITIONS: what came in stands in memory as named, and frame's table lies as laid.
-/
import Derived.Test.YtadlhnjnhllpfaaDoorQSGet
import Derived.Test.YtadlhnjnhllpfaaDoorQSPlain
import Derived.Test.YtadlhnjnhllpfaaDoorQSOpen
import Derived.Test.YtadlhnjnhllpfaaDoorQBBld
import Derived.Test.YtadlhnjnhllpfaaDoorQSRBld
namespace Go.Proofs.YtadlhnjnhllpfaaDoor
open Go Go.RowKit Go.Shelf Go.Maps Go.Sort Go.Proofs.YtadlhnjnhllpfaaDoor.Mm Go.Proofs.YtadlhnjnhllpfaaDoor.Fr
namespace Ss
def e1x : En := ⟨⟨#[97]⟩, 1, false, ⟨#[120]⟩⟩
theorem good1 : GoodL [e1x] := (listErr_good _).1 (by
  have h : entryErr e1x = 0 := by
    unfold entryErr e1x
    rw [if_neg (by decide), if_neg (by decide)]
  simp [listErr, listF, h])
theorem tl97 : (⟨#[97]⟩ : ByteArray).toList = [97] := by rw [Lib.toList_data]
theorem tl98 : (⟨#[98]⟩ : ByteArray).toList = [98] := by rw [Lib.toList_data]
theorem seen1 : Mm.seen [e1x] (⟨#[97]⟩ : ByteArray).toList 5 = some e1x := by
  have h : Mm.hit [97] 5 e1x = true := Mm.hit_iff.2 ⟨by show (⟨#[97]⟩ : ByteArray).toList = _; rw [tl97], by decide⟩
  rw [tl97]
  simp [Mm.seen, h]
theorem seen2 : Mm.seen [e1x] (⟨#[98]⟩ : ByteArray).toList 5 = none := by
  have h : Mm.hit [98] 5 e1x = false := hit_no (by show (⟨#[97]⟩ : ByteArray).toList ≠ _; rw [tl97]; decide)
  rw [tl98]
  simp [Mm.seen, h]
theorem build_ge {l : List En} : 20 ≤ (build l).length := by
  rw [build_eq rfl]
  simp only [List.length_append, le4_length, sealOf_length, List.length_cons, List.length_nil]
  omega
theorem own_cap1' {W : World} {base size k c : Nat} {e : TypeId} {A : Option Addr} {xs : List Value} (h : W.ownsRow base e size (.slice A k c) k xs) : k ≤ c := (own_shapeN h).elim fun A' h => h.elim fun c' h => by obtain ⟨e', h1, _⟩ := h; cases e'; exact h1
theorem own_addr {W : World} {base size k c : Nat} {e : TypeId} {A : Option Addr} {xs : List Value} (h : W.ownsRow base e size (.slice A k c) k xs) : ∀ a, A = some a → a.block < W.heap.size := fun a ha => by
  subst ha
  exact (h.lt a.block (by rcases h.2 with ⟨h1, _⟩ | ⟨g, cap, cur, h1, _⟩ <;> cases h1; rfl)).2
section
variable {W : World} {R base : Nat} {ex : Int}
theorem first1 (h : RdAt W R base [e1x] ex) : Calls Tryd.prog 18 #[.pointer (some ⟨R, 0, none⟩)] W fun e w' => e = .returned (.string ⟨#[97]⟩) ∧ W = w' := firstR_any (x := e1x) h rfl
theorem last1 (h : RdAt W R base [e1x] ex) : Calls Tryd.prog 19 #[.pointer (some ⟨R, 0, none⟩)] W fun e w' => e = .returned (.string ⟨#[97]⟩) ∧ W = w' := lastR_any (x := e1x) (j := 0) h rfl rfl (by decide)
theorem len1 (h : RdAt W R base [e1x] ex) : Calls Tryd.prog 17 #[.pointer (some ⟨R, 0, none⟩)] W fun e w' => e = .returned (.int .i64 1) ∧ W = w' := lenR_any h
theorem get1 (h : RdAt W R base [e1x] 0) : Calls Tryd.prog 21 #[.pointer (some ⟨R, 0, none⟩), .string ⟨#[97]⟩, .int .i64 5] W fun e w' => ∃ ex', e = .returned (.tuple #[.agg #[.string ⟨#[97]⟩, .int .i64 1, .bool false, .string ⟨#[120]⟩], .bool true]) ∧ 0 ≤ ex' ∧ ex' ≤ 1000 ∧ RdAt w' R base [e1x] ex' ∧ Mod (fun k => k = R) W w' := by
  refine (sget_any h good1 ⟨#[97]⟩ (by decide) 5 (by omega) (by omega)).mono ?_
  rintro e w' ⟨x, b, ex', rfl, hx, hb, h0, h1, h2, h3⟩
  rw [seen1] at hx hb
  subst hx hb
  refine ⟨ex', rfl, h0, ?_, h2, h3⟩
  have h4 : cntR [e1x] ⟨#[97]⟩ (List.range (([e1x].length + 2) / 3)) ≤ 1 := Nat.le_trans (List.length_filter_le _ _) (by simp)
  split at h1 <;> omega
theorem get2 (h : RdAt W R base [e1x] ex) (h0 : 0 ≤ ex) (h1 : ex ≤ 1000) : Calls Tryd.prog 21 #[.pointer (some ⟨R, 0, none⟩), .string ⟨#[98]⟩, .int .i64 5] W fun e w' => e = .returned (.tuple #[.agg #[.string ⟨#[]⟩, .int .i64 0, .bool false, .string ⟨#[]⟩], .bool false]) ∧ Mod (fun k => k = R) W w' := by
  refine (sget_any h good1 ⟨#[98]⟩ (by decide) 5 h0 (by omega)).mono ?_
  rintro e w' ⟨x, b, ex', rfl, hx, hb, _, _, _, h3⟩
  rw [seen2] at hx hb
  subst hx hb
  exact ⟨rfl, h3⟩
end
set_option maxRecDepth 100000 in
set_option maxHeartbeats 1000000 in
theorem sawake_any (w : World) (ht : Tab w) : Calls Tryd.prog 8 #[] w (Mm.Yes w) := by
  have hr0 : Rd (w.alloc (.cells #[.string ⟨#[97]⟩, .int .i64 1, .bool false, .string ⟨#[120]⟩] 42)) (some ⟨w.heap.size, 0, none⟩) (ev [e1x]) := Rd.block w 42 (0, 0) #[.string ⟨#[97]⟩, .int .i64 1, .bool false, .string ⟨#[120]⟩]
  have hb0 : Below w.heap.size w (w.alloc (.cells #[.string ⟨#[97]⟩, .int .i64 1, .bool false, .string ⟨#[120]⟩] 42)) := (Below.refl _ _).alloc (Nat.le_refl _) _
  have hbd := build_any (c := 1) good1 rfl hr0 (Nat.le_refl _) (ht.below hb0)
  have hge := @build_ge [e1x]
  obtain ⟨N, hN⟩ : ∃ N, (build [e1x]).length = N := ⟨_, rfl⟩
  rw [hN] at hge
  have k20 : ¬ (N : Int) < 20 := by omega
  have HBD := Lib.hid hbd
  have HB0 := Lib.hid hb0
  have HT := Lib.hid ht
  have HN := Lib.hid hN
  clear hr0 hb0 hbd ht hN
  go_enter Tryd.func8, Tryd.ntmps8
  go_wp2_with (first
    | (go_at_call 10; refine HBD.out.mono ?_; rintro e w1 ⟨A1, n1, c1, rfl, hn1, hown1, hb1⟩; obtain rfl : N = n1 := HN.out.symm.trans hn1; have hb01 := HB0.out.trans (hb1.mono HB0.out.size); have hc1 := own_cap1' hown1; have HP := Lib.hid (parse_yes good1 hn1 hc1 (Rd.own hown1) (own_addr hown1) (HT.out.below hb01)))
    | (go_at_call 13; refine HP.out.mono ?_; rintro e w2 ⟨R, rfl, hR, hrd, hb2⟩; have hb02 := hb01.trans (hb2.mono hb01.size); have HRD := Lib.hid hrd)
    | (go_at_call 17; refine (len1 HRD.out).mono ?_; rintro e _ ⟨rfl, rfl⟩)
    | (go_at_call 18; refine (first1 HRD.out).mono ?_; rintro e _ ⟨rfl, rfl⟩)
    | (go_at_call 19; refine (last1 HRD.out).mono ?_; rintro e _ ⟨rfl, rfl⟩)
    | (go_at_call 21; (with_reducible refine (get1 HRD.out).mono ?_); rintro e w3 ⟨ex', rfl, h30, h31, hrd3, hm3⟩; have hlt3 := hrd3.lt; have HE3 := Lib.hid (Blk.new w3 42 #[.string ⟨#[97]⟩, .int .i64 1, .bool false, .string ⟨#[120]⟩]); have HRD4 := Lib.hid (hrd3.below ((Below.refl _ w3).alloc (Nat.le_refl _) (.cells #[.string ⟨#[97]⟩, .int .i64 1, .bool false, .string ⟨#[120]⟩] 42))); have hR0 : w.heap.size ≤ R := Nat.le_trans hb01.size hR; have HB3 := Lib.hid ((hb02.trans (hm3.to_below (fun k e => by subst e; exact hR0) hb02.size)).alloc (Nat.le_trans hb02.size hm3.size) (.cells #[.string ⟨#[97]⟩, .int .i64 1, .bool false, .string ⟨#[120]⟩] 42)))
    | (go_at_call 21; (with_reducible refine (get2 HRD4.out h30 h31).mono ?_); rintro e w4 ⟨rfl, hm4⟩; have hE4 := HE3.out.same (hm4.block _ HE3.out.lt (Nat.ne_of_gt hlt3)); have hE5 := hE4.alloc (.cells #[.string ⟨#[]⟩, .int .i64 0, .bool false, .string ⟨#[]⟩] 42); have z3 : (w4.alloc (.cells #[.string ⟨#[]⟩, .int .i64 0, .bool false, .string ⟨#[]⟩] 42)).cell? ⟨w3.heap.size, 3, none⟩ = some (.string ⟨#[120]⟩) := hE5.cell 3; have HB4 := Lib.hid ((HB3.out.trans (hm4.to_below (fun k e => by subst e; exact hR0) HB3.out.size)).alloc (Nat.le_trans HB3.out.size hm4.size) (.cells #[.string ⟨#[]⟩, .int .i64 0, .bool false, .string ⟨#[]⟩] 42)); clear hE4 hE5))
  go_ret
  exact ⟨rfl, HB4.out⟩
end Ss
end Go.Proofs.YtadlhnjnhllpfaaDoor
namespace Go.Proofs.YtadlhnjnhllpfaaDoor
open Go Go.RowKit Go.Maps Go.Sort Go.Proofs.YtadlhnjnhllpfaaDoor.Mm Go.Proofs.YtadlhnjnhllpfaaDoor.Fr
namespace Ss
def EnRet (w : World) (L : List En) (e : Ending) (w' : World) : Prop := ∃ A m c, e = .returned (.slice A m c) ∧ L.length = m ∧ m ≤ c ∧ w'.ownsRow w.heap.size 42 4 (.slice A m c) m (ev L) ∧ Below w.heap.size w w'
section
variable {w : World} {A : Option Addr} {n c : Nat} {l : List En}
theorem wpList_appE {P : Program} (w : World) {ops : Array Oper} {rest : List Oper} {o : Oper} {a : Act} {Q : Exit → Act → World → Prop} (hgd : o.guard = none) (s x : Operand) (t : TypeId)
    (ho : o.op = .call { callee := .builtin .append, args := #[s, x], argTypes := #[t, t] })
    (base : Nat) (e : TypeId) (i : TypeInfo) (z : Value) (size bytes : Nat) (ht : P.underlying t = some (.slice e)) (hi : P.info? e = some i) (hz : i.zero = some z)
    (hsize : i.size = size) (hby : i.bytes = bytes) (hzs : z.cells.size = size) (hsz : 0 < size)
    (v : Value) (n : Nat) (xs : List Value) (hs : a.eval s = v) (hown : w.ownsRow base e size v n xs)
    (A : Option Addr) (m c : Nat) (news : List Value) (hx : a.eval x = .slice A m c) (hl : news.length = m * size) (hr : Rd w A news) (h1 : ∀ u ∈ news, u.oneCell' = true)
    (N : Nat) (hN : n + m = N) (h63 : N ≤ maxLen) (hbytes : N * bytes ≤ 140737488355328) (hbase : base ≤ w.heap.size)
    (h : ∀ A' c' w', w'.ownsRow base e size (.slice A' N c') N (xs ++ news) → Below base w w' → w.grownBy w' v.ownBlock → wpList P ops Q rest (a.put o.dst (.slice A' N c')) w') : wpList P ops Q (o :: rest) a w := by
  cases A with
  | some ad =>
    refine wpList_appN w hgd s x t ho base e i z size bytes ht hi hz hsize hby hzs hsz v n xs hs hown ad m c news hx hl (fun j u hu => ?_) h1 N hN h63 hbytes hbase h
    obtain ⟨hj, rfl⟩ := List.getElem?_eq_some_iff.1 hu
    obtain ⟨b, o, e1, _, hc⟩ := hr.at_ hj
    cases e1
    have : (⟨b, o, none⟩ : Addr).add j = ⟨b, o + j, none⟩ := by unfold Addr.add; split <;> simp_all
    rw [this]; exact hc
  | none =>
    have hn : news = [] := by
      rcases news with _ | ⟨y, r⟩
      · rfl
      · obtain ⟨_, _, h, _⟩ := hr (by simp)
        cases h
    subst hn
    obtain rfl : m = 0 := by
      rcases Nat.mul_eq_zero.1 hl.symm with h | h
      · exact h
      · omega
    subst hN
    refine wpList_plain hgd fun _ hK => ?_
    obtain ⟨A1, c1, rfl, hnc, _⟩ := own_shapeN hown
    have hrun : (Builtin.append_ #[t, t] o.type #[.slice A1 n c1, .slice none 0 c]).run P w = .ok (.slice A1 n c1) w := by
      rcases hown.2 with ⟨hv, rfl⟩ | ⟨g, cap, cur, hv, _, _, hnc2, _⟩
      · simp only [Value.slice.injEq] at hv
        obtain ⟨rfl, _, rfl⟩ := hv
        simp [Builtin.append_, run_underlying ht, sizeOf, typeInfo, hi, Builtin.lenOf, Builtin.firstCells]
      · simp only [Value.slice.injEq] at hv
        obtain ⟨rfl, _, rfl⟩ := hv
        simp [Builtin.append_, run_underlying ht, sizeOf, typeInfo, hi, Builtin.lenOf, Builtin.firstCells, hnc2, storeCells]
    unfold Oper.wp execOp
    simp only [ho, resolve, invoke, builtin, Sem.run_bind, Sem.run_pure, Result.andThen_ok, List.map_toArray, List.map_cons, List.map_nil, hs, hx, hrun]
    exact hK _ _ (h A1 c1 w (by simpa using hown) (Below.refl _ _) (World.grownBy.refl w _))
theorem ecut0 (A : Option Addr) (n c m : Nat) (hc : m ≤ c) :
    (∀ W : World, (Instr.slice 22 (.slice A n c) none (some (.int .i64 (m : Int))) none).run Tryd.prog W = .ok (.slice A m c) W) ∧
    ∀ W : World, (Instr.sliceAt 22 (.slice A n c) none (some (.int .i64 (m : Int))) none).run Tryd.prog W = .ok (.slice A m c) W := by
  have he : Tryd.prog.elem 22 = 42 := by kernel_rfl
  have hu : Tryd.prog.underlying 22 = some (.slice (Tryd.prog.elem 22)) := by rw [he]; exact Tryd.underlying22
  have hs : ∀ W : World, (sizeOf 42).run Tryd.prog W = .ok 4 W := fun W => by
    obtain ⟨i, hi, _, h1, _⟩ := info_parts Mm.info_entry
    simp [sizeOf, typeInfo, hi, h1]
  have key : ∀ W : World, (Instr.slice 22 (.slice A n c) none (some (.int .i64 (m : Int))) none).run Tryd.prog W = .ok (.slice A m c) W := fun W => by
    rw [run_slice_h (P := Tryd.prog) W _ A n c hu _ _ (by omega) (by omega), he, hs]
    simp only [sliced, Result.andThen, Int.toNat_natCast, Nat.sub_zero, Nat.zero_mul]
    rcases A with _ | a <;> simp [Addr.add]
  exact ⟨key, fun W => (run_sliceAt_slice W _ _ _ _ _ hu).trans (key W)⟩
theorem ev_takeA : ∀ (k : Nat) (l : List En), (ev l).take (k * 4) = ev (l.take k)
  | 0, l => by simp [ev]
  | k + 1, [] => by simp [ev]
  | k + 1, e :: r => by
    have : (ev (e :: r)) = ecells e ++ ev r := by simp [ev]
    rw [this, show (k + 1) * 4 = (ecells e).length + k * 4 by simp [ecells]; omega, List.take_append, List.take_of_length_le (by omega), Nat.add_sub_cancel_left, ev_takeA k r]
    simp [ev]
theorem ev_one' (l : List En) : ∀ u ∈ ev l, u.oneCell' = true := fun u hu => by
  obtain ⟨e, _, h⟩ := List.mem_flatMap.1 hu
  exact ecells_one e u h
set_option maxRecDepth 100000 in
set_option maxHeartbeats 1000000 in
theorem sown_any (hl : l.length = n) (hnc : n ≤ c) (hr : Rd w A (ev l)) :
    Calls Tryd.prog 9 #[.slice A n c] w (EnRet w (l.take 90)) := by
  obtain ⟨ie, hie, hiz, hiz1, hiz2⟩ := info_parts info_entry
  obtain ⟨m, hm⟩ : ∃ m, m = min n 90 := ⟨_, rfl⟩
  obtain ⟨hc1, hc2⟩ := ecut0 A n c m (by omega)
  have hmn := Bl.mn (n : Int) 90 (m : Int) (by omega)
  have hrm : Rd w A (ev (l.take 90)) := by
    have h1 := hr.take (90 * 4)
    rwa [ev_takeA] at h1
  have hlm : (l.take 90).length = m := by rw [List.length_take, hl, hm, Nat.min_comm]
  have hm90 : m ≤ 90 := by omega
  have HRM := Lib.hid hrm
  have HLM := Lib.hid hlm
  have hown0 : (w.alloc (.cells #[] 42)).ownsRow w.heap.size 42 4 (.slice (some ⟨w.heap.size, 0, none⟩) 0 0) 0 [] := ⟨rfl, .inr ⟨w.heap.size, 0, #[], rfl, Nat.le_refl _, Blk.new w _ _, Nat.le_refl _, by unfold maxLen; omega, rfl, rfl⟩⟩
  have HO0 := Lib.hid hown0
  clear hrm hlm hm hl hr hown0
  go_enter Tryd.func9, Tryd.ntmps9
  go_wp2_with (at_builtin; refine wpList_appE _ rfl (.tmp 3) (.tmp 8) _ rfl w.heap.size 42 ie _ 4 48 Tryd.underlying22 hie hiz hiz1 hiz2 rfl (by decide) _ 0 [] rfl HO0.out A m c (ev (l.take 90)) rfl (by rw [ev_len, HLM.out]) (HRM.out.alloc _) (ev_one' _) m (by omega) (by unfold maxLen; omega) (by omega) (by simp) ?_; intro A9 c9 w9 hown9 hb9 hg9)
  go_ret
  rw [List.nil_append] at hown9
  obtain ⟨_, _, e9, hmc, _⟩ := own_shapeN hown9
  cases e9
  exact ⟨A9, m, c9, rfl, HLM.out, hmc, hown9, ((Below.refl _ _).alloc (Nat.le_refl _) _).trans hb9⟩
end
end Ss
end Go.Proofs.YtadlhnjnhllpfaaDoor
namespace Go.Proofs.YtadlhnjnhllpfaaDoor
open Go Go.RowKit Go.Shelf Go.Maps Go.Sort Go.Proofs.YtadlhnjnhllpfaaDoor.Mm Go.Proofs.YtadlhnjnhllpfaaDoor.Fr
namespace Ss
section
variable {w : World} {A : Option Addr} {n c : Nat} {l : List En}
set_option maxRecDepth 100000 in
set_option maxHeartbeats 2000000 in
theorem sbuilds_any (hl : l.length = n) (hnc : n ≤ c) (hr : Rd w A (ev l)) (ht : Tab w) :
    Calls Tryd.prog 3 #[.slice A n c] w (Mm.Yes w) := by
  obtain ⟨L, hL⟩ : ∃ L, L = l.take 90 := ⟨_, rfl⟩
  have hl90 : L.length ≤ 90 := by rw [hL, List.length_take]; omega
  have ho := fun W (hb : Below w.heap.size w W) => sown_any (w := W) hl hnc (hr.below hb)
  rw [← hL] at ho
  have ho2 : ∀ W B m d, L.length = m → m ≤ d → Rd W B (ev L) → Calls Tryd.prog 9 #[.slice B m d] W (EnRet W L) := fun W B m d h1 h2 h3 => by
    have := sown_any h1 h2 h3
    rwa [List.take_of_length_le hl90] at this
  obtain ⟨z, hz⟩ : ∃ z, listErr L = z := ⟨_, rfl⟩
  have hre := fun W B m d (h1 : L.length = m) (h3 : Rd W B (ev L)) => rlistErr_any (w := W) (A := B) (c := d) h1 h3 (by omega) hz
  have HO := Lib.hid ho
  have HC2 := Lib.hid ho2
  have HRE := Lib.hid hre
  have HT := Lib.hid ht
  clear ho ho2 hre ht hr hL
  by_cases h0 : z = 0
  · subst h0
    have hgood : GoodL L := (listErr_good L).1 hz
    have hbd := fun W B m d (h1 : L.length = m) (h2 : m ≤ d) (h3 : Rd W B (ev L)) (h4 : Tab W) => build_any hgood h1 h3 h2 h4
    have hrt := fun W B m d (h1 : L.length = m) (h3 : Rd W B (ev L)) => rtab_any (w := W) (A := B) (c := d) hgood h1 h3
    obtain ⟨T, hT⟩ : ∃ T, build L = T := ⟨_, rfl⟩
    rw [hT] at hrt
    have hcs := fun (W : World) => run_str (P := Tryd.prog) W 25 9 5 Tryd.underlying25 Tryd.underlying5 Tryd.underlying9
    have HBD := Lib.hid hbd
    have HRT := Lib.hid hrt
    have HTT := Lib.hid hT
    have HCS := Lib.hid hcs
    clear hbd hrt hT hcs hgood hz
    go_enter Tryd.func3, Tryd.ntmps3
    go_wp2_with (first
      | (go_at_call 8; refine (sawake_any w HT.out).mono ?_; rintro e w1 ⟨rfl, hb1⟩)
      | (go_at_call_of 9 A; refine (HO.out w1 hb1).mono ?_; rintro e w2 ⟨A2, m2, c2, rfl, hm2, hc2, hown2, hb2⟩; have HO2 := Lib.hid (rd_ownN hown2); have HM2 := Lib.hid hm2; have HB2 := Lib.hid (hb1.trans (hb2.mono hb1.size)); clear hm2 hown2 hb1 hb2)
      | (go_at_call_of 9 A2; refine (HC2.out w2 A2 m2 c2 HM2.out hc2 HO2.out).mono ?_; rintro e w3 ⟨A3, m3, c3, rfl, hm3, hc3, hown3, hb3⟩; have HO3 := Lib.hid (rd_ownN hown3); have HM3 := Lib.hid hm3; have HR23 := Lib.hid (HO2.out.below hb3); have HB3 := Lib.hid (HB2.out.trans (hb3.mono HB2.out.size)); clear hm3 hown3 hb3)
      | (go_at_call 10; refine (HBD.out w3 A3 m3 c3 HM3.out hc3 HO3.out (HT.out.below HB3.out)).mono ?_; rintro e w4 ⟨A4, m4, c4, rfl, hm4, hown4, hb4⟩; rw [HTT.out] at hm4 hown4; have HO4 := Lib.hid (Rd.own hown4); have HM4 := Lib.hid hm4; have HR24 := Lib.hid (HR23.out.below hb4); have HB4 := Lib.hid (HB3.out.trans (hb4.mono HB3.out.size)); clear hm4 hown4 hb4)
      | (go_at_call 11; refine (HRE.out w4 A2 m2 c2 HM2.out HR24.out).mono ?_; rintro e w5 ⟨rfl, hb5⟩; have HR5 := Lib.hid (HO4.out.below hb5); have HR25 := Lib.hid (HR24.out.below hb5); have HB5 := Lib.hid (HB4.out.trans (hb5.mono HB4.out.size)); clear hb5))
    have hx5 := HCS.out w5.drew A4 m4 c4 T HM4.out HR5.out
    clear hc2 hc3
    refine wp_region_held_drew (S := fun W => (convert 25 9 (.slice A4 m4 c4)).run Tryd.prog W = .ok (.string ⟨T.toArray⟩) W) (by kernel_rfl) (by (first | assumption | go_keep)) (fun hHeld => ?_)
    refine wpAnyH_take (i := 0) (v := ?vr1_0) (Fr.take_at rfl) (by kernel_rfl) (by kernel_rfl) (by kernel_rfl) (fun _ _ _ h => h) (Or.inl ⟨by rfl, ?yr1_0⟩) (by assumption) ?nr1_0
    case yr1_0 => (intro w_ hSw; (try dsimp only at hSw); go_simp; (try with_reducible rfl))
    try simp only [Act.put, List.setIfInBounds_toArray, List.set_cons_zero, List.set_cons_succ]
    refine wpAnyH_take (i := 1) (v := ?vr1_1) (Fr.take_at rfl) (by kernel_rfl) (by kernel_rfl) (by kernel_rfl) (fun _ _ _ h => h) (Or.inl ⟨by rfl, ?yr1_1⟩) (by assumption) ?nr1_1
    case yr1_1 => (intro w_ hSw; (try dsimp only at hSw); go_simp; (try with_reducible rfl))
    try simp only [Act.put, List.setIfInBounds_toArray, List.set_cons_zero, List.set_cons_succ]
    refine wpAnyH_take (i := 2) (v := ?vr1_2) (Fr.take_at rfl) (by kernel_rfl) (by kernel_rfl) (by kernel_rfl) (fun _ _ _ h => h) (Or.inl ⟨by rfl, ?yr1_2⟩) (by assumption) ?nr1_2
    case yr1_2 => (intro w_ hSw; (try dsimp only at hSw); go_simp; (try with_reducible rfl))
    try simp only [Act.put, List.setIfInBounds_toArray, List.set_cons_zero, List.set_cons_succ]
    refine wpAnyH_ready (rs := [3]) (by kernel_rfl) (by simp) ?_
    refine AllReadyH.cons (Fr.take_at rfl) (fun K hK => ?_) AllReadyH.nil
    go_simp
    (go_at_call 12; refine (HRT.out w5.drew A2 m2 c2 HM2.out HR25.out).mono ?_; rintro e w8 ⟨v, rfl, A8, m8, c8, rfl, hm8, hc8, hown8, hb8⟩; have hy8 := HCS.out w8 A8 m8 c8 T hm8 (Rd.own hown8); have hx8 := HCS.out w8 A4 m4 c4 T HM4.out (HR5.out.below (below_of_drew hb8)); have HB8 := Lib.hid (HB5.out.trans ((below_of_drew hb8).mono HB5.out.size)); clear hm8 hown8 hb8 hc8)
    try go_wp2_with fail
    refine hK.out _ _ (by (first | assumption | go_keep)) (fun hHeld => ?_)
    clear hK K
    try simp only [Act.put, List.setIfInBounds_toArray, List.set_cons_zero, List.set_cons_succ]
    refine wpAnyH_ready (rs := [4]) (by kernel_rfl) (by simp) ?_
    refine AllReadyH.cons (Fr.take_at rfl) (fun K hK => ?_) AllReadyH.nil
    go_simp
    refine hK.out _ _ (by (first | assumption | go_keep)) (fun hHeld => ?_)
    clear hK K
    try simp only [Act.put, List.setIfInBounds_toArray, List.set_cons_zero, List.set_cons_succ]
    refine wpAnyH_take (i := 5) (v := ?vr1_5) (Fr.take_at rfl) (by kernel_rfl) (by kernel_rfl) (by kernel_rfl) (fun _ _ _ h => h) (Or.inl ⟨by rfl, ?yr1_5⟩) (by assumption) ?nr1_5
    case yr1_5 => (intro w_ hSw; (try dsimp only at hSw); go_simp; (try with_reducible rfl))
    try simp only [Act.put, List.setIfInBounds_toArray, List.set_cons_zero, List.set_cons_succ]
    refine wpAnyH_take (i := 6) (v := ?vr1_6) (Fr.take_at rfl) (by kernel_rfl) (by kernel_rfl) (by kernel_rfl) (fun _ _ _ h => h) (Or.inl ⟨by rfl, ?yr1_6⟩) (by assumption) ?nr1_6
    case yr1_6 => (intro w_ hSw; (try dsimp only at hSw); go_simp; (try with_reducible rfl))
    try simp only [Act.put, List.setIfInBounds_toArray, List.set_cons_zero, List.set_cons_succ]
    refine wpAnyH_done (by kernel_rfl) ?_ _
    go_wp2
    go_ret
    exact Mm.Yes.mk HB8.out
  · have hbd := fun W B m d (h1 : L.length = m) (h3 : Rd W B (ev L)) => build_bad (w := W) (A := B) (c := d) hz h0 h1 h3 (by omega)
    have HBD := Lib.hid hbd
    have kz : (z != 0) = true := by simpa using h0
    clear hbd hz
    go_enter Tryd.func3, Tryd.ntmps3
    go_wp2_with (first
      | (go_at_call 8; refine (sawake_any w HT.out).mono ?_; rintro e w1 ⟨rfl, hb1⟩)
      | (go_at_call_of 9 A; refine (HO.out w1 hb1).mono ?_; rintro e w2 ⟨A2, m2, c2, rfl, hm2, hc2, hown2, hb2⟩; have HO2 := Lib.hid (rd_ownN hown2); have HM2 := Lib.hid hm2; have HB2 := Lib.hid (hb1.trans (hb2.mono hb1.size)); clear hm2 hown2 hb1 hb2)
      | (go_at_call_of 9 A2; refine (HC2.out w2 A2 m2 c2 HM2.out hc2 HO2.out).mono ?_; rintro e w3 ⟨A3, m3, c3, rfl, hm3, hc3, hown3, hb3⟩; have HO3 := Lib.hid (rd_ownN hown3); have HM3 := Lib.hid hm3; have HR23 := Lib.hid (HO2.out.below hb3); have HB3 := Lib.hid (HB2.out.trans (hb3.mono HB2.out.size)); clear hm3 hown3 hb3)
      | (go_at_call 10; refine (HBD.out w3 A3 m3 c3 HM3.out HO3.out).mono ?_; rintro e w4 ⟨rfl, hb4⟩; have HR24 := Lib.hid (HR23.out.below hb4); have HB4 := Lib.hid (HB3.out.trans (hb4.mono HB3.out.size)); clear hb4)
      | (go_at_call 11; refine (HRE.out w4 A2 m2 c2 HM2.out HR24.out).mono ?_; rintro e w5 ⟨rfl, hb5⟩; have HB5 := Lib.hid (HB4.out.trans (hb5.mono HB4.out.size)); clear hb5))
    go_ret
    exact Mm.Yes.mk HB5.out
end
end Ss
end Go.Proofs.YtadlhnjnhllpfaaDoor
