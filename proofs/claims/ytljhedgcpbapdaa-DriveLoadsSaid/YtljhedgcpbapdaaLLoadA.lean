/-
  WHAT IS PROVED: what 'slices.ContainsFunc' and Load's error answer. CONDITIONS: the names and the files stand in memory as named.
-/
import Derived.Test.YtljhedgcpbapdaaLVals
import Derived.Test.YtljhedgcpbapdaaLLoadP
import Derived.Test.YtljhedgcpbapdaaIterC
namespace Go.Proofs.Ytljhedgcpbapdaa
open Go Go.RowKit Go.Maps Go.Sort Go.Lib Go.Proofs.Ytljhedgcpbapdaa.Fr
namespace Dr
/-- A row of bytes that came in. -/
structure BM where
  A : Option Addr
  n : Nat
  c : Nat
  l : Bs
/-- ROWS OF BYTES IN MEMORY. -/
structure BRows (w : World) (A : Option Addr) (K : List BM) : Prop where
  cell : ∀ i k, K[i]? = some k → ∃ g p, A = some ⟨g, p, none⟩ ∧ g < w.heap.size ∧ w.cell? ⟨g, p + i, none⟩ = some (.slice k.A k.n k.c)
  rows : ∀ k ∈ K, k.l.length = k.n ∧ k.n ≤ k.c ∧ k.n ≤ 140737488351232 ∧ Rd w k.A (bv k.l)
/-- NAMES IN MEMORY. -/
structure Nms (w : World) (A : Option Addr) (ns : List Bs) : Prop where
  r : Rd w A (ns.map encStr)
  s : ∀ x ∈ ns, (⟨x.toArray⟩ : ByteArray).size ≤ maxLen
section
variable {w w' : World} {A : Option Addr} {K : List BM} {ns : List Bs}
theorem BRows.below (h : BRows w A K) (hb : Below w.heap.size w w') : BRows w' A K :=
  ⟨fun i k hk => by
    obtain ⟨g, p, e, h1, h2⟩ := h.cell i k hk
    exact ⟨g, p, e, Nat.lt_of_lt_of_le h1 hb.size, (hb.cell (p := ⟨g, p + i, none⟩) h1).trans h2⟩, fun k hk => by
    obtain ⟨h1, h2, h3, h4⟩ := h.rows k hk
    exact ⟨h1, h2, h3, h4.below hb⟩⟩
theorem Nms.below (h : Nms w A ns) (hb : Below w.heap.size w w') : Nms w' A ns := ⟨h.r.below hb, h.s⟩
theorem Nms.cell (h : Nms w A ns) {i : Nat} {x : Bs} (hi : ns[i]? = some x) : ∃ g p, A = some ⟨g, p, none⟩ ∧ g < w.heap.size ∧ w.cell? ⟨g, p + i, none⟩ = some (.string ⟨x.toArray⟩) := by
  obtain ⟨hlt, rfl⟩ := List.getElem?_eq_some_iff.1 hi
  obtain ⟨g, p, e, h1, h2⟩ := h.r.at_ (i := i) (by rw [List.length_map]; exact hlt)
  exact ⟨g, p, e, h1, h2.trans (by rw [List.getElem_map])⟩
theorem any_false {α : Type} {l : List α} {p : α → Bool} {n : Nat} (h : ∀ j x, j < n → l[j]? = some x → p x = false) (hn : l.length ≤ n) : l.any p = false := by
  rw [List.any_eq_false]
  intro x hx
  obtain ⟨j, hj, rfl⟩ := List.mem_iff_getElem.1 hx
  have := h j _ (by omega) (List.getElem?_eq_getElem hj)
  simp [this]
theorem any_true {α : Type} {l : List α} {p : α → Bool} {i : Nat} {x : α} (h : l[i]? = some x) (hp : p x = true) : l.any p = true := List.any_eq_true.2 ⟨x, List.mem_of_getElem? h, hp⟩
theorem clos1 (s : ByteArray) (w : World) (hs : s.size ≤ maxLen) {b : Bool} (hb : nameOk s.data.toList = b) :
    Calls Try.prog 51 #[.string s] w fun e w' => e = .returned (.bool (!b)) ∧ w = w' := by
  have hc := isName_any s w hs
  rw [hb] at hc
  go_enter Try.func51, Try.ntmps51
  go_wp2_with (go_at_call 47; refine hc.mono ?_; rintro e w' ⟨rfl, rfl⟩)
  go_ret
  exact ⟨rfl, rfl⟩
theorem clos2 (A : Option Addr) (n c : Nat) (w : World) {b : Bool} (hb : decide (262144 < (n : Int)) = b) :
    Calls Try.prog 55 #[.slice A n c] w fun e w' => e = .returned (.bool b) ∧ w = w' := by
  go_enter Try.func55, Try.ntmps55
  go_wp2
  go_ret
  exact ⟨by rw [← hb]; rfl, rfl⟩
def IxRet (b : Bool) (w : World) (e : Ending) (w' : World) : Prop := ∃ r : Int, e = .returned (.int .i64 r) ∧ decide (0 ≤ r) = b ∧ w = w'
theorem idx1 (w : World) (A : Option Addr) (n c : Nat) (ns : List Bs) (hl : ns.length = n) (h : Nms w A ns) (hn : n ≤ 1000000) :
    Calls Try.prog 63 #[.slice A n c, .func (.func 51) #[] #[]] w (IxRet (ns.any fun x => !nameOk x) w) := by
  have HL := Lib.hid hl
  have HN := Lib.hid h
  clear hl h
  go_enter Try.func63, Try.ntmps63
  go_wp2
  go_loop [8] (fun x => ∃ i : Nat, i ≤ n ∧ x = .int .i64 (i : Int) ∧ Hid (∀ j x, j < i → ns[j]? = some x → (!nameOk x) = false)) (fun x => n - (intOf x).toNat)
  case atStart => exact ⟨0, by omega, rfl, fun j x hj => by omega⟩
  case round =>
    obtain ⟨i, hi, rfl, HG⟩ := hrel
    by_cases hlt : i < n
    · obtain ⟨x, hx⟩ : ∃ x, ns[i]? = some x := ⟨ns[i]'(by have := HL.out; omega), List.getElem?_eq_getElem _⟩
      obtain ⟨g, p, rfl, hg, hc⟩ := HN.out.cell hx
      have hs := HN.out.s x (List.mem_of_getElem? hx)
      have HX := Lib.hid hx
      have HS := Lib.hid hs
      have hlt' : (i : Int) < (n : Int) := by omega
      clear hx hs
      cases hb : nameOk x with
      | true =>
        have HB := Lib.hid hb
        clear hb
        go_wp2_with (go_at_call 51; refine (clos1 ⟨x.toArray⟩ w HS.out HB.out).mono ?_; rintro e w' ⟨rfl, rfl⟩)
        go_round
        case rel => exact ⟨i + 1, by omega, by go_num, fun j y hj hy => by
          by_cases e : j = i
          · subst e; rw [HX.out] at hy; cases hy; rw [HB.out]; rfl
          · exact HG.out j y (by omega) hy⟩
        case measure => simp [intOf]; omega
      | false =>
        have HB := Lib.hid hb
        clear hb
        go_wp2_with (go_at_call 51; refine (clos1 ⟨x.toArray⟩ w HS.out HB.out).mono ?_; rintro e w' ⟨rfl, rfl⟩)
        go_ret
        exact ⟨_, rfl, by rw [any_true HX.out (by rw [HB.out]; rfl)]; simp, rfl⟩
    · obtain rfl : i = n := by omega
      go_wp2
      go_ret
      exact ⟨_, rfl, by rw [any_false HG.out (Nat.le_of_eq HL.out)]; rfl, rfl⟩
theorem idx2 (w : World) (A : Option Addr) (n c : Nat) (K : List BM) (hl : K.length = n) (h : BRows w A K) (hn : n ≤ 1000000) :
    Calls Try.prog 65 #[.slice A n c, .func (.func 55) #[] #[]] w (IxRet (K.any fun k => decide (262144 < k.l.length)) w) := by
  have HL := Lib.hid hl
  have HN := Lib.hid h
  clear hl h
  go_enter Try.func65, Try.ntmps65
  go_wp2
  go_loop [8] (fun x => ∃ i : Nat, i ≤ n ∧ x = .int .i64 (i : Int) ∧ Hid (∀ j k, j < i → K[j]? = some k → decide (262144 < k.l.length) = false)) (fun x => n - (intOf x).toNat)
  case atStart => exact ⟨0, by omega, rfl, fun j x hj => by omega⟩
  case round =>
    obtain ⟨i, hi, rfl, HG⟩ := hrel
    by_cases hlt : i < n
    · obtain ⟨k, hk⟩ : ∃ k, K[i]? = some k := ⟨K[i]'(by have := HL.out; omega), List.getElem?_eq_getElem _⟩
      obtain ⟨g, p, rfl, hg, hc⟩ := HN.out.cell i k hk
      have hln := (HN.out.rows k (List.mem_of_getElem? hk)).1
      have HX := Lib.hid hk
      have HLN := Lib.hid hln
      have hlt' : (i : Int) < (n : Int) := by omega
      clear hk hln
      by_cases hb : 262144 < k.n
      · have HB := Lib.hid hb
        clear hb
        go_wp2_with (go_at_call 55; refine (clos2 k.A k.n k.c w (b := true) (decide_eq_true (by have := HB.out; omega))).mono ?_; rintro e w' ⟨rfl, rfl⟩)
        go_ret
        exact ⟨_, rfl, by rw [any_true HX.out (decide_eq_true (by have := HB.out; have := HLN.out; omega))]; simp, rfl⟩
      · have HB := Lib.hid hb
        clear hb
        go_wp2_with (go_at_call 55; refine (clos2 k.A k.n k.c w (b := false) (decide_eq_false (by have := HB.out; omega))).mono ?_; rintro e w' ⟨rfl, rfl⟩)
        go_round
        case rel => exact ⟨i + 1, by omega, by go_num, fun j y hj hy => by
          by_cases e : j = i
          · subst e; rw [HX.out] at hy; cases hy; exact decide_eq_false (by have := HB.out; have := HLN.out; omega)
          · exact HG.out j y (by omega) hy⟩
        case measure => simp [intOf]; omega
    · obtain rfl : i = n := by omega
      go_wp2
      go_ret
      exact ⟨_, rfl, by rw [any_false HG.out (Nat.le_of_eq HL.out)]; rfl, rfl⟩
theorem cmp_any (w : World) (A : Option Addr) (n c : Nat) (zs : List Bs) (hl : zs.length = n) {base : Nat} (hown : w.ownsRow base 9 1 (.slice A n c) n (zs.map encStr)) (hn : n ≤ 1000000) (hb : base ≤ w.heap.size) :
    Calls Try.prog 52 #[.slice A n c] w fun e w' => ∃ A' c', e = .returned (.slice A' (compact zs).length c') ∧ Below base w w' := by
  rcases hown.2 with ⟨hv, hz⟩ | ⟨gb, cap, cur, hv, hbase, hgb, r1, r2, r3, r4⟩
  · have hzs : zs = [] := List.eq_nil_of_length_eq_zero (by omega)
    subst hzs hz
    exact (AnyG.slices_Compact_string_empty Try.compact52 A c w).mono fun e w' ⟨h1, h2⟩ => ⟨A, c, h1, h2 ▸ Below.refl _ _⟩
  · injection hv with h1 h2 h3
    subst h1 h3 hl
    have hH : Holds encStr w gb 0 zs.toArray := holds_of_block hgb (by simpa using r4)
    refine (AnyG.slices_Compact_string Try.compact52 gb 0 c zs w hH (by omega) r1).mono fun e w' ⟨h1, q, h2⟩ => ⟨_, c, h1, ?_⟩
    subst h2
    refine (Below.refl _ _).grown (row := some gb) ⟨rfl, rfl, rfl, by simp, fun k hk hne => ?_⟩ hb fun k hk => by cases hk; exact hbase
    have hgk : gb ≠ k := fun e => hne (by rw [e])
    simp [putRow, mapBlock, Sort.ahead, Array.getElem?_modify, hgk]
theorem con1 (w : World) (A : Option Addr) (n c : Nat) (ns : List Bs) (hl : ns.length = n) (h : Nms w A ns) (hn : n ≤ 1000000) {b : Bool} (hb : (ns.any fun x => !nameOk x) = b) :
    Calls Try.prog 50 #[.slice A n c, .func (.func 51) #[] #[]] w fun e w' => e = .returned (.bool b) ∧ w = w' := by
  have hc := idx1 w A n c ns hl h hn
  rw [hb] at hc
  clear hl h hb
  go_enter Try.func50, Try.ntmps50
  go_wp2_with (go_at_call 63; refine hc.mono ?_; rintro e w' ⟨r, rfl, hr, rfl⟩; have HR := Lib.hid hr; clear hr)
  go_ret
  exact ⟨by rw [← HR.out]; rfl, rfl⟩
theorem con2 (w : World) (A : Option Addr) (n c : Nat) (K : List BM) (hl : K.length = n) (h : BRows w A K) (hn : n ≤ 1000000) {b : Bool} (hb : (K.any fun k => decide (262144 < k.l.length)) = b) :
    Calls Try.prog 54 #[.slice A n c, .func (.func 55) #[] #[]] w fun e w' => e = .returned (.bool b) ∧ w = w' := by
  have hc := idx2 w A n c K hl h hn
  rw [hb] at hc
  clear hl h hb
  go_enter Try.func54, Try.ntmps54
  go_wp2_with (go_at_call 65; refine hc.mono ?_; rintro e w' ⟨r, rfl, hr, rfl⟩; have HR := Lib.hid hr; clear hr)
  go_ret
  exact ⟨by rw [← HR.out]; rfl, rfl⟩
theorem vals_any (A : Option Addr) (n c : Nat) (W : World) : Calls Try.prog 53 #[.slice A n c] W fun e w' => e = .returned (.func (.func 64) #[] #[.pointer (some ⟨W.heap.size, 0, none⟩)]) ∧ w' = W.alloc (.cells #[.slice A n c] 31) :=
  (callsIn_wide (n := 5)).1 (vals_in 5 W)
theorem sortedV_any (A : Option Addr) (n c : Nat) (ns : List Bs) (W : World) (hr : Nms W A ns) (hl : ns.length = n) (hn : n ≤ 1000000) :
    Calls Try.prog 43 #[.func (.func 64) #[] #[.pointer (some ⟨W.heap.size, 0, none⟩)]] (W.alloc (.cells #[.slice A n c] 31)) fun e w' => ∃ A' c', e = .returned (.slice A' n c') ∧ w'.ownsRow (W.heap.size + 1) 9 1 (.slice A' n c') n ((ns.mergeSort fun x y => decide (x ≤ y)).map encStr) ∧ Below W.heap.size W w' ∧ W.heap.size + 1 ≤ w'.heap.size := by
  have hb := (Below.refl W.heap.size W).alloc (Nat.le_refl _) (.cells #[.slice A n c] 31)
  refine ((callsIn_wide (n := 5)).1 (sortedV_in (W.alloc (.cells #[.slice A n c] 31)) (Bm := W.heap.size) (by simp) (by rw [World.cell?_alloc_mark]; rfl) (hr.r.below hb) hl hn)).mono fun e w' ⟨v, h1, h2, h3⟩ => ?_
  obtain ⟨A', c', rfl, _, _⟩ := own_shape h2
  rw [World.size_alloc] at h2
  exact ⟨A', c', h1, h2, hb.trans (h3.mono (by simp)), by have := h3.size; rw [World.size_alloc] at this; exact this⟩
def LeRet (k : Nat) (w : World) (e : Ending) (w' : World) : Prop := e = .returned (.int .i64 (k : Int)) ∧ Below w.heap.size w w'
theorem LeRet.mk {k : Nat} {c : Int} {w w' : World} (hb : Below w.heap.size w w') (h : c = (k : Int)) : LeRet k w (.returned (.int .i64 c)) w' := ⟨by rw [h], hb⟩
set_option maxHeartbeats 1000000 in
theorem loadError_any (w : World) (A : Option Addr) (n c : Nat) (ns : List Bs) (hl : ns.length = n) (h : Nms w A ns) (hn : n ≤ 1000) (A2 : Option Addr) (n2 c2 : Nat) (K : List BM) (hl2 : K.length = n2) (h2 : BRows w A2 K) (hn2 : n2 ≤ 1000) :
    Calls Try.prog 30 #[.slice A n c, .slice A2 n2 c2] w (LeRet (loadErr ns (K.map (·.l))) w) := by
  obtain ⟨r, hr⟩ : ∃ r, loadErr ns (K.map (·.l)) = r := ⟨_, rfl⟩
  rw [hr]
  have HR := Lib.hid hr
  have hr0 := hr
  clear hr
  unfold loadErr at hr0
  rw [List.length_map, hl, hl2] at hr0
  have HL := Lib.hid hl
  have HN := Lib.hid h
  have HF := Lib.hid h2
  have HL2 := Lib.hid hl2
  clear hl h h2 hl2
  by_cases c1 : n = n2
  · subst c1
    rw [if_neg (by simp)] at hr0
    cases hb : ns.any (fun x => !nameOk x) with
    | true =>
      rw [if_pos hb] at hr0
      subst hr0
      have hc := con1 w A n c ns HL.out HN.out (by omega) hb
      have HC := Lib.hid hc
      clear hb hc
      go_enter Try.func30, Try.ntmps30
      go_wp2_with (go_at_call 50; refine HC.out.mono ?_; rintro e w' ⟨rfl, rfl⟩)
      go_ret
      exact LeRet.mk (Below.refl _ _) rfl
    | false =>
      rw [if_neg (by rw [hb]; simp)] at hr0
      have HC := Lib.hid (con1 w A n c ns HL.out HN.out (by omega) hb)
      have HV := Lib.hid (vals_any A n c w)
      have HS := Lib.hid (sortedV_any A n c ns w HN.out HL.out (by omega))
      obtain ⟨m, hm⟩ : ∃ m, (compact (ns.mergeSort fun x y => decide (x ≤ y))).length = m := ⟨_, rfl⟩
      have hmn : m ≤ n := by
        have := compact_le (ns.mergeSort fun x y => decide (x ≤ y))
        rw [List.length_mergeSort, HL.out, hm] at this
        exact this
      have hiff : m = n ↔ ns.Nodup := by have := compact_sorted ns; rw [hm, HL.out] at this; exact this
      have HP : Hid (∀ (W : World) (A' : Option Addr) (c' : Nat), W.ownsRow (w.heap.size + 1) 9 1 (.slice A' n c') n ((ns.mergeSort fun x y => decide (x ≤ y)).map encStr) → w.heap.size + 1 ≤ W.heap.size → Calls Try.prog 52 #[.slice A' n c'] W fun e w' => ∃ A3 c3, e = .returned (.slice A3 m c3) ∧ Below (w.heap.size + 1) W w') := fun W A' c' ho hs => by
        have := cmp_any W A' n c' (ns.mergeSort fun x y => decide (x ≤ y)) (by rw [List.length_mergeSort]; exact HL.out) ho (by omega) hs
        rw [hm] at this
        exact this
      clear hb hm
      by_cases hd : ns.Nodup
      · rw [if_neg (by simpa using hd)] at hr0
        obtain rfl : m = n := hiff.2 hd
        clear hiff hd hmn
        by_cases h256 : 256 < m
        · rw [if_pos (.inl h256)] at hr0
          subst hr0
          go_enter Try.func30, Try.ntmps30
          go_wp2_with (first
            | (go_at_call 50; refine HC.out.mono ?_; rintro e w' ⟨rfl, rfl⟩)
            | (go_at_call 53; refine HV.out.mono ?_; rintro e w' ⟨rfl, rfl⟩)
            | (go_at_call 43; refine HS.out.mono ?_; rintro e w1 ⟨A1, c1, rfl, ho1, hb1, hs1⟩; have HO := Lib.hid ho1; have HB := Lib.hid hb1; have HZ := Lib.hid hs1; clear ho1 hb1 hs1)
            | (go_at_call 52; refine (HP.out _ _ _ HO.out HZ.out).mono ?_; rintro e w2 ⟨A3, c3, rfl, hb2⟩))
          go_ret
          exact LeRet.mk (HB.out.trans (hb2.mono (by omega))) rfl
        · have h256' : ¬ (256 : Int) < (m : Int) := by omega
          cases hf : K.any (fun k => decide (262144 < k.l.length)) with
          | true =>
            rw [if_pos (.inr (by rw [List.any_map]; exact hf))] at hr0
            subst hr0
            have HCF : Hid (∀ W, Below w.heap.size w W → Calls Try.prog 54 #[.slice A2 m c2, .func (.func 55) #[] #[]] W fun e w' => e = .returned (.bool true) ∧ W = w') := fun W k => con2 W A2 m c2 K HL2.out (HF.out.below k) (by omega) hf
            clear hf
            go_enter Try.func30, Try.ntmps30
            go_wp2_with (first
              | (go_at_call 50; refine HC.out.mono ?_; rintro e w' ⟨rfl, rfl⟩)
              | (go_at_call 53; refine HV.out.mono ?_; rintro e w' ⟨rfl, rfl⟩)
              | (go_at_call 43; refine HS.out.mono ?_; rintro e w1 ⟨A1, c1, rfl, ho1, hb1, hs1⟩; have HO := Lib.hid ho1; have HB := Lib.hid hb1; have HZ := Lib.hid hs1; clear ho1 hb1 hs1)
              | (go_at_call 52; refine (HP.out _ _ _ HO.out HZ.out).mono ?_; rintro e w2 ⟨A3, c3, rfl, hb2⟩; have HB2 := Lib.hid hb2; clear hb2)
              | (go_at_call 54; refine (HCF.out _ (HB.out.trans (HB2.out.mono (by omega)))).mono ?_; rintro e w3 ⟨rfl, rfl⟩))
            go_ret
            exact LeRet.mk (HB.out.trans (HB2.out.mono (by omega))) rfl
          | false =>
            rw [if_neg (by rw [List.any_map]; rintro (e | e); (· exact h256 e); exact absurd (hf.symm.trans e) (by decide))] at hr0
            subst hr0
            have HCF : Hid (∀ W, Below w.heap.size w W → Calls Try.prog 54 #[.slice A2 m c2, .func (.func 55) #[] #[]] W fun e w' => e = .returned (.bool false) ∧ W = w') := fun W k => con2 W A2 m c2 K HL2.out (HF.out.below k) (by omega) hf
            clear hf
            go_enter Try.func30, Try.ntmps30
            go_wp2_with (first
              | (go_at_call 50; refine HC.out.mono ?_; rintro e w' ⟨rfl, rfl⟩)
              | (go_at_call 53; refine HV.out.mono ?_; rintro e w' ⟨rfl, rfl⟩)
              | (go_at_call 43; refine HS.out.mono ?_; rintro e w1 ⟨A1, c1, rfl, ho1, hb1, hs1⟩; have HO := Lib.hid ho1; have HB := Lib.hid hb1; have HZ := Lib.hid hs1; clear ho1 hb1 hs1)
              | (go_at_call 52; refine (HP.out _ _ _ HO.out HZ.out).mono ?_; rintro e w2 ⟨A3, c3, rfl, hb2⟩; have HB2 := Lib.hid hb2; clear hb2)
              | (go_at_call 54; refine (HCF.out _ (HB.out.trans (HB2.out.mono (by omega)))).mono ?_; rintro e w3 ⟨rfl, rfl⟩))
            go_ret
            exact LeRet.mk (HB.out.trans (HB2.out.mono (by omega))) rfl
      · rw [if_pos (by simpa using hd)] at hr0
        subst hr0
        have hlt : m < n := by
          have : m ≠ n := fun e => hd (hiff.1 e)
          omega
        clear hiff hd hmn
        go_enter Try.func30, Try.ntmps30
        go_wp2_with (first
          | (go_at_call 50; refine HC.out.mono ?_; rintro e w' ⟨rfl, rfl⟩)
          | (go_at_call 53; refine HV.out.mono ?_; rintro e w' ⟨rfl, rfl⟩)
          | (go_at_call 43; refine HS.out.mono ?_; rintro e w1 ⟨A1, c1, rfl, ho1, hb1, hs1⟩; have HO := Lib.hid ho1; have HB := Lib.hid hb1; have HZ := Lib.hid hs1; clear ho1 hb1 hs1)
          | (go_at_call 52; refine (HP.out _ _ _ HO.out HZ.out).mono ?_; rintro e w2 ⟨A3, c3, rfl, hb2⟩))
        go_ret
        exact LeRet.mk (HB.out.trans (hb2.mono (by omega))) rfl
  · rw [if_pos c1] at hr0
    subst hr0
    have c1' : ¬ (n : Int) = (n2 : Int) := by omega
    go_enter Try.func30, Try.ntmps30
    go_wp2
    go_ret
    exact LeRet.mk (Below.refl _ _) rfl
end
end Dr
end Go.Proofs.Ytljhedgcpbapdaa
