/-
  WHAT IS PROVED: BloomOwn answers true. CONDITIONS: what came in stands in memory as named.
-/
import Derived.Test.YtalmjpklfkjbmaaBKeep
import Derived.Deep.Cut
namespace Go.Proofs.Ytalmjpklfkjbmaa
open Go Go.RowKit
namespace Bl
open Go.Proofs.Ytalmjpklfkjbmaa.Fr
def spare : ByteArray := ⟨#[115, 112, 97, 114, 101]⟩
/-- The keys, the room and the second filter lie as they did; x: the first filter's block, which is none of theirs. -/
structure OwH (A2 A5 A7 : Option Addr) (ks : List ByteArray) (F : Bs) (x : Option Nat) (W : World) : Prop where
  keys : Rd W A2 (kv ks)
  room : Rd W A5 (kv (ks ++ [spare]))
  filt : Rd W A7 (bv F)
  tk : ∀ a, A2 = some a → ∃ cs, Mm.Blk W a.block 9 cs
  tr : ∀ a, A5 = some a → ∃ cs, Mm.Blk W a.block 9 cs
  tf : ∀ a, A7 = some a → a.block < W.heap.size ∧ x ≠ some a.block
theorem rd_same {W W' : World} {A : Option Addr} {xs : List Value} (h : Rd W A xs) (hs : W.heap.size ≤ W'.heap.size) (hk : ∀ a, A = some a → W'.heap[a.block]? = W.heap[a.block]?) : Rd W' A xs := fun hx => by
  obtain ⟨b, o, rfl, hb, hc⟩ := h hx
  refine ⟨b, o, rfl, by omega, fun i hi => ?_⟩
  rw [← hc i hi]
  unfold World.cell?
  dsimp only
  rw [hk _ rfl]
theorem OwH.keep {A2 A5 A7 : Option Addr} {ks : List ByteArray} {F : Bs} {x x' : Option Nat} {W W' : World} (h : OwH A2 A5 A7 ks F x W) (hs : W.heap.size ≤ W'.heap.size) (hk : ∀ b, b < W.heap.size → x ≠ some b → W'.heap[b]? = W.heap[b]?)
    (hx : ∀ b, x = some b → ∀ cs, ¬ Mm.Blk W b 9 cs) (hn : ∀ b, x' = some b → x = some b ∨ W.heap.size ≤ b) : OwH A2 A5 A7 ks F x' W' := by
  have e2 : ∀ a, A2 = some a → W'.heap[a.block]? = W.heap[a.block]? := fun a e => by
    obtain ⟨cs, hb⟩ := h.tk a e
    exact hk _ hb.lt fun e' => hx _ e' cs hb
  have e5 : ∀ a, A5 = some a → W'.heap[a.block]? = W.heap[a.block]? := fun a e => by
    obtain ⟨cs, hb⟩ := h.tr a e
    exact hk _ hb.lt fun e' => hx _ e' cs hb
  refine ⟨rd_same h.keys hs e2, rd_same h.room hs e5, rd_same h.filt hs fun a e => hk _ (h.tf a e).1 (h.tf a e).2, fun a e => ?_, fun a e => ?_, fun a e => ?_⟩
  · obtain ⟨cs, hb⟩ := h.tk a e
    exact ⟨cs, hb.same (e2 a e)⟩
  · obtain ⟨cs, hb⟩ := h.tr a e
    exact ⟨cs, hb.same (e5 a e)⟩
  · have h1 := h.tf a e
    refine ⟨by omega, fun e' => ?_⟩
    rcases hn _ e' with h2 | h2
    · exact h1.2 h2
    · omega
theorem OwH.drew {A2 A5 A7 : Option Addr} {ks : List ByteArray} {F : Bs} {x : Option Nat} {W : World} (h : OwH A2 A5 A7 ks F x W) : OwH A2 A5 A7 ks F x W.drew := ⟨h.keys, h.room, h.filt, h.tk, h.tr, h.tf⟩
theorem own_typed {w : World} {base n c : Nat} {A : Option Addr} {e : TypeId} {xs : List Value} (h : w.ownsRow base e 1 (.slice A n c) n xs) : ∀ a, A = some a → ∃ cs, Mm.Blk w a.block e cs := fun a ea => by
  subst ea
  rcases h.2 with ⟨h1, _⟩ | ⟨g, cap, cur, h1, _, h2, _⟩
  · cases h1
  · cases h1
    exact ⟨cur, h2⟩
theorem not_str {W : World} {b : Nat} {cs : Array Value} (h : Mm.Blk W b 5 cs) : ∀ cs', ¬ Mm.Blk W b 9 cs' := fun _ h' => (Mm.Blk.ne h h' (by decide)) rfl
theorem room_rd {w : World} {base n c : Nat} {A : Option Addr} {ks : List ByteArray} (h : w.ownsRow base 9 1 (.slice A n c) n (kv ks ++ [.string ⟨#[115, 112, 97, 114, 101]⟩])) {m : Nat} (hm : ks.length = m) : Rd w A (kv ks) ∧ Rd w A (kv (ks ++ [spare])) := by
  have h2 := Rd.own h
  refine ⟨?_, by simpa [kv, spare] using h2⟩
  have h3 := h2.take m
  rwa [List.take_left' (by rw [kv_len, hm])] at h3
theorem kv_at {W : World} {A : Option Addr} {l : List ByteArray} (h : Rd W A (kv l)) {j : Nat} {q : ByteArray} (hq : l[j]? = some q) : ∃ b o, A = some ⟨b, o, none⟩ ∧ W.cell? ⟨b, o + j, none⟩ = some (.string q) := by
  obtain ⟨hj, rfl⟩ := List.getElem?_eq_some_iff.1 hq
  obtain ⟨b, o, e, hb, hc⟩ := h.at_ (i := j) (by rw [kv_len]; exact hj)
  exact ⟨b, o, e, by rw [hc]; simp [kv]⟩
theorem own_block {w : World} {base n c : Nat} {A : Option Addr} {e : TypeId} {xs : List Value} (h : w.ownsRow base e 1 (.slice A n c) n xs) (hn : 0 < n) : ∃ g cur, A = some ⟨g, 0, none⟩ ∧ base ≤ g ∧ Mm.Blk w g e cur ∧ cur.size = c ∧ n ≤ c ∧ c ≤ maxLen := by
  rcases h.2 with ⟨h1, h2⟩ | ⟨g, cap, cur, h1, h2, h3, h4, hm, h5, _⟩
  · omega
  · cases h1
    exact ⟨g, cur, rfl, h2, h3, by omega, h4, hm⟩
theorem lenK {l : List ByteArray} {m k : Nat} (h : l.length = m) (hn : l.length ≤ k) : m ≤ k := h ▸ hn
section
variable {w : World} {A : Option Addr} {n c : Nat} {ks : List ByteArray} {per : Int}
set_option maxRecDepth 100000 in
set_option maxHeartbeats 2000000 in
theorem owns_any (hl : ks.length = n) (hnc : n ≤ c) (hr : Rd w A (kv ks)) (hs : ∀ s ∈ ks, s.size ≤ maxLen) :
    Calls Try.prog 7 #[.slice A n c, .int .i64 per] w (Yes w) := by
  obtain ⟨i0, hi0, hz, hz1, hz2⟩ := info_parts info_str
  obtain ⟨i8, hi8, hy, hy1, hy2⟩ := info_parts info_u8
  obtain ⟨ks2, hk2⟩ : ∃ ks2, ks2 = ks.take 200 := ⟨_, rfl⟩
  have hs2 : ∀ s ∈ ks2, s.size ≤ maxLen := fun s h => hs s (List.mem_of_mem_take (by rw [← hk2]; exact h))
  have hl2 : ks2.length ≤ 200 := by rw [hk2, List.length_take]; omega
  have hc := fun W hb => cut_any (w := W) (c := c) hl hnc (hr.below (w' := W) hb)
  rw [← hk2] at hc
  have hc2 : ∀ W B m d, ks2.length = m → m ≤ d → Rd W B (kv ks2) → Calls Try.prog 9 #[.slice B m d] W (KRet W ks2) := fun W B m d h1 h2 h3 => by
    have := cut_any h1 h2 h3
    rwa [List.take_of_length_le hl2] at this
  have hB : ∀ W A m c, ks2.length = m → m ≤ c → Rd W A (kv ks2) → Calls Try.prog 10 #[.slice A m c, .int .i64 per] W (MadeRet 5 W (filt (ks2.map (·.toList)) per)) := fun W A m c h1 h2 h3 => build_any h1 h3 hs2 (by omega) h2
  have hRB : ∀ W A m c, ks2.length = m → Rd W A (kv ks2) → Calls Try.prog 11 #[.slice A m c, .int .i64 per] W (MadeRet 5 W (filt (ks2.map (·.toList)) per)) := fun W A m c h1 h3 => rbuild_any h1 h3 hs2 (by omega)
  have hfl := filt_len (ks2.map (·.toList)) per
  have hsz := sizeOf_le (ks2.map (·.toList)).length per (by rw [List.length_map]; exact hl2)
  obtain ⟨F, hF⟩ : ∃ F, F = filt (ks2.map (·.toList)) per := ⟨_, rfl⟩
  rw [← hF] at hB hRB hfl
  have hF6 : 9 ≤ F.length ∧ F.length ≤ 601 := by omega
  obtain ⟨L, hL⟩ : ∃ L, F.length = L := ⟨_, rfl⟩
  rw [hL] at hF6
  obtain ⟨hF6, hF7⟩ := hF6
  have hcs := fun (W : World) => run_str (P := Try.prog) W 25 9 5 Try.underlying25 Try.underlying5 Try.underlying9
  have HC := Lib.hid hc
  have HC2 := Lib.hid hc2
  have HB := Lib.hid hB
  have HRB := Lib.hid hRB
  have HL2 := Lib.hid hl2
  have HL := Lib.hid hL
  have HCS := Lib.hid hcs
  clear hl hr hs hk2 hs2 hl2 hc hc2 hB hRB hfl hsz hF hcs hL
  go_enter Try.func7, Try.ntmps7
  go_wp2_with (first
    | (go_at_call 8; refine (awake_any w).mono ?_; rintro e w1 ⟨rfl, hb1⟩)
    | (go_at_call_of 9 A; refine (HC.out w1 hb1).mono ?_; rintro e w2 ⟨A2, m2, c2, rfl, hm2, hc2, hown2, hb2⟩; have HO2 := Lib.hid hown2; have HM2 := Lib.hid hm2; have HB2 := Lib.hid (hb1.trans (hb2.mono hb1.size)); have hm200 := lenK hm2 HL2.out; clear hm2 hown2 hb1 hb2)
    | (go_at_call_of 9 A2; refine (HC2.out w2 A2 m2 c2 HM2.out hc2 (Rd.own HO2.out)).mono ?_; rintro e w3 ⟨A3, m3, c3, rfl, hm3, hc3, hown3, hb3⟩; obtain rfl : m2 = m3 := HM2.out.symm.trans hm3; have HO3 := Lib.hid hown3; have HR23 := Lib.hid ((Rd.own HO2.out).below hb3); have HS3 := Lib.hid hb3.size; have HB3 := Lib.hid (HB2.out.trans (hb3.mono HB2.out.size)); have HB23 := Lib.hid hb3; clear hm3 hown3 hb3)
    | (at_builtin; refine wpList_app _ rfl (.tmp 16) (.tmp 17) _ rfl w2.heap.size 9 i0 _ 16 Try.underlying22 hi0 hz hz1 hz2 rfl (.slice A3 m2 c3) m2 (kv ks2) rfl (HO3.out.alloc _) (some ⟨w3.heap.size, 0, none⟩) 1 1 [.string ⟨#[115, 112, 97, 114, 101]⟩] rfl rfl (Rd.one _ _ _ _ _ rfl) (by simp [Value.oneCell']) (m2 + 1) rfl (by unfold maxLen; omega) (by omega) (Nat.le_trans HS3.out (by simp)) ?_; intro A5 c5 w5 hown5 hb5 _ _; have hb35 := ((Below.refl w2.heap.size w3).alloc HS3.out (.cells #[.string ⟨#[115, 112, 97, 114, 101]⟩] 9)).trans hb5; have HO5 := Lib.hid hown5; have hc51 := own_cap1 hown5; have hc5 := Nat.le_of_succ_le hc51; have HB25 := Lib.hid (HB23.out.trans hb35); have HR5 := Lib.hid (room_rd hown5 HM2.out).1; clear hown5 hb5 hb35)
    | (go_at_call 10; (with_reducible refine (HB.out w5 A5 m2 c5 HM2.out hc5 HR5.out).mono ?_); rintro e w6 ⟨v, rfl, A6, m6, c6, rfl, hm6, hc6, hown6, hb6⟩; obtain rfl : m6 = L := hm6.symm.trans HL.out; have HO6 := Lib.hid hown6; have HB6 := Lib.hid hb6; have HR56 := Lib.hid (HR5.out.below hb6); clear hm6 hown6 hb6)
    | (go_at_call 10; (with_reducible refine (HB.out w6 A5 m2 c5 HM2.out hc5 HR56.out).mono ?_); rintro e w7 ⟨v, rfl, A7, m7, c7, rfl, hm7, hc7, hown7, hb7⟩; obtain rfl : m6 = m7 := HL.out.symm.trans hm7; have HO7 := Lib.hid hown7; have HB7 := Lib.hid hb7; clear hm7 hown7 hb7))
  have hO : OwH A2 A5 A7 ks2 F (Value.slice A6 m6 c6).ownBlock w7 := by
    have h25 := HB25.out.mono HB2.out.size
    have r2 : Rd w5 A2 (kv ks2) := (Rd.own HO2.out).below HB25.out
    have t2 : ∀ a, A2 = some a → ∃ cs, Mm.Blk w5 a.block 9 cs := fun a e => by
      obtain ⟨cs, h⟩ := own_typed HO2.out a e
      exact ⟨cs, h.same (HB25.out.block _ h.lt)⟩
    have t5 := own_typed HO5.out
    have b57 := HB6.out.trans (HB7.out.mono HB6.out.size)
    refine ⟨r2.below b57, (room_rd HO5.out HM2.out).2.below b57, Rd.own HO7.out, fun a e => ?_, fun a e => ?_, fun a e => ?_⟩
    · obtain ⟨cs, h⟩ := t2 a e
      exact ⟨cs, h.same (b57.block _ h.lt)⟩
    · obtain ⟨cs, h⟩ := t5 a e
      exact ⟨cs, h.same (b57.block _ h.lt)⟩
    · obtain ⟨cs, h⟩ := own_typed HO7.out a e
      refine ⟨h.lt, fun e2 => ?_⟩
      have h7 := (HO7.out.lt a.block (by subst e; rfl)).1
      have h6 := (HO6.out.lt a.block e2).2
      omega
  have hB : Below w.heap.size w w7 := HB2.out.trans ((HB25.out.trans ((HB6.out.trans (HB7.out.mono HB6.out.size)).mono HB25.out.size)).mono HB2.out.size)
  have h6 : w7.ownsRow w5.heap.size 5 1 (.slice A6 m6 c6) m6 (bv F) := own_below HO6.out HB7.out (Nat.le_refl _)
  have h65 : w.heap.size ≤ w5.heap.size := (HB2.out.trans (HB25.out.mono HB2.out.size)).size
  have HOW := Lib.hid hO
  have HBW := Lib.hid hB
  have H6 := Lib.hid h6
  clear hO hB h6 hc6 hc7 hc2 HO2 HO3 HO5 HO6 HO7 HR5 HR56 HR23 HB2 HB3 HB6 HB7 HB23 HB25 HS3
  go_loopw [33] (fun p wr => ∃ i : Nat, i ≤ m2 ∧ p = .int .i64 (i : Int) ∧ Hid (OwH A2 A5 A7 ks2 F (Value.slice A6 m6 c6).ownBlock wr) ∧ Hid (Below w.heap.size w wr) ∧ Hid (wr.ownsRow w5.heap.size 5 1 (.slice A6 m6 c6) m6 (bv F))) (fun p _ => m2 - (intOf p).toNat)
  case atStart => exact ⟨0, Nat.zero_le _, rfl, HOW, HBW, H6⟩
  case round =>
    obtain ⟨i, hi, rfl, HA, HW, HF⟩ := hrel
    by_cases hlt : i < m2
    · obtain ⟨s, hs⟩ : ∃ s, ks2[i]? = some s := ⟨ks2[i]'(by have := HM2.out; omega), List.getElem?_eq_getElem _⟩
      have hs5 : (ks2 ++ [spare])[i]? = some s := by rw [List.getElem?_append_left (by have := HM2.out; omega)]; exact hs
      obtain ⟨b2, o2, rfl, hq2⟩ := kv_at HA.out.keys hs
      obtain ⟨b5, o5, rfl, hq5⟩ := kv_at HA.out.room hs5
      have k1 : (i : Int) < (m2 : Int) := by omega
      have k2 : (0 : Int) ≤ (i : Int) := by omega
      have k3 : (i : Int) < (m2 : Int) + 1 := by omega
      clear hs hs5
      go_upto_region 10 with fail
      refine wp_region_held_drew (S := fun W' => W'.cell? ⟨b2, o2 + i, none⟩ = some (.string s) ∧ W'.cell? ⟨b5, o5 + i, none⟩ = some (.string s)) (by kernel_rfl) (by (exact ⟨hq2, hq5⟩)) (fun hHeld => ?_)
      refine wpAnyH_take (i := 0) (v := ?vr1_0) (Fr.take_at rfl) (by kernel_rfl) (by kernel_rfl) (by kernel_rfl) (fun _ _ _ h => h) (Or.inl ⟨by rfl, ?yr1_0⟩) (by assumption) ?nr1_0
      case yr1_0 => (intro w_ hSw; obtain ⟨q0, q1⟩ := hSw; go_simp; (try with_reducible rfl))
      try simp only [Act.put, List.setIfInBounds_toArray, List.set_cons_zero, List.set_cons_succ]
      refine wpAnyH_take (i := 1) (v := ?vr1_1) (Fr.take_at rfl) (by kernel_rfl) (by kernel_rfl) (by kernel_rfl) (fun _ _ _ h => h) (Or.inl ⟨by rfl, ?yr1_1⟩) (by assumption) ?nr1_1
      case yr1_1 => (intro w_ hSw; obtain ⟨q0, q1⟩ := hSw; go_simp; (try with_reducible rfl))
      try simp only [Act.put, List.setIfInBounds_toArray, List.set_cons_zero, List.set_cons_succ]
      refine wpAnyH_take (i := 2) (v := ?vr1_2) (Fr.take_at rfl) (by kernel_rfl) (by kernel_rfl) (by kernel_rfl) (fun _ _ _ h => h) (Or.inl ⟨by rfl, ?yr1_2⟩) (by assumption) ?nr1_2
      case yr1_2 => (intro w_ hSw; obtain ⟨q0, q1⟩ := hSw; go_simp; (try with_reducible rfl))
      try simp only [Act.put, List.setIfInBounds_toArray, List.set_cons_zero, List.set_cons_succ]
      refine wpAnyH_take (i := 3) (v := ?vr1_3) (Fr.take_at rfl) (by kernel_rfl) (by kernel_rfl) (by kernel_rfl) (fun _ _ _ h => h) (Or.inl ⟨by rfl, ?yr1_3⟩) (by assumption) ?nr1_3
      case yr1_3 => (intro w_ hSw; obtain ⟨q0, q1⟩ := hSw; go_simp; (try with_reducible rfl))
      try simp only [Act.put, List.setIfInBounds_toArray, List.set_cons_zero, List.set_cons_succ]
      refine wpAnyH_take (i := 4) (v := ?vr1_4) (Fr.take_at rfl) (by kernel_rfl) (by kernel_rfl) (by kernel_rfl) (fun _ _ _ h => h) (Or.inl ⟨by rfl, ?yr1_4⟩) (by assumption) ?nr1_4
      case yr1_4 => (intro w_ hSw; obtain ⟨q0, q1⟩ := hSw; go_simp; (try with_reducible rfl))
      try simp only [Act.put, List.setIfInBounds_toArray, List.set_cons_zero, List.set_cons_succ]
      refine wpAnyH_take (i := 5) (v := ?vr1_5) (Fr.take_at rfl) (by kernel_rfl) (by kernel_rfl) (by kernel_rfl) (fun _ _ _ h => h) (Or.inl ⟨by rfl, ?yr1_5⟩) (by assumption) ?nr1_5
      case yr1_5 => (intro w_ hSw; obtain ⟨q0, q1⟩ := hSw; go_simp; (try with_reducible rfl))
      try simp only [Act.put, List.setIfInBounds_toArray, List.set_cons_zero, List.set_cons_succ]
      refine wpAnyH_take (i := 6) (v := ?vr1_6) (Fr.take_at rfl) (by kernel_rfl) (by kernel_rfl) (by kernel_rfl) (fun _ _ _ h => h) (Or.inl ⟨by rfl, ?yr1_6⟩) (by assumption) ?nr1_6
      case yr1_6 => (intro w_ hSw; obtain ⟨q0, q1⟩ := hSw; go_simp; (try with_reducible rfl))
      try simp only [Act.put, List.setIfInBounds_toArray, List.set_cons_zero, List.set_cons_succ]
      refine wpAnyH_take (i := 7) (v := ?vr1_7) (Fr.take_at rfl) (by kernel_rfl) (by kernel_rfl) (by kernel_rfl) (fun _ _ _ h => h) (Or.inl ⟨by rfl, ?yr1_7⟩) (by assumption) ?nr1_7
      case yr1_7 => (intro w_ hSw; obtain ⟨q0, q1⟩ := hSw; go_simp; (try with_reducible rfl))
      try simp only [Act.put, List.setIfInBounds_toArray, List.set_cons_zero, List.set_cons_succ]
      refine wpAnyH_take (i := 8) (v := ?vr1_8) (Fr.take_at rfl) (by kernel_rfl) (by kernel_rfl) (by kernel_rfl) (fun _ _ _ h => h) (Or.inl ⟨by rfl, ?yr1_8⟩) (by assumption) ?nr1_8
      case yr1_8 => (intro w_ hSw; obtain ⟨q0, q1⟩ := hSw; go_simp; (try with_reducible rfl))
      try simp only [Act.put, List.setIfInBounds_toArray, List.set_cons_zero, List.set_cons_succ]
      refine wpAnyH_done (by kernel_rfl) ?_ _
      go_wp2
      go_roundw
      case rel => exact ⟨i + 1, by omega, by simp, Lib.hid HA.out.drew, Lib.hid (below_drewN HW.out 1), Lib.hid HF.out⟩
      case measure => simp [intOf]; omega
    · obtain rfl : i = m2 := by omega
      have k1 : ¬ (i : Int) < (i : Int) := by omega
      obtain ⟨g6, cur0, rfl, hg5, hcur, hcs, hn6, hcm⟩ := own_block HF.out (by omega)
      have HC0 := Lib.hid hcur
      clear hcur
      obtain ⟨wq, hwq⟩ : ∃ wq, wq = wr := ⟨_, rfl⟩
      subst hwq
      go_wp2
      go_loopw [48] (fun p wr => ∃ (j : Nat) (cur : Array Value), j ≤ m6 ∧ p = .int .i64 (j : Int) ∧ Hid (OwH A2 A5 A7 ks2 F (some g6) wr) ∧ Hid (Below w.heap.size w wr) ∧ Hid (Mm.Blk wr g6 5 cur) ∧ cur.size = c6) (fun p _ => m6 - (intOf p).toNat)
      case atStart => exact ⟨0, cur0, Nat.zero_le _, rfl, HA, HW, HC0, hcs⟩
      case round =>
        obtain ⟨j, cur, hj, rfl, HA2, HW2, HCu, hcs2⟩ := hrel
        by_cases hlt2 : j < m6
        · have k2 : (j : Int) < (m6 : Int) := by omega
          have k3 : (0 : Int) ≤ (j : Int) := by omega
          have c1 := (HCu.out.cell j).trans (Array.getElem?_eq_getElem (by omega))
          have f1 := HCu.out.frozen j
          obtain ⟨old, ho⟩ : ∃ old, cur[j]'(by omega) = old := ⟨_, rfl⟩
          rw [ho] at c1
          clear ho
          go_wp2
          go_roundw
          case rel =>
            refine ⟨j + 1, cur.setIfInBounds j (.int .u8 255), by omega, by simp, Lib.hid ?_, Lib.hid (below_set HW2.out (by show w.heap.size ≤ g6; omega) _), Lib.hid (HCu.out.set j _), by simpa using hcs2⟩
            exact HA2.out.keep (by simp [World.setCell]) (fun b _ hb => Below.heap_setCell _ _ _ _ (fun e => hb (by rw [e]))) (fun b e => by cases e; exact not_str HCu.out) (fun b e => .inl e)
          case measure => simp [intOf]; omega
        · obtain rfl : j = m6 := by omega
          have k2 : ¬ (j : Int) < (j : Int) := by omega
          have hrow : wr.ownsRow w5.heap.size 5 1 (.slice (some ⟨g6, 0, none⟩) j c6) j (cur.toList.take j) := ⟨by rw [List.length_take, Array.length_toList]; omega, .inr ⟨g6, c6, cur, rfl, hg5, HCu.out, by omega, hcm, by omega, by rw [Nat.mul_one]⟩⟩
          have HRW := Lib.hid hrow
          clear hrow
          obtain ⟨wp, hwp⟩ : ∃ wp, wp = wr := ⟨_, rfl⟩
          subst hwp
          go_wp2
          go_loopw [6, 10] (fun v p wr => ∃ (k : Nat) (B : Option Addr) (d : Nat) (xs : List Value), k ≤ 20 ∧ p = .int .i64 (k : Int) ∧ v = .slice B (j + k) d ∧ Hid (wr.ownsRow w5.heap.size 5 1 (.slice B (j + k) d) (j + k) xs) ∧ Hid (OwH A2 A5 A7 ks2 F (Value.slice B (j + k) d).ownBlock wr) ∧ Hid (Below w.heap.size w wr)) (fun _ p _ => 20 - (intOf p).toNat)
          case atStart => exact ⟨0, some ⟨g6, 0, none⟩, c6, _, by omega, rfl, rfl, HRW, HA2, HW2⟩
          case round =>
            obtain ⟨k, B, d, xs, hk, rfl, rfl, HRk, HAk, HWk⟩ := hrel
            by_cases hk20 : k < 20
            · have e1 : (k : Int) < 20 := by omega
              have hle : ∀ o : Obj, w5.heap.size ≤ (wr.alloc o).heap.size := fun o => by
                obtain ⟨g, cu, _, h1, h2, _⟩ := own_block HRk.out (by omega)
                have := h2.lt
                simp; omega
              go_wp2_with (at_builtin; refine wpList_app _ rfl (.tmp 59) (.tmp 60) _ rfl w5.heap.size 5 i8 _ 1 Try.underlying25 hi8 hy hy1 hy2 rfl (.slice B (j + k) d) (j + k) xs rfl (HRk.out.alloc _) (some ⟨wr.heap.size, 0, none⟩) 1 1 [.int .u8 1] rfl rfl (Rd.one _ _ _ _ _ rfl) (by simp [Value.oneCell']) (j + (k + 1)) (by omega) (by unfold maxLen; omega) (by omega) (hle _) ?_; intro B2 d2 w8 hown8 hb8 hg8 hn8)
              go_roundw
              case rel =>
                refine ⟨k + 1, B2, d2, _, by omega, by simp, rfl, Lib.hid hown8, Lib.hid ?_, Lib.hid ?_⟩
                · obtain ⟨g, cu, e, h1, h2, _⟩ := own_block HRk.out (by omega)
                  subst e
                  refine HAk.out.keep (by have := hg8.size; simp at this; omega) (fun b hb hne => ?_) (fun b e => ?_) (fun b e => ?_)
                  · refine (hg8.block b (by simp; omega) (fun e => hne e.symm)).trans (Below.heap_alloc wr _ b hb)
                  · cases e
                    exact not_str h2
                  · rcases hn8 with h | h
                    · exact .inl (by rw [← h]; exact e)
                    · rw [h] at e
                      cases e
                      exact .inr (by simp)
                · exact (HWk.out.alloc HWk.out.size _).trans (hb8.mono h65)
              case measure => simp [intOf]; omega
            · obtain rfl : k = 20 := by omega
              have hsp : (ks2 ++ [spare])[i]? = some spare := by
                rw [List.getElem?_append_right (by have := HM2.out; omega), HM2.out, Nat.sub_self]
                rfl
              obtain ⟨b5, o5, rfl, hq5⟩ := kv_at HAk.out.room hsp
              have hq5' : wr.cell? ⟨b5, o5 + i, none⟩ = some (.string ⟨#[115, 112, 97, 114, 101]⟩) := hq5
              have hx4 := HCS.out wr.drew A7 j c7 F HL.out HAk.out.filt.drew
              have k2' : (0 : Int) ≤ (i : Int) := by omega
              have k3 : (i : Int) < (i : Int) + 1 := by omega
              clear hsp hq5
              go_upto_region 22 with fail
              refine wp_region_held_drew (S := fun W => (convert 25 9 (.slice A7 j c7)).run Try.prog W = .ok (.string ⟨F.toArray⟩) W ∧ W.cell? ⟨b5, o5 + i, none⟩ = some (.string ⟨#[115, 112, 97, 114, 101]⟩)) (by kernel_rfl) (by (first | assumption | exact ⟨hx4, hq5'⟩ | exact ⟨by assumption, by assumption⟩)) (fun hHeld => ?_)
              refine wpAnyH_take (i := 0) (v := ?vr2_0) (Fr.take_at rfl) (by kernel_rfl) (by kernel_rfl) (by kernel_rfl) (fun _ _ _ h => h) (Or.inl ⟨by rfl, ?yr2_0⟩) (by assumption) ?nr2_0
              case yr2_0 => (intro w_ hSw; obtain ⟨z0, z1⟩ := hSw; go_simp; (try with_reducible rfl))
              try simp only [Act.put, List.setIfInBounds_toArray, List.set_cons_zero, List.set_cons_succ]
              refine wpAnyH_take (i := 1) (v := ?vr2_1) (Fr.take_at rfl) (by kernel_rfl) (by kernel_rfl) (by kernel_rfl) (fun _ _ _ h => h) (Or.inl ⟨by rfl, ?yr2_1⟩) (by assumption) ?nr2_1
              case yr2_1 => (intro w_ hSw; obtain ⟨z0, z1⟩ := hSw; go_simp; (try with_reducible rfl))
              try simp only [Act.put, List.setIfInBounds_toArray, List.set_cons_zero, List.set_cons_succ]
              refine wpAnyH_take (i := 2) (v := ?vr2_2) (Fr.take_at rfl) (by kernel_rfl) (by kernel_rfl) (by kernel_rfl) (fun _ _ _ h => h) (Or.inl ⟨by rfl, ?yr2_2⟩) (by assumption) ?nr2_2
              case yr2_2 => (intro w_ hSw; obtain ⟨z0, z1⟩ := hSw; go_simp; (try with_reducible rfl))
              try simp only [Act.put, List.setIfInBounds_toArray, List.set_cons_zero, List.set_cons_succ]
              refine wpAnyH_take (i := 3) (v := ?vr2_3) (Fr.take_at rfl) (by kernel_rfl) (by kernel_rfl) (by kernel_rfl) (fun _ _ _ h => h) (Or.inl ⟨by rfl, ?yr2_3⟩) (by assumption) ?nr2_3
              case yr2_3 => (intro w_ hSw; obtain ⟨z0, z1⟩ := hSw; go_simp; (try with_reducible rfl))
              try simp only [Act.put, List.setIfInBounds_toArray, List.set_cons_zero, List.set_cons_succ]
              refine wpAnyH_take (i := 4) (v := ?vr2_4) (Fr.take_at rfl) (by kernel_rfl) (by kernel_rfl) (by kernel_rfl) (fun _ _ _ h => h) (Or.inl ⟨by rfl, ?yr2_4⟩) (by assumption) ?nr2_4
              case yr2_4 => (intro w_ hSw; obtain ⟨z0, z1⟩ := hSw; go_simp; (try with_reducible rfl))
              try simp only [Act.put, List.setIfInBounds_toArray, List.set_cons_zero, List.set_cons_succ]
              refine wpAnyH_take (i := 5) (v := ?vr2_5) (Fr.take_at rfl) (by kernel_rfl) (by kernel_rfl) (by kernel_rfl) (fun _ _ _ h => h) (Or.inl ⟨by rfl, ?yr2_5⟩) (by assumption) ?nr2_5
              case yr2_5 => (intro w_ hSw; obtain ⟨z0, z1⟩ := hSw; go_simp; (try with_reducible rfl))
              try simp only [Act.put, List.setIfInBounds_toArray, List.set_cons_zero, List.set_cons_succ]
              refine wpAnyH_take (i := 6) (v := ?vr2_6) (Fr.take_at rfl) (by kernel_rfl) (by kernel_rfl) (by kernel_rfl) (fun _ _ _ h => h) (Or.inl ⟨by rfl, ?yr2_6⟩) (by assumption) ?nr2_6
              case yr2_6 => (intro w_ hSw; obtain ⟨z0, z1⟩ := hSw; go_simp; (try with_reducible rfl))
              try simp only [Act.put, List.setIfInBounds_toArray, List.set_cons_zero, List.set_cons_succ]
              refine wpAnyH_take (i := 7) (v := ?vr2_7) (Fr.take_at rfl) (by kernel_rfl) (by kernel_rfl) (by kernel_rfl) (fun _ _ _ h => h) (Or.inl ⟨by rfl, ?yr2_7⟩) (by assumption) ?nr2_7
              case yr2_7 => (intro w_ hSw; obtain ⟨z0, z1⟩ := hSw; go_simp; (try with_reducible rfl))
              try simp only [Act.put, List.setIfInBounds_toArray, List.set_cons_zero, List.set_cons_succ]
              refine wpAnyH_take (i := 8) (v := ?vr2_8) (Fr.take_at rfl) (by kernel_rfl) (by kernel_rfl) (by kernel_rfl) (fun _ _ _ h => h) (Or.inl ⟨by rfl, ?yr2_8⟩) (by assumption) ?nr2_8
              case yr2_8 => (intro w_ hSw; obtain ⟨z0, z1⟩ := hSw; go_simp; (try with_reducible rfl))
              try simp only [Act.put, List.setIfInBounds_toArray, List.set_cons_zero, List.set_cons_succ]
              refine wpAnyH_take (i := 9) (v := ?vr2_9) (Fr.take_at rfl) (by kernel_rfl) (by kernel_rfl) (by kernel_rfl) (fun _ _ _ h => h) (Or.inl ⟨by rfl, ?yr2_9⟩) (by assumption) ?nr2_9
              case yr2_9 => (intro w_ hSw; obtain ⟨z0, z1⟩ := hSw; go_simp; (try with_reducible rfl))
              try simp only [Act.put, List.setIfInBounds_toArray, List.set_cons_zero, List.set_cons_succ]
              refine wpAnyH_take (i := 10) (v := ?vr2_10) (Fr.take_at rfl) (by kernel_rfl) (by kernel_rfl) (by kernel_rfl) (fun _ _ _ h => h) (Or.inl ⟨by rfl, ?yr2_10⟩) (by assumption) ?nr2_10
              case yr2_10 => (intro w_ hSw; obtain ⟨z0, z1⟩ := hSw; go_simp; (try with_reducible rfl))
              try simp only [Act.put, List.setIfInBounds_toArray, List.set_cons_zero, List.set_cons_succ]
              refine wpAnyH_ready (rs := [11]) (by kernel_rfl) (by simp) ?_
              refine AllReadyH.cons (Fr.take_at rfl) (fun K hK => ?_) AllReadyH.nil
              go_simp
              (go_at_call 11; refine (HRB.out wr.drew A2 i c2 HM2.out HAk.out.keys.drew).mono ?_; rintro e w8 ⟨v, rfl, A8, m8, c8, rfl, hm8, hc8, hown8, hb8⟩; have hy8 := HCS.out w8 A8 m8 c8 F hm8 (Rd.own hown8); have hx8 := HCS.out w8 A7 j c7 F HL.out (HAk.out.filt.below (below_of_drew hb8)); have hr8 := ((below_of_drew hb8).cell (p := ⟨b5, o5 + i, none⟩) (World.block_lt_of_cell? _ _ hq5')).trans hq5'; have HB8 := Lib.hid (HWk.out.trans ((below_of_drew hb8).mono HWk.out.size)); clear hm8 hown8 hb8 hc8)
              try go_wp2_with fail
              refine hK.out _ _ (by (first | assumption | exact ⟨hx4, hq5'⟩ | exact ⟨by assumption, by assumption⟩)) (fun hHeld => ?_)
              clear hK K
              try simp only [Act.put, List.setIfInBounds_toArray, List.set_cons_zero, List.set_cons_succ]
              refine wpAnyH_ready (rs := [12]) (by kernel_rfl) (by simp) ?_
              refine AllReadyH.cons (Fr.take_at rfl) (fun K hK => ?_) AllReadyH.nil
              go_simp
              refine hK.out _ _ (by (first | assumption | exact ⟨hx4, hq5'⟩ | exact ⟨by assumption, by assumption⟩)) (fun hHeld => ?_)
              clear hK K
              try simp only [Act.put, List.setIfInBounds_toArray, List.set_cons_zero, List.set_cons_succ]
              refine wpAnyH_take (i := 13) (v := ?vr2_13) (Fr.take_at rfl) (by kernel_rfl) (by kernel_rfl) (by kernel_rfl) (fun _ _ _ h => h) (Or.inl ⟨by rfl, ?yr2_13⟩) (by assumption) ?nr2_13
              case yr2_13 => (intro w_ hSw; obtain ⟨z0, z1⟩ := hSw; go_simp; (try with_reducible rfl))
              try simp only [Act.put, List.setIfInBounds_toArray, List.set_cons_zero, List.set_cons_succ]
              refine wpAnyH_take (i := 14) (v := ?vr2_14) (Fr.take_at rfl) (by kernel_rfl) (by kernel_rfl) (by kernel_rfl) (fun _ _ _ h => h) (Or.inl ⟨by rfl, ?yr2_14⟩) (by assumption) ?nr2_14
              case yr2_14 => (intro w_ hSw; obtain ⟨z0, z1⟩ := hSw; go_simp; (try with_reducible rfl))
              try simp only [Act.put, List.setIfInBounds_toArray, List.set_cons_zero, List.set_cons_succ]
              refine wpAnyH_take (i := 15) (v := ?vr2_15) (Fr.take_at rfl) (by kernel_rfl) (by kernel_rfl) (by kernel_rfl) (fun _ _ _ h => h) (Or.inl ⟨by rfl, ?yr2_15⟩) (by assumption) ?nr2_15
              case yr2_15 => (intro w_ hSw; obtain ⟨z0, z1⟩ := hSw; go_simp; (try with_reducible rfl))
              try simp only [Act.put, List.setIfInBounds_toArray, List.set_cons_zero, List.set_cons_succ]
              refine wpAnyH_done (by kernel_rfl) ?_ _
              go_wp2
              go_ret
              exact Yes.mk HB8.out
end
end Bl
end Go.Proofs.Ytalmjpklfkjbmaa
