/-
  WHAT IS PROVED: (1) what the reference's Load and twice answer. CONDITIONS: the names and the files stand in memory as named. (2) what every world in the law's 'play' has: the drive, the reference, three boxes; how a call of each and a filling of a box leave it. CONDITIONS: as each lemma names. (3) what the reference's Load answers. CONDITIONS: the names and the files stand in memory as named.
-/
import Derived.Test.YtbfmjonabndhaaaGreatDoorQLLoadA
import Derived.Test.YtbfmjonabndhaaaGreatDoorQRWalkC
import Derived.Test.YtbfmjonabndhaaaGreatDoorQLTell
import Derived.Test.YtbfmjonabndhaaaGreatDoorQRWalkE
namespace Go.Proofs.YtbfmjonabndhaaaGreatDoor
open Go Go.RowKit Go.Maps Go.Proofs.YtbfmjonabndhaaaGreatDoor.Fr
namespace Dr
/-! ### plain: the code behind k names -/
def codeK (ns fs : List Bs) (k : Nat) : Nat := if ¬ (ns.take k).Nodup then 2 else if k ≠ 0 ∧ (256 < ns.length ∨ (fs.take k).any (fun f => decide (262144 < f.length)) = true) then 5 else 0
theorem codeK_cases (ns fs : List Bs) (k : Nat) : codeK ns fs k = 0 ∨ codeK ns fs k = 2 ∨ codeK ns fs k = 5 := by
  unfold codeK
  split
  · exact .inr (.inl rfl)
  · split
    · exact .inr (.inr rfl)
    · exact .inl rfl
section
variable {ns fs : List Bs} {k : Nat} {x f : Bs}
theorem nodup_snoc (hx : ns[k]? = some x) : (ns.take (k + 1)).Nodup ↔ (ns.take k).Nodup ∧ x ∉ ns.take k := by
  rw [List.take_add_one, hx]
  show (ns.take k ++ [x]).Nodup ↔ _
  rw [List.nodup_append]
  constructor
  · rintro ⟨h1, _, h3⟩
    exact ⟨h1, fun h => h3 x h x (by simp) rfl⟩
  · rintro ⟨h1, h2⟩
    exact ⟨h1, by simp, fun a ha b hb e => by simp at hb; subst hb; subst e; exact h2 ha⟩
theorem code_dup (hx : ns[k]? = some x) (hd : x ∈ ns.take k) : codeK ns fs (k + 1) = 2 := by
  unfold codeK
  rw [if_pos fun h => ((nodup_snoc hx).1 h).2 hd]
theorem code_two (hx : ns[k]? = some x) (hc : codeK ns fs k = 2) : codeK ns fs (k + 1) = 2 := by
  have h1 : ¬ (ns.take k).Nodup := fun h => by
    unfold codeK at hc
    rw [if_neg (by simpa using h)] at hc
    split at hc <;> cases hc
  unfold codeK
  rw [if_pos fun h => h1 ((nodup_snoc hx).1 h).1]
theorem nodup_of (hc : codeK ns fs k ≠ 2) : (ns.take k).Nodup := by
  by_cases h : (ns.take k).Nodup
  · exact h
  · unfold codeK at hc; rw [if_pos h] at hc; exact absurd rfl hc
theorem any_snoc (hf : fs[k]? = some f) (p : Bs → Bool) : (fs.take (k + 1)).any p = ((fs.take k).any p || p f) := by
  rw [List.take_add_one, hf]
  simp
theorem code_five (hx : ns[k]? = some x) (hf : fs[k]? = some f) (hd : x ∉ ns.take k) (hc : codeK ns fs k = 5) : codeK ns fs (k + 1) = 5 := by
  have h1 := nodup_of (ns := ns) (fs := fs) (k := k) (by rw [hc]; decide)
  have h2 : k ≠ 0 ∧ (256 < ns.length ∨ (fs.take k).any (fun f => decide (262144 < f.length)) = true) := by
    unfold codeK at hc
    rw [if_neg (by simpa using h1)] at hc
    split at hc
    · assumption
    · cases hc
  unfold codeK
  rw [if_neg (by simpa using (nodup_snoc hx).2 ⟨h1, hd⟩), if_pos ⟨by omega, h2.2.imp id fun e => by rw [any_snoc hf, e]; rfl⟩]
theorem code_big (hx : ns[k]? = some x) (hf : fs[k]? = some f) (hd : x ∉ ns.take k) (hc : codeK ns fs k ≠ 2) (hb : 256 < ns.length ∨ 262144 < f.length) : codeK ns fs (k + 1) = 5 := by
  have h1 := nodup_of hc
  unfold codeK
  rw [if_neg (by simpa using (nodup_snoc hx).2 ⟨h1, hd⟩), if_pos ⟨by omega, hb.imp id fun e => by rw [any_snoc hf, decide_eq_true e, Bool.or_true]⟩]
theorem code_ok (hx : ns[k]? = some x) (hf : fs[k]? = some f) (hd : x ∉ ns.take k) (hc : codeK ns fs k = 0) (h256 : ¬ 256 < ns.length) (hb : ¬ 262144 < f.length) : codeK ns fs (k + 1) = 0 := by
  have h1 := nodup_of (ns := ns) (fs := fs) (k := k) (by rw [hc]; decide)
  have h2 : (fs.take k).any (fun f => decide (262144 < f.length)) = false := by
    by_cases h0 : k = 0
    · subst h0; rfl
    · cases h : (fs.take k).any (fun f => decide (262144 < f.length)) with
      | false => rfl
      | true =>
        unfold codeK at hc
        rw [if_neg (by simpa using h1), if_pos ⟨h0, .inr h⟩] at hc
        cases hc
  unfold codeK
  rw [if_neg (by simpa using (nodup_snoc hx).2 ⟨h1, hd⟩), if_neg]
  rintro ⟨_, e | e⟩
  · exact h256 e
  · rw [any_snoc hf, h2, decide_eq_false hb] at e; cases e
theorem code_all (hl : ns.length = fs.length) (hv : ns.any (fun n => !nameOk n) = false) : loadErr ns fs = codeK ns fs ns.length := by
  unfold loadErr codeK
  rw [if_neg (by simpa using hl), if_neg (by rw [hv]; decide), List.take_of_length_le (Nat.le_refl _), List.take_of_length_le (l := fs) (by omega)]
  by_cases hd : ns.Nodup
  · have hdd : ¬ ¬ ns.Nodup := fun e => e hd
    rw [if_neg hdd, if_neg hdd]
    by_cases h0 : ns.length = 0
    · have e1 : ns = [] := List.eq_nil_of_length_eq_zero h0
      have e2 : fs = [] := List.eq_nil_of_length_eq_zero (by omega)
      subst e1 e2
      rfl
    · by_cases h : 256 < ns.length ∨ fs.any (fun f => decide (262144 < f.length)) = true
      · rw [if_pos h, if_pos ⟨h0, h⟩]
      · rw [if_neg h, if_neg fun e => h e.2]
  · rw [if_pos hd, if_pos hd]
end
/-! ### twice, of names that are all different -/
theorem twice_any (w : World) (A : Option Addr) (n c : Nat) (ns : List Bs) (hl : ns.length = n) (h : Nms w A ns) (hn : n ≤ 1000) (hd : ns.Nodup) :
    Calls Tryz.prog 23 #[.slice A n c] w fun e w' => e = .returned (.bool false) ∧ Below w.heap.size w w' := by
  have HL := Lib.hid hl
  have HN := Lib.hid h
  have HD := Lib.hid hd
  clear hl h hd
  go_enter Tryz.func23, Tryz.ntmps23
  go_wp2
  go_loopw [3] (fun s3 wr => ∃ i : Nat, i ≤ n ∧ s3 = .int .i64 (i : Int) ∧ Below w.heap.size w wr) (fun x _ => n - (intOf x).toNat)
  case atStart => exact ⟨0, by omega, rfl, Below.refl _ _⟩
  case round =>
    obtain ⟨i, hi, rfl, hb⟩ := hrel
    by_cases hlt : i < n
    · obtain ⟨x, hx⟩ : ∃ x, ns[i]? = some x := ⟨ns[i]'(by have := HL.out; omega), List.getElem?_eq_getElem _⟩
      have HX := Lib.hid hx
      have hlt' : (i : Int) < (n : Int) := by omega
      clear hx
      go_wp2
      go_loopw [4] (fun s4 wr => ∃ j : Nat, j ≤ i ∧ s4 = .int .i64 (j : Int) ∧ Below w.heap.size w wr) (fun x _ => i - (intOf x).toNat)
      case atStart => exact ⟨0, by omega, rfl, hb⟩
      case round =>
        clear hb
        obtain ⟨j, hj, rfl, hb⟩ := hrel
        by_cases hltj : j < i
        · obtain ⟨y, hy⟩ : ∃ y, ns[j]? = some y := ⟨ns[j]'(by have := HL.out; omega), List.getElem?_eq_getElem _⟩
          obtain ⟨g, p, rfl, hg, hc⟩ := (HN.out.below hb).cell HX.out
          obtain ⟨g', p', he, hg', hc'⟩ := (HN.out.below hb).cell hy
          cases he
          have hne : (x == y) = false := by
            rw [beq_eq_false_iff_ne]
            intro e
            have h1 := List.pairwise_iff_getElem.1 HD.out j i (by have := HL.out; omega) (by have := HL.out; omega) hltj
            rw [(List.getElem?_eq_some_iff.1 hy).2, (List.getElem?_eq_some_iff.1 HX.out).2] at h1
            exact h1 e.symm
          have hltj' : (j : Int) < (n : Int) := by omega
          have HB := Lib.hid hb
          clear hy hb
          go_upto_region 7 with fail
          refine wp_region_held_drew (S := fun W => W.cell? ⟨g, p + i, none⟩ = some (.string ⟨x.toArray⟩) ∧ W.cell? ⟨g, p + j, none⟩ = some (.string ⟨y.toArray⟩)) (by kernel_rfl) (by (first | exact ⟨by assumption, by assumption⟩ | go_keep)) (fun hHeld => ?_)
          refine wpAnyH_take (i := 0) (v := ?vr1_0) (Fr.take_at rfl) (by kernel_rfl) (by kernel_rfl) (by kernel_rfl) (fun _ _ _ h => h) (Or.inl ⟨by rfl, ?yr1_0⟩) (by assumption) ?nr1_0
          case yr1_0 => (intro w_ hSw; (try dsimp only at hSw); go_simp; (try with_reducible rfl))
          try simp only [Act.put, List.setIfInBounds_toArray, List.set_cons_zero, List.set_cons_succ]
          refine wpAnyH_take (i := 1) (v := ?vr1_1) (Fr.take_at rfl) (by kernel_rfl) (by kernel_rfl) (by kernel_rfl) (fun _ _ _ h => h) (Or.inl ⟨by rfl, ?yr1_1⟩) (by assumption) ?nr1_1
          case yr1_1 => (intro w_ hSw; (try dsimp only at hSw); go_simp; (try with_reducible rfl))
          try simp only [Act.put, List.setIfInBounds_toArray, List.set_cons_zero, List.set_cons_succ]
          refine wpAnyH_take (i := 2) (v := ?vr1_2) (Fr.take_at rfl) (by kernel_rfl) (by kernel_rfl) (by kernel_rfl) (fun _ _ _ h => h) (Or.inl ⟨by rfl, ?yr1_2⟩) (by assumption) ?nr1_2
          case yr1_2 => (intro w_ hSw; (try dsimp only at hSw); go_simp; (try with_reducible rfl))
          try simp only [Act.put, List.setIfInBounds_toArray, List.set_cons_zero, List.set_cons_succ]
          refine wpAnyH_take (i := 3) (v := ?vr1_3) (Fr.take_at rfl) (by kernel_rfl) (by kernel_rfl) (by kernel_rfl) (fun _ _ _ h => h) (Or.inl ⟨by rfl, ?yr1_3⟩) (by assumption) ?nr1_3
          case yr1_3 => (intro w_ hSw; (try dsimp only at hSw); go_simp; (try with_reducible rfl))
          try simp only [Act.put, List.setIfInBounds_toArray, List.set_cons_zero, List.set_cons_succ]
          refine wpAnyH_take (i := 4) (v := ?vr1_4) (Fr.take_at rfl) (by kernel_rfl) (by kernel_rfl) (by kernel_rfl) (fun _ _ _ h => h) (Or.inl ⟨by rfl, ?yr1_4⟩) (by assumption) ?nr1_4
          case yr1_4 => (intro w_ hSw; (try dsimp only at hSw); go_simp; (try with_reducible rfl))
          try simp only [Act.put, List.setIfInBounds_toArray, List.set_cons_zero, List.set_cons_succ]
          refine wpAnyH_take (i := 5) (v := ?vr1_5) (Fr.take_at rfl) (by kernel_rfl) (by kernel_rfl) (by kernel_rfl) (fun _ _ _ h => h) (Or.inl ⟨by rfl, ?yr1_5⟩) (by assumption) ?nr1_5
          case yr1_5 => (intro w_ hSw; (try dsimp only at hSw); go_simp; (try with_reducible rfl))
          try simp only [Act.put, List.setIfInBounds_toArray, List.set_cons_zero, List.set_cons_succ]
          refine wpAnyH_take (i := 6) (v := ?vr1_6) (Fr.take_at rfl) (by kernel_rfl) (by kernel_rfl) (by kernel_rfl) (fun _ _ _ h => h) (Or.inl ⟨by rfl, ?yr1_6⟩) (by assumption) ?nr1_6
          case yr1_6 => (intro w_ hSw; (try dsimp only at hSw); go_simp; (try with_reducible rfl))
          try simp only [Act.put, List.setIfInBounds_toArray, List.set_cons_zero, List.set_cons_succ]
          refine wpAnyH_take (i := 7) (v := ?vr1_7) (Fr.take_at rfl) (by kernel_rfl) (by kernel_rfl) (by kernel_rfl) (fun _ _ _ h => h) (Or.inl ⟨by rfl, ?yr1_7⟩) (by assumption) ?nr1_7
          case yr1_7 => (intro w_ hSw; (try dsimp only at hSw); go_simp; (try with_reducible rfl))
          try simp only [Act.put, List.setIfInBounds_toArray, List.set_cons_zero, List.set_cons_succ]
          refine wpAnyH_take (i := 8) (v := ?vr1_8) (Fr.take_at rfl) (by kernel_rfl) (by kernel_rfl) (by kernel_rfl) (fun _ _ _ h => h) (Or.inl ⟨by rfl, ?yr1_8⟩) (by assumption) ?nr1_8
          case yr1_8 => (intro w_ hSw; (try dsimp only at hSw); go_simp; (try with_reducible rfl))
          try simp only [Act.put, List.setIfInBounds_toArray, List.set_cons_zero, List.set_cons_succ]
          refine wpAnyH_done (by kernel_rfl) ?_ _
          go_wp2
          go_roundw
          case rel => exact ⟨j + 1, by omega, by go_num, HB.out.trans (below_drewN (Below.refl _ _) 1)⟩
          case measure => simp [intOf]; omega
        · obtain rfl : j = i := by omega
          have HB := Lib.hid hb
          clear hb
          go_wp2
          go_roundw
          case rel => exact ⟨j + 1, by omega, by go_num, HB.out⟩
          case measure => simp [intOf]; omega
    · have HB := Lib.hid hb
      clear hb
      go_wp2
      go_ret
      exact ⟨rfl, HB.out⟩
end Dr
end Go.Proofs.YtbfmjonabndhaaaGreatDoor
namespace Go.Proofs.YtbfmjonabndhaaaGreatDoor
open Go Go.RowKit Go.Maps Go.Proofs.YtbfmjonabndhaaaGreatDoor.Fr
namespace Dr

/-- An op of a script. -/
structure POp where
  kind : Int
  name : ByteArray
  tgt : ByteArray
  b : Bs
  n : Int
  ks : List Int
/-- What it leaves. -/
def POp.run (o : POp) (st : St) : St :=
  if o.kind = 1 then (st.append o.name.data.toList o.b).1
  else if o.kind = 2 then (st.sync o.name.data.toList).1
  else if o.kind = 3 then (st.rename o.name.data.toList o.tgt.data.toList).1
  else if o.kind = 4 then (st.delete o.name.data.toList).1
  else if o.kind = 5 then (st.arm o.n).1
  else if o.kind = 6 then st.crash o.ks else st
/-- An op as a value: its rows lie outside S. -/
structure OpAt (w : World) (S : Nat → Prop) (o : POp) (AB : Option Addr) (nB cB : Nat) (AK : Option Addr) (nK cK : Nat) : Prop where
  k0 : -9223372036854775808 ≤ o.kind
  k1 : o.kind ≤ 9223372036854775807
  name : o.name.size ≤ maxLen
  tgt : o.tgt.size ≤ maxLen
  lB : o.b.length = nB
  mB : nB ≤ 140737488351232
  rB : Rd w AB (bv o.b)
  sB : o.b ≠ [] → ∀ a, AB = some a → ¬ S a.block
  n0 : -9223372036854775808 ≤ o.n
  n1 : o.n ≤ 9223372036854775807
  lK : o.ks.length = nK
  cK : nK ≤ cK
  mK : nK ≤ 140737488355328
  rK : Rd w AK (iv o.ks)
  sK : o.ks ≠ [] → ∀ a, AK = some a → ¬ S a.block
  iK : ∀ k ∈ o.ks, -9223372036854775808 ≤ k ∧ k ≤ 9223372036854775807
theorem rd_mod' {w X : World} {S : Nat → Prop} {A : Option Addr} {xs : List Value} (h : Rd w A xs) (hm : Mod S w X) (hS : xs ≠ [] → ∀ a, A = some a → ¬ S a.block) : Rd X A xs := by
  by_cases hx : xs = []
  · subst hx; exact Rd.nil
  · exact Rd.mod h hm (hS hx)
theorem iv_ne {ks : List Int} (h : iv ks ≠ []) : ks ≠ [] := fun e => h (by rw [e]; rfl)
theorem bv_ne {l : Bs} (h : bv l ≠ []) : l ≠ [] := fun e => h (by rw [e]; rfl)
def opV (o : POp) (AB : Option Addr) (nB cB : Nat) (AK : Option Addr) (nK cK : Nat) : Array Value := #[.int .i64 o.kind, .string o.name, .string o.tgt, .slice AB nB cB, .int .i64 o.n, .slice AK nK cK]
def refC (A : Option Addr) (c : Nat) (st : St) : Array Value := #[.slice A st.files.length c, .int .i64 (st.steps : Int), .bool st.armed, .int .i64 (st.left : Int)]
/-- A box of four cells. -/
def Box4 (X : World) (g : Nat) : Prop := ∃ a0 a1 a2 a3, Blk X g 35 #[a0, a1, a2, a3]

section
variable {w X X' : World} {S T : Nat → Prop} {cs : Array Value} {b : Nat} {sd sr : St} {v : Value}
theorem set4_size (W : World) (g : Nat) (a0 a1 a2 a3 : Value) : (set4 W g a0 a1 a2 a3).heap.size = W.heap.size := by simp [set4, World.setCell]
theorem set4_off (W : World) {g k : Nat} (a0 a1 a2 a3 : Value) (hne : k ≠ g) : (set4 W g a0 a1 a2 a3).heap[k]? = W.heap[k]? := by
  unfold set4
  rw [Below.heap_setCell _ _ _ _ hne, Below.heap_setCell _ _ _ _ hne, Below.heap_setCell _ _ _ _ hne, Below.heap_setCell _ _ _ _ hne]
/-- The answer. -/
def PlayRet (S T : Nat → Prop) (w : World) (st : St) (e : Ending) (w' : World) : Prop :=
  ∃ b' S' v' T', e = .returned (.tuple #[.pointer (some ⟨b', 0, none⟩), v', .bool true]) ∧ DriveRep w' S' b' st ∧ RefRep w' T' v' st ∧ (∀ k, S' k → S k ∨ w.heap.size ≤ k) ∧ (∀ k, T' k → T k ∨ w.heap.size ≤ k) ∧ (∀ k, S' k → ¬ T' k) ∧ Mod S w w'
theorem results_tmp_cell_tmp {P : Program} {fn : Func} {p q r : Tmp} {ty : TypeId} (h : fn.results = #[.tmp r, .cell p ty, .tmp q]) (tmps : Array Value) (w : World) (g : Nat) (t : TypeId) (cs : Array Value) (fr : Nat × Nat) (d : TypeDesc) (u v : Value)
    (hr : tmps.getD r undef = u) (hp : tmps.getD p undef = .pointer (some ⟨g, 0, none⟩)) (hq : tmps.getD q undef = v) (hg : w.heap[g]? = some (.cells cs t fr))
    (hu : P.underlying ty = some d) (hd : (match d with | .struct _ | .array _ _ => true | _ => false) = true) (hi : (P.info? ty).map (·.size) = some cs.size) :
    (results fn tmps).run P w = .ok (.tuple #[u, .agg cs, v]) w := by
  have hp' : tmps[p]?.getD undef = .pointer (some ⟨g, 0, none⟩) := by simpa using hp
  have hq' : tmps[q]?.getD undef = v := by simpa using hq
  have hr' : tmps[r]?.getD undef = u := by simpa using hr
  simp [results, h, hp', hq', hr', asAddr, run_loadVar_row w g t ty cs fr d hg hu hd hi]
end
end Dr
end Go.Proofs.YtbfmjonabndhaaaGreatDoor
namespace Go.Proofs.YtbfmjonabndhaaaGreatDoor
open Go Go.RowKit Go.Maps Go.Proofs.YtbfmjonabndhaaaGreatDoor.Fr
namespace Dr
/-- What every world of Load has. -/
structure RlS (w0 : World) (st : St) (A : Option Addr) (c : Nat) (W : World) : Prop where
  ref : ∃ T, RefRep W T (.agg (refC A c st)) st ∧ ∀ k, T k → w0.heap.size + 2 ≤ k
  m : Blk W (w0.heap.size + 1) 35 (refC A c st)
  z : Blk W w0.heap.size 35 #[.slice none 0 0, .int .i64 0, .bool false, .int .i64 0]
  bel : Below w0.heap.size w0 W
def ldSt (ns : List Bs) (K : List BM) (i : Nat) : St := { files := loaded ((ns.zip (K.map (·.l))).take i), steps := 0, armed := false, left := 0 }
def RlInv (w0 : World) (ns : List Bs) (K : List BM) (n : Nat) (s7 s8 : Value) (W : World) : Prop :=
  ∃ (i : Nat) (A : Option Addr) (c : Nat), i ≤ n ∧ s7 = .int .i64 (codeK ns (K.map (·.l)) i : Int) ∧ s8 = .int .i64 (i : Int) ∧ Hid (∀ j x, j < i → ns[j]? = some x → (!nameOk x) = false) ∧ RlS w0 (ldSt ns K i) A c W
/-- The answer. -/
def RlRet (w : World) (k : Nat) (st : St) (e : Ending) (w' : World) : Prop :=
  ∃ A c T, e = .returned (.tuple #[.agg #[.slice A st.files.length c, .int .i64 (st.steps : Int), .bool st.armed, .int .i64 (st.left : Int)], .int .i64 (k : Int)]) ∧ RefRep w' T (.agg (refC A c st)) st ∧ (∀ k, T k → w.heap.size ≤ k) ∧ Below w.heap.size w w'
section
variable {w0 W W' : World} {st : St} {A : Option Addr} {c : Nat}
theorem RlS.below (h : RlS w0 st A c W) (hb : Below W.heap.size W W') : RlS w0 st A c W' :=
  let ⟨T, h1, h2⟩ := h.ref; ⟨⟨T, h1.below hb, h2⟩, h.m.same (hb.block _ h.m.lt), h.z.same (hb.block _ h.z.lt), h.bel.trans (hb.mono h.bel.size)⟩
theorem RlS.drew (h : RlS w0 st A c W) : RlS w0 st A c W.drew := h.below (below_drewN (Below.refl _ _) 1)
theorem RlS.cells (h : RlS w0 st A c W) : W.cell? ⟨w0.heap.size + 1, 0, none⟩ = some (.slice A st.files.length c) ∧ W.cell? ⟨w0.heap.size + 1, 1, none⟩ = some (.int .i64 (st.steps : Int)) ∧ W.cell? ⟨w0.heap.size + 1, 2, none⟩ = some (.bool st.armed) ∧ W.cell? ⟨w0.heap.size + 1, 3, none⟩ = some (.int .i64 (st.left : Int)) := blk_cells4 h.m
/-- No files, and a code. -/
theorem RlRet.none {k : Nat} (hb : Below w0.heap.size w0 W) : RlRet w0 k .empty (.returned (.tuple #[.agg #[.slice .none 0 0, .int .i64 0, .bool false, .int .i64 0], .int .i64 (k : Int)])) W := ⟨.none, 0, fun _ => False, rfl, ⟨_, rfl, ListAt.nil _⟩, fun _ h => h.elim, hb⟩
theorem RlRet.of {e : Ending} {k k' : Nat} {st st' : St} (h : RlRet w0 k st e W) (h1 : k = k') (h2 : st = st') : RlRet w0 k' st' e W := by subst h1 h2; exact h
/-- A file more, stored. -/
theorem RlS.next {st2 : St} {A2 : Option Addr} {c2 : Nat} {T : Nat → Prop} (h : RlS w0 st A c W) (hT : ∀ k, T k → w0.heap.size + 2 ≤ k) (hr : RefRep W' (ext T W W') (.agg (refC A2 c2 st2)) st2) (hb : Below W.heap.size W W') :
    RlS w0 st2 A2 c2 (set4 W' (w0.heap.size + 1) (.slice A2 st2.files.length c2) (.int .i64 (st2.steps : Int)) (.bool st2.armed) (.int .i64 (st2.left : Int))) := by
  have h' := h.below hb
  have hlt := h.m.lt
  have hsz := set4_size W' (w0.heap.size + 1) (.slice A2 st2.files.length c2) (.int .i64 (st2.steps : Int)) (.bool st2.armed) (.int .i64 (st2.left : Int))
  have key : ∀ k, ext T W W' k → w0.heap.size + 2 ≤ k := fun k hk => by
    rcases hk with hk | hk
    · exact hT k hk
    · omega
  exact ⟨⟨_, hr.same (fun k hk => set4_off W' _ _ _ _ (by have := key k hk; omega)) (by rw [hsz]; exact Nat.le_refl _), key⟩, set4_blk h'.m, h'.z.same (set4_off W' _ _ _ _ (by omega)), set4_below h'.bel (by omega)⟩
/-- The answer, its box filled. -/
theorem RlS.ret (h : RlS w0 st A c W) : RlRet w0 0 st (.returned (.tuple #[.agg #[.slice A st.files.length c, .int .i64 (st.steps : Int), .bool st.armed, .int .i64 (st.left : Int)], .int .i64 0])) (set4 W w0.heap.size (.slice A st.files.length c) (.int .i64 (st.steps : Int)) (.bool st.armed) (.int .i64 (st.left : Int))) := by
  obtain ⟨T, h1, h2⟩ := h.ref
  have hsz := set4_size W w0.heap.size (.slice A st.files.length c) (.int .i64 (st.steps : Int)) (.bool st.armed) (.int .i64 (st.left : Int))
  exact ⟨A, c, T, rfl, h1.same (fun k hk => set4_off W _ _ _ _ (by have := h2 k hk; omega)) (by rw [hsz]; exact Nat.le_refl _), fun k hk => by have := h2 k hk; omega, set4_below h.bel (Nat.le_refl _)⟩
theorem ld_all {ns : List Bs} {K : List BM} {n : Nat} (hl : ns.length = n) : ldSt ns K n = loadSt ns (K.map (·.l)) := by
  unfold ldSt loadSt
  rw [List.take_of_length_le (by rw [List.length_zip]; omega)]
theorem find_ld {ns : List Bs} {K : List BM} {i n : Nat} {x : Bs} (hl : ns.length = n) (hl2 : K.length = n) : find (ldSt ns K i).files x = .none ↔ x ∉ ns.take i := by
  have hp := (loadedP ((ns.zip (K.map (·.l))).take i)).names x
  have e : ((ns.zip (K.map (·.l))).take i).map (·.1) = ns.take i := by
    rw [List.map_take, List.map_fst_zip (by rw [List.length_map]; omega)]
  rw [e] at hp
  rw [← hp]
  constructor
  · intro h ⟨f, hf, hn⟩
    exact find_none h f hf hn
  · intro h
    exact findBy_none_of (k := fun f : Fl => f.name) fun f hf hn => h ⟨f, hf, hn⟩
theorem ld_succ {ns : List Bs} {K : List BM} {i : Nat} {x : Bs} {k : BM} (hx : ns[i]? = some x) (hk : K[i]? = some k) : ldSt ns K (i + 1) = { ldSt ns K i with files := put (loadF x k.l) (ldSt ns K i).files } := by
  have h : (ns.zip (K.map (·.l)))[i]? = some (x, k.l) := by rw [List.getElem?_zip_eq_some]; exact ⟨hx, by rw [List.getElem?_map, hk]; rfl⟩
  unfold ldSt
  rw [List.take_add_one, h]
  have := loaded_snoc ((ns.zip (K.map (·.l))).take i) (x, k.l)
  simp only [Option.toList_some] at this ⊢
  rw [this]
theorem ld_few {ns : List Bs} {K : List BM} {i n : Nat} (hl : ns.length = n) (hn : n ≤ 300) : (ldSt ns K i).files.length ≤ 1000 := by
  have := (loadedP ((ns.zip (K.map (·.l))).take i)).len
  rw [List.length_take, List.length_zip] at this
  show (loaded _).length ≤ 1000
  omega
theorem rl_at {ns : List Bs} {K : List BM} {i n : Nat} (h : RlS w0 (ldSt ns K i) A c W) (hl : ns.length = n) (hn : n ≤ 300) (x : Bs) : Calls Tryz.prog 21 #[.agg #[.slice A (ldSt ns K i).files.length c, .int .i64 ((ldSt ns K i).steps : Int), .bool (ldSt ns K i).armed, .int .i64 ((ldSt ns K i).left : Int)], .string ⟨x.toArray⟩] W (RAt W (ldSt ns K i).files x) :=
  let ⟨_, h1, _⟩ := h.ref; at_gen h1 (ld_few hl hn) ⟨x.toArray⟩
theorem at_yes {l : List Fl} {x : Bs} {e : Ending} (h : RAt W l x e W') (hf : find l x ≠ .none) : (∃ j : Nat, e = .returned (.int .i64 (j : Int))) ∧ Below W.heap.size W W' := by
  obtain ⟨hb, ⟨h1, _⟩ | ⟨j, _, _, _, h2⟩⟩ := h
  · exact absurd h1 hf
  · exact ⟨⟨j, h2⟩, hb⟩
theorem at_no {l : List Fl} {x : Bs} {e : Ending} (h : RAt W l x e W') (hf : find l x = .none) : e = .returned (.int .i64 (-1)) ∧ Below W.heap.size W W' := by
  obtain ⟨hb, ⟨_, h1⟩ | ⟨j, _, _, h2, _⟩⟩ := h
  · exact ⟨h1, hb⟩
  · rw [hf] at h2; cases h2
theorem rl_with {ns : List Bs} {K : List BM} {i n : Nat} {x : Bs} {k : BM} (h : RlS w0 (ldSt ns K i) A c W) (hl : ns.length = n) (hn : n ≤ 300) (hx : ns[i]? = some x) (hk : K[i]? = some k) (hkl : k.l.length = k.n) :
    Calls Tryz.prog 22 #[.agg #[.slice A (ldSt ns K i).files.length c, .int .i64 ((ldSt ns K i).steps : Int), .bool (ldSt ns K i).armed, .int .i64 ((ldSt ns K i).left : Int)], .agg #[.string ⟨x.toArray⟩, .string ⟨k.l.toArray⟩, .int .i64 (k.n : Int)]] W fun e W' => ∃ A2 c2, e = .returned (.agg #[.slice A2 (ldSt ns K (i + 1)).files.length c2, .int .i64 ((ldSt ns K (i + 1)).steps : Int), .bool (ldSt ns K (i + 1)).armed, .int .i64 ((ldSt ns K (i + 1)).left : Int)]) ∧ Below W.heap.size W W' ∧
      RlS w0 (ldSt ns K (i + 1)) A2 c2 (set4 W' (w0.heap.size + 1) (.slice A2 (ldSt ns K (i + 1)).files.length c2) (.int .i64 ((ldSt ns K (i + 1)).steps : Int)) (.bool (ldSt ns K (i + 1)).armed) (.int .i64 ((ldSt ns K (i + 1)).left : Int))) := by
  obtain ⟨T, h1, h2⟩ := h.ref
  have hc := with_gen h1 (loadedP _).rising (ld_few hl hn) (loadF x k.l)
  rw [ld_succ hx hk]
  unfold fileV loadF at hc
  rw [hkl] at hc
  refine hc.mono fun e W' ⟨v', h3, h4, h5⟩ => ?_
  have h4' : RefRep W' (Dr.ext T W W') v' { ldSt ns K i with files := put (loadF x k.l) (ldSt ns K i).files } := by unfold loadF; rw [hkl]; exact h4
  obtain ⟨A2, c2, rfl, _, _⟩ := refV_of h4'
  exact ⟨A2, c2, h3, h5, h.next h2 h4' h5⟩
end
/-- What every world of a round has: the name and the file. -/
structure RlN (w0 : World) (g o : Nat) (x : Bs) (gf pf : Nat) (k : BM) (W : World) : Prop where
  bel : Below w0.heap.size w0 W
  n : g < w0.heap.size ∧ w0.cell? ⟨g, o, none⟩ = some (.string ⟨x.toArray⟩)
  f : gf < w0.heap.size ∧ w0.cell? ⟨gf, pf, none⟩ = some (.slice k.A k.n k.c)
  l : k.l.length = k.n
  r : Rd w0 k.A (bv k.l)
section
variable {w0 W W' : World} {g o gf pf : Nat} {x : Bs} {k : BM}
theorem RlN.to (h : RlN w0 g o x gf pf k W) (hb : Below w0.heap.size w0 W') : RlN w0 g o x gf pf k W' := ⟨hb, h.n, h.f, h.l, h.r⟩
theorem RlN.drew (h : RlN w0 g o x gf pf k W) : RlN w0 g o x gf pf k W.drew := h.to (h.bel.trans (below_drewN (Below.refl _ _) 1))
theorem RlN.cells (h : RlN w0 g o x gf pf k W) : W.cell? ⟨g, o, none⟩ = some (.string ⟨x.toArray⟩) ∧ W.cell? ⟨gf, pf, none⟩ = some (.slice k.A k.n k.c) ∧ (convert 28 9 (.slice k.A k.n k.c)).run Tryz.prog W = .ok (.string ⟨k.l.toArray⟩) W :=
  ⟨(h.bel.cell (p := ⟨g, o, none⟩) h.n.1).trans h.n.2, (h.bel.cell (p := ⟨gf, pf, none⟩) h.f.1).trans h.f.2, run_str (P := Tryz.prog) _ 28 9 5 Tryz.underlying28 Tryz.underlying5 Tryz.underlying9 _ k.n k.c k.l h.l (h.r.below h.bel)⟩
end
set_option maxRecDepth 100000 in
set_option maxHeartbeats 4000000 in
theorem rload_any (w : World) (A : Option Addr) (n c : Nat) (ns : List Bs) (hl : ns.length = n) (h : Nms w A ns) (hn : n ≤ 300) (A2 : Option Addr) (c2 : Nat) (K : List BM) (hl2 : K.length = n) (h2 : BRows w A2 K) {kk : Nat} (hkk : loadErr ns (K.map (·.l)) = kk) :
    Calls Tryz.prog 7 #[.slice A n c, .slice A2 n c2] w (RlRet w kk (if kk = 0 then loadSt ns (K.map (·.l)) else .empty)) := by
  have HL := Lib.hid hl
  have HN := Lib.hid h
  have HL2 := Lib.hid hl2
  have HF := Lib.hid h2
  have HKK := Lib.hid hkk
  obtain ⟨stF, hF⟩ : ∃ stF, (if kk = 0 then loadSt ns (K.map (·.l)) else St.empty) = stF := ⟨_, rfl⟩
  rw [hF]
  have HSF := Lib.hid hF
  clear hl h hl2 h2 hkk hF
  go_enter Tryz.func7, Tryz.ntmps7
  go_wp2
  have hb0 : Below w.heap.size w ((w.alloc (.cells #[.slice none 0 0, .int .i64 0, .bool false, .int .i64 0] 35)).alloc (.cells #[.slice none 0 0, .int .i64 0, .bool false, .int .i64 0] 35)) := ((Below.refl _ _).alloc (Nat.le_refl _) _).alloc (by simp) _
  have hS0 : RlS w (ldSt ns K 0) none 0 ((w.alloc (.cells #[.slice none 0 0, .int .i64 0, .bool false, .int .i64 0] 35)).alloc (.cells #[.slice none 0 0, .int .i64 0, .bool false, .int .i64 0] 35)) :=
    ⟨⟨fun _ => False, ⟨_, rfl, ListAt.nil _⟩, fun _ h => h.elim⟩, by rw [show w.heap.size + 1 = (w.alloc (.cells #[.slice none 0 0, .int .i64 0, .bool false, .int .i64 0] 35)).heap.size by simp]; exact Blk.new _ _ _, (Blk.new w _ _).alloc _, hb0⟩
  clear hb0
  go_loopw [7, 8] (RlInv w ns K n) (fun _ x _ => n - (intOf x).toNat)
  case atStart => exact ⟨0, none, 0, by omega, rfl, rfl, fun j x hj => by omega, hS0⟩
  case round =>
    clear hS0
    obtain ⟨i, A5, c5, hi, rfl, rfl, HV, hS⟩ := hrel
    by_cases hlt : i < n
    · obtain ⟨x, hx⟩ : ∃ x, ns[i]? = some x := ⟨ns[i]'(by have := HL.out; omega), List.getElem?_eq_getElem _⟩
      obtain ⟨k, hk⟩ : ∃ k, K[i]? = some k := ⟨K[i]'(by have := HL2.out; omega), List.getElem?_eq_getElem _⟩
      obtain ⟨gn, pn, rfl, hgn, hcn⟩ := HN.out.cell hx
      obtain ⟨gf, pf, rfl, hgf, hcf⟩ := HF.out.cell i k hk
      obtain ⟨hkl, hkc, hkm, hkr⟩ := HF.out.rows k (List.mem_of_getElem? hk)
      have hs := HN.out.s x (List.mem_of_getElem? hx)
      have hR : RlN w gn (pn + i) x gf (pf + i) k wr := ⟨hS.bel, ⟨hgn, hcn⟩, ⟨hgf, hcf⟩, hkl, hkr⟩
      have HX := Lib.hid hx
      have HK := Lib.hid hk
      have HKL := Lib.hid hkl
      have HSZ := Lib.hid hs
      have HS := Lib.hid hS
      have HR := Lib.hid hR
      have hlt' : (i : Int) < (n : Int) := by omega
      obtain ⟨qn, qf, qc⟩ := hR.cells
      have hm4 := hS.m
      obtain ⟨z0, z1, z2, z3⟩ := blk_cells4 hS.z
      obtain ⟨y0, y1, y2, y3⟩ := blk_free4 hS.z
      have HZ := Lib.hid hS.z
      have hcname := fun W => rname_any ⟨x.toArray⟩ W hs
      have HCN := Lib.hid hcname
      clear hx hk hkl hkc hkm hkr hs hcn hcf hcname hm4
      cases hv : nameOk x with
      | false =>
        have HVV := Lib.hid hv
        have HCF : Hid (∀ W, Calls Tryz.prog 20 #[.string ⟨x.toArray⟩] W fun e w' => e = .returned (.bool false) ∧ W = w') := fun W => by have := HCN.out W; rw [show nameOk (⟨x.toArray⟩ : ByteArray).data.toList = false from HVV.out] at this; exact this
        have h20 : kk = 20 := by
          rw [← HKK.out]
          unfold loadErr
          rw [if_neg (by rw [List.length_map, HL.out, HL2.out]; simp), if_pos (any_true HX.out (by rw [HVV.out]; rfl))]
        have H20 := Lib.hid h20
        clear hv h20 hR hS
        go_wp2_with (go_at_call 20; refine (HCF.out _).mono ?_; rintro e w' ⟨rfl, rfl⟩)
        exact bodyPost_ret (results_cell_tmp (by rfl) _ _ _ _ _ _ _ _ (by rfl) (by rfl) (set4_blk HZ.out) Tryz.underlying35 (by rfl) (by kernel_rfl)) rfl (RlRet.of (RlRet.none (k := 20) (set4_below HS.out.bel (Nat.le_refl _))) H20.out.symm (by rw [← HSF.out, H20.out]; rfl))
      | true =>
        have HVV := Lib.hid hv
        have HCF : Hid (∀ W, Calls Tryz.prog 20 #[.string ⟨x.toArray⟩] W fun e w' => e = .returned (.bool true) ∧ W = w') := fun W => by have := HCN.out W; rw [show nameOk (⟨x.toArray⟩ : ByteArray).data.toList = true from HVV.out] at this; exact this
        have HV2 : Hid (∀ j y, j < i + 1 → ns[j]? = some y → (!nameOk y) = false) := fun j y hj hy => by
          by_cases e : j = i
          · subst e; rw [HX.out] at hy; cases hy; rw [HVV.out]; rfl
          · exact HV.out j y (by omega) hy
        have hcc := codeK_cases ns (K.map (·.l)) i
        obtain ⟨kc, hkc⟩ : ∃ kc, codeK ns (K.map (·.l)) i = kc := ⟨_, rfl⟩
        rw [hkc] at hcc ⊢
        have HKC := Lib.hid hkc
        have hfk : (K.map (·.l))[i]? = some k.l := by rw [List.getElem?_map, HK.out]; rfl
        have HFK := Lib.hid hfk
        have hfind := find_ld (i := i) (x := x) HL.out HL2.out
        clear hv hkc hfk hR hS z0 z1 z2 z3 y0 y1 y2 y3
        by_cases hdup : x ∈ ns.take i
        · have HFI : Hid (find (ldSt ns K i).files x ≠ none) := fun e => (hfind.1 e) hdup
          have hnew : codeK ns (K.map (·.l)) (i + 1) = 2 := code_dup HX.out hdup
          have HNEW := Lib.hid hnew
          clear hfind hdup hnew hcc
          go_upto_region 10 with (go_at_call 20; refine (HCF.out _).mono ?_; rintro e w' ⟨rfl, rfl⟩)
          have hBX := Lib.hid (show RlN w gn (pn + i) x gf (pf + i) k wr ∧ RlS w (ldSt ns K i) A5 c5 wr from ⟨HR.out, HS.out⟩)
          refine wp_region_held_drew (S := fun W => RlN w gn (pn + i) x gf (pf + i) k W ∧ RlS w (ldSt ns K i) A5 c5 W) (by kernel_rfl) (by (first | (exact ⟨HR.out, HS.out⟩) | (exact ⟨HR.out.drew, HS.out.drew⟩) | (exact ⟨HR.out.to HS5.out.bel, HS5.out⟩) | assumption)) (fun hHeld => ?_)
          refine wpAnyH_take (i := 0) (v := ?vr1_0) (Fr.take_at rfl) (by kernel_rfl) (by kernel_rfl) (by kernel_rfl) (fun _ _ _ h => h) (Or.inl ⟨by rfl, ?yr1_0⟩) (by assumption) ?nr1_0
          case yr1_0 => (intro w_ hSw; obtain ⟨⟨q0, q1, q2⟩, p0, p1, p2, p3⟩ := And.intro hSw.1.cells hSw.2.cells; go_simp; (try with_reducible rfl))
          try simp only [Act.put, List.setIfInBounds_toArray, List.set_cons_zero, List.set_cons_succ]
          refine wpAnyH_take (i := 1) (v := ?vr1_1) (Fr.take_at rfl) (by kernel_rfl) (by kernel_rfl) (by kernel_rfl) (fun _ _ _ h => h) (Or.inl ⟨by rfl, ?yr1_1⟩) (by assumption) ?nr1_1
          case yr1_1 => (intro w_ hSw; obtain ⟨⟨q0, q1, q2⟩, p0, p1, p2, p3⟩ := And.intro hSw.1.cells hSw.2.cells; go_simp; (try with_reducible rfl))
          try simp only [Act.put, List.setIfInBounds_toArray, List.set_cons_zero, List.set_cons_succ]
          refine wpAnyH_take (i := 2) (v := ?vr1_2) (Fr.take_at rfl) (by kernel_rfl) (by kernel_rfl) (by kernel_rfl) (fun _ _ _ h => h) (Or.inl ⟨by rfl, ?yr1_2⟩) (by assumption) ?nr1_2
          case yr1_2 => (intro w_ hSw; obtain ⟨⟨q0, q1, q2⟩, p0, p1, p2, p3⟩ := And.intro hSw.1.cells hSw.2.cells; go_simp; (try with_reducible rfl))
          try simp only [Act.put, List.setIfInBounds_toArray, List.set_cons_zero, List.set_cons_succ]
          refine wpAnyH_take (i := 3) (v := ?vr1_3) (Fr.take_at rfl) (by kernel_rfl) (by kernel_rfl) (by kernel_rfl) (fun _ _ _ h => h) (Or.inl ⟨by rfl, ?yr1_3⟩) (by assumption) ?nr1_3
          case yr1_3 => (intro w_ hSw; obtain ⟨⟨q0, q1, q2⟩, p0, p1, p2, p3⟩ := And.intro hSw.1.cells hSw.2.cells; go_simp; (try with_reducible rfl))
          try simp only [Act.put, List.setIfInBounds_toArray, List.set_cons_zero, List.set_cons_succ]
          refine wpAnyH_take (i := 4) (v := ?vr1_4) (Fr.take_at rfl) (by kernel_rfl) (by kernel_rfl) (by kernel_rfl) (fun _ _ _ h => h) (Or.inl ⟨by rfl, ?yr1_4⟩) (by assumption) ?nr1_4
          case yr1_4 => (intro w_ hSw; obtain ⟨⟨q0, q1, q2⟩, p0, p1, p2, p3⟩ := And.intro hSw.1.cells hSw.2.cells; go_simp; (try with_reducible rfl))
          try simp only [Act.put, List.setIfInBounds_toArray, List.set_cons_zero, List.set_cons_succ]
          refine wpAnyH_ready (rs := [5]) (by kernel_rfl) (by simp) ?_
          refine AllReadyH.cons (Fr.take_at rfl) (fun K hK => ?_) AllReadyH.nil
          go_simp
          (go_at_call 21; refine (rl_at HS.out.drew HL.out hn x).mono ?_; intro e w5 hat; obtain ⟨⟨j5, rfl⟩, hb5⟩ := at_yes hat HFI.out; have HS5 := Lib.hid (HS.out.drew.below hb5); clear hat)
          try go_wp2_with fail
          refine hK.out _ _ (by (first | (exact ⟨HR.out, HS.out⟩) | (exact ⟨HR.out.drew, HS.out.drew⟩) | (exact ⟨HR.out.to HS5.out.bel, HS5.out⟩) | assumption)) (fun hHeld => ?_)
          clear hK K
          try simp only [Act.put, List.setIfInBounds_toArray, List.set_cons_zero, List.set_cons_succ]
          refine wpAnyH_take (i := 6) (v := ?vr1_6) (Fr.take_at rfl) (by kernel_rfl) (by kernel_rfl) (by kernel_rfl) (fun _ _ _ h => h) (Or.inl ⟨by rfl, ?yr1_6⟩) (by assumption) ?nr1_6
          case yr1_6 => (intro w_ hSw; obtain ⟨⟨q0, q1, q2⟩, p0, p1, p2, p3⟩ := And.intro hSw.1.cells hSw.2.cells; go_simp; (try with_reducible rfl))
          try simp only [Act.put, List.setIfInBounds_toArray, List.set_cons_zero, List.set_cons_succ]
          refine wpAnyH_done (by kernel_rfl) ?_ _
          clear hBX
          have hR5 := HR.out.to HS5.out.bel
          obtain ⟨q0, q1, q2⟩ := hR5.cells
          have HR5 := Lib.hid hR5
          clear hR5
          obtain ⟨p0, p1, p2, p3⟩ := HS5.out.cells
          go_upto_region 15 with fail
          refine wp_region_held_drew (S := RlN w gn (pn + i) x gf (pf + i) k) (by kernel_rfl) (by (first | assumption | (exact HR5.out) | (exact RlN.drew (by assumption)) | (exact HR5.out.to (HS5.out.drew.below hb6).bel) | (exact HR5.out.to hS7.bel))) (fun hHeld => ?_)
          refine wpAnyH_take (i := 1) (v := ?vr2_1) (Fr.take_at rfl) (by kernel_rfl) (by kernel_rfl) (by kernel_rfl) (fun _ _ _ h => h) (Or.inl ⟨by rfl, ?yr2_1⟩) (by assumption) ?nr2_1
          case yr2_1 => (intro w_ hSw; obtain ⟨q0, q1, q2⟩ := hSw.cells; go_simp; (try with_reducible rfl))
          try simp only [Act.put, List.setIfInBounds_toArray, List.set_cons_zero, List.set_cons_succ]
          refine wpAnyH_take (i := 2) (v := ?vr2_2) (Fr.take_at rfl) (by kernel_rfl) (by kernel_rfl) (by kernel_rfl) (fun _ _ _ h => h) (Or.inl ⟨by rfl, ?yr2_2⟩) (by assumption) ?nr2_2
          case yr2_2 => (intro w_ hSw; obtain ⟨q0, q1, q2⟩ := hSw.cells; go_simp; (try with_reducible rfl))
          try simp only [Act.put, List.setIfInBounds_toArray, List.set_cons_zero, List.set_cons_succ]
          refine wpAnyH_take (i := 3) (v := ?vr2_3) (Fr.take_at rfl) (by kernel_rfl) (by kernel_rfl) (by kernel_rfl) (fun _ _ _ h => h) (Or.inl ⟨by rfl, ?yr2_3⟩) (by assumption) ?nr2_3
          case yr2_3 => (intro w_ hSw; obtain ⟨q0, q1, q2⟩ := hSw.cells; go_simp; (try with_reducible rfl))
          try simp only [Act.put, List.setIfInBounds_toArray, List.set_cons_zero, List.set_cons_succ]
          refine wpAnyH_take (i := 4) (v := ?vr2_4) (Fr.take_at rfl) (by kernel_rfl) (by kernel_rfl) (by kernel_rfl) (fun _ _ _ h => h) (Or.inl ⟨by rfl, ?yr2_4⟩) (by assumption) ?nr2_4
          case yr2_4 => (intro w_ hSw; obtain ⟨q0, q1, q2⟩ := hSw.cells; go_simp; (try with_reducible rfl))
          try simp only [Act.put, List.setIfInBounds_toArray, List.set_cons_zero, List.set_cons_succ]
          refine wpAnyH_take (i := 5) (v := ?vr2_5) (Fr.take_at rfl) (by kernel_rfl) (by kernel_rfl) (by kernel_rfl) (fun _ _ _ h => h) (Or.inl ⟨by rfl, ?yr2_5⟩) (by assumption) ?nr2_5
          case yr2_5 => (intro w_ hSw; obtain ⟨q0, q1, q2⟩ := hSw.cells; go_simp; (try with_reducible rfl))
          try simp only [Act.put, List.setIfInBounds_toArray, List.set_cons_zero, List.set_cons_succ]
          refine wpAnyH_take (i := 6) (v := ?vr2_6) (Fr.take_at rfl) (by kernel_rfl) (by kernel_rfl) (by kernel_rfl) (fun _ _ _ h => h) (Or.inl ⟨by rfl, ?yr2_6⟩) (by assumption) ?nr2_6
          case yr2_6 => (intro w_ hSw; obtain ⟨q0, q1, q2⟩ := hSw.cells; go_simp; (try with_reducible rfl))
          try simp only [Act.put, List.setIfInBounds_toArray, List.set_cons_zero, List.set_cons_succ]
          refine wpAnyH_take (i := 7) (v := ?vr2_7) (Fr.take_at rfl) (by kernel_rfl) (by kernel_rfl) (by kernel_rfl) (fun _ _ _ h => h) (Or.inl ⟨by rfl, ?yr2_7⟩) (by assumption) ?nr2_7
          case yr2_7 => (intro w_ hSw; obtain ⟨q0, q1, q2⟩ := hSw.cells; go_simp; (try with_reducible rfl))
          try simp only [Act.put, List.setIfInBounds_toArray, List.set_cons_zero, List.set_cons_succ]
          refine wpAnyH_take (i := 8) (v := ?vr2_8) (Fr.take_at rfl) (by kernel_rfl) (by kernel_rfl) (by kernel_rfl) (fun _ _ _ h => h) (Or.inl ⟨by rfl, ?yr2_8⟩) (by assumption) ?nr2_8
          case yr2_8 => (intro w_ hSw; obtain ⟨q0, q1, q2⟩ := hSw.cells; go_simp; (try with_reducible rfl))
          try simp only [Act.put, List.setIfInBounds_toArray, List.set_cons_zero, List.set_cons_succ]
          refine wpAnyH_take (i := 9) (v := ?vr2_9) (Fr.take_at rfl) (by kernel_rfl) (by kernel_rfl) (by kernel_rfl) (fun _ _ _ h => h) (Or.inl ⟨by rfl, ?yr2_9⟩) (by assumption) ?nr2_9
          case yr2_9 => (intro w_ hSw; obtain ⟨q0, q1, q2⟩ := hSw.cells; go_simp; (try with_reducible rfl))
          try simp only [Act.put, List.setIfInBounds_toArray, List.set_cons_zero, List.set_cons_succ]
          refine wpAnyH_take (i := 10) (v := ?vr2_10) (Fr.take_at rfl) (by kernel_rfl) (by kernel_rfl) (by kernel_rfl) (fun _ _ _ h => h) (Or.inl ⟨by rfl, ?yr2_10⟩) (by assumption) ?nr2_10
          case yr2_10 => (intro w_ hSw; obtain ⟨q0, q1, q2⟩ := hSw.cells; go_simp; (try with_reducible rfl))
          try simp only [Act.put, List.setIfInBounds_toArray, List.set_cons_zero, List.set_cons_succ]
          refine wpAnyH_take (i := 11) (v := ?vr2_11) (Fr.take_at rfl) (by kernel_rfl) (by kernel_rfl) (by kernel_rfl) (fun _ _ _ h => h) (Or.inl ⟨by rfl, ?yr2_11⟩) (by assumption) ?nr2_11
          case yr2_11 => (intro w_ hSw; obtain ⟨q0, q1, q2⟩ := hSw.cells; go_simp; (try with_reducible rfl))
          try simp only [Act.put, List.setIfInBounds_toArray, List.set_cons_zero, List.set_cons_succ]
          refine wpAnyH_take (i := 12) (v := ?vr2_12) (Fr.take_at rfl) (by kernel_rfl) (by kernel_rfl) (by kernel_rfl) (fun _ _ _ h => h) (Or.inl ⟨by rfl, ?yr2_12⟩) (by assumption) ?nr2_12
          case yr2_12 => (intro w_ hSw; obtain ⟨q0, q1, q2⟩ := hSw.cells; go_simp; (try with_reducible rfl))
          try simp only [Act.put, List.setIfInBounds_toArray, List.set_cons_zero, List.set_cons_succ]
          refine wpAnyH_take (i := 13) (v := ?vr2_13) (Fr.take_at rfl) (by kernel_rfl) (by kernel_rfl) (by kernel_rfl) (fun _ _ _ h => h) (Or.inl ⟨by rfl, ?yr2_13⟩) (by assumption) ?nr2_13
          case yr2_13 => (intro w_ hSw; obtain ⟨q0, q1, q2⟩ := hSw.cells; go_simp; (try with_reducible rfl))
          try simp only [Act.put, List.setIfInBounds_toArray, List.set_cons_zero, List.set_cons_succ]
          refine wpAnyH_take (i := 14) (v := ?vr2_14) (Fr.take_at rfl) (by kernel_rfl) (by kernel_rfl) (by kernel_rfl) (fun _ _ _ h => h) (Or.inl ⟨by rfl, ?yr2_14⟩) (by assumption) ?nr2_14
          case yr2_14 => (intro w_ hSw; obtain ⟨q0, q1, q2⟩ := hSw.cells; go_simp; (try with_reducible rfl))
          try simp only [Act.put, List.setIfInBounds_toArray, List.set_cons_zero, List.set_cons_succ]
          refine wpAnyH_take (i := 15) (v := ?vr2_15) (Fr.take_at rfl) (by kernel_rfl) (by kernel_rfl) (by kernel_rfl) (fun _ _ _ h => h) (Or.inl ⟨by rfl, ?yr2_15⟩) (by assumption) ?nr2_15
          case yr2_15 => (intro w_ hSw; obtain ⟨q0, q1, q2⟩ := hSw.cells; go_simp; (try with_reducible rfl))
          try simp only [Act.put, List.setIfInBounds_toArray, List.set_cons_zero, List.set_cons_succ]
          refine wpAnyH_ready (rs := [0]) (by kernel_rfl) (by simp) ?_
          refine AllReadyH.cons (Fr.take_at rfl) (fun K hK => ?_) AllReadyH.nil
          go_simp
          refine hK.out _ _ (by (first | assumption | (exact HR5.out) | (exact RlN.drew (by assumption)) | (exact HR5.out.to (HS5.out.drew.below hb6).bel) | (exact HR5.out.to hS7.bel))) (fun hHeld => ?_)
          clear hK K
          try simp only [Act.put, List.setIfInBounds_toArray, List.set_cons_zero, List.set_cons_succ]
          refine wpAnyH_ready (rs := [16]) (by kernel_rfl) (by simp) ?_
          refine AllReadyH.cons (Fr.take_at rfl) (fun K hK => ?_) AllReadyH.nil
          go_simp
          (go_at_call 22; refine (rl_with HS5.out.drew HL.out hn HX.out HK.out HKL.out).mono ?_; rintro e w6 ⟨A6, c6, rfl, hb6, hS7⟩; have hm6 := (HS5.out.drew.below hb6).m; obtain ⟨m0, m1, m2, m3⟩ := blk_cells4 hm6; obtain ⟨f0, f1, f2, f3⟩ := blk_free4 hm6; clear hm6)
          try go_wp2_with fail
          refine hK.out _ _ (by (first | assumption | (exact HR5.out) | (exact RlN.drew (by assumption)) | (exact HR5.out.to (HS5.out.drew.below hb6).bel) | (exact HR5.out.to hS7.bel))) (fun hHeld => ?_)
          clear hK K
          try simp only [Act.put, List.setIfInBounds_toArray, List.set_cons_zero, List.set_cons_succ]
          refine wpAnyH_ready (rs := [17]) (by kernel_rfl) (by simp) ?_
          refine AllReadyH.cons (Fr.take_at rfl) (fun K hK => ?_) AllReadyH.nil
          go_simp
          refine hK.out _ _ (by (first | assumption | (exact HR5.out) | (exact RlN.drew (by assumption)) | (exact HR5.out.to (HS5.out.drew.below hb6).bel) | (exact HR5.out.to hS7.bel))) (fun hHeld => ?_)
          clear hK K
          try simp only [Act.put, List.setIfInBounds_toArray, List.set_cons_zero, List.set_cons_succ]
          refine wpAnyH_done (by kernel_rfl) ?_ _
          go_wp2
          go_roundw
          case rel => exact ⟨i + 1, A6, c6, by omega, by rw [HNEW.out]; rfl, by go_num, HV2, hS7⟩
          case measure => simp [intOf]; omega
        · have HFI : Hid (find (ldSt ns K i).files x = none) := hfind.2 hdup
          have HDUP := Lib.hid hdup
          clear hfind hdup
          rcases hcc with rfl | rfl | rfl
          · by_cases h256 : 256 < n
            · have hnew : codeK ns (K.map (·.l)) (i + 1) = 5 := code_big HX.out HFK.out HDUP.out (by rw [HKC.out]; decide) (.inl (by rw [HL.out]; exact h256))
              have HNEW := Lib.hid hnew
              have h256' : (256 : Int) < (n : Int) := by omega
              clear hnew
              go_upto_region 10 with (go_at_call 20; refine (HCF.out _).mono ?_; rintro e w' ⟨rfl, rfl⟩)
              have hBX := Lib.hid (show RlN w gn (pn + i) x gf (pf + i) k wr ∧ RlS w (ldSt ns K i) A5 c5 wr from ⟨HR.out, HS.out⟩)
              refine wp_region_held_drew (S := fun W => RlN w gn (pn + i) x gf (pf + i) k W ∧ RlS w (ldSt ns K i) A5 c5 W) (by kernel_rfl) (by (first | (exact ⟨HR.out, HS.out⟩) | (exact ⟨HR.out.drew, HS.out.drew⟩) | (exact ⟨HR.out.to HS5.out.bel, HS5.out⟩) | assumption)) (fun hHeld => ?_)
              refine wpAnyH_take (i := 0) (v := ?vr3_0) (Fr.take_at rfl) (by kernel_rfl) (by kernel_rfl) (by kernel_rfl) (fun _ _ _ h => h) (Or.inl ⟨by rfl, ?yr3_0⟩) (by assumption) ?nr3_0
              case yr3_0 => (intro w_ hSw; obtain ⟨⟨q0, q1, q2⟩, p0, p1, p2, p3⟩ := And.intro hSw.1.cells hSw.2.cells; go_simp; (try with_reducible rfl))
              try simp only [Act.put, List.setIfInBounds_toArray, List.set_cons_zero, List.set_cons_succ]
              refine wpAnyH_take (i := 1) (v := ?vr3_1) (Fr.take_at rfl) (by kernel_rfl) (by kernel_rfl) (by kernel_rfl) (fun _ _ _ h => h) (Or.inl ⟨by rfl, ?yr3_1⟩) (by assumption) ?nr3_1
              case yr3_1 => (intro w_ hSw; obtain ⟨⟨q0, q1, q2⟩, p0, p1, p2, p3⟩ := And.intro hSw.1.cells hSw.2.cells; go_simp; (try with_reducible rfl))
              try simp only [Act.put, List.setIfInBounds_toArray, List.set_cons_zero, List.set_cons_succ]
              refine wpAnyH_take (i := 2) (v := ?vr3_2) (Fr.take_at rfl) (by kernel_rfl) (by kernel_rfl) (by kernel_rfl) (fun _ _ _ h => h) (Or.inl ⟨by rfl, ?yr3_2⟩) (by assumption) ?nr3_2
              case yr3_2 => (intro w_ hSw; obtain ⟨⟨q0, q1, q2⟩, p0, p1, p2, p3⟩ := And.intro hSw.1.cells hSw.2.cells; go_simp; (try with_reducible rfl))
              try simp only [Act.put, List.setIfInBounds_toArray, List.set_cons_zero, List.set_cons_succ]
              refine wpAnyH_take (i := 3) (v := ?vr3_3) (Fr.take_at rfl) (by kernel_rfl) (by kernel_rfl) (by kernel_rfl) (fun _ _ _ h => h) (Or.inl ⟨by rfl, ?yr3_3⟩) (by assumption) ?nr3_3
              case yr3_3 => (intro w_ hSw; obtain ⟨⟨q0, q1, q2⟩, p0, p1, p2, p3⟩ := And.intro hSw.1.cells hSw.2.cells; go_simp; (try with_reducible rfl))
              try simp only [Act.put, List.setIfInBounds_toArray, List.set_cons_zero, List.set_cons_succ]
              refine wpAnyH_take (i := 4) (v := ?vr3_4) (Fr.take_at rfl) (by kernel_rfl) (by kernel_rfl) (by kernel_rfl) (fun _ _ _ h => h) (Or.inl ⟨by rfl, ?yr3_4⟩) (by assumption) ?nr3_4
              case yr3_4 => (intro w_ hSw; obtain ⟨⟨q0, q1, q2⟩, p0, p1, p2, p3⟩ := And.intro hSw.1.cells hSw.2.cells; go_simp; (try with_reducible rfl))
              try simp only [Act.put, List.setIfInBounds_toArray, List.set_cons_zero, List.set_cons_succ]
              refine wpAnyH_ready (rs := [5]) (by kernel_rfl) (by simp) ?_
              refine AllReadyH.cons (Fr.take_at rfl) (fun K hK => ?_) AllReadyH.nil
              go_simp
              (go_at_call 21; refine (rl_at HS.out.drew HL.out hn x).mono ?_; intro e w5 hat; obtain ⟨rfl, hb5⟩ := at_no hat HFI.out; have HS5 := Lib.hid (HS.out.drew.below hb5); clear hat)
              try go_wp2_with fail
              refine hK.out _ _ (by (first | (exact ⟨HR.out, HS.out⟩) | (exact ⟨HR.out.drew, HS.out.drew⟩) | (exact ⟨HR.out.to HS5.out.bel, HS5.out⟩) | assumption)) (fun hHeld => ?_)
              clear hK K
              try simp only [Act.put, List.setIfInBounds_toArray, List.set_cons_zero, List.set_cons_succ]
              refine wpAnyH_take (i := 6) (v := ?vr3_6) (Fr.take_at rfl) (by kernel_rfl) (by kernel_rfl) (by kernel_rfl) (fun _ _ _ h => h) (Or.inl ⟨by rfl, ?yr3_6⟩) (by assumption) ?nr3_6
              case yr3_6 => (intro w_ hSw; obtain ⟨⟨q0, q1, q2⟩, p0, p1, p2, p3⟩ := And.intro hSw.1.cells hSw.2.cells; go_simp; (try with_reducible rfl))
              try simp only [Act.put, List.setIfInBounds_toArray, List.set_cons_zero, List.set_cons_succ]
              refine wpAnyH_done (by kernel_rfl) ?_ _
              clear hBX
              have hR5 := HR.out.to HS5.out.bel
              obtain ⟨q0, q1, q2⟩ := hR5.cells
              have HR5 := Lib.hid hR5
              clear hR5
              obtain ⟨p0, p1, p2, p3⟩ := HS5.out.cells
              go_upto_region 15 with fail
              refine wp_region_held_drew (S := RlN w gn (pn + i) x gf (pf + i) k) (by kernel_rfl) (by (first | assumption | (exact HR5.out) | (exact RlN.drew (by assumption)) | (exact HR5.out.to (HS5.out.drew.below hb6).bel) | (exact HR5.out.to hS7.bel))) (fun hHeld => ?_)
              refine wpAnyH_take (i := 1) (v := ?vr4_1) (Fr.take_at rfl) (by kernel_rfl) (by kernel_rfl) (by kernel_rfl) (fun _ _ _ h => h) (Or.inl ⟨by rfl, ?yr4_1⟩) (by assumption) ?nr4_1
              case yr4_1 => (intro w_ hSw; obtain ⟨q0, q1, q2⟩ := hSw.cells; go_simp; (try with_reducible rfl))
              try simp only [Act.put, List.setIfInBounds_toArray, List.set_cons_zero, List.set_cons_succ]
              refine wpAnyH_take (i := 2) (v := ?vr4_2) (Fr.take_at rfl) (by kernel_rfl) (by kernel_rfl) (by kernel_rfl) (fun _ _ _ h => h) (Or.inl ⟨by rfl, ?yr4_2⟩) (by assumption) ?nr4_2
              case yr4_2 => (intro w_ hSw; obtain ⟨q0, q1, q2⟩ := hSw.cells; go_simp; (try with_reducible rfl))
              try simp only [Act.put, List.setIfInBounds_toArray, List.set_cons_zero, List.set_cons_succ]
              refine wpAnyH_take (i := 3) (v := ?vr4_3) (Fr.take_at rfl) (by kernel_rfl) (by kernel_rfl) (by kernel_rfl) (fun _ _ _ h => h) (Or.inl ⟨by rfl, ?yr4_3⟩) (by assumption) ?nr4_3
              case yr4_3 => (intro w_ hSw; obtain ⟨q0, q1, q2⟩ := hSw.cells; go_simp; (try with_reducible rfl))
              try simp only [Act.put, List.setIfInBounds_toArray, List.set_cons_zero, List.set_cons_succ]
              refine wpAnyH_take (i := 4) (v := ?vr4_4) (Fr.take_at rfl) (by kernel_rfl) (by kernel_rfl) (by kernel_rfl) (fun _ _ _ h => h) (Or.inl ⟨by rfl, ?yr4_4⟩) (by assumption) ?nr4_4
              case yr4_4 => (intro w_ hSw; obtain ⟨q0, q1, q2⟩ := hSw.cells; go_simp; (try with_reducible rfl))
              try simp only [Act.put, List.setIfInBounds_toArray, List.set_cons_zero, List.set_cons_succ]
              refine wpAnyH_take (i := 5) (v := ?vr4_5) (Fr.take_at rfl) (by kernel_rfl) (by kernel_rfl) (by kernel_rfl) (fun _ _ _ h => h) (Or.inl ⟨by rfl, ?yr4_5⟩) (by assumption) ?nr4_5
              case yr4_5 => (intro w_ hSw; obtain ⟨q0, q1, q2⟩ := hSw.cells; go_simp; (try with_reducible rfl))
              try simp only [Act.put, List.setIfInBounds_toArray, List.set_cons_zero, List.set_cons_succ]
              refine wpAnyH_take (i := 6) (v := ?vr4_6) (Fr.take_at rfl) (by kernel_rfl) (by kernel_rfl) (by kernel_rfl) (fun _ _ _ h => h) (Or.inl ⟨by rfl, ?yr4_6⟩) (by assumption) ?nr4_6
              case yr4_6 => (intro w_ hSw; obtain ⟨q0, q1, q2⟩ := hSw.cells; go_simp; (try with_reducible rfl))
              try simp only [Act.put, List.setIfInBounds_toArray, List.set_cons_zero, List.set_cons_succ]
              refine wpAnyH_take (i := 7) (v := ?vr4_7) (Fr.take_at rfl) (by kernel_rfl) (by kernel_rfl) (by kernel_rfl) (fun _ _ _ h => h) (Or.inl ⟨by rfl, ?yr4_7⟩) (by assumption) ?nr4_7
              case yr4_7 => (intro w_ hSw; obtain ⟨q0, q1, q2⟩ := hSw.cells; go_simp; (try with_reducible rfl))
              try simp only [Act.put, List.setIfInBounds_toArray, List.set_cons_zero, List.set_cons_succ]
              refine wpAnyH_take (i := 8) (v := ?vr4_8) (Fr.take_at rfl) (by kernel_rfl) (by kernel_rfl) (by kernel_rfl) (fun _ _ _ h => h) (Or.inl ⟨by rfl, ?yr4_8⟩) (by assumption) ?nr4_8
              case yr4_8 => (intro w_ hSw; obtain ⟨q0, q1, q2⟩ := hSw.cells; go_simp; (try with_reducible rfl))
              try simp only [Act.put, List.setIfInBounds_toArray, List.set_cons_zero, List.set_cons_succ]
              refine wpAnyH_take (i := 9) (v := ?vr4_9) (Fr.take_at rfl) (by kernel_rfl) (by kernel_rfl) (by kernel_rfl) (fun _ _ _ h => h) (Or.inl ⟨by rfl, ?yr4_9⟩) (by assumption) ?nr4_9
              case yr4_9 => (intro w_ hSw; obtain ⟨q0, q1, q2⟩ := hSw.cells; go_simp; (try with_reducible rfl))
              try simp only [Act.put, List.setIfInBounds_toArray, List.set_cons_zero, List.set_cons_succ]
              refine wpAnyH_take (i := 10) (v := ?vr4_10) (Fr.take_at rfl) (by kernel_rfl) (by kernel_rfl) (by kernel_rfl) (fun _ _ _ h => h) (Or.inl ⟨by rfl, ?yr4_10⟩) (by assumption) ?nr4_10
              case yr4_10 => (intro w_ hSw; obtain ⟨q0, q1, q2⟩ := hSw.cells; go_simp; (try with_reducible rfl))
              try simp only [Act.put, List.setIfInBounds_toArray, List.set_cons_zero, List.set_cons_succ]
              refine wpAnyH_take (i := 11) (v := ?vr4_11) (Fr.take_at rfl) (by kernel_rfl) (by kernel_rfl) (by kernel_rfl) (fun _ _ _ h => h) (Or.inl ⟨by rfl, ?yr4_11⟩) (by assumption) ?nr4_11
              case yr4_11 => (intro w_ hSw; obtain ⟨q0, q1, q2⟩ := hSw.cells; go_simp; (try with_reducible rfl))
              try simp only [Act.put, List.setIfInBounds_toArray, List.set_cons_zero, List.set_cons_succ]
              refine wpAnyH_take (i := 12) (v := ?vr4_12) (Fr.take_at rfl) (by kernel_rfl) (by kernel_rfl) (by kernel_rfl) (fun _ _ _ h => h) (Or.inl ⟨by rfl, ?yr4_12⟩) (by assumption) ?nr4_12
              case yr4_12 => (intro w_ hSw; obtain ⟨q0, q1, q2⟩ := hSw.cells; go_simp; (try with_reducible rfl))
              try simp only [Act.put, List.setIfInBounds_toArray, List.set_cons_zero, List.set_cons_succ]
              refine wpAnyH_take (i := 13) (v := ?vr4_13) (Fr.take_at rfl) (by kernel_rfl) (by kernel_rfl) (by kernel_rfl) (fun _ _ _ h => h) (Or.inl ⟨by rfl, ?yr4_13⟩) (by assumption) ?nr4_13
              case yr4_13 => (intro w_ hSw; obtain ⟨q0, q1, q2⟩ := hSw.cells; go_simp; (try with_reducible rfl))
              try simp only [Act.put, List.setIfInBounds_toArray, List.set_cons_zero, List.set_cons_succ]
              refine wpAnyH_take (i := 14) (v := ?vr4_14) (Fr.take_at rfl) (by kernel_rfl) (by kernel_rfl) (by kernel_rfl) (fun _ _ _ h => h) (Or.inl ⟨by rfl, ?yr4_14⟩) (by assumption) ?nr4_14
              case yr4_14 => (intro w_ hSw; obtain ⟨q0, q1, q2⟩ := hSw.cells; go_simp; (try with_reducible rfl))
              try simp only [Act.put, List.setIfInBounds_toArray, List.set_cons_zero, List.set_cons_succ]
              refine wpAnyH_take (i := 15) (v := ?vr4_15) (Fr.take_at rfl) (by kernel_rfl) (by kernel_rfl) (by kernel_rfl) (fun _ _ _ h => h) (Or.inl ⟨by rfl, ?yr4_15⟩) (by assumption) ?nr4_15
              case yr4_15 => (intro w_ hSw; obtain ⟨q0, q1, q2⟩ := hSw.cells; go_simp; (try with_reducible rfl))
              try simp only [Act.put, List.setIfInBounds_toArray, List.set_cons_zero, List.set_cons_succ]
              refine wpAnyH_ready (rs := [0]) (by kernel_rfl) (by simp) ?_
              refine AllReadyH.cons (Fr.take_at rfl) (fun K hK => ?_) AllReadyH.nil
              go_simp
              refine hK.out _ _ (by (first | assumption | (exact HR5.out) | (exact RlN.drew (by assumption)) | (exact HR5.out.to (HS5.out.drew.below hb6).bel) | (exact HR5.out.to hS7.bel))) (fun hHeld => ?_)
              clear hK K
              try simp only [Act.put, List.setIfInBounds_toArray, List.set_cons_zero, List.set_cons_succ]
              refine wpAnyH_ready (rs := [16]) (by kernel_rfl) (by simp) ?_
              refine AllReadyH.cons (Fr.take_at rfl) (fun K hK => ?_) AllReadyH.nil
              go_simp
              (go_at_call 22; refine (rl_with HS5.out.drew HL.out hn HX.out HK.out HKL.out).mono ?_; rintro e w6 ⟨A6, c6, rfl, hb6, hS7⟩; have hm6 := (HS5.out.drew.below hb6).m; obtain ⟨m0, m1, m2, m3⟩ := blk_cells4 hm6; obtain ⟨f0, f1, f2, f3⟩ := blk_free4 hm6; clear hm6)
              try go_wp2_with fail
              refine hK.out _ _ (by (first | assumption | (exact HR5.out) | (exact RlN.drew (by assumption)) | (exact HR5.out.to (HS5.out.drew.below hb6).bel) | (exact HR5.out.to hS7.bel))) (fun hHeld => ?_)
              clear hK K
              try simp only [Act.put, List.setIfInBounds_toArray, List.set_cons_zero, List.set_cons_succ]
              refine wpAnyH_ready (rs := [17]) (by kernel_rfl) (by simp) ?_
              refine AllReadyH.cons (Fr.take_at rfl) (fun K hK => ?_) AllReadyH.nil
              go_simp
              refine hK.out _ _ (by (first | assumption | (exact HR5.out) | (exact RlN.drew (by assumption)) | (exact HR5.out.to (HS5.out.drew.below hb6).bel) | (exact HR5.out.to hS7.bel))) (fun hHeld => ?_)
              clear hK K
              try simp only [Act.put, List.setIfInBounds_toArray, List.set_cons_zero, List.set_cons_succ]
              refine wpAnyH_done (by kernel_rfl) ?_ _
              go_wp2
              go_roundw
              case rel => exact ⟨i + 1, A6, c6, by omega, by rw [HNEW.out]; rfl, by go_num, HV2, hS7⟩
              case measure => simp [intOf]; omega
            · have h256' : ¬ (256 : Int) < (n : Int) := by omega
              by_cases hbig : 262144 < k.n
              · have hnew : codeK ns (K.map (·.l)) (i + 1) = 5 := code_big HX.out HFK.out HDUP.out (by rw [HKC.out]; decide) (.inr (by rw [HKL.out]; exact hbig))
                have HNEW := Lib.hid hnew
                have hbig' : (262144 : Int) < (k.n : Int) := by omega
                clear hnew
                go_upto_region 10 with (go_at_call 20; refine (HCF.out _).mono ?_; rintro e w' ⟨rfl, rfl⟩)
                have hBX := Lib.hid (show RlN w gn (pn + i) x gf (pf + i) k wr ∧ RlS w (ldSt ns K i) A5 c5 wr from ⟨HR.out, HS.out⟩)
                refine wp_region_held_drew (S := fun W => RlN w gn (pn + i) x gf (pf + i) k W ∧ RlS w (ldSt ns K i) A5 c5 W) (by kernel_rfl) (by (first | (exact ⟨HR.out, HS.out⟩) | (exact ⟨HR.out.drew, HS.out.drew⟩) | (exact ⟨HR.out.to HS5.out.bel, HS5.out⟩) | assumption)) (fun hHeld => ?_)
                refine wpAnyH_take (i := 0) (v := ?vr5_0) (Fr.take_at rfl) (by kernel_rfl) (by kernel_rfl) (by kernel_rfl) (fun _ _ _ h => h) (Or.inl ⟨by rfl, ?yr5_0⟩) (by assumption) ?nr5_0
                case yr5_0 => (intro w_ hSw; obtain ⟨⟨q0, q1, q2⟩, p0, p1, p2, p3⟩ := And.intro hSw.1.cells hSw.2.cells; go_simp; (try with_reducible rfl))
                try simp only [Act.put, List.setIfInBounds_toArray, List.set_cons_zero, List.set_cons_succ]
                refine wpAnyH_take (i := 1) (v := ?vr5_1) (Fr.take_at rfl) (by kernel_rfl) (by kernel_rfl) (by kernel_rfl) (fun _ _ _ h => h) (Or.inl ⟨by rfl, ?yr5_1⟩) (by assumption) ?nr5_1
                case yr5_1 => (intro w_ hSw; obtain ⟨⟨q0, q1, q2⟩, p0, p1, p2, p3⟩ := And.intro hSw.1.cells hSw.2.cells; go_simp; (try with_reducible rfl))
                try simp only [Act.put, List.setIfInBounds_toArray, List.set_cons_zero, List.set_cons_succ]
                refine wpAnyH_take (i := 2) (v := ?vr5_2) (Fr.take_at rfl) (by kernel_rfl) (by kernel_rfl) (by kernel_rfl) (fun _ _ _ h => h) (Or.inl ⟨by rfl, ?yr5_2⟩) (by assumption) ?nr5_2
                case yr5_2 => (intro w_ hSw; obtain ⟨⟨q0, q1, q2⟩, p0, p1, p2, p3⟩ := And.intro hSw.1.cells hSw.2.cells; go_simp; (try with_reducible rfl))
                try simp only [Act.put, List.setIfInBounds_toArray, List.set_cons_zero, List.set_cons_succ]
                refine wpAnyH_take (i := 3) (v := ?vr5_3) (Fr.take_at rfl) (by kernel_rfl) (by kernel_rfl) (by kernel_rfl) (fun _ _ _ h => h) (Or.inl ⟨by rfl, ?yr5_3⟩) (by assumption) ?nr5_3
                case yr5_3 => (intro w_ hSw; obtain ⟨⟨q0, q1, q2⟩, p0, p1, p2, p3⟩ := And.intro hSw.1.cells hSw.2.cells; go_simp; (try with_reducible rfl))
                try simp only [Act.put, List.setIfInBounds_toArray, List.set_cons_zero, List.set_cons_succ]
                refine wpAnyH_take (i := 4) (v := ?vr5_4) (Fr.take_at rfl) (by kernel_rfl) (by kernel_rfl) (by kernel_rfl) (fun _ _ _ h => h) (Or.inl ⟨by rfl, ?yr5_4⟩) (by assumption) ?nr5_4
                case yr5_4 => (intro w_ hSw; obtain ⟨⟨q0, q1, q2⟩, p0, p1, p2, p3⟩ := And.intro hSw.1.cells hSw.2.cells; go_simp; (try with_reducible rfl))
                try simp only [Act.put, List.setIfInBounds_toArray, List.set_cons_zero, List.set_cons_succ]
                refine wpAnyH_ready (rs := [5]) (by kernel_rfl) (by simp) ?_
                refine AllReadyH.cons (Fr.take_at rfl) (fun K hK => ?_) AllReadyH.nil
                go_simp
                (go_at_call 21; refine (rl_at HS.out.drew HL.out hn x).mono ?_; intro e w5 hat; obtain ⟨rfl, hb5⟩ := at_no hat HFI.out; have HS5 := Lib.hid (HS.out.drew.below hb5); clear hat)
                try go_wp2_with fail
                refine hK.out _ _ (by (first | (exact ⟨HR.out, HS.out⟩) | (exact ⟨HR.out.drew, HS.out.drew⟩) | (exact ⟨HR.out.to HS5.out.bel, HS5.out⟩) | assumption)) (fun hHeld => ?_)
                clear hK K
                try simp only [Act.put, List.setIfInBounds_toArray, List.set_cons_zero, List.set_cons_succ]
                refine wpAnyH_take (i := 6) (v := ?vr5_6) (Fr.take_at rfl) (by kernel_rfl) (by kernel_rfl) (by kernel_rfl) (fun _ _ _ h => h) (Or.inl ⟨by rfl, ?yr5_6⟩) (by assumption) ?nr5_6
                case yr5_6 => (intro w_ hSw; obtain ⟨⟨q0, q1, q2⟩, p0, p1, p2, p3⟩ := And.intro hSw.1.cells hSw.2.cells; go_simp; (try with_reducible rfl))
                try simp only [Act.put, List.setIfInBounds_toArray, List.set_cons_zero, List.set_cons_succ]
                refine wpAnyH_done (by kernel_rfl) ?_ _
                clear hBX
                have hR5 := HR.out.to HS5.out.bel
                obtain ⟨q0, q1, q2⟩ := hR5.cells
                have HR5 := Lib.hid hR5
                clear hR5
                obtain ⟨p0, p1, p2, p3⟩ := HS5.out.cells
                go_upto_region 15 with fail
                refine wp_region_held_drew (S := RlN w gn (pn + i) x gf (pf + i) k) (by kernel_rfl) (by (first | assumption | (exact HR5.out) | (exact RlN.drew (by assumption)) | (exact HR5.out.to (HS5.out.drew.below hb6).bel) | (exact HR5.out.to hS7.bel))) (fun hHeld => ?_)
                refine wpAnyH_take (i := 1) (v := ?vr6_1) (Fr.take_at rfl) (by kernel_rfl) (by kernel_rfl) (by kernel_rfl) (fun _ _ _ h => h) (Or.inl ⟨by rfl, ?yr6_1⟩) (by assumption) ?nr6_1
                case yr6_1 => (intro w_ hSw; obtain ⟨q0, q1, q2⟩ := hSw.cells; go_simp; (try with_reducible rfl))
                try simp only [Act.put, List.setIfInBounds_toArray, List.set_cons_zero, List.set_cons_succ]
                refine wpAnyH_take (i := 2) (v := ?vr6_2) (Fr.take_at rfl) (by kernel_rfl) (by kernel_rfl) (by kernel_rfl) (fun _ _ _ h => h) (Or.inl ⟨by rfl, ?yr6_2⟩) (by assumption) ?nr6_2
                case yr6_2 => (intro w_ hSw; obtain ⟨q0, q1, q2⟩ := hSw.cells; go_simp; (try with_reducible rfl))
                try simp only [Act.put, List.setIfInBounds_toArray, List.set_cons_zero, List.set_cons_succ]
                refine wpAnyH_take (i := 3) (v := ?vr6_3) (Fr.take_at rfl) (by kernel_rfl) (by kernel_rfl) (by kernel_rfl) (fun _ _ _ h => h) (Or.inl ⟨by rfl, ?yr6_3⟩) (by assumption) ?nr6_3
                case yr6_3 => (intro w_ hSw; obtain ⟨q0, q1, q2⟩ := hSw.cells; go_simp; (try with_reducible rfl))
                try simp only [Act.put, List.setIfInBounds_toArray, List.set_cons_zero, List.set_cons_succ]
                refine wpAnyH_take (i := 4) (v := ?vr6_4) (Fr.take_at rfl) (by kernel_rfl) (by kernel_rfl) (by kernel_rfl) (fun _ _ _ h => h) (Or.inl ⟨by rfl, ?yr6_4⟩) (by assumption) ?nr6_4
                case yr6_4 => (intro w_ hSw; obtain ⟨q0, q1, q2⟩ := hSw.cells; go_simp; (try with_reducible rfl))
                try simp only [Act.put, List.setIfInBounds_toArray, List.set_cons_zero, List.set_cons_succ]
                refine wpAnyH_take (i := 5) (v := ?vr6_5) (Fr.take_at rfl) (by kernel_rfl) (by kernel_rfl) (by kernel_rfl) (fun _ _ _ h => h) (Or.inl ⟨by rfl, ?yr6_5⟩) (by assumption) ?nr6_5
                case yr6_5 => (intro w_ hSw; obtain ⟨q0, q1, q2⟩ := hSw.cells; go_simp; (try with_reducible rfl))
                try simp only [Act.put, List.setIfInBounds_toArray, List.set_cons_zero, List.set_cons_succ]
                refine wpAnyH_take (i := 6) (v := ?vr6_6) (Fr.take_at rfl) (by kernel_rfl) (by kernel_rfl) (by kernel_rfl) (fun _ _ _ h => h) (Or.inl ⟨by rfl, ?yr6_6⟩) (by assumption) ?nr6_6
                case yr6_6 => (intro w_ hSw; obtain ⟨q0, q1, q2⟩ := hSw.cells; go_simp; (try with_reducible rfl))
                try simp only [Act.put, List.setIfInBounds_toArray, List.set_cons_zero, List.set_cons_succ]
                refine wpAnyH_take (i := 7) (v := ?vr6_7) (Fr.take_at rfl) (by kernel_rfl) (by kernel_rfl) (by kernel_rfl) (fun _ _ _ h => h) (Or.inl ⟨by rfl, ?yr6_7⟩) (by assumption) ?nr6_7
                case yr6_7 => (intro w_ hSw; obtain ⟨q0, q1, q2⟩ := hSw.cells; go_simp; (try with_reducible rfl))
                try simp only [Act.put, List.setIfInBounds_toArray, List.set_cons_zero, List.set_cons_succ]
                refine wpAnyH_take (i := 8) (v := ?vr6_8) (Fr.take_at rfl) (by kernel_rfl) (by kernel_rfl) (by kernel_rfl) (fun _ _ _ h => h) (Or.inl ⟨by rfl, ?yr6_8⟩) (by assumption) ?nr6_8
                case yr6_8 => (intro w_ hSw; obtain ⟨q0, q1, q2⟩ := hSw.cells; go_simp; (try with_reducible rfl))
                try simp only [Act.put, List.setIfInBounds_toArray, List.set_cons_zero, List.set_cons_succ]
                refine wpAnyH_take (i := 9) (v := ?vr6_9) (Fr.take_at rfl) (by kernel_rfl) (by kernel_rfl) (by kernel_rfl) (fun _ _ _ h => h) (Or.inl ⟨by rfl, ?yr6_9⟩) (by assumption) ?nr6_9
                case yr6_9 => (intro w_ hSw; obtain ⟨q0, q1, q2⟩ := hSw.cells; go_simp; (try with_reducible rfl))
                try simp only [Act.put, List.setIfInBounds_toArray, List.set_cons_zero, List.set_cons_succ]
                refine wpAnyH_take (i := 10) (v := ?vr6_10) (Fr.take_at rfl) (by kernel_rfl) (by kernel_rfl) (by kernel_rfl) (fun _ _ _ h => h) (Or.inl ⟨by rfl, ?yr6_10⟩) (by assumption) ?nr6_10
                case yr6_10 => (intro w_ hSw; obtain ⟨q0, q1, q2⟩ := hSw.cells; go_simp; (try with_reducible rfl))
                try simp only [Act.put, List.setIfInBounds_toArray, List.set_cons_zero, List.set_cons_succ]
                refine wpAnyH_take (i := 11) (v := ?vr6_11) (Fr.take_at rfl) (by kernel_rfl) (by kernel_rfl) (by kernel_rfl) (fun _ _ _ h => h) (Or.inl ⟨by rfl, ?yr6_11⟩) (by assumption) ?nr6_11
                case yr6_11 => (intro w_ hSw; obtain ⟨q0, q1, q2⟩ := hSw.cells; go_simp; (try with_reducible rfl))
                try simp only [Act.put, List.setIfInBounds_toArray, List.set_cons_zero, List.set_cons_succ]
                refine wpAnyH_take (i := 12) (v := ?vr6_12) (Fr.take_at rfl) (by kernel_rfl) (by kernel_rfl) (by kernel_rfl) (fun _ _ _ h => h) (Or.inl ⟨by rfl, ?yr6_12⟩) (by assumption) ?nr6_12
                case yr6_12 => (intro w_ hSw; obtain ⟨q0, q1, q2⟩ := hSw.cells; go_simp; (try with_reducible rfl))
                try simp only [Act.put, List.setIfInBounds_toArray, List.set_cons_zero, List.set_cons_succ]
                refine wpAnyH_take (i := 13) (v := ?vr6_13) (Fr.take_at rfl) (by kernel_rfl) (by kernel_rfl) (by kernel_rfl) (fun _ _ _ h => h) (Or.inl ⟨by rfl, ?yr6_13⟩) (by assumption) ?nr6_13
                case yr6_13 => (intro w_ hSw; obtain ⟨q0, q1, q2⟩ := hSw.cells; go_simp; (try with_reducible rfl))
                try simp only [Act.put, List.setIfInBounds_toArray, List.set_cons_zero, List.set_cons_succ]
                refine wpAnyH_take (i := 14) (v := ?vr6_14) (Fr.take_at rfl) (by kernel_rfl) (by kernel_rfl) (by kernel_rfl) (fun _ _ _ h => h) (Or.inl ⟨by rfl, ?yr6_14⟩) (by assumption) ?nr6_14
                case yr6_14 => (intro w_ hSw; obtain ⟨q0, q1, q2⟩ := hSw.cells; go_simp; (try with_reducible rfl))
                try simp only [Act.put, List.setIfInBounds_toArray, List.set_cons_zero, List.set_cons_succ]
                refine wpAnyH_take (i := 15) (v := ?vr6_15) (Fr.take_at rfl) (by kernel_rfl) (by kernel_rfl) (by kernel_rfl) (fun _ _ _ h => h) (Or.inl ⟨by rfl, ?yr6_15⟩) (by assumption) ?nr6_15
                case yr6_15 => (intro w_ hSw; obtain ⟨q0, q1, q2⟩ := hSw.cells; go_simp; (try with_reducible rfl))
                try simp only [Act.put, List.setIfInBounds_toArray, List.set_cons_zero, List.set_cons_succ]
                refine wpAnyH_ready (rs := [0]) (by kernel_rfl) (by simp) ?_
                refine AllReadyH.cons (Fr.take_at rfl) (fun K hK => ?_) AllReadyH.nil
                go_simp
                refine hK.out _ _ (by (first | assumption | (exact HR5.out) | (exact RlN.drew (by assumption)) | (exact HR5.out.to (HS5.out.drew.below hb6).bel) | (exact HR5.out.to hS7.bel))) (fun hHeld => ?_)
                clear hK K
                try simp only [Act.put, List.setIfInBounds_toArray, List.set_cons_zero, List.set_cons_succ]
                refine wpAnyH_ready (rs := [16]) (by kernel_rfl) (by simp) ?_
                refine AllReadyH.cons (Fr.take_at rfl) (fun K hK => ?_) AllReadyH.nil
                go_simp
                (go_at_call 22; refine (rl_with HS5.out.drew HL.out hn HX.out HK.out HKL.out).mono ?_; rintro e w6 ⟨A6, c6, rfl, hb6, hS7⟩; have hm6 := (HS5.out.drew.below hb6).m; obtain ⟨m0, m1, m2, m3⟩ := blk_cells4 hm6; obtain ⟨f0, f1, f2, f3⟩ := blk_free4 hm6; clear hm6)
                try go_wp2_with fail
                refine hK.out _ _ (by (first | assumption | (exact HR5.out) | (exact RlN.drew (by assumption)) | (exact HR5.out.to (HS5.out.drew.below hb6).bel) | (exact HR5.out.to hS7.bel))) (fun hHeld => ?_)
                clear hK K
                try simp only [Act.put, List.setIfInBounds_toArray, List.set_cons_zero, List.set_cons_succ]
                refine wpAnyH_ready (rs := [17]) (by kernel_rfl) (by simp) ?_
                refine AllReadyH.cons (Fr.take_at rfl) (fun K hK => ?_) AllReadyH.nil
                go_simp
                refine hK.out _ _ (by (first | assumption | (exact HR5.out) | (exact RlN.drew (by assumption)) | (exact HR5.out.to (HS5.out.drew.below hb6).bel) | (exact HR5.out.to hS7.bel))) (fun hHeld => ?_)
                clear hK K
                try simp only [Act.put, List.setIfInBounds_toArray, List.set_cons_zero, List.set_cons_succ]
                refine wpAnyH_done (by kernel_rfl) ?_ _
                go_wp2
                go_roundw
                case rel => exact ⟨i + 1, A6, c6, by omega, by rw [HNEW.out]; rfl, by go_num, HV2, hS7⟩
                case measure => simp [intOf]; omega
              · have hnew : codeK ns (K.map (·.l)) (i + 1) = 0 := code_ok HX.out HFK.out HDUP.out HKC.out (by rw [HL.out]; exact h256) (by rw [HKL.out]; exact hbig)
                have HNEW := Lib.hid hnew
                have hbig' : ¬ (262144 : Int) < (k.n : Int) := by omega
                clear hnew
                go_upto_region 10 with (go_at_call 20; refine (HCF.out _).mono ?_; rintro e w' ⟨rfl, rfl⟩)
                have hBX := Lib.hid (show RlN w gn (pn + i) x gf (pf + i) k wr ∧ RlS w (ldSt ns K i) A5 c5 wr from ⟨HR.out, HS.out⟩)
                refine wp_region_held_drew (S := fun W => RlN w gn (pn + i) x gf (pf + i) k W ∧ RlS w (ldSt ns K i) A5 c5 W) (by kernel_rfl) (by (first | (exact ⟨HR.out, HS.out⟩) | (exact ⟨HR.out.drew, HS.out.drew⟩) | (exact ⟨HR.out.to HS5.out.bel, HS5.out⟩) | assumption)) (fun hHeld => ?_)
                refine wpAnyH_take (i := 0) (v := ?vr7_0) (Fr.take_at rfl) (by kernel_rfl) (by kernel_rfl) (by kernel_rfl) (fun _ _ _ h => h) (Or.inl ⟨by rfl, ?yr7_0⟩) (by assumption) ?nr7_0
                case yr7_0 => (intro w_ hSw; obtain ⟨⟨q0, q1, q2⟩, p0, p1, p2, p3⟩ := And.intro hSw.1.cells hSw.2.cells; go_simp; (try with_reducible rfl))
                try simp only [Act.put, List.setIfInBounds_toArray, List.set_cons_zero, List.set_cons_succ]
                refine wpAnyH_take (i := 1) (v := ?vr7_1) (Fr.take_at rfl) (by kernel_rfl) (by kernel_rfl) (by kernel_rfl) (fun _ _ _ h => h) (Or.inl ⟨by rfl, ?yr7_1⟩) (by assumption) ?nr7_1
                case yr7_1 => (intro w_ hSw; obtain ⟨⟨q0, q1, q2⟩, p0, p1, p2, p3⟩ := And.intro hSw.1.cells hSw.2.cells; go_simp; (try with_reducible rfl))
                try simp only [Act.put, List.setIfInBounds_toArray, List.set_cons_zero, List.set_cons_succ]
                refine wpAnyH_take (i := 2) (v := ?vr7_2) (Fr.take_at rfl) (by kernel_rfl) (by kernel_rfl) (by kernel_rfl) (fun _ _ _ h => h) (Or.inl ⟨by rfl, ?yr7_2⟩) (by assumption) ?nr7_2
                case yr7_2 => (intro w_ hSw; obtain ⟨⟨q0, q1, q2⟩, p0, p1, p2, p3⟩ := And.intro hSw.1.cells hSw.2.cells; go_simp; (try with_reducible rfl))
                try simp only [Act.put, List.setIfInBounds_toArray, List.set_cons_zero, List.set_cons_succ]
                refine wpAnyH_take (i := 3) (v := ?vr7_3) (Fr.take_at rfl) (by kernel_rfl) (by kernel_rfl) (by kernel_rfl) (fun _ _ _ h => h) (Or.inl ⟨by rfl, ?yr7_3⟩) (by assumption) ?nr7_3
                case yr7_3 => (intro w_ hSw; obtain ⟨⟨q0, q1, q2⟩, p0, p1, p2, p3⟩ := And.intro hSw.1.cells hSw.2.cells; go_simp; (try with_reducible rfl))
                try simp only [Act.put, List.setIfInBounds_toArray, List.set_cons_zero, List.set_cons_succ]
                refine wpAnyH_take (i := 4) (v := ?vr7_4) (Fr.take_at rfl) (by kernel_rfl) (by kernel_rfl) (by kernel_rfl) (fun _ _ _ h => h) (Or.inl ⟨by rfl, ?yr7_4⟩) (by assumption) ?nr7_4
                case yr7_4 => (intro w_ hSw; obtain ⟨⟨q0, q1, q2⟩, p0, p1, p2, p3⟩ := And.intro hSw.1.cells hSw.2.cells; go_simp; (try with_reducible rfl))
                try simp only [Act.put, List.setIfInBounds_toArray, List.set_cons_zero, List.set_cons_succ]
                refine wpAnyH_ready (rs := [5]) (by kernel_rfl) (by simp) ?_
                refine AllReadyH.cons (Fr.take_at rfl) (fun K hK => ?_) AllReadyH.nil
                go_simp
                (go_at_call 21; refine (rl_at HS.out.drew HL.out hn x).mono ?_; intro e w5 hat; obtain ⟨rfl, hb5⟩ := at_no hat HFI.out; have HS5 := Lib.hid (HS.out.drew.below hb5); clear hat)
                try go_wp2_with fail
                refine hK.out _ _ (by (first | (exact ⟨HR.out, HS.out⟩) | (exact ⟨HR.out.drew, HS.out.drew⟩) | (exact ⟨HR.out.to HS5.out.bel, HS5.out⟩) | assumption)) (fun hHeld => ?_)
                clear hK K
                try simp only [Act.put, List.setIfInBounds_toArray, List.set_cons_zero, List.set_cons_succ]
                refine wpAnyH_take (i := 6) (v := ?vr7_6) (Fr.take_at rfl) (by kernel_rfl) (by kernel_rfl) (by kernel_rfl) (fun _ _ _ h => h) (Or.inl ⟨by rfl, ?yr7_6⟩) (by assumption) ?nr7_6
                case yr7_6 => (intro w_ hSw; obtain ⟨⟨q0, q1, q2⟩, p0, p1, p2, p3⟩ := And.intro hSw.1.cells hSw.2.cells; go_simp; (try with_reducible rfl))
                try simp only [Act.put, List.setIfInBounds_toArray, List.set_cons_zero, List.set_cons_succ]
                refine wpAnyH_done (by kernel_rfl) ?_ _
                clear hBX
                have hR5 := HR.out.to HS5.out.bel
                obtain ⟨q0, q1, q2⟩ := hR5.cells
                have HR5 := Lib.hid hR5
                clear hR5
                obtain ⟨p0, p1, p2, p3⟩ := HS5.out.cells
                go_upto_region 15 with fail
                refine wp_region_held_drew (S := RlN w gn (pn + i) x gf (pf + i) k) (by kernel_rfl) (by (first | assumption | (exact HR5.out) | (exact RlN.drew (by assumption)) | (exact HR5.out.to (HS5.out.drew.below hb6).bel) | (exact HR5.out.to hS7.bel))) (fun hHeld => ?_)
                refine wpAnyH_take (i := 1) (v := ?vr8_1) (Fr.take_at rfl) (by kernel_rfl) (by kernel_rfl) (by kernel_rfl) (fun _ _ _ h => h) (Or.inl ⟨by rfl, ?yr8_1⟩) (by assumption) ?nr8_1
                case yr8_1 => (intro w_ hSw; obtain ⟨q0, q1, q2⟩ := hSw.cells; go_simp; (try with_reducible rfl))
                try simp only [Act.put, List.setIfInBounds_toArray, List.set_cons_zero, List.set_cons_succ]
                refine wpAnyH_take (i := 2) (v := ?vr8_2) (Fr.take_at rfl) (by kernel_rfl) (by kernel_rfl) (by kernel_rfl) (fun _ _ _ h => h) (Or.inl ⟨by rfl, ?yr8_2⟩) (by assumption) ?nr8_2
                case yr8_2 => (intro w_ hSw; obtain ⟨q0, q1, q2⟩ := hSw.cells; go_simp; (try with_reducible rfl))
                try simp only [Act.put, List.setIfInBounds_toArray, List.set_cons_zero, List.set_cons_succ]
                refine wpAnyH_take (i := 3) (v := ?vr8_3) (Fr.take_at rfl) (by kernel_rfl) (by kernel_rfl) (by kernel_rfl) (fun _ _ _ h => h) (Or.inl ⟨by rfl, ?yr8_3⟩) (by assumption) ?nr8_3
                case yr8_3 => (intro w_ hSw; obtain ⟨q0, q1, q2⟩ := hSw.cells; go_simp; (try with_reducible rfl))
                try simp only [Act.put, List.setIfInBounds_toArray, List.set_cons_zero, List.set_cons_succ]
                refine wpAnyH_take (i := 4) (v := ?vr8_4) (Fr.take_at rfl) (by kernel_rfl) (by kernel_rfl) (by kernel_rfl) (fun _ _ _ h => h) (Or.inl ⟨by rfl, ?yr8_4⟩) (by assumption) ?nr8_4
                case yr8_4 => (intro w_ hSw; obtain ⟨q0, q1, q2⟩ := hSw.cells; go_simp; (try with_reducible rfl))
                try simp only [Act.put, List.setIfInBounds_toArray, List.set_cons_zero, List.set_cons_succ]
                refine wpAnyH_take (i := 5) (v := ?vr8_5) (Fr.take_at rfl) (by kernel_rfl) (by kernel_rfl) (by kernel_rfl) (fun _ _ _ h => h) (Or.inl ⟨by rfl, ?yr8_5⟩) (by assumption) ?nr8_5
                case yr8_5 => (intro w_ hSw; obtain ⟨q0, q1, q2⟩ := hSw.cells; go_simp; (try with_reducible rfl))
                try simp only [Act.put, List.setIfInBounds_toArray, List.set_cons_zero, List.set_cons_succ]
                refine wpAnyH_take (i := 6) (v := ?vr8_6) (Fr.take_at rfl) (by kernel_rfl) (by kernel_rfl) (by kernel_rfl) (fun _ _ _ h => h) (Or.inl ⟨by rfl, ?yr8_6⟩) (by assumption) ?nr8_6
                case yr8_6 => (intro w_ hSw; obtain ⟨q0, q1, q2⟩ := hSw.cells; go_simp; (try with_reducible rfl))
                try simp only [Act.put, List.setIfInBounds_toArray, List.set_cons_zero, List.set_cons_succ]
                refine wpAnyH_take (i := 7) (v := ?vr8_7) (Fr.take_at rfl) (by kernel_rfl) (by kernel_rfl) (by kernel_rfl) (fun _ _ _ h => h) (Or.inl ⟨by rfl, ?yr8_7⟩) (by assumption) ?nr8_7
                case yr8_7 => (intro w_ hSw; obtain ⟨q0, q1, q2⟩ := hSw.cells; go_simp; (try with_reducible rfl))
                try simp only [Act.put, List.setIfInBounds_toArray, List.set_cons_zero, List.set_cons_succ]
                refine wpAnyH_take (i := 8) (v := ?vr8_8) (Fr.take_at rfl) (by kernel_rfl) (by kernel_rfl) (by kernel_rfl) (fun _ _ _ h => h) (Or.inl ⟨by rfl, ?yr8_8⟩) (by assumption) ?nr8_8
                case yr8_8 => (intro w_ hSw; obtain ⟨q0, q1, q2⟩ := hSw.cells; go_simp; (try with_reducible rfl))
                try simp only [Act.put, List.setIfInBounds_toArray, List.set_cons_zero, List.set_cons_succ]
                refine wpAnyH_take (i := 9) (v := ?vr8_9) (Fr.take_at rfl) (by kernel_rfl) (by kernel_rfl) (by kernel_rfl) (fun _ _ _ h => h) (Or.inl ⟨by rfl, ?yr8_9⟩) (by assumption) ?nr8_9
                case yr8_9 => (intro w_ hSw; obtain ⟨q0, q1, q2⟩ := hSw.cells; go_simp; (try with_reducible rfl))
                try simp only [Act.put, List.setIfInBounds_toArray, List.set_cons_zero, List.set_cons_succ]
                refine wpAnyH_take (i := 10) (v := ?vr8_10) (Fr.take_at rfl) (by kernel_rfl) (by kernel_rfl) (by kernel_rfl) (fun _ _ _ h => h) (Or.inl ⟨by rfl, ?yr8_10⟩) (by assumption) ?nr8_10
                case yr8_10 => (intro w_ hSw; obtain ⟨q0, q1, q2⟩ := hSw.cells; go_simp; (try with_reducible rfl))
                try simp only [Act.put, List.setIfInBounds_toArray, List.set_cons_zero, List.set_cons_succ]
                refine wpAnyH_take (i := 11) (v := ?vr8_11) (Fr.take_at rfl) (by kernel_rfl) (by kernel_rfl) (by kernel_rfl) (fun _ _ _ h => h) (Or.inl ⟨by rfl, ?yr8_11⟩) (by assumption) ?nr8_11
                case yr8_11 => (intro w_ hSw; obtain ⟨q0, q1, q2⟩ := hSw.cells; go_simp; (try with_reducible rfl))
                try simp only [Act.put, List.setIfInBounds_toArray, List.set_cons_zero, List.set_cons_succ]
                refine wpAnyH_take (i := 12) (v := ?vr8_12) (Fr.take_at rfl) (by kernel_rfl) (by kernel_rfl) (by kernel_rfl) (fun _ _ _ h => h) (Or.inl ⟨by rfl, ?yr8_12⟩) (by assumption) ?nr8_12
                case yr8_12 => (intro w_ hSw; obtain ⟨q0, q1, q2⟩ := hSw.cells; go_simp; (try with_reducible rfl))
                try simp only [Act.put, List.setIfInBounds_toArray, List.set_cons_zero, List.set_cons_succ]
                refine wpAnyH_take (i := 13) (v := ?vr8_13) (Fr.take_at rfl) (by kernel_rfl) (by kernel_rfl) (by kernel_rfl) (fun _ _ _ h => h) (Or.inl ⟨by rfl, ?yr8_13⟩) (by assumption) ?nr8_13
                case yr8_13 => (intro w_ hSw; obtain ⟨q0, q1, q2⟩ := hSw.cells; go_simp; (try with_reducible rfl))
                try simp only [Act.put, List.setIfInBounds_toArray, List.set_cons_zero, List.set_cons_succ]
                refine wpAnyH_take (i := 14) (v := ?vr8_14) (Fr.take_at rfl) (by kernel_rfl) (by kernel_rfl) (by kernel_rfl) (fun _ _ _ h => h) (Or.inl ⟨by rfl, ?yr8_14⟩) (by assumption) ?nr8_14
                case yr8_14 => (intro w_ hSw; obtain ⟨q0, q1, q2⟩ := hSw.cells; go_simp; (try with_reducible rfl))
                try simp only [Act.put, List.setIfInBounds_toArray, List.set_cons_zero, List.set_cons_succ]
                refine wpAnyH_take (i := 15) (v := ?vr8_15) (Fr.take_at rfl) (by kernel_rfl) (by kernel_rfl) (by kernel_rfl) (fun _ _ _ h => h) (Or.inl ⟨by rfl, ?yr8_15⟩) (by assumption) ?nr8_15
                case yr8_15 => (intro w_ hSw; obtain ⟨q0, q1, q2⟩ := hSw.cells; go_simp; (try with_reducible rfl))
                try simp only [Act.put, List.setIfInBounds_toArray, List.set_cons_zero, List.set_cons_succ]
                refine wpAnyH_ready (rs := [0]) (by kernel_rfl) (by simp) ?_
                refine AllReadyH.cons (Fr.take_at rfl) (fun K hK => ?_) AllReadyH.nil
                go_simp
                refine hK.out _ _ (by (first | assumption | (exact HR5.out) | (exact RlN.drew (by assumption)) | (exact HR5.out.to (HS5.out.drew.below hb6).bel) | (exact HR5.out.to hS7.bel))) (fun hHeld => ?_)
                clear hK K
                try simp only [Act.put, List.setIfInBounds_toArray, List.set_cons_zero, List.set_cons_succ]
                refine wpAnyH_ready (rs := [16]) (by kernel_rfl) (by simp) ?_
                refine AllReadyH.cons (Fr.take_at rfl) (fun K hK => ?_) AllReadyH.nil
                go_simp
                (go_at_call 22; refine (rl_with HS5.out.drew HL.out hn HX.out HK.out HKL.out).mono ?_; rintro e w6 ⟨A6, c6, rfl, hb6, hS7⟩; have hm6 := (HS5.out.drew.below hb6).m; obtain ⟨m0, m1, m2, m3⟩ := blk_cells4 hm6; obtain ⟨f0, f1, f2, f3⟩ := blk_free4 hm6; clear hm6)
                try go_wp2_with fail
                refine hK.out _ _ (by (first | assumption | (exact HR5.out) | (exact RlN.drew (by assumption)) | (exact HR5.out.to (HS5.out.drew.below hb6).bel) | (exact HR5.out.to hS7.bel))) (fun hHeld => ?_)
                clear hK K
                try simp only [Act.put, List.setIfInBounds_toArray, List.set_cons_zero, List.set_cons_succ]
                refine wpAnyH_ready (rs := [17]) (by kernel_rfl) (by simp) ?_
                refine AllReadyH.cons (Fr.take_at rfl) (fun K hK => ?_) AllReadyH.nil
                go_simp
                refine hK.out _ _ (by (first | assumption | (exact HR5.out) | (exact RlN.drew (by assumption)) | (exact HR5.out.to (HS5.out.drew.below hb6).bel) | (exact HR5.out.to hS7.bel))) (fun hHeld => ?_)
                clear hK K
                try simp only [Act.put, List.setIfInBounds_toArray, List.set_cons_zero, List.set_cons_succ]
                refine wpAnyH_done (by kernel_rfl) ?_ _
                go_wp2
                go_roundw
                case rel => exact ⟨i + 1, A6, c6, by omega, by rw [HNEW.out]; rfl, by go_num, HV2, hS7⟩
                case measure => simp [intOf]; omega
          · have hnew : codeK ns (K.map (·.l)) (i + 1) = 2 := code_two HX.out HKC.out
            have HNEW := Lib.hid hnew
            clear hnew
            go_upto_region 10 with (go_at_call 20; refine (HCF.out _).mono ?_; rintro e w' ⟨rfl, rfl⟩)
            have hBX := Lib.hid (show RlN w gn (pn + i) x gf (pf + i) k wr ∧ RlS w (ldSt ns K i) A5 c5 wr from ⟨HR.out, HS.out⟩)
            refine wp_region_held_drew (S := fun W => RlN w gn (pn + i) x gf (pf + i) k W ∧ RlS w (ldSt ns K i) A5 c5 W) (by kernel_rfl) (by (first | (exact ⟨HR.out, HS.out⟩) | (exact ⟨HR.out.drew, HS.out.drew⟩) | (exact ⟨HR.out.to HS5.out.bel, HS5.out⟩) | assumption)) (fun hHeld => ?_)
            refine wpAnyH_take (i := 0) (v := ?vr9_0) (Fr.take_at rfl) (by kernel_rfl) (by kernel_rfl) (by kernel_rfl) (fun _ _ _ h => h) (Or.inl ⟨by rfl, ?yr9_0⟩) (by assumption) ?nr9_0
            case yr9_0 => (intro w_ hSw; obtain ⟨⟨q0, q1, q2⟩, p0, p1, p2, p3⟩ := And.intro hSw.1.cells hSw.2.cells; go_simp; (try with_reducible rfl))
            try simp only [Act.put, List.setIfInBounds_toArray, List.set_cons_zero, List.set_cons_succ]
            refine wpAnyH_take (i := 1) (v := ?vr9_1) (Fr.take_at rfl) (by kernel_rfl) (by kernel_rfl) (by kernel_rfl) (fun _ _ _ h => h) (Or.inl ⟨by rfl, ?yr9_1⟩) (by assumption) ?nr9_1
            case yr9_1 => (intro w_ hSw; obtain ⟨⟨q0, q1, q2⟩, p0, p1, p2, p3⟩ := And.intro hSw.1.cells hSw.2.cells; go_simp; (try with_reducible rfl))
            try simp only [Act.put, List.setIfInBounds_toArray, List.set_cons_zero, List.set_cons_succ]
            refine wpAnyH_take (i := 2) (v := ?vr9_2) (Fr.take_at rfl) (by kernel_rfl) (by kernel_rfl) (by kernel_rfl) (fun _ _ _ h => h) (Or.inl ⟨by rfl, ?yr9_2⟩) (by assumption) ?nr9_2
            case yr9_2 => (intro w_ hSw; obtain ⟨⟨q0, q1, q2⟩, p0, p1, p2, p3⟩ := And.intro hSw.1.cells hSw.2.cells; go_simp; (try with_reducible rfl))
            try simp only [Act.put, List.setIfInBounds_toArray, List.set_cons_zero, List.set_cons_succ]
            refine wpAnyH_take (i := 3) (v := ?vr9_3) (Fr.take_at rfl) (by kernel_rfl) (by kernel_rfl) (by kernel_rfl) (fun _ _ _ h => h) (Or.inl ⟨by rfl, ?yr9_3⟩) (by assumption) ?nr9_3
            case yr9_3 => (intro w_ hSw; obtain ⟨⟨q0, q1, q2⟩, p0, p1, p2, p3⟩ := And.intro hSw.1.cells hSw.2.cells; go_simp; (try with_reducible rfl))
            try simp only [Act.put, List.setIfInBounds_toArray, List.set_cons_zero, List.set_cons_succ]
            refine wpAnyH_take (i := 4) (v := ?vr9_4) (Fr.take_at rfl) (by kernel_rfl) (by kernel_rfl) (by kernel_rfl) (fun _ _ _ h => h) (Or.inl ⟨by rfl, ?yr9_4⟩) (by assumption) ?nr9_4
            case yr9_4 => (intro w_ hSw; obtain ⟨⟨q0, q1, q2⟩, p0, p1, p2, p3⟩ := And.intro hSw.1.cells hSw.2.cells; go_simp; (try with_reducible rfl))
            try simp only [Act.put, List.setIfInBounds_toArray, List.set_cons_zero, List.set_cons_succ]
            refine wpAnyH_ready (rs := [5]) (by kernel_rfl) (by simp) ?_
            refine AllReadyH.cons (Fr.take_at rfl) (fun K hK => ?_) AllReadyH.nil
            go_simp
            (go_at_call 21; refine (rl_at HS.out.drew HL.out hn x).mono ?_; intro e w5 hat; obtain ⟨rfl, hb5⟩ := at_no hat HFI.out; have HS5 := Lib.hid (HS.out.drew.below hb5); clear hat)
            try go_wp2_with fail
            refine hK.out _ _ (by (first | (exact ⟨HR.out, HS.out⟩) | (exact ⟨HR.out.drew, HS.out.drew⟩) | (exact ⟨HR.out.to HS5.out.bel, HS5.out⟩) | assumption)) (fun hHeld => ?_)
            clear hK K
            try simp only [Act.put, List.setIfInBounds_toArray, List.set_cons_zero, List.set_cons_succ]
            refine wpAnyH_take (i := 6) (v := ?vr9_6) (Fr.take_at rfl) (by kernel_rfl) (by kernel_rfl) (by kernel_rfl) (fun _ _ _ h => h) (Or.inl ⟨by rfl, ?yr9_6⟩) (by assumption) ?nr9_6
            case yr9_6 => (intro w_ hSw; obtain ⟨⟨q0, q1, q2⟩, p0, p1, p2, p3⟩ := And.intro hSw.1.cells hSw.2.cells; go_simp; (try with_reducible rfl))
            try simp only [Act.put, List.setIfInBounds_toArray, List.set_cons_zero, List.set_cons_succ]
            refine wpAnyH_done (by kernel_rfl) ?_ _
            clear hBX
            have hR5 := HR.out.to HS5.out.bel
            obtain ⟨q0, q1, q2⟩ := hR5.cells
            have HR5 := Lib.hid hR5
            clear hR5
            obtain ⟨p0, p1, p2, p3⟩ := HS5.out.cells
            go_upto_region 15 with fail
            refine wp_region_held_drew (S := RlN w gn (pn + i) x gf (pf + i) k) (by kernel_rfl) (by (first | assumption | (exact HR5.out) | (exact RlN.drew (by assumption)) | (exact HR5.out.to (HS5.out.drew.below hb6).bel) | (exact HR5.out.to hS7.bel))) (fun hHeld => ?_)
            refine wpAnyH_take (i := 1) (v := ?vr10_1) (Fr.take_at rfl) (by kernel_rfl) (by kernel_rfl) (by kernel_rfl) (fun _ _ _ h => h) (Or.inl ⟨by rfl, ?yr10_1⟩) (by assumption) ?nr10_1
            case yr10_1 => (intro w_ hSw; obtain ⟨q0, q1, q2⟩ := hSw.cells; go_simp; (try with_reducible rfl))
            try simp only [Act.put, List.setIfInBounds_toArray, List.set_cons_zero, List.set_cons_succ]
            refine wpAnyH_take (i := 2) (v := ?vr10_2) (Fr.take_at rfl) (by kernel_rfl) (by kernel_rfl) (by kernel_rfl) (fun _ _ _ h => h) (Or.inl ⟨by rfl, ?yr10_2⟩) (by assumption) ?nr10_2
            case yr10_2 => (intro w_ hSw; obtain ⟨q0, q1, q2⟩ := hSw.cells; go_simp; (try with_reducible rfl))
            try simp only [Act.put, List.setIfInBounds_toArray, List.set_cons_zero, List.set_cons_succ]
            refine wpAnyH_take (i := 3) (v := ?vr10_3) (Fr.take_at rfl) (by kernel_rfl) (by kernel_rfl) (by kernel_rfl) (fun _ _ _ h => h) (Or.inl ⟨by rfl, ?yr10_3⟩) (by assumption) ?nr10_3
            case yr10_3 => (intro w_ hSw; obtain ⟨q0, q1, q2⟩ := hSw.cells; go_simp; (try with_reducible rfl))
            try simp only [Act.put, List.setIfInBounds_toArray, List.set_cons_zero, List.set_cons_succ]
            refine wpAnyH_take (i := 4) (v := ?vr10_4) (Fr.take_at rfl) (by kernel_rfl) (by kernel_rfl) (by kernel_rfl) (fun _ _ _ h => h) (Or.inl ⟨by rfl, ?yr10_4⟩) (by assumption) ?nr10_4
            case yr10_4 => (intro w_ hSw; obtain ⟨q0, q1, q2⟩ := hSw.cells; go_simp; (try with_reducible rfl))
            try simp only [Act.put, List.setIfInBounds_toArray, List.set_cons_zero, List.set_cons_succ]
            refine wpAnyH_take (i := 5) (v := ?vr10_5) (Fr.take_at rfl) (by kernel_rfl) (by kernel_rfl) (by kernel_rfl) (fun _ _ _ h => h) (Or.inl ⟨by rfl, ?yr10_5⟩) (by assumption) ?nr10_5
            case yr10_5 => (intro w_ hSw; obtain ⟨q0, q1, q2⟩ := hSw.cells; go_simp; (try with_reducible rfl))
            try simp only [Act.put, List.setIfInBounds_toArray, List.set_cons_zero, List.set_cons_succ]
            refine wpAnyH_take (i := 6) (v := ?vr10_6) (Fr.take_at rfl) (by kernel_rfl) (by kernel_rfl) (by kernel_rfl) (fun _ _ _ h => h) (Or.inl ⟨by rfl, ?yr10_6⟩) (by assumption) ?nr10_6
            case yr10_6 => (intro w_ hSw; obtain ⟨q0, q1, q2⟩ := hSw.cells; go_simp; (try with_reducible rfl))
            try simp only [Act.put, List.setIfInBounds_toArray, List.set_cons_zero, List.set_cons_succ]
            refine wpAnyH_take (i := 7) (v := ?vr10_7) (Fr.take_at rfl) (by kernel_rfl) (by kernel_rfl) (by kernel_rfl) (fun _ _ _ h => h) (Or.inl ⟨by rfl, ?yr10_7⟩) (by assumption) ?nr10_7
            case yr10_7 => (intro w_ hSw; obtain ⟨q0, q1, q2⟩ := hSw.cells; go_simp; (try with_reducible rfl))
            try simp only [Act.put, List.setIfInBounds_toArray, List.set_cons_zero, List.set_cons_succ]
            refine wpAnyH_take (i := 8) (v := ?vr10_8) (Fr.take_at rfl) (by kernel_rfl) (by kernel_rfl) (by kernel_rfl) (fun _ _ _ h => h) (Or.inl ⟨by rfl, ?yr10_8⟩) (by assumption) ?nr10_8
            case yr10_8 => (intro w_ hSw; obtain ⟨q0, q1, q2⟩ := hSw.cells; go_simp; (try with_reducible rfl))
            try simp only [Act.put, List.setIfInBounds_toArray, List.set_cons_zero, List.set_cons_succ]
            refine wpAnyH_take (i := 9) (v := ?vr10_9) (Fr.take_at rfl) (by kernel_rfl) (by kernel_rfl) (by kernel_rfl) (fun _ _ _ h => h) (Or.inl ⟨by rfl, ?yr10_9⟩) (by assumption) ?nr10_9
            case yr10_9 => (intro w_ hSw; obtain ⟨q0, q1, q2⟩ := hSw.cells; go_simp; (try with_reducible rfl))
            try simp only [Act.put, List.setIfInBounds_toArray, List.set_cons_zero, List.set_cons_succ]
            refine wpAnyH_take (i := 10) (v := ?vr10_10) (Fr.take_at rfl) (by kernel_rfl) (by kernel_rfl) (by kernel_rfl) (fun _ _ _ h => h) (Or.inl ⟨by rfl, ?yr10_10⟩) (by assumption) ?nr10_10
            case yr10_10 => (intro w_ hSw; obtain ⟨q0, q1, q2⟩ := hSw.cells; go_simp; (try with_reducible rfl))
            try simp only [Act.put, List.setIfInBounds_toArray, List.set_cons_zero, List.set_cons_succ]
            refine wpAnyH_take (i := 11) (v := ?vr10_11) (Fr.take_at rfl) (by kernel_rfl) (by kernel_rfl) (by kernel_rfl) (fun _ _ _ h => h) (Or.inl ⟨by rfl, ?yr10_11⟩) (by assumption) ?nr10_11
            case yr10_11 => (intro w_ hSw; obtain ⟨q0, q1, q2⟩ := hSw.cells; go_simp; (try with_reducible rfl))
            try simp only [Act.put, List.setIfInBounds_toArray, List.set_cons_zero, List.set_cons_succ]
            refine wpAnyH_take (i := 12) (v := ?vr10_12) (Fr.take_at rfl) (by kernel_rfl) (by kernel_rfl) (by kernel_rfl) (fun _ _ _ h => h) (Or.inl ⟨by rfl, ?yr10_12⟩) (by assumption) ?nr10_12
            case yr10_12 => (intro w_ hSw; obtain ⟨q0, q1, q2⟩ := hSw.cells; go_simp; (try with_reducible rfl))
            try simp only [Act.put, List.setIfInBounds_toArray, List.set_cons_zero, List.set_cons_succ]
            refine wpAnyH_take (i := 13) (v := ?vr10_13) (Fr.take_at rfl) (by kernel_rfl) (by kernel_rfl) (by kernel_rfl) (fun _ _ _ h => h) (Or.inl ⟨by rfl, ?yr10_13⟩) (by assumption) ?nr10_13
            case yr10_13 => (intro w_ hSw; obtain ⟨q0, q1, q2⟩ := hSw.cells; go_simp; (try with_reducible rfl))
            try simp only [Act.put, List.setIfInBounds_toArray, List.set_cons_zero, List.set_cons_succ]
            refine wpAnyH_take (i := 14) (v := ?vr10_14) (Fr.take_at rfl) (by kernel_rfl) (by kernel_rfl) (by kernel_rfl) (fun _ _ _ h => h) (Or.inl ⟨by rfl, ?yr10_14⟩) (by assumption) ?nr10_14
            case yr10_14 => (intro w_ hSw; obtain ⟨q0, q1, q2⟩ := hSw.cells; go_simp; (try with_reducible rfl))
            try simp only [Act.put, List.setIfInBounds_toArray, List.set_cons_zero, List.set_cons_succ]
            refine wpAnyH_take (i := 15) (v := ?vr10_15) (Fr.take_at rfl) (by kernel_rfl) (by kernel_rfl) (by kernel_rfl) (fun _ _ _ h => h) (Or.inl ⟨by rfl, ?yr10_15⟩) (by assumption) ?nr10_15
            case yr10_15 => (intro w_ hSw; obtain ⟨q0, q1, q2⟩ := hSw.cells; go_simp; (try with_reducible rfl))
            try simp only [Act.put, List.setIfInBounds_toArray, List.set_cons_zero, List.set_cons_succ]
            refine wpAnyH_ready (rs := [0]) (by kernel_rfl) (by simp) ?_
            refine AllReadyH.cons (Fr.take_at rfl) (fun K hK => ?_) AllReadyH.nil
            go_simp
            refine hK.out _ _ (by (first | assumption | (exact HR5.out) | (exact RlN.drew (by assumption)) | (exact HR5.out.to (HS5.out.drew.below hb6).bel) | (exact HR5.out.to hS7.bel))) (fun hHeld => ?_)
            clear hK K
            try simp only [Act.put, List.setIfInBounds_toArray, List.set_cons_zero, List.set_cons_succ]
            refine wpAnyH_ready (rs := [16]) (by kernel_rfl) (by simp) ?_
            refine AllReadyH.cons (Fr.take_at rfl) (fun K hK => ?_) AllReadyH.nil
            go_simp
            (go_at_call 22; refine (rl_with HS5.out.drew HL.out hn HX.out HK.out HKL.out).mono ?_; rintro e w6 ⟨A6, c6, rfl, hb6, hS7⟩; have hm6 := (HS5.out.drew.below hb6).m; obtain ⟨m0, m1, m2, m3⟩ := blk_cells4 hm6; obtain ⟨f0, f1, f2, f3⟩ := blk_free4 hm6; clear hm6)
            try go_wp2_with fail
            refine hK.out _ _ (by (first | assumption | (exact HR5.out) | (exact RlN.drew (by assumption)) | (exact HR5.out.to (HS5.out.drew.below hb6).bel) | (exact HR5.out.to hS7.bel))) (fun hHeld => ?_)
            clear hK K
            try simp only [Act.put, List.setIfInBounds_toArray, List.set_cons_zero, List.set_cons_succ]
            refine wpAnyH_ready (rs := [17]) (by kernel_rfl) (by simp) ?_
            refine AllReadyH.cons (Fr.take_at rfl) (fun K hK => ?_) AllReadyH.nil
            go_simp
            refine hK.out _ _ (by (first | assumption | (exact HR5.out) | (exact RlN.drew (by assumption)) | (exact HR5.out.to (HS5.out.drew.below hb6).bel) | (exact HR5.out.to hS7.bel))) (fun hHeld => ?_)
            clear hK K
            try simp only [Act.put, List.setIfInBounds_toArray, List.set_cons_zero, List.set_cons_succ]
            refine wpAnyH_done (by kernel_rfl) ?_ _
            go_wp2
            go_roundw
            case rel => exact ⟨i + 1, A6, c6, by omega, by rw [HNEW.out]; rfl, by go_num, HV2, hS7⟩
            case measure => simp [intOf]; omega
          · have hnew : codeK ns (K.map (·.l)) (i + 1) = 5 := code_five HX.out HFK.out HDUP.out HKC.out
            have HNEW := Lib.hid hnew
            clear hnew
            go_upto_region 10 with (go_at_call 20; refine (HCF.out _).mono ?_; rintro e w' ⟨rfl, rfl⟩)
            have hBX := Lib.hid (show RlN w gn (pn + i) x gf (pf + i) k wr ∧ RlS w (ldSt ns K i) A5 c5 wr from ⟨HR.out, HS.out⟩)
            refine wp_region_held_drew (S := fun W => RlN w gn (pn + i) x gf (pf + i) k W ∧ RlS w (ldSt ns K i) A5 c5 W) (by kernel_rfl) (by (first | (exact ⟨HR.out, HS.out⟩) | (exact ⟨HR.out.drew, HS.out.drew⟩) | (exact ⟨HR.out.to HS5.out.bel, HS5.out⟩) | assumption)) (fun hHeld => ?_)
            refine wpAnyH_take (i := 0) (v := ?vr11_0) (Fr.take_at rfl) (by kernel_rfl) (by kernel_rfl) (by kernel_rfl) (fun _ _ _ h => h) (Or.inl ⟨by rfl, ?yr11_0⟩) (by assumption) ?nr11_0
            case yr11_0 => (intro w_ hSw; obtain ⟨⟨q0, q1, q2⟩, p0, p1, p2, p3⟩ := And.intro hSw.1.cells hSw.2.cells; go_simp; (try with_reducible rfl))
            try simp only [Act.put, List.setIfInBounds_toArray, List.set_cons_zero, List.set_cons_succ]
            refine wpAnyH_take (i := 1) (v := ?vr11_1) (Fr.take_at rfl) (by kernel_rfl) (by kernel_rfl) (by kernel_rfl) (fun _ _ _ h => h) (Or.inl ⟨by rfl, ?yr11_1⟩) (by assumption) ?nr11_1
            case yr11_1 => (intro w_ hSw; obtain ⟨⟨q0, q1, q2⟩, p0, p1, p2, p3⟩ := And.intro hSw.1.cells hSw.2.cells; go_simp; (try with_reducible rfl))
            try simp only [Act.put, List.setIfInBounds_toArray, List.set_cons_zero, List.set_cons_succ]
            refine wpAnyH_take (i := 2) (v := ?vr11_2) (Fr.take_at rfl) (by kernel_rfl) (by kernel_rfl) (by kernel_rfl) (fun _ _ _ h => h) (Or.inl ⟨by rfl, ?yr11_2⟩) (by assumption) ?nr11_2
            case yr11_2 => (intro w_ hSw; obtain ⟨⟨q0, q1, q2⟩, p0, p1, p2, p3⟩ := And.intro hSw.1.cells hSw.2.cells; go_simp; (try with_reducible rfl))
            try simp only [Act.put, List.setIfInBounds_toArray, List.set_cons_zero, List.set_cons_succ]
            refine wpAnyH_take (i := 3) (v := ?vr11_3) (Fr.take_at rfl) (by kernel_rfl) (by kernel_rfl) (by kernel_rfl) (fun _ _ _ h => h) (Or.inl ⟨by rfl, ?yr11_3⟩) (by assumption) ?nr11_3
            case yr11_3 => (intro w_ hSw; obtain ⟨⟨q0, q1, q2⟩, p0, p1, p2, p3⟩ := And.intro hSw.1.cells hSw.2.cells; go_simp; (try with_reducible rfl))
            try simp only [Act.put, List.setIfInBounds_toArray, List.set_cons_zero, List.set_cons_succ]
            refine wpAnyH_take (i := 4) (v := ?vr11_4) (Fr.take_at rfl) (by kernel_rfl) (by kernel_rfl) (by kernel_rfl) (fun _ _ _ h => h) (Or.inl ⟨by rfl, ?yr11_4⟩) (by assumption) ?nr11_4
            case yr11_4 => (intro w_ hSw; obtain ⟨⟨q0, q1, q2⟩, p0, p1, p2, p3⟩ := And.intro hSw.1.cells hSw.2.cells; go_simp; (try with_reducible rfl))
            try simp only [Act.put, List.setIfInBounds_toArray, List.set_cons_zero, List.set_cons_succ]
            refine wpAnyH_ready (rs := [5]) (by kernel_rfl) (by simp) ?_
            refine AllReadyH.cons (Fr.take_at rfl) (fun K hK => ?_) AllReadyH.nil
            go_simp
            (go_at_call 21; refine (rl_at HS.out.drew HL.out hn x).mono ?_; intro e w5 hat; obtain ⟨rfl, hb5⟩ := at_no hat HFI.out; have HS5 := Lib.hid (HS.out.drew.below hb5); clear hat)
            try go_wp2_with fail
            refine hK.out _ _ (by (first | (exact ⟨HR.out, HS.out⟩) | (exact ⟨HR.out.drew, HS.out.drew⟩) | (exact ⟨HR.out.to HS5.out.bel, HS5.out⟩) | assumption)) (fun hHeld => ?_)
            clear hK K
            try simp only [Act.put, List.setIfInBounds_toArray, List.set_cons_zero, List.set_cons_succ]
            refine wpAnyH_take (i := 6) (v := ?vr11_6) (Fr.take_at rfl) (by kernel_rfl) (by kernel_rfl) (by kernel_rfl) (fun _ _ _ h => h) (Or.inl ⟨by rfl, ?yr11_6⟩) (by assumption) ?nr11_6
            case yr11_6 => (intro w_ hSw; obtain ⟨⟨q0, q1, q2⟩, p0, p1, p2, p3⟩ := And.intro hSw.1.cells hSw.2.cells; go_simp; (try with_reducible rfl))
            try simp only [Act.put, List.setIfInBounds_toArray, List.set_cons_zero, List.set_cons_succ]
            refine wpAnyH_done (by kernel_rfl) ?_ _
            clear hBX
            have hR5 := HR.out.to HS5.out.bel
            obtain ⟨q0, q1, q2⟩ := hR5.cells
            have HR5 := Lib.hid hR5
            clear hR5
            obtain ⟨p0, p1, p2, p3⟩ := HS5.out.cells
            go_upto_region 15 with fail
            refine wp_region_held_drew (S := RlN w gn (pn + i) x gf (pf + i) k) (by kernel_rfl) (by (first | assumption | (exact HR5.out) | (exact RlN.drew (by assumption)) | (exact HR5.out.to (HS5.out.drew.below hb6).bel) | (exact HR5.out.to hS7.bel))) (fun hHeld => ?_)
            refine wpAnyH_take (i := 1) (v := ?vr12_1) (Fr.take_at rfl) (by kernel_rfl) (by kernel_rfl) (by kernel_rfl) (fun _ _ _ h => h) (Or.inl ⟨by rfl, ?yr12_1⟩) (by assumption) ?nr12_1
            case yr12_1 => (intro w_ hSw; obtain ⟨q0, q1, q2⟩ := hSw.cells; go_simp; (try with_reducible rfl))
            try simp only [Act.put, List.setIfInBounds_toArray, List.set_cons_zero, List.set_cons_succ]
            refine wpAnyH_take (i := 2) (v := ?vr12_2) (Fr.take_at rfl) (by kernel_rfl) (by kernel_rfl) (by kernel_rfl) (fun _ _ _ h => h) (Or.inl ⟨by rfl, ?yr12_2⟩) (by assumption) ?nr12_2
            case yr12_2 => (intro w_ hSw; obtain ⟨q0, q1, q2⟩ := hSw.cells; go_simp; (try with_reducible rfl))
            try simp only [Act.put, List.setIfInBounds_toArray, List.set_cons_zero, List.set_cons_succ]
            refine wpAnyH_take (i := 3) (v := ?vr12_3) (Fr.take_at rfl) (by kernel_rfl) (by kernel_rfl) (by kernel_rfl) (fun _ _ _ h => h) (Or.inl ⟨by rfl, ?yr12_3⟩) (by assumption) ?nr12_3
            case yr12_3 => (intro w_ hSw; obtain ⟨q0, q1, q2⟩ := hSw.cells; go_simp; (try with_reducible rfl))
            try simp only [Act.put, List.setIfInBounds_toArray, List.set_cons_zero, List.set_cons_succ]
            refine wpAnyH_take (i := 4) (v := ?vr12_4) (Fr.take_at rfl) (by kernel_rfl) (by kernel_rfl) (by kernel_rfl) (fun _ _ _ h => h) (Or.inl ⟨by rfl, ?yr12_4⟩) (by assumption) ?nr12_4
            case yr12_4 => (intro w_ hSw; obtain ⟨q0, q1, q2⟩ := hSw.cells; go_simp; (try with_reducible rfl))
            try simp only [Act.put, List.setIfInBounds_toArray, List.set_cons_zero, List.set_cons_succ]
            refine wpAnyH_take (i := 5) (v := ?vr12_5) (Fr.take_at rfl) (by kernel_rfl) (by kernel_rfl) (by kernel_rfl) (fun _ _ _ h => h) (Or.inl ⟨by rfl, ?yr12_5⟩) (by assumption) ?nr12_5
            case yr12_5 => (intro w_ hSw; obtain ⟨q0, q1, q2⟩ := hSw.cells; go_simp; (try with_reducible rfl))
            try simp only [Act.put, List.setIfInBounds_toArray, List.set_cons_zero, List.set_cons_succ]
            refine wpAnyH_take (i := 6) (v := ?vr12_6) (Fr.take_at rfl) (by kernel_rfl) (by kernel_rfl) (by kernel_rfl) (fun _ _ _ h => h) (Or.inl ⟨by rfl, ?yr12_6⟩) (by assumption) ?nr12_6
            case yr12_6 => (intro w_ hSw; obtain ⟨q0, q1, q2⟩ := hSw.cells; go_simp; (try with_reducible rfl))
            try simp only [Act.put, List.setIfInBounds_toArray, List.set_cons_zero, List.set_cons_succ]
            refine wpAnyH_take (i := 7) (v := ?vr12_7) (Fr.take_at rfl) (by kernel_rfl) (by kernel_rfl) (by kernel_rfl) (fun _ _ _ h => h) (Or.inl ⟨by rfl, ?yr12_7⟩) (by assumption) ?nr12_7
            case yr12_7 => (intro w_ hSw; obtain ⟨q0, q1, q2⟩ := hSw.cells; go_simp; (try with_reducible rfl))
            try simp only [Act.put, List.setIfInBounds_toArray, List.set_cons_zero, List.set_cons_succ]
            refine wpAnyH_take (i := 8) (v := ?vr12_8) (Fr.take_at rfl) (by kernel_rfl) (by kernel_rfl) (by kernel_rfl) (fun _ _ _ h => h) (Or.inl ⟨by rfl, ?yr12_8⟩) (by assumption) ?nr12_8
            case yr12_8 => (intro w_ hSw; obtain ⟨q0, q1, q2⟩ := hSw.cells; go_simp; (try with_reducible rfl))
            try simp only [Act.put, List.setIfInBounds_toArray, List.set_cons_zero, List.set_cons_succ]
            refine wpAnyH_take (i := 9) (v := ?vr12_9) (Fr.take_at rfl) (by kernel_rfl) (by kernel_rfl) (by kernel_rfl) (fun _ _ _ h => h) (Or.inl ⟨by rfl, ?yr12_9⟩) (by assumption) ?nr12_9
            case yr12_9 => (intro w_ hSw; obtain ⟨q0, q1, q2⟩ := hSw.cells; go_simp; (try with_reducible rfl))
            try simp only [Act.put, List.setIfInBounds_toArray, List.set_cons_zero, List.set_cons_succ]
            refine wpAnyH_take (i := 10) (v := ?vr12_10) (Fr.take_at rfl) (by kernel_rfl) (by kernel_rfl) (by kernel_rfl) (fun _ _ _ h => h) (Or.inl ⟨by rfl, ?yr12_10⟩) (by assumption) ?nr12_10
            case yr12_10 => (intro w_ hSw; obtain ⟨q0, q1, q2⟩ := hSw.cells; go_simp; (try with_reducible rfl))
            try simp only [Act.put, List.setIfInBounds_toArray, List.set_cons_zero, List.set_cons_succ]
            refine wpAnyH_take (i := 11) (v := ?vr12_11) (Fr.take_at rfl) (by kernel_rfl) (by kernel_rfl) (by kernel_rfl) (fun _ _ _ h => h) (Or.inl ⟨by rfl, ?yr12_11⟩) (by assumption) ?nr12_11
            case yr12_11 => (intro w_ hSw; obtain ⟨q0, q1, q2⟩ := hSw.cells; go_simp; (try with_reducible rfl))
            try simp only [Act.put, List.setIfInBounds_toArray, List.set_cons_zero, List.set_cons_succ]
            refine wpAnyH_take (i := 12) (v := ?vr12_12) (Fr.take_at rfl) (by kernel_rfl) (by kernel_rfl) (by kernel_rfl) (fun _ _ _ h => h) (Or.inl ⟨by rfl, ?yr12_12⟩) (by assumption) ?nr12_12
            case yr12_12 => (intro w_ hSw; obtain ⟨q0, q1, q2⟩ := hSw.cells; go_simp; (try with_reducible rfl))
            try simp only [Act.put, List.setIfInBounds_toArray, List.set_cons_zero, List.set_cons_succ]
            refine wpAnyH_take (i := 13) (v := ?vr12_13) (Fr.take_at rfl) (by kernel_rfl) (by kernel_rfl) (by kernel_rfl) (fun _ _ _ h => h) (Or.inl ⟨by rfl, ?yr12_13⟩) (by assumption) ?nr12_13
            case yr12_13 => (intro w_ hSw; obtain ⟨q0, q1, q2⟩ := hSw.cells; go_simp; (try with_reducible rfl))
            try simp only [Act.put, List.setIfInBounds_toArray, List.set_cons_zero, List.set_cons_succ]
            refine wpAnyH_take (i := 14) (v := ?vr12_14) (Fr.take_at rfl) (by kernel_rfl) (by kernel_rfl) (by kernel_rfl) (fun _ _ _ h => h) (Or.inl ⟨by rfl, ?yr12_14⟩) (by assumption) ?nr12_14
            case yr12_14 => (intro w_ hSw; obtain ⟨q0, q1, q2⟩ := hSw.cells; go_simp; (try with_reducible rfl))
            try simp only [Act.put, List.setIfInBounds_toArray, List.set_cons_zero, List.set_cons_succ]
            refine wpAnyH_take (i := 15) (v := ?vr12_15) (Fr.take_at rfl) (by kernel_rfl) (by kernel_rfl) (by kernel_rfl) (fun _ _ _ h => h) (Or.inl ⟨by rfl, ?yr12_15⟩) (by assumption) ?nr12_15
            case yr12_15 => (intro w_ hSw; obtain ⟨q0, q1, q2⟩ := hSw.cells; go_simp; (try with_reducible rfl))
            try simp only [Act.put, List.setIfInBounds_toArray, List.set_cons_zero, List.set_cons_succ]
            refine wpAnyH_ready (rs := [0]) (by kernel_rfl) (by simp) ?_
            refine AllReadyH.cons (Fr.take_at rfl) (fun K hK => ?_) AllReadyH.nil
            go_simp
            refine hK.out _ _ (by (first | assumption | (exact HR5.out) | (exact RlN.drew (by assumption)) | (exact HR5.out.to (HS5.out.drew.below hb6).bel) | (exact HR5.out.to hS7.bel))) (fun hHeld => ?_)
            clear hK K
            try simp only [Act.put, List.setIfInBounds_toArray, List.set_cons_zero, List.set_cons_succ]
            refine wpAnyH_ready (rs := [16]) (by kernel_rfl) (by simp) ?_
            refine AllReadyH.cons (Fr.take_at rfl) (fun K hK => ?_) AllReadyH.nil
            go_simp
            (go_at_call 22; refine (rl_with HS5.out.drew HL.out hn HX.out HK.out HKL.out).mono ?_; rintro e w6 ⟨A6, c6, rfl, hb6, hS7⟩; have hm6 := (HS5.out.drew.below hb6).m; obtain ⟨m0, m1, m2, m3⟩ := blk_cells4 hm6; obtain ⟨f0, f1, f2, f3⟩ := blk_free4 hm6; clear hm6)
            try go_wp2_with fail
            refine hK.out _ _ (by (first | assumption | (exact HR5.out) | (exact RlN.drew (by assumption)) | (exact HR5.out.to (HS5.out.drew.below hb6).bel) | (exact HR5.out.to hS7.bel))) (fun hHeld => ?_)
            clear hK K
            try simp only [Act.put, List.setIfInBounds_toArray, List.set_cons_zero, List.set_cons_succ]
            refine wpAnyH_ready (rs := [17]) (by kernel_rfl) (by simp) ?_
            refine AllReadyH.cons (Fr.take_at rfl) (fun K hK => ?_) AllReadyH.nil
            go_simp
            refine hK.out _ _ (by (first | assumption | (exact HR5.out) | (exact RlN.drew (by assumption)) | (exact HR5.out.to (HS5.out.drew.below hb6).bel) | (exact HR5.out.to hS7.bel))) (fun hHeld => ?_)
            clear hK K
            try simp only [Act.put, List.setIfInBounds_toArray, List.set_cons_zero, List.set_cons_succ]
            refine wpAnyH_done (by kernel_rfl) ?_ _
            go_wp2
            go_roundw
            case rel => exact ⟨i + 1, A6, c6, by omega, by rw [HNEW.out]; rfl, by go_num, HV2, hS7⟩
            case measure => simp [intOf]; omega
    · obtain rfl : i = n := by omega
      have hany : ns.any (fun x => !nameOk x) = false := any_false HV.out (Nat.le_of_eq HL.out)
      have hcode : loadErr ns (K.map (·.l)) = codeK ns (K.map (·.l)) i := by rw [code_all (by rw [List.length_map, HL.out, HL2.out]) hany, HL.out]
      have hcc := codeK_cases ns (K.map (·.l)) i
      obtain ⟨kc, hkc⟩ : ∃ kc, codeK ns (K.map (·.l)) i = kc := ⟨_, rfl⟩
      rw [hkc] at hcc hcode ⊢
      have HKC := Lib.hid hkc
      have HCO : Hid (kk = kc) := by rw [← HKK.out]; exact hcode
      have HS := Lib.hid hS
      have HZ := Lib.hid hS.z
      obtain ⟨z0, z1, z2, z3⟩ := blk_cells4 hS.z
      obtain ⟨y0, y1, y2, y3⟩ := blk_free4 hS.z
      obtain ⟨p0, p1, p2, p3⟩ := hS.cells
      clear hany hcode hkc hS
      rcases hcc with rfl | rfl | rfl
      · go_wp2
        exact bodyPost_ret (results_cell_tmp (by rfl) _ _ _ _ _ _ _ _ (by rfl) (by rfl) (set4_blk HZ.out) Tryz.underlying35 (by rfl) (by kernel_rfl)) rfl (RlRet.of HS.out.ret HCO.out.symm (by rw [← HSF.out, HCO.out, if_pos rfl]; exact ld_all HL.out))
      · go_wp2
        exact bodyPost_ret (results_cell_tmp (by rfl) _ _ _ _ _ _ _ _ (by rfl) (by rfl) (set4_blk HZ.out) Tryz.underlying35 (by rfl) (by kernel_rfl)) rfl (RlRet.of (RlRet.none (k := 2) (set4_below HS.out.bel (Nat.le_refl _))) HCO.out.symm (by rw [← HSF.out, HCO.out]; rfl))
      · have hnd : ns.Nodup := by have := nodup_of (ns := ns) (fs := K.map (·.l)) (k := i) (by rw [HKC.out]; decide); rw [List.take_of_length_le (Nat.le_of_eq HL.out)] at this; exact this
        have HTW : Hid (∀ W, Below w.heap.size w W → Calls Tryz.prog 23 #[.slice A i c] W fun e w' => e = .returned (.bool false) ∧ Below W.heap.size W w') := fun W k => twice_any W A i c ns HL.out (HN.out.below k) (by omega) hnd
        clear hnd z0 z1 z2 z3 y0 y1 y2 y3 p0 p1 p2 p3
        go_wp2_with (go_at_call 23; refine (HTW.out _ HS.out.bel).mono ?_; rintro e w9 ⟨rfl, hb9⟩; have HS9 := Lib.hid (HS.out.below hb9); have HZ9 := Lib.hid HS9.out.z; obtain ⟨z0, z1, z2, z3⟩ := blk_cells4 HZ9.out; obtain ⟨y0, y1, y2, y3⟩ := blk_free4 HZ9.out)
        exact bodyPost_ret (results_cell_tmp (by rfl) _ _ _ _ _ _ _ _ (by rfl) (by rfl) (set4_blk HZ9.out) Tryz.underlying35 (by rfl) (by kernel_rfl)) rfl (RlRet.of (RlRet.none (k := 5) (set4_below HS9.out.bel (Nat.le_refl _))) HCO.out.symm (by rw [← HSF.out, HCO.out]; rfl))
end Dr
end Go.Proofs.YtbfmjonabndhaaaGreatDoor
