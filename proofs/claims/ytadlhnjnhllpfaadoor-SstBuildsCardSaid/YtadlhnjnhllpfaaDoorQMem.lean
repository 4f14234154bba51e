/-
  WHAT IS PROVED: (1) small facts on memory: when a slice reads as a list of one-cell values, what keeps it so, what a cut of it reads as, what append leaves of it, and which string its bytes make. NO CONDITION beside those that each lemma names.
-/
import Derived.WalkKit
import Derived.WalkSpells
import Derived.WalkLawsBesides
import Derived.Maps.AppendAt
import Derived.Lib.AppendStr
import Derived.RegionTactic
import Derived.Lib.Hide
import Derived.Test.YtadlhnjnhllpfaaDoorQNum
namespace Go.Proofs.YtadlhnjnhllpfaaDoor
open Go Go.RowKit
namespace Fr

/-- Bytes as cells. -/
def bv (l : List UInt8) : List Value := l.map fun b => Value.int .u8 (b.toNat : Int)
theorem bv_length (l : List UInt8) : (bv l).length = l.length := by simp [bv]
theorem bv_append (a b : List UInt8) : bv (a ++ b) = bv a ++ bv b := by simp [bv]
theorem bv_one (l : List UInt8) : ∀ u ∈ bv l, u.oneCell' = true := by
  intro u hu
  simp only [bv, List.mem_map] at hu
  obtain ⟨b, _, rfl⟩ := hu
  rfl
theorem bv_get {l : List UInt8} {i : Nat} (h : i < l.length) : (bv l)[i]'(by rw [bv_length]; exact h) = .int .u8 ((l[i]).toNat : Int) := by simp [bv]
theorem bv_inj : ∀ {a b : List UInt8}, bv a = bv b → a = b := by
  intro a
  induction a with
  | nil => intro b h; cases b with
    | nil => rfl
    | cons _ _ => simp [bv] at h
  | cons x r ih =>
    intro b h
    cases b with
    | nil => simp [bv] at h
    | cons y t =>
      simp only [bv, List.map_cons, List.cons.injEq, Value.int.injEq, true_and] at h
      rw [ih (b := t) h.2]
      congr 1
      exact u8_ext (by omega)

theorem bv_snoc (p : List UInt8) {y : Nat} (h : y < 256) : bv p ++ [.int .u8 (y : Int)] = bv (p ++ [UInt8.ofNat y]) := by
  rw [bv_append]
  simp only [bv, List.map_cons, List.map_nil]
  rw [ofNat_toNat h]
set_option maxRecDepth 100000 in
theorem or128_nat : ∀ x, x < 256 → x ||| 128 = x % 128 + 128 := by decide
theorem or128 (m : Nat) : bits .or .u8 ((m : Int) % 256) 128 = ((m % 128 + 128 : Nat) : Int) := by
  have e : (m : Int) % 256 = ((m % 256 : Nat) : Int) := by omega
  rw [e, show (128 : Int) = ((128 : Nat) : Int) from rfl, u8_or_nat _ _ (by omega) (by omega), or128_nat _ (by omega)]
  congr 1
  omega

theorem pow128 (k : Nat) : (2 : Nat) ^ (7 * k) = 128 ^ k := by rw [Nat.pow_mul]
theorem and127 {y : Nat} (hy : y < 256) : bits .and .u8 (y : Int) 127 = ((y % 128 : Nat) : Int) := by
  rw [show (127 : Int) = ((127 : Nat) : Int) from rfl, u8_and_nat _ _ hy (by omega), nat_mask7]
/-- What the reading loop makes of one more byte. -/
theorem orshl {V y k : Nat} (hy : y < 256) (hV : V < 128 ^ k) (hv : V + y % 128 * 128 ^ k < 18446744073709551616) :
    bits .or .u64 (V : Int) (IntKind.u64.wrap (IntKind.u64.wrap (bits .and .u8 (y : Int) 127) * 2 ^ (7 * k))) = ((V + y % 128 * 128 ^ k : Nat) : Int) := by
  have w64 : ∀ m : Nat, m < 18446744073709551616 → IntKind.u64.wrap (m : Int) = (m : Int) := fun m hm => by rw [IntKind.wrap_u64]; omega
  have e2 : ((y % 128 : Nat) : Int) * 2 ^ (7 * k) = ((y % 128 * 128 ^ k : Nat) : Int) := by rw [← pow128, Int.natCast_mul, Int.natCast_pow]; rfl
  rw [and127 hy, w64 _ (by omega), e2, w64 _ (by omega), u64_or_nat _ _ (by omega) (by omega)]
  congr 1
  rw [Nat.or_comm, nat_join (7 * k) _ _ (by rw [pow128]; exact Nat.mul_mod_left _ _) (by rw [pow128]; exact hV), Nat.add_comm]
theorem orshl9 {V y : Nat} (hy : y < 256) (hV : V < 128 ^ 9) (hv : V + y % 128 * 128 ^ 9 < 18446744073709551616) :
    bits .or .u64 (V : Int) (IntKind.u64.wrap (IntKind.u64.wrap (bits .and .u8 (y : Int) 127) * 9223372036854775808)) = ((V + y % 128 * 128 ^ 9 : Nat) : Int) := by
  have h := orshl hy hV hv
  have e : (2 : Int) ^ (7 * 9) = 9223372036854775808 := by decide +kernel
  rw [e] at h
  exact h
theorem wrap_step (V y : Nat) : IntKind.u64.wrap (IntKind.u64.wrap ((V : Int) * 128) + (y : Int) % 128) = (((V * 128 + y % 128) % 18446744073709551616 : Nat) : Int) := by
  rw [IntKind.wrap_u64, IntKind.wrap_u64]; omega
theorem tup2 {k1 k2 : IntKind} {a a' b b' : Int} (h1 : a = a') (h2 : b = b') : Ending.returned (.tuple #[.int k1 a, .int k2 b]) = Ending.returned (.tuple #[.int k1 a', .int k2 b']) := by rw [h1, h2]

/-- THE SLICE AT A READS AS xs (a cell an element): nothing is asked of an empty one. -/
def Rd (w : World) (A : Option Addr) (xs : List Value) : Prop :=
  xs ≠ [] → ∃ b o, A = some ⟨b, o, none⟩ ∧ b < w.heap.size ∧ ∀ i (h : i < xs.length), w.cell? ⟨b, o + i, none⟩ = some xs[i]

section
variable {w w' : World} {A : Option Addr} {xs ys : List Value}
theorem Rd.nil : Rd w A [] := fun h => absurd rfl h
theorem Rd.keep (h : Rd w A xs) (hs : w.heap.size ≤ w'.heap.size) (hk : ∀ b o, b < w.heap.size → w'.cell? ⟨b, o, none⟩ = w.cell? ⟨b, o, none⟩) : Rd w' A xs := fun hx => by
  obtain ⟨b, o, e, hb, hc⟩ := h hx
  exact ⟨b, o, e, by omega, fun i hi => (hk b _ hb).trans (hc i hi)⟩
theorem Rd.below (h : Rd w A xs) (hb : Below w.heap.size w w') : Rd w' A xs := h.keep hb.size fun b o hlt => hb.cell (p := ⟨b, o, none⟩) hlt
theorem Rd.drew (h : Rd w A xs) : Rd w.drew A xs := h
theorem Rd.drewN (h : Rd w A xs) (k : Nat) : Rd (w.drewN k) A xs := h
theorem Rd.alloc (h : Rd w A xs) (o : Obj) : Rd (w.alloc o) A xs := h.keep (by simp) fun b o' hlt => World.cell?_alloc_lt w o ⟨b, o', none⟩ hlt
theorem Rd.one (w : World) (t : TypeId) (fr : Nat × Nat) (x : Value) (cs : List Value) (hx : cs = [x]) : Rd (w.alloc (.cells #[x] t fr)) (some ⟨w.heap.size, 0, none⟩) cs := by
  subst hx
  intro _
  refine ⟨w.heap.size, 0, rfl, by simp, fun i hi => ?_⟩
  obtain rfl : i = 0 := by simp at hi; omega
  rw [World.cell?_alloc_mark]
  rfl
theorem Rd.block (w : World) (t : TypeId) (fr : Nat × Nat) (cs : Array Value) : Rd (w.alloc (.cells cs t fr)) (some ⟨w.heap.size, 0, none⟩) cs.toList := by
  intro _
  refine ⟨w.heap.size, 0, rfl, by simp, fun i hi => ?_⟩
  rw [World.cell?_alloc_mark, Nat.zero_add]
  simp at hi
  simp [hi]
theorem Rd.take (h : Rd w A xs) (k : Nat) : Rd w A (xs.take k) := fun hx => by
  obtain ⟨b, o, e, hb, hc⟩ := h (by rintro rfl; simp at hx)
  refine ⟨b, o, e, hb, fun i hi => ?_⟩
  rw [List.length_take] at hi
  rw [hc i (by omega), List.getElem_take]
theorem Rd.drop (h : Rd w A xs) (k : Nat) : Rd w (A.map (·.add k)) (xs.drop k) := fun hx => by
  obtain ⟨b, o, e, hb, hc⟩ := h (by rintro rfl; simp at hx)
  refine ⟨b, o + k, ?_, hb, fun i hi => ?_⟩
  · rw [e]
    simp only [Option.map_some, Addr.add]
    split
    · rename_i h0; subst h0; rfl
    · rfl
  · rw [List.length_drop] at hi
    have := hc (k + i) (by omega)
    rw [List.getElem_drop, ← this, Nat.add_assoc]
/-- What a cut leaves: its address hangs on whether the capacity is used up. -/
theorem Rd.cut (h : Rd w A xs) {lo cap : Nat} (hc : xs.length ≤ cap) : Rd w (if cap = lo then A else A.map (·.add lo)) (xs.drop lo) := by
  by_cases e : cap = lo
  · have : xs.drop lo = [] := List.drop_eq_nil_of_le (by omega)
    rw [this]; exact Rd.nil
  · rw [if_neg e]; exact h.drop lo
theorem Rd.cut1 (h : Rd w A xs) {lo cap : Nat} (hc : xs.length ≤ cap) : Rd w (if cap = lo then A else A.map (·.add (lo * 1))) (xs.drop lo) := by
  rw [Nat.mul_one]; exact h.cut hc
theorem Rd.at_ (h : Rd w A xs) {i : Nat} (hi : i < xs.length) : ∃ b o, A = some ⟨b, o, none⟩ ∧ b < w.heap.size ∧ w.cell? ⟨b, o + i, none⟩ = some xs[i] := by
  obtain ⟨b, o, e, hb, hc⟩ := h (by intro e; subst e; simp at hi)
  exact ⟨b, o, e, hb, hc i hi⟩
theorem Rd.byte {l : List UInt8} (h : Rd w A (bv l)) {i : Nat} (hi : i < l.length) : ∃ b o, A = some ⟨b, o, none⟩ ∧ b < w.heap.size ∧ w.cell? ⟨b, o + i, none⟩ = some (.int .u8 ((l[i]).toNat : Int)) := by
  obtain ⟨b, o, e, hb, hc⟩ := h.at_ (i := i) (by rw [bv_length]; exact hi)
  exact ⟨b, o, e, hb, by rw [hc, bv_get hi]⟩
/-- A byte of it under a name of its own, kept from the walk's rules. -/
theorem Rd.byteY {l : List UInt8} (h : Rd w A (bv l)) {i : Nat} (hi : i < l.length) : ∃ b o y, A = some ⟨b, o, none⟩ ∧ b < w.heap.size ∧ w.cell? ⟨b, o + i, none⟩ = some (.int .u8 ((y : Nat) : Int)) ∧ y < 256 ∧ Hid (∃ h : i < l.length, y = (l[i]'h).toNat) := by
  obtain ⟨b, o, e, hb, hc⟩ := h.byte hi
  exact ⟨b, o, _, e, hb, hc, UInt8.toNat_lt _, hi, rfl⟩
theorem Rd.addr (h : Rd w A xs) (hx : xs ≠ []) : ∃ b o, A = some ⟨b, o, none⟩ ∧ b < w.heap.size ∧ ∀ i (hi : i < xs.length), w.cell? ⟨b, o + i, none⟩ = some xs[i] := h hx
theorem bv_take (l : List UInt8) (k : Nat) : (bv l).take k = bv (l.take k) := by simp [bv]
theorem bv_drop (l : List UInt8) (k : Nat) : (bv l).drop k = bv (l.drop k) := by simp [bv]

theorem own_shape {base : Nat} {e : TypeId} {v : Value} {n : Nat} (h : w.ownsRow base e 1 v n xs) : ∃ A c, v = .slice A n c ∧ n ≤ c ∧ c ≤ maxLen := by
  rcases h.2 with ⟨rfl, rfl⟩ | ⟨g, cap, cur, rfl, _, _, h1, h2, _⟩
  · exact ⟨none, 0, rfl, Nat.le_refl _, by simp [maxLen]⟩
  · exact ⟨_, cap, rfl, h1, h2⟩
theorem Rd.own {base : Nat} {e : TypeId} {n c : Nat} (h : w.ownsRow base e 1 (.slice A n c) n xs) : Rd w A xs := fun hx => by
  have hn : xs.length = n := by have := h.1; omega
  have h0 : 0 < n := by
    have := List.length_pos_iff.2 hx
    omega
  rcases h.2 with ⟨_, h2⟩ | ⟨g, cap, cur, hv, _, hg, _⟩
  · omega
  · simp only [Value.slice.injEq] at hv
    obtain ⟨rfl, _, rfl⟩ := hv
    refine ⟨g, 0, rfl, (Array.getElem?_eq_some_iff.1 hg).1, fun i hi => ?_⟩
    rw [Nat.zero_add, h.cellAt i (by omega), List.getElem?_eq_getElem hi]
theorem own_below {base base' : Nat} {e : TypeId} {v : Value} {n : Nat} (h : w.ownsRow base e 1 v n xs) (hb : Below w.heap.size w w') (hB : base' ≤ base) : w'.ownsRow base' e 1 v n xs := by
  refine ⟨h.1, ?_⟩
  rcases h.2 with h0 | ⟨g, cap, cur, hv, hg, hh, hr⟩
  · exact .inl h0
  · exact .inr ⟨g, cap, cur, hv, by omega, by rw [hb.block g (Array.getElem?_eq_some_iff.1 hh).1]; exact hh, hr⟩
theorem own_mono {base base' : Nat} {e : TypeId} {v : Value} {n : Nat} (h : w.ownsRow base e 1 v n xs) (hB : base' ≤ base) : w.ownsRow base' e 1 v n xs := own_below h (Below.refl _ _) hB
theorem own_row {base : Nat} {e : TypeId} {v : Value} {n : Nat} (h : w.ownsRow base e 1 v n xs) : ∀ k, v.ownBlock = some k → base ≤ k := fun k hk => (h.lt k hk).1
theorem below_of_drew {a b : World} (h : Below a.drew.heap.size a.drew b) : Below a.heap.size a b := ⟨h.os, h.tape, h.output, h.size, h.block⟩
theorem below_of_drewN {a b : World} {n : Nat} (h : Below (a.drewN n).heap.size (a.drewN n) b) : Below a.heap.size a b := ⟨h.os, h.tape, h.output, h.size, h.block⟩
theorem below_drewN {B : Nat} {a : World} (h : Below B a w) (n : Nat) : Below B a (w.drewN n) := ⟨h.os, h.tape, h.output, h.size, h.block⟩
end

section
variable {P : Program} (w : World)
theorem run_app (base : Nat) (t ty e : TypeId) (i : TypeInfo) (z : Value) (bytes : Nat) (ht : P.underlying t = some (.slice e)) (hi : P.info? e = some i) (hz : i.zero = some z)
    (hsize : i.size = 1) (hby : i.bytes = bytes) (hzs : z.cells.size = 1)
    (v : Value) (n : Nat) (xs : List Value) (hown : w.ownsRow base e 1 v n xs)
    (A : Option Addr) (m c : Nat) (news : List Value) (hl : news.length = m) (hr : Rd w A news) (h1 : ∀ u ∈ news, u.oneCell' = true)
    (h63 : n + m ≤ maxLen) (hbytes : (n + m) * bytes ≤ 140737488355328) (hbase : base ≤ w.heap.size) :
    ∃ A' c' w', (Builtin.append_ #[t, t] ty #[v, .slice A m c]).run P w = .ok (.slice A' (n + m) c') w' ∧ w'.ownsRow base e 1 (.slice A' (n + m) c') (n + m) (xs ++ news) ∧ w.grownBy w' v.ownBlock ∧
      ((Value.slice A' (n + m) c').ownBlock = v.ownBlock ∨ (Value.slice A' (n + m) c').ownBlock = some w.heap.size) := by
  rcases A with _ | ad
  · have hn : news = [] := by
      rcases news with _ | ⟨x, r⟩
      · rfl
      · obtain ⟨_, _, h, _⟩ := hr (by simp)
        cases h
    subst hn
    obtain rfl : m = 0 := by simpa using hl.symm
    obtain ⟨A, c', rfl, _, _⟩ := own_shape hown
    refine ⟨A, c', w, ?_, by simpa using hown, World.grownBy.refl w _, .inl rfl⟩
    rcases hown.2 with ⟨hv, rfl⟩ | ⟨g, cap, cur, hv, _, _, hnc, _⟩
    · simp only [Value.slice.injEq] at hv
      obtain ⟨rfl, _, rfl⟩ := hv
      simp [Builtin.append_, run_underlying ht, sizeOf, typeInfo, hi, Builtin.lenOf, Builtin.firstCells]
    · simp only [Value.slice.injEq] at hv
      obtain ⟨rfl, _, rfl⟩ := hv
      simp [Builtin.append_, run_underlying ht, sizeOf, typeInfo, hi, Builtin.lenOf, Builtin.firstCells, hnc, storeCells]
  · have hcells : ∀ j u, news[j]? = some u → w.cell? (ad.add j) = some u := by
      intro j u hu
      obtain ⟨hj, rfl⟩ := List.getElem?_eq_some_iff.1 hu
      obtain ⟨b, o, e1, _, hc⟩ := hr.at_ hj
      simp only [Option.some.injEq] at e1
      subst e1
      have : (⟨b, o, none⟩ : Addr).add j = ⟨b, o + j, none⟩ := by unfold Addr.add; split <;> simp_all
      rw [this]; exact hc
    obtain ⟨v', w', hrun, h2, h3, _, h5⟩ := run_append_own_at (P := P) w base t ty e i z 1 bytes ht hi hz hsize hby hzs (by omega) v n xs hown ad m c news (by omega) hcells h1 h63 hbytes hbase
    obtain ⟨A', c', rfl, _, _⟩ := own_shape h2
    exact ⟨A', c', w', hrun, h2, h3, h5⟩

theorem wp_app {o : Oper} {a : Act} {K : Act → World → Prop} {Q : Exit → Act → World → Prop} (s x : Operand) (t : TypeId)
    (ho : o.op = .call { callee := .builtin .append, args := #[s, x], argTypes := #[t, t] })
    (base : Nat) (e : TypeId) (i : TypeInfo) (z : Value) (bytes : Nat) (ht : P.underlying t = some (.slice e)) (hi : P.info? e = some i) (hz : i.zero = some z)
    (hsize : i.size = 1) (hby : i.bytes = bytes) (hzs : z.cells.size = 1)
    (v : Value) (n : Nat) (xs : List Value) (hs : a.eval s = v) (hown : w.ownsRow base e 1 v n xs)
    (A : Option Addr) (m c : Nat) (news : List Value) (hx : a.eval x = .slice A m c) (hl : news.length = m) (hr : Rd w A news) (h1 : ∀ u ∈ news, u.oneCell' = true)
    (N : Nat) (hN : n + m = N) (h63 : N ≤ maxLen) (hbytes : N * bytes ≤ 140737488355328) (hbase : base ≤ w.heap.size)
    (h : ∀ A' c' w', w'.ownsRow base e 1 (.slice A' N c') N (xs ++ news) → Below base w w' → w.grownBy w' v.ownBlock → ((Value.slice A' N c').ownBlock = v.ownBlock ∨ (Value.slice A' N c').ownBlock = some w.heap.size) → K (a.put o.dst (.slice A' N c')) w') : o.wp P a w K Q := by
  subst hN
  obtain ⟨A', c', w', hrun, h2, h3, h4⟩ := run_app (P := P) w base t o.type e i z bytes ht hi hz hsize hby hzs v n xs hown A m c news hl hr h1 h63 hbytes hbase
  unfold Oper.wp execOp
  simp only [ho, resolve, invoke, builtin, Sem.run_bind, Sem.run_pure, Result.andThen_ok, List.map_toArray, List.map_cons, List.map_nil, hs, hx, hrun]
  exact h A' c' w' h2 ((Below.refl _ _).grown h3 hbase (own_row hown)) h3 h4

theorem wpList_app {ops : Array Oper} {rest : List Oper} {o : Oper} {a : Act} {Q : Exit → Act → World → Prop} (hgd : o.guard = none) (s x : Operand) (t : TypeId)
    (ho : o.op = .call { callee := .builtin .append, args := #[s, x], argTypes := #[t, t] })
    (base : Nat) (e : TypeId) (i : TypeInfo) (z : Value) (bytes : Nat) (ht : P.underlying t = some (.slice e)) (hi : P.info? e = some i) (hz : i.zero = some z)
    (hsize : i.size = 1) (hby : i.bytes = bytes) (hzs : z.cells.size = 1)
    (v : Value) (n : Nat) (xs : List Value) (hs : a.eval s = v) (hown : w.ownsRow base e 1 v n xs)
    (A : Option Addr) (m c : Nat) (news : List Value) (hx : a.eval x = .slice A m c) (hl : news.length = m) (hr : Rd w A news) (h1 : ∀ u ∈ news, u.oneCell' = true)
    (N : Nat) (hN : n + m = N) (h63 : N ≤ maxLen) (hbytes : N * bytes ≤ 140737488355328) (hbase : base ≤ w.heap.size)
    (h : ∀ A' c' w', w'.ownsRow base e 1 (.slice A' N c') N (xs ++ news) → Below base w w' → w.grownBy w' v.ownBlock → ((Value.slice A' N c').ownBlock = v.ownBlock ∨ (Value.slice A' N c').ownBlock = some w.heap.size) → wpList P ops Q rest (a.put o.dst (.slice A' N c')) w') : wpList P ops Q (o :: rest) a w :=
  wpList_plain hgd fun _ hK => wp_app w s x t ho base e i z bytes ht hi hz hsize hby hzs v n xs hs hown A m c news hx hl hr h1 N hN h63 hbytes hbase fun A' c' w' h2 h3 h4 h5 => hK _ _ (h A' c' w' h2 h3 h4 h5)

/-- The same where a string's bytes are appended. -/
theorem wpList_apps {ops : Array Oper} {rest : List Oper} {o : Oper} {a : Act} {Q : Exit → Act → World → Prop} (hgd : o.guard = none) (sl x : Operand) (t u : TypeId)
    (ho : o.op = .call { callee := .builtin .append, args := #[sl, x], argTypes := #[t, u] })
    (base : Nat) (e : TypeId) (i : TypeInfo) (ht : P.underlying t = some (.slice e)) (hu : P.underlying u = some .string) (hi : P.info? e = some i) (hz : i.zero = some (.int .u8 0))
    (hsize : i.size = 1) (hby : i.bytes = 1)
    (v : Value) (n : Nat) (xs : List Value) (hs : a.eval sl = v) (hown : w.ownsRow base e 1 v n xs) (s : ByteArray) (hx : a.eval x = .string s)
    (N : Nat) (hN : n + s.size = N) (h63 : N ≤ maxLen) (hbytes : N ≤ 140737488355328) (hbase : base ≤ w.heap.size)
    (h : ∀ A' c' w', w'.ownsRow base e 1 (.slice A' N c') N (xs ++ bv s.data.toList) → Below base w w' → wpList P ops Q rest (a.put o.dst (.slice A' N c')) w') : wpList P ops Q (o :: rest) a w := by
  subst hN
  refine Lib.wpList_append_own_string w hgd sl x t u ho base e i ht hu hi hz hsize hby v n xs hs hown s hx h63 hbytes hbase fun v' w' h2 h3 _ => ?_
  obtain ⟨A', c', rfl, _, _⟩ := own_shape h2
  exact h A' c' w' h2 ((Below.refl _ _).grown h3 hbase (own_row hown))
end

section
variable {P : Program} (w : World)
/-- The string that a slice's bytes make. -/
theorem run_str (src dst e : TypeId) (hs : P.underlying src = some (.slice e)) (he : P.underlying e = some (.int .u8)) (hd : P.underlying dst = some .string) (A : Option Addr) (n c : Nat) (l : List UInt8) (hl : l.length = n) (hr : Rd w A (bv l)) :
    (convert src dst (.slice A n c)).run P w = .ok (.string ⟨l.toArray⟩) w := by
  subst hl
  rcases A with _ | a
  · have hn : l = [] := by
      rcases l with _ | ⟨x, r⟩
      · rfl
      · obtain ⟨_, _, h, _⟩ := hr (by simp [bv])
        cases h
    subst hn
    rw [run_convert_bytes_nil w src e hs he _ _ dst hd]
    rfl
  · refine run_convert_bytes_back w src dst e a c l hs he hd fun j hj => ?_
    obtain ⟨b, o, e1, _, hc⟩ := hr.byte hj
    simp only [Option.some.injEq] at e1
    subst e1
    have : (⟨b, o, none⟩ : Addr).add j = ⟨b, o + j, none⟩ := by unfold Addr.add; split <;> simp_all
    rw [this]; exact hc
end

/-! ### Cuts, each as one fact for whatever world -/
section
variable {P : Program} (t e : TypeId) (i : TypeInfo) (ht : P.underlying t = some (.slice e)) (he : P.elem t = e) (hi : P.info? e = some i) (hs : i.size = 1)
include ht he hi hs
omit ht he in
theorem size_one (W : World) : (sizeOf e).run P W = .ok 1 W := by simp [sizeOf, typeInfo, hi, hs]
/-- 'x[:h]'. -/
theorem cut_to' (A : Option Addr) (n c m : Nat) (k : IntKind) (h : Int) (hm : h = (m : Int)) (hc : m ≤ c) :
    ∀ W : World, (Instr.slice t (.slice A n c) none (some (.int k h)) none).run P W = .ok (.slice A m c) W := by
  intro W
  subst hm
  rw [run_slice_h (P := P) W t A n c (by rw [he]; exact ht) k _ (by omega) (by omega), he]
  rw [size_one e i hi hs]
  simp only [sliced, Result.andThen, Int.toNat_natCast, Nat.sub_zero, Nat.zero_mul]
  rcases A with _ | a <;> simp [Addr.add]
/-- 'x[l:h]'. -/
theorem cut_lh' (A : Option Addr) (n c l m N C : Nat) (k1 k2 : IntKind) (lo h : Int) (hl : lo = (l : Int)) (hm : h = (m : Int)) (hN : l + N = m) (hC : l + C = c) (hc : m ≤ c) :
    ∃ A', (∀ W : World, (Instr.slice t (.slice A n c) (some (.int k1 lo)) (some (.int k2 h)) none).run P W = .ok (.slice A' N C) W) ∧ ∀ (W : World) (xs : List Value), Rd W A xs → xs.length ≤ c → Rd W A' (xs.drop l) := by
  subst hl hm
  refine ⟨if c = l then A else A.map (·.add l), fun W => ?_, fun W xs h hx => h.cut hx⟩
  rw [run_slice_lh (P := P) W t A n c (by rw [he]; exact ht) k1 k2 _ _ (by omega) (by omega) (by omega), he]
  have e1 : m - l = N := by omega
  have e2 : c - l = C := by omega
  rw [size_one e i hi hs]
  simp only [sliced, Result.andThen, Int.toNat_natCast, Nat.mul_one, e1, e2]
/-- 'x[l:]'. -/
theorem cut_l' (A : Option Addr) (n c l N C : Nat) (k1 : IntKind) (lo : Int) (hl : lo = (l : Int)) (hN : l + N = n) (hC : l + C = c) :
    ∃ A', (∀ W : World, (Instr.slice t (.slice A n c) (some (.int k1 lo)) none none).run P W = .ok (.slice A' N C) W) ∧ ∀ (W : World) (xs : List Value), Rd W A xs → xs.length ≤ c → Rd W A' (xs.drop l) := by
  subst hl
  refine ⟨if c = l then A else A.map (·.add l), fun W => ?_, fun W xs h hx => h.cut hx⟩
  rw [run_slice_l (P := P) W t A n c (by rw [he]; exact ht) k1 _ (by omega) (by omega), he]
  have e1 : n - l = N := by omega
  have e2 : c - l = C := by omega
  rw [size_one e i hi hs]
  simp only [sliced, Result.andThen, Int.toNat_natCast, Nat.mul_one, e1, e2]
omit hi hs in
theorem cut_at (x : Value) (lo h mx : Option Value) (W : World) : (Instr.sliceAt t x lo h mx).run P W = (Instr.slice t x lo h mx).run P W := run_sliceAt_slice W t x lo h mx (by rw [he]; exact ht)
/-- The three as the walk meets them: both names of the operation. -/
theorem cut_to (A : Option Addr) (n c m : Nat) (k : IntKind) (h : Int) (hm : h = (m : Int)) (hc : m ≤ c) :
    (∀ W : World, (Instr.slice t (.slice A n c) none (some (.int k h)) none).run P W = .ok (.slice A m c) W) ∧ ∀ W : World, (Instr.sliceAt t (.slice A n c) none (some (.int k h)) none).run P W = .ok (.slice A m c) W :=
  ⟨cut_to' t e i ht he hi hs A n c m k h hm hc, fun W => (cut_at t e ht he _ _ _ _ W).trans (cut_to' t e i ht he hi hs A n c m k h hm hc W)⟩
theorem cut_lh (A : Option Addr) (n c l m N C : Nat) (k1 k2 : IntKind) (lo h : Int) (hl : lo = (l : Int)) (hm : h = (m : Int)) (hN : l + N = m) (hC : l + C = c) (hc : m ≤ c) :
    ∃ A', ((∀ W : World, (Instr.slice t (.slice A n c) (some (.int k1 lo)) (some (.int k2 h)) none).run P W = .ok (.slice A' N C) W) ∧ ∀ W : World, (Instr.sliceAt t (.slice A n c) (some (.int k1 lo)) (some (.int k2 h)) none).run P W = .ok (.slice A' N C) W) ∧ ∀ (W : World) (xs : List Value), Rd W A xs → xs.length ≤ c → Rd W A' (xs.drop l) := by
  obtain ⟨A', h1, h2⟩ := cut_lh' t e i ht he hi hs A n c l m N C k1 k2 lo h hl hm hN hC hc
  exact ⟨A', ⟨h1, fun W => (cut_at t e ht he _ _ _ _ W).trans (h1 W)⟩, h2⟩
theorem cut_l (A : Option Addr) (n c l N C : Nat) (k1 : IntKind) (lo : Int) (hl : lo = (l : Int)) (hN : l + N = n) (hC : l + C = c) :
    ∃ A', ((∀ W : World, (Instr.slice t (.slice A n c) (some (.int k1 lo)) none none).run P W = .ok (.slice A' N C) W) ∧ ∀ W : World, (Instr.sliceAt t (.slice A n c) (some (.int k1 lo)) none none).run P W = .ok (.slice A' N C) W) ∧ ∀ (W : World) (xs : List Value), Rd W A xs → xs.length ≤ c → Rd W A' (xs.drop l) := by
  obtain ⟨A', h1, h2⟩ := cut_l' t e i ht he hi hs A n c l N C k1 lo hl hN hC
  exact ⟨A', ⟨h1, fun W => (cut_at t e ht he _ _ _ _ W).trans (h1 W)⟩, h2⟩
end

/-- A new row among the call's own blocks, which reads as the bytes l: what a function that hands back bytes leaves. -/
def Made (E : TypeId) (w w' : World) (l : List UInt8) (v : Value) : Prop :=
  ∃ A m c, v = .slice A m c ∧ l.length = m ∧ m ≤ c ∧ w'.ownsRow w.heap.size E 1 v m (bv l) ∧ Below w.heap.size w w'
def MadeRet (E : TypeId) (w : World) (l : List UInt8) (e : Ending) (w' : World) : Prop := ∃ v, e = .returned v ∧ Made E w w' l v
theorem MadeRet.mk {E : TypeId} {w w' : World} {l : List UInt8} {v : Value} {n : Nat} (hl : l.length = n) (h : w'.ownsRow w.heap.size E 1 v n (bv l)) (hb : Below w.heap.size w w') : MadeRet E w l (.returned v) w' := by
  obtain ⟨A, c, rfl, h1, _⟩ := own_shape h
  exact ⟨_, rfl, A, n, c, rfl, hl, h1, h, hb⟩
/-- The operation at place i of a list that is written out, itself written out. -/
theorem take_at {α : Type} {l r : List α} {i : Nat} {o : α} (h : l.drop i = o :: r) : l.toArray[i]? = some o := by
  have e : (l.drop i)[0]? = some o := by rw [h]; rfl
  rw [List.getElem?_drop] at e
  simpa using e
theorem len_bound {l : List UInt8} {n m k : Nat} (h : l.length = n) (h2 : l.length = m) (hn : n ≤ k) : m ≤ k := by omega
end Fr
end Go.Proofs.YtadlhnjnhllpfaaDoor
