/-
  WHAT IS PROVED: (1) plain facts on the files that the law WalOpens makes: names of numbers up to 1,000,000 and two others, no error at a Load, and no file of the next segment. NO CONDITION beside those that each lemma names. (2) what the law WalOpens answers. CONDITIONS: the numbers and the files stand in memory as named, and the library's variables as laid. (3) rows of numbers and rows of bytes that came in as arguments, opened. NO CONDITION beside those that each lemma names. (4) numbers that came in as an argument, opened; what the law WalOpens answers for every input. CONDITIONS: those that each lemma names.
-/
import Derived.Test.YtbfmjonabndhaaaGreatDoorQWRApp
import Derived.Test.YtbfmjonabndhaaaGreatDoorQWLawB
import Derived.Test.YtbfmjonabndhaaaGreatDoorQRLoadB
import Derived.Test.YtbfmjonabndhaaaGreatDoorQLLoadB
import Derived.Test.YtbfmjonabndhaaaGreatDoorQLTell
import Derived.Test.YtbfmjonabndhaaaGreatDoorQDWalkG
import Derived.Test.YtbfmjonabndhaaaGreatDoorQLLoadA
import Derived.ProofKit
import Derived.OpenShut
import Derived.Carry
import Derived.SizedLaws
import Derived.Deep.Slices
import Derived.Deep.Fields
import Derived.ChangeSame
namespace Go.Proofs.YtbfmjonabndhaaaGreatDoor
open Go Go.RowKit Go.Maps Go.Proofs.YtbfmjonabndhaaaGreatDoor.Dr Go.Proofs.YtbfmjonabndhaaaGreatDoor.Fr
namespace Wl
/-- The two names that no segment has. -/
def xa : Bs := [119, 97, 108, 45, 49, 50]
def xb : Bs := [119, 97, 108, 45, 48, 48, 48, 48, 48, 120]
theorem nb_dg {j : Nat} (h : j < 10) : nb (dg j) = true := (by decide : ∀ j : Fin 10, nb (dg j.1) = true) ⟨j, h⟩
theorem nb_digs : ∀ (k n : Nat), (digs k n).all nb = true
  | 0, _ => rfl
  | k + 1, n => by rw [digs, List.all_append, nb_digs k, Bool.true_and]; simp [nb_dg (Nat.mod_lt n (by decide : 0 < 10))]
theorem rname_ok {m : Nat} : nameOk (rname m) = true := by
  unfold rname nameOk
  split
  · have h1 := dig6_len m
    have h2 : (dig6 m).all nb = true := nb_digs 6 m
    rw [List.all_append, h2, List.length_append, h1]
    decide
  · decide
theorem rname_len (m : Nat) : 10 ≤ (rname m).length ∧ (rname m).length ≤ 11 := by
  unfold rname
  split
  · rw [List.length_append, dig6_len]; exact ⟨by decide, by decide⟩
  · decide
theorem rname_xa (m : Nat) : rname m ≠ xa := fun e => by have := (rname_len m).1; rw [e] at this; exact absurd this (by decide)
theorem rname_xb (m : Nat) : rname m ≠ xb := fun e => by
  unfold rname at e
  split at e
  · have h : (pre ++ dig6 m).getLast? = xb.getLast? := by rw [e]
    unfold dig6 at h
    rw [digs] at h
    have e2 : (pre ++ (digs 5 (m / 10) ++ [dg (m % 10)])).getLast? = some (dg (m % 10)) := by rw [← List.append_assoc, List.getLast?_concat]
    rw [e2] at h
    have h3 : dg (m % 10) = 120 := Option.some.inj h
    have h4 := congrArg UInt8.toNat h3
    rw [dg_toNat (Nat.mod_lt _ (by decide))] at h4
    have : (120 : UInt8).toNat = 120 := rfl
    omega
  · exact absurd e (by decide)
/-- What the loop over the files holds of the names, of the rows. -/
structure Nm (ns : List Bs) : Prop where
  form : ∀ x ∈ ns, ∃ m, x = rname m
  one : ns.Nodup
theorem Nm.nil : Nm [] := ⟨fun _ h => (by cases h), List.nodup_nil⟩
theorem Nm.snoc {ns : List Bs} (h : Nm ns) {x : Bs} (m : Nat) (hx : x = rname m) (hn : x ∉ ns) : Nm (ns ++ [x]) :=
  ⟨fun y hy => by
    rcases List.mem_append.1 hy with hy | hy
    · exact h.form y hy
    · exact ⟨m, by rw [List.mem_singleton.1 hy, hx]⟩, by
    rw [List.nodup_append]
    exact ⟨h.one, by simp, fun a ha b hb => by rw [List.mem_singleton] at hb; subst hb; exact fun e => hn (e ▸ ha)⟩⟩
theorem Nm.sz {ns : List Bs} (h : Nm ns) : ∀ x ∈ ns ++ [xa, xb], (⟨x.toArray⟩ : ByteArray).size ≤ maxLen := fun x hx => by
  have e : (⟨x.toArray⟩ : ByteArray).size = x.length := rfl
  rw [e]
  rcases List.mem_append.1 hx with hx | hx
  · obtain ⟨m, rfl⟩ := h.form x hx
    have := (rname_len m).2
    unfold maxLen
    omega
  · simp only [List.mem_cons, List.not_mem_nil, or_false] at hx
    rcases hx with rfl | rfl
    · decide
    · decide
theorem Nm.load {ns fs : List Bs} (h : Nm ns) (hl : ns.length = fs.length) (hn : ns.length ≤ 20) (hf : ∀ f ∈ fs, f.length < 20000) {za zb : Bs} (ha : za.length = 5) (hb : zb.length = 5) : loadErr (ns ++ [xa, xb]) (fs ++ [za, zb]) = 0 := by
  unfold loadErr
  rw [if_neg (by simp only [List.length_append, hl]; simp), if_neg, if_neg, if_neg]
  · intro hh
    rcases hh with hh | hh
    · rw [List.length_append] at hh
      have : [xa, xb].length = 2 := rfl
      omega
    · obtain ⟨f, h1, h2⟩ := List.any_eq_true.1 hh
      have h2 : 262144 < f.length := of_decide_eq_true h2
      rcases List.mem_append.1 h1 with h1 | h1
      · have := hf f h1; omega
      · simp only [List.mem_cons, List.not_mem_nil, or_false] at h1
        rcases h1 with rfl | rfl <;> omega
  · intro hh
    apply hh
    rw [List.nodup_append]
    refine ⟨h.one, by decide, fun a ha b hb => ?_⟩
    obtain ⟨m, rfl⟩ := h.form a ha
    simp only [List.mem_cons, List.not_mem_nil, or_false] at hb
    rcases hb with rfl | rfl
    · exact rname_xa m
    · exact rname_xb m
  · intro hh
    obtain ⟨x, h1, h2⟩ := List.any_eq_true.1 hh
    rcases List.mem_append.1 h1 with h1 | h1
    · obtain ⟨m, rfl⟩ := h.form x h1
      rw [rname_ok] at h2
      exact absurd h2 (by decide)
    · simp only [List.mem_cons, List.not_mem_nil, or_false] at h1
      rcases h1 with rfl | rfl
      · exact absurd h2 (by decide)
      · exact absurd h2 (by decide)
/-! ### the next segment -/
theorem nextOf_from : ∀ (ns : List Int) (a : Int), a ≤ nextOf a ns ∧ ∀ n ∈ ns, n < nextOf a ns
  | [], a => ⟨Int.le_refl _, fun _ h => (by cases h)⟩
  | x :: r, a => by
    have ih := nextOf_from r (max a (x + 1))
    have e : nextOf a (x :: r) = nextOf (max a (x + 1)) r := rfl
    rw [e]
    refine ⟨by omega, fun n hn => ?_⟩
    rcases List.mem_cons.1 hn with rfl | hn
    · have := ih.1; omega
    · exact ih.2 n hn
theorem segs_of {l : List Fl} {f : Fl} (hf : f ∈ l) {n : Int} (h1 : 1 ≤ n) (h2 : n ≤ 999999) (hn : f.name = seg n) : n ∈ segs l := by
  unfold segs
  refine List.mem_filter.2 ⟨List.mem_map.2 ⟨f, hf, by rw [hn]; exact num_seg h1 h2⟩, by simpa using (show 0 < n by omega)⟩
theorem find_next {st : St} (hok : st.Ok) (a : Int) (ha : 1 ≤ a) (ha2 : a ≤ 999999) {M : Nat} (hM : nextOf a (segs st.files) = (M : Int)) : 1 ≤ M ∧ M ≤ 1000000 ∧ find st.files (seg (M : Int)) = none := by
  have hb := nextOf_bound ha (by omega) (segs st.files) fun n hn => ⟨(segs_mem hn).1, (segs_mem hn).2.1⟩
  rw [hM] at hb
  refine ⟨by omega, by omega, ?_⟩
  cases hf : find st.files (seg (M : Int)) with
  | none => rfl
  | some f =>
    obtain ⟨h1, h2⟩ := find_some hf
    by_cases h6 : (M : Int) ≤ 999999
    · have := (nextOf_from (segs st.files) a).2 _ (segs_of h1 hb.1 h6 h2)
      omega
    · have h3 := (hok.file f h1).2.2
      rw [h2, seg_out (by omega)] at h3
      exact absurd h3 (by decide)
theorem lapp_new {g : Int} {st : St} {l : Bs} (hl : l.length ≤ 4096) (hf : find st.files (seg g) = none) : lapp g false st l = lput g false st l := by
  have h0 : st.sizeOf (seg g) = 0 := by unfold St.sizeOf; rw [hf]
  unfold lapp
  rw [if_neg (by omega), if_neg (by decide), if_neg (by omega)]
theorem Ok.lput {g : Int} {st : St} {l : Bs} (hok : st.Ok) : (Wl.lput g false st l).1.2.2.Ok := by
  unfold Wl.lput
  split
  · exact hok
  · exact hok.append (seg g) (sealOf l)
end Wl
end Go.Proofs.YtbfmjonabndhaaaGreatDoor
namespace Go.Proofs.YtbfmjonabndhaaaGreatDoor
open Go Go.RowKit Go.Maps Go.Proofs.YtbfmjonabndhaaaGreatDoor.Dr Go.Proofs.YtbfmjonabndhaaaGreatDoor.Fr
namespace Wl
def slV (k : BM) : Value := .slice k.A k.n k.c
theorem slV_one (K : List BM) : ∀ u ∈ K.map slV, u.oneCell' = true := by
  intro u hu
  obtain ⟨x, _, rfl⟩ := List.mem_map.1 hu
  rfl
theorem info_bs' : (Tryz.prog.info? 28).map (fun i => (i.zero, i.size, i.bytes)) = some (some (.slice none 0 0), 1, 24) := by kernel_rfl
theorem info_st' : (Tryz.prog.info? 9).map (fun i => (i.zero, i.size, i.bytes)) = some (some (.string ⟨#[]⟩), 1, 16) := by kernel_rfl
theorem brows_of {W : World} {A : Option Addr} {base k c : Nat} {K : List BM} (h : W.ownsRow base 28 1 (.slice A k c) k (K.map slV)) (hr : ∀ m ∈ K, m.l.length = m.n ∧ m.n ≤ m.c ∧ m.n ≤ 140737488351232 ∧ Rd W m.A (bv m.l)) : BRows W A K :=
  ⟨fun i m hm => by
    obtain ⟨hlt, e⟩ := List.getElem?_eq_some_iff.1 hm
    obtain ⟨g, p, e1, h1, h2⟩ := (Rd.own h).at_ (i := i) (by rw [List.length_map]; exact hlt)
    exact ⟨g, p, e1, h1, h2.trans (by rw [List.getElem_map, e]; rfl)⟩, hr⟩
/-- WHAT THE LOOP OVER THE FILES HOLDS. -/
structure OwS (w : World) (K0 : List BM) (k : Nat) (ns : List Bs) (K : List BM) (AN AI : Option Addr) (cN cI : Nat) (W : World) : Prop where
  nrow : W.ownsRow w.heap.size 9 1 (.slice AN k cN) k (ns.map encStr)
  irow : W.ownsRow w.heap.size 28 1 (.slice AI k cI) k (K.map slV)
  nl : ns.length = k
  kl : K.length = k
  nm : Nm ns
  ks : ∀ x ∈ K, x ∈ K0 ∧ x.l.length < 20000
  bel : Below w.heap.size w W
theorem OwS.below {w W W' : World} {K0 : List BM} {k : Nat} {ns : List Bs} {K : List BM} {AN AI : Option Addr} {cN cI : Nat} (h : OwS w K0 k ns K AN AI cN cI W) (hb : Below W.heap.size W W') : OwS w K0 k ns K AN AI cN cI W' :=
  ⟨own_below h.nrow hb (Nat.le_refl _), own_below h.irow hb (Nat.le_refl _), h.nl, h.kl, h.nm, h.ks, h.bel.trans (hb.mono h.bel.size)⟩
def OpvI (w : World) (K0 : List BM) (n : Nat) (s7 s8 s36 : Value) (W : World) : Prop :=
  ∃ (i k : Nat) (ns : List Bs) (K : List BM) (AN AI : Option Addr) (cN cI : Nat), i ≤ n ∧ k ≤ i ∧ s7 = .slice AN k cN ∧ s8 = .slice AI k cI ∧ s36 = .int .i64 (i : Int) ∧ Hid (OwS w K0 k ns K AN AI cN cI W)
theorem beq_str {a b : ByteArray} {x y : Bs} (h1 : a.data.toList = x) (h3 : b.data.toList = y) (hxy : x = y) : (a.toList == b.toList) = true ∧ (a.toList != b.toList) = false := by
  have h := name_beq_yes h1 hxy h3
  exact ⟨h, by rw [bne, h]; rfl⟩
theorem bne_str {a b : ByteArray} {x y : Bs} (h1 : a.data.toList = x) (h3 : b.data.toList = y) (hxy : ¬ x = y) : (a.toList == b.toList) = false ∧ (a.toList != b.toList) = true := by
  have h := name_beq_no h1 hxy h3
  exact ⟨h, by rw [bne, h]; rfl⟩
theorem num_mod (z : Int) : ∃ m : Nat, m ≤ 1000000 ∧ wrap64 ((IntKind.u64.wrap z).tmod 1000001) = (m : Int) := by
  have h := wrap_u64_nonneg z
  generalize IntKind.u64.wrap z = u at h
  rw [Int.tmod_eq_emod_of_nonneg h]
  exact ⟨(u % 1000001).toNat, by omega, by unfold wrap64; omega⟩
theorem enc_of {s : ByteArray} {x : Bs} (h : s.data.toList = x) : encStr x = .string s := by
  subst h
  show Value.string ⟨s.data.toList.toArray⟩ = _
  rw [Array.toArray_toList]
theorem OwS.snoc {w W W5 W6 : World} {K0 : List BM} {k : Nat} {ns : List Bs} {K : List BM} {AN AI A5 A6 : Option Addr} {cN cI c5 c6 m : Nat} {s2 : ByteArray} {x : Bs} {kr : BM} {o : Obj} (h : OwS w K0 k ns K AN AI cN cI W) (hs : s2.data.toList = x) (hx : x = rname m) (hn : x ∉ ns) (hkr : kr ∈ K0) (hl : kr.l.length < 20000)
    (ho5 : W5.ownsRow w.heap.size 9 1 (.slice A5 (k + 1) c5) (k + 1) (ns.map encStr ++ [.string s2])) (hi5 : W5.ownsRow w.heap.size 28 1 (.slice AI k cI) k (K.map slV)) (hb5 : Below w.heap.size w W5)
    (ho6 : W6.ownsRow w.heap.size 28 1 (.slice A6 (k + 1) c6) (k + 1) (K.map slV ++ [.slice kr.A kr.n kr.c])) (hg6 : (W5.alloc o).grownBy W6 (Value.slice AI k cI).ownBlock) (hb6 : Below w.heap.size (W5.alloc o) W6) :
    OwS w K0 (k + 1) (ns ++ [x]) (K ++ [kr]) A5 A6 c5 c6 W6 := by
  refine ⟨?_, ?_, by rw [List.length_append, h.nl]; rfl, by rw [List.length_append, h.kl]; rfl, h.nm.snoc m hx hn, fun y hy => ?_, (hb5.alloc hb5.size o).trans hb6⟩
  · rw [List.map_append, List.map_singleton, enc_of hs]
    exact (ho5.alloc o).kept hg6 (own_ne ho5 hi5 (by decide))
  · rw [List.map_append, List.map_singleton]
    exact ho6
  · rcases List.mem_append.1 hy with hy | hy
    · exact h.ks y hy
    · rw [List.mem_singleton.1 hy]; exact ⟨hkr, hl⟩
def z5 : Array Value := #[.int .u8 0, .int .u8 0, .int .u8 0, .int .u8 0, .int .u8 0]
def zr (B : Nat) : BM := ⟨some ⟨B, 0, none⟩, 5, 5, [0, 0, 0, 0, 0]⟩
theorem z5_own (W : World) : (W.alloc (.cells #[.int .u8 0, .int .u8 0, .int .u8 0, .int .u8 0, .int .u8 0] 5)).ownsRow W.heap.size 5 1 (.slice (some ⟨W.heap.size, 0, none⟩) 5 5) 5 (bv [0, 0, 0, 0, 0]) := World.ownsRow_lit W _ 5 (Nat.le_refl _) (by decide) rfl
theorem rd_two (w5 : World) (o o2 : Obj) (t : TypeId) (x y : Value) : Rd (((w5.alloc o).alloc o2).alloc (.cells #[x, y] t)) (some ⟨w5.heap.size + 1 + 1, 0, none⟩) [x, y] := by
  have h := Rd.block ((w5.alloc o).alloc o2) t (0, 0) #[x, y]
  rw [World.size_alloc, World.size_alloc] at h
  exact h
/-- What both Loads are given. -/
structure OwF (w : World) (k : Nat) (NS : List Bs) (KS : List BM) (AN AI : Option Addr) (W : World) : Prop where
  nl : NS.length = k + 2
  kl : KS.length = k + 2
  n : Nms W AN NS
  r : BRows W AI KS
  z : loadErr NS (KS.map (·.l)) = 0
  bel : Below w.heap.size w W
theorem OwS.fin {w W W5 W6 : World} {K0 : List BM} {k : Nat} {ns : List Bs} {K : List BM} {AN AI A1 A5 A6 : Option Addr} {cN cI c5 c6 : Nat} {o : Obj} (h : OwS w K0 k ns K AN AI cN cI W) (hF : BRows w A1 K0) (hk : k ≤ 20)
    (ho5 : W5.ownsRow w.heap.size 9 1 (.slice A5 (k + 2) c5) (k + 2) (ns.map encStr ++ [.string ⟨#[119, 97, 108, 45, 49, 50]⟩, .string ⟨#[119, 97, 108, 45, 48, 48, 48, 48, 48, 120]⟩])) (hi5 : W5.ownsRow w.heap.size 28 1 (.slice AI k cI) k (K.map slV)) (hb5 : Below w.heap.size w W5)
    (ho6 : W6.ownsRow w.heap.size 28 1 (.slice A6 (k + 2) c6) (k + 2) (K.map slV ++ [.slice (some ⟨W5.heap.size, 0, none⟩) 5 5, .slice (some ⟨W5.heap.size + 1, 0, none⟩) 5 5]))
    (hg6 : (((W5.alloc (.cells #[.int .u8 0, .int .u8 0, .int .u8 0, .int .u8 0, .int .u8 0] 5)).alloc (.cells #[.int .u8 0, .int .u8 0, .int .u8 0, .int .u8 0, .int .u8 0] 5)).alloc o).grownBy W6 (Value.slice AI k cI).ownBlock)
    (hb6 : Below w.heap.size (((W5.alloc (.cells #[.int .u8 0, .int .u8 0, .int .u8 0, .int .u8 0, .int .u8 0] 5)).alloc (.cells #[.int .u8 0, .int .u8 0, .int .u8 0, .int .u8 0, .int .u8 0] 5)).alloc o) W6) :
    OwF w k (ns ++ [xa, xb]) (K ++ [zr W5.heap.size, zr (W5.heap.size + 1)]) A5 A6 W6 := by
  have hbel : Below w.heap.size w W6 := (((hb5.alloc hb5.size _).alloc (by have := hb5.size; simp; omega) _).alloc (by have := hb5.size; simp; omega) _).trans hb6
  have hz1 := (((z5_own W5).alloc (.cells #[.int .u8 0, .int .u8 0, .int .u8 0, .int .u8 0, .int .u8 0] 5)).alloc o).kept hg6 (own_ne (z5_own W5) (hi5.alloc (.cells #[.int .u8 0, .int .u8 0, .int .u8 0, .int .u8 0, .int .u8 0] 5)) (by decide))
  have hz2 := ((z5_own (W5.alloc (.cells #[.int .u8 0, .int .u8 0, .int .u8 0, .int .u8 0, .int .u8 0] 5))).alloc o).kept hg6 (own_ne (z5_own (W5.alloc (.cells #[.int .u8 0, .int .u8 0, .int .u8 0, .int .u8 0, .int .u8 0] 5))) ((hi5.alloc (.cells #[.int .u8 0, .int .u8 0, .int .u8 0, .int .u8 0, .int .u8 0] 5)).alloc (.cells #[.int .u8 0, .int .u8 0, .int .u8 0, .int .u8 0, .int .u8 0] 5)) (by decide))
  refine ⟨by rw [List.length_append, h.nl]; rfl, by rw [List.length_append, h.kl]; rfl, ⟨?_, h.nm.sz⟩, brows_of (by rw [List.map_append]; exact ho6) fun m hm => ?_, ?_, hbel⟩
  · have h1 := Rd.own (((((ho5.alloc (.cells #[.int .u8 0, .int .u8 0, .int .u8 0, .int .u8 0, .int .u8 0] 5)).alloc (.cells #[.int .u8 0, .int .u8 0, .int .u8 0, .int .u8 0, .int .u8 0] 5)).alloc o).kept hg6 (own_ne ho5 hi5 (by decide))))
    rw [List.map_append]
    exact h1
  · rcases List.mem_append.1 hm with hm | hm
    · obtain ⟨h1, h2, h3, h4⟩ := hF.rows m (h.ks m hm).1
      exact ⟨h1, h2, h3, h4.below hbel⟩
    · simp only [List.mem_cons, List.not_mem_nil, or_false] at hm
      rcases hm with rfl | rfl
      · exact ⟨rfl, Nat.le_refl _, by show (5 : Nat) ≤ _; omega, Rd.own hz1⟩
      · refine ⟨rfl, Nat.le_refl _, by show (5 : Nat) ≤ _; omega, ?_⟩
        rw [World.size_alloc] at hz2
        exact Rd.own hz2
  · rw [List.map_append]
    refine h.nm.load (by rw [List.length_map, h.nl, h.kl]) (by rw [h.nl]; exact hk) (fun f hf => ?_) rfl rfl
    obtain ⟨m, hm, rfl⟩ := List.mem_map.1 hf
    exact (h.ks m hm).2
theorem load_ok2 (w : World) (A : Option Addr) (n c : Nat) (ns : List Bs) (hl : ns.length = n) (h : Nms w A ns) (hn : n ≤ 1000) (A2 : Option Addr) (c2 : Nat) (K : List BM) (hl2 : K.length = n) (h2 : BRows w A2 K) (hk : loadErr ns (K.map (·.l)) = 0) {st : St} (hst : loadSt ns (K.map (·.l)) = st) :
    Calls Tryz.prog 6 #[.slice A n c, .slice A2 n c2] w (LoadOk st w) := by subst hst; exact load_ok w A n c ns hl h hn A2 c2 K hl2 h2 hk
theorem rload_ok2 (w : World) (A : Option Addr) (n c : Nat) (ns : List Bs) (hl : ns.length = n) (h : Nms w A ns) (hn : n ≤ 300) (A2 : Option Addr) (c2 : Nat) (K : List BM) (hl2 : K.length = n) (h2 : BRows w A2 K) (hk : loadErr ns (K.map (·.l)) = 0) {st : St} (hst : loadSt ns (K.map (·.l)) = st) :
    Calls Tryz.prog 7 #[.slice A n c, .slice A2 n c2] w (RlRet w 0 st) := by
  subst hst
  have := rload_any w A n c ns hl h hn A2 c2 K hl2 h2 hk
  rw [if_pos rfl] at this
  exact this
/-! ### behind both Loads -/
/-- The cells of a reference's drive. -/
def rC (A : Option Addr) (c : Nat) (st : St) : Array Value := #[.slice A st.files.length c, .int .i64 (st.steps : Int), .bool st.armed, .int .i64 (st.left : Int)]
structure OpW (w : World) (g b : Nat) (st : St) (A : Option Addr) (c : Nat) (T : Nat → Prop) (W : World) : Prop where
  d : DS w W (fun k => T k ∨ k = g) b st
  r : RefRep W T (.agg (rC A c st)) st
  m : Blk W g 35 (rC A c st)
  gw : w.heap.size ≤ g
section
variable {w W W' : World} {g b : Nat} {st : St} {A : Option Addr} {c : Nat} {T : Nat → Prop}
theorem OpW.below (h : OpW w g b st A c T W) (hb : Below W.heap.size W W') : OpW w g b st A c T W' := ⟨h.d.below hb, h.r.below hb, h.m.same (hb.block _ h.m.lt), h.gw⟩
theorem OpW.cells (h : OpW w g b st A c T W) : W.cell? ⟨g, 0, none⟩ = some (.slice A st.files.length c) ∧ W.cell? ⟨g, 1, none⟩ = some (.int .i64 (st.steps : Int)) ∧ W.cell? ⟨g, 2, none⟩ = some (.bool st.armed) ∧ W.cell? ⟨g, 3, none⟩ = some (.int .i64 (st.left : Int)) := cells4D h.m
theorem OpW.tells (h : OpW w g b st A c T W) (hok : st.Ok) : Calls Tryz.prog 11 #[.pointer (some ⟨b, 0, none⟩), .agg #[.slice A st.files.length c, .int .i64 (st.steps : Int), .bool st.armed, .int .i64 (st.left : Int)]] W (Yes W) := by
  obtain ⟨S, h1, _⟩ := h.d.rep
  exact tells_any h1 h.r hok
theorem OpW.made {w6 w7 w8 : World} (hw : Below w.heap.size w w6) (hd : DriveRep w7 (New w6 w7) b st) (hb7 : Below w6.heap.size w6 w7) (hr : RefRep w8 T (.agg (rC A c st)) st) (hT : ∀ k, T k → w7.heap.size ≤ k) (hb8 : Below w7.heap.size w7 w8) (hg : g = w8.heap.size) (hW : W = w8.alloc (.cells #[.slice A st.files.length c, .int .i64 (st.steps : Int), .bool st.armed, .int .i64 (st.left : Int)] 35)) : OpW w g b st A c T W := by
  subst hg hW
  have hx := (Below.refl w8.heap.size w8).alloc (Nat.le_refl _) (.cells #[.slice A st.files.length c, .int .i64 (st.steps : Int), .bool st.armed, .int .i64 (st.left : Int)] 35)
  have s1 := hw.size
  have s2 := hb7.size
  have s3 := hb8.size
  refine ⟨⟨New w6 w7, (hd.below hb8).below hx, fun k hk => ?_, ((hw.trans (hb7.mono s1)).trans (hb8.mono (Nat.le_trans s1 s2))).trans (hx.mono (by omega)), fun k hk => ?_⟩, hr.below hx, Blk.new _ _ _, by omega⟩
  · have := hk.1; omega
  · rw [World.size_alloc]
    rcases hk with hk | rfl
    · have h1 := hr.lt k hk
      have h2 := hT k hk
      exact ⟨by omega, fun hs => by have := hs.2; omega⟩
    · exact ⟨by omega, fun hs => by have := hs.2; omega⟩
theorem RefRep.boxes0 {v : Value} (h : RefRep W T v st) (hk : ∀ k, T k → W'.heap[k]? = W.heap[k]?) (hl : ∀ k, T k → k < W'.heap.size) : RefRep W' T v st := by
  obtain ⟨u, rfl, hs⟩ := h
  exact ⟨u, rfl, own_same hs.1 fun k e => hk k (hs.2.1 k e), hs.2.1, hl⟩
theorem RefRep.boxes {v : Value} {g1 g2 : Nat} {c1 c2 : Array Value} (h : RefRep W T v st) (h1 : Blk W g1 35 c1) (h2 : Blk W g2 42 c2) (hs : ∀ k, k ≠ g1 → k ≠ g2 → W'.heap[k]? = W.heap[k]?) (hz : W.heap.size ≤ W'.heap.size) : ∃ T', RefRep W' T' v st := by
  obtain ⟨u, rfl, hl⟩ := h
  exact ⟨fun k => u.ownBlock = some k, u, rfl, own_same hl.1 (fun k e => hs k (fun e2 => own_not_box hl.1 h1 (by decide) (e2 ▸ e)) (fun e2 => own_not_box hl.1 h2 (by decide) (e2 ▸ e))), fun k e => e, fun k e => Nat.lt_of_lt_of_le (hl.2.2 k (hl.2.1 k e)) hz⟩
end
/-- Behind the log's Open: the drive with its log, and the reference. -/
structure OpL (w : World) (g b bl : Nat) (M : Int) (dead : Bool) (st : St) (X : Nat → Prop) (A : Option Addr) (c : Nat) (T : Nat → Prop) (W : World) : Prop where
  l : LS w W X bl b M dead st
  r : RefRep W T (.agg (rC A c st)) st
  m : Blk W g 35 (rC A c st)
  gw : w.heap.size ≤ g
  xt : ∀ k, T k → X k
  xg : X g
section
variable {w W W' : World} {g b bl : Nat} {M : Int} {dead : Bool} {st : St} {X : Nat → Prop} {A : Option Addr} {c : Nat} {T : Nat → Prop}
theorem OpL.below (h : OpL w g b bl M dead st X A c T W) (hb : Below W.heap.size W W') : OpL w g b bl M dead st X A c T W' := ⟨h.l.below hb, h.r.below hb, h.m.same (hb.block _ h.m.lt), h.gw, h.xt, h.xg⟩
theorem OpL.cells (h : OpL w g b bl M dead st X A c T W) : W.cell? ⟨g, 0, none⟩ = some (.slice A st.files.length c) ∧ W.cell? ⟨g, 1, none⟩ = some (.int .i64 (st.steps : Int)) ∧ W.cell? ⟨g, 2, none⟩ = some (.bool st.armed) ∧ W.cell? ⟨g, 3, none⟩ = some (.int .i64 (st.left : Int)) := cells4D h.m
theorem OpL.bel (h : OpL w g b bl M dead st X A c T W) : Below w.heap.size w W := h.l.ds.bel
theorem OpL.tells (h : OpL w g b bl M dead st X A c T W) (hok : st.Ok) : Calls Tryz.prog 11 #[.pointer (some ⟨b, 0, none⟩), .agg #[.slice A st.files.length c, .int .i64 (st.steps : Int), .bool st.armed, .int .i64 (st.left : Int)]] W (Yes W) := by
  obtain ⟨S, h1, _⟩ := h.l.ds.rep
  exact tells_any h1 h.r hok
theorem OpL.box {X' : Nat → Prop} (h : OpL w g b bl M dead st X A c T W) (hb : Below W.heap.size W W') (hx : ∀ k, X' k → ext X W W' k) (hx2 : ∀ k, X k → X' k) : OpL w g b bl M dead st X' A c T W' :=
  ⟨(h.l.news hb).weak hx, h.r.below hb, h.m.same (hb.block _ h.m.lt), h.gw, fun k hk => hx2 k (h.xt k hk), hx2 g h.xg⟩
theorem OpL.app {N : Nat} {q : (Int × Bool × St) × Nat} (h : OpL w g b bl (N : Int) false st X A c T W) (hL : Lb 4 w) (hok : st.Ok) (hst : st.steps = 0) (h1 : 1 ≤ N) (h2 : N ≤ 1000000) (hf : find st.files (seg (N : Int)) = none) (hq : lput (N : Int) false st [7] = q) :
    Calls Tryz.prog 12 #[.pointer (some ⟨bl, 0, none⟩), .slice (some ⟨W.heap.size, 0, none⟩) 1 1] (W.alloc (.cells #[.int .u8 7] 5)) fun e w' => e = .returned (.int .i64 (q.2 : Int)) ∧ LS w w' X bl b q.1.1 q.1.2.1 q.1.2.2 ∧ ∀ k, X k → w'.heap[k]? = W.heap[k]? := by
  have hx := h.below ((Below.refl _ _).alloc (Nat.le_refl _) (.cells #[.int .u8 7] 5))
  have h3 := lapp_any hx.l hL hok (by omega) (by omega) (by omega) (some ⟨W.heap.size, 0, none⟩) 1 1 [7] rfl (Rd.block _ _ _ _)
  rw [lapp_new (by decide) hf, hq] at h3
  refine h3.mono ?_
  rintro e w' ⟨rfl, h4, h5⟩
  exact ⟨rfl, h4, fun k hk => (h5 k hk).trans (Below.heap_alloc _ _ _ (h.l.xlt hk))⟩
/-- Behind the log's Append. -/
structure OpA (w : World) (g g2 b bl : Nat) (N : Nat) (q : (Int × Bool × St) × Nat) (st : St) (X : Nat → Prop) (A : Option Addr) (c : Nat) (T : Nat → Prop) (W : World) : Prop where
  l : LS w W X bl b q.1.1 q.1.2.1 q.1.2.2
  r : RefRep W T (.agg (rC A c st)) st
  m : Blk W g 35 (rC A c st)
  m2 : Blk W g2 42 #[.int .i64 (N : Int), .bool false]
  gw : w.heap.size ≤ g
  xg : X g
  xg2 : X g2
theorem OpL.after {N g2 : Nat} {q : (Int × Bool × St) × Nat} (h : OpL w g b bl (N : Int) false st X A c T W) (hm : Blk W g2 42 #[.int .i64 (N : Int), .bool false]) (hx : X g2) (hl : LS w W' X bl b q.1.1 q.1.2.1 q.1.2.2) (hk : ∀ k, X k → W'.heap[k]? = W.heap[k]?) : OpA w g g2 b bl N q st X A c T W' :=
  ⟨hl, RefRep.boxes0 h.r (fun k e => hk k (h.xt k e)) (fun k e => hl.xlt (h.xt k e)), h.m.same (hk g h.xg), hm.same (hk g2 hx), h.gw, h.xg, hx⟩
theorem OpA.below {N g2 : Nat} {q : (Int × Bool × St) × Nat} (h : OpA w g g2 b bl N q st X A c T W) (hb : Below W.heap.size W W') : OpA w g g2 b bl N q st X A c T W' := ⟨h.l.below hb, h.r.below hb, h.m.same (hb.block _ h.m.lt), h.m2.same (hb.block _ h.m2.lt), h.gw, h.xg, h.xg2⟩
theorem OpA.cells {N g2 : Nat} {q : (Int × Bool × St) × Nat} (h : OpA w g g2 b bl N q st X A c T W) : (W.cell? ⟨g, 0, none⟩ = some (.slice A st.files.length c) ∧ W.cell? ⟨g, 1, none⟩ = some (.int .i64 (st.steps : Int)) ∧ W.cell? ⟨g, 2, none⟩ = some (.bool st.armed) ∧ W.cell? ⟨g, 3, none⟩ = some (.int .i64 (st.left : Int))) ∧ W.cell? ⟨g2, 0, none⟩ = some (.int .i64 (N : Int)) ∧ W.cell? ⟨g2, 1, none⟩ = some (.bool false) := ⟨cells4D h.m, h.m2.cell 0, h.m2.cell 1⟩
theorem OpA.rapp {N g2 : Nat} {q : (Int × Bool × St) × Nat} (h : OpA w g g2 b bl N q st X A c T W) (hok : st.Ok) (hst : st.steps = 0) (h1 : 1 ≤ N) (h2 : N ≤ 1000000) (hf : find st.files (seg (N : Int)) = none) (hq : lput (N : Int) false st [7] = q) :
    Calls Tryz.prog 13 #[.agg #[.slice A st.files.length c, .int .i64 (st.steps : Int), .bool st.armed, .int .i64 (st.left : Int)], .agg #[.int .i64 (N : Int), .bool false], .slice (some ⟨W.heap.size, 0, none⟩) 1 1] (W.alloc (.cells #[.int .u8 7] 5)) fun e w' =>
      ∃ A' c' T', e = .returned (.tuple #[.agg #[.slice A' q.1.2.2.files.length c', .int .i64 (q.1.2.2.steps : Int), .bool q.1.2.2.armed, .int .i64 (q.1.2.2.left : Int)], .agg #[.int .i64 q.1.1, .bool q.1.2.1], .int .i64 (q.2 : Int)]) ∧ RefRep w' T' (.agg (rC A' c' q.1.2.2)) q.1.2.2 ∧ Below W.heap.size W w' := by
  have hb := (Below.refl W.heap.size W).alloc (Nat.le_refl _) (.cells #[.int .u8 7] 5)
  have h3 := rapp_new (h.r.below hb) hok (by omega) N h1 h2 hf (A := some ⟨W.heap.size, 0, none⟩) (n := 1) (c := 1) (l := [7]) rfl (Rd.block _ _ _ _) (by omega)
  rw [hq] at h3
  refine h3.mono ?_
  rintro e w' ⟨v', T', rfl, hr, hb2⟩
  obtain ⟨A', c', rfl, _, _⟩ := refV_of hr
  exact ⟨A', c', T', rfl, hr, hb.trans (hb2.mono hb.size)⟩
theorem blk_box4 {a0 a1 a2 a3 : Value} (h : Blk W g 35 #[a0, a1, a2, a3]) : (W.cell? ⟨g, 0, none⟩ = some a0 ∧ W.cell? ⟨g, 1, none⟩ = some a1 ∧ W.cell? ⟨g, 2, none⟩ = some a2 ∧ W.cell? ⟨g, 3, none⟩ = some a3) ∧ W.frozen? ⟨g, 0, none⟩ = false ∧ W.frozen? ⟨g, 1, none⟩ = false ∧ W.frozen? ⟨g, 2, none⟩ = false ∧ W.frozen? ⟨g, 3, none⟩ = false := ⟨cells4D h, h.frozen 0, h.frozen 1, h.frozen 2, h.frozen 3⟩
theorem blk_box2 {a0 a1 : Value} (h : Blk W g 42 #[a0, a1]) : (W.cell? ⟨g, 0, none⟩ = some a0 ∧ W.cell? ⟨g, 1, none⟩ = some a1) ∧ W.frozen? ⟨g, 0, none⟩ = false ∧ W.frozen? ⟨g, 1, none⟩ = false := ⟨⟨h.cell 0, h.cell 1⟩, h.frozen 0, h.frozen 1⟩
/-- At the end. -/
structure OpZ (w : World) (g g2 b bl : Nat) (q : (Int × Bool × St) × Nat) (A : Option Addr) (c : Nat) (W : World) : Prop where
  d : ∃ S, DriveRep W S b q.1.2.2
  r : ∃ T, RefRep W T (.agg (rC A c q.1.2.2)) q.1.2.2
  log : LogAt W bl b q.1.1 q.1.2.1
  m : Blk W g 35 (rC A c q.1.2.2)
  m2 : Blk W g2 42 #[.int .i64 q.1.1, .bool q.1.2.1]
  bel : Below w.heap.size w W
theorem OpZ.below {g2 : Nat} {q : (Int × Bool × St) × Nat} (h : OpZ w g g2 b bl q A c W) (hb : Below W.heap.size W W') : OpZ w g g2 b bl q A c W' :=
  ⟨let ⟨S, h1⟩ := h.d; ⟨S, h1.below hb⟩, let ⟨T, h1⟩ := h.r; ⟨T, h1.below hb⟩, h.log.same (hb.block _ h.log.lt), h.m.same (hb.block _ h.m.lt), h.m2.same (hb.block _ h.m2.lt), h.bel.trans (hb.mono h.bel.size)⟩
theorem OpZ.tells {g2 : Nat} {q : (Int × Bool × St) × Nat} (h : OpZ w g g2 b bl q A c W) (hok : q.1.2.2.Ok) : Calls Tryz.prog 11 #[.pointer (some ⟨b, 0, none⟩), .agg #[.slice A q.1.2.2.files.length c, .int .i64 (q.1.2.2.steps : Int), .bool q.1.2.2.armed, .int .i64 (q.1.2.2.left : Int)]] W (Yes W) := by
  obtain ⟨S, h1⟩ := h.d
  obtain ⟨T, h2⟩ := h.r
  exact tells_any h1 h2 hok
theorem OpZ.ral {g2 : Nat} {q : (Int × Bool × St) × Nat} (h : OpZ w g g2 b bl q A c W) : RaL g g2 (.slice A q.1.2.2.files.length c) (.int .i64 (q.1.2.2.steps : Int)) (.bool q.1.2.2.armed) (.int .i64 (q.1.2.2.left : Int)) (.int .i64 q.1.1) (.bool q.1.2.1) W := ra_l h.m h.m2
theorem OpA.fin {N g2 : Nat} {q : (Int × Bool × St) × Nat} {A' : Option Addr} {c' : Nat} {T' : Nat → Prop} (h : OpA w g g2 b bl N q st X A c T W) (hgg : g ≠ g2) (hg2 : w.heap.size ≤ g2) (hr : RefRep W T' (.agg (rC A' c' q.1.2.2)) q.1.2.2) :
    OpZ w g g2 b bl q A' c' (st2 (st4 W g (.slice A' q.1.2.2.files.length c') (.int .i64 (q.1.2.2.steps : Int)) (.bool q.1.2.2.armed) (.int .i64 (q.1.2.2.left : Int))) g2 (.int .i64 q.1.1) (.bool q.1.2.1)) := by
  have hm : Mod (fun k => X k ∧ w.heap.size ≤ k) W (st2 (st4 W g (.slice A' q.1.2.2.files.length c') (.int .i64 (q.1.2.2.steps : Int)) (.bool q.1.2.2.armed) (.int .i64 (q.1.2.2.left : Int))) g2 (.int .i64 q.1.1) (.bool q.1.2.1)) := st2_mod (st4_mod (Mod.refl _ W) ⟨h.xg, h.gw⟩ _ _ _ _) ⟨h.xg2, hg2⟩ _ _
  have hl := h.l.law hm
  have hb4 : Blk (st4 W g (.slice A' q.1.2.2.files.length c') (.int .i64 (q.1.2.2.steps : Int)) (.bool q.1.2.2.armed) (.int .i64 (q.1.2.2.left : Int))) g 35 (rC A' c' q.1.2.2) := (((h.m.set 0 _).set 1 _).set 2 _).set 3 _
  have hm2 : Blk (st4 W g (.slice A' q.1.2.2.files.length c') (.int .i64 (q.1.2.2.steps : Int)) (.bool q.1.2.2.armed) (.int .i64 (q.1.2.2.left : Int))) g2 42 #[.int .i64 (N : Int), .bool false] := h.m2.same (st4_off _ _ _ _ _ hgg.symm)
  refine ⟨let ⟨S, h1, _⟩ := hl.ds.rep; ⟨S, h1⟩, ?_, hl.log, hb4.same (st2_off _ _ _ hgg), (hm2.set 0 _).set 1 _, hl.ds.bel⟩
  exact RefRep.boxes hr h.m h.m2 (fun k h1 h2 => (st2_off _ _ _ h2).trans (st4_off _ _ _ _ _ h1)) hm.size
theorem open_in (h : OpW w g b st A c T W) (hok : st.Ok) {B : Nat} (hL : Lb B W) {a : Int} (h1 : 1 ≤ a) (h2 : a ≤ 999999) {N : Nat} (hM : nextOf a (segs st.files) = (N : Int)) :
    Calls Tryz.prog 8 #[.pointer (some ⟨b, 0, none⟩), .int .i64 a] W fun e w' => ∃ bl A' k c' vs, e = .returned (.tuple #[.pointer (some ⟨bl, 0, none⟩), .slice A' k c', .int .i64 0]) ∧ OpL w g b bl (N : Int) false st (fun k => T k ∨ k = g) A c T w' ∧ (paysOf st.files a (segs st.files)).length = k ∧ Rd w' A' vs ∧ RdL w' vs (paysOf st.files a (segs st.files)) ∧ Below W.heap.size W w' := by
  obtain ⟨S, hS, _⟩ := h.d.rep
  refine (open_any hS hok hL a h1 h2).mono ?_
  rintro e w' ⟨bl, A', k, c', vs, rfl, hbl, hlog, hk, _, hrow, hown, hb⟩
  rw [hM] at hlog
  have hw := h.d.bel.size
  refine ⟨bl, A', k, c', vs, rfl, ⟨⟨h.d.add hb fun q hq => ?_, hlog, by omega, fun hx => ?_⟩, h.r.below hb, h.m.same (hb.block _ h.m.lt), h.gw, fun q hq => .inl hq, .inr rfl⟩, hk, Rd.own hrow, hown.reads, hb⟩
  · rcases hq with hq | rfl
    · exact .inl hq
    · exact .inr ⟨hbl, hlog.lt⟩
  · rcases hx with hx | rfl
    · have := h.r.lt _ hx; omega
    · have := h.m.lt; omega
theorem ropen_in {v : Value} (h : RefRep W T v st) (hok : st.Ok) {a : Int} (h1 : 1 ≤ a) (h2 : a ≤ 999999) {N : Nat} (hM : nextOf a (segs st.files) = (N : Int)) :
    Calls Tryz.prog 9 #[v, .int .i64 a] W fun e w' => ∃ A' k c' vs, e = .returned (.tuple #[.agg #[.int .i64 (N : Int), .bool false], .slice A' k c', .int .i64 0]) ∧ (paysOf st.files a (segs st.files)).length = k ∧ k ≤ 67108864 ∧ Rd w' A' vs ∧ RdL w' vs (paysOf st.files a (segs st.files)) ∧ Below W.heap.size W w' := by
  have h3 := ropen_any h hok a h1 h2
  refine h3.mono ?_
  rintro e w' ⟨A', k, c', vs, rfl, hk, _, hk2, hrow, hown, hb⟩
  rw [hM]
  exact ⟨A', k, c', vs, rfl, hk, hk2, Rd.own hrow, hown.reads, hb⟩
end
set_option maxRecDepth 100000 in
theorem big_walk (A0 : Option Addr) (n0 c0 : Nat) (A1 : Option Addr) (n c : Nat) (a : Int) (w : World) (hn : 20 < n) (hL : Lb 4 w) :
    Calls Tryz.prog 3 #[.slice A0 n0 c0, .slice A1 n c, .int .i64 a] w (Yes w) := by
  have hn' : (20 : Int) < (n : Int) := by omega
  have HL := Lib.hid hL
  clear hL
  go_enter Tryz.func3, Tryz.ntmps3
  go_wp2_with (first
    | (go_at_call 4; (with_reducible refine (wawake_any (w := w) HL.out).mono ?_); rintro e w1 ⟨rfl, hb1⟩; have HL1 := Lib.hid (HL.out.below (hb1.mono HL.out.up)); have HB1 := Lib.hid hb1; clear hb1)
    | (go_at_call 4; (with_reducible refine (wawake_any (w := w1) HL1.out).mono ?_); rintro e w2 ⟨rfl, hb2⟩))
  go_ret
  exact Yes.mk (HB1.out.trans (hb2.mono HB1.out.size))
set_option maxRecDepth 100000 in
set_option maxHeartbeats 2000000 in
theorem opens_walk {w : World} (A0 : Option Addr) (n0 c0 : Nat) (zs : List Int) (hz0 : zs.length = n0) (hrz : Rd w A0 (iv zs)) (hzb : ∀ z ∈ zs, -9223372036854775808 ≤ z ∧ z ≤ 9223372036854775807) (A1 : Option Addr) (n c : Nat) (K0 : List BM) (hK : K0.length = n) (hF : BRows w A1 K0) (a : Int) (hn : n ≤ 20) (hL : Lb 4 w) :
    Calls Tryz.prog 3 #[.slice A0 n0 c0, .slice A1 n c, .int .i64 a] w (Yes w) := by
  have hn' : ¬ (20 : Int) < (n : Int) := by omega
  have HL := Lib.hid hL
  have HZ0 := Lib.hid hz0
  have HRZ := Lib.hid hrz
  have HZB := Lib.hid hzb
  have HK := Lib.hid hK
  have HF := Lib.hid hF
  obtain ⟨i1, hi1, hzz, hzz1, hzz2⟩ := info_parts info_bs'
  obtain ⟨i2, hi2, hy, hy1, hy2⟩ := info_parts info_st'
  clear hL hz0 hrz hzb hK hF
  go_enter Tryz.func3, Tryz.ntmps3
  go_wp2_with (go_at_call 4; (with_reducible refine (wawake_any (w := w) HL.out).mono ?_); rintro e w1 ⟨rfl, hb1⟩; have HB1 := Lib.hid hb1; clear hb1)
  go_loopw [7, 8, 36] (OpvI w K0 n) (fun _ _ x _ => n - (intOf x).toNat)
  case atStart => exact ⟨0, 0, [], [], none, none, 0, 0, by omega, by omega, rfl, rfl, rfl, Lib.hid ⟨World.ownsRow_nil _ _ _ _, World.ownsRow_nil _ _ _ _, rfl, rfl, Nm.nil, fun _ h => (by cases h), HB1.out⟩⟩
  case round =>
    clear HB1
    obtain ⟨i, k, ns, K, AN, AI, cN, cI, hi, hki, rfl, rfl, rfl, HS⟩ := hrel
    obtain ⟨wq, hwq⟩ : ∃ wq, wq = wr := ⟨_, rfl⟩
    subst hwq
    by_cases hlt : i < n
    · have k1 : (i : Int) < (n : Int) := by omega
      have k2 : (0 : Int) ≤ (i : Int) := by omega
      go_upto_if 44 with fail
      go_cut [10] from 44 to 51 (fun s10 W => ∃ m : Nat, m ≤ 1000000 ∧ s10 = .int .i64 (m : Int) ∧ W = wq)
      case first =>
        by_cases hni : i < n0
        · have k3 : (i : Int) < (n0 : Int) := by omega
          obtain ⟨z, hz⟩ : ∃ z, zs[i]? = some z := ⟨zs[i]'(by have := HZ0.out; omega), List.getElem?_eq_getElem _⟩
          obtain ⟨hz1, hz2⟩ := HZB.out z (List.mem_of_getElem? hz)
          obtain ⟨hzl, hze⟩ := List.getElem?_eq_some_iff.1 hz
          obtain ⟨g, p, rfl, hg, hc⟩ := (HRZ.out.below HS.out.bel).at_ (i := i) (by rw [iv_length]; exact hzl)
          have hc' : wq.cell? ⟨g, p + i, none⟩ = some (.int .i64 z) := by rw [hc]; simp [iv, hze]
          clear hc hze hz
          go_wp2_with fail
          go_meet
          case rel =>
            obtain ⟨m, h1, h2⟩ := num_mod z
            exact ⟨m, h1, by rw [h2], rfl⟩
        · have k3 : ¬ (i : Int) < (n0 : Int) := by omega
          go_wp2_with fail
          go_meet
          case rel => exact ⟨i + 1, by omega, by simp, rfl⟩
      case rest =>
        obtain ⟨m, hm, rfl, rfl⟩ := hcut
        obtain ⟨kr, hkr⟩ : ∃ kr, K0[i]? = some kr := ⟨K0[i]'(by have := HK.out; omega), List.getElem?_eq_getElem _⟩
        have HKR := Lib.hid hkr
        obtain ⟨gf, pf, rfl, hgf, hcf⟩ := HF.out.cell i kr hkr
        obtain ⟨hkl, hkc, hkm, hkq⟩ := HF.out.rows kr (List.mem_of_getElem? hkr)
        have HKL := Lib.hid hkl
        have HCF := Lib.hid (fun (W : World) (hW : Below w.heap.size w W) => (hW.cell (p := ⟨gf, pf + i, none⟩) hgf).trans hcf)
        clear hkr hcf hkl hkc hkq
        go_upto_region 13 with (go_at_call 5; refine (rname_any m wc hm).mono ?_; rintro e w2 ⟨s2, rfl, hs2, hsz2, hb2⟩; have HS2 := Lib.hid (HS.out.below hb2); have HN2 := Lib.hid hs2; have hc2 := HCF.out w2 HS2.out.bel; clear hb2 hs2)
        obtain ⟨b0, hb0⟩ : ∃ b0 : Bool, b0 = decide ((kr.n : Int) < 20000) := ⟨_, rfl⟩
        rw [← hb0]
        have hkb : b0 = true ↔ kr.l.length < 20000 := by rw [hb0, HKL.out, decide_eq_true_eq]; omega
        have HKB := Lib.hid hkb
        clear hb0 hkb
        obtain ⟨x, hx⟩ : ∃ x, x = rname m := ⟨_, rfl⟩
        have HX := Lib.hid hx
        have HN3 : Hid (s2.data.toList = x) := by rw [hx]; exact HN2.out
        clear hx HN2
        go_wp2_with fail
        go_loopw [12, 62] (fun s12 s62 W => ∃ (j : Nat) (fr : Bool), j ≤ k ∧ s12 = .bool fr ∧ s62 = .int .i64 (j : Int) ∧ W = w2 ∧ Hid (fr = true ↔ kr.l.length < 20000 ∧ x ∉ ns.take j)) (fun _ y _ => k - (intOf y).toNat)
        case atStart => exact ⟨0, b0, by omega, rfl, rfl, rfl, Lib.hid (by simpa using HKB.out)⟩
        case round =>
          obtain ⟨j, fr, hj, rfl, rfl, rfl, HFR⟩ := hrel
          by_cases hjk : j < k
          · have q1 : (j : Int) < (k : Int) := by omega
            have q2 : (0 : Int) ≤ (j : Int) := by omega
            obtain ⟨y, hy0⟩ : ∃ y, ns[j]? = some y := ⟨ns[j]'(by have := HS2.out.nl; omega), List.getElem?_eq_getElem _⟩
            obtain ⟨hyl, hye⟩ := List.getElem?_eq_some_iff.1 hy0
            obtain ⟨gn, pn, rfl, hgn, hcn⟩ := (Rd.own HS2.out.nrow).at_ (i := j) (by rw [List.length_map]; exact hyl)
            obtain ⟨sy, hsy⟩ : ∃ sy : ByteArray, sy = ⟨y.toArray⟩ := ⟨_, rfl⟩
            have hcn' : wr.cell? ⟨gn, pn + j, none⟩ = some (.string sy) := by rw [hcn, List.getElem_map, hye, hsy]
            have hsy2 : sy.data.toList = y := by rw [hsy]
            have ht : ns.take (j + 1) = ns.take j ++ [y] := by rw [List.take_add_one, hy0]; rfl
            have HT := Lib.hid ht
            have HSY := Lib.hid hsy2
            clear hcn hy0 hye hsy hsy2 ht
            cases fr with
            | true =>
              by_cases hyx : y = x
              · obtain ⟨e1, e2⟩ := beq_str HSY.out HN3.out hyx
                go_wp2_with fail
                go_roundw
                case rel => exact ⟨j + 1, false, by omega, rfl, by go_num, trivial, Lib.hid (by rw [HT.out, hyx]; simp)⟩
                case measure => simp [intOf]; omega
              · obtain ⟨e1, e2⟩ := bne_str HSY.out HN3.out hyx
                have HYX := Lib.hid hyx
                clear hyx
                go_wp2_with fail
                go_roundw
                case rel => exact ⟨j + 1, true, by omega, rfl, by go_num, trivial, Lib.hid (by
                  have h1 := HFR.out.1 rfl
                  rw [HT.out]
                  refine ⟨fun _ => ⟨h1.1, fun hm => ?_⟩, fun _ => rfl⟩
                  rcases List.mem_append.1 hm with hm | hm
                  · exact h1.2 hm
                  · exact HYX.out (List.mem_singleton.1 hm).symm)⟩
                case measure => simp [intOf]; omega
            | false =>
              go_wp2_with fail
              go_roundw
              case rel => exact ⟨j + 1, false, by omega, rfl, by go_num, trivial, Lib.hid (by
                rw [HT.out]
                refine ⟨fun h => (by cases h), fun h => ?_⟩
                exact HFR.out.2 ⟨h.1, fun hm => h.2 (List.mem_append_left _ hm)⟩)⟩
              case measure => simp [intOf]; omega
          · obtain rfl : j = k := by omega
            have q1 : ¬ (j : Int) < (j : Int) := by omega
            have hall : ns.take j = ns := List.take_of_length_le (by rw [HS2.out.nl]; exact Nat.le_refl _)
            rw [hall] at HFR
            clear hall
            cases fr with
            | true =>
              go_wp2_with (first
                | (at_builtin; refine wpList_app _ rfl (.tmp 74) (.tmp 76) _ rfl w.heap.size 9 i2 _ 16 Tryz.underlying25 hi2 hy hy1 hy2 rfl (.slice AN j cN) j (ns.map encStr) rfl (HS2.out.nrow.alloc _) (some ⟨wr.heap.size, 0, none⟩) 1 1 [_] rfl rfl (Rd.one _ _ _ _ _ rfl) (by intro u hu; simp at hu; subst hu; rfl) (j + 1) rfl (by unfold maxLen; omega) (by omega) (by have := HS2.out.bel.size; simp; omega) ?_; intro A5 c5 w5 hown5 hb5 hg5 hl5; have HO5 := Lib.hid hown5; have HG5 := Lib.hid hg5; have HI5 := Lib.hid ((HS2.out.irow.alloc (.cells #[.string s2] 9)).kept hg5 (own_ne HS2.out.irow HS2.out.nrow (by decide))); have HB5 := Lib.hid ((HS2.out.bel.alloc HS2.out.bel.size (.cells #[.string s2] 9)).trans hb5); have hc5 := HCF.out w5 HB5.out; clear hown5 hb5 hg5 hl5)
                | (at_builtin; refine wpList_app _ rfl (.tmp 78) (.tmp 83) _ rfl w.heap.size 28 i1 _ 24 Tryz.underlying23 hi1 hzz hzz1 hzz2 rfl (.slice AI j cI) j (K.map slV) rfl (HI5.out.alloc _) (some ⟨w5.heap.size, 0, none⟩) 1 1 [_] rfl rfl (Rd.one _ _ _ _ _ rfl) (by intro u hu; simp at hu; subst hu; rfl) (j + 1) rfl (by unfold maxLen; omega) (by omega) (by have := HB5.out.size; simp; omega) ?_; intro A6 c6 w6 hown6 hb6 hg6 hl6; have HO6 := Lib.hid hown6; have HG6 := Lib.hid hg6; have HB6 := Lib.hid hb6; clear hown6 hb6 hg6 hl6))
              go_roundw
              case rel => exact ⟨i + 1, j + 1, ns ++ [x], K ++ [kr], A5, A6, c5, c6, by omega, by omega, rfl, rfl, by go_num, Lib.hid (HS2.out.snoc HN3.out HX.out (HFR.out.1 rfl).2 (List.mem_of_getElem? HKR.out) (HFR.out.1 rfl).1 HO5.out HI5.out HB5.out HO6.out HG6.out HB6.out)⟩
              case measure => simp [intOf]; omega
            | false =>
              go_wp2_with fail
              go_roundw
              case rel => exact ⟨i + 1, j, ns, K, AN, AI, cN, cI, by omega, by omega, rfl, rfl, by go_num, HS2⟩
              case measure => simp [intOf]; omega
    · obtain rfl : i = n := by omega
      have k1 : ¬ (i : Int) < (i : Int) := by omega
      go_upto_region 27 with (first
        | (at_builtin; refine wpList_app _ rfl (.tmp 86) (.tmp 87) _ rfl w.heap.size 9 i2 _ 16 Tryz.underlying25 hi2 hy hy1 hy2 rfl (.slice AN k cN) k (ns.map encStr) rfl (HS.out.nrow.alloc _) (some ⟨wq.heap.size, 0, none⟩) 2 2 [_, _] rfl rfl (Rd.block _ _ _ #[_, _]) (by intro u hu; simp at hu; rcases hu with rfl | rfl <;> rfl) (k + 2) rfl (by unfold maxLen; omega) (by omega) (by have := HS.out.bel.size; simp; omega) ?_; intro A5 c5 w5 hown5 hb5 hg5 hl5; have HO5 := Lib.hid hown5; have HI5 := Lib.hid ((HS.out.irow.alloc _).kept hg5 (own_ne HS.out.irow HS.out.nrow (by decide))); have HB5 := Lib.hid ((HS.out.bel.alloc HS.out.bel.size _).trans hb5); clear hown5 hb5 hg5 hl5)
        | (at_builtin; refine wpList_app _ rfl (.tmp 89) (.tmp 92) _ rfl w.heap.size 28 i1 _ 24 Tryz.underlying23 hi1 hzz hzz1 hzz2 rfl (.slice AI k cI) k (K.map slV) rfl (((HI5.out.alloc _).alloc _).alloc _) (some ⟨w5.heap.size + 1 + 1, 0, none⟩) 2 2 [.slice (some ⟨w5.heap.size, 0, none⟩) 5 5, .slice (some ⟨w5.heap.size + 1, 0, none⟩) 5 5] rfl rfl (rd_two _ _ _ _ _ _) (by intro u hu; simp at hu; rcases hu with rfl | rfl <;> rfl) (k + 2) rfl (by unfold maxLen; omega) (by omega) (by have := HB5.out.size; simp; omega) ?_; intro A6 c6 w6 hown6 hb6 hg6 hl6; have HFI := Lib.hid (HS.out.fin HF.out (by omega) HO5.out HI5.out HB5.out hown6 hg6 hb6); clear hown6 hb6 hg6 hl6; obtain ⟨NS, hNS⟩ : ∃ NS, NS = ns ++ [xa, xb] := ⟨_, rfl⟩; obtain ⟨KS, hKS⟩ : ∃ KS, KS = K ++ [zr w5.heap.size, zr (w5.heap.size + 1)] := ⟨_, rfl⟩; rw [← hNS, ← hKS] at HFI; clear hNS hKS; obtain ⟨st, hst⟩ : ∃ st, loadSt NS (KS.map (·.l)) = st := ⟨_, rfl⟩; have HST := Lib.hid hst; clear hst)
        | (go_at_call 6; refine (load_ok2 w6 A5 (k + 2) c5 NS HFI.out.nl HFI.out.n (by omega) A6 c6 KS HFI.out.kl HFI.out.r HFI.out.z HST.out).mono ?_; rintro e w7 ⟨b, rfl, hd7, hb7⟩; have HD7 := Lib.hid hd7; have HB7 := Lib.hid hb7; clear hb7 hd7)
        | (go_at_call 7; refine (rload_ok2 w7 A5 (k + 2) c5 NS HFI.out.nl (HFI.out.n.below HB7.out) (by omega) A6 c6 KS HFI.out.kl (HFI.out.r.below HB7.out) HFI.out.z HST.out).mono ?_; rintro e w8 ⟨A8, c8, T8, rfl, hr8, hT8, hb8⟩; have HR8 := Lib.hid hr8; have HT8 := Lib.hid hT8; have HB8 := Lib.hid hb8; clear hr8 hT8 hb8))
      have hok : st.Ok := by rw [← HST.out]; exact loadSt_ok HFI.out.z
      have hst0 : st.steps = 0 := by rw [← HST.out]; rfl
      obtain ⟨g, hg⟩ : ∃ g, g = w8.heap.size := ⟨_, rfl⟩
      obtain ⟨W9, hW9⟩ : ∃ W9, W9 = w8.alloc (.cells #[.slice A8 st.files.length c8, .int .i64 (st.steps : Int), .bool st.armed, .int .i64 (st.left : Int)] 35) := ⟨_, rfl⟩
      have H9 : Hid (OpW w g b st A8 c8 T8 W9) := OpW.made HFI.out.bel HD7.out HB7.out HR8.out HT8.out HB8.out hg hW9
      rw [← hW9, ← hg]
      have HOK := Lib.hid hok
      have HST0 := Lib.hid hst0
      clear hg hW9 HB8 HT8 HR8 HB7 HD7 HST HFI HB5 HI5 HO5 HS HF HK HZB HRZ HZ0 hok hst0
      by_cases hra : a < 1 ∨ 999999 < a
      · have HRA := Lib.hid hra
        clear hra
        go_upto_region 29 with (first
          | (go_at_call 8; refine (open_out b a W9 HRA.out).mono ?_; rintro e w10 ⟨rfl, hb10⟩; have H10 := Lib.hid (H9.out.below hb10); clear hb10; obtain ⟨x0, x1, x2, x3⟩ := H10.out.cells)
          | (go_at_call 9; refine (ropen_out H10.out.r a HRA.out).mono ?_; rintro e w11 ⟨rfl, hb11⟩; have H11 := Lib.hid (H10.out.below hb11); clear hb11))
        have H12 := Lib.hid (H11.out.below ((Below.refl _ _).alloc (Nat.le_refl _) (.cells #[.int .i64 0, .bool false] 42)))
        clear H9 H10 H11 HL HRA x0 x1 x2 x3
        go_wp2_with (first
          | (go_at_call 10; refine (same_eq none none 0 0 0 [] [] [] _ rfl Rd.nil (OwnL.nil _ 0).reads Rd.nil (OwnL.nil _ 0).reads (by omega)).mono ?_; rintro e w13 ⟨rfl, hb13⟩; have H13 := Lib.hid (H12.out.below hb13); clear hb13; obtain ⟨x0, x1, x2, x3⟩ := H13.out.cells)
          | (go_at_call 11; refine (H13.out.tells HOK.out).mono ?_; rintro e w14 ⟨rfl, hb14⟩))
        go_ret
        exact Yes.mk (H13.out.d.bel.trans (hb14.mono H13.out.d.bel.size))
      · have hr1 : 1 ≤ a := by omega
        have hr2 : a ≤ 999999 := by omega
        obtain ⟨M, hM⟩ : ∃ M : Nat, nextOf a (segs st.files) = (M : Int) := ⟨(nextOf a (segs st.files)).toNat, by have := (nextOf_from (segs st.files) a).1; omega⟩
        obtain ⟨hM1, hM2, hfM⟩ := find_next HOK.out a hr1 hr2 hM
        have HM := Lib.hid hM
        have HFM := Lib.hid hfM
        have HL9 := Lib.hid (HL.out.below (H9.out.d.bel.mono HL.out.up))
        clear hM hfM hra
        go_upto_region 29 with (first
          | (go_at_call 8; refine (open_in H9.out HOK.out HL9.out hr1 hr2 HM.out).mono ?_; rintro e w10 ⟨bl, A10, k10, c10, vs, rfl, h10, hl10, hv10, ho10, hb10⟩; have H10 := Lib.hid h10; have HLN := Lib.hid hl10; have HV := Lib.hid hv10; have HO := Lib.hid ho10; clear h10 hl10 hv10 ho10 hb10; obtain ⟨x0, x1, x2, x3⟩ := H10.out.cells)
          | (go_at_call 9; refine (ropen_in H10.out.r HOK.out hr1 hr2 HM.out).mono ?_; rintro e w11 ⟨A11, k11, c11, vs2, rfl, hl11, hk11, hv11, ho11, hb11⟩; have HLN2 := Lib.hid hl11; have HV2 := Lib.hid hv11; have HO2 := Lib.hid ho11; have HB11 := Lib.hid hb11; clear hl11 hv11 ho11 hb11))
        obtain ⟨pays, hpays⟩ : ∃ pays, pays = paysOf st.files a (segs st.files) := ⟨_, rfl⟩
        rw [← hpays] at HLN HLN2 HO HO2
        have hkk : k11 = k10 := by have h1 := HLN.out; have h2 := HLN2.out; omega
        subst hkk
        obtain ⟨g2, hg2⟩ : ∃ g2, g2 = w11.heap.size := ⟨_, rfl⟩
        obtain ⟨W12, hW12⟩ : ∃ W12, W12 = w11.alloc (.cells #[.int .i64 (M : Int), .bool false] 42) := ⟨_, rfl⟩
        have hbw : Below w11.heap.size w11 W12 := by rw [hW12]; exact (Below.refl _ _).alloc (Nat.le_refl _) _
        have h12 : OpL w g b bl (M : Int) false st (fun k => (T8 k ∨ k = g) ∨ k = g2) A8 c8 T8 W12 := by
          refine (H10.out.below HB11.out).box hbw (fun k hk => ?_) fun k hk => .inl hk
          rcases hk with hk | rfl
          · exact .inl hk
          · exact .inr ⟨by omega, by rw [hW12, World.size_alloc]; omega⟩
        have hm2 : Blk W12 g2 42 #[.int .i64 (M : Int), .bool false] := by rw [hW12, hg2]; exact Blk.new _ _ _
        have H12 := Lib.hid h12
        have HM2 := Lib.hid hm2
        have HVA := Lib.hid ((HV.out.below HB11.out).below hbw)
        have HOA := Lib.hid ((HO.out.below HB11.out).below hbw)
        have HVB := Lib.hid (HV2.out.below hbw)
        have HOB := Lib.hid (HO2.out.below hbw)
        have hgw2 : w.heap.size ≤ g2 := by have h1 := H10.out.bel.size; have h2 := HB11.out.size; omega
        have hgg : g ≠ g2 := by have h1 := H10.out.m.lt; have h2 := HB11.out.size; omega
        obtain ⟨q, hq⟩ : ∃ q, lput (M : Int) false st [7] = q := ⟨_, rfl⟩
        have hok2 : q.1.2.2.Ok := by rw [← hq]; exact Ok.lput HOK.out
        have HQ := Lib.hid hq
        have HOK2 := Lib.hid hok2
        rw [← hW12, ← hg2]
        clear hpays hW12 hg2 hbw h12 hm2 HV HO HV2 HO2 HB11 H10 H9 HL9 HM x0 x1 x2 x3 hq hok2
        obtain ⟨x0, x1, x2, x3⟩ := H12.out.cells
        go_upto_region 34 with (first
          | (go_at_call 10; refine (same_eq A10 A11 k11 c10 c11 vs vs2 pays _ HLN.out HVA.out HOA.out HVB.out HOB.out (by omega)).mono ?_; rintro e w13 ⟨rfl, hb13⟩; have H13 := Lib.hid (H12.out.below hb13); have HM3 := Lib.hid (HM2.out.same (hb13.block _ HM2.out.lt)); clear hb13; obtain ⟨y0, y1, y2, y3⟩ := H13.out.cells)
          | (go_at_call 11; refine (H13.out.tells HOK.out).mono ?_; rintro e w14 ⟨rfl, hb14⟩; have H14 := Lib.hid (H13.out.below hb14); have HM4 := Lib.hid (HM3.out.same (hb14.block _ HM3.out.lt)); clear hb14)
          | (go_at_call 12; refine (H14.out.app HL.out HOK.out HST0.out hM1 hM2 HFM.out HQ.out).mono ?_; rintro e w15 ⟨rfl, h15, hx15⟩; have H15 := Lib.hid (H14.out.after HM4.out (.inr rfl) h15 hx15); clear h15 hx15))
        clear x0 x1 x2 x3 y0 y1 y2 y3
        obtain ⟨⟨x0, x1, x2, x3⟩, z0, z1⟩ := H15.out.cells
        go_upto_region 35 with (go_at_call 13; refine (H15.out.rapp HOK.out HST0.out hM1 hM2 HFM.out HQ.out).mono ?_; rintro e w17 ⟨A17, c17, T17, rfl, hr17, hb17⟩; have HR17 := Lib.hid hr17; have H17 := Lib.hid (H15.out.below hb17); clear hr17 hb17; obtain ⟨⟨u0, u1, u2, u3⟩, f0, f1, f2, f3⟩ := blk_box4 H17.out.m; obtain ⟨⟨v0, v1⟩, e0, e1⟩ := blk_box2 (H17.out.m2.same (st4_off w17 (R := g) (.slice A17 q.1.2.2.files.length c17) (.int .i64 (q.1.2.2.steps : Int)) (.bool q.1.2.2.armed) (.int .i64 (q.1.2.2.left : Int)) hgg.symm)); unfold st4 at v0 v1 e0 e1)
        obtain ⟨W18, hW18⟩ : ∃ W18, W18 = (((((w17.setCell ⟨g, 0, none⟩ (.slice A17 q.1.2.2.files.length c17)).setCell ⟨g, 1, none⟩ (.int .i64 (q.1.2.2.steps : Int))).setCell ⟨g, 2, none⟩ (.bool q.1.2.2.armed)).setCell ⟨g, 3, none⟩ (.int .i64 (q.1.2.2.left : Int))).setCell ⟨g2, 0, none⟩ (.int .i64 q.1.1)).setCell ⟨g2, 1, none⟩ (.bool q.1.2.1) := ⟨_, rfl⟩
        have hz := H17.out.fin hgg hgw2 HR17.out
        unfold st2 st4 at hz
        rw [← hW18] at hz ⊢
        have HZ : Hid (OpZ w g g2 b bl q A17 c17 W18.drew) := hz.below (Below.drewS (Below.refl _ _))
        have Ll0 := HZ.out.ral
        have hcc : ((q.2 : Int) == (q.2 : Int)) = true := beq_self_eq_true _
        have hcg : (q.1.1 == q.1.1) = true := beq_self_eq_true _
        clear hz hW18 H15 HR17 H17 HQ HM4 HM3 HM2 H12 H13 H14 HVA HOA HVB HOB HLN HLN2 x0 x1 x2 x3 z0 z1 u0 u1 u2 u3 f0 f1 f2 f3 v0 v1 e0 e1
        refine wp_region_held_drew (S := (RaL g g2 (.slice A17 q.1.2.2.files.length c17) (.int .i64 (q.1.2.2.steps : Int)) (.bool q.1.2.2.armed) (.int .i64 (q.1.2.2.left : Int)) (.int .i64 q.1.1) (.bool q.1.2.1))) (by kernel_rfl) (by ((with_reducible assumption))) (fun hHeld => ?_)
        refine wpAnyH_take (i := 0) (v := ?vr1_0) (Fr.take_at rfl) (by kernel_rfl) (by kernel_rfl) (by kernel_rfl) (fun _ _ _ h => h) (Or.inl ⟨by rfl, ?yr1_0⟩) (by assumption) ?nr1_0
        case yr1_0 => (intro w_ hSw; obtain ⟨⟨u0, u1, u2, u3⟩, u4, u5⟩ := hSw; go_simp; (try with_reducible rfl))
        try simp only [Act.put, List.setIfInBounds_toArray, List.set_cons_zero, List.set_cons_succ]
        refine wpAnyH_take (i := 1) (v := ?vr1_1) (Fr.take_at rfl) (by kernel_rfl) (by kernel_rfl) (by kernel_rfl) (fun _ _ _ h => h) (Or.inl ⟨by rfl, ?yr1_1⟩) (by assumption) ?nr1_1
        case yr1_1 => (intro w_ hSw; obtain ⟨⟨u0, u1, u2, u3⟩, u4, u5⟩ := hSw; go_simp; (try with_reducible rfl))
        try simp only [Act.put, List.setIfInBounds_toArray, List.set_cons_zero, List.set_cons_succ]
        refine wpAnyH_take (i := 2) (v := ?vr1_2) (Fr.take_at rfl) (by kernel_rfl) (by kernel_rfl) (by kernel_rfl) (fun _ _ _ h => h) (Or.inl ⟨by rfl, ?yr1_2⟩) (by assumption) ?nr1_2
        case yr1_2 => (intro w_ hSw; obtain ⟨⟨u0, u1, u2, u3⟩, u4, u5⟩ := hSw; go_simp; (try with_reducible rfl))
        try simp only [Act.put, List.setIfInBounds_toArray, List.set_cons_zero, List.set_cons_succ]
        refine wpAnyH_take (i := 3) (v := ?vr1_3) (Fr.take_at rfl) (by kernel_rfl) (by kernel_rfl) (by kernel_rfl) (fun _ _ _ h => h) (Or.inl ⟨by rfl, ?yr1_3⟩) (by assumption) ?nr1_3
        case yr1_3 => (intro w_ hSw; obtain ⟨⟨u0, u1, u2, u3⟩, u4, u5⟩ := hSw; go_simp; (try with_reducible rfl))
        try simp only [Act.put, List.setIfInBounds_toArray, List.set_cons_zero, List.set_cons_succ]
        refine wpAnyH_take (i := 4) (v := ?vr1_4) (Fr.take_at rfl) (by kernel_rfl) (by kernel_rfl) (by kernel_rfl) (fun _ _ _ h => h) (Or.inl ⟨by rfl, ?yr1_4⟩) (by assumption) ?nr1_4
        case yr1_4 => (intro w_ hSw; obtain ⟨⟨u0, u1, u2, u3⟩, u4, u5⟩ := hSw; go_simp; (try with_reducible rfl))
        try simp only [Act.put, List.setIfInBounds_toArray, List.set_cons_zero, List.set_cons_succ]
        refine wpAnyH_take (i := 6) (v := ?vr1_6) (Fr.take_at rfl) (by kernel_rfl) (by kernel_rfl) (by kernel_rfl) (fun _ _ _ h => h) (Or.inl ⟨by rfl, ?yr1_6⟩) (by assumption) ?nr1_6
        case yr1_6 => (intro w_ hSw; obtain ⟨⟨u0, u1, u2, u3⟩, u4, u5⟩ := hSw; go_simp; (try with_reducible rfl))
        try simp only [Act.put, List.setIfInBounds_toArray, List.set_cons_zero, List.set_cons_succ]
        refine wpAnyH_take (i := 7) (v := ?vr1_7) (Fr.take_at rfl) (by kernel_rfl) (by kernel_rfl) (by kernel_rfl) (fun _ _ _ h => h) (Or.inl ⟨by rfl, ?yr1_7⟩) (by assumption) ?nr1_7
        case yr1_7 => (intro w_ hSw; obtain ⟨⟨u0, u1, u2, u3⟩, u4, u5⟩ := hSw; go_simp; (try with_reducible rfl))
        try simp only [Act.put, List.setIfInBounds_toArray, List.set_cons_zero, List.set_cons_succ]
        refine wpAnyH_ready (rs := [5]) (by kernel_rfl) (by simp) ?_
        refine AllReadyH.cons (Fr.take_at rfl) (fun K hK => ?_) AllReadyH.nil
        go_simp
        (go_at_call 14; refine (segment_any HZ.out.log).mono ?_; rintro e w18 ⟨rfl, rfl⟩)
        try go_wp2_with fail
        refine hK.out _ _ (by ((with_reducible assumption))) (fun hHeld => ?_)
        clear hK K
        try simp only [Act.put, List.setIfInBounds_toArray, List.set_cons_zero, List.set_cons_succ]
        refine wpAnyH_take (i := 8) (v := ?vr1_8) (Fr.take_at rfl) (by kernel_rfl) (by kernel_rfl) (by kernel_rfl) (fun _ _ _ h => h) (Or.inl ⟨by rfl, ?yr1_8⟩) (by assumption) ?nr1_8
        case yr1_8 => (intro w_ hSw; obtain ⟨⟨u0, u1, u2, u3⟩, u4, u5⟩ := hSw; go_simp; (try with_reducible rfl))
        try simp only [Act.put, List.setIfInBounds_toArray, List.set_cons_zero, List.set_cons_succ]
        refine wpAnyH_take (i := 9) (v := ?vr1_9) (Fr.take_at rfl) (by kernel_rfl) (by kernel_rfl) (by kernel_rfl) (fun _ _ _ h => h) (Or.inl ⟨by rfl, ?yr1_9⟩) (by assumption) ?nr1_9
        case yr1_9 => (intro w_ hSw; obtain ⟨⟨u0, u1, u2, u3⟩, u4, u5⟩ := hSw; go_simp; (try with_reducible rfl))
        try simp only [Act.put, List.setIfInBounds_toArray, List.set_cons_zero, List.set_cons_succ]
        refine wpAnyH_take (i := 10) (v := ?vr1_10) (Fr.take_at rfl) (by kernel_rfl) (by kernel_rfl) (by kernel_rfl) (fun _ _ _ h => h) (Or.inl ⟨by rfl, ?yr1_10⟩) (by assumption) ?nr1_10
        case yr1_10 => (intro w_ hSw; obtain ⟨⟨u0, u1, u2, u3⟩, u4, u5⟩ := hSw; go_simp; (try with_reducible rfl))
        try simp only [Act.put, List.setIfInBounds_toArray, List.set_cons_zero, List.set_cons_succ]
        refine wpAnyH_take (i := 11) (v := ?vr1_11) (Fr.take_at rfl) (by kernel_rfl) (by kernel_rfl) (by kernel_rfl) (fun _ _ _ h => h) (Or.inl ⟨by rfl, ?yr1_11⟩) (by assumption) ?nr1_11
        case yr1_11 => (intro w_ hSw; obtain ⟨⟨u0, u1, u2, u3⟩, u4, u5⟩ := hSw; go_simp; (try with_reducible rfl))
        try simp only [Act.put, List.setIfInBounds_toArray, List.set_cons_zero, List.set_cons_succ]
        refine wpAnyH_take (i := 12) (v := ?vr1_12) (Fr.take_at rfl) (by kernel_rfl) (by kernel_rfl) (by kernel_rfl) (fun _ _ _ h => h) (Or.inl ⟨by rfl, ?yr1_12⟩) (by assumption) ?nr1_12
        case yr1_12 => (intro w_ hSw; obtain ⟨⟨u0, u1, u2, u3⟩, u4, u5⟩ := hSw; go_simp; (try with_reducible rfl))
        try simp only [Act.put, List.setIfInBounds_toArray, List.set_cons_zero, List.set_cons_succ]
        refine wpAnyH_ready (rs := [13]) (by kernel_rfl) (by simp) ?_
        refine AllReadyH.cons (Fr.take_at rfl) (fun K hK => ?_) AllReadyH.nil
        go_simp
        (go_at_call 11; refine (HZ.out.tells HOK2.out).mono ?_; rintro e w19 ⟨rfl, hb19⟩; have hz19 := HZ.out.below hb19; have Ll1 := hz19.ral)
        try go_wp2_with fail
        refine hK.out _ _ (by ((with_reducible assumption))) (fun hHeld => ?_)
        clear hK K
        try simp only [Act.put, List.setIfInBounds_toArray, List.set_cons_zero, List.set_cons_succ]
        refine wpAnyH_take (i := 14) (v := ?vr1_14) (Fr.take_at rfl) (by kernel_rfl) (by kernel_rfl) (by kernel_rfl) (fun _ _ _ h => h) (Or.inl ⟨by rfl, ?yr1_14⟩) (by assumption) ?nr1_14
        case yr1_14 => (intro w_ hSw; obtain ⟨⟨u0, u1, u2, u3⟩, u4, u5⟩ := hSw; go_simp; (try with_reducible rfl))
        try simp only [Act.put, List.setIfInBounds_toArray, List.set_cons_zero, List.set_cons_succ]
        refine wpAnyH_take (i := 15) (v := ?vr1_15) (Fr.take_at rfl) (by kernel_rfl) (by kernel_rfl) (by kernel_rfl) (fun _ _ _ h => h) (Or.inl ⟨by rfl, ?yr1_15⟩) (by assumption) ?nr1_15
        case yr1_15 => (intro w_ hSw; obtain ⟨⟨u0, u1, u2, u3⟩, u4, u5⟩ := hSw; go_simp; (try with_reducible rfl))
        try simp only [Act.put, List.setIfInBounds_toArray, List.set_cons_zero, List.set_cons_succ]
        refine wpAnyH_done (by kernel_rfl) ?_ _
        go_wp2
        go_ret
        exact Yes.mk hz19.bel
end Wl
end Go.Proofs.YtbfmjonabndhaaaGreatDoor
namespace Go.Proofs.YtbfmjonabndhaaaGreatDoor
open Go Go.ChangeShapes Go.WideShapes Go.ChangeAt Go.RowKit Go.Deep Go.Proofs.YtbfmjonabndhaaaGreatDoor.Fr
namespace Dr
theorem cellsU8 : Tryz.prog.cellsOf 5 = 1 := by kernel_rfl
theorem bytesU8 : Tryz.prog.bytesOf 5 = 1 := by kernel_rfl
def u8s (zs : List Int) : List UInt8 := zs.map fun z => UInt8.ofNat z.toNat
theorem u8s_length (zs : List Int) : (u8s zs).length = zs.length := by simp [u8s]
section
variable {W : World}
theorem spot_none {a : Addr} {v : Value} (h : W.cell? a = some v) : ∃ b o, a = ⟨b, o, none⟩ ∧ b < W.heap.size := by
  obtain ⟨b, o, spot⟩ := a
  have hspot : spot = none := World.cell?_spot h
  subst hspot
  exact ⟨b, o, rfl, World.block_lt_of_cell? W _ h⟩
theorem add_none (b o j : Nat) : (⟨b, o, none⟩ : Addr).add j = ⟨b, o + j, none⟩ := by unfold Addr.add; split <;> simp_all
/-- Values at an address, as a slice that reads so. -/
theorem rd_vals {a : Addr} {xs : List Value} (hc : ∀ i (h : i < xs.length), W.cell? (a.add i) = some xs[i]) : Rd W (some a) xs := by
  intro hne
  have h0 : 0 < xs.length := List.length_pos_iff.2 hne
  have hc0 := hc 0 h0
  have hz : a.add 0 = a := by unfold Addr.add; split <;> simp_all
  rw [hz] at hc0
  obtain ⟨b, o, rfl, hb⟩ := spot_none hc0
  exact ⟨b, o, rfl, hb, fun i hi => by rw [← add_none]; exact hc i hi⟩
theorem rd_bytes {a : Addr} {zs : List Int} {n : Nat} (hw : ∀ z ∈ zs, (Lit.int .u8 z).wf = true) (hc : ∀ i, i < zs.length → W.cell? (a.add i) = some (.int .u8 (zs.getD i 0))) : Rd W (some a) (bv (u8s (zs.take n))) := by
  refine rd_vals fun i hi => ?_
  rw [bv_length, u8s_length, List.length_take] at hi
  have hiz : i < zs.length := by omega
  rw [hc i hiz, bv_get (by rw [u8s_length, List.length_take]; omega)]
  have hrange : 0 ≤ zs[i] ∧ zs[i] ≤ 255 := bounds_u8 (hw (zs[i]) (List.getElem_mem hiz))
  simp only [u8s, List.getElem_map, List.getElem_take, List.getD_eq_getElem?_getD, List.getElem?_eq_getElem hiz, Option.getD_some]
  rw [ofNat_toNat (by omega)]
  congr 2
  omega
theorem rd_ints {a : Addr} {zs : List Int} {n : Nat} (hc : ∀ i, i < zs.length → W.cell? (a.add i) = some (.int .i64 (zs.getD i 0))) : Rd W (some a) (iv (zs.take n)) := by
  refine rd_vals fun i hi => ?_
  simp only [iv, List.length_map, List.length_take] at hi
  have hiz : i < zs.length := by omega
  rw [hc i hiz]
  simp [iv, List.getElem_take, List.getD_eq_getElem?_getD, List.getElem?_eq_getElem hiz]
section
variable {H : Type} {enc : TypeId × Value → H}
/-- A row of bytes, by its type. -/
theorem open_u8 {n : Nat} {c : Value} {y : DataW H × List MemPlace} (h : DataW.trod enc Tryz.prog W 0 (fun _ => true) true n 28 [c] = some y) (hsz : ∀ k ∈ y.1.weights Tryz.prog 28, k ≤ reachBytes) :
    ∃ A m cp l, c = .slice A m cp ∧ l.length = m ∧ m ≤ cp ∧ cp ≤ 140737488351232 ∧ Rd W A (bv l) := by
  rcases open_ints Tryz.underlying28 Tryz.underlying5 cellsU8 h with ⟨hcs, hx⟩ | ⟨a, len, cap, zs, hcs, _, hl, hm, hz, hx, hcell, hwz⟩
  · simp only [List.cons.injEq, and_true] at hcs
    exact ⟨none, 0, 0, [], hcs, rfl, Nat.le_refl _, by omega, Rd.nil⟩
  · simp only [List.cons.injEq, and_true] at hcs
    simp only [if_true] at hz
    refine ⟨some a, len, cap, u8s (zs.take len), hcs, by rw [u8s_length, List.length_take]; omega, hl, ?_, rd_bytes hwz hcell⟩
    have := hsz ((lits .u8 (zs.take len) : List (DataW H)).length + (lits .u8 (zs.drop len) : List (DataW H)).length) (by
      subst hx
      simp [DataW.weights, Tryz.underlying28, bytesU8])
    simp only [lits, List.length_map, List.length_take, List.length_drop, reachBytes] at this
    omega
theorem bytesInt : Tryz.prog.bytesOf 3 = 8 := by kernel_rfl
theorem cellsInt : Tryz.prog.cellsOf 3 = 1 := by kernel_rfl
theorem open_i64 {n : Nat} {c : Value} {y : DataW H × List MemPlace} (h : DataW.trod enc Tryz.prog W 0 (fun _ => true) true n 22 [c] = some y) (hsz : ∀ k ∈ y.1.weights Tryz.prog 22, k ≤ reachBytes) :
    ∃ A m cp l, c = .slice A m cp ∧ l.length = m ∧ m ≤ cp ∧ cp ≤ 140737488355328 ∧ Rd W A (iv l) ∧ ∀ k ∈ l, -9223372036854775808 ≤ k ∧ k ≤ 9223372036854775807 := by
  rcases open_ints Tryz.underlying22 Tryz.underlying3 cellsInt h with ⟨hcs, hx⟩ | ⟨a, len, cap, zs, hcs, _, hl, hm, hz, hx, hcell, hwz⟩
  · simp only [List.cons.injEq, and_true] at hcs
    exact ⟨none, 0, 0, [], hcs, rfl, Nat.le_refl _, by omega, Rd.nil, fun k hk => by cases hk⟩
  · simp only [List.cons.injEq, and_true] at hcs
    simp only [if_true] at hz
    refine ⟨some a, len, cap, zs.take len, hcs, by rw [List.length_take]; omega, hl, ?_, rd_ints hcell, fun k hk => bounds_i64 (hwz k (List.mem_of_mem_take hk))⟩
    have := hsz (((lits .i64 (zs.take len) : List (DataW H)).length + (lits .i64 (zs.drop len) : List (DataW H)).length) * 8) (by
      subst hx
      simp [DataW.weights, Tryz.underlying22, bytesInt])
    simp only [lits, List.length_map, List.length_take, List.length_drop, reachBytes] at this
    omega
theorem weights_in {e : TypeId} {d : DataW H} {n : Nat} : ∀ {l : List (DataW H)}, d ∈ l → n ∈ d.weights Tryz.prog e → n ∈ DataW.weightsAll Tryz.prog e l := by
  intro l
  induction l with
  | nil => intro h; cases h
  | cons x r ih =>
    intro h hn
    unfold DataW.weightsAll
    cases h with
    | head => exact List.mem_append_left _ hn
    | tail _ h => exact List.mem_append_right _ (ih h hn)
theorem weights_of {ts : List TypeId} {ds : List (DataW H)} (h : (DataW.weightsEach Tryz.prog ts ds).all (· ≤ reachBytes) = true) {j : Nat} {t : TypeId} {d : DataW H} (ht : ts[j]? = some t) (hd : ds[j]? = some d) : ∀ n ∈ d.weights Tryz.prog t, n ≤ reachBytes :=
  fun n hn => by simpa using List.all_eq_true.1 h n (DataW.weights_mem_each ht hd n hn)
end
end
theorem cellsBs : Tryz.prog.cellsOf 28 = 1 := by kernel_rfl
theorem cellsSt : Tryz.prog.cellsOf 9 = 1 := by kernel_rfl
theorem enc_data (s : ByteArray) : encStr s.data.toList = .string s := by
  show Value.string ⟨s.data.toList.toArray⟩ = _
  rw [Array.toArray_toList]
section
variable {W : World} {H : Type} {enc : TypeId × Value → H}
set_option maxRecDepth 100000 in
-- names that came in
theorem names_open {v : Value} {d : DataW H} {p : List MemPlace} {base : Nat} (hv : Value.okWide Tryz.prog W .any base 25 v) (h : DataW.Trod enc Tryz.prog W 0 (fun _ => true) true 25 v d p) (_ : ∀ k ∈ d.weights Tryz.prog 25, k ≤ reachBytes) :
    ∃ A n c ns, v = .slice A n c ∧ ns.length = n ∧ Nms W A ns := by
  obtain ⟨a0, len, cap, rfl⟩ := okWide_slice Tryz.underlying25 hv
  obtain ⟨fuel, hf⟩ := h
  rcases open_slice Tryz.underlying25 hf with ⟨hcs, hx⟩ | ⟨a, len', cap', m, n, D, Pl, hcs, _, hl, hm, hmm, hx, hi⟩
  · simp only [Value.cells, List.cons.injEq, Value.slice.injEq, and_true] at hcs
    obtain ⟨rfl, rfl, rfl⟩ := hcs
    exact ⟨none, 0, 0, [], rfl, rfl, Rd.nil, fun x h => by cases h⟩
  · simp only [Value.cells, List.cons.injEq, Value.slice.injEq, and_true] at hcs
    obtain ⟨rfl, rfl, rfl⟩ := hcs
    simp only [if_true] at hmm
    have each : ∀ i, i < len → ∃ s : ByteArray, W.cell? (a.add i) = some (.string s) ∧ s.size ≤ maxLen := fun i hlt => by
      obtain ⟨cs', hc, ht⟩ := hi i (by omega)
      rw [cellsSt, Nat.mul_one] at hc
      obtain ⟨_, hcl, hat⟩ := World.cells?_some hc
      obtain ⟨s, e, _, hs⟩ := DataW.trod_string Tryz.underlying9 ht
      subst e
      have c0 := hat 0 (by omega)
      have hz : (a.add i).add 0 = a.add i := by generalize a.add i = x; unfold Addr.add; split <;> simp_all
      rw [hz] at c0
      exact ⟨s, c0, hs⟩
    let M : Fin len → Bs := fun i => (each i.1 i.2).choose.data.toList
    have hM : ∀ i : Fin len, W.cell? (a.add i.1) = some (encStr (M i)) ∧ (⟨(M i).toArray⟩ : ByteArray).size ≤ maxLen := fun i => by
      have h := (each i.1 i.2).choose_spec
      have e : encStr (M i) = .string (each i.1 i.2).choose := enc_data _
      have e2 : (⟨(M i).toArray⟩ : ByteArray) = (each i.1 i.2).choose := by
        show (⟨(each i.1 i.2).choose.data.toList.toArray⟩ : ByteArray) = _
        rw [Array.toArray_toList]
      rw [e, e2]
      exact h
    refine ⟨some a, len, cap, List.ofFn M, rfl, by simp, rd_vals fun i hi2 => ?_, fun x hx2 => ?_⟩
    · simp only [List.length_map, List.length_ofFn] at hi2
      rw [List.getElem_map, List.getElem_ofFn]
      exact (hM ⟨i, hi2⟩).1
    · obtain ⟨i, rfl⟩ := List.mem_ofFn.1 hx2
      exact (hM i).2
set_option maxRecDepth 100000 in
-- rows of bytes that came in
theorem brows_open {v : Value} {d : DataW H} {p : List MemPlace} {base : Nat} (hv : Value.okWide Tryz.prog W .any base 23 v) (h : DataW.Trod enc Tryz.prog W 0 (fun _ => true) true 23 v d p) (hsz : ∀ k ∈ d.weights Tryz.prog 23, k ≤ reachBytes) :
    ∃ A n c K, v = .slice A n c ∧ K.length = n ∧ BRows W A K := by
  obtain ⟨a0, len, cap, rfl⟩ := okWide_slice Tryz.underlying23 hv
  obtain ⟨fuel, hf⟩ := h
  rcases open_slice Tryz.underlying23 hf with ⟨hcs, hx⟩ | ⟨a, len', cap', m, n, D, Pl, hcs, _, hl, hm, hmm, hx, hi⟩
  · simp only [Value.cells, List.cons.injEq, Value.slice.injEq, and_true] at hcs
    obtain ⟨rfl, rfl, rfl⟩ := hcs
    exact ⟨none, 0, 0, [], rfl, rfl, fun i m h => by simp at h, fun m h => by cases h⟩
  · simp only [Value.cells, List.cons.injEq, Value.slice.injEq, and_true] at hcs
    obtain ⟨rfl, rfl, rfl⟩ := hcs
    simp only [if_true] at hmm
    simp only [Prod.mk.injEq] at hx
    have each : ∀ i, i < len → ∃ k : BM, W.cell? (a.add i) = some (.slice k.A k.n k.c) ∧ k.l.length = k.n ∧ k.n ≤ k.c ∧ k.n ≤ 140737488351232 ∧ Rd W k.A (bv k.l) := fun i hlt => by
      obtain ⟨cs', hc, ht⟩ := hi i (by omega)
      rw [cellsBs, Nat.mul_one] at hc
      obtain ⟨_, hcl, hat⟩ := World.cells?_some hc
      match cs', hcl with
      | [c0], _ =>
        obtain ⟨A, m, cp, l, rfl, h1, h2, h3, h4⟩ := open_u8 ht fun k hk => hsz k (by
          rw [hx.1]
          simp only [DataW.weights, Tryz.underlying23]
          exact List.mem_cons_of_mem _ (List.mem_append_left _ (weights_in (List.mem_map.2 ⟨i, List.mem_range.2 hlt, rfl⟩) hk)))
        have c0 := hat 0 (by omega)
        have hz : (a.add i).add 0 = a.add i := by generalize a.add i = x; unfold Addr.add; split <;> simp_all
        rw [hz] at c0
        exact ⟨⟨A, m, cp, l⟩, c0, h1, h2, Nat.le_trans h2 h3, h4⟩
    rcases Nat.eq_zero_or_pos len with h0 | h0
    · subst h0
      exact ⟨some a, 0, cap, [], rfl, rfl, fun i m h => by simp at h, fun m h => by cases h⟩
    · have hz : a.add 0 = a := by unfold Addr.add; split <;> simp_all
      obtain ⟨_, ha, _⟩ := each 0 h0
      rw [hz] at ha
      obtain ⟨g, p, rfl, hg⟩ := spot_none ha
      let M : Fin len → BM := fun i => (each i.1 i.2).choose
      have hM : ∀ i : Fin len, W.cell? ((⟨g, p, none⟩ : Addr).add i.1) = some (.slice (M i).A (M i).n (M i).c) ∧ (M i).l.length = (M i).n ∧ (M i).n ≤ (M i).c ∧ (M i).n ≤ 140737488351232 ∧ Rd W (M i).A (bv (M i).l) := fun i => (each i.1 i.2).choose_spec
      refine ⟨some ⟨g, p, none⟩, len, cap, List.ofFn M, rfl, by simp, fun i k hk => ?_, fun k hk => ?_⟩
      · obtain ⟨hlt, rfl⟩ := List.getElem?_eq_some_iff.1 hk
        rw [List.length_ofFn] at hlt
        refine ⟨g, p, rfl, hg, ?_⟩
        rw [List.getElem_ofFn, ← add_none]
        exact (hM ⟨i, hlt⟩).1
      · obtain ⟨i, rfl⟩ := List.mem_ofFn.1 hk
        exact (hM i).2
end
end Dr
end Go.Proofs.YtbfmjonabndhaaaGreatDoor
namespace Go.Proofs.YtbfmjonabndhaaaGreatDoor
open Go Go.ChangeShapes Go.WideShapes Go.ChangeAt Go.RowKit Go.Deep Go.Proofs.YtbfmjonabndhaaaGreatDoor.Dr Go.Proofs.YtbfmjonabndhaaaGreatDoor.Fr
namespace Wl
set_option maxRecDepth 100000 in
theorem nums_open {W : World} {H : Type} {enc : TypeId × Value → H} {v : Value} {d : DataW H} {p : List MemPlace} {base : Nat} (hv : Value.okWide Tryz.prog W .any base 22 v) (h : DataW.Trod enc Tryz.prog W 0 (fun _ => true) true 22 v d p) (hsz : ∀ k ∈ d.weights Tryz.prog 22, k ≤ reachBytes) :
    ∃ A n c zs, v = .slice A n c ∧ zs.length = n ∧ Rd W A (iv zs) ∧ ∀ z ∈ zs, -9223372036854775808 ≤ z ∧ z ≤ 9223372036854775807 := by
  obtain ⟨a0, len, cap, rfl⟩ := okWide_slice Tryz.underlying22 hv
  obtain ⟨fuel, hf⟩ := h
  obtain ⟨A, m, cp, l, he, h1, _, _, h4, h5⟩ := open_i64 hf hsz
  exact ⟨A, m, cp, l, he, h1, h4, h5⟩
theorem opens_any (A0 : Option Addr) (n0 c0 : Nat) (zs : List Int) (A1 : Option Addr) (n c : Nat) (K0 : List BM) (a : Int) (w : World) (hz0 : zs.length = n0) (hrz : Rd w A0 (iv zs)) (hzb : ∀ z ∈ zs, -9223372036854775808 ≤ z ∧ z ≤ 9223372036854775807) (hK : K0.length = n) (hF : BRows w A1 K0) (_ : -9223372036854775808 ≤ a) (_ : a ≤ 9223372036854775807) (hL : Lb 4 w) :
    Calls Tryz.prog 3 #[.slice A0 n0 c0, .slice A1 n c, .int .i64 a] w (Yes w) := by
  by_cases hn : n ≤ 20
  · exact opens_walk A0 n0 c0 zs hz0 hrz hzb A1 n c K0 hK hF a hn hL
  · exact big_walk A0 n0 c0 A1 n c a w (by omega) hL
end Wl
end Go.Proofs.YtbfmjonabndhaaaGreatDoor
