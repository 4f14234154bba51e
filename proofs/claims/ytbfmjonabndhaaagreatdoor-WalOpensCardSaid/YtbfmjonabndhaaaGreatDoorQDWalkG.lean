/-
  WHAT IS PROVED: (1) what Crash does. CONDITIONS: the drive stands in memory as the plain one says; the numbers that come in are read as named. (2) what Crash does. CONDITIONS: the drive stands in memory as the plain one says; the numbers that come in are read as named.
-/
import Derived.Test.YtbfmjonabndhaaaGreatDoorQDWalkF
namespace Go.Proofs.YtbfmjonabndhaaaGreatDoor
open Go Go.RowKit Go.Maps Go.Proofs.YtbfmjonabndhaaaGreatDoor.Fr
namespace Dr

/-- What is left of the numbers. -/
def rest : List Fl → List Int → List Int
  | [], ks => ks
  | f :: r, ks => rest r (cut1 f ks).2
theorem cuts_snoc (f : Fl) : ∀ (l : List Fl) (ks : List Int), cuts (l ++ [f]) ks = cuts l ks ++ [(cut1 f (rest l ks)).1]
  | [], _ => rfl
  | a :: r, ks => by simp [cuts, rest, cuts_snoc f r]
theorem rest_snoc (f : Fl) : ∀ (l : List Fl) (ks : List Int), rest (l ++ [f]) ks = (cut1 f (rest l ks)).2
  | [], _ => rfl
  | a :: r, ks => by simp [rest, rest_snoc f r]
theorem put_last {l : List Fl} {f : Fl} (h : ∀ g ∈ l, g.name < f.name) : put f l = l ++ [f] := by
  have e1 : (l.filter fun g => decide (g.name < f.name)) = l := by rw [List.filter_eq_self]; intro g hg; simpa using h g hg
  have e2 : (l.filter fun g => decide (f.name < g.name)) = [] := by rw [List.filter_eq_nil_iff]; intro g hg; simpa using lt_asymm (h g hg)
  unfold put
  rw [e1, e2]
theorem cuts_take_succ {l : List Fl} {i : Nat} {f : Fl} (hi : l[i]? = some f) (ks : List Int) : cuts (l.take (i + 1)) ks = cuts (l.take i) ks ++ [(cut1 f (rest (l.take i) ks)).1] ∧ rest (l.take (i + 1)) ks = (cut1 f (rest (l.take i) ks)).2 := by
  have e : l.take (i + 1) = l.take i ++ [f] := by rw [List.take_add_one, hi]; rfl
  rw [e]
  exact ⟨cuts_snoc f _ ks, rest_snoc f _ ks⟩
theorem names_below {l : List Fl} (hr : Rising l) {i : Nat} {f : Fl} (hi : l[i]? = some f) (ks : List Int) : ∀ g ∈ cuts (l.take i) ks, g.name < f.name := by
  intro g hg
  have h1 : g.name ∈ (l.take i).map (·.name) := by rw [← cuts_names (l.take i) ks]; exact List.mem_map.2 ⟨g, hg, rfl⟩
  obtain ⟨a, ha, hn⟩ := List.mem_map.1 h1
  obtain ⟨j, hj, rfl⟩ := List.getElem_of_mem ha
  obtain ⟨hil, hif⟩ := List.getElem?_eq_some_iff.1 hi
  rw [List.length_take] at hj
  rw [List.getElem_take] at hn
  rw [← hn, ← hif]
  exact List.pairwise_iff_getElem.1 hr j i (by omega) hil (by omega)
/-- How many bytes are left. -/
def keepN (f : Fl) (ks : List Int) : Nat := (cut1 f ks).1.dat.length
theorem cut1_eq (f : Fl) (ks : List Int) : (cut1 f ks).1 = { name := f.name, dat := f.dat.take (keepN f ks), syn := keepN f ks } ∧ keepN f ks ≤ f.dat.length := by
  unfold keepN cut1
  split
  · dsimp only
    rw [List.length_take]
    split
    · refine ⟨?_, by omega⟩
      rw [Nat.min_eq_left (by omega)]
    · refine ⟨?_, by omega⟩
      rw [Nat.min_eq_left (Nat.le_refl _)]
  · exact ⟨by simp, Nat.le_refl _⟩
theorem keep_full {f : Fl} (h : f.syn = f.dat.length) (ks : List Int) : keepN f ks = f.syn ∧ (cut1 f ks).2 = ks := by
  unfold keepN cut1
  rw [if_neg (by omega)]
  exact ⟨h.symm, rfl⟩
theorem keep_none {f : Fl} (h : f.syn < f.dat.length) : keepN f [] = f.syn ∧ (cut1 f []).2 = [] := by
  unfold keepN cut1
  rw [if_pos h]
  dsimp only
  rw [List.length_take]
  refine ⟨?_, rfl⟩
  rw [hdN_nil, if_pos (by omega)]
  omega
theorem keep_some {f : Fl} (h : f.syn < f.dat.length) (k : Int) (ks : List Int) : (keepN f (k :: ks) : Int) = (f.syn : Int) + min (max k 0) ((f.dat.length : Int) - (f.syn : Int)) ∧ (cut1 f (k :: ks)).2 = ks := by
  unfold keepN cut1
  rw [if_pos h]
  dsimp only
  rw [List.length_take]
  refine ⟨?_, rfl⟩
  rw [hdN_cons]
  by_cases hk : k.toNat < f.dat.length - f.syn
  · rw [if_pos hk]; omega
  · rw [if_neg hk]; omega

def iv (l : List Int) : List Value := l.map (Value.int .i64)
theorem iv_length (l : List Int) : (iv l).length = l.length := by simp [iv]

section
variable {w wr w' : World} {b mb b2 mb2 : Nat} {st st2 : St} {Q Q2 : List Ent} {S : Nat → Prop}
/-- What holds of the new drive while it is filled. -/
structure Fills (w wr : World) (b2 mb2 : Nat) (l : List Fl) : Prop where
  at_ : ∃ Q2, DriveAt wr b2 mb2 { files := l, steps := 0, armed := false, left := 0 } Q2 ∧ ∀ k, footD b2 mb2 Q2 k → New w wr k
  below : Below w.heap.size w wr
theorem Fills.drewN {l : List Fl} (h : Fills w wr b2 mb2 l) (n : Nat) : Fills w (wr.drewN n) b2 mb2 l := by
  obtain ⟨⟨Q2, h1, h2⟩, h3⟩ := h
  exact ⟨⟨Q2, h1.same fun _ _ => rfl, h2⟩, below_drewN h3 n⟩
theorem Fills.of_below {l : List Fl} (h : Fills w wr b2 mb2 l) (hb : Below wr.heap.size wr w') : Fills w w' b2 mb2 l := by
  obtain ⟨⟨Q2, h1, h2⟩, h3⟩ := h
  exact ⟨⟨Q2, h1.same fun k hk => hb.block k (h1.lt k hk), fun k hk => ⟨(h2 k hk).1, Nat.lt_of_lt_of_le (h2 k hk).2 hb.size⟩⟩, h3.trans (hb.mono h3.size)⟩
theorem Fills.c0 {l : List Fl} (h : Fills w wr b2 mb2 l) : wr.cell? ⟨b2, 0, none⟩ = some (.map (some mb2)) := let ⟨⟨_, h1, _⟩, _⟩ := h; h1.c0
theorem Fills.lt {l : List Fl} (h : Fills w wr b2 mb2 l) : b2 < wr.heap.size := let ⟨⟨_, h1, _⟩, _⟩ := h; h1.head.lt
theorem Fills.map {l : List Fl} (h : Fills w wr b2 mb2 l) : ∃ L, MapAt Tryz.prog 9 wr mb2 L ∧ L.length = l.length := let ⟨⟨Q2, h1, _⟩, _⟩ := h; ⟨_, h1.map, by rw [List.length_map]; exact h1.length⟩
/-- A synced file put in. -/
theorem fills_put {w2 w3 : World} {l : List Fl} (hat : DriveAt wr b2 mb2 { files := l, steps := 0, armed := false, left := 0 } Q2) (hfoot : ∀ k, footD b2 mb2 Q2 k → New w wr k) (hbw : Below w.heap.size w wr) (hb : Below wr.heap.size wr w2) {f' : Fl} (hs : f'.syn = f'.dat.length) {g : Nat} {v : Value}
    (hg : Blk w2 g 90 #[v, .int .i64 (f'.dat.length : Int)]) (hown : w2.ownsRow wr.heap.size 5 1 v f'.dat.length (bv f'.dat)) (hge : wr.heap.size ≤ g) (hm : MapAt Tryz.prog 9 w3 mb2 (putBy (fun p : NB => p.1) (f'.name, g) (Q2.map Ent.nb))) (hg3 : w2.grownBy w3 (some mb2)) :
    Fills w w3 b2 mb2 (put f' l) := by
  have hm2 : mb2 < wr.heap.size := hat.map.lt
  have h12 := hb.size
  have hk : ∀ k, k < w2.heap.size → k ≠ mb2 → w3.heap[k]? = w2.heap[k]? := fun k h1 h2 => hg3.block k h1 fun e => h2 (Option.some.inj e)
  have hat2 : DriveAt w2 b2 mb2 { files := l, steps := 0, armed := false, left := 0 } Q2 := hat.same fun k hk => hb.block k (hat.lt k hk)
  have hgl := hg.lt
  have he : EntAt w3 ⟨f', g, v⟩ := ⟨by dsimp only; rw [hs]; exact hg.same (hk g hgl (by omega)), own_same (own_mono hown (Nat.zero_le _)) fun k hv => hk k (hown.lt k hv).2 (by have := (hown.lt k hv).1; omega)⟩
  have hw3 := hg3.size
  refine ⟨⟨putBy Ent.key ⟨f', g, v⟩ Q2, hat2.putE ⟨f', g, v⟩ hm he (hk b2 hat2.head.lt hat2.map_ne_head.symm) (fun f hf _ k hkf => hk k ((hat2.ents f hf).lt k hkf) (by rintro rfl; exact hat2.foot_ne_map hf hkf)) (fun f hf _ => ⟨?_, fun k h1 h2 => ?_⟩), fun k hkf => ?_⟩, ?_⟩
  · have := (hat.ents f hf).1.lt; dsimp only; omega
  · have := (hat.ents f hf).lt k (.inr h1); have := (hown.lt k h2).1; omega
  · have hnew : ∀ k, footD b2 mb2 Q2 k → New w w3 k := fun k hf => ⟨(hfoot k hf).1, by have := hat.lt k hf; omega⟩
    have hw := hbw.size
    rcases hkf with hk | hk | ⟨f, hf, hk⟩
    · exact hnew k (.inl hk)
    · exact hnew k (.inr (.inl hk))
    · rcases mem_putBy.1 hf with rfl | ⟨h1, _⟩
      · rcases hk with rfl | hk
        · exact ⟨by omega, by omega⟩
        · have h1 := hown.lt k hk; exact ⟨by omega, by omega⟩
      · exact hnew k (.inr (.inr ⟨f, h1, hk⟩))
  · refine (hbw.trans (hb.mono hbw.size)).grown hg3 (Nat.le_trans hbw.size hb.size) fun k hk => ?_
    cases hk
    exact (hfoot mb2 (.inr (.inl rfl))).1
end
end Dr
end Go.Proofs.YtbfmjonabndhaaaGreatDoor
namespace Go.Proofs.YtbfmjonabndhaaaGreatDoor
open Go Go.RowKit Go.Maps Go.Proofs.YtbfmjonabndhaaaGreatDoor.Fr
namespace Dr

/-- The loop's state. -/
def CInv (w : World) (b2 mb2 : Nat) (fs : List Fl) (ks : List Int) (A2 : Option Addr) (n2 c2 : Nat) (s1 s15 : Value) (wr : World) : Prop :=
  ∃ (i : Nat) (A' : Option Addr) (m' c' : Nat) (kr : List Int), i ≤ n2 ∧ s15 = .int .i64 (i : Int) ∧ s1 = .slice A' m' c' ∧ rest (fs.take i) ks = kr ∧ kr.length = m' ∧ m' ≤ c' ∧ Rd w A' (iv kr) ∧ wr.ownsRow w.heap.size 9 1 (.slice A2 n2 c2) n2 ((fs.map (·.name)).map encStr) ∧ Fills w wr b2 mb2 (cuts (fs.take i) ks)
theorem info_int : (Tryz.prog.info? 3).map (fun i => (i.zero, i.size, i.bytes)) = some (some (.int .i64 0), 1, 8) := by kernel_rfl
/-- The state behind a round. -/
theorem cinv_step {w wr w4 w5 : World} {b2 mb2 : Nat} {fs : List Fl} {ks : List Int} {A2 : Option Addr} {n2 c2 : Nat} {i : Nat} {f : Fl} {kr kr2 : List Int} {E : Nat} {A3 : Option Addr} {m3 c3 : Nat} {Q3 : List Ent} {g : Nat} {v : Value}
    (hr : Rising fs) (hi : fs[i]? = some f) (hin : i < n2) (hkr : rest (fs.take i) ks = kr) (hE : keepN f kr = E) (hk2 : (cut1 f kr).2 = kr2) (hl3 : kr2.length = m3) (hmc3 : m3 ≤ c3) (hr3 : Rd w A3 (iv kr2))
    (hown : wr.ownsRow w.heap.size 9 1 (.slice A2 n2 c2) n2 ((fs.map (·.name)).map encStr)) (hat : DriveAt wr b2 mb2 { files := cuts (fs.take i) ks, steps := 0, armed := false, left := 0 } Q3) (hfoot : ∀ k, footD b2 mb2 Q3 k → New w wr k) (hbw : Below w.heap.size w wr)
    (hW : Below wr.heap.size wr w4) (hg : Blk w4 g 90 #[v, .int .i64 (E : Int)]) (ho : w4.ownsRow wr.heap.size 5 1 v E (bv (f.dat.take E))) (hge : wr.heap.size ≤ g)
    (hm : MapAt Tryz.prog 9 w5 mb2 (putBy (fun p : NB => p.1) (f.name, g) (Q3.map Ent.nb))) (hg5 : w4.grownBy w5 (some mb2)) :
    CInv w b2 mb2 fs ks A2 n2 c2 (.slice A3 m3 c3) (.int .i64 ((i : Int) + 1)) w5 := by
  obtain ⟨e1, e2⟩ := cuts_take_succ hi ks
  obtain ⟨e3, e4⟩ := cut1_eq f kr
  rw [hkr] at e1 e2
  rw [hE] at e3 e4
  rw [e3] at e1
  have hlen : (f.dat.take E).length = E := by rw [List.length_take]; omega
  have hnb := names_below hr hi ks
  have hput := put_last (f := { name := f.name, dat := f.dat.take E, syn := E }) hnb
  have hfill := fills_put (f' := { name := f.name, dat := f.dat.take E, syn := E }) hat hfoot hbw hW hlen.symm (by rw [hlen]; exact hg) (by rw [hlen]; exact ho) hge hm hg5
  rw [hput, ← e1] at hfill
  refine ⟨i + 1, A3, m3, c3, kr2, hin, by go_num, rfl, e2.trans hk2, hl3, hmc3, hr3, ?_, hfill⟩
  refine own_same hown fun k hk => ?_
  have hkl := (hown.lt k hk).2
  obtain ⟨cur, hc⟩ := own_blk hown hk
  have hne : mb2 ≠ k := by rintro rfl; exact hat.map.not_cells hc
  rw [hg5.block k (Nat.lt_of_lt_of_le hkl hW.size) (fun e => hne (Option.some.inj e).symm), hW.block k hkl]
theorem len_tail {k : Int} {kr : List Int} {m : Nat} (h : (k :: kr).length = m) : kr.length = m - 1 := by simp at h; omega
theorem sf_len {d : Bs} {E : Nat} (hE : E ≤ d.length) : (d.take E).length = E := by rw [List.length_take]; omega
theorem sf_blk {w : World} {g : Nat} {v : Value} {d : Bs} {E : Nat} (h : Blk w g 90 #[v, .int .i64 ((d.take E).length : Int)]) (hE : E ≤ d.length) : Blk w g 90 #[v, .int .i64 (E : Int)] := by rw [sf_len hE] at h; exact h
theorem sf_own {w : World} {base : Nat} {v : Value} {d : Bs} {E : Nat} (h : w.ownsRow base 5 1 v (d.take E).length (bv (d.take E))) (hE : E ≤ d.length) : w.ownsRow base 5 1 v E (bv (d.take E)) := by rw [sf_len hE] at h; exact h
theorem cell_past {w w' : World} {m b i : Nat} {v : Option Value} (hg : w.grownBy w' (some m)) (hb : b < w.heap.size) (hne : b ≠ m) (h : w.cell? ⟨b, i, none⟩ = v) : w'.cell? ⟨b, i, none⟩ = v :=
  (World.cell?_of_block (a := ⟨b, i, none⟩) (hg.block b hb fun e => hne (Option.some.inj e))).trans h
section
variable {w : World} {b : Nat} {st : St} {S : Nat → Prop}
end
end Dr
end Go.Proofs.YtbfmjonabndhaaaGreatDoor
