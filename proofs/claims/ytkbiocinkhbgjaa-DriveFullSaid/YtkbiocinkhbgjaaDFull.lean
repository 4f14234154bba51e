/-
  WHAT IS PROVED: plain facts: what a drive of 256 files answers. NO CONDITION beside those that each lemma names.
-/
import Derived.Test.YtkbiocinkhbgjaaLAwake
namespace Go.Proofs.Ytkbiocinkhbgjaa
open Go Go.RowKit Go.Maps Go.Proofs.Ytkbiocinkhbgjaa.Fr
namespace Dr

theorem find_put_ne {l : List Fl} (hr : Rising l) {f : Fl} {n : Bs} (hn : n ≠ f.name) : find (put f l) n = find l n := by
  cases e : find l n with
  | none =>
    apply findBy_none_of (k := fun f : Fl => f.name)
    intro g hg
    rcases mem_put hg with rfl | hg
    · exact fun h => hn h.symm
    · exact find_none e g hg.1
  | some g =>
    obtain ⟨h1, rfl⟩ := find_some e
    exact find_of_mem (hr.put f) ((mem_putBy (k := fun f : Fl => f.name)).2 (.inr ⟨h1, hn⟩))
theorem find_del_ne {l : List Fl} (hr : Rising l) {m n : Bs} (hn : n ≠ m) : find (del m l) n = find l n := by
  cases e : find l n with
  | none =>
    apply findBy_none_of (k := fun f : Fl => f.name)
    intro g hg
    exact find_none e g (mem_del hg).1
  | some g =>
    obtain ⟨h1, rfl⟩ := find_some e
    exact find_of_mem (hr.del m) ((mem_delBy (k := fun f : Fl => f.name)).2 ⟨h1, hn⟩)
theorem find_del_same (l : List Fl) (n : Bs) : find (del n l) n = none := findBy_none_of (k := fun f : Fl => f.name) fun _ hg => (mem_del hg).2
theorem length_del_some {l : List Fl} (hr : Rising l) {n : Bs} {f : Fl} (h : find l n = some f) : (del n l).length + 1 = l.length := by
  obtain ⟨_, rfl⟩ := find_some h
  have h1 := put_of_none (f := f) (find_del_same l f.name)
  have h2 := length_put_some (f := f) hr h
  have h3 : put f (del f.name l) = put f l := putBy_del (k := fun f : Fl => f.name) f l
  rw [h3] at h1
  omega
theorem not_dead {st : St} (h : st.armed = false) : st.dead = false := by simp [St.dead, h]
/-- What all steps keep of a drive that no loss of power threatens. -/
structure Gone (st st' : St) (n : Bs) : Prop where
  ok : st'.Ok
  armed : st'.armed = false
  steps : st'.steps = st.steps + 1
  others : ∀ m, m ≠ n → find st'.files m = find st.files m
theorem fu_more {st : St} (hok : st.Ok) (ha : st.armed = false) {n l : Bs} {f : Fl} (hn : nameOk n = true) (hf : find st.files n = some f) (hl : f.dat.length + l.length ≤ 262144) :
    ∃ st', st.append n l = (st', 0) ∧ Gone st st' n ∧ st'.files.length = st.files.length ∧ ∃ f', find st'.files n = some f' ∧ f'.dat.length = f.dat.length + l.length := by
  have hs := sizeOf_some hf
  have h := append_more (l := l) hn (by rw [hf, hs]; rintro (⟨h, _⟩ | h); · cases h
                                        · omega) (not_dead ha) hf
  obtain ⟨_, hfn⟩ := find_some hf
  refine ⟨_, h, ⟨by have := hok.append n l; rw [h] at this; exact this, ha, rfl, fun m hm => find_put_ne hok.rising (by rw [← hfn] at hm; exact hm)⟩, ?_, { f with dat := f.dat ++ l }, ?_, by simp⟩
  · exact length_put_some (g := f) hok.rising (by rw [← hfn] at hf; exact hf)
  · have := find_put_same (l := st.files) (f := { f with dat := f.dat ++ l }) hok.rising
    rw [← hfn]; exact this
theorem fu_new {st : St} (hok : st.Ok) (ha : st.armed = false) {n l : Bs} (hn : nameOk n = true) (hf : find st.files n = none) (hc : st.files.length < 256) (hl : l.length ≤ 262144) :
    ∃ st', st.append n l = (st', 0) ∧ Gone st st' n ∧ st'.files.length = st.files.length + 1 ∧ (∀ g ∈ st'.files, g.name = n ∨ g ∈ st.files) ∧ ∃ f', find st'.files n = some f' ∧ f'.dat = l := by
  have hs := sizeOf_none hf
  have h := append_new (l := l) hn (by rw [hs]; rintro (⟨_, h⟩ | h) <;> omega) (not_dead ha) hf
  refine ⟨_, h, ⟨by have := hok.append n l; rw [h] at this; exact this, ha, rfl, fun m hm => find_put_ne hok.rising hm⟩, put_of_none (f := { name := n, dat := l, syn := 0 }) hf, fun g hg => ?_, { name := n, dat := l, syn := 0 }, ?_, rfl⟩
  · rcases mem_put hg with rfl | hg
    · exact .inl rfl
    · exact .inr hg.1
  · exact find_put_same (l := st.files) (f := { name := n, dat := l, syn := 0 }) hok.rising
theorem look_ok {st : St} (ha : st.armed = false) {n : Bs} {f : Fl} (hn : nameOk n = true) (hf : find st.files n = some f) : st.look n = 0 := by
  unfold St.look; rw [if_neg (by simp [hn]), hf, if_neg (by simp), if_neg (by simp [not_dead ha])]
theorem fu_rename {st : St} (hok : st.Ok) (ha : st.armed = false) {n t : Bs} {f : Fl} (hn : nameOk n = true) (ht : nameOk t = true) (hne : t ≠ n) (hf : find st.files n = some f) (hg : find st.files t = none) :
    ∃ st', st.rename n t = (st', 0) ∧ st'.Ok ∧ st'.armed = false ∧ st'.steps = st.steps + 1 ∧ st'.files.length = st.files.length ∧ find st'.files n = none ∧ ∀ m, m ≠ n → m ≠ t → find st'.files m = find st.files m := by
  have h : st.rename n t = ({ st.step with files := put { f with name := t } (del t (del n st.files)) }, 0) := by
    unfold St.rename; rw [if_neg (by simp [ht]), if_neg (by simp [look_ok ha hn hf]), hf]
  have hd : find (del n st.files) t = none := by rw [find_del_ne hok.rising hne]; exact hg
  have hdd := del_of_none hd
  rw [hdd] at h
  refine ⟨_, h, by have := hok.rename n t; rw [h] at this; exact this, ha, rfl, ?_, ?_, fun m h1 h2 => ?_⟩
  · have h1 := put_of_none (f := { f with name := t }) hd
    have h2 := length_del_some hok.rising hf
    exact h1.trans h2
  · exact (find_put_ne (hok.rising.del n) (f := { f with name := t }) hne.symm).trans (find_del_same _ _)
  · exact (find_put_ne (hok.rising.del n) (f := { f with name := t }) h2).trans (find_del_ne hok.rising h1)
theorem fu_delete {st : St} (hok : st.Ok) (ha : st.armed = false) {n : Bs} {f : Fl} (hn : nameOk n = true) (hf : find st.files n = some f) :
    ∃ st', st.delete n = (st', 0) ∧ Gone st st' n ∧ st'.files.length + 1 = st.files.length := by
  have h : st.delete n = ({ st.step with files := del n st.files }, 0) := by
    unfold St.delete; rw [if_neg (by simp [look_ok ha hn hf])]
  exact ⟨_, h, ⟨by have := hok.delete n; rw [h] at this; exact this, ha, rfl, fun m hm => find_del_ne hok.rising hm⟩, length_del_some hok.rising hf⟩

/-! ### the names of the 256 -/
def nm (i : Nat) : Bs := [102, UInt8.ofNat (97 + i % 16), UInt8.ofNat (97 + i / 16)]
theorem nm_inj {i j : Nat} (hi : i < 256) (hj : j < 256) (h : nm i = nm j) : i = j := by
  simp only [nm, List.cons.injEq, and_true, true_and] at h
  obtain ⟨h1, h2⟩ := h
  have e1 := congrArg UInt8.toNat h1
  have e2 := congrArg UInt8.toNat h2
  simp only [UInt8.toNat_ofNat'] at e1 e2
  omega
theorem nm_ok {i : Nat} (hi : i < 256) : nameOk (nm i) = true := by
  revert i
  decide +kernel
theorem nm_g {i : Nat} : nm i ≠ [103] := by simp [nm]
structure FullAt (st : St) (i : Nat) : Prop where
  ok : st.Ok
  armed : st.armed = false
  steps : st.steps = i
  len : st.files.length = i
  names : ∀ f ∈ st.files, ∃ j, j < i ∧ f.name = nm j
  has : ∀ j, j < i → ∃ f, find st.files (nm j) = some f ∧ f.dat = []
theorem FullAt.zero : FullAt St.empty 0 := ⟨ok_empty, rfl, rfl, rfl, by simp [St.empty], fun j h => absurd h (by omega)⟩
theorem FullAt.succ {st : St} {i : Nat} (h : FullAt st i) (hi : i < 256) : ∃ st', st.append (nm i) [] = (st', 0) ∧ FullAt st' (i + 1) := by
  have hf : find st.files (nm i) = none := findBy_none_of (k := fun f : Fl => f.name) fun g hg hgn => by
    obtain ⟨j, hj, hn⟩ := h.names g hg
    have := nm_inj hi (by omega) (hgn.symm.trans hn)
    omega
  obtain ⟨st', h1, h2, h3, h4, f', h5, h6⟩ := fu_new (l := []) h.ok h.armed (nm_ok hi) hf (by rw [h.len]; exact hi) (by simp)
  refine ⟨st', h1, h2.ok, h2.armed, by rw [h2.steps, h.steps], by rw [h3, h.len], fun g hg => ?_, fun j hj => ?_⟩
  · rcases h4 g hg with h7 | h7
    · exact ⟨i, by omega, h7⟩
    · obtain ⟨j, hj, hn⟩ := h.names g h7
      exact ⟨j, by omega, hn⟩
  · by_cases e : j = i
    · subst e; exact ⟨f', h5, h6⟩
    · rw [h2.others (nm j) fun k => e (nm_inj (by omega) hi k)]
      exact h.has j (by omega)
/-- The rest, step by step. -/
structure FullTail (st : St) (n : Nat) (st1 st2 st3 st4 st5 : St) : Prop where
  a1 : st.append [103] [] = (st, 5)
  a2 : st.append [102, 97, 97] (List.replicate (262144 - n) 0) = (st1, 0)
  a3 : st1.append [102, 97, 97] (List.replicate (n + 1) 0) = (st1, 5)
  a4 : st1.append [102, 97, 97] (List.replicate n 0) = (st2, 0)
  a5 : st2.rename [102, 98, 97] [103] = (st3, 0)
  a6 : st3.append [102, 98, 97] [] = (st3, 5)
  a7 : st3.delete [102, 99, 97] = (st4, 0)
  a8 : st4.append [102, 98, 97] [1] = (st5, 0)
  a9 : st5.sizeOf [102, 97, 97] = 262144
  a10 : st5.files.length = 256
  oks : st.Ok ∧ st1.Ok ∧ st2.Ok ∧ st3.Ok ∧ st4.Ok ∧ st5.Ok
  steps : st.steps ≤ 1000 ∧ st1.steps ≤ 1000 ∧ st2.steps ≤ 1000 ∧ st3.steps ≤ 1000 ∧ st4.steps ≤ 1000 ∧ st5.steps ≤ 1000
theorem FullAt.tail {st : St} (h : FullAt st 256) {n : Nat} (hn : n < 9) : ∃ st1 st2 st3 st4 st5, FullTail st n st1 st2 st3 st4 st5 := by
  have hg : find st.files [103] = none := findBy_none_of (k := fun f : Fl => f.name) fun g hg hgn => by
    obtain ⟨j, _, hj⟩ := h.names g hg
    exact nm_g (hj.symm.trans hgn)
  obtain ⟨f0, h0, hd0⟩ := h.has 0 (by omega)
  obtain ⟨f1, h1, _⟩ := h.has 1 (by omega)
  obtain ⟨f2, h2, _⟩ := h.has 2 (by omega)
  have e0 : nm 0 = [102, 97, 97] := by decide
  have e1 : nm 1 = [102, 98, 97] := by decide
  have e2 : nm 2 = [102, 99, 97] := by decide
  rw [e0] at h0
  rw [e1] at h1
  rw [e2] at h2
  have k0 : nameOk [102, 97, 97] = true := by decide
  have k1 : nameOk [102, 98, 97] = true := by decide
  have k2 : nameOk [102, 99, 97] = true := by decide
  have kg : nameOk [103] = true := by decide
  have a1 : st.append [103] [] = (st, 5) := append_many kg hg (by rw [h.len]; omega)
  have hs := h.steps
  obtain ⟨st1, a2, g1, l1, f01, h01, d01⟩ := fu_more (l := List.replicate (262144 - n) 0) h.ok h.armed k0 h0 (by rw [hd0]; simp)
  rw [hd0, List.length_replicate, List.length_nil, Nat.zero_add] at d01
  have a3 : st1.append [102, 97, 97] (List.replicate (n + 1) 0) = (st1, 5) := append_long k0 (by rw [sizeOf_some h01, d01, List.length_replicate]; omega)
  obtain ⟨st2, a4, g2, l2, f02, h02, d02⟩ := fu_more (l := List.replicate n 0) g1.ok g1.armed k0 h01 (by rw [d01, List.length_replicate]; omega)
  have h12 : find st2.files [102, 98, 97] = some f1 := by rw [g2.others _ (by decide), g1.others _ (by decide)]; exact h1
  have h22 : find st2.files [102, 99, 97] = some f2 := by rw [g2.others _ (by decide), g1.others _ (by decide)]; exact h2
  have hg2 : find st2.files [103] = none := by rw [g2.others _ (by decide), g1.others _ (by decide)]; exact hg
  obtain ⟨st3, a5, o3, r3, s3, l3, n3, k3⟩ := fu_rename g2.ok g2.armed k1 kg (by decide) h12 hg2
  have a6 : st3.append [102, 98, 97] [] = (st3, 5) := append_many k1 n3 (by have := h.len; omega)
  have h23 : find st3.files [102, 99, 97] = some f2 := by rw [k3 _ (by decide) (by decide)]; exact h22
  obtain ⟨st4, a7, g4, l4⟩ := fu_delete o3 r3 k2 h23
  obtain ⟨st5, a8, g5, l5, _⟩ := fu_new (l := [1]) g4.ok g4.armed k1 (by rw [g4.others _ (by decide)]; exact n3) (by have := h.len; omega) (by simp)
  have h05 : find st5.files [102, 97, 97] = some f02 := by rw [g5.others _ (by decide), g4.others _ (by decide), k3 _ (by decide) (by decide)]; exact h02
  have t1 := g1.steps
  have t2 := g2.steps
  have t4 := g4.steps
  have t5 := g5.steps
  have hl := h.len
  refine ⟨st1, st2, st3, st4, st5, a1, a2, a3, a4, a5, a6, a7, a8, ?_, by omega, ⟨h.ok, g1.ok, g2.ok, o3, g4.ok, g5.ok⟩, by omega, by omega, by omega, by omega, by omega, by omega⟩
  rw [sizeOf_some h05, d02, d01, List.length_replicate]
  omega
end Dr
end Go.Proofs.Ytkbiocinkhbgjaa
