/-
  WHAT IS PROVED: (1) what a drive is behind each step of memory: a file's row appended to, a file made, renamed, synced, struck. NO CONDITION beside those that each lemma names.
-/
import Derived.Test.YtbfmjonabndhaaaGreatDoorQDRep
namespace Go.Proofs.YtbfmjonabndhaaaGreatDoor
open Go Go.RowKit Go.Maps Go.Proofs.YtbfmjonabndhaaaGreatDoor.Fr
namespace Dr

/-- An operation's answer, and the drive behind it. -/
def DOp (S : Nat → Prop) (b : Nat) (p : St × Nat) (w : World) (e : Ending) (w' : World) : Prop := e = .returned (.int .i64 (p.2 : Int)) ∧ DriveRep w' (ext S w w') b p.1 ∧ Mod S w w'
theorem Rd.mod {S : Nat → Prop} {w w' : World} {A : Option Addr} {xs : List Value} (h : Rd w A xs) (hm : Mod S w w') (ha : ∀ a, A = some a → ¬ S a.block) : Rd w' A xs := fun hx => by
  obtain ⟨b, o, e, hb, hc⟩ := h hx
  have hn := ha _ e
  exact ⟨b, o, e, Nat.lt_of_lt_of_le hb hm.size, fun i hi => (World.cell?_of_block (hm.block b hb hn)).trans (hc i hi)⟩
/-- The drive's numbers and files alone. -/
def Grew (w w' : World) (b mb : Nat) (Q : List Ent) (st : St) : Prop := ∃ Q', DriveAt w' b mb st Q' ∧ (∀ k, footD b mb Q' k → ext (footD b mb Q) w w' k) ∧ Mod (footD b mb Q) w w'
section
variable {w w' w1 w2 : World} {b mb : Nat} {st : St} {Q : List Ent} {S : Nat → Prop}
theorem Grew.refl (h : DriveAt w b mb st Q) : Grew w w b mb Q st := ⟨Q, h, fun _ hk => .inl hk, Mod.refl _ _⟩
theorem Grew.trans {Q1 : List Ent} {st1 st2 : St} (hQ : ∀ k, footD b mb Q1 k → ext (footD b mb Q) w w1 k) (hm : Mod (footD b mb Q) w w1) (h2 : Grew w1 w2 b mb Q1 st2) (_ : DriveAt w1 b mb st1 Q1) : Grew w w2 b mb Q st2 := by
  obtain ⟨Q2, h, hf, hm2⟩ := h2
  refine ⟨Q2, h, fun k hk => ?_, hm.trans hm2 fun k hk hs => ?_⟩
  · rcases hf k hk with h1 | h1
    · rcases hQ k h1 with h3 | h3
      · exact .inl h3
      · exact .inr ⟨h3.1, Nat.lt_of_lt_of_le h3.2 hm2.size⟩
    · exact .inr ⟨Nat.le_trans hm.size h1.1, h1.2⟩
  · rcases hQ k hs with h3 | h3
    · exact h3
    · have := h3.1; omega
theorem Grew.rep (h : Grew w w' b mb Q st) (hf : ∀ k, footD b mb Q k → S k) (hS : ∀ k, S k → k < w.heap.size) : DriveRep w' (ext S w w') b st ∧ Mod S w w' := by
  obtain ⟨Q', h1, h2, h3⟩ := h
  exact ⟨⟨mb, Q', h1, fun k hk => (h2 k hk).imp (hf k) id, ext_lt hS h3.size⟩, h3.weaken fun k _ => hf k⟩
theorem dop_of {n : Nat} (h : Grew w w' b mb Q st) (hf : ∀ k, footD b mb Q k → S k) (hS : ∀ k, S k → k < w.heap.size) : DOp S b (st, n) w (.returned (.int .i64 (n : Int))) w' :=
  let ⟨h1, h2⟩ := h.rep hf hS; ⟨rfl, h1, h2⟩
theorem DOp.stay {p : St × Nat} {n : Nat} (h : DriveRep w S b st) (hp : p = (st, n)) : DOp S b p w (.returned (.int .i64 (n : Int))) w := by
  subst hp
  exact ⟨rfl, h.more (fun k hk => .inl hk) (ext_lt h.lt (Nat.le_refl _)), Mod.refl _ _⟩
/-- The head's numbers alone have changed. -/
theorem Grew.head (h : DriveAt w' b mb st Q) (hm : Mod (fun k => k = b) w w') : Grew w w' b mb Q st := ⟨Q, h, fun _ hk => .inl hk, hm.weaken fun k _ e => by subst e; exact .inl rfl⟩

theorem ent_nb_mem {e : Ent} (he : e ∈ Q) : e.nb ∈ Q.map Ent.nb := List.mem_map.2 ⟨e, he, rfl⟩
/-- The one change: the block and the row of e alone; e' stands in its place. -/
theorem DriveAt.turn (h : DriveAt w b mb st Q) {e e' : Ent} (he : e ∈ Q) (hn : e'.fl.name = e.fl.name) (hb : e'.blk = e.blk) (hr : ∀ k, e'.row.ownBlock = some k → e.row.ownBlock = some k ∨ (w.heap.size ≤ k ∧ k < w'.heap.size)) (hat : EntAt w' e') (hm : Mod e.foot w w') :
    Grew w w' b mb Q { st with files := put e'.fl st.files } := by
  have hek : e'.key = e.key := hn
  have enb : e'.nb = e.nb := by unfold Ent.nb; rw [hn, hb]
  have hkeep : ∀ k, k < w.heap.size → ¬ e.foot k → w'.heap[k]? = w.heap[k]? := hm.block
  refine ⟨putBy Ent.key e' Q, h.putE e' ?_ hat (hkeep b h.head.lt (h.foot_ne_head he)) (fun f hf hne k hk => ?_) (fun f hf hne => ⟨?_, fun k h1 h2 => ?_⟩), fun k hk => ?_, hm.weaken fun k _ hk => .inr (.inr ⟨e, he, hk⟩)⟩
  · rw [enb, putBy_mem h.map.rising (ent_nb_mem he)]
    exact h.map.same (hkeep mb h.map.lt (h.foot_ne_map he))
  · exact hkeep k ((h.ents f hf).lt k hk) (foot_off (h.ents f hf) (h.ents e he) (h.off f hf e he (by rw [← hek]; exact hne)) hk)
  · rw [hb]; exact (h.off f hf e he (by rw [← hek]; exact hne)).1
  · rcases hr k h2 with h3 | h3
    · exact (h.off f hf e he (by rw [← hek]; exact hne)).2 k h1 h3
    · have := ((h.ents f hf).2.lt k h1).2; omega
  · rcases hk with hk | hk | ⟨f, hf, hk⟩
    · exact .inl (.inl hk)
    · exact .inl (.inr (.inl hk))
    · rcases mem_putBy.1 hf with rfl | ⟨h1, _⟩
      · rcases hk with hk | hk
        · exact .inl (.inr (.inr ⟨e, he, .inl (hk.trans hb)⟩))
        · rcases hr k hk with h3 | h3
          · exact .inl (.inr (.inr ⟨e, he, .inr h3⟩))
          · exact .inr h3
      · exact .inl (.inr (.inr ⟨f, h1, hk⟩))
/-- A file's row appended to, and stored back. -/
theorem DriveAt.appended (h : DriveAt w b mb st Q) {e : Ent} (he : e ∈ Q) {l : Bs} {A1 : Option Addr} {N c1 : Nat} (hown : w1.ownsRow 0 5 1 (.slice A1 N c1) N (bv e.fl.dat ++ bv l)) (hN : e.fl.dat.length + l.length = N) (hg : w.grownBy w1 e.row.ownBlock)
    (hloc : (Value.slice A1 N c1).ownBlock = e.row.ownBlock ∨ (Value.slice A1 N c1).ownBlock = some w.heap.size) :
    Grew w (w1.setCell ⟨e.blk, 0, none⟩ (.slice A1 N c1)) b mb Q { st with files := put { e.fl with dat := e.fl.dat ++ l } st.files } := by
  have hat := h.ents e he
  have hgb : w1.heap[e.blk]? = w.heap[e.blk]? := hg.block _ hat.1.lt fun k => hat.row_ne hat k.symm
  have hb1 : Blk w1 e.blk 90 #[e.row, .int .i64 (e.fl.syn : Int)] := hat.1.same hgb
  have hne : ∀ k, (Value.slice A1 N c1).ownBlock = some k → k ≠ e.blk := fun k hk => by
    rintro rfl
    obtain ⟨cur, hc⟩ := own_blk hown hk
    exact Blk.ne hc hb1 (by decide) rfl
  have hm1 : Mod e.foot w w1 := Mod.grown hg fun k hk => .inr hk
  refine h.turn (e' := ⟨{ e.fl with dat := e.fl.dat ++ l }, e.blk, .slice A1 N c1⟩) he rfl rfl (fun k hk => ?_) ⟨?_, ?_⟩ (hm1.setCell (fun _ => .inl rfl) _)
  · rcases hloc with h1 | h1
    · exact .inl (h1 ▸ hk)
    · have hk' : (Value.slice A1 N c1).ownBlock = some k := hk
      rw [h1] at hk'
      cases hk'
      have := (hown.lt _ h1).2
      exact .inr ⟨Nat.le_refl _, by simpa [World.setCell] using this⟩
  · have := hb1.set 0 (.slice A1 N c1)
    simpa using this
  · have := own_same (w' := w1.setCell ⟨e.blk, 0, none⟩ (.slice A1 N c1)) hown fun k hk => Below.heap_setCell _ _ _ _ (hne k hk)
    dsimp only
    rw [List.length_append, hN, bv_append]
    exact this
/-- Synced. -/
theorem DriveAt.synced (h : DriveAt w b mb st Q) {e : Ent} (he : e ∈ Q) : Grew w (w.setCell ⟨e.blk, 1, none⟩ (.int .i64 (e.fl.dat.length : Int))) b mb Q { st with files := put { e.fl with syn := e.fl.dat.length } st.files } := by
  have hat := h.ents e he
  refine h.turn (e' := ⟨{ e.fl with syn := e.fl.dat.length }, e.blk, e.row⟩) he rfl rfl (fun k hk => .inl hk) ⟨?_, ?_⟩ ((Mod.refl _ _).setCell (fun _ => .inl rfl) _)
  · have := hat.1.set 1 (.int .i64 (e.fl.dat.length : Int))
    simpa using this
  · exact own_same hat.2 fun k hk => Below.heap_setCell _ _ _ _ (by rintro rfl; exact hat.row_ne hat hk)
/-- A new file, without bytes. -/
theorem DriveAt.made (h : DriveAt w b mb st Q) {s : ByteArray} {g : Nat} (hg : g = w.heap.size) (hm : MapAt Tryz.prog 9 w2 mb (putBy (fun p : NB => p.1) (s.data.toList, g) (Q.map Ent.nb)))
    (hgr : (w.alloc (.cells #[.slice none 0 0, .int .i64 0] 90)).grownBy w2 (some mb)) (hsz : w2.heap.size = (w.alloc (.cells #[.slice none 0 0, .int .i64 0] 90)).heap.size) :
    ∃ Q', DriveAt w2 b mb { st with files := put { name := s.data.toList, dat := [], syn := 0 } st.files } Q' ∧ (∀ k, footD b mb Q' k → ext (footD b mb Q) w w2 k) ∧ Mod (footD b mb Q) w w2 ∧
      (⟨{ name := s.data.toList, dat := [], syn := 0 }, g, .slice none 0 0⟩ : Ent) ∈ Q' := by
  subst hg
  have hk : ∀ k, k < w.heap.size → k ≠ mb → w2.heap[k]? = w.heap[k]? := fun k hk hne => (hgr.block k (by simp; omega) (fun e => hne (Option.some.inj e))).trans (Below.heap_alloc _ _ _ hk)
  have hnew : Blk w2 w.heap.size 90 #[.slice none 0 0, .int .i64 0] := (Blk.new w _ _).same (hgr.block _ (by simp) (fun e => by have := h.map.lt; have := Option.some.inj e; omega))
  have hs : w2.heap.size = w.heap.size + 1 := by rw [hsz]; simp
  have hat : EntAt w2 ⟨{ name := s.data.toList, dat := [], syn := 0 }, w.heap.size, .slice none 0 0⟩ := ⟨hnew, World.ownsRow_nil _ _ _ _⟩
  refine ⟨putBy Ent.key ⟨{ name := s.data.toList, dat := [], syn := 0 }, w.heap.size, .slice none 0 0⟩ Q, h.putE _ hm hat (hk b h.head.lt h.map_ne_head.symm) (fun f hf hne k hkf => ?_) (fun f hf hne => ⟨?_, fun k h1 h2 => ?_⟩), fun k hkf => ?_, ?_, mem_putBy.2 (.inl rfl)⟩
  · exact hk k ((h.ents f hf).lt k hkf) (by rintro rfl; exact h.foot_ne_map hf hkf)
  · have := (h.ents f hf).1.lt; dsimp only; omega
  · simp [Value.ownBlock] at h2
  · rcases hkf with hk | hk | ⟨f, hf, hk⟩
    · exact .inl (.inl hk)
    · exact .inl (.inr (.inl hk))
    · rcases mem_putBy.1 hf with rfl | ⟨h1, _⟩
      · rcases hk with hk | hk
        · exact .inr ⟨by dsimp only at hk; omega, by dsimp only at hk; omega⟩
        · simp [Value.ownBlock] at hk
      · exact .inl (.inr (.inr ⟨f, h1, hk⟩))
  · exact ⟨hgr.os, hgr.tape, hgr.output, by omega, fun k h1 h2 => hk k h1 fun e => h2 (.inr (.inl e))⟩
/-- Struck. -/
theorem DriveAt.struck (h : DriveAt w b mb st Q) (n : Bs) (hm : MapAt Tryz.prog 9 w' mb (delBy (fun p : NB => p.1) n (Q.map Ent.nb))) (hg : w.grownBy w' (some mb)) : DriveAt w' b mb { st with files := del n st.files } (delBy Ent.key n Q) ∧ (∀ k, footD b mb (delBy Ent.key n Q) k → ext (footD b mb Q) w w' k) ∧ Mod (footD b mb Q) w w' := by
  refine ⟨h.delE n hm fun k hk hne => hg.block k hk fun e => hne (Option.some.inj e), fun k hk => ?_, Mod.grown hg fun k hk => .inr (.inl (Option.some.inj hk).symm)⟩
  rcases hk with hk | hk | ⟨f, hf, hk⟩
  · exact .inl (.inl hk)
  · exact .inl (.inr (.inl hk))
  · exact .inl (.inr (.inr ⟨f, (mem_delBy.1 hf).1, hk⟩))
/-- Struck, and put in under another name. -/
theorem DriveAt.renamed (h : DriveAt w b mb st Q) {e : Ent} (he : e ∈ Q) {n t : Bs} (hn : e.fl.name = n) (h1 : DriveAt w1 b mb { st with files := del n st.files } (delBy Ent.key n Q)) (hg1 : w.grownBy w1 (some mb))
    (hm : MapAt Tryz.prog 9 w2 mb (putBy (fun p : NB => p.1) (t, e.blk) ((delBy Ent.key n Q).map Ent.nb))) (hg2 : w1.grownBy w2 (some mb)) :
    Grew w w2 b mb Q { st with files := put { e.fl with name := t } (del n st.files) } := by
  have hk : ∀ k, k < w.heap.size → k ≠ mb → w2.heap[k]? = w.heap[k]? := fun k hk hne =>
    (hg2.block k (Nat.lt_of_lt_of_le hk hg1.size) fun e => hne (Option.some.inj e)).trans (hg1.block k hk fun e => hne (Option.some.inj e))
  have hsame : ∀ k, k < w1.heap.size → k ≠ mb → w2.heap[k]? = w1.heap[k]? := fun k hk hne => hg2.block k hk fun e => hne (Option.some.inj e)
  have hat : EntAt w2 ⟨{ e.fl with name := t }, e.blk, e.row⟩ := ((h.ents e he).same (w' := w2) fun k hf => hk k ((h.ents e he).lt k hf) (by rintro rfl; exact h.foot_ne_map he hf))
  refine ⟨putBy Ent.key ⟨{ e.fl with name := t }, e.blk, e.row⟩ (delBy Ent.key n Q), h1.putE _ hm hat (hsame b h1.head.lt h1.map_ne_head.symm) (fun f hf hne k hkf => hsame k ((h1.ents f hf).lt k hkf) (by rintro rfl; exact h1.foot_ne_map hf hkf)) (fun f hf hne => ?_), fun k hkf => ?_,
    (Mod.grown hg1 (S := footD b mb Q) fun k hk => .inr (.inl (Option.some.inj hk).symm)).trans (S' := footD b mb Q) (Mod.grown hg2 fun k hk => .inr (.inl (Option.some.inj hk).symm)) fun _ _ h => h⟩
  · obtain ⟨h2, h3⟩ := mem_delBy.1 hf
    exact h.off f h2 e he (by intro e1; exact h3 (e1.trans hn))
  · rcases hkf with hk | hk | ⟨f, hf, hk⟩
    · exact .inl (.inl hk)
    · exact .inl (.inr (.inl hk))
    · rcases mem_putBy.1 hf with rfl | ⟨h1, _⟩
      · exact .inl (.inr (.inr ⟨e, he, hk⟩))
      · exact .inl (.inr (.inr ⟨f, (mem_delBy.1 h1).1, hk⟩))
end
end Dr
end Go.Proofs.YtbfmjonabndhaaaGreatDoor
