/-
  WHAT IS PROVED: (1) what each step of the law's lived leaves. NO CONDITION beside those that each lemma names. (2) what the law's lived answers. CONDITIONS: the life's payloads stand in memory as named; the library's variables lie as laid.
-/
import Derived.Test.YtnijonjepgdinaaDoorWOwnP
namespace Go.Proofs.YtnijonjepgdinaaDoor
open Go Go.RowKit Go.Maps Go.Proofs.YtnijonjepgdinaaDoor.Fr Go.Proofs.YtnijonjepgdinaaDoor.Dr
namespace Wl

section
variable {w0 w w' : World} {X : Nat → Prop} {b d B : Nat} {g : Int} {dead : Bool} {st : St}
/-- An Append's answer as a number, and what it means. -/
theorem lx_appq {k t z : Nat} {ar : Bool} (h : LS w0 w X b d g dead st) (hx : Lx k t ar g dead st z) (hL : Lb B w0) (hk : k ≤ 199) (ht : t ≤ 1000) (A : Option Addr) (n c : Nat) (l : Bs) (hl : l.length = n) (hr : Rd w A (bv l)) (hn : l.length ≤ 4096) :
    Calls Tryd.prog 14 #[.pointer (some ⟨b, 0, none⟩), .slice A n c] w fun e w' => ∃ (q : Int) (g' : Int) (dead' : Bool) (st' : St), e = .returned (.int .i64 q) ∧ LS w0 w' X b d g' dead' st' ∧ (∀ k, X k → w'.heap[k]? = w.heap[k]?) ∧
      ((dead = false ∧ q = 0 ∧ dead' = false ∧ Lx (k + 1) (t + 2) ar g' false st' z ∧ tag st'.files = tag st.files ++ [(g', l)]) ∨ (q = 6 ∧ dead' = true ∧ ar = true ∧ Lx (k + 1) (t + 2) ar g' true st' z ∧ tag st'.files = tag st.files)) := by
  refine (lx_app h hx hL hk ht A n c l hl hr hn).mono ?_
  rintro e w' ⟨g', dead', st', code, rfl, h1, h2, h3⟩
  refine ⟨_, g', dead', st', rfl, h1, h2, ?_⟩
  rcases h3 with ⟨a1, rfl, a3, a4, a5⟩ | ⟨rfl, a2, a3, a4, a5⟩
  · exact .inl ⟨a1, rfl, a3, a4, a5⟩
  · exact .inr ⟨rfl, a2, a3, a4, a5⟩
theorem lx_syncq {k t z : Nat} {ar : Bool} (h : LS w0 w X b d g dead st) (hx : Lx k t ar g dead st z) (hL : Lb B w0) (hk : k ≤ 200) (ht : t ≤ 1000) :
    Calls Tryd.prog 22 #[.pointer (some ⟨b, 0, none⟩)] w fun e w' => ∃ (q : Int) (dead' : Bool) (st' : St), e = .returned (.int .i64 q) ∧ LS w0 w' X b d g dead' st' ∧ (∀ k, X k → w'.heap[k]? = w.heap[k]?) ∧
      ((dead = false ∧ q = 0 ∧ dead' = false ∧ Lx k (t + 1) ar g false st' (tag st.files).length ∧ tag st'.files = tag st.files) ∨ (q = 6 ∧ dead' = true ∧ ar = true ∧ Lx k (t + 1) ar g true st' z ∧ tag st'.files = tag st.files)) := by
  obtain ⟨h1, _, _, h4⟩ := hx.ok
  refine (lsync_any h hL h1 (by omega)).mono ?_
  rintro e w' ⟨rfl, h5, h6⟩
  rcases hx.sync hk with ⟨a1, a2, a3, a4, a5⟩ | ⟨a1, a2, a3⟩
  · exact ⟨_, _, _, rfl, h5, h6, .inl ⟨a1, by rw [a2]; rfl, a3, a4, a5⟩⟩
  · rw [a1] at h5
    exact ⟨_, true, st, rfl, h5, h6, .inr ⟨by rw [a1]; rfl, rfl, a2, a3, rfl⟩⟩
end
/-- Where the loop of a life stands. -/
structure LvAt (w0 w : World) (X : Nat → Prop) (b d : Nat) (F : List Bs) (bx : Nat) (box : Array Value) (ar : Bool) (kk tt n : Nat) (X' : Nat → Prop) (g : Int) (dead : Bool) (st : St) (D : List Bs) (m z : Nat) (v : Value) (vs : List Value) (wr : World) : Prop where
  ls : LS w0 wr X' b d g dead st
  lx : Lx kk tt ar g dead st (F.length + z)
  tags : (tag st.files).map (·.2) = F ++ D.take m
  zm : z ≤ m
  mD : m ≤ D.length
  live : dead = false → m = D.length
  row : wr.ownsRow w.heap.size 42 1 v D.length vs
  own : OwnL wr w.heap.size vs D
  rowX : ∀ k, v.ownBlock = some k → X' k
  ownX : ∀ u ∈ vs, ∀ k, u.ownBlock = some k → X' k
  box : Blk wr bx 34 box
  boxX : X' bx
  few : D.length ≤ n
  sub : ∀ k, X k → X' k
  frame : ∀ k, X k → wr.heap[k]? = w.heap[k]?
  new : w0.heap.size ≤ w.heap.size
section
variable {w0 w wr W W' : World} {X X' X2 : Nat → Prop} {b d bx kk tt n m z : Nat} {F D : List Bs} {box : Array Value} {ar : Bool} {g g' : Int} {dead dead' : Bool} {st st' : St} {v : Value} {vs : List Value}
theorem OwnL.same {B : Nat} {ls : List Bs} (h : OwnL W B vs ls) (hk : ∀ u ∈ vs, ∀ k, u.ownBlock = some k → W'.heap[k]? = W.heap[k]?) : OwnL W' B vs ls :=
  ⟨h.1, fun j u l hv hl => by
    obtain ⟨b', hb, ho, hd⟩ := h.2 j u l hv hl
    exact ⟨b', hb, own_same ho fun k e => hk u (List.mem_of_getElem? hv) k e, hd⟩⟩
/-- New memory alone. -/
theorem LvAt.news (h : LvAt w0 w X b d F bx box ar kk tt n X' g dead st D m z v vs wr) (hb : Below wr.heap.size wr W) : LvAt w0 w X b d F bx box ar kk tt n (ext X' wr W) g dead st D m z v vs W :=
  ⟨h.ls.news hb, h.lx, h.tags, h.zm, h.mD, h.live, own_below h.row hb (Nat.le_refl _), h.own.below hb, fun k hk => .inl (h.rowX k hk), fun u hu k hk => .inl (h.ownX u hu k hk), h.box.same (hb.block _ h.box.lt), .inl h.boxX, h.few, fun k hk => .inl (h.sub k hk), fun k hk => (hb.block k (h.ls.xlt (h.sub k hk))).trans (h.frame k hk), h.new⟩
/-- A call of the log, of which no payload came. -/
theorem LvAt.op (h : LvAt w0 w X b d F bx box ar kk tt n X' g dead st D m z v vs wr) (h1 : LS w0 W X' b d g' dead' st') (hk : ∀ k, X' k → W.heap[k]? = wr.heap[k]?) {kk' tt' n' z' : Nat} (hx : Lx kk' tt' ar g' dead' st' (F.length + z')) (ht : tag st'.files = tag st.files) (hz : z' ≤ m) (hl : dead' = false → m = D.length) (hn : n ≤ n') :
    LvAt w0 w X b d F bx box ar kk' tt' n' X' g' dead' st' D m z' v vs W :=
  ⟨h1, hx, by rw [ht]; exact h.tags, hz, h.mD, hl, own_same h.row fun k e => hk k (h.rowX k e), OwnL.same h.own fun u hu k e => hk k (h.ownX u hu k e), h.rowX, h.ownX, h.box.same (hk _ h.boxX), h.boxX, Nat.le_trans h.few hn, h.sub, fun k e => (hk k (h.sub k e)).trans (h.frame k e), h.new⟩
theorem LvAt.slow (h : LvAt w0 w X b d F bx box ar kk tt n X' g dead st D m z v vs wr) {tt' : Nat} (ht : tt ≤ tt') : LvAt w0 w X b d F bx box ar kk tt' n X' g dead st D m z v vs wr := { h with lx := h.lx.mono (Nat.le_refl _) ht (Nat.le_refl _) }
theorem LvAt.count (h : LvAt w0 w X b d F bx box ar kk tt n X' g false st D m z v vs wr) : (tag st.files).length = F.length + D.length := by
  have h1 := congrArg List.length h.tags
  have h2 := h.live rfl
  simp only [List.length_map, List.length_append, List.length_take] at h1
  omega
/-- A payload more is done. -/
theorem LvAt.more (h : LvAt w0 w X b d F bx box ar kk tt n X' g false st D m z v vs wr) (h1 : LS w0 W X' b d g' dead' st') (hk : ∀ k, X' k → W.heap[k]? = wr.heap[k]?) {kk' tt' : Nat} {s : Bs} (hx : Lx kk' tt' ar g' dead' st' (F.length + z))
    (ht : (dead' = false ∧ tag st'.files = tag st.files ++ [(g', s)]) ∨ (dead' = true ∧ tag st'.files = tag st.files)) {A4 A8 : Option Addr} {m4 c4 c8 : Nat} {wq : World} (hm4 : s.length = m4) (ho4 : wr.ownsRow wq.heap.size 5 1 (.slice A4 m4 c4) m4 (bv s)) (hq : w.heap.size ≤ wq.heap.size) (hvq : ∀ u ∈ vs, ∀ k, u.ownBlock = some k → k < wq.heap.size) (hx4 : ∀ k, (Value.slice A4 m4 c4).ownBlock = some k → X' k)
    (hr8 : W'.ownsRow w.heap.size 42 1 (.slice A8 (D.length + 1) c8) (D.length + 1) (vs ++ [.slice A4 m4 c4])) (hg8 : (W.alloc (.cells #[.slice A4 m4 c4] 42)).grownBy W' v.ownBlock)
    (h8 : (Value.slice A8 (D.length + 1) c8).ownBlock = v.ownBlock ∨ (Value.slice A8 (D.length + 1) c8).ownBlock = some (W.alloc (.cells #[.slice A4 m4 c4] 42)).heap.size) :
    ∃ X2 m2, LvAt w0 w X b d F bx box ar kk' tt' (n + 1) X2 g' dead' st' (D ++ [s]) m2 z (.slice A8 (D.length + 1) c8) (vs ++ [.slice A4 m4 c4]) W' := by
  have hml := h.live rfl
  have ha : Below W.heap.size W (W.alloc (.cells #[.slice A4 m4 c4] 42)) := (Below.refl _ _).alloc (Nat.le_refl _) _
  have hrow : W.ownsRow w.heap.size 42 1 v D.length vs := own_same h.row fun k e => hk k (h.rowX k e)
  have hown : OwnL W w.heap.size vs D := OwnL.same h.own fun u hu k e => hk k (h.ownX u hu k e)
  have ho4' : W.ownsRow wq.heap.size 5 1 (.slice A4 m4 c4) m4 (bv s) := own_same ho4 fun k e => hk k (hx4 k e)
  have hrge := own_row hrow
  have hro := own_below hrow ha (Nat.le_refl _)
  have h2 := (h1.news ha).law (w' := W') (Mod.grown hg8 fun k e => ⟨.inl (h.rowX k e), Nat.le_trans h.new (hrge k e)⟩)
  have hbx : Blk W bx 34 box := h.box.same (hk _ h.boxX)
  have hbx2 := hbx.same (ha.block bx hbx.lt)
  have off : ∀ k, v.ownBlock = some k → k ≠ bx := fun k e e2 => by
    subst e2
    obtain ⟨cur, hc⟩ := own_blk hro e
    exact Blk.ne hc hbx2 (by decide) rfl
  have hlt8 := hr8.lt
  refine ⟨_, if dead' then m else m + 1, h2, hx, ?_, ?_, ?_, ?_, by rw [List.length_append]; exact hr8, ?_, ?_, ?_, hbx2.same (hg8.block bx hbx2.lt fun e => off bx e.symm rfl), .inl (.inl h.boxX), by rw [List.length_append]; have := h.few; simp; omega, fun k e => .inl (.inl (h.sub k e)), fun k e => ?_, h.new⟩
  · rcases ht with ⟨rfl, ht⟩ | ⟨rfl, ht⟩
    · rw [ht, List.map_append, h.tags, hml]
      simp [List.take_of_length_le]
    · rw [ht, h.tags, hml]
      simp
  · have := h.zm; split <;> omega
  · rw [List.length_append]; have := h.mD; simp only [List.length_singleton]; split <;> omega
  · intro e; subst e; rw [List.length_append]; simp [hml]
  · refine OwnL.grown (OwnL.below ?_ ha) hro (by decide) hg8
    exact hown.snoc hm4 ho4' hq fun u k hu e => hvq u hu k e
  · intro k e
    rcases h8 with h8 | h8
    · exact .inl (.inl (h.rowX k (h8 ▸ e)))
    · have h9 := hlt8 k e
      rw [h8] at e
      exact .inr ⟨Nat.le_of_eq (Option.some.inj e), h9.2⟩
  · intro u hu k e
    rcases List.mem_append.1 hu with hu | hu
    · exact .inl (.inl (h.ownX u hu k e))
    · obtain rfl := List.mem_singleton.1 hu
      exact .inl (.inl (hx4 k e))
  · have h3 : k < W.heap.size := h1.xlt (h.sub k e)
    have h4 : ¬ v.ownBlock = some k := fun q => by
      have h5 := hrge k q
      have h6 : k < w.heap.size := by
        have h7 := h.frame k e
        rcases Nat.lt_or_ge k w.heap.size with h8 | h8
        · exact h8
        · rw [Array.getElem?_eq_none h8] at h7
          have h9 := h.ls.xlt (h.sub k e)
          rw [Array.getElem?_eq_getElem h9] at h7
          cases h7
      omega
    exact ((hg8.block k (Nat.lt_of_lt_of_le h3 ha.size) fun q => h4 q.symm).trans (ha.block k h3)).trans ((hk k (h.sub k e)).trans (h.frame k e))
end

end Wl
end Go.Proofs.YtnijonjepgdinaaDoor
namespace Go.Proofs.YtnijonjepgdinaaDoor
open Go Go.RowKit Go.Maps Go.Proofs.YtnijonjepgdinaaDoor.Fr Go.Proofs.YtnijonjepgdinaaDoor.Dr
namespace Wl

def LvInv (w0 w : World) (X : Nat → Prop) (b d : Nat) (F : List Bs) (bx : Nat) (box : Array Value) (ar : Bool) (k0 n : Nat) (v zv dv x : Value) (wr : World) : Prop :=
  ∃ (i c z : Nat) (A : Option Addr) (dead : Bool) (j : Nat), i ≤ n ∧ i ≤ 20 ∧ x = .int .i64 (i : Int) ∧ zv = .int .i64 (z : Int) ∧ dv = .bool dead ∧ v = .slice A j c ∧ j ≤ i ∧ j ≤ c ∧ Hid (∃ X' g st D m vs, D.length = j ∧ LvAt w0 w X b d F bx box ar (k0 + i) (3 * i) i X' g dead st D m z (.slice A j c) vs wr)
/-- What lived answers. -/
def LivRet (w0 w : World) (X : Nat → Prop) (b d : Nat) (F : List Bs) (ar : Bool) (k0 : Nat) (e : Ending) (w' : World) : Prop :=
  ∃ A c z D g dead st m vs, e = .returned (.tuple #[.slice A D.length c, .int .i64 ((z : Nat) : Int), .bool true]) ∧ D.length ≤ 20 ∧ D.length ≤ c ∧ z ≤ m ∧ m ≤ D.length ∧ LS w0 w' X b d g dead st ∧ Lx (k0 + 20) 60 ar g dead st (F.length + z) ∧ (tag st.files).map (·.2) = F ++ D.take m ∧
    w'.ownsRow w.heap.size 42 1 (.slice A D.length c) D.length vs ∧ OwnL w' w.heap.size vs D ∧ ∀ k, X k → w'.heap[k]? = w.heap[k]?
theorem rel_of {a b : Nat} {p : Nat → Prop} (h : p a) (e : a = b) : p b := e ▸ h
theorem short_short {l s : Bs} (h : s = l.take 700) : s.take 700 = s := by rw [h, List.take_take]; simp
theorem lv_x4 {wr w4 w5 : World} {X' : Nat → Prop} {A4 : Option Addr} {m4 c4 : Nat} {s : Bs} (h : w4.ownsRow wr.heap.size 5 1 (.slice A4 m4 c4) m4 (bv s)) (hb : Below w4.heap.size w4 w5) : ∀ k, (Value.slice A4 m4 c4).ownBlock = some k → ext X' wr w5 k :=
  fun k e => .inr ⟨(h.lt k e).1, Nat.lt_of_lt_of_le (h.lt k e).2 hb.size⟩
/-- As 'more', with the count of what is done by its name. -/
theorem LvAt.more' {w0 w wr w4 w5 w6 w7 : World} {X X' : Nat → Prop} {b d bx kk tt n m z j : Nat} {F D : List Bs} {box : Array Value} {ar : Bool} {g g' : Int} {dead' : Bool} {st st' : St} {A : Option Addr} {c : Nat} {vs : List Value}
    (h : LvAt w0 w X b d F bx box ar kk tt n X' g false st D m z (.slice A j c) vs w5) (h1 : LS w0 w6 X' b d g' dead' st') (hk : ∀ k, X' k → w6.heap[k]? = w5.heap[k]?) {kk' tt' : Nat} {s : Bs} (hx : Lx kk' tt' ar g' dead' st' (F.length + z))
    (ht : (dead' = false ∧ tag st'.files = tag st.files ++ [(g', s)]) ∨ (dead' = true ∧ tag st'.files = tag st.files)) {A4 A8 : Option Addr} {m4 c4 c8 : Nat} (hm4 : s.length = m4) (ho4 : w4.ownsRow wr.heap.size 5 1 (.slice A4 m4 c4) m4 (bv s)) (hb5 : Below w4.heap.size w4 w5)
    (hv : OwnL wr w.heap.size vs D) (hq : w.heap.size ≤ wr.heap.size) (hx4 : ∀ k, (Value.slice A4 m4 c4).ownBlock = some k → X' k) (hj : D.length = j)
    (hr8 : w7.ownsRow w.heap.size 42 1 (.slice A8 (j + 1) c8) (j + 1) (vs ++ [.slice A4 m4 c4])) (hg8 : (w6.alloc (.cells #[.slice A4 m4 c4] 42)).grownBy w7 (Value.slice A j c).ownBlock)
    (h8 : (Value.slice A8 (j + 1) c8).ownBlock = (Value.slice A j c).ownBlock ∨ (Value.slice A8 (j + 1) c8).ownBlock = some (w6.alloc (.cells #[.slice A4 m4 c4] 42)).heap.size) :
    ∃ X8 m8 D8 vs8, D8.length = j + 1 ∧ LvAt w0 w X b d F bx box ar kk' tt' (n + 1) X8 g' dead' st' D8 m8 z (.slice A8 (j + 1) c8) vs8 w7 := by
  subst hj
  obtain ⟨X2, m2, h9⟩ := h.more h1 hk hx ht hm4 (own_below ho4 hb5 (Nat.le_refl _)) hq (fun u hu k e => hv.lt u k hu e) hx4 hr8 hg8 h8
  exact ⟨X2, m2, _, _, by simp, h9⟩
set_option maxHeartbeats 6400000 in
set_option maxRecDepth 100000 in
theorem lived_any {w0 w : World} {X : Nat → Prop} {b d B k0 : Nat} {g0 : Int} {st0 : St} {F : List Bs} {ar : Bool} (h : LS w0 w X b d g0 false st0) (hx : Lx k0 0 ar g0 false st0 F.length) (hF : (tag st0.files).map (·.2) = F) (hL : Lb B w0) (hk0 : k0 ≤ 150)
    (AP : Option Addr) (nP cP : Nat) (us : List Value) (PL : List Bs) (hPl : PL.length = nP) (hr : Rd w0 AP us) (hrl : RdL w0 us PL) (ev lf : Int) (he1 : -9223372036854775808 ≤ ev) (he2 : ev ≤ 9223372036854775807) (har : ar = true → 0 ≤ lf) (kv : Value) :
    Calls Tryd.prog 11 #[.pointer (some ⟨b, 0, none⟩), .agg #[.slice AP nP cP, .int .i64 ev, .int .i64 lf, kv]] w (LivRet w0 w X b d F ar k0) := by
  obtain ⟨i1, hi1, hy1, hy11, hy12⟩ := info_parts info_sl
  have HL := Lib.hid hL
  have HR := Lib.hid hr
  have HRL := Lib.hid hrl
  have HPL := Lib.hid hPl
  have HAR := Lib.hid har
  obtain ⟨box, hbox⟩ : ∃ box : Array Value, box = #[.slice AP nP cP, .int .i64 ev, .int .i64 lf, kv] := ⟨_, rfl⟩
  have hbw : Below w.heap.size w (w.alloc (.cells #[.slice AP nP cP, .int .i64 ev, .int .i64 lf, kv] 34)) := (Below.refl _ _).alloc (Nat.le_refl _) _
  have h0 : LvAt w0 w X b d F w.heap.size box ar (k0 + 0) (3 * 0) 0 (ext X w (w.alloc (.cells #[.slice AP nP cP, .int .i64 ev, .int .i64 lf, kv] 34))) g0 false st0 [] 0 0 (.slice none 0 0) [] (w.alloc (.cells #[.slice AP nP cP, .int .i64 ev, .int .i64 lf, kv] 34)) :=
    ⟨h.news hbw, by simpa using hx, by simpa using hF, Nat.le_refl _, Nat.le_refl _, fun _ => rfl, World.ownsRow_nil _ _ _ _, OwnL.nil _ _, fun k e => absurd e (by simp [Value.ownBlock]), fun u hu => absurd hu (by simp), by rw [hbox]; exact Blk.new _ _ _, .inr ⟨Nat.le_refl _, by simp⟩, Nat.le_refl _, fun k e => .inl e, fun k e => hbw.block k (h.xlt e), h.bel.size⟩
  have H0 := Lib.hid h0
  have HBOX := Lib.hid hbox
  clear hL hr hrl hPl har h hx hF h0 hbw hbox
  go_enter Tryd.func11, Tryd.ntmps11
  go_wp2_with fail
  go_loopw [7, 8, 9, 10] (LvInv w0 w X b d F w.heap.size box ar k0 nP) (fun _ _ _ x _ => nP - (intOf x).toNat)
  case atStart => exact ⟨0, 0, 0, none, false, 0, by omega, by omega, rfl, rfl, rfl, rfl, by omega, by omega, ⟨_, g0, st0, [], 0, [], rfl, H0.out⟩⟩
  case round =>
    clear H0
    obtain ⟨i, c, z, A, dead, j, hi, hi20, rfl, rfl, rfl, rfl, hji, hjc, HK⟩ := hrel
    obtain ⟨X', g, st, D, m, vs, hDj, hat⟩ := HK.out
    have q1 := (hat.box.cell 0).trans (show box[0]? = some (.slice AP nP cP) by rw [HBOX.out]; rfl)
    have HAT := Lib.hid hat
    have HDJ := Lib.hid hDj
    clear HK hat hDj
    by_cases hlt : i < nP ∧ i < 20
    · have hbw := HAT.out.ls.bel
      obtain ⟨gl, ol, A1, m1, c1, l, rfl, hgl, q0, hl, hlm, hmc, hrl⟩ := pay_at (HR.out.below hbw) (HRL.out.below hbw) (i := i) (by rw [HPL.out]; exact hlt.1)
      have hlt1 : (i : Int) < (nP : Int) := by omega
      have hlt2 : (i : Int) < 20 := by omega
      have hi2 : 3 * i ≤ 1000 := by omega
      obtain ⟨s, hs⟩ : ∃ s, s = l.take 700 := ⟨_, rfl⟩
      have hs7 : s.length ≤ 700 := by rw [hs, List.length_take]; omega
      have HCUT := Lib.hid (hs ▸ cut_any A1 m1 c1 l wr hlm hmc hrl)
      have HCU2 := Lib.hid (fun (A : Option Addr) (n c : Nat) (W : World) (h1 : s.length = n) (h2 : n ≤ c) (h3 : Rd W A (bv s)) => short_short hs ▸ cut_any A n c s W h1 h2 h3)
      have hkk : k0 + i ≤ 199 := by omega
      clear hlm hrl hbw hl hs
      go_upto_region 8 with (first
        | (go_at_call 15; ((with_reducible refine HCUT.out.mono ?_); rintro e w4 ⟨v, rfl, A4, m4, c4, rfl, hm4, hc4, hown4, hb4⟩; have HM4 := Lib.hid hm4; have HO4 := Lib.hid hown4; have HB4 := Lib.hid hb4; clear hm4 hown4 hb4))
        | (go_at_call 15; ((with_reducible refine (HCU2.out A4 m4 c4 w4 HM4.out hc4 (Rd.own HO4.out)).mono ?_); rintro e w5 ⟨v, rfl, A5, m5, c5, rfl, hm5, hc5, hown5, hb5⟩; have HM5 := Lib.hid hm5; have HO5 := Lib.hid hown5; have HB5 := Lib.hid hb5; have HN5 := Lib.hid (HAT.out.news (HB4.out.trans (HB5.out.mono HB4.out.size))); clear hm5 hown5 hb5))
        | (go_at_call 14; ((with_reducible refine (lx_appq HN5.out.ls HN5.out.lx HL.out hkk hi2 A5 m5 c5 s HM5.out (Rd.own HO5.out) (by omega)).mono ?_); rintro e w6 ⟨q, g', dead', st', rfl, h6, hk6, hq6⟩; have H6 := Lib.hid h6; have HK6 := Lib.hid hk6; have HQ6 := Lib.hid hq6; clear h6 hk6 hq6)))
      have hw4 : w.heap.size ≤ wr.heap.size := HAT.out.box.lt |> Nat.le_of_lt
      have hw6 : w.heap.size ≤ w6.heap.size := Nat.le_of_lt (Blk.lt (HN5.out.box.same (HK6.out _ HN5.out.boxX)))
      have hx4 := lv_x4 (X' := X') HO4.out HB5.out
      have hb6 := HN5.out.box.same (HK6.out _ HN5.out.boxX)
      have p3 := (hb6.cell 2).trans (show box[2]? = some (.int .i64 lf) by rw [HBOX.out]; rfl)
      clear hb6
      rcases HQ6.out with ⟨hd, hq, hd', hx6, ht6⟩ | ⟨hq, hd', hart, hx6, ht6⟩
      · subst hd hq hd'
        go_upto_region 13 with (at_builtin; refine wpList_app _ rfl (.tmp 60) (.tmp 62) _ rfl w.heap.size 42 i1 _ 24 Tryd.underlying26 hi1 hy1 hy11 hy12 rfl (.slice A j c) j vs rfl ((own_same (HDJ.out ▸ HN5.out.row) fun k e => HK6.out k (HN5.out.rowX k e)).alloc _) (some ⟨w6.heap.size, 0, none⟩) 1 1 [_] rfl rfl (Rd.one _ _ _ _ _ rfl) (by intro u hu; simp at hu; subst hu; rfl) (j + 1) rfl (by unfold maxLen; omega) (by omega) (Nat.le_trans hw6 (by simp)) ?_; intro A8 c8 w7 hown8 hb8 hg8 he8; have hj8 := own_cap hown8; have HM8 := Lib.hid (LvAt.more' HN5.out H6.out HK6.out hx6 (.inl ⟨rfl, ht6⟩) HM4.out HO4.out HB5.out HAT.out.own hw4 hx4 HDJ.out hown8 hg8 he8); clear hown8 hb8 hg8 he8)
        obtain ⟨X8, m8, D8, vs8, hD8, hs8⟩ := HM8.out
        have HS := Lib.hid hs8
        have HD8 := Lib.hid hD8
        clear hs8 hD8
        have p2 := (HS.out.box.cell 1).trans (show box[1]? = some (.int .i64 ev) by rw [HBOX.out]; rfl)
        by_cases hE : 0 < ev
        · have hE0 : (ev == 0) = false := by rw [beq_eq_false_iff_ne]; omega
          by_cases hR : (i : Int) % ev = 0
          · have hR0 : ((i : Int) % ev == 0) = true := by simp [hR]
            go_upto_region 15 with (go_at_call 22; ((with_reducible refine (lx_syncq HS.out.ls HS.out.lx HL.out (by omega) (by omega)).mono ?_); rintro e w9 ⟨q9, dead9, st9, rfl, h9, hk9, hq9⟩; have H9 := Lib.hid h9; have HK9 := Lib.hid hk9; have HQ9 := Lib.hid hq9; clear h9 hk9 hq9))
            rcases HQ9.out with ⟨hd9, hz9, hd9', hx9, ht9⟩ | ⟨hz9, hd9', hart9, hx9, ht9⟩
            · subst hz9 hd9'
              have HX9 := Lib.hid (HS.out.count ▸ hx9)
              have HT9 := Lib.hid ht9
              clear hx9 ht9
              go_wp2
              go_roundw
              case rel => exact ⟨i + 1, c8, (j + 1), A8, false, (j + 1), by omega, by omega, by go_num, rfl, rfl, rfl, by omega, by omega, ⟨X8, _, _, D8, m8, vs8, HD8.out, LvAt.op HS.out H9.out HK9.out (HD8.out ▸ HX9.out) HT9.out (by have := HS.out.live rfl; have := HD8.out; omega) (fun _ => HS.out.live rfl) (Nat.le_refl _)⟩⟩
              case measure => simp [intOf]; omega
            · subst hz9 hd9'
              have HX9 := Lib.hid hx9
              have HT9 := Lib.hid ht9
              clear hx9 ht9
              go_wp2
              go_roundw
              case rel => exact ⟨i + 1, c8, z, A8, true, (j + 1), by omega, by omega, by go_num, rfl, rfl, rfl, by omega, by omega, ⟨X8, _, _, D8, m8, vs8, HD8.out, LvAt.op HS.out H9.out HK9.out HX9.out HT9.out HS.out.zm (fun e => by cases e) (Nat.le_refl _)⟩⟩
              case measure => simp [intOf]; omega
          · have hR0 : ((i : Int) % ev == 0) = false := by simp [hR]
            go_wp2
            go_roundw
            case rel => exact ⟨i + 1, c8, z, A8, false, (j + 1), by omega, by omega, by go_num, rfl, rfl, rfl, by omega, by omega, ⟨X8, _, _, D8, m8, vs8, HD8.out, HS.out.slow (by omega)⟩⟩
            case measure => simp [intOf]; omega
        · go_wp2
          go_roundw
          case rel => exact ⟨i + 1, c8, z, A8, false, (j + 1), by omega, by omega, by go_num, rfl, rfl, rfl, by omega, by omega, ⟨X8, _, _, D8, m8, vs8, HD8.out, HS.out.slow (by omega)⟩⟩
          case measure => simp [intOf]; omega
      · subst hq hd'
        have hlf : 0 ≤ lf := HAR.out hart
        have hlf0 : decide (lf < 0) = false := decide_eq_false (by omega)
        cases dead
        · go_upto_region 13 with (at_builtin; refine wpList_app _ rfl (.tmp 60) (.tmp 62) _ rfl w.heap.size 42 i1 _ 24 Tryd.underlying26 hi1 hy1 hy11 hy12 rfl (.slice A j c) j vs rfl ((own_same (HDJ.out ▸ HN5.out.row) fun k e => HK6.out k (HN5.out.rowX k e)).alloc _) (some ⟨w6.heap.size, 0, none⟩) 1 1 [_] rfl rfl (Rd.one _ _ _ _ _ rfl) (by intro u hu; simp at hu; subst hu; rfl) (j + 1) rfl (by unfold maxLen; omega) (by omega) (Nat.le_trans hw6 (by simp)) ?_; intro A8 c8 w7 hown8 hb8 hg8 he8; have hj8 := own_cap hown8; have HM8 := Lib.hid (LvAt.more' HN5.out H6.out HK6.out hx6 (.inr ⟨rfl, ht6⟩) HM4.out HO4.out HB5.out HAT.out.own hw4 hx4 HDJ.out hown8 hg8 he8); clear hown8 hb8 hg8 he8)
          obtain ⟨X8, m8, D8, vs8, hD8, hs8⟩ := HM8.out
          have HS := Lib.hid hs8
          have HD8 := Lib.hid hD8
          clear hs8 hD8
          have p2 := (HS.out.box.cell 1).trans (show box[1]? = some (.int .i64 ev) by rw [HBOX.out]; rfl)
          by_cases hE : 0 < ev
          · have hE0 : (ev == 0) = false := by rw [beq_eq_false_iff_ne]; omega
            by_cases hR : (i : Int) % ev = 0
            · have hR0 : ((i : Int) % ev == 0) = true := by simp [hR]
              go_upto_region 15 with (go_at_call 22; ((with_reducible refine (lx_syncq HS.out.ls HS.out.lx HL.out (by omega) (by omega)).mono ?_); rintro e w9 ⟨q9, dead9, st9, rfl, h9, hk9, hq9⟩; have H9 := Lib.hid h9; have HK9 := Lib.hid hk9; have HQ9 := Lib.hid hq9; clear h9 hk9 hq9))
              rcases HQ9.out with ⟨hd9, hz9, hd9', hx9, ht9⟩ | ⟨hz9, hd9', hart9, hx9, ht9⟩
              · cases hd9
              · subst hz9 hd9'
                have HX9 := Lib.hid hx9
                have HT9 := Lib.hid ht9
                clear hx9 ht9
                go_wp2
                go_roundw
                case rel => exact ⟨i + 1, c8, z, A8, true, (j + 1), by omega, by omega, by go_num, rfl, rfl, rfl, by omega, by omega, ⟨X8, _, _, D8, m8, vs8, HD8.out, LvAt.op HS.out H9.out HK9.out HX9.out HT9.out HS.out.zm (fun e => by cases e) (Nat.le_refl _)⟩⟩
                case measure => simp [intOf]; omega
            · have hR0 : ((i : Int) % ev == 0) = false := by simp [hR]
              go_wp2
              go_roundw
              case rel => exact ⟨i + 1, c8, z, A8, true, (j + 1), by omega, by omega, by go_num, rfl, rfl, rfl, by omega, by omega, ⟨X8, _, _, D8, m8, vs8, HD8.out, HS.out.slow (by omega)⟩⟩
              case measure => simp [intOf]; omega
          · go_wp2
            go_roundw
            case rel => exact ⟨i + 1, c8, z, A8, true, (j + 1), by omega, by omega, by go_num, rfl, rfl, rfl, by omega, by omega, ⟨X8, _, _, D8, m8, vs8, HD8.out, HS.out.slow (by omega)⟩⟩
            case measure => simp [intOf]; omega
        · have hs8 := HN5.out.op H6.out HK6.out hx6 ht6 HN5.out.zm (fun e => by cases e) (Nat.le_succ _)
          have HS := Lib.hid hs8
          have HD8 := HDJ
          obtain ⟨X8, hX8⟩ : ∃ X8, X8 = ext X' wr w5 := ⟨_, rfl⟩
          obtain ⟨D8, m8, vs8, e1, e2, e3⟩ : ∃ D8 m8 vs8, D8 = D ∧ m8 = m ∧ vs8 = vs := ⟨_, _, _, rfl, rfl, rfl⟩
          rw [← hX8, ← e1, ← e2, ← e3] at HS
          rw [← e1] at HD8
          clear hs8 hX8 e1 e2 e3
          have p2 := (HS.out.box.cell 1).trans (show box[1]? = some (.int .i64 ev) by rw [HBOX.out]; rfl)
          by_cases hE : 0 < ev
          · have hE0 : (ev == 0) = false := by rw [beq_eq_false_iff_ne]; omega
            by_cases hR : (i : Int) % ev = 0
            · have hR0 : ((i : Int) % ev == 0) = true := by simp [hR]
              go_upto_region 15 with (go_at_call 22; ((with_reducible refine (lx_syncq HS.out.ls HS.out.lx HL.out (by omega) (by omega)).mono ?_); rintro e w9 ⟨q9, dead9, st9, rfl, h9, hk9, hq9⟩; have H9 := Lib.hid h9; have HK9 := Lib.hid hk9; have HQ9 := Lib.hid hq9; clear h9 hk9 hq9))
              rcases HQ9.out with ⟨hd9, hz9, hd9', hx9, ht9⟩ | ⟨hz9, hd9', hart9, hx9, ht9⟩
              · cases hd9
              · subst hz9 hd9'
                have HX9 := Lib.hid hx9
                have HT9 := Lib.hid ht9
                clear hx9 ht9
                go_wp2
                go_roundw
                case rel => exact ⟨i + 1, c, z, A, true, j, by omega, by omega, by go_num, rfl, rfl, rfl, by omega, by omega, ⟨X8, _, _, D8, m8, vs8, HD8.out, LvAt.op HS.out H9.out HK9.out HX9.out HT9.out HS.out.zm (fun e => by cases e) (Nat.le_refl _)⟩⟩
                case measure => simp [intOf]; omega
            · have hR0 : ((i : Int) % ev == 0) = false := by simp [hR]
              go_wp2
              go_roundw
              case rel => exact ⟨i + 1, c, z, A, true, j, by omega, by omega, by go_num, rfl, rfl, rfl, by omega, by omega, ⟨X8, _, _, D8, m8, vs8, HD8.out, HS.out.slow (by omega)⟩⟩
              case measure => simp [intOf]; omega
          · go_wp2
            go_roundw
            case rel => exact ⟨i + 1, c, z, A, true, j, by omega, by omega, by go_num, rfl, rfl, rfl, by omega, by omega, ⟨X8, _, _, D8, m8, vs8, HD8.out, HS.out.slow (by omega)⟩⟩
            case measure => simp [intOf]; omega
    · by_cases hin : i < nP
      · have hlt1 : (i : Int) < (nP : Int) := by omega
        have hlt2 : ¬ (i : Int) < 20 := by omega
        have hat := HAT.out
        go_wp2
        go_ret3
        refine ⟨A, c, z, D, g, dead, st, m, vs, by rw [HDJ.out]; rfl, by rw [HDJ.out]; omega, by rw [HDJ.out]; exact hjc, hat.zm, hat.mD, hat.ls.weak hat.sub, hat.lx.mono (by omega) (by omega) (Nat.le_refl _), hat.tags, ?_, hat.own, hat.frame⟩
        rw [HDJ.out]
        exact HDJ.out ▸ hat.row
      · have hlt1 : ¬ (i : Int) < (nP : Int) := by omega
        have hat := HAT.out
        go_wp2
        go_ret3
        refine ⟨A, c, z, D, g, dead, st, m, vs, by rw [HDJ.out]; rfl, by rw [HDJ.out]; omega, by rw [HDJ.out]; exact hjc, hat.zm, hat.mD, hat.ls.weak hat.sub, hat.lx.mono (by omega) (by omega) (Nat.le_refl _), hat.tags, ?_, hat.own, hat.frame⟩
        rw [HDJ.out]
        exact HDJ.out ▸ hat.row

end Wl
end Go.Proofs.YtnijonjepgdinaaDoor
