/-
  WHAT IS PROVED: (1) what Append, Sync, Rename and Delete do. CONDITIONS: the drive stands in memory as the plain one says; what comes in lies elsewhere. (2) what Sync, Rename and Delete do. CONDITIONS: the drive stands in memory as the plain one says.
-/
import Derived.Test.YtbfmjonabndhaaaGreatDoorQDWalkD
namespace Go.Proofs.YtbfmjonabndhaaaGreatDoor
open Go Go.RowKit Go.Maps Go.Proofs.YtbfmjonabndhaaaGreatDoor.Fr
namespace Dr

section
variable {st : St} {n l : Bs}
theorem append_bad (hn : nameOk n = false) : st.append n l = (st, 20) := by unfold St.append; rw [if_pos hn]
theorem append_many (hn : nameOk n = true) (hf : find st.files n = none) (h : 256 ≤ st.files.length) : st.append n l = (st, 5) := by
  unfold St.append; rw [if_neg (by simp [hn]), if_pos (.inl ⟨hf, h⟩)]
theorem append_long (hn : nameOk n = true) (h : 262144 < st.sizeOf n + l.length) : st.append n l = (st, 5) := by
  unfold St.append; rw [if_neg (by simp [hn]), if_pos (.inr h)]
theorem append_dead (hn : nameOk n = true) (h1 : ¬ ((find st.files n = none ∧ 256 ≤ st.files.length) ∨ 262144 < st.sizeOf n + l.length)) (hd : st.dead = true) : st.append n l = (st, 6) := by
  unfold St.append; rw [if_neg (by simp [hn]), if_neg h1, if_pos hd]
theorem append_new (hn : nameOk n = true) (h1 : ¬ ((find st.files n = none ∧ 256 ≤ st.files.length) ∨ 262144 < st.sizeOf n + l.length)) (hd : st.dead = false) (hf : find st.files n = none) : st.append n l = ({ st.step with files := put { name := n, dat := l, syn := 0 } st.files }, 0) := by
  unfold St.append; rw [if_neg (by simp [hn]), if_neg h1, if_neg (by simp [hd]), hf]
theorem append_more (hn : nameOk n = true) (h1 : ¬ ((find st.files n = none ∧ 256 ≤ st.files.length) ∨ 262144 < st.sizeOf n + l.length)) (hd : st.dead = false) {f : Fl} (hf : find st.files n = some f) : st.append n l = ({ st.step with files := put { f with dat := f.dat ++ l } st.files }, 0) := by
  unfold St.append; rw [if_neg (by simp [hn]), if_neg h1, if_neg (by simp [hd]), hf]
theorem sizeOf_none (hf : find st.files n = none) : st.sizeOf n = 0 := by unfold St.sizeOf; rw [hf]
theorem sizeOf_some {f : Fl} (hf : find st.files n = some f) : st.sizeOf n = f.dat.length := by unfold St.sizeOf; rw [hf]
end

section
variable {w w1 w2 : World} {b mb : Nat} {st : St} {Q : List Ent} {S : Nat → Prop}
theorem Stepped.c0 (h : Stepped w b mb st Q w1) : w1.cell? ⟨b, 0, none⟩ = some (.map (some mb)) := h.1.c0
theorem Stepped.grew (h : Stepped w b mb st Q w1) {st2 : St} (h2 : Grew w1 w2 b mb Q st2) : Grew w w2 b mb Q st2 :=
  Grew.trans (fun _ hk => .inl hk) (h.2.1.weaken fun k _ e => by subst e; exact .inl rfl) h2 h.1
theorem Stepped.ent (h : Stepped w b mb st Q w1) {e : Ent} (he : e ∈ Q) {v : Value} (hv : e.row = v) : w1.cell? ⟨e.blk, 0, none⟩ = some v ∧ w1.cell? ⟨e.blk, 1, none⟩ = some (.int .i64 (e.fl.syn : Int)) ∧ w1.ownsRow 0 5 1 v e.fl.dat.length (bv e.fl.dat) ∧ w1.frozen? ⟨e.blk, 0, none⟩ = false ∧ w1.frozen? ⟨e.blk, 1, none⟩ = false := by
  subst hv
  have := h.1.ents e he
  exact ⟨this.1.cell 0, this.1.cell 1, this.2, this.1.frozen 0, this.1.frozen 1⟩
theorem Stepped.rd (h : Stepped w b mb st Q w1) {A : Option Addr} {xs : List Value} (hr : Rd w A xs) (ha : ∀ a, A = some a → a.block ≠ b) : Rd w1 A xs := Rd.mod hr h.2.1 ha
/-- The file's cell behind its row's growth. -/
theorem ent_grown {e : Ent} {v : Value} {k : Nat} {xs : List Value} (h : w1.cell? ⟨e.blk, 0, none⟩ = some v) (hown : w1.ownsRow 0 5 1 e.row k xs) (hb : ∃ cs, Blk w1 e.blk 90 cs) (hg : w1.grownBy w2 e.row.ownBlock) : w2.cell? ⟨e.blk, 0, none⟩ = some v ∧ w2.frozen? ⟨e.blk, 0, none⟩ = false := by
  obtain ⟨cs, hb⟩ := hb
  have hne : e.row.ownBlock ≠ some e.blk := fun hk => by
    obtain ⟨cur, hc⟩ := own_blk hown hk
    exact Blk.ne hc hb (by decide) rfl
  have hs := hg.block e.blk hb.lt fun q => hne q.symm
  exact ⟨(World.cell?_of_block (a := ⟨e.blk, 0, none⟩) hs).trans h, (hb.same hs).frozen 0⟩

theorem made_facts (h : DriveAt w1 b mb st Q) {s : ByteArray} (hm : MapAt Tryz.prog 9 w2 mb (putBy (fun p : NB => p.1) (s.data.toList, w1.heap.size) (Q.map Ent.nb)))
    (hgr : (w1.alloc (.cells #[.slice none 0 0, .int .i64 0] 90)).grownBy w2 (some mb)) (hsz : w2.heap.size = (w1.alloc (.cells #[.slice none 0 0, .int .i64 0] 90)).heap.size)
    {A : Option Addr} {xs : List Value} (hr : Rd w1 A xs) (ha : ∀ a, A = some a → a.block ≠ mb) :
    ∃ Q', DriveAt w2 b mb { st with files := put { name := s.data.toList, dat := [], syn := 0 } st.files } Q' ∧ (∀ k, footD b mb Q' k → ext (footD b mb Q) w1 w2 k) ∧ Mod (footD b mb Q) w1 w2 ∧
      (⟨{ name := s.data.toList, dat := [], syn := 0 }, w1.heap.size, .slice none 0 0⟩ : Ent) ∈ Q' ∧ w2.cell? ⟨w1.heap.size, 0, none⟩ = some (.slice none 0 0) ∧ w2.frozen? ⟨w1.heap.size, 0, none⟩ = false ∧ w2.ownsRow 0 5 1 (.slice none 0 0) 0 [] ∧ Rd w2 A xs := by
  obtain ⟨Q', h1, h2, h3, h4⟩ := h.made rfl hm hgr hsz
  have he := h1.ents _ h4
  exact ⟨Q', h1, h2, h3, h4, he.1.cell 0, he.1.frozen 0, World.ownsRow_nil _ _ _ _, Rd.mod (Rd.mod hr ((Mod.refl (fun k => k = mb) _).alloc _) ha) (Mod.grown (S := fun k => k = mb) hgr (fun k e => (Option.some.inj e).symm)) ha⟩

theorem put_put_name {f g : Fl} (h : f.name = g.name) {l : List Fl} : put f (put g l) = put f l := putBy_put (k := fun f : Fl => f.name) h l
theorem grown_row {v u : Value} (h : v = u) (hg : w1.grownBy w2 u.ownBlock) : w1.grownBy w2 v.ownBlock := h ▸ hg
theorem loc_row {v u x : Value} (h : v = u) {n : Nat} (hg : x.ownBlock = u.ownBlock ∨ x.ownBlock = some n) : x.ownBlock = v.ownBlock ∨ x.ownBlock = some n := h ▸ hg
theorem append_bad_w (h : DriveRep w S b st) (s : ByteArray) (hs : s.size ≤ maxLen) (A : Option Addr) (m c : Nat) (l : Bs) (hn : nameOk s.data.toList = false) :
    Calls Tryz.prog 39 #[.pointer (some ⟨b, 0, none⟩), .string s, .slice A m c] w (DOp S b (st.append s.data.toList l) w) := by
  have HR := Lib.hid h
  have HE := Lib.hid (append_bad (st := st) (l := l) hn)
  have hc := isName_any s w hs
  rw [hn] at hc
  clear h hn
  go_enter Tryz.func39, Tryz.ntmps39
  go_wp2_with (go_at_call 46; refine hc.mono ?_; rintro e w' ⟨rfl, rfl⟩)
  go_ret
  rw [HE.out]
  exact DOp.stay HR.out rfl
set_option maxRecDepth 100000 in
set_option maxHeartbeats 1000000 in
theorem append_no (h : DriveRep w S b st) (hok : st.Ok) (hstep : st.steps + 1 ≤ 9223372036854775807) (s : ByteArray) (hs : s.size ≤ maxLen) (A : Option Addr) (m c : Nat) (l : Bs) (hl : l.length = m) (hm : m ≤ maxLen) (hr : Rd w A (bv l)) (ha : ∀ a, A = some a → ¬ S a.block)
    (hn : nameOk s.data.toList = true) (hfind : find st.files s.data.toList = none) :
    Calls Tryz.prog 39 #[.pointer (some ⟨b, 0, none⟩), .string s, .slice A m c] w (DOp S b (st.append s.data.toList l) w) := by
  have HR := Lib.hid h
  obtain ⟨mb, Q, h, hf, hS⟩ := h
  have HH := Lib.hid h
  have HF := Lib.hid hf
  have HS := Lib.hid hS
  have hq : findBy Ent.key s.data.toList Q = none := by
    have := h.find s.data.toList
    rw [hfind] at this
    simpa using this
  have hSb : S b := hf b (.inl rfl)
  have hSm : S mb := hf mb (.inr (.inl rfl))
  clear hf hS
  have hc := isName_any s w hs
  rw [hn] at hc
  have c0 := h.c0
  have hm0 := h.map
  have HV := Lib.hid (look_no hq)
  have hlen := fun (ty : TypeId) => h.map.len Tryz.underlying57 ty
  rw [List.length_map, h.length] at hlen
  have hfew := hok.few
  unfold maxLen at hm
  have hleft := hok.left
  by_cases hmany : 256 ≤ st.files.length
  · have HE := Lib.hid (append_many (l := l) hn hfind hmany)
    clear h hn hq hl hr
    go_enter Tryz.func39, Tryz.ntmps39
    go_wp2_with (first
      | (go_at_call 46; refine hc.mono ?_; rintro e w' ⟨rfl, rfl⟩)
      | (at_lookup; refine wpList_look _ rfl _ _ 57 rfl rfl hm0 Tryz.underlying9 Tryz.underlying57 (zeroP _) s rfl hs _ HV.out ?_))
    go_ret
    rw [HE.out]
    exact DOp.stay HR.out rfl
  · have hfew' : st.files.length < 256 := by omega
    have hz := size_none h s hs hq
    by_cases hlong : 262144 < m
    · have HE := Lib.hid (append_long (st := st) (l := l) hn (by rw [sizeOf_none hfind]; omega))
      clear h hn hq hl hr hmany hfew
      go_enter Tryz.func39, Tryz.ntmps39
      go_wp2_with (first
        | (go_at_call 46; refine hc.mono ?_; rintro e w' ⟨rfl, rfl⟩)
        | (go_at_call 33; refine hz.mono ?_; rintro e w' ⟨rfl, rfl⟩)
        | (at_lookup; refine wpList_look _ rfl _ _ 57 rfl rfl hm0 Tryz.underlying9 Tryz.underlying57 (zeroP _) s rfl hs _ HV.out ?_))
      go_ret
      rw [HE.out]
      exact DOp.stay HR.out rfl
    · have hno : ¬ ((find st.files s.data.toList = none ∧ 256 ≤ st.files.length) ∨ 262144 < st.sizeOf s.data.toList + l.length) := by
        rw [sizeOf_none hfind]
        rintro (⟨_, h⟩ | h) <;> omega
      have hlong' : m ≤ 262144 := by omega
      cases hd : st.dead
      · have HE := Lib.hid (append_new hn hno hd hfind)
        have hlive := step_live h hd hstep hleft
        obtain ⟨i0, hi, hz0, hz1, hz2⟩ := info_parts info_u8
        have hab : ∀ a, A = some a → a.block ≠ b := fun a e hk => ha a e (hk ▸ hSb)
        have ham : ∀ a, A = some a → a.block ≠ mb := fun a e hk => ha a e (hk ▸ hSm)
        have hlb : (bv l).length = m := by rw [bv_length]; exact hl
        have HLB := Lib.hid hlb
        have HQ := Lib.hid hq
        have hQl : (Q.map Ent.nb).length < maxLen := by rw [List.length_map, h.length]; unfold maxLen; omega
        clear h hn hq hmany hfew hno hlong hd hlb hl
        go_enter Tryz.func39, Tryz.ntmps39
        go_wp2_with (first
          | (go_at_call 46; refine hc.mono ?_; rintro e w' ⟨rfl, rfl⟩)
          | (go_at_call 33; refine hz.mono ?_; rintro e w' ⟨rfl, rfl⟩)
          | (go_at_call 62; refine hlive.mono ?_; rintro e w1 ⟨rfl, hst⟩; have c0' := hst.c0; have hbl := hst.1.head.lt; have hm1 := hst.1.map; have hr1 := hst.rd hr hab)
          | (at_lookup; refine wpList_look _ rfl _ _ 57 rfl rfl hm0 Tryz.underlying9 Tryz.underlying57 (zeroP _) s rfl hs _ HV.out ?_)
          | (at_mapUpdate; refine wpList_mstore _ rfl _ _ _ 57 rfl rfl (hm1.alloc _) Tryz.underlying9 Tryz.underlying57 hQl s rfl hs w1.heap.size rfl ?_; intro w2 hm2 hg2 hsz2; have hmf := made_facts hst.1 hm2 hg2 hsz2 hr1 ham; clear hsz2; obtain ⟨Q2, hat2, hf2, hmod2, he2, d0, dz, down, hr3⟩ := hmf)
          | (at_builtin; refine wpList_app _ rfl (.tmp 56) (.tmp 57) _ rfl 0 5 i0 _ 1 Tryz.underlying28 hi hz0 hz1 hz2 rfl (.slice none 0 0) 0 [] rfl down A m c (bv l) rfl HLB.out hr3 (bv_one l) m (Nat.zero_add _) (by unfold maxLen; omega) (by omega) (Nat.zero_le _) ?_; intro A1 c1 w3 hown3 hb3 hg3 hloc; have d1 := ent_grown (e := ⟨{ name := s.data.toList, dat := [], syn := 0 }, w1.heap.size, .slice none 0 0⟩) d0 down ⟨_, (hat2.ents _ he2).1⟩ hg3; obtain ⟨d2, d3⟩ := d1; clear d0 dz))
        go_ret
        rw [HE.out, ← put_put_name (f := ⟨s.data.toList, l, 0⟩) (g := ⟨s.data.toList, [], 0⟩) rfl]
        have hN : (0 : Nat) + l.length = m := by have := HLB.out; rw [bv_length] at this; omega
        have hgw := hat2.appended he2 (l := l) hown3 hN hg3 hloc
        exact dop_of (hst.grew (Grew.trans hf2 hmod2 hgw hat2)) HF.out HS.out
      · have HE := Lib.hid (append_dead hn hno hd)
        have hdd := step_dead h hd
        clear h hn hq hl hr hmany hfew hno hlong hd
        go_enter Tryz.func39, Tryz.ntmps39
        go_wp2_with (first
          | (go_at_call 46; refine hc.mono ?_; rintro e w' ⟨rfl, rfl⟩)
          | (go_at_call 33; refine hz.mono ?_; rintro e w' ⟨rfl, rfl⟩)
          | (go_at_call 62; refine hdd.mono ?_; rintro e w' ⟨rfl, rfl⟩)
          | (at_lookup; refine wpList_look _ rfl _ _ 57 rfl rfl hm0 Tryz.underlying9 Tryz.underlying57 (zeroP _) s rfl hs _ HV.out ?_))
        go_ret
        rw [HE.out]
        exact DOp.stay HR.out rfl

set_option maxRecDepth 100000 in
set_option maxHeartbeats 1000000 in
theorem append_yes (h : DriveRep w S b st) (hok : st.Ok) (hstep : st.steps + 1 ≤ 9223372036854775807) (s : ByteArray) (hs : s.size ≤ maxLen) (A : Option Addr) (m c : Nat) (l : Bs) (hl : l.length = m) (hr : Rd w A (bv l)) (ha : ∀ a, A = some a → ¬ S a.block)
    (hn : nameOk s.data.toList = true) {f : Fl} (hfind : find st.files s.data.toList = some f) :
    Calls Tryz.prog 39 #[.pointer (some ⟨b, 0, none⟩), .string s, .slice A m c] w (DOp S b (st.append s.data.toList l) w) := by
  have HR := Lib.hid h
  obtain ⟨mb, Q, h, hf, hS⟩ := h
  have HH := Lib.hid h
  have HF := Lib.hid hf
  have HS := Lib.hid hS
  obtain ⟨e, hq, hef⟩ : ∃ e, findBy Ent.key s.data.toList Q = some e ∧ e.fl = f := by
    have := h.find s.data.toList
    rw [hfind] at this
    simpa using this
  subst hef
  have hSb : S b := hf b (.inl rfl)
  clear hf hS
  have hc := isName_any s w hs
  rw [hn] at hc
  have c0 := h.c0
  have hm0 := h.map
  have HV := Lib.hid (look_yes hq)
  have hleft := hok.left
  have hz := size_some h s hs hq
  have heq := (findBy_some hq).1
  have hfd := hok.file e.fl (find_some hfind).1
  obtain ⟨hfd, _, _⟩ := hfd
  obtain ⟨A0, c00, hrow, _, _⟩ := (h.ents e heq).row_
  by_cases hlong : 262144 < e.fl.dat.length + m
  · have HE := Lib.hid (append_long (st := st) (l := l) hn (by rw [sizeOf_some hfind]; omega))
    clear h hn hq hl hr hfind hrow
    go_enter Tryz.func39, Tryz.ntmps39
    go_wp2_with (first
      | (go_at_call 46; refine hc.mono ?_; rintro e w' ⟨rfl, rfl⟩)
      | (go_at_call 33; refine hz.mono ?_; rintro e w' ⟨rfl, rfl⟩)
      | (at_lookup; refine wpList_look _ rfl _ _ 57 rfl rfl hm0 Tryz.underlying9 Tryz.underlying57 (zeroP _) s rfl hs _ HV.out ?_))
    go_ret
    rw [HE.out]
    exact DOp.stay HR.out rfl
  · have hno : ¬ ((find st.files s.data.toList = none ∧ 256 ≤ st.files.length) ∨ 262144 < st.sizeOf s.data.toList + l.length) := by
      rw [sizeOf_some hfind, hfind]
      rintro (⟨h, _⟩ | h)
      · cases h
      · omega
    have hlong' : e.fl.dat.length + m ≤ 262144 := by omega
    cases hd : st.dead
    · have HE := Lib.hid (append_more hn hno hd hfind)
      have hlive := step_live h hd hstep hleft
      obtain ⟨i0, hi, hz0, hz1, hz2⟩ := info_parts info_u8
      have hab : ∀ a, A = some a → a.block ≠ b := fun a e hk => ha a e (hk ▸ hSb)
      have hlb : (bv l).length = m := by rw [bv_length]; exact hl
      have HLB := Lib.hid hlb
      have HROW := Lib.hid hrow
      clear h hn hq hno hlong hd hlb hl hfind hrow
      go_enter Tryz.func39, Tryz.ntmps39
      go_wp2_with (first
        | (go_at_call 46; refine hc.mono ?_; rintro e w' ⟨rfl, rfl⟩)
        | (go_at_call 33; refine hz.mono ?_; rintro e w' ⟨rfl, rfl⟩)
        | (go_at_call 62; refine hlive.mono ?_; rintro e' w1 ⟨rfl, hst⟩; have hr1 := hst.rd hr hab; obtain ⟨d0, _, down, dz, _⟩ := hst.ent heq HROW.out)
        | (at_lookup; refine wpList_look _ rfl _ _ 57 rfl rfl hm0 Tryz.underlying9 Tryz.underlying57 (zeroP _) s rfl hs _ HV.out ?_)
        | (at_builtin; refine wpList_app _ rfl (.tmp 56) (.tmp 57) _ rfl 0 5 i0 _ 1 Tryz.underlying28 hi hz0 hz1 hz2 rfl (.slice A0 e.fl.dat.length c00) e.fl.dat.length (bv e.fl.dat) rfl down A m c (bv l) rfl HLB.out hr1 (bv_one l) (e.fl.dat.length + m) rfl (by unfold maxLen; omega) (by omega) (Nat.zero_le _) ?_; intro A1 c1 w3 hown3 hb3 hg3 hloc; have hg4 := grown_row HROW.out hg3; have hloc4 := loc_row HROW.out hloc; have d1 := ent_grown d0 (hst.1.ents e heq).2 ⟨_, (hst.1.ents e heq).1⟩ hg4; obtain ⟨d2, d3⟩ := d1; clear d0 dz))
      go_ret
      rw [HE.out]
      have hN : e.fl.dat.length + l.length = e.fl.dat.length + m := by have := HLB.out; rw [bv_length] at this; omega
      exact dop_of (hst.grew (hst.1.appended heq (l := l) hown3 hN hg4 hloc4)) HF.out HS.out
    · have HE := Lib.hid (append_dead hn hno hd)
      have hdd := step_dead h hd
      clear h hn hq hl hr hno hlong hd hfind hrow
      go_enter Tryz.func39, Tryz.ntmps39
      go_wp2_with (first
        | (go_at_call 46; refine hc.mono ?_; rintro e w' ⟨rfl, rfl⟩)
        | (go_at_call 33; refine hz.mono ?_; rintro e w' ⟨rfl, rfl⟩)
        | (go_at_call 62; refine hdd.mono ?_; rintro e w' ⟨rfl, rfl⟩)
        | (at_lookup; refine wpList_look _ rfl _ _ 57 rfl rfl hm0 Tryz.underlying9 Tryz.underlying57 (zeroP _) s rfl hs _ HV.out ?_))
      go_ret
      rw [HE.out]
      exact DOp.stay HR.out rfl
/-- Append, whatever comes in. -/
theorem append_any (h : DriveRep w S b st) (hok : st.Ok) (hstep : st.steps + 1 ≤ 9223372036854775807) (s : ByteArray) (hs : s.size ≤ maxLen) (A : Option Addr) (m c : Nat) (l : Bs) (hl : l.length = m) (hm : m ≤ maxLen) (hr : Rd w A (bv l)) (ha : ∀ a, A = some a → ¬ S a.block) :
    Calls Tryz.prog 39 #[.pointer (some ⟨b, 0, none⟩), .string s, .slice A m c] w (DOp S b (st.append s.data.toList l) w) := by
  cases hn : nameOk s.data.toList
  · exact append_bad_w h s hs A m c l hn
  · cases hf : find st.files s.data.toList with
    | none => exact append_no h hok hstep s hs A m c l hl hm hr ha hn hf
    | some f => exact append_yes h hok hstep s hs A m c l hl hr ha hn hf
end
end Dr
end Go.Proofs.YtbfmjonabndhaaaGreatDoor
namespace Go.Proofs.YtbfmjonabndhaaaGreatDoor
open Go Go.RowKit Go.Maps Go.Proofs.YtbfmjonabndhaaaGreatDoor.Fr
namespace Dr

section
variable {st : St} {n t : Bs}
theorem look_bad (hn : nameOk n = false) : st.look n = 20 := by unfold St.look; rw [if_pos hn]
theorem look_none (hn : nameOk n = true) (hf : find st.files n = none) : st.look n = 4 := by unfold St.look; rw [if_neg (by simp [hn]), if_pos (by rw [hf]; rfl)]
theorem look_dead (hn : nameOk n = true) {f : Fl} (hf : find st.files n = some f) (hd : st.dead = true) : st.look n = 6 := by unfold St.look; rw [if_neg (by simp [hn]), if_neg (by rw [hf]; simp), if_pos hd]
theorem look_live (hn : nameOk n = true) {f : Fl} (hf : find st.files n = some f) (hd : st.dead = false) : st.look n = 0 := by unfold St.look; rw [if_neg (by simp [hn]), if_neg (by rw [hf]; simp), if_neg (by simp [hd])]
theorem sync_err {k : Nat} (h : st.look n = k) (hk : k ≠ 0) : st.sync n = (st, k) := by subst h; unfold St.sync; rw [if_pos hk]
theorem sync_ok (h : st.look n = 0) {f : Fl} (hf : find st.files n = some f) : st.sync n = ({ st.step with files := put { f with syn := f.dat.length } st.files }, 0) := by unfold St.sync; rw [if_neg (by simp [h]), hf]
theorem delete_err {k : Nat} (h : st.look n = k) (hk : k ≠ 0) : st.delete n = (st, k) := by subst h; unfold St.delete; rw [if_pos hk]
theorem delete_ok (h : st.look n = 0) : st.delete n = ({ st.step with files := del n st.files }, 0) := by unfold St.delete; rw [if_neg (by simp [h])]
theorem rename_bad (ht : nameOk t = false) : st.rename n t = (st, 20) := by unfold St.rename; rw [if_pos ht]
theorem rename_err (ht : nameOk t = true) {k : Nat} (h : st.look n = k) (hk : k ≠ 0) : st.rename n t = (st, k) := by subst h; unfold St.rename; rw [if_neg (by simp [ht]), if_pos hk]
theorem rename_ok (ht : nameOk t = true) (h : st.look n = 0) {f : Fl} (hf : find st.files n = some f) : st.rename n t = ({ st.step with files := put { f with name := t } (del n st.files) }, 0) := by
  unfold St.rename; rw [if_neg (by simp [ht]), if_neg (by simp [h]), hf]
  dsimp only
  rw [put_by, del_by t, putBy_del (k := fun f : Fl => f.name) { f with name := t }]
  rfl
end

section
variable {w w1 w2 : World} {b mb : Nat} {st : St} {Q : List Ent} {S : Nat → Prop}
theorem find_ent (h : DriveAt w b mb st Q) {n : Bs} {f : Fl} (hf : find st.files n = some f) : ∃ e, findBy Ent.key n Q = some e ∧ e.fl = f := by
  have := h.find n
  rw [hf] at this
  simpa using this
theorem find_ent_no (h : DriveAt w b mb st Q) {n : Bs} (hf : find st.files n = none) : findBy Ent.key n Q = none := by
  have := h.find n
  rw [hf] at this
  simpa using this

set_option maxRecDepth 100000 in
theorem sync_any (h : DriveRep w S b st) (hok : st.Ok) (hstep : st.steps + 1 ≤ 9223372036854775807) (s : ByteArray) (hs : s.size ≤ maxLen) :
    Calls Tryz.prog 79 #[.pointer (some ⟨b, 0, none⟩), .string s] w (DOp S b (st.sync s.data.toList) w) := by
  have HR := Lib.hid h
  obtain ⟨mb, Q, h, hf, hS⟩ := h
  have HF := Lib.hid hf
  have HS := Lib.hid hS
  clear hf hS
  cases hn : nameOk s.data.toList
  · have HE := Lib.hid (sync_err (look_bad (st := st) hn) (by decide))
    have hc := find_bad w b s hs hn
    clear h hn
    go_enter Tryz.func79, Tryz.ntmps79
    go_wp2_with (go_at_call 57; refine hc.mono ?_; rintro e w' ⟨rfl, rfl⟩)
    go_ret
    rw [HE.out]
    exact DOp.stay HR.out rfl
  · cases hfi : find st.files s.data.toList with
    | none =>
      have HE := Lib.hid (sync_err (look_none hn hfi) (by decide))
      have hc := find_no h s hs hn (find_ent_no h hfi)
      clear h hn hfi
      go_enter Tryz.func79, Tryz.ntmps79
      go_wp2_with (go_at_call 57; refine hc.mono ?_; rintro e w' ⟨rfl, rfl⟩)
      go_ret
      rw [HE.out]
      exact DOp.stay HR.out rfl
    | some f =>
      obtain ⟨e, hq, rfl⟩ := find_ent h hfi
      have hc := find_yes h s hs hn hq
      cases hd : st.dead
      · have HE := Lib.hid (sync_ok (look_live hn hfi hd) hfi)
        have hlive := step_live h hd hstep hok.left
        have heq := (findBy_some hq).1
        obtain ⟨A0, c00, hrow, _, _⟩ := (h.ents e heq).row_
        have HROW := Lib.hid hrow
        clear h hn hfi hq hd hrow
        go_enter Tryz.func79, Tryz.ntmps79
        go_wp2_with (first
          | (go_at_call 57; refine hc.mono ?_; rintro e' w' ⟨rfl, rfl⟩)
          | (go_at_call 62; refine hlive.mono ?_; rintro e' w1 ⟨rfl, hst⟩; obtain ⟨d0, d1, down, _, dz⟩ := hst.ent heq HROW.out))
        go_ret
        rw [HE.out]
        exact dop_of (hst.grew (hst.1.synced heq)) HF.out HS.out
      · have HE := Lib.hid (sync_err (look_dead hn hfi hd) (by decide))
        have hdd := step_dead h hd
        clear h hn hfi hq hd
        go_enter Tryz.func79, Tryz.ntmps79
        go_wp2_with (first
          | (go_at_call 57; refine hc.mono ?_; rintro e w' ⟨rfl, rfl⟩)
          | (go_at_call 62; refine hdd.mono ?_; rintro e w' ⟨rfl, rfl⟩))
        go_ret
        rw [HE.out]
        exact DOp.stay HR.out rfl

/-- The file struck, behind a step. -/
theorem Stepped.struck (h : Stepped w b mb st Q w1) {n : Bs} (hm : MapAt Tryz.prog 9 w2 mb (delBy (fun p : NB => p.1) n (Q.map Ent.nb))) (hg : w1.grownBy w2 (some mb)) :
    Grew w w2 b mb Q { st.step with files := del n st.files } ∧ DriveAt w2 b mb { st.step with files := del n st.step.files } (delBy Ent.key n Q) := by
  obtain ⟨h1, h2, h3⟩ := h.1.struck n hm hg
  exact ⟨h.grew ⟨_, h1, h2, h3⟩, h1⟩
theorem map_cast {L L' : List NB} (h : MapAt Tryz.prog 9 w mb L) (e : L = L') : MapAt Tryz.prog 9 w mb L' := e ▸ h
theorem delBy_nb (n : Bs) (Q : List Ent) : delBy (fun p : NB => p.1) n (Q.map Ent.nb) = (delBy Ent.key n Q).map Ent.nb := (delBy_map (k := Ent.key) (k' := fun p : NB => p.1) nb_name n Q).symm
end
end Dr
end Go.Proofs.YtbfmjonabndhaaaGreatDoor
