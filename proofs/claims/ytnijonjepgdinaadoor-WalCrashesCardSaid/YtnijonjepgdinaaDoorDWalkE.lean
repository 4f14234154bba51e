/-
  WHAT IS PROVED: what Append, Sync, Rename and Delete do. CONDITIONS: the drive stands in memory as the plain one says; what comes in lies elsewhere.
-/
import Derived.Test.YtnijonjepgdinaaDoorDWalkD
namespace Go.Proofs.YtnijonjepgdinaaDoor
open Go Go.RowKit Go.Maps Go.Proofs.YtnijonjepgdinaaDoor.Fr
namespace Dr

section
variable {st : St} {n l : Bs}
theorem append_bad (hn : nameOk n = false) : st.append n l = (st, 20) := by unfold St.append; rw [if_pos hn]
theorem append_many (hn : nameOk n = true) (hf : find st.files n = none) (h : 256 ≤ st.files.length) : st.append n l = (st, 5) := by
  unfold St.append; rw [if_neg (by simp [hn]), if_pos (.inl ⟨hf, h⟩)]
theorem append_long (hn : nameOk n = true) (h : 262144 < st.sizeOf n + l.length) : st.append n l = (st, 5) := by
  unfold St.append; rw [if_neg (by simp [hn]), if_pos (.inr h)]
theorem append_dead (hn : nameOk n = true) (h1 : ¬ ((find st.files n = none ∧ 256 ≤ st.files.length) ∨ 262144 < st.sizeOf n + l.length)) (hd : st.dead = true) : st.append n l = (st, 6) := by
  unfold St.append; rw [if_neg (by simp [hn]), if_neg h1, if_pos hd]
theorem append_new (hn : nameOk n = true) (h1 : ¬ ((find st.files n = none ∧ 256 ≤ st.files.length) ∨ 262144 < st.sizeOf n + l.length)) (hd : st.dead = false) (hf : find st.files n = none) : st.append n l = ({ st.step with files := put { name := n, dat := l, syn := 0 } st.files }, 0) := by
  unfold St.append; rw [if_neg (by simp [hn]), if_neg h1, if_neg (by simp [hd]), hf]
theorem append_more (hn : nameOk n = true) (h1 : ¬ ((find st.files n = none ∧ 256 ≤ st.files.length) ∨ 262144 < st.sizeOf n + l.length)) (hd : st.dead = false) {f : Fl} (hf : find st.files n = some f) : st.append n l = ({ st.step with files := put { f with dat := f.dat ++ l } st.files }, 0) := by
  unfold St.append; rw [if_neg (by simp [hn]), if_neg h1, if_neg (by simp [hd]), hf]
theorem sizeOf_none (hf : find st.files n = none) : st.sizeOf n = 0 := by unfold St.sizeOf; rw [hf]
theorem sizeOf_some {f : Fl} (hf : find st.files n = some f) : st.sizeOf n = f.dat.length := by unfold St.sizeOf; rw [hf]
end

section
variable {w w1 w2 : World} {b mb : Nat} {st : St} {Q : List Ent} {S : Nat → Prop}
theorem Stepped.c0 (h : Stepped w b mb st Q w1) : w1.cell? ⟨b, 0, none⟩ = some (.map (some mb)) := h.1.c0
theorem Stepped.grew (h : Stepped w b mb st Q w1) {st2 : St} (h2 : Grew w1 w2 b mb Q st2) : Grew w w2 b mb Q st2 :=
  Grew.trans (fun _ hk => .inl hk) (h.2.1.weaken fun k _ e => by subst e; exact .inl rfl) h2 h.1
theorem Stepped.ent (h : Stepped w b mb st Q w1) {e : Ent} (he : e ∈ Q) {v : Value} (hv : e.row = v) : w1.cell? ⟨e.blk, 0, none⟩ = some v ∧ w1.cell? ⟨e.blk, 1, none⟩ = some (.int .i64 (e.fl.syn : Int)) ∧ w1.ownsRow 0 5 1 v e.fl.dat.length (bv e.fl.dat) ∧ w1.frozen? ⟨e.blk, 0, none⟩ = false ∧ w1.frozen? ⟨e.blk, 1, none⟩ = false := by
  subst hv
  have := h.1.ents e he
  exact ⟨this.1.cell 0, this.1.cell 1, this.2, this.1.frozen 0, this.1.frozen 1⟩
theorem Stepped.rd (h : Stepped w b mb st Q w1) {A : Option Addr} {xs : List Value} (hr : Rd w A xs) (ha : ∀ a, A = some a → a.block ≠ b) : Rd w1 A xs := Rd.mod hr h.2.1 ha
/-- The file's cell behind its row's growth. -/
theorem ent_grown {e : Ent} {v : Value} {k : Nat} {xs : List Value} (h : w1.cell? ⟨e.blk, 0, none⟩ = some v) (hown : w1.ownsRow 0 5 1 e.row k xs) (hb : ∃ cs, Blk w1 e.blk 60 cs) (hg : w1.grownBy w2 e.row.ownBlock) : w2.cell? ⟨e.blk, 0, none⟩ = some v ∧ w2.frozen? ⟨e.blk, 0, none⟩ = false := by
  obtain ⟨cs, hb⟩ := hb
  have hne : e.row.ownBlock ≠ some e.blk := fun hk => by
    obtain ⟨cur, hc⟩ := own_blk hown hk
    exact Blk.ne hc hb (by decide) rfl
  have hs := hg.block e.blk hb.lt fun q => hne q.symm
  exact ⟨(World.cell?_of_block (a := ⟨e.blk, 0, none⟩) hs).trans h, (hb.same hs).frozen 0⟩

theorem made_facts (h : DriveAt w1 b mb st Q) {s : ByteArray} (hm : MapAt Tryd.prog 9 w2 mb (putBy (fun p : NB => p.1) (s.data.toList, w1.heap.size) (Q.map Ent.nb)))
    (hgr : (w1.alloc (.cells #[.slice none 0 0, .int .i64 0] 60)).grownBy w2 (some mb)) (hsz : w2.heap.size = (w1.alloc (.cells #[.slice none 0 0, .int .i64 0] 60)).heap.size)
    {A : Option Addr} {xs : List Value} (hr : Rd w1 A xs) (ha : ∀ a, A = some a → a.block ≠ mb) :
    ∃ Q', DriveAt w2 b mb { st with files := put { name := s.data.toList, dat := [], syn := 0 } st.files } Q' ∧ (∀ k, footD b mb Q' k → ext (footD b mb Q) w1 w2 k) ∧ Mod (footD b mb Q) w1 w2 ∧
      (⟨{ name := s.data.toList, dat := [], syn := 0 }, w1.heap.size, .slice none 0 0⟩ : Ent) ∈ Q' ∧ w2.cell? ⟨w1.heap.size, 0, none⟩ = some (.slice none 0 0) ∧ w2.frozen? ⟨w1.heap.size, 0, none⟩ = false ∧ w2.ownsRow 0 5 1 (.slice none 0 0) 0 [] ∧ Rd w2 A xs := by
  obtain ⟨Q', h1, h2, h3, h4⟩ := h.made rfl hm hgr hsz
  have he := h1.ents _ h4
  exact ⟨Q', h1, h2, h3, h4, he.1.cell 0, he.1.frozen 0, World.ownsRow_nil _ _ _ _, Rd.mod (Rd.mod hr ((Mod.refl (fun k => k = mb) _).alloc _) ha) (Mod.grown (S := fun k => k = mb) hgr (fun k e => (Option.some.inj e).symm)) ha⟩

theorem put_put_name {f g : Fl} (h : f.name = g.name) {l : List Fl} : put f (put g l) = put f l := putBy_put (k := fun f : Fl => f.name) h l
theorem grown_row {v u : Value} (h : v = u) (hg : w1.grownBy w2 u.ownBlock) : w1.grownBy w2 v.ownBlock := h ▸ hg
theorem loc_row {v u x : Value} (h : v = u) {n : Nat} (hg : x.ownBlock = u.ownBlock ∨ x.ownBlock = some n) : x.ownBlock = v.ownBlock ∨ x.ownBlock = some n := h ▸ hg
theorem append_bad_w (h : DriveRep w S b st) (s : ByteArray) (hs : s.size ≤ maxLen) (A : Option Addr) (m c : Nat) (l : Bs) (hn : nameOk s.data.toList = false) :
    Calls Tryd.prog 30 #[.pointer (some ⟨b, 0, none⟩), .string s, .slice A m c] w (DOp S b (st.append s.data.toList l) w) := by
  have HR := Lib.hid h
  have HE := Lib.hid (append_bad (st := st) (l := l) hn)
  have hc := isName_any s w hs
  rw [hn] at hc
  clear h hn
  go_enter Tryd.func30, Tryd.ntmps30
  go_wp2_with (go_at_call 42; refine hc.mono ?_; rintro e w' ⟨rfl, rfl⟩)
  go_ret
  rw [HE.out]
  exact DOp.stay HR.out rfl
set_option maxRecDepth 100000 in
set_option maxHeartbeats 1000000 in
theorem append_no (h : DriveRep w S b st) (hok : st.Ok) (hstep : st.steps + 1 ≤ 9223372036854775807) (s : ByteArray) (hs : s.size ≤ maxLen) (A : Option Addr) (m c : Nat) (l : Bs) (hl : l.length = m) (hm : m ≤ maxLen) (hr : Rd w A (bv l)) (ha : ∀ a, A = some a → ¬ S a.block)
    (hn : nameOk s.data.toList = true) (hfind : find st.files s.data.toList = none) :
    Calls Tryd.prog 30 #[.pointer (some ⟨b, 0, none⟩), .string s, .slice A m c] w (DOp S b (st.append s.data.toList l) w) := by
  have HR := Lib.hid h
  obtain ⟨mb, Q, h, hf, hS⟩ := h
  have HH := Lib.hid h
  have HF := Lib.hid hf
  have HS := Lib.hid hS
  have hq : findBy Ent.key s.data.toList Q = none := by
    have := h.find s.data.toList
    rw [hfind] at this
    simpa using this
  have hSb : S b := hf b (.inl rfl)
  have hSm : S mb := hf mb (.inr (.inl rfl))
  clear hf hS
  have hc := isName_any s w hs
  rw [hn] at hc
  have c0 := h.c0
  have hm0 := h.map
  have HV := Lib.hid (look_no hq)
  have hlen := fun (ty : TypeId) => h.map.len Tryd.underlying47 ty
  rw [List.length_map, h.length] at hlen
  have hfew := hok.few
  unfold maxLen at hm
  have hleft := hok.left
  by_cases hmany : 256 ≤ st.files.length
  · have HE := Lib.hid (append_many (l := l) hn hfind hmany)
    clear h hn hq hl hr
    go_enter Tryd.func30, Tryd.ntmps30
    go_wp2_with (first
      | (go_at_call 42; refine hc.mono ?_; rintro e w' ⟨rfl, rfl⟩)
      | (at_lookup; refine wpList_look _ rfl _ _ 47 rfl rfl hm0 Tryd.underlying9 Tryd.underlying47 (zeroP _) s rfl hs _ HV.out ?_))
    go_ret
    rw [HE.out]
    exact DOp.stay HR.out rfl
  · have hfew' : st.files.length < 256 := by omega
    have hz := size_none h s hs hq
    by_cases hlong : 262144 < m
    · have HE := Lib.hid (append_long (st := st) (l := l) hn (by rw [sizeOf_none hfind]; omega))
      clear h hn hq hl hr hmany hfew
      go_enter Tryd.func30, Tryd.ntmps30
      go_wp2_with (first
        | (go_at_call 42; refine hc.mono ?_; rintro e w' ⟨rfl, rfl⟩)
        | (go_at_call 26; refine hz.mono ?_; rintro e w' ⟨rfl, rfl⟩)
        | (at_lookup; refine wpList_look _ rfl _ _ 47 rfl rfl hm0 Tryd.underlying9 Tryd.underlying47 (zeroP _) s rfl hs _ HV.out ?_))
      go_ret
      rw [HE.out]
      exact DOp.stay HR.out rfl
    · have hno : ¬ ((find st.files s.data.toList = none ∧ 256 ≤ st.files.length) ∨ 262144 < st.sizeOf s.data.toList + l.length) := by
        rw [sizeOf_none hfind]
        rintro (⟨_, h⟩ | h) <;> omega
      have hlong' : m ≤ 262144 := by omega
      cases hd : st.dead
      · have HE := Lib.hid (append_new hn hno hd hfind)
        have hlive := step_live h hd hstep hleft
        obtain ⟨i0, hi, hz0, hz1, hz2⟩ := info_parts info_u8
        have hab : ∀ a, A = some a → a.block ≠ b := fun a e hk => ha a e (hk ▸ hSb)
        have ham : ∀ a, A = some a → a.block ≠ mb := fun a e hk => ha a e (hk ▸ hSm)
        have hlb : (bv l).length = m := by rw [bv_length]; exact hl
        have HLB := Lib.hid hlb
        have HQ := Lib.hid hq
        have hQl : (Q.map Ent.nb).length < maxLen := by rw [List.length_map, h.length]; unfold maxLen; omega
        clear h hn hq hmany hfew hno hlong hd hlb hl
        go_enter Tryd.func30, Tryd.ntmps30
        go_wp2_with (first
          | (go_at_call 42; refine hc.mono ?_; rintro e w' ⟨rfl, rfl⟩)
          | (go_at_call 26; refine hz.mono ?_; rintro e w' ⟨rfl, rfl⟩)
          | (go_at_call 43; refine hlive.mono ?_; rintro e w1 ⟨rfl, hst⟩; have c0' := hst.c0; have hbl := hst.1.head.lt; have hm1 := hst.1.map; have hr1 := hst.rd hr hab)
          | (at_lookup; refine wpList_look _ rfl _ _ 47 rfl rfl hm0 Tryd.underlying9 Tryd.underlying47 (zeroP _) s rfl hs _ HV.out ?_)
          | (at_mapUpdate; refine wpList_mstore _ rfl _ _ _ 47 rfl rfl (hm1.alloc _) Tryd.underlying9 Tryd.underlying47 hQl s rfl hs w1.heap.size rfl ?_; intro w2 hm2 hg2 hsz2; have hmf := made_facts hst.1 hm2 hg2 hsz2 hr1 ham; clear hsz2; obtain ⟨Q2, hat2, hf2, hmod2, he2, d0, dz, down, hr3⟩ := hmf)
          | (at_builtin; refine wpList_app _ rfl (.tmp 56) (.tmp 57) _ rfl 0 5 i0 _ 1 Tryd.underlying42 hi hz0 hz1 hz2 rfl (.slice none 0 0) 0 [] rfl down A m c (bv l) rfl HLB.out hr3 (bv_one l) m (Nat.zero_add _) (by unfold maxLen; omega) (by omega) (Nat.zero_le _) ?_; intro A1 c1 w3 hown3 hb3 hg3 hloc; have d1 := ent_grown (e := ⟨{ name := s.data.toList, dat := [], syn := 0 }, w1.heap.size, .slice none 0 0⟩) d0 down ⟨_, (hat2.ents _ he2).1⟩ hg3; obtain ⟨d2, d3⟩ := d1; clear d0 dz))
        go_ret
        rw [HE.out, ← put_put_name (f := ⟨s.data.toList, l, 0⟩) (g := ⟨s.data.toList, [], 0⟩) rfl]
        have hN : (0 : Nat) + l.length = m := by have := HLB.out; rw [bv_length] at this; omega
        have hgw := hat2.appended he2 (l := l) hown3 hN hg3 hloc
        exact dop_of (hst.grew (Grew.trans hf2 hmod2 hgw hat2)) HF.out HS.out
      · have HE := Lib.hid (append_dead hn hno hd)
        have hdd := step_dead h hd
        clear h hn hq hl hr hmany hfew hno hlong hd
        go_enter Tryd.func30, Tryd.ntmps30
        go_wp2_with (first
          | (go_at_call 42; refine hc.mono ?_; rintro e w' ⟨rfl, rfl⟩)
          | (go_at_call 26; refine hz.mono ?_; rintro e w' ⟨rfl, rfl⟩)
          | (go_at_call 43; refine hdd.mono ?_; rintro e w' ⟨rfl, rfl⟩)
          | (at_lookup; refine wpList_look _ rfl _ _ 47 rfl rfl hm0 Tryd.underlying9 Tryd.underlying47 (zeroP _) s rfl hs _ HV.out ?_))
        go_ret
        rw [HE.out]
        exact DOp.stay HR.out rfl

set_option maxRecDepth 100000 in
set_option maxHeartbeats 1000000 in
theorem append_yes (h : DriveRep w S b st) (hok : st.Ok) (hstep : st.steps + 1 ≤ 9223372036854775807) (s : ByteArray) (hs : s.size ≤ maxLen) (A : Option Addr) (m c : Nat) (l : Bs) (hl : l.length = m) (hr : Rd w A (bv l)) (ha : ∀ a, A = some a → ¬ S a.block)
    (hn : nameOk s.data.toList = true) {f : Fl} (hfind : find st.files s.data.toList = some f) :
    Calls Tryd.prog 30 #[.pointer (some ⟨b, 0, none⟩), .string s, .slice A m c] w (DOp S b (st.append s.data.toList l) w) := by
  have HR := Lib.hid h
  obtain ⟨mb, Q, h, hf, hS⟩ := h
  have HH := Lib.hid h
  have HF := Lib.hid hf
  have HS := Lib.hid hS
  obtain ⟨e, hq, hef⟩ : ∃ e, findBy Ent.key s.data.toList Q = some e ∧ e.fl = f := by
    have := h.find s.data.toList
    rw [hfind] at this
    simpa using this
  subst hef
  have hSb : S b := hf b (.inl rfl)
  clear hf hS
  have hc := isName_any s w hs
  rw [hn] at hc
  have c0 := h.c0
  have hm0 := h.map
  have HV := Lib.hid (look_yes hq)
  have hleft := hok.left
  have hz := size_some h s hs hq
  have heq := (findBy_some hq).1
  have hfd := hok.file e.fl (find_some hfind).1
  obtain ⟨hfd, _, _⟩ := hfd
  obtain ⟨A0, c00, hrow, _, _⟩ := (h.ents e heq).row_
  by_cases hlong : 262144 < e.fl.dat.length + m
  · have HE := Lib.hid (append_long (st := st) (l := l) hn (by rw [sizeOf_some hfind]; omega))
    clear h hn hq hl hr hfind hrow
    go_enter Tryd.func30, Tryd.ntmps30
    go_wp2_with (first
      | (go_at_call 42; refine hc.mono ?_; rintro e w' ⟨rfl, rfl⟩)
      | (go_at_call 26; refine hz.mono ?_; rintro e w' ⟨rfl, rfl⟩)
      | (at_lookup; refine wpList_look _ rfl _ _ 47 rfl rfl hm0 Tryd.underlying9 Tryd.underlying47 (zeroP _) s rfl hs _ HV.out ?_))
    go_ret
    rw [HE.out]
    exact DOp.stay HR.out rfl
  · have hno : ¬ ((find st.files s.data.toList = none ∧ 256 ≤ st.files.length) ∨ 262144 < st.sizeOf s.data.toList + l.length) := by
      rw [sizeOf_some hfind, hfind]
      rintro (⟨h, _⟩ | h)
      · cases h
      · omega
    have hlong' : e.fl.dat.length + m ≤ 262144 := by omega
    cases hd : st.dead
    · have HE := Lib.hid (append_more hn hno hd hfind)
      have hlive := step_live h hd hstep hleft
      obtain ⟨i0, hi, hz0, hz1, hz2⟩ := info_parts info_u8
      have hab : ∀ a, A = some a → a.block ≠ b := fun a e hk => ha a e (hk ▸ hSb)
      have hlb : (bv l).length = m := by rw [bv_length]; exact hl
      have HLB := Lib.hid hlb
      have HROW := Lib.hid hrow
      clear h hn hq hno hlong hd hlb hl hfind hrow
      go_enter Tryd.func30, Tryd.ntmps30
      go_wp2_with (first
        | (go_at_call 42; refine hc.mono ?_; rintro e w' ⟨rfl, rfl⟩)
        | (go_at_call 26; refine hz.mono ?_; rintro e w' ⟨rfl, rfl⟩)
        | (go_at_call 43; refine hlive.mono ?_; rintro e' w1 ⟨rfl, hst⟩; have hr1 := hst.rd hr hab; obtain ⟨d0, _, down, dz, _⟩ := hst.ent heq HROW.out)
        | (at_lookup; refine wpList_look _ rfl _ _ 47 rfl rfl hm0 Tryd.underlying9 Tryd.underlying47 (zeroP _) s rfl hs _ HV.out ?_)
        | (at_builtin; refine wpList_app _ rfl (.tmp 56) (.tmp 57) _ rfl 0 5 i0 _ 1 Tryd.underlying42 hi hz0 hz1 hz2 rfl (.slice A0 e.fl.dat.length c00) e.fl.dat.length (bv e.fl.dat) rfl down A m c (bv l) rfl HLB.out hr1 (bv_one l) (e.fl.dat.length + m) rfl (by unfold maxLen; omega) (by omega) (Nat.zero_le _) ?_; intro A1 c1 w3 hown3 hb3 hg3 hloc; have hg4 := grown_row HROW.out hg3; have hloc4 := loc_row HROW.out hloc; have d1 := ent_grown d0 (hst.1.ents e heq).2 ⟨_, (hst.1.ents e heq).1⟩ hg4; obtain ⟨d2, d3⟩ := d1; clear d0 dz))
      go_ret
      rw [HE.out]
      have hN : e.fl.dat.length + l.length = e.fl.dat.length + m := by have := HLB.out; rw [bv_length] at this; omega
      exact dop_of (hst.grew (hst.1.appended heq (l := l) hown3 hN hg4 hloc4)) HF.out HS.out
    · have HE := Lib.hid (append_dead hn hno hd)
      have hdd := step_dead h hd
      clear h hn hq hl hr hno hlong hd hfind hrow
      go_enter Tryd.func30, Tryd.ntmps30
      go_wp2_with (first
        | (go_at_call 42; refine hc.mono ?_; rintro e w' ⟨rfl, rfl⟩)
        | (go_at_call 26; refine hz.mono ?_; rintro e w' ⟨rfl, rfl⟩)
        | (go_at_call 43; refine hdd.mono ?_; rintro e w' ⟨rfl, rfl⟩)
        | (at_lookup; refine wpList_look _ rfl _ _ 47 rfl rfl hm0 Tryd.underlying9 Tryd.underlying47 (zeroP _) s rfl hs _ HV.out ?_))
      go_ret
      rw [HE.out]
      exact DOp.stay HR.out rfl
/-- Append, whatever comes in. -/
theorem append_any (h : DriveRep w S b st) (hok : st.Ok) (hstep : st.steps + 1 ≤ 9223372036854775807) (s : ByteArray) (hs : s.size ≤ maxLen) (A : Option Addr) (m c : Nat) (l : Bs) (hl : l.length = m) (hm : m ≤ maxLen) (hr : Rd w A (bv l)) (ha : ∀ a, A = some a → ¬ S a.block) :
    Calls Tryd.prog 30 #[.pointer (some ⟨b, 0, none⟩), .string s, .slice A m c] w (DOp S b (st.append s.data.toList l) w) := by
  cases hn : nameOk s.data.toList
  · exact append_bad_w h s hs A m c l hn
  · cases hf : find st.files s.data.toList with
    | none => exact append_no h hok hstep s hs A m c l hl hm hr ha hn hf
    | some f => exact append_yes h hok hstep s hs A m c l hl hr ha hn hf
end
end Dr
end Go.Proofs.YtnijonjepgdinaaDoor
