/-
  WHAT IS PROVED: what Put does. CONDITIONS: the table and its nodes stand in memory as named.
-/
import Derived.Test.YtfnfjhfmhinkcaaMPut
namespace Go.Proofs.Ytfnfjhfmhinkcaa
open Go Go.RowKit Go.Maps Go.Sort Go.Proofs.Ytfnfjhfmhinkcaa.Fr
namespace Mm

section
variable {w0 w w1 w2 w3 : World} {T : Nat} {ns : List Nd} {byt : Int} {P : Array Value} {t : TypeId}
theorem put_path (h1 : Below w.heap.size w w1) (h2 : Below w1.heap.size w1 w2) (h3 : Below w2.heap.size w2 w3) : Below w.heap.size w (w3.alloc (.cells P t)) := by
  have h := (h1.trans (h2.mono h1.size)).trans (h3.mono (Nat.le_trans h1.size h2.size))
  exact h.alloc h.size _
theorem put_path2 (h2 : Below w1.heap.size w1 w2) (h3 : Below w2.heap.size w2 w3) : Below w1.heap.size w1 (w3.alloc (.cells P t)) := by
  have h := h2.trans (h3.mono h2.size)
  exact h.alloc h.size _
/-- What the new node is made of. -/
def PuS (E T : Nat) (e : En) (cnt : Int) (W : World) : Prop := W.cell? ⟨E, 0, none⟩ = some (.string e.key) ∧ W.cell? ⟨E, 1, none⟩ = some (.int .i64 e.seq) ∧ W.cell? ⟨E, 2, none⟩ = some (.bool e.del) ∧ W.cell? ⟨E, 3, none⟩ = some (.string e.val) ∧ W.cell? ⟨T, 17, none⟩ = some (.int .i64 cnt)
theorem PuS.mk {e : En} {W : World} {E : Nat} (h : Tb w0 w T ns byt) (hb : Below w.heap.size w W) (hE : Blk W E 30 #[.string e.key, .int .i64 e.seq, .bool e.del, .string e.val]) : PuS E T e (ns.length : Int) W := by
  obtain ⟨⟨a, b, c, d⟩, _⟩ := cells4 hE
  obtain ⟨cs, h1, _, _, h4, _⟩ := (h.rep.below hb).tab
  exact ⟨a, b, c, d, (h1.cell 17).trans h4⟩
theorem PuS.drew {e : En} {W : World} {E : Nat} {cnt : Int} (h : PuS E T e cnt W) : PuS E T e cnt W.drew := h
theorem PuS.alloc {e : En} {W : World} {E : Nat} {cnt : Int} (h : PuS E T e cnt W) (o : Obj) : PuS E T e cnt (W.alloc o) := by
  obtain ⟨a, b, c, d, f⟩ := h
  have l1 := World.block_lt_of_cell? W _ a
  have l2 := World.block_lt_of_cell? W _ f
  exact ⟨(World.cell?_alloc_lt W o ⟨E, 0, none⟩ l1).trans a, (World.cell?_alloc_lt W o ⟨E, 1, none⟩ l1).trans b, (World.cell?_alloc_lt W o ⟨E, 2, none⟩ l1).trans c, (World.cell?_alloc_lt W o ⟨E, 3, none⟩ l1).trans d, (World.cell?_alloc_lt W o ⟨T, 17, none⟩ l2).trans f⟩
theorem tb_bel {W : World} (ht : Tb w0 w T ns byt) (hm : Mod (Own T ns) w W) : Below w0.heap.size w0 W :=
  ht.bel.trans (hm.to_below (fun k hk => by
    rcases hk with rfl | ⟨n, hn, rfl⟩
    · exact ht.newT
    · exact ht.newN n hn) ht.bel.size)
theorem PuAt.ends {p s : List Nd} {n : Nd} {cnt : Int} {PA E j : Nat} {e : En} {W : World} (h : PuAt w T ns p s n cnt byt PA E e j W) :
    W.cell? ⟨T, 17, none⟩ = some (.int .i64 cnt) ∧ W.cell? ⟨T, 18, none⟩ = some (.int .i64 byt) ∧ W.frozen? ⟨T, 17, none⟩ = false ∧ W.frozen? ⟨T, 18, none⟩ = false ∧ (W.cell? ⟨E, 0, none⟩ = some (.string e.key) ∧ W.cell? ⟨E, 1, none⟩ = some (.int .i64 e.seq) ∧ W.cell? ⟨E, 2, none⟩ = some (.bool e.del) ∧ W.cell? ⟨E, 3, none⟩ = some (.string e.val)) := by
  obtain ⟨⟨a, b, c, d⟩, _⟩ := cells4 h.ent
  obtain ⟨cs, h1, _, _, h4, h5⟩ := h.rep.tab
  exact ⟨(h1.cell 17).trans h4, (h1.cell 18).trans h5, h1.frozen _, h1.frozen _, a, b, c, d⟩
def PuG (T E : Nat) (e : En) (W : World) : Prop := E ≠ T ∧ W.cell? ⟨E, 0, none⟩ = some (.string e.key) ∧ W.cell? ⟨E, 3, none⟩ = some (.string e.val)
theorem PuG.drew {E : Nat} {e : En} {W : World} (h : PuG T E e W) : PuG T E e W.drew := h
theorem PuG.set {E i : Nat} {e : En} {W : World} (h : PuG T E e W) (v : Value) : PuG T E e (W.setCell ⟨T, i, none⟩ v) :=
  ⟨h.1, (World.cell?_setCell_other _ _ _ _ (fun e2 => h.1 (congrArg Addr.block e2).symm)).trans h.2.1, (World.cell?_setCell_other _ _ _ _ (fun e2 => h.1 (congrArg Addr.block e2).symm)).trans h.2.2⟩
theorem PuG.mk {p s : List Nd} {n : Nd} {cnt : Int} {PA E j : Nat} {e : En} {W : World} {v : Value} (h : PuAt w T ns p s n cnt byt PA E e j W) : PuG T E e (W.setCell ⟨T, 17, none⟩ v) := by
  obtain ⟨cs, h1, _⟩ := h.rep.tab
  obtain ⟨⟨a, b, c, d⟩, _⟩ := cells4 h.ent
  exact PuG.set ⟨Blk.ne h.ent h1 (by decide), a, d⟩ _
/-- THE NODE STANDS, and both counters are brought up. -/
theorem PuAt.done {p s : List Nd} {n : Nd} {cnt : Int} {PA E H : Nat} {e : En} {W : World} {byt' : Int} (h : PuAt w T ns p s n cnt byt PA E e H W) (ht : Tb w0 w T ns byt) (hH : 1 ≤ H ∧ H ≤ 12) (hnd : ((p ++ n.up H :: s).map (·.blk)).Nodup) (hb : 0 ≤ byt' ∧ byt' ≤ byt + 2000) :
    Tb w0 (((W.setCell ⟨T, 17, none⟩ (.int .i64 ((ns.length : Int) + 1))).setCell ⟨T, 18, none⟩ (.int .i64 byt')).drew) T (p ++ n.up H :: s) byt' ∧
      Mod (Own T ns) w (((W.setCell ⟨T, 17, none⟩ (.int .i64 ((ns.length : Int) + 1))).setCell ⟨T, 18, none⟩ (.int .i64 byt')).drew) := by
  have hlen : (((p ++ n.up H :: s).length : Nat) : Int) = (ns.length : Int) + 1 := by rw [h.split]; simp; omega
  have hm2 : Mod (Own T ns) w (((W.setCell ⟨T, 17, none⟩ (.int .i64 ((ns.length : Int) + 1))).setCell ⟨T, 18, none⟩ (.int .i64 byt')).drew) :=
    ((h.mod.setCell (p := ⟨T, 17, none⟩) (fun _ => .inl rfl) _).setCell (p := ⟨T, 18, none⟩) (fun _ => .inl rfl) _).drew
  obtain ⟨cs, h1, h2, h3, h4, h5⟩ := h.rep.tab
  have hoff : ∀ k, k ≠ T → (((W.setCell ⟨T, 17, none⟩ (.int .i64 ((ns.length : Int) + 1))).setCell ⟨T, 18, none⟩ (.int .i64 byt')).drew).heap[k]? = W.heap[k]? := fun k hk =>
    (Below.heap_setCell _ ⟨T, 18, none⟩ _ _ hk).trans (Below.heap_setCell _ ⟨T, 17, none⟩ _ _ hk)
  have hT2 : Blk (((W.setCell ⟨T, 17, none⟩ (.int .i64 ((ns.length : Int) + 1))).setCell ⟨T, 18, none⟩ (.int .i64 byt')).drew) T 54 ((cs.setIfInBounds 17 (.int .i64 ((ns.length : Int) + 1))).setIfInBounds 18 (.int .i64 byt')) := (h1.set 17 _).set 18 _
  have hmem : ∀ x ∈ p ++ n.up H :: s, x ∈ ns ∨ x = n.up H := fun x hx => by
    rw [h.split]
    rcases List.mem_append.1 hx with hx | hx
    · exact .inl (List.mem_append.2 (.inl hx))
    · rcases List.mem_cons.1 hx with hx | hx
      · exact .inr hx
      · exact .inl (List.mem_append.2 (.inr hx))
  refine ⟨⟨⟨⟨_, hT2, by simp [h2], fun l hl => ?_, ?_, ?_⟩, ?_, h.rep.sorted⟩, fun x hx => ?_, hnd, ht.newT, fun x hx => ?_, ?_, hb.1, ?_⟩, hm2⟩
  · rw [Array.getElem?_setIfInBounds_ne (by omega), Array.getElem?_setIfInBounds_ne (by omega)]; exact h3 l hl
  · rw [Array.getElem?_setIfInBounds_ne (by omega), Array.getElem?_setIfInBounds_self_of_lt (by omega), hlen]
  · rw [Array.getElem?_setIfInBounds_self_of_lt (by simp; omega)]
  · exact h.rep.chain.same fun x hx => hoff _ (by
      obtain ⟨a, r, e2⟩ := List.append_of_mem hx
      obtain ⟨cN, hN⟩ := Chain.at_ (a := a) (n := x) (r := r) (by have := h.rep.chain; rw [e2] at this; exact this)
      exact Blk.ne hN.blk h1 (by decide))
  · rcases hmem x hx with hx | rfl
    · exact ht.good x hx
    · exact hH
  · rcases hmem x hx with hx | rfl
    · exact ht.newN x hx
    · exact Nat.le_trans ht.bel.size h.newN
  · exact tb_bel ht hm2
  · have := ht.b1; omega
/-- WHAT Put LEAVES when the entry is new. -/
def PutRet (w0 w : World) (T : Nat) (ns : List Nd) (byt : Int) (e : En) (x : Ending) (w' : World) : Prop := x = .returned (.int .i64 0) ∧ ∃ N H, 1 ≤ H ∧ H ≤ 12 ∧ w.heap.size ≤ N ∧
  Tb w0 w' T (pre ns e.k e.seq ++ ⟨N, e, ns.length, H⟩ :: post ns e.k e.seq) (byt + ((e.key.size : Int) + (e.val.size : Int))) ∧ Mod (Own T ns) w w'
def PuInv (w : World) (T : Nat) (ns p s : List Nd) (n : Nd) (cnt byt : Int) (PA E : Nat) (e : En) (H : Nat) (x : Value) (wr : World) : Prop := ∃ j, j ≤ H ∧ x = .int .i64 ((j : Nat) : Int) ∧ Hid (PuAt w T ns p s n cnt byt PA E e j wr)
/-- What a round reads and writes. -/
def PuF (PA c N j : Nat) (z : Value) (W : World) : Prop := W.cell? ⟨PA, j, none⟩ = some (.pointer (some ⟨c, 0, none⟩)) ∧ W.cell? ⟨c, 5 + j, none⟩ = some z ∧ (∃ u, W.cell? ⟨N, 5 + j, none⟩ = some u) ∧ W.frozen? ⟨N, 5 + j, none⟩ = false
theorem PuF.drew {PA c N j : Nat} {z : Value} {W : World} (h : PuF PA c N j z W) : PuF PA c N j z W.drew := h
theorem entry_sizes {e : En} (h : entryErr e = 0) : (e.key.size : Int) ≤ 64 ∧ (e.val.size : Int) ≤ 1024 := by
  unfold entryErr at h
  split at h
  · simp at h
  · rename_i h2
    omega
theorem ptr_form (x : Option Nat) : ∃ o, ptr x = .pointer o := by cases x <;> exact ⟨_, rfl⟩
theorem setCell_some {W : World} {a : Addr} {u z : Value} (h : W.cell? a = some u) : ∃ v, (W.setCell a z).cell? a = some v := ⟨z, World.cell?_setCell_same W a z h⟩
theorem setCell_froz2 {W : World} {a p : Addr} {z : Value} {b : Bool} (h : W.frozen? a = b) : (W.setCell p z).frozen? a = b := by rw [World.frozen?_setCell]; exact h
theorem setCell_froz {W : World} {a : Addr} {z : Value} {b : Bool} (h : W.frozen? a = b) : (W.setCell a z).frozen? a = b := by rw [World.frozen?_setCell]; exact h
set_option maxHeartbeats 6400000 in
set_option maxRecDepth 100000 in
theorem put_end (h : Tb w0 w T ns byt) (e : En) (hgt : Int) (hn : (ns.length : Int) < 1000000000) (hz : entryErr e = 0) (hpo : post ns e.k e.seq = []) :
    Calls Try.prog 16 #[.pointer (some ⟨T, 0, none⟩), .agg #[.string e.key, .int .i64 e.seq, .bool e.del, .string e.val], .int .i64 hgt] w (PutRet w0 w T ns byt e) := by
  have hb1 : Below w.heap.size w (w.alloc (.cells #[.string e.key, .int .i64 e.seq, .bool e.del, .string e.val] 30)) := (Below.refl _ _).alloc (Nat.le_refl _) _
  have hE := check_any (w.alloc (.cells #[.string e.key, .int .i64 e.seq, .bool e.del, .string e.val] 30)) e
  rw [hz] at hE
  have HE := Lib.hid hE
  have hb0 := h.b0
  have hb9 := h.b1
  obtain ⟨hk64, hv1024⟩ := entry_sizes hz
  have hblk : Blk (w.alloc (.cells #[.string e.key, .int .i64 e.seq, .bool e.del, .string e.val] 30)) w.heap.size 30 #[.string e.key, .int .i64 e.seq, .bool e.del, .string e.val] := Blk.new _ _ _
  have HBK := Lib.hid (fun (W : World) (hW : Below (w.alloc (.cells #[.string e.key, .int .i64 e.seq, .bool e.del, .string e.val] 30)).heap.size (w.alloc (.cells #[.string e.key, .int .i64 e.seq, .bool e.del, .string e.val] 30)) W) => hblk.same (w' := W) (hW.block _ hblk.lt))
  have HW1 := Lib.hid hb1
  have HTB := Lib.hid h
  have HNX := Lib.hid (fun (W : World) (hW : Below w.heap.size w W) => (h.rep.below hW).afterPred (pre_post ns e.k e.seq).symm (l := 0) (by omega))
  have hgood : Good (post ns e.k e.seq) := fun n hn => h.good n ((List.dropWhile_sublist _).subset hn)
  rw [nextAt_zero hgood] at HNX
  have HPT := Lib.hid (fun (W : World) (hW : Below w.heap.size w W) => path_lit (h.rep.below hW) e.key e.seq)
  obtain ⟨p, hp⟩ : ∃ p, p = pre ns e.key.toList e.seq := ⟨_, rfl⟩
  have hp' : pre ns e.k e.seq = p := hp.symm
  rw [← hp] at HPT
  rw [hp'] at HNX
  obtain ⟨p0, hp0⟩ : ∃ q, q = predAt T p 0 := ⟨_, rfl⟩
  obtain ⟨p1, hp1⟩ : ∃ q, q = predAt T p 1 := ⟨_, rfl⟩
  obtain ⟨p2, hp2⟩ : ∃ q, q = predAt T p 2 := ⟨_, rfl⟩
  obtain ⟨p3, hp3⟩ : ∃ q, q = predAt T p 3 := ⟨_, rfl⟩
  obtain ⟨p4, hp4⟩ : ∃ q, q = predAt T p 4 := ⟨_, rfl⟩
  obtain ⟨p5, hp5⟩ : ∃ q, q = predAt T p 5 := ⟨_, rfl⟩
  obtain ⟨p6, hp6⟩ : ∃ q, q = predAt T p 6 := ⟨_, rfl⟩
  obtain ⟨p7, hp7⟩ : ∃ q, q = predAt T p 7 := ⟨_, rfl⟩
  obtain ⟨p8, hp8⟩ : ∃ q, q = predAt T p 8 := ⟨_, rfl⟩
  obtain ⟨p9, hp9⟩ : ∃ q, q = predAt T p 9 := ⟨_, rfl⟩
  obtain ⟨p10, hp10⟩ : ∃ q, q = predAt T p 10 := ⟨_, rfl⟩
  obtain ⟨p11, hp11⟩ : ∃ q, q = predAt T p 11 := ⟨_, rfl⟩
  have HPL := Lib.hid (show ∀ l, l < 12 → (#[.pointer (some ⟨p0, 0, none⟩), .pointer (some ⟨p1, 0, none⟩), .pointer (some ⟨p2, 0, none⟩), .pointer (some ⟨p3, 0, none⟩), .pointer (some ⟨p4, 0, none⟩), .pointer (some ⟨p5, 0, none⟩), .pointer (some ⟨p6, 0, none⟩), .pointer (some ⟨p7, 0, none⟩), .pointer (some ⟨p8, 0, none⟩), .pointer (some ⟨p9, 0, none⟩), .pointer (some ⟨p10, 0, none⟩), .pointer (some ⟨p11, 0, none⟩)] : Array Value)[l]? = some (.pointer (some ⟨predAt T p l, 0, none⟩)) from by
    intro l hl
    match l, hl with
    | 0, _ => rw [← hp0]; rfl
    | 1, _ => rw [← hp1]; rfl
    | 2, _ => rw [← hp2]; rfl
    | 3, _ => rw [← hp3]; rfl
    | 4, _ => rw [← hp4]; rfl
    | 5, _ => rw [← hp5]; rfl
    | 6, _ => rw [← hp6]; rfl
    | 7, _ => rw [← hp7]; rfl
    | 8, _ => rw [← hp8]; rfl
    | 9, _ => rw [← hp9]; rfl
    | 10, _ => rw [← hp10]; rfl
    | 11, _ => rw [← hp11]; rfl
    )
  rw [← hp0, ← hp1, ← hp2, ← hp3, ← hp4, ← hp5, ← hp6, ← hp7, ← hp8, ← hp9, ← hp10, ← hp11] at HPT
  rw [← hp0] at HNX
  have HP := Lib.hid hp'
  have HNY := Lib.hid (fun (W : World) (hW : Below w.heap.size w W) => (show W.cell? ⟨p0, 5, none⟩ = some (.pointer none) from by have := HNX.out W hW; rw [hpo] at this; exact this))
  clear hE hz hblk hb1 hgood hp hp' hp0 hp1 hp2 hp3 hp4 hp5 hp6 hp7 hp8 hp9 hp10 hp11
  obtain ⟨H, hH1, hH2, hH⟩ : ∃ H : Nat, 1 ≤ H ∧ H ≤ 12 ∧ min (max hgt 1) 12 = (H : Int) := ⟨(min (max hgt 1) 12).toNat, by omega, by omega, by omega⟩
  have HNO := Lib.hid (show ∀ m r, post ns e.k e.seq = m :: r → bef e m.e.k m.e.seq from fun m r h => by rw [hpo] at h; cases h)
  go_enter Try.func16, Try.ntmps16
  go_upto_region 6 with (first
    | (go_at_call 22; refine HE.out.mono ?_; rintro x w2 ⟨rfl, hb2⟩; have hc2 := (cells4 (HBK.out w2 hb2)).1; obtain ⟨y0, y1, y2, y3⟩ := hc2; have HB2 := Lib.hid hb2; clear hb2)
    | (go_at_call 23; refine (HPT.out w2 (HW1.out.trans (HB2.out.mono HW1.out.size))).mono ?_; rintro x w3 ⟨rfl, hb3⟩; have hb4 := put_path (t := 50) (P := #[.pointer (some ⟨p0, 0, none⟩), .pointer (some ⟨p1, 0, none⟩), .pointer (some ⟨p2, 0, none⟩), .pointer (some ⟨p3, 0, none⟩), .pointer (some ⟨p4, 0, none⟩), .pointer (some ⟨p5, 0, none⟩), .pointer (some ⟨p6, 0, none⟩), .pointer (some ⟨p7, 0, none⟩), .pointer (some ⟨p8, 0, none⟩), .pointer (some ⟨p9, 0, none⟩), .pointer (some ⟨p10, 0, none⟩), .pointer (some ⟨p11, 0, none⟩)]) HW1.out HB2.out hb3; have q5 := HNY.out _ hb4; have HB4 := Lib.hid hb4; have HE4 := Lib.hid (HBK.out _ (put_path2 (t := 50) (P := #[.pointer (some ⟨p0, 0, none⟩), .pointer (some ⟨p1, 0, none⟩), .pointer (some ⟨p2, 0, none⟩), .pointer (some ⟨p3, 0, none⟩), .pointer (some ⟨p4, 0, none⟩), .pointer (some ⟨p5, 0, none⟩), .pointer (some ⟨p6, 0, none⟩), .pointer (some ⟨p7, 0, none⟩), .pointer (some ⟨p8, 0, none⟩), .pointer (some ⟨p9, 0, none⟩), .pointer (some ⟨p10, 0, none⟩), .pointer (some ⟨p11, 0, none⟩)]) HB2.out hb3)); clear hb3 hb4))
  refine wp_region_held_drew (S := fun _ => True) (by kernel_rfl) (by (first | exact True.intro | assumption)) (fun hHeld => ?_)
  refine wpAnyH_take (i := 0) (v := ?vr1_0) (Fr.take_at rfl) (by kernel_rfl) (by kernel_rfl) (by kernel_rfl) (fun _ _ _ h => h) (Or.inl ⟨by rfl, ?yr1_0⟩) (by assumption) ?nr1_0
  case yr1_0 => (intro w_ hSw; (try dsimp only at hSw); go_simp; (try with_reducible rfl))
  try simp only [Act.put, List.setIfInBounds_toArray, List.set_cons_zero, List.set_cons_succ]
  refine wpAnyH_take (i := 1) (v := ?vr1_1) (Fr.take_at rfl) (by kernel_rfl) (by kernel_rfl) (by kernel_rfl) (fun _ _ _ h => h) (Or.inl ⟨by rfl, ?yr1_1⟩) (by assumption) ?nr1_1
  case yr1_1 => (intro w_ hSw; (try dsimp only at hSw); go_simp; (try with_reducible rfl))
  try simp only [Act.put, List.setIfInBounds_toArray, List.set_cons_zero, List.set_cons_succ]
  refine wpAnyH_take (i := 2) (v := ?vr1_2) (Fr.take_at rfl) (by kernel_rfl) (by kernel_rfl) (by kernel_rfl) (fun _ _ _ h => h) (Or.inl ⟨by rfl, ?yr1_2⟩) (by assumption) ?nr1_2
  case yr1_2 => (intro w_ hSw; (try dsimp only at hSw); go_simp; (try with_reducible rfl))
  try simp only [Act.put, List.setIfInBounds_toArray, List.set_cons_zero, List.set_cons_succ]
  refine wpAnyH_take (i := 3) (v := undef) (Fr.take_at rfl) (by kernel_rfl) (by kernel_rfl) (by kernel_rfl) (fun _ _ _ h => h) (Or.inr ⟨by rfl, rfl⟩) (by assumption) ?_
  try simp only [Act.put, List.setIfInBounds_toArray, List.set_cons_zero, List.set_cons_succ]
  refine wpAnyH_take (i := 4) (v := undef) (Fr.take_at rfl) (by kernel_rfl) (by kernel_rfl) (by kernel_rfl) (fun _ _ _ h => h) (Or.inr ⟨by rfl, rfl⟩) (by assumption) ?_
  try simp only [Act.put, List.setIfInBounds_toArray, List.set_cons_zero, List.set_cons_succ]
  refine wpAnyH_take (i := 5) (v := undef) (Fr.take_at rfl) (by kernel_rfl) (by kernel_rfl) (by kernel_rfl) (fun _ _ _ h => h) (Or.inr ⟨by rfl, rfl⟩) (by assumption) ?_
  try simp only [Act.put, List.setIfInBounds_toArray, List.set_cons_zero, List.set_cons_succ]
  refine wpAnyH_take (i := 6) (v := undef) (Fr.take_at rfl) (by kernel_rfl) (by kernel_rfl) (by kernel_rfl) (fun _ _ _ h => h) (Or.inr ⟨by rfl, rfl⟩) (by assumption) ?_
  try simp only [Act.put, List.setIfInBounds_toArray, List.set_cons_zero, List.set_cons_succ]
  refine wpAnyH_take (i := 7) (v := undef) (Fr.take_at rfl) (by kernel_rfl) (by kernel_rfl) (by kernel_rfl) (fun _ _ _ h => h) (Or.inr ⟨by rfl, rfl⟩) (by assumption) ?_
  try simp only [Act.put, List.setIfInBounds_toArray, List.set_cons_zero, List.set_cons_succ]
  refine wpAnyH_take (i := 8) (v := undef) (Fr.take_at rfl) (by kernel_rfl) (by kernel_rfl) (by kernel_rfl) (fun _ _ _ h => h) (Or.inr ⟨by rfl, rfl⟩) (by assumption) ?_
  try simp only [Act.put, List.setIfInBounds_toArray, List.set_cons_zero, List.set_cons_succ]
  refine wpAnyH_take (i := 9) (v := undef) (Fr.take_at rfl) (by kernel_rfl) (by kernel_rfl) (by kernel_rfl) (fun _ _ _ h => h) (Or.inr ⟨by rfl, rfl⟩) (by assumption) ?_
  try simp only [Act.put, List.setIfInBounds_toArray, List.set_cons_zero, List.set_cons_succ]
  refine wpAnyH_take (i := 10) (v := ?vr1_10) (Fr.take_at rfl) (by kernel_rfl) (by kernel_rfl) (by kernel_rfl) (fun _ _ _ h => h) (Or.inl ⟨by rfl, ?yr1_10⟩) (by assumption) ?nr1_10
  case yr1_10 => (intro w_ hSw; (try dsimp only at hSw); go_simp; (try with_reducible rfl))
  try simp only [Act.put, List.setIfInBounds_toArray, List.set_cons_zero, List.set_cons_succ]
  refine wpAnyH_done (by kernel_rfl) ?_ _
  go_upto_region 8 with fail
  have hS0 := PuS.mk (w := w) HTB.out HB4.out HE4.out
  refine wp_region_held_drew (S := PuS w.heap.size T e (ns.length : Int)) (by kernel_rfl) (by (first | (with_reducible assumption) | (with_reducible exact PuS.drew (by assumption)) | (with_reducible exact PuS.alloc (by assumption) _) | (with_reducible exact PuS.drew (PuS.drew (by assumption))) | (with_reducible exact PuS.alloc (PuS.drew (by assumption)) _) | (with_reducible exact PuS.drew (PuS.drew (PuS.alloc hS0 _))))) (fun hHeld => ?_)
  refine wpAnyH_take (i := 0) (v := ?vr2_0) (Fr.take_at rfl) (by kernel_rfl) (by kernel_rfl) (by kernel_rfl) (fun _ _ _ h => h) (Or.inl ⟨by rfl, ?yr2_0⟩) (by assumption) ?nr2_0
  case yr2_0 => (intro w_ hSw; obtain ⟨q0, q1, q2, q3, q4⟩ := hSw; go_simp; (try with_reducible rfl))
  try simp only [Act.put, List.setIfInBounds_toArray, List.set_cons_zero, List.set_cons_succ]
  refine wpAnyH_take (i := 1) (v := ?vr2_1) (Fr.take_at rfl) (by kernel_rfl) (by kernel_rfl) (by kernel_rfl) (fun _ _ _ h => h) (Or.inl ⟨by rfl, ?yr2_1⟩) (by assumption) ?nr2_1
  case yr2_1 => (intro w_ hSw; obtain ⟨q0, q1, q2, q3, q4⟩ := hSw; go_simp; (try with_reducible rfl))
  try simp only [Act.put, List.setIfInBounds_toArray, List.set_cons_zero, List.set_cons_succ]
  refine wpAnyH_take (i := 2) (v := ?vr2_2) (Fr.take_at rfl) (by kernel_rfl) (by kernel_rfl) (by kernel_rfl) (fun _ _ _ h => h) (Or.inl ⟨by rfl, ?yr2_2⟩) (by assumption) ?nr2_2
  case yr2_2 => (intro w_ hSw; obtain ⟨q0, q1, q2, q3, q4⟩ := hSw; go_simp; (try with_reducible rfl))
  try simp only [Act.put, List.setIfInBounds_toArray, List.set_cons_zero, List.set_cons_succ]
  refine wpAnyH_take (i := 3) (v := ?vr2_3) (Fr.take_at rfl) (by kernel_rfl) (by kernel_rfl) (by kernel_rfl) (fun _ _ _ h => h) (Or.inl ⟨by rfl, ?yr2_3⟩) (by assumption) ?nr2_3
  case yr2_3 => (intro w_ hSw; obtain ⟨q0, q1, q2, q3, q4⟩ := hSw; go_simp; (try with_reducible rfl))
  try simp only [Act.put, List.setIfInBounds_toArray, List.set_cons_zero, List.set_cons_succ]
  refine wpAnyH_take (i := 4) (v := ?vr2_4) (Fr.take_at rfl) (by kernel_rfl) (by kernel_rfl) (by kernel_rfl) (fun _ _ _ h => h) (Or.inl ⟨by rfl, ?yr2_4⟩) (by assumption) ?nr2_4
  case yr2_4 => (intro w_ hSw; obtain ⟨q0, q1, q2, q3, q4⟩ := hSw; go_simp; (try with_reducible rfl))
  try simp only [Act.put, List.setIfInBounds_toArray, List.set_cons_zero, List.set_cons_succ]
  refine wpAnyH_take (i := 5) (v := ?vr2_5) (Fr.take_at rfl) (by kernel_rfl) (by kernel_rfl) (by kernel_rfl) (fun _ _ _ h => h) (Or.inl ⟨by rfl, ?yr2_5⟩) (by assumption) ?nr2_5
  case yr2_5 => (intro w_ hSw; obtain ⟨q0, q1, q2, q3, q4⟩ := hSw; go_simp; (try with_reducible rfl))
  try simp only [Act.put, List.setIfInBounds_toArray, List.set_cons_zero, List.set_cons_succ]
  refine wpAnyH_ready (rs := [6]) (by kernel_rfl) (by simp) ?_
  refine AllReadyH.cons (Fr.take_at rfl) (fun K hK => ?_) AllReadyH.nil
  go_simp
  refine hK.out _ _ (by (first | (with_reducible assumption) | (with_reducible exact PuS.drew (by assumption)) | (with_reducible exact PuS.alloc (by assumption) _) | (with_reducible exact PuS.drew (PuS.drew (by assumption))) | (with_reducible exact PuS.alloc (PuS.drew (by assumption)) _) | (with_reducible exact PuS.drew (PuS.drew (PuS.alloc hS0 _))))) (fun hHeld => ?_)
  clear hK K
  try simp only [Act.put, List.setIfInBounds_toArray, List.set_cons_zero, List.set_cons_succ]
  refine wpAnyH_take (i := 7) (v := ?vr2_7) (Fr.take_at rfl) (by kernel_rfl) (by kernel_rfl) (by kernel_rfl) (fun _ _ _ h => h) (Or.inl ⟨by rfl, ?yr2_7⟩) (by assumption) ?nr2_7
  case yr2_7 => (intro w_ hSw; obtain ⟨q0, q1, q2, q3, q4⟩ := hSw; go_simp; (try with_reducible rfl))
  try simp only [Act.put, List.setIfInBounds_toArray, List.set_cons_zero, List.set_cons_succ]
  refine wpAnyH_done (by kernel_rfl) ?_ _
  have hmk := PuAt.make (p := p) (s := post ns e.k e.seq) (cnt := (ns.length : Int)) (byt := byt) (PA := w3.heap.size) HTB.out (by rw [← HP.out, pre_post]) HP.out.symm HNO.out HB4.out HE4.out ⟨_, Blk.new w3 _ _, rfl, fun l _ hl => HPL.out l hl⟩ ns.length rfl rfl
  obtain ⟨N, hN⟩ : ∃ N, N = w3.heap.size + 1 := ⟨_, rfl⟩
  rw [World.size_alloc, ← hN] at hmk
  rw [← hN]
  have HMK := Lib.hid hmk.1.drew.drew
  have HND := Lib.hid hmk.2
  have HNN := Lib.hid hN
  clear hN hmk q5 y0 y1 y2 y3
  go_wp2
  go_loopw [50] (PuInv w T ns p (post ns e.k e.seq) ⟨N, e, ns.length, 0⟩ (ns.length : Int) byt w3.heap.size w.heap.size e H) (fun x _ => H - (intOf x).toNat)
  case atStart => exact ⟨0, by omega, rfl, HMK.out⟩
  case round =>
    clear HMK
    obtain ⟨j, hj, rfl, HJ⟩ := hrel
    by_cases hjl : j < H
    · have hj12 : j < 12 := by omega
      have hjc : (j : Int) < (H : Int) := by omega
      have k1 : (0 : Int) ≤ (j : Int) := by omega
      have k2 : (j : Int) < 12 := by omega
      obtain ⟨f1, f2, ⟨u, f3⟩, f4⟩ := HJ.out.facts hj12
      obtain ⟨g1, g2, g3⟩ := HJ.out.facts2 hj12 (up_nodup j HND.out) (ptr (nextAt (post ns e.k e.seq) j))
      have hst := HJ.out.step hj12 (up_nodup j HND.out)
      have HST := Lib.hid hst
      obtain ⟨c, hc⟩ : ∃ c, c = predAt T p j := ⟨_, rfl⟩
      obtain ⟨o, hz⟩ : ∃ o, ptr (nextAt (post ns e.k e.seq) j) = .pointer o := ptr_form _
      rw [← hc] at f1 f2 g1 g2 g3 HST
      rw [hz] at f2 g1 g2 g3 HST
      have G2 := Lib.hid g2
      have hP0 : PuF w3.heap.size c N j (.pointer o) wr := ⟨f1, f2, ⟨u, f3⟩, f4⟩
      have hP1 : PuF w3.heap.size c N j (.pointer o) (wr.setCell ⟨N, 5 + j, none⟩ (.pointer o)) := ⟨g3, g1, setCell_some f3, setCell_froz f4⟩
      have f5 : wr.cell? ⟨N, 5 + j, none⟩ = some u := f3
      have f6 : wr.frozen? ⟨N, 5 + j, none⟩ = false := f4
      clear hst hc hz f3 f4 g1 g2 g3
      have g4 := hP1.2.1
      have g5 : (wr.setCell ⟨N, 5 + j, none⟩ (.pointer o)).frozen? ⟨c, 5 + j, none⟩ = false := G2.out
      have g6 := hP1.1
      go_upto_region 12 with fail
      refine wp_region_held_drew (S := PuF w3.heap.size c N j (.pointer o)) (by kernel_rfl) (by (first | (with_reducible assumption) | (with_reducible exact PuF.drew (by assumption)) | (with_reducible exact PuF.drew (PuF.drew (by assumption))))) (fun hHeld => ?_)
      refine wpAnyH_take (i := 0) (v := ?vr3_0) (Fr.take_at rfl) (by kernel_rfl) (by kernel_rfl) (by kernel_rfl) (fun _ _ _ h => h) (Or.inl ⟨by rfl, ?yr3_0⟩) (by assumption) ?nr3_0
      case yr3_0 => (intro w_ hSw; obtain ⟨z1, z2, ⟨uu, z3⟩, z4⟩ := hSw; go_simp; (try with_reducible rfl))
      try simp only [Act.put, List.setIfInBounds_toArray, List.set_cons_zero, List.set_cons_succ]
      refine wpAnyH_take (i := 1) (v := ?vr3_1) (Fr.take_at rfl) (by kernel_rfl) (by kernel_rfl) (by kernel_rfl) (fun _ _ _ h => h) (Or.inl ⟨by rfl, ?yr3_1⟩) (by assumption) ?nr3_1
      case yr3_1 => (intro w_ hSw; obtain ⟨z1, z2, ⟨uu, z3⟩, z4⟩ := hSw; go_simp; (try with_reducible rfl))
      try simp only [Act.put, List.setIfInBounds_toArray, List.set_cons_zero, List.set_cons_succ]
      refine wpAnyH_take (i := 2) (v := ?vr3_2) (Fr.take_at rfl) (by kernel_rfl) (by kernel_rfl) (by kernel_rfl) (fun _ _ _ h => h) (Or.inl ⟨by rfl, ?yr3_2⟩) (by assumption) ?nr3_2
      case yr3_2 => (intro w_ hSw; obtain ⟨z1, z2, ⟨uu, z3⟩, z4⟩ := hSw; go_simp; (try with_reducible rfl))
      try simp only [Act.put, List.setIfInBounds_toArray, List.set_cons_zero, List.set_cons_succ]
      refine wpAnyH_take (i := 3) (v := ?vr3_3) (Fr.take_at rfl) (by kernel_rfl) (by kernel_rfl) (by kernel_rfl) (fun _ _ _ h => h) (Or.inl ⟨by rfl, ?yr3_3⟩) (by assumption) ?nr3_3
      case yr3_3 => (intro w_ hSw; obtain ⟨z1, z2, ⟨uu, z3⟩, z4⟩ := hSw; go_simp; (try with_reducible rfl))
      try simp only [Act.put, List.setIfInBounds_toArray, List.set_cons_zero, List.set_cons_succ]
      refine wpAnyH_take (i := 4) (v := ?vr3_4) (Fr.take_at rfl) (by kernel_rfl) (by kernel_rfl) (by kernel_rfl) (fun _ _ _ h => h) (Or.inl ⟨by rfl, ?yr3_4⟩) (by assumption) ?nr3_4
      case yr3_4 => (intro w_ hSw; obtain ⟨z1, z2, ⟨uu, z3⟩, z4⟩ := hSw; go_simp; (try with_reducible rfl))
      try simp only [Act.put, List.setIfInBounds_toArray, List.set_cons_zero, List.set_cons_succ]
      refine wpAnyH_take (i := 5) (v := ?vr3_5) (Fr.take_at rfl) (by kernel_rfl) (by kernel_rfl) (by kernel_rfl) (fun _ _ _ h => h) (Or.inl ⟨by rfl, ?yr3_5⟩) (by assumption) ?nr3_5
      case yr3_5 => (intro w_ hSw; obtain ⟨z1, z2, ⟨uu, z3⟩, z4⟩ := hSw; go_simp; (try with_reducible rfl))
      try simp only [Act.put, List.setIfInBounds_toArray, List.set_cons_zero, List.set_cons_succ]
      refine wpAnyH_take (i := 6) (v := ?vr3_6) (Fr.take_at rfl) (by kernel_rfl) (by kernel_rfl) (by kernel_rfl) (fun _ _ _ h => h) (Or.inl ⟨by rfl, ?yr3_6⟩) (by assumption) ?nr3_6
      case yr3_6 => (intro w_ hSw; obtain ⟨z1, z2, ⟨uu, z3⟩, z4⟩ := hSw; go_simp; (try with_reducible rfl))
      try simp only [Act.put, List.setIfInBounds_toArray, List.set_cons_zero, List.set_cons_succ]
      refine wpAnyH_take (i := 7) (v := ?vr3_7) (Fr.take_at rfl) (by kernel_rfl) (by kernel_rfl) (by kernel_rfl) (fun _ _ _ h => h) (Or.inl ⟨by rfl, ?yr3_7⟩) (by assumption) ?nr3_7
      case yr3_7 => (intro w_ hSw; obtain ⟨z1, z2, ⟨uu, z3⟩, z4⟩ := hSw; go_simp; (try with_reducible rfl))
      try simp only [Act.put, List.setIfInBounds_toArray, List.set_cons_zero, List.set_cons_succ]
      refine wpAnyH_take (i := 8) (v := ?vr3_8) (Fr.take_at rfl) (by kernel_rfl) (by kernel_rfl) (by kernel_rfl) (fun _ _ _ h => h) (Or.inl ⟨by rfl, ?yr3_8⟩) (by assumption) ?nr3_8
      case yr3_8 => (intro w_ hSw; obtain ⟨z1, z2, ⟨uu, z3⟩, z4⟩ := hSw; go_simp; (try with_reducible rfl))
      try simp only [Act.put, List.setIfInBounds_toArray, List.set_cons_zero, List.set_cons_succ]
      refine wpAnyH_take (i := 9) (v := ?vr3_9) (Fr.take_at rfl) (by kernel_rfl) (by kernel_rfl) (by kernel_rfl) (fun _ _ _ h => h) (Or.inl ⟨by rfl, ?yr3_9⟩) (by assumption) ?nr3_9
      case yr3_9 => (intro w_ hSw; obtain ⟨z1, z2, ⟨uu, z3⟩, z4⟩ := hSw; go_simp; (try with_reducible rfl))
      try simp only [Act.put, List.setIfInBounds_toArray, List.set_cons_zero, List.set_cons_succ]
      refine wpAnyH_take (i := 10) (v := ?vr3_10) (Fr.take_at rfl) (by kernel_rfl) (by kernel_rfl) (by kernel_rfl) (fun _ _ _ h => h) (Or.inl ⟨by rfl, ?yr3_10⟩) (by assumption) ?nr3_10
      case yr3_10 => (intro w_ hSw; obtain ⟨z1, z2, ⟨uu, z3⟩, z4⟩ := hSw; go_simp; (try with_reducible rfl))
      try simp only [Act.put, List.setIfInBounds_toArray, List.set_cons_zero, List.set_cons_succ]
      refine wpAnyH_take (i := 11) (v := ?vr3_11) (Fr.take_at rfl) (by kernel_rfl) (by kernel_rfl) (by kernel_rfl) (fun _ _ _ h => h) (Or.inl ⟨by rfl, ?yr3_11⟩) (by assumption) ?nr3_11
      case yr3_11 => (intro w_ hSw; obtain ⟨z1, z2, ⟨uu, z3⟩, z4⟩ := hSw; go_simp; (try with_reducible rfl))
      try simp only [Act.put, List.setIfInBounds_toArray, List.set_cons_zero, List.set_cons_succ]
      refine wpAnyH_take (i := 12) (v := ?vr3_12) (Fr.take_at rfl) (by kernel_rfl) (by kernel_rfl) (by kernel_rfl) (fun _ _ _ h => h) (Or.inl ⟨by rfl, ?yr3_12⟩) (by assumption) ?nr3_12
      case yr3_12 => (intro w_ hSw; obtain ⟨z1, z2, ⟨uu, z3⟩, z4⟩ := hSw; go_simp; (try with_reducible rfl))
      try simp only [Act.put, List.setIfInBounds_toArray, List.set_cons_zero, List.set_cons_succ]
      refine wpAnyH_ready (rs := [13]) (by kernel_rfl) (by simp) ?_
      refine AllReadyH.cons (Fr.take_at rfl) (fun K hK => ?_) AllReadyH.nil
      go_simp
      refine hK.out _ _ (by (first | (with_reducible assumption) | (with_reducible exact PuF.drew (by assumption)) | (with_reducible exact PuF.drew (PuF.drew (by assumption))))) (fun hHeld => ?_)
      clear hK K
      try simp only [Act.put, List.setIfInBounds_toArray, List.set_cons_zero, List.set_cons_succ]
      refine wpAnyH_done (by kernel_rfl) ?_ _
      go_wp2
      go_roundw
      case rel => exact ⟨j + 1, by omega, by simp, Lib.hid HST.out.drew⟩
      case measure => simp [intOf]; omega
    · have hjc : ¬ (j : Int) < (H : Int) := by omega
      obtain rfl : j = H := by omega
      obtain ⟨a1, a2, a3, a4, a5, a6, a7, a8⟩ := HJ.out.ends
      have hl1 : ((ns.length : Int) + 1) = ((ns.length + 1 : Nat) : Int) := by omega
      have hF0 : PuG T w.heap.size e (wr.setCell ⟨T, 17, none⟩ (.int .i64 ((ns.length : Int) + 1))) := PuG.mk HJ.out
      clear hl1
      go_wp2
      have b2 : (wr.setCell ⟨T, 17, none⟩ (.int .i64 ((ns.length : Int) + 1))).cell? ⟨T, 18, none⟩ = some (.int .i64 byt) := (World.cell?_setCell_other _ _ _ _ (by simp)).trans a2
      have b4 : (wr.setCell ⟨T, 17, none⟩ (.int .i64 ((ns.length : Int) + 1))).frozen? ⟨T, 18, none⟩ = false := setCell_froz2 a4
      refine wp_region_held_drew (S := PuG T w.heap.size e) (by kernel_rfl) (by (first | (with_reducible assumption) | (with_reducible exact PuG.drew (by assumption)) | (with_reducible exact PuG.drew (PuG.drew (by assumption))) | exact PuG.set (by assumption) _ | exact (PuG.set hF0 _).drew)) (fun hHeld => ?_)
      refine wpAnyH_take (i := 0) (v := ?vr4_0) (Fr.take_at rfl) (by kernel_rfl) (by kernel_rfl) (by kernel_rfl) (fun _ _ _ h => h) (Or.inl ⟨by rfl, ?yr4_0⟩) (by assumption) ?nr4_0
      case yr4_0 => (intro w_ hSw; obtain ⟨z1, z2, z3⟩ := hSw; go_simp; (try with_reducible rfl))
      try simp only [Act.put, List.setIfInBounds_toArray, List.set_cons_zero, List.set_cons_succ]
      refine wpAnyH_take (i := 1) (v := ?vr4_1) (Fr.take_at rfl) (by kernel_rfl) (by kernel_rfl) (by kernel_rfl) (fun _ _ _ h => h) (Or.inl ⟨by rfl, ?yr4_1⟩) (by assumption) ?nr4_1
      case yr4_1 => (intro w_ hSw; obtain ⟨z1, z2, z3⟩ := hSw; go_simp; (try with_reducible rfl))
      try simp only [Act.put, List.setIfInBounds_toArray, List.set_cons_zero, List.set_cons_succ]
      refine wpAnyH_take (i := 2) (v := ?vr4_2) (Fr.take_at rfl) (by kernel_rfl) (by kernel_rfl) (by kernel_rfl) (fun _ _ _ h => h) (Or.inl ⟨by rfl, ?yr4_2⟩) (by assumption) ?nr4_2
      case yr4_2 => (intro w_ hSw; obtain ⟨z1, z2, z3⟩ := hSw; go_simp; (try with_reducible rfl))
      try simp only [Act.put, List.setIfInBounds_toArray, List.set_cons_zero, List.set_cons_succ]
      refine wpAnyH_take (i := 4) (v := ?vr4_4) (Fr.take_at rfl) (by kernel_rfl) (by kernel_rfl) (by kernel_rfl) (fun _ _ _ h => h) (Or.inl ⟨by rfl, ?yr4_4⟩) (by assumption) ?nr4_4
      case yr4_4 => (intro w_ hSw; obtain ⟨z1, z2, z3⟩ := hSw; go_simp; (try with_reducible rfl))
      try simp only [Act.put, List.setIfInBounds_toArray, List.set_cons_zero, List.set_cons_succ]
      refine wpAnyH_take (i := 5) (v := ?vr4_5) (Fr.take_at rfl) (by kernel_rfl) (by kernel_rfl) (by kernel_rfl) (fun _ _ _ h => h) (Or.inl ⟨by rfl, ?yr4_5⟩) (by assumption) ?nr4_5
      case yr4_5 => (intro w_ hSw; obtain ⟨z1, z2, z3⟩ := hSw; go_simp; (try with_reducible rfl))
      try simp only [Act.put, List.setIfInBounds_toArray, List.set_cons_zero, List.set_cons_succ]
      refine wpAnyH_take (i := 6) (v := ?vr4_6) (Fr.take_at rfl) (by kernel_rfl) (by kernel_rfl) (by kernel_rfl) (fun _ _ _ h => h) (Or.inl ⟨by rfl, ?yr4_6⟩) (by assumption) ?nr4_6
      case yr4_6 => (intro w_ hSw; obtain ⟨z1, z2, z3⟩ := hSw; go_simp; (try with_reducible rfl))
      try simp only [Act.put, List.setIfInBounds_toArray, List.set_cons_zero, List.set_cons_succ]
      refine wpAnyH_take (i := 7) (v := ?vr4_7) (Fr.take_at rfl) (by kernel_rfl) (by kernel_rfl) (by kernel_rfl) (fun _ _ _ h => h) (Or.inl ⟨by rfl, ?yr4_7⟩) (by assumption) ?nr4_7
      case yr4_7 => (intro w_ hSw; obtain ⟨z1, z2, z3⟩ := hSw; go_simp; (try with_reducible rfl))
      try simp only [Act.put, List.setIfInBounds_toArray, List.set_cons_zero, List.set_cons_succ]
      refine wpAnyH_take (i := 8) (v := ?vr4_8) (Fr.take_at rfl) (by kernel_rfl) (by kernel_rfl) (by kernel_rfl) (fun _ _ _ h => h) (Or.inl ⟨by rfl, ?yr4_8⟩) (by assumption) ?nr4_8
      case yr4_8 => (intro w_ hSw; obtain ⟨z1, z2, z3⟩ := hSw; go_simp; (try with_reducible rfl))
      try simp only [Act.put, List.setIfInBounds_toArray, List.set_cons_zero, List.set_cons_succ]
      refine wpAnyH_take (i := 9) (v := ?vr4_9) (Fr.take_at rfl) (by kernel_rfl) (by kernel_rfl) (by kernel_rfl) (fun _ _ _ h => h) (Or.inl ⟨by rfl, ?yr4_9⟩) (by assumption) ?nr4_9
      case yr4_9 => (intro w_ hSw; obtain ⟨z1, z2, z3⟩ := hSw; go_simp; (try with_reducible rfl))
      try simp only [Act.put, List.setIfInBounds_toArray, List.set_cons_zero, List.set_cons_succ]
      refine wpAnyH_take (i := 10) (v := ?vr4_10) (Fr.take_at rfl) (by kernel_rfl) (by kernel_rfl) (by kernel_rfl) (fun _ _ _ h => h) (Or.inl ⟨by rfl, ?yr4_10⟩) (by assumption) ?nr4_10
      case yr4_10 => (intro w_ hSw; obtain ⟨z1, z2, z3⟩ := hSw; go_simp; (try with_reducible rfl))
      try simp only [Act.put, List.setIfInBounds_toArray, List.set_cons_zero, List.set_cons_succ]
      refine wpAnyH_ready (rs := [3]) (by kernel_rfl) (by simp) ?_
      refine AllReadyH.cons (Fr.take_at rfl) (fun K hK => ?_) AllReadyH.nil
      go_simp
      refine hK.out _ _ (by (first | (with_reducible assumption) | (with_reducible exact PuG.drew (by assumption)) | (with_reducible exact PuG.drew (PuG.drew (by assumption))) | exact PuG.set (by assumption) _ | exact (PuG.set hF0 _).drew)) (fun hHeld => ?_)
      clear hK K
      try simp only [Act.put, List.setIfInBounds_toArray, List.set_cons_zero, List.set_cons_succ]
      refine wpAnyH_take (i := 11) (v := ?vr4_11) (Fr.take_at rfl) (by kernel_rfl) (by kernel_rfl) (by kernel_rfl) (fun _ _ _ h => h) (Or.inl ⟨by rfl, ?yr4_11⟩) (by assumption) ?nr4_11
      case yr4_11 => (intro w_ hSw; obtain ⟨z1, z2, z3⟩ := hSw; go_simp; (try with_reducible rfl))
      try simp only [Act.put, List.setIfInBounds_toArray, List.set_cons_zero, List.set_cons_succ]
      refine wpAnyH_take (i := 12) (v := ?vr4_12) (Fr.take_at rfl) (by kernel_rfl) (by kernel_rfl) (by kernel_rfl) (fun _ _ _ h => h) (Or.inl ⟨by rfl, ?yr4_12⟩) (by assumption) ?nr4_12
      case yr4_12 => (intro w_ hSw; obtain ⟨z1, z2, z3⟩ := hSw; go_simp; (try with_reducible rfl))
      try simp only [Act.put, List.setIfInBounds_toArray, List.set_cons_zero, List.set_cons_succ]
      refine wpAnyH_take (i := 13) (v := ?vr4_13) (Fr.take_at rfl) (by kernel_rfl) (by kernel_rfl) (by kernel_rfl) (fun _ _ _ h => h) (Or.inl ⟨by rfl, ?yr4_13⟩) (by assumption) ?nr4_13
      case yr4_13 => (intro w_ hSw; obtain ⟨z1, z2, z3⟩ := hSw; go_simp; (try with_reducible rfl))
      try simp only [Act.put, List.setIfInBounds_toArray, List.set_cons_zero, List.set_cons_succ]
      refine wpAnyH_ready (rs := [14]) (by kernel_rfl) (by simp) ?_
      refine AllReadyH.cons (Fr.take_at rfl) (fun K hK => ?_) AllReadyH.nil
      go_simp
      refine hK.out _ _ (by (first | (with_reducible assumption) | (with_reducible exact PuG.drew (by assumption)) | (with_reducible exact PuG.drew (PuG.drew (by assumption))) | exact PuG.set (by assumption) _ | exact (PuG.set hF0 _).drew)) (fun hHeld => ?_)
      clear hK K
      try simp only [Act.put, List.setIfInBounds_toArray, List.set_cons_zero, List.set_cons_succ]
      refine wpAnyH_done (by kernel_rfl) ?_ _
      go_wp2
      go_ret
      refine ⟨rfl, N, j, hH1, hH2, ?_⟩
      have hw : IntKind.i64.wrap (byt + IntKind.i64.wrap ((e.key.size : Int) + (e.val.size : Int))) = byt + ((e.key.size : Int) + (e.val.size : Int)) := by
        rw [IntWalk.i64_in ((e.key.size : Int) + (e.val.size : Int)) (by omega), IntWalk.i64_in _ (by omega)]
      rw [hw, HP.out]
      have hd := HJ.out.done HTB.out ⟨hH1, hH2⟩ (up_nodup j HND.out) (byt' := byt + ((e.key.size : Int) + (e.val.size : Int))) (by omega)
      exact ⟨HJ.out.newN, hd.1, hd.2⟩
end

end Mm
end Go.Proofs.Ytfnfjhfmhinkcaa
