/-
  WHAT IS PROVED: what From answers. CONDITIONS: the table and its nodes stand in memory as named.
-/
import Derived.Test.YtfnfjhfmhinkcaaMEq
namespace Go.Proofs.Ytfnfjhfmhinkcaa
open Go Go.RowKit Go.Maps Go.Sort Go.Proofs.Ytfnfjhfmhinkcaa.Fr
namespace Mm
/-- From this key on: those whose key isn't ahead of it. -/
def fromN (ns : List Nd) (k : List UInt8) : List Nd := post ns k 9223372036854775807
section
variable {w w' : World} {T : Nat} {ns : List Nd} {cnt byt : Int}
/-- What From leaves: two boxes. -/
def FromRet (w : World) (ns : List Nd) (cnt : Int) (k : List UInt8) (e : Ending) (w' : World) : Prop :=
  ∃ b1 b2, e = .returned (.func (.func 20) #[] #[.pointer (some ⟨b1, 0, none⟩), .pointer (some ⟨b2, 0, none⟩)]) ∧ Blk w' b1 49 #[ptr ((fromN ns k).head?.map (·.blk))] ∧ Blk w' b2 3 #[.int .i64 cnt] ∧ w.heap.size ≤ b1 ∧ w.heap.size ≤ b2 ∧ b1 ≠ b2 ∧ Below w.heap.size w w'
theorem Rep.counts (h : Rep w T ns cnt byt) : w.cell? ⟨T, 17, none⟩ = some (.int .i64 cnt) := by
  obtain ⟨⟨cs, hb, _, _, h1, _⟩, _, _⟩ := h
  exact (hb.cell 17).trans h1
theorem facts2 {W W2 : World} (h : Below W.heap.size W W2) {b : Nat} {t : TypeId} {cs : Array Value} {u : Value} (hb : Blk W b t cs) (hu : cs[0]? = some u) :
    W2.cell? ⟨b, 0, none⟩ = some u ∧ W2.frozen? ⟨b, 0, none⟩ = false ∧ (∀ o, (W2.alloc o).cell? ⟨b, 0, none⟩ = some u) ∧ (∀ o, (W2.alloc o).frozen? ⟨b, 0, none⟩ = false) ∧ ¬ W2.heap.size = b ∧ ¬ b = W2.heap.size :=
  have h1 : Blk W2 b t cs := hb.same (h.block b hb.lt)
  ⟨(h1.cell 0).trans hu, h1.frozen 0, fun o => ((h1.alloc o).cell 0).trans hu, fun o => (h1.alloc o).frozen 0, fun e => absurd h1.lt (by omega), fun e => absurd h1.lt (by omega)⟩
theorem blk_new2 (W : World) (o : Obj) (t : TypeId) (cs : Array Value) : Blk ((W.alloc o).alloc (.cells cs t)) (W.heap.size + 1) t cs := by
  have := Blk.new (W.alloc o) t cs
  rwa [World.size_alloc] at this
theorem bel_alloc {w w' : World} (h : Below w.heap.size w w') (o : Obj) : Below w.heap.size w (w'.alloc o) := h.alloc h.size o
set_option maxRecDepth 100000 in
set_option maxHeartbeats 1600000 in
theorem from_any (h : Rep w T ns cnt byt) (hg : Good ns) (k : ByteArray) :
    Calls Try.prog 11 #[.pointer (some ⟨T, 0, none⟩), .string k] w (FromRet w ns cnt k.toList) := by
  have hlt := h.lt
  have hs := fun W (hW : Below w.heap.size w W) => seek_any (h.below hW) hg k 9223372036854775807
  have hc := h.counts
  have hq : ∀ W, Below w.heap.size w W → W.cell? ⟨T, 17, none⟩ = some (.int .i64 cnt) := fun W hW => (hW.cell (p := ⟨T, 17, none⟩) hlt).trans hc
  obtain ⟨v, hv⟩ : ∃ v, Value.pointer v = ptr ((fromN ns k.toList).head?.map (·.blk)) := by cases (fromN ns k.toList).head?.map (·.blk) <;> exact ⟨_, rfl⟩
  have hs2 : ∀ W, Below w.heap.size w W → Calls Try.prog 19 #[.pointer (some ⟨T, 0, none⟩), .string k, .int .i64 9223372036854775807] W fun e w' => e = .returned (.pointer v) ∧ Below W.heap.size W w' := fun W hW => by rw [hv]; exact hs W hW
  have HQ := Lib.hid hq
  have HS := Lib.hid hs2
  have HV := Lib.hid hv
  clear hs hs2 hq hv hc h hg
  go_enter Try.func11, Try.ntmps11
  go_wp2
  refine wp_region_held_drew (S := fun W => Below w.heap.size w W) (by kernel_rfl) (by (first | assumption | exact below_drewN (Below.refl _ _) 1 | exact bel_alloc (by assumption) _ | exact bel_alloc (bel_alloc (by assumption) _) _ | exact bel_alloc (bel_alloc (bel_alloc (by assumption) _) _) _ | exact below_set (by assumption) (Below.size (by assumption)) _ | exact below_set (by assumption) (by simp) _ | exact below_set (by assumption) (by have h_ := hsz2; simp; omega) _)) (fun hHeld => ?_)
  refine wpAnyH_take (i := 0) (v := ?vr1x_0) (Fr.take_at rfl) (by kernel_rfl) (by kernel_rfl) (by kernel_rfl) (fun _ _ _ h => h) (Or.inl ⟨by rfl, ?yr1x_0⟩) (by assumption) ?nr1x_0
  case yr1x_0 => (intro w_ hSw; have q0 := HQ.out _ hSw; go_simp; (try with_reducible rfl))
  try simp only [Act.put, List.setIfInBounds_toArray, List.set_cons_zero, List.set_cons_succ]
  refine wpAnyH_take (i := 1) (v := ?vr1x_1) (Fr.take_at rfl) (by kernel_rfl) (by kernel_rfl) (by kernel_rfl) (fun _ _ _ h => h) (Or.inl ⟨by rfl, ?yr1x_1⟩) (by assumption) ?nr1x_1
  case yr1x_1 => (intro w_ hSw; have q0 := HQ.out _ hSw; go_simp; (try with_reducible rfl))
  try simp only [Act.put, List.setIfInBounds_toArray, List.set_cons_zero, List.set_cons_succ]
  refine wpAnyH_take (i := 3) (v := ?vr1x_3) (Fr.take_at rfl) (by kernel_rfl) (by kernel_rfl) (by kernel_rfl) (fun _ _ _ h => h) (Or.inl ⟨by rfl, ?yr1x_3⟩) (by assumption) ?nr1x_3
  case yr1x_3 => (intro w_ hSw; have q0 := HQ.out _ hSw; go_simp; (try with_reducible rfl))
  try simp only [Act.put, List.setIfInBounds_toArray, List.set_cons_zero, List.set_cons_succ]
  refine wpAnyH_take (i := 4) (v := ?vr1x_4) (Fr.take_at rfl) (by kernel_rfl) (by kernel_rfl) (by kernel_rfl) (fun _ _ _ h => h) (Or.inl ⟨by rfl, ?yr1x_4⟩) (by assumption) ?nr1x_4
  case yr1x_4 => (intro w_ hSw; have q0 := HQ.out _ hSw; go_simp; (try with_reducible rfl))
  try simp only [Act.put, List.setIfInBounds_toArray, List.set_cons_zero, List.set_cons_succ]
  refine wpAnyH_take (i := 5) (v := ?vr1x_5) (Fr.take_at rfl) (by kernel_rfl) (by kernel_rfl) (by kernel_rfl) (fun _ _ _ h => h) (Or.inl ⟨by rfl, ?yr1x_5⟩) (by assumption) ?nr1x_5
  case yr1x_5 => (intro w_ hSw; have q0 := HQ.out _ hSw; go_simp; (try with_reducible rfl))
  try simp only [Act.put, List.setIfInBounds_toArray, List.set_cons_zero, List.set_cons_succ]
  refine wpAnyH_take (i := 6) (v := ?vr1x_6) (Fr.take_at rfl) (by kernel_rfl) (by kernel_rfl) (by kernel_rfl) (fun _ _ _ h => h) (Or.inl ⟨by rfl, ?yr1x_6⟩) (by assumption) ?nr1x_6
  case yr1x_6 => (intro w_ hSw; have q0 := HQ.out _ hSw; go_simp; (try with_reducible rfl))
  try simp only [Act.put, List.setIfInBounds_toArray, List.set_cons_zero, List.set_cons_succ]
  refine wpAnyH_ready (rs := [2, 7, 8]) (by kernel_rfl) (by simp) ?_
  refine AllReadyH.cons (Fr.take_at rfl) (fun K hK => ?_) (AllReadyH.cons (Fr.take_at rfl) (fun K hK => ?_) (AllReadyH.cons (Fr.take_at rfl) (fun K hK => ?_) AllReadyH.nil))
  go_simp
  (go_at_call 19; refine (HS.out _ (by assumption)).mono ?_; rintro e w2 ⟨rfl, hb2⟩; have hb3 : Below w.heap.size w w2 := (by assumption : Below w.heap.size w _).trans (hb2.mono (Below.size (by assumption))); have hsz2 := hb3.size; (try (have y0 := facts2 hb2 (Blk.new _ _ _) rfl; (try simp only [World.size_alloc] at y0); (try simp only [World.size_drew] at y0); obtain ⟨y01, y02, y03, y04, y05, y06⟩ := y0)); (try (have y0 := facts2 hb2 ((Blk.new _ _ _).alloc _) rfl; (try simp only [World.size_alloc] at y0); (try simp only [World.size_drew] at y0); obtain ⟨y11, y12, y13, y14, y15, y16⟩ := y0)))
  try go_wp2_with fail
  refine hK.out _ _ (by (first | assumption | exact below_drewN (Below.refl _ _) 1 | exact bel_alloc (by assumption) _ | exact bel_alloc (bel_alloc (by assumption) _) _ | exact bel_alloc (bel_alloc (bel_alloc (by assumption) _) _) _ | exact below_set (by assumption) (Below.size (by assumption)) _ | exact below_set (by assumption) (by simp) _ | exact below_set (by assumption) (by have h_ := hsz2; simp; omega) _)) (fun hHeld => ?_)
  clear hK K
  try simp only [Act.put, List.setIfInBounds_toArray, List.set_cons_zero, List.set_cons_succ]
  refine wpAnyH_ready (rs := [7, 8]) (by kernel_rfl) (by simp) ?_
  refine AllReadyH.cons (Fr.take_at rfl) (fun K hK => ?_) (AllReadyH.cons (Fr.take_at rfl) (fun K hK => ?_) AllReadyH.nil)
  go_simp
  refine hK.out _ _ (by (first | assumption | exact below_drewN (Below.refl _ _) 1 | exact bel_alloc (by assumption) _ | exact bel_alloc (bel_alloc (by assumption) _) _ | exact bel_alloc (bel_alloc (bel_alloc (by assumption) _) _) _ | exact below_set (by assumption) (Below.size (by assumption)) _ | exact below_set (by assumption) (by simp) _ | exact below_set (by assumption) (by have h_ := hsz2; simp; omega) _)) (fun hHeld => ?_)
  clear hK K
  try simp only [Act.put, List.setIfInBounds_toArray, List.set_cons_zero, List.set_cons_succ]
  refine wpAnyH_ready (rs := [8]) (by kernel_rfl) (by simp) ?_
  refine AllReadyH.cons (Fr.take_at rfl) (fun K hK => ?_) AllReadyH.nil
  go_simp
  refine hK.out _ _ (by (first | assumption | exact below_drewN (Below.refl _ _) 1 | exact bel_alloc (by assumption) _ | exact bel_alloc (bel_alloc (by assumption) _) _ | exact bel_alloc (bel_alloc (bel_alloc (by assumption) _) _) _ | exact below_set (by assumption) (Below.size (by assumption)) _ | exact below_set (by assumption) (by simp) _ | exact below_set (by assumption) (by have h_ := hsz2; simp; omega) _)) (fun hHeld => ?_)
  clear hK K
  try simp only [Act.put, List.setIfInBounds_toArray, List.set_cons_zero, List.set_cons_succ]
  refine wpAnyH_ready (rs := [9]) (by kernel_rfl) (by simp) ?_
  refine AllReadyH.cons (Fr.take_at rfl) (fun K hK => ?_) AllReadyH.nil
  go_simp
  refine hK.out _ _ (by (first | assumption | exact below_drewN (Below.refl _ _) 1 | exact bel_alloc (by assumption) _ | exact bel_alloc (bel_alloc (by assumption) _) _ | exact bel_alloc (bel_alloc (bel_alloc (by assumption) _) _) _ | exact below_set (by assumption) (Below.size (by assumption)) _ | exact below_set (by assumption) (by simp) _ | exact below_set (by assumption) (by have h_ := hsz2; simp; omega) _)) (fun hHeld => ?_)
  clear hK K
  try simp only [Act.put, List.setIfInBounds_toArray, List.set_cons_zero, List.set_cons_succ]
  refine wpAnyH_ready (rs := [10]) (by kernel_rfl) (by simp) ?_
  refine AllReadyH.cons (Fr.take_at rfl) (fun K hK => ?_) AllReadyH.nil
  go_simp
  refine hK.out _ _ (by (first | assumption | exact below_drewN (Below.refl _ _) 1 | exact bel_alloc (by assumption) _ | exact bel_alloc (bel_alloc (by assumption) _) _ | exact bel_alloc (bel_alloc (bel_alloc (by assumption) _) _) _ | exact below_set (by assumption) (Below.size (by assumption)) _ | exact below_set (by assumption) (by simp) _ | exact below_set (by assumption) (by have h_ := hsz2; simp; omega) _)) (fun hHeld => ?_)
  clear hK K
  try simp only [Act.put, List.setIfInBounds_toArray, List.set_cons_zero, List.set_cons_succ]
  refine wpAnyH_done (by kernel_rfl) ?_ _
  rotate_left
  go_simp
  refine hK.out _ _ (by (first | assumption | exact below_drewN (Below.refl _ _) 1 | exact bel_alloc (by assumption) _ | exact bel_alloc (bel_alloc (by assumption) _) _ | exact bel_alloc (bel_alloc (bel_alloc (by assumption) _) _) _ | exact below_set (by assumption) (Below.size (by assumption)) _ | exact below_set (by assumption) (by simp) _ | exact below_set (by assumption) (by have h_ := hsz2; simp; omega) _)) (fun hHeld => ?_)
  clear hK K
  try simp only [Act.put, List.setIfInBounds_toArray, List.set_cons_zero, List.set_cons_succ]
  refine wpAnyH_ready (rs := [7]) (by kernel_rfl) (by simp) ?_
  refine AllReadyH.cons (Fr.take_at rfl) (fun K hK => ?_) AllReadyH.nil
  go_simp
  refine hK.out _ _ (by (first | assumption | exact below_drewN (Below.refl _ _) 1 | exact bel_alloc (by assumption) _ | exact bel_alloc (bel_alloc (by assumption) _) _ | exact bel_alloc (bel_alloc (bel_alloc (by assumption) _) _) _ | exact below_set (by assumption) (Below.size (by assumption)) _ | exact below_set (by assumption) (by simp) _ | exact below_set (by assumption) (by have h_ := hsz2; simp; omega) _)) (fun hHeld => ?_)
  clear hK K
  try simp only [Act.put, List.setIfInBounds_toArray, List.set_cons_zero, List.set_cons_succ]
  refine wpAnyH_ready (rs := [9]) (by kernel_rfl) (by simp) ?_
  refine AllReadyH.cons (Fr.take_at rfl) (fun K hK => ?_) AllReadyH.nil
  go_simp
  refine hK.out _ _ (by (first | assumption | exact below_drewN (Below.refl _ _) 1 | exact bel_alloc (by assumption) _ | exact bel_alloc (bel_alloc (by assumption) _) _ | exact bel_alloc (bel_alloc (bel_alloc (by assumption) _) _) _ | exact below_set (by assumption) (Below.size (by assumption)) _ | exact below_set (by assumption) (by simp) _ | exact below_set (by assumption) (by have h_ := hsz2; simp; omega) _)) (fun hHeld => ?_)
  clear hK K
  try simp only [Act.put, List.setIfInBounds_toArray, List.set_cons_zero, List.set_cons_succ]
  refine wpAnyH_ready (rs := [10]) (by kernel_rfl) (by simp) ?_
  refine AllReadyH.cons (Fr.take_at rfl) (fun K hK => ?_) AllReadyH.nil
  go_simp
  refine hK.out _ _ (by (first | assumption | exact below_drewN (Below.refl _ _) 1 | exact bel_alloc (by assumption) _ | exact bel_alloc (bel_alloc (by assumption) _) _ | exact bel_alloc (bel_alloc (bel_alloc (by assumption) _) _) _ | exact below_set (by assumption) (Below.size (by assumption)) _ | exact below_set (by assumption) (by simp) _ | exact below_set (by assumption) (by have h_ := hsz2; simp; omega) _)) (fun hHeld => ?_)
  clear hK K
  try simp only [Act.put, List.setIfInBounds_toArray, List.set_cons_zero, List.set_cons_succ]
  refine wpAnyH_done (by kernel_rfl) ?_ _
  rotate_left
  go_simp
  refine hK.out _ _ (by (first | assumption | exact below_drewN (Below.refl _ _) 1 | exact bel_alloc (by assumption) _ | exact bel_alloc (bel_alloc (by assumption) _) _ | exact bel_alloc (bel_alloc (bel_alloc (by assumption) _) _) _ | exact below_set (by assumption) (Below.size (by assumption)) _ | exact below_set (by assumption) (by simp) _ | exact below_set (by assumption) (by have h_ := hsz2; simp; omega) _)) (fun hHeld => ?_)
  clear hK K
  try simp only [Act.put, List.setIfInBounds_toArray, List.set_cons_zero, List.set_cons_succ]
  refine wpAnyH_ready (rs := [2, 8]) (by kernel_rfl) (by simp) ?_
  refine AllReadyH.cons (Fr.take_at rfl) (fun K hK => ?_) (AllReadyH.cons (Fr.take_at rfl) (fun K hK => ?_) AllReadyH.nil)
  go_simp
  (go_at_call 19; refine (HS.out _ (by assumption)).mono ?_; rintro e w2 ⟨rfl, hb2⟩; have hb3 : Below w.heap.size w w2 := (by assumption : Below w.heap.size w _).trans (hb2.mono (Below.size (by assumption))); have hsz2 := hb3.size; (try (have y0 := facts2 hb2 (Blk.new _ _ _) rfl; (try simp only [World.size_alloc] at y0); (try simp only [World.size_drew] at y0); obtain ⟨y01, y02, y03, y04, y05, y06⟩ := y0)); (try (have y0 := facts2 hb2 ((Blk.new _ _ _).alloc _) rfl; (try simp only [World.size_alloc] at y0); (try simp only [World.size_drew] at y0); obtain ⟨y11, y12, y13, y14, y15, y16⟩ := y0)))
  try go_wp2_with fail
  refine hK.out _ _ (by (first | assumption | exact below_drewN (Below.refl _ _) 1 | exact bel_alloc (by assumption) _ | exact bel_alloc (bel_alloc (by assumption) _) _ | exact bel_alloc (bel_alloc (bel_alloc (by assumption) _) _) _ | exact below_set (by assumption) (Below.size (by assumption)) _ | exact below_set (by assumption) (by simp) _ | exact below_set (by assumption) (by have h_ := hsz2; simp; omega) _)) (fun hHeld => ?_)
  clear hK K
  try simp only [Act.put, List.setIfInBounds_toArray, List.set_cons_zero, List.set_cons_succ]
  refine wpAnyH_ready (rs := [8]) (by kernel_rfl) (by simp) ?_
  refine AllReadyH.cons (Fr.take_at rfl) (fun K hK => ?_) AllReadyH.nil
  go_simp
  refine hK.out _ _ (by (first | assumption | exact below_drewN (Below.refl _ _) 1 | exact bel_alloc (by assumption) _ | exact bel_alloc (bel_alloc (by assumption) _) _ | exact bel_alloc (bel_alloc (bel_alloc (by assumption) _) _) _ | exact below_set (by assumption) (Below.size (by assumption)) _ | exact below_set (by assumption) (by simp) _ | exact below_set (by assumption) (by have h_ := hsz2; simp; omega) _)) (fun hHeld => ?_)
  clear hK K
  try simp only [Act.put, List.setIfInBounds_toArray, List.set_cons_zero, List.set_cons_succ]
  refine wpAnyH_ready (rs := [9]) (by kernel_rfl) (by simp) ?_
  refine AllReadyH.cons (Fr.take_at rfl) (fun K hK => ?_) AllReadyH.nil
  go_simp
  refine hK.out _ _ (by (first | assumption | exact below_drewN (Below.refl _ _) 1 | exact bel_alloc (by assumption) _ | exact bel_alloc (bel_alloc (by assumption) _) _ | exact bel_alloc (bel_alloc (bel_alloc (by assumption) _) _) _ | exact below_set (by assumption) (Below.size (by assumption)) _ | exact below_set (by assumption) (by simp) _ | exact below_set (by assumption) (by have h_ := hsz2; simp; omega) _)) (fun hHeld => ?_)
  clear hK K
  try simp only [Act.put, List.setIfInBounds_toArray, List.set_cons_zero, List.set_cons_succ]
  refine wpAnyH_ready (rs := [10]) (by kernel_rfl) (by simp) ?_
  refine AllReadyH.cons (Fr.take_at rfl) (fun K hK => ?_) AllReadyH.nil
  go_simp
  refine hK.out _ _ (by (first | assumption | exact below_drewN (Below.refl _ _) 1 | exact bel_alloc (by assumption) _ | exact bel_alloc (bel_alloc (by assumption) _) _ | exact bel_alloc (bel_alloc (bel_alloc (by assumption) _) _) _ | exact below_set (by assumption) (Below.size (by assumption)) _ | exact below_set (by assumption) (by simp) _ | exact below_set (by assumption) (by have h_ := hsz2; simp; omega) _)) (fun hHeld => ?_)
  clear hK K
  try simp only [Act.put, List.setIfInBounds_toArray, List.set_cons_zero, List.set_cons_succ]
  refine wpAnyH_done (by kernel_rfl) ?_ _
  rotate_left
  go_simp
  refine hK.out _ _ (by (first | assumption | exact below_drewN (Below.refl _ _) 1 | exact bel_alloc (by assumption) _ | exact bel_alloc (bel_alloc (by assumption) _) _ | exact bel_alloc (bel_alloc (bel_alloc (by assumption) _) _) _ | exact below_set (by assumption) (Below.size (by assumption)) _ | exact below_set (by assumption) (by simp) _ | exact below_set (by assumption) (by have h_ := hsz2; simp; omega) _)) (fun hHeld => ?_)
  clear hK K
  try simp only [Act.put, List.setIfInBounds_toArray, List.set_cons_zero, List.set_cons_succ]
  refine wpAnyH_ready (rs := [2]) (by kernel_rfl) (by simp) ?_
  refine AllReadyH.cons (Fr.take_at rfl) (fun K hK => ?_) AllReadyH.nil
  go_simp
  (go_at_call 19; refine (HS.out _ (by assumption)).mono ?_; rintro e w2 ⟨rfl, hb2⟩; have hb3 : Below w.heap.size w w2 := (by assumption : Below w.heap.size w _).trans (hb2.mono (Below.size (by assumption))); have hsz2 := hb3.size; (try (have y0 := facts2 hb2 (Blk.new _ _ _) rfl; (try simp only [World.size_alloc] at y0); (try simp only [World.size_drew] at y0); obtain ⟨y01, y02, y03, y04, y05, y06⟩ := y0)); (try (have y0 := facts2 hb2 ((Blk.new _ _ _).alloc _) rfl; (try simp only [World.size_alloc] at y0); (try simp only [World.size_drew] at y0); obtain ⟨y11, y12, y13, y14, y15, y16⟩ := y0)))
  try go_wp2_with fail
  refine hK.out _ _ (by (first | assumption | exact below_drewN (Below.refl _ _) 1 | exact bel_alloc (by assumption) _ | exact bel_alloc (bel_alloc (by assumption) _) _ | exact bel_alloc (bel_alloc (bel_alloc (by assumption) _) _) _ | exact below_set (by assumption) (Below.size (by assumption)) _ | exact below_set (by assumption) (by simp) _ | exact below_set (by assumption) (by have h_ := hsz2; simp; omega) _)) (fun hHeld => ?_)
  clear hK K
  try simp only [Act.put, List.setIfInBounds_toArray, List.set_cons_zero, List.set_cons_succ]
  refine wpAnyH_ready (rs := [9]) (by kernel_rfl) (by simp) ?_
  refine AllReadyH.cons (Fr.take_at rfl) (fun K hK => ?_) AllReadyH.nil
  go_simp
  refine hK.out _ _ (by (first | assumption | exact below_drewN (Below.refl _ _) 1 | exact bel_alloc (by assumption) _ | exact bel_alloc (bel_alloc (by assumption) _) _ | exact bel_alloc (bel_alloc (bel_alloc (by assumption) _) _) _ | exact below_set (by assumption) (Below.size (by assumption)) _ | exact below_set (by assumption) (by simp) _ | exact below_set (by assumption) (by have h_ := hsz2; simp; omega) _)) (fun hHeld => ?_)
  clear hK K
  try simp only [Act.put, List.setIfInBounds_toArray, List.set_cons_zero, List.set_cons_succ]
  refine wpAnyH_ready (rs := [10]) (by kernel_rfl) (by simp) ?_
  refine AllReadyH.cons (Fr.take_at rfl) (fun K hK => ?_) AllReadyH.nil
  go_simp
  refine hK.out _ _ (by (first | assumption | exact below_drewN (Below.refl _ _) 1 | exact bel_alloc (by assumption) _ | exact bel_alloc (bel_alloc (by assumption) _) _ | exact bel_alloc (bel_alloc (bel_alloc (by assumption) _) _) _ | exact below_set (by assumption) (Below.size (by assumption)) _ | exact below_set (by assumption) (by simp) _ | exact below_set (by assumption) (by have h_ := hsz2; simp; omega) _)) (fun hHeld => ?_)
  clear hK K
  try simp only [Act.put, List.setIfInBounds_toArray, List.set_cons_zero, List.set_cons_succ]
  refine wpAnyH_done (by kernel_rfl) ?_ _
  rotate_left
  go_simp
  refine hK.out _ _ (by (first | assumption | exact below_drewN (Below.refl _ _) 1 | exact bel_alloc (by assumption) _ | exact bel_alloc (bel_alloc (by assumption) _) _ | exact bel_alloc (bel_alloc (bel_alloc (by assumption) _) _) _ | exact below_set (by assumption) (Below.size (by assumption)) _ | exact below_set (by assumption) (by simp) _ | exact below_set (by assumption) (by have h_ := hsz2; simp; omega) _)) (fun hHeld => ?_)
  clear hK K
  try simp only [Act.put, List.setIfInBounds_toArray, List.set_cons_zero, List.set_cons_succ]
  refine wpAnyH_ready (rs := [2, 7]) (by kernel_rfl) (by simp) ?_
  refine AllReadyH.cons (Fr.take_at rfl) (fun K hK => ?_) (AllReadyH.cons (Fr.take_at rfl) (fun K hK => ?_) AllReadyH.nil)
  go_simp
  (go_at_call 19; refine (HS.out _ (by assumption)).mono ?_; rintro e w2 ⟨rfl, hb2⟩; have hb3 : Below w.heap.size w w2 := (by assumption : Below w.heap.size w _).trans (hb2.mono (Below.size (by assumption))); have hsz2 := hb3.size; (try (have y0 := facts2 hb2 (Blk.new _ _ _) rfl; (try simp only [World.size_alloc] at y0); (try simp only [World.size_drew] at y0); obtain ⟨y01, y02, y03, y04, y05, y06⟩ := y0)); (try (have y0 := facts2 hb2 ((Blk.new _ _ _).alloc _) rfl; (try simp only [World.size_alloc] at y0); (try simp only [World.size_drew] at y0); obtain ⟨y11, y12, y13, y14, y15, y16⟩ := y0)))
  try go_wp2_with fail
  refine hK.out _ _ (by (first | assumption | exact below_drewN (Below.refl _ _) 1 | exact bel_alloc (by assumption) _ | exact bel_alloc (bel_alloc (by assumption) _) _ | exact bel_alloc (bel_alloc (bel_alloc (by assumption) _) _) _ | exact below_set (by assumption) (Below.size (by assumption)) _ | exact below_set (by assumption) (by simp) _ | exact below_set (by assumption) (by have h_ := hsz2; simp; omega) _)) (fun hHeld => ?_)
  clear hK K
  try simp only [Act.put, List.setIfInBounds_toArray, List.set_cons_zero, List.set_cons_succ]
  refine wpAnyH_ready (rs := [7]) (by kernel_rfl) (by simp) ?_
  refine AllReadyH.cons (Fr.take_at rfl) (fun K hK => ?_) AllReadyH.nil
  go_simp
  refine hK.out _ _ (by (first | assumption | exact below_drewN (Below.refl _ _) 1 | exact bel_alloc (by assumption) _ | exact bel_alloc (bel_alloc (by assumption) _) _ | exact bel_alloc (bel_alloc (bel_alloc (by assumption) _) _) _ | exact below_set (by assumption) (Below.size (by assumption)) _ | exact below_set (by assumption) (by simp) _ | exact below_set (by assumption) (by have h_ := hsz2; simp; omega) _)) (fun hHeld => ?_)
  clear hK K
  try simp only [Act.put, List.setIfInBounds_toArray, List.set_cons_zero, List.set_cons_succ]
  refine wpAnyH_ready (rs := [9]) (by kernel_rfl) (by simp) ?_
  refine AllReadyH.cons (Fr.take_at rfl) (fun K hK => ?_) AllReadyH.nil
  go_simp
  refine hK.out _ _ (by (first | assumption | exact below_drewN (Below.refl _ _) 1 | exact bel_alloc (by assumption) _ | exact bel_alloc (bel_alloc (by assumption) _) _ | exact bel_alloc (bel_alloc (bel_alloc (by assumption) _) _) _ | exact below_set (by assumption) (Below.size (by assumption)) _ | exact below_set (by assumption) (by simp) _ | exact below_set (by assumption) (by have h_ := hsz2; simp; omega) _)) (fun hHeld => ?_)
  clear hK K
  try simp only [Act.put, List.setIfInBounds_toArray, List.set_cons_zero, List.set_cons_succ]
  refine wpAnyH_ready (rs := [10]) (by kernel_rfl) (by simp) ?_
  refine AllReadyH.cons (Fr.take_at rfl) (fun K hK => ?_) AllReadyH.nil
  go_simp
  refine hK.out _ _ (by (first | assumption | exact below_drewN (Below.refl _ _) 1 | exact bel_alloc (by assumption) _ | exact bel_alloc (bel_alloc (by assumption) _) _ | exact bel_alloc (bel_alloc (bel_alloc (by assumption) _) _) _ | exact below_set (by assumption) (Below.size (by assumption)) _ | exact below_set (by assumption) (by simp) _ | exact below_set (by assumption) (by have h_ := hsz2; simp; omega) _)) (fun hHeld => ?_)
  clear hK K
  try simp only [Act.put, List.setIfInBounds_toArray, List.set_cons_zero, List.set_cons_succ]
  refine wpAnyH_done (by kernel_rfl) ?_ _
  rotate_left
  go_simp
  refine hK.out _ _ (by (first | assumption | exact below_drewN (Below.refl _ _) 1 | exact bel_alloc (by assumption) _ | exact bel_alloc (bel_alloc (by assumption) _) _ | exact bel_alloc (bel_alloc (bel_alloc (by assumption) _) _) _ | exact below_set (by assumption) (Below.size (by assumption)) _ | exact below_set (by assumption) (by simp) _ | exact below_set (by assumption) (by have h_ := hsz2; simp; omega) _)) (fun hHeld => ?_)
  clear hK K
  try simp only [Act.put, List.setIfInBounds_toArray, List.set_cons_zero, List.set_cons_succ]
  refine wpAnyH_ready (rs := [2]) (by kernel_rfl) (by simp) ?_
  refine AllReadyH.cons (Fr.take_at rfl) (fun K hK => ?_) AllReadyH.nil
  go_simp
  (go_at_call 19; refine (HS.out _ (by assumption)).mono ?_; rintro e w2 ⟨rfl, hb2⟩; have hb3 : Below w.heap.size w w2 := (by assumption : Below w.heap.size w _).trans (hb2.mono (Below.size (by assumption))); have hsz2 := hb3.size; (try (have y0 := facts2 hb2 (Blk.new _ _ _) rfl; (try simp only [World.size_alloc] at y0); (try simp only [World.size_drew] at y0); obtain ⟨y01, y02, y03, y04, y05, y06⟩ := y0)); (try (have y0 := facts2 hb2 ((Blk.new _ _ _).alloc _) rfl; (try simp only [World.size_alloc] at y0); (try simp only [World.size_drew] at y0); obtain ⟨y11, y12, y13, y14, y15, y16⟩ := y0)))
  try go_wp2_with fail
  refine hK.out _ _ (by (first | assumption | exact below_drewN (Below.refl _ _) 1 | exact bel_alloc (by assumption) _ | exact bel_alloc (bel_alloc (by assumption) _) _ | exact bel_alloc (bel_alloc (bel_alloc (by assumption) _) _) _ | exact below_set (by assumption) (Below.size (by assumption)) _ | exact below_set (by assumption) (by simp) _ | exact below_set (by assumption) (by have h_ := hsz2; simp; omega) _)) (fun hHeld => ?_)
  clear hK K
  try simp only [Act.put, List.setIfInBounds_toArray, List.set_cons_zero, List.set_cons_succ]
  refine wpAnyH_ready (rs := [9]) (by kernel_rfl) (by simp) ?_
  refine AllReadyH.cons (Fr.take_at rfl) (fun K hK => ?_) AllReadyH.nil
  go_simp
  refine hK.out _ _ (by (first | assumption | exact below_drewN (Below.refl _ _) 1 | exact bel_alloc (by assumption) _ | exact bel_alloc (bel_alloc (by assumption) _) _ | exact bel_alloc (bel_alloc (bel_alloc (by assumption) _) _) _ | exact below_set (by assumption) (Below.size (by assumption)) _ | exact below_set (by assumption) (by simp) _ | exact below_set (by assumption) (by have h_ := hsz2; simp; omega) _)) (fun hHeld => ?_)
  clear hK K
  try simp only [Act.put, List.setIfInBounds_toArray, List.set_cons_zero, List.set_cons_succ]
  refine wpAnyH_ready (rs := [10]) (by kernel_rfl) (by simp) ?_
  refine AllReadyH.cons (Fr.take_at rfl) (fun K hK => ?_) AllReadyH.nil
  go_simp
  refine hK.out _ _ (by (first | assumption | exact below_drewN (Below.refl _ _) 1 | exact bel_alloc (by assumption) _ | exact bel_alloc (bel_alloc (by assumption) _) _ | exact bel_alloc (bel_alloc (bel_alloc (by assumption) _) _) _ | exact below_set (by assumption) (Below.size (by assumption)) _ | exact below_set (by assumption) (by simp) _ | exact below_set (by assumption) (by have h_ := hsz2; simp; omega) _)) (fun hHeld => ?_)
  clear hK K
  try simp only [Act.put, List.setIfInBounds_toArray, List.set_cons_zero, List.set_cons_succ]
  refine wpAnyH_done (by kernel_rfl) ?_ _
  rotate_left
  all_goals (try go_wp2)
  all_goals go_ret
  · exact ⟨w2.heap.size, w2.heap.size + 1, rfl, by rw [← HV.out]; exact (Blk.new w2 _ _).alloc _, blk_new2 w2 _ _ _, hsz2, by omega, by omega, hHeld⟩
  · exact ⟨w2.heap.size + 1, w2.heap.size, rfl, by rw [← HV.out]; exact blk_new2 w2 _ _ _, (Blk.new w2 _ _).alloc _, by omega, hsz2, by omega, hHeld⟩
  · have h0 := (Blk.new w.drew 49 #[.pointer none]).same (hb2.block _ (by simp))
    have hlt2 := h0.lt
    simp only [World.size_drew] at h0 hlt2
    have h1 := (((h0.alloc (.cells #[.int .i64 0] 3)).set 0 (.pointer v)).same (Below.heap_setCell _ ⟨w2.heap.size, 0, none⟩ (.int .i64 cnt) _ (by show w.heap.size ≠ w2.heap.size; omega)))
    have h2 := ((Blk.new w2 3 #[.int .i64 0]).same (Below.heap_setCell _ ⟨w.heap.size, 0, none⟩ (.pointer v) _ (by show w2.heap.size ≠ w.heap.size; omega))).set 0 (.int .i64 cnt)
    exact ⟨w.heap.size, w2.heap.size, rfl, by rw [← HV.out]; exact h1, h2, Nat.le_refl _, hsz2, by omega, hHeld⟩
  · have h0 := ((Blk.new w.drew 49 #[.pointer none]).alloc (.cells #[.int .i64 0] 3)).same (hb2.block _ (by simp; omega))
    have h9 := (blk_new2 w.drew (.cells #[.pointer none] 49) 3 #[.int .i64 0]).same (hb2.block _ (by simp))
    simp only [World.size_drew] at h0 h9
    have h1 := (h0.set 0 (.pointer v)).same (Below.heap_setCell _ ⟨w.heap.size + 1, 0, none⟩ (.int .i64 cnt) _ (by simp))
    have h2 := (h9.same (Below.heap_setCell _ ⟨w.heap.size, 0, none⟩ (.pointer v) _ (by simp))).set 0 (.int .i64 cnt)
    exact ⟨w.heap.size, w.heap.size + 1, rfl, by rw [← HV.out]; exact h1, h2, Nat.le_refl _, by omega, by omega, hHeld⟩
  · have h0 := (Blk.new w.drew 3 #[.int .i64 0]).same (hb2.block _ (by simp))
    have hlt2 := h0.lt
    simp only [World.size_drew] at h0 hlt2
    have h2 := (h0.alloc (.cells #[.pointer v] 49)).set 0 (.int .i64 cnt)
    have h1 := (Blk.new w2 49 #[.pointer v]).same (Below.heap_setCell _ ⟨w.heap.size, 0, none⟩ (.int .i64 cnt) _ (by show w2.heap.size ≠ w.heap.size; omega))
    exact ⟨w2.heap.size, w.heap.size, rfl, by rw [← HV.out]; exact h1, h2, hsz2, Nat.le_refl _, by omega, hHeld⟩
  · have h0 := ((Blk.new w.drew 3 #[.int .i64 0]).alloc (.cells #[.pointer none] 49)).same (hb2.block _ (by simp; omega))
    have h9 := (blk_new2 w.drew (.cells #[.int .i64 0] 3) 49 #[.pointer none]).same (hb2.block _ (by simp))
    simp only [World.size_drew] at h0 h9
    have h1 := (h9.set 0 (.pointer v)).same (Below.heap_setCell _ ⟨w.heap.size, 0, none⟩ (.int .i64 cnt) _ (by simp))
    have h2 := (h0.same (Below.heap_setCell _ ⟨w.heap.size + 1, 0, none⟩ (.pointer v) _ (by simp))).set 0 (.int .i64 cnt)
    exact ⟨w.heap.size + 1, w.heap.size, rfl, by rw [← HV.out]; exact h1, h2, by omega, Nat.le_refl _, by omega, hHeld⟩
end
end Mm
end Go.Proofs.Ytfnfjhfmhinkcaa
