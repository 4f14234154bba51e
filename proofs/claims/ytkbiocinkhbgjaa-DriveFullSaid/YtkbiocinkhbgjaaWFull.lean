/-
  WHAT IS PROVED: what the law DriveFull answers. NO CONDITION.
-/
import Derived.Test.YtkbiocinkhbgjaaDFull
namespace Go.Proofs.Ytkbiocinkhbgjaa
open Go Go.RowKit Go.Maps Go.Proofs.Ytkbiocinkhbgjaa.Fr
namespace Dr

/-- A row of zero bytes. -/
def zs (N : Nat) : Array Value := madeCells (Value.int .u8 0).cells (N * 1)
theorem zs_list (N : Nat) : (zs N).toList = bv (List.replicate N 0) := by
  apply List.ext_getElem?
  intro i
  by_cases h : i < N
  · have hsz : (zs N).size = N := by simp [zs, size_madeCells]
    rw [List.getElem?_eq_getElem (by simpa [hsz] using h), List.getElem?_eq_getElem (by simpa [bv] using h)]
    simp [zs, madeCells, bv, Value.cells, Nat.mod_one]
  · rw [List.getElem?_eq_none (by simp [zs, size_madeCells]; omega), List.getElem?_eq_none (by simp [bv]; omega)]
theorem info_byte : (Try.prog.info? 5).map (fun i => (i.zero, i.size, i.bytes)) = some (some (.int .u8 0), 1, 1) := by kernel_rfl
theorem mk_zeros (W : World) (L : Int) (N : Nat) (hL : L = (N : Int)) (hN : N ≤ 1000000) :
    (Instr.makeSlice 33 (.int .i64 L) (.int .i64 L)).run Try.prog W = .ok (.slice (some ⟨W.heap.size, 0, none⟩) N N) (W.alloc (.cells (zs N) 5)) := by
  obtain ⟨i0, hi, hz, hz1, hz2⟩ := info_parts info_byte
  subst hL
  have h := run_make (P := Try.prog) W 33 5 i0 (.int .u8 0) Try.underlying33 hi hz .i64 .i64 N N (by omega) (by omega) (by rw [hz2]; omega) (by omega)
  rw [hz1, Int.toNat_natCast] at h
  exact h
theorem nm_str (W : World) {i : Nat} (hi : i < 256) :
    (convert 33 9 (.slice (some ⟨W.heap.size, 0, none⟩) 3 3)).run Try.prog (W.alloc (.cells #[.int .u8 102, .int .u8 (97 + (i : Int) % 16), .int .u8 (97 + (i : Int) / 16)] 5)) = .ok (.string ⟨(nm i).toArray⟩) (W.alloc (.cells #[.int .u8 102, .int .u8 (97 + (i : Int) % 16), .int .u8 (97 + (i : Int) / 16)] 5)) := by
  refine run_str (P := Try.prog) _ 33 9 5 Try.underlying33 Try.underlying5 Try.underlying9 _ 3 3 (nm i) rfl ?_
  have h := Rd.block W 5 (0, 0) #[.int .u8 102, .int .u8 (97 + (i : Int) % 16), .int .u8 (97 + (i : Int) / 16)]
  have e : bv (nm i) = [.int .u8 102, .int .u8 (97 + (i : Int) % 16), .int .u8 (97 + (i : Int) / 16)] := by
    simp only [bv, nm, List.map_cons, List.map_nil, UInt8.toNat_ofNat', List.cons.injEq, Value.int.injEq, true_and, and_true]
    exact ⟨by decide, by omega, by omega⟩
  rw [e]
  exact h
def FuInv (w0 : World) (b : Nat) (s4 : Value) (wr : World) : Prop := ∃ (i : Nat) (st : St), i ≤ 256 ∧ s4 = .int .i64 (i : Int) ∧ FullAt st i ∧ DS w0 wr (fun _ => False) b st
def FuOp (w0 : World) (X : Nat → Prop) (b : Nat) (st : St) (k : Int) (w : World) (e : Ending) (w' : World) : Prop :=
  e = .returned (.int .i64 k) ∧ DS w0 w' X b st ∧ ∀ A xs, Rd w A xs → (∀ a, A = some a → X a.block) → Rd w' A xs
section
variable {w0 W w1 : World} {X : Nat → Prop} {b : Nat} {st st1 st2 st3 st4 st5 : St} {m i : Nat}
theorem DS.base (h : DS w1 W X b st) (hb : Below w0.heap.size w0 w1) : DS w0 W X b st :=
  let ⟨S, h1, h2, h3, h4⟩ := h; ⟨S, h1, fun k hk => Nat.le_trans hb.size (h2 k hk), hb.trans (h3.mono hb.size), h4⟩
theorem DS.none (h : DS w0 W X b st) : DS w0 W (fun _ => False) b st := h.weak fun _ hk => hk.elim
theorem FuOp.of {p : St × Nat} {k : Int} {e : Ending} {w' : World} (h : DSOp w0 X b p W e w') {n : Nat} (hp : p = (st, n)) (hk : (n : Int) = k) : FuOp w0 X b st k W e w' := by
  subst hp hk
  exact h
theorem fu_round (h : DS w0 W (fun _ => False) b st) (hf : FullAt st i) (hi : i < 256) :
    Calls Try.prog 24 #[.pointer (some ⟨b, 0, none⟩), .string ⟨(nm i).toArray⟩, .slice none 0 0] W fun e w' => e = .returned (.int .i64 0) ∧ FuInv w0 b (.int .i64 ((i : Int) + 1)) w' := by
  obtain ⟨st', h1, h2⟩ := hf.succ hi
  refine (h.append hf.ok (by rw [hf.steps]; omega) ⟨(nm i).toArray⟩ (by show (nm i).toArray.size ≤ _; simp [nm, maxLen]) .none 0 0 [] rfl (by decide) Rd.nil (fun a ha => by cases ha)).mono fun e w' hp => ?_
  have h3 := FuOp.of (k := 0) hp (n := 0) h1 rfl
  exact ⟨h3.1, i + 1, st', by omega, by go_num, h2, h3.2.1⟩
theorem fu_nil (h : DS w0 W X b st) (hok : st.Ok) (hs : st.steps ≤ 1000) (s : ByteArray) (hsz : s.size ≤ maxLen) {n : Nat} {st' : St} {k : Int} (he : st.append s.data.toList [] = (st', n)) (hk : (n : Int) = k) :
    Calls Try.prog 24 #[.pointer (some ⟨b, 0, none⟩), .string s, .slice .none 0 0] W (FuOp w0 X b st' k W) :=
  (h.append hok (by omega) s hsz .none 0 0 [] rfl (by decide) Rd.nil (fun a ha => by cases ha)).mono fun _ _ hp => FuOp.of hp he hk
theorem fu_zs (h : DS w0 W X b st) (hok : st.Ok) (hs : st.steps ≤ 1000) {g N : Nat} (hX : X g) (hr : Rd W (some ⟨g, 0, .none⟩) (zs N).toList) (hN : N ≤ 1000000) {n : Nat} {st' : St} {k : Int} (he : st.append [102, 97, 97] (List.replicate N 0) = (st', n)) (hk : (n : Int) = k) :
    Calls Try.prog 24 #[.pointer (some ⟨b, 0, .none⟩), .string ⟨#[102, 97, 97]⟩, .slice (some ⟨g, 0, .none⟩) N N] W (FuOp w0 X b st' k W) :=
  (h.append hok (by omega) ⟨#[102, 97, 97]⟩ (by decide) (some ⟨g, 0, .none⟩) N N (List.replicate N 0) (by simp) (by simp only [maxLen]; omega) (by rw [← zs_list]; exact hr) (fun a ha => by cases ha; exact hX)).mono fun _ _ hp => FuOp.of hp he hk
theorem fu_c1 (T : FullTail st m st1 st2 st3 st4 st5) (h : DS w0 W X b st) : Calls Try.prog 24 #[.pointer (some ⟨b, 0, .none⟩), .string ⟨#[103]⟩, .slice .none 0 0] W (FuOp w0 X b st 5 W) :=
  fu_nil h T.oks.1 T.steps.1 ⟨#[103]⟩ (by decide) T.a1 rfl
theorem fu_c2 (T : FullTail st m st1 st2 st3 st4 st5) (h : DS w0 W X b st) {g N : Nat} (hX : X g) (hr : Rd W (some ⟨g, 0, .none⟩) (zs N).toList) (hN : N = 262144 - m) :
    Calls Try.prog 24 #[.pointer (some ⟨b, 0, .none⟩), .string ⟨#[102, 97, 97]⟩, .slice (some ⟨g, 0, .none⟩) N N] W (FuOp w0 X b st1 0 W) :=
  fu_zs h T.oks.1 T.steps.1 hX hr (by omega) (by rw [hN]; exact T.a2) rfl
theorem fu_c3 (T : FullTail st m st1 st2 st3 st4 st5) (hm : m < 9) (h : DS w0 W (fun _ => False) b st1) {N : Nat} (hN : N = m + 1) :
    Calls Try.prog 24 #[.pointer (some ⟨b, 0, .none⟩), .string ⟨#[102, 97, 97]⟩, .slice (some ⟨W.heap.size, 0, .none⟩) N N] (W.alloc (.cells (zs N) 5)) (FuOp w0 (fun k => k = W.heap.size) b st1 5 (W.alloc (.cells (zs N) 5))) :=
  fu_zs (new_X h _ _) T.oks.2.1 T.steps.2.1 rfl (Rd.block _ _ _ _) (by omega) (by rw [hN]; exact T.a3) rfl
theorem fu_c4 (T : FullTail st m st1 st2 st3 st4 st5) (hm : m < 9) (h : DS w0 W (fun _ => False) b st1) :
    Calls Try.prog 24 #[.pointer (some ⟨b, 0, .none⟩), .string ⟨#[102, 97, 97]⟩, .slice (some ⟨W.heap.size, 0, .none⟩) m m] (W.alloc (.cells (zs m) 5)) (FuOp w0 (fun k => k = W.heap.size) b st2 0 (W.alloc (.cells (zs m) 5))) :=
  fu_zs (new_X h _ _) T.oks.2.1 T.steps.2.1 rfl (Rd.block _ _ _ _) (by omega) T.a4 rfl
theorem fu_c5 (T : FullTail st m st1 st2 st3 st4 st5) (h : DS w0 W X b st2) :
    Calls Try.prog 25 #[.pointer (some ⟨b, 0, .none⟩), .string ⟨#[102, 98, 97]⟩, .string ⟨#[103]⟩] W (FuOp w0 X b st3 0 W) :=
  (h.op fun _ h1 _ => rename_any h1 T.oks.2.2.1 (by have := T.steps.2.2.1; omega) ⟨#[102, 98, 97]⟩ ⟨#[103]⟩ (by decide) (by decide)).mono fun _ _ hp => FuOp.of hp T.a5 rfl
theorem fu_c6 (T : FullTail st m st1 st2 st3 st4 st5) (h : DS w0 W X b st3) : Calls Try.prog 24 #[.pointer (some ⟨b, 0, .none⟩), .string ⟨#[102, 98, 97]⟩, .slice .none 0 0] W (FuOp w0 X b st3 5 W) :=
  fu_nil h T.oks.2.2.2.1 T.steps.2.2.2.1 ⟨#[102, 98, 97]⟩ (by decide) T.a6 rfl
theorem fu_c7 (T : FullTail st m st1 st2 st3 st4 st5) (h : DS w0 W X b st3) :
    Calls Try.prog 26 #[.pointer (some ⟨b, 0, .none⟩), .string ⟨#[102, 99, 97]⟩] W (FuOp w0 X b st4 0 W) :=
  (h.op fun _ h1 _ => delete_any h1 T.oks.2.2.2.1 (by have := T.steps.2.2.2.1; omega) ⟨#[102, 99, 97]⟩ (by decide)).mono fun _ _ hp => FuOp.of hp T.a7 rfl
theorem fu_c8 (T : FullTail st m st1 st2 st3 st4 st5) (h : DS w0 W (fun _ => False) b st4) :
    Calls Try.prog 24 #[.pointer (some ⟨b, 0, .none⟩), .string ⟨#[102, 98, 97]⟩, .slice (some ⟨W.heap.size, 0, .none⟩) 1 1] (W.alloc (.cells #[.int .u8 1] 5)) (FuOp w0 (fun k => k = W.heap.size) b st5 0 (W.alloc (.cells #[.int .u8 1] 5))) :=
  ((new_X h _ _).append T.oks.2.2.2.2.1 (by have := T.steps.2.2.2.2.1; omega) ⟨#[102, 98, 97]⟩ (by decide) (some ⟨W.heap.size, 0, .none⟩) 1 1 [1] rfl (by decide) (Rd.block _ _ _ _) fun a ha => by cases ha; rfl).mono fun _ _ hp => FuOp.of hp T.a8 rfl
theorem fu_c9 (T : FullTail st m st1 st2 st3 st4 st5) (h : DS w0 W X b st5) :
    Calls Try.prog 27 #[.pointer (some ⟨b, 0, .none⟩), .string ⟨#[102, 97, 97]⟩] W fun e w' => e = .returned (.int .i64 262144) ∧ W = w' := by
  obtain ⟨S, h1, _⟩ := h.rep
  have := size_any h1 ⟨#[102, 97, 97]⟩ (by decide)
  rw [show st5.sizeOf (⟨#[102, 97, 97]⟩ : ByteArray).data.toList = 262144 from T.a9] at this
  exact this
theorem fu_c10 (T : FullTail st m st1 st2 st3 st4 st5) (h : DS w0 W X b st5) :
    Calls Try.prog 20 #[.pointer (some ⟨b, 0, .none⟩)] W fun e w' => ∃ A c, e = .returned (.slice A 256 c) ∧ Below w0.heap.size w0 w' := by
  obtain ⟨S, h1, _⟩ := h.rep
  refine (names_any h1 T.oks.2.2.2.2.2).mono fun e w' ⟨A, n, c, h2, h3, _, _, h4⟩ => ⟨A, c, ?_, h.bel.trans (h4.mono h.bel.size)⟩
  rw [List.length_map, T.a10] at h3
  rw [h2, ← h3]
theorem nine (n : Int) : ∃ m : Nat, IntKind.i64.wrap ((IntKind.u64.wrap n).tmod 9) = (m : Int) ∧ m < 9 := by
  have h1 : 0 ≤ IntKind.u64.wrap n := by rw [IntKind.wrap_u64]; omega
  refine ⟨((IntKind.u64.wrap n).tmod 9).toNat, ?_, ?_⟩
  · rw [Int.tmod_eq_emod_of_nonneg h1, IntKind.wrap_i64]; omega
  · rw [Int.tmod_eq_emod_of_nonneg h1]; omega
end
set_option maxRecDepth 100000 in
theorem full_any (n : Int) (w : World) : Calls Try.prog 7 #[.int .i64 n] w fun e w' => e = .returned (.bool true) ∧ Below w.heap.size w w' := by
  have hc0 := awake_any w
  obtain ⟨m, hm, hm9⟩ := nine n
  go_enter Try.func7, Try.ntmps7
  go_wp2_with (first
    | (go_at_call 10; refine hc0.mono ?_; rintro e w1 ⟨rfl, hb1⟩; have hc1 := new_any w1)
    | (go_at_call 23; refine hc1.mono ?_; intro e w2 hp; have hp2 := hp.ds; clear hp; obtain ⟨b, rfl, hd2⟩ := hp2))
  have hd2' : DS w w2 (fun _ => False) b St.empty := hd2.base hb1
  clear hd2 hc0 hc1 hb1
  go_loopw [4] (FuInv w b) (fun x _ => 256 - (intOf x).toNat)
  case atStart => exact ⟨0, St.empty, by omega, rfl, FullAt.zero, hd2'⟩
  case round =>
    clear hd2'
    obtain ⟨i, st, hi, rfl, hfa, hds⟩ := hrel
    by_cases hlt : i < 256
    · have hst := nm_str wr hlt
      have hcr := fun o => fu_round (hds.alloc o) hfa hlt
      go_wp2_with (go_at_call 24; (with_reducible refine (hcr _).mono ?_); rintro e w3 ⟨rfl, hI⟩)
      go_roundw
      case rel => exact hI
      case measure => simp [intOf]; omega
    · obtain rfl : i = 256 := by omega
      obtain ⟨st1, st2, st3, st4, st5, HT⟩ := hfa.tail hm9
      obtain ⟨N, hN⟩ : ∃ N, N = 262144 - m := ⟨_, rfl⟩
      obtain ⟨M, hM⟩ : ∃ M, M = m + 1 := ⟨_, rfl⟩
      have hmk1 := fun W => mk_zeros W (262144 - (m : Int)) N (by omega) (by omega)
      have hmk2 := fun W => mk_zeros W ((m : Int) + 1) M (by omega) (by omega)
      have hmk3 := fun W => mk_zeros W (m : Int) m rfl (by omega)
      have HN := Lib.hid hN
      have HM := Lib.hid hM
      clear hN hM hm
      have hx1 := new_X hds (zs N) 5
      have hr1 := Rd.block wr 5 (0, 0) (zs N)
      go_wp2_with (first
        | (go_at_call 24; (with_reducible refine (fu_c1 HT hx1).mono ?_); rintro e w3 ⟨rfl, hd3, hk3⟩; have hr3 := hk3 _ _ hr1 (fun a ha => by cases ha; rfl); clear hk3)
        | (go_at_call 24; (with_reducible refine (fu_c2 HT hd3 rfl hr3 HN.out).mono ?_); rintro e w4 ⟨rfl, hd4, hk4⟩; clear hk4)
        | (go_at_call 24; (with_reducible refine (fu_c3 HT hm9 hd4.none HM.out).mono ?_); rintro e w5 ⟨rfl, hd5, hk5⟩; clear hk5)
        | (go_at_call 24; (with_reducible refine (fu_c4 HT hm9 hd5.none).mono ?_); rintro e w6 ⟨rfl, hd6, hk6⟩; clear hk6)
        | (go_at_call 25; (with_reducible refine (fu_c5 HT hd6).mono ?_); rintro e w7 ⟨rfl, hd7, hk7⟩; clear hk7)
        | (go_at_call 24; (with_reducible refine (fu_c6 HT hd7).mono ?_); rintro e w8 ⟨rfl, hd8, hk8⟩; clear hk8)
        | (go_at_call 26; (with_reducible refine (fu_c7 HT hd8).mono ?_); rintro e w9 ⟨rfl, hd9, hk9⟩; clear hk9)
        | (go_at_call 24; (with_reducible refine (fu_c8 HT hd9.none).mono ?_); rintro e w10 ⟨rfl, hd10, hk10⟩; clear hk10)
        | (go_at_call 27; (with_reducible refine (fu_c9 HT hd10).mono ?_); rintro e w11 ⟨rfl, rfl⟩)
        | (go_at_call 20; (with_reducible refine (fu_c10 HT hd10).mono ?_); rintro e w12 ⟨A, c, rfl, hb12⟩))
      go_ret
      exact ⟨rfl, hb12⟩
end Dr
end Go.Proofs.Ytkbiocinkhbgjaa
