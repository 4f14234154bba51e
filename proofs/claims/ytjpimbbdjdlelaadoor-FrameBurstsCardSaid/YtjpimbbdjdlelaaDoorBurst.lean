/-
  WHAT IS PROVED: plain facts on frames in which bytes were turned: a frame's form with up to four bytes side by side, all of its sum or all of its payload, put in the place of others that are not the same, is no frame. NO CONDITION beside those that each lemma names.
-/
import Derived.Test.YtjpimbbdjdlelaaDoorFrm
namespace Go.Proofs.YtjpimbbdjdlelaaDoor
namespace Fr

/-- A size's form, four bytes, a payload: a frame just if the four are its sum. -/
theorem frame_form {p s : List UInt8} (hp : p.length ≤ 4096) (hs : s.length = 4) : isFrame (enc p.length ++ s ++ p) = decide (crc p = word s) := by
  have hpos := len_enc_pos p.length
  have hd : dec (enc p.length ++ s ++ p) = (p.length, (enc p.length).length) := by
    rw [List.append_assoc]; exact dec_enc (by omega) _
  rw [isFrame_iff (by rw [hd]; show _ ≠ 0; omega) (by rw [hd]; exact hp) (by rw [hd]; simp only [List.length_append]; omega), hd]
  simp only
  have e1 : (enc p.length ++ s ++ p).drop ((enc p.length).length + 4) = p := by
    rw [show (enc p.length).length + 4 = (enc p.length ++ s).length by rw [List.length_append, hs], List.drop_left]
  have e2 : ((enc p.length ++ s ++ p).drop (enc p.length).length).take 4 = s := by
    rw [List.append_assoc, List.drop_left, ← hs, List.take_left]
  rw [e1, e2, List.take_length]

/-- What stands in a list's place a, cnt of it, in three parts. -/
theorem three_parts (l : List UInt8) (a cnt : Nat) : l = l.take a ++ (l.drop a).take cnt ++ l.drop (a + cnt) := by
  rw [← List.drop_drop, List.append_assoc, List.take_append_drop, List.take_append_drop]

theorem burst_none {p e : List UInt8} {a cnt : Nat} (hp : p.length ≤ 4096) (h4 : cnt ≤ 4) (he : e.length = cnt) (hne : e ≠ ((sealOf p).drop a).take cnt)
    (hw : ((enc p.length).length ≤ a ∧ a + cnt ≤ (enc p.length).length + 4) ∨ ((enc p.length).length + 4 ≤ a ∧ a + cnt ≤ (sealOf p).length)) :
    isFrame ((sealOf p).take a ++ e ++ (sealOf p).drop (a + cnt)) = false := by
  obtain ⟨E, hE⟩ : ∃ E, E = enc p.length := ⟨_, rfl⟩
  obtain ⟨s, hs⟩ : ∃ s, s = le4 (crc p) := ⟨_, rfl⟩
  have hs4 : s.length = 4 := by rw [hs]; rfl
  have hS : sealOf p = E ++ s ++ p := by unfold sealOf; rw [hE, hs]
  have hlS : (sealOf p).length = E.length + 4 + p.length := by rw [hS, List.length_append, List.length_append, hs4]
  rw [← hE] at hw
  rcases hw with ⟨h1, h2⟩ | ⟨h1, h2⟩
  · obtain ⟨b, rfl⟩ : ∃ b, a = E.length + b := ⟨a - E.length, by omega⟩
    have t1 : (sealOf p).take (E.length + b) = E ++ s.take b := by
      rw [hS, List.append_assoc, List.take_length_add_append, List.take_append_of_le_length (by omega)]
    have t2 : (sealOf p).drop (E.length + b + cnt) = s.drop (b + cnt) ++ p := by
      rw [hS, List.append_assoc, Nat.add_assoc, List.drop_length_add_append, List.drop_append_of_le_length (by omega)]
    have t3 : ((sealOf p).drop (E.length + b)).take cnt = (s.drop b).take cnt := by
      rw [hS, List.append_assoc, List.drop_length_add_append, List.drop_append_of_le_length (by omega), List.take_append_of_le_length (by rw [List.length_drop]; omega)]
    rw [t3] at hne
    have hx : (sealOf p).take (E.length + b) ++ e ++ (sealOf p).drop (E.length + b + cnt) = enc p.length ++ (s.take b ++ e ++ s.drop (b + cnt)) ++ p := by
      rw [t1, t2, ← hE]; simp only [List.append_assoc]
    rw [hx, frame_form hp (by simp only [List.length_append, List.length_take, List.length_drop]; omega)]
    apply decide_eq_false
    intro hc
    have hs' : s.take b ++ e ++ s.drop (b + cnt) = s := by
      rw [← le4_word (l := s.take b ++ e ++ s.drop (b + cnt)) (by simp only [List.length_append, List.length_take, List.length_drop]; omega), ← hc, hs]
    have h3 := three_parts s b cnt
    have h5 : s.take b ++ e ++ s.drop (b + cnt) = s.take b ++ (s.drop b).take cnt ++ s.drop (b + cnt) := hs'.trans h3
    exact hne (List.append_cancel_left (List.append_cancel_right h5))
  · obtain ⟨b, rfl⟩ : ∃ b, a = (E ++ s).length + b := ⟨a - (E ++ s).length, by rw [List.length_append, hs4]; omega⟩
    have hes : (E ++ s).length = E.length + 4 := by rw [List.length_append, hs4]
    have t1 : (sealOf p).take ((E ++ s).length + b) = E ++ s ++ p.take b := by
      rw [hS, List.take_length_add_append]
    have t2 : (sealOf p).drop ((E ++ s).length + b + cnt) = p.drop (b + cnt) := by
      rw [hS, Nat.add_assoc, List.drop_length_add_append]
    have t3 : ((sealOf p).drop ((E ++ s).length + b)).take cnt = (p.drop b).take cnt := by
      rw [hS, List.drop_length_add_append]
    rw [t3] at hne
    have hbl : b + cnt ≤ p.length := by omega
    have hpl : (p.take b ++ e ++ p.drop (b + cnt)).length = p.length := by simp only [List.length_append, List.length_take, List.length_drop]; omega
    have hx : (sealOf p).take ((E ++ s).length + b) ++ e ++ (sealOf p).drop ((E ++ s).length + b + cnt) = enc (p.take b ++ e ++ p.drop (b + cnt)).length ++ s ++ (p.take b ++ e ++ p.drop (b + cnt)) := by
      rw [t1, t2, hpl, ← hE]; simp only [List.append_assoc]
    rw [hx, frame_form (by rw [hpl]; exact hp) hs4, hs, word_le4 (crc_lt p)]
    apply decide_eq_false
    have hb := crc_burst (p.take b) e ((p.drop b).take cnt) (p.drop (b + cnt)) (by rw [he, List.length_take, List.length_drop]; omega) (by omega) hne
    rw [← three_parts p b cnt] at hb
    exact hb

/-- One byte more is turned. -/
theorem turn_step {l e : List UInt8} {a i : Nat} (h : a + i < l.length) (he : e.length = i) (t : UInt8) :
    (l.take a ++ e ++ l.drop (a + i)).set (a + i) (l[a + i] ^^^ t) = l.take a ++ (e ++ [l[a + i] ^^^ t]) ++ l.drop (a + (i + 1)) := by
  have hl : (l.take a ++ e).length = a + i := by rw [List.length_append, List.length_take, he]; omega
  rw [List.set_append_right _ _ (by omega), hl, Nat.sub_self, List.drop_eq_getElem_cons h]
  simp only [List.set_cons_zero, List.append_assoc, List.singleton_append]
  rfl
theorem xor_same (x t : UInt8) : x ^^^ t = x ↔ t = 0 := by
  constructor
  · intro h
    have h2 : x ^^^ (x ^^^ t) = x ^^^ x := by rw [h]
    rw [← UInt8.xor_assoc, UInt8.xor_self, UInt8.zero_xor] at h2
    exact h2
  · rintro rfl; exact UInt8.xor_zero
theorem turn_same {l e : List UInt8} {a i : Nat} (h : a + i < l.length) (_he : e.length = i) (t : UInt8) :
    (e ++ [l[a + i] ^^^ t] = (l.drop a).take (i + 1)) ↔ (e = (l.drop a).take i ∧ t = 0) := by
  have hd : (l.drop a).take (i + 1) = (l.drop a).take i ++ [l[a + i]] := by
    rw [List.take_succ_eq_append_getElem (by rw [List.length_drop]; omega), List.getElem_drop]
  rw [hd]
  constructor
  · intro h1
    have h2 := List.append_inj' h1 rfl
    exact ⟨h2.1, (xor_same (l[a + i]) t).1 (List.cons.inj h2.2).1⟩
  · rintro ⟨h1, rfl⟩
    rw [h1, UInt8.xor_zero]
end Fr
end Go.Proofs.YtjpimbbdjdlelaaDoor
