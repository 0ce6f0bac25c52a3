import Derived.Test.YtkmnonkabekclaaDoorLA
namespace Go.Proofs.YtkmnonkabekclaaDoor
/-- the first twelve bytes -/
def hd (s k n : Nat) : List UInt8 := [82, 76, UInt8.ofNat k, 0] ++ four s ++ four n
def hd16 (s k n : Nat) : List UInt8 := hd s k n ++ four (sumN (hd s k n))
def bod (s k : Nat) (t : List UInt8) : List UInt8 := hd16 s k t.length ++ t
/-- a record's bytes -/
def encL (s k : Nat) (t : List UInt8) : List UInt8 := bod s k t ++ four (sumN (bod s k t))
theorem hd_len (s k n : Nat) : (hd s k n).length = 12 := rfl
theorem hd16_len (s k n : Nat) : (hd16 s k n).length = 16 := rfl
theorem bod_len (s k : Nat) (t : List UInt8) : (bod s k t).length = 16 + t.length := by simp [bod, hd16_len]
theorem encL_len (s k : Nat) (t : List UInt8) : (encL s k t).length = t.length + 20 := by simp [encL, bod_len, four_len]; omega
def rdS (d : List UInt8) : Nat := numL (d.drop 4)
def rdK (d : List UInt8) : Nat := (d.getD 2 0).toNat
def rdN (d : List UInt8) : Nat := numL (d.drop 8)
def rdT (d : List UInt8) : List UInt8 := (d.drop 16).take (rdN d)
/-- the mark, the byte 3 and the first sum -/
abbrev mkB (d : List UInt8) : Prop := d.getD 0 0 = 82 ∧ d.getD 1 0 = 76 ∧ d.getD 3 0 = 0 ∧ sumN (d.take 12) = numL (d.drop 12)
/-- what Kind and Seq may be -/
abbrev may (s k : Nat) : Prop := 1 ≤ k ∧ k ≤ 4 ∧ 1 ≤ s ∧ s ≤ 2147483647
/-- the head is right -/
abbrev hdB (d : List UInt8) : Prop := mkB d ∧ may (rdS d) (rdK d) ∧ rdN d ≤ 16384
/-- Read's error at what stands from a place on -/
def rdE (d : List UInt8) : Nat :=
  if d.length < 16 then 191 else if ¬ hdB d then 192 else if d.length < rdN d + 20 then 191 else if ¬ sumN (d.take (16 + rdN d)) = numL (d.drop (16 + rdN d)) then 192 else 0
theorem rdE_ok {d : List UInt8} (h : rdE d = 0) : 16 ≤ d.length ∧ hdB d ∧ rdN d + 20 ≤ d.length ∧ sumN (d.take (16 + rdN d)) = numL (d.drop (16 + rdN d)) := by
  unfold rdE at h
  split at h
  · cases h
  split at h
  · cases h
  split at h
  · cases h
  split at h
  · cases h
  · rename_i a b c e
    exact ⟨by omega, Classical.not_not.1 b, by omega, Classical.not_not.1 e⟩
theorem rdE_in (d : List UInt8) : rdE d = 0 ∨ rdE d = 191 ∨ rdE d = 192 := by
  unfold rdE
  repeat' split
  all_goals simp
theorem rdT_len {d : List UInt8} (h : rdE d = 0) : (rdT d).length = rdN d := by
  have := (rdE_ok h).2.2.1
  simp [rdT]
  omega
theorem hd16_facts {s k n : Nat} (x : List UInt8) (hs : s < 4294967296) (hk : k < 256) (hn : n < 4294967296) : mkB (hd16 s k n ++ x) ∧ rdS (hd16 s k n ++ x) = s ∧ rdK (hd16 s k n ++ x) = k ∧ rdN (hd16 s k n ++ x) = n := by
  refine ⟨⟨rfl, rfl, rfl, ?_⟩, ?_, ?_, ?_⟩
  · have e1 : (hd16 s k n ++ x).take 12 = hd s k n := rfl
    have e2 : (hd16 s k n ++ x).drop 12 = four (sumN (hd s k n)) ++ x := rfl
    rw [e1, e2, numL_four (sumN_lt _)]
  · have e2 : (hd16 s k n ++ x).drop 4 = four s ++ (four n ++ (four (sumN (hd s k n)) ++ x)) := rfl
    rw [rdS, e2, numL_four hs]
  · show (UInt8.ofNat k).toNat = k
    rw [UInt8.toNat_ofNat']; omega
  · have e2 : (hd16 s k n ++ x).drop 8 = four n ++ (four (sumN (hd s k n)) ++ x) := rfl
    rw [rdN, e2, numL_four hn]
/-- Read of what Encode writes -/
theorem rd_enc {s k : Nat} {t : List UInt8} (h : may s k) (ht : t.length ≤ 16384) (x : List UInt8) : rdE (encL s k t ++ x) = 0 ∧ rdS (encL s k t ++ x) = s ∧ rdK (encL s k t ++ x) = k ∧ rdN (encL s k t ++ x) = t.length ∧ rdT (encL s k t ++ x) = t := by
  have e0 : encL s k t ++ x = hd16 s k t.length ++ (t ++ (four (sumN (bod s k t)) ++ x)) := by simp [encL, bod]
  obtain ⟨h1, h2, h3, h4⟩ := hd16_facts (s := s) (k := k) (n := t.length) (t ++ (four (sumN (bod s k t)) ++ x)) (by unfold may at h; omega) (by unfold may at h; omega) (by omega)
  rw [← e0] at h1 h2 h3 h4
  have hl : (encL s k t ++ x).length = t.length + 20 + x.length := by rw [List.length_append, encL_len]
  refine ⟨?_, h2, h3, h4, ?_⟩
  · unfold rdE
    rw [if_neg (by omega), if_neg (by rw [Classical.not_not]; exact ⟨h1, by rw [h2, h3]; exact h, by omega⟩), if_neg (by omega), if_neg]
    rw [Classical.not_not, h4]
    have e1 : encL s k t ++ x = bod s k t ++ (four (sumN (bod s k t)) ++ x) := by simp [encL]
    rw [e1, ← bod_len s k t, List.take_left, List.drop_left, numL_four (sumN_lt _)]
  · rw [rdT, h4, e0, List.drop_append_of_le_length (by rw [hd16_len]; omega), show (hd16 s k t.length).drop 16 = [] from rfl, List.nil_append, List.take_left]
/-- what is read is what Encode writes -/
theorem enc_rd {d : List UInt8} (h : rdE d = 0) : d.take (rdN d + 20) = encL (rdS d) (rdK d) (rdT d) := by
  obtain ⟨h1, ⟨⟨m0, m1, m3, m4⟩, hm, hn⟩, h3, h4⟩ := rdE_ok h
  have hT := rdT_len h
  match d, h1 with
  | b0 :: b1 :: b2 :: b3 :: b4 :: b5 :: b6 :: b7 :: b8 :: b9 :: b10 :: b11 :: b12 :: b13 :: b14 :: b15 :: r, _ =>
    have m0 : b0 = 82 := m0
    have m1 : b1 = 76 := m1
    have m3 : b3 = 0 := m3
    subst m0 m1 m3
    have k2 : UInt8.ofNat (rdK (82 :: 76 :: b2 :: 0 :: b4 :: b5 :: b6 :: b7 :: b8 :: b9 :: b10 :: b11 :: b12 :: b13 :: b14 :: b15 :: r)) = b2 := by
      show UInt8.ofNat b2.toNat = b2
      simp
    have f4 := four_numL (l := [b4, b5, b6, b7] ++ (b8 :: b9 :: b10 :: b11 :: b12 :: b13 :: b14 :: b15 :: r)) (by simp)
    have f8 := four_numL (l := [b8, b9, b10, b11] ++ (b12 :: b13 :: b14 :: b15 :: r)) (by simp)
    have f12 := four_numL (l := [b12, b13, b14, b15] ++ r) (by simp)
    generalize hD : (82 :: 76 :: b2 :: 0 :: b4 :: b5 :: b6 :: b7 :: b8 :: b9 :: b10 :: b11 :: b12 :: b13 :: b14 :: b15 :: r) = D at *
    have e4 : four (rdS D) = [b4, b5, b6, b7] := by rw [← hD]; exact f4
    have e8 : four (rdN D) = [b8, b9, b10, b11] := by rw [← hD]; exact f8
    have eh : hd (rdS D) (rdK D) (rdN D) = D.take 12 := by
      unfold hd
      rw [k2, e4, e8, ← hD]
      rfl
    have e16 : hd16 (rdS D) (rdK D) (rdN D) = D.take 16 := by
      unfold hd16
      rw [eh, m4]
      have : D.drop 12 = [b12, b13, b14, b15] ++ r := by rw [← hD]; rfl
      rw [this, f12, ← hD]
      rfl
    have eb : bod (rdS D) (rdK D) (rdT D) = D.take (16 + rdN D) := by
      unfold bod
      rw [hT, e16, rdT, List.take_add]
    unfold encL
    rw [eb, h4, four_numL (by simp; omega), show rdN D + 20 = (16 + rdN D) + 4 by omega, List.take_add (i := 16 + rdN D)]
/-- bytes that end early -/
theorem rd_cut {s k : Nat} {t : List UInt8} (h : may s k) (ht : t.length ≤ 16384) {j : Nat} (hj : j < t.length + 20) : rdE ((encL s k t).take j) = 191 := by
  have hl : ((encL s k t).take j).length = j := by rw [List.length_take, encL_len]; omega
  unfold rdE
  rw [hl]
  by_cases h16 : j < 16
  · rw [if_pos h16]
  · have e0 : (encL s k t).take j = hd16 s k t.length ++ ((t ++ four (sumN (bod s k t))).take (j - 16)) := by
      have : encL s k t = hd16 s k t.length ++ (t ++ four (sumN (bod s k t))) := by simp [encL, bod]
      rw [this, List.take_append, hd16_len, List.take_of_length_le (by rw [hd16_len]; omega)]
    obtain ⟨h1, h2, h3, h4⟩ := hd16_facts (s := s) (k := k) (n := t.length) ((t ++ four (sumN (bod s k t))).take (j - 16)) (by unfold may at h; omega) (by unfold may at h; omega) (by omega)
    rw [← e0] at h1 h2 h3 h4
    rw [if_neg h16, if_neg (by rw [Classical.not_not]; exact ⟨h1, by rw [h2, h3]; exact h, by omega⟩), if_pos (by omega)]
end Go.Proofs.YtkmnonkabekclaaDoor
