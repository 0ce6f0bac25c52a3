import Derived.Test.YtkmnonkabekclaaDoorLB
namespace Go.Proofs.YtkmnonkabekclaaDoor
/-- bytes and their sum, one byte another one: the sum is not right any more -/
theorem sum_spoilt {u a c z : List UInt8} {x y : UInt8} (hE : u ++ four (sumN u) = a ++ x :: c) (hxy : x ≠ y) : ¬ sumN ((a ++ y :: c ++ z).take u.length) = numL ((a ++ y :: c ++ z).drop u.length) := by
  intro h
  have hlen : u.length + 4 = a.length + (c.length + 1) := by
    have := congrArg List.length hE
    simpa [four_len] using this
  rcases Nat.lt_or_ge a.length u.length with hp | hp
  · -- the byte is one of the bytes
    have eu : u = a ++ x :: c.take (u.length - a.length - 1) := by
      have := congrArg (List.take u.length) hE
      rw [List.take_left, List.take_append, List.take_of_length_le (by omega)] at this
      obtain ⟨m, hm⟩ : ∃ m, u.length - a.length = m + 1 := ⟨u.length - a.length - 1, by omega⟩
      rw [hm, List.take_succ_cons] at this
      rw [show u.length - a.length - 1 = m by omega]
      exact this
    have ec : c.drop (u.length - a.length - 1) = four (sumN u) := by
      have := congrArg (List.drop u.length) hE
      rw [List.drop_left, List.drop_append, List.drop_of_length_le (show a.length ≤ u.length by omega)] at this
      obtain ⟨m, hm⟩ : ∃ m, u.length - a.length = m + 1 := ⟨u.length - a.length - 1, by omega⟩
      rw [hm, List.drop_succ_cons, List.nil_append] at this
      rw [show u.length - a.length - 1 = m by omega]
      exact this.symm
    have et : (a ++ y :: c ++ z).take u.length = a ++ y :: c.take (u.length - a.length - 1) := by
      rw [List.append_assoc, List.take_append, List.take_of_length_le (by omega)]
      obtain ⟨m, hm⟩ : ∃ m, u.length - a.length = m + 1 := ⟨u.length - a.length - 1, by omega⟩
      rw [hm, List.cons_append, List.take_succ_cons, List.take_append_of_le_length (by omega), show m + 1 - 1 = m by omega]
    have ed : (a ++ y :: c ++ z).drop u.length = four (sumN u) ++ z := by
      rw [List.append_assoc, List.drop_append, List.drop_of_length_le (show a.length ≤ u.length by omega), List.nil_append]
      obtain ⟨m, hm⟩ : ∃ m, u.length - a.length = m + 1 := ⟨u.length - a.length - 1, by omega⟩
      rw [hm, List.cons_append, List.drop_succ_cons, List.drop_append_of_le_length (by omega), ← ec, show u.length - a.length - 1 = m by omega]
    rw [et, ed, numL_four (sumN_lt _)] at h
    rw [eu] at h
    have hsp := sumN_spoilt (a := a) (c := c.take (u.length - a.length - 1)) (x := y) (y := x)
    rw [← eu] at hsp h
    exact hxy (hsp (by rw [h])).symm
  · -- the byte is one of the sum
    have et : (a ++ y :: c ++ z).take u.length = u := by
      rw [List.append_assoc, List.take_append_of_le_length hp]
      have := congrArg (List.take u.length) hE
      rw [List.take_left, List.take_append_of_le_length hp] at this
      exact this.symm
    have e1 : a.drop u.length ++ x :: c = four (sumN u) := by
      have := congrArg (List.drop u.length) hE
      rw [List.drop_left, List.drop_append_of_le_length hp] at this
      exact this.symm
    have ed : (a ++ y :: c ++ z).drop u.length = (a.drop u.length ++ y :: c) ++ z := by
      rw [List.append_assoc, List.drop_append_of_le_length hp, List.append_assoc]
    rw [et, ed] at h
    have l4 : (a.drop u.length ++ y :: c).length = 4 := by simp; omega
    have h2 := four_numL (l := (a.drop u.length ++ y :: c) ++ z) (by rw [List.length_append]; omega)
    rw [← h, ← e1, List.take_append_of_le_length (by omega), List.take_of_length_le (by omega)] at h2
    have h3 := List.append_cancel_left h2
    injection h3 with h3 _
    exact hxy h3
theorem rd_spoilt {s k : Nat} {t a c z : List UInt8} {x y : UInt8} (h : may s k) (ht : t.length ≤ 16384) (hE : encL s k t = a ++ x :: c) (hxy : x ≠ y) : rdE (a ++ y :: c ++ z) = 192 := by
  have hlen : t.length + 20 = a.length + (c.length + 1) := by
    have := congrArg List.length hE
    rw [encL_len] at this
    simpa using this
  have hl : (a ++ y :: c ++ z).length = t.length + 20 + z.length := by simp; omega
  unfold rdE
  rw [if_neg (by omega)]
  have e0 : encL s k t = hd16 s k t.length ++ (t ++ four (sumN (bod s k t))) := by simp [encL, bod]
  rcases Nat.lt_or_ge a.length 16 with hp | hp
  · rw [if_pos]
    intro hh
    have e16 : hd s k t.length ++ four (sumN (hd s k t.length)) = a ++ x :: c.take (16 - a.length - 1) := by
      have := congrArg (List.take 16) (e0.symm.trans hE)
      rw [List.take_append_of_le_length (by rw [hd16_len]; omega), List.take_of_length_le (by rw [hd16_len]; omega), List.take_append, List.take_of_length_le (show a.length ≤ 16 by omega)] at this
      obtain ⟨m, hm⟩ : ∃ m, 16 - a.length = m + 1 := ⟨16 - a.length - 1, by omega⟩
      rw [hm, List.take_succ_cons] at this
      rw [show 16 - a.length - 1 = m by omega]
      exact this
    have hs := sum_spoilt (z := c.drop (16 - a.length - 1) ++ z) e16 hxy
    have e : a ++ y :: c.take (16 - a.length - 1) ++ (c.drop (16 - a.length - 1) ++ z) = a ++ y :: c ++ z := by
      simp only [List.append_assoc, List.cons_append]
      rw [← List.append_assoc (c.take _), List.take_append_drop]
    rw [e, hd_len] at hs
    exact hs hh.1.2.2.2
  · have ea : a = hd16 s k t.length ++ a.drop 16 := by
      have := congrArg (List.take 16) (e0.symm.trans hE)
      rw [List.take_append_of_le_length (by rw [hd16_len]; omega), List.take_of_length_le (by rw [hd16_len]; omega), List.take_append_of_le_length hp] at this
      rw [this, List.take_append_drop]
    have eD : a ++ y :: c ++ z = hd16 s k t.length ++ (a.drop 16 ++ y :: c ++ z) := by
      conv => lhs; rw [ea]
      simp
    obtain ⟨h1, h2, h3, h4⟩ := hd16_facts (s := s) (k := k) (n := t.length) (a.drop 16 ++ y :: c ++ z) (by unfold may at h; omega) (by unfold may at h; omega) (by omega)
    rw [← eD] at h1 h2 h3 h4
    have hs := sum_spoilt (u := bod s k t) (z := z) hE hxy
    rw [bod_len] at hs
    rw [if_neg (by rw [Classical.not_not]; exact ⟨h1, by rw [h2, h3]; exact h, by omega⟩), h4, if_neg (by omega), if_pos hs]
structure Rec where
  seq : Nat
  kind : Nat
  text : List UInt8
/-- the record that stands there -/
def rdR (d : List UInt8) : Rec := ⟨rdS d, rdK d, rdT d⟩
/-- one more record, with the Seq k, stands there -/
abbrev onB (k : Nat) (d : List UInt8) : Prop := rdE d = 0 ∧ rdS d = k
def nxt (d : List UInt8) : List UInt8 := d.drop (rdN d + 20)
theorem nxt_lt {k : Nat} {d : List UInt8} (h : onB k d) : (nxt d).length < d.length := by
  have := (rdE_ok h.1).2.2.1
  simp [nxt]
  omega
/-- Whole's records -/
def whL (k : Nat) (d : List UInt8) : List Rec := if _h : onB k d then rdR d :: whL (k + 1) (nxt d) else []
termination_by d.length
decreasing_by exact nxt_lt _h
/-- how many bytes they take -/
def whB (l : List Rec) : Nat := l.foldl (fun n r => n + (r.text.length + 20)) 0
/-- why it ended -/
def whE (k : Nat) (d : List UInt8) : Nat := if _h : onB k d then whE (k + 1) (nxt d) else if d.length = 0 then 0 else if rdE d = 0 then 192 else rdE d
termination_by d.length
decreasing_by exact nxt_lt _h
theorem whL_on {k : Nat} {d : List UInt8} (h : onB k d) : whL k d = rdR d :: whL (k + 1) (nxt d) := by rw [whL, dif_pos h]
theorem whL_off {k : Nat} {d : List UInt8} (h : ¬ onB k d) : whL k d = [] := by rw [whL, dif_neg h]
theorem whE_on {k : Nat} {d : List UInt8} (h : onB k d) : whE k d = whE (k + 1) (nxt d) := by rw [whE, dif_pos h]
theorem whE_off {k : Nat} {d : List UInt8} (h : ¬ onB k d) : whE k d = if d.length = 0 then 0 else if rdE d = 0 then 192 else rdE d := by rw [whE, dif_neg h]
theorem whB_cons (r : Rec) (l : List Rec) : whB (r :: l) = (r.text.length + 20) + whB l := by
  have : ∀ (l : List Rec) (n : Nat), l.foldl (fun n r => n + (r.text.length + 20)) n = n + l.foldl (fun n r => n + (r.text.length + 20)) 0 := by
    intro l
    induction l with
    | nil => intro n; rfl
    | cons a l ih => intro n; rw [List.foldl_cons, ih, List.foldl_cons, ih (0 + _)]; omega
  unfold whB
  rw [List.foldl_cons, this]
  omega
theorem whB_app (a b : List Rec) : whB (a ++ b) = whB a + whB b := by
  induction a with
  | nil => simp [whB]
  | cons r a ih => rw [List.cons_append, whB_cons, whB_cons, ih]; omega
/-- the bytes of a list of records, numbered from k on -/
def encA (k : Nat) : List (Nat × List UInt8) → List UInt8
  | [] => []
  | (c, t) :: l => encL k c t ++ encA (k + 1) l
def recA (k : Nat) : List (Nat × List UInt8) → List Rec
  | [] => []
  | (c, t) :: l => ⟨k, c, t⟩ :: recA (k + 1) l
def okA (k : Nat) : List (Nat × List UInt8) → Prop
  | [] => True
  | (c, t) :: l => may k c ∧ t.length ≤ 16384 ∧ okA (k + 1) l
theorem encA_len (l : List (Nat × List UInt8)) : ∀ k, (encA k l).length = whB (recA k l) := by
  induction l with
  | nil => intro k; rfl
  | cons e l ih =>
    intro k
    rw [encA, recA, whB_cons, List.length_append, encL_len, ih]
theorem on_enc {k c : Nat} {t : List UInt8} (h : may k c) (ht : t.length ≤ 16384) (x : List UInt8) : onB k (encL k c t ++ x) ∧ rdR (encL k c t ++ x) = ⟨k, c, t⟩ ∧ nxt (encL k c t ++ x) = x := by
  obtain ⟨h1, h2, h3, h4, h5⟩ := rd_enc h ht x
  refine ⟨⟨h1, h2⟩, by rw [rdR, h2, h3, h5], ?_⟩
  rw [nxt, h4, ← encL_len k c t, List.drop_left]
/-- how many of the records end at j or before -/
def cntA : List Rec → Nat → Nat
  | [], _ => 0
  | r :: l, j => if r.text.length + 20 ≤ j then cntA l (j - (r.text.length + 20)) + 1 else 0
theorem wh_cut (l : List (Nat × List UInt8)) : ∀ (k j : Nat), okA k l → j ≤ (encA k l).length →
    whL k ((encA k l).take j) = (recA k l).take (cntA (recA k l) j) ∧
    whE k ((encA k l).take j) = (if whB ((recA k l).take (cntA (recA k l) j)) = j then 0 else 191) := by
  induction l with
  | nil =>
    intro k j _ hj
    obtain rfl : j = 0 := by simpa [encA] using hj
    have h0 : ¬ onB k [] := by
      intro h
      exact absurd (rdE_ok h.1).1 (by simp)
    simp only [encA, List.take_nil, recA]
    rw [whL_off h0, whE_off h0]
    exact ⟨rfl, rfl⟩
  | cons e l ih =>
    obtain ⟨c, t⟩ := e
    intro k j ⟨hm, ht, hl⟩ hj
    rw [encA, List.length_append, encL_len] at hj
    rw [recA, cntA]
    show whL k (List.take j (encL k c t ++ encA (k + 1) l)) = _ ∧ whE k (List.take j (encL k c t ++ encA (k + 1) l)) = _
    by_cases hc : t.length + 20 ≤ j
    · rw [if_pos hc]
      have e1 : List.take j (encL k c t ++ encA (k + 1) l) = encL k c t ++ (encA (k + 1) l).take (j - (t.length + 20)) := by
        rw [List.take_append, encL_len, List.take_of_length_le (by rw [encL_len]; omega)]
      obtain ⟨h1, h2, h3⟩ := on_enc hm ht ((encA (k + 1) l).take (j - (t.length + 20)))
      obtain ⟨i1, i2⟩ := ih (k + 1) (j - (t.length + 20)) hl (by omega)
      rw [e1, whL_on h1, whE_on h1, h2, h3, i1, i2, List.take_succ_cons, whB_cons]
      refine ⟨rfl, ?_⟩
      show _ = if t.length + 20 + whB ((recA (k + 1) l).take (cntA (recA (k + 1) l) (j - (t.length + 20)))) = j then 0 else 191
      generalize whB ((recA (k + 1) l).take (cntA (recA (k + 1) l) (j - (t.length + 20)))) = X
      by_cases hx : X = j - (t.length + 20)
      · rw [if_pos hx, if_pos (by omega)]
      · rw [if_neg hx, if_neg (by omega)]
    · rw [if_neg hc]
      have e1 : List.take j (encL k c t ++ encA (k + 1) l) = (encL k c t).take j := List.take_append_of_le_length (by rw [encL_len]; omega)
      have hr := rd_cut hm ht (j := j) (by omega)
      have hoff : ¬ onB k ((encL k c t).take j) := by
        intro h
        rw [onB, hr] at h
        cases h.1
      rw [e1, whL_off hoff, whE_off hoff, hr, List.take_zero]
      refine ⟨rfl, ?_⟩
      have hlen : ((encL k c t).take j).length = j := by rw [List.length_take, encL_len]; omega
      rw [hlen]
      show (if j = 0 then 0 else if 191 = 0 then 192 else 191) = if 0 = j then 0 else 191
      by_cases h0 : j = 0
      · rw [if_pos h0, if_pos h0.symm]
      · rw [if_neg h0, if_neg (by decide), if_neg (fun h => h0 h.symm)]
theorem wh_spoilt (l : List (Nat × List UInt8)) : ∀ (k : Nat) (a c : List UInt8) (x y : UInt8), okA k l → encA k l = a ++ x :: c → x ≠ y →
    whL k (a ++ y :: c) = (recA k l).take (cntA (recA k l) a.length) ∧ whE k (a ++ y :: c) = 192 := by
  induction l with
  | nil =>
    intro k a c x y _ h _
    have := congrArg List.length h
    simp [encA] at this
  | cons e l ih =>
    obtain ⟨kd, t⟩ := e
    intro k a c x y ⟨hm, ht, hl⟩ hE hxy
    rw [encA] at hE
    rw [recA, cntA]
    by_cases hc : t.length + 20 ≤ a.length
    · rw [if_pos hc]
      have ea : a = encL k kd t ++ a.drop (t.length + 20) := by
        have := congrArg (List.take (t.length + 20)) hE
        rw [← encL_len k kd t, List.take_left, List.take_append_of_le_length (by rw [encL_len]; exact hc)] at this
        rw [encL_len] at this
        rw [this, List.take_append_drop]
      have e2 : encA (k + 1) l = a.drop (t.length + 20) ++ x :: c := by
        rw [ea, List.append_assoc] at hE
        exact List.append_cancel_left hE
      obtain ⟨i1, i2⟩ := ih (k + 1) _ c x y hl e2 hxy
      have e3 : a ++ y :: c = encL k kd t ++ (a.drop (t.length + 20) ++ y :: c) := by
        conv => lhs; rw [ea]
        simp
      obtain ⟨h1, h2, h3⟩ := on_enc hm ht (a.drop (t.length + 20) ++ y :: c)
      rw [e3, whL_on h1, whE_on h1, h2, h3, i1, i2, List.take_succ_cons, List.length_drop]
      exact ⟨rfl, rfl⟩
    · rw [if_neg hc]
      have hlen : t.length + 20 + (encA (k + 1) l).length = a.length + (c.length + 1) := by
        have := congrArg List.length hE
        rw [List.length_append, encL_len] at this
        simpa using this
      obtain ⟨m, hm2⟩ : ∃ m, t.length + 20 - a.length = m + 1 := ⟨t.length + 20 - a.length - 1, by omega⟩
      have eE : encL k kd t = a ++ x :: c.take m := by
        have := congrArg (List.take (t.length + 20)) hE
        rw [← encL_len k kd t, List.take_left, encL_len, List.take_append, List.take_of_length_le (show a.length ≤ t.length + 20 by omega), hm2, List.take_succ_cons] at this
        exact this
      have hr := rd_spoilt (z := c.drop m) hm ht eE hxy
      have e3 : a ++ y :: c.take m ++ c.drop m = a ++ y :: c := by simp
      rw [e3] at hr
      have hoff : ¬ onB k (a ++ y :: c) := by
        intro h
        rw [onB, hr] at h
        cases h.1
      rw [whL_off hoff, whE_off hoff, hr, List.take_zero]
      refine ⟨rfl, ?_⟩
      rw [if_neg (by simp)]
      rfl
end Go.Proofs.YtkmnonkabekclaaDoor
