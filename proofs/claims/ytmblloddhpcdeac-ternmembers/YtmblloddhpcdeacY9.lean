import Derived.Test.YtmblloddhpcdeacY6
namespace Go.Proofs.Ytmblloddhpcdeac

/-- no place from p on that could become 1 -/
theorem cur_miss (t h : List UInt8) (hl : t.length = h.length) (j : Nat) : ∀ p, p + j = t.length → (∀ k (hk : k < t.length) (hk2 : k < h.length), p ≤ k → t[k] = 120 → h[k] ≠ 48) →
    flg t h p = false ∧ (∀ k (hk : k < t.length) (hk2 : k < h.length), p ≤ k → (cur t h p)[k]? = some (if t[k] == 120 then 48 else h[k])) ∧ ∀ k (hk : k < h.length), k < p → (cur t h p)[k]? = some h[k] := by
  induction j with
  | zero =>
    intro p hp _
    obtain rfl : p = t.length := by omega
    obtain ⟨a, b⟩ := cur_end t h hl
    refine ⟨b, fun k hk _ h1 => by omega, fun k hk _ => ?_⟩
    rw [a, List.getElem?_eq_getElem hk]
  | succ j ih =>
    intro p hp hm
    obtain ⟨f1, g1, g2⟩ := ih (p + 1) (by omega) (fun k hk hk2 h1 => hm k hk hk2 (by omega))
    have hpt : p < t.length := by omega
    have hph : p < h.length := by omega
    have hlen := cur_len t h (p + 1) (by omega)
    by_cases hx : t[p] = 120
    · obtain ⟨a, b⟩ := st_carry t h p hpt hph hx (hm p hpt hph (Nat.le_refl _) hx) f1
      refine ⟨b, fun k hk hk2 h1 => ?_, fun k hk h1 => ?_⟩
      · rw [a, List.getElem?_set]
        by_cases e : p = k
        · subst e
          rw [if_pos rfl, if_pos (by omega), hx]
          rfl
        · rw [if_neg e]
          exact g1 k hk hk2 (by omega)
      · rw [a, List.getElem?_set, if_neg (by omega)]
        exact g2 k hk (by omega)
    · obtain ⟨a, b⟩ := st_plain t h p hpt hph hx f1
      refine ⟨b, fun k hk hk2 h1 => ?_, fun k hk h1 => ?_⟩
      · rw [a]
        by_cases e : p = k
        · subst e
          rw [g2 p hph (by omega)]
          have : (t[p] == 120) = false := by simpa using hx
          rw [this]
          rfl
        · exact g1 k hk hk2 (by omega)
      · rw [a]
        exact g2 k hk (by omega)

/-- the last place that can become 1 -/
def lastB (t h : List UInt8) : Nat → Option Nat
  | 0 => none
  | k + 1 => if t.getD k 0 == 120 && h.getD k 0 == 48 then some k else lastB t h k
theorem lastB_spec (t h : List UInt8) (n : Nat) (hn : n ≤ t.length) (hl : t.length = h.length) : (∀ q, lastB t h n = some q → q < n ∧ ∃ (h1 : q < t.length) (h2 : q < h.length), t[q] = 120 ∧ h[q] = 48 ∧ ∀ k (hk : k < t.length) (hk2 : k < h.length), q < k → k < n → t[k] = 120 → h[k] ≠ 48) ∧ (lastB t h n = none → ∀ k (hk : k < t.length) (hk2 : k < h.length), k < n → t[k] = 120 → h[k] ≠ 48) := by
  induction n with
  | zero => exact ⟨(fun q h => by cases h), fun _ k _ _ h => by omega⟩
  | succ n ih =>
    obtain ⟨i1, i2⟩ := ih (by omega)
    have e1 : t.getD n 0 = t[n] := by simp [List.getElem?_eq_getElem (show n < t.length by omega)]
    have e2 : h.getD n 0 = h[n] := by simp [List.getElem?_eq_getElem (show n < h.length by omega)]
    simp only [lastB, e1, e2]
    by_cases hc : (t[n] == 120 && h[n] == 48) = true
    · rw [if_pos hc]
      rw [Bool.and_eq_true, beq_iff_eq, beq_iff_eq] at hc
      refine ⟨fun q hq => ?_, fun h => by cases h⟩
      obtain rfl : n = q := Option.some.inj hq
      exact ⟨by omega, by omega, by omega, hc.1, hc.2, fun k _ _ h1 h2 => by omega⟩
    · rw [if_neg hc]
      have hc' : t[n] = 120 → h[n] ≠ 48 := by
        intro a b
        apply hc
        rw [a, b]; rfl
      refine ⟨fun q hq => ?_, fun hq k hk hk2 h1 h2 => ?_⟩
      · obtain ⟨a, b, c, d, e, f⟩ := i1 q hq
        refine ⟨by omega, b, c, d, e, fun k hk hk2 h1 h2 h3 => ?_⟩
        by_cases ek : k = n
        · subst ek; exact hc' h3
        · exact f k hk hk2 h1 (by omega) h3
      · by_cases ek : k = n
        · subst ek; exact hc' h2
        · exact i2 hq k hk hk2 (by omega) h2
theorem nx_none (t h : List UInt8) (hl : t.length = h.length) (hn : lastB t h t.length = none) : (nx t h).2 = false := by
  have hm := (lastB_spec t h t.length (Nat.le_refl _) hl).2 hn
  rw [← (cur_zero t h).2]
  exact (cur_miss t h hl t.length 0 (by omega) (fun k hk hk2 _ h1 => hm k hk hk2 hk h1)).1
theorem nx_some (t h : List UInt8) (hl : t.length = h.length) (q : Nat) (hq : lastB t h t.length = some q) : (nx t h).2 = true ∧ ∀ k (hk : k < t.length) (hk2 : k < h.length), (nx t h).1[k]? = some (if k = q then 49 else if q < k ∧ t[k] = 120 then 48 else h[k]) := by
  obtain ⟨hqn, h1, h2, hx, hd, hm⟩ := (lastB_spec t h t.length (Nat.le_refl _) hl).1 q hq
  obtain ⟨f1, g1, g2⟩ := cur_miss t h hl (t.length - (q + 1)) (q + 1) (by omega) (fun k hk hk2 ha hb => hm k hk hk2 (by omega) hk hb)
  obtain ⟨a, b⟩ := st_hit t h q h1 h2 hx hd f1
  obtain ⟨c, d⟩ := st_ups t h q hl (by omega) b
  refine ⟨d, fun k hk hk2 => ?_⟩
  have hlen := cur_len t h (q + 1) (by omega)
  rw [c, a, List.getElem?_set]
  by_cases e : q = k
  · subst e
    rw [if_pos rfl, if_pos (by omega), if_pos rfl]
  · rw [if_neg e, if_neg (Ne.symm e)]
    by_cases hk' : q < k
    · rw [g1 k hk hk2 (by omega)]
      by_cases hx2 : t[k] = 120
      · simp [hx2, hk']
      · simp [hx2]
    · rw [g2 k hk2 (by omega)]
      simp [hk']
theorem upTo_lv (t : List UInt8) (a b : Nat) (h : lv t b) (hab : a ≤ b) : lv t a := by
  induction b with
  | zero =>
    obtain rfl : a = 0 := by omega
    exact h
  | succ b ih =>
    by_cases e : a = b + 1
    · subst e; exact h
    · exact ih h.1 (by omega)
end Go.Proofs.Ytmblloddhpcdeac
