import Derived.Test.YtmblloddhpcdeacM
namespace Go.Proofs.Ytmblloddhpcdeac

/-- the header that comes next (false: there is none) -/
def nx : List UInt8 → List UInt8 → List UInt8 × Bool
  | c :: t, d :: h => if (nx t h).2 = true then (d :: (nx t h).1, true) else if c == 120 then (if d == 48 then (49 :: (nx t h).1, true) else (48 :: (nx t h).1, false)) else (d :: (nx t h).1, false)
  | _, h => (h, false)
/-- the least header -/
def lst (t : List UInt8) : List UInt8 := t.map (fun c => if c == 120 then 48 else c)
theorem lst_len (t : List UInt8) : (lst t).length = t.length := by simp [lst]
theorem nx_len (t h : List UInt8) : (nx t h).1.length = h.length := by
  induction t generalizing h with
  | nil => cases h <;> simp [nx]
  | cons c t ih =>
    cases h with
    | nil => simp [nx]
    | cons d h =>
      have := ih h
      simp only [nx]
      split
      · simp [this]
      · split
        · split <;> simp [this]
        · simp [this]

/-- the header when the places from p on have been gone through -/
def cur (t h : List UInt8) (p : Nat) : List UInt8 := h.take p ++ (nx (t.drop p) (h.drop p)).1
def flg (t h : List UInt8) (p : Nat) : Bool := (nx (t.drop p) (h.drop p)).2
theorem cur_len (t h : List UInt8) (p : Nat) (hp : p ≤ h.length) : (cur t h p).length = h.length := by
  simp [cur, nx_len]; omega
theorem cur_end (t h : List UInt8) (hl : t.length = h.length) : cur t h t.length = h ∧ flg t h t.length = false := by
  simp [cur, flg, hl, nx]
theorem cur_zero (t h : List UInt8) : cur t h 0 = (nx t h).1 ∧ flg t h 0 = (nx t h).2 := by simp [cur, flg]
theorem nx_at (t h : List UInt8) (p : Nat) (hp : p < t.length) (hq : p < h.length) : nx (t.drop p) (h.drop p) = nx (t[p] :: t.drop (p + 1)) (h[p] :: h.drop (p + 1)) := by
  rw [List.drop_eq_getElem_cons hp, List.drop_eq_getElem_cons hq]
theorem take_put (h : List UInt8) (p : Nat) (hq : p < h.length) (x : UInt8) (r : List UInt8) : (h.take (p + 1) ++ r).set p x = h.take p ++ (x :: r) := by
  have h1 : h.take (p + 1) = h.take p ++ [h[p]] := by rw [List.take_add_one, List.getElem?_eq_getElem hq]; rfl
  rw [h1, List.append_assoc]
  have h2 : (h.take p).length = p := by simp; omega
  have := List.set_append_right (s := h.take p) (t := [h[p]] ++ r) (i := p) (x := x) (by omega)
  rw [this, h2]
  simp
theorem take_keep (h : List UInt8) (p : Nat) (hq : p < h.length) (r : List UInt8) : h.take (p + 1) ++ r = h.take p ++ (h[p] :: r) := by
  have h1 : h.take (p + 1) = h.take p ++ [h[p]] := by rw [List.take_add_one, List.getElem?_eq_getElem hq]; rfl
  rw [h1, List.append_assoc]; rfl
theorem cur_get (t h : List UInt8) (p : Nat) (hq : p < h.length) : (cur t h (p + 1))[p]? = some h[p] := by
  unfold cur
  rw [take_keep h p hq]
  have h2 : (h.take p).length = p := by simp; omega
  rw [List.getElem?_append_right (by omega), h2]
  simp
theorem st_up (t h : List UInt8) (p : Nat) (hp : p < t.length) (hq : p < h.length) (hf : flg t h (p + 1) = true) : cur t h p = cur t h (p + 1) ∧ flg t h p = true := by
  unfold flg at hf
  unfold cur flg
  rw [nx_at t h p hp hq, take_keep h p hq]
  simp only [nx, hf, if_true, and_self]
theorem st_plain (t h : List UInt8) (p : Nat) (hp : p < t.length) (hq : p < h.length) (hx : t[p] ≠ 120) (hf : flg t h (p + 1) = false) : cur t h p = cur t h (p + 1) ∧ flg t h p = false := by
  have hc : (t[p] == 120) = false := by simpa using hx
  unfold flg at hf
  unfold cur flg
  rw [nx_at t h p hp hq, take_keep h p hq]
  simp [nx, hf, hc]
theorem st_hit (t h : List UInt8) (p : Nat) (hp : p < t.length) (hq : p < h.length) (hx : t[p] = 120) (hd : h[p] = 48) (hf : flg t h (p + 1) = false) : cur t h p = (cur t h (p + 1)).set p 49 ∧ flg t h p = true := by
  unfold flg at hf
  unfold cur flg
  rw [nx_at t h p hp hq, take_put h p hq]
  simp [nx, hf, hx, hd]
theorem st_carry (t h : List UInt8) (p : Nat) (hp : p < t.length) (hq : p < h.length) (hx : t[p] = 120) (hd : h[p] ≠ 48) (hf : flg t h (p + 1) = false) : cur t h p = (cur t h (p + 1)).set p 48 ∧ flg t h p = false := by
  have hc : (h[p] == 48) = false := by simpa using hd
  unfold flg at hf
  unfold cur flg
  rw [nx_at t h p hp hq, take_put h p hq]
  simp [nx, hf, hx, hd]
theorem st_ups (t h : List UInt8) (p : Nat) (hl : t.length = h.length) (hp : p ≤ t.length) (hf : flg t h p = true) : (nx t h).1 = cur t h p ∧ (nx t h).2 = true := by
  induction p with
  | zero =>
    obtain ⟨a, b⟩ := cur_zero t h
    rw [← a, ← b]
    exact ⟨rfl, hf⟩
  | succ p ih =>
    obtain ⟨a, b⟩ := st_up t h p (by omega) (by omega) hf
    obtain ⟨c, d⟩ := ih (by omega) b
    exact ⟨c.trans a, d⟩
/-- no free place between -/
theorem st_gap (t h : List UInt8) (q b : Nat) (hl : t.length = h.length) (hb : b ≤ t.length) (hq : q ≤ b) (hx : ∀ k (hk : k < t.length), q ≤ k → k < b → t[k] ≠ 120) (hf : flg t h b = false) : cur t h q = cur t h b ∧ flg t h q = false := by
  induction b with
  | zero =>
    obtain rfl : q = 0 := by omega
    exact ⟨rfl, hf⟩
  | succ b ih =>
    by_cases e : q = b + 1
    · subst e; exact ⟨rfl, hf⟩
    · obtain ⟨a, c⟩ := st_plain t h b (by omega) (by omega) (hx b (by omega) (by omega) (by omega)) hf
      obtain ⟨d, f⟩ := ih (by omega) (by omega) (fun k hk h1 h2 => hx k hk h1 (by omega)) c
      exact ⟨d.trans a, f⟩

/-- the free places ahead of k -/
def fr (t : List UInt8) : Nat → List Nat
  | 0 => []
  | k + 1 => if t.getD k 0 == 120 then fr t k ++ [k] else fr t k
theorem fr_len (t : List UInt8) (k : Nat) : (fr t k).length ≤ k := by
  induction k with
  | zero => simp [fr]
  | succ k ih =>
    simp only [fr]
    split
    · simp; omega
    · omega
theorem fr_x (t : List UInt8) (k : Nat) (hk : k < t.length) (hx : t[k] = 120) : fr t (k + 1) = fr t k ++ [k] := by
  have : (t.getD k 0 == 120) = true := by simp [List.getElem?_eq_getElem hk, hx]
  simp only [fr, this, if_true]
theorem fr_n (t : List UInt8) (k : Nat) (hk : k < t.length) (hx : t[k] ≠ 120) : fr t (k + 1) = fr t k := by
  have : (t.getD k 0 == 120) = false := by simp [List.getElem?_eq_getElem hk, hx]
  simp only [fr, this, Bool.false_eq_true, if_false]
/-- the last free place ahead of p -/
theorem fr_last (t : List UInt8) (p : Nat) (hp : p ≤ t.length) (hne : fr t p ≠ []) : ∃ q, ∃ hq : q < t.length, q < p ∧ t[q] = 120 ∧ fr t p = fr t q ++ [q] ∧ ∀ k (hk : k < t.length), q < k → k < p → t[k] ≠ 120 := by
  induction p with
  | zero => exact absurd rfl hne
  | succ p ih =>
    by_cases hx : t[p] = 120
    · refine ⟨p, by omega, by omega, hx, fr_x t p (by omega) hx, fun k hk h1 h2 => by omega⟩
    · rw [fr_n t p (by omega) hx] at hne ⊢
      obtain ⟨q, hq, h1, h2, h3, h4⟩ := ih (by omega) hne
      refine ⟨q, hq, by omega, h2, h3, fun k hk h5 h6 => ?_⟩
      by_cases e : k = p
      · subst e; exact hx
      · exact h4 k hk h5 (by omega)
/-- fr of a smaller number begins fr of a greater -/
theorem fr_pre (t : List UInt8) (p k : Nat) (h : p ≤ k) : ∃ r, fr t k = fr t p ++ r := by
  induction k with
  | zero =>
    obtain rfl : p = 0 := by omega
    exact ⟨[], by simp⟩
  | succ k ih =>
    by_cases e : p = k + 1
    · subst e; exact ⟨[], by simp⟩
    · obtain ⟨r, hr⟩ := ih (by omega)
      simp only [fr]
      split
      · exact ⟨r ++ [k], by rw [hr]; simp⟩
      · exact ⟨r, hr⟩
theorem fr_at (t : List UInt8) (p q k : Nat) (h : p ≤ k) (hf : fr t p = fr t q ++ [q]) : (fr t k)[(fr t q).length]? = some q := by
  obtain ⟨r, hr⟩ := fr_pre t p k h
  rw [hr, hf]
  simp
/-- no free place at all ahead of p: the header stands -/
theorem fr_none (t h : List UInt8) (p : Nat) (hl : t.length = h.length) (hp : p ≤ t.length) (hn : fr t p = []) (hf : flg t h p = false) : (nx t h).2 = false := by
  have hx : ∀ k (hk : k < t.length), 0 ≤ k → k < p → t[k] ≠ 120 := by
    intro k hk _ h1 e
    obtain ⟨r, hr⟩ := fr_pre t (k + 1) p (by omega)
    rw [fr_x t k hk e, hn] at hr
    simp at hr
  obtain ⟨_, b⟩ := st_gap t h 0 p hl hp (Nat.zero_le _) hx hf
  rw [← (cur_zero t h).2]
  exact b
end Go.Proofs.Ytmblloddhpcdeac
