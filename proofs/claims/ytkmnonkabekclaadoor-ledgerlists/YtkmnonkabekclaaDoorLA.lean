namespace Go.Proofs.YtkmnonkabekclaaDoor
def pB : Nat := 2197175160
/-- one place to the right -/
def gB (r : Nat) : Nat := if r % 2 = 1 then (r / 2) ^^^ pB else r / 2
theorem xor_mod2 (a b : Nat) : (a ^^^ b) % 2 = (a + b) % 2 := by
  have h : ((a ^^^ b) % 2 = 1) ↔ ¬ (a % 2 = 1 ↔ b % 2 = 1) := Nat.xor_mod_two_eq_one
  generalize a ^^^ b = c at h
  by_cases h1 : a % 2 = 1 <;> by_cases h2 : b % 2 = 1 <;> simp only [h1, h2, iff_true, iff_false, not_true, not_false_eq_true, iff_self] at h <;> omega
theorem gB_xor (a b : Nat) : gB (a ^^^ b) = gB a ^^^ gB b := by
  have h1 : (a ^^^ b) / 2 = a / 2 ^^^ b / 2 := Nat.xor_div_two
  have h2 : (a ^^^ b) % 2 = (a + b) % 2 := xor_mod2 a b
  unfold gB
  rw [h1]
  rcases Nat.mod_two_eq_zero_or_one a with ha | ha <;> rcases Nat.mod_two_eq_zero_or_one b with hb | hb
  · rw [if_neg (by omega), if_neg (by omega), if_neg (by omega)]
  · rw [if_pos (by omega), if_neg (by omega), if_pos (by omega), Nat.xor_assoc]
  · rw [if_pos (by omega), if_pos (by omega), if_neg (by omega), Nat.xor_assoc, Nat.xor_assoc, Nat.xor_comm (b / 2)]
  · rw [if_neg (by omega), if_pos (by omega), if_pos (by omega)]
    have : a / 2 ^^^ pB ^^^ (b / 2 ^^^ pB) = a / 2 ^^^ b / 2 ^^^ (pB ^^^ pB) := by
      rw [Nat.xor_assoc, Nat.xor_assoc, ← Nat.xor_assoc pB, Nat.xor_comm pB (b / 2), Nat.xor_assoc (b / 2)]
    rw [this, Nat.xor_self, Nat.xor_zero]
theorem gB_two (h : Nat) : gB (2 * h) = h := by
  unfold gB
  rw [if_neg (by omega)]
  omega
theorem gB_lt {r : Nat} (h : r < 4294967296) : gB r < 4294967296 := by
  unfold gB
  split
  · exact Nat.xor_lt_two_pow (n := 32) (by omega) (by decide)
  · omega
theorem gB_inj {a b : Nat} (ha : a < 4294967296) (hb : b < 4294967296) (h : gB a = gB b) : a = b := by
  have top : ∀ x : Nat, x < 2147483648 → ¬ (x ^^^ pB < 2147483648) := by
    intro x hx hl
    have h1 : (x ^^^ pB).testBit 31 = false := Nat.testBit_lt_two_pow (by omega)
    rw [Nat.testBit_xor, Nat.testBit_lt_two_pow (show x < 2 ^ 31 by omega)] at h1
    exact absurd h1 (by decide)
  have can : ∀ x y : Nat, x ^^^ pB = y ^^^ pB → x = y := by
    intro x y e
    have := congrArg (· ^^^ pB) e
    simpa [Nat.xor_assoc] using this
  unfold gB at h
  split at h <;> split at h
  · have := can _ _ h
    omega
  · exact absurd (show a / 2 ^^^ pB < 2147483648 by omega) (top _ (by omega))
  · exact absurd (show b / 2 ^^^ pB < 2147483648 by omega) (top _ (by omega))
  · omega
def g4 (r : Nat) : Nat := gB (gB (gB (gB r)))
def g8 (r : Nat) : Nat := g4 (g4 r)
theorem g4_xor (a b : Nat) : g4 (a ^^^ b) = g4 a ^^^ g4 b := by simp only [g4, gB_xor]
theorem g8_xor (a b : Nat) : g8 (a ^^^ b) = g8 a ^^^ g8 b := by simp only [g8, g4_xor]
theorem g4_lt {r : Nat} (h : r < 4294967296) : g4 r < 4294967296 := gB_lt (gB_lt (gB_lt (gB_lt h)))
theorem g8_lt {r : Nat} (h : r < 4294967296) : g8 r < 4294967296 := g4_lt (g4_lt h)
theorem g4_inj {a b : Nat} (ha : a < 4294967296) (hb : b < 4294967296) (h : g4 a = g4 b) : a = b :=
  gB_inj ha hb (gB_inj (gB_lt ha) (gB_lt hb) (gB_inj (gB_lt (gB_lt ha)) (gB_lt (gB_lt hb)) (gB_inj (gB_lt (gB_lt (gB_lt ha))) (gB_lt (gB_lt (gB_lt hb))) h)))
theorem g8_inj {a b : Nat} (ha : a < 4294967296) (hb : b < 4294967296) (h : g8 a = g8 b) : a = b := g4_inj ha hb (g4_inj (g4_lt ha) (g4_lt hb) h)
theorem xor_lt32 {a b : Nat} (ha : a < 4294967296) (hb : b < 4294967296) : a ^^^ b < 4294967296 := Nat.xor_lt_two_pow (n := 32) ha hb
/-- what four zero bits make of a half byte -/
def tB : List Nat := [0, 274646895, 549293790, 820201905, 1098587580, 1361435347, 1640403810, 1905808397, 2197175160, 2460548119, 2722870694, 2987750089, 3280807620, 3553878443, 3811616794, 4084100981]
theorem tB_ok : ∀ l : Fin 16, tB[l.1]? = some (g4 l.1) := by decide
theorem split16 (r : Nat) : r = (16 * (r / 16)) ^^^ (r % 16) := by
  refine Nat.eq_of_testBit_eq (fun i => ?_)
  rw [Nat.testBit_xor, show (16 : Nat) = 2 ^ 4 from rfl, Nat.testBit_two_pow_mul, Nat.testBit_div_two_pow, Nat.testBit_mod_two_pow]
  by_cases h : 4 ≤ i
  · have h2 : ¬ i < 4 := by omega
    simp [h, h2, Nat.sub_add_cancel h]
  · have h2 : i < 4 := by omega
    simp [h, h2]
theorem g4_16 (h : Nat) : g4 (16 * h) = h := by
  unfold g4
  rw [show 16 * h = 2 * (2 * (2 * (2 * h))) by omega, gB_two, gB_two, gB_two, gB_two]
/-- the program's half byte -/
theorem g4_tab (r : Nat) : ∃ t, tB[r % 16]? = some t ∧ t < 4294967296 ∧ g4 r = r / 16 ^^^ t := by
  refine ⟨g4 (r % 16), tB_ok ⟨r % 16, by omega⟩, g4_lt (by omega), ?_⟩
  have h := g4_xor (16 * (r / 16)) (r % 16)
  rw [← split16, g4_16] at h
  exact h
/-- the register behind a byte -/
def stB (r b : Nat) : Nat := g8 (r ^^^ b)
/-- the document's bit -/
def rB (r i : Nat) : Nat := if i = r % 2 then r / 2 else (r / 2) ^^^ pB
theorem rB_eq (r b : Nat) : gB (r ^^^ b) = rB r (b % 2) ^^^ (b / 2) := by
  have h1 : (r ^^^ b) / 2 = r / 2 ^^^ b / 2 := Nat.xor_div_two
  have h2 : (r ^^^ b) % 2 = (r + b) % 2 := xor_mod2 r b
  unfold gB rB
  rw [h1]
  by_cases h : b % 2 = r % 2
  · rw [if_neg (by omega), if_pos h]
  · rw [if_pos (by omega), if_neg h, Nat.xor_assoc, Nat.xor_assoc, Nat.xor_comm pB]
/-- k bits of the document -/
def rK (r b : Nat) : Nat → Nat
  | 0 => r
  | k + 1 => rB (rK r b k) (b / 2 ^ k % 2)
theorem rK_eq (r b : Nat) (k : Nat) : Nat.repeat gB k (r ^^^ b) = rK r b k ^^^ (b / 2 ^ k) := by
  induction k with
  | zero => simp [Nat.repeat, rK]
  | succ k ih =>
    rw [Nat.repeat, ih, rB_eq, rK, Nat.div_div_eq_div_mul, ← Nat.pow_succ]
theorem rK_8 {r b : Nat} (hb : b < 256) : rK r b 8 = stB r b := by
  have h := rK_eq r b 8
  have h0 : b / 2 ^ 8 = 0 := by omega
  rw [h0, Nat.xor_zero] at h
  rw [← h]
  rfl
theorem rB_lt {r i : Nat} (h : r < 4294967296) : rB r i < 4294967296 := by
  unfold rB
  split
  · omega
  · exact Nat.xor_lt_two_pow (n := 32) (by omega) (by decide)
theorem rK_lt {r b : Nat} (h : r < 4294967296) (k : Nat) : rK r b k < 4294967296 := by
  induction k with
  | zero => exact h
  | succ k ih => exact rB_lt ih
theorem stB_lt {r b : Nat} (hr : r < 4294967296) (hb : b < 256) : stB r b < 4294967296 := g8_lt (xor_lt32 hr (by omega))
/-- the register behind bytes -/
def sumR (r : Nat) (l : List UInt8) : Nat := l.foldl (fun r b => stB r b.toNat) r
theorem sumR_lt {r : Nat} (h : r < 4294967296) (l : List UInt8) : sumR r l < 4294967296 := by
  induction l generalizing r with
  | nil => exact h
  | cons b l ih => exact ih (stB_lt h b.toNat_lt)
theorem sumR_snoc (r : Nat) (l : List UInt8) (b : UInt8) : sumR r (l ++ [b]) = stB (sumR r l) b.toNat := by simp [sumR, List.foldl_append]
theorem sumR_app (r : Nat) (l m : List UInt8) : sumR r (l ++ m) = sumR (sumR r l) m := by simp [sumR, List.foldl_append]
theorem stB_inj1 {r s b : Nat} (hr : r < 4294967296) (hs : s < 4294967296) (hb : b < 256) (h : stB r b = stB s b) : r = s := by
  have := g8_inj (xor_lt32 hr (by omega)) (xor_lt32 hs (by omega)) h
  have := congrArg (· ^^^ b) this
  simpa [Nat.xor_assoc] using this
theorem stB_inj2 {r b c : Nat} (hr : r < 4294967296) (hb : b < 256) (hc : c < 256) (h : stB r b = stB r c) : b = c := by
  have := g8_inj (xor_lt32 hr (by omega)) (xor_lt32 hr (by omega)) h
  have := congrArg (r ^^^ ·) this
  simpa [← Nat.xor_assoc] using this
theorem sumR_inj {l : List UInt8} : ∀ {r s : Nat}, r < 4294967296 → s < 4294967296 → sumR r l = sumR s l → r = s := by
  induction l with
  | nil => intro r s _ _ h; exact h
  | cons b l ih =>
    intro r s hr hs h
    exact stB_inj1 hr hs b.toNat_lt (ih (stB_lt hr b.toNat_lt) (stB_lt hs b.toNat_lt) h)
/-- Sum -/
def sumN (l : List UInt8) : Nat := sumR 4294967295 l ^^^ 4294967295
theorem sumN_lt (l : List UInt8) : sumN l < 4294967296 := xor_lt32 (sumR_lt (by decide) l) (by decide)
/-- one byte that is another one -/
theorem sumN_spoilt {a c : List UInt8} {x y : UInt8} (h : sumN (a ++ x :: c) = sumN (a ++ y :: c)) : x = y := by
  have h1 : sumR 4294967295 (a ++ x :: c) = sumR 4294967295 (a ++ y :: c) := by
    have := congrArg (· ^^^ 4294967295) h
    simpa [sumN, Nat.xor_assoc] using this
  rw [sumR_app, sumR_app] at h1
  have ha : sumR 4294967295 a < 4294967296 := sumR_lt (by decide) a
  have h2 := sumR_inj (l := c) (stB_lt ha x.toNat_lt) (stB_lt ha y.toNat_lt) h1
  exact UInt8.toNat_inj.1 (stB_inj2 ha x.toNat_lt y.toNat_lt h2)
theorem sumN_ex : sumN [49, 50, 51, 52, 53, 54, 55, 56, 57] = 3808858755 := by decide +kernel
/-- a number as four bytes -/
def four (n : Nat) : List UInt8 := [UInt8.ofNat (n / 16777216), UInt8.ofNat (n / 65536), UInt8.ofNat (n / 256), UInt8.ofNat n]
/-- the number of the first four bytes -/
def numL : List UInt8 → Nat
  | a :: b :: c :: d :: _ => ((a.toNat * 256 + b.toNat) * 256 + c.toNat) * 256 + d.toNat
  | _ => 0
theorem numL_four {n : Nat} (h : n < 4294967296) (l : List UInt8) : numL (four n ++ l) = n := by
  simp [four, numL]
  omega
theorem numL_lt (l : List UInt8) : numL l < 4294967296 := by
  unfold numL
  split
  · rename_i a b c d _
    have := a.toNat_lt
    have := b.toNat_lt
    have := c.toNat_lt
    have := d.toNat_lt
    omega
  · decide
theorem four_numL {l : List UInt8} (h : 4 ≤ l.length) : four (numL l) = l.take 4 := by
  match l, h with
  | a :: b :: c :: d :: l, _ =>
    have := a.toNat_lt
    have := b.toNat_lt
    have := c.toNat_lt
    have := d.toNat_lt
    simp only [four, numL, List.take_succ_cons, List.take_zero, List.cons.injEq, and_true]
    refine ⟨?_, ?_, ?_, ?_⟩ <;> (apply UInt8.toNat_inj.1; rw [UInt8.toNat_ofNat']; omega)
theorem four_len (n : Nat) : (four n).length = 4 := rfl
end Go.Proofs.YtkmnonkabekclaaDoor
