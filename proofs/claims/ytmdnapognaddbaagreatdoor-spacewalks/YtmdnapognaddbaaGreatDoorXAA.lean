import Derived.Laws.BitsAllLaws
import Derived.Test.YtmdnapognaddbaaGreatDoorRows
import Derived.WalkKit
import Derived.WalkSpells
import Derived.WalkLawsBesides
import Derived.Deep.QuietTactic
import Derived.BigQuiet
namespace Go.Proofs.YtmdnapognaddbaaGreatDoor

/-- the number whose bits below n are p's -/
def wd (p : Nat → Bool) : Nat → Nat
  | 0 => 0
  | n + 1 => wd p n ||| (if p n then 2 ^ n else 0)

theorem wd_lt (p : Nat → Bool) (n : Nat) : wd p n < 2 ^ n := by
  induction n with
  | zero => simp [wd]
  | succ n ih =>
    have h1 : 2 ^ n < 2 ^ (n + 1) := Nat.pow_lt_pow_right (by omega) (by omega)
    unfold wd
    refine Nat.or_lt_two_pow (by omega) ?_
    split
    · exact h1
    · omega

theorem wd_bit (p : Nat → Bool) (n i : Nat) : (wd p n).testBit i = (decide (i < n) && p i) := by
  induction n with
  | zero => simp [wd]
  | succ n ih =>
    unfold wd
    rw [Nat.testBit_or, ih]
    by_cases h : i = n
    · subst h
      cases p i <;> simp
    · have h2 : (if p n then 2 ^ n else 0).testBit i = false := by
        cases p n <;> simp [Nat.testBit_two_pow]
        omega
      rw [h2, Bool.or_false]
      congr 1
      simp
      omega

theorem wd_congr (p q : Nat → Bool) (n : Nat) (h : ∀ i, i < n → p i = q i) : wd p n = wd q n := by
  apply Nat.eq_of_testBit_eq
  intro i
  rw [wd_bit, wd_bit]
  by_cases hi : i < n
  · rw [h i hi]
  · simp [hi]

theorem wd_zero (p : Nat → Bool) (n : Nat) (h : ∀ i, i < n → p i = false) : wd p n = 0 := by
  apply Nat.eq_of_testBit_eq
  intro i
  rw [wd_bit]
  by_cases hi : i < n
  · simp [h i hi]
  · simp [hi]

/-- has the text a digit at place k -/
def fx (t : List UInt8) (k : Nat) : Bool := match t[k]? with | some b => b != 120 | none => false
/-- has the text a 1 at place k -/
def on (t : List UInt8) (k : Nat) : Bool := match t[k]? with | some b => b == 49 | none => false
def FW (t : List UInt8) (w : Nat) : Nat := wd (fun i => fx t (64 * w + i)) 64
def OW (t : List UInt8) (w : Nat) : Nat := wd (fun i => on t (64 * w + i)) 64

theorem FW_lt (t : List UInt8) (w : Nat) : FW t w < 18446744073709551616 := wd_lt _ 64
theorem OW_lt (t : List UInt8) (w : Nat) : OW t w < 18446744073709551616 := wd_lt _ 64
theorem FW_bit (t : List UInt8) (w i : Nat) : (FW t w).testBit i = (decide (i < 64) && fx t (64 * w + i)) := wd_bit _ _ _
theorem OW_bit (t : List UInt8) (w i : Nat) : (OW t w).testBit i = (decide (i < 64) && on t (64 * w + i)) := wd_bit _ _ _

def tri (b : UInt8) : Bool := b == 48 || b == 49 || b == 120
def good (t : List UInt8) : Bool := decide (t.length ≤ 256) && t.all tri

theorem good_len {t : List UInt8} (h : good t = true) : t.length ≤ 256 := by
  simp [good] at h; exact h.1
theorem good_tri {t : List UInt8} (h : good t = true) (k : Nat) (hk : k < t.length) : tri t[k] = true := by
  simp [good] at h; exact h.2 _ (List.getElem_mem hk)

theorem pow_lt64 (r : Nat) (h : r < 64) : 2 ^ r < 18446744073709551616 := by
  have : 2 ^ r < 2 ^ 64 := Nat.pow_lt_pow_right (by omega) h
  exact this

/-- a word and one bit: 0 just if the bit is not there -/
theorem and_bit (x r : Nat) : (x &&& 2 ^ r == 0) = !x.testBit r := by
  rw [nat_bit, ← Nat.shiftRight_eq_div_pow]
  have hp : 0 < 2 ^ r := Nat.two_pow_pos r
  have h : x.testBit r = decide (x >>> r % 2 = 1) := Nat.testBit_eq_decide_div_mod_eq ▸ by rw [Nat.shiftRight_eq_div_pow]
  rw [h]
  rcases Nat.mod_two_eq_zero_or_one (x >>> r) with e | e
  · simp [e]
  · simp [e]

theorem bits_and_bit (x r : Nat) (hx : x < 18446744073709551616) (hr : r < 64) : (bits .and .u64 (x : Int) ((2 ^ r : Nat) : Int) == 0) = !x.testBit r := by
  rw [u64_and_nat x (2 ^ r) hx (pow_lt64 r hr), ← and_bit x r]
  rw [Bool.eq_iff_iff]
  simp only [beq_iff_eq]
  omega

theorem FW_at (t : List UInt8) (k r : Nat) (hr : r < 64) : (bits .and .u64 (FW t k : Int) ((2 ^ r : Nat) : Int) == 0) = !fx t (64 * k + r) := by
  rw [bits_and_bit _ _ (FW_lt _ _) hr, FW_bit]; simp [hr]
theorem OW_at (t : List UInt8) (k r : Nat) (hr : r < 64) : (bits .and .u64 (OW t k : Int) ((2 ^ r : Nat) : Int) == 0) = !on t (64 * k + r) := by
  rw [bits_and_bit _ _ (OW_lt _ _) hr, OW_bit]; simp [hr]

/-- what 'at' answers -/
theorem at_eq (t : List UInt8) (p : Nat) (hp : p < t.length) (ht : tri t[p] = true) :
    (if (!fx t p) = true then (120 : Int) else if (!on t p) = true then 48 else 49) = (t[p].toNat : Int) := by
  have h0 : t[p]? = some t[p] := List.getElem?_eq_getElem hp
  simp only [fx, on, h0]
  generalize t[p] = b at *
  simp [tri] at ht
  rcases ht with (rfl | rfl) | rfl <;> simp

theorem fx_set (t : List UInt8) (p j : Nat) (b : UInt8) (hb : b ≠ 120) (hp : p < t.length) : fx (t.set p b) j = (fx t j || decide (j = p)) := by
  unfold fx
  by_cases h : j = p
  · subst h
    simp [List.getElem?_set_self hp, hb]
  · rw [List.getElem?_set_ne (by omega)]; simp [h]

theorem on_set (t : List UInt8) (p j : Nat) (b : UInt8) (hp : p < t.length) (hx : t[p] = 120) : on (t.set p b) j = (on t j || (decide (j = p) && (b == 49))) := by
  unfold on
  by_cases h : j = p
  · subst h
    simp [List.getElem?_set_self hp, List.getElem?_eq_getElem hp, hx]
  · rw [List.getElem?_set_ne (by omega)]; simp [h]

theorem FW_set_ne (t : List UInt8) (k j r : Nat) (b : UInt8) (hr : r < 64) (hb : b ≠ 120) (hp : 64 * k + r < t.length) (hj : j ≠ k) : FW (t.set (64 * k + r) b) j = FW t j := by
  apply wd_congr
  intro i hi
  rw [fx_set _ _ _ _ hb hp]
  have : 64 * j + i ≠ 64 * k + r := by omega
  simp [this]

theorem OW_set_ne (t : List UInt8) (k j r : Nat) (b : UInt8) (hr : r < 64) (hp : 64 * k + r < t.length) (hx : t[64 * k + r] = 120) (hj : j ≠ k) : OW (t.set (64 * k + r) b) j = OW t j := by
  apply wd_congr
  intro i hi
  rw [on_set _ _ _ _ hp hx]
  have : 64 * j + i ≠ 64 * k + r := by omega
  simp [this]

theorem FW_set (t : List UInt8) (k r : Nat) (b : UInt8) (hr : r < 64) (hb : b ≠ 120) (hp : 64 * k + r < t.length) :
    bits .or .u64 (FW t k : Int) ((2 ^ r : Nat) : Int) = (FW (t.set (64 * k + r) b) k : Nat) := by
  rw [u64_or_nat _ _ (FW_lt _ _) (pow_lt64 r hr)]
  congr 1
  apply Nat.eq_of_testBit_eq
  intro i
  rw [Nat.testBit_or, FW_bit, FW_bit, Nat.testBit_two_pow, fx_set _ _ _ _ hb hp]
  by_cases hi : i < 64
  · by_cases h : r = i
    · subst h; simp [hi]
    · have h2 : ¬ i = r := by omega
      simp [hi, h, h2]
  · have : ¬ r = i := by omega
    simp [hi, this]

/-- the digit that a word has at a bit -/
def dg (D r : Nat) : UInt8 := if D.testBit r then 49 else 48
theorem dg_ne (D r : Nat) : dg D r ≠ 120 := by unfold dg; split <;> decide
theorem dg_49 (D r : Nat) : (dg D r == 49) = D.testBit r := by unfold dg; cases D.testBit r <;> simp

theorem OW_set (t : List UInt8) (k r D : Nat) (hr : r < 64) (hD : D < 18446744073709551616) (hp : 64 * k + r < t.length) (hx : t[64 * k + r] = 120) :
    bits .or .u64 (OW t k : Int) (bits .and .u64 ((2 ^ r : Nat) : Int) (D : Int)) = (OW (t.set (64 * k + r) (dg D r)) k : Nat) := by
  have hand : 2 ^ r &&& D < 18446744073709551616 := Nat.lt_of_le_of_lt Nat.and_le_right hD
  rw [u64_and_nat _ _ (pow_lt64 r hr) hD, u64_or_nat _ _ (OW_lt _ _) hand]
  congr 1
  apply Nat.eq_of_testBit_eq
  intro i
  rw [Nat.testBit_or, Nat.testBit_and, OW_bit, OW_bit, Nat.testBit_two_pow, on_set _ _ _ _ hp hx, dg_49]
  by_cases hi : i < 64
  · by_cases h : r = i
    · subst h; simp [hi]
    · have h2 : ¬ i = r := by omega
      simp [hi, h, h2]
  · have : ¬ r = i := by omega
    simp [hi, this]

theorem FW_all (n w : Nat) : FW (List.replicate n 120) w = 0 := by
  apply wd_zero
  intro i _
  unfold fx
  rw [List.getElem?_replicate]
  split <;> simp_all
theorem OW_all (n w : Nat) : OW (List.replicate n 120) w = 0 := by
  apply wd_zero
  intro i _
  unfold on
  rw [List.getElem?_replicate]
  by_cases h : 64 * w + i < n <;> simp [h]

/-- the cube that has been read so far -/
def st (t : List UInt8) (k : Nat) : List UInt8 := t.take k ++ List.replicate (t.length - k) 120
theorem st_len (t : List UInt8) (k : Nat) (h : k ≤ t.length) : (st t k).length = t.length := by simp [st]; omega
theorem st_zero (t : List UInt8) : st t 0 = List.replicate t.length 120 := by simp [st]
theorem st_all (t : List UInt8) : st t t.length = t := by simp [st]
theorem st_get (t : List UInt8) (k : Nat) (h : k < t.length) : (st t k)[k]'(by rw [st_len _ _ (by omega)]; exact h) = 120 := by
  unfold st
  rw [List.getElem_append_right (by simp; omega)]
  simp
theorem st_succ (t : List UInt8) (k : Nat) (h : k < t.length) : (st t k).set k t[k] = st t (k + 1) := by
  apply List.ext_getElem?
  intro i
  by_cases hi : i = k
  · subst hi
    rw [List.getElem?_set_self (by rw [st_len _ _ (by omega)]; exact h)]
    unfold st
    rw [List.getElem?_append_left (by simp; omega), List.getElem?_take_of_lt (by omega), List.getElem?_eq_getElem h]
  · rw [List.getElem?_set_ne (by omega)]
    unfold st
    rw [List.getElem?_append, List.getElem?_append]
    simp only [List.length_take, List.getElem?_take, List.getElem?_replicate]
    repeat' split
    all_goals first | rfl | omega | skip
theorem st_skip (t : List UInt8) (k : Nat) (h : k < t.length) (hx : t[k] = 120) : st t (k + 1) = st t k := by
  rw [← st_succ t k h, hx]
  have := st_get t k h
  rw [← this]
  exact List.set_getElem_self _

theorem tri_of (t : List UInt8) (k : Nat) (h : k < t.length) (ht : tri t[k] = true) : t[k] = 48 ∨ t[k] = 49 ∨ t[k] = 120 := by
  generalize t[k] = b at *
  simp [tri] at ht
  rcases ht with (h | h) | h
  · exact .inl h
  · exact .inr (.inl h)
  · exact .inr (.inr h)

/-- equality of cubes, place by place -/
theorem eq_of_words (a b : List UInt8) (ha : good a = true) (hb : good b = true) (hl : a.length = b.length)
    (hf : ∀ w, w < 4 → FW a w = FW b w) (ho : ∀ w, w < 4 → OW a w = OW b w) : a = b := by
  apply List.ext_getElem hl
  intro i h1 h2
  have l1 := good_len ha
  have hw : i / 64 < 4 := by omega
  have e1 : (FW a (i / 64)).testBit (i % 64) = (FW b (i / 64)).testBit (i % 64) := by rw [hf _ hw]
  have e2 : (OW a (i / 64)).testBit (i % 64) = (OW b (i / 64)).testBit (i % 64) := by rw [ho _ hw]
  rw [FW_bit, FW_bit] at e1
  rw [OW_bit, OW_bit] at e2
  have hi : 64 * (i / 64) + i % 64 = i := by omega
  have hlt : i % 64 < 64 := by omega
  rw [hi] at e1 e2
  simp only [hlt, decide_true, Bool.true_and] at e1 e2
  simp only [fx, on, List.getElem?_eq_getElem h1, List.getElem?_eq_getElem h2] at e1 e2
  have ta := good_tri ha i h1
  have tb := good_tri hb i h2
  generalize a[i] = x at *
  generalize b[i] = y at *
  simp [tri] at ta tb
  rcases ta with (rfl | rfl) | rfl <;> rcases tb with (rfl | rfl) | rfl <;> simp_all

def wordsEq (a b : List UInt8) : Bool := ((a.length : Int) == (b.length : Int)) && ((FW a 0 : Int) == (FW b 0 : Int)) && ((FW a 1 : Int) == (FW b 1 : Int)) && ((FW a 2 : Int) == (FW b 2 : Int)) && ((FW a 3 : Int) == (FW b 3 : Int)) && ((OW a 0 : Int) == (OW b 0 : Int)) && ((OW a 1 : Int) == (OW b 1 : Int)) && ((OW a 2 : Int) == (OW b 2 : Int)) && ((OW a 3 : Int) == (OW b 3 : Int))

theorem wordsEq_eq (a b : List UInt8) (ha : good a = true) (hb : good b = true) : wordsEq a b = (a == b) := by
  rw [Bool.eq_iff_iff]
  constructor
  · intro h
    simp only [wordsEq, Bool.and_eq_true, beq_iff_eq] at h
    obtain ⟨⟨⟨⟨⟨⟨⟨⟨h0, h1⟩, h2⟩, h3⟩, h4⟩, h5⟩, h6⟩, h7⟩, h8⟩ := h
    have : a = b := by
      apply eq_of_words a b ha hb (by omega)
      · intro w hw
        match w, hw with
        | 0, _ => omega
        | 1, _ => omega
        | 2, _ => omega
        | 3, _ => omega
      · intro w hw
        match w, hw with
        | 0, _ => omega
        | 1, _ => omega
        | 2, _ => omega
        | 3, _ => omega
    subst this; simp
  · intro h
    have : a = b := by simpa using h
    subst this
    simp [wordsEq]

/-- P1.2: the error of a text -/
def refP (t : List UInt8) : Int := if 256 < t.length then 2 else if t = [] then 10 else if t.all tri = true then 0 else 10
/-- the text of the cube that Parse answers -/
def cubeT (t : List UInt8) : List UInt8 := if refP t = 0 then t else []

theorem refP_zero (t : List UInt8) : refP t = 0 ↔ (t ≠ [] ∧ good t = true) := by
  unfold refP good
  by_cases h1 : 256 < t.length
  · simp [h1]; omega
  · by_cases h2 : t = []
    · simp [h2]
    · by_cases h3 : t.all tri = true
      · simp [h1, h2, h3]; omega
      · simp [h1, h2, h3]

theorem good_nil : good [] = true := by decide
theorem good_cubeT (t : List UInt8) : good (cubeT t) = true := by
  unfold cubeT
  split
  · exact ((refP_zero t).1 ‹_›).2
  · exact good_nil
theorem cubeT_nil_iff (t : List UInt8) (h : refP t ≠ 0) : cubeT t = [] := by unfold cubeT; rw [if_neg h]
theorem cubeT_self (t : List UInt8) (h : refP t = 0) : cubeT t = t := by unfold cubeT; rw [if_pos h]
theorem cubeT_good (t : List UInt8) (h : good t = true) : cubeT t = t := by
  by_cases hn : t = []
  · subst hn; decide
  · exact cubeT_self t ((refP_zero t).2 ⟨hn, h⟩)
theorem good_replicate (n : Nat) (h : n ≤ 256) : good (List.replicate n 120) = true := by
  simp [good, h, tri]

end Go.Proofs.YtmdnapognaddbaaGreatDoor
namespace Go.Proofs.YtmdnapognaddbaaGreatDoor

/-- p holds at every place below n -/
def allTo (p : Nat → Bool) : Nat → Bool
  | 0 => true
  | k + 1 => allTo p k && p k

theorem allTo_iff (p : Nat → Bool) (n : Nat) : allTo p n = true ↔ ∀ k, k < n → p k = true := by
  induction n with
  | zero => simp [allTo]
  | succ n ih =>
    simp only [allTo, Bool.and_eq_true, ih]
    constructor
    · rintro ⟨h1, h2⟩ k hk
      by_cases e : k = n
      · subst e; exact h2
      · exact h1 k (by omega)
    · intro h
      exact ⟨fun k hk => h k (by omega), h n (by omega)⟩

theorem allTo_false {p : Nat → Bool} {n : Nat} (k : Nat) (hk : k < n) (h : p k = false) : allTo p n = false := by
  rw [Bool.eq_false_iff]
  intro e
  rw [allTo_iff] at e
  rw [e k hk] at h
  cases h

theorem allTo_congr {p q : Nat → Bool} {n : Nat} (h : ∀ k, k < n → p k = q k) : allTo p n = allTo q n := by
  rw [Bool.eq_iff_iff, allTo_iff, allTo_iff]
  constructor
  · intro e k hk; rw [← h k hk]; exact e k hk
  · intro e k hk; rw [h k hk]; exact e k hk

/-- at place k one has 0 and the other 1 -/
def cfl (a b : List UInt8) (k : Nat) : Bool := fx a k && fx b k && (on a k ^^ on b k)
/-- the words that agrees looks at -/
def cw (a b : List UInt8) (w : Nat) : Bool := bits .and .u64 (bits .and .u64 (FW a w : Int) (FW b w : Int)) (bits .xor .u64 (OW a w : Int) (OW b w : Int)) != 0

theorem xor_lt {a b : Nat} (ha : a < 18446744073709551616) (hb : b < 18446744073709551616) : a ^^^ b < 18446744073709551616 := Nat.xor_lt_two_pow (n := 64) ha hb
theorem and_lt {a : Nat} (b : Nat) (ha : a < 18446744073709551616) : a &&& b < 18446744073709551616 := Nat.lt_of_le_of_lt Nat.and_le_left ha
theorem or_lt {a b : Nat} (ha : a < 18446744073709551616) (hb : b < 18446744073709551616) : a ||| b < 18446744073709551616 := Nat.or_lt_two_pow (n := 64) ha hb

theorem cw_false (a b : List UInt8) (w : Nat) : cw a b w = false ↔ ∀ i, i < 64 → cfl a b (64 * w + i) = false := by
  unfold cw
  rw [u64_and_nat _ _ (FW_lt _ _) (FW_lt _ _), u64_xor_nat _ _ (OW_lt _ _) (OW_lt _ _), u64_and_nat _ _ (and_lt _ (FW_lt _ _)) (xor_lt (OW_lt _ _) (OW_lt _ _))]
  have hbit : ∀ i, (FW a w &&& FW b w &&& (OW a w ^^^ OW b w)).testBit i = (decide (i < 64) && cfl a b (64 * w + i)) := by
    intro i
    rw [Nat.testBit_and, Nat.testBit_and, Nat.testBit_xor, FW_bit, FW_bit, OW_bit, OW_bit]
    unfold cfl
    by_cases hi : i < 64 <;> simp [hi]
  generalize FW a w &&& FW b w &&& (OW a w ^^^ OW b w) = x at hbit ⊢
  constructor
  · intro h i hi
    have hx : x = 0 := by
      rw [bne_eq_false_iff_eq] at h
      omega
    have := hbit i
    rw [hx] at this
    simp [hi] at this
    exact this.symm ▸ rfl
  · intro h
    have hx : x = 0 := by
      apply Nat.eq_of_testBit_eq
      intro i
      rw [hbit i, Nat.zero_testBit]
      by_cases hi : i < 64
      · rw [h i hi]; simp
      · simp [hi]
    rw [hx]; rfl

/-- two cubes that fit -/
def fitB (a b : List UInt8) : Bool := !a.isEmpty && (a.length == b.length)
/-- they fit and nowhere one has 0 and the other 1 -/
def agB (a b : List UInt8) : Bool := fitB a b && allTo (fun k => !cfl a b k) a.length

theorem cfl_out (a b : List UInt8) (k : Nat) (h : a.length ≤ k) : cfl a b k = false := by
  unfold cfl fx
  rw [List.getElem?_eq_none h]; simp

theorem ag_words (a b : List UInt8) (ha : good a = true) : allTo (fun k => !cfl a b k) a.length = (!cw a b 0 && !cw a b 1 && !cw a b 2 && !cw a b 3) := by
  have hl := good_len ha
  rw [Bool.eq_iff_iff, allTo_iff]
  simp only [Bool.and_eq_true, Bool.not_eq_true', cw_false]
  constructor
  · intro h
    have g : ∀ k, cfl a b k = false := by
      intro k
      by_cases hk : k < a.length
      · exact h k hk
      · exact cfl_out a b k (by omega)
    exact ⟨⟨⟨fun i _ => g _, fun i _ => g _⟩, fun i _ => g _⟩, fun i _ => g _⟩
  · rintro ⟨⟨⟨h0, h1⟩, h2⟩, h3⟩ k hk
    have hk4 : k / 64 < 4 := by omega
    have e : k = 64 * (k / 64) + k % 64 := by omega
    have hm : k % 64 < 64 := by omega
    rcases (show k / 64 = 0 ∨ k / 64 = 1 ∨ k / 64 = 2 ∨ k / 64 = 3 by omega) with q | q | q | q <;> rw [q] at e <;> rw [e]
    · exact h0 _ hm
    · exact h1 _ hm
    · exact h2 _ hm
    · exact h3 _ hm

/-- P1.5: the text of what two cubes have in common -/
def meetT (a b : List UInt8) : List UInt8 := List.zipWith (fun x y => if x == 120 then y else x) a b

theorem fitB_len {a b : List UInt8} (h : fitB a b = true) : a.length = b.length := by simp [fitB] at h; exact h.2
theorem agB_fit {a b : List UInt8} (h : agB a b = true) : fitB a b = true := by simp [agB] at h; exact h.1
theorem agB_cfl {a b : List UInt8} (h : agB a b = true) (k : Nat) : cfl a b k = false := by
  by_cases hk : k < a.length
  · simp only [agB, Bool.and_eq_true, allTo_iff] at h
    simpa using h.2 k hk
  · exact cfl_out a b k (by omega)

theorem meetT_len (a b : List UInt8) (h : a.length = b.length) : (meetT a b).length = a.length := by simp [meetT]; omega
theorem meetT_get (a b : List UInt8) (h : a.length = b.length) (k : Nat) (hk : k < a.length) : (meetT a b)[k]? = some (if a[k] == 120 then b[k]'(by omega) else a[k]) := by
  unfold meetT
  rw [List.getElem?_zipWith, List.getElem?_eq_getElem hk, List.getElem?_eq_getElem (show k < b.length by omega)]

theorem fx_meet (a b : List UInt8) (h : a.length = b.length) (k : Nat) : fx (meetT a b) k = (fx a k || fx b k) := by
  by_cases hk : k < a.length
  · have hb : k < b.length := by omega
    simp only [fx, meetT_get a b h k hk, List.getElem?_eq_getElem hk, List.getElem?_eq_getElem hb]
    generalize a[k] = x
    generalize b[k] = y
    by_cases e : x = 120 <;> simp [e]
  · simp only [fx]
    rw [List.getElem?_eq_none (by rw [meetT_len a b h]; omega), List.getElem?_eq_none (by omega), List.getElem?_eq_none (by omega)]; rfl

theorem on_meet (a b : List UInt8) (h : a.length = b.length) (k : Nat) (hc : cfl a b k = false) : on (meetT a b) k = (on a k || on b k) := by
  by_cases hk : k < a.length
  · have hb : k < b.length := by omega
    simp only [cfl, fx, on, meetT_get a b h k hk, List.getElem?_eq_getElem hk, List.getElem?_eq_getElem hb] at hc ⊢
    generalize a[k] = x at *
    generalize b[k] = y at *
    by_cases e : x = 120
    · subst e; simp
    · by_cases e2 : y = 120
      · subst e2; simp [e]
      · simp [e, e2] at hc ⊢
        by_cases e3 : x = 49 <;> by_cases e4 : y = 49 <;> simp_all
  · simp only [on]
    rw [List.getElem?_eq_none (by rw [meetT_len a b h]; omega), List.getElem?_eq_none (by omega), List.getElem?_eq_none (by omega)]; rfl

theorem FW_meet (a b : List UInt8) (h : a.length = b.length) (w : Nat) : bits .or .u64 (FW a w : Int) (FW b w : Int) = (FW (meetT a b) w : Nat) := by
  rw [u64_or_nat _ _ (FW_lt _ _) (FW_lt _ _)]
  congr 1
  apply Nat.eq_of_testBit_eq
  intro i
  rw [Nat.testBit_or, FW_bit, FW_bit, FW_bit, fx_meet a b h]
  by_cases hi : i < 64 <;> simp [hi]
theorem OW_meet (a b : List UInt8) (h : a.length = b.length) (hc : ∀ k, cfl a b k = false) (w : Nat) : bits .or .u64 (OW a w : Int) (OW b w : Int) = (OW (meetT a b) w : Nat) := by
  rw [u64_or_nat _ _ (OW_lt _ _) (OW_lt _ _)]
  congr 1
  apply Nat.eq_of_testBit_eq
  intro i
  rw [Nat.testBit_or, OW_bit, OW_bit, OW_bit, on_meet a b h _ (hc _)]
  by_cases hi : i < 64 <;> simp [hi]

theorem good_zip (f : UInt8 → UInt8 → UInt8) (a b : List UInt8) (ha : good a = true) (hb : good b = true) (hf : ∀ x y, tri x = true → tri y = true → tri (f x y) = true) : good (List.zipWith f a b) = true := by
  have h1 := good_len ha
  simp only [good, Bool.and_eq_true, decide_eq_true_eq, List.all_eq_true]
  refine ⟨by simp; omega, ?_⟩
  intro x hx
  obtain ⟨k, hk, rfl⟩ := List.getElem_of_mem hx
  simp at hk
  rw [List.getElem_zipWith]
  exact hf _ _ (good_tri ha k (by omega)) (good_tri hb k (by omega))

theorem good_meet (a b : List UInt8) (ha : good a = true) (hb : good b = true) : good (meetT a b) = true :=
  good_zip _ a b ha hb (fun x y hx hy => by split <;> assumption)

/-- what Meet answers -/
def mtT (a b : List UInt8) : List UInt8 := if agB a b = true then meetT a b else []
theorem good_mtT (a b : List UInt8) (ha : good a = true) (hb : good b = true) : good (mtT a b) = true := by
  unfold mtT; split
  · exact good_meet a b ha hb
  · exact good_nil

/-- P1.6 -/
def wiB (a b : List UInt8) : Bool := fitB a b && allTo (fun k => match a[k]?, b[k]? with | some x, some y => y == 120 || x == y | _, _ => true) a.length

end Go.Proofs.YtmdnapognaddbaaGreatDoor
namespace Go.Proofs.YtmdnapognaddbaaGreatDoor

theorem andnot_bit (x y : Nat) (hy : y < 18446744073709551616) (i : Nat) : (x &&& (18446744073709551615 - y)).testBit i = (x.testBit i && (decide (i < 64) && !y.testBit i)) := by
  have h : 18446744073709551615 - y = 2 ^ 64 - (y + 1) := by omega
  rw [Nat.testBit_and, h, Nat.testBit_two_pow_sub_succ (by exact hy)]

/-- P1.8 -/
def wrT (c r : List UInt8) : List UInt8 := List.zipWith (fun x y => if y == 120 then x else y) c r
/-- P1.9 -/
def bfT (c r : List UInt8) : List UInt8 := List.zipWith (fun x y => if y == 120 then x else 120) c r

theorem zip_len (f : UInt8 → UInt8 → UInt8) (a b : List UInt8) (h : a.length = b.length) : (List.zipWith f a b).length = a.length := by simp; omega
theorem zip_get (f : UInt8 → UInt8 → UInt8) (a b : List UInt8) (h : a.length = b.length) (k : Nat) (hk : k < a.length) : (List.zipWith f a b)[k]? = some (f a[k] (b[k]'(by omega))) := by
  rw [List.getElem?_zipWith, List.getElem?_eq_getElem hk, List.getElem?_eq_getElem (show k < b.length by omega)]
theorem zip_out (f : UInt8 → UInt8 → UInt8) (a b : List UInt8) (h : a.length = b.length) (k : Nat) (hk : ¬ k < a.length) : (List.zipWith f a b)[k]? = none := by
  rw [List.getElem?_eq_none (by rw [zip_len f a b h]; omega)]

theorem fx_wr (a b : List UInt8) (h : a.length = b.length) (k : Nat) : fx (wrT a b) k = (fx a k || fx b k) := by
  by_cases hk : k < a.length
  · have hb : k < b.length := by omega
    simp only [fx, wrT, zip_get _ a b h k hk, List.getElem?_eq_getElem hk, List.getElem?_eq_getElem hb]
    generalize a[k] = x
    generalize b[k] = y
    by_cases e : y = 120 <;> simp [e]
  · simp only [fx, wrT, zip_out _ a b h k hk]
    rw [List.getElem?_eq_none (by omega), List.getElem?_eq_none (by omega)]; rfl
theorem on_wr (a b : List UInt8) (h : a.length = b.length) (k : Nat) : on (wrT a b) k = ((on a k && !fx b k) || on b k) := by
  by_cases hk : k < a.length
  · have hb : k < b.length := by omega
    simp only [fx, on, wrT, zip_get _ a b h k hk, List.getElem?_eq_getElem hk, List.getElem?_eq_getElem hb]
    generalize a[k] = x
    generalize b[k] = y
    by_cases e : y = 120
    · subst e; simp
    · simp [e]
  · simp only [fx, on, wrT, zip_out _ a b h k hk]
    rw [List.getElem?_eq_none (by omega), List.getElem?_eq_none (by omega)]; rfl
theorem fx_bf (a b : List UInt8) (h : a.length = b.length) (k : Nat) : fx (bfT a b) k = (fx a k && !fx b k) := by
  by_cases hk : k < a.length
  · have hb : k < b.length := by omega
    simp only [fx, bfT, zip_get _ a b h k hk, List.getElem?_eq_getElem hk, List.getElem?_eq_getElem hb]
    generalize a[k] = x
    generalize b[k] = y
    by_cases e : y = 120 <;> simp [e]
  · simp only [fx, bfT, zip_out _ a b h k hk]
    rw [List.getElem?_eq_none (by omega), List.getElem?_eq_none (by omega)]; rfl
theorem on_bf (a b : List UInt8) (h : a.length = b.length) (k : Nat) : on (bfT a b) k = (on a k && !fx b k) := by
  by_cases hk : k < a.length
  · have hb : k < b.length := by omega
    simp only [fx, on, bfT, zip_get _ a b h k hk, List.getElem?_eq_getElem hk, List.getElem?_eq_getElem hb]
    generalize a[k] = x
    generalize b[k] = y
    by_cases e : y = 120 <;> simp [e]
  · simp only [fx, on, bfT, zip_out _ a b h k hk]
    rw [List.getElem?_eq_none (by omega), List.getElem?_eq_none (by omega)]; rfl

theorem FW_wr (a b : List UInt8) (h : a.length = b.length) (w : Nat) : bits .or .u64 (FW a w : Int) (FW b w : Int) = (FW (wrT a b) w : Nat) := by
  rw [u64_or_nat _ _ (FW_lt _ _) (FW_lt _ _)]
  congr 1
  apply Nat.eq_of_testBit_eq
  intro i
  rw [Nat.testBit_or, FW_bit, FW_bit, FW_bit, fx_wr a b h]
  by_cases hi : i < 64 <;> simp [hi]
theorem OW_wr (a b : List UInt8) (h : a.length = b.length) (w : Nat) : bits .or .u64 (bits .andNot .u64 (OW a w : Int) (FW b w : Int)) (OW b w : Int) = (OW (wrT a b) w : Nat) := by
  rw [u64_andNot_nat _ _ (OW_lt _ _) (FW_lt _ _), u64_or_nat _ _ (and_lt _ (OW_lt _ _)) (OW_lt _ _)]
  congr 1
  apply Nat.eq_of_testBit_eq
  intro i
  rw [Nat.testBit_or, andnot_bit _ _ (FW_lt _ _), OW_bit, OW_bit, OW_bit, FW_bit, on_wr a b h]
  by_cases hi : i < 64 <;> simp [hi]
theorem FW_bf (a b : List UInt8) (h : a.length = b.length) (w : Nat) : bits .andNot .u64 (FW a w : Int) (FW b w : Int) = (FW (bfT a b) w : Nat) := by
  rw [u64_andNot_nat _ _ (FW_lt _ _) (FW_lt _ _)]
  congr 1
  apply Nat.eq_of_testBit_eq
  intro i
  rw [andnot_bit _ _ (FW_lt _ _), FW_bit, FW_bit, FW_bit, fx_bf a b h]
  by_cases hi : i < 64 <;> simp [hi]
theorem OW_bf (a b : List UInt8) (h : a.length = b.length) (w : Nat) : bits .andNot .u64 (OW a w : Int) (FW b w : Int) = (OW (bfT a b) w : Nat) := by
  rw [u64_andNot_nat _ _ (OW_lt _ _) (FW_lt _ _)]
  congr 1
  apply Nat.eq_of_testBit_eq
  intro i
  rw [andnot_bit _ _ (FW_lt _ _), OW_bit, OW_bit, FW_bit, on_bf a b h]
  by_cases hi : i < 64 <;> simp [hi]

/-- what Write answers -/
def wtT (c r : List UInt8) : List UInt8 := if fitB c r = true then wrT c r else []
/-- what Before answers -/
def beT (c r : List UInt8) : List UInt8 := if agB c r = true then bfT c r else []
theorem good_wtT (a b : List UInt8) (ha : good a = true) (hb : good b = true) : good (wtT a b) = true := by
  unfold wtT; split
  · exact good_zip _ a b ha hb (fun x y hx hy => by split <;> assumption)
  · exact good_nil
theorem good_beT (a b : List UInt8) (ha : good a = true) (hb : good b = true) : good (beT a b) = true := by
  unfold beT; split
  · exact good_zip _ a b ha hb (fun x y hx hy => by split <;> first | assumption | decide)
  · exact good_nil

theorem take_zip (f : UInt8 → UInt8 → UInt8) (a b : List UInt8) (h : a.length = b.length) (k : Nat) (hk : k < a.length) :
    (List.zipWith f a b).take (k + 1) = (List.zipWith f a b).take k ++ [f a[k] (b[k]'(by omega))] := by
  have hl : k < (List.zipWith f a b).length := by rw [zip_len f a b h]; exact hk
  rw [List.take_succ_eq_append_getElem hl]
  congr 2
  rw [List.getElem_zipWith]
theorem take_all (f : UInt8 → UInt8 → UInt8) (a b : List UInt8) (h : a.length = b.length) : (List.zipWith f a b).take a.length = List.zipWith f a b := by
  apply List.take_of_length_le
  rw [zip_len f a b h]; exact Nat.le_refl _

/-- conflict, by the bytes -/
theorem cfl_bytes (a b : List UInt8) (k : Nat) (ha : k < a.length) (hb : k < b.length) (ta : tri a[k] = true) (tb : tri b[k] = true) : cfl a b k = (!(a[k] == 120) && !(b[k] == 120) && !(a[k] == b[k])) := by
  simp only [cfl, fx, on, List.getElem?_eq_getElem ha, List.getElem?_eq_getElem hb]
  generalize a[k] = x at *
  generalize b[k] = y at *
  simp [tri] at ta tb
  rcases ta with (rfl | rfl) | rfl <;> rcases tb with (rfl | rfl) | rfl <;> rfl
theorem agB_conf (a b : List UInt8) (k : Nat) (hk : k < a.length) (h : cfl a b k = true) : agB a b = false := by
  unfold agB
  rw [allTo_false k hk (by rw [h]; rfl)]; simp
theorem agB_all (a b : List UInt8) (hf : fitB a b = true) (h : ∀ k, k < a.length → cfl a b k = false) : agB a b = true := by
  unfold agB
  rw [hf, Bool.true_and, allTo_iff]
  intro k hk; rw [h k hk]; rfl
theorem agB_nofit (a b : List UInt8) (hf : fitB a b = false) : agB a b = false := by unfold agB; rw [hf]; rfl
end Go.Proofs.YtmdnapognaddbaaGreatDoor
namespace Go.Proofs.YtmdnapognaddbaaGreatDoor

/-- the least cube that holds both -/
def huT (a b : List UInt8) : List UInt8 := List.zipWith (fun x y => if x == y then x else 120) a b

theorem huT_len (a b : List UInt8) (h : a.length = b.length) : (huT a b).length = a.length := by simp [huT]; omega
theorem huT_get (a b : List UInt8) (h : a.length = b.length) (k : Nat) (hk : k < a.length) : (huT a b)[k]? = some (if a[k] == b[k]'(by omega) then a[k] else 120) := by
  simp [huT, List.getElem?_zipWith, List.getElem?_eq_getElem hk, List.getElem?_eq_getElem (show k < b.length by omega)]
theorem good_huT (a b : List UInt8) (ha : good a = true) (hb : good b = true) : good (huT a b) = true :=
  good_zip _ a b ha hb (fun x y hx _ => by
    show tri (if (x == y) = true then x else 120) = true
    split
    · exact hx
    · decide)

theorem fx_hu (a b : List UInt8) (h : a.length = b.length) (ga : good a = true) (gb : good b = true) (k : Nat) : fx (huT a b) k = (fx a k && (fx b k && !(on a k ^^ on b k))) := by
  by_cases hk : k < a.length
  · have hb : k < b.length := by omega
    have ta := good_tri ga k hk
    have tb := good_tri gb k hb
    simp only [fx, on, huT_get a b h k hk, List.getElem?_eq_getElem hk, List.getElem?_eq_getElem hb]
    generalize a[k] = x at *
    generalize b[k] = y at *
    simp only [tri, Bool.or_eq_true, beq_iff_eq] at ta tb
    rcases ta with (rfl | rfl) | rfl <;> rcases tb with (rfl | rfl) | rfl <;> decide
  · simp only [fx, on]
    rw [List.getElem?_eq_none (by rw [huT_len a b h]; omega), List.getElem?_eq_none (show a.length ≤ k by omega), List.getElem?_eq_none (show b.length ≤ k by omega)]; rfl

theorem on_hu (a b : List UInt8) (h : a.length = b.length) (k : Nat) : on (huT a b) k = (on a k && fx (huT a b) k) := by
  by_cases hk : k < a.length
  · simp only [fx, on, huT_get a b h k hk, List.getElem?_eq_getElem hk]
    generalize a[k] = x
    generalize b[k]'(by omega) = y
    by_cases e : x = y
    · subst e
      by_cases e2 : x = 49 <;> simp [e2]
    · simp [e]
  · simp only [fx, on]
    rw [List.getElem?_eq_none (by rw [huT_len a b h]; omega), List.getElem?_eq_none (show a.length ≤ k by omega)]; rfl

theorem FW_hu (a b : List UInt8) (h : a.length = b.length) (ga : good a = true) (gb : good b = true) (w : Nat) :
    bits .and .u64 (FW a w : Int) (bits .andNot .u64 (FW b w : Int) (bits .xor .u64 (OW a w : Int) (OW b w : Int))) = (FW (huT a b) w : Nat) := by
  have hx : OW a w ^^^ OW b w < 18446744073709551616 := xor_lt (OW_lt _ _) (OW_lt _ _)
  rw [u64_xor_nat _ _ (OW_lt _ _) (OW_lt _ _), u64_andNot_nat _ _ (FW_lt _ _) hx, u64_and_nat _ _ (FW_lt _ _) (and_lt _ (FW_lt _ _))]
  congr 1
  apply Nat.eq_of_testBit_eq
  intro i
  rw [Nat.testBit_and, andnot_bit _ _ hx, Nat.testBit_xor, FW_bit, FW_bit, OW_bit, OW_bit, FW_bit, fx_hu a b h ga gb]
  by_cases hi : i < 64 <;> simp [hi]
theorem OW_hu (a b : List UInt8) (h : a.length = b.length) (w : Nat) : bits .and .u64 (OW a w : Int) (FW (huT a b) w : Int) = (OW (huT a b) w : Nat) := by
  rw [u64_and_nat _ _ (OW_lt _ _) (FW_lt _ _)]
  congr 1
  apply Nat.eq_of_testBit_eq
  intro i
  rw [Nat.testBit_and, OW_bit, FW_bit, OW_bit, on_hu a b h]
  by_cases hi : i < 64 <;> simp [hi]
end Go.Proofs.YtmdnapognaddbaaGreatDoor
namespace Go.Proofs.YtmdnapognaddbaaGreatDoor
open Go.RowKit

/-- the value of a cube: its width, the four words of its fixed places, the four words of its ones -/
def cv (n a b c d e f g h : Int) : Value := .agg #[.int .i64 n, .int .u64 a, .int .u64 b, .int .u64 c, .int .u64 d, .int .u64 e, .int .u64 f, .int .u64 g, .int .u64 h]

theorem bcell {W w1 : World} (hb : Below W.heap.size W w1) : (∀ b o, b < W.heap.size → w1.cell? ⟨b, o, none⟩ = W.cell? ⟨b, o, none⟩) ∧ (∀ b o, b < W.heap.size → w1.frozen? ⟨b, o, none⟩ = W.frozen? ⟨b, o, none⟩) :=
  ⟨fun b o h => hb.cell (p := ⟨b, o, none⟩) h, fun b o h => hb.frozen (p := ⟨b, o, none⟩) h⟩

theorem below_drewN (B n : Nat) (w : World) : Below B w (w.drewN n) := by
  induction n with
  | zero => exact Below.refl _ _
  | succ n ih => exact ⟨ih.os, ih.tape, ih.output, ih.size, ih.block⟩

set_option maxHeartbeats 400000 in
theorem all_yes (n : Int) (w : World) (h1 : 1 ≤ n) (h2 : n ≤ 256) :
    Calls Tryz.prog 33 #[.int .i64 n] w fun e w' => e = .returned (cv n 0 0 0 0 0 0 0 0) ∧ Below w.heap.size w w' := by
  go_enter Tryz.func33, Tryz.ntmps33
  go_wp2
  exact bodyPost_ret (v := cv n 0 0 0 0 0 0 0 0) (by simp [results, Tryz.results33, go_sem, cv]) rfl ⟨rfl, (Below.refl _ _).alloc (Nat.le_refl _) _⟩

set_option maxHeartbeats 400000 in
theorem all_no (n : Int) (w : World) (h : n < 1 ∨ 256 < n) :
    Calls Tryz.prog 33 #[.int .i64 n] w fun e w' => e = .returned (cv 0 0 0 0 0 0 0 0 0) ∧ Below w.heap.size w w' := by
  rcases h with h | h
  · go_enter Tryz.func33, Tryz.ntmps33
    go_wp2
    exact bodyPost_ret (v := cv 0 0 0 0 0 0 0 0 0) (by simp [results, Tryz.results33, go_sem, cv]) rfl ⟨rfl, (Below.refl _ _).alloc (Nat.le_refl _) _⟩
  · have h' : ¬ n < 1 := by omega
    go_enter Tryz.func33, Tryz.ntmps33
    go_wp2
    exact bodyPost_ret (v := cv 0 0 0 0 0 0 0 0 0) (by simp [results, Tryz.results33, go_sem, cv]) rfl ⟨rfl, (Below.refl _ _).alloc (Nat.le_refl _) _⟩

theorem wrap_pow (r : Nat) (h : r < 64) : IntKind.u64.wrap ((2 : Int) ^ r) = ((2 ^ r : Nat) : Int) := by
  rw [IntKind.wrap_u64]
  have h1 : 2 ^ r < 2 ^ 64 := Nat.pow_lt_pow_right (by omega) h
  have h2 : ((2 : Int) ^ r) = ((2 ^ r : Nat) : Int) := by simp
  rw [h2]; generalize 2 ^ r = x at h1 ⊢; omega

set_option maxHeartbeats 400000 in
theorem spot_raw (p : Int) (w : World) (h1 : 0 ≤ p) (h2 : p < 256) :
    Calls Tryz.prog 34 #[.int .i64 p] w fun e w' => e = .returned (.tuple #[.int .i64 (p / 64), .int .u64 ((2 ^ (p % 64).toNat : Nat) : Int)]) ∧ ∃ n, w' = w.drewN n := by
  have hm : 0 ≤ p % 64 ∧ p % 64 < 64 := by omega
  go_enter Tryz.func34, Tryz.ntmps34
  go_wp2
  go_quiet (fail)
  go_wp2
  go_ret2
  exact ⟨by rw [wrap_pow _ (by omega)]; rfl, _, rfl⟩

theorem spot_at (p : Int) (k r : Nat) (w : World) (hk : k < 4) (hr : r < 64) (hp : p = ((64 * k + r : Nat) : Int)) :
    Calls Tryz.prog 34 #[.int .i64 p] w fun e w' => e = .returned (.tuple #[.int .i64 k, .int .u64 ((2 ^ r : Nat) : Int)]) ∧ ∃ n, w' = w.drewN n := by
  refine (spot_raw p w (by omega) (by omega)).mono ?_
  rintro e w' ⟨rfl, h⟩
  have e1 : p / 64 = (k : Int) := by omega
  have e2 : (p % 64).toNat = r := by omega
  rw [e1, e2]
  exact ⟨rfl, h⟩

set_option maxHeartbeats 400000 in
theorem fix_0 (n a b c d e f g h bit ds : Int) (w : World) :
    Calls Tryz.prog 90 #[cv n a b c d e f g h, .int .i64 0, .int .u64 bit, .int .u64 ds] w fun e' w' => e' = .returned (cv n (bits .or .u64 a bit) b c d (bits .or .u64 e (bits .and .u64 bit ds)) f g h) ∧ Below w.heap.size w w' := by
  unfold cv
  go_enter Tryz.func90, Tryz.ntmps90
  go_wp2
  exact bodyPost_ret (v := cv n (bits .or .u64 a bit) b c d (bits .or .u64 e (bits .and .u64 bit ds)) f g h) (by simp [results, Tryz.results90, go_sem, cv]) rfl ⟨rfl, ((Below.refl _ _).alloc (Nat.le_refl _) _).alloc (by simp) _⟩

set_option maxHeartbeats 400000 in
theorem at_0 (n a b c d e f g h p : Int) (r : Nat) (w : World) (hr : r < 64) (hp : p = ((64 * 0 + r : Nat) : Int)) :
    Calls Tryz.prog 25 #[cv n a b c d e f g h, .int .i64 p] w fun e' w' => e' = .returned (.int .u8 (if (bits .and .u64 a ((2 ^ r : Nat) : Int) == 0) = true then 120 else if (bits .and .u64 e ((2 ^ r : Nat) : Int) == 0) = true then 48 else 49)) ∧ Below w.heap.size w w' := by
  have HP : Hid (p = ((64 * 0 + r : Nat) : Int)) := hp
  clear hp
  unfold cv
  generalize hX : (2 ^ r : Nat) = X
  have HX : Hid ((2 ^ r : Nat) = X) := hX
  clear hX
  go_enter Tryz.func25, Tryz.ntmps25
  go_wp2_with (go_at_call 34; refine (spot_at p 0 r _ (by decide) hr HP.out).mono ?_; rintro e w' ⟨rfl, nq, rfl⟩; rw [HX.out])
  all_goals go_ret
  all_goals exact ⟨by simp_all, ((Below.refl _ _).alloc (Nat.le_refl _) _).trans (below_drewN _ _ _)⟩

set_option maxHeartbeats 400000 in
theorem fix_1 (n a b c d e f g h bit ds : Int) (w : World) :
    Calls Tryz.prog 90 #[cv n a b c d e f g h, .int .i64 1, .int .u64 bit, .int .u64 ds] w fun e' w' => e' = .returned (cv n a (bits .or .u64 b bit) c d e (bits .or .u64 f (bits .and .u64 bit ds)) g h) ∧ Below w.heap.size w w' := by
  unfold cv
  go_enter Tryz.func90, Tryz.ntmps90
  go_wp2
  exact bodyPost_ret (v := cv n a (bits .or .u64 b bit) c d e (bits .or .u64 f (bits .and .u64 bit ds)) g h) (by simp [results, Tryz.results90, go_sem, cv]) rfl ⟨rfl, ((Below.refl _ _).alloc (Nat.le_refl _) _).alloc (by simp) _⟩

set_option maxHeartbeats 400000 in
theorem at_1 (n a b c d e f g h p : Int) (r : Nat) (w : World) (hr : r < 64) (hp : p = ((64 * 1 + r : Nat) : Int)) :
    Calls Tryz.prog 25 #[cv n a b c d e f g h, .int .i64 p] w fun e' w' => e' = .returned (.int .u8 (if (bits .and .u64 b ((2 ^ r : Nat) : Int) == 0) = true then 120 else if (bits .and .u64 f ((2 ^ r : Nat) : Int) == 0) = true then 48 else 49)) ∧ Below w.heap.size w w' := by
  have HP : Hid (p = ((64 * 1 + r : Nat) : Int)) := hp
  clear hp
  unfold cv
  generalize hX : (2 ^ r : Nat) = X
  have HX : Hid ((2 ^ r : Nat) = X) := hX
  clear hX
  go_enter Tryz.func25, Tryz.ntmps25
  go_wp2_with (go_at_call 34; refine (spot_at p 1 r _ (by decide) hr HP.out).mono ?_; rintro e w' ⟨rfl, nq, rfl⟩; rw [HX.out])
  all_goals go_ret
  all_goals exact ⟨by simp_all, ((Below.refl _ _).alloc (Nat.le_refl _) _).trans (below_drewN _ _ _)⟩

set_option maxHeartbeats 400000 in
theorem fix_2 (n a b c d e f g h bit ds : Int) (w : World) :
    Calls Tryz.prog 90 #[cv n a b c d e f g h, .int .i64 2, .int .u64 bit, .int .u64 ds] w fun e' w' => e' = .returned (cv n a b (bits .or .u64 c bit) d e f (bits .or .u64 g (bits .and .u64 bit ds)) h) ∧ Below w.heap.size w w' := by
  unfold cv
  go_enter Tryz.func90, Tryz.ntmps90
  go_wp2
  exact bodyPost_ret (v := cv n a b (bits .or .u64 c bit) d e f (bits .or .u64 g (bits .and .u64 bit ds)) h) (by simp [results, Tryz.results90, go_sem, cv]) rfl ⟨rfl, ((Below.refl _ _).alloc (Nat.le_refl _) _).alloc (by simp) _⟩

set_option maxHeartbeats 400000 in
theorem at_2 (n a b c d e f g h p : Int) (r : Nat) (w : World) (hr : r < 64) (hp : p = ((64 * 2 + r : Nat) : Int)) :
    Calls Tryz.prog 25 #[cv n a b c d e f g h, .int .i64 p] w fun e' w' => e' = .returned (.int .u8 (if (bits .and .u64 c ((2 ^ r : Nat) : Int) == 0) = true then 120 else if (bits .and .u64 g ((2 ^ r : Nat) : Int) == 0) = true then 48 else 49)) ∧ Below w.heap.size w w' := by
  have HP : Hid (p = ((64 * 2 + r : Nat) : Int)) := hp
  clear hp
  unfold cv
  generalize hX : (2 ^ r : Nat) = X
  have HX : Hid ((2 ^ r : Nat) = X) := hX
  clear hX
  go_enter Tryz.func25, Tryz.ntmps25
  go_wp2_with (go_at_call 34; refine (spot_at p 2 r _ (by decide) hr HP.out).mono ?_; rintro e w' ⟨rfl, nq, rfl⟩; rw [HX.out])
  all_goals go_ret
  all_goals exact ⟨by simp_all, ((Below.refl _ _).alloc (Nat.le_refl _) _).trans (below_drewN _ _ _)⟩

set_option maxHeartbeats 400000 in
theorem fix_3 (n a b c d e f g h bit ds : Int) (w : World) :
    Calls Tryz.prog 90 #[cv n a b c d e f g h, .int .i64 3, .int .u64 bit, .int .u64 ds] w fun e' w' => e' = .returned (cv n a b c (bits .or .u64 d bit) e f g (bits .or .u64 h (bits .and .u64 bit ds))) ∧ Below w.heap.size w w' := by
  unfold cv
  go_enter Tryz.func90, Tryz.ntmps90
  go_wp2
  exact bodyPost_ret (v := cv n a b c (bits .or .u64 d bit) e f g (bits .or .u64 h (bits .and .u64 bit ds))) (by simp [results, Tryz.results90, go_sem, cv]) rfl ⟨rfl, ((Below.refl _ _).alloc (Nat.le_refl _) _).alloc (by simp) _⟩

set_option maxHeartbeats 400000 in
theorem at_3 (n a b c d e f g h p : Int) (r : Nat) (w : World) (hr : r < 64) (hp : p = ((64 * 3 + r : Nat) : Int)) :
    Calls Tryz.prog 25 #[cv n a b c d e f g h, .int .i64 p] w fun e' w' => e' = .returned (.int .u8 (if (bits .and .u64 d ((2 ^ r : Nat) : Int) == 0) = true then 120 else if (bits .and .u64 h ((2 ^ r : Nat) : Int) == 0) = true then 48 else 49)) ∧ Below w.heap.size w w' := by
  have HP : Hid (p = ((64 * 3 + r : Nat) : Int)) := hp
  clear hp
  unfold cv
  generalize hX : (2 ^ r : Nat) = X
  have HX : Hid ((2 ^ r : Nat) = X) := hX
  clear hX
  go_enter Tryz.func25, Tryz.ntmps25
  go_wp2_with (go_at_call 34; refine (spot_at p 3 r _ (by decide) hr HP.out).mono ?_; rintro e w' ⟨rfl, nq, rfl⟩; rw [HX.out])
  all_goals go_ret
  all_goals exact ⟨by simp_all, ((Below.refl _ _).alloc (Nat.le_refl _) _).trans (below_drewN _ _ _)⟩
end Go.Proofs.YtmdnapognaddbaaGreatDoor
