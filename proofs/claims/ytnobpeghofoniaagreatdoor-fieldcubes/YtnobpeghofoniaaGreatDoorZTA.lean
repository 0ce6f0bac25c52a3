import Derived.Laws.BitsAllLaws
import Derived.Test.YtnobpeghofoniaaGreatDoorZ1
import Derived.Laws.IdiomStrings
import Derived.ChangeKeysEq
import Derived.RegionTactic
import Derived.LoopN
import Derived.Laws.BytesArg
import Derived.Deep.RegionWith
import Derived.Deep.RegionHeld3
import Derived.Deep.AppendLies
namespace Go.Proofs.YtnobpeghofoniaaGreatDoor.Tn

/-- the number whose bits below n are p's -/
def wd (p : Nat → Bool) : Nat → Nat
  | 0 => 0
  | n + 1 => wd p n ||| (if p n then 2 ^ n else 0)

theorem wd_lt (p : Nat → Bool) (n : Nat) : wd p n < 2 ^ n := by
  induction n with
  | zero => simp [wd]
  | succ n ih =>
    have h1 : 2 ^ n < 2 ^ (n + 1) := Nat.pow_lt_pow_right (by omega) (by omega)
    unfold wd
    refine Nat.or_lt_two_pow (by omega) ?_
    split
    · exact h1
    · omega

theorem wd_bit (p : Nat → Bool) (n i : Nat) : (wd p n).testBit i = (decide (i < n) && p i) := by
  induction n with
  | zero => simp [wd]
  | succ n ih =>
    unfold wd
    rw [Nat.testBit_or, ih]
    by_cases h : i = n
    · subst h
      cases p i <;> simp
    · have h2 : (if p n then 2 ^ n else 0).testBit i = false := by
        cases p n <;> simp [Nat.testBit_two_pow]
        omega
      rw [h2, Bool.or_false]
      congr 1
      simp
      omega

theorem wd_congr (p q : Nat → Bool) (n : Nat) (h : ∀ i, i < n → p i = q i) : wd p n = wd q n := by
  apply Nat.eq_of_testBit_eq
  intro i
  rw [wd_bit, wd_bit]
  by_cases hi : i < n
  · rw [h i hi]
  · simp [hi]

theorem wd_zero (p : Nat → Bool) (n : Nat) (h : ∀ i, i < n → p i = false) : wd p n = 0 := by
  apply Nat.eq_of_testBit_eq
  intro i
  rw [wd_bit]
  by_cases hi : i < n
  · simp [h i hi]
  · simp [hi]

/-- has the text a digit at place k -/
def fx (t : List UInt8) (k : Nat) : Bool := match t[k]? with | some b => b != 120 | none => false
/-- has the text a 1 at place k -/
def on (t : List UInt8) (k : Nat) : Bool := match t[k]? with | some b => b == 49 | none => false
def FW (t : List UInt8) (w : Nat) : Nat := wd (fun i => fx t (64 * w + i)) 64
def OW (t : List UInt8) (w : Nat) : Nat := wd (fun i => on t (64 * w + i)) 64

theorem FW_lt (t : List UInt8) (w : Nat) : FW t w < 18446744073709551616 := wd_lt _ 64
theorem OW_lt (t : List UInt8) (w : Nat) : OW t w < 18446744073709551616 := wd_lt _ 64
theorem FW_bit (t : List UInt8) (w i : Nat) : (FW t w).testBit i = (decide (i < 64) && fx t (64 * w + i)) := wd_bit _ _ _
theorem OW_bit (t : List UInt8) (w i : Nat) : (OW t w).testBit i = (decide (i < 64) && on t (64 * w + i)) := wd_bit _ _ _

def tri (b : UInt8) : Bool := b == 48 || b == 49 || b == 120
def good (t : List UInt8) : Bool := decide (t.length ≤ 256) && t.all tri

theorem good_len {t : List UInt8} (h : good t = true) : t.length ≤ 256 := by
  simp [good] at h; exact h.1
theorem good_tri {t : List UInt8} (h : good t = true) (k : Nat) (hk : k < t.length) : tri t[k] = true := by
  simp [good] at h; exact h.2 _ (List.getElem_mem hk)

theorem pow_lt64 (r : Nat) (h : r < 64) : 2 ^ r < 18446744073709551616 := by
  have : 2 ^ r < 2 ^ 64 := Nat.pow_lt_pow_right (by omega) h
  exact this

/-- a word and one bit: 0 just if the bit is not there -/
theorem and_bit (x r : Nat) : (x &&& 2 ^ r == 0) = !x.testBit r := by
  rw [nat_bit, ← Nat.shiftRight_eq_div_pow]
  have hp : 0 < 2 ^ r := Nat.two_pow_pos r
  have h : x.testBit r = decide (x >>> r % 2 = 1) := Nat.testBit_eq_decide_div_mod_eq ▸ by rw [Nat.shiftRight_eq_div_pow]
  rw [h]
  rcases Nat.mod_two_eq_zero_or_one (x >>> r) with e | e
  · simp [e]
  · simp [e]

theorem bits_and_bit (x r : Nat) (hx : x < 18446744073709551616) (hr : r < 64) : (bits .and .u64 (x : Int) ((2 ^ r : Nat) : Int) == 0) = !x.testBit r := by
  rw [u64_and_nat x (2 ^ r) hx (pow_lt64 r hr), ← and_bit x r]
  rw [Bool.eq_iff_iff]
  simp only [beq_iff_eq]
  omega

theorem FW_at (t : List UInt8) (k r : Nat) (hr : r < 64) : (bits .and .u64 (FW t k : Int) ((2 ^ r : Nat) : Int) == 0) = !fx t (64 * k + r) := by
  rw [bits_and_bit _ _ (FW_lt _ _) hr, FW_bit]; simp [hr]
theorem OW_at (t : List UInt8) (k r : Nat) (hr : r < 64) : (bits .and .u64 (OW t k : Int) ((2 ^ r : Nat) : Int) == 0) = !on t (64 * k + r) := by
  rw [bits_and_bit _ _ (OW_lt _ _) hr, OW_bit]; simp [hr]

/-- what 'at' answers -/
theorem at_eq (t : List UInt8) (p : Nat) (hp : p < t.length) (ht : tri t[p] = true) :
    (if (!fx t p) = true then (120 : Int) else if (!on t p) = true then 48 else 49) = (t[p].toNat : Int) := by
  have h0 : t[p]? = some t[p] := List.getElem?_eq_getElem hp
  simp only [fx, on, h0]
  generalize t[p] = b at *
  simp [tri] at ht
  rcases ht with (rfl | rfl) | rfl <;> simp

theorem fx_set (t : List UInt8) (p j : Nat) (b : UInt8) (hb : b ≠ 120) (hp : p < t.length) : fx (t.set p b) j = (fx t j || decide (j = p)) := by
  unfold fx
  by_cases h : j = p
  · subst h
    simp [List.getElem?_set_self hp, hb]
  · rw [List.getElem?_set_ne (by omega)]; simp [h]

theorem on_set (t : List UInt8) (p j : Nat) (b : UInt8) (hp : p < t.length) (hx : t[p] = 120) : on (t.set p b) j = (on t j || (decide (j = p) && (b == 49))) := by
  unfold on
  by_cases h : j = p
  · subst h
    simp [List.getElem?_set_self hp, List.getElem?_eq_getElem hp, hx]
  · rw [List.getElem?_set_ne (by omega)]; simp [h]

theorem FW_set_ne (t : List UInt8) (k j r : Nat) (b : UInt8) (hr : r < 64) (hb : b ≠ 120) (hp : 64 * k + r < t.length) (hj : j ≠ k) : FW (t.set (64 * k + r) b) j = FW t j := by
  apply wd_congr
  intro i hi
  rw [fx_set _ _ _ _ hb hp]
  have : 64 * j + i ≠ 64 * k + r := by omega
  simp [this]

theorem OW_set_ne (t : List UInt8) (k j r : Nat) (b : UInt8) (hr : r < 64) (hp : 64 * k + r < t.length) (hx : t[64 * k + r] = 120) (hj : j ≠ k) : OW (t.set (64 * k + r) b) j = OW t j := by
  apply wd_congr
  intro i hi
  rw [on_set _ _ _ _ hp hx]
  have : 64 * j + i ≠ 64 * k + r := by omega
  simp [this]

theorem FW_set (t : List UInt8) (k r : Nat) (b : UInt8) (hr : r < 64) (hb : b ≠ 120) (hp : 64 * k + r < t.length) :
    bits .or .u64 (FW t k : Int) ((2 ^ r : Nat) : Int) = (FW (t.set (64 * k + r) b) k : Nat) := by
  rw [u64_or_nat _ _ (FW_lt _ _) (pow_lt64 r hr)]
  congr 1
  apply Nat.eq_of_testBit_eq
  intro i
  rw [Nat.testBit_or, FW_bit, FW_bit, Nat.testBit_two_pow, fx_set _ _ _ _ hb hp]
  by_cases hi : i < 64
  · by_cases h : r = i
    · subst h; simp [hi]
    · have h2 : ¬ i = r := by omega
      simp [hi, h, h2]
  · have : ¬ r = i := by omega
    simp [hi, this]

/-- the digit that a word has at a bit -/
def dg (D r : Nat) : UInt8 := if D.testBit r then 49 else 48
theorem dg_ne (D r : Nat) : dg D r ≠ 120 := by unfold dg; split <;> decide
theorem dg_49 (D r : Nat) : (dg D r == 49) = D.testBit r := by unfold dg; cases D.testBit r <;> simp

theorem OW_set (t : List UInt8) (k r D : Nat) (hr : r < 64) (hD : D < 18446744073709551616) (hp : 64 * k + r < t.length) (hx : t[64 * k + r] = 120) :
    bits .or .u64 (OW t k : Int) (bits .and .u64 ((2 ^ r : Nat) : Int) (D : Int)) = (OW (t.set (64 * k + r) (dg D r)) k : Nat) := by
  have hand : 2 ^ r &&& D < 18446744073709551616 := Nat.lt_of_le_of_lt Nat.and_le_right hD
  rw [u64_and_nat _ _ (pow_lt64 r hr) hD, u64_or_nat _ _ (OW_lt _ _) hand]
  congr 1
  apply Nat.eq_of_testBit_eq
  intro i
  rw [Nat.testBit_or, Nat.testBit_and, OW_bit, OW_bit, Nat.testBit_two_pow, on_set _ _ _ _ hp hx, dg_49]
  by_cases hi : i < 64
  · by_cases h : r = i
    · subst h; simp [hi]
    · have h2 : ¬ i = r := by omega
      simp [hi, h, h2]
  · have : ¬ r = i := by omega
    simp [hi, this]

theorem FW_all (n w : Nat) : FW (List.replicate n 120) w = 0 := by
  apply wd_zero
  intro i _
  unfold fx
  rw [List.getElem?_replicate]
  split <;> simp_all
theorem OW_all (n w : Nat) : OW (List.replicate n 120) w = 0 := by
  apply wd_zero
  intro i _
  unfold on
  rw [List.getElem?_replicate]
  by_cases h : 64 * w + i < n <;> simp [h]

/-- the cube that has been read so far -/
def st (t : List UInt8) (k : Nat) : List UInt8 := t.take k ++ List.replicate (t.length - k) 120
theorem st_len (t : List UInt8) (k : Nat) (h : k ≤ t.length) : (st t k).length = t.length := by simp [st]; omega
theorem st_zero (t : List UInt8) : st t 0 = List.replicate t.length 120 := by simp [st]
theorem st_all (t : List UInt8) : st t t.length = t := by simp [st]
theorem st_get (t : List UInt8) (k : Nat) (h : k < t.length) : (st t k)[k]'(by rw [st_len _ _ (by omega)]; exact h) = 120 := by
  unfold st
  rw [List.getElem_append_right (by simp; omega)]
  simp
theorem st_succ (t : List UInt8) (k : Nat) (h : k < t.length) : (st t k).set k t[k] = st t (k + 1) := by
  apply List.ext_getElem?
  intro i
  by_cases hi : i = k
  · subst hi
    rw [List.getElem?_set_self (by rw [st_len _ _ (by omega)]; exact h)]
    unfold st
    rw [List.getElem?_append_left (by simp; omega), List.getElem?_take_of_lt (by omega), List.getElem?_eq_getElem h]
  · rw [List.getElem?_set_ne (by omega)]
    unfold st
    rw [List.getElem?_append, List.getElem?_append]
    simp only [List.length_take, List.getElem?_take, List.getElem?_replicate]
    repeat' split
    all_goals first | rfl | omega | skip
theorem st_skip (t : List UInt8) (k : Nat) (h : k < t.length) (hx : t[k] = 120) : st t (k + 1) = st t k := by
  rw [← st_succ t k h, hx]
  have := st_get t k h
  rw [← this]
  exact List.set_getElem_self _

theorem tri_of (t : List UInt8) (k : Nat) (h : k < t.length) (ht : tri t[k] = true) : t[k] = 48 ∨ t[k] = 49 ∨ t[k] = 120 := by
  generalize t[k] = b at *
  simp [tri] at ht
  rcases ht with (h | h) | h
  · exact .inl h
  · exact .inr (.inl h)
  · exact .inr (.inr h)

/-- equality of cubes, place by place -/
theorem eq_of_words (a b : List UInt8) (ha : good a = true) (hb : good b = true) (hl : a.length = b.length)
    (hf : ∀ w, w < 4 → FW a w = FW b w) (ho : ∀ w, w < 4 → OW a w = OW b w) : a = b := by
  apply List.ext_getElem hl
  intro i h1 h2
  have l1 := good_len ha
  have hw : i / 64 < 4 := by omega
  have e1 : (FW a (i / 64)).testBit (i % 64) = (FW b (i / 64)).testBit (i % 64) := by rw [hf _ hw]
  have e2 : (OW a (i / 64)).testBit (i % 64) = (OW b (i / 64)).testBit (i % 64) := by rw [ho _ hw]
  rw [FW_bit, FW_bit] at e1
  rw [OW_bit, OW_bit] at e2
  have hi : 64 * (i / 64) + i % 64 = i := by omega
  have hlt : i % 64 < 64 := by omega
  rw [hi] at e1 e2
  simp only [hlt, decide_true, Bool.true_and] at e1 e2
  simp only [fx, on, List.getElem?_eq_getElem h1, List.getElem?_eq_getElem h2] at e1 e2
  have ta := good_tri ha i h1
  have tb := good_tri hb i h2
  generalize a[i] = x at *
  generalize b[i] = y at *
  simp [tri] at ta tb
  rcases ta with (rfl | rfl) | rfl <;> rcases tb with (rfl | rfl) | rfl <;> simp_all

def wordsEq (a b : List UInt8) : Bool := ((a.length : Int) == (b.length : Int)) && ((FW a 0 : Int) == (FW b 0 : Int)) && ((FW a 1 : Int) == (FW b 1 : Int)) && ((FW a 2 : Int) == (FW b 2 : Int)) && ((FW a 3 : Int) == (FW b 3 : Int)) && ((OW a 0 : Int) == (OW b 0 : Int)) && ((OW a 1 : Int) == (OW b 1 : Int)) && ((OW a 2 : Int) == (OW b 2 : Int)) && ((OW a 3 : Int) == (OW b 3 : Int))

theorem wordsEq_eq (a b : List UInt8) (ha : good a = true) (hb : good b = true) : wordsEq a b = (a == b) := by
  rw [Bool.eq_iff_iff]
  constructor
  · intro h
    simp only [wordsEq, Bool.and_eq_true, beq_iff_eq] at h
    obtain ⟨⟨⟨⟨⟨⟨⟨⟨h0, h1⟩, h2⟩, h3⟩, h4⟩, h5⟩, h6⟩, h7⟩, h8⟩ := h
    have : a = b := by
      apply eq_of_words a b ha hb (by omega)
      · intro w hw
        match w, hw with
        | 0, _ => omega
        | 1, _ => omega
        | 2, _ => omega
        | 3, _ => omega
      · intro w hw
        match w, hw with
        | 0, _ => omega
        | 1, _ => omega
        | 2, _ => omega
        | 3, _ => omega
    subst this; simp
  · intro h
    have : a = b := by simpa using h
    subst this
    simp [wordsEq]

/-- P1.2: the error of a text -/
def refP (t : List UInt8) : Int := if 256 < t.length then 2 else if t = [] then 10 else if t.all tri = true then 0 else 10
/-- the text of the cube that Parse answers -/
def cubeT (t : List UInt8) : List UInt8 := if refP t = 0 then t else []

theorem refP_zero (t : List UInt8) : refP t = 0 ↔ (t ≠ [] ∧ good t = true) := by
  unfold refP good
  by_cases h1 : 256 < t.length
  · simp [h1]; omega
  · by_cases h2 : t = []
    · simp [h2]
    · by_cases h3 : t.all tri = true
      · simp [h1, h2, h3]; omega
      · simp [h1, h2, h3]

theorem good_nil : good [] = true := by decide
theorem good_cubeT (t : List UInt8) : good (cubeT t) = true := by
  unfold cubeT
  split
  · exact ((refP_zero t).1 ‹_›).2
  · exact good_nil
theorem cubeT_nil_iff (t : List UInt8) (h : refP t ≠ 0) : cubeT t = [] := by unfold cubeT; rw [if_neg h]
theorem cubeT_self (t : List UInt8) (h : refP t = 0) : cubeT t = t := by unfold cubeT; rw [if_pos h]
theorem cubeT_good (t : List UInt8) (h : good t = true) : cubeT t = t := by
  by_cases hn : t = []
  · subst hn; decide
  · exact cubeT_self t ((refP_zero t).2 ⟨hn, h⟩)
theorem good_replicate (n : Nat) (h : n ≤ 256) : good (List.replicate n 120) = true := by
  simp [good, h, tri]

end Go.Proofs.YtnobpeghofoniaaGreatDoor.Tn
namespace Go.Proofs.YtnobpeghofoniaaGreatDoor.Tn
open Go.RowKit

/-- the value of the cube of a text -/
def cubeV (t : List UInt8) : Value := cv t.length (FW t 0) (FW t 1) (FW t 2) (FW t 3) (OW t 0) (OW t 1) (OW t 2) (OW t 3)

theorem cubeV_all (n : Nat) : cubeV (List.replicate n 120) = cv n 0 0 0 0 0 0 0 0 := by
  unfold cubeV; simp only [FW_all, OW_all, List.length_replicate]; rfl

theorem all_any (n : Int) (w : World) : Calls Tryz.prog 33 #[.int .i64 n] w fun e w' => e = .returned (cubeV (if 1 ≤ n ∧ n ≤ 256 then List.replicate n.toNat 120 else [])) ∧ Below w.heap.size w w' := by
  by_cases h : 1 ≤ n ∧ n ≤ 256
  · rw [if_pos h]
    refine (all_yes n w h.1 h.2).mono ?_
    rintro e w' ⟨rfl, hb⟩
    refine ⟨?_, hb⟩
    rw [cubeV_all]
    have : ((n.toNat : Nat) : Int) = n := by omega
    rw [this]
  · rw [if_neg h]
    refine (all_no n w (by omega)).mono ?_
    rintro e w' ⟨rfl, hb⟩
    refine ⟨?_, hb⟩
    have := cubeV_all 0
    rw [List.replicate_zero] at this
    rw [this]; rfl

theorem fix_any (t : List UInt8) (k r D : Nat) (w : World) (hk : k < 4) (hr : r < 64) (hD : D < 18446744073709551616) (hp : 64 * k + r < t.length) (hx : t[64 * k + r] = 120) :
    Calls Tryz.prog 99 #[cubeV t, .int .i64 k, .int .u64 ((2 ^ r : Nat) : Int), .int .u64 (D : Int)] w fun e w' => e = .returned (cubeV (t.set (64 * k + r) (dg D r))) ∧ Below w.heap.size w w' := by
  have h1 := FW_set t k r (dg D r) hr (dg_ne D r) hp
  have h2 := OW_set t k r D hr hD hp hx
  have g1 := fun j hj => FW_set_ne t k j r (dg D r) hr (dg_ne D r) hp hj
  have g2 := fun j hj => OW_set_ne t k j r (dg D r) hr hp hx hj
  have hl : (t.set (64 * k + r) (dg D r)).length = t.length := by simp
  match k, hk with
  | 0, _ =>
    refine (fix_0 _ _ _ _ _ _ _ _ _ _ _ w).mono ?_
    rintro e w' ⟨rfl, hb⟩
    refine ⟨?_, hb⟩
    rw [h1, h2]
    unfold cubeV
    rw [g1 1 (by decide), g1 2 (by decide), g1 3 (by decide), g2 1 (by decide), g2 2 (by decide), g2 3 (by decide), hl]
  | 1, _ =>
    refine (fix_1 _ _ _ _ _ _ _ _ _ _ _ w).mono ?_
    rintro e w' ⟨rfl, hb⟩
    refine ⟨?_, hb⟩
    rw [h1, h2]
    unfold cubeV
    rw [g1 0 (by decide), g1 2 (by decide), g1 3 (by decide), g2 0 (by decide), g2 2 (by decide), g2 3 (by decide), hl]
  | 2, _ =>
    refine (fix_2 _ _ _ _ _ _ _ _ _ _ _ w).mono ?_
    rintro e w' ⟨rfl, hb⟩
    refine ⟨?_, hb⟩
    rw [h1, h2]
    unfold cubeV
    rw [g1 0 (by decide), g1 1 (by decide), g1 3 (by decide), g2 0 (by decide), g2 1 (by decide), g2 3 (by decide), hl]
  | 3, _ =>
    refine (fix_3 _ _ _ _ _ _ _ _ _ _ _ w).mono ?_
    rintro e w' ⟨rfl, hb⟩
    refine ⟨?_, hb⟩
    rw [h1, h2]
    unfold cubeV
    rw [g1 0 (by decide), g1 1 (by decide), g1 2 (by decide), g2 0 (by decide), g2 1 (by decide), g2 2 (by decide), hl]

theorem at_any (t : List UInt8) (p : Int) (q : Nat) (w : World) (hg : good t = true) (hp : p = (q : Int)) (hq : q < t.length) :
    Calls Tryz.prog 67 #[cubeV t, .int .i64 p] w fun e w' => e = .returned (.int .u8 (t[q].toNat : Int)) ∧ Below w.heap.size w w' := by
  have hl := good_len hg
  have ht := good_tri hg q hq
  have hkr : ∃ k r, k < 4 ∧ r < 64 ∧ q = 64 * k + r := ⟨q / 64, q % 64, by omega, by omega, by omega⟩
  obtain ⟨k, r, hk, hr, rfl⟩ := hkr
  have e := at_eq t (64 * k + r) hq ht
  rw [← FW_at t k r hr, ← OW_at t k r hr] at e
  match k, hk with
  | 0, _ =>
    refine (at_0 _ _ _ _ _ _ _ _ _ p r w hr hp).mono ?_
    rintro e' w' ⟨rfl, hb⟩
    exact ⟨by rw [e], hb⟩
  | 1, _ =>
    refine (at_1 _ _ _ _ _ _ _ _ _ p r w hr hp).mono ?_
    rintro e' w' ⟨rfl, hb⟩
    exact ⟨by rw [e], hb⟩
  | 2, _ =>
    refine (at_2 _ _ _ _ _ _ _ _ _ p r w hr hp).mono ?_
    rintro e' w' ⟨rfl, hb⟩
    exact ⟨by rw [e], hb⟩
  | 3, _ =>
    refine (at_3 _ _ _ _ _ _ _ _ _ p r w hr hp).mono ?_
    rintro e' w' ⟨rfl, hb⟩
    exact ⟨by rw [e], hb⟩
end Go.Proofs.YtnobpeghofoniaaGreatDoor.Tn
namespace Go.Proofs.YtnobpeghofoniaaGreatDoor.Tn
open Go.RowKit

theorem info_u8 : (Tryz.prog.info? 5).map (fun i => (i.zero, i.size, i.bytes)) = some (some (.int .u8 0), 1, 1) := by kernel_rfl

theorem grown_of_below {w w' : World} (h : Below w.heap.size w w') (row : Option Nat) : w.grownBy w' row :=
  ⟨h.os, h.tape, h.output, h.size, fun k hk _ => h.block k hk⟩

theorem owns_below {w w' : World} {base : Nat} {e : TypeId} {size : Nat} {v : Value} {n : Nat} {xs : List Value} (h : w.ownsRow base e size v n xs) (hb : Below w.heap.size w w') : w'.ownsRow base e size v n xs := by
  refine h.kept (grown_of_below hb none) ?_
  cases v.ownBlock <;> simp

/-- the cells of a text's bytes -/
def bys (t : List UInt8) : List Value := t.map fun b => .int .u8 (b.toNat : Int)
/-- the row behind k bytes -/
def rowAt (t : List UInt8) (k : Nat) : List Value := bys (t.take k) ++ List.replicate (t.length - k) (.int .u8 0)

theorem rowAt_len (t : List UInt8) (k : Nat) (h : k ≤ t.length) : (rowAt t k).length = t.length := by simp [rowAt, bys]; omega
theorem rowAt_all (t : List UInt8) : rowAt t t.length = bys t := by simp [rowAt]
theorem rowAt_zero (t : List UInt8) : rowAt t 0 = List.replicate t.length (.int .u8 0) := by simp [rowAt, bys]
theorem rowAt_get (t : List UInt8) (k : Nat) (h : k < t.length) : (rowAt t k)[k]? = some (.int .u8 0) := by
  unfold rowAt bys
  rw [List.getElem?_append_right (by simp; omega)]
  have h1 : min k t.length = k := by omega
  have h2 : 0 < t.length - k := by omega
  simp [h1, h2]
theorem rowAt_succ (t : List UInt8) (k : Nat) (h : k < t.length) : (rowAt t k).set k (.int .u8 (t[k].toNat : Int)) = rowAt t (k + 1) := by
  unfold rowAt bys
  have hs : t.take (k + 1) = t.take k ++ [t[k]] := List.take_succ_eq_append_getElem h
  have : t.length - k = (t.length - (k + 1)) + 1 := by omega
  rw [this, List.replicate_succ, List.set_append_right _ _ (by simp; omega), hs, List.map_append]
  simp [Nat.min_eq_left (Nat.le_of_lt h)]

theorem add_plain (b o j : Nat) : (⟨b, o, none⟩ : Addr).add j = ⟨b, o + j, none⟩ := by unfold Addr.add; split <;> simp_all

/-- 'string(b)' of a row of the call's own -/
theorem conv_owned (W : World) (B g cap : Nat) (t : List UInt8) (hown : W.ownsRow B 5 1 (.slice (some ⟨g, 0, none⟩) t.length cap) t.length (bys t)) :
    (convert 32 9 (.slice (some ⟨g, 0, none⟩) t.length cap)).run Tryz.prog W = .ok (.string ⟨t.toArray⟩) W := by
  refine run_convert_bytes_back _ _ _ 5 _ _ t Tryz.underlying32 Tryz.underlying5 Tryz.underlying9 ?_
  intro j hj
  have := hown.cellAt j (by omega)
  rw [add_plain, Nat.zero_add, this]
  simp [bys, List.getElem?_eq_getElem hj]

set_option maxHeartbeats 400000 in
theorem text_any (t : List UInt8) (w : World) (hg : good t = true) :
    Calls Tryz.prog 96 #[cubeV t] w fun e w' => e = .returned (.string ⟨t.toArray⟩) ∧ Below w.heap.size w w' := by
  have hl := good_len hg
  obtain ⟨i0, hi, hz0, hz1, hz2⟩ := info_parts info_u8
  unfold cubeV cv
  go_enter Tryz.func96, Tryz.ntmps96
  go_wp2_with (at_make; refine wpList_make_full _ rfl _ _ 32 rfl (w.heap.size + 1) 5 i0 (.int .u8 0) 1 Tryz.underlying32 hi hz0 hz1 .i64 .i64 _ _ t.length rfl rfl rfl rfl (by rw [hz2]; omega) (by unfold maxLen; omega) (by simp) ?_; intro w1 hown hgrow)
  have hB : Below (w.heap.size + 1) (w.alloc (.cells #[.int .i64 (t.length : Int), .int .u64 (FW t 0 : Int), .int .u64 (FW t 1 : Int), .int .u64 (FW t 2 : Int), .int .u64 (FW t 3 : Int), .int .u64 (OW t 0 : Int), .int .u64 (OW t 1 : Int), .int .u64 (OW t 2 : Int), .int .u64 (OW t 3 : Int)] 74)) w1 := (Below.refl _ _).grown hgrow (by simp) (fun k h => by cases h)
  have hown' : w1.ownsRow (w.heap.size + 1) 5 1 (.slice (some ⟨w.heap.size + 1, 0, none⟩) t.length t.length) t.length (rowAt t 0) := by
    rw [rowAt_zero]
    have h1 : (madeCells (Value.int IntKind.u8 0).cells (t.length * 1)).toList = List.replicate t.length (.int .u8 0) := by rw [Nat.mul_one]; exact toList_madeCells_one _ _
    rw [h1] at hown
    simpa using hown
  clear hown hgrow
  go_loopw [10] (fun i wr => ∃ k : Nat, k ≤ t.length ∧ i = .int .i64 k ∧ wr.ownsRow (w.heap.size + 1) 5 1 (.slice (some ⟨w.heap.size + 1, 0, none⟩) t.length t.length) t.length (rowAt t k) ∧ Below (w.heap.size + 1) (w.alloc (.cells #[.int .i64 (t.length : Int), .int .u64 (FW t 0 : Int), .int .u64 (FW t 1 : Int), .int .u64 (FW t 2 : Int), .int .u64 (FW t 3 : Int), .int .u64 (OW t 0 : Int), .int .u64 (OW t 1 : Int), .int .u64 (OW t 2 : Int), .int .u64 (OW t 3 : Int)] 74)) wr) (fun i _ => t.length - (intOf i).toNat)
  case atStart => exact ⟨0, Nat.zero_le _, rfl, hown', hB⟩
  case round =>
    clear hB hown'
    obtain ⟨k, hk, rfl, hown, hB⟩ := hrel
    have hc : ∀ b o, b < w.heap.size + 1 → wr.cell? ⟨b, o, none⟩ = (w.alloc (.cells #[.int .i64 (t.length : Int), .int .u64 (FW t 0 : Int), .int .u64 (FW t 1 : Int), .int .u64 (FW t 2 : Int), .int .u64 (FW t 3 : Int), .int .u64 (OW t 0 : Int), .int .u64 (OW t 1 : Int), .int .u64 (OW t 2 : Int), .int .u64 (OW t 3 : Int)] 74)).cell? ⟨b, o, none⟩ := fun b o h => hB.cell (p := ⟨b, o, none⟩) h
    have hsz : w.heap.size + 1 ≤ wr.heap.size := by have := hB.size; simpa using this
    by_cases hlt : k < t.length
    · go_wp2_with (go_at_call 67; refine (at_any t _ k _ hg rfl hlt).mono ?_; rintro e w2 ⟨rfl, hb2⟩; have hown2 := owns_below hown hb2; have hc2 := (hown2.cellAt k (by omega)).trans (rowAt_get t k hlt); have hf2 := hown2.frozenAt k)
      go_roundw
      case rel =>
        refine ⟨k + 1, by omega, by go_num, ?_, ?_⟩
        · have := hown2.stored k (.int .u8 (t[k].toNat : Int))
          rw [rowAt_succ t k hlt] at this
          exact this.1
        · exact (hB.trans (hb2.mono hsz)).setCell (Nat.le_refl _) _
      case measure => simp [intOf]; omega
    · have hkn : k = t.length := by omega
      subst hkn
      rw [rowAt_all] at hown
      have hcv := conv_owned wr (w.heap.size + 1) (w.heap.size + 1) t.length t hown
      go_wp2
      go_ret
      exact ⟨rfl, ((Below.refl _ _).alloc (Nat.le_refl _) _).trans (hB.mono (by omega))⟩
end Go.Proofs.YtnobpeghofoniaaGreatDoor.Tn
namespace Go.Proofs.YtnobpeghofoniaaGreatDoor.Tn
open Go.RowKit

theorem cells_block {W : World} {b T : Nat} {cs : Array Value} (h : W.heap[b]? = some (.cells cs T (0, 0))) : (∀ j, W.cell? ⟨b, j, none⟩ = cs[j]?) ∧ ∀ j, W.frozen? ⟨b, j, none⟩ = false := by
  constructor
  · intro j; unfold World.cell?; rw [h]; simp
  · intro j; unfold World.frozen?; rw [h]; simp

set_option maxHeartbeats 400000 in
theorem parse_long (s : ByteArray) (w : World) (hs : s.size ≤ maxLen) (h : 256 < s.size) :
    Calls Tryz.prog 78 #[.string s] w fun e w' => e = .returned (.tuple #[cv 0 0 0 0 0 0 0 0 0, .int .i64 2]) ∧ Below w.heap.size w w' := by
  unfold maxLen at hs
  have h' : (256 : Int) < s.size := by omega
  go_enter Tryz.func78, Tryz.ntmps78
  go_wp2_with fail
  exact bodyPost_ret (v := .tuple #[cv 0 0 0 0 0 0 0 0 0, .int .i64 2]) (by simp [results, Tryz.results78, go_sem, cv]) rfl ⟨rfl, (Below.refl _ _).alloc (Nat.le_refl _) _⟩

set_option maxHeartbeats 400000 in
theorem parse_none (s : ByteArray) (w : World) (h : s.toList = []) :
    Calls Tryz.prog 78 #[.string s] w fun e w' => e = .returned (.tuple #[cv 0 0 0 0 0 0 0 0 0, .int .i64 10]) ∧ Below w.heap.size w w' := by
  have hz : s = ⟨#[]⟩ := by
    rw [ByteArray.toList_eq] at h
    obtain ⟨⟨l⟩⟩ := s
    simp at h
    subst h; rfl
  subst hz
  go_enter Tryz.func78, Tryz.ntmps78
  go_wp2_with fail
  exact bodyPost_ret (v := .tuple #[cv 0 0 0 0 0 0 0 0 0, .int .i64 10]) (by simp [results, Tryz.results78, go_sem, cv]) rfl ⟨rfl, (Below.refl _ _).alloc (Nat.le_refl _) _⟩

theorem alloc_get (w : World) (o : Obj) : (w.alloc o).heap[w.heap.size]? = some o := by
  show (w.heap.push o)[w.heap.size]? = _
  simp

theorem lt_of_get {w : World} {b : Nat} {o : Obj} (h : w.heap[b]? = some o) : b < w.heap.size := by
  rcases Nat.lt_or_ge b w.heap.size with h1 | h1
  · exact h1
  · rw [Array.getElem?_eq_none h1] at h; cases h

theorem set_get {W : World} {b j T : Nat} {m : Nat × Nat} {cs : Array Value} (v : Value) (h : W.heap[b]? = some (.cells cs T m)) : (W.setCell ⟨b, j, none⟩ v).heap[b]? = some (.cells (cs.setIfInBounds j v) T m) := by
  simp only [World.setCell, Array.getElem?_modify, if_pos, h, Option.map_some]
  simp

/-- nine cells stored, one behind the other -/
def put9 (W : World) (b : Nat) (v0 v1 v2 v3 v4 v5 v6 v7 v8 : Value) : World :=
  ((((((((W.setCell ⟨b, 0, none⟩ v0).setCell ⟨b, 1, none⟩ v1).setCell ⟨b, 2, none⟩ v2).setCell ⟨b, 3, none⟩ v3).setCell ⟨b, 4, none⟩ v4).setCell ⟨b, 5, none⟩ v5).setCell ⟨b, 6, none⟩ v6).setCell ⟨b, 7, none⟩ v7).setCell ⟨b, 8, none⟩ v8

theorem put9_get {W : World} {b T : Nat} {m : Nat × Nat} {x0 x1 x2 x3 x4 x5 x6 x7 x8 : Value} (v0 v1 v2 v3 v4 v5 v6 v7 v8 : Value) (h : W.heap[b]? = some (.cells #[x0, x1, x2, x3, x4, x5, x6, x7, x8] T m)) :
    (put9 W b v0 v1 v2 v3 v4 v5 v6 v7 v8).heap[b]? = some (.cells #[v0, v1, v2, v3, v4, v5, v6, v7, v8] T m) := by
  unfold put9
  have h0 := set_get (j := 0) v0 h
  have h1 := set_get (j := 1) v1 h0
  have h2 := set_get (j := 2) v2 h1
  have h3 := set_get (j := 3) v3 h2
  have h4 := set_get (j := 4) v4 h3
  have h5 := set_get (j := 5) v5 h4
  have h6 := set_get (j := 6) v6 h5
  have h7 := set_get (j := 7) v7 h6
  have h8 := set_get (j := 8) v8 h7
  rw [h8]
  simp

theorem put9_below {B : Nat} {a W : World} {b : Nat} (v0 v1 v2 v3 v4 v5 v6 v7 v8 : Value) (h : Below B a W) (hb : B ≤ b) : Below B a (put9 W b v0 v1 v2 v3 v4 v5 v6 v7 v8) :=
  ((((((((h.setCell (p := ⟨b, 0, none⟩) hb v0).setCell (p := ⟨b, 1, none⟩) hb v1).setCell (p := ⟨b, 2, none⟩) hb v2).setCell (p := ⟨b, 3, none⟩) hb v3).setCell (p := ⟨b, 4, none⟩) hb v4).setCell (p := ⟨b, 5, none⟩) hb v5).setCell (p := ⟨b, 6, none⟩) hb v6).setCell (p := ⟨b, 7, none⟩) hb v7).setCell (p := ⟨b, 8, none⟩) hb v8

theorem res_cube2 {fn : Func} {p u : Tmp} {m : Nat × Nat} (tmps : Array Value) (W : World) (b : Nat) (n a1 a2 a3 a4 o1 o2 o3 o4 : Int) (hr : fn.results = #[.cell p 74, .tmp u]) (hp : tmps.getD p undef = .pointer (some ⟨b, 0, none⟩))
    (h : W.heap[b]? = some (.cells #[.int .i64 n, .int .u64 a1, .int .u64 a2, .int .u64 a3, .int .u64 a4, .int .u64 o1, .int .u64 o2, .int .u64 o3, .int .u64 o4] 74 m)) :
    (results fn tmps).run Tryz.prog W = .ok (.tuple #[cv n a1 a2 a3 a4 o1 o2 o3 o4, tmps.getD u undef]) W := by
  have hc : ∀ j, W.cell? ⟨b, j, none⟩ = (#[.int .i64 n, .int .u64 a1, .int .u64 a2, .int .u64 a3, .int .u64 a4, .int .u64 o1, .int .u64 o2, .int .u64 o3, .int .u64 o4] : Array Value)[j]? := by
    intro j; unfold World.cell?; rw [h]; simp
  rw [results_cell_tmp hr, hp]
  simp [go_sem, cv, hc]

theorem res_cube1 {fn : Func} {p : Tmp} {m : Nat × Nat} (tmps : Array Value) (W : World) (b : Nat) (n a1 a2 a3 a4 o1 o2 o3 o4 : Int) (hr : fn.results = #[.cell p 74]) (hp : tmps.getD p undef = .pointer (some ⟨b, 0, none⟩))
    (h : W.heap[b]? = some (.cells #[.int .i64 n, .int .u64 a1, .int .u64 a2, .int .u64 a3, .int .u64 a4, .int .u64 o1, .int .u64 o2, .int .u64 o3, .int .u64 o4] 74 m)) :
    (results fn tmps).run Tryz.prog W = .ok (cv n a1 a2 a3 a4 o1 o2 o3 o4) W := by
  have hc : ∀ j, W.cell? ⟨b, j, none⟩ = (#[.int .i64 n, .int .u64 a1, .int .u64 a2, .int .u64 a3, .int .u64 a4, .int .u64 o1, .int .u64 o2, .int .u64 o3, .int .u64 o4] : Array Value)[j]? := by
    intro j; unfold World.cell?; rw [h]; simp
  have hp' : tmps[p]?.getD undef = .pointer (some ⟨b, 0, none⟩) := by simpa using hp
  simp [results, hr, hp', go_sem, cv, hc]

theorem fix48 (t : List UInt8) (p q r X : Nat) (w : World) (hq : q < 4) (hr : r < 64) (hX : X = 2 ^ r) (he : p = 64 * q + r) (hp : p < t.length) (hx : t[p] = 120) :
    Calls Tryz.prog 99 #[cubeV t, .int .i64 (q : Int), .int .u64 (X : Int), .int .u64 0] w fun e w' => e = .returned (cubeV (t.set p 48)) ∧ Below w.heap.size w w' := by
  subst he hX
  refine (fix_any t q r 0 w hq hr (by decide) hp hx).mono ?_
  rintro e w' ⟨rfl, hb⟩
  exact ⟨by simp [dg], hb⟩

theorem fix49 (t : List UInt8) (p q r X : Nat) (w : World) (hq : q < 4) (hr : r < 64) (hX : X = 2 ^ r) (he : p = 64 * q + r) (hp : p < t.length) (hx : t[p] = 120) :
    Calls Tryz.prog 99 #[cubeV t, .int .i64 (q : Int), .int .u64 (X : Int), .int .u64 (X : Int)] w fun e w' => e = .returned (cubeV (t.set p 49)) ∧ Below w.heap.size w w' := by
  subst he hX
  refine (fix_any t q r (2 ^ r) w hq hr (pow_lt64 r hr) hp hx).mono ?_
  rintro e w' ⟨rfl, hb⟩
  exact ⟨by simp [dg], hb⟩

theorem spotX (p q r X : Nat) (w : World) (hq : q < 4) (hr : r < 64) (hX : X = 2 ^ r) (he : p = 64 * q + r) :
    Calls Tryz.prog 92 #[.int .i64 (p : Int)] w fun e w' => e = .returned (.tuple #[.int .i64 (q : Int), .int .u64 (X : Int)]) ∧ ∃ n, w' = w.drewN n := by
  subst hX
  exact spot_at p q r w hq hr (by rw [he])

theorem byte_at (s : ByteArray) (k : Nat) (h : k < s.size) : s.data.toList[k]'(by simpa using h) = s[k] := rfl

theorem st_cells0 (s : ByteArray) : (#[.int .i64 (s.size : Int), .int .u64 0, .int .u64 0, .int .u64 0, .int .u64 0, .int .u64 0, .int .u64 0, .int .u64 0, .int .u64 0] : Array Value) = (fun t => #[.int .i64 (t.length : Int), .int .u64 (FW t 0 : Int), .int .u64 (FW t 1 : Int), .int .u64 (FW t 2 : Int), .int .u64 (FW t 3 : Int), .int .u64 (OW t 0 : Int), .int .u64 (OW t 1 : Int), .int .u64 (OW t 2 : Int), .int .u64 (OW t 3 : Int)]) (st s.data.toList 0) := by
  have h := cubeV_all s.data.toList.length
  rw [← st_zero] at h
  unfold cubeV cv at h
  have hl : s.data.toList.length = s.size := by simp
  simp only [Value.agg.injEq] at h
  rw [hl] at h
  exact h.symm

theorem tri_succ {s : ByteArray} {k : Nat} (hlt : k < s.size) (htri : ∀ j (h : j < s.data.toList.length), j < k → tri s.data.toList[j] = true) (hc : s[k] = 48 ∨ s[k] = 49 ∨ s[k] = 120) :
    ∀ j (h : j < s.data.toList.length), j < k + 1 → tri s.data.toList[j] = true := by
  intro j hj hjk
  by_cases e : j = k
  · subst e
    rw [byte_at s j hlt]
    rcases hc with h | h | h <;> rw [h] <;> decide
  · exact htri j hj (by omega)

theorem ne_byte {b : UInt8} {n : Nat} (h : b ≠ UInt8.ofNat n) : ((b.toNat : Int) == ((n : Nat) : Int)) = false := by
  rw [beq_eq_false_iff_ne]
  intro e
  have e2 : b.toNat = n := by omega
  apply h
  rw [← e2]
  simp

theorem parse_bad (s : ByteArray) (k : Nat) (hlt : k < s.size) (h2 : s.size ≤ 256) (c48 : ¬ s[k] = 48) (c49 : ¬ s[k] = 49) (c120 : ¬ s[k] = 120) : refP s.data.toList = 10 ∧ cubeT s.data.toList = [] := by
  have hlen : s.data.toList.length = s.size := by simp
  have hall : ¬ s.data.toList.all tri = true := by
    intro h
    rw [List.all_eq_true] at h
    have := h s[k] (by rw [← byte_at s k hlt]; exact List.getElem_mem _)
    simp [tri, c48, c49, c120] at this
  have h1 : refP s.data.toList = 10 := by
    unfold refP
    rw [if_neg (by omega)]
    split <;> rfl
  refine ⟨h1, ?_⟩
  unfold cubeT
  rw [h1]; rfl

theorem parse_good (s : ByteArray) (h1 : 1 ≤ s.size) (h2 : s.size ≤ 256) (h : ∀ j (h : j < s.data.toList.length), tri s.data.toList[j] = true) : refP s.data.toList = 0 ∧ cubeT s.data.toList = s.data.toList := by
  have hlen : s.data.toList.length = s.size := by simp
  have hz : refP s.data.toList = 0 := by
    rw [refP_zero]
    refine ⟨?_, ?_⟩
    · intro e; rw [e] at hlen; simp at hlen; omega
    · unfold good
      rw [Bool.and_eq_true, List.all_eq_true]
      refine ⟨by simp; omega, ?_⟩
      intro x hx
      obtain ⟨j, hj, rfl⟩ := List.getElem_of_mem hx
      exact h j hj
  exact ⟨hz, cubeT_self _ hz⟩

theorem cubeV_nil : cubeV [] = cv 0 0 0 0 0 0 0 0 0 := by
  have := cubeV_all 0
  rw [List.replicate_zero] at this
  rw [this]; rfl

theorem below3 {w w1 wr : World} {o : Obj} (hb1 : Below (w.alloc o).heap.size (w.alloc o) w1) (hB : Below w1.heap.size w1 wr) (nq : Nat) : Below w.heap.size w (wr.drewN nq) := by
  have h0 : Below w.heap.size w (w.alloc o) := (Below.refl _ _).alloc (Nat.le_refl _) _
  have hz : w.heap.size ≤ (w.alloc o).heap.size := h0.size
  have hz1 := hb1.size
  exact ((h0.trans (hb1.mono hz)).trans (hB.mono (by omega))).trans (below_drewN _ _ _)

theorem put9_set {s : ByteArray} {k b T : Nat} {W : World} {x0 x1 x2 x3 x4 x5 x6 x7 x8 : Value} {c : UInt8} (hlen : s.data.toList.length = s.size) (hlt : k < s.size) (h : W.heap[b]? = some (.cells #[x0, x1, x2, x3, x4, x5, x6, x7, x8] T (0, 0))) (hc : s[k] = c) :
    (put9 W b (.int .i64 ((st s.data.toList k).length : Int)) (.int .u64 (FW ((st s.data.toList k).set k c) 0 : Int)) (.int .u64 (FW ((st s.data.toList k).set k c) 1 : Int)) (.int .u64 (FW ((st s.data.toList k).set k c) 2 : Int)) (.int .u64 (FW ((st s.data.toList k).set k c) 3 : Int))
      (.int .u64 (OW ((st s.data.toList k).set k c) 0 : Int)) (.int .u64 (OW ((st s.data.toList k).set k c) 1 : Int)) (.int .u64 (OW ((st s.data.toList k).set k c) 2 : Int)) (.int .u64 (OW ((st s.data.toList k).set k c) 3 : Int))).heap[b]? = some (.cells ((fun t => #[.int .i64 (t.length : Int), .int .u64 (FW t 0 : Int), .int .u64 (FW t 1 : Int), .int .u64 (FW t 2 : Int), .int .u64 (FW t 3 : Int), .int .u64 (OW t 0 : Int), .int .u64 (OW t 1 : Int), .int .u64 (OW t 2 : Int), .int .u64 (OW t 3 : Int)]) (st s.data.toList (k + 1))) T (0, 0)) := by
  rw [put9_get _ _ _ _ _ _ _ _ _ h]
  have h1 : (st s.data.toList k).set k c = st s.data.toList (k + 1) := by
    rw [← st_succ _ _ (by rw [hlen]; exact hlt), byte_at s k hlt, hc]
  have h2 : (st s.data.toList k).length = (st s.data.toList (k + 1)).length := by rw [st_len _ _ (by omega), st_len _ _ (by omega)]
  rw [h1, h2]

set_option maxHeartbeats 400000 in
theorem parse_loop (s : ByteArray) (w : World) (h1 : 1 ≤ s.size) (h2 : s.size ≤ 256) :
    Calls Tryz.prog 78 #[.string s] w fun e w' => e = .returned (.tuple #[cubeV (cubeT s.data.toList), .int .i64 (refP s.data.toList)]) ∧ Below w.heap.size w w' := by
  have he : (s.toList.isEmpty) = false := by
    rw [ByteArray.toList_eq]
    obtain ⟨⟨l⟩⟩ := s
    simp [ByteArray.size] at h1 ⊢
    intro h; subst h; simp at h1
  have hd : decide ((256 : Int) < (s.size : Int)) = false := by simp; omega
  go_enter Tryz.func78, Tryz.ntmps78
  go_wp2_with (go_at_call 33; refine (all_yes _ _ (by omega) (by omega)).mono ?_; rintro e w1 ⟨rfl, hb1⟩; obtain ⟨hc1, hf1⟩ := bcell hb1; unfold cv)
  clear hd he
  rw [st_cells0]
  go_loopw [20] (fun i wr => ∃ k : Nat, k ≤ s.size ∧ i = .int .i64 k ∧ wr.heap[w1.heap.size]? = some (.cells ((fun t => #[.int .i64 (t.length : Int), .int .u64 (FW t 0 : Int), .int .u64 (FW t 1 : Int), .int .u64 (FW t 2 : Int), .int .u64 (FW t 3 : Int), .int .u64 (OW t 0 : Int), .int .u64 (OW t 1 : Int), .int .u64 (OW t 2 : Int), .int .u64 (OW t 3 : Int)]) (st s.data.toList k)) 74 (0, 0)) ∧ Below w1.heap.size w1 wr ∧ ∀ j (h : j < s.data.toList.length), j < k → tri s.data.toList[j] = true) (fun i _ => s.size - (intOf i).toNat)
  case atStart => exact ⟨0, Nat.zero_le _, rfl, alloc_get _ _, (Below.refl _ _).alloc (Nat.le_refl _) _, fun j _ h => by omega⟩
  case round =>
    obtain ⟨k, hk, rfl, hblk, hB, htri⟩ := hrel
    by_cases hlt : k < s.size
    · obtain ⟨hcb, hfb⟩ := cells_block hblk
      have hlB := lt_of_get hblk
      have hkr : ∃ q r X : Nat, q < 4 ∧ r < 64 ∧ X = 2 ^ r ∧ k = 64 * q + r := ⟨k / 64, k % 64, _, by omega, by omega, rfl, by omega⟩
      obtain ⟨q, r, X, hq, hr, hX0, hk0⟩ := hkr
      have hX : Hid (X = 2 ^ r) := hX0
      have hkq : Hid (k = 64 * q + r) := hk0
      clear hX0 hk0
      have hlen : Hid (s.data.toList.length = s.size) := by simp [Hid]
      by_cases c48 : s[k] = 48
      · have b48 : ((s[k].toNat : Int) == 48) = true := by rw [c48]; decide
        go_wp2_with (first | (go_at_call 92; refine (spotX k q r X _ hq hr hX.out hkq.out).mono ?_; rintro e w' ⟨rfl, nq, rfl⟩) | (go_at_call 99; refine (fix48 (st s.data.toList k) k q r X _ hq hr hX.out hkq.out (by rw [st_len _ _ (by rw [hlen.out]; omega), hlen.out]; exact hlt) (st_get _ _ (by rw [hlen.out]; exact hlt))).mono ?_; rintro e w2 ⟨rfl, hb2⟩; have hblk2 := (hb2.block _ (by exact hlB)).trans hblk; obtain ⟨hcb2, hfb2⟩ := cells_block hblk2; unfold cubeV cv))
        exact ⟨⟨k + 1, by omega, by go_num, put9_set hlen.out hlt hblk2 c48, put9_below _ _ _ _ _ _ _ _ _ (hB.trans ((below_drewN _ nq wr).trans (hb2.mono (by exact Nat.le_of_lt hlB)))) (Nat.le_refl _), tri_succ hlt htri (.inl c48)⟩, by simp [intOf]; omega⟩
      · by_cases c49 : s[k] = 49
        · have b48 : ((s[k].toNat : Int) == 48) = false := by rw [c49]; decide
          have b49 : ((s[k].toNat : Int) == 49) = true := by rw [c49]; decide
          go_wp2_with (first | (go_at_call 92; refine (spotX k q r X _ hq hr hX.out hkq.out).mono ?_; rintro e w' ⟨rfl, nq, rfl⟩) | (go_at_call 99; refine (fix49 (st s.data.toList k) k q r X _ hq hr hX.out hkq.out (by rw [st_len _ _ (by rw [hlen.out]; omega), hlen.out]; exact hlt) (st_get _ _ (by rw [hlen.out]; exact hlt))).mono ?_; rintro e w2 ⟨rfl, hb2⟩; have hblk2 := (hb2.block _ (by exact hlB)).trans hblk; obtain ⟨hcb2, hfb2⟩ := cells_block hblk2; unfold cubeV cv))
          exact ⟨⟨k + 1, by omega, by go_num, put9_set hlen.out hlt hblk2 c49, put9_below _ _ _ _ _ _ _ _ _ (hB.trans ((below_drewN _ nq wr).trans (hb2.mono (by exact Nat.le_of_lt hlB)))) (Nat.le_refl _), tri_succ hlt htri (.inr (.inl c49))⟩, by simp [intOf]; omega⟩
        · by_cases c120 : s[k] = 120
          · have b48 : ((s[k].toNat : Int) == 48) = false := by rw [c120]; decide
            have b49 : ((s[k].toNat : Int) == 49) = false := by rw [c120]; decide
            have b120 : ((s[k].toNat : Int) == 120) = true := by rw [c120]; decide
            go_wp2_with (go_at_call 92; refine (spotX k q r X _ hq hr hX.out hkq.out).mono ?_; rintro e w' ⟨rfl, nq, rfl⟩)
            have hst := st_skip s.data.toList k (by rw [hlen.out]; exact hlt) (by rw [byte_at s k hlt]; exact c120)
            exact ⟨⟨k + 1, by omega, by go_num, by rw [hst]; exact hblk, hB.trans (below_drewN _ nq wr), tri_succ hlt htri (.inr (.inr c120))⟩, by simp [intOf]; omega⟩
          · have b48 : ((s[k].toNat : Int) == 48) = false := ne_byte c48
            have b49 : ((s[k].toNat : Int) == 49) = false := ne_byte c49
            have b120 : ((s[k].toNat : Int) == 120) = false := ne_byte c120
            have hfin := parse_bad s k hlt h2 c48 c49 c120
            have hZ : Hid (refP s.data.toList = 10 ∧ cubeT s.data.toList = []) := hfin
            clear hfin
            have hcw : ∀ o, wr.cell? ⟨w.heap.size, o, none⟩ = w1.cell? ⟨w.heap.size, o, none⟩ := fun o => hB.cell (p := ⟨w.heap.size, o, none⟩) (by have := hb1.size; simp at this; show w.heap.size < _; omega)
            have hfw : ∀ o, wr.frozen? ⟨w.heap.size, o, none⟩ = w1.frozen? ⟨w.heap.size, o, none⟩ := fun o => hB.frozen (p := ⟨w.heap.size, o, none⟩) (by have := hb1.size; simp at this; show w.heap.size < _; omega)
            go_wp2_with (go_at_call 92; refine (spotX k q r X _ hq hr hX.out hkq.out).mono ?_; rintro e w' ⟨rfl, nq, rfl⟩)
            have hwb : (wr.drewN nq).heap[w.heap.size]? = some (.cells #[.int .i64 0, .int .u64 0, .int .u64 0, .int .u64 0, .int .u64 0, .int .u64 0, .int .u64 0, .int .u64 0, .int .u64 0] 74 (0, 0)) := by
              have e1 := hB.block w.heap.size (by have := hb1.size; simp at this; omega)
              have e2 := hb1.block w.heap.size (by simp)
              exact (e1.trans e2).trans (alloc_get _ _)
            refine bodyPost_ret (v := .tuple #[cv 0 0 0 0 0 0 0 0 0, .int .i64 10]) ?_ rfl ⟨?_, ?_⟩
            · exact res_cube2 _ _ w.heap.size 0 0 0 0 0 0 0 0 0 Tryz.results78 rfl (put9_get _ _ _ _ _ _ _ _ _ hwb)
            · rw [hZ.out.1, hZ.out.2, cubeV_nil]
            · exact put9_below _ _ _ _ _ _ _ _ _ (below3 hb1 hB nq) (Nat.le_refl _)
    · obtain ⟨hcb, hfb⟩ := cells_block hblk
      have hcw : ∀ o, wr.cell? ⟨w.heap.size, o, none⟩ = w1.cell? ⟨w.heap.size, o, none⟩ := fun o => hB.cell (p := ⟨w.heap.size, o, none⟩) (by have := hb1.size; simp at this; show w.heap.size < _; omega)
      have hfw : ∀ o, wr.frozen? ⟨w.heap.size, o, none⟩ = w1.frozen? ⟨w.heap.size, o, none⟩ := fun o => hB.frozen (p := ⟨w.heap.size, o, none⟩) (by have := hb1.size; simp at this; show w.heap.size < _; omega)
      have hkn : k = s.size := by omega
      have hall := parse_good s h1 h2 (fun j h => htri j h (by have : s.data.toList.length = s.size := by simp
                                                               omega))
      have hZ : Hid (refP s.data.toList = 0 ∧ cubeT s.data.toList = s.data.toList) := hall
      subst hkn
      clear hall htri
      have hwb : wr.heap[w.heap.size]? = some (.cells #[.int .i64 0, .int .u64 0, .int .u64 0, .int .u64 0, .int .u64 0, .int .u64 0, .int .u64 0, .int .u64 0, .int .u64 0] 74 (0, 0)) := by
        have e1 := hB.block w.heap.size (by have := hb1.size; simp at this; omega)
        have e2 := hb1.block w.heap.size (by simp)
        exact (e1.trans e2).trans (alloc_get _ _)
      go_wp2
      refine bodyPost_ret (v := .tuple #[cubeV (st s.data.toList s.size), .int .i64 0]) ?_ rfl ⟨?_, ?_⟩
      · exact res_cube2 _ _ w.heap.size _ _ _ _ _ _ _ _ _ Tryz.results78 rfl (put9_get _ _ _ _ _ _ _ _ _ hwb)
      · rw [hZ.out.1, hZ.out.2]
        have hlen : s.size = s.data.toList.length := by simp
        rw [hlen, st_all]
      · exact put9_below _ _ _ _ _ _ _ _ _ (below3 hb1 hB 0) (Nat.le_refl _)

theorem parse_any (s : ByteArray) (w : World) (hs : s.size ≤ maxLen) :
    Calls Tryz.prog 78 #[.string s] w fun e w' => e = .returned (.tuple #[cubeV (cubeT s.data.toList), .int .i64 (refP s.data.toList)]) ∧ Below w.heap.size w w' := by
  have hlen : s.data.toList.length = s.size := by simp
  by_cases h1 : 256 < s.size
  · refine (parse_long s w hs h1).mono ?_
    rintro e w' ⟨rfl, hb⟩
    have hz : refP s.data.toList = 2 := by unfold refP; rw [if_pos (by omega)]
    refine ⟨?_, hb⟩
    rw [cubeT_nil_iff _ (by rw [hz]; decide), hz, cubeV_nil]
  · by_cases h2 : s.size = 0
    · have hz0 : s.data.toList = [] := List.eq_nil_of_length_eq_zero (by omega)
      refine (parse_none s w (by rw [ByteArray.toList_eq]; exact hz0)).mono ?_
      rintro e w' ⟨rfl, hb⟩
      refine ⟨?_, hb⟩
      rw [hz0]
      have hz : refP [] = 10 := by decide
      rw [cubeT_nil_iff _ (by rw [hz]; decide), hz, cubeV_nil]
    · exact parse_loop s w (by omega) (by omega)
end Go.Proofs.YtnobpeghofoniaaGreatDoor.Tn
namespace Go.Proofs.YtnobpeghofoniaaGreatDoor.Tn
open Go.RowKit

theorem cells_u64 : Tryz.prog.cellsOf 70 = 1 := by kernel_rfl
theorem info_u64 : (Tryz.prog.info? 70).map (fun i => (i.zero, i.size, i.bytes)) = some (some (.int .u64 0), 1, 8) := by kernel_rfl

theorem arr_eq (d : Nat) (a0 a1 a2 a3 b0 b1 b2 b3 : Int) (w : World) :
    (Op.equalIn (d + 2) 72 (.agg #[.int .u64 a0, .int .u64 a1, .int .u64 a2, .int .u64 a3]) (.agg #[.int .u64 b0, .int .u64 b1, .int .u64 b2, .int .u64 b3])).run Tryz.prog w = .ok (a0 == b0 && (a1 == b1 && (a2 == b2 && (a3 == b3)))) w := by
  obtain ⟨i0, hi, _, _, _⟩ := info_parts info_u64
  rw [run_equalIn_array w (d + 1) _ _ Tryz.underlying72 hi, cells_u64]
  have hr : List.range 4 = [0, 1, 2, 3] := by decide
  rw [hr]
  simp [Op.eqItems, go_sem]
  by_cases h0 : a0 = b0 <;> by_cases h1 : a1 = b1 <;> by_cases h2 : a2 = b2 <;> by_cases h3 : a3 = b3 <;> simp [h0, h1, h2, h3]

theorem cub_eq (n a0 a1 a2 a3 c0 c1 c2 c3 m b0 b1 b2 b3 d0 d1 d2 d3 : Int) (w : World) :
    (Op.equalIn 10000 74 (.agg #[.int .i64 n, .int .u64 a0, .int .u64 a1, .int .u64 a2, .int .u64 a3, .int .u64 c0, .int .u64 c1, .int .u64 c2, .int .u64 c3]) (.agg #[.int .i64 m, .int .u64 b0, .int .u64 b1, .int .u64 b2, .int .u64 b3, .int .u64 d0, .int .u64 d1, .int .u64 d2, .int .u64 d3])).run Tryz.prog w
      = .ok (n == m && ((a0 == b0 && (a1 == b1 && (a2 == b2 && (a3 == b3)))) && (c0 == d0 && (c1 == d1 && (c2 == d2 && (c3 == d3)))))) w := by
  have hA := fun w => arr_eq 9997 a0 a1 a2 a3 b0 b1 b2 b3 w
  have hC := fun w => arr_eq 9997 c0 c1 c2 c3 d0 d1 d2 d3 w
  generalize (a0 == b0 && (a1 == b1 && (a2 == b2 && (a3 == b3)))) = A at hA ⊢
  generalize (c0 == d0 && (c1 == d1 && (c2 == d2 && (c3 == d3)))) = C at hC ⊢
  rw [show 10000 = (9997 + 2) + 1 from rfl, run_equalIn_agg w (9997 + 2) _ _ _ (by kernel_rfl) (by kernel_rfl)]
  by_cases hn : n = m
  · subst hn
    cases A <;> cases C <;> simp [Op.eqFields, go_sem, hA, hC]
  · simp [Op.eqFields, go_sem, hn]

theorem bool9 (a b c d e f g h i : Bool) : (a && ((b && (c && (d && e))) && (f && (g && (h && i))))) = (a && b && c && d && e && f && g && h && i) := by
  cases a <;> cases b <;> cases c <;> cases d <;> cases e <;> simp [Bool.and_assoc]

theorem eql_cube (a b : List UInt8) (ha : good a = true) (hb : good b = true) (w : World) :
    (Op.equalIn 10000 74 (.agg #[.int .i64 (a.length : Int), .int .u64 (FW a 0 : Int), .int .u64 (FW a 1 : Int), .int .u64 (FW a 2 : Int), .int .u64 (FW a 3 : Int), .int .u64 (OW a 0 : Int), .int .u64 (OW a 1 : Int), .int .u64 (OW a 2 : Int), .int .u64 (OW a 3 : Int)]) (.agg #[.int .i64 (b.length : Int), .int .u64 (FW b 0 : Int), .int .u64 (FW b 1 : Int), .int .u64 (FW b 2 : Int), .int .u64 (FW b 3 : Int), .int .u64 (OW b 0 : Int), .int .u64 (OW b 1 : Int), .int .u64 (OW b 2 : Int), .int .u64 (OW b 3 : Int)])).run Tryz.prog w = .ok (a == b) w := by
  rw [cub_eq, ← wordsEq_eq a b ha hb, bool9]; rfl

/-- against the zero value as it is written down -/
theorem eql_zero (a : List UInt8) (ha : good a = true) (w : World) :
    (Op.equalIn 10000 74 (.agg #[.int .i64 (a.length : Int), .int .u64 (FW a 0 : Int), .int .u64 (FW a 1 : Int), .int .u64 (FW a 2 : Int), .int .u64 (FW a 3 : Int), .int .u64 (OW a 0 : Int), .int .u64 (OW a 1 : Int), .int .u64 (OW a 2 : Int), .int .u64 (OW a 3 : Int)]) (.agg #[.int .i64 0, .int .u64 0, .int .u64 0, .int .u64 0, .int .u64 0, .int .u64 0, .int .u64 0, .int .u64 0, .int .u64 0])).run Tryz.prog w = .ok (a.isEmpty) w := by
  have h := eql_cube a [] ha good_nil w
  have e : (a == []) = a.isEmpty := by cases a <;> rfl
  rw [e] at h
  have e2 : (#[.int .i64 (([] : List UInt8).length : Int), .int .u64 (FW [] 0 : Int), .int .u64 (FW [] 1 : Int), .int .u64 (FW [] 2 : Int), .int .u64 (FW [] 3 : Int), .int .u64 (OW [] 0 : Int), .int .u64 (OW [] 1 : Int), .int .u64 (OW [] 2 : Int), .int .u64 (OW [] 3 : Int)] : Array Value) = #[.int .i64 0, .int .u64 0, .int .u64 0, .int .u64 0, .int .u64 0, .int .u64 0, .int .u64 0, .int .u64 0, .int .u64 0] := by
    have := cubeV_nil
    unfold cubeV cv at this
    simp only [Value.agg.injEq] at this
    exact this
  rw [e2] at h
  exact h

theorem bel1 {w w1 : World} {o : Obj} (h : Below (w.alloc o).heap.size (w.alloc o) w1) : Below w.heap.size w w1 :=
  ((Below.refl _ _).alloc (Nat.le_refl _) _).trans (h.mono (by simp))
theorem belA {w w1 : World} (h : Below w.heap.size w w1) (o : Obj) : Below w.heap.size w (w1.alloc o) := h.alloc h.size o
theorem bel0 {w w1 w2 : World} (h : Below w.heap.size w w1) (h2 : Below w1.heap.size w1 w2) : Below w.heap.size w w2 := h.trans (h2.mono h.size)
theorem bel2 {w w1 w2 : World} {o : Obj} (h : Below w.heap.size w w1) (h2 : Below (w1.alloc o).heap.size (w1.alloc o) w2) : Below w.heap.size w w2 := bel0 h (bel1 h2)

theorem parse_D (s : ByteArray) (w : World) (hs : s.size ≤ maxLen) (D : List UInt8) (E : Int) (hD : cubeT s.data.toList = D) (hE : refP s.data.toList = E) :
    Calls Tryz.prog 78 #[.string s] w fun e w' => e = .returned (.tuple #[cubeV D, .int .i64 E]) ∧ Below w.heap.size w w' := by
  subst hD hE; exact parse_any s w hs

end Go.Proofs.YtnobpeghofoniaaGreatDoor.Tn
namespace Go.Proofs.YtnobpeghofoniaaGreatDoor.Tn

/-- p holds at every place below n -/
def allTo (p : Nat → Bool) : Nat → Bool
  | 0 => true
  | k + 1 => allTo p k && p k

theorem allTo_iff (p : Nat → Bool) (n : Nat) : allTo p n = true ↔ ∀ k, k < n → p k = true := by
  induction n with
  | zero => simp [allTo]
  | succ n ih =>
    simp only [allTo, Bool.and_eq_true, ih]
    constructor
    · rintro ⟨h1, h2⟩ k hk
      by_cases e : k = n
      · subst e; exact h2
      · exact h1 k (by omega)
    · intro h
      exact ⟨fun k hk => h k (by omega), h n (by omega)⟩

theorem allTo_false {p : Nat → Bool} {n : Nat} (k : Nat) (hk : k < n) (h : p k = false) : allTo p n = false := by
  rw [Bool.eq_false_iff]
  intro e
  rw [allTo_iff] at e
  rw [e k hk] at h
  cases h

theorem allTo_congr {p q : Nat → Bool} {n : Nat} (h : ∀ k, k < n → p k = q k) : allTo p n = allTo q n := by
  rw [Bool.eq_iff_iff, allTo_iff, allTo_iff]
  constructor
  · intro e k hk; rw [← h k hk]; exact e k hk
  · intro e k hk; rw [h k hk]; exact e k hk

/-- at place k one has 0 and the other 1 -/
def cfl (a b : List UInt8) (k : Nat) : Bool := fx a k && fx b k && (on a k ^^ on b k)
/-- the words that agrees looks at -/
def cw (a b : List UInt8) (w : Nat) : Bool := bits .and .u64 (bits .and .u64 (FW a w : Int) (FW b w : Int)) (bits .xor .u64 (OW a w : Int) (OW b w : Int)) != 0

theorem xor_lt {a b : Nat} (ha : a < 18446744073709551616) (hb : b < 18446744073709551616) : a ^^^ b < 18446744073709551616 := Nat.xor_lt_two_pow (n := 64) ha hb
theorem and_lt {a : Nat} (b : Nat) (ha : a < 18446744073709551616) : a &&& b < 18446744073709551616 := Nat.lt_of_le_of_lt Nat.and_le_left ha
theorem or_lt {a b : Nat} (ha : a < 18446744073709551616) (hb : b < 18446744073709551616) : a ||| b < 18446744073709551616 := Nat.or_lt_two_pow (n := 64) ha hb

theorem cw_false (a b : List UInt8) (w : Nat) : cw a b w = false ↔ ∀ i, i < 64 → cfl a b (64 * w + i) = false := by
  unfold cw
  rw [u64_and_nat _ _ (FW_lt _ _) (FW_lt _ _), u64_xor_nat _ _ (OW_lt _ _) (OW_lt _ _), u64_and_nat _ _ (and_lt _ (FW_lt _ _)) (xor_lt (OW_lt _ _) (OW_lt _ _))]
  have hbit : ∀ i, (FW a w &&& FW b w &&& (OW a w ^^^ OW b w)).testBit i = (decide (i < 64) && cfl a b (64 * w + i)) := by
    intro i
    rw [Nat.testBit_and, Nat.testBit_and, Nat.testBit_xor, FW_bit, FW_bit, OW_bit, OW_bit]
    unfold cfl
    by_cases hi : i < 64 <;> simp [hi]
  generalize FW a w &&& FW b w &&& (OW a w ^^^ OW b w) = x at hbit ⊢
  constructor
  · intro h i hi
    have hx : x = 0 := by
      rw [bne_eq_false_iff_eq] at h
      omega
    have := hbit i
    rw [hx] at this
    simp [hi] at this
    exact this.symm ▸ rfl
  · intro h
    have hx : x = 0 := by
      apply Nat.eq_of_testBit_eq
      intro i
      rw [hbit i, Nat.zero_testBit]
      by_cases hi : i < 64
      · rw [h i hi]; simp
      · simp [hi]
    rw [hx]; rfl

/-- two cubes that fit -/
def fitB (a b : List UInt8) : Bool := !a.isEmpty && (a.length == b.length)
/-- they fit and nowhere one has 0 and the other 1 -/
def agB (a b : List UInt8) : Bool := fitB a b && allTo (fun k => !cfl a b k) a.length

theorem cfl_out (a b : List UInt8) (k : Nat) (h : a.length ≤ k) : cfl a b k = false := by
  unfold cfl fx
  rw [List.getElem?_eq_none h]; simp

theorem ag_words (a b : List UInt8) (ha : good a = true) : allTo (fun k => !cfl a b k) a.length = (!cw a b 0 && !cw a b 1 && !cw a b 2 && !cw a b 3) := by
  have hl := good_len ha
  rw [Bool.eq_iff_iff, allTo_iff]
  simp only [Bool.and_eq_true, Bool.not_eq_true', cw_false]
  constructor
  · intro h
    have g : ∀ k, cfl a b k = false := by
      intro k
      by_cases hk : k < a.length
      · exact h k hk
      · exact cfl_out a b k (by omega)
    exact ⟨⟨⟨fun i _ => g _, fun i _ => g _⟩, fun i _ => g _⟩, fun i _ => g _⟩
  · rintro ⟨⟨⟨h0, h1⟩, h2⟩, h3⟩ k hk
    have hk4 : k / 64 < 4 := by omega
    have e : k = 64 * (k / 64) + k % 64 := by omega
    have hm : k % 64 < 64 := by omega
    rcases (show k / 64 = 0 ∨ k / 64 = 1 ∨ k / 64 = 2 ∨ k / 64 = 3 by omega) with q | q | q | q <;> rw [q] at e <;> rw [e]
    · exact h0 _ hm
    · exact h1 _ hm
    · exact h2 _ hm
    · exact h3 _ hm

/-- P1.5: the text of what two cubes have in common -/
def meetT (a b : List UInt8) : List UInt8 := List.zipWith (fun x y => if x == 120 then y else x) a b

theorem fitB_len {a b : List UInt8} (h : fitB a b = true) : a.length = b.length := by simp [fitB] at h; exact h.2
theorem agB_fit {a b : List UInt8} (h : agB a b = true) : fitB a b = true := by simp [agB] at h; exact h.1
theorem agB_cfl {a b : List UInt8} (h : agB a b = true) (k : Nat) : cfl a b k = false := by
  by_cases hk : k < a.length
  · simp only [agB, Bool.and_eq_true, allTo_iff] at h
    simpa using h.2 k hk
  · exact cfl_out a b k (by omega)

theorem meetT_len (a b : List UInt8) (h : a.length = b.length) : (meetT a b).length = a.length := by simp [meetT]; omega
theorem meetT_get (a b : List UInt8) (h : a.length = b.length) (k : Nat) (hk : k < a.length) : (meetT a b)[k]? = some (if a[k] == 120 then b[k]'(by omega) else a[k]) := by
  unfold meetT
  rw [List.getElem?_zipWith, List.getElem?_eq_getElem hk, List.getElem?_eq_getElem (show k < b.length by omega)]

theorem fx_meet (a b : List UInt8) (h : a.length = b.length) (k : Nat) : fx (meetT a b) k = (fx a k || fx b k) := by
  by_cases hk : k < a.length
  · have hb : k < b.length := by omega
    simp only [fx, meetT_get a b h k hk, List.getElem?_eq_getElem hk, List.getElem?_eq_getElem hb]
    generalize a[k] = x
    generalize b[k] = y
    by_cases e : x = 120 <;> simp [e]
  · simp only [fx]
    rw [List.getElem?_eq_none (by rw [meetT_len a b h]; omega), List.getElem?_eq_none (by omega), List.getElem?_eq_none (by omega)]; rfl

theorem on_meet (a b : List UInt8) (h : a.length = b.length) (k : Nat) (hc : cfl a b k = false) : on (meetT a b) k = (on a k || on b k) := by
  by_cases hk : k < a.length
  · have hb : k < b.length := by omega
    simp only [cfl, fx, on, meetT_get a b h k hk, List.getElem?_eq_getElem hk, List.getElem?_eq_getElem hb] at hc ⊢
    generalize a[k] = x at *
    generalize b[k] = y at *
    by_cases e : x = 120
    · subst e; simp
    · by_cases e2 : y = 120
      · subst e2; simp [e]
      · simp [e, e2] at hc ⊢
        by_cases e3 : x = 49 <;> by_cases e4 : y = 49 <;> simp_all
  · simp only [on]
    rw [List.getElem?_eq_none (by rw [meetT_len a b h]; omega), List.getElem?_eq_none (by omega), List.getElem?_eq_none (by omega)]; rfl

theorem FW_meet (a b : List UInt8) (h : a.length = b.length) (w : Nat) : bits .or .u64 (FW a w : Int) (FW b w : Int) = (FW (meetT a b) w : Nat) := by
  rw [u64_or_nat _ _ (FW_lt _ _) (FW_lt _ _)]
  congr 1
  apply Nat.eq_of_testBit_eq
  intro i
  rw [Nat.testBit_or, FW_bit, FW_bit, FW_bit, fx_meet a b h]
  by_cases hi : i < 64 <;> simp [hi]
theorem OW_meet (a b : List UInt8) (h : a.length = b.length) (hc : ∀ k, cfl a b k = false) (w : Nat) : bits .or .u64 (OW a w : Int) (OW b w : Int) = (OW (meetT a b) w : Nat) := by
  rw [u64_or_nat _ _ (OW_lt _ _) (OW_lt _ _)]
  congr 1
  apply Nat.eq_of_testBit_eq
  intro i
  rw [Nat.testBit_or, OW_bit, OW_bit, OW_bit, on_meet a b h _ (hc _)]
  by_cases hi : i < 64 <;> simp [hi]

theorem good_zip (f : UInt8 → UInt8 → UInt8) (a b : List UInt8) (ha : good a = true) (hb : good b = true) (hf : ∀ x y, tri x = true → tri y = true → tri (f x y) = true) : good (List.zipWith f a b) = true := by
  have h1 := good_len ha
  simp only [good, Bool.and_eq_true, decide_eq_true_eq, List.all_eq_true]
  refine ⟨by simp; omega, ?_⟩
  intro x hx
  obtain ⟨k, hk, rfl⟩ := List.getElem_of_mem hx
  simp at hk
  rw [List.getElem_zipWith]
  exact hf _ _ (good_tri ha k (by omega)) (good_tri hb k (by omega))

theorem good_meet (a b : List UInt8) (ha : good a = true) (hb : good b = true) : good (meetT a b) = true :=
  good_zip _ a b ha hb (fun x y hx hy => by split <;> assumption)

/-- what Meet answers -/
def mtT (a b : List UInt8) : List UInt8 := if agB a b = true then meetT a b else []
theorem good_mtT (a b : List UInt8) (ha : good a = true) (hb : good b = true) : good (mtT a b) = true := by
  unfold mtT; split
  · exact good_meet a b ha hb
  · exact good_nil

/-- P1.6 -/
def wiB (a b : List UInt8) : Bool := fitB a b && allTo (fun k => match a[k]?, b[k]? with | some x, some y => y == 120 || x == y | _, _ => true) a.length

end Go.Proofs.YtnobpeghofoniaaGreatDoor.Tn
namespace Go.Proofs.YtnobpeghofoniaaGreatDoor.Tn
open Go.RowKit

theorem alloc_get2 (w : World) (o1 o2 o3 : Obj) : (((w.alloc o1).alloc o2).alloc o3).heap[w.heap.size + 2]? = some o3 := by
  have := alloc_get ((w.alloc o1).alloc o2) o3
  simpa using this

set_option maxHeartbeats 400000 in
theorem fits_any (a b : List UInt8) (w : World) : Calls Tryz.prog 138 #[cubeV a, cubeV b] w fun e w' => e = .returned (.bool (fitB a b)) ∧ Below w.heap.size w w' := by
  have hfin : Hid (fitB a b = (((a.length : Int) != 0) && ((a.length : Int) == (b.length : Int)))) := by
    unfold Hid fitB
    cases a with
    | nil => simp
    | cons x l =>
      rw [Bool.eq_iff_iff]
      simp
      omega
  unfold cubeV cv
  cases h0 : ((a.length : Int) != 0)
  all_goals
    go_enter Tryz.func138, Tryz.ntmps138
    go_wp2
    go_ret
    refine ⟨?_, ((Below.refl _ _).alloc (Nat.le_refl _) _).alloc (by simp) _⟩
    rw [hfin.out, h0]
    rfl

theorem fits_D (a b : List UInt8) (q : Bool) (w : World) (h : fitB a b = q) : Calls Tryz.prog 138 #[cubeV a, cubeV b] w fun e w' => e = .returned (.bool q) ∧ Below w.heap.size w w' := by
  subst h; exact fits_any a b w

set_option maxHeartbeats 1000000 in
theorem agrees_walk (a b : List UInt8) (q q0 q1 q2 q3 : Bool) (w : World) (hq0 : fitB a b = q) (h0 : cw a b 0 = q0) (h1 : cw a b 1 = q1) (h2 : cw a b 2 = q2) (h3 : cw a b 3 = q3) :
    Calls Tryz.prog 123 #[cubeV a, cubeV b] w fun e w' => e = .returned (.bool (q && (!q0 && !q1 && !q2 && !q3))) ∧ Below w.heap.size w w' := by
  have hq : Hid (fitB a b = q) := hq0
  clear hq0
  unfold cw at h0 h1 h2 h3
  unfold cubeV cv
  cases q
  · go_enter Tryz.func123, Tryz.ntmps123
    go_wp2_with (go_at_call 138; refine (fits_D a b false _ hq.out).mono ?_; rintro e w1 ⟨rfl, hb1⟩)
    go_ret
    exact ⟨rfl, bel1 (bel1 hb1)⟩
  · go_enter Tryz.func123, Tryz.ntmps123
    go_wp2_with (go_at_call 138; refine (fits_D a b true _ hq.out).mono ?_; rintro e w1 ⟨rfl, hb1⟩; obtain ⟨hc1, hf1⟩ := bcell hb1)
    refine wp_loop_rounds 5 ?_
    rw [rounds_succ]
    go_wp2
    go_quiet (fail)
    cases q0
    rotate_left
    · go_wp2
      go_ret
      exact ⟨rfl, by first | exact (bel1 (bel1 hb1)).trans (below_drewN _ _ _) | exact ((bel1 (bel1 hb1)).trans (below_drewN _ _ _)).trans (below_drewN _ _ _)⟩
    go_wp2
    rw [rounds_succ]
    go_wp2
    go_quiet (fail)
    cases q1
    rotate_left
    · go_wp2
      go_ret
      exact ⟨rfl, by first | exact (bel1 (bel1 hb1)).trans (below_drewN _ _ _) | exact ((bel1 (bel1 hb1)).trans (below_drewN _ _ _)).trans (below_drewN _ _ _)⟩
    go_wp2
    rw [rounds_succ]
    go_wp2
    go_quiet (fail)
    cases q2
    rotate_left
    · go_wp2
      go_ret
      exact ⟨rfl, by first | exact (bel1 (bel1 hb1)).trans (below_drewN _ _ _) | exact ((bel1 (bel1 hb1)).trans (below_drewN _ _ _)).trans (below_drewN _ _ _)⟩
    go_wp2
    rw [rounds_succ]
    go_wp2
    go_quiet (fail)
    cases q3
    rotate_left
    · go_wp2
      go_ret
      exact ⟨rfl, by first | exact (bel1 (bel1 hb1)).trans (below_drewN _ _ _) | exact ((bel1 (bel1 hb1)).trans (below_drewN _ _ _)).trans (below_drewN _ _ _)⟩
    go_wp2
    rw [rounds_succ]
    go_wp2
    go_ret
    exact ⟨rfl, (bel1 (bel1 hb1)).trans (below_drewN _ _ _)⟩

theorem agrees_any (a b : List UInt8) (w : World) (ha : good a = true) : Calls Tryz.prog 123 #[cubeV a, cubeV b] w fun e w' => e = .returned (.bool (agB a b)) ∧ Below w.heap.size w w' := by
  refine (agrees_walk a b _ _ _ _ _ w rfl rfl rfl rfl rfl).mono ?_
  rintro e w' ⟨rfl, hb⟩
  exact ⟨by unfold agB; rw [ag_words a b ha], hb⟩

theorem agrees_D (a b : List UInt8) (q : Bool) (w : World) (ha : good a = true) (h : agB a b = q) : Calls Tryz.prog 123 #[cubeV a, cubeV b] w fun e w' => e = .returned (.bool q) ∧ Below w.heap.size w w' := by
  subst h; exact agrees_any a b w ha

end Go.Proofs.YtnobpeghofoniaaGreatDoor.Tn
namespace Go.Proofs.YtnobpeghofoniaaGreatDoor.Tn
open Go.RowKit

/-- word j behind k rounds -/
def mxi (k j : Nat) (x y : Int) : Int := if j < k then y else x

theorem set2_0 {W : World} {b T : Nat} {m : Nat × Nat} {x0 x1 x2 x3 x4 x5 x6 x7 x8 : Value} (u v : Value) (h : W.heap[b]? = some (.cells #[x0, x1, x2, x3, x4, x5, x6, x7, x8] T m)) :
    ((W.setCell ⟨b, 1, none⟩ u).setCell ⟨b, 5, none⟩ v).heap[b]? = some (.cells #[x0, u, x2, x3, x4, v, x6, x7, x8] T m) := by
  have h0 := set_get (j := 1) u h
  have h1 := set_get (j := 5) v h0
  rw [h1]; simp

theorem set2_1 {W : World} {b T : Nat} {m : Nat × Nat} {x0 x1 x2 x3 x4 x5 x6 x7 x8 : Value} (u v : Value) (h : W.heap[b]? = some (.cells #[x0, x1, x2, x3, x4, x5, x6, x7, x8] T m)) :
    ((W.setCell ⟨b, 2, none⟩ u).setCell ⟨b, 6, none⟩ v).heap[b]? = some (.cells #[x0, x1, u, x3, x4, x5, v, x7, x8] T m) := by
  have h0 := set_get (j := 2) u h
  have h1 := set_get (j := 6) v h0
  rw [h1]; simp

theorem set2_2 {W : World} {b T : Nat} {m : Nat × Nat} {x0 x1 x2 x3 x4 x5 x6 x7 x8 : Value} (u v : Value) (h : W.heap[b]? = some (.cells #[x0, x1, x2, x3, x4, x5, x6, x7, x8] T m)) :
    ((W.setCell ⟨b, 3, none⟩ u).setCell ⟨b, 7, none⟩ v).heap[b]? = some (.cells #[x0, x1, x2, u, x4, x5, x6, v, x8] T m) := by
  have h0 := set_get (j := 3) u h
  have h1 := set_get (j := 7) v h0
  rw [h1]; simp

theorem set2_3 {W : World} {b T : Nat} {m : Nat × Nat} {x0 x1 x2 x3 x4 x5 x6 x7 x8 : Value} (u v : Value) (h : W.heap[b]? = some (.cells #[x0, x1, x2, x3, x4, x5, x6, x7, x8] T m)) :
    ((W.setCell ⟨b, 4, none⟩ u).setCell ⟨b, 8, none⟩ v).heap[b]? = some (.cells #[x0, x1, x2, x3, u, x5, x6, x7, v] T m) := by
  have h0 := set_get (j := 4) u h
  have h1 := set_get (j := 8) v h0
  rw [h1]; simp

theorem set2_ne {W : World} {a1 a2 : Addr} {c : Nat} {o : Obj} (u v : Value) (h1 : c ≠ a1.block) (h2 : c ≠ a2.block) (h : W.heap[c]? = some o) : ((W.setCell a1 u).setCell a2 v).heap[c]? = some o := by
  rw [Below.heap_setCell _ _ _ _ h2, Below.heap_setCell _ _ _ _ h1]; exact h

theorem alloc3_0 (w : World) (o1 o2 o3 : Obj) : (((w.alloc o1).alloc o2).alloc o3).heap[w.heap.size]? = some o1 := by
  rw [Below.heap_alloc _ _ _ (by simp; omega), Below.heap_alloc _ _ _ (by simp)]
  exact alloc_get _ _
theorem alloc3_1 (w : World) (o1 o2 o3 : Obj) : (((w.alloc o1).alloc o2).alloc o3).heap[w.heap.size + 1]? = some o2 := by
  rw [Below.heap_alloc _ _ _ (by simp)]
  have := alloc_get (w.alloc o1) o2
  simpa using this

end Go.Proofs.YtnobpeghofoniaaGreatDoor.Tn
namespace Go.Proofs.YtnobpeghofoniaaGreatDoor.Tn
open Go.RowKit

theorem conv_any (W : World) (B : Nat) (v : Value) (t : List UInt8) (hown : W.ownsRow B 5 1 v t.length (bys t)) :
    (convert 32 9 v).run Tryz.prog W = .ok (.string ⟨t.toArray⟩) W := by
  have h0 := hown
  obtain ⟨_, h2⟩ := hown
  rcases h2 with ⟨rfl, h2⟩ | ⟨g, cap, cur, rfl, h2⟩
  · have hz : t = [] := List.eq_nil_of_length_eq_zero (by simpa using h2)
    subst hz
    exact run_convert_bytes_nil W _ 5 Tryz.underlying32 Tryz.underlying5 _ _ _ Tryz.underlying9
  · exact conv_owned W B g cap t h0

theorem bel_app {w wr w1 : World} {o : Obj} {e : TypeId} {size : Nat} {v : Value} {n : Nat} {xs : List Value} (hB : Below w.heap.size w wr) (hown : wr.ownsRow w.heap.size e size v n xs) (hg : (wr.alloc o).grownBy w1 v.ownBlock) : Below w.heap.size w w1 :=
  (belA hB o).grown hg (belA hB o).size (fun k h => (hown.lt k h).1)

theorem bys_snoc (t : List UInt8) (b : UInt8) : bys t ++ [.int .u8 (b.toNat : Int)] = bys (t ++ [b]) := by simp [bys]

/-- the text of All -/
def allT (n : Int) : List UInt8 := if 1 ≤ n ∧ n ≤ 256 then List.replicate n.toNat 120 else []
theorem good_allT (n : Int) : good (allT n) = true := by
  unfold allT
  split
  · exact good_replicate _ (by omega)
  · exact good_nil
theorem allT_len (n : Int) : (allT n).length ≤ 256 := good_len (good_allT n)

theorem allV (n : Int) (w : World) : Calls Tryz.prog 33 #[.int .i64 n] w fun e w' => e = .returned (cubeV (allT n)) ∧ Below w.heap.size w w' := all_any n w

end Go.Proofs.YtnobpeghofoniaaGreatDoor.Tn
namespace Go.Proofs.YtnobpeghofoniaaGreatDoor.Tn
open Go.RowKit
theorem ne_byte' {b : UInt8} {n : Nat} (h : b ≠ UInt8.ofNat n) : ((b.toNat : Int) != ((n : Nat) : Int)) = true := by
  have := ne_byte h
  unfold bne
  rw [this]; rfl

theorem toList_str (s : ByteArray) : (⟨s.data.toList.toArray⟩ : ByteArray) = s := by
  obtain ⟨l⟩ := s; simp

end Go.Proofs.YtnobpeghofoniaaGreatDoor.Tn
namespace Go.Proofs.YtnobpeghofoniaaGreatDoor.Tn
open Go.RowKit
theorem res_put2 {fn : Func} {p u : Tmp} {m : Nat × Nat} {x0 x1 x2 x3 x4 x5 x6 x7 x8 : Value} (tmps : Array Value) (W : World) (b : Nat) (n a1 a2 a3 a4 o1 o2 o3 o4 : Int) (hr : fn.results = #[.cell p 74, .tmp u]) (hp : tmps.getD p undef = .pointer (some ⟨b, 0, none⟩))
    (h : W.heap[b]? = some (.cells #[x0, x1, x2, x3, x4, x5, x6, x7, x8] 74 m)) :
    (results fn tmps).run Tryz.prog (put9 W b (.int .i64 n) (.int .u64 a1) (.int .u64 a2) (.int .u64 a3) (.int .u64 a4) (.int .u64 o1) (.int .u64 o2) (.int .u64 o3) (.int .u64 o4)).drew
      = .ok (.tuple #[cv n a1 a2 a3 a4 o1 o2 o3 o4, tmps.getD u undef]) (put9 W b (.int .i64 n) (.int .u64 a1) (.int .u64 a2) (.int .u64 a3) (.int .u64 a4) (.int .u64 o1) (.int .u64 o2) (.int .u64 o3) (.int .u64 o4)).drew := by
  have hg := put9_get (.int .i64 n) (.int .u64 a1) (.int .u64 a2) (.int .u64 a3) (.int .u64 a4) (.int .u64 o1) (.int .u64 o2) (.int .u64 o3) (.int .u64 o4) h
  generalize put9 W b (.int .i64 n) (.int .u64 a1) (.int .u64 a2) (.int .u64 a3) (.int .u64 a4) (.int .u64 o1) (.int .u64 o2) (.int .u64 o3) (.int .u64 o4) = V at hg ⊢
  exact res_cube2 tmps V.drew b n a1 a2 a3 a4 o1 o2 o3 o4 hr hp hg

theorem undrew {B : Nat} {a w : World} (h : Below B a.drew w) : Below B a w := ⟨h.os, h.tape, h.output, h.size, h.block⟩
theorem blk_keep {w w1 w2 : World} {o O : Obj} (hb1 : Below (w.alloc o).heap.size (w.alloc o) w1) (hb2 : Below (w1.alloc O).heap.size (w1.alloc O) w2) : w2.heap[w.heap.size]? = some o := by
  have hz : w.heap.size < w1.heap.size := by have := hb1.size; simp at this; omega
  rw [hb2.block _ (by simp; omega), Below.heap_alloc _ _ _ hz, hb1.block _ (by simp)]
  exact alloc_get _ _

end Go.Proofs.YtnobpeghofoniaaGreatDoor.Tn
namespace Go.Proofs.YtnobpeghofoniaaGreatDoor.Tn
open Go.RowKit
theorem wi_eq (a b : List UInt8) (ha : good a = true) (hb : good b = true) : (agB a b && (mtT a b == a)) = wiB a b := by
  unfold wiB mtT
  cases hf : fitB a b
  · have : agB a b = false := by unfold agB; rw [hf]; rfl
    rw [this]; rfl
  · have hl := fitB_len hf
    rw [Bool.true_and, Bool.eq_iff_iff, allTo_iff]
    constructor
    · intro h k hk
      simp only [Bool.and_eq_true] at h
      rw [if_pos h.1, beq_iff_eq] at h
      have hm := meetT_get a b hl k hk
      rw [h.2, List.getElem?_eq_getElem hk] at hm
      have hc := agB_cfl h.1 k
      have hkb : k < b.length := by omega
      have ta := good_tri ha k hk
      have tb := good_tri hb k hkb
      simp only [cfl, fx, on, List.getElem?_eq_getElem hk, List.getElem?_eq_getElem hkb] at hc ⊢
      generalize a[k] = x at *
      generalize b[k] = y at *
      simp [tri] at ta tb
      rcases ta with (rfl | rfl) | rfl <;> rcases tb with (rfl | rfl) | rfl <;> simp_all
    · intro h
      have hag : agB a b = true := by
        unfold agB
        rw [hf, Bool.true_and, allTo_iff]
        intro k hk
        have hkb : k < b.length := by omega
        have hh := h k hk
        simp only [cfl, fx, on, List.getElem?_eq_getElem hk, List.getElem?_eq_getElem hkb] at hh ⊢
        generalize a[k] = x at *
        generalize b[k] = y at *
        simp at hh
        rcases hh with rfl | rfl <;> simp
      rw [hag, Bool.true_and, if_pos rfl, beq_iff_eq]
      apply List.ext_getElem?
      intro k
      by_cases hk : k < a.length
      · have hkb : k < b.length := by omega
        have hh := h k hk
        rw [meetT_get a b hl k hk, List.getElem?_eq_getElem hk]
        simp only [List.getElem?_eq_getElem hk, List.getElem?_eq_getElem hkb] at hh
        generalize a[k] = x at *
        generalize b[k] = y at *
        simp at hh
        rcases hh with rfl | rfl <;> by_cases e : x = 120 <;> simp [e]
      · rw [List.getElem?_eq_none (by rw [meetT_len a b hl]; omega), List.getElem?_eq_none (by omega)]

end Go.Proofs.YtnobpeghofoniaaGreatDoor.Tn
namespace Go.Proofs.YtnobpeghofoniaaGreatDoor.Tn
open Go.RowKit

theorem keepblk {W w' : World} {b : Nat} {o : Obj} (hb : Below W.heap.size W w') (h : W.heap[b]? = some o) : w'.heap[b]? = some o := (hb.block b (lt_of_get h)).trans h
theorem allocblk {W : World} {b : Nat} {o : Obj} (h : W.heap[b]? = some o) (O : Obj) : (W.alloc O).heap[b]? = some o := (Below.heap_alloc _ _ _ (lt_of_get h)).trans h

/-- the text is one of a cube -/
def cubB (t : List UInt8) : Bool := t.all tri && (decide (0 < t.length) && decide (t.length ≤ 256))
theorem cubB_iff (t : List UInt8) : cubB t = true ↔ (t ≠ [] ∧ good t = true) := by
  unfold cubB good
  simp only [Bool.and_eq_true, decide_eq_true_eq]
  constructor
  · rintro ⟨h1, h2, h3⟩
    exact ⟨fun e => by subst e; simp at h2, h3, h1⟩
  · rintro ⟨h1, h2, h3⟩
    exact ⟨h3, List.length_pos_iff.2 h1, h2⟩

theorem nat_ne {b : UInt8} {n : Nat} (h : b ≠ UInt8.ofNat n) : (b.toNat : Int) ≠ (n : Int) := by
  intro e
  have e2 : b.toNat = n := by omega
  apply h
  rw [← e2]
  simp

theorem not_all (s : ByteArray) (k : Nat) (hlt : k < s.size) (c48 : ¬ s[k] = 48) (c49 : ¬ s[k] = 49) (c120 : ¬ s[k] = 120) : s.data.toList.all tri = false := by
  rw [Bool.eq_false_iff]
  intro h
  rw [List.all_eq_true] at h
  have := h s[k] (by rw [← byte_at s k hlt]; exact List.getElem_mem _)
  simp [tri, c48, c49, c120] at this
theorem yes_all (s : ByteArray) (h : ∀ j (h : j < s.data.toList.length), tri s.data.toList[j] = true) : s.data.toList.all tri = true := by
  rw [List.all_eq_true]
  intro x hx
  obtain ⟨j, hj, rfl⟩ := List.getElem_of_mem hx
  exact h j hj

end Go.Proofs.YtnobpeghofoniaaGreatDoor.Tn
namespace Go.Proofs.YtnobpeghofoniaaGreatDoor.Tn

theorem andnot_bit (x y : Nat) (hy : y < 18446744073709551616) (i : Nat) : (x &&& (18446744073709551615 - y)).testBit i = (x.testBit i && (decide (i < 64) && !y.testBit i)) := by
  have h : 18446744073709551615 - y = 2 ^ 64 - (y + 1) := by omega
  rw [Nat.testBit_and, h, Nat.testBit_two_pow_sub_succ (by exact hy)]

/-- P1.8 -/
def wrT (c r : List UInt8) : List UInt8 := List.zipWith (fun x y => if y == 120 then x else y) c r
/-- P1.9 -/
def bfT (c r : List UInt8) : List UInt8 := List.zipWith (fun x y => if y == 120 then x else 120) c r

theorem zip_len (f : UInt8 → UInt8 → UInt8) (a b : List UInt8) (h : a.length = b.length) : (List.zipWith f a b).length = a.length := by simp; omega
theorem zip_get (f : UInt8 → UInt8 → UInt8) (a b : List UInt8) (h : a.length = b.length) (k : Nat) (hk : k < a.length) : (List.zipWith f a b)[k]? = some (f a[k] (b[k]'(by omega))) := by
  rw [List.getElem?_zipWith, List.getElem?_eq_getElem hk, List.getElem?_eq_getElem (show k < b.length by omega)]
theorem zip_out (f : UInt8 → UInt8 → UInt8) (a b : List UInt8) (h : a.length = b.length) (k : Nat) (hk : ¬ k < a.length) : (List.zipWith f a b)[k]? = none := by
  rw [List.getElem?_eq_none (by rw [zip_len f a b h]; omega)]

theorem fx_wr (a b : List UInt8) (h : a.length = b.length) (k : Nat) : fx (wrT a b) k = (fx a k || fx b k) := by
  by_cases hk : k < a.length
  · have hb : k < b.length := by omega
    simp only [fx, wrT, zip_get _ a b h k hk, List.getElem?_eq_getElem hk, List.getElem?_eq_getElem hb]
    generalize a[k] = x
    generalize b[k] = y
    by_cases e : y = 120 <;> simp [e]
  · simp only [fx, wrT, zip_out _ a b h k hk]
    rw [List.getElem?_eq_none (by omega), List.getElem?_eq_none (by omega)]; rfl
theorem on_wr (a b : List UInt8) (h : a.length = b.length) (k : Nat) : on (wrT a b) k = ((on a k && !fx b k) || on b k) := by
  by_cases hk : k < a.length
  · have hb : k < b.length := by omega
    simp only [fx, on, wrT, zip_get _ a b h k hk, List.getElem?_eq_getElem hk, List.getElem?_eq_getElem hb]
    generalize a[k] = x
    generalize b[k] = y
    by_cases e : y = 120
    · subst e; simp
    · simp [e]
  · simp only [fx, on, wrT, zip_out _ a b h k hk]
    rw [List.getElem?_eq_none (by omega), List.getElem?_eq_none (by omega)]; rfl
theorem fx_bf (a b : List UInt8) (h : a.length = b.length) (k : Nat) : fx (bfT a b) k = (fx a k && !fx b k) := by
  by_cases hk : k < a.length
  · have hb : k < b.length := by omega
    simp only [fx, bfT, zip_get _ a b h k hk, List.getElem?_eq_getElem hk, List.getElem?_eq_getElem hb]
    generalize a[k] = x
    generalize b[k] = y
    by_cases e : y = 120 <;> simp [e]
  · simp only [fx, bfT, zip_out _ a b h k hk]
    rw [List.getElem?_eq_none (by omega), List.getElem?_eq_none (by omega)]; rfl
theorem on_bf (a b : List UInt8) (h : a.length = b.length) (k : Nat) : on (bfT a b) k = (on a k && !fx b k) := by
  by_cases hk : k < a.length
  · have hb : k < b.length := by omega
    simp only [fx, on, bfT, zip_get _ a b h k hk, List.getElem?_eq_getElem hk, List.getElem?_eq_getElem hb]
    generalize a[k] = x
    generalize b[k] = y
    by_cases e : y = 120 <;> simp [e]
  · simp only [fx, on, bfT, zip_out _ a b h k hk]
    rw [List.getElem?_eq_none (by omega), List.getElem?_eq_none (by omega)]; rfl

theorem FW_wr (a b : List UInt8) (h : a.length = b.length) (w : Nat) : bits .or .u64 (FW a w : Int) (FW b w : Int) = (FW (wrT a b) w : Nat) := by
  rw [u64_or_nat _ _ (FW_lt _ _) (FW_lt _ _)]
  congr 1
  apply Nat.eq_of_testBit_eq
  intro i
  rw [Nat.testBit_or, FW_bit, FW_bit, FW_bit, fx_wr a b h]
  by_cases hi : i < 64 <;> simp [hi]
theorem OW_wr (a b : List UInt8) (h : a.length = b.length) (w : Nat) : bits .or .u64 (bits .andNot .u64 (OW a w : Int) (FW b w : Int)) (OW b w : Int) = (OW (wrT a b) w : Nat) := by
  rw [u64_andNot_nat _ _ (OW_lt _ _) (FW_lt _ _), u64_or_nat _ _ (and_lt _ (OW_lt _ _)) (OW_lt _ _)]
  congr 1
  apply Nat.eq_of_testBit_eq
  intro i
  rw [Nat.testBit_or, andnot_bit _ _ (FW_lt _ _), OW_bit, OW_bit, OW_bit, FW_bit, on_wr a b h]
  by_cases hi : i < 64 <;> simp [hi]
theorem FW_bf (a b : List UInt8) (h : a.length = b.length) (w : Nat) : bits .andNot .u64 (FW a w : Int) (FW b w : Int) = (FW (bfT a b) w : Nat) := by
  rw [u64_andNot_nat _ _ (FW_lt _ _) (FW_lt _ _)]
  congr 1
  apply Nat.eq_of_testBit_eq
  intro i
  rw [andnot_bit _ _ (FW_lt _ _), FW_bit, FW_bit, FW_bit, fx_bf a b h]
  by_cases hi : i < 64 <;> simp [hi]
theorem OW_bf (a b : List UInt8) (h : a.length = b.length) (w : Nat) : bits .andNot .u64 (OW a w : Int) (FW b w : Int) = (OW (bfT a b) w : Nat) := by
  rw [u64_andNot_nat _ _ (OW_lt _ _) (FW_lt _ _)]
  congr 1
  apply Nat.eq_of_testBit_eq
  intro i
  rw [andnot_bit _ _ (FW_lt _ _), OW_bit, OW_bit, FW_bit, on_bf a b h]
  by_cases hi : i < 64 <;> simp [hi]

/-- what Write answers -/
def wtT (c r : List UInt8) : List UInt8 := if fitB c r = true then wrT c r else []
/-- what Before answers -/
def beT (c r : List UInt8) : List UInt8 := if agB c r = true then bfT c r else []
theorem good_wtT (a b : List UInt8) (ha : good a = true) (hb : good b = true) : good (wtT a b) = true := by
  unfold wtT; split
  · exact good_zip _ a b ha hb (fun x y hx hy => by split <;> assumption)
  · exact good_nil
theorem good_beT (a b : List UInt8) (ha : good a = true) (hb : good b = true) : good (beT a b) = true := by
  unfold beT; split
  · exact good_zip _ a b ha hb (fun x y hx hy => by split <;> first | assumption | decide)
  · exact good_nil

theorem take_zip (f : UInt8 → UInt8 → UInt8) (a b : List UInt8) (h : a.length = b.length) (k : Nat) (hk : k < a.length) :
    (List.zipWith f a b).take (k + 1) = (List.zipWith f a b).take k ++ [f a[k] (b[k]'(by omega))] := by
  have hl : k < (List.zipWith f a b).length := by rw [zip_len f a b h]; exact hk
  rw [List.take_succ_eq_append_getElem hl]
  congr 2
  rw [List.getElem_zipWith]
theorem take_all (f : UInt8 → UInt8 → UInt8) (a b : List UInt8) (h : a.length = b.length) : (List.zipWith f a b).take a.length = List.zipWith f a b := by
  apply List.take_of_length_le
  rw [zip_len f a b h]; exact Nat.le_refl _

/-- conflict, by the bytes -/
theorem cfl_bytes (a b : List UInt8) (k : Nat) (ha : k < a.length) (hb : k < b.length) (ta : tri a[k] = true) (tb : tri b[k] = true) : cfl a b k = (!(a[k] == 120) && !(b[k] == 120) && !(a[k] == b[k])) := by
  simp only [cfl, fx, on, List.getElem?_eq_getElem ha, List.getElem?_eq_getElem hb]
  generalize a[k] = x at *
  generalize b[k] = y at *
  simp [tri] at ta tb
  rcases ta with (rfl | rfl) | rfl <;> rcases tb with (rfl | rfl) | rfl <;> rfl
theorem agB_conf (a b : List UInt8) (k : Nat) (hk : k < a.length) (h : cfl a b k = true) : agB a b = false := by
  unfold agB
  rw [allTo_false k hk (by rw [h]; rfl)]; simp
theorem agB_all (a b : List UInt8) (hf : fitB a b = true) (h : ∀ k, k < a.length → cfl a b k = false) : agB a b = true := by
  unfold agB
  rw [hf, Bool.true_and, allTo_iff]
  intro k hk; rw [h k hk]; rfl
theorem agB_nofit (a b : List UInt8) (hf : fitB a b = false) : agB a b = false := by unfold agB; rw [hf]; rfl
end Go.Proofs.YtnobpeghofoniaaGreatDoor.Tn
namespace Go.Proofs.YtnobpeghofoniaaGreatDoor.Tn

/-- a place at which d has a digit and c has x -/
def qual (a b : List UInt8) (p : Nat) : Bool := fx b p && !fx a p
/-- the open places of word w from bit i on -/
def opn (a b : List UInt8) (w i : Nat) : Nat := wd (fun j => decide (i ≤ j) && qual a b (64 * w + j)) 64

theorem opn_lt (a b : List UInt8) (w i : Nat) : opn a b w i < 18446744073709551616 := wd_lt _ 64
theorem opn_bit (a b : List UInt8) (w i j : Nat) : (opn a b w i).testBit j = (decide (j < 64) && (decide (i ≤ j) && qual a b (64 * w + j))) := wd_bit _ _ _

theorem opn_start (a b : List UInt8) (w : Nat) : bits .andNot .u64 (FW b w : Int) (FW a w : Int) = (opn a b w 0 : Nat) := by
  rw [u64_andNot_nat _ _ (FW_lt _ _) (FW_lt _ _)]
  congr 1
  apply Nat.eq_of_testBit_eq
  intro i
  rw [andnot_bit _ _ (FW_lt _ _), FW_bit, FW_bit, opn_bit]
  unfold qual
  by_cases hi : i < 64 <;> simp [hi]

theorem least_bit (O : Nat) (h : O ≠ 0) (hO : O < 18446744073709551616) : ∃ r m, r < 64 ∧ O = 2 ^ (r + 1) * m + 2 ^ r := by
  have key : ∀ n O, O ≠ 0 → O < 2 ^ n → ∃ r m, r < n ∧ O = 2 ^ (r + 1) * m + 2 ^ r := by
    intro n
    induction n with
    | zero => intro O h1 h2; simp at h2; exact absurd h2 h1
    | succ n ih =>
      intro O h1 h2
      by_cases e : O % 2 = 1
      · exact ⟨0, O / 2, by omega, by simp; omega⟩
      · have hp : 2 ^ (n + 1) = 2 * 2 ^ n := by rw [Nat.pow_succ]; omega
        obtain ⟨r, m, hr, hm⟩ := ih (O / 2) (by omega) (by omega)
        refine ⟨r + 1, m, by omega, ?_⟩
        have e1 : O = 2 * (O / 2) := by omega
        rw [e1, hm, Nat.mul_add, ← Nat.mul_assoc, Nat.pow_succ 2 (r + 1), Nat.pow_succ 2 r]
        congr 1
        · rw [Nat.mul_comm 2 (2 ^ r * 2)]
        · omega
  exact key 64 O h hO

theorem odd_bit (r m j : Nat) : (2 ^ (r + 1) * m + 2 ^ r).testBit j = (if j < r then false else if j = r then true else m.testBit (j - (r + 1))) := by
  have hp : 2 ^ r < 2 ^ (r + 1) := Nat.pow_lt_pow_right (by omega) (by omega)
  rw [Nat.testBit_two_pow_mul_add _ hp]
  by_cases h1 : j < r
  · have : j < r + 1 := by omega
    simp only [this, if_true, h1]
    rw [Nat.testBit_two_pow]
    simp; omega
  · by_cases h2 : j = r
    · subst h2
      simp
    · have : ¬ j < r + 1 := by omega
      simp only [this, if_false, h1, h2]
theorem odd_pred_bit (r m j : Nat) : (2 ^ (r + 1) * m + 2 ^ r - 1).testBit j = (if j < r then true else if j = r then false else m.testBit (j - (r + 1))) := by
  have hp : 2 ^ r < 2 ^ (r + 1) := Nat.pow_lt_pow_right (by omega) (by omega)
  have h0 : 0 < 2 ^ r := Nat.two_pow_pos r
  have e : 2 ^ (r + 1) * m + 2 ^ r - 1 = 2 ^ (r + 1) * m + (2 ^ r - 1) := by omega
  rw [e, Nat.testBit_two_pow_mul_add _ (by omega), Nat.testBit_two_pow_sub_one]
  by_cases h1 : j < r
  · have : j < r + 1 := by omega
    simp [this, h1]
  · by_cases h2 : j = r
    · subst h2; simp
    · have : ¬ j < r + 1 := by omega
      simp [this, h1, h2]

/-- what the round of the inner loop does -/
theorem opn_step (a b : List UInt8) (w i : Nat) (h : opn a b w i ≠ 0) : ∃ r, i ≤ r ∧ r < 64 ∧ qual a b (64 * w + r) = true ∧ (∀ j, i ≤ j → j < r → qual a b (64 * w + j) = false) ∧
    opn a b w i &&& (18446744073709551616 - opn a b w i) = 2 ^ r ∧ opn a b w i &&& (opn a b w i - 1) = opn a b w (r + 1) := by
  obtain ⟨r, m, hr, hm⟩ := least_bit _ h (opn_lt a b w i)
  have hb : ∀ j, (opn a b w i).testBit j = (if j < r then false else if j = r then true else m.testBit (j - (r + 1))) := fun j => by rw [hm]; exact odd_bit r m j
  have hpb : ∀ j, (opn a b w i - 1).testBit j = (if j < r then true else if j = r then false else m.testBit (j - (r + 1))) := fun j => by rw [hm]; exact odd_pred_bit r m j
  have hr1 := hb r
  rw [opn_bit] at hr1
  simp [hr] at hr1
  refine ⟨r, hr1.1, hr, hr1.2, ?_, ?_, ?_⟩
  · intro j h1 h2
    have := hb j
    rw [opn_bit] at this
    have h3 : j < 64 := by omega
    simp [h1, h2, h3] at this
    exact this
  · apply Nat.eq_of_testBit_eq
    intro j
    have e : 18446744073709551616 - opn a b w i = 2 ^ 64 - ((opn a b w i - 1) + 1) := by have := opn_lt a b w i; omega
    rw [Nat.testBit_and, e, Nat.testBit_two_pow_sub_succ (by have := opn_lt a b w i; omega), hpb, hb, Nat.testBit_two_pow]
    by_cases h1 : j < r
    · have : ¬ r = j := by omega
      simp [h1, this]
    · by_cases h2 : j = r
      · subst h2; simp [hr]
      · have : ¬ r = j := by omega
        simp [h1, h2, this]
        exact fun h _ => h
  · apply Nat.eq_of_testBit_eq
    intro j
    rw [Nat.testBit_and, hpb, opn_bit, opn_bit]
    by_cases h1 : j < r
    · have h2 : ¬ r + 1 ≤ j := by omega
      have := hb j
      rw [opn_bit] at this
      simp [h1] at this
      simp only [h1, if_true, h2, decide_false, Bool.false_and, Bool.and_false, Bool.and_true]
      simpa using this
    · by_cases h2 : j = r
      · subst h2; simp
        intro _ hx; omega
      · have h3 : r + 1 ≤ j := by omega
        have h4 : i ≤ j := by omega
        have := hb j
        rw [opn_bit] at this
        simp only [h1, h2, if_false, h4, h3, decide_true, Bool.true_and] at this ⊢
        rw [← this]
        simp

/-- c with d's digits at the open places below p -/
def rsT (a b : List UInt8) (p : Nat) : List UInt8 := meetT (a.take p) (b.take p) ++ a.drop p
theorem rs_get (a b : List UInt8) (hl : a.length = b.length) (p k : Nat) (hk : k < a.length) : (rsT a b p)[k]? = some (if k < p then (if a[k] == 120 then b[k]'(by omega) else a[k]) else a[k]) := by
  unfold rsT
  have hm : (meetT (a.take p) (b.take p)).length = min p a.length := by rw [meetT_len _ _ (by simp; omega)]; simp
  by_cases h : k < p
  · rw [List.getElem?_append_left (by omega), meetT_get _ _ (by simp; omega) k (by simp; omega)]
    simp [h]
  · rw [List.getElem?_append_right (by omega), hm, List.getElem?_drop]
    have : p + (k - min p a.length) = k := by omega
    rw [this, List.getElem?_eq_getElem hk]
    simp [h]
theorem rs_len (a b : List UInt8) (hl : a.length = b.length) (p : Nat) : (rsT a b p).length = a.length := by
  unfold rsT
  rw [List.length_append, meetT_len _ _ (by simp; omega)]
  simp; omega
theorem rs_zero (a b : List UInt8) : rsT a b 0 = a := by simp [rsT, meetT]
theorem qual_bytes (a b : List UInt8) (hl : a.length = b.length) (p : Nat) (hp : p < a.length) : qual a b p = (!(b[p]'(by omega) == 120) && (a[p] == 120)) := by
  have hb : p < b.length := by omega
  simp only [qual, fx, List.getElem?_eq_getElem hp, List.getElem?_eq_getElem hb]
  cases e1 : (b[p] == 120) <;> cases e2 : (a[p] == 120) <;> simp_all
theorem qual_lt (a b : List UInt8) (hl : a.length = b.length) (p : Nat) (h : qual a b p = true) : p < a.length := by
  rcases Nat.lt_or_ge p a.length with h1 | h1
  · exact h1
  · simp only [qual, fx] at h
    rw [List.getElem?_eq_none (show b.length ≤ p by omega)] at h
    simp at h
theorem rs_skip (a b : List UInt8) (hl : a.length = b.length) (p q : Nat) (hpq : p ≤ q) (h : ∀ k, p ≤ k → k < q → qual a b k = false) : rsT a b q = rsT a b p := by
  apply List.ext_getElem?
  intro k
  by_cases hk : k < a.length
  · rw [rs_get a b hl q k hk, rs_get a b hl p k hk]
    by_cases h1 : k < p
    · have : k < q := by omega
      simp [h1, this]
    · by_cases h2 : k < q
      · have := h k (by omega) h2
        rw [qual_bytes a b hl k hk] at this
        simp only [h1, h2, if_true, if_false]
        congr 1
        cases e1 : (a[k] == 120)
        · rfl
        · rw [e1] at this
          have e3 : a[k] = 120 := by simpa using e1
          simp at this
          rw [if_pos rfl, this, e3]
      · simp [h1, h2]
  · rw [List.getElem?_eq_none (by rw [rs_len a b hl]; omega), List.getElem?_eq_none (by rw [rs_len a b hl]; omega)]
theorem rs_at (a b : List UInt8) (hl : a.length = b.length) (p : Nat) (h : qual a b p = true) (hp : p < (rsT a b p).length) : (rsT a b p)[p] = 120 := by
  have hpa : p < a.length := qual_lt a b hl p h
  have := rs_get a b hl p p hpa
  rw [List.getElem?_eq_getElem hp] at this
  rw [qual_bytes a b hl p hpa] at h
  simp at this h
  rw [this]; exact h.2
theorem rs_succ (a b : List UInt8) (hl : a.length = b.length) (p : Nat) (h : qual a b p = true) : (rsT a b p).set p (b[p]'(by have := qual_lt a b hl p h; omega)) = rsT a b (p + 1) := by
  have hpa : p < a.length := qual_lt a b hl p h
  apply List.ext_getElem?
  intro k
  by_cases hk : k < a.length
  · rw [rs_get a b hl (p + 1) k hk]
    by_cases e : k = p
    · subst e
      rw [List.getElem?_set_self (by rw [rs_len a b hl]; exact hk)]
      rw [qual_bytes a b hl k hk] at h
      simp at h
      simp [h.2]
    · rw [List.getElem?_set_ne (by omega), rs_get a b hl p k hk]
      by_cases h1 : k < p
      · have : k < p + 1 := by omega
        simp [h1, this]
      · have : ¬ k < p + 1 := by omega
        simp [h1, this]
  · rw [List.getElem?_eq_none (by simp; rw [rs_len a b hl]; omega), List.getElem?_eq_none (by rw [rs_len a b hl]; omega)]
theorem rs_good (a b : List UInt8) (hl : a.length = b.length) (ga : good a = true) (gb : good b = true) (p : Nat) : good (rsT a b p) = true := by
  simp only [good, Bool.and_eq_true, decide_eq_true_eq, List.all_eq_true]
  refine ⟨by rw [rs_len a b hl]; exact good_len ga, ?_⟩
  intro x hx
  obtain ⟨k, hk, rfl⟩ := List.getElem_of_mem hx
  have hka : k < a.length := by rw [rs_len a b hl] at hk; exact hk
  have := rs_get a b hl p k hka
  rw [List.getElem?_eq_getElem hk] at this
  rw [Option.some.inj this]
  have ta := good_tri ga k hka
  have tb := good_tri gb k (by omega)
  repeat' split
  all_goals assumption

/-- the other digit -/
def oth (d : UInt8) : UInt8 := if d == 48 then 49 else 48
/-- the part of Split at an open place -/
def pcT (a b : List UInt8) (p : Nat) : List UInt8 := (rsT a b p).set p (oth (b.getD p 0))
/-- P1.7: the parts at the open places below p -/
def pcs (a b : List UInt8) : Nat → List (List UInt8)
  | 0 => []
  | p + 1 => pcs a b p ++ (if qual a b p then [pcT a b p] else [])
theorem pcs_skip (a b : List UInt8) (p q : Nat) (hpq : p ≤ q) (h : ∀ k, p ≤ k → k < q → qual a b k = false) : pcs a b q = pcs a b p := by
  induction q with
  | zero => have : p = 0 := by omega
            subst this; rfl
  | succ q ih =>
    by_cases e : p = q + 1
    · subst e; rfl
    · conv => lhs; unfold pcs
      rw [h q (by omega) (by omega), ih (by omega) (fun k h1 h2 => h k h1 (by omega))]
      simp
theorem pcs_succ (a b : List UInt8) (p : Nat) (h : qual a b p = true) : pcs a b (p + 1) = pcs a b p ++ [pcT a b p] := by
  conv => lhs; unfold pcs
  rw [h]; rfl
theorem pcs_len (a b : List UInt8) (p : Nat) : (pcs a b p).length ≤ p := by
  induction p with
  | zero => simp [pcs]
  | succ p ih => unfold pcs; split <;> simp <;> omega

theorem dg_own (b : List UInt8) (w r : Nat) (hr : r < 64) (hp : 64 * w + r < b.length) (gb : good b = true) (hx : b[64 * w + r] ≠ 120) : dg (OW b w) r = b[64 * w + r] := by
  unfold dg
  rw [OW_bit]
  have tb := good_tri gb _ hp
  simp only [hr, decide_true, Bool.true_and, on, List.getElem?_eq_getElem hp]
  generalize b[64 * w + r] = y at *
  simp [tri] at tb
  rcases tb with (rfl | rfl) | rfl
  · decide
  · decide
  · exact absurd rfl hx
theorem dg_oth (b : List UInt8) (w r : Nat) (hr : r < 64) (hp : 64 * w + r < b.length) (gb : good b = true) (hx : b[64 * w + r] ≠ 120) : dg (18446744073709551615 - OW b w) r = oth (b[64 * w + r]) := by
  unfold dg
  have e : 18446744073709551615 - OW b w = 2 ^ 64 - (OW b w + 1) := by omega
  rw [e, Nat.testBit_two_pow_sub_succ (OW_lt b w), OW_bit]
  have tb := good_tri gb _ hp
  simp only [hr, decide_true, Bool.true_and, on, List.getElem?_eq_getElem hp]
  generalize b[64 * w + r] = y at *
  simp [tri] at tb
  rcases tb with (rfl | rfl) | rfl
  · decide
  · decide
  · exact absurd rfl hx
end Go.Proofs.YtnobpeghofoniaaGreatDoor.Tn
namespace Go.Proofs.YtnobpeghofoniaaGreatDoor.Tn
open Go.RowKit

theorem info_cube : (Tryz.prog.info? 74).map (fun i => (i.zero, i.size, i.bytes)) = some (some (.agg #[.int .i64 0, .int .u64 0, .int .u64 0, .int .u64 0, .int .u64 0, .int .u64 0, .int .u64 0, .int .u64 0, .int .u64 0]), 9, 72) := by kernel_rfl

/-- the nine cells of a cube -/
def cel (t : List UInt8) : List Value := [.int .i64 (t.length : Int), .int .u64 (FW t 0 : Int), .int .u64 (FW t 1 : Int), .int .u64 (FW t 2 : Int), .int .u64 (FW t 3 : Int), .int .u64 (OW t 0 : Int), .int .u64 (OW t 1 : Int), .int .u64 (OW t 2 : Int), .int .u64 (OW t 3 : Int)]
/-- the cells of a list of cubes -/
def cels (l : List (List UInt8)) : List Value := l.flatMap cel
theorem cels_snoc (l : List (List UInt8)) (t : List UInt8) : cels (l ++ [t]) = cels l ++ cel t := by simp [cels]

/-- what Split answers -/
def splT (a b : List UInt8) : List (List UInt8) := if agB a b = true then pcs a b a.length else [a]

theorem opn_zero (a b : List UInt8) (w i : Nat) (h : opn a b w i = 0) : ∀ j, i ≤ j → j < 64 → qual a b (64 * w + j) = false := by
  intro j h1 h2
  have := opn_bit a b w i j
  rw [h, Nat.zero_testBit] at this
  simp [h1, h2] at this
  exact this

set_option maxHeartbeats 400000 in
theorem split_no (a b : List UInt8) (w : World) (ha : good a = true) (hq0 : agB a b = false) :
    Calls Tryz.prog 95 #[cubeV a, cubeV b] w fun e w' => ∃ v, e = .returned v ∧ w'.ownsRow w.heap.size 74 9 v 1 (cels [a]) ∧ Below w.heap.size w w' := by
  have hq : Hid (agB a b = false) := hq0
  clear hq0
  unfold cubeV cv
  go_enter Tryz.func95, Tryz.ntmps95
  go_wp2_with (go_at_call 123; refine (agrees_D a b false _ ha hq.out).mono ?_; rintro e w1 ⟨rfl, hb1⟩; obtain ⟨hc1, hf1⟩ := bcell hb1)
  go_ret
  have hB := bel1 (bel1 hb1)
  refine ⟨_, rfl, ?_, belA hB _⟩
  refine ⟨by simp [cels, cel], .inr ⟨w1.heap.size, 1, _, rfl, hB.size, alloc_get _ _, by omega, by unfold maxLen; omega, by simp, by simp [cels, cel]⟩⟩

theorem cellkeepS {W w' : World} {b : Nat} {cs : Array Value} (hb : Below W.heap.size W w') (hlt : b < W.heap.size) (h : ∀ j, W.cell? ⟨b, j, none⟩ = cs[j]?) : ∀ j, w'.cell? ⟨b, j, none⟩ = cs[j]? :=
  fun j => (hb.cell (p := ⟨b, j, none⟩) hlt).trans (h j)
theorem cell1keep {W w' : World} {b o : Nat} {v : Value} (hb : Below W.heap.size W w') (hlt : b < W.heap.size) (h : W.cell? ⟨b, o, none⟩ = some v) : w'.cell? ⟨b, o, none⟩ = some v := (hb.cell (p := ⟨b, o, none⟩) hlt).trans h
theorem alloc1keep {W : World} {b o : Nat} {v : Value} (hlt : b < W.heap.size) (h : W.cell? ⟨b, o, none⟩ = some v) (O : Obj) : (W.alloc O).cell? ⟨b, o, none⟩ = some v := (World.cell?_alloc_lt W O ⟨b, o, none⟩ hlt).trans h
theorem cell1grow {W w' : World} {row : Option Nat} {b o : Nat} {v : Value} (hg : W.grownBy w' row) (hlt : b < W.heap.size) (hne : some b ≠ row) (h : W.cell? ⟨b, o, none⟩ = some v) : w'.cell? ⟨b, o, none⟩ = some v :=
  (World.cell?_of_block (w := W) (a := ⟨b, o, none⟩) (hg.block b hlt hne)).trans h
theorem allockeepS {W : World} {b : Nat} {cs : Array Value} (hlt : b < W.heap.size) (h : ∀ j, W.cell? ⟨b, j, none⟩ = cs[j]?) (o : Obj) : ∀ j, (W.alloc o).cell? ⟨b, j, none⟩ = cs[j]? :=
  fun j => (World.cell?_alloc_lt W o ⟨b, j, none⟩ hlt).trans (h j)
theorem cellgrowS {W w' : World} {row : Option Nat} {b : Nat} {cs : Array Value} (hg : W.grownBy w' row) (hlt : b < W.heap.size) (hne : some b ≠ row) (h : ∀ j, W.cell? ⟨b, j, none⟩ = cs[j]?) : ∀ j, w'.cell? ⟨b, j, none⟩ = cs[j]? :=
  fun j => (World.cell?_of_block (w := W) (a := ⟨b, j, none⟩) (hg.block b hlt hne)).trans (h j)
theorem ltA {W : World} {b : Nat} (h : b < W.heap.size) (o : Obj) : b < (W.alloc o).heap.size := by simp; omega
theorem growblk {W w' : World} {row : Option Nat} {b : Nat} {o : Obj} (hg : W.grownBy w' row) (h : W.heap[b]? = some o) (hne : some b ≠ row) : w'.heap[b]? = some o := (hg.block b (lt_of_get h) hne).trans h
theorem bel_app2 {w wr w1 : World} {o : Obj} {base : Nat} {e : TypeId} {size : Nat} {v : Value} {n : Nat} {xs : List Value} (hB : Below w.heap.size w wr) (hown : wr.ownsRow base e size v n xs) (hg : (wr.alloc o).grownBy w1 v.ownBlock) (hb : w.heap.size ≤ base) : Below w.heap.size w w1 :=
  (belA hB o).grown hg (belA hB o).size (fun k h => Nat.le_trans hb (hown.lt k h).1)
theorem put9_ne {W : World} {b c : Nat} {o : Obj} (v0 v1 v2 v3 v4 v5 v6 v7 v8 : Value) (hne : c ≠ b) (h : W.heap[c]? = some o) : (put9 W b v0 v1 v2 v3 v4 v5 v6 v7 v8).heap[c]? = some o := by
  unfold put9
  rw [Below.heap_setCell _ _ _ _ (by exact hne), Below.heap_setCell _ _ _ _ (by exact hne), Below.heap_setCell _ _ _ _ (by exact hne), Below.heap_setCell _ _ _ _ (by exact hne), Below.heap_setCell _ _ _ _ (by exact hne), Below.heap_setCell _ _ _ _ (by exact hne), Below.heap_setCell _ _ _ _ (by exact hne), Below.heap_setCell _ _ _ _ (by exact hne), Below.heap_setCell _ _ _ _ (by exact hne)]
  exact h
theorem put9_size (W : World) (b : Nat) (v0 v1 v2 v3 v4 v5 v6 v7 v8 : Value) : (put9 W b v0 v1 v2 v3 v4 v5 v6 v7 v8).heap.size = W.heap.size := by simp [put9, World.setCell]
theorem own_put9 {W : World} {base b : Nat} {e : TypeId} {size : Nat} {v : Value} {n : Nat} {xs : List Value} (v0 v1 v2 v3 v4 v5 v6 v7 v8 : Value) (h : W.ownsRow base e size v n xs) (hb : b < base) : (put9 W b v0 v1 v2 v3 v4 v5 v6 v7 v8).ownsRow base e size v n xs := by
  have s := fun (W : World) (j : Nat) (u : Value) (h : W.ownsRow base e size v n xs) => ownsRow_setCell_below h (a := ⟨b, j, none⟩) hb u
  exact s _ _ _ (s _ _ _ (s _ _ _ (s _ _ _ (s _ _ _ (s _ _ _ (s _ _ _ (s _ _ _ (s _ _ _ h))))))))
theorem cellF {W : World} {x k : Nat} {t : List UInt8} (h : ∀ j, W.cell? ⟨x, j, none⟩ = (#[.int .i64 (t.length : Int), .int .u64 (FW t 0 : Int), .int .u64 (FW t 1 : Int), .int .u64 (FW t 2 : Int), .int .u64 (FW t 3 : Int), .int .u64 (OW t 0 : Int), .int .u64 (OW t 1 : Int), .int .u64 (OW t 2 : Int), .int .u64 (OW t 3 : Int)] : Array Value)[j]?) (hk : k < 4) : W.cell? ⟨x, 1 + k, none⟩ = some (.int .u64 (FW t k : Int)) := by
  rw [h]
  rcases (show k = 0 ∨ k = 1 ∨ k = 2 ∨ k = 3 by omega) with rfl | rfl | rfl | rfl <;> rfl
theorem cellO {W : World} {x k : Nat} {t : List UInt8} (h : ∀ j, W.cell? ⟨x, j, none⟩ = (#[.int .i64 (t.length : Int), .int .u64 (FW t 0 : Int), .int .u64 (FW t 1 : Int), .int .u64 (FW t 2 : Int), .int .u64 (FW t 3 : Int), .int .u64 (OW t 0 : Int), .int .u64 (OW t 1 : Int), .int .u64 (OW t 2 : Int), .int .u64 (OW t 3 : Int)] : Array Value)[j]?) (hk : k < 4) : W.cell? ⟨x, 5 + k, none⟩ = some (.int .u64 (OW t k : Int)) := by
  rw [h]
  rcases (show k = 0 ∨ k = 1 ∨ k = 2 ∨ k = 3 by omega) with rfl | rfl | rfl | rfl <;> rfl
theorem own_base {W : World} {B B' : Nat} {e : TypeId} {size : Nat} {v : Value} {n : Nat} {xs : List Value} (h : W.ownsRow B e size v n xs) (hb : B' ≤ B) : W.ownsRow B' e size v n xs := by
  obtain ⟨h1, h2⟩ := h
  refine ⟨h1, ?_⟩
  rcases h2 with h2 | ⟨g, cap, cur, hv, hg, r⟩
  · exact .inl h2
  · exact .inr ⟨g, cap, cur, hv, Nat.le_trans hb hg, r⟩
theorem drew_heap (V : World) : V.drew.heap = V.heap := rfl
theorem drew_own {V : World} {base : Nat} {e : TypeId} {size : Nat} {v : Value} {n : Nat} {xs : List Value} (h : V.ownsRow base e size v n xs) : V.drew.ownsRow base e size v n xs := h
theorem drew_bel {B : Nat} {a V : World} (h : Below B a V) : Below B a V.drew := h.drew
theorem put9_szle {W : World} {b n : Nat} (v0 v1 v2 v3 v4 v5 v6 v7 v8 : Value) (h : n ≤ W.heap.size) : n ≤ (put9 W b v0 v1 v2 v3 v4 v5 v6 v7 v8).heap.size := by
  rw [put9_size]; exact h
theorem put9d_ne {W : World} {b c : Nat} {o : Obj} (v0 v1 v2 v3 v4 v5 v6 v7 v8 : Value) (hne : c ≠ b) (h : W.heap[c]? = some o) : (put9 W b v0 v1 v2 v3 v4 v5 v6 v7 v8).drew.heap[c]? = some o := by rw [drew_heap]; exact put9_ne v0 v1 v2 v3 v4 v5 v6 v7 v8 hne h
theorem put9d_get {W : World} {b T : Nat} {m : Nat × Nat} {x0 x1 x2 x3 x4 x5 x6 x7 x8 : Value} (v0 v1 v2 v3 v4 v5 v6 v7 v8 : Value) (h : W.heap[b]? = some (.cells #[x0, x1, x2, x3, x4, x5, x6, x7, x8] T m)) :
    (put9 W b v0 v1 v2 v3 v4 v5 v6 v7 v8).drew.heap[b]? = some (.cells #[v0, v1, v2, v3, v4, v5, v6, v7, v8] T m) := by rw [drew_heap]; exact put9_get v0 v1 v2 v3 v4 v5 v6 v7 v8 h
theorem own_put9d {W : World} {base b : Nat} {e : TypeId} {size : Nat} {v : Value} {n : Nat} {xs : List Value} (v0 v1 v2 v3 v4 v5 v6 v7 v8 : Value) (h : W.ownsRow base e size v n xs) (hb : b < base) : (put9 W b v0 v1 v2 v3 v4 v5 v6 v7 v8).drew.ownsRow base e size v n xs := drew_own (own_put9 v0 v1 v2 v3 v4 v5 v6 v7 v8 h hb)
theorem put9d_below {B : Nat} {a W : World} {b : Nat} (v0 v1 v2 v3 v4 v5 v6 v7 v8 : Value) (h : Below B a W) (hb : B ≤ b) : Below B a (put9 W b v0 v1 v2 v3 v4 v5 v6 v7 v8).drew := drew_bel (put9_below v0 v1 v2 v3 v4 v5 v6 v7 v8 h hb)
theorem put9d_size {W : World} {b n : Nat} (v0 v1 v2 v3 v4 v5 v6 v7 v8 : Value) (h : n ≤ W.heap.size) : n ≤ (put9 W b v0 v1 v2 v3 v4 v5 v6 v7 v8).drew.heap.size := by
  rw [drew_heap, put9_size]; exact h
theorem undrewS {B : Nat} {a w : World} (h : Below B a.drew w) : Below B a w := ⟨h.os, h.tape, h.output, h.size, h.block⟩
theorem low_bits (O r : Nat) (h0 : O ≠ 0) (hO : O < 18446744073709551616) (h : O &&& (18446744073709551616 - O) = 2 ^ r) : bits .and .u64 (O : Int) (IntKind.u64.wrap (-(O : Int))) = ((2 ^ r : Nat) : Int) := by
  have e : IntKind.u64.wrap (-(O : Int)) = ((18446744073709551616 - O : Nat) : Int) := by rw [IntKind.wrap_u64]; omega
  rw [e, u64_and_nat _ _ hO (by omega), h]
theorem next_bits (O N : Nat) (h0 : O ≠ 0) (hO : O < 18446744073709551616) (h : O &&& (O - 1) = N) : bits .and .u64 (O : Int) (IntKind.u64.wrap ((O : Int) - 1)) = (N : Int) := by
  have e : IntKind.u64.wrap ((O : Int) - 1) = ((O - 1 : Nat) : Int) := by rw [IntKind.wrap_u64]; omega
  rw [e, u64_and_nat _ _ hO (by omega), h]
theorem next_bits2 (O N : Nat) (h0 : O ≠ 0) (hO : O < 18446744073709551616) (h : O &&& (O - 1) = N) : bits .and .u64 (O : Int) ((O : Int) - 1) = (N : Int) := by
  have e : ((O : Int) - 1) = ((O - 1 : Nat) : Int) := by omega
  rw [e, u64_and_nat _ _ hO (by omega), h]
theorem not_xor (x : Nat) (hx : x < 18446744073709551616) : bits .xor .u64 (if IntKind.u64.signed = true then -1 else IntKind.u64.max) (x : Int) = ((18446744073709551615 - x : Nat) : Int) := by
  have e : (if IntKind.u64.signed = true then (-1 : Int) else IntKind.u64.max) = ((18446744073709551615 : Nat) : Int) := by decide
  rw [e, u64_xor_nat _ _ (by decide) hx]
  congr 1
  apply Nat.eq_of_testBit_eq
  intro i
  have e1 : 18446744073709551615 - x = 2 ^ 64 - (x + 1) := by omega
  have e2 : (18446744073709551615 : Nat) = 2 ^ 64 - 1 := by decide
  rw [e1, Nat.testBit_xor, e2, Nat.testBit_two_pow_sub_one, Nat.testBit_two_pow_sub_succ (by exact hx)]
  by_cases hi : i < 64
  · simp [hi]
  · have h64 : 64 ≤ i := Nat.le_of_not_lt hi
    have hx2 : x < 2 ^ 64 := hx
    have : x.testBit i = false := Nat.testBit_lt_two_pow (Nat.lt_of_lt_of_le hx2 (Nat.pow_le_pow_right (by decide) h64))
    simp [hi, this]
theorem fix_own (a b : List UInt8) (k r : Nat) (w : World) (hk : k < 4) (hr : r < 64) (hl : a.length = b.length) (gb : good b = true) (hq : qual a b (64 * k + r) = true) :
    Calls Tryz.prog 99 #[cubeV (rsT a b (64 * k + r)), .int .i64 (k : Int), .int .u64 ((2 ^ r : Nat) : Int), .int .u64 (OW b k : Int)] w fun e w' => e = .returned (cubeV (rsT a b (64 * k + r + 1))) ∧ Below w.heap.size w w' := by
  have hp := qual_lt a b hl _ hq
  have hpr : 64 * k + r < (rsT a b (64 * k + r)).length := by rw [rs_len a b hl]; exact hp
  have hbx : b[64 * k + r]'(by omega) ≠ 120 := by
    rw [qual_bytes a b hl _ hp] at hq
    simp at hq; exact hq.1
  refine (fix_any _ k r (OW b k) w hk hr (OW_lt _ _) hpr (rs_at a b hl _ hq hpr)).mono ?_
  rintro e w' ⟨rfl, hb⟩
  exact ⟨by rw [dg_own b k r hr (by omega) gb hbx, rs_succ a b hl _ hq], hb⟩
theorem fix_oth (a b : List UInt8) (k r : Nat) (w : World) (hk : k < 4) (hr : r < 64) (hl : a.length = b.length) (gb : good b = true) (hq : qual a b (64 * k + r) = true) :
    Calls Tryz.prog 99 #[cubeV (rsT a b (64 * k + r)), .int .i64 (k : Int), .int .u64 ((2 ^ r : Nat) : Int), .int .u64 (bits .xor .u64 (if IntKind.u64.signed = true then -1 else IntKind.u64.max) (OW b k : Int))] w fun e w' => e = .returned (cubeV (pcT a b (64 * k + r))) ∧ Below w.heap.size w w' := by
  have hp := qual_lt a b hl _ hq
  have hpr : 64 * k + r < (rsT a b (64 * k + r)).length := by rw [rs_len a b hl]; exact hp
  have hpb : 64 * k + r < b.length := by omega
  have hbx : b[64 * k + r] ≠ 120 := by
    rw [qual_bytes a b hl _ hp] at hq
    simp at hq; exact hq.1
  rw [not_xor _ (OW_lt _ _)]
  refine (fix_any _ k r (18446744073709551615 - OW b k) w hk hr (by omega) hpr (rs_at a b hl _ hq hpr)).mono ?_
  rintro e w' ⟨rfl, hb⟩
  refine ⟨?_, hb⟩
  unfold pcT
  rw [dg_oth b k r hr hpb gb hbx, show b.getD (64 * k + r) 0 = b[64 * k + r] by simp [List.getD, List.getElem?_eq_getElem hpb]]

theorem alloc2_0 (w : World) (o1 o2 : Obj) : ((w.alloc o1).alloc o2).heap[w.heap.size]? = some o1 := by
  rw [Below.heap_alloc _ _ _ (by simp)]; exact alloc_get _ _
theorem alloc2_1 (w : World) (o1 o2 : Obj) : ((w.alloc o1).alloc o2).heap[w.heap.size + 1]? = some o2 := by
  have := alloc_get (w.alloc o1) o2
  simpa using this
end Go.Proofs.YtnobpeghofoniaaGreatDoor.Tn
namespace Go.Proofs.YtnobpeghofoniaaGreatDoor.Tn
open Go.RowKit

set_option maxRecDepth 100000 in
set_option maxHeartbeats 2000000 in
theorem split_try (a b : List UInt8) (w : World) (ha : good a = true) (gb : good b = true) (hq0 : agB a b = true) :
    Calls Tryz.prog 95 #[cubeV a, cubeV b] w fun e w' => ∃ v, e = .returned v ∧ w'.ownsRow w.heap.size 74 9 v (pcs a b a.length).length (cels (pcs a b a.length)) ∧ Below w.heap.size w w' := by
  have hq : Hid (agB a b = true) := hq0
  have hl : Hid (a.length = b.length) := fitB_len (agB_fit hq0)
  have hal := good_len ha
  clear hq0
  obtain ⟨i0, hi, hz0, hz1, hz2⟩ := info_parts info_cube
  unfold cubeV cv
  go_enter Tryz.func95, Tryz.ntmps95
  go_wp2_with (go_at_call 123; refine (agrees_D a b true _ ha hq.out).mono ?_; rintro e w1 ⟨rfl, hb1⟩; obtain ⟨hc1, hf1⟩ := bcell hb1)
  have hA1 := allocblk (keepblk hb1 (alloc2_0 w (.cells #[.int .i64 (a.length : Int), .int .u64 (FW a 0 : Int), .int .u64 (FW a 1 : Int), .int .u64 (FW a 2 : Int), .int .u64 (FW a 3 : Int), .int .u64 (OW a 0 : Int), .int .u64 (OW a 1 : Int), .int .u64 (OW a 2 : Int), .int .u64 (OW a 3 : Int)] 74) (.cells #[.int .i64 (b.length : Int), .int .u64 (FW b 0 : Int), .int .u64 (FW b 1 : Int), .int .u64 (FW b 2 : Int), .int .u64 (FW b 3 : Int), .int .u64 (OW b 0 : Int), .int .u64 (OW b 1 : Int), .int .u64 (OW b 2 : Int), .int .u64 (OW b 3 : Int)] 74))) (.cells #[.int .i64 (a.length : Int), .int .u64 (FW a 0 : Int), .int .u64 (FW a 1 : Int), .int .u64 (FW a 2 : Int), .int .u64 (FW a 3 : Int), .int .u64 (OW a 0 : Int), .int .u64 (OW a 1 : Int), .int .u64 (OW a 2 : Int), .int .u64 (OW a 3 : Int)] 74)
  have hB1 := allocblk (keepblk hb1 (alloc2_1 w (.cells #[.int .i64 (a.length : Int), .int .u64 (FW a 0 : Int), .int .u64 (FW a 1 : Int), .int .u64 (FW a 2 : Int), .int .u64 (FW a 3 : Int), .int .u64 (OW a 0 : Int), .int .u64 (OW a 1 : Int), .int .u64 (OW a 2 : Int), .int .u64 (OW a 3 : Int)] 74) (.cells #[.int .i64 (b.length : Int), .int .u64 (FW b 0 : Int), .int .u64 (FW b 1 : Int), .int .u64 (FW b 2 : Int), .int .u64 (FW b 3 : Int), .int .u64 (OW b 0 : Int), .int .u64 (OW b 1 : Int), .int .u64 (OW b 2 : Int), .int .u64 (OW b 3 : Int)] 74))) (.cells #[.int .i64 (a.length : Int), .int .u64 (FW a 0 : Int), .int .u64 (FW a 1 : Int), .int .u64 (FW a 2 : Int), .int .u64 (FW a 3 : Int), .int .u64 (OW a 0 : Int), .int .u64 (OW a 1 : Int), .int .u64 (OW a 2 : Int), .int .u64 (OW a 3 : Int)] 74)
  have hR1 : (w1.alloc (.cells #[.int .i64 (a.length : Int), .int .u64 (FW a 0 : Int), .int .u64 (FW a 1 : Int), .int .u64 (FW a 2 : Int), .int .u64 (FW a 3 : Int), .int .u64 (OW a 0 : Int), .int .u64 (OW a 1 : Int), .int .u64 (OW a 2 : Int), .int .u64 (OW a 3 : Int)] 74)).heap[w1.heap.size]? = some (.cells (#[.int .i64 ((rsT a b (64 * 0)).length : Int), .int .u64 (FW (rsT a b (64 * 0)) 0 : Int), .int .u64 (FW (rsT a b (64 * 0)) 1 : Int), .int .u64 (FW (rsT a b (64 * 0)) 2 : Int), .int .u64 (FW (rsT a b (64 * 0)) 3 : Int), .int .u64 (OW (rsT a b (64 * 0)) 0 : Int), .int .u64 (OW (rsT a b (64 * 0)) 1 : Int), .int .u64 (OW (rsT a b (64 * 0)) 2 : Int), .int .u64 (OW (rsT a b (64 * 0)) 3 : Int)]) 74 (0, 0)) := by rw [Nat.mul_zero, rs_zero]; exact alloc_get _ _
  have hW1 := belA (bel1 (bel1 hb1)) (.cells #[.int .i64 (a.length : Int), .int .u64 (FW a 0 : Int), .int .u64 (FW a 1 : Int), .int .u64 (FW a 2 : Int), .int .u64 (FW a 3 : Int), .int .u64 (OW a 0 : Int), .int .u64 (OW a 1 : Int), .int .u64 (OW a 2 : Int), .int .u64 (OW a 3 : Int)] 74)
  have hgw : w.heap.size + 2 ≤ w1.heap.size := by have := hb1.size; simp at this; omega
  clear hb1 hc1 hf1
  go_loopw [5, 17] (fun v i wr => ∃ k : Nat, k ≤ 4 ∧ i = .int .i64 k ∧ wr.heap[w.heap.size]? = some (.cells (#[.int .i64 (a.length : Int), .int .u64 (FW a 0 : Int), .int .u64 (FW a 1 : Int), .int .u64 (FW a 2 : Int), .int .u64 (FW a 3 : Int), .int .u64 (OW a 0 : Int), .int .u64 (OW a 1 : Int), .int .u64 (OW a 2 : Int), .int .u64 (OW a 3 : Int)]) 74 (0, 0)) ∧ wr.heap[w.heap.size + 1]? = some (.cells (#[.int .i64 (b.length : Int), .int .u64 (FW b 0 : Int), .int .u64 (FW b 1 : Int), .int .u64 (FW b 2 : Int), .int .u64 (FW b 3 : Int), .int .u64 (OW b 0 : Int), .int .u64 (OW b 1 : Int), .int .u64 (OW b 2 : Int), .int .u64 (OW b 3 : Int)]) 74 (0, 0)) ∧ wr.heap[w1.heap.size]? = some (.cells (#[.int .i64 ((rsT a b (64 * k)).length : Int), .int .u64 (FW (rsT a b (64 * k)) 0 : Int), .int .u64 (FW (rsT a b (64 * k)) 1 : Int), .int .u64 (FW (rsT a b (64 * k)) 2 : Int), .int .u64 (FW (rsT a b (64 * k)) 3 : Int), .int .u64 (OW (rsT a b (64 * k)) 0 : Int), .int .u64 (OW (rsT a b (64 * k)) 1 : Int), .int .u64 (OW (rsT a b (64 * k)) 2 : Int), .int .u64 (OW (rsT a b (64 * k)) 3 : Int)]) 74 (0, 0)) ∧ wr.ownsRow (w1.heap.size + 1) 74 9 v (pcs a b (64 * k)).length (cels (pcs a b (64 * k))) ∧ Below w.heap.size w wr ∧ w1.heap.size + 1 ≤ wr.heap.size) (fun _ i _ => 4 - (intOf i).toNat)
  case atStart => exact ⟨0, by omega, rfl, hA1, hB1, hR1, World.ownsRow_nil _ _ _ _, hW1, by simp⟩
  case round =>
    clear hA1 hB1 hR1 hW1
    obtain ⟨k, hk, rfl, hA, hBb, hR, hown, hB, hsz⟩ := hrel
    by_cases hk4 : k < 4
    · skip
      have cA := cellF (cells_block hA).1 hk4
      have cB := cellF (cells_block hBb).1 hk4
      have hst := opn_start a b k
      have j0 : (0 : Int) ≤ (k : Int) := by omega
      have j1 : (k : Int) < 4 := by omega
      go_wp2
      go_quiet (fail)
      go_wp2
      go_loopw [5, 8] (fun v o wr => ∃ i : Nat, i ≤ 64 ∧ o = .int .u64 ((opn a b k i : Nat) : Int) ∧ wr.heap[w.heap.size]? = some (.cells (#[.int .i64 (a.length : Int), .int .u64 (FW a 0 : Int), .int .u64 (FW a 1 : Int), .int .u64 (FW a 2 : Int), .int .u64 (FW a 3 : Int), .int .u64 (OW a 0 : Int), .int .u64 (OW a 1 : Int), .int .u64 (OW a 2 : Int), .int .u64 (OW a 3 : Int)]) 74 (0, 0)) ∧ wr.heap[w.heap.size + 1]? = some (.cells (#[.int .i64 (b.length : Int), .int .u64 (FW b 0 : Int), .int .u64 (FW b 1 : Int), .int .u64 (FW b 2 : Int), .int .u64 (FW b 3 : Int), .int .u64 (OW b 0 : Int), .int .u64 (OW b 1 : Int), .int .u64 (OW b 2 : Int), .int .u64 (OW b 3 : Int)]) 74 (0, 0)) ∧ wr.heap[w1.heap.size]? = some (.cells (#[.int .i64 ((rsT a b (64 * k + i)).length : Int), .int .u64 (FW (rsT a b (64 * k + i)) 0 : Int), .int .u64 (FW (rsT a b (64 * k + i)) 1 : Int), .int .u64 (FW (rsT a b (64 * k + i)) 2 : Int), .int .u64 (FW (rsT a b (64 * k + i)) 3 : Int), .int .u64 (OW (rsT a b (64 * k + i)) 0 : Int), .int .u64 (OW (rsT a b (64 * k + i)) 1 : Int), .int .u64 (OW (rsT a b (64 * k + i)) 2 : Int), .int .u64 (OW (rsT a b (64 * k + i)) 3 : Int)]) 74 (0, 0)) ∧ wr.ownsRow (w1.heap.size + 1) 74 9 v (pcs a b (64 * k + i)).length (cels (pcs a b (64 * k + i))) ∧ Below w.heap.size w wr ∧ w1.heap.size + 1 ≤ wr.heap.size) (fun _ o _ => (intOf o).toNat)
      case atStart => exact ⟨0, by omega, rfl, hA, hBb, hR, hown, hB.trans (below_drewN _ _ _), hsz⟩
      case round =>
        clear hA hBb hR hown hB hsz cA cB hst
        obtain ⟨i, hi64, rfl, hA, hBb, hR, hown, hB, hsz⟩ := hrel
        by_cases hO0 : opn a b k i = 0
        · have hzq := opn_zero a b k i hO0
          have hrs := rs_skip a b hl.out (64 * k + i) (64 * (k + 1)) (by omega) (fun j h1 h2 => by have := hzq (j - 64 * k) (by omega) (by omega); rwa [show 64 * k + (j - 64 * k) = j by omega] at this)
          have hpc := pcs_skip a b (64 * k + i) (64 * (k + 1)) (by omega) (fun j h1 h2 => by have := hzq (j - 64 * k) (by omega) (by omega); rwa [show 64 * k + (j - 64 * k) = j by omega] at this)
          rw [← hrs] at hR
          rw [← hpc] at hown
          rw [hO0]
          clear hzq hrs hpc hO0
          go_wp2
          go_roundw
          case rel => exact ⟨(k + 1), by omega, by go_num, hA, hBb, hR, hown, hB, hsz⟩
          case measure => simp [intOf]; omega
        · obtain ⟨r, hir, hr, hqu, hbet, hlow, hnext⟩ := opn_step a b k i hO0
          obtain ⟨O, hO⟩ : ∃ O, opn a b k i = O := ⟨_, rfl⟩
          have hne : ((O : Int) != 0) = true := by rw [← hO]; simp; omega
          have hOl : O < 18446744073709551616 := by rw [← hO]; exact opn_lt _ _ _ _
          rw [hO] at hlow
          rw [hO] at hnext
          have hp : 64 * k + r < a.length := qual_lt a b hl.out _ hqu
          have hRS := rs_skip a b hl.out (64 * k + i) (64 * k + r) (by omega) (fun j h1 h2 => by have := hbet (j - 64 * k) (by omega) (by omega); rwa [show 64 * k + (j - 64 * k) = j by omega] at this)
          have hPC := pcs_skip a b (64 * k + i) (64 * k + r) (by omega) (fun j h1 h2 => by have := hbet (j - 64 * k) (by omega) (by omega); rwa [show 64 * k + (j - 64 * k) = j by omega] at this)
          have hfixO := fun W => fix_oth a b k r W hk4 hr hl.out gb hqu
          have hfixD := fun W => fix_own a b k r W hk4 hr hl.out gb hqu
          have hPCn := pcs_len a b (64 * k + r)
          have hPS := pcs_succ a b _ hqu
          obtain ⟨X, hX⟩ : ∃ X, 2 ^ r = X := ⟨_, rfl⟩
          rw [hX] at hfixO hfixD
          have hbit : bits .and .u64 (O : Int) (IntKind.u64.wrap (-(O : Int))) = (X : Int) := by rw [← hX]; exact low_bits O r (by intro e; rw [e] at hO; exact hO0 hO) hOl hlow
          obtain ⟨N, hN⟩ : ∃ N, opn a b k (r + 1) = N := ⟨_, rfl⟩
          have hnx : bits .and .u64 (O : Int) (IntKind.u64.wrap ((O : Int) - 1)) = (N : Int) := by rw [← hN]; exact next_bits O _ (by intro e; rw [e] at hO; exact hO0 hO) hOl hnext
          have hnx2 : bits .and .u64 (O : Int) ((O : Int) - 1) = (N : Int) := by rw [← hN]; exact next_bits2 O _ (by intro e; rw [e] at hO; exact hO0 hO) hOl hnext
          have hNlt : N < O := by rw [← hN, ← hnext]; exact Nat.lt_of_le_of_lt Nat.and_le_right (by have : O ≠ 0 := (by intro e; rw [e] at hO; exact hO0 hO); omega)
          obtain ⟨RS, hRS1⟩ : ∃ RS, rsT a b (64 * k + r) = RS := ⟨_, rfl⟩
          obtain ⟨RN, hRN1⟩ : ∃ RN, rsT a b (64 * k + r + 1) = RN := ⟨_, rfl⟩
          obtain ⟨P, hP1⟩ : ∃ P, pcT a b (64 * k + r) = P := ⟨_, rfl⟩
          obtain ⟨L, hL1⟩ : ∃ L, pcs a b (64 * k + r) = L := ⟨_, rfl⟩
          rw [← hRS, hRS1] at hR
          rw [← hPC, hL1] at hown
          rw [hRS1, hP1] at hfixO
          rw [hRS1, hRN1] at hfixD
          rw [hL1] at hPCn
          have HO : Hid (opn a b k i = O) := hO
          have HN : Hid (opn a b k (r + 1) = N) := hN
          have HRN : Hid (rsT a b (64 * k + r + 1) = RN) := hRN1
          have HL : Hid (pcs a b (64 * k + r + 1) = L ++ [P]) := by unfold Hid; rw [hPS, hL1, hP1]
          have hfO : Hid (∀ W, Calls Tryz.prog 99 #[cubeV RS, .int .i64 k, .int .u64 (X : Int), .int .u64 (bits .xor .u64 (if IntKind.u64.signed = true then -1 else IntKind.u64.max) (OW b k : Int))] W fun e w' => e = .returned (cubeV P) ∧ Below W.heap.size W w') := hfixO
          have hfD : Hid (∀ W, Calls Tryz.prog 99 #[cubeV RS, .int .i64 k, .int .u64 (X : Int), .int .u64 (OW b k : Int)] W fun e w' => e = .returned (cubeV RN) ∧ Below W.heap.size W w') := hfixD
          rw [hO]
          clear hfixO hfixD hO hN hRN1 hP1 hL1 hRS1 hRS hPC hPS hX hlow hnext hbet hO0
          have cR := (cells_block hR).1
          have cBb := cellO (cells_block hBb).1 hk4
          go_wp2
          go_region_held3 (fun W => (∀ j, W.cell? ⟨w1.heap.size, j, none⟩ = (#[.int .i64 (RS.length : Int), .int .u64 (FW RS 0 : Int), .int .u64 (FW RS 1 : Int), .int .u64 (FW RS 2 : Int), .int .u64 (FW RS 3 : Int), .int .u64 (OW RS 0 : Int), .int .u64 (OW RS 1 : Int), .int .u64 (OW RS 2 : Int), .int .u64 (OW RS 3 : Int)] : Array Value)[j]?) ∧ W.cell? ⟨w.heap.size + 1, 5 + k, none⟩ = some (.int .u64 (OW b k : Int))) (first | exact ⟨cR, cBb⟩ | exact ⟨(cellkeepS hbU (by exact lt_of_get hR) cR), (cell1keep hbU (by exact lt_of_get hBb) cBb)⟩ | exact ⟨allockeepS (Nat.lt_of_lt_of_le (lt_of_get hR) hbU.size) (cellkeepS hbU (by exact lt_of_get hR) cR) _, alloc1keep (Nat.lt_of_lt_of_le (lt_of_get hBb) hbU.size) (cell1keep hbU (by exact lt_of_get hBb) cBb) _⟩ | exact ⟨cellgrowS hgrow (ltA (Nat.lt_of_lt_of_le (lt_of_get hR) hbU.size) _) (fun e => by have := (hown.lt _ e.symm).1; omega) (allockeepS (Nat.lt_of_lt_of_le (lt_of_get hR) hbU.size) (cellkeepS hbU (by exact lt_of_get hR) cR) _), cell1grow hgrow (ltA (Nat.lt_of_lt_of_le (lt_of_get hBb) hbU.size) _) (fun e => by have := (hown.lt _ e.symm).1; omega) (alloc1keep (Nat.lt_of_lt_of_le (lt_of_get hBb) hbU.size) (cell1keep hbU (by exact lt_of_get hBb) cBb) _)⟩) (first | (go_at_call 99; refine (hfO.out _).mono ?_; rintro e wU ⟨rfl, hbU⟩; unfold cubeV cv) | (refine step_append_lies _ (by rfl) _ _ _ (by rfl) (w1.heap.size + 1) 74 i0 _ 9 72 Tryz.underlying137 hi hz0 hz1 hz2 rfl (by omega) u5 L.length (cels L) (by rfl) (World.ownsRow.alloc (owns_below hown (undrewS hbU)) _) ⟨wU.heap.size, 0, none⟩ 1 1 (cel P) (by rfl) (by rfl) (World.news_of_block (cs := #[.int .i64 (P.length : Int), .int .u64 (FW P 0 : Int), .int .u64 (FW P 1 : Int), .int .u64 (FW P 2 : Int), .int .u64 (FW P 3 : Int), .int .u64 (OW P 0 : Int), .int .u64 (OW P 1 : Int), .int .u64 (OW P 2 : Int), .int .u64 (OW P 3 : Int)]) (t := 74) (fr := (0, 0)) (heap_alloc_new wU _)) (by simp [cel, Value.oneCell']) (by omega) (by unfold maxLen; omega) (by omega) (by have hzz := hbU.size; simp at hzz ⊢; omega) (wU.heap.size + 1) (by simp) ?_; intro gg cap w2 hown2 hgrow hat hlt))
          have zU : wr.heap.size ≤ wU.heap.size := hbU.size
          have hA2 := growblk hgrow (allocblk (keepblk (undrewS hbU) hA) _) (fun e => by have := (hown.lt _ e.symm).1; omega)
          have hBb2 := growblk hgrow (allocblk (keepblk (undrewS hbU) hBb) _) (fun e => by have := (hown.lt _ e.symm).1; omega)
          have hR2 := growblk hgrow (allocblk (keepblk (undrewS hbU) hR) _) (fun e => by have := (hown.lt _ e.symm).1; omega)
          have hB2 := bel_app2 (bel0 hB (undrewS hbU)) (owns_below hown (undrewS hbU)) hgrow (by omega)
          have hz2' : w1.heap.size + 1 ≤ w2.heap.size := by have := hgrow.size; simp at this; omega
          clear hat hgrow hbU cR cBb hA hBb hR hB hown zU hsz
          have cR := (cells_block hR2).1
          have cBb := cellO (cells_block hBb2).1 hk4
          go_wp2
          go_region_with (go_at_call 99; refine (hfD.out _).mono ?_; rintro e wV ⟨rfl, hbV⟩; unfold cubeV cv; have hRV := keepblk (undrewS hbV) hR2; have cRV := (cells_block hRV).1; have fRV := (cells_block hRV).2)
          all_goals
            have hAV := keepblk (undrewS hbV) hA2
            have hBV := keepblk (undrewS hbV) hBb2
            have hoV := owns_below hown2 (undrewS hbV)
            have hBeV := bel0 hB2 (undrewS hbV)
            have zV : w2.heap.size ≤ wV.heap.size := hbV.size
            have HPL : Hid ((pcs a b (64 * k + (r + 1))).length = L.length + 1) := by unfold Hid; rw [show pcs a b (64 * k + (r + 1)) = L ++ [P] from HL.out]; simp
            have HPC : Hid (cels (pcs a b (64 * k + (r + 1))) = cels L ++ cel P) := by unfold Hid; rw [show pcs a b (64 * k + (r + 1)) = L ++ [P] from HL.out]; exact cels_snoc L P
            have HPR : Hid (rsT a b (64 * k + (r + 1)) = RN) := HRN.out
            clear hA2 hBb2 hR2 hown2 hB2 cR cBb hbV
            go_wp2
            go_roundw
            case rel =>
              exact ⟨r + 1, by omega, by rw [HN.out], put9_ne _ _ _ _ _ _ _ _ _ (by omega) hAV, put9_ne _ _ _ _ _ _ _ _ _ (by omega) hBV, (by rw [HPR.out]; exact put9_get _ _ _ _ _ _ _ _ _ hRV), (by rw [HPL.out, HPC.out]; exact own_put9 _ _ _ _ _ _ _ _ _ hoV (by omega)), put9_below _ _ _ _ _ _ _ _ _ hBeV (by omega), put9_szle _ _ _ _ _ _ _ _ _ (by omega)⟩
            case measure => simp [intOf]; omega
    · have hkk : k = 4 := by omega
      subst hkk
      have hfin := pcs_skip a b a.length (64 * 4) (by omega) (fun j h1 h2 => by
        cases e : qual a b j
        · rfl
        · have := qual_lt a b hl.out j e; omega)
      rw [hfin] at hown
      have hown' := own_base hown (show w.heap.size ≤ w1.heap.size + 1 by omega)
      clear hfin hown
      go_wp2
      go_ret
      exact ⟨_, rfl, hown', hB⟩
end Go.Proofs.YtnobpeghofoniaaGreatDoor.Tn
namespace Go.Proofs.YtnobpeghofoniaaGreatDoor.Tn
open Go.RowKit
theorem split_any (a b : List UInt8) (L : List (List UInt8)) (w : World) (ha : good a = true) (gb : good b = true) (hL : splT a b = L) :
    Calls Tryz.prog 95 #[cubeV a, cubeV b] w fun e w' => ∃ v, e = .returned v ∧ w'.ownsRow w.heap.size 74 9 v L.length (cels L) ∧ Below w.heap.size w w' := by
  subst hL
  unfold splT
  cases h : agB a b
  · exact split_no a b w ha h
  · exact split_try a b w ha gb h

theorem cels_get (L : List (List UInt8)) (k m : Nat) (hm : m < 9) : (cels L)[k * 9 + m]? = (L[k]?).bind (fun t => (cel t)[m]?) := by
  induction L generalizing k with
  | nil => simp [cels]
  | cons t l ih =>
    have hc : cels (t :: l) = cel t ++ cels l := rfl
    have hl : (cel t).length = 9 := rfl
    rw [hc]
    cases k with
    | zero =>
      rw [List.getElem?_append_left (by rw [hl]; omega)]
      simp
    | succ k =>
      rw [List.getElem?_append_right (by rw [hl]; omega), hl, show (k + 1) * 9 + m - 9 = k * 9 + m by omega, ih]
      simp

theorem own_cel {W : World} {B g cap k : Nat} {L : List (List UInt8)} (hown : W.ownsRow B 74 9 (.slice (some ⟨g, 0, none⟩) L.length cap) L.length (cels L)) (hk : k < L.length) (m : Nat) (hm : m < 9) : W.cell? ⟨g, k * 9 + m, none⟩ = (cel L[k])[m]? := by
  rw [hown.cellAt (k * 9 + m) (by omega), cels_get L k m hm, List.getElem?_eq_getElem hk]
  rfl

theorem good_set (t : List UInt8) (p : Nat) (x : UInt8) (ht : good t = true) (hx : tri x = true) : good (t.set p x) = true := by
  simp only [good, Bool.and_eq_true, decide_eq_true_eq, List.all_eq_true, List.length_set] at ht ⊢
  refine ⟨ht.1, fun y hy => ?_⟩
  rcases List.mem_or_eq_of_mem_set hy with h | rfl
  · exact ht.2 y h
  · exact hx

theorem good_pcs (a b : List UInt8) (hl : a.length = b.length) (ga : good a = true) (gb : good b = true) (p : Nat) : ∀ x ∈ pcs a b p, good x = true := by
  induction p with
  | zero => intro x hx; simp [pcs] at hx
  | succ p ih =>
    cases hq : qual a b p
    · have hs : ∀ k, p ≤ k → k < p + 1 → qual a b k = false := by
        intro k h1 h2
        have e : k = p := by omega
        subst e
        exact hq
      rw [pcs_skip a b p (p + 1) (by omega) hs]
      exact ih
    · rw [pcs_succ a b p hq]
      intro x hx
      rcases List.mem_append.1 hx with h | h
      · exact ih x h
      · rw [List.mem_singleton] at h
        subst h
        exact good_set _ _ _ (rs_good a b hl ga gb p) (by unfold oth; split <;> decide)

theorem good_spl (a b : List UInt8) (hl : a.length = b.length) (ga : good a = true) (gb : good b = true) : ∀ x ∈ splT a b, good x = true := by
  unfold splT
  split
  · exact good_pcs a b hl ga gb _
  · intro x hx
    rw [List.mem_singleton] at hx
    subst hx
    exact ga

theorem spl_len (a b : List UInt8) (ha : a.length ≤ 256) : (splT a b).length ≤ 256 := by
  unfold splT
  split
  · have := pcs_len a b a.length; omega
  · simp

end Go.Proofs.YtnobpeghofoniaaGreatDoor.Tn
