import Derived.Test.YtbdnpbiimbeflaaM
namespace Go.Proofs.Ytbdnpbiimbeflaa

/-- p holds at every place below n -/
def allTo (p : Nat → Bool) : Nat → Bool
  | 0 => true
  | k + 1 => allTo p k && p k

theorem allTo_iff (p : Nat → Bool) (n : Nat) : allTo p n = true ↔ ∀ k, k < n → p k = true := by
  induction n with
  | zero => simp [allTo]
  | succ n ih =>
    simp only [allTo, Bool.and_eq_true, ih]
    constructor
    · rintro ⟨h1, h2⟩ k hk
      by_cases e : k = n
      · subst e; exact h2
      · exact h1 k (by omega)
    · intro h
      exact ⟨fun k hk => h k (by omega), h n (by omega)⟩

theorem allTo_false {p : Nat → Bool} {n : Nat} (k : Nat) (hk : k < n) (h : p k = false) : allTo p n = false := by
  rw [Bool.eq_false_iff]
  intro e
  rw [allTo_iff] at e
  rw [e k hk] at h
  cases h

theorem allTo_congr {p q : Nat → Bool} {n : Nat} (h : ∀ k, k < n → p k = q k) : allTo p n = allTo q n := by
  rw [Bool.eq_iff_iff, allTo_iff, allTo_iff]
  constructor
  · intro e k hk; rw [← h k hk]; exact e k hk
  · intro e k hk; rw [h k hk]; exact e k hk

/-- at place k one has 0 and the other 1 -/
def cfl (a b : List UInt8) (k : Nat) : Bool := fx a k && fx b k && (on a k ^^ on b k)
/-- the words that agrees looks at -/
def cw (a b : List UInt8) (w : Nat) : Bool := bits .and .u64 (bits .and .u64 (FW a w : Int) (FW b w : Int)) (bits .xor .u64 (OW a w : Int) (OW b w : Int)) != 0

theorem xor_lt {a b : Nat} (ha : a < 18446744073709551616) (hb : b < 18446744073709551616) : a ^^^ b < 18446744073709551616 := Nat.xor_lt_two_pow (n := 64) ha hb
theorem and_lt {a : Nat} (b : Nat) (ha : a < 18446744073709551616) : a &&& b < 18446744073709551616 := Nat.lt_of_le_of_lt Nat.and_le_left ha
theorem or_lt {a b : Nat} (ha : a < 18446744073709551616) (hb : b < 18446744073709551616) : a ||| b < 18446744073709551616 := Nat.or_lt_two_pow (n := 64) ha hb

theorem cw_false (a b : List UInt8) (w : Nat) : cw a b w = false ↔ ∀ i, i < 64 → cfl a b (64 * w + i) = false := by
  unfold cw
  rw [u64_and_nat _ _ (FW_lt _ _) (FW_lt _ _), u64_xor_nat _ _ (OW_lt _ _) (OW_lt _ _), u64_and_nat _ _ (and_lt _ (FW_lt _ _)) (xor_lt (OW_lt _ _) (OW_lt _ _))]
  have hbit : ∀ i, (FW a w &&& FW b w &&& (OW a w ^^^ OW b w)).testBit i = (decide (i < 64) && cfl a b (64 * w + i)) := by
    intro i
    rw [Nat.testBit_and, Nat.testBit_and, Nat.testBit_xor, FW_bit, FW_bit, OW_bit, OW_bit]
    unfold cfl
    by_cases hi : i < 64 <;> simp [hi]
  generalize FW a w &&& FW b w &&& (OW a w ^^^ OW b w) = x at hbit ⊢
  constructor
  · intro h i hi
    have hx : x = 0 := by
      rw [bne_eq_false_iff_eq] at h
      omega
    have := hbit i
    rw [hx] at this
    simp [hi] at this
    exact this.symm ▸ rfl
  · intro h
    have hx : x = 0 := by
      apply Nat.eq_of_testBit_eq
      intro i
      rw [hbit i, Nat.zero_testBit]
      by_cases hi : i < 64
      · rw [h i hi]; simp
      · simp [hi]
    rw [hx]; rfl

/-- two cubes that fit -/
def fitB (a b : List UInt8) : Bool := !a.isEmpty && (a.length == b.length)
/-- they fit and nowhere one has 0 and the other 1 -/
def agB (a b : List UInt8) : Bool := fitB a b && allTo (fun k => !cfl a b k) a.length

theorem cfl_out (a b : List UInt8) (k : Nat) (h : a.length ≤ k) : cfl a b k = false := by
  unfold cfl fx
  rw [List.getElem?_eq_none h]; simp

theorem ag_words (a b : List UInt8) (ha : good a = true) : allTo (fun k => !cfl a b k) a.length = (!cw a b 0 && !cw a b 1 && !cw a b 2 && !cw a b 3) := by
  have hl := good_len ha
  rw [Bool.eq_iff_iff, allTo_iff]
  simp only [Bool.and_eq_true, Bool.not_eq_true', cw_false]
  constructor
  · intro h
    have g : ∀ k, cfl a b k = false := by
      intro k
      by_cases hk : k < a.length
      · exact h k hk
      · exact cfl_out a b k (by omega)
    exact ⟨⟨⟨fun i _ => g _, fun i _ => g _⟩, fun i _ => g _⟩, fun i _ => g _⟩
  · rintro ⟨⟨⟨h0, h1⟩, h2⟩, h3⟩ k hk
    have hk4 : k / 64 < 4 := by omega
    have e : k = 64 * (k / 64) + k % 64 := by omega
    have hm : k % 64 < 64 := by omega
    rcases (show k / 64 = 0 ∨ k / 64 = 1 ∨ k / 64 = 2 ∨ k / 64 = 3 by omega) with q | q | q | q <;> rw [q] at e <;> rw [e]
    · exact h0 _ hm
    · exact h1 _ hm
    · exact h2 _ hm
    · exact h3 _ hm

/-- P1.5: the text of what two cubes have in common -/
def meetT (a b : List UInt8) : List UInt8 := List.zipWith (fun x y => if x == 120 then y else x) a b

theorem fitB_len {a b : List UInt8} (h : fitB a b = true) : a.length = b.length := by simp [fitB] at h; exact h.2
theorem agB_fit {a b : List UInt8} (h : agB a b = true) : fitB a b = true := by simp [agB] at h; exact h.1
theorem agB_cfl {a b : List UInt8} (h : agB a b = true) (k : Nat) : cfl a b k = false := by
  by_cases hk : k < a.length
  · simp only [agB, Bool.and_eq_true, allTo_iff] at h
    simpa using h.2 k hk
  · exact cfl_out a b k (by omega)

theorem meetT_len (a b : List UInt8) (h : a.length = b.length) : (meetT a b).length = a.length := by simp [meetT]; omega
theorem meetT_get (a b : List UInt8) (h : a.length = b.length) (k : Nat) (hk : k < a.length) : (meetT a b)[k]? = some (if a[k] == 120 then b[k]'(by omega) else a[k]) := by
  unfold meetT
  rw [List.getElem?_zipWith, List.getElem?_eq_getElem hk, List.getElem?_eq_getElem (show k < b.length by omega)]

theorem fx_meet (a b : List UInt8) (h : a.length = b.length) (k : Nat) : fx (meetT a b) k = (fx a k || fx b k) := by
  by_cases hk : k < a.length
  · have hb : k < b.length := by omega
    simp only [fx, meetT_get a b h k hk, List.getElem?_eq_getElem hk, List.getElem?_eq_getElem hb]
    generalize a[k] = x
    generalize b[k] = y
    by_cases e : x = 120 <;> simp [e]
  · simp only [fx]
    rw [List.getElem?_eq_none (by rw [meetT_len a b h]; omega), List.getElem?_eq_none (by omega), List.getElem?_eq_none (by omega)]; rfl

theorem on_meet (a b : List UInt8) (h : a.length = b.length) (k : Nat) (hc : cfl a b k = false) : on (meetT a b) k = (on a k || on b k) := by
  by_cases hk : k < a.length
  · have hb : k < b.length := by omega
    simp only [cfl, fx, on, meetT_get a b h k hk, List.getElem?_eq_getElem hk, List.getElem?_eq_getElem hb] at hc ⊢
    generalize a[k] = x at *
    generalize b[k] = y at *
    by_cases e : x = 120
    · subst e; simp
    · by_cases e2 : y = 120
      · subst e2; simp [e]
      · simp [e, e2] at hc ⊢
        by_cases e3 : x = 49 <;> by_cases e4 : y = 49 <;> simp_all
  · simp only [on]
    rw [List.getElem?_eq_none (by rw [meetT_len a b h]; omega), List.getElem?_eq_none (by omega), List.getElem?_eq_none (by omega)]; rfl

theorem FW_meet (a b : List UInt8) (h : a.length = b.length) (w : Nat) : bits .or .u64 (FW a w : Int) (FW b w : Int) = (FW (meetT a b) w : Nat) := by
  rw [u64_or_nat _ _ (FW_lt _ _) (FW_lt _ _)]
  congr 1
  apply Nat.eq_of_testBit_eq
  intro i
  rw [Nat.testBit_or, FW_bit, FW_bit, FW_bit, fx_meet a b h]
  by_cases hi : i < 64 <;> simp [hi]
theorem OW_meet (a b : List UInt8) (h : a.length = b.length) (hc : ∀ k, cfl a b k = false) (w : Nat) : bits .or .u64 (OW a w : Int) (OW b w : Int) = (OW (meetT a b) w : Nat) := by
  rw [u64_or_nat _ _ (OW_lt _ _) (OW_lt _ _)]
  congr 1
  apply Nat.eq_of_testBit_eq
  intro i
  rw [Nat.testBit_or, OW_bit, OW_bit, OW_bit, on_meet a b h _ (hc _)]
  by_cases hi : i < 64 <;> simp [hi]

theorem good_zip (f : UInt8 → UInt8 → UInt8) (a b : List UInt8) (ha : good a = true) (hb : good b = true) (hf : ∀ x y, tri x = true → tri y = true → tri (f x y) = true) : good (List.zipWith f a b) = true := by
  have h1 := good_len ha
  simp only [good, Bool.and_eq_true, decide_eq_true_eq, List.all_eq_true]
  refine ⟨by simp; omega, ?_⟩
  intro x hx
  obtain ⟨k, hk, rfl⟩ := List.getElem_of_mem hx
  simp at hk
  rw [List.getElem_zipWith]
  exact hf _ _ (good_tri ha k (by omega)) (good_tri hb k (by omega))

theorem good_meet (a b : List UInt8) (ha : good a = true) (hb : good b = true) : good (meetT a b) = true :=
  good_zip _ a b ha hb (fun x y hx hy => by split <;> assumption)

/-- what Meet answers -/
def mtT (a b : List UInt8) : List UInt8 := if agB a b = true then meetT a b else []
theorem good_mtT (a b : List UInt8) (ha : good a = true) (hb : good b = true) : good (mtT a b) = true := by
  unfold mtT; split
  · exact good_meet a b ha hb
  · exact good_nil

/-- P1.6 -/
def wiB (a b : List UInt8) : Bool := fitB a b && allTo (fun k => match a[k]?, b[k]? with | some x, some y => y == 120 || x == y | _, _ => true) a.length

end Go.Proofs.Ytbdnpbiimbeflaa
