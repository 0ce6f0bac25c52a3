import Derived.Lib.TrimByte
import Derived.Lib.Join
import Derived.Lib.IndexAny
import Derived.Laws.BitsAllLaws
import Derived.Test.YtnobpeghofoniaaGreatDoorZ1
import Derived.Laws.IdiomStrings
import Derived.Shelf.Strings.Trim
import Derived.Shelf.Strings.IndexAnyAll
import Derived.Shelf.Strings.OnBuilder
import Derived.Ground.NamesProg
import Derived.Test.YtnobpeghofoniaaGreatDoorProg
import Derived.Test.YtnobpeghofoniaaGreatDoorZ40
import Derived.Test.YtnobpeghofoniaaGreatDoorZ13
import Derived.Test.YtnobpeghofoniaaGreatDoorZ2
import Derived.Lib.IndexLaws
import Derived.Test.YtnobpeghofoniaaGreatDoorZ8
import Derived.Test.YtnobpeghofoniaaGreatDoorZ46
import Derived.Test.YtnobpeghofoniaaGreatDoorZ39
import Derived.Test.YtnobpeghofoniaaGreatDoorZ36
namespace Go.Proofs.YtnobpeghofoniaaGreatDoor
/-- how many bytes are no x, and whether they stand ahead of all x, as the document counts them -/
def cntS : List UInt8 → Nat → Bool → Nat → Nat × Bool
  | [], n, f, _ => (n, f)
  | c :: r, n, f, i => if c = 120 then cntS r n f (i + 1) else cntS r (n + 1) (f && decide (n + 1 = i + 1)) (i + 1)
theorem cnt_step {s : List UInt8} {k : Nat} {c : UInt8} (h : s[k]? = some c) (n : Nat) (f : Bool) : cntS (s.drop k) n f k = if c = 120 then cntS (s.drop (k + 1)) n f (k + 1) else cntS (s.drop (k + 1)) (n + 1) (f && decide (n + 1 = k + 1)) (k + 1) := by
  obtain ⟨hk, e⟩ := List.getElem?_eq_some_iff.1 h
  rw [List.drop_eq_getElem_cons hk, e, cntS]
theorem cnt_num : ∀ (r : List UInt8) (n : Nat) (f : Bool) (i : Nat), (cntS r n f i).1 = n + r.countP (fun c => c != 120)
  | [], n, f, i => rfl
  | c :: r, n, f, i => by
    rw [cntS]
    by_cases h : c = 120
    · rw [if_pos h, cnt_num r, List.countP_cons, h]
      rfl
    · rw [if_neg h, cnt_num r, List.countP_cons, if_pos (by simpa using h)]
      omega
theorem cnt_false : ∀ (r : List UInt8) (n i : Nat), (cntS r n false i).2 = false
  | [], n, i => rfl
  | c :: r, n, i => by
    rw [cntS]
    split
    · exact cnt_false r _ _
    · exact cnt_false r _ _
theorem cnt_lt : ∀ (r : List UInt8) (n : Nat) (f : Bool) (i : Nat), n < i → (∃ c ∈ r, c ≠ 120) → (cntS r n f i).2 = false
  | [], n, f, i, _, h => by obtain ⟨c, h, _⟩ := h; simp at h
  | c :: r, n, f, i, hn, h => by
    rw [cntS]
    by_cases e : c = 120
    · rw [if_pos e]
      refine cnt_lt r n f (i + 1) (by omega) ?_
      obtain ⟨d, h1, h2⟩ := h
      rcases List.mem_cons.1 h1 with rfl | h1
      · exact absurd e h2
      · exact ⟨d, h1, h2⟩
    · rw [if_neg e, decide_eq_false (by omega), Bool.and_false]
      exact cnt_false r _ _
theorem cnt_mem : ∀ (r : List UInt8) (n : Nat) (f : Bool) (i : Nat) (c : UInt8), n ≤ i → 120 ∈ r → c ≠ 120 → (cntS (r ++ [c]) n f i).2 = false
  | [], n, f, i, c, _, h, _ => by simp at h
  | d :: r, n, f, i, c, hn, h, hc => by
    rw [List.cons_append, cntS]
    by_cases e : d = 120
    · rw [if_pos e]
      exact cnt_lt _ n f (i + 1) (by omega) ⟨c, by simp, hc⟩
    · rw [if_neg e]
      refine cnt_mem r (n + 1) _ (i + 1) c (by omega) ?_ hc
      rcases List.mem_cons.1 h with h | h
      · exact absurd h.symm e
      · exact h
theorem cnt_all : ∀ (r : List UInt8) (n : Nat), (∀ c ∈ r, c ≠ 120) → cntS r n true n = (n + r.length, true)
  | [], n, _ => rfl
  | c :: r, n, h => by
    rw [cntS, if_neg (h c (by simp)), decide_eq_true rfl, Bool.and_true, cnt_all r (n + 1) (fun d hd => h d (by simp [hd])), List.length_cons]
    congr 1
    omega
theorem cnt_xs : ∀ (r : List UInt8) (m n : Nat) (f : Bool) (i : Nat), cntS (r ++ List.replicate m 120) n f i = cntS r n f i
  | [], 0, n, f, i => rfl
  | [], m + 1, n, f, i => by
    rw [List.nil_append, List.replicate_succ]
    show (if (120 : UInt8) = 120 then cntS (List.replicate m 120) n f (i + 1) else _) = _
    rw [if_pos rfl]
    exact cnt_xs [] m n f (i + 1)
  | c :: r, m, n, f, i => by
    rw [List.cons_append, cntS, cntS]
    split
    · exact cnt_xs r m _ _ _
    · exact cnt_xs r m _ _ _
theorem drop_rep : ∀ l : List UInt8, ∃ m, l = List.replicate m 120 ++ l.dropWhile (· == 120)
  | [] => ⟨0, rfl⟩
  | c :: l => by
    by_cases e : c = 120
    · obtain ⟨m, h⟩ := drop_rep l
      refine ⟨m + 1, ?_⟩
      rw [List.dropWhile_cons, if_pos (by simpa using e), List.replicate_succ, List.cons_append, ← h, e]
    · refine ⟨0, ?_⟩
      rw [List.dropWhile_cons, if_neg (by simpa using e)]
      rfl
theorem drop_head : ∀ (l : List UInt8) (c : UInt8) (r : List UInt8), l.dropWhile (· == 120) = c :: r → c ≠ 120
  | [], c, r, h => by simp at h
  | d :: l, c, r, h => by
    rw [List.dropWhile_cons] at h
    split at h
    · exact drop_head l c r h
    · rename_i e
      injection h with h1 _
      subst h1
      simpa using e
/-- a text is what is ahead of its last x, and these -/
theorem trim_rep (D : List UInt8) : ∃ m, D = Lib.trimRightB D 120 ++ List.replicate m 120 := by
  obtain ⟨m, h⟩ := drop_rep D.reverse
  refine ⟨m, ?_⟩
  unfold Lib.trimRightB
  have := congrArg List.reverse h
  rw [List.reverse_reverse, List.reverse_append, List.reverse_replicate] at this
  exact this
theorem trim_last (D : List UInt8) : Lib.trimRightB D 120 = [] ∨ ∃ r c, Lib.trimRightB D 120 = r ++ [c] ∧ c ≠ 120 := by
  unfold Lib.trimRightB
  cases h : D.reverse.dropWhile (· == 120) with
  | nil => exact .inl rfl
  | cons c r => exact .inr ⟨r.reverse, c, by simp, drop_head _ _ _ h⟩
theorem cnt_trim (D : List UInt8) : (120 ∈ Lib.trimRightB D 120 → (cntS D 0 true 0).1 < D.length ∧ (cntS D 0 true 0).2 = false) ∧ (120 ∉ Lib.trimRightB D 120 → cntS D 0 true 0 = ((Lib.trimRightB D 120).length, true)) := by
  obtain ⟨m, hm⟩ := trim_rep D
  have hl := trim_last D
  obtain ⟨A, hA⟩ : ∃ A, Lib.trimRightB D 120 = A := ⟨_, rfl⟩
  rw [hA] at hm hl ⊢
  have e := cnt_xs A m 0 true 0
  rw [← hm] at e
  constructor
  · intro h
    rcases hl with rfl | ⟨r, c, rfl, hc⟩
    · simp at h
    · have hr : 120 ∈ r := by
        rcases List.mem_append.1 h with h | h
        · exact h
        · exact absurd (List.mem_singleton.1 h).symm hc
      refine ⟨?_, by rw [e]; exact cnt_mem r 0 true 0 c (Nat.le_refl _) hr hc⟩
      rw [cnt_num, Nat.zero_add]
      have h1 := List.countP_le_length (p := fun c : UInt8 => c != 120) (l := D)
      rcases Nat.lt_or_ge (D.countP fun c => c != 120) D.length with h2 | h2
      · exact h2
      · have := (List.countP_eq_length (p := fun c : UInt8 => c != 120) (l := D)).1 (by omega) 120 (by rw [hm]; simp [hr])
        simp at this
  · intro h
    rw [e, cnt_all A 0 (fun c hc e => h (e ▸ hc)), Nat.zero_add]
theorem cnt_le (D : List UInt8) : (cntS D 0 true 0).1 ≤ D.length := by
  rw [cnt_num, Nat.zero_add]
  exact List.countP_le_length
theorem cnt_zero {D : List UInt8} (h : D.all (fun c => c == 48 || c == 49 || c == 120) = true) : (cntS D 0 true 0).1 = 0 ↔ D.any (fun c => c == 48 || c == 49) = false := by
  rw [cnt_num, Nat.zero_add, List.countP_eq_zero, List.any_eq_false]
  refine ⟨fun h1 c hc => ?_, fun h1 c hc => ?_⟩
  · have := h1 c hc
    simp only [bne_iff_ne, ne_eq, Decidable.not_not] at this
    rw [this]
    decide
  · have h2 := h1 c hc
    have h3 := List.all_eq_true.1 h c hc
    simp only [Bool.or_eq_true, beq_iff_eq, not_or] at h2 h3
    simp only [bne_iff_ne, ne_eq, Decidable.not_not]
    rcases h3 with h3 | h3
    · exact absurd h3 (by simpa using h2)
    · exact h3
theorem any_has : ∀ D : List UInt8, Lib.containsAny D [48, 49] = D.any (fun c => c == 48 || c == 49)
  | [] => rfl
  | c :: D => by
    have ih := any_has D
    have hge := Lib.indexAny_ge [48, 49] D
    unfold Lib.containsAny at ih ⊢
    rw [Lib.indexAny, List.any_cons, ← ih]
    have hc : ([48, 49] : List UInt8).contains c = (c == 48 || c == 49) := by
      show (c == 48 || (c == 49 || false)) = _
      rw [Bool.or_false]
    rw [hc]
    cases h : (c == 48 || c == 49) with
    | true => rfl
    | false =>
      simp only [Bool.false_eq_true, if_false, Bool.false_or]
      by_cases e : Lib.indexAny D [48, 49] = -1
      · rw [e]
        rfl
      · rw [if_neg (by simpa using e)]
        congr 1
        simp only [eq_iff_iff]
        omega
theorem join_snoc : ∀ (T : List (List UInt8)) (x sep : List UInt8), T ≠ [] → Lib.join (T ++ [x]) sep = Lib.join T sep ++ sep ++ x
  | [], x, sep, h => absurd rfl h
  | y :: T, x, sep, _ => by
    rw [List.cons_append, Lib.join_cons, Lib.join_cons, Lib.joinTail, List.map_append, List.flatten_append, ← Lib.joinTail]
    simp [List.append_assoc]
theorem join_ne {T : List (List UInt8)} {sep : List UInt8} (h : T ≠ []) (hx : ∀ x ∈ T, x ≠ []) : Lib.join T sep ≠ [] := by
  cases T with
  | nil => exact absurd rfl h
  | cons y T =>
    rw [Lib.join_cons]
    intro e
    exact hx y (by simp) (List.append_eq_nil_iff.1 e).1
theorem join_le {T : List (List UInt8)} {sep : List UInt8} {B : Nat} (hs : sep.length ≤ B) (h : ∀ x ∈ T, x.length ≤ B) : (Lib.join T sep).length ≤ T.length * (2 * B) := by
  cases T with
  | nil => simp [Lib.join_nil]
  | cons y T =>
    rw [Lib.join_cons, List.length_append, Lib.joinTail_length]
    have h1 := h y (by simp)
    have h2 : Lib.lens T ≤ T.length * B := by
      have hT : ∀ x ∈ T, x.length ≤ B := fun x hx => h x (by simp [hx])
      clear h h1
      induction T with
      | nil => simp [Lib.lens]
      | cons z T ih =>
        have := ih (fun x hx => hT x (by simp [hx]))
        have h3 := hT z (by simp)
        simp only [Lib.lens, List.map_cons, List.sum_cons, List.length_cons] at this ⊢
        rw [Nat.succ_mul]
        omega
    have h3 : sep.length * T.length ≤ T.length * B := by rw [Nat.mul_comm]; exact Nat.mul_le_mul_left _ hs
    rw [List.length_cons, Nat.succ_mul, show T.length * (2 * B) = T.length * B + T.length * B by rw [← Nat.mul_add]; congr 1; omega]
    omega
end Go.Proofs.YtnobpeghofoniaaGreatDoor
namespace Go.Proofs.YtnobpeghofoniaaGreatDoor.Tn

/-- the number whose bits below n are p's -/
def wd (p : Nat → Bool) : Nat → Nat
  | 0 => 0
  | n + 1 => wd p n ||| (if p n then 2 ^ n else 0)

theorem wd_lt (p : Nat → Bool) (n : Nat) : wd p n < 2 ^ n := by
  induction n with
  | zero => simp [wd]
  | succ n ih =>
    have h1 : 2 ^ n < 2 ^ (n + 1) := Nat.pow_lt_pow_right (by omega) (by omega)
    unfold wd
    refine Nat.or_lt_two_pow (by omega) ?_
    split
    · exact h1
    · omega

theorem wd_bit (p : Nat → Bool) (n i : Nat) : (wd p n).testBit i = (decide (i < n) && p i) := by
  induction n with
  | zero => simp [wd]
  | succ n ih =>
    unfold wd
    rw [Nat.testBit_or, ih]
    by_cases h : i = n
    · subst h
      cases p i <;> simp
    · have h2 : (if p n then 2 ^ n else 0).testBit i = false := by
        cases p n <;> simp [Nat.testBit_two_pow]
        omega
      rw [h2, Bool.or_false]
      congr 1
      simp
      omega

theorem wd_congr (p q : Nat → Bool) (n : Nat) (h : ∀ i, i < n → p i = q i) : wd p n = wd q n := by
  apply Nat.eq_of_testBit_eq
  intro i
  rw [wd_bit, wd_bit]
  by_cases hi : i < n
  · rw [h i hi]
  · simp [hi]

theorem wd_zero (p : Nat → Bool) (n : Nat) (h : ∀ i, i < n → p i = false) : wd p n = 0 := by
  apply Nat.eq_of_testBit_eq
  intro i
  rw [wd_bit]
  by_cases hi : i < n
  · simp [h i hi]
  · simp [hi]

/-- has the text a digit at place k -/
def fx (t : List UInt8) (k : Nat) : Bool := match t[k]? with | some b => b != 120 | none => false
/-- has the text a 1 at place k -/
def on (t : List UInt8) (k : Nat) : Bool := match t[k]? with | some b => b == 49 | none => false
def FW (t : List UInt8) (w : Nat) : Nat := wd (fun i => fx t (64 * w + i)) 64
def OW (t : List UInt8) (w : Nat) : Nat := wd (fun i => on t (64 * w + i)) 64

theorem FW_lt (t : List UInt8) (w : Nat) : FW t w < 18446744073709551616 := wd_lt _ 64
theorem OW_lt (t : List UInt8) (w : Nat) : OW t w < 18446744073709551616 := wd_lt _ 64
theorem FW_bit (t : List UInt8) (w i : Nat) : (FW t w).testBit i = (decide (i < 64) && fx t (64 * w + i)) := wd_bit _ _ _
theorem OW_bit (t : List UInt8) (w i : Nat) : (OW t w).testBit i = (decide (i < 64) && on t (64 * w + i)) := wd_bit _ _ _

def tri (b : UInt8) : Bool := b == 48 || b == 49 || b == 120
def good (t : List UInt8) : Bool := decide (t.length ≤ 256) && t.all tri

theorem good_len {t : List UInt8} (h : good t = true) : t.length ≤ 256 := by
  simp [good] at h; exact h.1
theorem good_tri {t : List UInt8} (h : good t = true) (k : Nat) (hk : k < t.length) : tri t[k] = true := by
  simp [good] at h; exact h.2 _ (List.getElem_mem hk)

theorem pow_lt64 (r : Nat) (h : r < 64) : 2 ^ r < 18446744073709551616 := by
  have : 2 ^ r < 2 ^ 64 := Nat.pow_lt_pow_right (by omega) h
  exact this

/-- a word and one bit: 0 just if the bit is not there -/
theorem and_bit (x r : Nat) : (x &&& 2 ^ r == 0) = !x.testBit r := by
  rw [nat_bit, ← Nat.shiftRight_eq_div_pow]
  have hp : 0 < 2 ^ r := Nat.two_pow_pos r
  have h : x.testBit r = decide (x >>> r % 2 = 1) := Nat.testBit_eq_decide_div_mod_eq ▸ by rw [Nat.shiftRight_eq_div_pow]
  rw [h]
  rcases Nat.mod_two_eq_zero_or_one (x >>> r) with e | e
  · simp [e]
  · simp [e]

theorem bits_and_bit (x r : Nat) (hx : x < 18446744073709551616) (hr : r < 64) : (bits .and .u64 (x : Int) ((2 ^ r : Nat) : Int) == 0) = !x.testBit r := by
  rw [u64_and_nat x (2 ^ r) hx (pow_lt64 r hr), ← and_bit x r]
  rw [Bool.eq_iff_iff]
  simp only [beq_iff_eq]
  omega

theorem FW_at (t : List UInt8) (k r : Nat) (hr : r < 64) : (bits .and .u64 (FW t k : Int) ((2 ^ r : Nat) : Int) == 0) = !fx t (64 * k + r) := by
  rw [bits_and_bit _ _ (FW_lt _ _) hr, FW_bit]; simp [hr]
theorem OW_at (t : List UInt8) (k r : Nat) (hr : r < 64) : (bits .and .u64 (OW t k : Int) ((2 ^ r : Nat) : Int) == 0) = !on t (64 * k + r) := by
  rw [bits_and_bit _ _ (OW_lt _ _) hr, OW_bit]; simp [hr]

/-- what 'at' answers -/
theorem at_eq (t : List UInt8) (p : Nat) (hp : p < t.length) (ht : tri t[p] = true) :
    (if (!fx t p) = true then (120 : Int) else if (!on t p) = true then 48 else 49) = (t[p].toNat : Int) := by
  have h0 : t[p]? = some t[p] := List.getElem?_eq_getElem hp
  simp only [fx, on, h0]
  generalize t[p] = b at *
  simp [tri] at ht
  rcases ht with (rfl | rfl) | rfl <;> simp

theorem fx_set (t : List UInt8) (p j : Nat) (b : UInt8) (hb : b ≠ 120) (hp : p < t.length) : fx (t.set p b) j = (fx t j || decide (j = p)) := by
  unfold fx
  by_cases h : j = p
  · subst h
    simp [List.getElem?_set_self hp, hb]
  · rw [List.getElem?_set_ne (by omega)]; simp [h]

theorem on_set (t : List UInt8) (p j : Nat) (b : UInt8) (hp : p < t.length) (hx : t[p] = 120) : on (t.set p b) j = (on t j || (decide (j = p) && (b == 49))) := by
  unfold on
  by_cases h : j = p
  · subst h
    simp [List.getElem?_set_self hp, List.getElem?_eq_getElem hp, hx]
  · rw [List.getElem?_set_ne (by omega)]; simp [h]

theorem FW_set_ne (t : List UInt8) (k j r : Nat) (b : UInt8) (hr : r < 64) (hb : b ≠ 120) (hp : 64 * k + r < t.length) (hj : j ≠ k) : FW (t.set (64 * k + r) b) j = FW t j := by
  apply wd_congr
  intro i hi
  rw [fx_set _ _ _ _ hb hp]
  have : 64 * j + i ≠ 64 * k + r := by omega
  simp [this]

theorem OW_set_ne (t : List UInt8) (k j r : Nat) (b : UInt8) (hr : r < 64) (hp : 64 * k + r < t.length) (hx : t[64 * k + r] = 120) (hj : j ≠ k) : OW (t.set (64 * k + r) b) j = OW t j := by
  apply wd_congr
  intro i hi
  rw [on_set _ _ _ _ hp hx]
  have : 64 * j + i ≠ 64 * k + r := by omega
  simp [this]

theorem FW_set (t : List UInt8) (k r : Nat) (b : UInt8) (hr : r < 64) (hb : b ≠ 120) (hp : 64 * k + r < t.length) :
    bits .or .u64 (FW t k : Int) ((2 ^ r : Nat) : Int) = (FW (t.set (64 * k + r) b) k : Nat) := by
  rw [u64_or_nat _ _ (FW_lt _ _) (pow_lt64 r hr)]
  congr 1
  apply Nat.eq_of_testBit_eq
  intro i
  rw [Nat.testBit_or, FW_bit, FW_bit, Nat.testBit_two_pow, fx_set _ _ _ _ hb hp]
  by_cases hi : i < 64
  · by_cases h : r = i
    · subst h; simp [hi]
    · have h2 : ¬ i = r := by omega
      simp [hi, h, h2]
  · have : ¬ r = i := by omega
    simp [hi, this]

/-- the digit that a word has at a bit -/
def dg (D r : Nat) : UInt8 := if D.testBit r then 49 else 48
theorem dg_ne (D r : Nat) : dg D r ≠ 120 := by unfold dg; split <;> decide
theorem dg_49 (D r : Nat) : (dg D r == 49) = D.testBit r := by unfold dg; cases D.testBit r <;> simp

theorem OW_set (t : List UInt8) (k r D : Nat) (hr : r < 64) (hD : D < 18446744073709551616) (hp : 64 * k + r < t.length) (hx : t[64 * k + r] = 120) :
    bits .or .u64 (OW t k : Int) (bits .and .u64 ((2 ^ r : Nat) : Int) (D : Int)) = (OW (t.set (64 * k + r) (dg D r)) k : Nat) := by
  have hand : 2 ^ r &&& D < 18446744073709551616 := Nat.lt_of_le_of_lt Nat.and_le_right hD
  rw [u64_and_nat _ _ (pow_lt64 r hr) hD, u64_or_nat _ _ (OW_lt _ _) hand]
  congr 1
  apply Nat.eq_of_testBit_eq
  intro i
  rw [Nat.testBit_or, Nat.testBit_and, OW_bit, OW_bit, Nat.testBit_two_pow, on_set _ _ _ _ hp hx, dg_49]
  by_cases hi : i < 64
  · by_cases h : r = i
    · subst h; simp [hi]
    · have h2 : ¬ i = r := by omega
      simp [hi, h, h2]
  · have : ¬ r = i := by omega
    simp [hi, this]

theorem FW_all (n w : Nat) : FW (List.replicate n 120) w = 0 := by
  apply wd_zero
  intro i _
  unfold fx
  rw [List.getElem?_replicate]
  split <;> simp_all
theorem OW_all (n w : Nat) : OW (List.replicate n 120) w = 0 := by
  apply wd_zero
  intro i _
  unfold on
  rw [List.getElem?_replicate]
  by_cases h : 64 * w + i < n <;> simp [h]

/-- the cube that has been read so far -/
def st (t : List UInt8) (k : Nat) : List UInt8 := t.take k ++ List.replicate (t.length - k) 120
theorem st_len (t : List UInt8) (k : Nat) (h : k ≤ t.length) : (st t k).length = t.length := by simp [st]; omega
theorem st_zero (t : List UInt8) : st t 0 = List.replicate t.length 120 := by simp [st]
theorem st_all (t : List UInt8) : st t t.length = t := by simp [st]
theorem st_get (t : List UInt8) (k : Nat) (h : k < t.length) : (st t k)[k]'(by rw [st_len _ _ (by omega)]; exact h) = 120 := by
  unfold st
  rw [List.getElem_append_right (by simp; omega)]
  simp
theorem st_succ (t : List UInt8) (k : Nat) (h : k < t.length) : (st t k).set k t[k] = st t (k + 1) := by
  apply List.ext_getElem?
  intro i
  by_cases hi : i = k
  · subst hi
    rw [List.getElem?_set_self (by rw [st_len _ _ (by omega)]; exact h)]
    unfold st
    rw [List.getElem?_append_left (by simp; omega), List.getElem?_take_of_lt (by omega), List.getElem?_eq_getElem h]
  · rw [List.getElem?_set_ne (by omega)]
    unfold st
    rw [List.getElem?_append, List.getElem?_append]
    simp only [List.length_take, List.getElem?_take, List.getElem?_replicate]
    repeat' split
    all_goals first | rfl | omega | skip
theorem st_skip (t : List UInt8) (k : Nat) (h : k < t.length) (hx : t[k] = 120) : st t (k + 1) = st t k := by
  rw [← st_succ t k h, hx]
  have := st_get t k h
  rw [← this]
  exact List.set_getElem_self _

theorem tri_of (t : List UInt8) (k : Nat) (h : k < t.length) (ht : tri t[k] = true) : t[k] = 48 ∨ t[k] = 49 ∨ t[k] = 120 := by
  generalize t[k] = b at *
  simp [tri] at ht
  rcases ht with (h | h) | h
  · exact .inl h
  · exact .inr (.inl h)
  · exact .inr (.inr h)

/-- equality of cubes, place by place -/
theorem eq_of_words (a b : List UInt8) (ha : good a = true) (hb : good b = true) (hl : a.length = b.length)
    (hf : ∀ w, w < 4 → FW a w = FW b w) (ho : ∀ w, w < 4 → OW a w = OW b w) : a = b := by
  apply List.ext_getElem hl
  intro i h1 h2
  have l1 := good_len ha
  have hw : i / 64 < 4 := by omega
  have e1 : (FW a (i / 64)).testBit (i % 64) = (FW b (i / 64)).testBit (i % 64) := by rw [hf _ hw]
  have e2 : (OW a (i / 64)).testBit (i % 64) = (OW b (i / 64)).testBit (i % 64) := by rw [ho _ hw]
  rw [FW_bit, FW_bit] at e1
  rw [OW_bit, OW_bit] at e2
  have hi : 64 * (i / 64) + i % 64 = i := by omega
  have hlt : i % 64 < 64 := by omega
  rw [hi] at e1 e2
  simp only [hlt, decide_true, Bool.true_and] at e1 e2
  simp only [fx, on, List.getElem?_eq_getElem h1, List.getElem?_eq_getElem h2] at e1 e2
  have ta := good_tri ha i h1
  have tb := good_tri hb i h2
  generalize a[i] = x at *
  generalize b[i] = y at *
  simp [tri] at ta tb
  rcases ta with (rfl | rfl) | rfl <;> rcases tb with (rfl | rfl) | rfl <;> simp_all

def wordsEq (a b : List UInt8) : Bool := ((a.length : Int) == (b.length : Int)) && ((FW a 0 : Int) == (FW b 0 : Int)) && ((FW a 1 : Int) == (FW b 1 : Int)) && ((FW a 2 : Int) == (FW b 2 : Int)) && ((FW a 3 : Int) == (FW b 3 : Int)) && ((OW a 0 : Int) == (OW b 0 : Int)) && ((OW a 1 : Int) == (OW b 1 : Int)) && ((OW a 2 : Int) == (OW b 2 : Int)) && ((OW a 3 : Int) == (OW b 3 : Int))

theorem wordsEq_eq (a b : List UInt8) (ha : good a = true) (hb : good b = true) : wordsEq a b = (a == b) := by
  rw [Bool.eq_iff_iff]
  constructor
  · intro h
    simp only [wordsEq, Bool.and_eq_true, beq_iff_eq] at h
    obtain ⟨⟨⟨⟨⟨⟨⟨⟨h0, h1⟩, h2⟩, h3⟩, h4⟩, h5⟩, h6⟩, h7⟩, h8⟩ := h
    have : a = b := by
      apply eq_of_words a b ha hb (by omega)
      · intro w hw
        match w, hw with
        | 0, _ => omega
        | 1, _ => omega
        | 2, _ => omega
        | 3, _ => omega
      · intro w hw
        match w, hw with
        | 0, _ => omega
        | 1, _ => omega
        | 2, _ => omega
        | 3, _ => omega
    subst this; simp
  · intro h
    have : a = b := by simpa using h
    subst this
    simp [wordsEq]

/-- P1.2: the error of a text -/
def refP (t : List UInt8) : Int := if 256 < t.length then 2 else if t = [] then 10 else if t.all tri = true then 0 else 10
/-- the text of the cube that Parse answers -/
def cubeT (t : List UInt8) : List UInt8 := if refP t = 0 then t else []

theorem refP_zero (t : List UInt8) : refP t = 0 ↔ (t ≠ [] ∧ good t = true) := by
  unfold refP good
  by_cases h1 : 256 < t.length
  · simp [h1]; omega
  · by_cases h2 : t = []
    · simp [h2]
    · by_cases h3 : t.all tri = true
      · simp [h1, h2, h3]; omega
      · simp [h1, h2, h3]

theorem good_nil : good [] = true := by decide
theorem good_cubeT (t : List UInt8) : good (cubeT t) = true := by
  unfold cubeT
  split
  · exact ((refP_zero t).1 ‹_›).2
  · exact good_nil
theorem cubeT_nil_iff (t : List UInt8) (h : refP t ≠ 0) : cubeT t = [] := by unfold cubeT; rw [if_neg h]
theorem cubeT_self (t : List UInt8) (h : refP t = 0) : cubeT t = t := by unfold cubeT; rw [if_pos h]
theorem cubeT_good (t : List UInt8) (h : good t = true) : cubeT t = t := by
  by_cases hn : t = []
  · subst hn; decide
  · exact cubeT_self t ((refP_zero t).2 ⟨hn, h⟩)
theorem good_replicate (n : Nat) (h : n ≤ 256) : good (List.replicate n 120) = true := by
  simp [good, h, tri]

end Go.Proofs.YtnobpeghofoniaaGreatDoor.Tn
namespace Go.Proofs.YtnobpeghofoniaaGreatDoor.Tn
open Go.RowKit

/-- the value of the cube of a text -/
def cubeV (t : List UInt8) : Value := cv t.length (FW t 0) (FW t 1) (FW t 2) (FW t 3) (OW t 0) (OW t 1) (OW t 2) (OW t 3)

theorem cubeV_all (n : Nat) : cubeV (List.replicate n 120) = cv n 0 0 0 0 0 0 0 0 := by
  unfold cubeV; simp only [FW_all, OW_all, List.length_replicate]; rfl

theorem all_any (n : Int) (w : World) : Calls Tryz.prog 33 #[.int .i64 n] w fun e w' => e = .returned (cubeV (if 1 ≤ n ∧ n ≤ 256 then List.replicate n.toNat 120 else [])) ∧ Below w.heap.size w w' := by
  by_cases h : 1 ≤ n ∧ n ≤ 256
  · rw [if_pos h]
    refine (all_yes n w h.1 h.2).mono ?_
    rintro e w' ⟨rfl, hb⟩
    refine ⟨?_, hb⟩
    rw [cubeV_all]
    have : ((n.toNat : Nat) : Int) = n := by omega
    rw [this]
  · rw [if_neg h]
    refine (all_no n w (by omega)).mono ?_
    rintro e w' ⟨rfl, hb⟩
    refine ⟨?_, hb⟩
    have := cubeV_all 0
    rw [List.replicate_zero] at this
    rw [this]; rfl

theorem fix_any (t : List UInt8) (k r D : Nat) (w : World) (hk : k < 4) (hr : r < 64) (hD : D < 18446744073709551616) (hp : 64 * k + r < t.length) (hx : t[64 * k + r] = 120) :
    Calls Tryz.prog 99 #[cubeV t, .int .i64 k, .int .u64 ((2 ^ r : Nat) : Int), .int .u64 (D : Int)] w fun e w' => e = .returned (cubeV (t.set (64 * k + r) (dg D r))) ∧ Below w.heap.size w w' := by
  have h1 := FW_set t k r (dg D r) hr (dg_ne D r) hp
  have h2 := OW_set t k r D hr hD hp hx
  have g1 := fun j hj => FW_set_ne t k j r (dg D r) hr (dg_ne D r) hp hj
  have g2 := fun j hj => OW_set_ne t k j r (dg D r) hr hp hx hj
  have hl : (t.set (64 * k + r) (dg D r)).length = t.length := by simp
  match k, hk with
  | 0, _ =>
    refine (fix_0 _ _ _ _ _ _ _ _ _ _ _ w).mono ?_
    rintro e w' ⟨rfl, hb⟩
    refine ⟨?_, hb⟩
    rw [h1, h2]
    unfold cubeV
    rw [g1 1 (by decide), g1 2 (by decide), g1 3 (by decide), g2 1 (by decide), g2 2 (by decide), g2 3 (by decide), hl]
  | 1, _ =>
    refine (fix_1 _ _ _ _ _ _ _ _ _ _ _ w).mono ?_
    rintro e w' ⟨rfl, hb⟩
    refine ⟨?_, hb⟩
    rw [h1, h2]
    unfold cubeV
    rw [g1 0 (by decide), g1 2 (by decide), g1 3 (by decide), g2 0 (by decide), g2 2 (by decide), g2 3 (by decide), hl]
  | 2, _ =>
    refine (fix_2 _ _ _ _ _ _ _ _ _ _ _ w).mono ?_
    rintro e w' ⟨rfl, hb⟩
    refine ⟨?_, hb⟩
    rw [h1, h2]
    unfold cubeV
    rw [g1 0 (by decide), g1 1 (by decide), g1 3 (by decide), g2 0 (by decide), g2 1 (by decide), g2 3 (by decide), hl]
  | 3, _ =>
    refine (fix_3 _ _ _ _ _ _ _ _ _ _ _ w).mono ?_
    rintro e w' ⟨rfl, hb⟩
    refine ⟨?_, hb⟩
    rw [h1, h2]
    unfold cubeV
    rw [g1 0 (by decide), g1 1 (by decide), g1 2 (by decide), g2 0 (by decide), g2 1 (by decide), g2 2 (by decide), hl]

theorem at_any (t : List UInt8) (p : Int) (q : Nat) (w : World) (hg : good t = true) (hp : p = (q : Int)) (hq : q < t.length) :
    Calls Tryz.prog 67 #[cubeV t, .int .i64 p] w fun e w' => e = .returned (.int .u8 (t[q].toNat : Int)) ∧ Below w.heap.size w w' := by
  have hl := good_len hg
  have ht := good_tri hg q hq
  have hkr : ∃ k r, k < 4 ∧ r < 64 ∧ q = 64 * k + r := ⟨q / 64, q % 64, by omega, by omega, by omega⟩
  obtain ⟨k, r, hk, hr, rfl⟩ := hkr
  have e := at_eq t (64 * k + r) hq ht
  rw [← FW_at t k r hr, ← OW_at t k r hr] at e
  match k, hk with
  | 0, _ =>
    refine (at_0 _ _ _ _ _ _ _ _ _ p r w hr hp).mono ?_
    rintro e' w' ⟨rfl, hb⟩
    exact ⟨by rw [e], hb⟩
  | 1, _ =>
    refine (at_1 _ _ _ _ _ _ _ _ _ p r w hr hp).mono ?_
    rintro e' w' ⟨rfl, hb⟩
    exact ⟨by rw [e], hb⟩
  | 2, _ =>
    refine (at_2 _ _ _ _ _ _ _ _ _ p r w hr hp).mono ?_
    rintro e' w' ⟨rfl, hb⟩
    exact ⟨by rw [e], hb⟩
  | 3, _ =>
    refine (at_3 _ _ _ _ _ _ _ _ _ p r w hr hp).mono ?_
    rintro e' w' ⟨rfl, hb⟩
    exact ⟨by rw [e], hb⟩
end Go.Proofs.YtnobpeghofoniaaGreatDoor.Tn
namespace Go.Proofs.YtnobpeghofoniaaGreatDoor.Tn
open Go.RowKit

theorem info_u8 : (Tryz.prog.info? 5).map (fun i => (i.zero, i.size, i.bytes)) = some (some (.int .u8 0), 1, 1) := by kernel_rfl

theorem grown_of_below {w w' : World} (h : Below w.heap.size w w') (row : Option Nat) : w.grownBy w' row :=
  ⟨h.os, h.tape, h.output, h.size, fun k hk _ => h.block k hk⟩

theorem owns_below {w w' : World} {base : Nat} {e : TypeId} {size : Nat} {v : Value} {n : Nat} {xs : List Value} (h : w.ownsRow base e size v n xs) (hb : Below w.heap.size w w') : w'.ownsRow base e size v n xs := by
  refine h.kept (grown_of_below hb none) ?_
  cases v.ownBlock <;> simp

/-- the cells of a text's bytes -/
def bys (t : List UInt8) : List Value := t.map fun b => .int .u8 (b.toNat : Int)
/-- the row behind k bytes -/
def rowAt (t : List UInt8) (k : Nat) : List Value := bys (t.take k) ++ List.replicate (t.length - k) (.int .u8 0)

theorem rowAt_len (t : List UInt8) (k : Nat) (h : k ≤ t.length) : (rowAt t k).length = t.length := by simp [rowAt, bys]; omega
theorem rowAt_all (t : List UInt8) : rowAt t t.length = bys t := by simp [rowAt]
theorem rowAt_zero (t : List UInt8) : rowAt t 0 = List.replicate t.length (.int .u8 0) := by simp [rowAt, bys]
theorem rowAt_get (t : List UInt8) (k : Nat) (h : k < t.length) : (rowAt t k)[k]? = some (.int .u8 0) := by
  unfold rowAt bys
  rw [List.getElem?_append_right (by simp; omega)]
  have h1 : min k t.length = k := by omega
  have h2 : 0 < t.length - k := by omega
  simp [h1, h2]
theorem rowAt_succ (t : List UInt8) (k : Nat) (h : k < t.length) : (rowAt t k).set k (.int .u8 (t[k].toNat : Int)) = rowAt t (k + 1) := by
  unfold rowAt bys
  have hs : t.take (k + 1) = t.take k ++ [t[k]] := List.take_succ_eq_append_getElem h
  have : t.length - k = (t.length - (k + 1)) + 1 := by omega
  rw [this, List.replicate_succ, List.set_append_right _ _ (by simp; omega), hs, List.map_append]
  simp [Nat.min_eq_left (Nat.le_of_lt h)]

theorem add_plain (b o j : Nat) : (⟨b, o, none⟩ : Addr).add j = ⟨b, o + j, none⟩ := by unfold Addr.add; split <;> simp_all

/-- 'string(b)' of a row of the call's own -/
theorem conv_owned (W : World) (B g cap : Nat) (t : List UInt8) (hown : W.ownsRow B 5 1 (.slice (some ⟨g, 0, none⟩) t.length cap) t.length (bys t)) :
    (convert 32 9 (.slice (some ⟨g, 0, none⟩) t.length cap)).run Tryz.prog W = .ok (.string ⟨t.toArray⟩) W := by
  refine run_convert_bytes_back _ _ _ 5 _ _ t Tryz.underlying32 Tryz.underlying5 Tryz.underlying9 ?_
  intro j hj
  have := hown.cellAt j (by omega)
  rw [add_plain, Nat.zero_add, this]
  simp [bys, List.getElem?_eq_getElem hj]

set_option maxHeartbeats 400000 in
theorem text_any (t : List UInt8) (w : World) (hg : good t = true) :
    Calls Tryz.prog 96 #[cubeV t] w fun e w' => e = .returned (.string ⟨t.toArray⟩) ∧ Below w.heap.size w w' := by
  have hl := good_len hg
  obtain ⟨i0, hi, hz0, hz1, hz2⟩ := info_parts info_u8
  unfold cubeV cv
  go_enter Tryz.func96, Tryz.ntmps96
  go_wp2_with (at_make; refine wpList_make_full _ rfl _ _ 32 rfl (w.heap.size + 1) 5 i0 (.int .u8 0) 1 Tryz.underlying32 hi hz0 hz1 .i64 .i64 _ _ t.length rfl rfl rfl rfl (by rw [hz2]; omega) (by unfold maxLen; omega) (by simp) ?_; intro w1 hown hgrow)
  have hB : Below (w.heap.size + 1) (w.alloc (.cells #[.int .i64 (t.length : Int), .int .u64 (FW t 0 : Int), .int .u64 (FW t 1 : Int), .int .u64 (FW t 2 : Int), .int .u64 (FW t 3 : Int), .int .u64 (OW t 0 : Int), .int .u64 (OW t 1 : Int), .int .u64 (OW t 2 : Int), .int .u64 (OW t 3 : Int)] 74)) w1 := (Below.refl _ _).grown hgrow (by simp) (fun k h => by cases h)
  have hown' : w1.ownsRow (w.heap.size + 1) 5 1 (.slice (some ⟨w.heap.size + 1, 0, none⟩) t.length t.length) t.length (rowAt t 0) := by
    rw [rowAt_zero]
    have h1 : (madeCells (Value.int IntKind.u8 0).cells (t.length * 1)).toList = List.replicate t.length (.int .u8 0) := by rw [Nat.mul_one]; exact toList_madeCells_one _ _
    rw [h1] at hown
    simpa using hown
  clear hown hgrow
  go_loopw [10] (fun i wr => ∃ k : Nat, k ≤ t.length ∧ i = .int .i64 k ∧ wr.ownsRow (w.heap.size + 1) 5 1 (.slice (some ⟨w.heap.size + 1, 0, none⟩) t.length t.length) t.length (rowAt t k) ∧ Below (w.heap.size + 1) (w.alloc (.cells #[.int .i64 (t.length : Int), .int .u64 (FW t 0 : Int), .int .u64 (FW t 1 : Int), .int .u64 (FW t 2 : Int), .int .u64 (FW t 3 : Int), .int .u64 (OW t 0 : Int), .int .u64 (OW t 1 : Int), .int .u64 (OW t 2 : Int), .int .u64 (OW t 3 : Int)] 74)) wr) (fun i _ => t.length - (intOf i).toNat)
  case atStart => exact ⟨0, Nat.zero_le _, rfl, hown', hB⟩
  case round =>
    clear hB hown'
    obtain ⟨k, hk, rfl, hown, hB⟩ := hrel
    have hc : ∀ b o, b < w.heap.size + 1 → wr.cell? ⟨b, o, none⟩ = (w.alloc (.cells #[.int .i64 (t.length : Int), .int .u64 (FW t 0 : Int), .int .u64 (FW t 1 : Int), .int .u64 (FW t 2 : Int), .int .u64 (FW t 3 : Int), .int .u64 (OW t 0 : Int), .int .u64 (OW t 1 : Int), .int .u64 (OW t 2 : Int), .int .u64 (OW t 3 : Int)] 74)).cell? ⟨b, o, none⟩ := fun b o h => hB.cell (p := ⟨b, o, none⟩) h
    have hsz : w.heap.size + 1 ≤ wr.heap.size := by have := hB.size; simpa using this
    by_cases hlt : k < t.length
    · go_wp2_with (go_at_call 67; refine (at_any t _ k _ hg rfl hlt).mono ?_; rintro e w2 ⟨rfl, hb2⟩; have hown2 := owns_below hown hb2; have hc2 := (hown2.cellAt k (by omega)).trans (rowAt_get t k hlt); have hf2 := hown2.frozenAt k)
      go_roundw
      case rel =>
        refine ⟨k + 1, by omega, by go_num, ?_, ?_⟩
        · have := hown2.stored k (.int .u8 (t[k].toNat : Int))
          rw [rowAt_succ t k hlt] at this
          exact this.1
        · exact (hB.trans (hb2.mono hsz)).setCell (Nat.le_refl _) _
      case measure => simp [intOf]; omega
    · have hkn : k = t.length := by omega
      subst hkn
      rw [rowAt_all] at hown
      have hcv := conv_owned wr (w.heap.size + 1) (w.heap.size + 1) t.length t hown
      go_wp2
      go_ret
      exact ⟨rfl, ((Below.refl _ _).alloc (Nat.le_refl _) _).trans (hB.mono (by omega))⟩
end Go.Proofs.YtnobpeghofoniaaGreatDoor.Tn
namespace Go.Proofs.YtnobpeghofoniaaGreatDoor.Tn
open Go.RowKit

theorem cells_block {W : World} {b T : Nat} {cs : Array Value} (h : W.heap[b]? = some (.cells cs T (0, 0))) : (∀ j, W.cell? ⟨b, j, none⟩ = cs[j]?) ∧ ∀ j, W.frozen? ⟨b, j, none⟩ = false := by
  constructor
  · intro j; unfold World.cell?; rw [h]; simp
  · intro j; unfold World.frozen?; rw [h]; simp

set_option maxHeartbeats 400000 in
theorem parse_long (s : ByteArray) (w : World) (hs : s.size ≤ maxLen) (h : 256 < s.size) :
    Calls Tryz.prog 78 #[.string s] w fun e w' => e = .returned (.tuple #[cv 0 0 0 0 0 0 0 0 0, .int .i64 2]) ∧ Below w.heap.size w w' := by
  unfold maxLen at hs
  have h' : (256 : Int) < s.size := by omega
  go_enter Tryz.func78, Tryz.ntmps78
  go_wp2_with fail
  exact bodyPost_ret (v := .tuple #[cv 0 0 0 0 0 0 0 0 0, .int .i64 2]) (by simp [results, Tryz.results78, go_sem, cv]) rfl ⟨rfl, (Below.refl _ _).alloc (Nat.le_refl _) _⟩

set_option maxHeartbeats 400000 in
theorem parse_none (s : ByteArray) (w : World) (h : s.toList = []) :
    Calls Tryz.prog 78 #[.string s] w fun e w' => e = .returned (.tuple #[cv 0 0 0 0 0 0 0 0 0, .int .i64 10]) ∧ Below w.heap.size w w' := by
  have hz : s = ⟨#[]⟩ := by
    rw [ByteArray.toList_eq] at h
    obtain ⟨⟨l⟩⟩ := s
    simp at h
    subst h; rfl
  subst hz
  go_enter Tryz.func78, Tryz.ntmps78
  go_wp2_with fail
  exact bodyPost_ret (v := .tuple #[cv 0 0 0 0 0 0 0 0 0, .int .i64 10]) (by simp [results, Tryz.results78, go_sem, cv]) rfl ⟨rfl, (Below.refl _ _).alloc (Nat.le_refl _) _⟩

theorem alloc_get (w : World) (o : Obj) : (w.alloc o).heap[w.heap.size]? = some o := by
  show (w.heap.push o)[w.heap.size]? = _
  simp

theorem lt_of_get {w : World} {b : Nat} {o : Obj} (h : w.heap[b]? = some o) : b < w.heap.size := by
  rcases Nat.lt_or_ge b w.heap.size with h1 | h1
  · exact h1
  · rw [Array.getElem?_eq_none h1] at h; cases h

theorem set_get {W : World} {b j T : Nat} {m : Nat × Nat} {cs : Array Value} (v : Value) (h : W.heap[b]? = some (.cells cs T m)) : (W.setCell ⟨b, j, none⟩ v).heap[b]? = some (.cells (cs.setIfInBounds j v) T m) := by
  simp only [World.setCell, Array.getElem?_modify, if_pos, h, Option.map_some]
  simp

/-- nine cells stored, one behind the other -/
def put9 (W : World) (b : Nat) (v0 v1 v2 v3 v4 v5 v6 v7 v8 : Value) : World :=
  ((((((((W.setCell ⟨b, 0, none⟩ v0).setCell ⟨b, 1, none⟩ v1).setCell ⟨b, 2, none⟩ v2).setCell ⟨b, 3, none⟩ v3).setCell ⟨b, 4, none⟩ v4).setCell ⟨b, 5, none⟩ v5).setCell ⟨b, 6, none⟩ v6).setCell ⟨b, 7, none⟩ v7).setCell ⟨b, 8, none⟩ v8

theorem put9_get {W : World} {b T : Nat} {m : Nat × Nat} {x0 x1 x2 x3 x4 x5 x6 x7 x8 : Value} (v0 v1 v2 v3 v4 v5 v6 v7 v8 : Value) (h : W.heap[b]? = some (.cells #[x0, x1, x2, x3, x4, x5, x6, x7, x8] T m)) :
    (put9 W b v0 v1 v2 v3 v4 v5 v6 v7 v8).heap[b]? = some (.cells #[v0, v1, v2, v3, v4, v5, v6, v7, v8] T m) := by
  unfold put9
  have h0 := set_get (j := 0) v0 h
  have h1 := set_get (j := 1) v1 h0
  have h2 := set_get (j := 2) v2 h1
  have h3 := set_get (j := 3) v3 h2
  have h4 := set_get (j := 4) v4 h3
  have h5 := set_get (j := 5) v5 h4
  have h6 := set_get (j := 6) v6 h5
  have h7 := set_get (j := 7) v7 h6
  have h8 := set_get (j := 8) v8 h7
  rw [h8]
  simp

theorem put9_below {B : Nat} {a W : World} {b : Nat} (v0 v1 v2 v3 v4 v5 v6 v7 v8 : Value) (h : Below B a W) (hb : B ≤ b) : Below B a (put9 W b v0 v1 v2 v3 v4 v5 v6 v7 v8) :=
  ((((((((h.setCell (p := ⟨b, 0, none⟩) hb v0).setCell (p := ⟨b, 1, none⟩) hb v1).setCell (p := ⟨b, 2, none⟩) hb v2).setCell (p := ⟨b, 3, none⟩) hb v3).setCell (p := ⟨b, 4, none⟩) hb v4).setCell (p := ⟨b, 5, none⟩) hb v5).setCell (p := ⟨b, 6, none⟩) hb v6).setCell (p := ⟨b, 7, none⟩) hb v7).setCell (p := ⟨b, 8, none⟩) hb v8

theorem res_cube2 {fn : Func} {p u : Tmp} {m : Nat × Nat} (tmps : Array Value) (W : World) (b : Nat) (n a1 a2 a3 a4 o1 o2 o3 o4 : Int) (hr : fn.results = #[.cell p 74, .tmp u]) (hp : tmps.getD p undef = .pointer (some ⟨b, 0, none⟩))
    (h : W.heap[b]? = some (.cells #[.int .i64 n, .int .u64 a1, .int .u64 a2, .int .u64 a3, .int .u64 a4, .int .u64 o1, .int .u64 o2, .int .u64 o3, .int .u64 o4] 74 m)) :
    (results fn tmps).run Tryz.prog W = .ok (.tuple #[cv n a1 a2 a3 a4 o1 o2 o3 o4, tmps.getD u undef]) W := by
  have hc : ∀ j, W.cell? ⟨b, j, none⟩ = (#[.int .i64 n, .int .u64 a1, .int .u64 a2, .int .u64 a3, .int .u64 a4, .int .u64 o1, .int .u64 o2, .int .u64 o3, .int .u64 o4] : Array Value)[j]? := by
    intro j; unfold World.cell?; rw [h]; simp
  rw [results_cell_tmp hr, hp]
  simp [go_sem, cv, hc]

theorem res_cube1 {fn : Func} {p : Tmp} {m : Nat × Nat} (tmps : Array Value) (W : World) (b : Nat) (n a1 a2 a3 a4 o1 o2 o3 o4 : Int) (hr : fn.results = #[.cell p 74]) (hp : tmps.getD p undef = .pointer (some ⟨b, 0, none⟩))
    (h : W.heap[b]? = some (.cells #[.int .i64 n, .int .u64 a1, .int .u64 a2, .int .u64 a3, .int .u64 a4, .int .u64 o1, .int .u64 o2, .int .u64 o3, .int .u64 o4] 74 m)) :
    (results fn tmps).run Tryz.prog W = .ok (cv n a1 a2 a3 a4 o1 o2 o3 o4) W := by
  have hc : ∀ j, W.cell? ⟨b, j, none⟩ = (#[.int .i64 n, .int .u64 a1, .int .u64 a2, .int .u64 a3, .int .u64 a4, .int .u64 o1, .int .u64 o2, .int .u64 o3, .int .u64 o4] : Array Value)[j]? := by
    intro j; unfold World.cell?; rw [h]; simp
  have hp' : tmps[p]?.getD undef = .pointer (some ⟨b, 0, none⟩) := by simpa using hp
  simp [results, hr, hp', go_sem, cv, hc]

theorem fix48 (t : List UInt8) (p q r X : Nat) (w : World) (hq : q < 4) (hr : r < 64) (hX : X = 2 ^ r) (he : p = 64 * q + r) (hp : p < t.length) (hx : t[p] = 120) :
    Calls Tryz.prog 99 #[cubeV t, .int .i64 (q : Int), .int .u64 (X : Int), .int .u64 0] w fun e w' => e = .returned (cubeV (t.set p 48)) ∧ Below w.heap.size w w' := by
  subst he hX
  refine (fix_any t q r 0 w hq hr (by decide) hp hx).mono ?_
  rintro e w' ⟨rfl, hb⟩
  exact ⟨by simp [dg], hb⟩

theorem fix49 (t : List UInt8) (p q r X : Nat) (w : World) (hq : q < 4) (hr : r < 64) (hX : X = 2 ^ r) (he : p = 64 * q + r) (hp : p < t.length) (hx : t[p] = 120) :
    Calls Tryz.prog 99 #[cubeV t, .int .i64 (q : Int), .int .u64 (X : Int), .int .u64 (X : Int)] w fun e w' => e = .returned (cubeV (t.set p 49)) ∧ Below w.heap.size w w' := by
  subst he hX
  refine (fix_any t q r (2 ^ r) w hq hr (pow_lt64 r hr) hp hx).mono ?_
  rintro e w' ⟨rfl, hb⟩
  exact ⟨by simp [dg], hb⟩

theorem spotX (p q r X : Nat) (w : World) (hq : q < 4) (hr : r < 64) (hX : X = 2 ^ r) (he : p = 64 * q + r) :
    Calls Tryz.prog 92 #[.int .i64 (p : Int)] w fun e w' => e = .returned (.tuple #[.int .i64 (q : Int), .int .u64 (X : Int)]) ∧ ∃ n, w' = w.drewN n := by
  subst hX
  exact spot_at p q r w hq hr (by rw [he])

theorem byte_at (s : ByteArray) (k : Nat) (h : k < s.size) : s.data.toList[k]'(by simpa using h) = s[k] := rfl

theorem st_cells0 (s : ByteArray) : (#[.int .i64 (s.size : Int), .int .u64 0, .int .u64 0, .int .u64 0, .int .u64 0, .int .u64 0, .int .u64 0, .int .u64 0, .int .u64 0] : Array Value) = (fun t => #[.int .i64 (t.length : Int), .int .u64 (FW t 0 : Int), .int .u64 (FW t 1 : Int), .int .u64 (FW t 2 : Int), .int .u64 (FW t 3 : Int), .int .u64 (OW t 0 : Int), .int .u64 (OW t 1 : Int), .int .u64 (OW t 2 : Int), .int .u64 (OW t 3 : Int)]) (st s.data.toList 0) := by
  have h := cubeV_all s.data.toList.length
  rw [← st_zero] at h
  unfold cubeV cv at h
  have hl : s.data.toList.length = s.size := by simp
  simp only [Value.agg.injEq] at h
  rw [hl] at h
  exact h.symm

theorem tri_succ {s : ByteArray} {k : Nat} (hlt : k < s.size) (htri : ∀ j (h : j < s.data.toList.length), j < k → tri s.data.toList[j] = true) (hc : s[k] = 48 ∨ s[k] = 49 ∨ s[k] = 120) :
    ∀ j (h : j < s.data.toList.length), j < k + 1 → tri s.data.toList[j] = true := by
  intro j hj hjk
  by_cases e : j = k
  · subst e
    rw [byte_at s j hlt]
    rcases hc with h | h | h <;> rw [h] <;> decide
  · exact htri j hj (by omega)

theorem ne_byte {b : UInt8} {n : Nat} (h : b ≠ UInt8.ofNat n) : ((b.toNat : Int) == ((n : Nat) : Int)) = false := by
  rw [beq_eq_false_iff_ne]
  intro e
  have e2 : b.toNat = n := by omega
  apply h
  rw [← e2]
  simp

theorem parse_bad (s : ByteArray) (k : Nat) (hlt : k < s.size) (h2 : s.size ≤ 256) (c48 : ¬ s[k] = 48) (c49 : ¬ s[k] = 49) (c120 : ¬ s[k] = 120) : refP s.data.toList = 10 ∧ cubeT s.data.toList = [] := by
  have hlen : s.data.toList.length = s.size := by simp
  have hall : ¬ s.data.toList.all tri = true := by
    intro h
    rw [List.all_eq_true] at h
    have := h s[k] (by rw [← byte_at s k hlt]; exact List.getElem_mem _)
    simp [tri, c48, c49, c120] at this
  have h1 : refP s.data.toList = 10 := by
    unfold refP
    rw [if_neg (by omega)]
    split <;> rfl
  refine ⟨h1, ?_⟩
  unfold cubeT
  rw [h1]; rfl

theorem parse_good (s : ByteArray) (h1 : 1 ≤ s.size) (h2 : s.size ≤ 256) (h : ∀ j (h : j < s.data.toList.length), tri s.data.toList[j] = true) : refP s.data.toList = 0 ∧ cubeT s.data.toList = s.data.toList := by
  have hlen : s.data.toList.length = s.size := by simp
  have hz : refP s.data.toList = 0 := by
    rw [refP_zero]
    refine ⟨?_, ?_⟩
    · intro e; rw [e] at hlen; simp at hlen; omega
    · unfold good
      rw [Bool.and_eq_true, List.all_eq_true]
      refine ⟨by simp; omega, ?_⟩
      intro x hx
      obtain ⟨j, hj, rfl⟩ := List.getElem_of_mem hx
      exact h j hj
  exact ⟨hz, cubeT_self _ hz⟩

theorem cubeV_nil : cubeV [] = cv 0 0 0 0 0 0 0 0 0 := by
  have := cubeV_all 0
  rw [List.replicate_zero] at this
  rw [this]; rfl

theorem below3 {w w1 wr : World} {o : Obj} (hb1 : Below (w.alloc o).heap.size (w.alloc o) w1) (hB : Below w1.heap.size w1 wr) (nq : Nat) : Below w.heap.size w (wr.drewN nq) := by
  have h0 : Below w.heap.size w (w.alloc o) := (Below.refl _ _).alloc (Nat.le_refl _) _
  have hz : w.heap.size ≤ (w.alloc o).heap.size := h0.size
  have hz1 := hb1.size
  exact ((h0.trans (hb1.mono hz)).trans (hB.mono (by omega))).trans (below_drewN _ _ _)

theorem put9_set {s : ByteArray} {k b T : Nat} {W : World} {x0 x1 x2 x3 x4 x5 x6 x7 x8 : Value} {c : UInt8} (hlen : s.data.toList.length = s.size) (hlt : k < s.size) (h : W.heap[b]? = some (.cells #[x0, x1, x2, x3, x4, x5, x6, x7, x8] T (0, 0))) (hc : s[k] = c) :
    (put9 W b (.int .i64 ((st s.data.toList k).length : Int)) (.int .u64 (FW ((st s.data.toList k).set k c) 0 : Int)) (.int .u64 (FW ((st s.data.toList k).set k c) 1 : Int)) (.int .u64 (FW ((st s.data.toList k).set k c) 2 : Int)) (.int .u64 (FW ((st s.data.toList k).set k c) 3 : Int))
      (.int .u64 (OW ((st s.data.toList k).set k c) 0 : Int)) (.int .u64 (OW ((st s.data.toList k).set k c) 1 : Int)) (.int .u64 (OW ((st s.data.toList k).set k c) 2 : Int)) (.int .u64 (OW ((st s.data.toList k).set k c) 3 : Int))).heap[b]? = some (.cells ((fun t => #[.int .i64 (t.length : Int), .int .u64 (FW t 0 : Int), .int .u64 (FW t 1 : Int), .int .u64 (FW t 2 : Int), .int .u64 (FW t 3 : Int), .int .u64 (OW t 0 : Int), .int .u64 (OW t 1 : Int), .int .u64 (OW t 2 : Int), .int .u64 (OW t 3 : Int)]) (st s.data.toList (k + 1))) T (0, 0)) := by
  rw [put9_get _ _ _ _ _ _ _ _ _ h]
  have h1 : (st s.data.toList k).set k c = st s.data.toList (k + 1) := by
    rw [← st_succ _ _ (by rw [hlen]; exact hlt), byte_at s k hlt, hc]
  have h2 : (st s.data.toList k).length = (st s.data.toList (k + 1)).length := by rw [st_len _ _ (by omega), st_len _ _ (by omega)]
  rw [h1, h2]

set_option maxHeartbeats 400000 in
theorem parse_loop (s : ByteArray) (w : World) (h1 : 1 ≤ s.size) (h2 : s.size ≤ 256) :
    Calls Tryz.prog 78 #[.string s] w fun e w' => e = .returned (.tuple #[cubeV (cubeT s.data.toList), .int .i64 (refP s.data.toList)]) ∧ Below w.heap.size w w' := by
  have he : (s.toList.isEmpty) = false := by
    rw [ByteArray.toList_eq]
    obtain ⟨⟨l⟩⟩ := s
    simp [ByteArray.size] at h1 ⊢
    intro h; subst h; simp at h1
  have hd : decide ((256 : Int) < (s.size : Int)) = false := by simp; omega
  go_enter Tryz.func78, Tryz.ntmps78
  go_wp2_with (go_at_call 33; refine (all_yes _ _ (by omega) (by omega)).mono ?_; rintro e w1 ⟨rfl, hb1⟩; obtain ⟨hc1, hf1⟩ := bcell hb1; unfold cv)
  clear hd he
  rw [st_cells0]
  go_loopw [20] (fun i wr => ∃ k : Nat, k ≤ s.size ∧ i = .int .i64 k ∧ wr.heap[w1.heap.size]? = some (.cells ((fun t => #[.int .i64 (t.length : Int), .int .u64 (FW t 0 : Int), .int .u64 (FW t 1 : Int), .int .u64 (FW t 2 : Int), .int .u64 (FW t 3 : Int), .int .u64 (OW t 0 : Int), .int .u64 (OW t 1 : Int), .int .u64 (OW t 2 : Int), .int .u64 (OW t 3 : Int)]) (st s.data.toList k)) 74 (0, 0)) ∧ Below w1.heap.size w1 wr ∧ ∀ j (h : j < s.data.toList.length), j < k → tri s.data.toList[j] = true) (fun i _ => s.size - (intOf i).toNat)
  case atStart => exact ⟨0, Nat.zero_le _, rfl, alloc_get _ _, (Below.refl _ _).alloc (Nat.le_refl _) _, fun j _ h => by omega⟩
  case round =>
    obtain ⟨k, hk, rfl, hblk, hB, htri⟩ := hrel
    by_cases hlt : k < s.size
    · obtain ⟨hcb, hfb⟩ := cells_block hblk
      have hlB := lt_of_get hblk
      have hkr : ∃ q r X : Nat, q < 4 ∧ r < 64 ∧ X = 2 ^ r ∧ k = 64 * q + r := ⟨k / 64, k % 64, _, by omega, by omega, rfl, by omega⟩
      obtain ⟨q, r, X, hq, hr, hX0, hk0⟩ := hkr
      have hX : Hid (X = 2 ^ r) := hX0
      have hkq : Hid (k = 64 * q + r) := hk0
      clear hX0 hk0
      have hlen : Hid (s.data.toList.length = s.size) := by simp [Hid]
      by_cases c48 : s[k] = 48
      · have b48 : ((s[k].toNat : Int) == 48) = true := by rw [c48]; decide
        go_wp2_with (first | (go_at_call 92; refine (spotX k q r X _ hq hr hX.out hkq.out).mono ?_; rintro e w' ⟨rfl, nq, rfl⟩) | (go_at_call 99; refine (fix48 (st s.data.toList k) k q r X _ hq hr hX.out hkq.out (by rw [st_len _ _ (by rw [hlen.out]; omega), hlen.out]; exact hlt) (st_get _ _ (by rw [hlen.out]; exact hlt))).mono ?_; rintro e w2 ⟨rfl, hb2⟩; have hblk2 := (hb2.block _ (by exact hlB)).trans hblk; obtain ⟨hcb2, hfb2⟩ := cells_block hblk2; unfold cubeV cv))
        exact ⟨⟨k + 1, by omega, by go_num, put9_set hlen.out hlt hblk2 c48, put9_below _ _ _ _ _ _ _ _ _ (hB.trans ((below_drewN _ nq wr).trans (hb2.mono (by exact Nat.le_of_lt hlB)))) (Nat.le_refl _), tri_succ hlt htri (.inl c48)⟩, by simp [intOf]; omega⟩
      · by_cases c49 : s[k] = 49
        · have b48 : ((s[k].toNat : Int) == 48) = false := by rw [c49]; decide
          have b49 : ((s[k].toNat : Int) == 49) = true := by rw [c49]; decide
          go_wp2_with (first | (go_at_call 92; refine (spotX k q r X _ hq hr hX.out hkq.out).mono ?_; rintro e w' ⟨rfl, nq, rfl⟩) | (go_at_call 99; refine (fix49 (st s.data.toList k) k q r X _ hq hr hX.out hkq.out (by rw [st_len _ _ (by rw [hlen.out]; omega), hlen.out]; exact hlt) (st_get _ _ (by rw [hlen.out]; exact hlt))).mono ?_; rintro e w2 ⟨rfl, hb2⟩; have hblk2 := (hb2.block _ (by exact hlB)).trans hblk; obtain ⟨hcb2, hfb2⟩ := cells_block hblk2; unfold cubeV cv))
          exact ⟨⟨k + 1, by omega, by go_num, put9_set hlen.out hlt hblk2 c49, put9_below _ _ _ _ _ _ _ _ _ (hB.trans ((below_drewN _ nq wr).trans (hb2.mono (by exact Nat.le_of_lt hlB)))) (Nat.le_refl _), tri_succ hlt htri (.inr (.inl c49))⟩, by simp [intOf]; omega⟩
        · by_cases c120 : s[k] = 120
          · have b48 : ((s[k].toNat : Int) == 48) = false := by rw [c120]; decide
            have b49 : ((s[k].toNat : Int) == 49) = false := by rw [c120]; decide
            have b120 : ((s[k].toNat : Int) == 120) = true := by rw [c120]; decide
            go_wp2_with (go_at_call 92; refine (spotX k q r X _ hq hr hX.out hkq.out).mono ?_; rintro e w' ⟨rfl, nq, rfl⟩)
            have hst := st_skip s.data.toList k (by rw [hlen.out]; exact hlt) (by rw [byte_at s k hlt]; exact c120)
            exact ⟨⟨k + 1, by omega, by go_num, by rw [hst]; exact hblk, hB.trans (below_drewN _ nq wr), tri_succ hlt htri (.inr (.inr c120))⟩, by simp [intOf]; omega⟩
          · have b48 : ((s[k].toNat : Int) == 48) = false := ne_byte c48
            have b49 : ((s[k].toNat : Int) == 49) = false := ne_byte c49
            have b120 : ((s[k].toNat : Int) == 120) = false := ne_byte c120
            have hfin := parse_bad s k hlt h2 c48 c49 c120
            have hZ : Hid (refP s.data.toList = 10 ∧ cubeT s.data.toList = []) := hfin
            clear hfin
            have hcw : ∀ o, wr.cell? ⟨w.heap.size, o, none⟩ = w1.cell? ⟨w.heap.size, o, none⟩ := fun o => hB.cell (p := ⟨w.heap.size, o, none⟩) (by have := hb1.size; simp at this; show w.heap.size < _; omega)
            have hfw : ∀ o, wr.frozen? ⟨w.heap.size, o, none⟩ = w1.frozen? ⟨w.heap.size, o, none⟩ := fun o => hB.frozen (p := ⟨w.heap.size, o, none⟩) (by have := hb1.size; simp at this; show w.heap.size < _; omega)
            go_wp2_with (go_at_call 92; refine (spotX k q r X _ hq hr hX.out hkq.out).mono ?_; rintro e w' ⟨rfl, nq, rfl⟩)
            have hwb : (wr.drewN nq).heap[w.heap.size]? = some (.cells #[.int .i64 0, .int .u64 0, .int .u64 0, .int .u64 0, .int .u64 0, .int .u64 0, .int .u64 0, .int .u64 0, .int .u64 0] 74 (0, 0)) := by
              have e1 := hB.block w.heap.size (by have := hb1.size; simp at this; omega)
              have e2 := hb1.block w.heap.size (by simp)
              exact (e1.trans e2).trans (alloc_get _ _)
            refine bodyPost_ret (v := .tuple #[cv 0 0 0 0 0 0 0 0 0, .int .i64 10]) ?_ rfl ⟨?_, ?_⟩
            · exact res_cube2 _ _ w.heap.size 0 0 0 0 0 0 0 0 0 Tryz.results78 rfl (put9_get _ _ _ _ _ _ _ _ _ hwb)
            · rw [hZ.out.1, hZ.out.2, cubeV_nil]
            · exact put9_below _ _ _ _ _ _ _ _ _ (below3 hb1 hB nq) (Nat.le_refl _)
    · obtain ⟨hcb, hfb⟩ := cells_block hblk
      have hcw : ∀ o, wr.cell? ⟨w.heap.size, o, none⟩ = w1.cell? ⟨w.heap.size, o, none⟩ := fun o => hB.cell (p := ⟨w.heap.size, o, none⟩) (by have := hb1.size; simp at this; show w.heap.size < _; omega)
      have hfw : ∀ o, wr.frozen? ⟨w.heap.size, o, none⟩ = w1.frozen? ⟨w.heap.size, o, none⟩ := fun o => hB.frozen (p := ⟨w.heap.size, o, none⟩) (by have := hb1.size; simp at this; show w.heap.size < _; omega)
      have hkn : k = s.size := by omega
      have hall := parse_good s h1 h2 (fun j h => htri j h (by have : s.data.toList.length = s.size := by simp
                                                               omega))
      have hZ : Hid (refP s.data.toList = 0 ∧ cubeT s.data.toList = s.data.toList) := hall
      subst hkn
      clear hall htri
      have hwb : wr.heap[w.heap.size]? = some (.cells #[.int .i64 0, .int .u64 0, .int .u64 0, .int .u64 0, .int .u64 0, .int .u64 0, .int .u64 0, .int .u64 0, .int .u64 0] 74 (0, 0)) := by
        have e1 := hB.block w.heap.size (by have := hb1.size; simp at this; omega)
        have e2 := hb1.block w.heap.size (by simp)
        exact (e1.trans e2).trans (alloc_get _ _)
      go_wp2
      refine bodyPost_ret (v := .tuple #[cubeV (st s.data.toList s.size), .int .i64 0]) ?_ rfl ⟨?_, ?_⟩
      · exact res_cube2 _ _ w.heap.size _ _ _ _ _ _ _ _ _ Tryz.results78 rfl (put9_get _ _ _ _ _ _ _ _ _ hwb)
      · rw [hZ.out.1, hZ.out.2]
        have hlen : s.size = s.data.toList.length := by simp
        rw [hlen, st_all]
      · exact put9_below _ _ _ _ _ _ _ _ _ (below3 hb1 hB 0) (Nat.le_refl _)

theorem parse_any (s : ByteArray) (w : World) (hs : s.size ≤ maxLen) :
    Calls Tryz.prog 78 #[.string s] w fun e w' => e = .returned (.tuple #[cubeV (cubeT s.data.toList), .int .i64 (refP s.data.toList)]) ∧ Below w.heap.size w w' := by
  have hlen : s.data.toList.length = s.size := by simp
  by_cases h1 : 256 < s.size
  · refine (parse_long s w hs h1).mono ?_
    rintro e w' ⟨rfl, hb⟩
    have hz : refP s.data.toList = 2 := by unfold refP; rw [if_pos (by omega)]
    refine ⟨?_, hb⟩
    rw [cubeT_nil_iff _ (by rw [hz]; decide), hz, cubeV_nil]
  · by_cases h2 : s.size = 0
    · have hz0 : s.data.toList = [] := List.eq_nil_of_length_eq_zero (by omega)
      refine (parse_none s w (by rw [ByteArray.toList_eq]; exact hz0)).mono ?_
      rintro e w' ⟨rfl, hb⟩
      refine ⟨?_, hb⟩
      rw [hz0]
      have hz : refP [] = 10 := by decide
      rw [cubeT_nil_iff _ (by rw [hz]; decide), hz, cubeV_nil]
    · exact parse_loop s w (by omega) (by omega)
end Go.Proofs.YtnobpeghofoniaaGreatDoor.Tn
namespace Go.Proofs
open Go.Shelf
def Tryz.l162_ren : Go.Shelf.Ren := ⟨fun | 162 => 80 | 232 => 104 | 227 => 102 | 234 => 105 | 236 => 106 | 228 => 103 | 271 => 128 | 151 => 129 | 120 => 140 | 197 => 141 | 152 => 100 | 260 => 155 | 137 => 124 | 119 => 125 | 224 => 126 | 225 => 127 | 217 => 139 | 266 => 154 | n => n, fun | 9 => 9 | 4 => 4 | 3 => 3 | 5 => 5 | 117 => 146 | 116 => 145 | 0 => 0 | 124 => 151 | 21 => 21 | 105 => 169 | 46 => 103 | 119 => 197 | 139 => 200 | 138 => 199 | n => n, fun | 3 => 6 | 4 => 7 | n => n⟩
theorem Tryz.l162 : Go.Proofs.Lays.n162 Tryz.prog Tryz.l162_ren := {
  mixed := by kernel_rfl
  f119 := Tryz.func125.trans (congrArg some (by kernel_rfl))
  f120 := Tryz.func140.trans (congrArg some (by kernel_rfl))
  f137 := Tryz.func124.trans (congrArg some (by kernel_rfl))
  f151 := Tryz.func129.trans (congrArg some (by kernel_rfl))
  f152 := Tryz.func100.trans (congrArg some (by kernel_rfl))
  f162 := Tryz.func80.trans (congrArg some (by kernel_rfl))
  f197 := Tryz.func141.trans (congrArg some (by kernel_rfl))
  f217 := Tryz.func139.trans (congrArg some (by kernel_rfl))
  f224 := Tryz.func126.trans (congrArg some (by kernel_rfl))
  f225 := Tryz.func127.trans (congrArg some (by kernel_rfl))
  f227 := Tryz.func102.trans (congrArg some (by kernel_rfl))
  f228 := Tryz.func103.trans (congrArg some (by kernel_rfl))
  f232 := Tryz.func104.trans (congrArg some (by kernel_rfl))
  f234 := Tryz.func105.trans (congrArg some (by kernel_rfl))
  f236 := Tryz.func106.trans (congrArg some (by kernel_rfl))
  f260 := Tryz.func155.trans (congrArg some (by kernel_rfl))
  f266 := Tryz.func154.trans (congrArg some (by kernel_rfl))
  f271 := Tryz.func128.trans (congrArg some (by kernel_rfl))
  t0 := Tryz.underlying0
  a0 := Tryz.isAgg0
  z0 := Tryz.sizeOf0
  v0 := Tryz.zeroValue0
  t3 := Tryz.underlying3
  a3 := Tryz.isAgg3
  z3 := Tryz.sizeOf3
  v3 := Tryz.zeroValue3
  t4 := Tryz.underlying4
  a4 := Tryz.isAgg4
  z4 := Tryz.sizeOf4
  v4 := Tryz.zeroValue4
  t5 := Tryz.underlying5
  a5 := Tryz.isAgg5
  z5 := Tryz.sizeOf5
  v5 := Tryz.zeroValue5
  t9 := Tryz.underlying9
  a9 := Tryz.isAgg9
  z9 := Tryz.sizeOf9
  v9 := Tryz.zeroValue9
  t21 := Tryz.underlying21
  a21 := Tryz.isAgg21
  z21 := Tryz.sizeOf21
  v21 := Tryz.zeroValue21
  t46 := Tryz.underlying103
  a46 := Tryz.isAgg103
  z46 := Tryz.sizeOf103
  v46 := Tryz.zeroValue103
  t105 := Tryz.underlying169
  a105 := Tryz.isAgg169
  z105 := Tryz.sizeOf169
  v105 := Tryz.zeroValue169
  t116 := Tryz.underlying145
  a116 := Tryz.isAgg145
  z116 := Tryz.sizeOf145
  t117 := Tryz.underlying146
  a117 := Tryz.isAgg146
  z117 := Tryz.sizeOf146
  v117 := Tryz.zeroValue146
  t119 := Tryz.underlying197
  a119 := Tryz.isAgg197
  z119 := Tryz.sizeOf197
  t124 := Tryz.underlying151
  a124 := Tryz.isAgg151
  z124 := Tryz.sizeOf151
  v124 := Tryz.zeroValue151
  t138 := Tryz.underlying199
  a138 := Tryz.isAgg199
  z138 := Tryz.sizeOf199
  v138 := Tryz.zeroValue199
  t139 := Tryz.underlying200
  a139 := Tryz.isAgg200
  z139 := Tryz.sizeOf200
  v139 := Tryz.zeroValue200
  g3 := by kernel_rfl
  g4 := by kernel_rfl }
def Tryz.l150_ren : Go.Shelf.Ren := ⟨fun | 150 => 56 | 153 => 79 | 152 => 100 | 226 => 101 | 227 => 102 | 228 => 103 | 137 => 124 | 119 => 125 | 224 => 126 | 225 => 127 | 217 => 139 | 266 => 154 | n => n, fun | 9 => 9 | 4 => 4 | 3 => 3 | 5 => 5 | 21 => 21 | 117 => 146 | 116 => 145 | 0 => 0 | 46 => 103 | 124 => 151 | n => n, fun | n => n⟩
theorem Tryz.l150 : Go.Proofs.Lays.n150 Tryz.prog Tryz.l150_ren := {
  mixed := by kernel_rfl
  f119 := Tryz.func125.trans (congrArg some (by kernel_rfl))
  f137 := Tryz.func124.trans (congrArg some (by kernel_rfl))
  f150 := Tryz.func56.trans (congrArg some (by kernel_rfl))
  f152 := Tryz.func100.trans (congrArg some (by kernel_rfl))
  f153 := Tryz.func79.trans (congrArg some (by kernel_rfl))
  f217 := Tryz.func139.trans (congrArg some (by kernel_rfl))
  f224 := Tryz.func126.trans (congrArg some (by kernel_rfl))
  f225 := Tryz.func127.trans (congrArg some (by kernel_rfl))
  f226 := Tryz.func101.trans (congrArg some (by kernel_rfl))
  f227 := Tryz.func102.trans (congrArg some (by kernel_rfl))
  f228 := Tryz.func103.trans (congrArg some (by kernel_rfl))
  f266 := Tryz.func154.trans (congrArg some (by kernel_rfl))
  t0 := Tryz.underlying0
  a0 := Tryz.isAgg0
  z0 := Tryz.sizeOf0
  v0 := Tryz.zeroValue0
  t3 := Tryz.underlying3
  a3 := Tryz.isAgg3
  z3 := Tryz.sizeOf3
  v3 := Tryz.zeroValue3
  t4 := Tryz.underlying4
  a4 := Tryz.isAgg4
  z4 := Tryz.sizeOf4
  v4 := Tryz.zeroValue4
  t5 := Tryz.underlying5
  a5 := Tryz.isAgg5
  z5 := Tryz.sizeOf5
  v5 := Tryz.zeroValue5
  t9 := Tryz.underlying9
  a9 := Tryz.isAgg9
  z9 := Tryz.sizeOf9
  v9 := Tryz.zeroValue9
  t21 := Tryz.underlying21
  a21 := Tryz.isAgg21
  z21 := Tryz.sizeOf21
  v21 := Tryz.zeroValue21
  t46 := Tryz.underlying103
  a46 := Tryz.isAgg103
  z46 := Tryz.sizeOf103
  v46 := Tryz.zeroValue103
  t116 := Tryz.underlying145
  a116 := Tryz.isAgg145
  z116 := Tryz.sizeOf145
  t117 := Tryz.underlying146
  a117 := Tryz.isAgg146
  z117 := Tryz.sizeOf146
  v117 := Tryz.zeroValue146
  t124 := Tryz.underlying151
  a124 := Tryz.isAgg151
  z124 := Tryz.sizeOf151
  v124 := Tryz.zeroValue151 }
def Tryz.l156_ren : Go.Shelf.Ren := ⟨fun | 156 => 58 | 165 => 84 | 166 => 85 | 169 => 86 | 240 => 110 | 241 => 111 | 276 => 132 | 277 => 133 | n => n, fun | 31 => 45 | 9 => 9 | 3 => 3 | 4 => 4 | 0 => 0 | 20 => 20 | 72 => 116 | 76 => 120 | 70 => 114 | 37 => 32 | 75 => 119 | 127 => 153 | 164 => 174 | 5 => 5 | 80 => 122 | n => n, fun | n => n⟩
theorem Tryz.l156 : Go.Proofs.Lays.n156 Tryz.prog Tryz.l156_ren := {
  mixed := by kernel_rfl
  f156 := Tryz.func58.trans (congrArg some (by kernel_rfl))
  f165 := Tryz.func84.trans (congrArg some (by kernel_rfl))
  f166 := Tryz.func85.trans (congrArg some (by kernel_rfl))
  f169 := Tryz.func86.trans (congrArg some (by kernel_rfl))
  f240 := Tryz.func110.trans (congrArg some (by kernel_rfl))
  f241 := Tryz.func111.trans (congrArg some (by kernel_rfl))
  f276 := Tryz.func132.trans (congrArg some (by kernel_rfl))
  f277 := Tryz.func133.trans (congrArg some (by kernel_rfl))
  t0 := Tryz.underlying0
  a0 := Tryz.isAgg0
  z0 := Tryz.sizeOf0
  v0 := Tryz.zeroValue0
  t3 := Tryz.underlying3
  a3 := Tryz.isAgg3
  z3 := Tryz.sizeOf3
  v3 := Tryz.zeroValue3
  t4 := Tryz.underlying4
  a4 := Tryz.isAgg4
  z4 := Tryz.sizeOf4
  v4 := Tryz.zeroValue4
  t9 := Tryz.underlying9
  a9 := Tryz.isAgg9
  z9 := Tryz.sizeOf9
  v9 := Tryz.zeroValue9
  t20 := Tryz.underlying20
  a20 := Tryz.isAgg20
  z20 := Tryz.sizeOf20
  v20 := Tryz.zeroValue20
  t31 := Tryz.underlying45
  a31 := Tryz.isAgg45
  z31 := Tryz.sizeOf45
  v31 := Tryz.zeroValue45
  t37 := Tryz.underlying32
  a37 := Tryz.isAgg32
  z37 := Tryz.sizeOf32
  v37 := Tryz.zeroValue32
  t70 := Tryz.underlying114
  a70 := Tryz.isAgg114
  z70 := Tryz.sizeOf114
  v70 := Tryz.zeroValue114
  t72 := Tryz.underlying116
  a72 := Tryz.isAgg116
  z72 := Tryz.sizeOf116
  v72 := Tryz.zeroValue116
  t75 := Tryz.underlying119
  a75 := Tryz.isAgg119
  z75 := Tryz.sizeOf119
  v75 := Tryz.zeroValue119
  t76 := Tryz.underlying120
  a76 := Tryz.isAgg120
  z76 := Tryz.sizeOf120
  v76 := Tryz.zeroValue120
  t127 := Tryz.underlying153
  a127 := Tryz.isAgg153
  z127 := Tryz.sizeOf153
  v127 := Tryz.zeroValue153
  t164 := Tryz.underlying174
  a164 := Tryz.isAgg174
  z164 := Tryz.sizeOf174
  v164 := Tryz.zeroValue174 }
end Go.Proofs
namespace Go.Proofs.YtnobpeghofoniaaGreatDoor
open Go.RowKit Go.Shelf
/-- a cube's text of n places -/
def cuB (n : Nat) (s : List UInt8) : Bool := decide (s.length = n) && s.all Tn.tri
theorem cuB_no {n : Nat} {s : List UInt8} {k : Nat} {c : UInt8} (h : s[k]? = some c) (hc : Tn.tri c = false) : cuB n s = false := by
  unfold cuB
  rw [Bool.and_eq_false_iff]
  refine .inr ?_
  rw [List.all_eq_false]
  exact ⟨c, List.mem_of_getElem? h, by rw [hc]; decide⟩
theorem cuB_yes {n : Nat} {s : List UInt8} (hl : s.length = n) (h : ∀ (k : Nat) (c : UInt8), s[k]? = some c → Tn.tri c = true) : cuB n s = true := by
  unfold cuB
  rw [decide_eq_true hl, Bool.true_and, List.all_eq_true]
  intro c hc
  obtain ⟨k, hk⟩ := List.getElem?_of_mem hc
  exact h k c hk
theorem cuB_P {n : Nat} {s : List UInt8} (h1 : 1 ≤ n) (h2 : n ≤ 256) : cuB n s = (decide (Tn.refP s = 0) && decide (s.length = n)) := by
  unfold cuB
  by_cases hl : s.length = n
  · rw [decide_eq_true hl, Bool.true_and, Bool.and_true, Bool.eq_iff_iff, decide_eq_true_eq, Tn.refP_zero]
    unfold Tn.good
    rw [Bool.and_eq_true, decide_eq_true_eq]
    exact ⟨fun h => ⟨fun e => by rw [e] at hl; simp at hl; omega, by omega, h⟩, fun h => h.2.2⟩
  · rw [decide_eq_false hl, Bool.false_and, Bool.and_false]
set_option maxRecDepth 100000 in
set_option maxHeartbeats 4000000 in
theorem isCube_any (n : Nat) (s : List UInt8) (w : World) (h1 : 1 ≤ n) (h2 : n ≤ 256) (hs : s.length ≤ 281474976710656) : Calls Tryz.prog 55 #[.string ⟨s.toArray⟩, .int .i64 (n : Int)] w fun e w' => e = .returned (.bool (cuB n s)) ∧ Below w.heap.size w w' := by
  rw [cuB_P h1 h2]
  have HP := Tn.parse_any ⟨s.toArray⟩ w (by unfold maxLen; simp [ByteArray.size]; omega)
  have HP2 : Calls Tryz.prog 78 #[.string ⟨s.toArray⟩] w fun e w' => e = .returned (.tuple #[Tn.cubeV (Tn.cubeT s), .int .i64 (Tn.refP s)]) ∧ Below w.heap.size w w' := HP
  clear HP
  have HP := HP2
  obtain ⟨c0, c1, c2, c3, c4, c5, c6, c7, c8, hcu⟩ : ∃ c0 c1 c2 c3 c4 c5 c6 c7 c8 : Int, Tn.cubeV (Tn.cubeT s) = .agg #[.int .i64 c0, .int .u64 c1, .int .u64 c2, .int .u64 c3, .int .u64 c4, .int .u64 c5, .int .u64 c6, .int .u64 c7, .int .u64 c8] := ⟨_, _, _, _, _, _, _, _, _, rfl⟩
  clear HP2
  obtain ⟨er, her⟩ : ∃ er, Tn.refP s = er := ⟨_, rfl⟩
  rw [hcu, her] at HP
  rw [her]
  have HH : Hid (Calls Tryz.prog 78 #[.string ⟨s.toArray⟩] w fun e w' => e = .returned (.tuple #[.agg #[.int .i64 c0, .int .u64 c1, .int .u64 c2, .int .u64 c3, .int .u64 c4, .int .u64 c5, .int .u64 c6, .int .u64 c7, .int .u64 c8], .int .i64 er]) ∧ Below w.heap.size w w') := HP
  clear HP hcu her
  go_enter Tryz.func55, Tryz.ntmps55
  by_cases e0 : er = 0
  · by_cases el : s.length = n
    · have a1 : (er == 0) = true := by rw [e0]; rfl
      have a2 : ((s.length : Int) == (n : Int)) = true := by rw [el]; simp
      rw [decide_eq_true e0, decide_eq_true el]
      clear e0 el
      go_wp2_with fail
      refine HH.out.mono ?_
      rintro e W1 ⟨rfl, hb⟩
      go_wp2_with fail
      go_ret
      exact ⟨rfl, by first | exact hb | exact hb.alloc hb.size _ | exact Tn.put9_below _ _ _ _ _ _ _ _ _ (hb.alloc hb.size _) hb.size⟩
    · have a1 : (er == 0) = true := by rw [e0]; rfl
      have a2 : ((s.length : Int) == (n : Int)) = false := by rw [beq_eq_false_iff_ne]; omega
      rw [decide_eq_true e0, decide_eq_false el]
      clear e0 el
      go_wp2_with fail
      refine HH.out.mono ?_
      rintro e W1 ⟨rfl, hb⟩
      go_wp2_with fail
      go_ret
      exact ⟨rfl, by first | exact hb | exact hb.alloc hb.size _ | exact Tn.put9_below _ _ _ _ _ _ _ _ _ (hb.alloc hb.size _) hb.size⟩
  · have a1 : (er == 0) = false := by rw [beq_eq_false_iff_ne]; exact e0
    rw [decide_eq_false e0]
    clear e0
    go_wp2_with fail
    refine HH.out.mono ?_
    rintro e W1 ⟨rfl, hb⟩
    go_wp2_with fail
    go_ret
    exact ⟨rfl, by first | exact hb | exact hb.alloc hb.size _ | exact Tn.put9_below _ _ _ _ _ _ _ _ _ (hb.alloc hb.size _) hb.size⟩
set_option maxRecDepth 100000 in
theorem fnumber_any (v : Nat) (d : Bool) (w : World) (htab : Lib.TabIs Tryz.prog w "internal/strconv.uint64pow10" .u64 Lib.pow10Tab) : Calls Tryz.prog 82 #[.int .i64 (v : Int), .bool d] w fun e w' => e = .returned (.string ⟨(numL v d).toArray⟩) ∧ Below w.heap.size w w' := by
  have HN : Hid (Calls Tryz.prog 108 #[.int .i64 (v : Int), .bool d] w fun e w' => e = .returned (.tuple #[.string ⟨(numL v d).toArray⟩, .int .i64 (numE v)]) ∧ Below w.heap.size w w') := number_any v d w htab
  clear htab
  go_enter Tryz.func82, Tryz.ntmps82
  go_wp2_with fail
  refine HN.out.mono ?_
  rintro e W1 ⟨rfl, hb⟩
  go_wp2_with fail
  go_ret
  exact ⟨rfl, hb⟩
set_option maxRecDepth 100000 in
set_option maxHeartbeats 4000000 in
theorem fvalue3_any (s : List UInt8) (w : World) (hs : s.length ≤ 32) (hd : s.all Tn.tri = true) : Calls Tryz.prog 36 #[.string ⟨s.toArray⟩] w fun e w' => e = .returned (.int .i64 (valF 0 s : Int)) ∧ Below w.heap.size w w' := by
  obtain ⟨q, hq⟩ : ∃ q, valF 0 s = q := ⟨_, rfl⟩
  have HQ : Hid (valF 0 (s.drop 0) = q) := hq
  have HD : Hid (s.all Tn.tri = true) := hd
  rw [hq]
  clear hq hd
  obtain ⟨KB, hKB⟩ : ∃ KB, w.heap.size = KB := ⟨_, rfl⟩
  have Hk0 : (w.iter ⟨s.toArray⟩ 0).heap[KB]? = some (.stringIter ⟨s.toArray⟩ 0) := by rw [← hKB]; exact World.iter_heap _ _ _
  have Hb0 : Below w.heap.size w (w.iter ⟨s.toArray⟩ 0) := (Below.refl _ _).alloc (Nat.le_refl _) _
  have hKw : w.heap.size ≤ KB := Nat.le_of_eq hKB
  go_enter Tryz.func36, Tryz.ntmps36
  go_wp2_with fail
  try simp only [hKB]
  go_loopw [3] (fun vs wr => ∃ (k v : Nat), k ≤ s.length ∧ vs = .int .i64 v ∧ v < 2 ^ k ∧ Hid (valF v (s.drop k) = q) ∧ wr.heap[KB]? = some (.stringIter ⟨s.toArray⟩ k) ∧ Below w.heap.size w wr) (fun _ wr => s.length - wr.iterPos KB)
  case atStart => exact ⟨0, 0, Nat.zero_le _, rfl, by decide, HQ, Hk0, Hb0⟩
  case round =>
    clear HQ Hk0 Hb0
    obtain ⟨k, v, hk, rfl, hv, hrun, hkb, hB⟩ := hrel
    have hp : 2 ^ k ≤ 2 ^ 32 := Nat.pow_le_pow_right (by decide) (by omega)
    have hp1 : 2 ^ (k + 1) = 2 * 2 ^ k := by rw [Nat.pow_succ, Nat.mul_comm]
    by_cases hlt : k < s.length
    · obtain ⟨c, hc, hlc⟩ := byte_get s k hlt
      have hc01 := List.all_eq_true.1 HD.out c (List.mem_of_getElem? hlc)
      have hsz : k < (⟨s.toArray⟩ : ByteArray).size := by simpa [ByteArray.size] using hlt
      have hcl : c.toNat < 128 := by
        unfold Tn.tri at hc01
        rw [Bool.or_eq_true, Bool.or_eq_true, beq_iff_eq, beq_iff_eq, beq_iff_eq] at hc01
        rcases hc01 with (e | e) | e <;> rw [e] <;> decide
      have hnx0 := fun ty => Lib.run_next_ascii_at (P := Tryz.prog) wr KB ⟨s.toArray⟩ k ty hkb hsz (by rw [hc hsz]; exact hcl)
      simp only [hc hsz] at hnx0
      have hk2 := Lib.iterAt_heap wr KB ⟨s.toArray⟩ k (k + 1) hkb
      have hb2 := Lib.below_iterAt hB hKw ⟨s.toArray⟩ (k + 1)
      obtain ⟨W2, hW2⟩ : ∃ W2, wr.iterAt KB ⟨s.toArray⟩ (k + 1) = W2 := ⟨_, rfl⟩
      rw [hW2] at hk2 hb2
      have hnx : ∀ ty, (Instr.next (.pointer (some ⟨KB, 0, none⟩)) true ty).run Tryz.prog wr = .ok (.tuple #[.bool true, .int .i64 (k : Int), .int .i32 (c.toNat : Int)]) W2 := fun ty => by rw [← hW2]; exact hnx0 ty
      have hst := hrun.out
      rw [valF_step hlc] at hst
      have hm5 : W2.iterPos KB = k + 1 := iterPos_of hk2
      have hm0 : wr.iterPos KB = k := iterPos_of hkb
      have HM : Hid (s.length - W2.iterPos KB < s.length - wr.iterPos KB) := by unfold Hid; rw [hm5, hm0]; omega
      clear hnx0 hW2 hm5 hm0 hrun hlc hkb hB
      have e1 : wrap64 ((v : Int) * 2) = 2 * (v : Int) := by rw [w64 (by omega) (by omega)]; omega
      have e2 : IntKind.i64.wrap (2 * (v : Int) + 1) = 2 * (v : Int) + 1 := by rw [IntKind.wrap_i64]; omega
      by_cases c49 : c = 49
      · rw [if_pos c49] at hst
        have HST : Hid (valF (2 * v + 1) (s.drop (k + 1)) = q) := hst
        subst c49
        clear hst
        go_wp2_with fail
        go_roundw
        case rel => exact ⟨k + 1, 2 * v + 1, by omega, by go_num, by omega, HST, hk2, hb2⟩
        case measure => exact HM.out
      · rw [if_neg c49] at hst
        have HST : Hid (valF (2 * v + 0) (s.drop (k + 1)) = q) := hst
        have d49 : ((c.toNat : Int) == 49) = false := u8_ne (d := 49) c49
        clear hst
        go_wp2_with fail
        go_roundw
        case rel => exact ⟨k + 1, 2 * v + 0, by omega, by go_num, by omega, HST, hk2, hb2⟩
        case measure => exact HM.out
    · obtain rfl : v = q := by rw [← hrun.out, List.drop_eq_nil_of_le (by omega)]; rfl
      have hnx := fun ty => Lib.run_next_end_at (P := Tryz.prog) wr KB ⟨s.toArray⟩ k ty hkb (by simpa [ByteArray.size] using hlt)
      clear hrun hkb
      go_wp2_with fail
      go_ret
      exact ⟨rfl, by first | exact hB | (rw [← hKB]; exact hB)⟩
theorem trimx_any (D : List UInt8) (w : World) (hl : D.length ≤ 256) : Calls Tryz.prog 80 #[.string ⟨D.toArray⟩, .string ⟨#[120]⟩] w fun e w' => e = .returned (.string ⟨(Lib.trimRightB D 120).toArray⟩) ∧ w' = w :=
  Any.strings_TrimRight_one Tryz.l162 ⟨D.toArray⟩ 120 (by decide) w (by simp [ByteArray.size]; omega)
theorem hasx_any (D : List UInt8) (w : World) : Calls Tryz.prog 81 #[.string ⟨D.toArray⟩, .string ⟨#[120]⟩] w fun e w' => e = .returned (.bool (decide (120 ∈ D))) ∧ w' = w := by
  have h := Any.strings_Contains_one Tryz.l144 ⟨D.toArray⟩ 120 w
  have e : (0 ≤ Lib.indexByte D 120) ↔ 120 ∈ D := by
    constructor
    · intro h
      obtain ⟨o, ho⟩ : ∃ o : Nat, Lib.indexByte D 120 = o := ⟨(Lib.indexByte D 120).toNat, by omega⟩
      exact List.mem_of_getElem? (Lib.indexByte_some ho).1
    · intro h
      have hge := Lib.indexByte_ge D 120
      by_cases hn : Lib.indexByte D 120 = -1
      · obtain ⟨k, hk⟩ := List.getElem?_of_mem h
        exact absurd hk (Lib.indexByte_none hn k)
      · omega
  simp only [decide_eq_decide.2 e] at h
  exact h
theorem any01_any (D : List UInt8) (w : World) (hl : D.length ≤ 256) (hd : D.all Tn.tri = true) : Calls Tryz.prog 56 #[.string ⟨D.toArray⟩, .string ⟨#[48, 49]⟩] w fun e w' => e = .returned (.bool (D.any dg01)) ∧ Below w.heap.size w w' := by
  have h := Any.strings_ContainsAny_laid Tryz.l150 (by kernel_rfl) ⟨D.toArray⟩ ⟨#[48, 49]⟩ w (by simp [ByteArray.size]; omega) (by decide) (fun j b hb => by
    have h1 := List.all_eq_true.1 hd b (List.mem_of_getElem? (by simpa using hb))
    unfold Tn.tri at h1
    rw [Bool.or_eq_true, Bool.or_eq_true, beq_iff_eq, beq_iff_eq, beq_iff_eq] at h1
    rcases h1 with (e | e) | e <;> rw [e] <;> decide) (fun j b hb => by
    rcases j with _ | _ | j
    · simp at hb; rw [← hb]; decide
    · simp at hb; rw [← hb]; decide
    · simp at hb)
  have e := any_has D
  simp only [e] at h
  exact h
/-- the text of a number -/
def numW (v : Nat) : List UInt8 := if v < 65536 then Lib.decDigits v else quadL v
/-- what a field's bytes are told as -/
def tellM (D : List UInt8) : List UInt8 := if (cntS D 0 true 0).1 = D.length then numW (valF 0 D) else if (cntS D 0 true 0).2 = true then quadL (valF 0 D) ++ [47] ++ Lib.decDigits (cntS D 0 true 0).1 else [37] ++ D
theorem valF_ub : ∀ (s : List UInt8) (v : Nat), valF v s < (v + 1) * 2 ^ s.length
  | [], v => by rw [valF]; simp
  | c :: s, v => by
    rw [valF]
    have h := valF_ub s (2 * v + (if c = 49 then 1 else 0))
    rw [List.length_cons, Nat.pow_succ]
    refine Nat.lt_of_lt_of_le h ?_
    rw [Nat.mul_comm (2 ^ s.length) 2, ← Nat.mul_assoc]
    refine Nat.mul_le_mul_right _ ?_
    split <;> omega
theorem valF_4g {D : List UInt8} (h : D.length ≤ 32) : valF 0 D < 4294967296 := by
  have h1 := valF_ub D 0
  have h2 : 2 ^ D.length ≤ 2 ^ 32 := Nat.pow_le_pow_right (by decide) h
  omega
theorem dec_10 (n : Nat) (h : n < 4294967296) : (Lib.decDigits n).length ≤ 10 := by
  have e : ∀ (k n : Nat), n < 10 ^ (k + 1) → (Lib.decDigits n).length ≤ k + 1 := by
    intro k
    induction k with
    | zero =>
      intro n hn
      rw [Lib.decDigits, dif_pos (by omega)]
      simp
    | succ k ih =>
      intro n hn
      rw [Lib.decDigits]
      split
      · simp
      · have := ih (n / 10) (by rw [Nat.pow_succ] at hn; omega)
        rw [List.length_append, List.length_singleton]
        omega
  have := e 9 n (by omega)
  omega
theorem quad_47 (n : Nat) (h : n < 4294967296) : (quadL n).length ≤ 47 := by
  unfold quadL
  have h1 := dec_10 (n / 16777216) (by omega)
  have h2 := dec_10 (n / 65536 % 256) (by omega)
  have h3 := dec_10 (n / 256 % 256) (by omega)
  have h4 := dec_10 (n % 256) (by omega)
  simp only [List.length_append, List.length_singleton]
  omega
set_option maxRecDepth 100000 in
set_option maxHeartbeats 600000 in
theorem tell_any (D : List UInt8) (w : World) (hl : D.length ≤ 32) (hd : D.all Tn.tri = true) (htab : Lib.TabIs Tryz.prog w "internal/strconv.uint64pow10" .u64 Lib.pow10Tab) : Calls Tryz.prog 57 #[.string ⟨D.toArray⟩] w fun e w' => e = .returned (.string ⟨(tellM D).toArray⟩) ∧ Below w.heap.size w w' := by
  obtain ⟨v, hv⟩ : ∃ v, valF 0 D = v := ⟨_, rfl⟩
  have hv4 := valF_4g hl
  have HV := fvalue3_any D w hl hd
  rw [hv] at HV hv4
  obtain ⟨c1, c2⟩ := cnt_trim D
  obtain ⟨m, hm⟩ := trim_rep D
  have HT : Hid (∀ W, Calls Tryz.prog 80 #[.string ⟨D.toArray⟩, .string ⟨#[120]⟩] W fun e w' => e = .returned (.string ⟨(Lib.trimRightB D 120).toArray⟩) ∧ w' = W) := fun W => trimx_any D W (by omega)
  obtain ⟨A, hA⟩ : ∃ A, Lib.trimRightB D 120 = A := ⟨_, rfl⟩
  rw [hA] at c1 c2 hm HT
  have hAl : A.length ≤ D.length := by rw [hm, List.length_append]; omega
  have HF : Hid (∀ (d : Bool) (W : World), Below w.heap.size w W → Calls Tryz.prog 82 #[.int .i64 (v : Int), .bool d] W fun e w' => e = .returned (.string ⟨(numL v d).toArray⟩) ∧ Below W.heap.size W w') := fun d W hW => fnumber_any v d W (tab_below htab hW)
  have HI : Hid (∀ (W : World), Below w.heap.size w W → Calls Tryz.prog 83 #[.int .i64 (A.length : Int)] W fun e w' => e = .returned (.string ⟨(Lib.decDigits A.length).toArray⟩) ∧ Below W.heap.size W w') := fun W hW => itoa_any A.length (by omega) W (tab_below htab hW)
  have n1 : numL v true = quadL v := by unfold numL; rw [if_neg (by omega), if_pos rfl]; rfl
  have n2 : numL v (decide (65536 ≤ v)) = numW v := by
    unfold numL numW
    rw [if_neg (by omega)]
    by_cases h : v < 65536
    · rw [if_pos h, decide_eq_false (by omega)]; rfl
    · rw [if_neg h, decide_eq_true (by omega)]; rfl
  have hM : tellM D = if 120 ∈ A then [37] ++ D else if A.length < D.length then quadL v ++ [47] ++ Lib.decDigits A.length else numW v := by
    unfold tellM
    rw [hv]
    by_cases h : 120 ∈ A
    · obtain ⟨g1, g2⟩ := c1 h
      rw [if_pos h, if_neg (by omega), g2, if_neg (by decide)]
    · rw [if_neg h, c2 h]
      by_cases h3 : A.length < D.length
      · rw [if_pos h3, if_neg (by simp only; omega), if_pos rfl]
      · rw [if_neg h3, if_pos (by simp only; omega)]
  have HVh : Hid (Calls Tryz.prog 36 #[.string ⟨D.toArray⟩] w fun e w' => e = .returned (.int .i64 (v : Int)) ∧ Below w.heap.size w w') := HV
  have HM : Hid (tellM D = if 120 ∈ A then [37] ++ D else if A.length < D.length then quadL v ++ [47] ++ Lib.decDigits A.length else numW v) := hM
  obtain ⟨R, hR⟩ : ∃ R, tellM D = R := ⟨_, rfl⟩
  rw [hR] at HM
  rw [hR]
  have HX : Hid (∀ W, Calls Tryz.prog 81 #[.string ⟨A.toArray⟩, .string ⟨#[120]⟩] W fun e w' => e = .returned (.bool (decide (120 ∈ A))) ∧ w' = W) := fun W => hasx_any A W
  have N1 : Hid (numL v true = quadL v) := n1
  have N2 : Hid (numL v (decide (65536 ≤ v)) = numW v) := n2
  have hq := quad_47 v hv4
  have hdl := dec_10 A.length (by omega)
  obtain ⟨E, hE⟩ : ∃ E, Lib.decDigits A.length = E := ⟨_, rfl⟩
  obtain ⟨Qd, hQd⟩ : ∃ Q, quadL v = Q := ⟨_, rfl⟩
  rw [hE] at HI hdl
  rw [hE, hQd] at HM
  rw [hQd] at hq
  have HQ1 : Hid (∀ (W : World), Below w.heap.size w W → Calls Tryz.prog 82 #[.int .i64 (v : Int), .bool true] W fun e w' => e = .returned (.string ⟨Qd.toArray⟩) ∧ Below W.heap.size W w') := fun W hW => by
    have := HF.out true W hW
    rw [n1, hQd] at this
    exact this
  have HQ2 : Hid (∀ (d : Bool), decide (65536 ≤ v) = d → R = numW v → ∀ (W : World), Below w.heap.size w W → Calls Tryz.prog 82 #[.int .i64 (v : Int), .bool d] W fun e w' => e = .returned (.string ⟨R.toArray⟩) ∧ Below W.heap.size W w') := fun d hd hRR W hW => by
    have := HF.out d W hW
    rw [← hd, n2, ← hRR] at this
    rw [← hd]
    exact this
  clear HV hM hR hv c1 c2 hm hA htab n1 n2 hd N1 N2 HF hE hQd
  go_enter Tryz.func57, Tryz.ntmps57
  go_wp2_with fail
  refine HVh.out.mono ?_
  rintro e W1 ⟨rfl, hb1⟩
  go_wp2_with fail
  refine (HT.out _).mono ?_
  rintro e W2 ⟨rfl, rfl⟩
  clear HVh HT
  by_cases hx : 120 ∈ A
  · have hR := HM.out
    rw [if_pos hx] at hR
    have HR : Hid (ByteArray.mk #[37] ++ ByteArray.mk D.toArray = ⟨R.toArray⟩) := by unfold Hid; rw [hR]; exact ByteArray.ext (by simp)
    have HX2 : Hid (∀ W, Calls Tryz.prog 81 #[.string ⟨A.toArray⟩, .string ⟨#[120]⟩] W fun e w' => e = .returned (.bool true) ∧ w' = W) := by have := HX.out; rw [decide_eq_true hx] at this; exact this
    clear HX hR HM HQ1 HQ2 HI hx
    go_wp2_with fail
    refine (HX2.out _).mono ?_
    rintro e W3 ⟨rfl, rfl⟩
    go_wp2_with fail
    go_ret
    exact ⟨congrArg (fun z => Ending.returned (.string z)) HR.out, hb1⟩
  · have HX2 : Hid (∀ W, Calls Tryz.prog 81 #[.string ⟨A.toArray⟩, .string ⟨#[120]⟩] W fun e w' => e = .returned (.bool false) ∧ w' = W) := by have := HX.out; rw [decide_eq_false hx] at this; exact this
    have hR := HM.out
    rw [if_neg hx] at hR
    clear HX HM hx
    by_cases hlt : A.length < D.length
    · rw [if_pos hlt] at hR
      have j1 : (A.length : Int) < (D.length : Int) := by omega
      have HR : Hid (ByteArray.mk Qd.toArray ++ ByteArray.mk #[47] ++ ByteArray.mk E.toArray = ⟨R.toArray⟩) := by unfold Hid; rw [hR]; exact ByteArray.ext (by simp)
      clear hR HQ2
      go_wp2_with fail
      refine (HX2.out _).mono ?_
      rintro e W3 ⟨rfl, rfl⟩
      go_wp2_with fail
      refine (HQ1.out _ hb1).mono ?_
      rintro e W4 ⟨rfl, hb4⟩
      have hb4' := bel0 hb1 hb4
      go_wp2_with fail
      refine (HI.out _ hb4').mono ?_
      rintro e W5 ⟨rfl, hb5⟩
      go_wp2_with fail
      go_ret
      exact ⟨congrArg (fun z => Ending.returned (.string z)) HR.out, bel0 hb4' hb5⟩
    · rw [if_neg hlt] at hR
      have j1 : ¬ (A.length : Int) < (D.length : Int) := by omega
      by_cases h6 : 65536 ≤ v
      · have j2 : (65536 : Int) ≤ (v : Int) := by omega
        have HN : Hid (∀ (W : World), Below w.heap.size w W → Calls Tryz.prog 82 #[.int .i64 (v : Int), .bool true] W fun e w' => e = .returned (.string ⟨R.toArray⟩) ∧ Below W.heap.size W w') := HQ2.out true (decide_eq_true h6) hR
        clear hR h6 HQ1 HQ2 HI
        go_wp2_with fail
        refine (HX2.out _).mono ?_
        rintro e W3 ⟨rfl, rfl⟩
        go_wp2_with fail
        refine (HN.out _ hb1).mono ?_
        rintro e W4 ⟨rfl, hb4⟩
        go_wp2_with fail
        go_ret
        exact ⟨rfl, bel0 hb1 hb4⟩
      · have j2 : (v : Int) < 65536 := by omega
        have j3 : decide ((65536 : Int) ≤ (v : Int)) = false := decide_eq_false (by omega)
        have HN : Hid (∀ (W : World), Below w.heap.size w W → Calls Tryz.prog 82 #[.int .i64 (v : Int), .bool false] W fun e w' => e = .returned (.string ⟨R.toArray⟩) ∧ Below W.heap.size W w') := HQ2.out false (decide_eq_false h6) hR
        clear hR h6 HQ1 HQ2 HI
        go_wp2_with fail
        refine (HX2.out _).mono ?_
        rintro e W3 ⟨rfl, rfl⟩
        go_wp2_with fail
        try simp only [j3]
        refine (HN.out _ hb1).mono ?_
        rintro e W4 ⟨rfl, hb4⟩
        go_wp2_with fail
        go_ret
        exact ⟨rfl, bel0 hb1 hb4⟩
end Go.Proofs.YtnobpeghofoniaaGreatDoor
namespace Go.Proofs.YtnobpeghofoniaaGreatDoor
open Go.RowKit Go.Shelf
theorem chkL_nm : ∀ (rest seen : List IFld), (chkL seen rest).1 = 0 → ∀ f ∈ rest, f.1.length ≤ 24
  | [], seen, _, f, hf => by simp at hf
  | g :: r, seen, h, f, hf => by
    rw [chkL] at h
    cases hb : badF seen g with
    | true => rw [hb, if_pos rfl] at h; cases h
    | false =>
      rw [hb, if_neg (by decide)] at h
      rcases List.mem_cons.1 hf with e | e
      · unfold badF at hb
        simp only [Bool.or_eq_false_iff, Bool.not_eq_false'] at hb
        rw [e]
        exact nm_len hb.2.1
      · exact chkL_nm r (seen ++ [g]) h f e
theorem chk_nm {L : List IFld} (h : (chkM L).1 = 0) : ∀ f ∈ L, f.1.length ≤ 24 := by
  unfold chkM at h
  by_cases h1 : 12 < L.length
  · rw [if_pos h1] at h; cases h
  · rw [if_neg h1] at h
    by_cases h2 : L.length = 0
    · rw [if_pos h2] at h; cases h
    · rw [if_neg h2] at h
      exact chkL_nm L [] h
/-- a field's test, where it has a digit -/
def swT (x D : List UInt8) : List (List UInt8) := if D.any dg01 = true then [x ++ [32, 61, 32] ++ tellM D] else []
/-- the tests of the first fields -/
def swL (L : List IFld) (s : List UInt8) (k : Nat) : List (List UInt8) := (List.range k).flatMap fun i => swT (L.getD i ([], 0)).1 (subL s (plN L i) (plN L i + (L.getD i ([], 0)).2.toNat))
theorem swL_succ {L : List IFld} {s : List UInt8} {k p b : Nat} {x : List UInt8} (hf : L[k]? = some (x, (b : Int))) (hp : sumB (L.take k) = (p : Int)) : swL L s (k + 1) = swL L s k ++ swT x (subL s p (p + b)) := by
  unfold swL plN
  rw [List.range_succ, List.flatMap_append]
  simp only [List.flatMap_cons, List.flatMap_nil, List.append_nil, hp, Int.toNat_natCast]
  rw [show L.getD k ([], 0) = (x, (b : Int)) by simp [List.getD, hf]]
  rfl
theorem swT_len (x D : List UInt8) : (swT x D).length ≤ 1 := by
  unfold swT
  split <;> simp
theorem swL_len (L : List IFld) (s : List UInt8) (k : Nat) : (swL L s k).length ≤ k := by
  induction k with
  | zero => simp [swL]
  | succ k ih =>
    unfold swL at ih ⊢
    rw [List.range_succ, List.flatMap_append, List.length_append]
    simp only [List.flatMap_cons, List.flatMap_nil, List.append_nil]
    have := swT_len (L.getD k ([], 0)).1 (subL s (plN L k) (plN L k + (L.getD k ([], 0)).2.toNat))
    omega
theorem tell_64 {D : List UInt8} (h : D.length ≤ 32) : (tellM D).length ≤ 64 := by
  have hv := valF_4g h
  have h1 := quad_47 _ hv
  have h2 := dec_10 _ hv
  have hc := cnt_le D
  have h3 := dec_10 (cntS D 0 true 0).1 (by omega)
  unfold tellM numW
  split
  · split <;> omega
  · split
    · simp only [List.length_append, List.length_singleton]
      omega
    · simp only [List.length_append, List.length_singleton]
      omega
theorem swL_in {L : List IFld} {s : List UInt8} (hx : ∀ f ∈ L, f.1.length ≤ 24 ∧ 1 ≤ f.2 ∧ f.2 ≤ 32) (k : Nat) (hk : k ≤ L.length) : ∀ t ∈ swL L s k, t.length ≤ 91 ∧ t ≠ [] := by
  intro t ht
  unfold swL at ht
  obtain ⟨i, hi, ht⟩ := List.mem_flatMap.1 ht
  rw [List.mem_range] at hi
  have hf := hx (L.getD i ([], 0)) (by rw [List.getD, List.getElem?_eq_getElem (by omega)]; exact List.getElem_mem _)
  have hD : (subL s (plN L i) (plN L i + (L.getD i ([], 0)).2.toNat)).length ≤ 32 := by
    unfold subL
    rw [List.length_take]
    omega
  have := tell_64 hD
  unfold swT at ht
  split at ht
  · rw [List.mem_singleton.1 ht]
    refine ⟨?_, by simp⟩
    simp only [List.length_append, List.length_cons, List.length_nil]
    omega
  · simp at ht
/-- the tests joined -/
def swJ (T : List (List UInt8)) : List UInt8 := if T = [] then [97, 110, 121] else Lib.join T [32, 38, 32]
/-- what Show answers -/
def swM (L : List IFld) (s : List UInt8) : List UInt8 × Int := if (chkM L).1 ≠ 0 then ([], (chkM L).1) else if cuB (sumB L).toNat s = false then ([], 46) else (swJ (swL L s L.length), 0)
theorem bextra6 : Builder.Extra Tryz.prog Tryz.l156_ren where
  sizeBuilder := by kernel_rfl
  liesBuilder := by kernel_rfl
  t5 := Tryz.underlying5
  a5 := Tryz.isAgg5
  z5 := Tryz.sizeOf5
  v5 := Tryz.zeroValue5
  infoByte := by kernel_rfl
  cellsByte := by kernel_rfl
  sizeByte := by kernel_rfl
  neB5 := by decide
theorem join_any (T : List (List UInt8)) (o : Option Addr) (c B : Nat) (W : World) (h0 : T ≠ []) (hT : T.length ≤ 12) (ht : ∀ t ∈ T, t.length ≤ 91) (hown : W.ownsRow B 9 1 (.slice o T.length c) T.length (stx T)) (hc : T.length ≤ c) : Calls Tryz.prog 58 #[.slice o T.length c, .string ⟨#[32, 38, 32]⟩] W fun e w' => e = .returned (.string ⟨(swJ T).toArray⟩) ∧ Below W.heap.size W w' := by
  have hl : 0 < T.length := List.length_pos_iff.2 h0
  obtain ⟨g, rfl⟩ := own_at hown hl
  have hle := join_le (T := T) (sep := [32, 38, 32]) (B := 91) (by decide) ht
  have hm : (T.map fun t => (⟨t.toArray⟩ : ByteArray)).map (fun z => z.data.toList) = T := by
    rw [List.map_map]
    conv => rhs; rw [← List.map_id T]
    rfl
  have hgl : g < W.heap.size := (hown.lt g rfl).2
  have h := Any.strings_Join Tryz.l156 bextra6 g 0 c (T.map fun t => (⟨t.toArray⟩ : ByteArray)) ⟨#[32, 38, 32]⟩ W (fun j x hj => by
    rw [List.getElem?_map] at hj
    cases hx : T[j]? with
    | none => rw [hx] at hj; cases hj
    | some t =>
      rw [hx] at hj
      have hjl : j < T.length := (List.getElem?_eq_some_iff.1 hx).1
      have e : T[j] = t := (List.getElem?_eq_some_iff.1 hx).2
      have h1 := (hown.cellAt j (by omega)).trans (stx_get T j hjl)
      rw [← Option.some.inj hj, Nat.zero_add, h1, e]) hgl (by rw [List.length_map]; omega) (by rw [List.length_map]; omega) (by rw [hm]; show (Lib.join T [32, 38, 32]).length ≤ _; omega)
  rw [hm, List.length_map] at h
  unfold swJ
  rw [if_neg h0]
  exact h
set_option maxRecDepth 100000 in
set_option maxHeartbeats 8000000 in
theorem show_any (L : List IFld) (o : Option Addr) (c : Nat) (s : List UInt8) (w : World) (hL : L.length ≤ 281474976710656) (hc : L.length ≤ c) (hx : ∀ f ∈ L, f.1.length ≤ 281474976710656) (hs : s.length ≤ 281474976710656) (hr : IRF w o L) (hv1 : SH w) (hv4 : SG w) (hv5 : VW w) :
    Calls Tryz.prog 25 #[.slice o L.length c, .string ⟨s.toArray⟩] w fun e w' => e = .returned (.tuple #[.string ⟨(swM L s).1.toArray⟩, .int .i64 (swM L s).2]) ∧ Below w.heap.size w w' := by
  have HC := check_any L o c w hL hc hx hr hv1 hv4 hv5
  obtain ⟨R, hR⟩ : ∃ R, swM L s = R := ⟨_, rfl⟩
  rw [hR]
  by_cases h0 : ¬ (chkM L).1 = 0
  · have hres : Hid (R = ([], (chkM L).1)) := by unfold Hid; rw [← hR]; unfold swM; rw [if_pos h0]
    obtain ⟨ce, hce⟩ : ∃ x, (chkM L).1 = x := ⟨_, rfl⟩
    rw [hce] at HC h0 hres
    have y1 : (ce != 0) = true := by simpa using h0
    clear hx hr hv1 hv4 hv5 hR hce
    go_enter Tryz.func25, Tryz.ntmps25
    go_wp2_with fail
    refine HC.mono ?_
    rintro e W1 ⟨rfl, hb1⟩
    go_wp2_with fail
    refine bodyPost_ret (results_tmp2 rfl _ _ _) rfl ?_
    exact ⟨by rw [hres.out]; rfl, hb1⟩
  replace h0 := Classical.not_not.1 h0
  rw [h0] at HC
  obtain ⟨k1, k2, k3, k4⟩ := chk_ok h0
  have hb0 : ∀ f ∈ L, 0 ≤ f.2 ∧ f.2 ≤ 32 := fun f hf => by have := k3 f hf; omega
  have hnl := chk_nm h0
  have hxx : ∀ f ∈ L, f.1.length ≤ 24 ∧ 1 ≤ f.2 ∧ f.2 ≤ 32 := fun f hf => ⟨hnl f hf, k3 f hf⟩
  obtain ⟨n, hn⟩ : ∃ n : Nat, sumB L = (n : Int) := ⟨(sumB L).toNat, by have := (sumB_bound L hb0).1; omega⟩
  have hn256 : n ≤ 256 := by omega
  have hn1 : 1 ≤ n := by
    obtain ⟨f0, hf0⟩ : ∃ f, L[0]? = some f := ⟨_, List.getElem?_eq_getElem k1⟩
    have h1 := sumB_take hf0
    have h2 := sumB_take_le hb0 (0 + 1)
    have h3 := k3 f0 (List.mem_of_getElem? hf0)
    have h4 : sumB (L.take 0) = 0 := rfl
    omega
  have hsh : swM L s = if cuB n s = false then ([], 46) else (swJ (swL L s L.length), 0) := by unfold swM; rw [if_neg (fun h => h h0), hn, Int.toNat_natCast]
  obtain ⟨f0, hf0⟩ : ∃ f, L[0]? = some f := ⟨_, List.getElem?_eq_getElem k1⟩
  obtain ⟨g, o0, rfl, -⟩ := hr w (Below.refl _ _) 0 f0 hf0
  have HR : Hid (IRF w (some ⟨g, o0, none⟩) L) := hr
  have HK3 : Hid (∀ f ∈ L, 1 ≤ f.2 ∧ f.2 ≤ 32) := k3
  have HB0 : Hid (∀ f ∈ L, 0 ≤ f.2 ∧ f.2 ≤ 32) := hb0
  have HXX : Hid (∀ f ∈ L, f.1.length ≤ 24 ∧ 1 ≤ f.2 ∧ f.2 ≤ 32) := hxx
  have HN : Hid (sumB L = (n : Int)) := hn
  obtain ⟨i0, hi, hz0, hz1, hz2⟩ := info_parts info_str
  have HWD : Hid (∀ W : World, Below w.heap.size w W → Calls Tryz.prog 34 #[.slice (some ⟨g, o0, none⟩) L.length c] W fun e w' => e = .returned (.int .i64 (n : Int)) ∧ Below W.heap.size W w') := fun W hW => by
    have := widthOf_any L (some ⟨g, o0, none⟩) c W (by omega) hb0 (hr.later hW)
    rw [hn] at this
    exact this
  have HIC : Hid (∀ W : World, Calls Tryz.prog 55 #[.string ⟨s.toArray⟩, .int .i64 (n : Int)] W fun e w' => e = .returned (.bool (cuB n s)) ∧ Below W.heap.size W w') := fun W => isCube_any n s W hn1 hn256 hs
  cases hh : cuB n s with
  | false =>
    have hres : Hid (R = ([], 46)) := by unfold Hid; rw [← hR, hsh, hh, if_pos rfl]
    simp only [hh] at HIC
    clear hx hr hR h0 k3 k4 hb0 hn hf0 hsh hh hnl hxx hv1 hv4 hv5
    go_enter Tryz.func25, Tryz.ntmps25
    go_wp2_with fail
    refine HC.mono ?_
    rintro e W1 ⟨rfl, hb1⟩
    go_wp2_with fail
    refine (HWD.out _ hb1).mono ?_
    rintro e W2 ⟨rfl, hb2⟩
    go_wp2_with fail
    refine (HIC.out _).mono ?_
    rintro e W4 ⟨rfl, hb4⟩
    go_wp2_with fail
    refine bodyPost_ret (results_tmp2 rfl _ _ _) rfl ?_
    exact ⟨by rw [hres.out]; rfl, bel0 (bel0 hb1 hb2) hb4⟩
  | true =>
    have hres : Hid (R = (swJ (swL L s L.length), 0)) := by unfold Hid; rw [← hR, hsh, hh, if_neg (by decide)]
    have hh2 := hh
    unfold cuB at hh2
    rw [Bool.and_eq_true, decide_eq_true_eq] at hh2
    obtain ⟨hsn, hs3⟩ := hh2
    simp only [hh] at HIC
    have HS3 : Hid (s.all Tn.tri = true) := hs3
    have HSN : Hid (s.length = n) := hsn
    have HPT : Hid (∀ (W : World) (i b p : Nat) (x : List UInt8), Below w.heap.size w W → L[i]? = some (x, (b : Int)) → sumB (L.take i) = (p : Int) → p + b ≤ s.length → Calls Tryz.prog 37 #[.string ⟨s.toArray⟩, .slice (some ⟨g, o0, none⟩) L.length c, .int .i64 (i : Int)] W fun e w' => e = .returned (.string ⟨(subL s p (p + b)).toArray⟩) ∧ Below W.heap.size W w') := fun W i b p x hW hf hp hpb => part_any s L g o0 c i x b p W hf hp hpb (by omega) hc (by omega) hb0 (hr.later hW)
    have HTE : Hid (∀ (W : World) (D : List UInt8), Below w.heap.size w W → D.length ≤ 32 → D.all Tn.tri = true → Calls Tryz.prog 57 #[.string ⟨D.toArray⟩] W fun e w' => e = .returned (.string ⟨(tellM D).toArray⟩) ∧ Below W.heap.size W w') := fun W D hW h1 h2 => tell_any D W h1 h2 (hv5.below hW).1
    clear hx hr hR h0 k3 k4 hb0 hn hf0 hsh hh hnl hxx hv1 hv4 hv5 hsn hs3
    go_enter Tryz.func25, Tryz.ntmps25
    go_wp2_with fail
    refine HC.mono ?_
    rintro e W1 ⟨rfl, hb1⟩
    go_wp2_with fail
    refine (HWD.out _ hb1).mono ?_
    rintro e W2 ⟨rfl, hb2⟩
    go_wp2_with fail
    refine (HIC.out _).mono ?_
    rintro e W4 ⟨rfl, hb4⟩
    have hB4 := bel0 (bel0 hb1 hb2) hb4
    clear HC HWD HIC hb1 hb2 hb4
    go_wp2_with fail
    go_loopw [8, 27] (fun v vk wr => ∃ (k : Nat) (T : List (List UInt8)), vk = .int .i64 k ∧ k ≤ L.length ∧ T.length ≤ k ∧ Hid (swL L s k = T) ∧ wr.ownsRow w.heap.size 9 1 v T.length (stx T) ∧ Below w.heap.size w wr) (fun _ vk _ => L.length - (intOf vk).toNat)
    case atStart => exact ⟨0, [], rfl, Nat.zero_le _, Nat.zero_le _, rfl, World.ownsRow_nil _ _ _ _, hB4⟩
    case round =>
      clear hB4
      obtain ⟨k, TT, rfl, hk, hTk, hT, hown, hB⟩ := hrel
      obtain ⟨pv, cv, rfl⟩ := shapeP hown
      by_cases hlt : k < L.length
      · have j1 : (k : Int) < (L.length : Int) := by omega
        have j0 : (0 : Int) ≤ (k : Int) := by omega
        obtain ⟨f, hf⟩ : ∃ f, L[k]? = some f := ⟨_, List.getElem?_eq_getElem hlt⟩
        obtain ⟨g9, o9, e9, p0, p1⟩ := HR.out wr hB k f hf
        injection e9 with e9
        injection e9 with e9 e10
        subst e9 e10
        have hbits := HXX.out f (List.mem_of_getElem? hf)
        have hst := sumB_take hf
        have hle := sumB_take_le HB0.out (k + 1)
        rw [hst, HN.out] at hle
        have hge := (sumB_bound (L.take k) (fun f hf => HB0.out f (List.mem_of_mem_take hf))).1
        obtain ⟨x, bi⟩ := f
        obtain ⟨b, rfl⟩ : ∃ b : Nat, bi = (b : Int) := ⟨bi.toNat, by simp only at hbits; omega⟩
        obtain ⟨p, hp⟩ : ∃ p : Nat, sumB (L.take k) = (p : Int) := ⟨(sumB (L.take k)).toNat, by omega⟩
        rw [hp] at hle
        simp only at hle hbits p0 p1
        have hsn := HSN.out
        have hsc := swL_succ (s := s) hf hp
        rw [hT.out] at hsc
        have hpt := fun W hW => HPT.out W k b p x hW hf hp (by omega)
        have hDl : (subL s p (p + b)).length ≤ 32 := by unfold subL; rw [List.length_take]; omega
        have hDt : (subL s p (p + b)).all Tn.tri = true := by
          rw [List.all_eq_true]
          intro d hd
          unfold subL at hd
          exact List.all_eq_true.1 HS3.out d (List.mem_of_mem_drop (List.mem_of_mem_take hd))
        obtain ⟨D, hD⟩ : ∃ D, subL s p (p + b) = D := ⟨_, rfl⟩
        simp only [hD] at hpt hDl hDt hsc
        have HPK : Hid (∀ W : World, Below w.heap.size w W → Calls Tryz.prog 37 #[.string ⟨s.toArray⟩, .slice (some ⟨g, o0, none⟩) L.length c, .int .i64 (k : Int)] W fun e w' => e = .returned (.string ⟨D.toArray⟩) ∧ Below W.heap.size W w') := hpt
        have HA1 : Hid (∀ W : World, Calls Tryz.prog 56 #[.string ⟨D.toArray⟩, .string ⟨#[48, 49]⟩] W fun e w' => e = .returned (.bool (D.any dg01)) ∧ Below W.heap.size W w') := fun W => any01_any D W (by omega) hDt
        have HTD : Hid (∀ W : World, Below w.heap.size w W → Calls Tryz.prog 57 #[.string ⟨D.toArray⟩] W fun e w' => e = .returned (.string ⟨(tellM D).toArray⟩) ∧ Below W.heap.size W w') := fun W hW => HTE.out W D hW hDl hDt
        have htl := tell_64 hDl
        obtain ⟨Y, hY⟩ : ∃ Y, tellM D = Y := ⟨_, rfl⟩
        have hST : swT x D = if D.any dg01 = true then [x ++ [32, 61, 32] ++ Y] else [] := by rw [← hY]; rfl
        rw [hST] at hsc
        simp only [hY] at HTD
        rw [hY] at htl
        obtain ⟨O, hO⟩ : ∃ O : Obj, Obj.cells #[.string ⟨x.toArray⟩, .int .i64 (b : Int)] 39 = O := ⟨_, rfl⟩
        have hBs := hB.size
        have hB2 : Below w.heap.size w (wr.alloc O) := hB.alloc hBs O
        have hown2 : (wr.alloc O).ownsRow w.heap.size 9 1 (.slice pv TT.length cv) TT.length (stx TT) := hown.alloc O
        have hbx : (wr.alloc O).heap[wr.heap.size]? = some (.cells #[.string ⟨x.toArray⟩, .int .i64 (b : Int)] 39) := by rw [hO]; exact alloc_get _ _
        have XT : Hid (∀ W : World, Below (wr.alloc O).heap.size (wr.alloc O) W → W.cell? ⟨wr.heap.size, 0, none⟩ = some (.string ⟨x.toArray⟩)) := fun W hW => cell_of_row W _ 0 _ _ _ (keepblk hW hbx)
        clear hbx hst hD hY hST hf hp hpt hT hown
        cases ha : D.any dg01 with
        | false =>
          rw [ha, if_neg (by decide), List.append_nil] at hsc
          have HSC : Hid (swL L s (k + 1) = TT) := hsc
          simp only [ha] at HA1
          clear hsc ha
          go_wp2_with fail
          try simp only [hO]
          refine (HPK.out _ hB2).mono ?_
          rintro e W5 ⟨rfl, hb5⟩
          go_wp2_with fail
          refine (HA1.out _).mono ?_
          rintro e W6 ⟨rfl, hb6⟩
          have h56 := bel0 hb5 hb6
          go_wp2_with fail
          go_roundw
          case rel => exact ⟨k + 1, TT, by go_num, by omega, by omega, HSC, owns_below hown2 h56, bel0 hB2 h56⟩
          case measure => simp [intOf]; omega
        | true =>
          rw [ha, if_pos rfl] at hsc
          obtain ⟨Z, hZ⟩ : ∃ Z, x ++ [32, 61, 32] ++ Y = Z := ⟨_, rfl⟩
          rw [hZ] at hsc
          have HSC : Hid (swL L s (k + 1) = TT ++ [Z]) := hsc
          have HCT : Hid (ByteArray.mk x.toArray ++ ByteArray.mk #[32, 61, 32] ++ ByteArray.mk Y.toArray = ⟨Z.toArray⟩) := by unfold Hid; rw [← hZ]; exact ByteArray.ext (by simp)
          have HE : Hid (stx (TT ++ [Z]) = stx TT ++ [.string ⟨Z.toArray⟩]) := stx_snoc TT Z
          simp only [ha] at HA1
          clear hsc ha hZ
          go_wp2_with fail
          try simp only [hO]
          refine (HPK.out _ hB2).mono ?_
          rintro e W5 ⟨rfl, hb5⟩
          go_wp2_with fail
          refine (HA1.out _).mono ?_
          rintro e W6 ⟨rfl, hb6⟩
          have h56 := bel0 hb5 hb6
          have hB6 := bel0 hB2 h56
          have hown6 := owns_below hown2 h56
          have hX6 : Hid (∀ W : World, Below W6.heap.size W6 W → W.cell? ⟨wr.heap.size, 0, none⟩ = some (.string ⟨x.toArray⟩)) := fun W hW => XT.out W (bel0 h56 hW)
          clear hown2 XT hB2 hb5 hb6 h56
          go_wp2_with fail
          have hq1 : ¬ 9223372036854775807 < x.length + 3 := by omega
          have hq2 : ¬ 9223372036854775807 < x.length + 3 + Y.length := by omega
          have hx0 := hX6.out W6.drew (Below.refl _ _).drew
          have hx00 := hX6.out W6 (Below.refl _ _)
          have hB6d : Below w.heap.size w W6.drew := hB6.drew
          have hown6d : W6.drew.ownsRow w.heap.size 9 1 (.slice pv TT.length cv) TT.length (stx TT) := owns_below hown6 (Below.refl _ _).drew
          have hX6d : Hid (∀ W : World, Below W6.drew.heap.size W6.drew W → W.cell? ⟨wr.heap.size, 0, none⟩ = some (.string ⟨x.toArray⟩)) := fun W hW => hX6.out W (bel0 (Below.refl _ _).drew hW)
          go_region_law ((first | (refine step_append_lies _ (by rfl) _ _ 45 (by rfl) w.heap.size 9 i0 _ 1 16 Tryz.underlying45 hi hz0 hz1 hz2 rfl (by decide) _ TT.length (stx TT) (by rfl) (hown7.alloc _) ⟨w1.heap.size, 0, none⟩ 1 1 [.string (ByteArray.mk x.toArray ++ ByteArray.mk #[32, 61, 32] ++ ByteArray.mk Y.toArray)] (by rfl) rfl (World.news_of_block (cs := #[.string (ByteArray.mk x.toArray ++ ByteArray.mk #[32, 61, 32] ++ ByteArray.mk Y.toArray)]) (t := 9) (fr := (0, 0)) (heap_alloc_new _ _)) (by simp [Value.oneCell']) (by decide) (by unfold maxLen; omega) (by omega) (by simp; omega) _ rfl ?_; intro g5 c5 w5 oB hg5 _ _) | (go_simp; go_at_call 57; refine (HTD.out _ (by first | exact hB6d | exact hB6)).mono ?_; rintro e w1 ⟨rfl, hb1⟩; have hx1 := (by first | exact hX6d.out w1 hb1 | exact hX6.out w1 hb1 : w1.cell? ⟨wr.heap.size, 0, none⟩ = some (.string ⟨x.toArray⟩)); have hown7 := (by first | exact owns_below hown6d hb1 | exact owns_below hown6 hb1 : w1.ownsRow w.heap.size 9 1 (.slice pv TT.length cv) TT.length (stx TT)); have hB7 := (by first | exact bel0 hB6d hb1 | exact bel0 hB6 hb1 : Below w.heap.size w w1); have hBs7 := hB7.size)))
          all_goals
            go_wp2_with fail
            go_roundw
            case rel => exact ⟨k + 1, TT ++ [Z], by go_num, by omega, by simp; omega, HSC, by rw [HE.out, ← HCT.out, List.length_append]; exact oB, (by first | exact Below.grown ((hB7.alloc hBs7 _).drew) hg5 (by simp; omega) (fun k e => (hown7.lt k e).1) | exact Below.grown ((hB7.drew).alloc hBs7 _) hg5 (by simp; omega) (fun k e => (hown7.lt k e).1) | exact Below.grown (hB7.alloc hBs7 _) hg5 (by simp; omega) (fun k e => (hown7.lt k e).1))⟩
            case measure => simp [intOf]; omega
      · have j1 : ¬ (k : Int) < (L.length : Int) := by omega
        obtain rfl : k = L.length := by omega
        have hin := swL_in HXX.out L.length (Nat.le_refl _) (s := s)
        rw [hT.out] at hin
        by_cases hT0 : TT = []
        · have hR2 : R = ([97, 110, 121], 0) := by rw [hres.out, hT.out, hT0]; rfl
          subst hT0
          have HR2 : Hid (R = ([97, 110, 121], 0)) := hR2
          clear hR2 hT hin hown hres
          go_wp2_with fail
          refine bodyPost_ret (results_tmp2 rfl _ _ _) rfl ?_
          exact ⟨by rw [HR2.out]; rfl, hB⟩
        · have hl0 : 0 < TT.length := List.length_pos_iff.2 hT0
          have j2 : ((TT.length : Int) == 0) = false := by rw [beq_eq_false_iff_ne]; omega
          have HJ : Hid (Calls Tryz.prog 58 #[.slice pv TT.length cv, .string ⟨#[32, 38, 32]⟩] wr fun e w' => e = .returned (.string ⟨(swJ TT).toArray⟩) ∧ Below wr.heap.size wr w') := join_any TT pv cv _ wr hT0 (by omega) (fun t ht => (hin t ht).1) hown (own_capX hown)
          have HR2 : Hid (R = (swJ TT, 0)) := by unfold Hid; rw [hres.out, hT.out]
          clear hT hin hown hres hT0
          go_wp2_with fail
          refine HJ.out.mono ?_
          rintro e W5 ⟨rfl, hb5⟩
          go_wp2_with fail
          refine bodyPost_ret (results_tmp2 rfl _ _ _) rfl ?_
          exact ⟨by rw [HR2.out]; rfl, bel0 hB hb5⟩
end Go.Proofs.YtnobpeghofoniaaGreatDoor
namespace Go.Proofs.YtnobpeghofoniaaGreatDoor
open Go.RowKit Go.Shelf
set_option maxRecDepth 100000 in
set_option maxHeartbeats 8000000 in
theorem refOf3_any (n : Nat) (s : List UInt8) (w : World) (h2 : n ≤ 256) : Calls Tryz.prog 49 #[.string ⟨s.toArray⟩, .string ⟨#[48, 49, 120]⟩, .int .i64 (n : Int)] w fun e w' => e = .returned (.bool (cuB n s)) ∧ Below w.heap.size w w' := by
  by_cases hl : ¬ s.length = n
  · have i1 : ((s.length : Int) != (n : Int)) = true := by simp only [bne_iff_ne]; omega
    have hr : Hid (cuB n s = false) := by unfold Hid cuB; rw [decide_eq_false hl]; rfl
    go_enter Tryz.func49, Tryz.ntmps49
    go_wp2_with fail
    go_ret
    exact ⟨by rw [hr.out]; rfl, Below.refl _ _⟩
  replace hl := Classical.not_not.1 hl
  have i1 : ((s.length : Int) != (n : Int)) = false := by rw [hl]; simp
  obtain ⟨q, hq⟩ : ∃ q, cuB n s = q := ⟨_, rfl⟩
  rw [hq]
  have HNO : Hid (∀ (k : Nat) (c : UInt8), s[k]? = some c → Tn.tri c = false → q = false) := fun k c h hc => by rw [← hq]; exact cuB_no h hc
  have HYES : Hid ((∀ (k : Nat) (c : UInt8), s[k]? = some c → Tn.tri c = true) → q = true) := fun h => by rw [← hq]; exact cuB_yes hl h
  have HL : Hid (s.length = n) := hl
  have hs256 : s.length ≤ 256 := by omega
  clear hq hl
  go_enter Tryz.func49, Tryz.ntmps49
  go_wp2_with fail
  go_loopw [7] (fun vk wr => ∃ k : Nat, vk = .int .i64 k ∧ k ≤ s.length ∧ Hid (∀ (j : Nat) (c : UInt8), j < k → s[j]? = some c → Tn.tri c = true) ∧ Below w.heap.size w wr) (fun vk _ => s.length - (intOf vk).toNat)
  case atStart => exact ⟨0, rfl, Nat.zero_le _, fun j c hj => by omega, Below.refl _ _⟩
  case round =>
    obtain ⟨k, rfl, hk, hno, hB⟩ := hrel
    by_cases hlt : k < s.length
    · have j0 : (0 : Int) ≤ (k : Int) := by omega
      have j1 : (k : Int) < (s.length : Int) := by omega
      obtain ⟨c, hc, hlc⟩ := byte_get s k hlt
      have HNK : Hid (Tn.tri c = false → q = false) := HNO.out k c hlc
      have HNX : Hid (Tn.tri c = true → ∀ (j : Nat) (d : UInt8), j < k + 1 → s[j]? = some d → Tn.tri d = true) := fun h j d hj hd => by
        rcases Nat.lt_or_ge j k with h3 | h3
        · exact hno.out j d h3 hd
        · obtain rfl : j = k := by omega
          rw [hlc] at hd
          rw [← Option.some.inj hd]
          exact h
      have htri : Tn.tri c = (dg01 c || c == 120) := rfl
      clear hlc hno
      go_wp2_with fail
      go_loopw [8, 9] (fun vf vj wi => ∃ (j : Nat) (f : Bool), vj = .int .i64 j ∧ j ≤ 3 ∧ vf = .bool f ∧ Hid ((j = 0 → f = false) ∧ (j = 1 → f = (c == 48)) ∧ (j = 2 → f = dg01 c) ∧ (j = 3 → f = Tn.tri c)) ∧ Below w.heap.size w wi) (fun _ vj _ => 3 - (intOf vj).toNat)
      case atStart => exact ⟨0, false, rfl, by omega, rfl, ⟨fun _ => rfl, fun h => by omega, fun h => by omega, fun h => by omega⟩, hB⟩
      case round =>
        clear hB
        obtain ⟨j, f, rfl, hj, rfl, hf, hB⟩ := hrel
        rcases (show j = 0 ∨ j = 1 ∨ j = 2 ∨ j = 3 by omega) with hj0 | hj1 | hj2 | hj3
        · obtain rfl : f = false := hf.out.1 hj0
          have q0 : (j : Int) < 3 := by omega
          have q1 : (0 : Int) ≤ (j : Int) := by omega
          have HJ : Hid (j = 0) := hj0
          obtain ⟨e0, he0⟩ : ∃ e, (c == 48) = e := ⟨_, rfl⟩
          have HE : Hid ((((c.toNat : Int)) == 48) = e0) := by
            unfold Hid
            rw [← he0, Bool.eq_iff_iff, beq_iff_eq, beq_iff_eq]
            exact ⟨fun h => UInt8.toNat_inj.1 (by show c.toNat = 48; omega), fun h => by rw [h]; rfl⟩
          have HF2 : Hid ((j + 1 = 0 → e0 = false) ∧ (j + 1 = 1 → e0 = (c == 48)) ∧ (j + 1 = 2 → e0 = dg01 c) ∧ (j + 1 = 3 → e0 = Tn.tri c)) := ⟨fun h => by omega, fun _ => he0.symm, fun h => by have := HJ.out; omega, fun h => by have := HJ.out; omega⟩
          clear hf hj0 he0
          go_wp2_with fail
          refine quiet_lit3 (C := fun W => Below w.heap.size w W) (by kernel_rfl) (by kernel_rfl) (show Below _ _ _ from hB.drew) ?_
          go_big_quiet_want
          go_big_quiet_op
          go_big_quiet_on
          go_big_quiet_want
          go_big_quiet_op
          go_big_quiet_on
          go_big_quiet_want
          go_big_quiet_op
          go_big_quiet_on
          go_big_quiet_want
          go_big_quiet_op
          go_big_quiet_on
          go_big_quiet_want
          refine ⟨.int .u8 (c.toNat : Int), fun W hW => ?_, ?_⟩
          · go_simp
          go_big_quiet_on
          simp only [Act.put, List.setIfInBounds_toArray, List.set_cons_zero, List.set_cons_succ]
          go_big_quiet_want
          go_big_quiet_op
          go_big_quiet_on
          go_big_quiet_want
          go_big_quiet_op
          go_big_quiet_on
          go_big_quiet_want
          refine ⟨.int .u8 48, fun W hW => ?_, ?_⟩
          · have hj0 := HJ.out
            subst hj0
            go_simp
            rfl
          go_big_quiet_on
          simp only [Act.put, List.setIfInBounds_toArray, List.set_cons_zero, List.set_cons_succ]
          go_big_quiet_want
          refine ⟨.bool e0, fun W hW => ?_, ?_⟩
          · go_simp
            exact HE.out
          go_big_quiet_on
          simp only [Act.put, List.setIfInBounds_toArray, List.set_cons_zero, List.set_cons_succ]
          go_big_quiet_want
          refine ⟨.bool e0, fun W hW => ?_, ?_⟩
          · go_simp
          go_big_quiet_on
          simp only [Act.put, List.setIfInBounds_toArray, List.set_cons_zero, List.set_cons_succ]
          go_big_quiet_want
          go_big_quiet_op
          go_big_quiet_on
          refine wpQuiet_nil ?_
          intro W hW
          go_wp2_with fail
          go_roundw
          case rel => exact ⟨j + 1, e0, by go_num, by have := HJ.out; omega, rfl, HF2, hW⟩
          case measure => simp [intOf]; omega
        · have hf1 : f = (c == 48) := hf.out.2.1 hj1
          have q0 : (j : Int) < 3 := by omega
          have q1 : (0 : Int) ≤ (j : Int) := by omega
          have HJ : Hid (j = 1) := hj1
          cases f with
          | true =>
            have HF2 : Hid ((j + 1 = 0 → true = false) ∧ (j + 1 = 1 → true = (c == 48)) ∧ (j + 1 = 2 → true = dg01 c) ∧ (j + 1 = 3 → true = Tn.tri c)) := ⟨fun h => by omega, fun h => by have := HJ.out; omega, fun _ => by unfold dg01; rw [← hf1]; rfl, fun h => by have := HJ.out; omega⟩
            clear hf hj1 hf1
            go_wp2_with fail
            refine quiet_lit3 (C := fun W => Below w.heap.size w W) (by kernel_rfl) (by kernel_rfl) (show Below _ _ _ from hB.drew) ?_
            go_big_quiet_want
            go_big_quiet_op
            go_big_quiet_on
            go_big_quiet_want
            go_big_quiet_op
            go_big_quiet_on
            go_big_quiet_skip
            go_big_quiet_skip
            go_big_quiet_skip
            go_big_quiet_skip
            go_big_quiet_skip
            go_big_quiet_skip
            go_big_quiet_skip
            go_big_quiet_want
            refine ⟨.bool true, fun W hW => ?_, ?_⟩
            · go_simp
            go_big_quiet_on
            simp only [Act.put, List.setIfInBounds_toArray, List.set_cons_zero, List.set_cons_succ]
            go_big_quiet_want
            go_big_quiet_op
            go_big_quiet_on
            refine wpQuiet_nil ?_
            intro W hW
            go_wp2_with fail
            go_roundw
            case rel => exact ⟨j + 1, true, by go_num, by have := HJ.out; omega, rfl, HF2, hW⟩
            case measure => simp [intOf]; omega
          | false =>
            obtain ⟨e0, he0⟩ : ∃ e, (c == 49) = e := ⟨_, rfl⟩
            have HE : Hid ((((c.toNat : Int)) == 49) = e0) := by
              unfold Hid
              rw [← he0, Bool.eq_iff_iff, beq_iff_eq, beq_iff_eq]
              exact ⟨fun h => UInt8.toNat_inj.1 (by show c.toNat = 49; omega), fun h => by rw [h]; rfl⟩
            have HF2 : Hid ((j + 1 = 0 → e0 = false) ∧ (j + 1 = 1 → e0 = (c == 48)) ∧ (j + 1 = 2 → e0 = dg01 c) ∧ (j + 1 = 3 → e0 = Tn.tri c)) := ⟨fun h => by omega, fun h => by have := HJ.out; omega, fun _ => by unfold dg01; rw [← hf1, he0]; rfl, fun h => by have := HJ.out; omega⟩
            clear hf hj1 hf1 he0
            go_wp2_with fail
            refine quiet_lit3 (C := fun W => Below w.heap.size w W) (by kernel_rfl) (by kernel_rfl) (show Below _ _ _ from hB.drew) ?_
            go_big_quiet_want
            go_big_quiet_op
            go_big_quiet_on
            go_big_quiet_want
            go_big_quiet_op
            go_big_quiet_on
            go_big_quiet_want
            go_big_quiet_op
            go_big_quiet_on
            go_big_quiet_want
            go_big_quiet_op
            go_big_quiet_on
            go_big_quiet_want
            refine ⟨.int .u8 (c.toNat : Int), fun W hW => ?_, ?_⟩
            · go_simp
            go_big_quiet_on
            simp only [Act.put, List.setIfInBounds_toArray, List.set_cons_zero, List.set_cons_succ]
            go_big_quiet_want
            go_big_quiet_op
            go_big_quiet_on
            go_big_quiet_want
            go_big_quiet_op
            go_big_quiet_on
            go_big_quiet_want
            refine ⟨.int .u8 49, fun W hW => ?_, ?_⟩
            · have hj0 := HJ.out
              subst hj0
              go_simp
              rfl
            go_big_quiet_on
            simp only [Act.put, List.setIfInBounds_toArray, List.set_cons_zero, List.set_cons_succ]
            go_big_quiet_want
            refine ⟨.bool e0, fun W hW => ?_, ?_⟩
            · go_simp
              exact HE.out
            go_big_quiet_on
            simp only [Act.put, List.setIfInBounds_toArray, List.set_cons_zero, List.set_cons_succ]
            go_big_quiet_want
            refine ⟨.bool e0, fun W hW => ?_, ?_⟩
            · go_simp
            go_big_quiet_on
            simp only [Act.put, List.setIfInBounds_toArray, List.set_cons_zero, List.set_cons_succ]
            go_big_quiet_want
            go_big_quiet_op
            go_big_quiet_on
            refine wpQuiet_nil ?_
            intro W hW
            go_wp2_with fail
            go_roundw
            case rel => exact ⟨j + 1, e0, by go_num, by have := HJ.out; omega, rfl, HF2, hW⟩
            case measure => simp [intOf]; omega
        · have hf1 : f = dg01 c := hf.out.2.2.1 hj2
          have q0 : (j : Int) < 3 := by omega
          have q1 : (0 : Int) ≤ (j : Int) := by omega
          have HJ : Hid (j = 2) := hj2
          cases f with
          | true =>
            have HF2 : Hid ((j + 1 = 0 → true = false) ∧ (j + 1 = 1 → true = (c == 48)) ∧ (j + 1 = 2 → true = dg01 c) ∧ (j + 1 = 3 → true = Tn.tri c)) := ⟨fun h => by omega, fun h => by have := HJ.out; omega, fun h => by have := HJ.out; omega, fun _ => by rw [htri, ← hf1]; rfl⟩
            clear hf hj2 hf1
            go_wp2_with fail
            refine quiet_lit3 (C := fun W => Below w.heap.size w W) (by kernel_rfl) (by kernel_rfl) (show Below _ _ _ from hB.drew) ?_
            go_big_quiet_want
            go_big_quiet_op
            go_big_quiet_on
            go_big_quiet_want
            go_big_quiet_op
            go_big_quiet_on
            go_big_quiet_skip
            go_big_quiet_skip
            go_big_quiet_skip
            go_big_quiet_skip
            go_big_quiet_skip
            go_big_quiet_skip
            go_big_quiet_skip
            go_big_quiet_want
            refine ⟨.bool true, fun W hW => ?_, ?_⟩
            · go_simp
            go_big_quiet_on
            simp only [Act.put, List.setIfInBounds_toArray, List.set_cons_zero, List.set_cons_succ]
            go_big_quiet_want
            go_big_quiet_op
            go_big_quiet_on
            refine wpQuiet_nil ?_
            intro W hW
            go_wp2_with fail
            go_roundw
            case rel => exact ⟨j + 1, true, by go_num, by have := HJ.out; omega, rfl, HF2, hW⟩
            case measure => simp [intOf]; omega
          | false =>
            obtain ⟨e0, he0⟩ : ∃ e, (c == 120) = e := ⟨_, rfl⟩
            have HE : Hid ((((c.toNat : Int)) == 120) = e0) := by
              unfold Hid
              rw [← he0, Bool.eq_iff_iff, beq_iff_eq, beq_iff_eq]
              exact ⟨fun h => UInt8.toNat_inj.1 (by show c.toNat = 120; omega), fun h => by rw [h]; rfl⟩
            have HF2 : Hid ((j + 1 = 0 → e0 = false) ∧ (j + 1 = 1 → e0 = (c == 48)) ∧ (j + 1 = 2 → e0 = dg01 c) ∧ (j + 1 = 3 → e0 = Tn.tri c)) := ⟨fun h => by omega, fun h => by have := HJ.out; omega, fun h => by have := HJ.out; omega, fun _ => by rw [htri, ← hf1, he0]; rfl⟩
            clear hf hj2 hf1 he0
            go_wp2_with fail
            refine quiet_lit3 (C := fun W => Below w.heap.size w W) (by kernel_rfl) (by kernel_rfl) (show Below _ _ _ from hB.drew) ?_
            go_big_quiet_want
            go_big_quiet_op
            go_big_quiet_on
            go_big_quiet_want
            go_big_quiet_op
            go_big_quiet_on
            go_big_quiet_want
            go_big_quiet_op
            go_big_quiet_on
            go_big_quiet_want
            go_big_quiet_op
            go_big_quiet_on
            go_big_quiet_want
            refine ⟨.int .u8 (c.toNat : Int), fun W hW => ?_, ?_⟩
            · go_simp
            go_big_quiet_on
            simp only [Act.put, List.setIfInBounds_toArray, List.set_cons_zero, List.set_cons_succ]
            go_big_quiet_want
            go_big_quiet_op
            go_big_quiet_on
            go_big_quiet_want
            go_big_quiet_op
            go_big_quiet_on
            go_big_quiet_want
            refine ⟨.int .u8 120, fun W hW => ?_, ?_⟩
            · have hj0 := HJ.out
              subst hj0
              go_simp
              rfl
            go_big_quiet_on
            simp only [Act.put, List.setIfInBounds_toArray, List.set_cons_zero, List.set_cons_succ]
            go_big_quiet_want
            refine ⟨.bool e0, fun W hW => ?_, ?_⟩
            · go_simp
              exact HE.out
            go_big_quiet_on
            simp only [Act.put, List.setIfInBounds_toArray, List.set_cons_zero, List.set_cons_succ]
            go_big_quiet_want
            refine ⟨.bool e0, fun W hW => ?_, ?_⟩
            · go_simp
            go_big_quiet_on
            simp only [Act.put, List.setIfInBounds_toArray, List.set_cons_zero, List.set_cons_succ]
            go_big_quiet_want
            go_big_quiet_op
            go_big_quiet_on
            refine wpQuiet_nil ?_
            intro W hW
            go_wp2_with fail
            go_roundw
            case rel => exact ⟨j + 1, e0, by go_num, by have := HJ.out; omega, rfl, HF2, hW⟩
            case measure => simp [intOf]; omega
        · have hf2 : f = Tn.tri c := hf.out.2.2.2 hj3
          have q0 : ¬ (j : Int) < 3 := by omega
          clear hf hj3
          cases f with
          | true =>
            have HN2 : Hid (∀ (j : Nat) (d : UInt8), j < k + 1 → s[j]? = some d → Tn.tri d = true) := HNX.out hf2.symm
            clear HNX HNK hf2
            go_wp2_with fail
            go_roundw
            case rel => exact ⟨k + 1, by go_num, by omega, HN2, hB⟩
            case measure => simp [intOf]; omega
          | false =>
            obtain rfl : q = false := HNK.out hf2.symm
            clear HNX HNK hf2
            go_wp2_with fail
            go_ret
            exact ⟨rfl, hB⟩
    · have j1 : ¬ (k : Int) < (s.length : Int) := by omega
      obtain rfl : q = true := HYES.out (fun j d hd => hno.out j d (by have := (List.getElem?_eq_some_iff.1 hd).1; omega) hd)
      go_wp2_with fail
      go_ret
      exact ⟨rfl, hB⟩
set_option maxRecDepth 100000 in
set_option maxHeartbeats 600000 in
theorem refDecimal_any (n : Nat) : ∀ (w : World), n < 4294967296 →
    Calls Tryz.prog 54 #[.int .i64 (n : Int)] w fun e w' => e = .returned (.string ⟨(Lib.decDigits n).toArray⟩) ∧ Below w.heap.size w w' := by
  induction n using Nat.strongRecOn with
  | ind n ih =>
  intro w hn
  obtain ⟨d, hd⟩ : ∃ d, n % 10 = d := ⟨_, rfl⟩
  have hd10 : d < 10 := by omega
  obtain ⟨z, hz⟩ : ∃ z, UInt8.ofNat (48 + d) = z := ⟨_, rfl⟩
  have hb : ((z.toNat : Nat) : Int) = 48 + (d : Int) := by
    rw [← hz, UInt8.toNat_ofNat']
    omega
  have hcv := conv_own [z] (B := w.heap.size) (W := w.alloc (.cells #[.int .u8 ((z.toNat : Nat) : Int)] 5)) (World.ownsRow_lit w #[.int .u8 ((z.toNat : Nat) : Int)] 1 (Nat.le_refl _) (by decide) rfl)
  rw [hb] at hcv
  have r1 : (n : Int).tmod 10 = (d : Int) := by rw [Int.tmod_eq_emod_of_nonneg (by omega)]; omega
  have r2 : IntKind.u8.wrap (48 + (d : Int)) = 48 + (d : Int) := by rw [IntKind.wrap_u8]; omega
  by_cases h : n < 10
  · have i1 : (n : Int) < 10 := by omega
    have e : Lib.decDigits n = [z] := by rw [Lib.decDigits, dif_pos h, ← hz, ← hd, Nat.mod_eq_of_lt h]
    rw [e]
    clear ih hb hd hz
    go_enter Tryz.func54, Tryz.ntmps54
    go_wp2
    go_ret
    exact ⟨rfl, (Below.refl _ _).alloc (Nat.le_refl _) _⟩
  · have i1 : ¬ (n : Int) < 10 := by omega
    have e : Lib.decDigits n = Lib.decDigits (n / 10) ++ [z] := by rw [Lib.decDigits, dif_neg h, hd, hz]
    rw [e]
    obtain ⟨m, hm⟩ : ∃ m, n / 10 = m := ⟨_, rfl⟩
    rw [hm]
    have r3 : (n : Int).tdiv 10 = (m : Int) := by rw [Int.tdiv_eq_ediv_of_nonneg (by omega)]; omega
    have r4 : (n : Int) / 10 = (m : Int) := by omega
    have hml := dec_10 m (by omega)
    have hc := fun W => ih m (by omega) W (by omega)
    obtain ⟨A, hA⟩ : ∃ A, Lib.decDigits m = A := ⟨_, rfl⟩
    rw [hA] at hml ⊢
    simp only [hA] at hc
    have HC : Hid (∀ W, Calls Tryz.prog 54 #[.int .i64 (m : Int)] W fun e w' => e = .returned (.string ⟨A.toArray⟩) ∧ Below W.heap.size W w') := hc
    have HE : Hid (ByteArray.mk A.toArray ++ ByteArray.mk #[z] = ⟨(A ++ [z]).toArray⟩) := ByteArray.ext (by simp)
    clear ih hb hd hm e hc hA hz
    go_enter Tryz.func54, Tryz.ntmps54
    go_wp2_with fail
    refine (HC.out _).mono ?_
    rintro e W1 ⟨rfl, hb1⟩
    go_wp2_with fail
    go_ret
    exact ⟨congrArg (fun z => Ending.returned (.string z)) HE.out, bel0 ((Below.refl _ _).alloc (Nat.le_refl _) _) hb1⟩
end Go.Proofs.YtnobpeghofoniaaGreatDoor
namespace Go.Proofs.YtnobpeghofoniaaGreatDoor
open Go.RowKit Go.Shelf
theorem toNat_pb (p b : Nat) : ((p : Int) + (b : Int)).toNat = p + b := by omega
theorem lt_4g {c d : Nat} (h : c ≤ d) (h2 : d ≤ 32) : c < 4294967296 := by omega
theorem cat7q (a b c d : List UInt8) : ByteArray.mk a.toArray ++ ByteArray.mk #[46] ++ ByteArray.mk b.toArray ++ ByteArray.mk #[46] ++ ByteArray.mk c.toArray ++ ByteArray.mk #[46] ++ ByteArray.mk d.toArray = ⟨(a ++ [46] ++ b ++ [46] ++ c ++ [46] ++ d).toArray⟩ := ByteArray.ext (by simp)
set_option maxRecDepth 100000 in
set_option maxHeartbeats 4000000 in
theorem refQuad_any (n : Nat) (w : World) (hn : n < 4294967296) : Calls Tryz.prog 53 #[.int .i64 (n : Int)] w fun e w' => e = .returned (.string ⟨(quadL n).toArray⟩) ∧ Below w.heap.size w w' := by
  have eq : quadL n = Lib.decDigits (n / 16777216) ++ [46] ++ Lib.decDigits (n / 65536 % 256) ++ [46] ++ Lib.decDigits (n / 256 % 256) ++ [46] ++ Lib.decDigits (n % 256) := rfl
  have a1 : bits BinOp.and IntKind.i64 ((n : Int) / 16777216) 255 = ((n / 16777216 : Nat) : Int) := by
    have := and_q n 16777216 _ hn rfl
    refine this.trans ?_
    omega
  have a2 : bits BinOp.and IntKind.i64 ((n : Int) / 65536) 255 = ((n / 65536 % 256 : Nat) : Int) := and_q n 65536 _ hn rfl
  have a3 : bits BinOp.and IntKind.i64 ((n : Int) / 256) 255 = ((n / 256 % 256 : Nat) : Int) := and_q n 256 _ hn rfl
  have a4 : bits BinOp.and IntKind.i64 (n : Int) 255 = ((n % 256 : Nat) : Int) := i64_and255 n (by omega)
  have c1 := fun W => refDecimal_any (n / 16777216) W (by omega)
  have c2 := fun W => refDecimal_any (n / 65536 % 256) W (by omega)
  have c3 := fun W => refDecimal_any (n / 256 % 256) W (by omega)
  have c4 := fun W => refDecimal_any (n % 256) W (by omega)
  have l1 := dec_10 (n / 16777216) (by omega)
  have l2 := dec_10 (n / 65536 % 256) (by omega)
  have l3 := dec_10 (n / 256 % 256) (by omega)
  have l4 := dec_10 (n % 256) (by omega)
  obtain ⟨A, hA⟩ : ∃ A, Lib.decDigits (n / 16777216) = A := ⟨_, rfl⟩
  obtain ⟨B, hB⟩ : ∃ B, Lib.decDigits (n / 65536 % 256) = B := ⟨_, rfl⟩
  obtain ⟨C, hC⟩ : ∃ C, Lib.decDigits (n / 256 % 256) = C := ⟨_, rfl⟩
  obtain ⟨D, hD⟩ : ∃ D, Lib.decDigits (n % 256) = D := ⟨_, rfl⟩
  rw [eq, hA, hB, hC, hD]
  rw [hA] at l1
  rw [hB] at l2
  rw [hC] at l3
  rw [hD] at l4
  simp only [hA] at c1
  simp only [hB] at c2
  simp only [hC] at c3
  simp only [hD] at c4
  obtain ⟨x1, hx1⟩ : ∃ x, ((n / 16777216 : Nat) : Int) = x := ⟨_, rfl⟩
  obtain ⟨x2, hx2⟩ : ∃ x, ((n / 65536 % 256 : Nat) : Int) = x := ⟨_, rfl⟩
  obtain ⟨x3, hx3⟩ : ∃ x, ((n / 256 % 256 : Nat) : Int) = x := ⟨_, rfl⟩
  obtain ⟨x4, hx4⟩ : ∃ x, ((n % 256 : Nat) : Int) = x := ⟨_, rfl⟩
  rw [hx1] at a1
  rw [hx2] at a2
  rw [hx3] at a3
  rw [hx4] at a4
  simp only [hx1] at c1
  simp only [hx2] at c2
  simp only [hx3] at c3
  simp only [hx4] at c4
  clear hA hB hC hD eq hx1 hx2 hx3 hx4
  go_enter Tryz.func53, Tryz.ntmps53
  go_wp2_with fail
  refine (c1 _).mono ?_
  rintro e W1 ⟨rfl, hb1⟩
  go_wp2_with fail
  refine (c2 _).mono ?_
  rintro e W2 ⟨rfl, hb2⟩
  go_wp2_with fail
  refine (c3 _).mono ?_
  rintro e W3 ⟨rfl, hb3⟩
  go_wp2_with fail
  refine (c4 _).mono ?_
  rintro e W4 ⟨rfl, hb4⟩
  go_wp2_with fail
  go_ret
  exact ⟨congrArg (fun z => Ending.returned (.string z)) (cat7q A B C D), bel0 (bel0 (bel0 hb1 hb2) hb3) hb4⟩
set_option maxRecDepth 100000 in
theorem refNumber4_any (n : Nat) (w : World) (hn : n < 4294967296) : Calls Tryz.prog 52 #[.int .i64 (n : Int)] w fun e w' => e = .returned (.string ⟨(numW n).toArray⟩) ∧ Below w.heap.size w w' := by
  unfold numW
  have c1 := fun W => refDecimal_any n W hn
  have c2 := fun W => refQuad_any n W hn
  by_cases h : n < 65536
  · have i1 : (n : Int) < 65536 := by omega
    rw [if_pos h]
    go_enter Tryz.func52, Tryz.ntmps52
    go_wp2_with fail
    refine (c1 _).mono ?_
    rintro e W1 ⟨rfl, hb1⟩
    go_wp2_with fail
    go_ret
    exact ⟨rfl, hb1⟩
  · have i1 : ¬ (n : Int) < 65536 := by omega
    rw [if_neg h]
    go_enter Tryz.func52, Tryz.ntmps52
    go_wp2_with fail
    refine (c2 _).mono ?_
    rintro e W1 ⟨rfl, hb1⟩
    go_wp2_with fail
    go_ret
    exact ⟨rfl, hb1⟩
set_option maxRecDepth 100000 in
set_option maxHeartbeats 4000000 in
theorem refCount_any (D : List UInt8) (w : World) (hD : D.length ≤ 256) : Calls Tryz.prog 50 #[.string ⟨D.toArray⟩] w fun e w' => e = .returned (.tuple #[.int .i64 ((cntS D 0 true 0).1 : Int), .bool (cntS D 0 true 0).2]) ∧ w' = w := by
  obtain ⟨R, hR⟩ : ∃ R, cntS D 0 true 0 = R := ⟨_, rfl⟩
  have HR : Hid (cntS (D.drop 0) 0 true 0 = R) := hR
  rw [hR]
  clear hR
  go_enter Tryz.func50, Tryz.ntmps50
  go_wp2_with fail
  go_loopw [4, 5, 6] (fun vn vf vk wr => ∃ (n k : Nat) (f : Bool), vn = .int .i64 n ∧ vf = .bool f ∧ vk = .int .i64 k ∧ k ≤ D.length ∧ n ≤ k ∧ Hid (cntS (D.drop k) n f k = R) ∧ wr = w) (fun _ _ vk _ => D.length - (intOf vk).toNat)
  case atStart => exact ⟨0, 0, true, rfl, rfl, rfl, Nat.zero_le _, Nat.zero_le _, HR, rfl⟩
  case round =>
    clear HR
    obtain ⟨n, k, f, rfl, rfl, rfl, hk, hnk, hrun, rfl⟩ := hrel
    by_cases hlt : k < D.length
    · have j0 : (0 : Int) ≤ (k : Int) := by omega
      have j1 : (k : Int) < (D.length : Int) := by omega
      obtain ⟨c, hc, hlc⟩ := byte_get D k hlt
      have hst := hrun.out
      rw [cnt_step hlc] at hst
      by_cases c120 : c = 120
      · rw [if_pos c120] at hst
        have HST : Hid (cntS (D.drop (k + 1)) n f (k + 1) = R) := hst
        subst c120
        clear hst hrun hlc
        go_wp2_with fail
        go_roundw
        case rel => exact ⟨n, k + 1, f, rfl, rfl, by go_num, by omega, by omega, HST, by first | rfl | trivial⟩
        case measure => simp [intOf]; omega
      · rw [if_neg c120] at hst
        have HST : Hid (cntS (D.drop (k + 1)) (n + 1) (f && decide (n + 1 = k + 1)) (k + 1) = R) := hst
        have d120 : ((c.toNat : Int) != 120) = true := by
          rw [bne_iff_ne]
          intro e
          exact c120 (UInt8.toNat_inj.1 (by show c.toNat = 120; omega))
        have w1 : IntKind.i64.wrap ((n : Int) + 1) = ((n + 1 : Nat) : Int) := by rw [IntKind.wrap_i64]; omega
        have w2 : IntKind.i64.wrap ((k : Int) + 1) = ((k + 1 : Nat) : Int) := by rw [IntKind.wrap_i64]; omega
        have w3 : wrap64 ((n : Int) + 1) = ((n + 1 : Nat) : Int) := by rw [w64 (by omega) (by omega)]; omega
        have w4 : wrap64 ((k : Int) + 1) = ((k + 1 : Nat) : Int) := by rw [w64 (by omega) (by omega)]; omega
        clear hst hrun hlc
        cases f with
        | true =>
          by_cases hnk2 : n = k
          · have b1 : (((n + 1 : Nat) : Int) == ((k + 1 : Nat) : Int)) = true := by rw [hnk2]; simp
            have HS2 : Hid (cntS (D.drop (k + 1)) (n + 1) true (k + 1) = R) := by have := HST.out; rw [decide_eq_true (by omega)] at this; exact this
            have HNK : Hid (n = k) := hnk2
            clear hnk2
            go_wp2_with fail
            go_roundw
            case rel => exact ⟨n + 1, k + 1, true, by first | rfl | go_num, by first | rfl | exact congrArg Value.bool (beq_iff_eq.2 (by have := HNK.out; omega)), by first | rfl | go_num, by omega, by omega, HS2, by first | rfl | trivial⟩
            case measure => simp [intOf]; omega
          · have b1 : (((n + 1 : Nat) : Int) == ((k + 1 : Nat) : Int)) = false := by rw [beq_eq_false_iff_ne]; omega
            have HS2 : Hid (cntS (D.drop (k + 1)) (n + 1) false (k + 1) = R) := by have := HST.out; rw [decide_eq_false (by omega)] at this; exact this
            have HNK : Hid (¬ n = k) := hnk2
            clear hnk2
            go_wp2_with fail
            go_roundw
            case rel => exact ⟨n + 1, k + 1, false, by first | rfl | go_num, by first | rfl | exact congrArg Value.bool (beq_eq_false_iff_ne.2 (by have := HNK.out; omega)), by first | rfl | go_num, by omega, by omega, HS2, by first | rfl | trivial⟩
            case measure => simp [intOf]; omega
        | false =>
          have HS2 : Hid (cntS (D.drop (k + 1)) (n + 1) false (k + 1) = R) := by have := HST.out; rw [Bool.false_and] at this; exact this
          go_wp2_with fail
          go_roundw
          case rel => exact ⟨n + 1, k + 1, false, by first | rfl | go_num, rfl, by first | rfl | go_num, by omega, by omega, HS2, by first | rfl | trivial⟩
          case measure => simp [intOf]; omega
    · have j1 : ¬ (k : Int) < (D.length : Int) := by omega
      have hR2 : R = (n, f) := by rw [← hrun.out, List.drop_eq_nil_of_le (by omega)]; rfl
      have HR2 : Hid (R = (n, f)) := hR2
      clear hrun hR2
      go_wp2_with fail
      refine bodyPost_ret (results_tmp2 rfl _ _ _) rfl ?_
      exact ⟨by rw [HR2.out]; rfl, rfl⟩
set_option maxRecDepth 100000 in
set_option maxHeartbeats 8000000 in
theorem refShow_any (L : List IFld) (o : Option Addr) (c : Nat) (s : List UInt8) (w : World) (hL : L.length ≤ 281474976710656) (hx : ∀ f ∈ L, f.1.length ≤ 281474976710656) (hr : IRF w o L) :
    Calls Tryz.prog 24 #[.slice o L.length c, .string ⟨s.toArray⟩] w fun e w' => e = .returned (.tuple #[.string ⟨(swM L s).1.toArray⟩, .int .i64 (swM L s).2]) ∧ Below w.heap.size w w' := by
  have HC := refCheck_any L o c w hL hx hr
  obtain ⟨R, hR⟩ : ∃ R, swM L s = R := ⟨_, rfl⟩
  rw [hR]
  by_cases h0 : ¬ (chkM L).1 = 0
  · have hres : Hid (R = ([], (chkM L).1)) := by unfold Hid; rw [← hR]; unfold swM; rw [if_pos h0]
    obtain ⟨ce, hce⟩ : ∃ x, (chkM L).1 = x := ⟨_, rfl⟩
    rw [hce] at HC h0 hres
    have y1 : (ce != 0) = true := by simpa using h0
    clear hx hr hR hce
    go_enter Tryz.func24, Tryz.ntmps24
    go_wp2_with fail
    refine HC.mono ?_
    rintro e W1 ⟨rfl, hb1⟩
    go_wp2_with fail
    refine bodyPost_ret (results_tmp2 rfl _ _ _) rfl ?_
    exact ⟨by rw [hres.out]; rfl, hb1⟩
  replace h0 := Classical.not_not.1 h0
  rw [h0] at HC
  obtain ⟨k1, k2, k3, k4⟩ := chk_ok h0
  have hb0 : ∀ f ∈ L, 0 ≤ f.2 ∧ f.2 ≤ 32 := fun f hf => by have := k3 f hf; omega
  have hnl := chk_nm h0
  have hxx : ∀ f ∈ L, f.1.length ≤ 24 ∧ 1 ≤ f.2 ∧ f.2 ≤ 32 := fun f hf => ⟨hnl f hf, k3 f hf⟩
  obtain ⟨n, hn⟩ : ∃ n : Nat, sumB L = (n : Int) := ⟨(sumB L).toNat, by have := (sumB_bound L hb0).1; omega⟩
  have hn256 : n ≤ 256 := by omega
  have hsh : swM L s = if cuB n s = false then ([], 46) else (swJ (swL L s L.length), 0) := by unfold swM; rw [if_neg (fun h => h h0), hn, Int.toNat_natCast]
  obtain ⟨f0, hf0⟩ : ∃ f, L[0]? = some f := ⟨_, List.getElem?_eq_getElem k1⟩
  obtain ⟨g, o0, rfl, -⟩ := hr w (Below.refl _ _) 0 f0 hf0
  have HR : Hid (IRF w (some ⟨g, o0, none⟩) L) := hr
  have HB0 : Hid (∀ f ∈ L, 0 ≤ f.2 ∧ f.2 ≤ 32) := hb0
  have HXX : Hid (∀ f ∈ L, f.1.length ≤ 24 ∧ 1 ≤ f.2 ∧ f.2 ≤ 32) := hxx
  have HN : Hid (sumB L = (n : Int)) := hn
  have HWD : Hid (∀ W : World, Below w.heap.size w W → Calls Tryz.prog 46 #[.slice (some ⟨g, o0, none⟩) L.length c] W fun e w' => e = .returned (.int .i64 (n : Int)) ∧ Below W.heap.size W w') := fun W hW => by
    have := refWidth_any L (some ⟨g, o0, none⟩) c W (by omega) hb0 (hr.later hW)
    rw [hn] at this
    exact this
  have HOF : Hid (∀ W : World, Calls Tryz.prog 49 #[.string ⟨s.toArray⟩, .string ⟨#[48, 49, 120]⟩, .int .i64 (n : Int)] W fun e w' => e = .returned (.bool (cuB n s)) ∧ Below W.heap.size W w') := fun W => refOf3_any n s W hn256
  cases hh : cuB n s with
  | false =>
    have hres : Hid (R = ([], 46)) := by unfold Hid; rw [← hR, hsh, hh, if_pos rfl]
    simp only [hh] at HOF
    clear hx hr hR h0 k3 k4 hb0 hn hf0 hsh hh hnl hxx
    go_enter Tryz.func24, Tryz.ntmps24
    go_wp2_with fail
    refine HC.mono ?_
    rintro e W1 ⟨rfl, hb1⟩
    go_wp2_with fail
    refine (HWD.out _ hb1).mono ?_
    rintro e W2 ⟨rfl, hb2⟩
    go_wp2_with fail
    refine (HOF.out _).mono ?_
    rintro e W4 ⟨rfl, hb4⟩
    go_wp2_with fail
    refine bodyPost_ret (results_tmp2 rfl _ _ _) rfl ?_
    exact ⟨by rw [hres.out]; rfl, bel0 (bel0 hb1 hb2) hb4⟩
  | true =>
    have hres : Hid (R = (swJ (swL L s L.length), 0)) := by unfold Hid; rw [← hR, hsh, hh, if_neg (by decide)]
    have hh2 := hh
    unfold cuB at hh2
    rw [Bool.and_eq_true, decide_eq_true_eq] at hh2
    obtain ⟨hsn, hs3⟩ := hh2
    simp only [hh] at HOF
    have HS3 : Hid (s.all Tn.tri = true) := hs3
    have HSN : Hid (s.length = n) := hsn
    clear hx hr hR h0 k3 k4 hb0 hn hf0 hsh hh hnl hxx hsn hs3
    go_enter Tryz.func24, Tryz.ntmps24
    go_wp2_with fail
    refine HC.mono ?_
    rintro e W1 ⟨rfl, hb1⟩
    go_wp2_with fail
    refine (HWD.out _ hb1).mono ?_
    rintro e W2 ⟨rfl, hb2⟩
    go_wp2_with fail
    refine (HOF.out _).mono ?_
    rintro e W4 ⟨rfl, hb4⟩
    have hB4 := bel0 (bel0 hb1 hb2) hb4
    clear HC HWD HOF hb1 hb2 hb4
    go_wp2_with fail
    go_loopw [9, 10, 11] (fun va vp vk wr => ∃ (k p : Nat) (A : List UInt8), va = .string ⟨A.toArray⟩ ∧ vp = .int .i64 p ∧ vk = .int .i64 k ∧ k ≤ L.length ∧ Hid (sumB (L.take k) = (p : Int)) ∧ Hid (Lib.join (swL L s k) [32, 38, 32] = A) ∧ Below w.heap.size w wr) (fun _ _ vk _ => L.length - (intOf vk).toNat)
    case atStart => exact ⟨0, 0, [], rfl, rfl, rfl, Nat.zero_le _, rfl, rfl, hB4⟩
    case round =>
      clear hB4
      obtain ⟨k, p, A, rfl, rfl, rfl, hk, hp, hA, hB⟩ := hrel
      have hin := swL_in HXX.out k hk (s := s)
      have hTl := swL_len L s k
      have hjl := join_le (T := swL L s k) (sep := [32, 38, 32]) (B := 91) (by decide) (fun t ht => (hin t ht).1)
      rw [hA.out] at hjl
      have hA12 : A.length ≤ 2184 := by omega
      have hemp : A = [] ↔ swL L s k = [] := by
        rw [← hA.out]
        constructor
        · intro h
          refine Classical.byContradiction fun h2 => join_ne h2 (fun t ht => (hin t ht).2) h
        · intro h
          rw [h]
          rfl
      by_cases hlt : k < L.length
      · have j1 : (k : Int) < (L.length : Int) := by omega
        have j0 : (0 : Int) ≤ (k : Int) := by omega
        obtain ⟨f, hf⟩ : ∃ f, L[k]? = some f := ⟨_, List.getElem?_eq_getElem hlt⟩
        obtain ⟨g9, o9, e9, p0, p1⟩ := HR.out wr hB k f hf
        injection e9 with e9
        injection e9 with e9 e10
        subst e9 e10
        have hbits := HXX.out f (List.mem_of_getElem? hf)
        have hst := sumB_take hf
        have hle := sumB_take_le HB0.out (k + 1)
        rw [hst, HN.out, hp.out] at hle
        rw [hp.out] at hst
        obtain ⟨x, bi⟩ := f
        obtain ⟨b, rfl⟩ : ∃ b : Nat, bi = (b : Int) := ⟨bi.toNat, by simp only at hbits; omega⟩
        have XF : Hid (∀ W : World, Below w.heap.size w W → W.cell? ⟨g, o0 + k * 2, none⟩ = some (.string ⟨x.toArray⟩) ∧ W.cell? ⟨g, o0 + k * 2 + 1, none⟩ = some (.int .i64 (b : Int))) := fun W hW => by
          obtain ⟨g3, q3, h1, h2⟩ := HR.out W hW k _ hf
          injection h1 with h1
          injection h1 with h1 h4
          subst h1 h4
          exact h2
        simp only at hle hbits p0 p1 hst
        have HST : Hid (sumB (L.take (k + 1)) = ((p + b : Nat) : Int)) := by unfold Hid; rw [hst]; omega
        have hsn := HSN.out
        have hsc := swL_succ (s := s) hf hp.out
        have hDl : (subL s p (p + b)).length = b := by unfold subL; rw [List.length_take, List.length_drop]; omega
        have hDt : (subL s p (p + b)).all Tn.tri = true := by
          rw [List.all_eq_true]
          intro d hd
          unfold subL at hd
          exact List.all_eq_true.1 HS3.out d (List.mem_of_mem_drop (List.mem_of_mem_take hd))
        have hsub := ext_sub s p (p + b)
        obtain ⟨D, hD⟩ : ∃ D, subL s p (p + b) = D := ⟨_, rfl⟩
        rw [hD] at hDl hDt hsc hsub
        have hCT := refCount_any D wr (by omega)
        have hVL := refValue_any D wr (by omega)
        have hv4 := valF_4g (D := D) (by omega)
        have hcz := cnt_zero (D := D) hDt
        have hcl := cnt_le D
        have hTD : tellM D = if (cntS D 0 true 0).1 = D.length then numW (valF 0 D) else if (cntS D 0 true 0).2 = true then quadL (valF 0 D) ++ [47] ++ Lib.decDigits (cntS D 0 true 0).1 else [37] ++ D := rfl
        have htl := tell_64 (D := D) (by omega)
        obtain ⟨v, hv⟩ : ∃ v, valF 0 D = v := ⟨_, rfl⟩
        obtain ⟨⟨cn, cf⟩, hcn⟩ : ∃ q : Nat × Bool, cntS D 0 true 0 = q := ⟨_, rfl⟩
        simp only [hv, hcn] at hCT hVL hv4 hcz hcl hTD
        obtain ⟨Y, hY⟩ : ∃ Y, tellM D = Y := ⟨_, rfl⟩
        rw [hY] at hTD htl
        have hST : swT x D = if D.any dg01 = true then [x ++ [32, 61, 32] ++ Y] else [] := by rw [← hY]; rfl
        rw [hST] at hsc
        have m0 : (0 : Int) ≤ (p : Int) := by omega
        have m1 : (p : Int) ≤ (p : Int) + (b : Int) := by omega
        have m2 : (p : Int) + (b : Int) ≤ (s.length : Int) := by rw [hsn]; omega
        have e9 : IntKind.i64.wrap ((p : Int) + (b : Int)) = (p : Int) + (b : Int) := by rw [IntKind.wrap_i64]; omega
        have e8 : wrap64 ((p : Int) + (b : Int)) = (p : Int) + (b : Int) := by rw [w64 (by omega) (by omega)]
        have t9 : ((p : Int) + (b : Int)).toNat = p + b := toNat_pb p b
        obtain ⟨z0, z1⟩ := XF.out wr hB
        have HCT : Hid (Calls Tryz.prog 50 #[.string ⟨D.toArray⟩] wr fun e w' => e = .returned (.tuple #[.int .i64 (cn : Int), .bool cf]) ∧ w' = wr) := hCT
        have HVL : Hid (Calls Tryz.prog 51 #[.string ⟨D.toArray⟩] wr fun e w' => e = .returned (.int .i64 (v : Int)) ∧ w' = wr) := hVL
        have hx24 := hbits.1
        have hD32 : D.length ≤ 32 := by omega
        by_cases hc0 : cn = 0
        · have hany := hcz.1 hc0
          rw [show D.any dg01 = false from hany, if_neg (by decide), List.append_nil] at hsc
          have HSC : Hid (Lib.join (swL L s (k + 1)) [32, 38, 32] = A) := by unfold Hid; rw [hsc]; exact hA.out
          have y1 : ((cn : Int) == 0) = true := by rw [hc0]; rfl
          clear hf hst hsc hD hCT hVL hcz hTD hY hST hv hcn hA hin hemp hp hDt hc0 hany
          go_wp2_with fail
          refine HCT.out.mono ?_
          rintro e W5 ⟨rfl, rfl⟩
          go_wp2_with fail
          refine HVL.out.mono ?_
          rintro e W6 ⟨rfl, rfl⟩
          go_wp2_with fail
          go_roundw
          case rel => exact ⟨k + 1, p + b, A, rfl, by go_num, by go_num, by omega, HST, HSC, hB⟩
          case measure => simp [intOf]; omega
        · have hany : D.any dg01 = true := by
            cases h : D.any dg01 with
            | true => rfl
            | false => exact absurd (hcz.2 h) hc0
          rw [hany, if_pos rfl] at hsc
          have y1 : ((cn : Int) == 0) = false := by rw [beq_eq_false_iff_ne]; omega
          obtain ⟨Z, hZ⟩ : ∃ Z, x ++ [32, 61, 32] ++ Y = Z := ⟨_, rfl⟩
          rw [hZ] at hsc
          have hZl : Z.length ≤ 91 := by rw [← hZ]; simp only [List.length_append, List.length_cons, List.length_nil]; omega
          obtain ⟨A2, hA2⟩ : ∃ A2, (if A = [] then Z else A ++ [32, 38, 32] ++ Z) = A2 := ⟨_, rfl⟩
          have HSC : Hid (Lib.join (swL L s (k + 1)) [32, 38, 32] = A2) := by
            unfold Hid
            rw [hsc, ← hA2]
            by_cases h : A = []
            · rw [if_pos h, hemp.1 h, List.nil_append, Lib.join_one]
            · rw [if_neg h, join_snoc _ _ _ (fun h2 => h (hemp.2 h2)), hA.out]
          have HA2 : Hid ((if A = [] then Z else A ++ [32, 38, 32] ++ Z) = A2) := hA2
          have HZ : Hid (x ++ [32, 61, 32] ++ Y = Z) := hZ
          have HTD : Hid (Y = if cn = D.length then numW v else if cf = true then quadL v ++ [47] ++ Lib.decDigits cn else [37] ++ D) := hTD
          have HNM : Hid (∀ W : World, Calls Tryz.prog 52 #[.int .i64 (v : Int)] W fun e w' => e = .returned (.string ⟨(numW v).toArray⟩) ∧ Below W.heap.size W w') := fun W => refNumber4_any v W hv4
          have HQD : Hid (∀ W : World, Calls Tryz.prog 53 #[.int .i64 (v : Int)] W fun e w' => e = .returned (.string ⟨(quadL v).toArray⟩) ∧ Below W.heap.size W w') := fun W => refQuad_any v W hv4
          have HDC : Hid (∀ W : World, Calls Tryz.prog 54 #[.int .i64 (cn : Int)] W fun e w' => e = .returned (.string ⟨(Lib.decDigits cn).toArray⟩) ∧ Below W.heap.size W w') := fun W => refDecimal_any cn W (lt_4g hcl hD32)
          have hq47 := quad_47 v hv4
          have hc10 := dec_10 cn (lt_4g hcl hD32)
          have hn47 : (numW v).length ≤ 47 := by unfold numW; split; (have := dec_10 v hv4; omega); exact hq47
          have hA0 : A = [] ∨ ¬ A = [] := Classical.em _
          clear hf hst hsc hD hCT hVL hcz hTD hY hST hv hcn hA hin hemp hp hDt hc0 hany hZ hA2
          by_cases hfull : cn = D.length
          · have hY1 := HTD.out
            rw [if_pos hfull] at hY1
            have y2 : ((cn : Int) == (D.length : Int)) = true := by rw [hfull]; simp
            subst hY1
            have HZ1 : Hid (ByteArray.mk x.toArray ++ ByteArray.mk #[32, 61, 32] ++ ByteArray.mk (numW v).toArray = ⟨Z.toArray⟩) := by unfold Hid; rw [← HZ.out]; exact ByteArray.ext (by simp)
            clear hfull HTD
            go_wp2_with fail
            refine HCT.out.mono ?_
            rintro e W5 ⟨rfl, rfl⟩
            go_wp2_with fail
            refine HVL.out.mono ?_
            rintro e W6 ⟨rfl, rfl⟩
            go_wp2_with fail
            refine (HNM.out _).mono ?_
            rintro e W7 ⟨rfl, hb7⟩
            have hB7 := bel0 hB hb7
            rcases hA0 with hA0 | hA0
            · have hA2 := HA2.out
              rw [if_pos hA0] at hA2
              subst hA0
              subst hA2
              have HF : Hid (ByteArray.mk #[] ++ ByteArray.mk Z.toArray = ⟨Z.toArray⟩) := ByteArray.ext (by simp)
              clear HA2
              go_wp2_with fail
              go_roundw
              case rel => exact ⟨k + 1, p + b, Z, by first | rfl | (rw [HZ1.out]; done) | (rw [HZ1.out, HF.out]), by go_num, by go_num, by omega, HST, HSC, hB7⟩
              case measure => simp [intOf]; omega
            · have hA2 := HA2.out
              rw [if_neg hA0] at hA2
              have hne1 : (A == []) = false := by rw [beq_eq_false_iff_ne]; exact hA0
              have hne2 : (A != []) = true := by rw [bne_iff_ne]; exact hA0
              have HF : Hid (ByteArray.mk A.toArray ++ ByteArray.mk #[32, 38, 32] ++ ByteArray.mk Z.toArray = ⟨A2.toArray⟩) := by unfold Hid; rw [← hA2]; exact ByteArray.ext (by simp)
              clear hA2 HA2
              go_wp2_with fail
              go_roundw
              case rel => exact ⟨k + 1, p + b, A2, by first | rfl | (rw [HZ1.out, HF.out]), by go_num, by go_num, by omega, HST, HSC, hB7⟩
              case measure => simp [intOf]; omega
          · rw [if_neg hfull] at HTD
            have y2 : ((cn : Int) == (D.length : Int)) = false := by rw [beq_eq_false_iff_ne]; omega
            cases cf with
            | true =>
              have hY1 := HTD.out
              rw [if_pos rfl] at hY1
              have HZ1 : Hid (ByteArray.mk x.toArray ++ ByteArray.mk #[32, 61, 32] ++ ByteArray.mk (quadL v).toArray ++ ByteArray.mk #[47] ++ ByteArray.mk (Lib.decDigits cn).toArray = ⟨Z.toArray⟩) := by unfold Hid; rw [← HZ.out, hY1]; exact ByteArray.ext (by simp)
              clear hfull HTD hY1
              go_wp2_with fail
              refine HCT.out.mono ?_
              rintro e W5 ⟨rfl, rfl⟩
              go_wp2_with fail
              refine HVL.out.mono ?_
              rintro e W6 ⟨rfl, rfl⟩
              go_wp2_with fail
              refine (HQD.out _).mono ?_
              rintro e W7 ⟨rfl, hb7⟩
              have hB7' := bel0 hB hb7
              go_wp2_with fail
              refine (HDC.out _).mono ?_
              rintro e W8 ⟨rfl, hb8⟩
              have hB7 := bel0 hB7' hb8
              rcases hA0 with hA0 | hA0
              · have hA2 := HA2.out
                rw [if_pos hA0] at hA2
                subst hA0
                subst hA2
                have HF : Hid (ByteArray.mk #[] ++ ByteArray.mk Z.toArray = ⟨Z.toArray⟩) := ByteArray.ext (by simp)
                clear HA2
                go_wp2_with fail
                go_roundw
                case rel => exact ⟨k + 1, p + b, Z, by first | rfl | (rw [HZ1.out]; done) | (rw [HZ1.out, HF.out]), by go_num, by go_num, by omega, HST, HSC, hB7⟩
                case measure => simp [intOf]; omega
              · have hA2 := HA2.out
                rw [if_neg hA0] at hA2
                have hne1 : (A == []) = false := by rw [beq_eq_false_iff_ne]; exact hA0
                have hne2 : (A != []) = true := by rw [bne_iff_ne]; exact hA0
                have HF : Hid (ByteArray.mk A.toArray ++ ByteArray.mk #[32, 38, 32] ++ ByteArray.mk Z.toArray = ⟨A2.toArray⟩) := by unfold Hid; rw [← hA2]; exact ByteArray.ext (by simp)
                clear hA2 HA2
                go_wp2_with fail
                go_roundw
                case rel => exact ⟨k + 1, p + b, A2, by first | rfl | (rw [HZ1.out, HF.out]), by go_num, by go_num, by omega, HST, HSC, hB7⟩
                case measure => simp [intOf]; omega
            | false =>
              have hY1 := HTD.out
              rw [if_neg (by decide)] at hY1
              have HZ1 : Hid (ByteArray.mk x.toArray ++ ByteArray.mk #[32, 61, 32] ++ ByteArray.mk #[37] ++ ByteArray.mk D.toArray = ⟨Z.toArray⟩) := by unfold Hid; rw [← HZ.out, hY1]; exact ByteArray.ext (by simp)
              have hB7 := hB
              clear hfull HTD hY1
              go_wp2_with fail
              refine HCT.out.mono ?_
              rintro e W5 ⟨rfl, rfl⟩
              go_wp2_with fail
              refine HVL.out.mono ?_
              rintro e W6 ⟨rfl, rfl⟩
              rcases hA0 with hA0 | hA0
              · have hA2 := HA2.out
                rw [if_pos hA0] at hA2
                subst hA0
                subst hA2
                have HF : Hid (ByteArray.mk #[] ++ ByteArray.mk Z.toArray = ⟨Z.toArray⟩) := ByteArray.ext (by simp)
                clear HA2
                go_wp2_with fail
                go_roundw
                case rel => exact ⟨k + 1, p + b, Z, by first | rfl | (rw [HZ1.out]; done) | (rw [HZ1.out, HF.out]), by go_num, by go_num, by omega, HST, HSC, hB7⟩
                case measure => simp [intOf]; omega
              · have hA2 := HA2.out
                rw [if_neg hA0] at hA2
                have hne1 : (A == []) = false := by rw [beq_eq_false_iff_ne]; exact hA0
                have hne2 : (A != []) = true := by rw [bne_iff_ne]; exact hA0
                have HF : Hid (ByteArray.mk A.toArray ++ ByteArray.mk #[32, 38, 32] ++ ByteArray.mk Z.toArray = ⟨A2.toArray⟩) := by unfold Hid; rw [← hA2]; exact ByteArray.ext (by simp)
                clear hA2 HA2
                go_wp2_with fail
                go_roundw
                case rel => exact ⟨k + 1, p + b, A2, by first | rfl | (rw [HZ1.out, HF.out]), by go_num, by go_num, by omega, HST, HSC, hB7⟩
                case measure => simp [intOf]; omega
      · have j1 : ¬ (k : Int) < (L.length : Int) := by omega
        obtain rfl : k = L.length := by omega
        by_cases hA0 : A = []
        · have hR2 : R = ([97, 110, 121], 0) := by rw [hres.out, hemp.1 hA0]; rfl
          subst hA0
          have HR2 : Hid (R = ([97, 110, 121], 0)) := hR2
          clear hR2 hA hin hres hemp
          go_wp2_with fail
          refine bodyPost_ret (results_tmp2 rfl _ _ _) rfl ?_
          exact ⟨by rw [HR2.out]; rfl, hB⟩
        · have HR2 : Hid (R = (A, 0)) := by unfold Hid; rw [hres.out, swJ, if_neg (fun h => hA0 (hemp.2 h)), hA.out]
          have hne1 : (A == []) = false := by rw [beq_eq_false_iff_ne]; exact hA0
          clear hA hin hres hemp
          go_wp2_with fail
          refine bodyPost_ret (results_tmp2 rfl _ _ _) rfl ?_
          exact ⟨by rw [HR2.out]; rfl, hB⟩
end Go.Proofs.YtnobpeghofoniaaGreatDoor
namespace Go.Proofs.YtnobpeghofoniaaGreatDoor
open Go.RowKit Go.Shelf
set_option maxRecDepth 100000 in
set_option maxHeartbeats 8000000 in
theorem fieldShows_walk (L : List IFld) (n : Nat) (ad : Option Addr) (cap : Nat) (h : ByteArray) (w : World) (hLn : L.length = n) (hcap : n ≤ cap) (hlb : n * 24 ≤ 140737488355328) (hstr : ∀ f ∈ L, f.1.length ≤ 281474976710656) (hcell : IRF w ad L) (hlim : h.size ≤ 281474976710656) (hv1 : SH w) (hdb : DB w) (hv4 : SG w) (hv5 : VW w) :
    Calls Tryz.prog 6 #[.slice ad n cap, .string h] w fun e w' => e = .returned (.bool true) ∧ Below w.heap.size w w' := by
  obtain ⟨s, rfl⟩ : ∃ s : List UInt8, h = ⟨s.toArray⟩ := ⟨h.data.toList, by simp⟩
  have hsl : s.length ≤ 281474976710656 := by simpa [ByteArray.size] using hlim
  obtain ⟨r, hr⟩ : ∃ r, swM L s = r := ⟨_, rfl⟩
  have HR : Hid (∀ W : World, Below w.heap.size w W → IRF W ad L) := fun W hW => hcell.later hW
  have HRC : Hid (Calls Tryz.prog 24 #[.slice ad n cap, .string ⟨s.toArray⟩] w fun e w' => e = .returned (.tuple #[.string ⟨r.1.toArray⟩, .int .i64 r.2]) ∧ Below w.heap.size w w') := by
    unfold Hid
    rw [← hLn, ← hr]
    exact refShow_any L ad cap s w (by omega) hstr hcell
  have HCP : Hid (∀ W : World, Below w.heap.size w W → Calls Tryz.prog 21 #[.slice ad n cap] W fun e w' => ∃ v, e = .returned v ∧ w'.ownsRow W.heap.size 39 2 v n (fels L) ∧ Below W.heap.size W w') := fun W hW => by
    rw [← hLn]
    exact copyFields_any L ad cap W (by omega) (hcell.later hW)
  have HCK : Hid (∀ W : World, Below w.heap.size w W → Calls Tryz.prog 25 #[.slice ad n cap, .string ⟨s.toArray⟩] W fun e w' => e = .returned (.tuple #[.string ⟨r.1.toArray⟩, .int .i64 r.2]) ∧ Below W.heap.size W w') := fun W hW => by
    rw [← hLn, ← hr]
    exact show_any L ad cap s W (by omega) (by omega) hstr hsl (hcell.later hW) (hv1.below hW) (hv4.below hW) (hv5.below hW)
  have HUN : Hid (∀ (W : World) (o2 : Option Addr) (c2 : Nat), IRF W ad L → IRF W o2 L → Calls Tryz.prog 23 #[.slice ad n cap, .slice o2 n c2] W fun e w' => e = .returned (.bool false) ∧ Below W.heap.size W w') := fun W o2 c2 i1 i2 => by
    rw [← hLn]
    exact unlike_any L ad o2 cap c2 W (by omega) i1 i2
  have HKN : Hid (∀ W : World, Below w.heap.size w W → Calls Tryz.prog 19 #[] W fun e w' => e = .returned (.bool true) ∧ Below W.heap.size W w') := fun W hW => known_any W (hdb.below hW)
  have HLN : Hid (L.length = n) := hLn
  obtain ⟨S, a0⟩ := r
  simp only at HRC HCK
  have y1 : (a0 == a0) = true := beq_self_eq_true a0
  have y2 : (S == S) = true := beq_self_eq_true S
  clear hr hLn hcell hstr hv1 hv4 hv5 hdb
  go_enter Tryz.func6, Tryz.ntmps6
  go_wp2_with fail
  refine HRC.out.mono ?_
  rintro e W1 ⟨rfl, hb1⟩
  go_wp2_with fail
  refine (HCP.out _ hb1).mono ?_
  rintro e W2 ⟨v, rfl, hown, hb2⟩
  have hB2 := bel0 hb1 hb2
  obtain ⟨pv, cv, rfl⟩ := shapeP hown
  have HO : Hid (∀ W : World, Below W2.heap.size W2 W → IRF W pv L) := fun W hW => (IRF_own hown HLN.out).later hW
  clear hown
  go_wp2_with fail
  refine (HCK.out _ hB2).mono ?_
  rintro e W3 ⟨rfl, hb3⟩
  have hB3 := bel0 hB2 hb3
  go_wp2_with fail
  refine (num_any a0 _).mono ?_
  rintro e W5 ⟨rfl, rfl⟩
  go_wp2_with fail
  refine (HUN.out _ pv cv (HR.out _ hB3) (HO.out _ hb3)).mono ?_
  rintro e W7 ⟨rfl, hb7⟩
  have hB7 := bel0 hB3 hb7
  go_wp2_with fail
  refine (HKN.out _ hB7).mono ?_
  rintro e W8 ⟨rfl, hb8⟩
  go_wp2_with fail
  go_ret
  exact ⟨rfl, bel0 hB7 hb8⟩
end Go.Proofs.YtnobpeghofoniaaGreatDoor
