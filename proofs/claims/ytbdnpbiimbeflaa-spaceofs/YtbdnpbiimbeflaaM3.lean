import Derived.Test.YtbdnpbiimbeflaaM2
namespace Go.Proofs.Ytbdnpbiimbeflaa

theorem andnot_bit (x y : Nat) (hy : y < 18446744073709551616) (i : Nat) : (x &&& (18446744073709551615 - y)).testBit i = (x.testBit i && (decide (i < 64) && !y.testBit i)) := by
  have h : 18446744073709551615 - y = 2 ^ 64 - (y + 1) := by omega
  rw [Nat.testBit_and, h, Nat.testBit_two_pow_sub_succ (by exact hy)]

/-- P1.8 -/
def wrT (c r : List UInt8) : List UInt8 := List.zipWith (fun x y => if y == 120 then x else y) c r
/-- P1.9 -/
def bfT (c r : List UInt8) : List UInt8 := List.zipWith (fun x y => if y == 120 then x else 120) c r

theorem zip_len (f : UInt8 → UInt8 → UInt8) (a b : List UInt8) (h : a.length = b.length) : (List.zipWith f a b).length = a.length := by simp; omega
theorem zip_get (f : UInt8 → UInt8 → UInt8) (a b : List UInt8) (h : a.length = b.length) (k : Nat) (hk : k < a.length) : (List.zipWith f a b)[k]? = some (f a[k] (b[k]'(by omega))) := by
  rw [List.getElem?_zipWith, List.getElem?_eq_getElem hk, List.getElem?_eq_getElem (show k < b.length by omega)]
theorem zip_out (f : UInt8 → UInt8 → UInt8) (a b : List UInt8) (h : a.length = b.length) (k : Nat) (hk : ¬ k < a.length) : (List.zipWith f a b)[k]? = none := by
  rw [List.getElem?_eq_none (by rw [zip_len f a b h]; omega)]

theorem fx_wr (a b : List UInt8) (h : a.length = b.length) (k : Nat) : fx (wrT a b) k = (fx a k || fx b k) := by
  by_cases hk : k < a.length
  · have hb : k < b.length := by omega
    simp only [fx, wrT, zip_get _ a b h k hk, List.getElem?_eq_getElem hk, List.getElem?_eq_getElem hb]
    generalize a[k] = x
    generalize b[k] = y
    by_cases e : y = 120 <;> simp [e]
  · simp only [fx, wrT, zip_out _ a b h k hk]
    rw [List.getElem?_eq_none (by omega), List.getElem?_eq_none (by omega)]; rfl
theorem on_wr (a b : List UInt8) (h : a.length = b.length) (k : Nat) : on (wrT a b) k = ((on a k && !fx b k) || on b k) := by
  by_cases hk : k < a.length
  · have hb : k < b.length := by omega
    simp only [fx, on, wrT, zip_get _ a b h k hk, List.getElem?_eq_getElem hk, List.getElem?_eq_getElem hb]
    generalize a[k] = x
    generalize b[k] = y
    by_cases e : y = 120
    · subst e; simp
    · simp [e]
  · simp only [fx, on, wrT, zip_out _ a b h k hk]
    rw [List.getElem?_eq_none (by omega), List.getElem?_eq_none (by omega)]; rfl
theorem fx_bf (a b : List UInt8) (h : a.length = b.length) (k : Nat) : fx (bfT a b) k = (fx a k && !fx b k) := by
  by_cases hk : k < a.length
  · have hb : k < b.length := by omega
    simp only [fx, bfT, zip_get _ a b h k hk, List.getElem?_eq_getElem hk, List.getElem?_eq_getElem hb]
    generalize a[k] = x
    generalize b[k] = y
    by_cases e : y = 120 <;> simp [e]
  · simp only [fx, bfT, zip_out _ a b h k hk]
    rw [List.getElem?_eq_none (by omega), List.getElem?_eq_none (by omega)]; rfl
theorem on_bf (a b : List UInt8) (h : a.length = b.length) (k : Nat) : on (bfT a b) k = (on a k && !fx b k) := by
  by_cases hk : k < a.length
  · have hb : k < b.length := by omega
    simp only [fx, on, bfT, zip_get _ a b h k hk, List.getElem?_eq_getElem hk, List.getElem?_eq_getElem hb]
    generalize a[k] = x
    generalize b[k] = y
    by_cases e : y = 120 <;> simp [e]
  · simp only [fx, on, bfT, zip_out _ a b h k hk]
    rw [List.getElem?_eq_none (by omega), List.getElem?_eq_none (by omega)]; rfl

theorem FW_wr (a b : List UInt8) (h : a.length = b.length) (w : Nat) : bits .or .u64 (FW a w : Int) (FW b w : Int) = (FW (wrT a b) w : Nat) := by
  rw [u64_or_nat _ _ (FW_lt _ _) (FW_lt _ _)]
  congr 1
  apply Nat.eq_of_testBit_eq
  intro i
  rw [Nat.testBit_or, FW_bit, FW_bit, FW_bit, fx_wr a b h]
  by_cases hi : i < 64 <;> simp [hi]
theorem OW_wr (a b : List UInt8) (h : a.length = b.length) (w : Nat) : bits .or .u64 (bits .andNot .u64 (OW a w : Int) (FW b w : Int)) (OW b w : Int) = (OW (wrT a b) w : Nat) := by
  rw [u64_andNot_nat _ _ (OW_lt _ _) (FW_lt _ _), u64_or_nat _ _ (and_lt _ (OW_lt _ _)) (OW_lt _ _)]
  congr 1
  apply Nat.eq_of_testBit_eq
  intro i
  rw [Nat.testBit_or, andnot_bit _ _ (FW_lt _ _), OW_bit, OW_bit, OW_bit, FW_bit, on_wr a b h]
  by_cases hi : i < 64 <;> simp [hi]
theorem FW_bf (a b : List UInt8) (h : a.length = b.length) (w : Nat) : bits .andNot .u64 (FW a w : Int) (FW b w : Int) = (FW (bfT a b) w : Nat) := by
  rw [u64_andNot_nat _ _ (FW_lt _ _) (FW_lt _ _)]
  congr 1
  apply Nat.eq_of_testBit_eq
  intro i
  rw [andnot_bit _ _ (FW_lt _ _), FW_bit, FW_bit, FW_bit, fx_bf a b h]
  by_cases hi : i < 64 <;> simp [hi]
theorem OW_bf (a b : List UInt8) (h : a.length = b.length) (w : Nat) : bits .andNot .u64 (OW a w : Int) (FW b w : Int) = (OW (bfT a b) w : Nat) := by
  rw [u64_andNot_nat _ _ (OW_lt _ _) (FW_lt _ _)]
  congr 1
  apply Nat.eq_of_testBit_eq
  intro i
  rw [andnot_bit _ _ (FW_lt _ _), OW_bit, OW_bit, FW_bit, on_bf a b h]
  by_cases hi : i < 64 <;> simp [hi]

/-- what Write answers -/
def wtT (c r : List UInt8) : List UInt8 := if fitB c r = true then wrT c r else []
/-- what Before answers -/
def beT (c r : List UInt8) : List UInt8 := if agB c r = true then bfT c r else []
theorem good_wtT (a b : List UInt8) (ha : good a = true) (hb : good b = true) : good (wtT a b) = true := by
  unfold wtT; split
  · exact good_zip _ a b ha hb (fun x y hx hy => by split <;> assumption)
  · exact good_nil
theorem good_beT (a b : List UInt8) (ha : good a = true) (hb : good b = true) : good (beT a b) = true := by
  unfold beT; split
  · exact good_zip _ a b ha hb (fun x y hx hy => by split <;> first | assumption | decide)
  · exact good_nil

theorem take_zip (f : UInt8 → UInt8 → UInt8) (a b : List UInt8) (h : a.length = b.length) (k : Nat) (hk : k < a.length) :
    (List.zipWith f a b).take (k + 1) = (List.zipWith f a b).take k ++ [f a[k] (b[k]'(by omega))] := by
  have hl : k < (List.zipWith f a b).length := by rw [zip_len f a b h]; exact hk
  rw [List.take_succ_eq_append_getElem hl]
  congr 2
  rw [List.getElem_zipWith]
theorem take_all (f : UInt8 → UInt8 → UInt8) (a b : List UInt8) (h : a.length = b.length) : (List.zipWith f a b).take a.length = List.zipWith f a b := by
  apply List.take_of_length_le
  rw [zip_len f a b h]; exact Nat.le_refl _

/-- conflict, by the bytes -/
theorem cfl_bytes (a b : List UInt8) (k : Nat) (ha : k < a.length) (hb : k < b.length) (ta : tri a[k] = true) (tb : tri b[k] = true) : cfl a b k = (!(a[k] == 120) && !(b[k] == 120) && !(a[k] == b[k])) := by
  simp only [cfl, fx, on, List.getElem?_eq_getElem ha, List.getElem?_eq_getElem hb]
  generalize a[k] = x at *
  generalize b[k] = y at *
  simp [tri] at ta tb
  rcases ta with (rfl | rfl) | rfl <;> rcases tb with (rfl | rfl) | rfl <;> rfl
theorem agB_conf (a b : List UInt8) (k : Nat) (hk : k < a.length) (h : cfl a b k = true) : agB a b = false := by
  unfold agB
  rw [allTo_false k hk (by rw [h]; rfl)]; simp
theorem agB_all (a b : List UInt8) (hf : fitB a b = true) (h : ∀ k, k < a.length → cfl a b k = false) : agB a b = true := by
  unfold agB
  rw [hf, Bool.true_and, allTo_iff]
  intro k hk; rw [h k hk]; rfl
theorem agB_nofit (a b : List UInt8) (hf : fitB a b = false) : agB a b = false := by unfold agB; rw [hf]; rfl
end Go.Proofs.Ytbdnpbiimbeflaa
