import Derived.Test.YtbdnpbiimbeflaaM3
namespace Go.Proofs.Ytbdnpbiimbeflaa

/-- the least cube that holds both -/
def huT (a b : List UInt8) : List UInt8 := List.zipWith (fun x y => if x == y then x else 120) a b

theorem huT_len (a b : List UInt8) (h : a.length = b.length) : (huT a b).length = a.length := by simp [huT]; omega
theorem huT_get (a b : List UInt8) (h : a.length = b.length) (k : Nat) (hk : k < a.length) : (huT a b)[k]? = some (if a[k] == b[k]'(by omega) then a[k] else 120) := by
  simp [huT, List.getElem?_zipWith, List.getElem?_eq_getElem hk, List.getElem?_eq_getElem (show k < b.length by omega)]
theorem good_huT (a b : List UInt8) (ha : good a = true) (hb : good b = true) : good (huT a b) = true :=
  good_zip _ a b ha hb (fun x y hx _ => by
    show tri (if (x == y) = true then x else 120) = true
    split
    · exact hx
    · decide)

theorem fx_hu (a b : List UInt8) (h : a.length = b.length) (ga : good a = true) (gb : good b = true) (k : Nat) : fx (huT a b) k = (fx a k && (fx b k && !(on a k ^^ on b k))) := by
  by_cases hk : k < a.length
  · have hb : k < b.length := by omega
    have ta := good_tri ga k hk
    have tb := good_tri gb k hb
    simp only [fx, on, huT_get a b h k hk, List.getElem?_eq_getElem hk, List.getElem?_eq_getElem hb]
    generalize a[k] = x at *
    generalize b[k] = y at *
    simp only [tri, Bool.or_eq_true, beq_iff_eq] at ta tb
    rcases ta with (rfl | rfl) | rfl <;> rcases tb with (rfl | rfl) | rfl <;> decide
  · simp only [fx, on]
    rw [List.getElem?_eq_none (by rw [huT_len a b h]; omega), List.getElem?_eq_none (show a.length ≤ k by omega), List.getElem?_eq_none (show b.length ≤ k by omega)]; rfl

theorem on_hu (a b : List UInt8) (h : a.length = b.length) (k : Nat) : on (huT a b) k = (on a k && fx (huT a b) k) := by
  by_cases hk : k < a.length
  · simp only [fx, on, huT_get a b h k hk, List.getElem?_eq_getElem hk]
    generalize a[k] = x
    generalize b[k]'(by omega) = y
    by_cases e : x = y
    · subst e
      by_cases e2 : x = 49 <;> simp [e2]
    · simp [e]
  · simp only [fx, on]
    rw [List.getElem?_eq_none (by rw [huT_len a b h]; omega), List.getElem?_eq_none (show a.length ≤ k by omega)]; rfl

theorem FW_hu (a b : List UInt8) (h : a.length = b.length) (ga : good a = true) (gb : good b = true) (w : Nat) :
    bits .and .u64 (FW a w : Int) (bits .andNot .u64 (FW b w : Int) (bits .xor .u64 (OW a w : Int) (OW b w : Int))) = (FW (huT a b) w : Nat) := by
  have hx : OW a w ^^^ OW b w < 18446744073709551616 := xor_lt (OW_lt _ _) (OW_lt _ _)
  rw [u64_xor_nat _ _ (OW_lt _ _) (OW_lt _ _), u64_andNot_nat _ _ (FW_lt _ _) hx, u64_and_nat _ _ (FW_lt _ _) (and_lt _ (FW_lt _ _))]
  congr 1
  apply Nat.eq_of_testBit_eq
  intro i
  rw [Nat.testBit_and, andnot_bit _ _ hx, Nat.testBit_xor, FW_bit, FW_bit, OW_bit, OW_bit, FW_bit, fx_hu a b h ga gb]
  by_cases hi : i < 64 <;> simp [hi]
theorem OW_hu (a b : List UInt8) (h : a.length = b.length) (w : Nat) : bits .and .u64 (OW a w : Int) (FW (huT a b) w : Int) = (OW (huT a b) w : Nat) := by
  rw [u64_and_nat _ _ (OW_lt _ _) (FW_lt _ _)]
  congr 1
  apply Nat.eq_of_testBit_eq
  intro i
  rw [Nat.testBit_and, OW_bit, FW_bit, OW_bit, on_hu a b h]
  by_cases hi : i < 64 <;> simp [hi]
end Go.Proofs.Ytbdnpbiimbeflaa
