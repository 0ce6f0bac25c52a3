import Derived.Test.YtdkhdkfjadalpaaDoorL4
import Derived.Laws.Cover1
namespace Go.Proofs.YtdkhdkfjadalpaaDoor
open Go.RowKit Go.Shelf
theorem bits_cons (b a : Nat) : (List.range (b + 1)).map (bitB (b + 1) a) = UInt8.ofNat (48 + a / 2 ^ b % 2) :: (List.range b).map (bitB b a) := by
  rw [List.range_succ_eq_map, List.map_cons, List.map_map]
  have h2 : List.map (bitB (b + 1) a ∘ Nat.succ) (List.range b) = List.map (bitB b a) (List.range b) := by
    apply List.map_congr_left
    intro p _
    show bitB (b + 1) a (p + 1) = bitB b a p
    unfold bitB
    rw [show b + 1 - 1 - (p + 1) = b - 1 - p by omega]
  rw [h2]
  rfl
theorem bits_mod (b a : Nat) : (List.range b).map (bitB b a) = (List.range b).map (bitB b (a % 2 ^ b)) := by
  apply List.map_congr_left
  intro p hp
  refine bitB_eq.2 ?_
  have hp2 : p < b := by simpa using hp
  obtain ⟨k, hk⟩ : ∃ k, b - 1 - p = k := ⟨_, rfl⟩
  rw [hk]
  have h := Nat.testBit_mod_two_pow a b k
  rw [Nat.testBit_eq_decide_div_mod_eq, Nat.testBit_eq_decide_div_mod_eq, decide_eq_true (show k < b by omega), Bool.true_and] at h
  have h2 := decide_eq_decide.1 h
  omega
/-- the order of the bits' texts is the order of the numbers -/
theorem bits_less : ∀ (b a c : Nat), a < c → c < 2 ^ b → Op.bytesLess ((List.range b).map (bitB b a)) ((List.range b).map (bitB b c)) = true := by
  intro b
  induction b with
  | zero => intro a c h1 h2; simp at h2; omega
  | succ b ih =>
    intro a c h1 h2
    have hp : 0 < 2 ^ b := Nat.pow_pos (by decide)
    rw [Nat.pow_succ] at h2
    have a1 : a / 2 ^ b < 2 := (Nat.div_lt_iff_lt_mul hp).2 (by omega)
    have c1 : c / 2 ^ b < 2 := (Nat.div_lt_iff_lt_mul hp).2 (by omega)
    have am := Nat.div_add_mod a (2 ^ b)
    have cm := Nat.div_add_mod c (2 ^ b)
    have al := Nat.mod_lt a hp
    have cl := Nat.mod_lt c hp
    have hle : a / 2 ^ b ≤ c / 2 ^ b := Nat.div_le_div_right (by omega)
    rw [bits_cons, bits_cons, Op.bytesLess]
    by_cases he : a / 2 ^ b = c / 2 ^ b
    · rw [he] at am ⊢
      have hlt : a % 2 ^ b < c % 2 ^ b := by omega
      have := ih (a % 2 ^ b) (c % 2 ^ b) hlt cl
      rw [← bits_mod, ← bits_mod] at this
      rw [this]
      simp
    · obtain ⟨A, hA⟩ : ∃ A, a / 2 ^ b = A := ⟨_, rfl⟩
      obtain ⟨C, hC⟩ : ∃ C, c / 2 ^ b = C := ⟨_, rfl⟩
      rw [hA] at a1 hle he
      rw [hC] at c1 hle he
      have x0 : a / 2 ^ b = 0 := by rw [hA]; omega
      have y0 : c / 2 ^ b = 1 := by rw [hC]; omega
      rw [x0, y0]
      rfl
theorem less_mk {b a c : Nat} (h1 : a < c) (h2 : c < 2 ^ b) : Op.bytesLess (ByteArray.mk ((List.range b).map (bitB b a)).toArray).toList (ByteArray.mk ((List.range b).map (bitB b c)).toArray).toList = true := by
  rw [ByteArray.toList_eq, ByteArray.toList_eq]
  exact bits_less b a c h1 h2
/-- two prefixes of one length that are no halves of one differ ahead of their last digit -/
theorem take_ne {b a c f : Nat} (hf : f < b) (ha : a < 2 ^ b) (hc : c < 2 ^ b) (h : a / 2 ^ (f + 1) ≠ c / 2 ^ (f + 1)) : (digL b a f).take (b - f - 1) ≠ (digL b c f).take (b - f - 1) := by
  intro he
  refine h (bits_eq ha hc (fun k h1 h2 => ?_))
  have hj : b - 1 - k < b - f - 1 := by omega
  have h3 := congrArg (fun l => l[b - 1 - k]?) he
  simp only [List.getElem?_take, if_pos hj] at h3
  rw [digL_get b a f (by omega) _ (by omega), digL_get b c f (by omega) _ (by omega), if_pos (by omega), if_pos (by omega)] at h3
  have h4 := bitB_eq.1 (Option.some.inj h3)
  rw [show b - 1 - (b - 1 - k) = k by omega] at h4
  exact h4
end Go.Proofs.YtdkhdkfjadalpaaDoor
