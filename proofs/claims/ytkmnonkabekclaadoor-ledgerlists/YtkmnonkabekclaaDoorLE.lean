import Derived.Test.YtkmnonkabekclaaDoorLD
namespace Go.Proofs.YtkmnonkabekclaaDoor
open Go.RowKit
theorem ofInt_i64 (a : Nat) (ha : a < 18446744073709551616) : (BitVec.ofInt 64 (a : Int)).toNat = a := by
  rw [BitVec.ofInt_natCast, BitVec.toNat_ofNat]; exact Nat.mod_eq_of_lt (by omega)
theorem i64_and_nat (a b : Nat) (ha : a < 9223372036854775808) (hb : b < 9223372036854775808) : bits .and .i64 (a : Int) (b : Int) = ((a &&& b : Nat) : Int) := by
  have hx : a &&& b < 2 ^ 63 := Nat.and_lt_two_pow _ (by omega)
  show IntKind.i64.wrap ((BitVec.ofInt 64 (a : Int) &&& BitVec.ofInt 64 (b : Int)).toNat : Int) = _
  rw [BitVec.toNat_and, ofInt_i64 a (by omega), ofInt_i64 b (by omega), IntKind.wrap_i64]
  omega
theorem i64_or_nat (a b : Nat) (ha : a < 9223372036854775808) (hb : b < 9223372036854775808) : bits .or .i64 (a : Int) (b : Int) = ((a ||| b : Nat) : Int) := by
  have hx : a ||| b < 2 ^ 63 := Nat.or_lt_two_pow (by omega) (by omega)
  show IntKind.i64.wrap ((BitVec.ofInt 64 (a : Int) ||| BitVec.ofInt 64 (b : Int)).toNat : Int) = _
  rw [BitVec.toNat_or, ofInt_i64 a (by omega), ofInt_i64 b (by omega), IntKind.wrap_i64]
  omega
theorem i64_xor_nat (a b : Nat) (ha : a < 9223372036854775808) (hb : b < 9223372036854775808) : bits .xor .i64 (a : Int) (b : Int) = ((a ^^^ b : Nat) : Int) := by
  have hx : a ^^^ b < 2 ^ 63 := Nat.xor_lt_two_pow (by omega) (by omega)
  show IntKind.i64.wrap ((BitVec.ofInt 64 (a : Int) ^^^ BitVec.ofInt 64 (b : Int)).toNat : Int) = _
  rw [BitVec.toNat_xor, ofInt_i64 a (by omega), ofInt_i64 b (by omega), IntKind.wrap_i64]
  omega
theorem bit_q {q : Nat} (hq : q < 4294967296) : bits .and .i64 (q : Int) 1 = ((q % 2 : Nat) : Int) := by
  have := i64_and_nat q 1 (by omega) (by decide)
  rw [show ((1 : Nat) : Int) = 1 from rfl] at this
  rw [this, show (1 : Nat) = 2 ^ 1 - 1 from rfl, Nat.and_two_pow_sub_one_eq_mod]
theorem bit_k {b k : Nat} (hb : b < 256) : bits .and .i64 ((b : Int) / 2 ^ k) 1 = ((b / 2 ^ k % 2 : Nat) : Int) := by
  have e : ((b : Int) / 2 ^ k) = ((b / 2 ^ k : Nat) : Int) := by rw [Int.natCast_ediv, Int.natCast_pow]; rfl
  rw [e]
  exact bit_q (Nat.lt_of_le_of_lt (Nat.div_le_self _ _) (by omega))
theorem xor_p {q : Nat} (hq : q < 4294967296) : bits .xor .i64 ((q : Int) / 2) 2197175160 = ((q / 2 ^^^ pB : Nat) : Int) := by
  rw [show ((q : Int) / 2) = ((q / 2 : Nat) : Int) by omega]
  exact i64_xor_nat _ 2197175160 (by omega) (by decide)
set_option maxRecDepth 100000 in
set_option maxHeartbeats 1000000 in
theorem dsum_any (l : List UInt8) (p : Option Addr) (c : Nat) (w : World) (hL : l.length ≤ 281474976710656) (hr : BR w p l) :
    Calls Tryd.prog 19 #[.slice p l.length c] w fun e w' => e = .returned (.int .i64 (sumN l)) ∧ w' = w := by
  have HR : Hid (BR w p l) := hr
  clear hr
  go_enter Tryd.func19, Tryd.ntmps19
  go_wp2_with fail
  go_loopw [3, 4] (fun vr vi wr => ∃ i r : Nat, vi = .int .i64 i ∧ i ≤ l.length ∧ vr = .int .i64 r ∧ r < 4294967296 ∧ Hid (r = sumR 4294967295 (l.take i)) ∧ wr = w) (fun _ vi _ => l.length - (intOf vi).toNat)
  case atStart => exact ⟨0, 4294967295, rfl, Nat.zero_le _, rfl, by decide, rfl, rfl⟩
  case round =>
    obtain ⟨i, r, rfl, hi, rfl, hr32, hs, rfl⟩ := hrel
    by_cases hlt : i < l.length
    · have j1 : (i : Int) < (l.length : Int) := by omega
      have j0 : (0 : Int) ≤ (i : Int) := by omega
      obtain ⟨x, hx⟩ : ∃ x, l[i]? = some x := ⟨_, List.getElem?_eq_getElem hlt⟩
      obtain ⟨g, o, rfl, hc⟩ := HR.out i x hx
      have hx8 := x.toNat_lt
      have hnew : sumR 4294967295 (l.take (i + 1)) = stB r x.toNat := by rw [take_snoc hx, sumR_snoc, ← hs.out]
      obtain ⟨X, hX⟩ : ∃ X, x.toNat = X := ⟨_, rfl⟩
      rw [hX] at hc hx8 hnew
      rw [← rK_8 hx8] at hnew
      have HN : Hid (rK r X 8 = sumR 4294967295 (l.take (i + 1))) := hnew.symm
      clear hnew hX hs
      go_wp2_with fail
      go_loopw [3, 5] (fun vr vk wz => ∃ k q : Nat, vk = .int .i64 k ∧ k ≤ 8 ∧ vr = .int .i64 q ∧ q < 4294967296 ∧ Hid (q = rK r X k) ∧ wz = wr) (fun _ vk _ => 8 - (intOf vk).toNat)
      case atStart => exact ⟨0, r, rfl, Nat.zero_le _, rfl, hr32, rfl, rfl⟩
      case round =>
        obtain ⟨k, q, rfl, hk, rfl, hq32, hq, rfl⟩ := hrel
        by_cases hk8 : k < 8
        · have k1 : (k : Int) < 8 := by omega
          have k0 : (0 : Int) ≤ (k : Int) := by omega
          have k64 : (k : Int) < 64 := by omega
          have e1 := bit_k (k := k) hx8
          have e2 := bit_q hq32
          have e3 := xor_p hq32
          have hst : rK r X (k + 1) = rB q (X / 2 ^ k % 2) := by rw [rK, ← hq.out]
          by_cases hio : X / 2 ^ k % 2 = q % 2
          · have e4 : (((X / 2 ^ k % 2 : Nat) : Int) != ((q % 2 : Nat) : Int)) = false := by rw [hio]; simp
            rw [rB, if_pos hio] at hst
            have HS : Hid (q / 2 = rK r X (k + 1)) := hst.symm
            clear hst hio e3
            generalize X / 2 ^ k % 2 = I at *
            generalize q % 2 = O at *
            go_wp2_with fail
            exact ⟨⟨k + 1, q / 2, rfl, by omega, by rw [show ((q : Int) / 2) = ((q / 2 : Nat) : Int) by omega], by omega, HS, trivial⟩, by simp only [intOf]; omega⟩
          · have e4 : (((X / 2 ^ k % 2 : Nat) : Int) != ((q % 2 : Nat) : Int)) = true := by simp only [bne_iff_ne, ne_eq]; omega
            rw [rB, if_neg hio] at hst
            have hl := xor_lt32 (a := q / 2) (b := pB) (by omega) (by decide)
            have HS : Hid (q / 2 ^^^ pB = rK r X (k + 1)) := hst.symm
            clear hst hio
            generalize X / 2 ^ k % 2 = I at *
            generalize q % 2 = O at *
            generalize q / 2 ^^^ pB = Z at *
            go_wp2_with fail
            exact ⟨⟨k + 1, Z, rfl, by omega, rfl, hl, HS, trivial⟩, by simp only [intOf]; omega⟩
        · obtain rfl : k = 8 := by omega
          have HZ : Hid (q = sumR 4294967295 (l.take (i + 1))) := hq.out.trans HN.out
          clear hq HN
          go_wp2_with fail
          exact ⟨⟨i + 1, q, rfl, by omega, rfl, hq32, HZ, trivial⟩, by simp only [intOf]; omega⟩
    · obtain rfl : i = l.length := by omega
      have e0 : bits .xor .i64 (r : Int) 4294967295 = (sumN l : Int) := by
        have h1 := i64_xor_nat r 4294967295 (by omega) (by decide)
        rw [show (4294967295 : Int) = ((4294967295 : Nat) : Int) from rfl, h1, hs.out, List.take_length]
        rfl
      go_wp2_with fail
      go_ret
      exact ⟨rfl, rfl⟩
end Go.Proofs.YtkmnonkabekclaaDoor
