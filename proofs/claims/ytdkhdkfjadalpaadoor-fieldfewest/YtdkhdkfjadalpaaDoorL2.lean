import Derived.Test.YtdkhdkfjadalpaaDoorL1
namespace Go.Proofs.YtdkhdkfjadalpaaDoor
open Go.RowKit Go.Shelf
theorem bitB_cases (b v p : Nat) : bitB b v p = 48 ∨ bitB b v p = 49 := by
  unfold bitB
  rcases Nat.mod_two_eq_zero_or_one (v / 2 ^ (b - 1 - p)) with h | h
  · rw [h]; exact .inl rfl
  · rw [h]; exact .inr rfl
theorem digL_chr {b v f j : Nat} {c : UInt8} (hf : f ≤ b) (hj : j < b) (h : (digL b v f)[j]? = some c) : (j < b - f ∧ c = bitB b v j) ∨ (¬ j < b - f ∧ c = 120) := by
  rw [digL_get b v f hf j hj] at h
  have h := Option.some.inj h
  by_cases h1 : j < b - f
  · rw [if_pos h1] at h; exact .inl ⟨h1, h.symm⟩
  · rw [if_neg h1] at h; exact .inr ⟨h1, h.symm⟩
set_option maxRecDepth 100000 in
set_option maxHeartbeats 1000000 in
/-- how many digits a prefix has -/
theorem ldigits_any (b a f : Nat) (hb : b ≤ 32) (hf : f ≤ b) (w : World) :
    Calls Tryd.prog 10 #[.string ⟨(digL b a f).toArray⟩] w fun e w' => e = .returned (.int .i64 ((b - f : Nat) : Int)) ∧ Below w.heap.size w w' := by
  have hlen := digL_len b a f hf
  have hch := fun j (c : UInt8) hj h => digL_chr (b := b) (v := a) (f := f) (j := j) (c := c) hf hj h
  obtain ⟨S, hS⟩ : ∃ S, digL b a f = S := ⟨_, rfl⟩
  rw [hS] at hlen ⊢
  simp only [hS] at hch
  clear hS
  go_enter Tryd.func10, Tryd.ntmps10
  go_wp2_with fail
  go_loopw [3] (fun vi wr => ∃ i : Nat, vi = .int .i64 i ∧ i ≤ b - f ∧ Below w.heap.size w wr) (fun vi _ => b - f - (intOf vi).toNat)
  case atStart => exact ⟨0, rfl, Nat.zero_le _, Below.refl _ _⟩
  case round =>
    obtain ⟨i, rfl, hi, hB⟩ := hrel
    by_cases hlt : i < S.length
    · have q0 : (0 : Int) ≤ (i : Int) := by omega
      have q1 : (i : Int) < (S.length : Int) := by omega
      obtain ⟨c, hc, hlc⟩ := byte_get S i hlt
      rcases hch i c (by omega) hlc with ⟨h1, h2⟩ | ⟨h1, h2⟩
      · have hne : ((c.toNat : Int) == 120) = false := by
          rw [h2]
          rcases bitB_cases b a i with h | h <;> rw [h] <;> decide
        have hne2 : ((c.toNat : Int) != 120) = true := by rw [bne, hne]; rfl
        clear h2 hch
        go_wp2_with fail
        try (go_quiet (fail); go_wp2_with fail)
        go_roundw
        case rel => exact ⟨i + 1, by go_num, by omega, by first | exact hB | exact bel_drewN _ hB⟩
        case measure => simp [intOf]; omega
      · subst h2
        have hbf : Hid (i = b - f) := by unfold Hid; omega
        clear hch
        go_wp2_with fail
        try (go_quiet (fail); go_wp2_with fail)
        go_ret
        exact ⟨by rw [hbf.out]; rfl, by first | exact hB | exact bel_drewN _ hB⟩
    · have q1 : ¬ (i : Int) < (S.length : Int) := by omega
      have hbf : Hid (i = b - f) := by unfold Hid; omega
      clear hch
      go_wp2_with fail
      try (go_quiet (fail); go_wp2_with fail)
      go_ret
      exact ⟨by rw [hbf.out]; rfl, by first | exact hB | exact bel_drewN _ hB⟩
theorem bit_low {b a f i : Nat} (ha : 2 ^ f ∣ a) (h1 : ¬ i < b - f) (h2 : i < b) : bitB b a i = 48 := by
  unfold bitB
  obtain ⟨q, rfl⟩ := ha
  obtain ⟨d, hd⟩ : ∃ d, f = (b - 1 - i) + (d + 1) := ⟨f - (b - 1 - i) - 1, by omega⟩
  have hp : 0 < 2 ^ (b - 1 - i) := Nat.pow_pos (by decide)
  have e : 2 ^ f * q / 2 ^ (b - 1 - i) = 2 ^ (d + 1) * q := by
    rw [hd, Nat.pow_add, Nat.mul_assoc, Nat.mul_div_cancel_left _ hp]
  have e2 : 2 ^ (d + 1) * q % 2 = 0 := by
    rw [Nat.pow_succ, Nat.mul_comm (2 ^ d) 2, Nat.mul_assoc]
    exact Nat.mul_mod_right 2 _
  rw [e, e2]
  rfl
set_option maxRecDepth 100000 in
set_option maxHeartbeats 1000000 in
/-- the least value of a prefix, as text -/
theorem least_any (b a f : Nat) (hb : b ≤ 32) (hf : f ≤ b) (ha : 2 ^ f ∣ a) (w : World) :
    Calls Tryd.prog 11 #[.string ⟨(digL b a f).toArray⟩] w fun e w' => e = .returned (.string ⟨((List.range b).map (bitB b a)).toArray⟩) ∧ Below w.heap.size w w' := by
  obtain ⟨i0, hi0, hz0, hz1, hz2⟩ := info_parts info_u8
  have hlen := digL_len b a f hf
  have hch := fun j (c : UInt8) hj h => digL_chr (b := b) (v := a) (f := f) (j := j) (c := c) hf hj h
  have hlow : ∀ j, ¬ j < b - f → j < b → bitB b a j = 48 := fun j h1 h2 => bit_low ha h1 h2
  obtain ⟨S, hS⟩ : ∃ S, digL b a f = S := ⟨_, rfl⟩
  rw [hS] at hlen ⊢
  simp only [hS] at hch
  clear hS ha
  have hsnoc : ∀ p, Lib.byteCells ((List.range (p + 1)).map (bitB b a)) = Lib.byteCells ((List.range p).map (bitB b a)) ++ [Value.int .u8 ((bitB b a p).toNat : Int)] := fun p => by
    rw [List.range_succ, List.map_append, byteCells_append]
    rfl
  go_enter Tryd.func11, Tryd.ntmps11
  go_wp2_with fail
  go_loopw [3, 4] (fun vl vi wr => ∃ i : Nat, vi = .int .i64 i ∧ i ≤ b ∧ wr.ownsRow w.heap.size 5 1 vl i (Lib.byteCells ((List.range i).map (bitB b a))) ∧ Below w.heap.size w wr) (fun _ vi _ => b - (intOf vi).toNat)
  case atStart => exact ⟨0, rfl, Nat.zero_le _, World.ownsRow_nil _ _ _ _, Below.refl _ _⟩
  case round =>
    obtain ⟨i, rfl, hi, hown, hB⟩ := hrel
    have hsz := hB.size
    by_cases hlt : i < S.length
    · have q0 : (0 : Int) ≤ (i : Int) := by omega
      have q1 : (i : Int) < (S.length : Int) := by omega
      obtain ⟨c, hc, hlc⟩ := byte_get S i hlt
      have hsn := hsnoc i
      obtain ⟨qv, cv, rfl⟩ := shapeP hown
      rcases hch i c (by omega) hlc with ⟨h1, h2⟩ | ⟨h1, h2⟩
      · have hne : ((c.toNat : Int) == 120) = false := by
          rw [h2]
          rcases bitB_cases b a i with h | h <;> rw [h] <;> decide
        rw [← h2] at hsn
        have HSN : Hid (Lib.byteCells ((List.range (i + 1)).map (bitB b a)) = Lib.byteCells ((List.range i).map (bitB b a)) ++ [Value.int .u8 (c.toNat : Int)]) := hsn
        clear h2 hch hlow hsnoc hsn
        go_wp2_with (at_builtin; refine wpList_append_own _ rfl _ _ 36 rfl w.heap.size 5 i0 _ 1 1 Tryd.underlying36 hi0 hz0 hz1 hz2 rfl (by decide) _ _ _ rfl (hown.alloc _) ⟨wr.heap.size, 0, none⟩ 1 1 [Value.int .u8 (c.toNat : Int)] rfl rfl (World.news_of_block (cs := #[.int .u8 (c.toNat : Int)]) (t := 5) (fr := (0, 0)) (alloc_get _ _)) (by simp [Value.oneCell']) (by unfold maxLen; omega) (by omega) (by simp; omega) ?_; intro v5 w5 oB hg5 _)
        have b5 : Below w.heap.size w w5 := (hB.alloc hsz _).grown hg5 (by simp; omega) (fun k e => (hown.lt k e).1)
        have o5 : w5.ownsRow w.heap.size 5 1 v5 (i + 1) (Lib.byteCells ((List.range (i + 1)).map (bitB b a))) := by rw [HSN.out]; exact oB
        clear oB hg5 hown hB
        go_roundw
        case rel => exact ⟨i + 1, by go_num, by omega, o5, b5⟩
        case measure => simp [intOf]; omega
      · have h48 := hlow i h1 (by omega)
        rw [h48] at hsn
        have HSN : Hid (Lib.byteCells ((List.range (i + 1)).map (bitB b a)) = Lib.byteCells ((List.range i).map (bitB b a)) ++ [Value.int .u8 48]) := hsn
        subst h2
        clear hch hlow hsnoc hsn h48
        go_wp2_with (at_builtin; refine wpList_append_own _ rfl _ _ 36 rfl w.heap.size 5 i0 _ 1 1 Tryd.underlying36 hi0 hz0 hz1 hz2 rfl (by decide) _ _ _ rfl (hown.alloc _) ⟨wr.heap.size, 0, none⟩ 1 1 [Value.int .u8 48] rfl rfl (World.news_of_block (cs := #[.int .u8 48]) (t := 5) (fr := (0, 0)) (alloc_get _ _)) (by simp [Value.oneCell']) (by unfold maxLen; omega) (by omega) (by simp; omega) ?_; intro v5 w5 oB hg5 _)
        have b5 : Below w.heap.size w w5 := (hB.alloc hsz _).grown hg5 (by simp; omega) (fun k e => (hown.lt k e).1)
        have o5 : w5.ownsRow w.heap.size 5 1 v5 (i + 1) (Lib.byteCells ((List.range (i + 1)).map (bitB b a))) := by rw [HSN.out]; exact oB
        clear oB hg5 hown hB
        go_roundw
        case rel => exact ⟨i + 1, by go_num, by omega, o5, b5⟩
        case measure => simp [intOf]; omega
    · have q1 : ¬ (i : Int) < (S.length : Int) := by omega
      obtain rfl : i = b := by omega
      have hcv := conv_own ((List.range i).map (bitB i a)) (by rw [List.length_map, List.length_range]; exact hown)
      obtain ⟨X, hX⟩ : ∃ X : List UInt8, (List.range i).map (bitB i a) = X := ⟨_, rfl⟩
      rw [hX] at hcv
      have HX : Hid ((List.range i).map (bitB i a) = X) := hX
      clear hown hX hch hlow hsnoc
      go_wp2_with fail
      go_ret
      exact ⟨by rw [HX.out]; rfl, hB⟩
end Go.Proofs.YtdkhdkfjadalpaaDoor
