import Derived.Test.YtdkhdkfjadalpaaDoorRA
namespace Go.Proofs.YtdkhdkfjadalpaaDoor
open Go.RowKit Go.Shelf
set_option maxRecDepth 100000 in
theorem near_any (n : Int) (m : Nat) (hm : 1 ≤ m) (hm2 : m ≤ 8589934592) (w : World) :
    Calls Tryd.prog 4 #[.int .i64 n, .int .i64 (m : Int)] w fun e w' => e = .returned (.int .i64 (n % (m : Int))) ∧ w' = w := by
  have hz : ((m : Int) == 0) = false := by rw [beq_eq_false_iff_ne]; omega
  have h1 := Int.tmod_eq_emod (a := n) (b := (m : Int))
  have hb0 := Int.emod_nonneg n (show (m : Int) ≠ 0 by omega)
  have hb1 := Int.emod_lt_of_pos n (show (0 : Int) < (m : Int) by omega)
  by_cases hc : 0 ≤ n ∨ (m : Int) ∣ n
  · rw [if_pos hc] at h1
    have h2 : n.tmod (m : Int) = n % (m : Int) := by simpa using h1
    obtain ⟨r, hr⟩ : ∃ r, n % (m : Int) = r := ⟨_, rfl⟩
    rw [hr] at h2 hb0 hb1 ⊢
    have hn : ¬ r < 0 := by omega
    clear h1 hc hr
    go_enter Tryd.func4, Tryd.ntmps4
    go_wp2_with fail
    go_ret
    exact ⟨rfl, rfl⟩
  · rw [if_neg hc] at h1
    have h2 : n.tmod (m : Int) = n % (m : Int) - (m : Int) := by simpa using h1
    obtain ⟨r, hr⟩ : ∃ r, n % (m : Int) = r := ⟨_, rfl⟩
    rw [hr] at h2 hb0 hb1 ⊢
    have hn : r - (m : Int) < 0 := by omega
    have e1 : IntKind.i64.wrap (r - (m : Int) + (m : Int)) = r := by rw [IntKind.wrap_i64]; omega
    have hw := w64 (x := r) (by omega) (by omega)
    clear h1 hc hr
    go_enter Tryd.func4, Tryd.ntmps4
    go_wp2_with fail
    go_ret
    exact ⟨by first | rfl | exact congrArg (fun z => Ending.returned (Value.int .i64 z)) hw, rfl⟩
set_option maxRecDepth 100000 in
set_option maxHeartbeats 1000000 in
theorem bitsOf_any (v n : Nat) (hn : n ≤ 32) (hv : v < 8589934592) (w : World) :
    Calls Tryd.prog 9 #[.int .i64 (v : Int), .int .i64 (n : Int)] w fun e w' => e = .returned (.string ⟨((List.range n).map (bitB n v)).toArray⟩) ∧ Below w.heap.size w w' := by
  obtain ⟨i0, hi0, hz0, hz1, hz2⟩ := info_parts info_u8
  have e0 : IntKind.i64.wrap ((n : Int) - 1) = (n : Int) - 1 := by rw [IntKind.wrap_i64]; omega
  go_enter Tryd.func9, Tryd.ntmps9
  go_wp2_with fail
  go_loopw [5, 6] (fun vl vi wr => ∃ p : Nat, vi = .int .i64 ((n : Int) - 1 - (p : Int)) ∧ p ≤ n ∧ wr.ownsRow w.heap.size 5 1 vl p (Lib.byteCells ((List.range p).map (bitB n v))) ∧ Below w.heap.size w wr) (fun _ vi _ => (intOf vi + 1).toNat)
  case atStart => exact ⟨0, by simp, Nat.zero_le _, World.ownsRow_nil _ _ _ _, Below.refl _ _⟩
  case round =>
    obtain ⟨p, rfl, hp, hown, hB⟩ := hrel
    have hsz := hB.size
    by_cases hlt : p < n
    · obtain ⟨k, hk⟩ : ∃ k : Nat, n - 1 - p = k := ⟨_, rfl⟩
      have hkk : (n : Int) - 1 - (p : Int) = (k : Int) := by omega
      rw [hkk]
      have i1 : (0 : Int) ≤ (k : Int) := by omega
      have k32 : k ≤ 32 := by omega
      have hd : v / 2 ^ k ≤ v := Nat.div_le_self _ _
      have hand := and1 (v / 2 ^ k) (by omega)
      rw [← div_cast] at hand
      have hbit : bitB n v p = UInt8.ofNat (48 + v / 2 ^ k % 2) := by unfold bitB; rw [hk]
      obtain ⟨d, hdd⟩ : ∃ d, v / 2 ^ k % 2 = d := ⟨_, rfl⟩
      rw [hdd] at hand hbit
      have hd2 : d < 2 := by omega
      have e9 : IntKind.i64.wrap ((k : Int) - 1) = (k : Int) - 1 := by rw [IntKind.wrap_i64]; omega
      have ec : ((48 + d : Nat) : Int) = ((bitB n v p).toNat : Int) := by rw [hbit, UInt8.toNat_ofNat']; omega
      have e10 : IntKind.i64.wrap (48 + (d : Int)) = 48 + (d : Int) := by rw [IntKind.wrap_i64]; omega
      have e11 : IntKind.u8.wrap (48 + (d : Int)) = 48 + (d : Int) := by rw [IntKind.wrap_u8]; omega
      have e12 : (48 + (d : Int)) % 256 = 48 + (d : Int) := by omega
      obtain ⟨qv, cv, rfl⟩ := shapeP hown
      have hsnoc : Lib.byteCells ((List.range (p + 1)).map (bitB n v)) = Lib.byteCells ((List.range p).map (bitB n v)) ++ [Value.int .u8 (48 + (d : Int))] := by
        rw [List.range_succ, List.map_append, byteCells_append]
        show _ ++ [Value.int .u8 ((bitB n v p).toNat : Int)] = _
        rw [← ec]
        rfl
      have HK : Hid ((n : Int) - 1 - (p : Int) = (k : Int)) := hkk
      have HSN : Hid (Lib.byteCells ((List.range (p + 1)).map (bitB n v)) = Lib.byteCells ((List.range p).map (bitB n v)) ++ [Value.int .u8 (48 + (d : Int))]) := hsnoc
      clear hdd hd hkk hsnoc hbit ec
      go_wp2_with (at_builtin; refine wpList_append_own _ rfl _ _ 36 rfl w.heap.size 5 i0 _ 1 1 Tryd.underlying36 hi0 hz0 hz1 hz2 rfl (by decide) _ _ _ rfl (hown.alloc _) ⟨wr.heap.size, 0, none⟩ 1 1 [Value.int .u8 (48 + (d : Int))] rfl rfl (World.news_of_block (cs := #[.int .u8 (48 + (d : Int))]) (t := 5) (fr := (0, 0)) (alloc_get _ _)) (by simp [Value.oneCell']) (by unfold maxLen; omega) (by omega) (by simp; omega) ?_; intro v5 w5 oB hg5 _)
      have b5 : Below w.heap.size w w5 := (hB.alloc hsz _).grown hg5 (by simp; omega) (fun k e => (hown.lt k e).1)
      have o5 : w5.ownsRow w.heap.size 5 1 v5 (p + 1) (Lib.byteCells ((List.range (p + 1)).map (bitB n v))) := by rw [HSN.out]; exact oB
      clear oB hg5 hown hB hand
      go_roundw
      case rel => exact ⟨p + 1, by have := HK.out; go_num, by omega, o5, b5⟩
      case measure => simp [intOf]
    · obtain rfl : p = n := by omega
      have hkk : (p : Int) - 1 - (p : Int) = -1 := by omega
      rw [hkk]
      have hcv := conv_own ((List.range p).map (bitB p v)) (by rw [List.length_map, List.length_range]; exact hown)
      obtain ⟨S, hS⟩ : ∃ S : List UInt8, (List.range p).map (bitB p v) = S := ⟨_, rfl⟩
      rw [hS] at hcv
      have HS : Hid ((List.range p).map (bitB p v) = S) := hS
      clear hown hS
      go_wp2_with fail
      go_ret
      exact ⟨by rw [HS.out]; rfl, hB⟩
end Go.Proofs.YtdkhdkfjadalpaaDoor
