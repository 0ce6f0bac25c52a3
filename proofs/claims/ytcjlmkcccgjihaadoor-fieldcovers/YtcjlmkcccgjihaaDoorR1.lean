import Derived.Test.YtcjlmkcccgjihaaDoorH4
import Derived.Lib.UnsafeStr
namespace Go.Proofs.YtcjlmkcccgjihaaDoor
open Go.RowKit Go.Shelf
theorem info_u8 : (Tryd.prog.info? 5).map (fun i => (i.zero, i.size, i.bytes)) = some (some (.int .u8 0), 1, 1) := by kernel_rfl
theorem byteCells_append (a b : List UInt8) : Lib.byteCells (a ++ b) = Lib.byteCells a ++ Lib.byteCells b := by simp [Lib.byteCells]
theorem conv_own {W : World} {B : Nat} {v : Value} (T : List UInt8) (h : W.ownsRow B 5 1 v T.length (Lib.byteCells T)) : Sem.run Tryd.prog (convert 41 9 v) W = .ok (.string ⟨T.toArray⟩) W := by
  rcases h.2 with ⟨rfl, h0⟩ | ⟨g, c, cur, rfl, _⟩
  · obtain rfl := List.length_eq_zero_iff.1 h0
    rw [run_convert_bytes_string W _ _ 5 _ _ _ Tryd.underlying41 Tryd.underlying5 Tryd.underlying9]
    rfl
  · exact run_convert_bytes_back W _ _ 5 ⟨g, 0, none⟩ c T Tryd.underlying41 Tryd.underlying5 Tryd.underlying9 (fun j hj => h.cells rfl _ _ (by simp [Lib.byteCells, List.getElem?_eq_getElem hj]))
set_option maxRecDepth 100000 in
theorem top_any (b : Nat) (hb : b ≤ 32) (w : World) :
    Calls Tryd.prog 18 #[.int .i64 (b : Int)] w fun e w' => e = .returned (.int .i64 ((2 ^ b - 1 : Nat) : Int)) ∧ w' = w := by
  have hp : 2 ^ b ≤ 2 ^ 32 := Nat.pow_le_pow_right (by decide) hb
  have hp0 : 0 < 2 ^ b := Nat.pow_pos (by decide)
  go_enter Tryd.func18, Tryd.ntmps18
  go_wp2_with fail
  go_ret
  refine ⟨?_, rfl⟩
  have e1 : wrap64 (2 ^ b) = ((2 ^ b : Nat) : Int) := by rw [pow_cast]; exact w64 (by omega) (by omega)
  have e2 : wrap64 (wrap64 (2 ^ b) - 1) = ((2 ^ b - 1 : Nat) : Int) := by rw [e1, w64 (by omega) (by omega)]; omega
  exact congrArg (fun z => Ending.returned (Value.int .i64 z)) e2
set_option maxRecDepth 100000 in
set_option maxHeartbeats 1000000 in
theorem xs_any (n : Nat) (hn : n ≤ 32) (w : World) :
    Calls Tryd.prog 25 #[.int .i64 (n : Int)] w fun e w' => e = .returned (.string ⟨(List.replicate n 120).toArray⟩) ∧ Below w.heap.size w w' := by
  obtain ⟨i0, hi0, hz0, hz1, hz2⟩ := info_parts info_u8
  go_enter Tryd.func25, Tryd.ntmps25
  go_wp2_with fail
  go_loopw [3, 4] (fun v vi wr => ∃ i : Nat, vi = .int .i64 i ∧ i ≤ n ∧ wr.ownsRow w.heap.size 5 1 v (List.replicate i (120 : UInt8)).length (Lib.byteCells (List.replicate i 120)) ∧ Below w.heap.size w wr) (fun _ vi _ => n - (intOf vi).toNat)
  case atStart => exact ⟨0, rfl, Nat.zero_le _, World.ownsRow_nil _ _ _ _, Below.refl _ _⟩
  case round =>
    obtain ⟨i, rfl, hi, hown, hB⟩ := hrel
    have hsz := hB.size
    by_cases hlt : i < n
    · have i1 : (i : Int) < (n : Int) := by omega
      rw [List.length_replicate] at hown
      obtain ⟨qv, cv, rfl⟩ := shapeP hown
      go_wp2_with (at_builtin; refine wpList_append_own _ rfl _ _ 41 rfl w.heap.size 5 i0 _ 1 1 Tryd.underlying41 hi0 hz0 hz1 hz2 rfl (by decide) _ _ _ rfl (hown.alloc _) ⟨wr.heap.size, 0, none⟩ 1 1 [Value.int .u8 120] rfl rfl (World.news_of_block (cs := #[.int .u8 120]) (t := 5) (fr := (0, 0)) (alloc_get _ _)) (by simp [Value.oneCell']) (by unfold maxLen; omega) (by omega) (by simp; omega) ?_; intro v5 w5 oB hg5 _)
      have b5 : Below w.heap.size w w5 := (hB.alloc hsz _).grown hg5 (by simp; omega) (fun k e => (hown.lt k e).1)
      have o5 : w5.ownsRow w.heap.size 5 1 v5 (List.replicate (i + 1) (120 : UInt8)).length (Lib.byteCells (List.replicate (i + 1) 120)) := by
        rw [List.length_replicate, List.replicate_succ', byteCells_append]
        exact oB
      clear oB hg5 hown hB
      go_roundw
      case rel => exact ⟨i + 1, by go_num, by omega, o5, b5⟩
      case measure => simp [intOf]; omega
    · have i1 : ¬ (i : Int) < (n : Int) := by omega
      obtain rfl : i = n := by omega
      have hcv := conv_own _ hown
      obtain ⟨S, hS⟩ : ∃ S : List UInt8, List.replicate i 120 = S := ⟨_, rfl⟩
      rw [hS] at hcv
      have HS : Hid (List.replicate i 120 = S) := hS
      clear hown hS
      go_wp2_with fail
      go_ret
      have hSa : S.toArray = Array.replicate i 120 := by rw [← HS.out]; simp
      exact ⟨congrArg (fun x => Ending.returned (Value.string ⟨x⟩)) hSa, hB⟩
set_option maxRecDepth 100000 in
set_option maxHeartbeats 1000000 in
theorem rdigits_any (v n : Nat) (hn : n ≤ 32) (hv : v < 8589934592) (w : World) :
    Calls Tryd.prog 24 #[.int .i64 (v : Int), .int .i64 (n : Int)] w fun e w' => e = .returned (.string ⟨((List.range n).map (bitB n v)).toArray⟩) ∧ Below w.heap.size w w' := by
  obtain ⟨i0, hi0, hz0, hz1, hz2⟩ := info_parts info_u8
  have e0 : IntKind.i64.wrap ((n : Int) - 1) = (n : Int) - 1 := by rw [IntKind.wrap_i64]; omega
  go_enter Tryd.func24, Tryd.ntmps24
  go_wp2_with fail
  go_loopw [5, 6] (fun vl vi wr => ∃ p : Nat, vi = .int .i64 ((n : Int) - 1 - (p : Int)) ∧ p ≤ n ∧ wr.ownsRow w.heap.size 5 1 vl p (Lib.byteCells ((List.range p).map (bitB n v))) ∧ Below w.heap.size w wr) (fun _ vi _ => (intOf vi + 1).toNat)
  case atStart => exact ⟨0, by simp, Nat.zero_le _, World.ownsRow_nil _ _ _ _, Below.refl _ _⟩
  case round =>
    obtain ⟨p, rfl, hp, hown, hB⟩ := hrel
    have hsz := hB.size
    by_cases hlt : p < n
    · obtain ⟨k, hk⟩ : ∃ k : Nat, n - 1 - p = k := ⟨_, rfl⟩
      have hkk : (n : Int) - 1 - (p : Int) = (k : Int) := by omega
      rw [hkk]
      have i1 : (0 : Int) ≤ (k : Int) := by omega
      have k32 : k ≤ 32 := by omega
      have hd : v / 2 ^ k ≤ v := Nat.div_le_self _ _
      have hand := and1 (v / 2 ^ k) (by omega)
      rw [← div_cast] at hand
      have hbit : bitB n v p = UInt8.ofNat (48 + v / 2 ^ k % 2) := by unfold bitB; rw [hk]
      obtain ⟨d, hdd⟩ : ∃ d, v / 2 ^ k % 2 = d := ⟨_, rfl⟩
      rw [hdd] at hand hbit
      have hd2 : d = 0 ∨ d = 1 := by omega
      have e9 : IntKind.i64.wrap ((k : Int) - 1) = (k : Int) - 1 := by rw [IntKind.wrap_i64]; omega
      obtain ⟨qv, cv, rfl⟩ := shapeP hown
      have hsnoc : ∀ c : UInt8, bitB n v p = c → Lib.byteCells ((List.range (p + 1)).map (bitB n v)) = Lib.byteCells ((List.range p).map (bitB n v)) ++ [Value.int .u8 (c.toNat : Int)] := fun c hc => by
        rw [List.range_succ, List.map_append, byteCells_append]
        show _ ++ [Value.int .u8 ((bitB n v p).toNat : Int)] = _
        rw [hc]
      have HK : Hid ((n : Int) - 1 - (p : Int) = (k : Int)) := hkk
      clear hdd hd hkk
      rcases hd2 with rfl | rfl
      · have hs0 := hsnoc 48 hbit
        clear hsnoc hbit
        go_wp2_with (at_builtin; refine wpList_append_own _ rfl _ _ 41 rfl w.heap.size 5 i0 _ 1 1 Tryd.underlying41 hi0 hz0 hz1 hz2 rfl (by decide) _ _ _ rfl (hown.alloc _) ⟨wr.heap.size, 0, none⟩ 1 1 [Value.int .u8 48] rfl rfl (World.news_of_block (cs := #[.int .u8 48]) (t := 5) (fr := (0, 0)) (alloc_get _ _)) (by simp [Value.oneCell']) (by unfold maxLen; omega) (by omega) (by simp; omega) ?_; intro v5 w5 oB hg5 _)
        have b5 : Below w.heap.size w w5 := (hB.alloc hsz _).grown hg5 (by simp; omega) (fun k e => (hown.lt k e).1)
        have o5 : w5.ownsRow w.heap.size 5 1 v5 (p + 1) (Lib.byteCells ((List.range (p + 1)).map (bitB n v))) := by rw [hs0]; exact oB
        clear oB hg5 hown hB hs0 hand
        go_roundw
        case rel => exact ⟨p + 1, by have := HK.out; go_num, by omega, o5, b5⟩
        case measure => simp [intOf]
      · have hs0 := hsnoc 49 hbit
        clear hsnoc hbit
        go_wp2_with (at_builtin; refine wpList_append_own _ rfl _ _ 41 rfl w.heap.size 5 i0 _ 1 1 Tryd.underlying41 hi0 hz0 hz1 hz2 rfl (by decide) _ _ _ rfl (hown.alloc _) ⟨wr.heap.size, 0, none⟩ 1 1 [Value.int .u8 49] rfl rfl (World.news_of_block (cs := #[.int .u8 49]) (t := 5) (fr := (0, 0)) (alloc_get _ _)) (by simp [Value.oneCell']) (by unfold maxLen; omega) (by omega) (by simp; omega) ?_; intro v5 w5 oB hg5 _)
        have b5 : Below w.heap.size w w5 := (hB.alloc hsz _).grown hg5 (by simp; omega) (fun k e => (hown.lt k e).1)
        have o5 : w5.ownsRow w.heap.size 5 1 v5 (p + 1) (Lib.byteCells ((List.range (p + 1)).map (bitB n v))) := by rw [hs0]; exact oB
        clear oB hg5 hown hB hs0 hand
        go_roundw
        case rel => exact ⟨p + 1, by have := HK.out; go_num, by omega, o5, b5⟩
        case measure => simp [intOf]
    · obtain rfl : p = n := by omega
      have hkk : (p : Int) - 1 - (p : Int) = -1 := by omega
      rw [hkk]
      have hcv := conv_own ((List.range p).map (bitB p v)) (by rw [List.length_map, List.length_range]; exact hown)
      obtain ⟨S, hS⟩ : ∃ S : List UInt8, (List.range p).map (bitB p v) = S := ⟨_, rfl⟩
      rw [hS] at hcv
      have HS : Hid ((List.range p).map (bitB p v) = S) := hS
      clear hown hS
      go_wp2_with fail
      go_ret
      exact ⟨by rw [HS.out]; rfl, hB⟩
end Go.Proofs.YtcjlmkcccgjihaaDoor
