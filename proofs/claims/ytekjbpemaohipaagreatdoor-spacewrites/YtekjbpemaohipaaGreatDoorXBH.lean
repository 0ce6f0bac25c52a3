import Derived.Test.YtekjbpemaohipaaGreatDoorXBG
import Derived.Test.YtekjbpemaohipaaGreatDoorXAX
namespace Go.Proofs.YtekjbpemaohipaaGreatDoor
open Go.RowKit Go.Shelf
/-- digit j of the k-th header of width b -/
def bitc (b k j : Nat) : UInt8 := if k / 2 ^ (b - 1 - j) % 2 = 1 then 49 else 48
/-- the k-th header of width b -/
def hdT (b k : Nat) : List UInt8 := (List.range b).map (bitc b k)
/-- the first k headers of width b -/
def hdL (b k : Nat) : List (List UInt8) := (List.range k).map (hdT b)
theorem hdT_len (b k : Nat) : (hdT b k).length = b := by simp [hdT]
theorem hdL_len (b k : Nat) : (hdL b k).length = k := by simp [hdL]
theorem hdL_succ (b k : Nat) : hdL b (k + 1) = hdL b k ++ [hdT b k] := by simp [hdL, List.range_succ]
theorem hdT_of {b k : Nat} {T : List UInt8} (hl : T.length = b) (h : ∀ i, i < b → T[i]? = some (bitc b k i)) : T = hdT b k := by
  apply List.ext_getElem?
  intro i
  by_cases hi : i < b
  · rw [h i hi]
    simp [hdT, hi]
  · rw [List.getElem?_eq_none (by omega), List.getElem?_eq_none (by rw [hdT_len]; omega)]
/-- what headers answers of a small width -/
def HDX (b : Nat) (w : World) (e : Ending) (w' : World) : Prop := ∃ p c, e = .returned (.slice p (2 ^ b) c) ∧ w'.ownsRow w.heap.size 9 1 (.slice p (2 ^ b) c) (2 ^ b) (stx (hdL b (2 ^ b))) ∧ Below w.heap.size w w'
theorem hbit1 : ∀ k : Nat, k < 2 → ∀ j : Nat, j < 1 → (wrap64 (48 + bits BinOp.and IntKind.i64 (k : Int) 1) % 256) = ((bitc 1 k j).toNat : Int) := by decide +kernel
set_option maxRecDepth 100000 in
set_option maxHeartbeats 8000000 in
theorem hdx1 (q : Option Addr) (len cap : Nat) (w : World) : Calls Tryz.prog 10 #[.int .i64 1, .slice q len cap] w fun e w' => HDX 1 w e w' := by
  obtain ⟨iS, hiS, hzS0, hzS1, hzS2⟩ := info_parts info_str2
  obtain ⟨i0, hi, hz0, hz1, hz2⟩ := info_parts info_u8
  go_enter Tryz.func10, Tryz.ntmps10
  go_wp2_with fail
  go_loopw [5, 6] (fun v5 v6 wr => ∃ (k : Nat), v6 = .int .i64 (k : Int) ∧ k ≤ 2 ∧ Hid (wr.ownsRow w.heap.size 9 1 v5 k (stx (hdL 1 k)) ∧ Below w.heap.size w wr)) (fun _ v6 _ => 2 - (intOf v6).toNat)
  case atStart => exact ⟨0, rfl, Nat.zero_le _, World.ownsRow_nil _ _ _ _, Below.refl _ _⟩
  case round =>
    obtain ⟨k, rfl, hk, HI⟩ := hrel
    by_cases hlt : k < 2
    · have j1 : (k : Int) < 2 := by omega
      obtain ⟨wo, rfl⟩ : ∃ wo, wo = wr := ⟨wr, rfl⟩
      go_wp2_with (at_make; refine wpList_make_full _ rfl _ _ 70 rfl wo.heap.size 5 i0 (.int .u8 0) 1 Tryz.underlying70 hi hz0 hz1 .i64 .i64 _ _ 1 rfl rfl rfl rfl (by rw [hz2]; omega) (by unfold maxLen; omega) (Nat.le_refl _) ?_; intro w1 hown hgrow)
      have hB1 : Below wo.heap.size wo w1 := (Below.refl _ _).grown hgrow (Nat.le_refl _) (fun k h => by cases h)
      have HS0 : Hid (∃ T : List UInt8, T.length = 1 ∧ (∀ i, i < 0 → T[i]? = some (bitc 1 k i)) ∧ w1.ownsRow wo.heap.size 5 1 (.slice (some ⟨wo.heap.size, 0, none⟩) 1 1) 1 (bys T) ∧ Below wo.heap.size wo w1) := by
        refine ⟨List.replicate 1 0, by simp, (fun i hi => by omega), ?_, hB1⟩
        rw [bys_zero]
        have h1 : (madeCells (Value.int IntKind.u8 0).cells (1 * 1)).toList = List.replicate 1 (.int .u8 0) := toList_madeCells_one _ _
        rw [h1] at hown
        exact hown
      clear hown hgrow hB1
      go_loopw [8] (fun v8 ws => ∃ j : Nat, v8 = .int .i64 (j : Int) ∧ j ≤ 1 ∧ Hid (∃ T : List UInt8, T.length = 1 ∧ (∀ i, i < j → T[i]? = some (bitc 1 k i)) ∧ ws.ownsRow wo.heap.size 5 1 (.slice (some ⟨wo.heap.size, 0, none⟩) 1 1) 1 (bys T) ∧ Below wo.heap.size wo ws)) (fun v8 _ => 1 - (intOf v8).toNat)
      case atStart => exact ⟨0, rfl, Nat.zero_le _, HS0⟩
      case round =>
        clear HS0
        obtain ⟨j, rfl, hj, HT⟩ := hrel
        obtain ⟨T, hT, hTi, ho, hB⟩ := HT.out
        by_cases hltj : j < 1
        · have r1 : (j : Int) < 1 := by omega
          have r0 : (0 : Int) ≤ (j : Int) := by omega
          have r2 : (0 : Int) ≤ 0 - (j : Int) := by omega
          have r3 : ¬ (0 - (j : Int)) < 0 := by omega
          obtain ⟨cv, hc⟩ : ∃ v, wr.cell? ⟨wo.heap.size, j, none⟩ = some v := by
            have h := ho.cellAt j (by omega)
            refine ⟨.int .u8 ((T[j]'(by omega)).toNat : Int), ?_⟩
            rw [h]
            simp [bys, List.getElem?_eq_getElem (show j < T.length by omega)]
          have hf := ho.frozenAt j
          have HST : Hid (∀ z : Int, z = ((bitc 1 k j).toNat : Int) → ∃ T : List UInt8, T.length = 1 ∧ (∀ i, i < j + 1 → T[i]? = some (bitc 1 k i)) ∧ (wr.setCell ⟨wo.heap.size, j, none⟩ (.int .u8 z)).ownsRow wo.heap.size 5 1 (.slice (some ⟨wo.heap.size, 0, none⟩) 1 1) 1 (bys T) ∧ Below wo.heap.size wo (wr.setCell ⟨wo.heap.size, j, none⟩ (.int .u8 z))) := fun z hz => by
            subst hz
            refine ⟨T.set j (bitc 1 k j), by rw [List.length_set]; exact hT, fun i hi => ?_, ?_, hB.setCell (Nat.le_refl _) _⟩
            · by_cases e : i = j
              · subst e
                rw [List.getElem?_set_self (by omega)]
              · rw [List.getElem?_set_ne (by omega)]
                exact hTi i (by omega)
            · have h := (ho.stored j (.int .u8 ((bitc 1 k j).toNat : Int))).1
              have e : bys (T.set j (bitc 1 k j)) = (bys T).set j (.int .u8 ((bitc 1 k j).toNat : Int)) := by
                unfold bys
                rw [List.map_set]
              rw [e]
              exact h
          clear HT hT ho hB hTi
          go_wp2_with fail
          go_roundw
          case rel => exact ⟨j + 1, by go_num, by omega, HST.out _ (hbit1 k hlt j hltj)⟩
          case measure => simp [intOf]; omega
        · have r1 : ¬ (j : Int) < 1 := by omega
          obtain rfl : T = hdT 1 k := hdT_of hT (fun i hi => hTi i (by omega))
          have hcv := conv_owned wr wo.heap.size wo.heap.size 1 (hdT 1 k) (by rw [hT]; exact ho)
          rw [hT] at hcv
          obtain ⟨hoD, hBD⟩ := HI.out
          have o5 := own_belQ hoD hB
          have hBw := bel0 hBD hB
          have hsw := hBw.size
          obtain ⟨T2, hT2⟩ : ∃ T2, hdT 1 k = T2 := ⟨_, rfl⟩
          rw [hT2] at hcv
          clear HT hT ho hB hTi hoD hBD HI
          go_wp2_with (at_builtin; refine wpList_append_own _ rfl _ _ 22 rfl w.heap.size 9 iS _ 1 16 Tryz.underlying22 hiS hzS0 hzS1 hzS2 rfl (by decide) _ _ _ rfl (o5.alloc _) ⟨_, 0, none⟩ 1 1 [.string ⟨T2.toArray⟩] rfl rfl (World.news_of_block (cs := #[.string ⟨T2.toArray⟩]) (t := 9) (fr := (0, 0)) (alloc_get _ _)) (by simp [Value.oneCell']) (by unfold maxLen; omega) (by omega) (by simp; omega) ?_; intro v9 w9 o9 g9 _)
          have HX : Hid (w9.ownsRow w.heap.size 9 1 v9 (k + 1) (stx (hdL 1 (k + 1))) ∧ Below w.heap.size w w9) := by
            refine ⟨?_, (belA hBw _).grown g9 (by simp; omega) (fun b e => (o5.lt b e).1)⟩
            have e5 : stx (hdL 1 (k + 1)) = stx (hdL 1 k) ++ [.string ⟨T2.toArray⟩] := by rw [hdL_succ, hT2]; simp [stx]
            rw [e5]
            exact o9
          clear o5 o9 g9 hBw hcv hT2
          go_wp2_with fail
          go_roundw
          case rel => exact ⟨k + 1, by go_num, by omega, HX⟩
          case measure => simp [intOf]; omega
    · have j1 : ¬ (k : Int) < 2 := by omega
      obtain rfl : k = 2 := by omega
      obtain ⟨hoD, hBD⟩ := HI.out
      obtain ⟨p, c, rfl⟩ := shapeQ1 hoD
      have HR : Hid (wr.ownsRow w.heap.size 9 1 (.slice p 2 c) 2 (stx (hdL 1 2)) ∧ Below w.heap.size w wr) := ⟨hoD, hBD⟩
      clear HI hoD hBD
      go_wp2_with fail
      go_ret
      exact ⟨p, c, rfl, HR.out.1, HR.out.2⟩
theorem hbit2 : ∀ k : Nat, k < 4 → ∀ j : Nat, j < 2 → (wrap64 (48 + bits BinOp.and IntKind.i64 ((k : Int) / 2 ^ (1 - j)) 1) % 256) = ((bitc 2 k j).toNat : Int) := by decide +kernel
set_option maxRecDepth 100000 in
set_option maxHeartbeats 8000000 in
theorem hdx2 (q : Option Addr) (len cap : Nat) (w : World) : Calls Tryz.prog 10 #[.int .i64 2, .slice q len cap] w fun e w' => HDX 2 w e w' := by
  obtain ⟨iS, hiS, hzS0, hzS1, hzS2⟩ := info_parts info_str2
  obtain ⟨i0, hi, hz0, hz1, hz2⟩ := info_parts info_u8
  go_enter Tryz.func10, Tryz.ntmps10
  go_wp2_with fail
  go_loopw [5, 6] (fun v5 v6 wr => ∃ (k : Nat), v6 = .int .i64 (k : Int) ∧ k ≤ 4 ∧ Hid (wr.ownsRow w.heap.size 9 1 v5 k (stx (hdL 2 k)) ∧ Below w.heap.size w wr)) (fun _ v6 _ => 4 - (intOf v6).toNat)
  case atStart => exact ⟨0, rfl, Nat.zero_le _, World.ownsRow_nil _ _ _ _, Below.refl _ _⟩
  case round =>
    obtain ⟨k, rfl, hk, HI⟩ := hrel
    by_cases hlt : k < 4
    · have j1 : (k : Int) < 4 := by omega
      obtain ⟨wo, rfl⟩ : ∃ wo, wo = wr := ⟨wr, rfl⟩
      go_wp2_with (at_make; refine wpList_make_full _ rfl _ _ 70 rfl wo.heap.size 5 i0 (.int .u8 0) 1 Tryz.underlying70 hi hz0 hz1 .i64 .i64 _ _ 2 rfl rfl rfl rfl (by rw [hz2]; omega) (by unfold maxLen; omega) (Nat.le_refl _) ?_; intro w1 hown hgrow)
      have hB1 : Below wo.heap.size wo w1 := (Below.refl _ _).grown hgrow (Nat.le_refl _) (fun k h => by cases h)
      have HS0 : Hid (∃ T : List UInt8, T.length = 2 ∧ (∀ i, i < 0 → T[i]? = some (bitc 2 k i)) ∧ w1.ownsRow wo.heap.size 5 1 (.slice (some ⟨wo.heap.size, 0, none⟩) 2 2) 2 (bys T) ∧ Below wo.heap.size wo w1) := by
        refine ⟨List.replicate 2 0, by simp, (fun i hi => by omega), ?_, hB1⟩
        rw [bys_zero]
        have h1 : (madeCells (Value.int IntKind.u8 0).cells (2 * 1)).toList = List.replicate 2 (.int .u8 0) := toList_madeCells_one _ _
        rw [h1] at hown
        exact hown
      clear hown hgrow hB1
      go_loopw [8] (fun v8 ws => ∃ j : Nat, v8 = .int .i64 (j : Int) ∧ j ≤ 2 ∧ Hid (∃ T : List UInt8, T.length = 2 ∧ (∀ i, i < j → T[i]? = some (bitc 2 k i)) ∧ ws.ownsRow wo.heap.size 5 1 (.slice (some ⟨wo.heap.size, 0, none⟩) 2 2) 2 (bys T) ∧ Below wo.heap.size wo ws)) (fun v8 _ => 2 - (intOf v8).toNat)
      case atStart => exact ⟨0, rfl, Nat.zero_le _, HS0⟩
      case round =>
        clear HS0
        obtain ⟨j, rfl, hj, HT⟩ := hrel
        obtain ⟨T, hT, hTi, ho, hB⟩ := HT.out
        by_cases hltj : j < 2
        · have r1 : (j : Int) < 2 := by omega
          have r0 : (0 : Int) ≤ (j : Int) := by omega
          have r2 : (0 : Int) ≤ 1 - (j : Int) := by omega
          have r3 : ¬ (1 - (j : Int)) < 0 := by omega
          obtain ⟨cv, hc⟩ : ∃ v, wr.cell? ⟨wo.heap.size, j, none⟩ = some v := by
            have h := ho.cellAt j (by omega)
            refine ⟨.int .u8 ((T[j]'(by omega)).toNat : Int), ?_⟩
            rw [h]
            simp [bys, List.getElem?_eq_getElem (show j < T.length by omega)]
          have hf := ho.frozenAt j
          have HST : Hid (∀ z : Int, z = ((bitc 2 k j).toNat : Int) → ∃ T : List UInt8, T.length = 2 ∧ (∀ i, i < j + 1 → T[i]? = some (bitc 2 k i)) ∧ (wr.setCell ⟨wo.heap.size, j, none⟩ (.int .u8 z)).ownsRow wo.heap.size 5 1 (.slice (some ⟨wo.heap.size, 0, none⟩) 2 2) 2 (bys T) ∧ Below wo.heap.size wo (wr.setCell ⟨wo.heap.size, j, none⟩ (.int .u8 z))) := fun z hz => by
            subst hz
            refine ⟨T.set j (bitc 2 k j), by rw [List.length_set]; exact hT, fun i hi => ?_, ?_, hB.setCell (Nat.le_refl _) _⟩
            · by_cases e : i = j
              · subst e
                rw [List.getElem?_set_self (by omega)]
              · rw [List.getElem?_set_ne (by omega)]
                exact hTi i (by omega)
            · have h := (ho.stored j (.int .u8 ((bitc 2 k j).toNat : Int))).1
              have e : bys (T.set j (bitc 2 k j)) = (bys T).set j (.int .u8 ((bitc 2 k j).toNat : Int)) := by
                unfold bys
                rw [List.map_set]
              rw [e]
              exact h
          clear HT hT ho hB hTi
          go_wp2_with fail
          go_roundw
          case rel => exact ⟨j + 1, by go_num, by omega, HST.out _ (hbit2 k hlt j hltj)⟩
          case measure => simp [intOf]; omega
        · have r1 : ¬ (j : Int) < 2 := by omega
          obtain rfl : T = hdT 2 k := hdT_of hT (fun i hi => hTi i (by omega))
          have hcv := conv_owned wr wo.heap.size wo.heap.size 2 (hdT 2 k) (by rw [hT]; exact ho)
          rw [hT] at hcv
          obtain ⟨hoD, hBD⟩ := HI.out
          have o5 := own_belQ hoD hB
          have hBw := bel0 hBD hB
          have hsw := hBw.size
          obtain ⟨T2, hT2⟩ : ∃ T2, hdT 2 k = T2 := ⟨_, rfl⟩
          rw [hT2] at hcv
          clear HT hT ho hB hTi hoD hBD HI
          go_wp2_with (at_builtin; refine wpList_append_own _ rfl _ _ 22 rfl w.heap.size 9 iS _ 1 16 Tryz.underlying22 hiS hzS0 hzS1 hzS2 rfl (by decide) _ _ _ rfl (o5.alloc _) ⟨_, 0, none⟩ 1 1 [.string ⟨T2.toArray⟩] rfl rfl (World.news_of_block (cs := #[.string ⟨T2.toArray⟩]) (t := 9) (fr := (0, 0)) (alloc_get _ _)) (by simp [Value.oneCell']) (by unfold maxLen; omega) (by omega) (by simp; omega) ?_; intro v9 w9 o9 g9 _)
          have HX : Hid (w9.ownsRow w.heap.size 9 1 v9 (k + 1) (stx (hdL 2 (k + 1))) ∧ Below w.heap.size w w9) := by
            refine ⟨?_, (belA hBw _).grown g9 (by simp; omega) (fun b e => (o5.lt b e).1)⟩
            have e5 : stx (hdL 2 (k + 1)) = stx (hdL 2 k) ++ [.string ⟨T2.toArray⟩] := by rw [hdL_succ, hT2]; simp [stx]
            rw [e5]
            exact o9
          clear o5 o9 g9 hBw hcv hT2
          go_wp2_with fail
          go_roundw
          case rel => exact ⟨k + 1, by go_num, by omega, HX⟩
          case measure => simp [intOf]; omega
    · have j1 : ¬ (k : Int) < 4 := by omega
      obtain rfl : k = 4 := by omega
      obtain ⟨hoD, hBD⟩ := HI.out
      obtain ⟨p, c, rfl⟩ := shapeQ1 hoD
      have HR : Hid (wr.ownsRow w.heap.size 9 1 (.slice p 4 c) 4 (stx (hdL 2 4)) ∧ Below w.heap.size w wr) := ⟨hoD, hBD⟩
      clear HI hoD hBD
      go_wp2_with fail
      go_ret
      exact ⟨p, c, rfl, HR.out.1, HR.out.2⟩
theorem hbit3 : ∀ k : Nat, k < 8 → ∀ j : Nat, j < 3 → (wrap64 (48 + bits BinOp.and IntKind.i64 ((k : Int) / 2 ^ (2 - j)) 1) % 256) = ((bitc 3 k j).toNat : Int) := by decide +kernel
set_option maxRecDepth 100000 in
set_option maxHeartbeats 8000000 in
theorem hdx3 (q : Option Addr) (len cap : Nat) (w : World) : Calls Tryz.prog 10 #[.int .i64 3, .slice q len cap] w fun e w' => HDX 3 w e w' := by
  obtain ⟨iS, hiS, hzS0, hzS1, hzS2⟩ := info_parts info_str2
  obtain ⟨i0, hi, hz0, hz1, hz2⟩ := info_parts info_u8
  go_enter Tryz.func10, Tryz.ntmps10
  go_wp2_with fail
  go_loopw [5, 6] (fun v5 v6 wr => ∃ (k : Nat), v6 = .int .i64 (k : Int) ∧ k ≤ 8 ∧ Hid (wr.ownsRow w.heap.size 9 1 v5 k (stx (hdL 3 k)) ∧ Below w.heap.size w wr)) (fun _ v6 _ => 8 - (intOf v6).toNat)
  case atStart => exact ⟨0, rfl, Nat.zero_le _, World.ownsRow_nil _ _ _ _, Below.refl _ _⟩
  case round =>
    obtain ⟨k, rfl, hk, HI⟩ := hrel
    by_cases hlt : k < 8
    · have j1 : (k : Int) < 8 := by omega
      obtain ⟨wo, rfl⟩ : ∃ wo, wo = wr := ⟨wr, rfl⟩
      go_wp2_with (at_make; refine wpList_make_full _ rfl _ _ 70 rfl wo.heap.size 5 i0 (.int .u8 0) 1 Tryz.underlying70 hi hz0 hz1 .i64 .i64 _ _ 3 rfl rfl rfl rfl (by rw [hz2]; omega) (by unfold maxLen; omega) (Nat.le_refl _) ?_; intro w1 hown hgrow)
      have hB1 : Below wo.heap.size wo w1 := (Below.refl _ _).grown hgrow (Nat.le_refl _) (fun k h => by cases h)
      have HS0 : Hid (∃ T : List UInt8, T.length = 3 ∧ (∀ i, i < 0 → T[i]? = some (bitc 3 k i)) ∧ w1.ownsRow wo.heap.size 5 1 (.slice (some ⟨wo.heap.size, 0, none⟩) 3 3) 3 (bys T) ∧ Below wo.heap.size wo w1) := by
        refine ⟨List.replicate 3 0, by simp, (fun i hi => by omega), ?_, hB1⟩
        rw [bys_zero]
        have h1 : (madeCells (Value.int IntKind.u8 0).cells (3 * 1)).toList = List.replicate 3 (.int .u8 0) := toList_madeCells_one _ _
        rw [h1] at hown
        exact hown
      clear hown hgrow hB1
      go_loopw [8] (fun v8 ws => ∃ j : Nat, v8 = .int .i64 (j : Int) ∧ j ≤ 3 ∧ Hid (∃ T : List UInt8, T.length = 3 ∧ (∀ i, i < j → T[i]? = some (bitc 3 k i)) ∧ ws.ownsRow wo.heap.size 5 1 (.slice (some ⟨wo.heap.size, 0, none⟩) 3 3) 3 (bys T) ∧ Below wo.heap.size wo ws)) (fun v8 _ => 3 - (intOf v8).toNat)
      case atStart => exact ⟨0, rfl, Nat.zero_le _, HS0⟩
      case round =>
        clear HS0
        obtain ⟨j, rfl, hj, HT⟩ := hrel
        obtain ⟨T, hT, hTi, ho, hB⟩ := HT.out
        by_cases hltj : j < 3
        · have r1 : (j : Int) < 3 := by omega
          have r0 : (0 : Int) ≤ (j : Int) := by omega
          have r2 : (0 : Int) ≤ 2 - (j : Int) := by omega
          have r3 : ¬ (2 - (j : Int)) < 0 := by omega
          obtain ⟨cv, hc⟩ : ∃ v, wr.cell? ⟨wo.heap.size, j, none⟩ = some v := by
            have h := ho.cellAt j (by omega)
            refine ⟨.int .u8 ((T[j]'(by omega)).toNat : Int), ?_⟩
            rw [h]
            simp [bys, List.getElem?_eq_getElem (show j < T.length by omega)]
          have hf := ho.frozenAt j
          have HST : Hid (∀ z : Int, z = ((bitc 3 k j).toNat : Int) → ∃ T : List UInt8, T.length = 3 ∧ (∀ i, i < j + 1 → T[i]? = some (bitc 3 k i)) ∧ (wr.setCell ⟨wo.heap.size, j, none⟩ (.int .u8 z)).ownsRow wo.heap.size 5 1 (.slice (some ⟨wo.heap.size, 0, none⟩) 3 3) 3 (bys T) ∧ Below wo.heap.size wo (wr.setCell ⟨wo.heap.size, j, none⟩ (.int .u8 z))) := fun z hz => by
            subst hz
            refine ⟨T.set j (bitc 3 k j), by rw [List.length_set]; exact hT, fun i hi => ?_, ?_, hB.setCell (Nat.le_refl _) _⟩
            · by_cases e : i = j
              · subst e
                rw [List.getElem?_set_self (by omega)]
              · rw [List.getElem?_set_ne (by omega)]
                exact hTi i (by omega)
            · have h := (ho.stored j (.int .u8 ((bitc 3 k j).toNat : Int))).1
              have e : bys (T.set j (bitc 3 k j)) = (bys T).set j (.int .u8 ((bitc 3 k j).toNat : Int)) := by
                unfold bys
                rw [List.map_set]
              rw [e]
              exact h
          clear HT hT ho hB hTi
          go_wp2_with fail
          go_roundw
          case rel => exact ⟨j + 1, by go_num, by omega, HST.out _ (hbit3 k hlt j hltj)⟩
          case measure => simp [intOf]; omega
        · have r1 : ¬ (j : Int) < 3 := by omega
          obtain rfl : T = hdT 3 k := hdT_of hT (fun i hi => hTi i (by omega))
          have hcv := conv_owned wr wo.heap.size wo.heap.size 3 (hdT 3 k) (by rw [hT]; exact ho)
          rw [hT] at hcv
          obtain ⟨hoD, hBD⟩ := HI.out
          have o5 := own_belQ hoD hB
          have hBw := bel0 hBD hB
          have hsw := hBw.size
          obtain ⟨T2, hT2⟩ : ∃ T2, hdT 3 k = T2 := ⟨_, rfl⟩
          rw [hT2] at hcv
          clear HT hT ho hB hTi hoD hBD HI
          go_wp2_with (at_builtin; refine wpList_append_own _ rfl _ _ 22 rfl w.heap.size 9 iS _ 1 16 Tryz.underlying22 hiS hzS0 hzS1 hzS2 rfl (by decide) _ _ _ rfl (o5.alloc _) ⟨_, 0, none⟩ 1 1 [.string ⟨T2.toArray⟩] rfl rfl (World.news_of_block (cs := #[.string ⟨T2.toArray⟩]) (t := 9) (fr := (0, 0)) (alloc_get _ _)) (by simp [Value.oneCell']) (by unfold maxLen; omega) (by omega) (by simp; omega) ?_; intro v9 w9 o9 g9 _)
          have HX : Hid (w9.ownsRow w.heap.size 9 1 v9 (k + 1) (stx (hdL 3 (k + 1))) ∧ Below w.heap.size w w9) := by
            refine ⟨?_, (belA hBw _).grown g9 (by simp; omega) (fun b e => (o5.lt b e).1)⟩
            have e5 : stx (hdL 3 (k + 1)) = stx (hdL 3 k) ++ [.string ⟨T2.toArray⟩] := by rw [hdL_succ, hT2]; simp [stx]
            rw [e5]
            exact o9
          clear o5 o9 g9 hBw hcv hT2
          go_wp2_with fail
          go_roundw
          case rel => exact ⟨k + 1, by go_num, by omega, HX⟩
          case measure => simp [intOf]; omega
    · have j1 : ¬ (k : Int) < 8 := by omega
      obtain rfl : k = 8 := by omega
      obtain ⟨hoD, hBD⟩ := HI.out
      obtain ⟨p, c, rfl⟩ := shapeQ1 hoD
      have HR : Hid (wr.ownsRow w.heap.size 9 1 (.slice p 8 c) 8 (stx (hdL 3 8)) ∧ Below w.heap.size w wr) := ⟨hoD, hBD⟩
      clear HI hoD hBD
      go_wp2_with fail
      go_ret
      exact ⟨p, c, rfl, HR.out.1, HR.out.2⟩
theorem hbit4 : ∀ k : Nat, k < 16 → ∀ j : Nat, j < 4 → (wrap64 (48 + bits BinOp.and IntKind.i64 ((k : Int) / 2 ^ (3 - j)) 1) % 256) = ((bitc 4 k j).toNat : Int) := by decide +kernel
set_option maxRecDepth 100000 in
set_option maxHeartbeats 8000000 in
theorem hdx4 (q : Option Addr) (len cap : Nat) (w : World) : Calls Tryz.prog 10 #[.int .i64 4, .slice q len cap] w fun e w' => HDX 4 w e w' := by
  obtain ⟨iS, hiS, hzS0, hzS1, hzS2⟩ := info_parts info_str2
  obtain ⟨i0, hi, hz0, hz1, hz2⟩ := info_parts info_u8
  go_enter Tryz.func10, Tryz.ntmps10
  go_wp2_with fail
  go_loopw [5, 6] (fun v5 v6 wr => ∃ (k : Nat), v6 = .int .i64 (k : Int) ∧ k ≤ 16 ∧ Hid (wr.ownsRow w.heap.size 9 1 v5 k (stx (hdL 4 k)) ∧ Below w.heap.size w wr)) (fun _ v6 _ => 16 - (intOf v6).toNat)
  case atStart => exact ⟨0, rfl, Nat.zero_le _, World.ownsRow_nil _ _ _ _, Below.refl _ _⟩
  case round =>
    obtain ⟨k, rfl, hk, HI⟩ := hrel
    by_cases hlt : k < 16
    · have j1 : (k : Int) < 16 := by omega
      obtain ⟨wo, rfl⟩ : ∃ wo, wo = wr := ⟨wr, rfl⟩
      go_wp2_with (at_make; refine wpList_make_full _ rfl _ _ 70 rfl wo.heap.size 5 i0 (.int .u8 0) 1 Tryz.underlying70 hi hz0 hz1 .i64 .i64 _ _ 4 rfl rfl rfl rfl (by rw [hz2]; omega) (by unfold maxLen; omega) (Nat.le_refl _) ?_; intro w1 hown hgrow)
      have hB1 : Below wo.heap.size wo w1 := (Below.refl _ _).grown hgrow (Nat.le_refl _) (fun k h => by cases h)
      have HS0 : Hid (∃ T : List UInt8, T.length = 4 ∧ (∀ i, i < 0 → T[i]? = some (bitc 4 k i)) ∧ w1.ownsRow wo.heap.size 5 1 (.slice (some ⟨wo.heap.size, 0, none⟩) 4 4) 4 (bys T) ∧ Below wo.heap.size wo w1) := by
        refine ⟨List.replicate 4 0, by simp, (fun i hi => by omega), ?_, hB1⟩
        rw [bys_zero]
        have h1 : (madeCells (Value.int IntKind.u8 0).cells (4 * 1)).toList = List.replicate 4 (.int .u8 0) := toList_madeCells_one _ _
        rw [h1] at hown
        exact hown
      clear hown hgrow hB1
      go_loopw [8] (fun v8 ws => ∃ j : Nat, v8 = .int .i64 (j : Int) ∧ j ≤ 4 ∧ Hid (∃ T : List UInt8, T.length = 4 ∧ (∀ i, i < j → T[i]? = some (bitc 4 k i)) ∧ ws.ownsRow wo.heap.size 5 1 (.slice (some ⟨wo.heap.size, 0, none⟩) 4 4) 4 (bys T) ∧ Below wo.heap.size wo ws)) (fun v8 _ => 4 - (intOf v8).toNat)
      case atStart => exact ⟨0, rfl, Nat.zero_le _, HS0⟩
      case round =>
        clear HS0
        obtain ⟨j, rfl, hj, HT⟩ := hrel
        obtain ⟨T, hT, hTi, ho, hB⟩ := HT.out
        by_cases hltj : j < 4
        · have r1 : (j : Int) < 4 := by omega
          have r0 : (0 : Int) ≤ (j : Int) := by omega
          have r2 : (0 : Int) ≤ 3 - (j : Int) := by omega
          have r3 : ¬ (3 - (j : Int)) < 0 := by omega
          obtain ⟨cv, hc⟩ : ∃ v, wr.cell? ⟨wo.heap.size, j, none⟩ = some v := by
            have h := ho.cellAt j (by omega)
            refine ⟨.int .u8 ((T[j]'(by omega)).toNat : Int), ?_⟩
            rw [h]
            simp [bys, List.getElem?_eq_getElem (show j < T.length by omega)]
          have hf := ho.frozenAt j
          have HST : Hid (∀ z : Int, z = ((bitc 4 k j).toNat : Int) → ∃ T : List UInt8, T.length = 4 ∧ (∀ i, i < j + 1 → T[i]? = some (bitc 4 k i)) ∧ (wr.setCell ⟨wo.heap.size, j, none⟩ (.int .u8 z)).ownsRow wo.heap.size 5 1 (.slice (some ⟨wo.heap.size, 0, none⟩) 4 4) 4 (bys T) ∧ Below wo.heap.size wo (wr.setCell ⟨wo.heap.size, j, none⟩ (.int .u8 z))) := fun z hz => by
            subst hz
            refine ⟨T.set j (bitc 4 k j), by rw [List.length_set]; exact hT, fun i hi => ?_, ?_, hB.setCell (Nat.le_refl _) _⟩
            · by_cases e : i = j
              · subst e
                rw [List.getElem?_set_self (by omega)]
              · rw [List.getElem?_set_ne (by omega)]
                exact hTi i (by omega)
            · have h := (ho.stored j (.int .u8 ((bitc 4 k j).toNat : Int))).1
              have e : bys (T.set j (bitc 4 k j)) = (bys T).set j (.int .u8 ((bitc 4 k j).toNat : Int)) := by
                unfold bys
                rw [List.map_set]
              rw [e]
              exact h
          clear HT hT ho hB hTi
          go_wp2_with fail
          go_roundw
          case rel => exact ⟨j + 1, by go_num, by omega, HST.out _ (hbit4 k hlt j hltj)⟩
          case measure => simp [intOf]; omega
        · have r1 : ¬ (j : Int) < 4 := by omega
          obtain rfl : T = hdT 4 k := hdT_of hT (fun i hi => hTi i (by omega))
          have hcv := conv_owned wr wo.heap.size wo.heap.size 4 (hdT 4 k) (by rw [hT]; exact ho)
          rw [hT] at hcv
          obtain ⟨hoD, hBD⟩ := HI.out
          have o5 := own_belQ hoD hB
          have hBw := bel0 hBD hB
          have hsw := hBw.size
          obtain ⟨T2, hT2⟩ : ∃ T2, hdT 4 k = T2 := ⟨_, rfl⟩
          rw [hT2] at hcv
          clear HT hT ho hB hTi hoD hBD HI
          go_wp2_with (at_builtin; refine wpList_append_own _ rfl _ _ 22 rfl w.heap.size 9 iS _ 1 16 Tryz.underlying22 hiS hzS0 hzS1 hzS2 rfl (by decide) _ _ _ rfl (o5.alloc _) ⟨_, 0, none⟩ 1 1 [.string ⟨T2.toArray⟩] rfl rfl (World.news_of_block (cs := #[.string ⟨T2.toArray⟩]) (t := 9) (fr := (0, 0)) (alloc_get _ _)) (by simp [Value.oneCell']) (by unfold maxLen; omega) (by omega) (by simp; omega) ?_; intro v9 w9 o9 g9 _)
          have HX : Hid (w9.ownsRow w.heap.size 9 1 v9 (k + 1) (stx (hdL 4 (k + 1))) ∧ Below w.heap.size w w9) := by
            refine ⟨?_, (belA hBw _).grown g9 (by simp; omega) (fun b e => (o5.lt b e).1)⟩
            have e5 : stx (hdL 4 (k + 1)) = stx (hdL 4 k) ++ [.string ⟨T2.toArray⟩] := by rw [hdL_succ, hT2]; simp [stx]
            rw [e5]
            exact o9
          clear o5 o9 g9 hBw hcv hT2
          go_wp2_with fail
          go_roundw
          case rel => exact ⟨k + 1, by go_num, by omega, HX⟩
          case measure => simp [intOf]; omega
    · have j1 : ¬ (k : Int) < 16 := by omega
      obtain rfl : k = 16 := by omega
      obtain ⟨hoD, hBD⟩ := HI.out
      obtain ⟨p, c, rfl⟩ := shapeQ1 hoD
      have HR : Hid (wr.ownsRow w.heap.size 9 1 (.slice p 16 c) 16 (stx (hdL 4 16)) ∧ Below w.heap.size w wr) := ⟨hoD, hBD⟩
      clear HI hoD hBD
      go_wp2_with fail
      go_ret
      exact ⟨p, c, rfl, HR.out.1, HR.out.2⟩
theorem hbit5 : ∀ k : Nat, k < 32 → ∀ j : Nat, j < 5 → (wrap64 (48 + bits BinOp.and IntKind.i64 ((k : Int) / 2 ^ (4 - j)) 1) % 256) = ((bitc 5 k j).toNat : Int) := by decide +kernel
set_option maxRecDepth 100000 in
set_option maxHeartbeats 8000000 in
theorem hdx5 (q : Option Addr) (len cap : Nat) (w : World) : Calls Tryz.prog 10 #[.int .i64 5, .slice q len cap] w fun e w' => HDX 5 w e w' := by
  obtain ⟨iS, hiS, hzS0, hzS1, hzS2⟩ := info_parts info_str2
  obtain ⟨i0, hi, hz0, hz1, hz2⟩ := info_parts info_u8
  go_enter Tryz.func10, Tryz.ntmps10
  go_wp2_with fail
  go_loopw [5, 6] (fun v5 v6 wr => ∃ (k : Nat), v6 = .int .i64 (k : Int) ∧ k ≤ 32 ∧ Hid (wr.ownsRow w.heap.size 9 1 v5 k (stx (hdL 5 k)) ∧ Below w.heap.size w wr)) (fun _ v6 _ => 32 - (intOf v6).toNat)
  case atStart => exact ⟨0, rfl, Nat.zero_le _, World.ownsRow_nil _ _ _ _, Below.refl _ _⟩
  case round =>
    obtain ⟨k, rfl, hk, HI⟩ := hrel
    by_cases hlt : k < 32
    · have j1 : (k : Int) < 32 := by omega
      obtain ⟨wo, rfl⟩ : ∃ wo, wo = wr := ⟨wr, rfl⟩
      go_wp2_with (at_make; refine wpList_make_full _ rfl _ _ 70 rfl wo.heap.size 5 i0 (.int .u8 0) 1 Tryz.underlying70 hi hz0 hz1 .i64 .i64 _ _ 5 rfl rfl rfl rfl (by rw [hz2]; omega) (by unfold maxLen; omega) (Nat.le_refl _) ?_; intro w1 hown hgrow)
      have hB1 : Below wo.heap.size wo w1 := (Below.refl _ _).grown hgrow (Nat.le_refl _) (fun k h => by cases h)
      have HS0 : Hid (∃ T : List UInt8, T.length = 5 ∧ (∀ i, i < 0 → T[i]? = some (bitc 5 k i)) ∧ w1.ownsRow wo.heap.size 5 1 (.slice (some ⟨wo.heap.size, 0, none⟩) 5 5) 5 (bys T) ∧ Below wo.heap.size wo w1) := by
        refine ⟨List.replicate 5 0, by simp, (fun i hi => by omega), ?_, hB1⟩
        rw [bys_zero]
        have h1 : (madeCells (Value.int IntKind.u8 0).cells (5 * 1)).toList = List.replicate 5 (.int .u8 0) := toList_madeCells_one _ _
        rw [h1] at hown
        exact hown
      clear hown hgrow hB1
      go_loopw [8] (fun v8 ws => ∃ j : Nat, v8 = .int .i64 (j : Int) ∧ j ≤ 5 ∧ Hid (∃ T : List UInt8, T.length = 5 ∧ (∀ i, i < j → T[i]? = some (bitc 5 k i)) ∧ ws.ownsRow wo.heap.size 5 1 (.slice (some ⟨wo.heap.size, 0, none⟩) 5 5) 5 (bys T) ∧ Below wo.heap.size wo ws)) (fun v8 _ => 5 - (intOf v8).toNat)
      case atStart => exact ⟨0, rfl, Nat.zero_le _, HS0⟩
      case round =>
        clear HS0
        obtain ⟨j, rfl, hj, HT⟩ := hrel
        obtain ⟨T, hT, hTi, ho, hB⟩ := HT.out
        by_cases hltj : j < 5
        · have r1 : (j : Int) < 5 := by omega
          have r0 : (0 : Int) ≤ (j : Int) := by omega
          have r2 : (0 : Int) ≤ 4 - (j : Int) := by omega
          have r3 : ¬ (4 - (j : Int)) < 0 := by omega
          obtain ⟨cv, hc⟩ : ∃ v, wr.cell? ⟨wo.heap.size, j, none⟩ = some v := by
            have h := ho.cellAt j (by omega)
            refine ⟨.int .u8 ((T[j]'(by omega)).toNat : Int), ?_⟩
            rw [h]
            simp [bys, List.getElem?_eq_getElem (show j < T.length by omega)]
          have hf := ho.frozenAt j
          have HST : Hid (∀ z : Int, z = ((bitc 5 k j).toNat : Int) → ∃ T : List UInt8, T.length = 5 ∧ (∀ i, i < j + 1 → T[i]? = some (bitc 5 k i)) ∧ (wr.setCell ⟨wo.heap.size, j, none⟩ (.int .u8 z)).ownsRow wo.heap.size 5 1 (.slice (some ⟨wo.heap.size, 0, none⟩) 5 5) 5 (bys T) ∧ Below wo.heap.size wo (wr.setCell ⟨wo.heap.size, j, none⟩ (.int .u8 z))) := fun z hz => by
            subst hz
            refine ⟨T.set j (bitc 5 k j), by rw [List.length_set]; exact hT, fun i hi => ?_, ?_, hB.setCell (Nat.le_refl _) _⟩
            · by_cases e : i = j
              · subst e
                rw [List.getElem?_set_self (by omega)]
              · rw [List.getElem?_set_ne (by omega)]
                exact hTi i (by omega)
            · have h := (ho.stored j (.int .u8 ((bitc 5 k j).toNat : Int))).1
              have e : bys (T.set j (bitc 5 k j)) = (bys T).set j (.int .u8 ((bitc 5 k j).toNat : Int)) := by
                unfold bys
                rw [List.map_set]
              rw [e]
              exact h
          clear HT hT ho hB hTi
          go_wp2_with fail
          go_roundw
          case rel => exact ⟨j + 1, by go_num, by omega, HST.out _ (hbit5 k hlt j hltj)⟩
          case measure => simp [intOf]; omega
        · have r1 : ¬ (j : Int) < 5 := by omega
          obtain rfl : T = hdT 5 k := hdT_of hT (fun i hi => hTi i (by omega))
          have hcv := conv_owned wr wo.heap.size wo.heap.size 5 (hdT 5 k) (by rw [hT]; exact ho)
          rw [hT] at hcv
          obtain ⟨hoD, hBD⟩ := HI.out
          have o5 := own_belQ hoD hB
          have hBw := bel0 hBD hB
          have hsw := hBw.size
          obtain ⟨T2, hT2⟩ : ∃ T2, hdT 5 k = T2 := ⟨_, rfl⟩
          rw [hT2] at hcv
          clear HT hT ho hB hTi hoD hBD HI
          go_wp2_with (at_builtin; refine wpList_append_own _ rfl _ _ 22 rfl w.heap.size 9 iS _ 1 16 Tryz.underlying22 hiS hzS0 hzS1 hzS2 rfl (by decide) _ _ _ rfl (o5.alloc _) ⟨_, 0, none⟩ 1 1 [.string ⟨T2.toArray⟩] rfl rfl (World.news_of_block (cs := #[.string ⟨T2.toArray⟩]) (t := 9) (fr := (0, 0)) (alloc_get _ _)) (by simp [Value.oneCell']) (by unfold maxLen; omega) (by omega) (by simp; omega) ?_; intro v9 w9 o9 g9 _)
          have HX : Hid (w9.ownsRow w.heap.size 9 1 v9 (k + 1) (stx (hdL 5 (k + 1))) ∧ Below w.heap.size w w9) := by
            refine ⟨?_, (belA hBw _).grown g9 (by simp; omega) (fun b e => (o5.lt b e).1)⟩
            have e5 : stx (hdL 5 (k + 1)) = stx (hdL 5 k) ++ [.string ⟨T2.toArray⟩] := by rw [hdL_succ, hT2]; simp [stx]
            rw [e5]
            exact o9
          clear o5 o9 g9 hBw hcv hT2
          go_wp2_with fail
          go_roundw
          case rel => exact ⟨k + 1, by go_num, by omega, HX⟩
          case measure => simp [intOf]; omega
    · have j1 : ¬ (k : Int) < 32 := by omega
      obtain rfl : k = 32 := by omega
      obtain ⟨hoD, hBD⟩ := HI.out
      obtain ⟨p, c, rfl⟩ := shapeQ1 hoD
      have HR : Hid (wr.ownsRow w.heap.size 9 1 (.slice p 32 c) 32 (stx (hdL 5 32)) ∧ Below w.heap.size w wr) := ⟨hoD, hBD⟩
      clear HI hoD hBD
      go_wp2_with fail
      go_ret
      exact ⟨p, c, rfl, HR.out.1, HR.out.2⟩
theorem hbit6 : ∀ k : Nat, k < 64 → ∀ j : Nat, j < 6 → (wrap64 (48 + bits BinOp.and IntKind.i64 ((k : Int) / 2 ^ (5 - j)) 1) % 256) = ((bitc 6 k j).toNat : Int) := by decide +kernel
set_option maxRecDepth 100000 in
set_option maxHeartbeats 8000000 in
theorem hdx6 (q : Option Addr) (len cap : Nat) (w : World) : Calls Tryz.prog 10 #[.int .i64 6, .slice q len cap] w fun e w' => HDX 6 w e w' := by
  obtain ⟨iS, hiS, hzS0, hzS1, hzS2⟩ := info_parts info_str2
  obtain ⟨i0, hi, hz0, hz1, hz2⟩ := info_parts info_u8
  go_enter Tryz.func10, Tryz.ntmps10
  go_wp2_with fail
  go_loopw [5, 6] (fun v5 v6 wr => ∃ (k : Nat), v6 = .int .i64 (k : Int) ∧ k ≤ 64 ∧ Hid (wr.ownsRow w.heap.size 9 1 v5 k (stx (hdL 6 k)) ∧ Below w.heap.size w wr)) (fun _ v6 _ => 64 - (intOf v6).toNat)
  case atStart => exact ⟨0, rfl, Nat.zero_le _, World.ownsRow_nil _ _ _ _, Below.refl _ _⟩
  case round =>
    obtain ⟨k, rfl, hk, HI⟩ := hrel
    by_cases hlt : k < 64
    · have j1 : (k : Int) < 64 := by omega
      obtain ⟨wo, rfl⟩ : ∃ wo, wo = wr := ⟨wr, rfl⟩
      go_wp2_with (at_make; refine wpList_make_full _ rfl _ _ 70 rfl wo.heap.size 5 i0 (.int .u8 0) 1 Tryz.underlying70 hi hz0 hz1 .i64 .i64 _ _ 6 rfl rfl rfl rfl (by rw [hz2]; omega) (by unfold maxLen; omega) (Nat.le_refl _) ?_; intro w1 hown hgrow)
      have hB1 : Below wo.heap.size wo w1 := (Below.refl _ _).grown hgrow (Nat.le_refl _) (fun k h => by cases h)
      have HS0 : Hid (∃ T : List UInt8, T.length = 6 ∧ (∀ i, i < 0 → T[i]? = some (bitc 6 k i)) ∧ w1.ownsRow wo.heap.size 5 1 (.slice (some ⟨wo.heap.size, 0, none⟩) 6 6) 6 (bys T) ∧ Below wo.heap.size wo w1) := by
        refine ⟨List.replicate 6 0, by simp, (fun i hi => by omega), ?_, hB1⟩
        rw [bys_zero]
        have h1 : (madeCells (Value.int IntKind.u8 0).cells (6 * 1)).toList = List.replicate 6 (.int .u8 0) := toList_madeCells_one _ _
        rw [h1] at hown
        exact hown
      clear hown hgrow hB1
      go_loopw [8] (fun v8 ws => ∃ j : Nat, v8 = .int .i64 (j : Int) ∧ j ≤ 6 ∧ Hid (∃ T : List UInt8, T.length = 6 ∧ (∀ i, i < j → T[i]? = some (bitc 6 k i)) ∧ ws.ownsRow wo.heap.size 5 1 (.slice (some ⟨wo.heap.size, 0, none⟩) 6 6) 6 (bys T) ∧ Below wo.heap.size wo ws)) (fun v8 _ => 6 - (intOf v8).toNat)
      case atStart => exact ⟨0, rfl, Nat.zero_le _, HS0⟩
      case round =>
        clear HS0
        obtain ⟨j, rfl, hj, HT⟩ := hrel
        obtain ⟨T, hT, hTi, ho, hB⟩ := HT.out
        by_cases hltj : j < 6
        · have r1 : (j : Int) < 6 := by omega
          have r0 : (0 : Int) ≤ (j : Int) := by omega
          have r2 : (0 : Int) ≤ 5 - (j : Int) := by omega
          have r3 : ¬ (5 - (j : Int)) < 0 := by omega
          obtain ⟨cv, hc⟩ : ∃ v, wr.cell? ⟨wo.heap.size, j, none⟩ = some v := by
            have h := ho.cellAt j (by omega)
            refine ⟨.int .u8 ((T[j]'(by omega)).toNat : Int), ?_⟩
            rw [h]
            simp [bys, List.getElem?_eq_getElem (show j < T.length by omega)]
          have hf := ho.frozenAt j
          have HST : Hid (∀ z : Int, z = ((bitc 6 k j).toNat : Int) → ∃ T : List UInt8, T.length = 6 ∧ (∀ i, i < j + 1 → T[i]? = some (bitc 6 k i)) ∧ (wr.setCell ⟨wo.heap.size, j, none⟩ (.int .u8 z)).ownsRow wo.heap.size 5 1 (.slice (some ⟨wo.heap.size, 0, none⟩) 6 6) 6 (bys T) ∧ Below wo.heap.size wo (wr.setCell ⟨wo.heap.size, j, none⟩ (.int .u8 z))) := fun z hz => by
            subst hz
            refine ⟨T.set j (bitc 6 k j), by rw [List.length_set]; exact hT, fun i hi => ?_, ?_, hB.setCell (Nat.le_refl _) _⟩
            · by_cases e : i = j
              · subst e
                rw [List.getElem?_set_self (by omega)]
              · rw [List.getElem?_set_ne (by omega)]
                exact hTi i (by omega)
            · have h := (ho.stored j (.int .u8 ((bitc 6 k j).toNat : Int))).1
              have e : bys (T.set j (bitc 6 k j)) = (bys T).set j (.int .u8 ((bitc 6 k j).toNat : Int)) := by
                unfold bys
                rw [List.map_set]
              rw [e]
              exact h
          clear HT hT ho hB hTi
          go_wp2_with fail
          go_roundw
          case rel => exact ⟨j + 1, by go_num, by omega, HST.out _ (hbit6 k hlt j hltj)⟩
          case measure => simp [intOf]; omega
        · have r1 : ¬ (j : Int) < 6 := by omega
          obtain rfl : T = hdT 6 k := hdT_of hT (fun i hi => hTi i (by omega))
          have hcv := conv_owned wr wo.heap.size wo.heap.size 6 (hdT 6 k) (by rw [hT]; exact ho)
          rw [hT] at hcv
          obtain ⟨hoD, hBD⟩ := HI.out
          have o5 := own_belQ hoD hB
          have hBw := bel0 hBD hB
          have hsw := hBw.size
          obtain ⟨T2, hT2⟩ : ∃ T2, hdT 6 k = T2 := ⟨_, rfl⟩
          rw [hT2] at hcv
          clear HT hT ho hB hTi hoD hBD HI
          go_wp2_with (at_builtin; refine wpList_append_own _ rfl _ _ 22 rfl w.heap.size 9 iS _ 1 16 Tryz.underlying22 hiS hzS0 hzS1 hzS2 rfl (by decide) _ _ _ rfl (o5.alloc _) ⟨_, 0, none⟩ 1 1 [.string ⟨T2.toArray⟩] rfl rfl (World.news_of_block (cs := #[.string ⟨T2.toArray⟩]) (t := 9) (fr := (0, 0)) (alloc_get _ _)) (by simp [Value.oneCell']) (by unfold maxLen; omega) (by omega) (by simp; omega) ?_; intro v9 w9 o9 g9 _)
          have HX : Hid (w9.ownsRow w.heap.size 9 1 v9 (k + 1) (stx (hdL 6 (k + 1))) ∧ Below w.heap.size w w9) := by
            refine ⟨?_, (belA hBw _).grown g9 (by simp; omega) (fun b e => (o5.lt b e).1)⟩
            have e5 : stx (hdL 6 (k + 1)) = stx (hdL 6 k) ++ [.string ⟨T2.toArray⟩] := by rw [hdL_succ, hT2]; simp [stx]
            rw [e5]
            exact o9
          clear o5 o9 g9 hBw hcv hT2
          go_wp2_with fail
          go_roundw
          case rel => exact ⟨k + 1, by go_num, by omega, HX⟩
          case measure => simp [intOf]; omega
    · have j1 : ¬ (k : Int) < 64 := by omega
      obtain rfl : k = 64 := by omega
      obtain ⟨hoD, hBD⟩ := HI.out
      obtain ⟨p, c, rfl⟩ := shapeQ1 hoD
      have HR : Hid (wr.ownsRow w.heap.size 9 1 (.slice p 64 c) 64 (stx (hdL 6 64)) ∧ Below w.heap.size w wr) := ⟨hoD, hBD⟩
      clear HI hoD hBD
      go_wp2_with fail
      go_ret
      exact ⟨p, c, rfl, HR.out.1, HR.out.2⟩
theorem hbit7 : ∀ k : Nat, k < 128 → ∀ j : Nat, j < 7 → (wrap64 (48 + bits BinOp.and IntKind.i64 ((k : Int) / 2 ^ (6 - j)) 1) % 256) = ((bitc 7 k j).toNat : Int) := by decide +kernel
set_option maxRecDepth 100000 in
set_option maxHeartbeats 8000000 in
theorem hdx7 (q : Option Addr) (len cap : Nat) (w : World) : Calls Tryz.prog 10 #[.int .i64 7, .slice q len cap] w fun e w' => HDX 7 w e w' := by
  obtain ⟨iS, hiS, hzS0, hzS1, hzS2⟩ := info_parts info_str2
  obtain ⟨i0, hi, hz0, hz1, hz2⟩ := info_parts info_u8
  go_enter Tryz.func10, Tryz.ntmps10
  go_wp2_with fail
  go_loopw [5, 6] (fun v5 v6 wr => ∃ (k : Nat), v6 = .int .i64 (k : Int) ∧ k ≤ 128 ∧ Hid (wr.ownsRow w.heap.size 9 1 v5 k (stx (hdL 7 k)) ∧ Below w.heap.size w wr)) (fun _ v6 _ => 128 - (intOf v6).toNat)
  case atStart => exact ⟨0, rfl, Nat.zero_le _, World.ownsRow_nil _ _ _ _, Below.refl _ _⟩
  case round =>
    obtain ⟨k, rfl, hk, HI⟩ := hrel
    by_cases hlt : k < 128
    · have j1 : (k : Int) < 128 := by omega
      obtain ⟨wo, rfl⟩ : ∃ wo, wo = wr := ⟨wr, rfl⟩
      go_wp2_with (at_make; refine wpList_make_full _ rfl _ _ 70 rfl wo.heap.size 5 i0 (.int .u8 0) 1 Tryz.underlying70 hi hz0 hz1 .i64 .i64 _ _ 7 rfl rfl rfl rfl (by rw [hz2]; omega) (by unfold maxLen; omega) (Nat.le_refl _) ?_; intro w1 hown hgrow)
      have hB1 : Below wo.heap.size wo w1 := (Below.refl _ _).grown hgrow (Nat.le_refl _) (fun k h => by cases h)
      have HS0 : Hid (∃ T : List UInt8, T.length = 7 ∧ (∀ i, i < 0 → T[i]? = some (bitc 7 k i)) ∧ w1.ownsRow wo.heap.size 5 1 (.slice (some ⟨wo.heap.size, 0, none⟩) 7 7) 7 (bys T) ∧ Below wo.heap.size wo w1) := by
        refine ⟨List.replicate 7 0, by simp, (fun i hi => by omega), ?_, hB1⟩
        rw [bys_zero]
        have h1 : (madeCells (Value.int IntKind.u8 0).cells (7 * 1)).toList = List.replicate 7 (.int .u8 0) := toList_madeCells_one _ _
        rw [h1] at hown
        exact hown
      clear hown hgrow hB1
      go_loopw [8] (fun v8 ws => ∃ j : Nat, v8 = .int .i64 (j : Int) ∧ j ≤ 7 ∧ Hid (∃ T : List UInt8, T.length = 7 ∧ (∀ i, i < j → T[i]? = some (bitc 7 k i)) ∧ ws.ownsRow wo.heap.size 5 1 (.slice (some ⟨wo.heap.size, 0, none⟩) 7 7) 7 (bys T) ∧ Below wo.heap.size wo ws)) (fun v8 _ => 7 - (intOf v8).toNat)
      case atStart => exact ⟨0, rfl, Nat.zero_le _, HS0⟩
      case round =>
        clear HS0
        obtain ⟨j, rfl, hj, HT⟩ := hrel
        obtain ⟨T, hT, hTi, ho, hB⟩ := HT.out
        by_cases hltj : j < 7
        · have r1 : (j : Int) < 7 := by omega
          have r0 : (0 : Int) ≤ (j : Int) := by omega
          have r2 : (0 : Int) ≤ 6 - (j : Int) := by omega
          have r3 : ¬ (6 - (j : Int)) < 0 := by omega
          obtain ⟨cv, hc⟩ : ∃ v, wr.cell? ⟨wo.heap.size, j, none⟩ = some v := by
            have h := ho.cellAt j (by omega)
            refine ⟨.int .u8 ((T[j]'(by omega)).toNat : Int), ?_⟩
            rw [h]
            simp [bys, List.getElem?_eq_getElem (show j < T.length by omega)]
          have hf := ho.frozenAt j
          have HST : Hid (∀ z : Int, z = ((bitc 7 k j).toNat : Int) → ∃ T : List UInt8, T.length = 7 ∧ (∀ i, i < j + 1 → T[i]? = some (bitc 7 k i)) ∧ (wr.setCell ⟨wo.heap.size, j, none⟩ (.int .u8 z)).ownsRow wo.heap.size 5 1 (.slice (some ⟨wo.heap.size, 0, none⟩) 7 7) 7 (bys T) ∧ Below wo.heap.size wo (wr.setCell ⟨wo.heap.size, j, none⟩ (.int .u8 z))) := fun z hz => by
            subst hz
            refine ⟨T.set j (bitc 7 k j), by rw [List.length_set]; exact hT, fun i hi => ?_, ?_, hB.setCell (Nat.le_refl _) _⟩
            · by_cases e : i = j
              · subst e
                rw [List.getElem?_set_self (by omega)]
              · rw [List.getElem?_set_ne (by omega)]
                exact hTi i (by omega)
            · have h := (ho.stored j (.int .u8 ((bitc 7 k j).toNat : Int))).1
              have e : bys (T.set j (bitc 7 k j)) = (bys T).set j (.int .u8 ((bitc 7 k j).toNat : Int)) := by
                unfold bys
                rw [List.map_set]
              rw [e]
              exact h
          clear HT hT ho hB hTi
          go_wp2_with fail
          go_roundw
          case rel => exact ⟨j + 1, by go_num, by omega, HST.out _ (hbit7 k hlt j hltj)⟩
          case measure => simp [intOf]; omega
        · have r1 : ¬ (j : Int) < 7 := by omega
          obtain rfl : T = hdT 7 k := hdT_of hT (fun i hi => hTi i (by omega))
          have hcv := conv_owned wr wo.heap.size wo.heap.size 7 (hdT 7 k) (by rw [hT]; exact ho)
          rw [hT] at hcv
          obtain ⟨hoD, hBD⟩ := HI.out
          have o5 := own_belQ hoD hB
          have hBw := bel0 hBD hB
          have hsw := hBw.size
          obtain ⟨T2, hT2⟩ : ∃ T2, hdT 7 k = T2 := ⟨_, rfl⟩
          rw [hT2] at hcv
          clear HT hT ho hB hTi hoD hBD HI
          go_wp2_with (at_builtin; refine wpList_append_own _ rfl _ _ 22 rfl w.heap.size 9 iS _ 1 16 Tryz.underlying22 hiS hzS0 hzS1 hzS2 rfl (by decide) _ _ _ rfl (o5.alloc _) ⟨_, 0, none⟩ 1 1 [.string ⟨T2.toArray⟩] rfl rfl (World.news_of_block (cs := #[.string ⟨T2.toArray⟩]) (t := 9) (fr := (0, 0)) (alloc_get _ _)) (by simp [Value.oneCell']) (by unfold maxLen; omega) (by omega) (by simp; omega) ?_; intro v9 w9 o9 g9 _)
          have HX : Hid (w9.ownsRow w.heap.size 9 1 v9 (k + 1) (stx (hdL 7 (k + 1))) ∧ Below w.heap.size w w9) := by
            refine ⟨?_, (belA hBw _).grown g9 (by simp; omega) (fun b e => (o5.lt b e).1)⟩
            have e5 : stx (hdL 7 (k + 1)) = stx (hdL 7 k) ++ [.string ⟨T2.toArray⟩] := by rw [hdL_succ, hT2]; simp [stx]
            rw [e5]
            exact o9
          clear o5 o9 g9 hBw hcv hT2
          go_wp2_with fail
          go_roundw
          case rel => exact ⟨k + 1, by go_num, by omega, HX⟩
          case measure => simp [intOf]; omega
    · have j1 : ¬ (k : Int) < 128 := by omega
      obtain rfl : k = 128 := by omega
      obtain ⟨hoD, hBD⟩ := HI.out
      obtain ⟨p, c, rfl⟩ := shapeQ1 hoD
      have HR : Hid (wr.ownsRow w.heap.size 9 1 (.slice p 128 c) 128 (stx (hdL 7 128)) ∧ Below w.heap.size w wr) := ⟨hoD, hBD⟩
      clear HI hoD hBD
      go_wp2_with fail
      go_ret
      exact ⟨p, c, rfl, HR.out.1, HR.out.2⟩
theorem hbit8 : ∀ k : Nat, k < 256 → ∀ j : Nat, j < 8 → (wrap64 (48 + bits BinOp.and IntKind.i64 ((k : Int) / 2 ^ (7 - j)) 1) % 256) = ((bitc 8 k j).toNat : Int) := by decide +kernel
set_option maxRecDepth 100000 in
set_option maxHeartbeats 8000000 in
theorem hdx8 (q : Option Addr) (len cap : Nat) (w : World) : Calls Tryz.prog 10 #[.int .i64 8, .slice q len cap] w fun e w' => HDX 8 w e w' := by
  obtain ⟨iS, hiS, hzS0, hzS1, hzS2⟩ := info_parts info_str2
  obtain ⟨i0, hi, hz0, hz1, hz2⟩ := info_parts info_u8
  go_enter Tryz.func10, Tryz.ntmps10
  go_wp2_with fail
  go_loopw [5, 6] (fun v5 v6 wr => ∃ (k : Nat), v6 = .int .i64 (k : Int) ∧ k ≤ 256 ∧ Hid (wr.ownsRow w.heap.size 9 1 v5 k (stx (hdL 8 k)) ∧ Below w.heap.size w wr)) (fun _ v6 _ => 256 - (intOf v6).toNat)
  case atStart => exact ⟨0, rfl, Nat.zero_le _, World.ownsRow_nil _ _ _ _, Below.refl _ _⟩
  case round =>
    obtain ⟨k, rfl, hk, HI⟩ := hrel
    by_cases hlt : k < 256
    · have j1 : (k : Int) < 256 := by omega
      obtain ⟨wo, rfl⟩ : ∃ wo, wo = wr := ⟨wr, rfl⟩
      go_wp2_with (at_make; refine wpList_make_full _ rfl _ _ 70 rfl wo.heap.size 5 i0 (.int .u8 0) 1 Tryz.underlying70 hi hz0 hz1 .i64 .i64 _ _ 8 rfl rfl rfl rfl (by rw [hz2]; omega) (by unfold maxLen; omega) (Nat.le_refl _) ?_; intro w1 hown hgrow)
      have hB1 : Below wo.heap.size wo w1 := (Below.refl _ _).grown hgrow (Nat.le_refl _) (fun k h => by cases h)
      have HS0 : Hid (∃ T : List UInt8, T.length = 8 ∧ (∀ i, i < 0 → T[i]? = some (bitc 8 k i)) ∧ w1.ownsRow wo.heap.size 5 1 (.slice (some ⟨wo.heap.size, 0, none⟩) 8 8) 8 (bys T) ∧ Below wo.heap.size wo w1) := by
        refine ⟨List.replicate 8 0, by simp, (fun i hi => by omega), ?_, hB1⟩
        rw [bys_zero]
        have h1 : (madeCells (Value.int IntKind.u8 0).cells (8 * 1)).toList = List.replicate 8 (.int .u8 0) := toList_madeCells_one _ _
        rw [h1] at hown
        exact hown
      clear hown hgrow hB1
      go_loopw [8] (fun v8 ws => ∃ j : Nat, v8 = .int .i64 (j : Int) ∧ j ≤ 8 ∧ Hid (∃ T : List UInt8, T.length = 8 ∧ (∀ i, i < j → T[i]? = some (bitc 8 k i)) ∧ ws.ownsRow wo.heap.size 5 1 (.slice (some ⟨wo.heap.size, 0, none⟩) 8 8) 8 (bys T) ∧ Below wo.heap.size wo ws)) (fun v8 _ => 8 - (intOf v8).toNat)
      case atStart => exact ⟨0, rfl, Nat.zero_le _, HS0⟩
      case round =>
        clear HS0
        obtain ⟨j, rfl, hj, HT⟩ := hrel
        obtain ⟨T, hT, hTi, ho, hB⟩ := HT.out
        by_cases hltj : j < 8
        · have r1 : (j : Int) < 8 := by omega
          have r0 : (0 : Int) ≤ (j : Int) := by omega
          have r2 : (0 : Int) ≤ 7 - (j : Int) := by omega
          have r3 : ¬ (7 - (j : Int)) < 0 := by omega
          obtain ⟨cv, hc⟩ : ∃ v, wr.cell? ⟨wo.heap.size, j, none⟩ = some v := by
            have h := ho.cellAt j (by omega)
            refine ⟨.int .u8 ((T[j]'(by omega)).toNat : Int), ?_⟩
            rw [h]
            simp [bys, List.getElem?_eq_getElem (show j < T.length by omega)]
          have hf := ho.frozenAt j
          have HST : Hid (∀ z : Int, z = ((bitc 8 k j).toNat : Int) → ∃ T : List UInt8, T.length = 8 ∧ (∀ i, i < j + 1 → T[i]? = some (bitc 8 k i)) ∧ (wr.setCell ⟨wo.heap.size, j, none⟩ (.int .u8 z)).ownsRow wo.heap.size 5 1 (.slice (some ⟨wo.heap.size, 0, none⟩) 8 8) 8 (bys T) ∧ Below wo.heap.size wo (wr.setCell ⟨wo.heap.size, j, none⟩ (.int .u8 z))) := fun z hz => by
            subst hz
            refine ⟨T.set j (bitc 8 k j), by rw [List.length_set]; exact hT, fun i hi => ?_, ?_, hB.setCell (Nat.le_refl _) _⟩
            · by_cases e : i = j
              · subst e
                rw [List.getElem?_set_self (by omega)]
              · rw [List.getElem?_set_ne (by omega)]
                exact hTi i (by omega)
            · have h := (ho.stored j (.int .u8 ((bitc 8 k j).toNat : Int))).1
              have e : bys (T.set j (bitc 8 k j)) = (bys T).set j (.int .u8 ((bitc 8 k j).toNat : Int)) := by
                unfold bys
                rw [List.map_set]
              rw [e]
              exact h
          clear HT hT ho hB hTi
          go_wp2_with fail
          go_roundw
          case rel => exact ⟨j + 1, by go_num, by omega, HST.out _ (hbit8 k hlt j hltj)⟩
          case measure => simp [intOf]; omega
        · have r1 : ¬ (j : Int) < 8 := by omega
          obtain rfl : T = hdT 8 k := hdT_of hT (fun i hi => hTi i (by omega))
          have hcv := conv_owned wr wo.heap.size wo.heap.size 8 (hdT 8 k) (by rw [hT]; exact ho)
          rw [hT] at hcv
          obtain ⟨hoD, hBD⟩ := HI.out
          have o5 := own_belQ hoD hB
          have hBw := bel0 hBD hB
          have hsw := hBw.size
          obtain ⟨T2, hT2⟩ : ∃ T2, hdT 8 k = T2 := ⟨_, rfl⟩
          rw [hT2] at hcv
          clear HT hT ho hB hTi hoD hBD HI
          go_wp2_with (at_builtin; refine wpList_append_own _ rfl _ _ 22 rfl w.heap.size 9 iS _ 1 16 Tryz.underlying22 hiS hzS0 hzS1 hzS2 rfl (by decide) _ _ _ rfl (o5.alloc _) ⟨_, 0, none⟩ 1 1 [.string ⟨T2.toArray⟩] rfl rfl (World.news_of_block (cs := #[.string ⟨T2.toArray⟩]) (t := 9) (fr := (0, 0)) (alloc_get _ _)) (by simp [Value.oneCell']) (by unfold maxLen; omega) (by omega) (by simp; omega) ?_; intro v9 w9 o9 g9 _)
          have HX : Hid (w9.ownsRow w.heap.size 9 1 v9 (k + 1) (stx (hdL 8 (k + 1))) ∧ Below w.heap.size w w9) := by
            refine ⟨?_, (belA hBw _).grown g9 (by simp; omega) (fun b e => (o5.lt b e).1)⟩
            have e5 : stx (hdL 8 (k + 1)) = stx (hdL 8 k) ++ [.string ⟨T2.toArray⟩] := by rw [hdL_succ, hT2]; simp [stx]
            rw [e5]
            exact o9
          clear o5 o9 g9 hBw hcv hT2
          go_wp2_with fail
          go_roundw
          case rel => exact ⟨k + 1, by go_num, by omega, HX⟩
          case measure => simp [intOf]; omega
    · have j1 : ¬ (k : Int) < 256 := by omega
      obtain rfl : k = 256 := by omega
      obtain ⟨hoD, hBD⟩ := HI.out
      obtain ⟨p, c, rfl⟩ := shapeQ1 hoD
      have HR : Hid (wr.ownsRow w.heap.size 9 1 (.slice p 256 c) 256 (stx (hdL 8 256)) ∧ Below w.heap.size w wr) := ⟨hoD, hBD⟩
      clear HI hoD hBD
      go_wp2_with fail
      go_ret
      exact ⟨p, c, rfl, HR.out.1, HR.out.2⟩
/-- headers of a small width: all of them, in order -/
theorem headersX (b : Nat) (h1 : 1 ≤ b) (h2 : b ≤ 8) (q : Option Addr) (len cap : Nat) (w : World) : Calls Tryz.prog 10 #[.int .i64 (b : Int), .slice q len cap] w fun e w' => HDX b w e w' := by
  rcases (show b = 1 ∨ b = 2 ∨ b = 3 ∨ b = 4 ∨ b = 5 ∨ b = 6 ∨ b = 7 ∨ b = 8 by omega) with rfl | rfl | rfl | rfl | rfl | rfl | rfl | rfl
  · exact hdx1 q len cap w
  · exact hdx2 q len cap w
  · exact hdx3 q len cap w
  · exact hdx4 q len cap w
  · exact hdx5 q len cap w
  · exact hdx6 q len cap w
  · exact hdx7 q len cap w
  · exact hdx8 q len cap w
/-- the number of a header -/
def valT : List UInt8 → Nat
  | [] => 0
  | c :: r => (if c = 49 then 1 else 0) * 2 ^ r.length + valT r
theorem valT_lt : ∀ x : List UInt8, valT x < 2 ^ x.length
  | [] => by simp [valT]
  | c :: r => by
    have h := valT_lt r
    show (if c = 49 then 1 else 0) * 2 ^ r.length + valT r < 2 ^ (r.length + 1)
    rw [Nat.pow_succ]
    split <;> omega
theorem valT_bit : ∀ (x : List UInt8) (j : Nat) (hj : j < x.length), x.all digB = true → bitc x.length (valT x) j = x[j]
  | [], j, hj, _ => by simp at hj
  | c :: r, j, hj, hd => by
    have hr := valT_lt r
    rw [List.all_cons, Bool.and_eq_true] at hd
    have hc : c = 48 ∨ c = 49 := by simpa [digB] using hd.1
    unfold bitc
    show (if ((if c = 49 then 1 else 0) * 2 ^ r.length + valT r) / 2 ^ (r.length + 1 - 1 - j) % 2 = 1 then 49 else 48) = _
    cases j with
    | zero =>
      rw [show r.length + 1 - 1 - 0 = r.length by omega, Nat.add_comm, Nat.add_mul_div_right _ _ (Nat.two_pow_pos _), Nat.div_eq_of_lt hr]
      rcases hc with rfl | rfl <;> rfl
    | succ j =>
      have hj2 : j < r.length := by simpa using hj
      have ih := valT_bit r j hj2 hd.2
      unfold bitc at ih
      rw [List.getElem_cons_succ, ← ih]
      have e : 2 ^ r.length = 2 ^ (j + 1) * 2 ^ (r.length - 1 - j) := by
        rw [← Nat.pow_add]
        congr 1
        omega
      rw [show r.length + 1 - 1 - (j + 1) = r.length - 1 - j by omega]
      have e2 : ((if c = 49 then 1 else 0) * 2 ^ r.length + valT r) / 2 ^ (r.length - 1 - j) % 2 = valT r / 2 ^ (r.length - 1 - j) % 2 := by
        rw [e, ← Nat.mul_assoc, Nat.add_comm, Nat.add_mul_div_right _ _ (Nat.two_pow_pos _), Nat.pow_succ, ← Nat.mul_assoc, Nat.add_mul_mod_self_right]
      rw [e2]
theorem hdT_all {b : Nat} {x : List UInt8} (hl : x.length = b) (hd : x.all digB = true) : valT x < 2 ^ b ∧ x = hdT b (valT x) := by
  subst hl
  refine ⟨valT_lt x, hdT_of rfl (fun i hi => ?_)⟩
  rw [List.getElem?_eq_getElem hi, valT_bit x i hi hd]
theorem hdL_mem {b : Nat} {x : List UInt8} (hl : x.length = b) (hd : x.all digB = true) : (hdL b (2 ^ b))[valT x]? = some x := by
  obtain ⟨h1, h2⟩ := hdT_all hl hd
  unfold hdL
  rw [List.getElem?_map, List.getElem?_range h1]
  exact congrArg some h2.symm
end Go.Proofs.YtekjbpemaohipaaGreatDoor
