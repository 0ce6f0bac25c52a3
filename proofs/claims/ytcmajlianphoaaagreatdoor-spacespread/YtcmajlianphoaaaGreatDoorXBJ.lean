import Derived.Test.YtcmajlianphoaaaGreatDoorXBI
import Derived.Test.YtcmajlianphoaaaGreatDoorXAQ
namespace Go.Proofs.YtcmajlianphoaaaGreatDoor
open Go.RowKit Go.Shelf
/-- what headers answers -/
def HDQ (w : World) (e : Ending) (w' : World) : Prop := ∃ q' n' c', e = .returned (.slice q' n' c') ∧ n' ≤ 256 ∧ RST w' q' n' ∧ Below w.heap.size w w'
theorem bys_zero (n : Nat) : bys (List.replicate n 0) = List.replicate n (Value.int .u8 0) := by simp [bys]
theorem hdr_low (b : Int) (q : Option Addr) (len cap : Nat) (w : World) (hb : b < 1 ∨ 8 < b) (hcap : len ≤ cap) (hr : RST w q len) : Calls Tryz.prog 10 #[.int .i64 b, .slice q len cap] w fun e w' => HDQ w e w' := by
  have HR : Hid (RST w q len) := hr
  clear hr
  by_cases hl : 64 < len
  · obtain ⟨ad, x, rfl, -, -⟩ := HR.out w (Below.refl _ _) 0 (by omega)
    have m1 : (64 : Int) < (len : Int) := by omega
    have m2 : (64 : Int) ≤ (cap : Int) := by omega
    have m3 : 64 ≤ cap := by omega
    by_cases h1 : b < 1
    · clear hb
      go_enter Tryz.func10, Tryz.ntmps10
      go_wp2_with fail
      go_ret
      exact ⟨_, _, _, rfl, by omega, HR.out.less (by omega), Below.refl _ _⟩
    · have h2 : 8 < b := hb.resolve_left h1
      clear hb
      go_enter Tryz.func10, Tryz.ntmps10
      go_wp2_with fail
      go_ret
      exact ⟨_, _, _, rfl, by omega, HR.out.less (by omega), Below.refl _ _⟩
  · have m1 : ¬ (64 : Int) < (len : Int) := by omega
    by_cases h1 : b < 1
    · clear hb
      go_enter Tryz.func10, Tryz.ntmps10
      go_wp2_with fail
      go_ret
      exact ⟨_, _, _, rfl, by omega, HR.out, Below.refl _ _⟩
    · have h2 : 8 < b := hb.resolve_left h1
      clear hb
      go_enter Tryz.func10, Tryz.ntmps10
      go_wp2_with fail
      go_ret
      exact ⟨_, _, _, rfl, by omega, HR.out, Below.refl _ _⟩
theorem rst_own {W : World} {B n c : Nat} {p : Option Addr} {D : List (List UInt8)} (h : W.ownsRow B 9 1 (.slice p n c) n (stx D)) (hD : D.length = n) (hl : ∀ x ∈ D, x.length ≤ maxLen) : RST W p n := fun X hX i hi => by
  have hx : D[i]? = some (D[i]'(by omega)) := List.getElem?_eq_getElem (by omega)
  obtain ⟨g, o0, rfl, hc⟩ := IRSt_own h hD X hX i _ hx
  exact ⟨⟨g, o0, none⟩, _, rfl, by rw [add_plain]; exact hc, hl _ (List.getElem_mem _)⟩
set_option maxRecDepth 100000 in
set_option maxHeartbeats 8000000 in
theorem hdr_one (q : Option Addr) (len cap : Nat) (w : World) : Calls Tryz.prog 10 #[.int .i64 1, .slice q len cap] w fun e w' => HDQ w e w' := by
  obtain ⟨iS, hiS, hzS0, hzS1, hzS2⟩ := info_parts info_str2
  obtain ⟨i0, hi, hz0, hz1, hz2⟩ := info_parts info_u8
  go_enter Tryz.func10, Tryz.ntmps10
  go_wp2_with fail
  go_loopw [5, 6] (fun v5 v6 wr => ∃ (k : Nat) (D : List (List UInt8)), v6 = .int .i64 (k : Int) ∧ k ≤ 2 ∧ Hid (D.length = k ∧ (∀ x ∈ D, x.length = 1) ∧ wr.ownsRow w.heap.size 9 1 v5 k (stx D) ∧ Below w.heap.size w wr)) (fun _ v6 _ => 2 - (intOf v6).toNat)
  case atStart => exact ⟨0, [], rfl, Nat.zero_le _, rfl, (fun x hx => by cases hx), World.ownsRow_nil _ _ _ _, Below.refl _ _⟩
  case round =>
    obtain ⟨k, D, rfl, hk, HI⟩ := hrel
    by_cases hlt : k < 2
    · have j1 : (k : Int) < 2 := by omega
      obtain ⟨wo, rfl⟩ : ∃ wo, wo = wr := ⟨wr, rfl⟩
      go_wp2_with (at_make; refine wpList_make_full _ rfl _ _ 72 rfl wo.heap.size 5 i0 (.int .u8 0) 1 Tryz.underlying72 hi hz0 hz1 .i64 .i64 _ _ 1 rfl rfl rfl rfl (by rw [hz2]; omega) (by unfold maxLen; omega) (Nat.le_refl _) ?_; intro w1 hown hgrow)
      have hB1 : Below wo.heap.size wo w1 := (Below.refl _ _).grown hgrow (Nat.le_refl _) (fun k h => by cases h)
      have HS0 : Hid (∃ T : List UInt8, T.length = 1 ∧ w1.ownsRow wo.heap.size 5 1 (.slice (some ⟨wo.heap.size, 0, none⟩) 1 1) 1 (bys T) ∧ Below wo.heap.size wo w1) := by
        refine ⟨List.replicate 1 0, by simp, ?_, hB1⟩
        rw [bys_zero]
        have h1 : (madeCells (Value.int IntKind.u8 0).cells (1 * 1)).toList = List.replicate 1 (.int .u8 0) := toList_madeCells_one _ _
        rw [h1] at hown
        exact hown
      clear hown hgrow hB1
      go_loopw [8] (fun v8 ws => ∃ j : Nat, v8 = .int .i64 (j : Int) ∧ j ≤ 1 ∧ Hid (∃ T : List UInt8, T.length = 1 ∧ ws.ownsRow wo.heap.size 5 1 (.slice (some ⟨wo.heap.size, 0, none⟩) 1 1) 1 (bys T) ∧ Below wo.heap.size wo ws)) (fun v8 _ => 1 - (intOf v8).toNat)
      case atStart => exact ⟨0, rfl, Nat.zero_le _, HS0⟩
      case round =>
        clear HS0
        obtain ⟨j, rfl, hj, HT⟩ := hrel
        obtain ⟨T, hT, ho, hB⟩ := HT.out
        by_cases hltj : j < 1
        · have r1 : (j : Int) < 1 := by omega
          have r0 : (0 : Int) ≤ (j : Int) := by omega
          have r2 : (0 : Int) ≤ 0 - (j : Int) := by omega
          have r3 : ¬ (0 - (j : Int)) < 0 := by omega
          obtain ⟨cv, hc⟩ : ∃ v, wr.cell? ⟨wo.heap.size, j, none⟩ = some v := by
            have h := ho.cellAt j (by omega)
            refine ⟨.int .u8 ((T[j]'(by omega)).toNat : Int), ?_⟩
            rw [h]
            simp [bys, List.getElem?_eq_getElem (show j < T.length by omega)]
          have hf := ho.frozenAt j
          have HST : Hid (∀ z : Int, 0 ≤ z → z < 256 → ∃ T : List UInt8, T.length = 1 ∧ (wr.setCell ⟨wo.heap.size, j, none⟩ (.int .u8 z)).ownsRow wo.heap.size 5 1 (.slice (some ⟨wo.heap.size, 0, none⟩) 1 1) 1 (bys T) ∧ Below wo.heap.size wo (wr.setCell ⟨wo.heap.size, j, none⟩ (.int .u8 z))) := fun z h0 h1 => by
            refine ⟨T.set j (UInt8.ofNat z.toNat), by rw [List.length_set]; exact hT, ?_, hB.setCell (Nat.le_refl _) _⟩
            have h := (ho.stored j (.int .u8 z)).1
            have e : bys (T.set j (UInt8.ofNat z.toNat)) = (bys T).set j (.int .u8 z) := by
              unfold bys
              rw [List.map_set]
              congr 2
              have : (UInt8.ofNat z.toNat).toNat = z.toNat := by
                rw [UInt8.toNat_ofNat']
                omega
              rw [this]
              omega
            rw [e]
            exact h
          clear HT hT ho hB
          go_wp2_with fail
          go_roundw
          case rel => exact ⟨j + 1, by go_num, by omega, HST.out _ (Int.emod_nonneg _ (by decide)) (Int.emod_lt_of_pos _ (by decide))⟩
          case measure => simp [intOf]; omega
        · have r1 : ¬ (j : Int) < 1 := by omega
          have hcv := conv_owned wr wo.heap.size wo.heap.size 1 T (by rw [hT]; exact ho)
          rw [hT] at hcv
          obtain ⟨hD, hDl, hoD, hBD⟩ := HI.out
          have o5 := own_belQ hoD hB
          have hBw := bel0 hBD hB
          have hsw := hBw.size
          have HN : Hid (D.length = k ∧ (∀ x ∈ D, x.length = 1) ∧ T.length = 1) := ⟨hD, hDl, hT⟩
          clear HT hT ho hB hD hDl hoD hBD HI
          go_wp2_with (at_builtin; refine wpList_append_own _ rfl _ _ 22 rfl w.heap.size 9 iS _ 1 16 Tryz.underlying22 hiS hzS0 hzS1 hzS2 rfl (by decide) _ _ _ rfl (o5.alloc _) ⟨_, 0, none⟩ 1 1 [.string ⟨T.toArray⟩] rfl rfl (World.news_of_block (cs := #[.string ⟨T.toArray⟩]) (t := 9) (fr := (0, 0)) (alloc_get _ _)) (by simp [Value.oneCell']) (by unfold maxLen; omega) (by omega) (by simp; omega) ?_; intro v9 w9 o9 g9 _)
          have HX : Hid ((D ++ [T]).length = k + 1 ∧ (∀ x ∈ D ++ [T], x.length = 1) ∧ w9.ownsRow w.heap.size 9 1 v9 (k + 1) (stx (D ++ [T])) ∧ Below w.heap.size w w9) := by
            refine ⟨by rw [List.length_append, HN.out.1]; rfl, fun x hx => ?_, ?_, (belA hBw _).grown g9 (by simp; omega) (fun b e => (o5.lt b e).1)⟩
            · rcases List.mem_append.1 hx with hx | hx
              · exact HN.out.2.1 x hx
              · obtain rfl := List.mem_singleton.1 hx
                exact HN.out.2.2
            · have e5 : stx (D ++ [T]) = stx D ++ [.string ⟨T.toArray⟩] := by simp [stx]
              rw [e5]
              exact o9
          clear o5 o9 g9 hBw hcv
          go_wp2_with fail
          go_roundw
          case rel => exact ⟨k + 1, D ++ [T], by go_num, by omega, HX⟩
          case measure => simp [intOf]; omega
    · have j1 : ¬ (k : Int) < 2 := by omega
      obtain ⟨hD, hDl, hoD, hBD⟩ := HI.out
      obtain ⟨p, c, rfl⟩ := shapeQ1 hoD
      have HR : Hid (RST wr p k ∧ Below w.heap.size w wr) := ⟨rst_own hoD hD (fun x hx => by rw [hDl x hx]; unfold maxLen; omega), hBD⟩
      clear HI hD hDl hoD hBD
      go_wp2_with fail
      go_ret
      exact ⟨_, _, _, rfl, by omega, HR.out⟩
set_option maxRecDepth 100000 in
set_option maxHeartbeats 8000000 in
theorem hdr_two (q : Option Addr) (len cap : Nat) (w : World) : Calls Tryz.prog 10 #[.int .i64 2, .slice q len cap] w fun e w' => HDQ w e w' := by
  obtain ⟨iS, hiS, hzS0, hzS1, hzS2⟩ := info_parts info_str2
  obtain ⟨i0, hi, hz0, hz1, hz2⟩ := info_parts info_u8
  go_enter Tryz.func10, Tryz.ntmps10
  go_wp2_with fail
  go_loopw [5, 6] (fun v5 v6 wr => ∃ (k : Nat) (D : List (List UInt8)), v6 = .int .i64 (k : Int) ∧ k ≤ 4 ∧ Hid (D.length = k ∧ (∀ x ∈ D, x.length = 2) ∧ wr.ownsRow w.heap.size 9 1 v5 k (stx D) ∧ Below w.heap.size w wr)) (fun _ v6 _ => 4 - (intOf v6).toNat)
  case atStart => exact ⟨0, [], rfl, Nat.zero_le _, rfl, (fun x hx => by cases hx), World.ownsRow_nil _ _ _ _, Below.refl _ _⟩
  case round =>
    obtain ⟨k, D, rfl, hk, HI⟩ := hrel
    by_cases hlt : k < 4
    · have j1 : (k : Int) < 4 := by omega
      obtain ⟨wo, rfl⟩ : ∃ wo, wo = wr := ⟨wr, rfl⟩
      go_wp2_with (at_make; refine wpList_make_full _ rfl _ _ 72 rfl wo.heap.size 5 i0 (.int .u8 0) 1 Tryz.underlying72 hi hz0 hz1 .i64 .i64 _ _ 2 rfl rfl rfl rfl (by rw [hz2]; omega) (by unfold maxLen; omega) (Nat.le_refl _) ?_; intro w1 hown hgrow)
      have hB1 : Below wo.heap.size wo w1 := (Below.refl _ _).grown hgrow (Nat.le_refl _) (fun k h => by cases h)
      have HS0 : Hid (∃ T : List UInt8, T.length = 2 ∧ w1.ownsRow wo.heap.size 5 1 (.slice (some ⟨wo.heap.size, 0, none⟩) 2 2) 2 (bys T) ∧ Below wo.heap.size wo w1) := by
        refine ⟨List.replicate 2 0, by simp, ?_, hB1⟩
        rw [bys_zero]
        have h1 : (madeCells (Value.int IntKind.u8 0).cells (2 * 1)).toList = List.replicate 2 (.int .u8 0) := toList_madeCells_one _ _
        rw [h1] at hown
        exact hown
      clear hown hgrow hB1
      go_loopw [8] (fun v8 ws => ∃ j : Nat, v8 = .int .i64 (j : Int) ∧ j ≤ 2 ∧ Hid (∃ T : List UInt8, T.length = 2 ∧ ws.ownsRow wo.heap.size 5 1 (.slice (some ⟨wo.heap.size, 0, none⟩) 2 2) 2 (bys T) ∧ Below wo.heap.size wo ws)) (fun v8 _ => 2 - (intOf v8).toNat)
      case atStart => exact ⟨0, rfl, Nat.zero_le _, HS0⟩
      case round =>
        clear HS0
        obtain ⟨j, rfl, hj, HT⟩ := hrel
        obtain ⟨T, hT, ho, hB⟩ := HT.out
        by_cases hltj : j < 2
        · have r1 : (j : Int) < 2 := by omega
          have r0 : (0 : Int) ≤ (j : Int) := by omega
          have r2 : (0 : Int) ≤ 1 - (j : Int) := by omega
          have r3 : ¬ (1 - (j : Int)) < 0 := by omega
          obtain ⟨cv, hc⟩ : ∃ v, wr.cell? ⟨wo.heap.size, j, none⟩ = some v := by
            have h := ho.cellAt j (by omega)
            refine ⟨.int .u8 ((T[j]'(by omega)).toNat : Int), ?_⟩
            rw [h]
            simp [bys, List.getElem?_eq_getElem (show j < T.length by omega)]
          have hf := ho.frozenAt j
          have HST : Hid (∀ z : Int, 0 ≤ z → z < 256 → ∃ T : List UInt8, T.length = 2 ∧ (wr.setCell ⟨wo.heap.size, j, none⟩ (.int .u8 z)).ownsRow wo.heap.size 5 1 (.slice (some ⟨wo.heap.size, 0, none⟩) 2 2) 2 (bys T) ∧ Below wo.heap.size wo (wr.setCell ⟨wo.heap.size, j, none⟩ (.int .u8 z))) := fun z h0 h1 => by
            refine ⟨T.set j (UInt8.ofNat z.toNat), by rw [List.length_set]; exact hT, ?_, hB.setCell (Nat.le_refl _) _⟩
            have h := (ho.stored j (.int .u8 z)).1
            have e : bys (T.set j (UInt8.ofNat z.toNat)) = (bys T).set j (.int .u8 z) := by
              unfold bys
              rw [List.map_set]
              congr 2
              have : (UInt8.ofNat z.toNat).toNat = z.toNat := by
                rw [UInt8.toNat_ofNat']
                omega
              rw [this]
              omega
            rw [e]
            exact h
          clear HT hT ho hB
          go_wp2_with fail
          go_roundw
          case rel => exact ⟨j + 1, by go_num, by omega, HST.out _ (Int.emod_nonneg _ (by decide)) (Int.emod_lt_of_pos _ (by decide))⟩
          case measure => simp [intOf]; omega
        · have r1 : ¬ (j : Int) < 2 := by omega
          have hcv := conv_owned wr wo.heap.size wo.heap.size 2 T (by rw [hT]; exact ho)
          rw [hT] at hcv
          obtain ⟨hD, hDl, hoD, hBD⟩ := HI.out
          have o5 := own_belQ hoD hB
          have hBw := bel0 hBD hB
          have hsw := hBw.size
          have HN : Hid (D.length = k ∧ (∀ x ∈ D, x.length = 2) ∧ T.length = 2) := ⟨hD, hDl, hT⟩
          clear HT hT ho hB hD hDl hoD hBD HI
          go_wp2_with (at_builtin; refine wpList_append_own _ rfl _ _ 22 rfl w.heap.size 9 iS _ 1 16 Tryz.underlying22 hiS hzS0 hzS1 hzS2 rfl (by decide) _ _ _ rfl (o5.alloc _) ⟨_, 0, none⟩ 1 1 [.string ⟨T.toArray⟩] rfl rfl (World.news_of_block (cs := #[.string ⟨T.toArray⟩]) (t := 9) (fr := (0, 0)) (alloc_get _ _)) (by simp [Value.oneCell']) (by unfold maxLen; omega) (by omega) (by simp; omega) ?_; intro v9 w9 o9 g9 _)
          have HX : Hid ((D ++ [T]).length = k + 1 ∧ (∀ x ∈ D ++ [T], x.length = 2) ∧ w9.ownsRow w.heap.size 9 1 v9 (k + 1) (stx (D ++ [T])) ∧ Below w.heap.size w w9) := by
            refine ⟨by rw [List.length_append, HN.out.1]; rfl, fun x hx => ?_, ?_, (belA hBw _).grown g9 (by simp; omega) (fun b e => (o5.lt b e).1)⟩
            · rcases List.mem_append.1 hx with hx | hx
              · exact HN.out.2.1 x hx
              · obtain rfl := List.mem_singleton.1 hx
                exact HN.out.2.2
            · have e5 : stx (D ++ [T]) = stx D ++ [.string ⟨T.toArray⟩] := by simp [stx]
              rw [e5]
              exact o9
          clear o5 o9 g9 hBw hcv
          go_wp2_with fail
          go_roundw
          case rel => exact ⟨k + 1, D ++ [T], by go_num, by omega, HX⟩
          case measure => simp [intOf]; omega
    · have j1 : ¬ (k : Int) < 4 := by omega
      obtain ⟨hD, hDl, hoD, hBD⟩ := HI.out
      obtain ⟨p, c, rfl⟩ := shapeQ1 hoD
      have HR : Hid (RST wr p k ∧ Below w.heap.size w wr) := ⟨rst_own hoD hD (fun x hx => by rw [hDl x hx]; unfold maxLen; omega), hBD⟩
      clear HI hD hDl hoD hBD
      go_wp2_with fail
      go_ret
      exact ⟨_, _, _, rfl, by omega, HR.out⟩
set_option maxRecDepth 100000 in
set_option maxHeartbeats 8000000 in
theorem hdr_three (q : Option Addr) (len cap : Nat) (w : World) : Calls Tryz.prog 10 #[.int .i64 3, .slice q len cap] w fun e w' => HDQ w e w' := by
  obtain ⟨iS, hiS, hzS0, hzS1, hzS2⟩ := info_parts info_str2
  obtain ⟨i0, hi, hz0, hz1, hz2⟩ := info_parts info_u8
  go_enter Tryz.func10, Tryz.ntmps10
  go_wp2_with fail
  go_loopw [5, 6] (fun v5 v6 wr => ∃ (k : Nat) (D : List (List UInt8)), v6 = .int .i64 (k : Int) ∧ k ≤ 8 ∧ Hid (D.length = k ∧ (∀ x ∈ D, x.length = 3) ∧ wr.ownsRow w.heap.size 9 1 v5 k (stx D) ∧ Below w.heap.size w wr)) (fun _ v6 _ => 8 - (intOf v6).toNat)
  case atStart => exact ⟨0, [], rfl, Nat.zero_le _, rfl, (fun x hx => by cases hx), World.ownsRow_nil _ _ _ _, Below.refl _ _⟩
  case round =>
    obtain ⟨k, D, rfl, hk, HI⟩ := hrel
    by_cases hlt : k < 8
    · have j1 : (k : Int) < 8 := by omega
      obtain ⟨wo, rfl⟩ : ∃ wo, wo = wr := ⟨wr, rfl⟩
      go_wp2_with (at_make; refine wpList_make_full _ rfl _ _ 72 rfl wo.heap.size 5 i0 (.int .u8 0) 1 Tryz.underlying72 hi hz0 hz1 .i64 .i64 _ _ 3 rfl rfl rfl rfl (by rw [hz2]; omega) (by unfold maxLen; omega) (Nat.le_refl _) ?_; intro w1 hown hgrow)
      have hB1 : Below wo.heap.size wo w1 := (Below.refl _ _).grown hgrow (Nat.le_refl _) (fun k h => by cases h)
      have HS0 : Hid (∃ T : List UInt8, T.length = 3 ∧ w1.ownsRow wo.heap.size 5 1 (.slice (some ⟨wo.heap.size, 0, none⟩) 3 3) 3 (bys T) ∧ Below wo.heap.size wo w1) := by
        refine ⟨List.replicate 3 0, by simp, ?_, hB1⟩
        rw [bys_zero]
        have h1 : (madeCells (Value.int IntKind.u8 0).cells (3 * 1)).toList = List.replicate 3 (.int .u8 0) := toList_madeCells_one _ _
        rw [h1] at hown
        exact hown
      clear hown hgrow hB1
      go_loopw [8] (fun v8 ws => ∃ j : Nat, v8 = .int .i64 (j : Int) ∧ j ≤ 3 ∧ Hid (∃ T : List UInt8, T.length = 3 ∧ ws.ownsRow wo.heap.size 5 1 (.slice (some ⟨wo.heap.size, 0, none⟩) 3 3) 3 (bys T) ∧ Below wo.heap.size wo ws)) (fun v8 _ => 3 - (intOf v8).toNat)
      case atStart => exact ⟨0, rfl, Nat.zero_le _, HS0⟩
      case round =>
        clear HS0
        obtain ⟨j, rfl, hj, HT⟩ := hrel
        obtain ⟨T, hT, ho, hB⟩ := HT.out
        by_cases hltj : j < 3
        · have r1 : (j : Int) < 3 := by omega
          have r0 : (0 : Int) ≤ (j : Int) := by omega
          have r2 : (0 : Int) ≤ 2 - (j : Int) := by omega
          have r3 : ¬ (2 - (j : Int)) < 0 := by omega
          obtain ⟨cv, hc⟩ : ∃ v, wr.cell? ⟨wo.heap.size, j, none⟩ = some v := by
            have h := ho.cellAt j (by omega)
            refine ⟨.int .u8 ((T[j]'(by omega)).toNat : Int), ?_⟩
            rw [h]
            simp [bys, List.getElem?_eq_getElem (show j < T.length by omega)]
          have hf := ho.frozenAt j
          have HST : Hid (∀ z : Int, 0 ≤ z → z < 256 → ∃ T : List UInt8, T.length = 3 ∧ (wr.setCell ⟨wo.heap.size, j, none⟩ (.int .u8 z)).ownsRow wo.heap.size 5 1 (.slice (some ⟨wo.heap.size, 0, none⟩) 3 3) 3 (bys T) ∧ Below wo.heap.size wo (wr.setCell ⟨wo.heap.size, j, none⟩ (.int .u8 z))) := fun z h0 h1 => by
            refine ⟨T.set j (UInt8.ofNat z.toNat), by rw [List.length_set]; exact hT, ?_, hB.setCell (Nat.le_refl _) _⟩
            have h := (ho.stored j (.int .u8 z)).1
            have e : bys (T.set j (UInt8.ofNat z.toNat)) = (bys T).set j (.int .u8 z) := by
              unfold bys
              rw [List.map_set]
              congr 2
              have : (UInt8.ofNat z.toNat).toNat = z.toNat := by
                rw [UInt8.toNat_ofNat']
                omega
              rw [this]
              omega
            rw [e]
            exact h
          clear HT hT ho hB
          go_wp2_with fail
          go_roundw
          case rel => exact ⟨j + 1, by go_num, by omega, HST.out _ (Int.emod_nonneg _ (by decide)) (Int.emod_lt_of_pos _ (by decide))⟩
          case measure => simp [intOf]; omega
        · have r1 : ¬ (j : Int) < 3 := by omega
          have hcv := conv_owned wr wo.heap.size wo.heap.size 3 T (by rw [hT]; exact ho)
          rw [hT] at hcv
          obtain ⟨hD, hDl, hoD, hBD⟩ := HI.out
          have o5 := own_belQ hoD hB
          have hBw := bel0 hBD hB
          have hsw := hBw.size
          have HN : Hid (D.length = k ∧ (∀ x ∈ D, x.length = 3) ∧ T.length = 3) := ⟨hD, hDl, hT⟩
          clear HT hT ho hB hD hDl hoD hBD HI
          go_wp2_with (at_builtin; refine wpList_append_own _ rfl _ _ 22 rfl w.heap.size 9 iS _ 1 16 Tryz.underlying22 hiS hzS0 hzS1 hzS2 rfl (by decide) _ _ _ rfl (o5.alloc _) ⟨_, 0, none⟩ 1 1 [.string ⟨T.toArray⟩] rfl rfl (World.news_of_block (cs := #[.string ⟨T.toArray⟩]) (t := 9) (fr := (0, 0)) (alloc_get _ _)) (by simp [Value.oneCell']) (by unfold maxLen; omega) (by omega) (by simp; omega) ?_; intro v9 w9 o9 g9 _)
          have HX : Hid ((D ++ [T]).length = k + 1 ∧ (∀ x ∈ D ++ [T], x.length = 3) ∧ w9.ownsRow w.heap.size 9 1 v9 (k + 1) (stx (D ++ [T])) ∧ Below w.heap.size w w9) := by
            refine ⟨by rw [List.length_append, HN.out.1]; rfl, fun x hx => ?_, ?_, (belA hBw _).grown g9 (by simp; omega) (fun b e => (o5.lt b e).1)⟩
            · rcases List.mem_append.1 hx with hx | hx
              · exact HN.out.2.1 x hx
              · obtain rfl := List.mem_singleton.1 hx
                exact HN.out.2.2
            · have e5 : stx (D ++ [T]) = stx D ++ [.string ⟨T.toArray⟩] := by simp [stx]
              rw [e5]
              exact o9
          clear o5 o9 g9 hBw hcv
          go_wp2_with fail
          go_roundw
          case rel => exact ⟨k + 1, D ++ [T], by go_num, by omega, HX⟩
          case measure => simp [intOf]; omega
    · have j1 : ¬ (k : Int) < 8 := by omega
      obtain ⟨hD, hDl, hoD, hBD⟩ := HI.out
      obtain ⟨p, c, rfl⟩ := shapeQ1 hoD
      have HR : Hid (RST wr p k ∧ Below w.heap.size w wr) := ⟨rst_own hoD hD (fun x hx => by rw [hDl x hx]; unfold maxLen; omega), hBD⟩
      clear HI hD hDl hoD hBD
      go_wp2_with fail
      go_ret
      exact ⟨_, _, _, rfl, by omega, HR.out⟩
set_option maxRecDepth 100000 in
set_option maxHeartbeats 8000000 in
theorem hdr_four (q : Option Addr) (len cap : Nat) (w : World) : Calls Tryz.prog 10 #[.int .i64 4, .slice q len cap] w fun e w' => HDQ w e w' := by
  obtain ⟨iS, hiS, hzS0, hzS1, hzS2⟩ := info_parts info_str2
  obtain ⟨i0, hi, hz0, hz1, hz2⟩ := info_parts info_u8
  go_enter Tryz.func10, Tryz.ntmps10
  go_wp2_with fail
  go_loopw [5, 6] (fun v5 v6 wr => ∃ (k : Nat) (D : List (List UInt8)), v6 = .int .i64 (k : Int) ∧ k ≤ 16 ∧ Hid (D.length = k ∧ (∀ x ∈ D, x.length = 4) ∧ wr.ownsRow w.heap.size 9 1 v5 k (stx D) ∧ Below w.heap.size w wr)) (fun _ v6 _ => 16 - (intOf v6).toNat)
  case atStart => exact ⟨0, [], rfl, Nat.zero_le _, rfl, (fun x hx => by cases hx), World.ownsRow_nil _ _ _ _, Below.refl _ _⟩
  case round =>
    obtain ⟨k, D, rfl, hk, HI⟩ := hrel
    by_cases hlt : k < 16
    · have j1 : (k : Int) < 16 := by omega
      obtain ⟨wo, rfl⟩ : ∃ wo, wo = wr := ⟨wr, rfl⟩
      go_wp2_with (at_make; refine wpList_make_full _ rfl _ _ 72 rfl wo.heap.size 5 i0 (.int .u8 0) 1 Tryz.underlying72 hi hz0 hz1 .i64 .i64 _ _ 4 rfl rfl rfl rfl (by rw [hz2]; omega) (by unfold maxLen; omega) (Nat.le_refl _) ?_; intro w1 hown hgrow)
      have hB1 : Below wo.heap.size wo w1 := (Below.refl _ _).grown hgrow (Nat.le_refl _) (fun k h => by cases h)
      have HS0 : Hid (∃ T : List UInt8, T.length = 4 ∧ w1.ownsRow wo.heap.size 5 1 (.slice (some ⟨wo.heap.size, 0, none⟩) 4 4) 4 (bys T) ∧ Below wo.heap.size wo w1) := by
        refine ⟨List.replicate 4 0, by simp, ?_, hB1⟩
        rw [bys_zero]
        have h1 : (madeCells (Value.int IntKind.u8 0).cells (4 * 1)).toList = List.replicate 4 (.int .u8 0) := toList_madeCells_one _ _
        rw [h1] at hown
        exact hown
      clear hown hgrow hB1
      go_loopw [8] (fun v8 ws => ∃ j : Nat, v8 = .int .i64 (j : Int) ∧ j ≤ 4 ∧ Hid (∃ T : List UInt8, T.length = 4 ∧ ws.ownsRow wo.heap.size 5 1 (.slice (some ⟨wo.heap.size, 0, none⟩) 4 4) 4 (bys T) ∧ Below wo.heap.size wo ws)) (fun v8 _ => 4 - (intOf v8).toNat)
      case atStart => exact ⟨0, rfl, Nat.zero_le _, HS0⟩
      case round =>
        clear HS0
        obtain ⟨j, rfl, hj, HT⟩ := hrel
        obtain ⟨T, hT, ho, hB⟩ := HT.out
        by_cases hltj : j < 4
        · have r1 : (j : Int) < 4 := by omega
          have r0 : (0 : Int) ≤ (j : Int) := by omega
          have r2 : (0 : Int) ≤ 3 - (j : Int) := by omega
          have r3 : ¬ (3 - (j : Int)) < 0 := by omega
          obtain ⟨cv, hc⟩ : ∃ v, wr.cell? ⟨wo.heap.size, j, none⟩ = some v := by
            have h := ho.cellAt j (by omega)
            refine ⟨.int .u8 ((T[j]'(by omega)).toNat : Int), ?_⟩
            rw [h]
            simp [bys, List.getElem?_eq_getElem (show j < T.length by omega)]
          have hf := ho.frozenAt j
          have HST : Hid (∀ z : Int, 0 ≤ z → z < 256 → ∃ T : List UInt8, T.length = 4 ∧ (wr.setCell ⟨wo.heap.size, j, none⟩ (.int .u8 z)).ownsRow wo.heap.size 5 1 (.slice (some ⟨wo.heap.size, 0, none⟩) 4 4) 4 (bys T) ∧ Below wo.heap.size wo (wr.setCell ⟨wo.heap.size, j, none⟩ (.int .u8 z))) := fun z h0 h1 => by
            refine ⟨T.set j (UInt8.ofNat z.toNat), by rw [List.length_set]; exact hT, ?_, hB.setCell (Nat.le_refl _) _⟩
            have h := (ho.stored j (.int .u8 z)).1
            have e : bys (T.set j (UInt8.ofNat z.toNat)) = (bys T).set j (.int .u8 z) := by
              unfold bys
              rw [List.map_set]
              congr 2
              have : (UInt8.ofNat z.toNat).toNat = z.toNat := by
                rw [UInt8.toNat_ofNat']
                omega
              rw [this]
              omega
            rw [e]
            exact h
          clear HT hT ho hB
          go_wp2_with fail
          go_roundw
          case rel => exact ⟨j + 1, by go_num, by omega, HST.out _ (Int.emod_nonneg _ (by decide)) (Int.emod_lt_of_pos _ (by decide))⟩
          case measure => simp [intOf]; omega
        · have r1 : ¬ (j : Int) < 4 := by omega
          have hcv := conv_owned wr wo.heap.size wo.heap.size 4 T (by rw [hT]; exact ho)
          rw [hT] at hcv
          obtain ⟨hD, hDl, hoD, hBD⟩ := HI.out
          have o5 := own_belQ hoD hB
          have hBw := bel0 hBD hB
          have hsw := hBw.size
          have HN : Hid (D.length = k ∧ (∀ x ∈ D, x.length = 4) ∧ T.length = 4) := ⟨hD, hDl, hT⟩
          clear HT hT ho hB hD hDl hoD hBD HI
          go_wp2_with (at_builtin; refine wpList_append_own _ rfl _ _ 22 rfl w.heap.size 9 iS _ 1 16 Tryz.underlying22 hiS hzS0 hzS1 hzS2 rfl (by decide) _ _ _ rfl (o5.alloc _) ⟨_, 0, none⟩ 1 1 [.string ⟨T.toArray⟩] rfl rfl (World.news_of_block (cs := #[.string ⟨T.toArray⟩]) (t := 9) (fr := (0, 0)) (alloc_get _ _)) (by simp [Value.oneCell']) (by unfold maxLen; omega) (by omega) (by simp; omega) ?_; intro v9 w9 o9 g9 _)
          have HX : Hid ((D ++ [T]).length = k + 1 ∧ (∀ x ∈ D ++ [T], x.length = 4) ∧ w9.ownsRow w.heap.size 9 1 v9 (k + 1) (stx (D ++ [T])) ∧ Below w.heap.size w w9) := by
            refine ⟨by rw [List.length_append, HN.out.1]; rfl, fun x hx => ?_, ?_, (belA hBw _).grown g9 (by simp; omega) (fun b e => (o5.lt b e).1)⟩
            · rcases List.mem_append.1 hx with hx | hx
              · exact HN.out.2.1 x hx
              · obtain rfl := List.mem_singleton.1 hx
                exact HN.out.2.2
            · have e5 : stx (D ++ [T]) = stx D ++ [.string ⟨T.toArray⟩] := by simp [stx]
              rw [e5]
              exact o9
          clear o5 o9 g9 hBw hcv
          go_wp2_with fail
          go_roundw
          case rel => exact ⟨k + 1, D ++ [T], by go_num, by omega, HX⟩
          case measure => simp [intOf]; omega
    · have j1 : ¬ (k : Int) < 16 := by omega
      obtain ⟨hD, hDl, hoD, hBD⟩ := HI.out
      obtain ⟨p, c, rfl⟩ := shapeQ1 hoD
      have HR : Hid (RST wr p k ∧ Below w.heap.size w wr) := ⟨rst_own hoD hD (fun x hx => by rw [hDl x hx]; unfold maxLen; omega), hBD⟩
      clear HI hD hDl hoD hBD
      go_wp2_with fail
      go_ret
      exact ⟨_, _, _, rfl, by omega, HR.out⟩
set_option maxRecDepth 100000 in
set_option maxHeartbeats 8000000 in
theorem hdr_five (q : Option Addr) (len cap : Nat) (w : World) : Calls Tryz.prog 10 #[.int .i64 5, .slice q len cap] w fun e w' => HDQ w e w' := by
  obtain ⟨iS, hiS, hzS0, hzS1, hzS2⟩ := info_parts info_str2
  obtain ⟨i0, hi, hz0, hz1, hz2⟩ := info_parts info_u8
  go_enter Tryz.func10, Tryz.ntmps10
  go_wp2_with fail
  go_loopw [5, 6] (fun v5 v6 wr => ∃ (k : Nat) (D : List (List UInt8)), v6 = .int .i64 (k : Int) ∧ k ≤ 32 ∧ Hid (D.length = k ∧ (∀ x ∈ D, x.length = 5) ∧ wr.ownsRow w.heap.size 9 1 v5 k (stx D) ∧ Below w.heap.size w wr)) (fun _ v6 _ => 32 - (intOf v6).toNat)
  case atStart => exact ⟨0, [], rfl, Nat.zero_le _, rfl, (fun x hx => by cases hx), World.ownsRow_nil _ _ _ _, Below.refl _ _⟩
  case round =>
    obtain ⟨k, D, rfl, hk, HI⟩ := hrel
    by_cases hlt : k < 32
    · have j1 : (k : Int) < 32 := by omega
      obtain ⟨wo, rfl⟩ : ∃ wo, wo = wr := ⟨wr, rfl⟩
      go_wp2_with (at_make; refine wpList_make_full _ rfl _ _ 72 rfl wo.heap.size 5 i0 (.int .u8 0) 1 Tryz.underlying72 hi hz0 hz1 .i64 .i64 _ _ 5 rfl rfl rfl rfl (by rw [hz2]; omega) (by unfold maxLen; omega) (Nat.le_refl _) ?_; intro w1 hown hgrow)
      have hB1 : Below wo.heap.size wo w1 := (Below.refl _ _).grown hgrow (Nat.le_refl _) (fun k h => by cases h)
      have HS0 : Hid (∃ T : List UInt8, T.length = 5 ∧ w1.ownsRow wo.heap.size 5 1 (.slice (some ⟨wo.heap.size, 0, none⟩) 5 5) 5 (bys T) ∧ Below wo.heap.size wo w1) := by
        refine ⟨List.replicate 5 0, by simp, ?_, hB1⟩
        rw [bys_zero]
        have h1 : (madeCells (Value.int IntKind.u8 0).cells (5 * 1)).toList = List.replicate 5 (.int .u8 0) := toList_madeCells_one _ _
        rw [h1] at hown
        exact hown
      clear hown hgrow hB1
      go_loopw [8] (fun v8 ws => ∃ j : Nat, v8 = .int .i64 (j : Int) ∧ j ≤ 5 ∧ Hid (∃ T : List UInt8, T.length = 5 ∧ ws.ownsRow wo.heap.size 5 1 (.slice (some ⟨wo.heap.size, 0, none⟩) 5 5) 5 (bys T) ∧ Below wo.heap.size wo ws)) (fun v8 _ => 5 - (intOf v8).toNat)
      case atStart => exact ⟨0, rfl, Nat.zero_le _, HS0⟩
      case round =>
        clear HS0
        obtain ⟨j, rfl, hj, HT⟩ := hrel
        obtain ⟨T, hT, ho, hB⟩ := HT.out
        by_cases hltj : j < 5
        · have r1 : (j : Int) < 5 := by omega
          have r0 : (0 : Int) ≤ (j : Int) := by omega
          have r2 : (0 : Int) ≤ 4 - (j : Int) := by omega
          have r3 : ¬ (4 - (j : Int)) < 0 := by omega
          obtain ⟨cv, hc⟩ : ∃ v, wr.cell? ⟨wo.heap.size, j, none⟩ = some v := by
            have h := ho.cellAt j (by omega)
            refine ⟨.int .u8 ((T[j]'(by omega)).toNat : Int), ?_⟩
            rw [h]
            simp [bys, List.getElem?_eq_getElem (show j < T.length by omega)]
          have hf := ho.frozenAt j
          have HST : Hid (∀ z : Int, 0 ≤ z → z < 256 → ∃ T : List UInt8, T.length = 5 ∧ (wr.setCell ⟨wo.heap.size, j, none⟩ (.int .u8 z)).ownsRow wo.heap.size 5 1 (.slice (some ⟨wo.heap.size, 0, none⟩) 5 5) 5 (bys T) ∧ Below wo.heap.size wo (wr.setCell ⟨wo.heap.size, j, none⟩ (.int .u8 z))) := fun z h0 h1 => by
            refine ⟨T.set j (UInt8.ofNat z.toNat), by rw [List.length_set]; exact hT, ?_, hB.setCell (Nat.le_refl _) _⟩
            have h := (ho.stored j (.int .u8 z)).1
            have e : bys (T.set j (UInt8.ofNat z.toNat)) = (bys T).set j (.int .u8 z) := by
              unfold bys
              rw [List.map_set]
              congr 2
              have : (UInt8.ofNat z.toNat).toNat = z.toNat := by
                rw [UInt8.toNat_ofNat']
                omega
              rw [this]
              omega
            rw [e]
            exact h
          clear HT hT ho hB
          go_wp2_with fail
          go_roundw
          case rel => exact ⟨j + 1, by go_num, by omega, HST.out _ (Int.emod_nonneg _ (by decide)) (Int.emod_lt_of_pos _ (by decide))⟩
          case measure => simp [intOf]; omega
        · have r1 : ¬ (j : Int) < 5 := by omega
          have hcv := conv_owned wr wo.heap.size wo.heap.size 5 T (by rw [hT]; exact ho)
          rw [hT] at hcv
          obtain ⟨hD, hDl, hoD, hBD⟩ := HI.out
          have o5 := own_belQ hoD hB
          have hBw := bel0 hBD hB
          have hsw := hBw.size
          have HN : Hid (D.length = k ∧ (∀ x ∈ D, x.length = 5) ∧ T.length = 5) := ⟨hD, hDl, hT⟩
          clear HT hT ho hB hD hDl hoD hBD HI
          go_wp2_with (at_builtin; refine wpList_append_own _ rfl _ _ 22 rfl w.heap.size 9 iS _ 1 16 Tryz.underlying22 hiS hzS0 hzS1 hzS2 rfl (by decide) _ _ _ rfl (o5.alloc _) ⟨_, 0, none⟩ 1 1 [.string ⟨T.toArray⟩] rfl rfl (World.news_of_block (cs := #[.string ⟨T.toArray⟩]) (t := 9) (fr := (0, 0)) (alloc_get _ _)) (by simp [Value.oneCell']) (by unfold maxLen; omega) (by omega) (by simp; omega) ?_; intro v9 w9 o9 g9 _)
          have HX : Hid ((D ++ [T]).length = k + 1 ∧ (∀ x ∈ D ++ [T], x.length = 5) ∧ w9.ownsRow w.heap.size 9 1 v9 (k + 1) (stx (D ++ [T])) ∧ Below w.heap.size w w9) := by
            refine ⟨by rw [List.length_append, HN.out.1]; rfl, fun x hx => ?_, ?_, (belA hBw _).grown g9 (by simp; omega) (fun b e => (o5.lt b e).1)⟩
            · rcases List.mem_append.1 hx with hx | hx
              · exact HN.out.2.1 x hx
              · obtain rfl := List.mem_singleton.1 hx
                exact HN.out.2.2
            · have e5 : stx (D ++ [T]) = stx D ++ [.string ⟨T.toArray⟩] := by simp [stx]
              rw [e5]
              exact o9
          clear o5 o9 g9 hBw hcv
          go_wp2_with fail
          go_roundw
          case rel => exact ⟨k + 1, D ++ [T], by go_num, by omega, HX⟩
          case measure => simp [intOf]; omega
    · have j1 : ¬ (k : Int) < 32 := by omega
      obtain ⟨hD, hDl, hoD, hBD⟩ := HI.out
      obtain ⟨p, c, rfl⟩ := shapeQ1 hoD
      have HR : Hid (RST wr p k ∧ Below w.heap.size w wr) := ⟨rst_own hoD hD (fun x hx => by rw [hDl x hx]; unfold maxLen; omega), hBD⟩
      clear HI hD hDl hoD hBD
      go_wp2_with fail
      go_ret
      exact ⟨_, _, _, rfl, by omega, HR.out⟩
set_option maxRecDepth 100000 in
set_option maxHeartbeats 8000000 in
theorem hdr_six (q : Option Addr) (len cap : Nat) (w : World) : Calls Tryz.prog 10 #[.int .i64 6, .slice q len cap] w fun e w' => HDQ w e w' := by
  obtain ⟨iS, hiS, hzS0, hzS1, hzS2⟩ := info_parts info_str2
  obtain ⟨i0, hi, hz0, hz1, hz2⟩ := info_parts info_u8
  go_enter Tryz.func10, Tryz.ntmps10
  go_wp2_with fail
  go_loopw [5, 6] (fun v5 v6 wr => ∃ (k : Nat) (D : List (List UInt8)), v6 = .int .i64 (k : Int) ∧ k ≤ 64 ∧ Hid (D.length = k ∧ (∀ x ∈ D, x.length = 6) ∧ wr.ownsRow w.heap.size 9 1 v5 k (stx D) ∧ Below w.heap.size w wr)) (fun _ v6 _ => 64 - (intOf v6).toNat)
  case atStart => exact ⟨0, [], rfl, Nat.zero_le _, rfl, (fun x hx => by cases hx), World.ownsRow_nil _ _ _ _, Below.refl _ _⟩
  case round =>
    obtain ⟨k, D, rfl, hk, HI⟩ := hrel
    by_cases hlt : k < 64
    · have j1 : (k : Int) < 64 := by omega
      obtain ⟨wo, rfl⟩ : ∃ wo, wo = wr := ⟨wr, rfl⟩
      go_wp2_with (at_make; refine wpList_make_full _ rfl _ _ 72 rfl wo.heap.size 5 i0 (.int .u8 0) 1 Tryz.underlying72 hi hz0 hz1 .i64 .i64 _ _ 6 rfl rfl rfl rfl (by rw [hz2]; omega) (by unfold maxLen; omega) (Nat.le_refl _) ?_; intro w1 hown hgrow)
      have hB1 : Below wo.heap.size wo w1 := (Below.refl _ _).grown hgrow (Nat.le_refl _) (fun k h => by cases h)
      have HS0 : Hid (∃ T : List UInt8, T.length = 6 ∧ w1.ownsRow wo.heap.size 5 1 (.slice (some ⟨wo.heap.size, 0, none⟩) 6 6) 6 (bys T) ∧ Below wo.heap.size wo w1) := by
        refine ⟨List.replicate 6 0, by simp, ?_, hB1⟩
        rw [bys_zero]
        have h1 : (madeCells (Value.int IntKind.u8 0).cells (6 * 1)).toList = List.replicate 6 (.int .u8 0) := toList_madeCells_one _ _
        rw [h1] at hown
        exact hown
      clear hown hgrow hB1
      go_loopw [8] (fun v8 ws => ∃ j : Nat, v8 = .int .i64 (j : Int) ∧ j ≤ 6 ∧ Hid (∃ T : List UInt8, T.length = 6 ∧ ws.ownsRow wo.heap.size 5 1 (.slice (some ⟨wo.heap.size, 0, none⟩) 6 6) 6 (bys T) ∧ Below wo.heap.size wo ws)) (fun v8 _ => 6 - (intOf v8).toNat)
      case atStart => exact ⟨0, rfl, Nat.zero_le _, HS0⟩
      case round =>
        clear HS0
        obtain ⟨j, rfl, hj, HT⟩ := hrel
        obtain ⟨T, hT, ho, hB⟩ := HT.out
        by_cases hltj : j < 6
        · have r1 : (j : Int) < 6 := by omega
          have r0 : (0 : Int) ≤ (j : Int) := by omega
          have r2 : (0 : Int) ≤ 5 - (j : Int) := by omega
          have r3 : ¬ (5 - (j : Int)) < 0 := by omega
          obtain ⟨cv, hc⟩ : ∃ v, wr.cell? ⟨wo.heap.size, j, none⟩ = some v := by
            have h := ho.cellAt j (by omega)
            refine ⟨.int .u8 ((T[j]'(by omega)).toNat : Int), ?_⟩
            rw [h]
            simp [bys, List.getElem?_eq_getElem (show j < T.length by omega)]
          have hf := ho.frozenAt j
          have HST : Hid (∀ z : Int, 0 ≤ z → z < 256 → ∃ T : List UInt8, T.length = 6 ∧ (wr.setCell ⟨wo.heap.size, j, none⟩ (.int .u8 z)).ownsRow wo.heap.size 5 1 (.slice (some ⟨wo.heap.size, 0, none⟩) 6 6) 6 (bys T) ∧ Below wo.heap.size wo (wr.setCell ⟨wo.heap.size, j, none⟩ (.int .u8 z))) := fun z h0 h1 => by
            refine ⟨T.set j (UInt8.ofNat z.toNat), by rw [List.length_set]; exact hT, ?_, hB.setCell (Nat.le_refl _) _⟩
            have h := (ho.stored j (.int .u8 z)).1
            have e : bys (T.set j (UInt8.ofNat z.toNat)) = (bys T).set j (.int .u8 z) := by
              unfold bys
              rw [List.map_set]
              congr 2
              have : (UInt8.ofNat z.toNat).toNat = z.toNat := by
                rw [UInt8.toNat_ofNat']
                omega
              rw [this]
              omega
            rw [e]
            exact h
          clear HT hT ho hB
          go_wp2_with fail
          go_roundw
          case rel => exact ⟨j + 1, by go_num, by omega, HST.out _ (Int.emod_nonneg _ (by decide)) (Int.emod_lt_of_pos _ (by decide))⟩
          case measure => simp [intOf]; omega
        · have r1 : ¬ (j : Int) < 6 := by omega
          have hcv := conv_owned wr wo.heap.size wo.heap.size 6 T (by rw [hT]; exact ho)
          rw [hT] at hcv
          obtain ⟨hD, hDl, hoD, hBD⟩ := HI.out
          have o5 := own_belQ hoD hB
          have hBw := bel0 hBD hB
          have hsw := hBw.size
          have HN : Hid (D.length = k ∧ (∀ x ∈ D, x.length = 6) ∧ T.length = 6) := ⟨hD, hDl, hT⟩
          clear HT hT ho hB hD hDl hoD hBD HI
          go_wp2_with (at_builtin; refine wpList_append_own _ rfl _ _ 22 rfl w.heap.size 9 iS _ 1 16 Tryz.underlying22 hiS hzS0 hzS1 hzS2 rfl (by decide) _ _ _ rfl (o5.alloc _) ⟨_, 0, none⟩ 1 1 [.string ⟨T.toArray⟩] rfl rfl (World.news_of_block (cs := #[.string ⟨T.toArray⟩]) (t := 9) (fr := (0, 0)) (alloc_get _ _)) (by simp [Value.oneCell']) (by unfold maxLen; omega) (by omega) (by simp; omega) ?_; intro v9 w9 o9 g9 _)
          have HX : Hid ((D ++ [T]).length = k + 1 ∧ (∀ x ∈ D ++ [T], x.length = 6) ∧ w9.ownsRow w.heap.size 9 1 v9 (k + 1) (stx (D ++ [T])) ∧ Below w.heap.size w w9) := by
            refine ⟨by rw [List.length_append, HN.out.1]; rfl, fun x hx => ?_, ?_, (belA hBw _).grown g9 (by simp; omega) (fun b e => (o5.lt b e).1)⟩
            · rcases List.mem_append.1 hx with hx | hx
              · exact HN.out.2.1 x hx
              · obtain rfl := List.mem_singleton.1 hx
                exact HN.out.2.2
            · have e5 : stx (D ++ [T]) = stx D ++ [.string ⟨T.toArray⟩] := by simp [stx]
              rw [e5]
              exact o9
          clear o5 o9 g9 hBw hcv
          go_wp2_with fail
          go_roundw
          case rel => exact ⟨k + 1, D ++ [T], by go_num, by omega, HX⟩
          case measure => simp [intOf]; omega
    · have j1 : ¬ (k : Int) < 64 := by omega
      obtain ⟨hD, hDl, hoD, hBD⟩ := HI.out
      obtain ⟨p, c, rfl⟩ := shapeQ1 hoD
      have HR : Hid (RST wr p k ∧ Below w.heap.size w wr) := ⟨rst_own hoD hD (fun x hx => by rw [hDl x hx]; unfold maxLen; omega), hBD⟩
      clear HI hD hDl hoD hBD
      go_wp2_with fail
      go_ret
      exact ⟨_, _, _, rfl, by omega, HR.out⟩
set_option maxRecDepth 100000 in
set_option maxHeartbeats 8000000 in
theorem hdr_seven (q : Option Addr) (len cap : Nat) (w : World) : Calls Tryz.prog 10 #[.int .i64 7, .slice q len cap] w fun e w' => HDQ w e w' := by
  obtain ⟨iS, hiS, hzS0, hzS1, hzS2⟩ := info_parts info_str2
  obtain ⟨i0, hi, hz0, hz1, hz2⟩ := info_parts info_u8
  go_enter Tryz.func10, Tryz.ntmps10
  go_wp2_with fail
  go_loopw [5, 6] (fun v5 v6 wr => ∃ (k : Nat) (D : List (List UInt8)), v6 = .int .i64 (k : Int) ∧ k ≤ 128 ∧ Hid (D.length = k ∧ (∀ x ∈ D, x.length = 7) ∧ wr.ownsRow w.heap.size 9 1 v5 k (stx D) ∧ Below w.heap.size w wr)) (fun _ v6 _ => 128 - (intOf v6).toNat)
  case atStart => exact ⟨0, [], rfl, Nat.zero_le _, rfl, (fun x hx => by cases hx), World.ownsRow_nil _ _ _ _, Below.refl _ _⟩
  case round =>
    obtain ⟨k, D, rfl, hk, HI⟩ := hrel
    by_cases hlt : k < 128
    · have j1 : (k : Int) < 128 := by omega
      obtain ⟨wo, rfl⟩ : ∃ wo, wo = wr := ⟨wr, rfl⟩
      go_wp2_with (at_make; refine wpList_make_full _ rfl _ _ 72 rfl wo.heap.size 5 i0 (.int .u8 0) 1 Tryz.underlying72 hi hz0 hz1 .i64 .i64 _ _ 7 rfl rfl rfl rfl (by rw [hz2]; omega) (by unfold maxLen; omega) (Nat.le_refl _) ?_; intro w1 hown hgrow)
      have hB1 : Below wo.heap.size wo w1 := (Below.refl _ _).grown hgrow (Nat.le_refl _) (fun k h => by cases h)
      have HS0 : Hid (∃ T : List UInt8, T.length = 7 ∧ w1.ownsRow wo.heap.size 5 1 (.slice (some ⟨wo.heap.size, 0, none⟩) 7 7) 7 (bys T) ∧ Below wo.heap.size wo w1) := by
        refine ⟨List.replicate 7 0, by simp, ?_, hB1⟩
        rw [bys_zero]
        have h1 : (madeCells (Value.int IntKind.u8 0).cells (7 * 1)).toList = List.replicate 7 (.int .u8 0) := toList_madeCells_one _ _
        rw [h1] at hown
        exact hown
      clear hown hgrow hB1
      go_loopw [8] (fun v8 ws => ∃ j : Nat, v8 = .int .i64 (j : Int) ∧ j ≤ 7 ∧ Hid (∃ T : List UInt8, T.length = 7 ∧ ws.ownsRow wo.heap.size 5 1 (.slice (some ⟨wo.heap.size, 0, none⟩) 7 7) 7 (bys T) ∧ Below wo.heap.size wo ws)) (fun v8 _ => 7 - (intOf v8).toNat)
      case atStart => exact ⟨0, rfl, Nat.zero_le _, HS0⟩
      case round =>
        clear HS0
        obtain ⟨j, rfl, hj, HT⟩ := hrel
        obtain ⟨T, hT, ho, hB⟩ := HT.out
        by_cases hltj : j < 7
        · have r1 : (j : Int) < 7 := by omega
          have r0 : (0 : Int) ≤ (j : Int) := by omega
          have r2 : (0 : Int) ≤ 6 - (j : Int) := by omega
          have r3 : ¬ (6 - (j : Int)) < 0 := by omega
          obtain ⟨cv, hc⟩ : ∃ v, wr.cell? ⟨wo.heap.size, j, none⟩ = some v := by
            have h := ho.cellAt j (by omega)
            refine ⟨.int .u8 ((T[j]'(by omega)).toNat : Int), ?_⟩
            rw [h]
            simp [bys, List.getElem?_eq_getElem (show j < T.length by omega)]
          have hf := ho.frozenAt j
          have HST : Hid (∀ z : Int, 0 ≤ z → z < 256 → ∃ T : List UInt8, T.length = 7 ∧ (wr.setCell ⟨wo.heap.size, j, none⟩ (.int .u8 z)).ownsRow wo.heap.size 5 1 (.slice (some ⟨wo.heap.size, 0, none⟩) 7 7) 7 (bys T) ∧ Below wo.heap.size wo (wr.setCell ⟨wo.heap.size, j, none⟩ (.int .u8 z))) := fun z h0 h1 => by
            refine ⟨T.set j (UInt8.ofNat z.toNat), by rw [List.length_set]; exact hT, ?_, hB.setCell (Nat.le_refl _) _⟩
            have h := (ho.stored j (.int .u8 z)).1
            have e : bys (T.set j (UInt8.ofNat z.toNat)) = (bys T).set j (.int .u8 z) := by
              unfold bys
              rw [List.map_set]
              congr 2
              have : (UInt8.ofNat z.toNat).toNat = z.toNat := by
                rw [UInt8.toNat_ofNat']
                omega
              rw [this]
              omega
            rw [e]
            exact h
          clear HT hT ho hB
          go_wp2_with fail
          go_roundw
          case rel => exact ⟨j + 1, by go_num, by omega, HST.out _ (Int.emod_nonneg _ (by decide)) (Int.emod_lt_of_pos _ (by decide))⟩
          case measure => simp [intOf]; omega
        · have r1 : ¬ (j : Int) < 7 := by omega
          have hcv := conv_owned wr wo.heap.size wo.heap.size 7 T (by rw [hT]; exact ho)
          rw [hT] at hcv
          obtain ⟨hD, hDl, hoD, hBD⟩ := HI.out
          have o5 := own_belQ hoD hB
          have hBw := bel0 hBD hB
          have hsw := hBw.size
          have HN : Hid (D.length = k ∧ (∀ x ∈ D, x.length = 7) ∧ T.length = 7) := ⟨hD, hDl, hT⟩
          clear HT hT ho hB hD hDl hoD hBD HI
          go_wp2_with (at_builtin; refine wpList_append_own _ rfl _ _ 22 rfl w.heap.size 9 iS _ 1 16 Tryz.underlying22 hiS hzS0 hzS1 hzS2 rfl (by decide) _ _ _ rfl (o5.alloc _) ⟨_, 0, none⟩ 1 1 [.string ⟨T.toArray⟩] rfl rfl (World.news_of_block (cs := #[.string ⟨T.toArray⟩]) (t := 9) (fr := (0, 0)) (alloc_get _ _)) (by simp [Value.oneCell']) (by unfold maxLen; omega) (by omega) (by simp; omega) ?_; intro v9 w9 o9 g9 _)
          have HX : Hid ((D ++ [T]).length = k + 1 ∧ (∀ x ∈ D ++ [T], x.length = 7) ∧ w9.ownsRow w.heap.size 9 1 v9 (k + 1) (stx (D ++ [T])) ∧ Below w.heap.size w w9) := by
            refine ⟨by rw [List.length_append, HN.out.1]; rfl, fun x hx => ?_, ?_, (belA hBw _).grown g9 (by simp; omega) (fun b e => (o5.lt b e).1)⟩
            · rcases List.mem_append.1 hx with hx | hx
              · exact HN.out.2.1 x hx
              · obtain rfl := List.mem_singleton.1 hx
                exact HN.out.2.2
            · have e5 : stx (D ++ [T]) = stx D ++ [.string ⟨T.toArray⟩] := by simp [stx]
              rw [e5]
              exact o9
          clear o5 o9 g9 hBw hcv
          go_wp2_with fail
          go_roundw
          case rel => exact ⟨k + 1, D ++ [T], by go_num, by omega, HX⟩
          case measure => simp [intOf]; omega
    · have j1 : ¬ (k : Int) < 128 := by omega
      obtain ⟨hD, hDl, hoD, hBD⟩ := HI.out
      obtain ⟨p, c, rfl⟩ := shapeQ1 hoD
      have HR : Hid (RST wr p k ∧ Below w.heap.size w wr) := ⟨rst_own hoD hD (fun x hx => by rw [hDl x hx]; unfold maxLen; omega), hBD⟩
      clear HI hD hDl hoD hBD
      go_wp2_with fail
      go_ret
      exact ⟨_, _, _, rfl, by omega, HR.out⟩
set_option maxRecDepth 100000 in
set_option maxHeartbeats 8000000 in
theorem hdr_eight (q : Option Addr) (len cap : Nat) (w : World) : Calls Tryz.prog 10 #[.int .i64 8, .slice q len cap] w fun e w' => HDQ w e w' := by
  obtain ⟨iS, hiS, hzS0, hzS1, hzS2⟩ := info_parts info_str2
  obtain ⟨i0, hi, hz0, hz1, hz2⟩ := info_parts info_u8
  go_enter Tryz.func10, Tryz.ntmps10
  go_wp2_with fail
  go_loopw [5, 6] (fun v5 v6 wr => ∃ (k : Nat) (D : List (List UInt8)), v6 = .int .i64 (k : Int) ∧ k ≤ 256 ∧ Hid (D.length = k ∧ (∀ x ∈ D, x.length = 8) ∧ wr.ownsRow w.heap.size 9 1 v5 k (stx D) ∧ Below w.heap.size w wr)) (fun _ v6 _ => 256 - (intOf v6).toNat)
  case atStart => exact ⟨0, [], rfl, Nat.zero_le _, rfl, (fun x hx => by cases hx), World.ownsRow_nil _ _ _ _, Below.refl _ _⟩
  case round =>
    obtain ⟨k, D, rfl, hk, HI⟩ := hrel
    by_cases hlt : k < 256
    · have j1 : (k : Int) < 256 := by omega
      obtain ⟨wo, rfl⟩ : ∃ wo, wo = wr := ⟨wr, rfl⟩
      go_wp2_with (at_make; refine wpList_make_full _ rfl _ _ 72 rfl wo.heap.size 5 i0 (.int .u8 0) 1 Tryz.underlying72 hi hz0 hz1 .i64 .i64 _ _ 8 rfl rfl rfl rfl (by rw [hz2]; omega) (by unfold maxLen; omega) (Nat.le_refl _) ?_; intro w1 hown hgrow)
      have hB1 : Below wo.heap.size wo w1 := (Below.refl _ _).grown hgrow (Nat.le_refl _) (fun k h => by cases h)
      have HS0 : Hid (∃ T : List UInt8, T.length = 8 ∧ w1.ownsRow wo.heap.size 5 1 (.slice (some ⟨wo.heap.size, 0, none⟩) 8 8) 8 (bys T) ∧ Below wo.heap.size wo w1) := by
        refine ⟨List.replicate 8 0, by simp, ?_, hB1⟩
        rw [bys_zero]
        have h1 : (madeCells (Value.int IntKind.u8 0).cells (8 * 1)).toList = List.replicate 8 (.int .u8 0) := toList_madeCells_one _ _
        rw [h1] at hown
        exact hown
      clear hown hgrow hB1
      go_loopw [8] (fun v8 ws => ∃ j : Nat, v8 = .int .i64 (j : Int) ∧ j ≤ 8 ∧ Hid (∃ T : List UInt8, T.length = 8 ∧ ws.ownsRow wo.heap.size 5 1 (.slice (some ⟨wo.heap.size, 0, none⟩) 8 8) 8 (bys T) ∧ Below wo.heap.size wo ws)) (fun v8 _ => 8 - (intOf v8).toNat)
      case atStart => exact ⟨0, rfl, Nat.zero_le _, HS0⟩
      case round =>
        clear HS0
        obtain ⟨j, rfl, hj, HT⟩ := hrel
        obtain ⟨T, hT, ho, hB⟩ := HT.out
        by_cases hltj : j < 8
        · have r1 : (j : Int) < 8 := by omega
          have r0 : (0 : Int) ≤ (j : Int) := by omega
          have r2 : (0 : Int) ≤ 7 - (j : Int) := by omega
          have r3 : ¬ (7 - (j : Int)) < 0 := by omega
          obtain ⟨cv, hc⟩ : ∃ v, wr.cell? ⟨wo.heap.size, j, none⟩ = some v := by
            have h := ho.cellAt j (by omega)
            refine ⟨.int .u8 ((T[j]'(by omega)).toNat : Int), ?_⟩
            rw [h]
            simp [bys, List.getElem?_eq_getElem (show j < T.length by omega)]
          have hf := ho.frozenAt j
          have HST : Hid (∀ z : Int, 0 ≤ z → z < 256 → ∃ T : List UInt8, T.length = 8 ∧ (wr.setCell ⟨wo.heap.size, j, none⟩ (.int .u8 z)).ownsRow wo.heap.size 5 1 (.slice (some ⟨wo.heap.size, 0, none⟩) 8 8) 8 (bys T) ∧ Below wo.heap.size wo (wr.setCell ⟨wo.heap.size, j, none⟩ (.int .u8 z))) := fun z h0 h1 => by
            refine ⟨T.set j (UInt8.ofNat z.toNat), by rw [List.length_set]; exact hT, ?_, hB.setCell (Nat.le_refl _) _⟩
            have h := (ho.stored j (.int .u8 z)).1
            have e : bys (T.set j (UInt8.ofNat z.toNat)) = (bys T).set j (.int .u8 z) := by
              unfold bys
              rw [List.map_set]
              congr 2
              have : (UInt8.ofNat z.toNat).toNat = z.toNat := by
                rw [UInt8.toNat_ofNat']
                omega
              rw [this]
              omega
            rw [e]
            exact h
          clear HT hT ho hB
          go_wp2_with fail
          go_roundw
          case rel => exact ⟨j + 1, by go_num, by omega, HST.out _ (Int.emod_nonneg _ (by decide)) (Int.emod_lt_of_pos _ (by decide))⟩
          case measure => simp [intOf]; omega
        · have r1 : ¬ (j : Int) < 8 := by omega
          have hcv := conv_owned wr wo.heap.size wo.heap.size 8 T (by rw [hT]; exact ho)
          rw [hT] at hcv
          obtain ⟨hD, hDl, hoD, hBD⟩ := HI.out
          have o5 := own_belQ hoD hB
          have hBw := bel0 hBD hB
          have hsw := hBw.size
          have HN : Hid (D.length = k ∧ (∀ x ∈ D, x.length = 8) ∧ T.length = 8) := ⟨hD, hDl, hT⟩
          clear HT hT ho hB hD hDl hoD hBD HI
          go_wp2_with (at_builtin; refine wpList_append_own _ rfl _ _ 22 rfl w.heap.size 9 iS _ 1 16 Tryz.underlying22 hiS hzS0 hzS1 hzS2 rfl (by decide) _ _ _ rfl (o5.alloc _) ⟨_, 0, none⟩ 1 1 [.string ⟨T.toArray⟩] rfl rfl (World.news_of_block (cs := #[.string ⟨T.toArray⟩]) (t := 9) (fr := (0, 0)) (alloc_get _ _)) (by simp [Value.oneCell']) (by unfold maxLen; omega) (by omega) (by simp; omega) ?_; intro v9 w9 o9 g9 _)
          have HX : Hid ((D ++ [T]).length = k + 1 ∧ (∀ x ∈ D ++ [T], x.length = 8) ∧ w9.ownsRow w.heap.size 9 1 v9 (k + 1) (stx (D ++ [T])) ∧ Below w.heap.size w w9) := by
            refine ⟨by rw [List.length_append, HN.out.1]; rfl, fun x hx => ?_, ?_, (belA hBw _).grown g9 (by simp; omega) (fun b e => (o5.lt b e).1)⟩
            · rcases List.mem_append.1 hx with hx | hx
              · exact HN.out.2.1 x hx
              · obtain rfl := List.mem_singleton.1 hx
                exact HN.out.2.2
            · have e5 : stx (D ++ [T]) = stx D ++ [.string ⟨T.toArray⟩] := by simp [stx]
              rw [e5]
              exact o9
          clear o5 o9 g9 hBw hcv
          go_wp2_with fail
          go_roundw
          case rel => exact ⟨k + 1, D ++ [T], by go_num, by omega, HX⟩
          case measure => simp [intOf]; omega
    · have j1 : ¬ (k : Int) < 256 := by omega
      obtain ⟨hD, hDl, hoD, hBD⟩ := HI.out
      obtain ⟨p, c, rfl⟩ := shapeQ1 hoD
      have HR : Hid (RST wr p k ∧ Below w.heap.size w wr) := ⟨rst_own hoD hD (fun x hx => by rw [hDl x hx]; unfold maxLen; omega), hBD⟩
      clear HI hD hDl hoD hBD
      go_wp2_with fail
      go_ret
      exact ⟨_, _, _, rfl, by omega, HR.out⟩
theorem headers_any (b : Int) (q : Option Addr) (len cap : Nat) (w : World) (hcap : len ≤ cap) (hr : RST w q len) : Calls Tryz.prog 10 #[.int .i64 b, .slice q len cap] w fun e w' => HDQ w e w' := by
  by_cases hb : b < 1 ∨ 8 < b
  · exact hdr_low b q len cap w hb hcap hr
  · rcases (show b = 1 ∨ b = 2 ∨ b = 3 ∨ b = 4 ∨ b = 5 ∨ b = 6 ∨ b = 7 ∨ b = 8 by omega) with rfl | rfl | rfl | rfl | rfl | rfl | rfl | rfl
    · exact hdr_one q len cap w
    · exact hdr_two q len cap w
    · exact hdr_three q len cap w
    · exact hdr_four q len cap w
    · exact hdr_five q len cap w
    · exact hdr_six q len cap w
    · exact hdr_seven q len cap w
    · exact hdr_eight q len cap w
end Go.Proofs.YtcmajlianphoaaaGreatDoor
