import Derived.Test.YtnboehlbcjfndaaGreatDoorYBQ
namespace Go.Proofs.YtnboehlbcjfndaaGreatDoor
open Go.RowKit Go.Shelf
def paM (s : List UInt8) (m : Nat) : List UInt8 := (List.range m).map fun j => if j < s.length ∧ (s.getD j 0).toNat % 3 < 2 then UInt8.ofNat (48 + (s.getD j 0).toNat % 3) else 120
theorem paM_len (s : List UInt8) (m : Nat) : (paM s m).length = m := by simp [paM]
theorem paM_succ (s : List UInt8) (m : Nat) : paM s (m + 1) = paM s m ++ [if m < s.length ∧ (s.getD m 0).toNat % 3 < 2 then UInt8.ofNat (48 + (s.getD m 0).toNat % 3) else 120] := by
  unfold paM
  rw [List.range_succ, List.map_append]
  rfl
theorem paM_tri (s : List UInt8) (m : Nat) : (paM s m).all Tn.tri = true := by
  rw [List.all_eq_true]
  intro c hc
  unfold paM at hc
  obtain ⟨j, -, rfl⟩ := List.mem_map.1 hc
  split
  · rename_i h
    rcases (show (s.getD j 0).toNat % 3 = 0 ∨ (s.getD j 0).toNat % 3 = 1 by omega) with e | e <;> rw [e] <;> rfl
  · rfl
set_option maxRecDepth 100000 in
set_option maxHeartbeats 4000000 in
theorem pattern_any (s : List UInt8) (b : Nat) (w : World) (hb : b ≤ 32) (_hs : s.length ≤ 281474976710656) :
    Calls Tryz.prog 25 #[.string ⟨s.toArray⟩, .int .i64 (b : Int)] w fun e w' => e = .returned (.string ⟨(paM s b).toArray⟩) ∧ Below w.heap.size w w' := by
  obtain ⟨i0, hi, hz0, hz1, hz2⟩ := info_parts info_u8
  go_enter Tryz.func25, Tryz.ntmps25
  go_wp2_with fail
  go_loopw [5, 6] (fun v vk wr => ∃ (m : Nat), vk = .int .i64 m ∧ m ≤ b ∧ wr.ownsRow w.heap.size 5 1 v m (Lib.byteCells (paM s m)) ∧ Below w.heap.size w wr) (fun _ vk _ => b - (intOf vk).toNat)
  case atStart => exact ⟨0, rfl, Nat.zero_le _, World.ownsRow_nil _ _ _ _, Below.refl _ _⟩
  case round =>
    obtain ⟨m, rfl, hm, hown, hB⟩ := hrel
    have hBs := hB.size
    by_cases hlt : m < b
    · have j1 : (m : Int) < (b : Int) := by omega
      have j0 : (0 : Int) ≤ (m : Int) := by omega
      have hsc := paM_succ s m
      have hBC : Hid (∀ d : UInt8, paM s (m + 1) = paM s m ++ [d] → Lib.byteCells (paM s (m + 1)) = Lib.byteCells (paM s m) ++ [.int .u8 (d.toNat : Int)]) := fun d hd => by rw [hd, byteCells_append]; rfl
      obtain ⟨pv, cv, rfl⟩ := shapeP hown
      by_cases hms : m < s.length
      · have q2 : (m : Int) < (s.length : Int) := by omega
        obtain ⟨d, hd, hld⟩ := byte_get s m hms
        have hgd : s.getD m 0 = d := by simp [List.getD, hld]
        rw [hgd] at hsc
        have h256 := d.toNat_lt
        rcases (show d.toNat % 3 = 0 ∨ d.toNat % 3 = 1 ∨ d.toNat % 3 = 2 by omega) with h3 | h3 | h3
        · have ho := hBC.out 48 (by rw [hsc, if_pos ⟨hms, by omega⟩, h3]; rfl)
          have HO : Hid (Lib.byteCells (paM s (m + 1)) = Lib.byteCells (paM s m) ++ [.int .u8 48]) := ho
          have r1 : (d.toNat : Int).tmod 3 = 0 := by rw [Int.tmod_eq_emod_of_nonneg (by omega)]; omega
          have r2 : (d.toNat : Int) % 3 = 0 := by omega
          clear hsc ho hgd hld h3
          go_wp2_with (at_builtin; refine wpList_append_own _ rfl _ _ 60 rfl w.heap.size 5 i0 _ 1 1 Tryz.underlying60 hi hz0 hz1 hz2 rfl (by decide) _ _ _ rfl (hown.alloc _) ⟨_, 0, none⟩ 1 1 [.int .u8 48] rfl rfl (World.news_of_block (cs := #[.int .u8 48]) (t := 5) (fr := (0, 0)) (alloc_get _ _)) (by simp [Value.oneCell']) (by unfold maxLen; omega) (by omega) (by simp; omega) ?_; intro v5 w5 oB hg5 _; have hB5 := (hB.alloc hBs _).grown hg5 (by simp; omega) (fun k e => (hown.lt k e).1))
          go_roundw
          case rel => exact ⟨m + 1, by go_num, by omega, by rw [HO.out]; exact oB, hB5⟩
          case measure => simp [intOf]; omega
        · have ho := hBC.out 49 (by rw [hsc, if_pos ⟨hms, by omega⟩, h3]; rfl)
          have HO : Hid (Lib.byteCells (paM s (m + 1)) = Lib.byteCells (paM s m) ++ [.int .u8 49]) := ho
          have r1 : (d.toNat : Int).tmod 3 = 1 := by rw [Int.tmod_eq_emod_of_nonneg (by omega)]; omega
          have r2 : (d.toNat : Int) % 3 = 1 := by omega
          clear hsc ho hgd hld h3
          go_wp2_with (at_builtin; refine wpList_append_own _ rfl _ _ 60 rfl w.heap.size 5 i0 _ 1 1 Tryz.underlying60 hi hz0 hz1 hz2 rfl (by decide) _ _ _ rfl (hown.alloc _) ⟨_, 0, none⟩ 1 1 [.int .u8 49] rfl rfl (World.news_of_block (cs := #[.int .u8 49]) (t := 5) (fr := (0, 0)) (alloc_get _ _)) (by simp [Value.oneCell']) (by unfold maxLen; omega) (by omega) (by simp; omega) ?_; intro v5 w5 oB hg5 _; have hB5 := (hB.alloc hBs _).grown hg5 (by simp; omega) (fun k e => (hown.lt k e).1))
          go_roundw
          case rel => exact ⟨m + 1, by go_num, by omega, by rw [HO.out]; exact oB, hB5⟩
          case measure => simp [intOf]; omega
        · have ho := hBC.out 120 (by rw [hsc, if_neg (fun h => by omega)])
          have HO : Hid (Lib.byteCells (paM s (m + 1)) = Lib.byteCells (paM s m) ++ [.int .u8 120]) := ho
          have r1 : (d.toNat : Int).tmod 3 = 2 := by rw [Int.tmod_eq_emod_of_nonneg (by omega)]; omega
          have r2 : (d.toNat : Int) % 3 = 2 := by omega
          clear hsc ho hgd hld h3
          go_wp2_with (at_builtin; refine wpList_append_own _ rfl _ _ 60 rfl w.heap.size 5 i0 _ 1 1 Tryz.underlying60 hi hz0 hz1 hz2 rfl (by decide) _ _ _ rfl (hown.alloc _) ⟨_, 0, none⟩ 1 1 [.int .u8 120] rfl rfl (World.news_of_block (cs := #[.int .u8 120]) (t := 5) (fr := (0, 0)) (alloc_get _ _)) (by simp [Value.oneCell']) (by unfold maxLen; omega) (by omega) (by simp; omega) ?_; intro v5 w5 oB hg5 _; have hB5 := (hB.alloc hBs _).grown hg5 (by simp; omega) (fun k e => (hown.lt k e).1))
          go_roundw
          case rel => exact ⟨m + 1, by go_num, by omega, by rw [HO.out]; exact oB, hB5⟩
          case measure => simp [intOf]; omega
      · have q2 : ¬ (m : Int) < (s.length : Int) := by omega
        rw [if_neg (fun h => hms h.1)] at hsc
        have ho := hBC.out 120 hsc
        have HO : Hid (Lib.byteCells (paM s (m + 1)) = Lib.byteCells (paM s m) ++ [.int .u8 120]) := ho
        clear hsc ho hms
        go_wp2_with (at_builtin; refine wpList_append_own _ rfl _ _ 60 rfl w.heap.size 5 i0 _ 1 1 Tryz.underlying60 hi hz0 hz1 hz2 rfl (by decide) _ _ _ rfl (hown.alloc _) ⟨_, 0, none⟩ 1 1 [.int .u8 120] rfl rfl (World.news_of_block (cs := #[.int .u8 120]) (t := 5) (fr := (0, 0)) (alloc_get _ _)) (by simp [Value.oneCell']) (by unfold maxLen; omega) (by omega) (by simp; omega) ?_; intro v5 w5 oB hg5 _; have hB5 := (hB.alloc hBs _).grown hg5 (by simp; omega) (fun k e => (hown.lt k e).1))
        go_roundw
        case rel => exact ⟨m + 1, by go_num, by omega, by rw [HO.out]; exact oB, hB5⟩
        case measure => simp [intOf]; omega
    · have j1 : ¬ (m : Int) < (b : Int) := by omega
      obtain rfl : m = b := by omega
      have hcv := conv_own (paM s m) (by rw [paM_len]; exact hown)
      obtain ⟨Z, hZ⟩ : ∃ Z, paM s m = Z := ⟨_, rfl⟩
      rw [hZ] at hcv
      have HZ : Hid (paM s m = Z) := hZ
      clear hown hZ
      go_wp2_with fail
      go_ret
      exact ⟨by rw [HZ.out]; rfl, hB⟩
end Go.Proofs.YtnboehlbcjfndaaGreatDoor
namespace Go.Proofs.YtnboehlbcjfndaaGreatDoor
open Go.RowKit Go.Shelf
end Go.Proofs.YtnboehlbcjfndaaGreatDoor
