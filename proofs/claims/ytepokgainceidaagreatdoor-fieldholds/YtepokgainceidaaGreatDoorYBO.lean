import Derived.Test.YtepokgainceidaaGreatDoorYBN
namespace Go.Proofs.YtepokgainceidaaGreatDoor
open Go.RowKit Go.Shelf
theorem hasT_take {S X : List UInt8} {i : Nat} {c d : UInt8} (hS : S[i]? = some c) (hX : X[i]? = some d) : hasT (S.take (i + 1)) (X.take (i + 1)) = (hasT (S.take i) (X.take i) && (c == 120 || c == d)) := by
  have h1 := (List.getElem?_eq_some_iff.1 hS).1
  have h2 := (List.getElem?_eq_some_iff.1 hX).1
  rw [List.take_add_one, List.take_add_one, hS, hX, Option.toList_some, Option.toList_some, hasT_app _ _ _ _ (by rw [List.length_take, List.length_take]; omega), hasT, hasT, Bool.and_true]
theorem hasT_no {S X : List UInt8} {i : Nat} (hi : i ≤ S.length) (hl : S.length = X.length) (h : hasT (S.take i) (X.take i) = false) : hasT S X = false := by
  have e1 := List.take_append_drop i S
  have e2 := List.take_append_drop i X
  rw [← e1, ← e2, hasT_app _ _ _ _ (by rw [List.length_take, List.length_take]; omega), h, Bool.false_and]
theorem ne_120 {c : UInt8} (h : c ≠ 120) : ((c.toNat : Int) == 120) = false := by
  rw [beq_eq_false_iff_ne]
  intro e
  exact h (UInt8.toNat_inj.1 (by show c.toNat = 120; omega))
set_option maxRecDepth 100000 in
set_option maxHeartbeats 1000000 in
theorem khas_any (S X : List UInt8) (w : World) (hl : S.length = X.length) (hs : S.length ≤ 400) :
    Calls Tryz.prog 21 #[.string ⟨S.toArray⟩, .string ⟨X.toArray⟩] w fun e w' => e = .returned (.bool (hasT S X)) ∧ Below w.heap.size w w' := by
  have hll : (S.length : Int) = (X.length : Int) := by omega
  obtain ⟨R, hR⟩ : ∃ R, hasT S X = R := ⟨_, rfl⟩
  rw [hR]
  have HR : Hid (hasT S X = R) := hR
  have HL : Hid (S.length = X.length) := hl
  clear hR hl
  go_enter Tryz.func21, Tryz.ntmps21
  go_wp2_with fail
  go_loopw [5] (fun vi wr => ∃ i : Nat, vi = .int .i64 i ∧ i ≤ S.length ∧ Hid (hasT (S.take i) (X.take i) = true) ∧ Below w.heap.size w wr) (fun vi _ => S.length - (intOf vi).toNat)
  case atStart => exact ⟨0, rfl, Nat.zero_le _, rfl, Below.refl _ _⟩
  case round =>
    obtain ⟨i, rfl, hi, hall, hB⟩ := hrel
    by_cases hlt : i < S.length
    · have q0 : (0 : Int) ≤ (i : Int) := by omega
      have q1 : (i : Int) < (S.length : Int) := by omega
      have q2 : (i : Int) < (X.length : Int) := by omega
      obtain ⟨c, hc, hlc⟩ := byte_get S i hlt
      obtain ⟨d, hd, hld⟩ := byte_get X i (by omega)
      have hst := hasT_take hlc hld
      rw [hall.out, Bool.true_and] at hst
      by_cases hx : c = 120
      · have HA : Hid (hasT (S.take (i + 1)) (X.take (i + 1)) = true) := by unfold Hid; rw [hst, hx]; rfl
        subst hx
        clear hall hst hlc hld
        go_wp2_with fail
        go_quiet (fail)
        go_wp2_with fail
        go_roundw
        case rel => exact ⟨i + 1, by go_num, by omega, HA, bel_drewN _ hB⟩
        case measure => simp [intOf]; omega
      · have hne := ne_120 hx
        have hne2 : ((c.toNat : Int) != 120) = true := by rw [bne, hne]; rfl
        have hcx : (c == 120) = false := beq_eq_false_iff_ne.2 hx
        by_cases heq : c = d
        · have HA : Hid (hasT (S.take (i + 1)) (X.take (i + 1)) = true) := by unfold Hid; rw [hst, heq, beq_self_eq_true, Bool.or_true]
          subst heq
          clear hall hst hlc hld hx hcx
          go_wp2_with fail
          go_quiet (fail)
          go_wp2_with fail
          go_roundw
          case rel => exact ⟨i + 1, by go_num, by omega, HA, bel_drewN _ hB⟩
          case measure => simp [intOf]; omega
        · have hRf : R = false := by
            rw [← HR.out]
            refine hasT_no (i := i + 1) (by omega) HL.out ?_
            rw [hst, hcx, Bool.false_or]
            exact beq_eq_false_iff_ne.2 heq
          subst hRf
          have ne1 : ((c.toNat : Int) == (d.toNat : Int)) = false := u8_ne heq
          have ne2 : ((c.toNat : Int) != (d.toNat : Int)) = true := by rw [bne, ne1]; rfl
          clear hall hst hlc hld hx hcx heq HR
          go_wp2_with fail
          go_quiet (fail)
          go_wp2_with fail
          go_ret
          exact ⟨rfl, bel_drewN _ hB⟩
    · have q1 : ¬ (i : Int) < (S.length : Int) := by omega
      have hRt : R = true := by
        have := hall.out
        have h2 := HL.out
        rw [List.take_of_length_le (by omega), List.take_of_length_le (by omega), HR.out] at this
        exact this
      subst hRt
      clear hall HR
      go_wp2_with fail
      go_ret
      exact ⟨rfl, hB⟩
theorem dig_at (b v i : Nat) (h : i < b) : (digL b v 0)[i]? = some (bitB b v i) := by
  rw [digL_get b v 0 (Nat.zero_le _) i h, if_pos (by omega)]
set_option maxRecDepth 100000 in
set_option maxHeartbeats 1000000 in
theorem kfits_any (S : List UInt8) (v b : Nat) (w : World) (hl : S.length = b) (hb : b ≤ 32) (hv : v < 8589934592) :
    Calls Tryz.prog 58 #[.string ⟨S.toArray⟩, .int .i64 (v : Int), .int .i64 (b : Int)] w fun e w' => e = .returned (.bool (hasT S (digL b v 0))) ∧ w' = w := by
  have hdl : (digL b v 0).length = b := digL_len _ _ _ (Nat.zero_le _)
  have HD : Hid (∀ i, i < b → (digL b v 0)[i]? = some (bitB b v i)) := dig_at b v
  obtain ⟨X, hX⟩ : ∃ X, digL b v 0 = X := ⟨_, rfl⟩
  rw [hX] at hdl HD ⊢
  obtain ⟨R, hR⟩ : ∃ R, hasT S X = R := ⟨_, rfl⟩
  rw [hR]
  have HR : Hid (hasT S X = R) := hR
  have HL : Hid (S.length = X.length) := by unfold Hid; omega
  have HSB : Hid (S.length = b) := hl
  have e0 : IntKind.i64.wrap ((b : Int) - 1) = (b : Int) - 1 := by rw [IntKind.wrap_i64]; omega
  clear hR hX hl
  go_enter Tryz.func58, Tryz.ntmps58
  go_wp2_with fail
  go_loopw [7] (fun vi wr => ∃ i : Nat, vi = .int .i64 i ∧ i ≤ b ∧ Hid (hasT (S.take i) (X.take i) = true) ∧ wr = w) (fun vi _ => b - (intOf vi).toNat)
  case atStart => exact ⟨0, rfl, Nat.zero_le _, rfl, rfl⟩
  case round =>
    obtain ⟨i, rfl, hi, hall, rfl⟩ := hrel
    by_cases hlt : i < b
    · have hSb := HSB.out
      have q0 : (0 : Int) ≤ (i : Int) := by omega
      have q1 : (i : Int) < (b : Int) := by omega
      have q2 : (i : Int) < (S.length : Int) := by omega
      obtain ⟨c, hc, hlc⟩ := byte_get S i (by omega)
      have hst := hasT_take hlc (HD.out i hlt)
      rw [hall.out, Bool.true_and] at hst
      obtain ⟨k, hk⟩ : ∃ k : Nat, b - 1 - i = k := ⟨_, rfl⟩
      have hk0 : IntKind.i64.wrap ((b : Int) - 1 - (i : Int)) = (k : Int) := by rw [IntKind.wrap_i64]; omega
      have i1 : (0 : Int) ≤ (k : Int) := by omega
      have k32 : (k : Int) < 64 := by omega
      have hdv : v / 2 ^ k ≤ v := Nat.div_le_self _ _
      have hand := and1 (v / 2 ^ k) (by omega)
      rw [← div_cast] at hand
      have hbit : bitB b v i = UInt8.ofNat (48 + v / 2 ^ k % 2) := by unfold bitB; rw [hk]
      obtain ⟨d, hdd⟩ : ∃ d, v / 2 ^ k % 2 = d := ⟨_, rfl⟩
      rw [hdd] at hand hbit
      have hd2 : d = 0 ∨ d = 1 := by omega
      rw [hbit] at hst
      clear hdd hdv hbit hk hSb
      by_cases hx : c = 120
      · have HA : Hid (hasT (S.take (i + 1)) (X.take (i + 1)) = true) := by unfold Hid; rw [hst, hx]; rfl
        subst hx
        clear hall hst hlc
        rcases hd2 with rfl | rfl
        all_goals
          go_wp2_with fail
          go_roundw
          case rel => exact ⟨i + 1, by go_num, by omega, HA, by first | rfl | trivial⟩
          case measure => simp [intOf]; omega
      · have hne := ne_120 hx
        have hne2 : ((c.toNat : Int) != 120) = true := by rw [bne, hne]; rfl
        have hcx : (c == 120) = false := beq_eq_false_iff_ne.2 hx
        rw [hcx, Bool.false_or] at hst
        have hun : ∀ z : UInt8, c ≠ z → ((c.toNat : Int) == (z.toNat : Int)) = false := fun z h => u8_ne h
        rcases hd2 with rfl | rfl
        · by_cases heq : c = 48
          · have HA : Hid (hasT (S.take (i + 1)) (X.take (i + 1)) = true) := by unfold Hid; rw [hst, heq]; rfl
            subst heq
            clear hall hst hlc hx hcx hun
            go_wp2_with fail
            go_roundw
            case rel => exact ⟨i + 1, by go_num, by omega, HA, by first | rfl | trivial⟩
            case measure => simp [intOf]; omega
          · have hRf : R = false := by
              rw [← HR.out]
              refine hasT_no (i := i + 1) (by have := HSB.out; omega) HL.out ?_
              rw [hst]
              exact beq_eq_false_iff_ne.2 heq
            subst hRf
            have ne1 : ((c.toNat : Int) == 48) = false := hun 48 heq
            have ne2 : ((c.toNat : Int) != 48) = true := by rw [bne, ne1]; rfl
            clear hall hst hlc hx hcx heq HR hun
            go_wp2_with fail
            go_ret
            exact ⟨rfl, by first | rfl | trivial⟩
        · by_cases heq : c = 49
          · have HA : Hid (hasT (S.take (i + 1)) (X.take (i + 1)) = true) := by unfold Hid; rw [hst, heq]; rfl
            subst heq
            clear hall hst hlc hx hcx hun
            go_wp2_with fail
            go_roundw
            case rel => exact ⟨i + 1, by go_num, by omega, HA, by first | rfl | trivial⟩
            case measure => simp [intOf]; omega
          · have hRf : R = false := by
              rw [← HR.out]
              refine hasT_no (i := i + 1) (by have := HSB.out; omega) HL.out ?_
              rw [hst]
              exact beq_eq_false_iff_ne.2 heq
            subst hRf
            have ne1 : ((c.toNat : Int) == 49) = false := hun 49 heq
            have ne2 : ((c.toNat : Int) != 49) = true := by rw [bne, ne1]; rfl
            clear hall hst hlc hx hcx heq HR hun
            go_wp2_with fail
            go_ret
            exact ⟨rfl, by first | rfl | trivial⟩
    · have q1 : ¬ (i : Int) < (b : Int) := by omega
      have hRt : R = true := by
        have := hall.out
        have h2 := HSB.out
        have h3 := HL.out
        rw [List.take_of_length_le (by omega), List.take_of_length_le (by omega), HR.out] at this
        exact this
      subst hRt
      clear hall HR
      go_wp2_with fail
      go_ret
      exact ⟨rfl, by first | rfl | trivial⟩
def paM (s : List UInt8) (m : Nat) : List UInt8 := (List.range m).map fun j => if j < s.length ∧ (s.getD j 0).toNat % 3 < 2 then UInt8.ofNat (48 + (s.getD j 0).toNat % 3) else 120
theorem paM_len (s : List UInt8) (m : Nat) : (paM s m).length = m := by simp [paM]
theorem paM_succ (s : List UInt8) (m : Nat) : paM s (m + 1) = paM s m ++ [if m < s.length ∧ (s.getD m 0).toNat % 3 < 2 then UInt8.ofNat (48 + (s.getD m 0).toNat % 3) else 120] := by
  unfold paM
  rw [List.range_succ, List.map_append]
  rfl
theorem paM_tri (s : List UInt8) (m : Nat) : (paM s m).all Tn.tri = true := by
  rw [List.all_eq_true]
  intro c hc
  unfold paM at hc
  obtain ⟨j, -, rfl⟩ := List.mem_map.1 hc
  split
  · rename_i h
    rcases (show (s.getD j 0).toNat % 3 = 0 ∨ (s.getD j 0).toNat % 3 = 1 by omega) with e | e <;> rw [e] <;> rfl
  · rfl
set_option maxRecDepth 100000 in
set_option maxHeartbeats 4000000 in
theorem pattern_any (s : List UInt8) (b : Nat) (w : World) (hb : b ≤ 32) (_hs : s.length ≤ 281474976710656) :
    Calls Tryz.prog 57 #[.string ⟨s.toArray⟩, .int .i64 (b : Int)] w fun e w' => e = .returned (.string ⟨(paM s b).toArray⟩) ∧ Below w.heap.size w w' := by
  obtain ⟨i0, hi, hz0, hz1, hz2⟩ := info_parts info_u8
  go_enter Tryz.func57, Tryz.ntmps57
  go_wp2_with fail
  go_loopw [5, 6] (fun v vk wr => ∃ (m : Nat), vk = .int .i64 m ∧ m ≤ b ∧ wr.ownsRow w.heap.size 5 1 v m (Lib.byteCells (paM s m)) ∧ Below w.heap.size w wr) (fun _ vk _ => b - (intOf vk).toNat)
  case atStart => exact ⟨0, rfl, Nat.zero_le _, World.ownsRow_nil _ _ _ _, Below.refl _ _⟩
  case round =>
    obtain ⟨m, rfl, hm, hown, hB⟩ := hrel
    have hBs := hB.size
    by_cases hlt : m < b
    · have j1 : (m : Int) < (b : Int) := by omega
      have j0 : (0 : Int) ≤ (m : Int) := by omega
      have hsc := paM_succ s m
      have hBC : Hid (∀ d : UInt8, paM s (m + 1) = paM s m ++ [d] → Lib.byteCells (paM s (m + 1)) = Lib.byteCells (paM s m) ++ [.int .u8 (d.toNat : Int)]) := fun d hd => by rw [hd, byteCells_append]; rfl
      obtain ⟨pv, cv, rfl⟩ := shapeP hown
      by_cases hms : m < s.length
      · have q2 : (m : Int) < (s.length : Int) := by omega
        obtain ⟨d, hd, hld⟩ := byte_get s m hms
        have hgd : s.getD m 0 = d := by simp [List.getD, hld]
        rw [hgd] at hsc
        have h256 := d.toNat_lt
        rcases (show d.toNat % 3 = 0 ∨ d.toNat % 3 = 1 ∨ d.toNat % 3 = 2 by omega) with h3 | h3 | h3
        · have ho := hBC.out 48 (by rw [hsc, if_pos ⟨hms, by omega⟩, h3]; rfl)
          have HO : Hid (Lib.byteCells (paM s (m + 1)) = Lib.byteCells (paM s m) ++ [.int .u8 48]) := ho
          have r1 : (d.toNat : Int).tmod 3 = 0 := by rw [Int.tmod_eq_emod_of_nonneg (by omega)]; omega
          have r2 : (d.toNat : Int) % 3 = 0 := by omega
          clear hsc ho hgd hld h3
          go_wp2_with (at_builtin; refine wpList_append_own _ rfl _ _ 81 rfl w.heap.size 5 i0 _ 1 1 Tryz.underlying81 hi hz0 hz1 hz2 rfl (by decide) _ _ _ rfl (hown.alloc _) ⟨_, 0, none⟩ 1 1 [.int .u8 48] rfl rfl (World.news_of_block (cs := #[.int .u8 48]) (t := 5) (fr := (0, 0)) (alloc_get _ _)) (by simp [Value.oneCell']) (by unfold maxLen; omega) (by omega) (by simp; omega) ?_; intro v5 w5 oB hg5 _; have hB5 := (hB.alloc hBs _).grown hg5 (by simp; omega) (fun k e => (hown.lt k e).1))
          go_roundw
          case rel => exact ⟨m + 1, by go_num, by omega, by rw [HO.out]; exact oB, hB5⟩
          case measure => simp [intOf]; omega
        · have ho := hBC.out 49 (by rw [hsc, if_pos ⟨hms, by omega⟩, h3]; rfl)
          have HO : Hid (Lib.byteCells (paM s (m + 1)) = Lib.byteCells (paM s m) ++ [.int .u8 49]) := ho
          have r1 : (d.toNat : Int).tmod 3 = 1 := by rw [Int.tmod_eq_emod_of_nonneg (by omega)]; omega
          have r2 : (d.toNat : Int) % 3 = 1 := by omega
          clear hsc ho hgd hld h3
          go_wp2_with (at_builtin; refine wpList_append_own _ rfl _ _ 81 rfl w.heap.size 5 i0 _ 1 1 Tryz.underlying81 hi hz0 hz1 hz2 rfl (by decide) _ _ _ rfl (hown.alloc _) ⟨_, 0, none⟩ 1 1 [.int .u8 49] rfl rfl (World.news_of_block (cs := #[.int .u8 49]) (t := 5) (fr := (0, 0)) (alloc_get _ _)) (by simp [Value.oneCell']) (by unfold maxLen; omega) (by omega) (by simp; omega) ?_; intro v5 w5 oB hg5 _; have hB5 := (hB.alloc hBs _).grown hg5 (by simp; omega) (fun k e => (hown.lt k e).1))
          go_roundw
          case rel => exact ⟨m + 1, by go_num, by omega, by rw [HO.out]; exact oB, hB5⟩
          case measure => simp [intOf]; omega
        · have ho := hBC.out 120 (by rw [hsc, if_neg (fun h => by omega)])
          have HO : Hid (Lib.byteCells (paM s (m + 1)) = Lib.byteCells (paM s m) ++ [.int .u8 120]) := ho
          have r1 : (d.toNat : Int).tmod 3 = 2 := by rw [Int.tmod_eq_emod_of_nonneg (by omega)]; omega
          have r2 : (d.toNat : Int) % 3 = 2 := by omega
          clear hsc ho hgd hld h3
          go_wp2_with (at_builtin; refine wpList_append_own _ rfl _ _ 81 rfl w.heap.size 5 i0 _ 1 1 Tryz.underlying81 hi hz0 hz1 hz2 rfl (by decide) _ _ _ rfl (hown.alloc _) ⟨_, 0, none⟩ 1 1 [.int .u8 120] rfl rfl (World.news_of_block (cs := #[.int .u8 120]) (t := 5) (fr := (0, 0)) (alloc_get _ _)) (by simp [Value.oneCell']) (by unfold maxLen; omega) (by omega) (by simp; omega) ?_; intro v5 w5 oB hg5 _; have hB5 := (hB.alloc hBs _).grown hg5 (by simp; omega) (fun k e => (hown.lt k e).1))
          go_roundw
          case rel => exact ⟨m + 1, by go_num, by omega, by rw [HO.out]; exact oB, hB5⟩
          case measure => simp [intOf]; omega
      · have q2 : ¬ (m : Int) < (s.length : Int) := by omega
        rw [if_neg (fun h => hms h.1)] at hsc
        have ho := hBC.out 120 hsc
        have HO : Hid (Lib.byteCells (paM s (m + 1)) = Lib.byteCells (paM s m) ++ [.int .u8 120]) := ho
        clear hsc ho hms
        go_wp2_with (at_builtin; refine wpList_append_own _ rfl _ _ 81 rfl w.heap.size 5 i0 _ 1 1 Tryz.underlying81 hi hz0 hz1 hz2 rfl (by decide) _ _ _ rfl (hown.alloc _) ⟨_, 0, none⟩ 1 1 [.int .u8 120] rfl rfl (World.news_of_block (cs := #[.int .u8 120]) (t := 5) (fr := (0, 0)) (alloc_get _ _)) (by simp [Value.oneCell']) (by unfold maxLen; omega) (by omega) (by simp; omega) ?_; intro v5 w5 oB hg5 _; have hB5 := (hB.alloc hBs _).grown hg5 (by simp; omega) (fun k e => (hown.lt k e).1))
        go_roundw
        case rel => exact ⟨m + 1, by go_num, by omega, by rw [HO.out]; exact oB, hB5⟩
        case measure => simp [intOf]; omega
    · have j1 : ¬ (m : Int) < (b : Int) := by omega
      obtain rfl : m = b := by omega
      have hcv := conv_own (paM s m) (by rw [paM_len]; exact hown)
      obtain ⟨Z, hZ⟩ : ∃ Z, paM s m = Z := ⟨_, rfl⟩
      rw [hZ] at hcv
      have HZ : Hid (paM s m = Z) := hZ
      clear hown hZ
      go_wp2_with fail
      go_ret
      exact ⟨by rw [HZ.out]; rfl, hB⟩
set_option maxRecDepth 100000 in
set_option maxHeartbeats 4000000 in
theorem kholds_any (b v : Nat) (t : TS) (w : World) (hb : b ≤ 32) (h : TOK b t) (hv : v < 2 ^ b) :
    Calls Tryz.prog 22 #[t.v, .int .i64 (v : Int), .int .i64 (b : Int)] w fun e w' => e = .returned (.bool (holdsM b t v)) ∧ Below w.heap.size w w' := by
  have hp : 2 ^ b ≤ 2 ^ 32 := Nat.pow_le_pow_right (by decide) hb
  have ht := of_decide_eq_true h.tst
  have hcu := h.dig
  obtain ⟨-, k2, k3, k4, k5, k6, k7, -, -, -⟩ := h
  obtain ⟨R, hR⟩ : ∃ R, holdsM b t v = R := ⟨_, rfl⟩
  rw [hR]
  obtain ⟨f, op, form, lo, hi, len, pat⟩ := t
  simp only at ht hcu k2 k3 k4 k5 k6 k7
  obtain ⟨t1, t2, t3, t4, t5, -⟩ := ht
  obtain ⟨lo, rfl⟩ : ∃ z : Nat, lo = z := ⟨lo.toNat, by omega⟩
  obtain ⟨hi, rfl⟩ : ∃ z : Nat, hi = z := ⟨hi.toNat, by omega⟩
  obtain ⟨len, rfl⟩ : ∃ z : Nat, len = z := ⟨len.toNat, by omega⟩
  have HF : Hid (form = 4 → ∀ W : World, Calls Tryz.prog 58 #[.string ⟨pat.toArray⟩, .int .i64 (v : Int), .int .i64 (b : Int)] W fun e w' => e = .returned (.bool (hasT pat (digL b v 0))) ∧ w' = W) := fun e W => by
    have := hcu e
    unfold cuB at this
    simp only [Bool.and_eq_true, decide_eq_true_eq] at this
    exact kfits_any pat v b W this.1 hb (by omega)
  have hopf : op = 1 ∧ (form = 1 ∨ form = 2 ∨ form = 3 ∨ form = 4) ∨ op = 2 ∧ (form = 1 ∨ form = 2 ∨ form = 3 ∨ form = 4) ∨ (op = 3 ∨ op = 4 ∨ op = 5 ∨ op = 6) ∧ form = 1 := by omega
  show Calls Tryz.prog 22 #[.agg #[.string ⟨f.toArray⟩, .int .i64 op, .int .i64 form, .int .i64 lo, .int .i64 hi, .int .i64 len, .string ⟨pat.toArray⟩], .int .i64 (v : Int), .int .i64 (b : Int)] w _
  obtain ⟨O, hO⟩ : ∃ O : Obj, Obj.cells #[.string ⟨f.toArray⟩, .int .i64 op, .int .i64 form, .int .i64 lo, .int .i64 hi, .int .i64 len, .string ⟨pat.toArray⟩] 24 = O := ⟨_, rfl⟩
  have hB1 : Below w.heap.size w (w.alloc O) := (Below.refl _ _).alloc (Nat.le_refl _) _
  have hbx : (w.alloc O).heap[w.heap.size]? = some (.cells #[.string ⟨f.toArray⟩, .int .i64 op, .int .i64 form, .int .i64 lo, .int .i64 hi, .int .i64 len, .string ⟨pat.toArray⟩] 24) := by rw [hO]; exact alloc_get _ _
  have c0 : (w.alloc O).cell? ⟨w.heap.size, 0, none⟩ = some (.string ⟨f.toArray⟩) := cell_of_row _ _ 0 _ _ _ hbx
  have c1 : (w.alloc O).cell? ⟨w.heap.size, 1, none⟩ = some (.int .i64 op) := cell_of_row _ _ 1 _ _ _ hbx
  have c2 : (w.alloc O).cell? ⟨w.heap.size, 2, none⟩ = some (.int .i64 form) := cell_of_row _ _ 2 _ _ _ hbx
  have c3 : (w.alloc O).cell? ⟨w.heap.size, 3, none⟩ = some (.int .i64 lo) := cell_of_row _ _ 3 _ _ _ hbx
  have c4 : (w.alloc O).cell? ⟨w.heap.size, 4, none⟩ = some (.int .i64 hi) := cell_of_row _ _ 4 _ _ _ hbx
  have c5 : (w.alloc O).cell? ⟨w.heap.size, 5, none⟩ = some (.int .i64 len) := cell_of_row _ _ 5 _ _ _ hbx
  have c6 : (w.alloc O).cell? ⟨w.heap.size, 6, none⟩ = some (.string ⟨pat.toArray⟩) := cell_of_row _ _ 6 _ _ _ hbx
  have HR : Hid (holdsM b ⟨f, op, form, lo, hi, len, pat⟩ v = R) := hR
  have hlen : len ≤ b := by omega
  clear hO hbx hR hcu hp k2 k3 k4 k5 k6 k7 t1 t2 t3 t4 t5 hv
  rcases hopf with ⟨rfl, rfl | rfl | rfl | rfl⟩ | ⟨rfl, rfl | rfl | rfl | rfl⟩ | ⟨rfl | rfl | rfl | rfl, rfl⟩
  · by_cases e : (v : Int) = (lo : Int)
    · have e1 : ((v : Int) == (lo : Int)) = true := beq_iff_eq.2 e
      obtain rfl : R = true := by rw [← HR.out]; simp [holdsM, isM, e]
      clear HR HF
      clear e
      go_enter Tryz.func22, Tryz.ntmps22
      go_wp2_with fail
      go_ret
      exact ⟨rfl, by first | exact hB1 | exact (Below.refl _ _).alloc (Nat.le_refl _) _ | exact bel_drewN _ hB1 | exact hB1.drew | exact bel_drewN _ ((Below.refl _ _).alloc (Nat.le_refl _) _) | exact ((Below.refl _ _).alloc (Nat.le_refl _) _).drew⟩
    · have e1 : ((v : Int) == (lo : Int)) = false := beq_eq_false_iff_ne.2 e
      obtain rfl : R = false := by rw [← HR.out]; simp [holdsM, isM, e]
      clear HR HF
      go_enter Tryz.func22, Tryz.ntmps22
      go_wp2_with fail
      go_ret
      exact ⟨rfl, by first | exact hB1 | exact (Below.refl _ _).alloc (Nat.le_refl _) _ | exact bel_drewN _ hB1 | exact hB1.drew | exact bel_drewN _ ((Below.refl _ _).alloc (Nat.le_refl _) _) | exact ((Below.refl _ _).alloc (Nat.le_refl _) _).drew⟩
  · have e5 : IntKind.i64.wrap ((b : Int) - (len : Int)) = ((b - len : Nat) : Int) := by rw [IntKind.wrap_i64]; omega
    have hres : ∀ X Y : Nat, v / 2 ^ (b - len) = X → lo / 2 ^ (b - len) = Y → isM b ⟨f, 1, 2, lo, hi, len, pat⟩ v = decide (X = Y) := fun X Y hX hY => by subst hX hY; simp [isM]
    have dv := div_cast v (b - len)
    have dl := div_cast lo (b - len)
    obtain ⟨k, hk⟩ : ∃ k, b - len = k := ⟨_, rfl⟩
    rw [hk] at e5 dv dl hres
    have s0 : (0 : Int) ≤ (k : Int) := by omega
    have s1 : (k : Int) < 64 := by omega
    obtain ⟨X, hX⟩ : ∃ X, v / 2 ^ k = X := ⟨_, rfl⟩
    obtain ⟨Y, hY⟩ : ∃ Y, lo / 2 ^ k = Y := ⟨_, rfl⟩
    have hI := hres X Y hX hY
    rw [hX] at dv
    rw [hY] at dl
    clear hres hX hY hk hlen
    by_cases e : (X : Int) = (Y : Int)
    · have e1 : ((X : Int) == (Y : Int)) = true := beq_iff_eq.2 e
      have e0 : X = Y := by omega
      obtain rfl : R = true := by
        rw [← HR.out]
        unfold holdsM
        rw [hI]
        simp [e0]
      clear HR HF hI
      clear e e0
      go_enter Tryz.func22, Tryz.ntmps22
      go_wp2_with fail
      go_quiet (fail)
      go_wp2_with fail
      go_ret
      exact ⟨rfl, by first | exact hB1 | exact (Below.refl _ _).alloc (Nat.le_refl _) _ | exact bel_drewN _ hB1 | exact hB1.drew | exact bel_drewN _ ((Below.refl _ _).alloc (Nat.le_refl _) _) | exact ((Below.refl _ _).alloc (Nat.le_refl _) _).drew⟩
    · have e1 : ((X : Int) == (Y : Int)) = false := beq_eq_false_iff_ne.2 e
      have e0 : ¬ X = Y := by omega
      obtain rfl : R = false := by
        rw [← HR.out]
        unfold holdsM
        rw [hI]
        simp [e0]
      clear HR HF hI
      clear e0
      go_enter Tryz.func22, Tryz.ntmps22
      go_wp2_with fail
      go_quiet (fail)
      go_wp2_with fail
      go_ret
      exact ⟨rfl, by first | exact hB1 | exact (Below.refl _ _).alloc (Nat.le_refl _) _ | exact bel_drewN _ hB1 | exact hB1.drew | exact bel_drewN _ ((Below.refl _ _).alloc (Nat.le_refl _) _) | exact ((Below.refl _ _).alloc (Nat.le_refl _) _).drew⟩
  · by_cases e : (lo : Int) ≤ (v : Int)
    · by_cases g : (v : Int) ≤ (hi : Int)
      · obtain rfl : R = true := by rw [← HR.out]; simp [holdsM, isM, Int.ofNat_le.1 e, Int.ofNat_le.1 g]
        clear HR HF
        go_enter Tryz.func22, Tryz.ntmps22
        go_wp2_with fail
        go_ret
        exact ⟨rfl, by first | exact hB1 | exact (Below.refl _ _).alloc (Nat.le_refl _) _ | exact bel_drewN _ hB1 | exact hB1.drew | exact bel_drewN _ ((Below.refl _ _).alloc (Nat.le_refl _) _) | exact ((Below.refl _ _).alloc (Nat.le_refl _) _).drew⟩
      · have g0 : ¬ v ≤ hi := by omega
        obtain rfl : R = false := by rw [← HR.out]; simp [holdsM, isM, g0]
        clear HR HF
        clear g0
        go_enter Tryz.func22, Tryz.ntmps22
        go_wp2_with fail
        go_ret
        exact ⟨rfl, by first | exact hB1 | exact (Below.refl _ _).alloc (Nat.le_refl _) _ | exact bel_drewN _ hB1 | exact hB1.drew | exact bel_drewN _ ((Below.refl _ _).alloc (Nat.le_refl _) _) | exact ((Below.refl _ _).alloc (Nat.le_refl _) _).drew⟩
    · have e0 : ¬ lo ≤ v := by omega
      obtain rfl : R = false := by rw [← HR.out]; simp [holdsM, isM, e0]
      clear HR HF
      clear e0
      go_enter Tryz.func22, Tryz.ntmps22
      go_wp2_with fail
      go_ret
      exact ⟨rfl, by first | exact hB1 | exact (Below.refl _ _).alloc (Nat.le_refl _) _ | exact bel_drewN _ hB1 | exact hB1.drew | exact bel_drewN _ ((Below.refl _ _).alloc (Nat.le_refl _) _) | exact ((Below.refl _ _).alloc (Nat.le_refl _) _).drew⟩
  · have hF := HF.out rfl
    obtain ⟨I, hI⟩ : ∃ I, hasT pat (digL b v 0) = I := ⟨_, rfl⟩
    rw [hI] at hF
    obtain rfl : I = R := by rw [← HR.out]; simp [holdsM, isM, hI]
    clear HR HF hI
    cases I with
    | true =>
      go_enter Tryz.func22, Tryz.ntmps22
      go_wp2_with fail
      refine (hF _).mono ?_
      rintro e W1 ⟨rfl, rfl⟩
      go_wp2_with fail
      go_ret
      exact ⟨rfl, by first | exact hB1 | exact (Below.refl _ _).alloc (Nat.le_refl _) _ | exact bel_drewN _ hB1 | exact hB1.drew | exact bel_drewN _ ((Below.refl _ _).alloc (Nat.le_refl _) _) | exact ((Below.refl _ _).alloc (Nat.le_refl _) _).drew⟩
    | false =>
      go_enter Tryz.func22, Tryz.ntmps22
      go_wp2_with fail
      refine (hF _).mono ?_
      rintro e W1 ⟨rfl, rfl⟩
      go_wp2_with fail
      go_ret
      exact ⟨rfl, by first | exact hB1 | exact (Below.refl _ _).alloc (Nat.le_refl _) _ | exact bel_drewN _ hB1 | exact hB1.drew | exact bel_drewN _ ((Below.refl _ _).alloc (Nat.le_refl _) _) | exact ((Below.refl _ _).alloc (Nat.le_refl _) _).drew⟩
  · by_cases e : (v : Int) = (lo : Int)
    · have e1 : ((v : Int) == (lo : Int)) = true := beq_iff_eq.2 e
      obtain rfl : R = false := by rw [← HR.out]; simp [holdsM, isM, e]
      clear HR HF
      clear e
      go_enter Tryz.func22, Tryz.ntmps22
      go_wp2_with fail
      go_ret
      exact ⟨rfl, by first | exact hB1 | exact (Below.refl _ _).alloc (Nat.le_refl _) _ | exact bel_drewN _ hB1 | exact hB1.drew | exact bel_drewN _ ((Below.refl _ _).alloc (Nat.le_refl _) _) | exact ((Below.refl _ _).alloc (Nat.le_refl _) _).drew⟩
    · have e1 : ((v : Int) == (lo : Int)) = false := beq_eq_false_iff_ne.2 e
      obtain rfl : R = true := by rw [← HR.out]; simp [holdsM, isM, e]
      clear HR HF
      go_enter Tryz.func22, Tryz.ntmps22
      go_wp2_with fail
      go_ret
      exact ⟨rfl, by first | exact hB1 | exact (Below.refl _ _).alloc (Nat.le_refl _) _ | exact bel_drewN _ hB1 | exact hB1.drew | exact bel_drewN _ ((Below.refl _ _).alloc (Nat.le_refl _) _) | exact ((Below.refl _ _).alloc (Nat.le_refl _) _).drew⟩
  · have e5 : IntKind.i64.wrap ((b : Int) - (len : Int)) = ((b - len : Nat) : Int) := by rw [IntKind.wrap_i64]; omega
    have hres : ∀ X Y : Nat, v / 2 ^ (b - len) = X → lo / 2 ^ (b - len) = Y → isM b ⟨f, 2, 2, lo, hi, len, pat⟩ v = decide (X = Y) := fun X Y hX hY => by subst hX hY; simp [isM]
    have dv := div_cast v (b - len)
    have dl := div_cast lo (b - len)
    obtain ⟨k, hk⟩ : ∃ k, b - len = k := ⟨_, rfl⟩
    rw [hk] at e5 dv dl hres
    have s0 : (0 : Int) ≤ (k : Int) := by omega
    have s1 : (k : Int) < 64 := by omega
    obtain ⟨X, hX⟩ : ∃ X, v / 2 ^ k = X := ⟨_, rfl⟩
    obtain ⟨Y, hY⟩ : ∃ Y, lo / 2 ^ k = Y := ⟨_, rfl⟩
    have hI := hres X Y hX hY
    rw [hX] at dv
    rw [hY] at dl
    clear hres hX hY hk hlen
    by_cases e : (X : Int) = (Y : Int)
    · have e1 : ((X : Int) == (Y : Int)) = true := beq_iff_eq.2 e
      have e0 : X = Y := by omega
      obtain rfl : R = false := by
        rw [← HR.out]
        unfold holdsM
        rw [hI]
        simp [e0]
      clear HR HF hI
      clear e e0
      go_enter Tryz.func22, Tryz.ntmps22
      go_wp2_with fail
      go_quiet (fail)
      go_wp2_with fail
      go_ret
      exact ⟨rfl, by first | exact hB1 | exact (Below.refl _ _).alloc (Nat.le_refl _) _ | exact bel_drewN _ hB1 | exact hB1.drew | exact bel_drewN _ ((Below.refl _ _).alloc (Nat.le_refl _) _) | exact ((Below.refl _ _).alloc (Nat.le_refl _) _).drew⟩
    · have e1 : ((X : Int) == (Y : Int)) = false := beq_eq_false_iff_ne.2 e
      have e0 : ¬ X = Y := by omega
      obtain rfl : R = true := by
        rw [← HR.out]
        unfold holdsM
        rw [hI]
        simp [e0]
      clear HR HF hI
      clear e0
      go_enter Tryz.func22, Tryz.ntmps22
      go_wp2_with fail
      go_quiet (fail)
      go_wp2_with fail
      go_ret
      exact ⟨rfl, by first | exact hB1 | exact (Below.refl _ _).alloc (Nat.le_refl _) _ | exact bel_drewN _ hB1 | exact hB1.drew | exact bel_drewN _ ((Below.refl _ _).alloc (Nat.le_refl _) _) | exact ((Below.refl _ _).alloc (Nat.le_refl _) _).drew⟩
  · by_cases e : (lo : Int) ≤ (v : Int)
    · by_cases g : (v : Int) ≤ (hi : Int)
      · obtain rfl : R = false := by rw [← HR.out]; simp [holdsM, isM, Int.ofNat_le.1 e, Int.ofNat_le.1 g]
        clear HR HF
        go_enter Tryz.func22, Tryz.ntmps22
        go_wp2_with fail
        go_ret
        exact ⟨rfl, by first | exact hB1 | exact (Below.refl _ _).alloc (Nat.le_refl _) _ | exact bel_drewN _ hB1 | exact hB1.drew | exact bel_drewN _ ((Below.refl _ _).alloc (Nat.le_refl _) _) | exact ((Below.refl _ _).alloc (Nat.le_refl _) _).drew⟩
      · have g0 : ¬ v ≤ hi := by omega
        obtain rfl : R = true := by rw [← HR.out]; simp [holdsM, isM, g0]
        clear HR HF
        clear g0
        go_enter Tryz.func22, Tryz.ntmps22
        go_wp2_with fail
        go_ret
        exact ⟨rfl, by first | exact hB1 | exact (Below.refl _ _).alloc (Nat.le_refl _) _ | exact bel_drewN _ hB1 | exact hB1.drew | exact bel_drewN _ ((Below.refl _ _).alloc (Nat.le_refl _) _) | exact ((Below.refl _ _).alloc (Nat.le_refl _) _).drew⟩
    · have e0 : ¬ lo ≤ v := by omega
      obtain rfl : R = true := by rw [← HR.out]; simp [holdsM, isM, e0]
      clear HR HF
      clear e0
      go_enter Tryz.func22, Tryz.ntmps22
      go_wp2_with fail
      go_ret
      exact ⟨rfl, by first | exact hB1 | exact (Below.refl _ _).alloc (Nat.le_refl _) _ | exact bel_drewN _ hB1 | exact hB1.drew | exact bel_drewN _ ((Below.refl _ _).alloc (Nat.le_refl _) _) | exact ((Below.refl _ _).alloc (Nat.le_refl _) _).drew⟩
  · have hF := HF.out rfl
    obtain ⟨I, hI⟩ : ∃ I, hasT pat (digL b v 0) = I := ⟨_, rfl⟩
    rw [hI] at hF
    obtain rfl : R = !I := by rw [← HR.out]; simp [holdsM, isM, hI]
    clear HR HF hI
    cases I with
    | true =>
      go_enter Tryz.func22, Tryz.ntmps22
      go_wp2_with fail
      refine (hF _).mono ?_
      rintro e W1 ⟨rfl, rfl⟩
      go_wp2_with fail
      go_ret
      exact ⟨rfl, by first | exact hB1 | exact (Below.refl _ _).alloc (Nat.le_refl _) _ | exact bel_drewN _ hB1 | exact hB1.drew | exact bel_drewN _ ((Below.refl _ _).alloc (Nat.le_refl _) _) | exact ((Below.refl _ _).alloc (Nat.le_refl _) _).drew⟩
    | false =>
      go_enter Tryz.func22, Tryz.ntmps22
      go_wp2_with fail
      refine (hF _).mono ?_
      rintro e W1 ⟨rfl, rfl⟩
      go_wp2_with fail
      go_ret
      exact ⟨rfl, by first | exact hB1 | exact (Below.refl _ _).alloc (Nat.le_refl _) _ | exact bel_drewN _ hB1 | exact hB1.drew | exact bel_drewN _ ((Below.refl _ _).alloc (Nat.le_refl _) _) | exact ((Below.refl _ _).alloc (Nat.le_refl _) _).drew⟩
  · by_cases e : (v : Int) < (lo : Int)
    · have e0 : v < lo := by omega
      obtain rfl : R = true := by rw [← HR.out]; simp [holdsM, e0]
      clear HR HF
      clear e0
      go_enter Tryz.func22, Tryz.ntmps22
      go_wp2_with fail
      go_ret
      exact ⟨rfl, by first | exact hB1 | exact (Below.refl _ _).alloc (Nat.le_refl _) _ | exact bel_drewN _ hB1 | exact hB1.drew | exact bel_drewN _ ((Below.refl _ _).alloc (Nat.le_refl _) _) | exact ((Below.refl _ _).alloc (Nat.le_refl _) _).drew⟩
    · have e0 : ¬ v < lo := by omega
      obtain rfl : R = false := by rw [← HR.out]; simp [holdsM, e0]
      clear HR HF
      clear e0
      go_enter Tryz.func22, Tryz.ntmps22
      go_wp2_with fail
      go_ret
      exact ⟨rfl, by first | exact hB1 | exact (Below.refl _ _).alloc (Nat.le_refl _) _ | exact bel_drewN _ hB1 | exact hB1.drew | exact bel_drewN _ ((Below.refl _ _).alloc (Nat.le_refl _) _) | exact ((Below.refl _ _).alloc (Nat.le_refl _) _).drew⟩
  · by_cases e : (v : Int) ≤ (lo : Int)
    · have e0 : v ≤ lo := by omega
      obtain rfl : R = true := by rw [← HR.out]; simp [holdsM, e0]
      clear HR HF
      clear e0
      go_enter Tryz.func22, Tryz.ntmps22
      go_wp2_with fail
      go_ret
      exact ⟨rfl, by first | exact hB1 | exact (Below.refl _ _).alloc (Nat.le_refl _) _ | exact bel_drewN _ hB1 | exact hB1.drew | exact bel_drewN _ ((Below.refl _ _).alloc (Nat.le_refl _) _) | exact ((Below.refl _ _).alloc (Nat.le_refl _) _).drew⟩
    · have e0 : ¬ v ≤ lo := by omega
      obtain rfl : R = false := by rw [← HR.out]; simp [holdsM, e0]
      clear HR HF
      clear e0
      go_enter Tryz.func22, Tryz.ntmps22
      go_wp2_with fail
      go_ret
      exact ⟨rfl, by first | exact hB1 | exact (Below.refl _ _).alloc (Nat.le_refl _) _ | exact bel_drewN _ hB1 | exact hB1.drew | exact bel_drewN _ ((Below.refl _ _).alloc (Nat.le_refl _) _) | exact ((Below.refl _ _).alloc (Nat.le_refl _) _).drew⟩
  · by_cases e : (lo : Int) < (v : Int)
    · have e0 : lo < v := by omega
      obtain rfl : R = true := by rw [← HR.out]; simp [holdsM, e0]
      clear HR HF
      clear e0
      go_enter Tryz.func22, Tryz.ntmps22
      go_wp2_with fail
      go_ret
      exact ⟨rfl, by first | exact hB1 | exact (Below.refl _ _).alloc (Nat.le_refl _) _ | exact bel_drewN _ hB1 | exact hB1.drew | exact bel_drewN _ ((Below.refl _ _).alloc (Nat.le_refl _) _) | exact ((Below.refl _ _).alloc (Nat.le_refl _) _).drew⟩
    · have e0 : ¬ lo < v := by omega
      obtain rfl : R = false := by rw [← HR.out]; simp [holdsM, e0]
      clear HR HF
      clear e0
      go_enter Tryz.func22, Tryz.ntmps22
      go_wp2_with fail
      go_ret
      exact ⟨rfl, by first | exact hB1 | exact (Below.refl _ _).alloc (Nat.le_refl _) _ | exact bel_drewN _ hB1 | exact hB1.drew | exact bel_drewN _ ((Below.refl _ _).alloc (Nat.le_refl _) _) | exact ((Below.refl _ _).alloc (Nat.le_refl _) _).drew⟩
  · by_cases e : (lo : Int) ≤ (v : Int)
    · have e0 : lo ≤ v := by omega
      obtain rfl : R = true := by rw [← HR.out]; simp [holdsM, e0]
      clear HR HF
      clear e0
      go_enter Tryz.func22, Tryz.ntmps22
      go_wp2_with fail
      go_ret
      exact ⟨rfl, by first | exact hB1 | exact (Below.refl _ _).alloc (Nat.le_refl _) _ | exact bel_drewN _ hB1 | exact hB1.drew | exact bel_drewN _ ((Below.refl _ _).alloc (Nat.le_refl _) _) | exact ((Below.refl _ _).alloc (Nat.le_refl _) _).drew⟩
    · have e0 : ¬ lo ≤ v := by omega
      obtain rfl : R = false := by rw [← HR.out]; simp [holdsM, e0]
      clear HR HF
      clear e0
      go_enter Tryz.func22, Tryz.ntmps22
      go_wp2_with fail
      go_ret
      exact ⟨rfl, by first | exact hB1 | exact (Below.refl _ _).alloc (Nat.le_refl _) _ | exact bel_drewN _ hB1 | exact hB1.drew | exact bel_drewN _ ((Below.refl _ _).alloc (Nat.le_refl _) _) | exact ((Below.refl _ _).alloc (Nat.le_refl _) _).drew⟩
end Go.Proofs.YtepokgainceidaaGreatDoor
