import Derived.Test.YtialcphfaleedaaGreatDoorZ26
namespace Go.Proofs.YtialcphfaleedaaGreatDoor
open Go.RowKit Go.Shelf
set_option maxRecDepth 100000 in
set_option maxHeartbeats 1000000 in
theorem tk_pat (l : List UInt8) (i : Nat) (w : World) (hi : (i : Int) < (l.length : Int)) (hs : l.length ≤ 16384) (hc : ∀ h', (ByteArray.mk l.toArray)[i]'h' = 37) (HL : Hid (∀ W : World, Calls Tryz.prog 42 #[.int .u8 (37 : Int)] W fun e w' => e = .returned (.bool false) ∧ w' = W)) (HD : Hid (∀ W : World, Calls Tryz.prog 44 #[.int .u8 (37 : Int)] W fun e w' => e = .returned (.bool false) ∧ w' = W)) (j : Nat) (hij : i ≤ j) (hjl : j ≤ l.length) (HR : Hid (∀ W : World, Calls Tryz.prog 43 #[.string ⟨l.toArray⟩, .int .i64 ((i : Int) + 1)] W fun e w' => e = .returned (.int .i64 (j : Int)) ∧ w' = W)) (q : Bool) (T : List UInt8) (hE : (ByteArray.mk l.toArray).extract i j = ⟨T.toArray⟩) (HP : Hid (∀ W : World, Calls Tryz.prog 47 #[.string ⟨T.toArray⟩] W fun e w' => e = .returned (.bool q) ∧ Below W.heap.size W w')) :
    Calls Tryz.prog 38 #[.string ⟨l.toArray⟩, .int .i64 (i : Int)] w fun e w' => e = .returned (.tuple #[.int .i64 (if q = true then 5 else 0), .int .i64 (if q = true then (j : Int) else (i : Int)), .int .i64 (if q = true then 0 else 44)]) ∧ Below w.heap.size w w' := by
  have j5 : (i : Int) ≤ (j : Int) := by omega
  have j6 : (j : Int) ≤ (l.length : Int) := by omega
  go_enter Tryz.func38, Tryz.ntmps38
  go_wp2_with fail
  refine (HL.out _).mono ?_
  rintro e w ⟨rfl, rfl⟩
  go_wp2_with fail
  refine (HD.out _).mono ?_
  rintro e w ⟨rfl, rfl⟩
  go_wp2_with fail
  refine (HR.out _).mono ?_
  rintro e w ⟨rfl, rfl⟩
  go_wp2_with fail
  refine (HP.out _).mono ?_
  rintro e w3 ⟨rfl, hb3⟩
  cases q with
  | true =>
    go_wp2_with fail
    refine bodyPost_ret (results_rt _ _ _ _ _ ⟨rfl, rfl, rfl⟩) rfl ?_
    exact ⟨rfl, hb3⟩
  | false =>
    go_wp2_with fail
    refine bodyPost_ret (results_rt _ _ _ _ _ ⟨rfl, rfl, rfl⟩) rfl ?_
    exact ⟨rfl, hb3⟩
set_option maxRecDepth 100000 in
set_option maxHeartbeats 1000000 in
theorem tk_q1 (l : List UInt8) (i : Nat) (w : World) (hi : (i : Int) < (l.length : Int)) (_ : l.length ≤ 16384) (hc : ∀ h', (ByteArray.mk l.toArray)[i]'h' = 34) (HL : Hid (∀ W : World, Calls Tryz.prog 42 #[.int .u8 (34 : Int)] W fun e w' => e = .returned (.bool false) ∧ w' = W)) (HD : Hid (∀ W : World, Calls Tryz.prog 44 #[.int .u8 (34 : Int)] W fun e w' => e = .returned (.bool false) ∧ w' = W)) (said : List UInt8) (a e0 : Nat) (HI : Hid (∀ W : World, Calls Tryz.prog 48 #[.string ⟨l.toArray⟩, .int .i64 (i : Int)] W fun e w' => e = .returned (.tuple #[.string ⟨said.toArray⟩, .int .i64 (a : Int), .int .i64 (e0 : Int)]) ∧ Below W.heap.size W w')) (he : ((e0 : Int) == 0) = false) :
    Calls Tryz.prog 38 #[.string ⟨l.toArray⟩, .int .i64 (i : Int)] w fun e w' => e = .returned (.tuple #[.int .i64 0, .int .i64 (a : Int), .int .i64 (e0 : Int)]) ∧ Below w.heap.size w w' := by
  have hm : ((e0 : Int) != 0) = true := by rw [bne, he]; rfl
  go_enter Tryz.func38, Tryz.ntmps38
  go_wp2_with fail
  refine (HL.out _).mono ?_
  rintro e w ⟨rfl, rfl⟩
  go_wp2_with fail
  refine (HD.out _).mono ?_
  rintro e w ⟨rfl, rfl⟩
  go_wp2_with fail
  refine (HI.out _).mono ?_
  rintro e w3 ⟨rfl, hb3⟩
  go_wp2_with fail
  refine bodyPost_ret (results_rt _ _ _ _ _ ⟨rfl, rfl, rfl⟩) rfl ?_
  exact ⟨rfl, hb3⟩
set_option maxRecDepth 100000 in
set_option maxHeartbeats 1000000 in
theorem tk_q2 (l : List UInt8) (i : Nat) (w : World) (hi : (i : Int) < (l.length : Int)) (_ : l.length ≤ 16384) (hc : ∀ h', (ByteArray.mk l.toArray)[i]'h' = 34) (HL : Hid (∀ W : World, Calls Tryz.prog 42 #[.int .u8 (34 : Int)] W fun e w' => e = .returned (.bool false) ∧ w' = W)) (HD : Hid (∀ W : World, Calls Tryz.prog 44 #[.int .u8 (34 : Int)] W fun e w' => e = .returned (.bool false) ∧ w' = W)) (said : List UInt8) (a : Nat) (HI : Hid (∀ W : World, Calls Tryz.prog 48 #[.string ⟨l.toArray⟩, .int .i64 (i : Int)] W fun e w' => e = .returned (.tuple #[.string ⟨said.toArray⟩, .int .i64 (a : Int), .int .i64 0]) ∧ Below W.heap.size W w')) (hl : (256 : Int) < (said.length : Int)) :
    Calls Tryz.prog 38 #[.string ⟨l.toArray⟩, .int .i64 (i : Int)] w fun e w' => e = .returned (.tuple #[.int .i64 0, .int .i64 (i : Int), .int .i64 37]) ∧ Below w.heap.size w w' := by
  go_enter Tryz.func38, Tryz.ntmps38
  go_wp2_with fail
  refine (HL.out _).mono ?_
  rintro e w ⟨rfl, rfl⟩
  go_wp2_with fail
  refine (HD.out _).mono ?_
  rintro e w ⟨rfl, rfl⟩
  go_wp2_with fail
  refine (HI.out _).mono ?_
  rintro e w3 ⟨rfl, hb3⟩
  go_wp2_with fail
  refine bodyPost_ret (results_rt _ _ _ _ _ ⟨rfl, rfl, rfl⟩) rfl ?_
  exact ⟨rfl, hb3⟩
set_option maxRecDepth 100000 in
set_option maxHeartbeats 1000000 in
theorem tk_q3 (l : List UInt8) (i : Nat) (w : World) (hi : (i : Int) < (l.length : Int)) (_ : l.length ≤ 16384) (hc : ∀ h', (ByteArray.mk l.toArray)[i]'h' = 34) (HL : Hid (∀ W : World, Calls Tryz.prog 42 #[.int .u8 (34 : Int)] W fun e w' => e = .returned (.bool false) ∧ w' = W)) (HD : Hid (∀ W : World, Calls Tryz.prog 44 #[.int .u8 (34 : Int)] W fun e w' => e = .returned (.bool false) ∧ w' = W)) (said : List UInt8) (a : Nat) (HI : Hid (∀ W : World, Calls Tryz.prog 48 #[.string ⟨l.toArray⟩, .int .i64 (i : Int)] W fun e w' => e = .returned (.tuple #[.string ⟨said.toArray⟩, .int .i64 (a : Int), .int .i64 0]) ∧ Below W.heap.size W w')) (hl : ¬ (256 : Int) < (said.length : Int)) :
    Calls Tryz.prog 38 #[.string ⟨l.toArray⟩, .int .i64 (i : Int)] w fun e w' => e = .returned (.tuple #[.int .i64 6, .int .i64 (a : Int), .int .i64 0]) ∧ Below w.heap.size w w' := by
  go_enter Tryz.func38, Tryz.ntmps38
  go_wp2_with fail
  refine (HL.out _).mono ?_
  rintro e w ⟨rfl, rfl⟩
  go_wp2_with fail
  refine (HD.out _).mono ?_
  rintro e w ⟨rfl, rfl⟩
  go_wp2_with fail
  refine (HI.out _).mono ?_
  rintro e w3 ⟨rfl, hb3⟩
  go_wp2_with fail
  refine bodyPost_ret (results_rt _ _ _ _ _ ⟨rfl, rfl, rfl⟩) rfl ?_
  exact ⟨rfl, hb3⟩
set_option maxRecDepth 100000 in
set_option maxHeartbeats 1000000 in
theorem tk_sg (l : List UInt8) (i : Nat) (c : UInt8) (w : World) (hi : (i : Int) < (l.length : Int)) (hs : l.length ≤ 16384) (hc : ∀ h', (ByteArray.mk l.toArray)[i]'h' = c) (HL : Hid (∀ W : World, Calls Tryz.prog 42 #[.int .u8 (c.toNat : Int)] W fun e w' => e = .returned (.bool false) ∧ w' = W)) (HD : Hid (∀ W : World, Calls Tryz.prog 44 #[.int .u8 (c.toNat : Int)] W fun e w' => e = .returned (.bool false) ∧ w' = W)) (n37 : ((c.toNat : Int) == 37) = false) (n34 : ((c.toNat : Int) == 34) = false) (hi' : i < l.length) (g : SR w) :
    Calls Tryz.prog 38 #[.string ⟨l.toArray⟩, .int .i64 (i : Int)] w fun e w' => e = .returned (.tuple #[.int .i64 (if sgn (l.drop i) = 0 then 0 else 7), .int .i64 ((i : Int) + (sgn (l.drop i) : Int)), .int .i64 (if sgn (l.drop i) = 0 then 30 else 0)]) ∧ Below w.heap.size w w' := by
  have HG : Hid (SR w) := g
  have h1 : subL l i (i + 1) = [l[i]] := by unfold subL; rw [Nat.add_sub_cancel_left, List.drop_eq_getElem_cons hi']; rfl
  have HS1 := refSign_any (subL l i (i + 1)) w g
  have hE1 : ∀ W : World, Sem.run Tryz.prog (Instr.slice 9 (.string ⟨l.toArray⟩) (some (.int .i64 (i : Int))) (some (.int .i64 ((i : Int) + 1))) none) W = .ok (.string ⟨(subL l i (i + 1)).toArray⟩) W := fun W => by
    have := slice_str l i 1 hi' W
    unfold subL
    rw [Nat.add_sub_cancel_left]
    exact this
  have k1 : (i : Int) + 1 ≤ (l.length : Int) := by omega
  have m1 : ∀ x : UInt8, ([x] ∈ signsL) ↔ [x] ∈ signs1 := fun x => by
    rw [show signsL = signs2 ++ signs1 from rfl, List.mem_append]
    refine ⟨fun h => h.resolve_left (fun h2 => ?_), .inr⟩
    have h3 : ∀ s ∈ signs2, s.length = 2 := by decide
    have := h3 _ h2
    simp at this
  have m2 : ∀ x y : UInt8, ([x, y] ∈ signsL) ↔ [x, y] ∈ signs2 := fun x y => by
    rw [show signsL = signs2 ++ signs1 from rfl, List.mem_append]
    refine ⟨fun h => h.resolve_right (fun h2 => ?_), .inl⟩
    have h3 : ∀ s ∈ signs1, s.length = 1 := by decide
    have := h3 _ h2
    simp at this
  rw [h1] at HS1 hE1
  obtain ⟨q1, hq1⟩ : ∃ q, isSg [l[i]] = q := ⟨_, rfl⟩
  rw [hq1] at HS1
  have HQ1 : Hid (([l[i]] ∈ signs1) ↔ q1 = true) := by unfold Hid; rw [← m1, ← hq1]; unfold isSg; simp
  obtain ⟨T1, hT1⟩ : ∃ T, [l[i]] = T := ⟨_, rfl⟩
  rw [hT1] at HS1 hE1
  by_cases h2l : i + 1 < l.length
  · have k2 : (i : Int) + 2 ≤ (l.length : Int) := by omega
    have h2 : subL l i (i + 2) = [l[i], l[i + 1]] := by
      unfold subL
      rw [Nat.add_sub_cancel_left, List.drop_eq_getElem_cons hi', List.drop_eq_getElem_cons h2l]
      rfl
    have HS2 := refSign_any (subL l i (i + 2)) w g
    have hE2 : ∀ W : World, Sem.run Tryz.prog (Instr.slice 9 (.string ⟨l.toArray⟩) (some (.int .i64 (i : Int))) (some (.int .i64 ((i : Int) + 2))) none) W = .ok (.string ⟨(subL l i (i + 2)).toArray⟩) W := fun W => by
      have := slice_str l i 2 h2l W
      unfold subL
      rw [Nat.add_sub_cancel_left]
      exact this
    rw [h2] at HS2 hE2
    obtain ⟨q2, hq2⟩ : ∃ q, isSg [l[i], l[i + 1]] = q := ⟨_, rfl⟩
    rw [hq2] at HS2
    have HQ2 : Hid (([l[i], l[i + 1]] ∈ signs2) ↔ q2 = true) := by unfold Hid; rw [← m2, ← hq2]; unfold isSg; simp
    obtain ⟨T2, hT2⟩ : ∃ T, [l[i], l[i + 1]] = T := ⟨_, rfl⟩
    rw [hT2] at HS2 hE2
    have hsg : sgn (l.drop i) = if q2 = true then 2 else if q1 = true then 1 else 0 := by
      rw [List.drop_eq_getElem_cons hi', List.drop_eq_getElem_cons h2l, sgn_two]
      simp only [HQ1.out, HQ2.out]
    rw [hsg]
    clear hsg hq1 hq2 hT1 hT2 HQ1 HQ2 h1 h2 m1 m2 g
    cases q2 with
    | true =>
      clear HS1 hE1
      go_enter Tryz.func38, Tryz.ntmps38
      go_wp2_with fail
      refine (HL.out _).mono ?_
      rintro e w ⟨rfl, rfl⟩
      go_wp2_with fail
      refine (HD.out _).mono ?_
      rintro e w ⟨rfl, rfl⟩
      go_wp2_with fail
      go_loop [15] (fun vn => vn = .int .i64 2) (fun vn => (intOf vn).toNat)
      case atStart => exact rfl
      case round =>
        subst hrel
        go_wp2_with fail
        refine HS2.mono ?_
        rintro e w3 ⟨rfl, rfl⟩
        go_wp2_with fail
        refine bodyPost_ret (results_rt _ _ _ _ _ ⟨rfl, rfl, rfl⟩) rfl ?_
        exact ⟨rfl, Below.refl _ _⟩
    | false =>
      cases q1 with
      | true =>
        go_enter Tryz.func38, Tryz.ntmps38
        go_wp2_with fail
        refine (HL.out _).mono ?_
        rintro e w ⟨rfl, rfl⟩
        go_wp2_with fail
        refine (HD.out _).mono ?_
        rintro e w ⟨rfl, rfl⟩
        go_wp2_with fail
        go_loop [15] (fun vn => vn = .int .i64 2 ∨ vn = .int .i64 1) (fun vn => (intOf vn).toNat)
        case atStart => exact .inl rfl
        case round =>
          rcases hrel with rfl | rfl
          · go_wp2_with fail
            refine HS2.mono ?_
            rintro e w3 ⟨rfl, rfl⟩
            go_wp2_with fail
            go_round
            case rel => exact .inr rfl
            case measure => simp [intOf]
          · go_wp2_with fail
            refine HS1.mono ?_
            rintro e w3 ⟨rfl, rfl⟩
            go_wp2_with fail
            refine bodyPost_ret (results_rt _ _ _ _ _ ⟨rfl, rfl, rfl⟩) rfl ?_
            exact ⟨rfl, Below.refl _ _⟩
      | false =>
        go_enter Tryz.func38, Tryz.ntmps38
        go_wp2_with fail
        refine (HL.out _).mono ?_
        rintro e w ⟨rfl, rfl⟩
        go_wp2_with fail
        refine (HD.out _).mono ?_
        rintro e w ⟨rfl, rfl⟩
        go_wp2_with fail
        go_loop [15] (fun vn => vn = .int .i64 2 ∨ vn = .int .i64 1 ∨ vn = .int .i64 0) (fun vn => (intOf vn).toNat)
        case atStart => exact .inl rfl
        case round =>
          rcases hrel with rfl | rfl | rfl
          · go_wp2_with fail
            refine HS2.mono ?_
            rintro e w3 ⟨rfl, rfl⟩
            go_wp2_with fail
            go_round
            case rel => exact .inr (.inl rfl)
            case measure => simp [intOf]
          · go_wp2_with fail
            refine HS1.mono ?_
            rintro e w3 ⟨rfl, rfl⟩
            go_wp2_with fail
            go_round
            case rel => exact .inr (.inr rfl)
            case measure => simp [intOf]
          · go_wp2_with fail
            refine bodyPost_ret (results_rt _ _ _ _ _ ⟨rfl, rfl, rfl⟩) rfl ?_
            exact ⟨by simp, Below.refl _ _⟩
  · have k2 : ¬ (i : Int) + 2 ≤ (l.length : Int) := by omega
    have hsg : sgn (l.drop i) = if q1 = true then 1 else 0 := by
      have hd : l.drop (i + 1) = [] := List.drop_eq_nil_of_le (by omega)
      rw [List.drop_eq_getElem_cons hi', hd, sgn_one]
      simp only [HQ1.out]
    rw [hsg]
    clear hsg hq1 hT1 HQ1 h1 m1 m2 g
    cases q1 with
    | true =>
      go_enter Tryz.func38, Tryz.ntmps38
      go_wp2_with fail
      refine (HL.out _).mono ?_
      rintro e w ⟨rfl, rfl⟩
      go_wp2_with fail
      refine (HD.out _).mono ?_
      rintro e w ⟨rfl, rfl⟩
      go_wp2_with fail
      go_loop [15] (fun vn => vn = .int .i64 2 ∨ vn = .int .i64 1) (fun vn => (intOf vn).toNat)
      case atStart => exact .inl rfl
      case round =>
        rcases hrel with rfl | rfl
        · go_wp2_with fail
          go_round
          case rel => exact .inr rfl
          case measure => simp [intOf]
        · go_wp2_with fail
          refine HS1.mono ?_
          rintro e w3 ⟨rfl, rfl⟩
          go_wp2_with fail
          refine bodyPost_ret (results_rt _ _ _ _ _ ⟨rfl, rfl, rfl⟩) rfl ?_
          exact ⟨rfl, Below.refl _ _⟩
    | false =>
      go_enter Tryz.func38, Tryz.ntmps38
      go_wp2_with fail
      refine (HL.out _).mono ?_
      rintro e w ⟨rfl, rfl⟩
      go_wp2_with fail
      refine (HD.out _).mono ?_
      rintro e w ⟨rfl, rfl⟩
      go_wp2_with fail
      go_loop [15] (fun vn => vn = .int .i64 2 ∨ vn = .int .i64 1 ∨ vn = .int .i64 0) (fun vn => (intOf vn).toNat)
      case atStart => exact .inl rfl
      case round =>
        rcases hrel with rfl | rfl | rfl
        · go_wp2_with fail
          go_round
          case rel => exact .inr (.inl rfl)
          case measure => simp [intOf]
        · go_wp2_with fail
          refine HS1.mono ?_
          rintro e w3 ⟨rfl, rfl⟩
          go_wp2_with fail
          go_round
          case rel => exact .inr (.inr rfl)
          case measure => simp [intOf]
        · go_wp2_with fail
          refine bodyPost_ret (results_rt _ _ _ _ _ ⟨rfl, rfl, rfl⟩) rfl ?_
          exact ⟨by simp, Below.refl _ _⟩
end Go.Proofs.YtialcphfaleedaaGreatDoor
