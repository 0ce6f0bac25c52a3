import Derived.Test.YtffgkjmfeannoaaGreatDoorXBB
namespace Go.Proofs.YtffgkjmfeannoaaGreatDoor
open Go.RowKit Go.Shelf
set_option maxRecDepth 100000 in
set_option maxHeartbeats 1000000 in
theorem tk_pat (l : List UInt8) (i : Nat) (w : World) (hi : (i : Int) < (l.length : Int)) (hs : l.length ≤ 281474976710656) (hc : ∀ h', (ByteArray.mk l.toArray)[i]'h' = 37) (HL : Hid (∀ W : World, Calls Tryz.prog 67 #[.int .u8 (37 : Int)] W fun e w' => e = .returned (.bool false) ∧ w' = W)) (HD : Hid (∀ W : World, Calls Tryz.prog 69 #[.int .u8 (37 : Int)] W fun e w' => e = .returned (.bool false) ∧ w' = W)) (j : Nat) (hij : i ≤ j) (hjl : j ≤ l.length) (HR : Hid (∀ W : World, Calls Tryz.prog 68 #[.string ⟨l.toArray⟩, .int .i64 ((i : Int) + 1)] W fun e w' => e = .returned (.int .i64 (j : Int)) ∧ w' = W)) (q : Bool) (T : List UInt8) (hE : (ByteArray.mk l.toArray).extract i j = ⟨T.toArray⟩) (HP : Hid (∀ W : World, Calls Tryz.prog 72 #[.string ⟨T.toArray⟩] W fun e w' => e = .returned (.bool q) ∧ Below W.heap.size W w')) :
    Calls Tryz.prog 48 #[.string ⟨l.toArray⟩, .int .i64 (i : Int)] w fun e w' => e = .returned (.tuple #[.int .i64 (if q = true then 5 else 0), .int .i64 (if q = true then (j : Int) else (i : Int)), .int .i64 (if q = true then 0 else 44)]) ∧ Below w.heap.size w w' := by
  have j5 : (i : Int) ≤ (j : Int) := by omega
  have j6 : (j : Int) ≤ (l.length : Int) := by omega
  go_enter Tryz.func48, Tryz.ntmps48
  go_wp2_with fail
  refine (HL.out _).mono ?_
  rintro e w ⟨rfl, rfl⟩
  go_wp2_with fail
  refine (HD.out _).mono ?_
  rintro e w ⟨rfl, rfl⟩
  go_wp2_with fail
  refine (HR.out _).mono ?_
  rintro e w ⟨rfl, rfl⟩
  go_wp2_with fail
  refine (HP.out _).mono ?_
  rintro e w3 ⟨rfl, hb3⟩
  cases q with
  | true =>
    go_wp2_with fail
    refine bodyPost_ret (results_rt _ _ _ _ _ ⟨rfl, rfl, rfl⟩) rfl ?_
    exact ⟨rfl, hb3⟩
  | false =>
    go_wp2_with fail
    refine bodyPost_ret (results_rt _ _ _ _ _ ⟨rfl, rfl, rfl⟩) rfl ?_
    exact ⟨rfl, hb3⟩
set_option maxRecDepth 100000 in
set_option maxHeartbeats 1000000 in
theorem tk_q1 (l : List UInt8) (i : Nat) (w : World) (hi : (i : Int) < (l.length : Int)) (_ : l.length ≤ 281474976710656) (hc : ∀ h', (ByteArray.mk l.toArray)[i]'h' = 34) (HL : Hid (∀ W : World, Calls Tryz.prog 67 #[.int .u8 (34 : Int)] W fun e w' => e = .returned (.bool false) ∧ w' = W)) (HD : Hid (∀ W : World, Calls Tryz.prog 69 #[.int .u8 (34 : Int)] W fun e w' => e = .returned (.bool false) ∧ w' = W)) (said : List UInt8) (a e0 : Nat) (HI : Hid (∀ W : World, Calls Tryz.prog 73 #[.string ⟨l.toArray⟩, .int .i64 (i : Int)] W fun e w' => e = .returned (.tuple #[.string ⟨said.toArray⟩, .int .i64 (a : Int), .int .i64 (e0 : Int)]) ∧ Below W.heap.size W w')) (he : ((e0 : Int) == 0) = false) :
    Calls Tryz.prog 48 #[.string ⟨l.toArray⟩, .int .i64 (i : Int)] w fun e w' => e = .returned (.tuple #[.int .i64 0, .int .i64 (a : Int), .int .i64 (e0 : Int)]) ∧ Below w.heap.size w w' := by
  have hm : ((e0 : Int) != 0) = true := by rw [bne, he]; rfl
  go_enter Tryz.func48, Tryz.ntmps48
  go_wp2_with fail
  refine (HL.out _).mono ?_
  rintro e w ⟨rfl, rfl⟩
  go_wp2_with fail
  refine (HD.out _).mono ?_
  rintro e w ⟨rfl, rfl⟩
  go_wp2_with fail
  refine (HI.out _).mono ?_
  rintro e w3 ⟨rfl, hb3⟩
  go_wp2_with fail
  refine bodyPost_ret (results_rt _ _ _ _ _ ⟨rfl, rfl, rfl⟩) rfl ?_
  exact ⟨rfl, hb3⟩
set_option maxRecDepth 100000 in
set_option maxHeartbeats 1000000 in
theorem tk_q2 (l : List UInt8) (i : Nat) (w : World) (hi : (i : Int) < (l.length : Int)) (_ : l.length ≤ 281474976710656) (hc : ∀ h', (ByteArray.mk l.toArray)[i]'h' = 34) (HL : Hid (∀ W : World, Calls Tryz.prog 67 #[.int .u8 (34 : Int)] W fun e w' => e = .returned (.bool false) ∧ w' = W)) (HD : Hid (∀ W : World, Calls Tryz.prog 69 #[.int .u8 (34 : Int)] W fun e w' => e = .returned (.bool false) ∧ w' = W)) (said : List UInt8) (a : Nat) (HI : Hid (∀ W : World, Calls Tryz.prog 73 #[.string ⟨l.toArray⟩, .int .i64 (i : Int)] W fun e w' => e = .returned (.tuple #[.string ⟨said.toArray⟩, .int .i64 (a : Int), .int .i64 0]) ∧ Below W.heap.size W w')) (hl : (256 : Int) < (said.length : Int)) :
    Calls Tryz.prog 48 #[.string ⟨l.toArray⟩, .int .i64 (i : Int)] w fun e w' => e = .returned (.tuple #[.int .i64 0, .int .i64 (i : Int), .int .i64 37]) ∧ Below w.heap.size w w' := by
  go_enter Tryz.func48, Tryz.ntmps48
  go_wp2_with fail
  refine (HL.out _).mono ?_
  rintro e w ⟨rfl, rfl⟩
  go_wp2_with fail
  refine (HD.out _).mono ?_
  rintro e w ⟨rfl, rfl⟩
  go_wp2_with fail
  refine (HI.out _).mono ?_
  rintro e w3 ⟨rfl, hb3⟩
  go_wp2_with fail
  refine bodyPost_ret (results_rt _ _ _ _ _ ⟨rfl, rfl, rfl⟩) rfl ?_
  exact ⟨rfl, hb3⟩
set_option maxRecDepth 100000 in
set_option maxHeartbeats 1000000 in
theorem tk_q3 (l : List UInt8) (i : Nat) (w : World) (hi : (i : Int) < (l.length : Int)) (_ : l.length ≤ 281474976710656) (hc : ∀ h', (ByteArray.mk l.toArray)[i]'h' = 34) (HL : Hid (∀ W : World, Calls Tryz.prog 67 #[.int .u8 (34 : Int)] W fun e w' => e = .returned (.bool false) ∧ w' = W)) (HD : Hid (∀ W : World, Calls Tryz.prog 69 #[.int .u8 (34 : Int)] W fun e w' => e = .returned (.bool false) ∧ w' = W)) (said : List UInt8) (a : Nat) (HI : Hid (∀ W : World, Calls Tryz.prog 73 #[.string ⟨l.toArray⟩, .int .i64 (i : Int)] W fun e w' => e = .returned (.tuple #[.string ⟨said.toArray⟩, .int .i64 (a : Int), .int .i64 0]) ∧ Below W.heap.size W w')) (hl : ¬ (256 : Int) < (said.length : Int)) :
    Calls Tryz.prog 48 #[.string ⟨l.toArray⟩, .int .i64 (i : Int)] w fun e w' => e = .returned (.tuple #[.int .i64 6, .int .i64 (a : Int), .int .i64 0]) ∧ Below w.heap.size w w' := by
  go_enter Tryz.func48, Tryz.ntmps48
  go_wp2_with fail
  refine (HL.out _).mono ?_
  rintro e w ⟨rfl, rfl⟩
  go_wp2_with fail
  refine (HD.out _).mono ?_
  rintro e w ⟨rfl, rfl⟩
  go_wp2_with fail
  refine (HI.out _).mono ?_
  rintro e w3 ⟨rfl, hb3⟩
  go_wp2_with fail
  refine bodyPost_ret (results_rt _ _ _ _ _ ⟨rfl, rfl, rfl⟩) rfl ?_
  exact ⟨rfl, hb3⟩
set_option maxRecDepth 100000 in
set_option maxHeartbeats 1000000 in
theorem tk_sg (l : List UInt8) (i : Nat) (c : UInt8) (w : World) (hi : (i : Int) < (l.length : Int)) (hs : l.length ≤ 281474976710656) (hc : ∀ h', (ByteArray.mk l.toArray)[i]'h' = c) (HL : Hid (∀ W : World, Calls Tryz.prog 67 #[.int .u8 (c.toNat : Int)] W fun e w' => e = .returned (.bool false) ∧ w' = W)) (HD : Hid (∀ W : World, Calls Tryz.prog 69 #[.int .u8 (c.toNat : Int)] W fun e w' => e = .returned (.bool false) ∧ w' = W)) (n37 : ((c.toNat : Int) == 37) = false) (n34 : ((c.toNat : Int) == 34) = false) (hi' : i < l.length) (g : SR w) :
    Calls Tryz.prog 48 #[.string ⟨l.toArray⟩, .int .i64 (i : Int)] w fun e w' => e = .returned (.tuple #[.int .i64 (if sgn (l.drop i) = 0 then 0 else 7), .int .i64 ((i : Int) + (sgn (l.drop i) : Int)), .int .i64 (if sgn (l.drop i) = 0 then 30 else 0)]) ∧ Below w.heap.size w w' := by
  have HG : Hid (SR w) := g
  have h1 : subL l i (i + 1) = [l[i]] := by unfold subL; rw [Nat.add_sub_cancel_left, List.drop_eq_getElem_cons hi']; rfl
  have HS1 := refSign_any (subL l i (i + 1)) w g
  have hE1 : ∀ W : World, Sem.run Tryz.prog (Instr.slice 9 (.string ⟨l.toArray⟩) (some (.int .i64 (i : Int))) (some (.int .i64 ((i : Int) + 1))) none) W = .ok (.string ⟨(subL l i (i + 1)).toArray⟩) W := fun W => by
    have := slice_str l i 1 hi' W
    unfold subL
    rw [Nat.add_sub_cancel_left]
    exact this
  have k1 : (i : Int) + 1 ≤ (l.length : Int) := by omega
  have m1 : ∀ x : UInt8, ([x] ∈ signsL) ↔ [x] ∈ signs1 := fun x => by
    rw [show signsL = signs2 ++ signs1 from rfl, List.mem_append]
    refine ⟨fun h => h.resolve_left (fun h2 => ?_), .inr⟩
    have h3 : ∀ s ∈ signs2, s.length = 2 := by decide
    have := h3 _ h2
    simp at this
  have m2 : ∀ x y : UInt8, ([x, y] ∈ signsL) ↔ [x, y] ∈ signs2 := fun x y => by
    rw [show signsL = signs2 ++ signs1 from rfl, List.mem_append]
    refine ⟨fun h => h.resolve_right (fun h2 => ?_), .inl⟩
    have h3 : ∀ s ∈ signs1, s.length = 1 := by decide
    have := h3 _ h2
    simp at this
  rw [h1] at HS1 hE1
  obtain ⟨q1, hq1⟩ : ∃ q, isSg [l[i]] = q := ⟨_, rfl⟩
  rw [hq1] at HS1
  have HQ1 : Hid (([l[i]] ∈ signs1) ↔ q1 = true) := by unfold Hid; rw [← m1, ← hq1]; unfold isSg; simp
  obtain ⟨T1, hT1⟩ : ∃ T, [l[i]] = T := ⟨_, rfl⟩
  rw [hT1] at HS1 hE1
  by_cases h2l : i + 1 < l.length
  · have k2 : (i : Int) + 2 ≤ (l.length : Int) := by omega
    have h2 : subL l i (i + 2) = [l[i], l[i + 1]] := by
      unfold subL
      rw [Nat.add_sub_cancel_left, List.drop_eq_getElem_cons hi', List.drop_eq_getElem_cons h2l]
      rfl
    have HS2 := refSign_any (subL l i (i + 2)) w g
    have hE2 : ∀ W : World, Sem.run Tryz.prog (Instr.slice 9 (.string ⟨l.toArray⟩) (some (.int .i64 (i : Int))) (some (.int .i64 ((i : Int) + 2))) none) W = .ok (.string ⟨(subL l i (i + 2)).toArray⟩) W := fun W => by
      have := slice_str l i 2 h2l W
      unfold subL
      rw [Nat.add_sub_cancel_left]
      exact this
    rw [h2] at HS2 hE2
    obtain ⟨q2, hq2⟩ : ∃ q, isSg [l[i], l[i + 1]] = q := ⟨_, rfl⟩
    rw [hq2] at HS2
    have HQ2 : Hid (([l[i], l[i + 1]] ∈ signs2) ↔ q2 = true) := by unfold Hid; rw [← m2, ← hq2]; unfold isSg; simp
    obtain ⟨T2, hT2⟩ : ∃ T, [l[i], l[i + 1]] = T := ⟨_, rfl⟩
    rw [hT2] at HS2 hE2
    have hsg : sgn (l.drop i) = if q2 = true then 2 else if q1 = true then 1 else 0 := by
      rw [List.drop_eq_getElem_cons hi', List.drop_eq_getElem_cons h2l, sgn_two]
      simp only [HQ1.out, HQ2.out]
    rw [hsg]
    clear hsg hq1 hq2 hT1 hT2 HQ1 HQ2 h1 h2 m1 m2 g
    cases q2 with
    | true =>
      clear HS1 hE1
      go_enter Tryz.func48, Tryz.ntmps48
      go_wp2_with fail
      refine (HL.out _).mono ?_
      rintro e w ⟨rfl, rfl⟩
      go_wp2_with fail
      refine (HD.out _).mono ?_
      rintro e w ⟨rfl, rfl⟩
      go_wp2_with fail
      go_loop [15] (fun vn => vn = .int .i64 2) (fun vn => (intOf vn).toNat)
      case atStart => exact rfl
      case round =>
        subst hrel
        go_wp2_with fail
        refine HS2.mono ?_
        rintro e w3 ⟨rfl, rfl⟩
        go_wp2_with fail
        refine bodyPost_ret (results_rt _ _ _ _ _ ⟨rfl, rfl, rfl⟩) rfl ?_
        exact ⟨rfl, Below.refl _ _⟩
    | false =>
      cases q1 with
      | true =>
        go_enter Tryz.func48, Tryz.ntmps48
        go_wp2_with fail
        refine (HL.out _).mono ?_
        rintro e w ⟨rfl, rfl⟩
        go_wp2_with fail
        refine (HD.out _).mono ?_
        rintro e w ⟨rfl, rfl⟩
        go_wp2_with fail
        go_loop [15] (fun vn => vn = .int .i64 2 ∨ vn = .int .i64 1) (fun vn => (intOf vn).toNat)
        case atStart => exact .inl rfl
        case round =>
          rcases hrel with rfl | rfl
          · go_wp2_with fail
            refine HS2.mono ?_
            rintro e w3 ⟨rfl, rfl⟩
            go_wp2_with fail
            go_round
            case rel => exact .inr rfl
            case measure => simp [intOf]
          · go_wp2_with fail
            refine HS1.mono ?_
            rintro e w3 ⟨rfl, rfl⟩
            go_wp2_with fail
            refine bodyPost_ret (results_rt _ _ _ _ _ ⟨rfl, rfl, rfl⟩) rfl ?_
            exact ⟨rfl, Below.refl _ _⟩
      | false =>
        go_enter Tryz.func48, Tryz.ntmps48
        go_wp2_with fail
        refine (HL.out _).mono ?_
        rintro e w ⟨rfl, rfl⟩
        go_wp2_with fail
        refine (HD.out _).mono ?_
        rintro e w ⟨rfl, rfl⟩
        go_wp2_with fail
        go_loop [15] (fun vn => vn = .int .i64 2 ∨ vn = .int .i64 1 ∨ vn = .int .i64 0) (fun vn => (intOf vn).toNat)
        case atStart => exact .inl rfl
        case round =>
          rcases hrel with rfl | rfl | rfl
          · go_wp2_with fail
            refine HS2.mono ?_
            rintro e w3 ⟨rfl, rfl⟩
            go_wp2_with fail
            go_round
            case rel => exact .inr (.inl rfl)
            case measure => simp [intOf]
          · go_wp2_with fail
            refine HS1.mono ?_
            rintro e w3 ⟨rfl, rfl⟩
            go_wp2_with fail
            go_round
            case rel => exact .inr (.inr rfl)
            case measure => simp [intOf]
          · go_wp2_with fail
            refine bodyPost_ret (results_rt _ _ _ _ _ ⟨rfl, rfl, rfl⟩) rfl ?_
            exact ⟨by simp, Below.refl _ _⟩
  · have k2 : ¬ (i : Int) + 2 ≤ (l.length : Int) := by omega
    have hsg : sgn (l.drop i) = if q1 = true then 1 else 0 := by
      have hd : l.drop (i + 1) = [] := List.drop_eq_nil_of_le (by omega)
      rw [List.drop_eq_getElem_cons hi', hd, sgn_one]
      simp only [HQ1.out]
    rw [hsg]
    clear hsg hq1 hT1 HQ1 h1 m1 m2 g
    cases q1 with
    | true =>
      go_enter Tryz.func48, Tryz.ntmps48
      go_wp2_with fail
      refine (HL.out _).mono ?_
      rintro e w ⟨rfl, rfl⟩
      go_wp2_with fail
      refine (HD.out _).mono ?_
      rintro e w ⟨rfl, rfl⟩
      go_wp2_with fail
      go_loop [15] (fun vn => vn = .int .i64 2 ∨ vn = .int .i64 1) (fun vn => (intOf vn).toNat)
      case atStart => exact .inl rfl
      case round =>
        rcases hrel with rfl | rfl
        · go_wp2_with fail
          go_round
          case rel => exact .inr rfl
          case measure => simp [intOf]
        · go_wp2_with fail
          refine HS1.mono ?_
          rintro e w3 ⟨rfl, rfl⟩
          go_wp2_with fail
          refine bodyPost_ret (results_rt _ _ _ _ _ ⟨rfl, rfl, rfl⟩) rfl ?_
          exact ⟨rfl, Below.refl _ _⟩
    | false =>
      go_enter Tryz.func48, Tryz.ntmps48
      go_wp2_with fail
      refine (HL.out _).mono ?_
      rintro e w ⟨rfl, rfl⟩
      go_wp2_with fail
      refine (HD.out _).mono ?_
      rintro e w ⟨rfl, rfl⟩
      go_wp2_with fail
      go_loop [15] (fun vn => vn = .int .i64 2 ∨ vn = .int .i64 1 ∨ vn = .int .i64 0) (fun vn => (intOf vn).toNat)
      case atStart => exact .inl rfl
      case round =>
        rcases hrel with rfl | rfl | rfl
        · go_wp2_with fail
          go_round
          case rel => exact .inr (.inl rfl)
          case measure => simp [intOf]
        · go_wp2_with fail
          refine HS1.mono ?_
          rintro e w3 ⟨rfl, rfl⟩
          go_wp2_with fail
          go_round
          case rel => exact .inr (.inr rfl)
          case measure => simp [intOf]
        · go_wp2_with fail
          refine bodyPost_ret (results_rt _ _ _ _ _ ⟨rfl, rfl, rfl⟩) rfl ?_
          exact ⟨by simp, Below.refl _ _⟩
def tokR3 (l : List UInt8) (i : Nat) : Nat × Nat × Nat := if tokE l i = 0 then ((tokC l i).1, tokJ l i, 0) else (0, tokJ l i, tokE l i)
theorem tokR3_ok {l : List UInt8} {i k j : Nat} (he : tokE l i = 0) (hk : (tokC l i).1 = k) (hj : tokJ l i = j) : tokR3 l i = (k, j, 0) := by
  unfold tokR3
  rw [if_pos he, hk, hj]
theorem tokR3_no {l : List UInt8} {i e j : Nat} (h0 : e ≠ 0) (he : tokE l i = e) (hj : tokJ l i = j) : tokR3 l i = (0, j, e) := by
  unfold tokR3
  rw [he, if_neg h0, hj]
def tokR4 (l : List UInt8) (i : Nat) : Nat × Nat × Nat := if kl l i = 4 then (if numN (subL l i (nrun l i)) = none then (0, i, 31) else (4, nrun l i, 0)) else tokR3 l i
theorem tokR4_no {l : List UInt8} {i : Nat} (h : kl l i ≠ 4) : tokR4 l i = tokR3 l i := if_neg h
theorem num_run {l : List UInt8} {i : Nat} (hi : i < l.length) (h4 : kl l i = 4) : i < nrun l i ∧ nrun l i ≤ l.length := by
  have hw : (inW l i || dotA l i 4) = true := by unfold inW; rw [h4]; rfl
  have hy := nrun_yes hw
  have hg := nrun_ge l _ (i + 1) (Nat.le_refl _)
  rw [← hy] at hg
  exact ⟨by omega, hg.2 hi⟩
theorem tokR4_short {l : List UInt8} {i : Nat} (hi : i < l.length) (hs : l.length ≤ 16384) : tokR4 l i = tokR3 l i := by
  unfold tokR4
  by_cases h4 : kl l i = 4
  · rw [if_pos h4]
    obtain ⟨b1, b2, b3, b4, b5⟩ := tok_num hi hs h4
    cases hv : numN (subL l i (nrun l i)) with
    | none =>
      rw [hv] at b4 b5
      rw [tokR3_no (by decide) b4 b5, if_pos rfl]
      simp
    | some v =>
      rw [hv] at b4 b5
      rw [tokR3_ok b4 (by rw [b3]) b5, if_neg (by simp)]
      simp
  · rw [if_neg h4]
theorem refToken_big (l : List UInt8) (i : Nat) (w : World) (hi : i < l.length) (hs : l.length ≤ 281474976710656) (hn : ∀ j, j < l.length → kl l j ≠ 1) (hg : SR w) :
    Calls Tryz.prog 48 #[.string ⟨l.toArray⟩, .int .i64 (i : Int)] w fun e w' => e = .returned (.tuple #[.int .i64 ((tokR4 l i).1 : Int), .int .i64 ((tokR4 l i).2.1 : Int), .int .i64 ((tokR4 l i).2.2 : Int)]) ∧ Below w.heap.size w w' := by
  have hiI : (i : Int) < (l.length : Int) := by omega
  obtain ⟨c, hc, hlc⟩ := byte_get l i hi
  have hb := bt_of hlc
  have hk : kl l i = cls (c.toNat : Int) := by rw [← hb]; exact kl_bt hi
  have hx := c.toNat_lt
  have HLet : ∀ W : World, Calls Tryz.prog 67 #[.int .u8 (c.toNat : Int)] W fun e w' => e = .returned (.bool (decide (kl l i = 3))) ∧ w' = W := fun W => by
    have := refLetter_any c.toNat W
    rw [letX_cls hx, ← hk] at this
    exact this
  have HDig : ∀ W : World, Calls Tryz.prog 69 #[.int .u8 (c.toNat : Int)] W fun e w' => e = .returned (.bool (decide (kl l i = 4))) ∧ w' = W := fun W => by
    have := refDigit_any c.toNat W
    rw [digX_cls hx, ← hk] at this
    exact this
  by_cases h3 : kl l i = 3
  · rw [tokR4_no (by omega)]
    rw [decide_eq_true h3] at HLet
    obtain ⟨j, hj⟩ : ∃ j, wrun l i = j := ⟨_, rfl⟩
    have HR : ∀ W : World, Calls Tryz.prog 68 #[.string ⟨l.toArray⟩, .int .i64 (i : Int)] W fun e w' => e = .returned (.int .i64 (j : Int)) ∧ w' = W := fun W => by
      have := refRun_any l i W (Nat.le_of_lt hi) (by omega) i rfl
      rw [hj] at this
      exact this
    cases hd : dotA l j 3 with
    | false =>
      obtain ⟨b1, b2, b3, b4, b5⟩ := tok_name hi h3 hj hd
      by_cases h24 : 24 < j - i
      · rw [if_pos h24] at b3 b4
        rw [tokR3_no (by decide) b3 b4]
        exact tk_A l i c w hiI (by omega) hc j b1 b2 HLet HR (by omega)
      · rw [if_neg h24] at b3 b4
        rw [tokR3_ok b3 (by rw [b5]) b4]
        by_cases hl2 : j + 1 < l.length
        · obtain ⟨d, hdd, hld⟩ := byte_get l j (by omega)
          by_cases h46 : d = 46
          · subst h46
            obtain ⟨d2, hd2, hld2⟩ := byte_get l (j + 1) hl2
            have hb2 := bt_of hld2
            have h5 : kl l j = 5 := by rw [kl_bt (by omega), bt_of hld]; rfl
            have hk2 : ¬ kl l (j + 1) = 3 := fun e => by
              unfold dotA at hd
              rw [h5, e] at hd
              cases hd
            refine tk_B3 l i c w hiI (by omega) hc j b1 b2 HLet HR (by omega) d2 hdd hd2 (by omega) (fun W => ?_)
            have := refLetter_any d2.toNat W
            rw [letX_cls d2.toNat_lt, ← hb2, ← kl_bt hl2, decide_eq_false hk2, hb2] at this
            exact this
          · exact tk_B2 l i c w hiI (by omega) hc j b1 b2 HLet HR (by omega) (by omega) d hdd (u8_ne (d := 46) h46)
        · exact tk_B1 l i c w hiI (by omega) hc j b1 b2 HLet HR (by omega) (by omega)
    | true =>
      obtain ⟨k, hk'⟩ : ∃ k, wrun l (j + 1) = k := ⟨_, rfl⟩
      obtain ⟨b1, b2, b3, b4, b5, b6, b7⟩ := tok_port hi h3 hj hd hk'
      obtain ⟨d1, d2⟩ : kl l j = 5 ∧ kl l (j + 1) = 3 := by unfold dotA at hd; simpa using hd
      obtain ⟨x, hxx, hlx⟩ := byte_get l j (by omega)
      obtain rfl : x = 46 := UInt8.toNat_inj.1 (by rw [← bt_of hlx, (kl5 d1).2]; rfl)
      obtain ⟨y, hy, hly⟩ := byte_get l (j + 1) b2
      have hby := bt_of hly
      have HL2 : ∀ W : World, Calls Tryz.prog 67 #[.int .u8 (y.toNat : Int)] W fun e w' => e = .returned (.bool true) ∧ w' = W := fun W => by
        have := refLetter_any y.toNat W
        rw [letX_cls y.toNat_lt, ← hby, ← kl_bt b2, decide_eq_true d2, hby] at this
        exact this
      have HR2 : ∀ W : World, Calls Tryz.prog 68 #[.string ⟨l.toArray⟩, .int .i64 ((j : Int) + 1)] W fun e w' => e = .returned (.int .i64 (k : Int)) ∧ w' = W := fun W => by
        have := refRun_any l (j + 1) W (by omega) (by omega) ((j : Int) + 1) rfl
        rw [hk'] at this
        exact this
      by_cases h24 : 24 < j - i
      · rw [if_pos (.inl h24)] at b5 b6
        rw [tokR3_no (by decide) b5 b6]
        exact tk_A l i c w hiI (by omega) hc j b1 (by omega) HLet HR (by omega)
      · by_cases g24 : 24 < k - j - 1
        · rw [if_pos (.inr g24)] at b5 b6
          rw [tokR3_no (by decide) b5 b6]
          exact tk_C1 l i c w hiI (by omega) hc j b1 (by omega) HLet HR (by omega) y hxx hy (by omega) HL2 k b3 b4 HR2 (by omega)
        · have hno : ¬ (24 < j - i ∨ 24 < k - j - 1) := by omega
          rw [if_neg hno] at b5 b6
          rw [tokR3_ok b5 (by rw [b7]) b6]
          exact tk_C2 l i c w hiI (by omega) hc j b1 (by omega) HLet HR (by omega) y hxx hy (by omega) HL2 k b3 b4 HR2 (by omega)
  rw [decide_eq_false h3] at HLet
  by_cases h4 : kl l i = 4
  · rw [decide_eq_true h4] at HDig
    obtain ⟨b1, b2⟩ := num_run hi h4
    have := tk_num l i c w hiI (by omega) hc HLet HDig hi (numN (subL l i (nrun l i))) rfl (by omega) b2
    cases hv : numN (subL l i (nrun l i)) with
    | none =>
      rw [hv] at this
      rw [show tokR4 l i = (0, i, 31) by unfold tokR4; rw [if_pos h4, hv, if_pos rfl]]
      exact this
    | some v =>
      rw [hv] at this
      rw [show tokR4 l i = (4, nrun l i, 0) by unfold tokR4; rw [if_pos h4, hv, if_neg (by simp)]]
      exact this
  rw [tokR4_no h4]
  rw [decide_eq_false h4] at HDig
  by_cases h6 : kl l i = 6
  · have c37 : c = 37 := by
      have ht : ∀ x : Fin 256, cls (x.val : Int) = 6 → x.val = 37 := by decide +kernel
      rw [hk] at h6
      exact UInt8.toNat_inj.1 (ht ⟨c.toNat, hx⟩ h6)
    subst c37
    obtain ⟨b1, b2, b3, b4, b5⟩ := tok_pat hi h6
    obtain ⟨j, hj⟩ : ∃ j, wrun l (i + 1) = j := ⟨_, rfl⟩
    rw [hj] at b1 b2 b3 b4 b5
    have HR : ∀ W : World, Calls Tryz.prog 68 #[.string ⟨l.toArray⟩, .int .i64 ((i : Int) + 1)] W fun e w' => e = .returned (.int .i64 (j : Int)) ∧ w' = W := fun W => by
      have := refRun_any l (i + 1) W hi (by omega) ((i : Int) + 1) rfl
      rw [hj] at this
      exact this
    have hsl := subL_len l i j
    have h0 : (subL l i j)[0]? = some 37 := by
      unfold subL
      rw [List.getElem?_take, if_pos (by omega), List.getElem?_drop]
      exact hlc
    have := tk_pat l i w hiI (by omega) hc HLet HDig j (by omega) b2 HR (patX (subL l i j)) (subL l i j) (ext_sub l i j) (fun W => refPattern_any (subL l i j) W h0 (by omega))
    cases hq : patX (subL l i j) with
    | true =>
      rw [hq] at this b4 b5
      rw [tokR3_ok b4 (by rw [b3]) b5]
      exact this
    | false =>
      rw [hq] at this b4 b5
      rw [tokR3_no (by decide) b4 b5]
      exact this
  by_cases h7 : kl l i = 7
  · have c34 : c = 34 := by
      have ht : ∀ x : Fin 256, cls (x.val : Int) = 7 → x.val = 34 := by decide +kernel
      rw [hk] at h7
      exact UInt8.toNat_inj.1 (ht ⟨c.toNat, hx⟩ h7)
    subst c34
    obtain ⟨b1, b2, b3⟩ := tok_quo hi hn h7
    have HI := fun W : World => refInside_at l i W hi (by omega) (fun k W' hk' => refEscape_any l k W' (by omega) hk')
    obtain ⟨r, hr⟩ : ∃ r, insS l (i + 1) [] = r := ⟨_, rfl⟩
    simp only [hr] at HI
    rw [hr] at b1 b2 b3
    obtain ⟨said, a, e0⟩ := r
    by_cases he : e0 = 0
    · subst he
      by_cases h256 : 256 < said.length
      · obtain ⟨q1, q2⟩ := b2 rfl h256
        rw [tokR3_no (by decide) q1 q2]
        exact tk_q2 l i w hiI (by omega) hc HLet HDig said a HI (by omega)
      · obtain ⟨q1, q2, q3⟩ := b3 rfl h256
        rw [tokR3_ok q1 (by rw [q3]) q2]
        exact tk_q3 l i w hiI (by omega) hc HLet HDig said a HI (by omega)
    · obtain ⟨q1, q2⟩ := b1 he
      rw [tokR3_no he q1 q2]
      exact tk_q1 l i w hiI (by omega) hc HLet HDig said a e0 HI (by rw [beq_eq_false_iff_ne]; omega)
  · have n37 : ((c.toNat : Int) == 37) = false := u8_ne (d := 37) (fun e => h6 (by rw [hk, e]; rfl))
    have n34 : ((c.toNat : Int) == 34) = false := u8_ne (d := 34) (fun e => h7 (by rw [hk, e]; rfl))
    obtain ⟨b1, b2, b3⟩ := tok_sign h3 h4 h6 h7
    have := tk_sg l i c w hiI (by omega) hc HLet HDig n37 n34 hi hg
    by_cases hz : sgn (l.drop i) = 0
    · rw [if_pos hz] at b2
      rw [tokR3_no (by decide) b2 b3]
      simp only [if_pos hz] at this
      exact this
    · rw [if_neg hz] at b2
      rw [tokR3_ok b2 (by rw [b1]) b3]
      simp only [if_neg hz] at this
      exact this
theorem refToken_any (l : List UInt8) (i : Nat) (w : World) (hi : i < l.length) (hs : l.length ≤ 16384) (hn : ∀ j, j < l.length → kl l j ≠ 1) (hg : SR w) :
    Calls Tryz.prog 48 #[.string ⟨l.toArray⟩, .int .i64 (i : Int)] w fun e w' => e = .returned (.tuple #[.int .i64 ((tokR3 l i).1 : Int), .int .i64 ((tokR3 l i).2.1 : Int), .int .i64 ((tokR3 l i).2.2 : Int)]) ∧ Below w.heap.size w w' := by
  rw [← tokR4_short hi hs]
  exact refToken_big l i w hi (by omega) hn hg
end Go.Proofs.YtffgkjmfeannoaaGreatDoor
