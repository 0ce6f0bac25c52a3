import Derived.Test.YtfbmagnfgnebdaaGreatDoorYBR
namespace Go.Proofs.YtfbmagnfgnebdaaGreatDoor
open Go.RowKit Go.Shelf
set_option maxRecDepth 100000 in
set_option maxHeartbeats 4000000 in
theorem kholds_any (b v : Nat) (t : TS) (w : World) (hb : b ≤ 32) (h : TOK b t) (hv : v < 2 ^ b) :
    Calls Tryz.prog 13 #[t.v, .int .i64 (v : Int), .int .i64 (b : Int)] w fun e w' => e = .returned (.bool (holdsM b t v)) ∧ Below w.heap.size w w' := by
  have hp : 2 ^ b ≤ 2 ^ 32 := Nat.pow_le_pow_right (by decide) hb
  have ht := of_decide_eq_true h.tst
  have hcu := h.dig
  obtain ⟨-, k2, k3, k4, k5, k6, k7, -, -, -⟩ := h
  obtain ⟨R, hR⟩ : ∃ R, holdsM b t v = R := ⟨_, rfl⟩
  rw [hR]
  obtain ⟨f, op, form, lo, hi, len, pat⟩ := t
  simp only at ht hcu k2 k3 k4 k5 k6 k7
  obtain ⟨t1, t2, t3, t4, t5, -⟩ := ht
  obtain ⟨lo, rfl⟩ : ∃ z : Nat, lo = z := ⟨lo.toNat, by omega⟩
  obtain ⟨hi, rfl⟩ : ∃ z : Nat, hi = z := ⟨hi.toNat, by omega⟩
  obtain ⟨len, rfl⟩ : ∃ z : Nat, len = z := ⟨len.toNat, by omega⟩
  have HF : Hid (form = 4 → ∀ W : World, Calls Tryz.prog 32 #[.string ⟨pat.toArray⟩, .int .i64 (v : Int), .int .i64 (b : Int)] W fun e w' => e = .returned (.bool (hasT pat (digL b v 0))) ∧ w' = W) := fun e W => by
    have := hcu e
    unfold cuB at this
    simp only [Bool.and_eq_true, decide_eq_true_eq] at this
    exact kfits_any pat v b W this.1 hb (by omega)
  have hopf : op = 1 ∧ (form = 1 ∨ form = 2 ∨ form = 3 ∨ form = 4) ∨ op = 2 ∧ (form = 1 ∨ form = 2 ∨ form = 3 ∨ form = 4) ∨ (op = 3 ∨ op = 4 ∨ op = 5 ∨ op = 6) ∧ form = 1 := by omega
  show Calls Tryz.prog 13 #[.agg #[.string ⟨f.toArray⟩, .int .i64 op, .int .i64 form, .int .i64 lo, .int .i64 hi, .int .i64 len, .string ⟨pat.toArray⟩], .int .i64 (v : Int), .int .i64 (b : Int)] w _
  obtain ⟨O, hO⟩ : ∃ O : Obj, Obj.cells #[.string ⟨f.toArray⟩, .int .i64 op, .int .i64 form, .int .i64 lo, .int .i64 hi, .int .i64 len, .string ⟨pat.toArray⟩] 27 = O := ⟨_, rfl⟩
  have hB1 : Below w.heap.size w (w.alloc O) := (Below.refl _ _).alloc (Nat.le_refl _) _
  have hbx : (w.alloc O).heap[w.heap.size]? = some (.cells #[.string ⟨f.toArray⟩, .int .i64 op, .int .i64 form, .int .i64 lo, .int .i64 hi, .int .i64 len, .string ⟨pat.toArray⟩] 27) := by rw [hO]; exact alloc_get _ _
  have c0 : (w.alloc O).cell? ⟨w.heap.size, 0, none⟩ = some (.string ⟨f.toArray⟩) := cell_of_row _ _ 0 _ _ _ hbx
  have c1 : (w.alloc O).cell? ⟨w.heap.size, 1, none⟩ = some (.int .i64 op) := cell_of_row _ _ 1 _ _ _ hbx
  have c2 : (w.alloc O).cell? ⟨w.heap.size, 2, none⟩ = some (.int .i64 form) := cell_of_row _ _ 2 _ _ _ hbx
  have c3 : (w.alloc O).cell? ⟨w.heap.size, 3, none⟩ = some (.int .i64 lo) := cell_of_row _ _ 3 _ _ _ hbx
  have c4 : (w.alloc O).cell? ⟨w.heap.size, 4, none⟩ = some (.int .i64 hi) := cell_of_row _ _ 4 _ _ _ hbx
  have c5 : (w.alloc O).cell? ⟨w.heap.size, 5, none⟩ = some (.int .i64 len) := cell_of_row _ _ 5 _ _ _ hbx
  have c6 : (w.alloc O).cell? ⟨w.heap.size, 6, none⟩ = some (.string ⟨pat.toArray⟩) := cell_of_row _ _ 6 _ _ _ hbx
  have HR : Hid (holdsM b ⟨f, op, form, lo, hi, len, pat⟩ v = R) := hR
  have hlen : len ≤ b := by omega
  clear hO hbx hR hcu hp k2 k3 k4 k5 k6 k7 t1 t2 t3 t4 t5 hv
  rcases hopf with ⟨rfl, rfl | rfl | rfl | rfl⟩ | ⟨rfl, rfl | rfl | rfl | rfl⟩ | ⟨rfl | rfl | rfl | rfl, rfl⟩
  · by_cases e : (v : Int) = (lo : Int)
    · have e1 : ((v : Int) == (lo : Int)) = true := beq_iff_eq.2 e
      obtain rfl : R = true := by rw [← HR.out]; simp [holdsM, isM, e]
      clear HR HF
      clear e
      go_enter Tryz.func13, Tryz.ntmps13
      go_wp2_with fail
      go_ret
      exact ⟨rfl, by first | exact hB1 | exact (Below.refl _ _).alloc (Nat.le_refl _) _ | exact bel_drewN _ hB1 | exact hB1.drew | exact bel_drewN _ ((Below.refl _ _).alloc (Nat.le_refl _) _) | exact ((Below.refl _ _).alloc (Nat.le_refl _) _).drew⟩
    · have e1 : ((v : Int) == (lo : Int)) = false := beq_eq_false_iff_ne.2 e
      obtain rfl : R = false := by rw [← HR.out]; simp [holdsM, isM, e]
      clear HR HF
      go_enter Tryz.func13, Tryz.ntmps13
      go_wp2_with fail
      go_ret
      exact ⟨rfl, by first | exact hB1 | exact (Below.refl _ _).alloc (Nat.le_refl _) _ | exact bel_drewN _ hB1 | exact hB1.drew | exact bel_drewN _ ((Below.refl _ _).alloc (Nat.le_refl _) _) | exact ((Below.refl _ _).alloc (Nat.le_refl _) _).drew⟩
  · have e5 : IntKind.i64.wrap ((b : Int) - (len : Int)) = ((b - len : Nat) : Int) := by rw [IntKind.wrap_i64]; omega
    have hres : ∀ X Y : Nat, v / 2 ^ (b - len) = X → lo / 2 ^ (b - len) = Y → isM b ⟨f, 1, 2, lo, hi, len, pat⟩ v = decide (X = Y) := fun X Y hX hY => by subst hX hY; simp [isM]
    have dv := div_cast v (b - len)
    have dl := div_cast lo (b - len)
    obtain ⟨k, hk⟩ : ∃ k, b - len = k := ⟨_, rfl⟩
    rw [hk] at e5 dv dl hres
    have s0 : (0 : Int) ≤ (k : Int) := by omega
    have s1 : (k : Int) < 64 := by omega
    obtain ⟨X, hX⟩ : ∃ X, v / 2 ^ k = X := ⟨_, rfl⟩
    obtain ⟨Y, hY⟩ : ∃ Y, lo / 2 ^ k = Y := ⟨_, rfl⟩
    have hI := hres X Y hX hY
    rw [hX] at dv
    rw [hY] at dl
    clear hres hX hY hk hlen
    by_cases e : (X : Int) = (Y : Int)
    · have e1 : ((X : Int) == (Y : Int)) = true := beq_iff_eq.2 e
      have e0 : X = Y := by omega
      obtain rfl : R = true := by
        rw [← HR.out]
        unfold holdsM
        rw [hI]
        simp [e0]
      clear HR HF hI
      clear e e0
      go_enter Tryz.func13, Tryz.ntmps13
      go_wp2_with fail
      go_quiet (fail)
      go_wp2_with fail
      go_ret
      exact ⟨rfl, by first | exact hB1 | exact (Below.refl _ _).alloc (Nat.le_refl _) _ | exact bel_drewN _ hB1 | exact hB1.drew | exact bel_drewN _ ((Below.refl _ _).alloc (Nat.le_refl _) _) | exact ((Below.refl _ _).alloc (Nat.le_refl _) _).drew⟩
    · have e1 : ((X : Int) == (Y : Int)) = false := beq_eq_false_iff_ne.2 e
      have e0 : ¬ X = Y := by omega
      obtain rfl : R = false := by
        rw [← HR.out]
        unfold holdsM
        rw [hI]
        simp [e0]
      clear HR HF hI
      clear e0
      go_enter Tryz.func13, Tryz.ntmps13
      go_wp2_with fail
      go_quiet (fail)
      go_wp2_with fail
      go_ret
      exact ⟨rfl, by first | exact hB1 | exact (Below.refl _ _).alloc (Nat.le_refl _) _ | exact bel_drewN _ hB1 | exact hB1.drew | exact bel_drewN _ ((Below.refl _ _).alloc (Nat.le_refl _) _) | exact ((Below.refl _ _).alloc (Nat.le_refl _) _).drew⟩
  · by_cases e : (lo : Int) ≤ (v : Int)
    · by_cases g : (v : Int) ≤ (hi : Int)
      · obtain rfl : R = true := by rw [← HR.out]; simp [holdsM, isM, Int.ofNat_le.1 e, Int.ofNat_le.1 g]
        clear HR HF
        go_enter Tryz.func13, Tryz.ntmps13
        go_wp2_with fail
        go_ret
        exact ⟨rfl, by first | exact hB1 | exact (Below.refl _ _).alloc (Nat.le_refl _) _ | exact bel_drewN _ hB1 | exact hB1.drew | exact bel_drewN _ ((Below.refl _ _).alloc (Nat.le_refl _) _) | exact ((Below.refl _ _).alloc (Nat.le_refl _) _).drew⟩
      · have g0 : ¬ v ≤ hi := by omega
        obtain rfl : R = false := by rw [← HR.out]; simp [holdsM, isM, g0]
        clear HR HF
        clear g0
        go_enter Tryz.func13, Tryz.ntmps13
        go_wp2_with fail
        go_ret
        exact ⟨rfl, by first | exact hB1 | exact (Below.refl _ _).alloc (Nat.le_refl _) _ | exact bel_drewN _ hB1 | exact hB1.drew | exact bel_drewN _ ((Below.refl _ _).alloc (Nat.le_refl _) _) | exact ((Below.refl _ _).alloc (Nat.le_refl _) _).drew⟩
    · have e0 : ¬ lo ≤ v := by omega
      obtain rfl : R = false := by rw [← HR.out]; simp [holdsM, isM, e0]
      clear HR HF
      clear e0
      go_enter Tryz.func13, Tryz.ntmps13
      go_wp2_with fail
      go_ret
      exact ⟨rfl, by first | exact hB1 | exact (Below.refl _ _).alloc (Nat.le_refl _) _ | exact bel_drewN _ hB1 | exact hB1.drew | exact bel_drewN _ ((Below.refl _ _).alloc (Nat.le_refl _) _) | exact ((Below.refl _ _).alloc (Nat.le_refl _) _).drew⟩
  · have hF := HF.out rfl
    obtain ⟨I, hI⟩ : ∃ I, hasT pat (digL b v 0) = I := ⟨_, rfl⟩
    rw [hI] at hF
    obtain rfl : I = R := by rw [← HR.out]; simp [holdsM, isM, hI]
    clear HR HF hI
    cases I with
    | true =>
      go_enter Tryz.func13, Tryz.ntmps13
      go_wp2_with fail
      refine (hF _).mono ?_
      rintro e W1 ⟨rfl, rfl⟩
      go_wp2_with fail
      go_ret
      exact ⟨rfl, by first | exact hB1 | exact (Below.refl _ _).alloc (Nat.le_refl _) _ | exact bel_drewN _ hB1 | exact hB1.drew | exact bel_drewN _ ((Below.refl _ _).alloc (Nat.le_refl _) _) | exact ((Below.refl _ _).alloc (Nat.le_refl _) _).drew⟩
    | false =>
      go_enter Tryz.func13, Tryz.ntmps13
      go_wp2_with fail
      refine (hF _).mono ?_
      rintro e W1 ⟨rfl, rfl⟩
      go_wp2_with fail
      go_ret
      exact ⟨rfl, by first | exact hB1 | exact (Below.refl _ _).alloc (Nat.le_refl _) _ | exact bel_drewN _ hB1 | exact hB1.drew | exact bel_drewN _ ((Below.refl _ _).alloc (Nat.le_refl _) _) | exact ((Below.refl _ _).alloc (Nat.le_refl _) _).drew⟩
  · by_cases e : (v : Int) = (lo : Int)
    · have e1 : ((v : Int) == (lo : Int)) = true := beq_iff_eq.2 e
      obtain rfl : R = false := by rw [← HR.out]; simp [holdsM, isM, e]
      clear HR HF
      clear e
      go_enter Tryz.func13, Tryz.ntmps13
      go_wp2_with fail
      go_ret
      exact ⟨rfl, by first | exact hB1 | exact (Below.refl _ _).alloc (Nat.le_refl _) _ | exact bel_drewN _ hB1 | exact hB1.drew | exact bel_drewN _ ((Below.refl _ _).alloc (Nat.le_refl _) _) | exact ((Below.refl _ _).alloc (Nat.le_refl _) _).drew⟩
    · have e1 : ((v : Int) == (lo : Int)) = false := beq_eq_false_iff_ne.2 e
      obtain rfl : R = true := by rw [← HR.out]; simp [holdsM, isM, e]
      clear HR HF
      go_enter Tryz.func13, Tryz.ntmps13
      go_wp2_with fail
      go_ret
      exact ⟨rfl, by first | exact hB1 | exact (Below.refl _ _).alloc (Nat.le_refl _) _ | exact bel_drewN _ hB1 | exact hB1.drew | exact bel_drewN _ ((Below.refl _ _).alloc (Nat.le_refl _) _) | exact ((Below.refl _ _).alloc (Nat.le_refl _) _).drew⟩
  · have e5 : IntKind.i64.wrap ((b : Int) - (len : Int)) = ((b - len : Nat) : Int) := by rw [IntKind.wrap_i64]; omega
    have hres : ∀ X Y : Nat, v / 2 ^ (b - len) = X → lo / 2 ^ (b - len) = Y → isM b ⟨f, 2, 2, lo, hi, len, pat⟩ v = decide (X = Y) := fun X Y hX hY => by subst hX hY; simp [isM]
    have dv := div_cast v (b - len)
    have dl := div_cast lo (b - len)
    obtain ⟨k, hk⟩ : ∃ k, b - len = k := ⟨_, rfl⟩
    rw [hk] at e5 dv dl hres
    have s0 : (0 : Int) ≤ (k : Int) := by omega
    have s1 : (k : Int) < 64 := by omega
    obtain ⟨X, hX⟩ : ∃ X, v / 2 ^ k = X := ⟨_, rfl⟩
    obtain ⟨Y, hY⟩ : ∃ Y, lo / 2 ^ k = Y := ⟨_, rfl⟩
    have hI := hres X Y hX hY
    rw [hX] at dv
    rw [hY] at dl
    clear hres hX hY hk hlen
    by_cases e : (X : Int) = (Y : Int)
    · have e1 : ((X : Int) == (Y : Int)) = true := beq_iff_eq.2 e
      have e0 : X = Y := by omega
      obtain rfl : R = false := by
        rw [← HR.out]
        unfold holdsM
        rw [hI]
        simp [e0]
      clear HR HF hI
      clear e e0
      go_enter Tryz.func13, Tryz.ntmps13
      go_wp2_with fail
      go_quiet (fail)
      go_wp2_with fail
      go_ret
      exact ⟨rfl, by first | exact hB1 | exact (Below.refl _ _).alloc (Nat.le_refl _) _ | exact bel_drewN _ hB1 | exact hB1.drew | exact bel_drewN _ ((Below.refl _ _).alloc (Nat.le_refl _) _) | exact ((Below.refl _ _).alloc (Nat.le_refl _) _).drew⟩
    · have e1 : ((X : Int) == (Y : Int)) = false := beq_eq_false_iff_ne.2 e
      have e0 : ¬ X = Y := by omega
      obtain rfl : R = true := by
        rw [← HR.out]
        unfold holdsM
        rw [hI]
        simp [e0]
      clear HR HF hI
      clear e0
      go_enter Tryz.func13, Tryz.ntmps13
      go_wp2_with fail
      go_quiet (fail)
      go_wp2_with fail
      go_ret
      exact ⟨rfl, by first | exact hB1 | exact (Below.refl _ _).alloc (Nat.le_refl _) _ | exact bel_drewN _ hB1 | exact hB1.drew | exact bel_drewN _ ((Below.refl _ _).alloc (Nat.le_refl _) _) | exact ((Below.refl _ _).alloc (Nat.le_refl _) _).drew⟩
  · by_cases e : (lo : Int) ≤ (v : Int)
    · by_cases g : (v : Int) ≤ (hi : Int)
      · obtain rfl : R = false := by rw [← HR.out]; simp [holdsM, isM, Int.ofNat_le.1 e, Int.ofNat_le.1 g]
        clear HR HF
        go_enter Tryz.func13, Tryz.ntmps13
        go_wp2_with fail
        go_ret
        exact ⟨rfl, by first | exact hB1 | exact (Below.refl _ _).alloc (Nat.le_refl _) _ | exact bel_drewN _ hB1 | exact hB1.drew | exact bel_drewN _ ((Below.refl _ _).alloc (Nat.le_refl _) _) | exact ((Below.refl _ _).alloc (Nat.le_refl _) _).drew⟩
      · have g0 : ¬ v ≤ hi := by omega
        obtain rfl : R = true := by rw [← HR.out]; simp [holdsM, isM, g0]
        clear HR HF
        clear g0
        go_enter Tryz.func13, Tryz.ntmps13
        go_wp2_with fail
        go_ret
        exact ⟨rfl, by first | exact hB1 | exact (Below.refl _ _).alloc (Nat.le_refl _) _ | exact bel_drewN _ hB1 | exact hB1.drew | exact bel_drewN _ ((Below.refl _ _).alloc (Nat.le_refl _) _) | exact ((Below.refl _ _).alloc (Nat.le_refl _) _).drew⟩
    · have e0 : ¬ lo ≤ v := by omega
      obtain rfl : R = true := by rw [← HR.out]; simp [holdsM, isM, e0]
      clear HR HF
      clear e0
      go_enter Tryz.func13, Tryz.ntmps13
      go_wp2_with fail
      go_ret
      exact ⟨rfl, by first | exact hB1 | exact (Below.refl _ _).alloc (Nat.le_refl _) _ | exact bel_drewN _ hB1 | exact hB1.drew | exact bel_drewN _ ((Below.refl _ _).alloc (Nat.le_refl _) _) | exact ((Below.refl _ _).alloc (Nat.le_refl _) _).drew⟩
  · have hF := HF.out rfl
    obtain ⟨I, hI⟩ : ∃ I, hasT pat (digL b v 0) = I := ⟨_, rfl⟩
    rw [hI] at hF
    obtain rfl : R = !I := by rw [← HR.out]; simp [holdsM, isM, hI]
    clear HR HF hI
    cases I with
    | true =>
      go_enter Tryz.func13, Tryz.ntmps13
      go_wp2_with fail
      refine (hF _).mono ?_
      rintro e W1 ⟨rfl, rfl⟩
      go_wp2_with fail
      go_ret
      exact ⟨rfl, by first | exact hB1 | exact (Below.refl _ _).alloc (Nat.le_refl _) _ | exact bel_drewN _ hB1 | exact hB1.drew | exact bel_drewN _ ((Below.refl _ _).alloc (Nat.le_refl _) _) | exact ((Below.refl _ _).alloc (Nat.le_refl _) _).drew⟩
    | false =>
      go_enter Tryz.func13, Tryz.ntmps13
      go_wp2_with fail
      refine (hF _).mono ?_
      rintro e W1 ⟨rfl, rfl⟩
      go_wp2_with fail
      go_ret
      exact ⟨rfl, by first | exact hB1 | exact (Below.refl _ _).alloc (Nat.le_refl _) _ | exact bel_drewN _ hB1 | exact hB1.drew | exact bel_drewN _ ((Below.refl _ _).alloc (Nat.le_refl _) _) | exact ((Below.refl _ _).alloc (Nat.le_refl _) _).drew⟩
  · by_cases e : (v : Int) < (lo : Int)
    · have e0 : v < lo := by omega
      obtain rfl : R = true := by rw [← HR.out]; simp [holdsM, e0]
      clear HR HF
      clear e0
      go_enter Tryz.func13, Tryz.ntmps13
      go_wp2_with fail
      go_ret
      exact ⟨rfl, by first | exact hB1 | exact (Below.refl _ _).alloc (Nat.le_refl _) _ | exact bel_drewN _ hB1 | exact hB1.drew | exact bel_drewN _ ((Below.refl _ _).alloc (Nat.le_refl _) _) | exact ((Below.refl _ _).alloc (Nat.le_refl _) _).drew⟩
    · have e0 : ¬ v < lo := by omega
      obtain rfl : R = false := by rw [← HR.out]; simp [holdsM, e0]
      clear HR HF
      clear e0
      go_enter Tryz.func13, Tryz.ntmps13
      go_wp2_with fail
      go_ret
      exact ⟨rfl, by first | exact hB1 | exact (Below.refl _ _).alloc (Nat.le_refl _) _ | exact bel_drewN _ hB1 | exact hB1.drew | exact bel_drewN _ ((Below.refl _ _).alloc (Nat.le_refl _) _) | exact ((Below.refl _ _).alloc (Nat.le_refl _) _).drew⟩
  · by_cases e : (v : Int) ≤ (lo : Int)
    · have e0 : v ≤ lo := by omega
      obtain rfl : R = true := by rw [← HR.out]; simp [holdsM, e0]
      clear HR HF
      clear e0
      go_enter Tryz.func13, Tryz.ntmps13
      go_wp2_with fail
      go_ret
      exact ⟨rfl, by first | exact hB1 | exact (Below.refl _ _).alloc (Nat.le_refl _) _ | exact bel_drewN _ hB1 | exact hB1.drew | exact bel_drewN _ ((Below.refl _ _).alloc (Nat.le_refl _) _) | exact ((Below.refl _ _).alloc (Nat.le_refl _) _).drew⟩
    · have e0 : ¬ v ≤ lo := by omega
      obtain rfl : R = false := by rw [← HR.out]; simp [holdsM, e0]
      clear HR HF
      clear e0
      go_enter Tryz.func13, Tryz.ntmps13
      go_wp2_with fail
      go_ret
      exact ⟨rfl, by first | exact hB1 | exact (Below.refl _ _).alloc (Nat.le_refl _) _ | exact bel_drewN _ hB1 | exact hB1.drew | exact bel_drewN _ ((Below.refl _ _).alloc (Nat.le_refl _) _) | exact ((Below.refl _ _).alloc (Nat.le_refl _) _).drew⟩
  · by_cases e : (lo : Int) < (v : Int)
    · have e0 : lo < v := by omega
      obtain rfl : R = true := by rw [← HR.out]; simp [holdsM, e0]
      clear HR HF
      clear e0
      go_enter Tryz.func13, Tryz.ntmps13
      go_wp2_with fail
      go_ret
      exact ⟨rfl, by first | exact hB1 | exact (Below.refl _ _).alloc (Nat.le_refl _) _ | exact bel_drewN _ hB1 | exact hB1.drew | exact bel_drewN _ ((Below.refl _ _).alloc (Nat.le_refl _) _) | exact ((Below.refl _ _).alloc (Nat.le_refl _) _).drew⟩
    · have e0 : ¬ lo < v := by omega
      obtain rfl : R = false := by rw [← HR.out]; simp [holdsM, e0]
      clear HR HF
      clear e0
      go_enter Tryz.func13, Tryz.ntmps13
      go_wp2_with fail
      go_ret
      exact ⟨rfl, by first | exact hB1 | exact (Below.refl _ _).alloc (Nat.le_refl _) _ | exact bel_drewN _ hB1 | exact hB1.drew | exact bel_drewN _ ((Below.refl _ _).alloc (Nat.le_refl _) _) | exact ((Below.refl _ _).alloc (Nat.le_refl _) _).drew⟩
  · by_cases e : (lo : Int) ≤ (v : Int)
    · have e0 : lo ≤ v := by omega
      obtain rfl : R = true := by rw [← HR.out]; simp [holdsM, e0]
      clear HR HF
      clear e0
      go_enter Tryz.func13, Tryz.ntmps13
      go_wp2_with fail
      go_ret
      exact ⟨rfl, by first | exact hB1 | exact (Below.refl _ _).alloc (Nat.le_refl _) _ | exact bel_drewN _ hB1 | exact hB1.drew | exact bel_drewN _ ((Below.refl _ _).alloc (Nat.le_refl _) _) | exact ((Below.refl _ _).alloc (Nat.le_refl _) _).drew⟩
    · have e0 : ¬ lo ≤ v := by omega
      obtain rfl : R = false := by rw [← HR.out]; simp [holdsM, e0]
      clear HR HF
      clear e0
      go_enter Tryz.func13, Tryz.ntmps13
      go_wp2_with fail
      go_ret
      exact ⟨rfl, by first | exact hB1 | exact (Below.refl _ _).alloc (Nat.le_refl _) _ | exact bel_drewN _ hB1 | exact hB1.drew | exact bel_drewN _ ((Below.refl _ _).alloc (Nat.le_refl _) _) | exact ((Below.refl _ _).alloc (Nat.le_refl _) _).drew⟩
end Go.Proofs.YtfbmagnfgnebdaaGreatDoor
