import Derived.Test.YtffgkjmfeannoaaGreatDoorXAA
namespace Go.Proofs.YtffgkjmfeannoaaGreatDoor
open Go.RowKit
theorem wi_iff (l : List UInt8) (j lo hi : Nat) : (wi l j lo hi = true) = (j < l.length ∧ lo ≤ bt l j ∧ bt l j ≤ hi) := by simp [wi]
def sizeF (x : Nat) (x1 x2 x3 a0 d0 n0 f4 : Bool) : Nat × Bool :=
  if x < 128 then (1, false)
  else if 194 ≤ x ∧ x ≤ 223 ∧ x1 = true then (2, false)
  else if x = 224 ∧ a0 = true ∧ x2 = true then (3, false)
  else if x = 237 ∧ d0 = true ∧ x2 = true then (3, false)
  else if 225 ≤ x ∧ x ≤ 239 ∧ x ≠ 237 ∧ x1 = true ∧ x2 = true then (3, false)
  else if x = 240 ∧ n0 = true ∧ x2 = true ∧ x3 = true then (4, false)
  else if 241 ≤ x ∧ x ≤ 243 ∧ x1 = true ∧ x2 = true ∧ x3 = true then (4, false)
  else if x = 244 ∧ f4 = true ∧ x2 = true ∧ x3 = true then (4, false)
  else (1, true)
theorem size_eq (l : List UInt8) (i : Nat) : ((dc l i).2, lo1 l i) = sizeF (bt l i) (wi l (i + 1) 128 191) (wi l (i + 2) 128 191) (wi l (i + 3) 128 191) (wi l (i + 1) 160 191) (wi l (i + 1) 128 159) (wi l (i + 1) 144 191) (wi l (i + 1) 128 143) := by
  have hT := size_tab (l.length - i) (bt l i) (bt l (i + 1)) (bt l (i + 2)) (bt l (i + 3)) (bt_lt _ _) (bt_lt _ _) (bt_lt _ _) (bt_lt _ _)
  have e1 : (1 < l.length - i) = (i + 1 < l.length) := propext ⟨fun h => by omega, fun h => by omega⟩
  have e2 : (2 < l.length - i) = (i + 2 < l.length) := propext ⟨fun h => by omega, fun h => by omega⟩
  have e3 : (3 < l.length - i) = (i + 3 < l.length) := propext ⟨fun h => by omega, fun h => by omega⟩
  simp only [e1, e2, e3] at hT
  unfold sizeF
  simp only [wi_iff]
  exact hT
set_option maxRecDepth 100000 in
set_option maxHeartbeats 1000000 in
theorem sz_A (l : List UInt8) (i x : Nat) (w : World) (x1 x2 x3 a0 d0 n0 f4 : Bool) (j0 : (0 : Int) ≤ (i : Int)) (j1 : (i : Int) < (l.length : Int)) (hs : l.length ≤ 281474976710656) (hc : ∀ h', ((ByteArray.mk l.toArray)[i]'h').toNat = x) (g1 : 0 ≤ x) (g2 : x ≤ 127) (Cx1 : Hid (∀ W, Calls Tryz.prog 85 #[.string ⟨l.toArray⟩, .int .i64 ((i : Int) + 1), .int .u8 128, .int .u8 191] W fun e w' => e = .returned (.bool x1) ∧ w' = W)) (Cx2 : Hid (∀ W, Calls Tryz.prog 85 #[.string ⟨l.toArray⟩, .int .i64 ((i : Int) + 2), .int .u8 128, .int .u8 191] W fun e w' => e = .returned (.bool x2) ∧ w' = W)) (Cx3 : Hid (∀ W, Calls Tryz.prog 85 #[.string ⟨l.toArray⟩, .int .i64 ((i : Int) + 3), .int .u8 128, .int .u8 191] W fun e w' => e = .returned (.bool x3) ∧ w' = W)) :
    Calls Tryz.prog 75 #[.string ⟨l.toArray⟩, .int .i64 (i : Int)] w fun e w' => e = .returned (.tuple #[.int .i64 ((sizeF x x1 x2 x3 a0 d0 n0 f4).1 : Int), .bool (sizeF x x1 x2 x3 a0 d0 n0 f4).2]) ∧ w' = w := by
  have u0 : (x : Int) < 128 := by omega
  have u1 : ¬ (194 : Int) ≤ (x : Int) := by omega
  have u2 : (x : Int) ≤ 223 := by omega
  have u3 : ¬ (225 : Int) ≤ (x : Int) := by omega
  have u4 : (x : Int) ≤ 239 := by omega
  have u5 : ¬ (241 : Int) ≤ (x : Int) := by omega
  have u6 : (x : Int) ≤ 243 := by omega
  have e0 : ((x : Int) == 224) = false := by rw [beq_eq_false_iff_ne]; omega
  have e1 : ((x : Int) == 237) = false := by rw [beq_eq_false_iff_ne]; omega
  have e2 : ((x : Int) == 240) = false := by rw [beq_eq_false_iff_ne]; omega
  have e3 : ((x : Int) == 244) = false := by rw [beq_eq_false_iff_ne]; omega
  have HR : Hid (sizeF x x1 x2 x3 a0 d0 n0 f4 = (1, false)) := by
    unfold Hid sizeF
    clear hc Cx1 Cx2 Cx3
    repeat' split
    all_goals first | rfl | (exfalso; omega) | (exfalso; simp_all; done) | (exfalso; simp_all; omega)
  clear g1 g2
  go_enter Tryz.func75, Tryz.ntmps75
  go_wp2_with fail
  refine (Cx1.out _).mono ?_
  rintro e w1 ⟨rfl, rfl⟩
  go_wp2_with fail
  refine (Cx2.out _).mono ?_
  rintro e w1 ⟨rfl, rfl⟩
  go_wp2_with fail
  refine (Cx3.out _).mono ?_
  rintro e w1 ⟨rfl, rfl⟩
  go_wp2_with fail
  go_ret2
  exact ⟨by rw [HR.out]; rfl, rfl⟩
set_option maxRecDepth 100000 in
set_option maxHeartbeats 1000000 in
theorem sz_B (l : List UInt8) (i x : Nat) (w : World) (x1 x2 x3 a0 d0 n0 f4 : Bool) (j0 : (0 : Int) ≤ (i : Int)) (j1 : (i : Int) < (l.length : Int)) (hs : l.length ≤ 281474976710656) (hc : ∀ h', ((ByteArray.mk l.toArray)[i]'h').toNat = x) (g1 : 128 ≤ x) (g2 : x ≤ 193) (Cx1 : Hid (∀ W, Calls Tryz.prog 85 #[.string ⟨l.toArray⟩, .int .i64 ((i : Int) + 1), .int .u8 128, .int .u8 191] W fun e w' => e = .returned (.bool x1) ∧ w' = W)) (Cx2 : Hid (∀ W, Calls Tryz.prog 85 #[.string ⟨l.toArray⟩, .int .i64 ((i : Int) + 2), .int .u8 128, .int .u8 191] W fun e w' => e = .returned (.bool x2) ∧ w' = W)) (Cx3 : Hid (∀ W, Calls Tryz.prog 85 #[.string ⟨l.toArray⟩, .int .i64 ((i : Int) + 3), .int .u8 128, .int .u8 191] W fun e w' => e = .returned (.bool x3) ∧ w' = W)) :
    Calls Tryz.prog 75 #[.string ⟨l.toArray⟩, .int .i64 (i : Int)] w fun e w' => e = .returned (.tuple #[.int .i64 ((sizeF x x1 x2 x3 a0 d0 n0 f4).1 : Int), .bool (sizeF x x1 x2 x3 a0 d0 n0 f4).2]) ∧ w' = w := by
  have u0 : ¬ (x : Int) < 128 := by omega
  have u1 : ¬ (194 : Int) ≤ (x : Int) := by omega
  have u2 : (x : Int) ≤ 223 := by omega
  have u3 : ¬ (225 : Int) ≤ (x : Int) := by omega
  have u4 : (x : Int) ≤ 239 := by omega
  have u5 : ¬ (241 : Int) ≤ (x : Int) := by omega
  have u6 : (x : Int) ≤ 243 := by omega
  have e0 : ((x : Int) == 224) = false := by rw [beq_eq_false_iff_ne]; omega
  have e1 : ((x : Int) == 237) = false := by rw [beq_eq_false_iff_ne]; omega
  have e2 : ((x : Int) == 240) = false := by rw [beq_eq_false_iff_ne]; omega
  have e3 : ((x : Int) == 244) = false := by rw [beq_eq_false_iff_ne]; omega
  have HR : Hid (sizeF x x1 x2 x3 a0 d0 n0 f4 = (1, true)) := by
    unfold Hid sizeF
    clear hc Cx1 Cx2 Cx3
    repeat' split
    all_goals first | rfl | (exfalso; omega) | (exfalso; simp_all; done) | (exfalso; simp_all; omega)
  clear g1 g2
  go_enter Tryz.func75, Tryz.ntmps75
  go_wp2_with fail
  refine (Cx1.out _).mono ?_
  rintro e w1 ⟨rfl, rfl⟩
  go_wp2_with fail
  refine (Cx2.out _).mono ?_
  rintro e w1 ⟨rfl, rfl⟩
  go_wp2_with fail
  refine (Cx3.out _).mono ?_
  rintro e w1 ⟨rfl, rfl⟩
  go_wp2_with fail
  go_ret2
  exact ⟨by rw [HR.out]; rfl, rfl⟩
set_option maxRecDepth 100000 in
set_option maxHeartbeats 1000000 in
theorem sz_C (l : List UInt8) (i x : Nat) (w : World) (x1 x2 x3 a0 d0 n0 f4 : Bool) (j0 : (0 : Int) ≤ (i : Int)) (j1 : (i : Int) < (l.length : Int)) (hs : l.length ≤ 281474976710656) (hc : ∀ h', ((ByteArray.mk l.toArray)[i]'h').toNat = x) (g1 : 194 ≤ x) (g2 : x ≤ 223) (Cx1 : Hid (∀ W, Calls Tryz.prog 85 #[.string ⟨l.toArray⟩, .int .i64 ((i : Int) + 1), .int .u8 128, .int .u8 191] W fun e w' => e = .returned (.bool x1) ∧ w' = W)) (Cx2 : Hid (∀ W, Calls Tryz.prog 85 #[.string ⟨l.toArray⟩, .int .i64 ((i : Int) + 2), .int .u8 128, .int .u8 191] W fun e w' => e = .returned (.bool x2) ∧ w' = W)) (Cx3 : Hid (∀ W, Calls Tryz.prog 85 #[.string ⟨l.toArray⟩, .int .i64 ((i : Int) + 3), .int .u8 128, .int .u8 191] W fun e w' => e = .returned (.bool x3) ∧ w' = W)) :
    Calls Tryz.prog 75 #[.string ⟨l.toArray⟩, .int .i64 (i : Int)] w fun e w' => e = .returned (.tuple #[.int .i64 ((sizeF x x1 x2 x3 a0 d0 n0 f4).1 : Int), .bool (sizeF x x1 x2 x3 a0 d0 n0 f4).2]) ∧ w' = w := by
  have u0 : ¬ (x : Int) < 128 := by omega
  have u1 : (194 : Int) ≤ (x : Int) := by omega
  have u2 : (x : Int) ≤ 223 := by omega
  have u3 : ¬ (225 : Int) ≤ (x : Int) := by omega
  have u4 : (x : Int) ≤ 239 := by omega
  have u5 : ¬ (241 : Int) ≤ (x : Int) := by omega
  have u6 : (x : Int) ≤ 243 := by omega
  have e0 : ((x : Int) == 224) = false := by rw [beq_eq_false_iff_ne]; omega
  have e1 : ((x : Int) == 237) = false := by rw [beq_eq_false_iff_ne]; omega
  have e2 : ((x : Int) == 240) = false := by rw [beq_eq_false_iff_ne]; omega
  have e3 : ((x : Int) == 244) = false := by rw [beq_eq_false_iff_ne]; omega
  cases x1 with
  | true =>
    have HR : Hid (sizeF x true x2 x3 a0 d0 n0 f4 = (2, false)) := by
      unfold Hid sizeF
      clear hc Cx1 Cx2 Cx3
      repeat' split
      all_goals first | rfl | (exfalso; omega) | (exfalso; simp_all; done) | (exfalso; simp_all; omega)
    clear g1 g2
    go_enter Tryz.func75, Tryz.ntmps75
    go_wp2_with fail
    refine (Cx1.out _).mono ?_
    rintro e w1 ⟨rfl, rfl⟩
    go_wp2_with fail
    refine (Cx2.out _).mono ?_
    rintro e w1 ⟨rfl, rfl⟩
    go_wp2_with fail
    refine (Cx3.out _).mono ?_
    rintro e w1 ⟨rfl, rfl⟩
    go_wp2_with fail
    go_ret2
    exact ⟨by rw [HR.out]; rfl, rfl⟩
  | false =>
    have HR : Hid (sizeF x false x2 x3 a0 d0 n0 f4 = (1, true)) := by
      unfold Hid sizeF
      clear hc Cx1 Cx2 Cx3
      repeat' split
      all_goals first | rfl | (exfalso; omega) | (exfalso; simp_all; done) | (exfalso; simp_all; omega)
    clear g1 g2
    go_enter Tryz.func75, Tryz.ntmps75
    go_wp2_with fail
    refine (Cx1.out _).mono ?_
    rintro e w1 ⟨rfl, rfl⟩
    go_wp2_with fail
    refine (Cx2.out _).mono ?_
    rintro e w1 ⟨rfl, rfl⟩
    go_wp2_with fail
    refine (Cx3.out _).mono ?_
    rintro e w1 ⟨rfl, rfl⟩
    go_wp2_with fail
    go_ret2
    exact ⟨by rw [HR.out]; rfl, rfl⟩
set_option maxRecDepth 100000 in
set_option maxHeartbeats 1000000 in
theorem sz_D (l : List UInt8) (i x : Nat) (w : World) (x1 x2 x3 a0 d0 n0 f4 : Bool) (j0 : (0 : Int) ≤ (i : Int)) (j1 : (i : Int) < (l.length : Int)) (hs : l.length ≤ 281474976710656) (hc : ∀ h', ((ByteArray.mk l.toArray)[i]'h').toNat = x) (g1 : 224 ≤ x) (g2 : x ≤ 224) (Cx1 : Hid (∀ W, Calls Tryz.prog 85 #[.string ⟨l.toArray⟩, .int .i64 ((i : Int) + 1), .int .u8 128, .int .u8 191] W fun e w' => e = .returned (.bool x1) ∧ w' = W)) (Cx2 : Hid (∀ W, Calls Tryz.prog 85 #[.string ⟨l.toArray⟩, .int .i64 ((i : Int) + 2), .int .u8 128, .int .u8 191] W fun e w' => e = .returned (.bool x2) ∧ w' = W)) (Cx3 : Hid (∀ W, Calls Tryz.prog 85 #[.string ⟨l.toArray⟩, .int .i64 ((i : Int) + 3), .int .u8 128, .int .u8 191] W fun e w' => e = .returned (.bool x3) ∧ w' = W)) (Ca0 : Hid (∀ W, Calls Tryz.prog 85 #[.string ⟨l.toArray⟩, .int .i64 ((i : Int) + 1), .int .u8 160, .int .u8 191] W fun e w' => e = .returned (.bool a0) ∧ w' = W)) :
    Calls Tryz.prog 75 #[.string ⟨l.toArray⟩, .int .i64 (i : Int)] w fun e w' => e = .returned (.tuple #[.int .i64 ((sizeF x x1 x2 x3 a0 d0 n0 f4).1 : Int), .bool (sizeF x x1 x2 x3 a0 d0 n0 f4).2]) ∧ w' = w := by
  obtain rfl : x = 224 := by omega
  cases a0 with
  | true =>
    cases x2 with
    | true =>
      have HR : Hid (sizeF 224 x1 true x3 true d0 n0 f4 = (3, false)) := by
        unfold Hid sizeF
        clear hc Cx1 Cx2 Cx3 Ca0
        repeat' split
        all_goals first | rfl | (exfalso; omega) | (exfalso; simp_all; done) | (exfalso; simp_all; omega)
      clear g1 g2
      go_enter Tryz.func75, Tryz.ntmps75
      go_wp2_with fail
      refine (Cx1.out _).mono ?_
      rintro e w1 ⟨rfl, rfl⟩
      go_wp2_with fail
      refine (Cx2.out _).mono ?_
      rintro e w1 ⟨rfl, rfl⟩
      go_wp2_with fail
      refine (Cx3.out _).mono ?_
      rintro e w1 ⟨rfl, rfl⟩
      go_wp2_with fail
      refine (Ca0.out _).mono ?_
      rintro e w1 ⟨rfl, rfl⟩
      go_wp2_with fail
      go_ret2
      exact ⟨by rw [HR.out]; rfl, rfl⟩
    | false =>
      have HR : Hid (sizeF 224 x1 false x3 true d0 n0 f4 = (1, true)) := by
        unfold Hid sizeF
        clear hc Cx1 Cx2 Cx3 Ca0
        repeat' split
        all_goals first | rfl | (exfalso; omega) | (exfalso; simp_all; done) | (exfalso; simp_all; omega)
      clear g1 g2
      go_enter Tryz.func75, Tryz.ntmps75
      go_wp2_with fail
      refine (Cx1.out _).mono ?_
      rintro e w1 ⟨rfl, rfl⟩
      go_wp2_with fail
      refine (Cx2.out _).mono ?_
      rintro e w1 ⟨rfl, rfl⟩
      go_wp2_with fail
      refine (Cx3.out _).mono ?_
      rintro e w1 ⟨rfl, rfl⟩
      go_wp2_with fail
      refine (Ca0.out _).mono ?_
      rintro e w1 ⟨rfl, rfl⟩
      go_wp2_with fail
      go_ret2
      exact ⟨by rw [HR.out]; rfl, rfl⟩
  | false =>
    have HR : Hid (sizeF 224 x1 x2 x3 false d0 n0 f4 = (1, true)) := by
      unfold Hid sizeF
      clear hc Cx1 Cx2 Cx3 Ca0
      repeat' split
      all_goals first | rfl | (exfalso; omega) | (exfalso; simp_all; done) | (exfalso; simp_all; omega)
    clear g1 g2
    go_enter Tryz.func75, Tryz.ntmps75
    go_wp2_with fail
    refine (Cx1.out _).mono ?_
    rintro e w1 ⟨rfl, rfl⟩
    go_wp2_with fail
    refine (Cx2.out _).mono ?_
    rintro e w1 ⟨rfl, rfl⟩
    go_wp2_with fail
    refine (Cx3.out _).mono ?_
    rintro e w1 ⟨rfl, rfl⟩
    go_wp2_with fail
    refine (Ca0.out _).mono ?_
    rintro e w1 ⟨rfl, rfl⟩
    go_wp2_with fail
    go_ret2
    exact ⟨by rw [HR.out]; rfl, rfl⟩
set_option maxRecDepth 100000 in
set_option maxHeartbeats 1000000 in
theorem sz_E (l : List UInt8) (i x : Nat) (w : World) (x1 x2 x3 a0 d0 n0 f4 : Bool) (j0 : (0 : Int) ≤ (i : Int)) (j1 : (i : Int) < (l.length : Int)) (hs : l.length ≤ 281474976710656) (hc : ∀ h', ((ByteArray.mk l.toArray)[i]'h').toNat = x) (g1 : 225 ≤ x) (g2 : x ≤ 236) (Cx1 : Hid (∀ W, Calls Tryz.prog 85 #[.string ⟨l.toArray⟩, .int .i64 ((i : Int) + 1), .int .u8 128, .int .u8 191] W fun e w' => e = .returned (.bool x1) ∧ w' = W)) (Cx2 : Hid (∀ W, Calls Tryz.prog 85 #[.string ⟨l.toArray⟩, .int .i64 ((i : Int) + 2), .int .u8 128, .int .u8 191] W fun e w' => e = .returned (.bool x2) ∧ w' = W)) (Cx3 : Hid (∀ W, Calls Tryz.prog 85 #[.string ⟨l.toArray⟩, .int .i64 ((i : Int) + 3), .int .u8 128, .int .u8 191] W fun e w' => e = .returned (.bool x3) ∧ w' = W)) :
    Calls Tryz.prog 75 #[.string ⟨l.toArray⟩, .int .i64 (i : Int)] w fun e w' => e = .returned (.tuple #[.int .i64 ((sizeF x x1 x2 x3 a0 d0 n0 f4).1 : Int), .bool (sizeF x x1 x2 x3 a0 d0 n0 f4).2]) ∧ w' = w := by
  have u0 : ¬ (x : Int) < 128 := by omega
  have u1 : (194 : Int) ≤ (x : Int) := by omega
  have u2 : ¬ (x : Int) ≤ 223 := by omega
  have u3 : (225 : Int) ≤ (x : Int) := by omega
  have u4 : (x : Int) ≤ 239 := by omega
  have u5 : ¬ (241 : Int) ≤ (x : Int) := by omega
  have u6 : (x : Int) ≤ 243 := by omega
  have e0 : ((x : Int) == 224) = false := by rw [beq_eq_false_iff_ne]; omega
  have e1 : ((x : Int) == 237) = false := by rw [beq_eq_false_iff_ne]; omega
  have e2 : ((x : Int) == 240) = false := by rw [beq_eq_false_iff_ne]; omega
  have e3 : ((x : Int) == 244) = false := by rw [beq_eq_false_iff_ne]; omega
  have n237 : ((x : Int) != 237) = true := by rw [bne, beq_eq_false_iff_ne.2 (by omega)]; rfl
  cases x1 with
  | true =>
    cases x2 with
    | true =>
      have HR : Hid (sizeF x true true x3 a0 d0 n0 f4 = (3, false)) := by
        unfold Hid sizeF
        clear hc Cx1 Cx2 Cx3
        repeat' split
        all_goals first | rfl | (exfalso; omega) | (exfalso; simp_all; done) | (exfalso; simp_all; omega)
      clear g1 g2
      go_enter Tryz.func75, Tryz.ntmps75
      go_wp2_with fail
      refine (Cx1.out _).mono ?_
      rintro e w1 ⟨rfl, rfl⟩
      go_wp2_with fail
      refine (Cx2.out _).mono ?_
      rintro e w1 ⟨rfl, rfl⟩
      go_wp2_with fail
      refine (Cx3.out _).mono ?_
      rintro e w1 ⟨rfl, rfl⟩
      go_wp2_with fail
      go_ret2
      exact ⟨by rw [HR.out]; rfl, rfl⟩
    | false =>
      have HR : Hid (sizeF x true false x3 a0 d0 n0 f4 = (1, true)) := by
        unfold Hid sizeF
        clear hc Cx1 Cx2 Cx3
        repeat' split
        all_goals first | rfl | (exfalso; omega) | (exfalso; simp_all; done) | (exfalso; simp_all; omega)
      clear g1 g2
      go_enter Tryz.func75, Tryz.ntmps75
      go_wp2_with fail
      refine (Cx1.out _).mono ?_
      rintro e w1 ⟨rfl, rfl⟩
      go_wp2_with fail
      refine (Cx2.out _).mono ?_
      rintro e w1 ⟨rfl, rfl⟩
      go_wp2_with fail
      refine (Cx3.out _).mono ?_
      rintro e w1 ⟨rfl, rfl⟩
      go_wp2_with fail
      go_ret2
      exact ⟨by rw [HR.out]; rfl, rfl⟩
  | false =>
    have HR : Hid (sizeF x false x2 x3 a0 d0 n0 f4 = (1, true)) := by
      unfold Hid sizeF
      clear hc Cx1 Cx2 Cx3
      repeat' split
      all_goals first | rfl | (exfalso; omega) | (exfalso; simp_all; done) | (exfalso; simp_all; omega)
    clear g1 g2
    go_enter Tryz.func75, Tryz.ntmps75
    go_wp2_with fail
    refine (Cx1.out _).mono ?_
    rintro e w1 ⟨rfl, rfl⟩
    go_wp2_with fail
    refine (Cx2.out _).mono ?_
    rintro e w1 ⟨rfl, rfl⟩
    go_wp2_with fail
    refine (Cx3.out _).mono ?_
    rintro e w1 ⟨rfl, rfl⟩
    go_wp2_with fail
    go_ret2
    exact ⟨by rw [HR.out]; rfl, rfl⟩
set_option maxRecDepth 100000 in
set_option maxHeartbeats 1000000 in
theorem sz_F (l : List UInt8) (i x : Nat) (w : World) (x1 x2 x3 a0 d0 n0 f4 : Bool) (j0 : (0 : Int) ≤ (i : Int)) (j1 : (i : Int) < (l.length : Int)) (hs : l.length ≤ 281474976710656) (hc : ∀ h', ((ByteArray.mk l.toArray)[i]'h').toNat = x) (g1 : 237 ≤ x) (g2 : x ≤ 237) (Cx1 : Hid (∀ W, Calls Tryz.prog 85 #[.string ⟨l.toArray⟩, .int .i64 ((i : Int) + 1), .int .u8 128, .int .u8 191] W fun e w' => e = .returned (.bool x1) ∧ w' = W)) (Cx2 : Hid (∀ W, Calls Tryz.prog 85 #[.string ⟨l.toArray⟩, .int .i64 ((i : Int) + 2), .int .u8 128, .int .u8 191] W fun e w' => e = .returned (.bool x2) ∧ w' = W)) (Cx3 : Hid (∀ W, Calls Tryz.prog 85 #[.string ⟨l.toArray⟩, .int .i64 ((i : Int) + 3), .int .u8 128, .int .u8 191] W fun e w' => e = .returned (.bool x3) ∧ w' = W)) (Cd0 : Hid (∀ W, Calls Tryz.prog 85 #[.string ⟨l.toArray⟩, .int .i64 ((i : Int) + 1), .int .u8 128, .int .u8 159] W fun e w' => e = .returned (.bool d0) ∧ w' = W)) :
    Calls Tryz.prog 75 #[.string ⟨l.toArray⟩, .int .i64 (i : Int)] w fun e w' => e = .returned (.tuple #[.int .i64 ((sizeF x x1 x2 x3 a0 d0 n0 f4).1 : Int), .bool (sizeF x x1 x2 x3 a0 d0 n0 f4).2]) ∧ w' = w := by
  obtain rfl : x = 237 := by omega
  cases d0 with
  | true =>
    cases x2 with
    | true =>
      have HR : Hid (sizeF 237 x1 true x3 a0 true n0 f4 = (3, false)) := by
        unfold Hid sizeF
        clear hc Cx1 Cx2 Cx3 Cd0
        repeat' split
        all_goals first | rfl | (exfalso; omega) | (exfalso; simp_all; done) | (exfalso; simp_all; omega)
      clear g1 g2
      go_enter Tryz.func75, Tryz.ntmps75
      go_wp2_with fail
      refine (Cx1.out _).mono ?_
      rintro e w1 ⟨rfl, rfl⟩
      go_wp2_with fail
      refine (Cx2.out _).mono ?_
      rintro e w1 ⟨rfl, rfl⟩
      go_wp2_with fail
      refine (Cx3.out _).mono ?_
      rintro e w1 ⟨rfl, rfl⟩
      go_wp2_with fail
      refine (Cd0.out _).mono ?_
      rintro e w1 ⟨rfl, rfl⟩
      go_wp2_with fail
      go_ret2
      exact ⟨by rw [HR.out]; rfl, rfl⟩
    | false =>
      have HR : Hid (sizeF 237 x1 false x3 a0 true n0 f4 = (1, true)) := by
        unfold Hid sizeF
        clear hc Cx1 Cx2 Cx3 Cd0
        repeat' split
        all_goals first | rfl | (exfalso; omega) | (exfalso; simp_all; done) | (exfalso; simp_all; omega)
      clear g1 g2
      go_enter Tryz.func75, Tryz.ntmps75
      go_wp2_with fail
      refine (Cx1.out _).mono ?_
      rintro e w1 ⟨rfl, rfl⟩
      go_wp2_with fail
      refine (Cx2.out _).mono ?_
      rintro e w1 ⟨rfl, rfl⟩
      go_wp2_with fail
      refine (Cx3.out _).mono ?_
      rintro e w1 ⟨rfl, rfl⟩
      go_wp2_with fail
      refine (Cd0.out _).mono ?_
      rintro e w1 ⟨rfl, rfl⟩
      go_wp2_with fail
      go_ret2
      exact ⟨by rw [HR.out]; rfl, rfl⟩
  | false =>
    have HR : Hid (sizeF 237 x1 x2 x3 a0 false n0 f4 = (1, true)) := by
      unfold Hid sizeF
      clear hc Cx1 Cx2 Cx3 Cd0
      repeat' split
      all_goals first | rfl | (exfalso; omega) | (exfalso; simp_all; done) | (exfalso; simp_all; omega)
    clear g1 g2
    go_enter Tryz.func75, Tryz.ntmps75
    go_wp2_with fail
    refine (Cx1.out _).mono ?_
    rintro e w1 ⟨rfl, rfl⟩
    go_wp2_with fail
    refine (Cx2.out _).mono ?_
    rintro e w1 ⟨rfl, rfl⟩
    go_wp2_with fail
    refine (Cx3.out _).mono ?_
    rintro e w1 ⟨rfl, rfl⟩
    go_wp2_with fail
    refine (Cd0.out _).mono ?_
    rintro e w1 ⟨rfl, rfl⟩
    go_wp2_with fail
    go_ret2
    exact ⟨by rw [HR.out]; rfl, rfl⟩
set_option maxRecDepth 100000 in
set_option maxHeartbeats 1000000 in
theorem sz_K (l : List UInt8) (i x : Nat) (w : World) (x1 x2 x3 a0 d0 n0 f4 : Bool) (j0 : (0 : Int) ≤ (i : Int)) (j1 : (i : Int) < (l.length : Int)) (hs : l.length ≤ 281474976710656) (hc : ∀ h', ((ByteArray.mk l.toArray)[i]'h').toNat = x) (g1 : 238 ≤ x) (g2 : x ≤ 239) (Cx1 : Hid (∀ W, Calls Tryz.prog 85 #[.string ⟨l.toArray⟩, .int .i64 ((i : Int) + 1), .int .u8 128, .int .u8 191] W fun e w' => e = .returned (.bool x1) ∧ w' = W)) (Cx2 : Hid (∀ W, Calls Tryz.prog 85 #[.string ⟨l.toArray⟩, .int .i64 ((i : Int) + 2), .int .u8 128, .int .u8 191] W fun e w' => e = .returned (.bool x2) ∧ w' = W)) (Cx3 : Hid (∀ W, Calls Tryz.prog 85 #[.string ⟨l.toArray⟩, .int .i64 ((i : Int) + 3), .int .u8 128, .int .u8 191] W fun e w' => e = .returned (.bool x3) ∧ w' = W)) :
    Calls Tryz.prog 75 #[.string ⟨l.toArray⟩, .int .i64 (i : Int)] w fun e w' => e = .returned (.tuple #[.int .i64 ((sizeF x x1 x2 x3 a0 d0 n0 f4).1 : Int), .bool (sizeF x x1 x2 x3 a0 d0 n0 f4).2]) ∧ w' = w := by
  have u0 : ¬ (x : Int) < 128 := by omega
  have u1 : (194 : Int) ≤ (x : Int) := by omega
  have u2 : ¬ (x : Int) ≤ 223 := by omega
  have u3 : (225 : Int) ≤ (x : Int) := by omega
  have u4 : (x : Int) ≤ 239 := by omega
  have u5 : ¬ (241 : Int) ≤ (x : Int) := by omega
  have u6 : (x : Int) ≤ 243 := by omega
  have e0 : ((x : Int) == 224) = false := by rw [beq_eq_false_iff_ne]; omega
  have e1 : ((x : Int) == 237) = false := by rw [beq_eq_false_iff_ne]; omega
  have e2 : ((x : Int) == 240) = false := by rw [beq_eq_false_iff_ne]; omega
  have e3 : ((x : Int) == 244) = false := by rw [beq_eq_false_iff_ne]; omega
  have n237 : ((x : Int) != 237) = true := by rw [bne, beq_eq_false_iff_ne.2 (by omega)]; rfl
  cases x1 with
  | true =>
    cases x2 with
    | true =>
      have HR : Hid (sizeF x true true x3 a0 d0 n0 f4 = (3, false)) := by
        unfold Hid sizeF
        clear hc Cx1 Cx2 Cx3
        repeat' split
        all_goals first | rfl | (exfalso; omega) | (exfalso; simp_all; done) | (exfalso; simp_all; omega)
      clear g1 g2
      go_enter Tryz.func75, Tryz.ntmps75
      go_wp2_with fail
      refine (Cx1.out _).mono ?_
      rintro e w1 ⟨rfl, rfl⟩
      go_wp2_with fail
      refine (Cx2.out _).mono ?_
      rintro e w1 ⟨rfl, rfl⟩
      go_wp2_with fail
      refine (Cx3.out _).mono ?_
      rintro e w1 ⟨rfl, rfl⟩
      go_wp2_with fail
      go_ret2
      exact ⟨by rw [HR.out]; rfl, rfl⟩
    | false =>
      have HR : Hid (sizeF x true false x3 a0 d0 n0 f4 = (1, true)) := by
        unfold Hid sizeF
        clear hc Cx1 Cx2 Cx3
        repeat' split
        all_goals first | rfl | (exfalso; omega) | (exfalso; simp_all; done) | (exfalso; simp_all; omega)
      clear g1 g2
      go_enter Tryz.func75, Tryz.ntmps75
      go_wp2_with fail
      refine (Cx1.out _).mono ?_
      rintro e w1 ⟨rfl, rfl⟩
      go_wp2_with fail
      refine (Cx2.out _).mono ?_
      rintro e w1 ⟨rfl, rfl⟩
      go_wp2_with fail
      refine (Cx3.out _).mono ?_
      rintro e w1 ⟨rfl, rfl⟩
      go_wp2_with fail
      go_ret2
      exact ⟨by rw [HR.out]; rfl, rfl⟩
  | false =>
    have HR : Hid (sizeF x false x2 x3 a0 d0 n0 f4 = (1, true)) := by
      unfold Hid sizeF
      clear hc Cx1 Cx2 Cx3
      repeat' split
      all_goals first | rfl | (exfalso; omega) | (exfalso; simp_all; done) | (exfalso; simp_all; omega)
    clear g1 g2
    go_enter Tryz.func75, Tryz.ntmps75
    go_wp2_with fail
    refine (Cx1.out _).mono ?_
    rintro e w1 ⟨rfl, rfl⟩
    go_wp2_with fail
    refine (Cx2.out _).mono ?_
    rintro e w1 ⟨rfl, rfl⟩
    go_wp2_with fail
    refine (Cx3.out _).mono ?_
    rintro e w1 ⟨rfl, rfl⟩
    go_wp2_with fail
    go_ret2
    exact ⟨by rw [HR.out]; rfl, rfl⟩
set_option maxRecDepth 100000 in
set_option maxHeartbeats 1000000 in
theorem sz_G (l : List UInt8) (i x : Nat) (w : World) (x1 x2 x3 a0 d0 n0 f4 : Bool) (j0 : (0 : Int) ≤ (i : Int)) (j1 : (i : Int) < (l.length : Int)) (hs : l.length ≤ 281474976710656) (hc : ∀ h', ((ByteArray.mk l.toArray)[i]'h').toNat = x) (g1 : 240 ≤ x) (g2 : x ≤ 240) (Cx1 : Hid (∀ W, Calls Tryz.prog 85 #[.string ⟨l.toArray⟩, .int .i64 ((i : Int) + 1), .int .u8 128, .int .u8 191] W fun e w' => e = .returned (.bool x1) ∧ w' = W)) (Cx2 : Hid (∀ W, Calls Tryz.prog 85 #[.string ⟨l.toArray⟩, .int .i64 ((i : Int) + 2), .int .u8 128, .int .u8 191] W fun e w' => e = .returned (.bool x2) ∧ w' = W)) (Cx3 : Hid (∀ W, Calls Tryz.prog 85 #[.string ⟨l.toArray⟩, .int .i64 ((i : Int) + 3), .int .u8 128, .int .u8 191] W fun e w' => e = .returned (.bool x3) ∧ w' = W)) (Cn0 : Hid (∀ W, Calls Tryz.prog 85 #[.string ⟨l.toArray⟩, .int .i64 ((i : Int) + 1), .int .u8 144, .int .u8 191] W fun e w' => e = .returned (.bool n0) ∧ w' = W)) :
    Calls Tryz.prog 75 #[.string ⟨l.toArray⟩, .int .i64 (i : Int)] w fun e w' => e = .returned (.tuple #[.int .i64 ((sizeF x x1 x2 x3 a0 d0 n0 f4).1 : Int), .bool (sizeF x x1 x2 x3 a0 d0 n0 f4).2]) ∧ w' = w := by
  obtain rfl : x = 240 := by omega
  cases n0 with
  | true =>
    cases x2 with
    | true =>
      cases x3 with
      | true =>
        have HR : Hid (sizeF 240 x1 true true a0 d0 true f4 = (4, false)) := by
          unfold Hid sizeF
          clear hc Cx1 Cx2 Cx3 Cn0
          repeat' split
          all_goals first | rfl | (exfalso; omega) | (exfalso; simp_all; done) | (exfalso; simp_all; omega)
        clear g1 g2
        go_enter Tryz.func75, Tryz.ntmps75
        go_wp2_with fail
        refine (Cx1.out _).mono ?_
        rintro e w1 ⟨rfl, rfl⟩
        go_wp2_with fail
        refine (Cx2.out _).mono ?_
        rintro e w1 ⟨rfl, rfl⟩
        go_wp2_with fail
        refine (Cx3.out _).mono ?_
        rintro e w1 ⟨rfl, rfl⟩
        go_wp2_with fail
        refine (Cn0.out _).mono ?_
        rintro e w1 ⟨rfl, rfl⟩
        go_wp2_with fail
        go_ret2
        exact ⟨by rw [HR.out]; rfl, rfl⟩
      | false =>
        have HR : Hid (sizeF 240 x1 true false a0 d0 true f4 = (1, true)) := by
          unfold Hid sizeF
          clear hc Cx1 Cx2 Cx3 Cn0
          repeat' split
          all_goals first | rfl | (exfalso; omega) | (exfalso; simp_all; done) | (exfalso; simp_all; omega)
        clear g1 g2
        go_enter Tryz.func75, Tryz.ntmps75
        go_wp2_with fail
        refine (Cx1.out _).mono ?_
        rintro e w1 ⟨rfl, rfl⟩
        go_wp2_with fail
        refine (Cx2.out _).mono ?_
        rintro e w1 ⟨rfl, rfl⟩
        go_wp2_with fail
        refine (Cx3.out _).mono ?_
        rintro e w1 ⟨rfl, rfl⟩
        go_wp2_with fail
        refine (Cn0.out _).mono ?_
        rintro e w1 ⟨rfl, rfl⟩
        go_wp2_with fail
        go_ret2
        exact ⟨by rw [HR.out]; rfl, rfl⟩
    | false =>
      have HR : Hid (sizeF 240 x1 false x3 a0 d0 true f4 = (1, true)) := by
        unfold Hid sizeF
        clear hc Cx1 Cx2 Cx3 Cn0
        repeat' split
        all_goals first | rfl | (exfalso; omega) | (exfalso; simp_all; done) | (exfalso; simp_all; omega)
      clear g1 g2
      go_enter Tryz.func75, Tryz.ntmps75
      go_wp2_with fail
      refine (Cx1.out _).mono ?_
      rintro e w1 ⟨rfl, rfl⟩
      go_wp2_with fail
      refine (Cx2.out _).mono ?_
      rintro e w1 ⟨rfl, rfl⟩
      go_wp2_with fail
      refine (Cx3.out _).mono ?_
      rintro e w1 ⟨rfl, rfl⟩
      go_wp2_with fail
      refine (Cn0.out _).mono ?_
      rintro e w1 ⟨rfl, rfl⟩
      go_wp2_with fail
      go_ret2
      exact ⟨by rw [HR.out]; rfl, rfl⟩
  | false =>
    have HR : Hid (sizeF 240 x1 x2 x3 a0 d0 false f4 = (1, true)) := by
      unfold Hid sizeF
      clear hc Cx1 Cx2 Cx3 Cn0
      repeat' split
      all_goals first | rfl | (exfalso; omega) | (exfalso; simp_all; done) | (exfalso; simp_all; omega)
    clear g1 g2
    go_enter Tryz.func75, Tryz.ntmps75
    go_wp2_with fail
    refine (Cx1.out _).mono ?_
    rintro e w1 ⟨rfl, rfl⟩
    go_wp2_with fail
    refine (Cx2.out _).mono ?_
    rintro e w1 ⟨rfl, rfl⟩
    go_wp2_with fail
    refine (Cx3.out _).mono ?_
    rintro e w1 ⟨rfl, rfl⟩
    go_wp2_with fail
    refine (Cn0.out _).mono ?_
    rintro e w1 ⟨rfl, rfl⟩
    go_wp2_with fail
    go_ret2
    exact ⟨by rw [HR.out]; rfl, rfl⟩
set_option maxRecDepth 100000 in
set_option maxHeartbeats 1000000 in
theorem sz_H (l : List UInt8) (i x : Nat) (w : World) (x1 x2 x3 a0 d0 n0 f4 : Bool) (j0 : (0 : Int) ≤ (i : Int)) (j1 : (i : Int) < (l.length : Int)) (hs : l.length ≤ 281474976710656) (hc : ∀ h', ((ByteArray.mk l.toArray)[i]'h').toNat = x) (g1 : 241 ≤ x) (g2 : x ≤ 243) (Cx1 : Hid (∀ W, Calls Tryz.prog 85 #[.string ⟨l.toArray⟩, .int .i64 ((i : Int) + 1), .int .u8 128, .int .u8 191] W fun e w' => e = .returned (.bool x1) ∧ w' = W)) (Cx2 : Hid (∀ W, Calls Tryz.prog 85 #[.string ⟨l.toArray⟩, .int .i64 ((i : Int) + 2), .int .u8 128, .int .u8 191] W fun e w' => e = .returned (.bool x2) ∧ w' = W)) (Cx3 : Hid (∀ W, Calls Tryz.prog 85 #[.string ⟨l.toArray⟩, .int .i64 ((i : Int) + 3), .int .u8 128, .int .u8 191] W fun e w' => e = .returned (.bool x3) ∧ w' = W)) :
    Calls Tryz.prog 75 #[.string ⟨l.toArray⟩, .int .i64 (i : Int)] w fun e w' => e = .returned (.tuple #[.int .i64 ((sizeF x x1 x2 x3 a0 d0 n0 f4).1 : Int), .bool (sizeF x x1 x2 x3 a0 d0 n0 f4).2]) ∧ w' = w := by
  have u0 : ¬ (x : Int) < 128 := by omega
  have u1 : (194 : Int) ≤ (x : Int) := by omega
  have u2 : ¬ (x : Int) ≤ 223 := by omega
  have u3 : (225 : Int) ≤ (x : Int) := by omega
  have u4 : ¬ (x : Int) ≤ 239 := by omega
  have u5 : (241 : Int) ≤ (x : Int) := by omega
  have u6 : (x : Int) ≤ 243 := by omega
  have e0 : ((x : Int) == 224) = false := by rw [beq_eq_false_iff_ne]; omega
  have e1 : ((x : Int) == 237) = false := by rw [beq_eq_false_iff_ne]; omega
  have e2 : ((x : Int) == 240) = false := by rw [beq_eq_false_iff_ne]; omega
  have e3 : ((x : Int) == 244) = false := by rw [beq_eq_false_iff_ne]; omega
  cases x1 with
  | true =>
    cases x2 with
    | true =>
      cases x3 with
      | true =>
        have HR : Hid (sizeF x true true true a0 d0 n0 f4 = (4, false)) := by
          unfold Hid sizeF
          clear hc Cx1 Cx2 Cx3
          repeat' split
          all_goals first | rfl | (exfalso; omega) | (exfalso; simp_all; done) | (exfalso; simp_all; omega)
        clear g1 g2
        go_enter Tryz.func75, Tryz.ntmps75
        go_wp2_with fail
        refine (Cx1.out _).mono ?_
        rintro e w1 ⟨rfl, rfl⟩
        go_wp2_with fail
        refine (Cx2.out _).mono ?_
        rintro e w1 ⟨rfl, rfl⟩
        go_wp2_with fail
        refine (Cx3.out _).mono ?_
        rintro e w1 ⟨rfl, rfl⟩
        go_wp2_with fail
        go_ret2
        exact ⟨by rw [HR.out]; rfl, rfl⟩
      | false =>
        have HR : Hid (sizeF x true true false a0 d0 n0 f4 = (1, true)) := by
          unfold Hid sizeF
          clear hc Cx1 Cx2 Cx3
          repeat' split
          all_goals first | rfl | (exfalso; omega) | (exfalso; simp_all; done) | (exfalso; simp_all; omega)
        clear g1 g2
        go_enter Tryz.func75, Tryz.ntmps75
        go_wp2_with fail
        refine (Cx1.out _).mono ?_
        rintro e w1 ⟨rfl, rfl⟩
        go_wp2_with fail
        refine (Cx2.out _).mono ?_
        rintro e w1 ⟨rfl, rfl⟩
        go_wp2_with fail
        refine (Cx3.out _).mono ?_
        rintro e w1 ⟨rfl, rfl⟩
        go_wp2_with fail
        go_ret2
        exact ⟨by rw [HR.out]; rfl, rfl⟩
    | false =>
      have HR : Hid (sizeF x true false x3 a0 d0 n0 f4 = (1, true)) := by
        unfold Hid sizeF
        clear hc Cx1 Cx2 Cx3
        repeat' split
        all_goals first | rfl | (exfalso; omega) | (exfalso; simp_all; done) | (exfalso; simp_all; omega)
      clear g1 g2
      go_enter Tryz.func75, Tryz.ntmps75
      go_wp2_with fail
      refine (Cx1.out _).mono ?_
      rintro e w1 ⟨rfl, rfl⟩
      go_wp2_with fail
      refine (Cx2.out _).mono ?_
      rintro e w1 ⟨rfl, rfl⟩
      go_wp2_with fail
      refine (Cx3.out _).mono ?_
      rintro e w1 ⟨rfl, rfl⟩
      go_wp2_with fail
      go_ret2
      exact ⟨by rw [HR.out]; rfl, rfl⟩
  | false =>
    have HR : Hid (sizeF x false x2 x3 a0 d0 n0 f4 = (1, true)) := by
      unfold Hid sizeF
      clear hc Cx1 Cx2 Cx3
      repeat' split
      all_goals first | rfl | (exfalso; omega) | (exfalso; simp_all; done) | (exfalso; simp_all; omega)
    clear g1 g2
    go_enter Tryz.func75, Tryz.ntmps75
    go_wp2_with fail
    refine (Cx1.out _).mono ?_
    rintro e w1 ⟨rfl, rfl⟩
    go_wp2_with fail
    refine (Cx2.out _).mono ?_
    rintro e w1 ⟨rfl, rfl⟩
    go_wp2_with fail
    refine (Cx3.out _).mono ?_
    rintro e w1 ⟨rfl, rfl⟩
    go_wp2_with fail
    go_ret2
    exact ⟨by rw [HR.out]; rfl, rfl⟩
set_option maxRecDepth 100000 in
set_option maxHeartbeats 1000000 in
theorem sz_I (l : List UInt8) (i x : Nat) (w : World) (x1 x2 x3 a0 d0 n0 f4 : Bool) (j0 : (0 : Int) ≤ (i : Int)) (j1 : (i : Int) < (l.length : Int)) (hs : l.length ≤ 281474976710656) (hc : ∀ h', ((ByteArray.mk l.toArray)[i]'h').toNat = x) (g1 : 244 ≤ x) (g2 : x ≤ 244) (Cx1 : Hid (∀ W, Calls Tryz.prog 85 #[.string ⟨l.toArray⟩, .int .i64 ((i : Int) + 1), .int .u8 128, .int .u8 191] W fun e w' => e = .returned (.bool x1) ∧ w' = W)) (Cx2 : Hid (∀ W, Calls Tryz.prog 85 #[.string ⟨l.toArray⟩, .int .i64 ((i : Int) + 2), .int .u8 128, .int .u8 191] W fun e w' => e = .returned (.bool x2) ∧ w' = W)) (Cx3 : Hid (∀ W, Calls Tryz.prog 85 #[.string ⟨l.toArray⟩, .int .i64 ((i : Int) + 3), .int .u8 128, .int .u8 191] W fun e w' => e = .returned (.bool x3) ∧ w' = W)) (Cf4 : Hid (∀ W, Calls Tryz.prog 85 #[.string ⟨l.toArray⟩, .int .i64 ((i : Int) + 1), .int .u8 128, .int .u8 143] W fun e w' => e = .returned (.bool f4) ∧ w' = W)) :
    Calls Tryz.prog 75 #[.string ⟨l.toArray⟩, .int .i64 (i : Int)] w fun e w' => e = .returned (.tuple #[.int .i64 ((sizeF x x1 x2 x3 a0 d0 n0 f4).1 : Int), .bool (sizeF x x1 x2 x3 a0 d0 n0 f4).2]) ∧ w' = w := by
  obtain rfl : x = 244 := by omega
  cases f4 with
  | true =>
    cases x2 with
    | true =>
      cases x3 with
      | true =>
        have HR : Hid (sizeF 244 x1 true true a0 d0 n0 true = (4, false)) := by
          unfold Hid sizeF
          clear hc Cx1 Cx2 Cx3 Cf4
          repeat' split
          all_goals first | rfl | (exfalso; omega) | (exfalso; simp_all; done) | (exfalso; simp_all; omega)
        clear g1 g2
        go_enter Tryz.func75, Tryz.ntmps75
        go_wp2_with fail
        refine (Cx1.out _).mono ?_
        rintro e w1 ⟨rfl, rfl⟩
        go_wp2_with fail
        refine (Cx2.out _).mono ?_
        rintro e w1 ⟨rfl, rfl⟩
        go_wp2_with fail
        refine (Cx3.out _).mono ?_
        rintro e w1 ⟨rfl, rfl⟩
        go_wp2_with fail
        refine (Cf4.out _).mono ?_
        rintro e w1 ⟨rfl, rfl⟩
        go_wp2_with fail
        go_ret2
        exact ⟨by rw [HR.out]; rfl, rfl⟩
      | false =>
        have HR : Hid (sizeF 244 x1 true false a0 d0 n0 true = (1, true)) := by
          unfold Hid sizeF
          clear hc Cx1 Cx2 Cx3 Cf4
          repeat' split
          all_goals first | rfl | (exfalso; omega) | (exfalso; simp_all; done) | (exfalso; simp_all; omega)
        clear g1 g2
        go_enter Tryz.func75, Tryz.ntmps75
        go_wp2_with fail
        refine (Cx1.out _).mono ?_
        rintro e w1 ⟨rfl, rfl⟩
        go_wp2_with fail
        refine (Cx2.out _).mono ?_
        rintro e w1 ⟨rfl, rfl⟩
        go_wp2_with fail
        refine (Cx3.out _).mono ?_
        rintro e w1 ⟨rfl, rfl⟩
        go_wp2_with fail
        refine (Cf4.out _).mono ?_
        rintro e w1 ⟨rfl, rfl⟩
        go_wp2_with fail
        go_ret2
        exact ⟨by rw [HR.out]; rfl, rfl⟩
    | false =>
      have HR : Hid (sizeF 244 x1 false x3 a0 d0 n0 true = (1, true)) := by
        unfold Hid sizeF
        clear hc Cx1 Cx2 Cx3 Cf4
        repeat' split
        all_goals first | rfl | (exfalso; omega) | (exfalso; simp_all; done) | (exfalso; simp_all; omega)
      clear g1 g2
      go_enter Tryz.func75, Tryz.ntmps75
      go_wp2_with fail
      refine (Cx1.out _).mono ?_
      rintro e w1 ⟨rfl, rfl⟩
      go_wp2_with fail
      refine (Cx2.out _).mono ?_
      rintro e w1 ⟨rfl, rfl⟩
      go_wp2_with fail
      refine (Cx3.out _).mono ?_
      rintro e w1 ⟨rfl, rfl⟩
      go_wp2_with fail
      refine (Cf4.out _).mono ?_
      rintro e w1 ⟨rfl, rfl⟩
      go_wp2_with fail
      go_ret2
      exact ⟨by rw [HR.out]; rfl, rfl⟩
  | false =>
    have HR : Hid (sizeF 244 x1 x2 x3 a0 d0 n0 false = (1, true)) := by
      unfold Hid sizeF
      clear hc Cx1 Cx2 Cx3 Cf4
      repeat' split
      all_goals first | rfl | (exfalso; omega) | (exfalso; simp_all; done) | (exfalso; simp_all; omega)
    clear g1 g2
    go_enter Tryz.func75, Tryz.ntmps75
    go_wp2_with fail
    refine (Cx1.out _).mono ?_
    rintro e w1 ⟨rfl, rfl⟩
    go_wp2_with fail
    refine (Cx2.out _).mono ?_
    rintro e w1 ⟨rfl, rfl⟩
    go_wp2_with fail
    refine (Cx3.out _).mono ?_
    rintro e w1 ⟨rfl, rfl⟩
    go_wp2_with fail
    refine (Cf4.out _).mono ?_
    rintro e w1 ⟨rfl, rfl⟩
    go_wp2_with fail
    go_ret2
    exact ⟨by rw [HR.out]; rfl, rfl⟩
set_option maxRecDepth 100000 in
set_option maxHeartbeats 1000000 in
theorem sz_J (l : List UInt8) (i x : Nat) (w : World) (x1 x2 x3 a0 d0 n0 f4 : Bool) (j0 : (0 : Int) ≤ (i : Int)) (j1 : (i : Int) < (l.length : Int)) (hs : l.length ≤ 281474976710656) (hc : ∀ h', ((ByteArray.mk l.toArray)[i]'h').toNat = x) (g1 : 245 ≤ x) (g2 : x ≤ 255) (Cx1 : Hid (∀ W, Calls Tryz.prog 85 #[.string ⟨l.toArray⟩, .int .i64 ((i : Int) + 1), .int .u8 128, .int .u8 191] W fun e w' => e = .returned (.bool x1) ∧ w' = W)) (Cx2 : Hid (∀ W, Calls Tryz.prog 85 #[.string ⟨l.toArray⟩, .int .i64 ((i : Int) + 2), .int .u8 128, .int .u8 191] W fun e w' => e = .returned (.bool x2) ∧ w' = W)) (Cx3 : Hid (∀ W, Calls Tryz.prog 85 #[.string ⟨l.toArray⟩, .int .i64 ((i : Int) + 3), .int .u8 128, .int .u8 191] W fun e w' => e = .returned (.bool x3) ∧ w' = W)) :
    Calls Tryz.prog 75 #[.string ⟨l.toArray⟩, .int .i64 (i : Int)] w fun e w' => e = .returned (.tuple #[.int .i64 ((sizeF x x1 x2 x3 a0 d0 n0 f4).1 : Int), .bool (sizeF x x1 x2 x3 a0 d0 n0 f4).2]) ∧ w' = w := by
  have u0 : ¬ (x : Int) < 128 := by omega
  have u1 : (194 : Int) ≤ (x : Int) := by omega
  have u2 : ¬ (x : Int) ≤ 223 := by omega
  have u3 : (225 : Int) ≤ (x : Int) := by omega
  have u4 : ¬ (x : Int) ≤ 239 := by omega
  have u5 : (241 : Int) ≤ (x : Int) := by omega
  have u6 : ¬ (x : Int) ≤ 243 := by omega
  have e0 : ((x : Int) == 224) = false := by rw [beq_eq_false_iff_ne]; omega
  have e1 : ((x : Int) == 237) = false := by rw [beq_eq_false_iff_ne]; omega
  have e2 : ((x : Int) == 240) = false := by rw [beq_eq_false_iff_ne]; omega
  have e3 : ((x : Int) == 244) = false := by rw [beq_eq_false_iff_ne]; omega
  have HR : Hid (sizeF x x1 x2 x3 a0 d0 n0 f4 = (1, true)) := by
    unfold Hid sizeF
    clear hc Cx1 Cx2 Cx3
    repeat' split
    all_goals first | rfl | (exfalso; omega) | (exfalso; simp_all; done) | (exfalso; simp_all; omega)
  clear g1 g2
  go_enter Tryz.func75, Tryz.ntmps75
  go_wp2_with fail
  refine (Cx1.out _).mono ?_
  rintro e w1 ⟨rfl, rfl⟩
  go_wp2_with fail
  refine (Cx2.out _).mono ?_
  rintro e w1 ⟨rfl, rfl⟩
  go_wp2_with fail
  refine (Cx3.out _).mono ?_
  rintro e w1 ⟨rfl, rfl⟩
  go_wp2_with fail
  go_ret2
  exact ⟨by rw [HR.out]; rfl, rfl⟩
theorem refSize_any (l : List UInt8) (i : Nat) (w : World) (hi : i < l.length) (hs : l.length ≤ 281474976710656) :
    Calls Tryz.prog 75 #[.string ⟨l.toArray⟩, .int .i64 (i : Int)] w fun e w' => e = .returned (.tuple #[.int .i64 ((dc l i).2 : Int), .bool (lo1 l i)]) ∧ w' = w := by
  obtain ⟨c, hc, hlc⟩ := byte_get l i hi
  have j0 : (0 : Int) ≤ (i : Int) := by omega
  have j1 : (i : Int) < (l.length : Int) := by omega
  have hE := size_eq l i
  rw [bt_of hlc] at hE
  have hE1 : (dc l i).2 = _ := congrArg Prod.fst hE
  have hE2 : lo1 l i = _ := congrArg Prod.snd hE
  rw [hE1, hE2]
  have hc2 : ∀ h', ((ByteArray.mk l.toArray)[i]'h').toNat = c.toNat := fun h' => by rw [hc h']
  have hx := c.toNat_lt
  have Cx1 : Hid (∀ W, Calls Tryz.prog 85 #[.string ⟨l.toArray⟩, .int .i64 ((i : Int) + 1), .int .u8 128, .int .u8 191] W fun e w' => e = .returned (.bool (wi l (i + 1) 128 191)) ∧ w' = W) := fun W => within_any l (i + 1) 128 191 _ (by omega) W
  have Cx2 : Hid (∀ W, Calls Tryz.prog 85 #[.string ⟨l.toArray⟩, .int .i64 ((i : Int) + 2), .int .u8 128, .int .u8 191] W fun e w' => e = .returned (.bool (wi l (i + 2) 128 191)) ∧ w' = W) := fun W => within_any l (i + 2) 128 191 _ (by omega) W
  have Cx3 : Hid (∀ W, Calls Tryz.prog 85 #[.string ⟨l.toArray⟩, .int .i64 ((i : Int) + 3), .int .u8 128, .int .u8 191] W fun e w' => e = .returned (.bool (wi l (i + 3) 128 191)) ∧ w' = W) := fun W => within_any l (i + 3) 128 191 _ (by omega) W
  have Ca0 : Hid (∀ W, Calls Tryz.prog 85 #[.string ⟨l.toArray⟩, .int .i64 ((i : Int) + 1), .int .u8 160, .int .u8 191] W fun e w' => e = .returned (.bool (wi l (i + 1) 160 191)) ∧ w' = W) := fun W => within_any l (i + 1) 160 191 _ (by omega) W
  have Cd0 : Hid (∀ W, Calls Tryz.prog 85 #[.string ⟨l.toArray⟩, .int .i64 ((i : Int) + 1), .int .u8 128, .int .u8 159] W fun e w' => e = .returned (.bool (wi l (i + 1) 128 159)) ∧ w' = W) := fun W => within_any l (i + 1) 128 159 _ (by omega) W
  have Cn0 : Hid (∀ W, Calls Tryz.prog 85 #[.string ⟨l.toArray⟩, .int .i64 ((i : Int) + 1), .int .u8 144, .int .u8 191] W fun e w' => e = .returned (.bool (wi l (i + 1) 144 191)) ∧ w' = W) := fun W => within_any l (i + 1) 144 191 _ (by omega) W
  have Cf4 : Hid (∀ W, Calls Tryz.prog 85 #[.string ⟨l.toArray⟩, .int .i64 ((i : Int) + 1), .int .u8 128, .int .u8 143] W fun e w' => e = .returned (.bool (wi l (i + 1) 128 143)) ∧ w' = W) := fun W => within_any l (i + 1) 128 143 _ (by omega) W
  by_cases gA : 0 ≤ c.toNat ∧ c.toNat ≤ 127
  · exact sz_A l i _ w _ _ _ _ _ _ _ j0 j1 hs hc2 (by omega) (by omega) Cx1 Cx2 Cx3
  · skip
    by_cases gB : 128 ≤ c.toNat ∧ c.toNat ≤ 193
    · exact sz_B l i _ w _ _ _ _ _ _ _ j0 j1 hs hc2 (by omega) (by omega) Cx1 Cx2 Cx3
    · skip
      by_cases gC : 194 ≤ c.toNat ∧ c.toNat ≤ 223
      · exact sz_C l i _ w _ _ _ _ _ _ _ j0 j1 hs hc2 (by omega) (by omega) Cx1 Cx2 Cx3
      · skip
        by_cases gD : 224 ≤ c.toNat ∧ c.toNat ≤ 224
        · exact sz_D l i _ w _ _ _ _ _ _ _ j0 j1 hs hc2 (by omega) (by omega) Cx1 Cx2 Cx3 Ca0
        · skip
          by_cases gE : 225 ≤ c.toNat ∧ c.toNat ≤ 236
          · exact sz_E l i _ w _ _ _ _ _ _ _ j0 j1 hs hc2 (by omega) (by omega) Cx1 Cx2 Cx3
          · skip
            by_cases gF : 237 ≤ c.toNat ∧ c.toNat ≤ 237
            · exact sz_F l i _ w _ _ _ _ _ _ _ j0 j1 hs hc2 (by omega) (by omega) Cx1 Cx2 Cx3 Cd0
            · skip
              by_cases gK : 238 ≤ c.toNat ∧ c.toNat ≤ 239
              · exact sz_K l i _ w _ _ _ _ _ _ _ j0 j1 hs hc2 (by omega) (by omega) Cx1 Cx2 Cx3
              · skip
                by_cases gG : 240 ≤ c.toNat ∧ c.toNat ≤ 240
                · exact sz_G l i _ w _ _ _ _ _ _ _ j0 j1 hs hc2 (by omega) (by omega) Cx1 Cx2 Cx3 Cn0
                · skip
                  by_cases gH : 241 ≤ c.toNat ∧ c.toNat ≤ 243
                  · exact sz_H l i _ w _ _ _ _ _ _ _ j0 j1 hs hc2 (by omega) (by omega) Cx1 Cx2 Cx3
                  · skip
                    by_cases gI : 244 ≤ c.toNat ∧ c.toNat ≤ 244
                    · exact sz_I l i _ w _ _ _ _ _ _ _ j0 j1 hs hc2 (by omega) (by omega) Cx1 Cx2 Cx3 Cf4
                    · skip
                      exact sz_J l i _ w _ _ _ _ _ _ _ j0 j1 hs hc2 (by omega) (by omega) Cx1 Cx2 Cx3
end Go.Proofs.YtffgkjmfeannoaaGreatDoor
