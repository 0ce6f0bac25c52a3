import Derived.Test.YtialcphfaleedaaGreatDoorZ24
import Derived.Test.YtialcphfaleedaaGreatDoorZ25
namespace Go.Proofs.YtialcphfaleedaaGreatDoor
open Go.RowKit Go.Shelf
theorem results_rt (tmps : Array Value) (W : World) (a b c : Value) (h : tmps.getD 4 undef = a ∧ tmps.getD 5 undef = b ∧ tmps.getD 6 undef = c) : (results Tryz.f38 tmps).run Tryz.prog W = .ok (.tuple #[a, b, c]) W := by
  obtain ⟨h1, h2, h3⟩ := h
  have h1' : tmps[4]?.getD undef = a := by simpa using h1
  have h2' : tmps[5]?.getD undef = b := by simpa using h2
  have h3' : tmps[6]?.getD undef = c := by simpa using h3
  simp [results, h1', h2', h3', go_sem]
set_option maxRecDepth 100000 in
set_option maxHeartbeats 1000000 in
theorem tk_A (l : List UInt8) (i : Nat) (c : UInt8) (w : World) (hi : (i : Int) < (l.length : Int)) (hs : l.length ≤ 16384) (hc : ∀ h', (ByteArray.mk l.toArray)[i]'h' = c) (j : Nat) (_hij : i < j) (_hjl : j ≤ l.length) (HL : Hid (∀ W : World, Calls Tryz.prog 42 #[.int .u8 (c.toNat : Int)] W fun e w' => e = .returned (.bool true) ∧ w' = W)) (HR : Hid (∀ W : World, Calls Tryz.prog 43 #[.string ⟨l.toArray⟩, .int .i64 (i : Int)] W fun e w' => e = .returned (.int .i64 (j : Int)) ∧ w' = W)) (h24 : (24 : Int) < (j : Int) - (i : Int)) :
    Calls Tryz.prog 38 #[.string ⟨l.toArray⟩, .int .i64 (i : Int)] w fun e w' => e = .returned (.tuple #[.int .i64 0, .int .i64 (i : Int), .int .i64 36]) ∧ Below w.heap.size w w' := by
  go_enter Tryz.func38, Tryz.ntmps38
  go_wp2_with fail
  refine (HL.out _).mono ?_
  rintro e _ ⟨rfl, rfl⟩
  go_wp2_with fail
  refine (HR.out _).mono ?_
  rintro e _ ⟨rfl, rfl⟩
  go_wp2_with fail
  refine bodyPost_ret (results_rt _ _ _ _ _ ⟨rfl, rfl, rfl⟩) rfl ?_
  exact ⟨rfl, Below.refl _ _⟩
set_option maxRecDepth 100000 in
set_option maxHeartbeats 1000000 in
theorem tk_B1 (l : List UInt8) (i : Nat) (c : UInt8) (w : World) (hi : (i : Int) < (l.length : Int)) (hs : l.length ≤ 16384) (hc : ∀ h', (ByteArray.mk l.toArray)[i]'h' = c) (j : Nat) (_hij : i < j) (_hjl : j ≤ l.length) (HL : Hid (∀ W : World, Calls Tryz.prog 42 #[.int .u8 (c.toNat : Int)] W fun e w' => e = .returned (.bool true) ∧ w' = W)) (HR : Hid (∀ W : World, Calls Tryz.prog 43 #[.string ⟨l.toArray⟩, .int .i64 (i : Int)] W fun e w' => e = .returned (.int .i64 (j : Int)) ∧ w' = W)) (h24 : ¬ (24 : Int) < (j : Int) - (i : Int)) (he : (l.length : Int) ≤ (j : Int) + 1) :
    Calls Tryz.prog 38 #[.string ⟨l.toArray⟩, .int .i64 (i : Int)] w fun e w' => e = .returned (.tuple #[.int .i64 2, .int .i64 (j : Int), .int .i64 0]) ∧ Below w.heap.size w w' := by
  go_enter Tryz.func38, Tryz.ntmps38
  go_wp2_with fail
  refine (HL.out _).mono ?_
  rintro e _ ⟨rfl, rfl⟩
  go_wp2_with fail
  refine (HR.out _).mono ?_
  rintro e _ ⟨rfl, rfl⟩
  go_wp2_with fail
  refine bodyPost_ret (results_rt _ _ _ _ _ ⟨rfl, rfl, rfl⟩) rfl ?_
  exact ⟨rfl, Below.refl _ _⟩
set_option maxRecDepth 100000 in
set_option maxHeartbeats 1000000 in
theorem tk_B2 (l : List UInt8) (i : Nat) (c : UInt8) (w : World) (hi : (i : Int) < (l.length : Int)) (hs : l.length ≤ 16384) (hc : ∀ h', (ByteArray.mk l.toArray)[i]'h' = c) (j : Nat) (_hij : i < j) (_hjl : j ≤ l.length) (HL : Hid (∀ W : World, Calls Tryz.prog 42 #[.int .u8 (c.toNat : Int)] W fun e w' => e = .returned (.bool true) ∧ w' = W)) (HR : Hid (∀ W : World, Calls Tryz.prog 43 #[.string ⟨l.toArray⟩, .int .i64 (i : Int)] W fun e w' => e = .returned (.int .i64 (j : Int)) ∧ w' = W)) (h24 : ¬ (24 : Int) < (j : Int) - (i : Int)) (he : ¬ (l.length : Int) ≤ (j : Int) + 1) (d : UInt8) (hd : ∀ h', (ByteArray.mk l.toArray)[j]'h' = d) (h46 : ((d.toNat : Int) == 46) = false) :
    Calls Tryz.prog 38 #[.string ⟨l.toArray⟩, .int .i64 (i : Int)] w fun e w' => e = .returned (.tuple #[.int .i64 2, .int .i64 (j : Int), .int .i64 0]) ∧ Below w.heap.size w w' := by
  have j1 : (j : Int) < (l.length : Int) := by omega
  have m46 : ((d.toNat : Int) != 46) = true := by rw [bne, h46]; rfl
  go_enter Tryz.func38, Tryz.ntmps38
  go_wp2_with fail
  refine (HL.out _).mono ?_
  rintro e _ ⟨rfl, rfl⟩
  go_wp2_with fail
  refine (HR.out _).mono ?_
  rintro e _ ⟨rfl, rfl⟩
  go_wp2_with fail
  refine bodyPost_ret (results_rt _ _ _ _ _ ⟨rfl, rfl, rfl⟩) rfl ?_
  exact ⟨rfl, Below.refl _ _⟩
set_option maxRecDepth 100000 in
set_option maxHeartbeats 1000000 in
theorem tk_B3 (l : List UInt8) (i : Nat) (c : UInt8) (w : World) (hi : (i : Int) < (l.length : Int)) (hs : l.length ≤ 16384) (hc : ∀ h', (ByteArray.mk l.toArray)[i]'h' = c) (j : Nat) (_hij : i < j) (_hjl : j ≤ l.length) (HL : Hid (∀ W : World, Calls Tryz.prog 42 #[.int .u8 (c.toNat : Int)] W fun e w' => e = .returned (.bool true) ∧ w' = W)) (HR : Hid (∀ W : World, Calls Tryz.prog 43 #[.string ⟨l.toArray⟩, .int .i64 (i : Int)] W fun e w' => e = .returned (.int .i64 (j : Int)) ∧ w' = W)) (h24 : ¬ (24 : Int) < (j : Int) - (i : Int)) (e2 : UInt8) (hd : ∀ h', (ByteArray.mk l.toArray)[j]'h' = 46) (hd2 : ∀ h', (ByteArray.mk l.toArray)[j + 1]'h' = e2) (he : ¬ (l.length : Int) ≤ (j : Int) + 1) (HL2 : Hid (∀ W : World, Calls Tryz.prog 42 #[.int .u8 (e2.toNat : Int)] W fun e w' => e = .returned (.bool false) ∧ w' = W)) :
    Calls Tryz.prog 38 #[.string ⟨l.toArray⟩, .int .i64 (i : Int)] w fun e w' => e = .returned (.tuple #[.int .i64 2, .int .i64 (j : Int), .int .i64 0]) ∧ Below w.heap.size w w' := by
  have j1 : (j : Int) < (l.length : Int) := by omega
  have j2 : (j : Int) + 1 < (l.length : Int) := by omega
  have j3 : (0 : Int) ≤ (j : Int) + 1 := by omega
  go_enter Tryz.func38, Tryz.ntmps38
  go_wp2_with fail
  refine (HL.out _).mono ?_
  rintro e _ ⟨rfl, rfl⟩
  go_wp2_with fail
  refine (HR.out _).mono ?_
  rintro e _ ⟨rfl, rfl⟩
  go_wp2_with fail
  refine (HL2.out _).mono ?_
  rintro e _ ⟨rfl, rfl⟩
  go_wp2_with fail
  refine bodyPost_ret (results_rt _ _ _ _ _ ⟨rfl, rfl, rfl⟩) rfl ?_
  exact ⟨rfl, Below.refl _ _⟩
set_option maxRecDepth 100000 in
set_option maxHeartbeats 1000000 in
theorem tk_C1 (l : List UInt8) (i : Nat) (c : UInt8) (w : World) (hi : (i : Int) < (l.length : Int)) (hs : l.length ≤ 16384) (hc : ∀ h', (ByteArray.mk l.toArray)[i]'h' = c) (j : Nat) (_hij : i < j) (_hjl : j ≤ l.length) (HL : Hid (∀ W : World, Calls Tryz.prog 42 #[.int .u8 (c.toNat : Int)] W fun e w' => e = .returned (.bool true) ∧ w' = W)) (HR : Hid (∀ W : World, Calls Tryz.prog 43 #[.string ⟨l.toArray⟩, .int .i64 (i : Int)] W fun e w' => e = .returned (.int .i64 (j : Int)) ∧ w' = W)) (h24 : ¬ (24 : Int) < (j : Int) - (i : Int)) (e2 : UInt8) (hd : ∀ h', (ByteArray.mk l.toArray)[j]'h' = 46) (hd2 : ∀ h', (ByteArray.mk l.toArray)[j + 1]'h' = e2) (he : ¬ (l.length : Int) ≤ (j : Int) + 1) (HL2 : Hid (∀ W : World, Calls Tryz.prog 42 #[.int .u8 (e2.toNat : Int)] W fun e w' => e = .returned (.bool true) ∧ w' = W)) (k : Nat) (_hk1 : j + 1 < k) (_hk2 : k ≤ l.length) (HR2 : Hid (∀ W : World, Calls Tryz.prog 43 #[.string ⟨l.toArray⟩, .int .i64 ((j : Int) + 1)] W fun e w' => e = .returned (.int .i64 (k : Int)) ∧ w' = W)) (g24 : (24 : Int) < (k : Int) - (j : Int) - 1) :
    Calls Tryz.prog 38 #[.string ⟨l.toArray⟩, .int .i64 (i : Int)] w fun e w' => e = .returned (.tuple #[.int .i64 0, .int .i64 (i : Int), .int .i64 36]) ∧ Below w.heap.size w w' := by
  have j1 : (j : Int) < (l.length : Int) := by omega
  have j2 : (j : Int) + 1 < (l.length : Int) := by omega
  have j3 : (0 : Int) ≤ (j : Int) + 1 := by omega
  go_enter Tryz.func38, Tryz.ntmps38
  go_wp2_with fail
  refine (HL.out _).mono ?_
  rintro e _ ⟨rfl, rfl⟩
  go_wp2_with fail
  refine (HR.out _).mono ?_
  rintro e _ ⟨rfl, rfl⟩
  go_wp2_with fail
  refine (HL2.out _).mono ?_
  rintro e _ ⟨rfl, rfl⟩
  go_wp2_with fail
  refine (HR2.out _).mono ?_
  rintro e _ ⟨rfl, rfl⟩
  go_wp2_with fail
  refine bodyPost_ret (results_rt _ _ _ _ _ ⟨rfl, rfl, rfl⟩) rfl ?_
  exact ⟨rfl, Below.refl _ _⟩
set_option maxRecDepth 100000 in
set_option maxHeartbeats 1000000 in
theorem tk_C2 (l : List UInt8) (i : Nat) (c : UInt8) (w : World) (hi : (i : Int) < (l.length : Int)) (hs : l.length ≤ 16384) (hc : ∀ h', (ByteArray.mk l.toArray)[i]'h' = c) (j : Nat) (_hij : i < j) (_hjl : j ≤ l.length) (HL : Hid (∀ W : World, Calls Tryz.prog 42 #[.int .u8 (c.toNat : Int)] W fun e w' => e = .returned (.bool true) ∧ w' = W)) (HR : Hid (∀ W : World, Calls Tryz.prog 43 #[.string ⟨l.toArray⟩, .int .i64 (i : Int)] W fun e w' => e = .returned (.int .i64 (j : Int)) ∧ w' = W)) (h24 : ¬ (24 : Int) < (j : Int) - (i : Int)) (e2 : UInt8) (hd : ∀ h', (ByteArray.mk l.toArray)[j]'h' = 46) (hd2 : ∀ h', (ByteArray.mk l.toArray)[j + 1]'h' = e2) (he : ¬ (l.length : Int) ≤ (j : Int) + 1) (HL2 : Hid (∀ W : World, Calls Tryz.prog 42 #[.int .u8 (e2.toNat : Int)] W fun e w' => e = .returned (.bool true) ∧ w' = W)) (k : Nat) (_hk1 : j + 1 < k) (_hk2 : k ≤ l.length) (HR2 : Hid (∀ W : World, Calls Tryz.prog 43 #[.string ⟨l.toArray⟩, .int .i64 ((j : Int) + 1)] W fun e w' => e = .returned (.int .i64 (k : Int)) ∧ w' = W)) (g24 : ¬ (24 : Int) < (k : Int) - (j : Int) - 1) :
    Calls Tryz.prog 38 #[.string ⟨l.toArray⟩, .int .i64 (i : Int)] w fun e w' => e = .returned (.tuple #[.int .i64 3, .int .i64 (k : Int), .int .i64 0]) ∧ Below w.heap.size w w' := by
  have j1 : (j : Int) < (l.length : Int) := by omega
  have j2 : (j : Int) + 1 < (l.length : Int) := by omega
  have j3 : (0 : Int) ≤ (j : Int) + 1 := by omega
  go_enter Tryz.func38, Tryz.ntmps38
  go_wp2_with fail
  refine (HL.out _).mono ?_
  rintro e _ ⟨rfl, rfl⟩
  go_wp2_with fail
  refine (HR.out _).mono ?_
  rintro e _ ⟨rfl, rfl⟩
  go_wp2_with fail
  refine (HL2.out _).mono ?_
  rintro e _ ⟨rfl, rfl⟩
  go_wp2_with fail
  refine (HR2.out _).mono ?_
  rintro e _ ⟨rfl, rfl⟩
  go_wp2_with fail
  refine bodyPost_ret (results_rt _ _ _ _ _ ⟨rfl, rfl, rfl⟩) rfl ?_
  exact ⟨rfl, Below.refl _ _⟩
end Go.Proofs.YtialcphfaleedaaGreatDoor
