import Derived.Test.YtnboehlbcjfndaaGreatDoorZZB
import Derived.Test.YtnboehlbcjfndaaGreatDoorYAA
import Derived.Deep.RegionHeld3
import Derived.Test.YtnboehlbcjfndaaGreatDoorYAD
namespace Go.Proofs.YtnboehlbcjfndaaGreatDoor
open Go.RowKit
theorem numZ_any (n : Int) (w : World) : Calls Tryz.prog 11 #[.int .i64 n] w fun e w' => e = .returned (.int .i64 n) ∧ w' = w := by
  go_enter Tryz.func11, Tryz.ntmps11
  go_wp2_with fail
  go_ret
  exact ⟨rfl, rfl⟩
def BLZ (A U : World) : Prop := Below A.heap.size A U
theorem BLZ.trans {A U X : World} (h : BLZ A U) (h2 : Below U.heap.size U X) : BLZ A X := bel0Z h h2
theorem powZ (b : Nat) : (2 : Int) ^ b = ((2 ^ b : Nat) : Int) := by simp
set_option maxRecDepth 100000 in
set_option maxHeartbeats 16000000 in
theorem called_core (nf c : Nat) (p : Option Addr) (kd sa sb sc : Int) (ss : List UInt8) (w : World) (TQ : Value → Prop) (GQ : List UInt8 → Prop) (hnf : 1 ≤ nf) (hnf8 : nf ≤ 8) (_hc : nf ≤ c)
    (hNr : ∀ (n m : Int) (W : World), 0 < m → m ≤ 4294967296 → Calls Tryz.prog 7 #[.int .i64 n, .int .i64 m] W fun e w' => e = .returned (.int .i64 (n % m)) ∧ w' = W)
    (hCv : ∀ (b l h : Nat) (W : World), Below w.heap.size w W → 1 ≤ b → b ≤ 32 → l ≤ h → h < 2 ^ b → Calls Tryz.prog 33 #[.int .i64 (b : Int), .int .i64 (l : Int), .int .i64 (h : Int)] W fun e w' => ∃ p1 c1 L, e = .returned (.tuple #[.slice p1 (L : List (List UInt8)).length c1, .int .i64 0]) ∧ OWZ 9 w' W.heap.size (.slice p1 L.length c1) (stZ L) ∧ L.length ≤ 8589934592 ∧ Below W.heap.size W w')
    (hTs : ∀ (k : Nat) (op lo hi n : Int) (W : World), Below w.heap.size w W → k < nf → Calls Tryz.prog 8 #[.slice p nf c, .int .i64 (k : Int), .int .i64 op, .int .i64 0, .int .i64 lo, .int .i64 hi, .int .i64 n, .string ⟨ss.toArray⟩] W fun e w' => ∃ tv, e = .returned tv ∧ TQ tv ∧ Below W.heap.size W w')
    (hCu : ∀ (tv : Value) (W : World), Below w.heap.size w W → TQ tv → Calls Tryz.prog 10 #[.slice p nf c, tv] W fun e w' => ∃ p1 c1 L, e = .returned (.tuple #[.slice p1 (L : List (List UInt8)).length c1, .int .i64 0]) ∧ OWZ 9 w' W.heap.size (.slice p1 L.length c1) (stZ L) ∧ L.length ≤ 8589934592 ∧ Below W.heap.size W w')
    (hHd : ∀ W : World, Below w.heap.size w W → Calls Tryz.prog 9 #[.slice p nf c, .string ⟨ss.toArray⟩] W fun e w' => ∃ G : List UInt8, e = .returned (.string ⟨G.toArray⟩) ∧ GQ G ∧ Below W.heap.size W w')
    (hUn : ∀ (G : List UInt8) (W : World), Below w.heap.size w W → GQ G → Calls Tryz.prog 34 #[.slice p nf c, .string ⟨G.toArray⟩] W fun e w' => ∃ p2 c2 V, e = .returned (.tuple #[.slice p2 nf c2, .int .i64 0]) ∧ (V : List Int).length = nf ∧ OWZ 3 w' W.heap.size (.slice p2 nf c2) (inZ V) ∧ Below W.heap.size W w') : Calls Tryz.prog 16 #[.slice p nf c, .agg #[.int .i64 kd, .int .i64 sa, .int .i64 sb, .int .i64 sc, .string ⟨ss.toArray⟩]] w fun e w' => ∃ p1 c1 p2 c2 L V, e = .returned (.tuple #[.slice p1 (L : List (List UInt8)).length c1, .slice p2 (V : List Int).length c2, .bool true]) ∧ HO w' w.heap.size ⟨p1, c1, p2, c2, L, V⟩ ∧ Below w.heap.size w w' := by
  have HNR : Hid (∀ (n m : Int) (W : World), 0 < m → m ≤ 4294967296 → Calls Tryz.prog 7 #[.int .i64 n, .int .i64 m] W fun e w' => e = .returned (.int .i64 (n % m)) ∧ w' = W) := hNr
  have HCV : Hid (∀ (b l h : Nat) (W : World), Below w.heap.size w W → 1 ≤ b → b ≤ 32 → l ≤ h → h < 2 ^ b → Calls Tryz.prog 33 #[.int .i64 (b : Int), .int .i64 (l : Int), .int .i64 (h : Int)] W fun e w' => ∃ p1 c1 L, e = .returned (.tuple #[.slice p1 (L : List (List UInt8)).length c1, .int .i64 0]) ∧ OWZ 9 w' W.heap.size (.slice p1 L.length c1) (stZ L) ∧ L.length ≤ 8589934592 ∧ Below W.heap.size W w') := hCv
  have HTS : Hid (∀ (k : Nat) (op lo hi n : Int) (W : World), Below w.heap.size w W → k < nf → Calls Tryz.prog 8 #[.slice p nf c, .int .i64 (k : Int), .int .i64 op, .int .i64 0, .int .i64 lo, .int .i64 hi, .int .i64 n, .string ⟨ss.toArray⟩] W fun e w' => ∃ tv, e = .returned tv ∧ TQ tv ∧ Below W.heap.size W w') := hTs
  have HCU : Hid (∀ (tv : Value) (W : World), Below w.heap.size w W → TQ tv → Calls Tryz.prog 10 #[.slice p nf c, tv] W fun e w' => ∃ p1 c1 L, e = .returned (.tuple #[.slice p1 (L : List (List UInt8)).length c1, .int .i64 0]) ∧ OWZ 9 w' W.heap.size (.slice p1 L.length c1) (stZ L) ∧ L.length ≤ 8589934592 ∧ Below W.heap.size W w') := hCu
  have HHD : Hid (∀ W : World, Below w.heap.size w W → Calls Tryz.prog 9 #[.slice p nf c, .string ⟨ss.toArray⟩] W fun e w' => ∃ G : List UInt8, e = .returned (.string ⟨G.toArray⟩) ∧ GQ G ∧ Below W.heap.size W w') := hHd
  have HUN : Hid (∀ (G : List UInt8) (W : World), Below w.heap.size w W → GQ G → Calls Tryz.prog 34 #[.slice p nf c, .string ⟨G.toArray⟩] W fun e w' => ∃ p2 c2 V, e = .returned (.tuple #[.slice p2 nf c2, .int .i64 0]) ∧ (V : List Int).length = nf ∧ OWZ 3 w' W.heap.size (.slice p2 nf c2) (inZ V) ∧ Below W.heap.size W w') := hUn
  clear hNr hCv hTs hCu hHd hUn
  obtain ⟨bb, hbb⟩ : ∃ bb, w.heap.size = bb := ⟨_, rfl⟩
  have HCL : Hid (∀ U, BLZ (w.alloc (.cells #[.int .i64 kd, .int .i64 sa, .int .i64 sb, .int .i64 sc, .string ⟨ss.toArray⟩] 45 (0, 0))) U → ∀ j, U.cell? ⟨bb, j, none⟩ = (#[.int .i64 kd, .int .i64 sa, .int .i64 sb, .int .i64 sc, .string ⟨ss.toArray⟩] : Array Value)[j]?) := fun U hU => (cellsZ (keepZ (show Below _ _ _ from hU) (by rw [← hbb]; exact alloc_getZ _ _))).1
  have HWA : Hid (Below w.heap.size w (w.alloc (.cells #[.int .i64 kd, .int .i64 sa, .int .i64 sb, .int .i64 sc, .string ⟨ss.toArray⟩] 45 (0, 0)))) := belAZ (Below.refl _ _) _
  have z0 := Int.emod_nonneg sc (show (32 : Int) ≠ 0 by omega)
  have z1 := Int.emod_lt_of_pos sc (show (0 : Int) < 32 by omega)
  obtain ⟨z, hz⟩ : ∃ z : Nat, sc % 32 = (z : Int) := ⟨(sc % 32).toNat, by omega⟩
  obtain ⟨b, hb⟩ : ∃ b : Nat, 1 + z = b := ⟨_, rfl⟩
  have e1 : (1 : Int) + (z : Int) = (b : Int) := by omega
  have hb1 : 1 ≤ b := by omega
  have hb32 : b ≤ 32 := by omega
  have hp2 : 2 ^ b ≤ 2 ^ 32 := Nat.pow_le_pow_right (by decide) hb32
  have hp0 : 0 < 2 ^ b := Nat.pow_pos (by decide)
  have ep : IntKind.i64.wrap ((2 : Int) ^ b) = ((2 ^ b : Nat) : Int) := by rw [powZ, IntKind.wrap_i64]; omega
  obtain ⟨P, hP⟩ : ∃ P : Nat, 2 ^ b = P := ⟨_, rfl⟩
  rw [hP] at ep hp0 hp2
  have hPa : (0 : Int) < (P : Int) := Int.natCast_pos.2 hp0
  have hPb : (P : Int) ≤ 4294967296 := Int.ofNat_le.2 hp2
  have HPP : Hid (2 ^ b = P) := hP
  have l0 := Int.emod_nonneg sa (show (P : Int) ≠ 0 by omega)
  have l1 := Int.emod_lt_of_pos sa hPa
  have h0 := Int.emod_nonneg sb (show (P : Int) ≠ 0 by omega)
  have h1 := Int.emod_lt_of_pos sb hPa
  have k0 := Int.emod_nonneg sc (show (nf : Int) ≠ 0 by omega)
  have k1 := Int.emod_lt_of_pos sc (show (0 : Int) < (nf : Int) by omega)
  obtain ⟨l, hl⟩ : ∃ l : Nat, sa % (P : Int) = (l : Int) := ⟨(sa % (P : Int)).toNat, by omega⟩
  obtain ⟨h, hh⟩ : ∃ h : Nat, sb % (P : Int) = (h : Int) := ⟨(sb % (P : Int)).toNat, by omega⟩
  obtain ⟨k, hk⟩ : ∃ k : Nat, sc % (nf : Int) = (k : Int) := ⟨(sc % (nf : Int)).toNat, by omega⟩
  have hlP : l < P := by omega
  have hhP : h < P := by omega
  have hkn : k < nf := by omega
  have HN1 : Hid (∀ W : World, Calls Tryz.prog 7 #[.int .i64 sc, .int .i64 32] W fun e w' => e = .returned (.int .i64 (z : Int)) ∧ w' = W) := fun W => by rw [← hz]; exact HNR.out sc 32 W (by omega) (by omega)
  have HN2 : Hid (∀ W : World, Calls Tryz.prog 7 #[.int .i64 sa, .int .i64 (P : Int)] W fun e w' => e = .returned (.int .i64 (l : Int)) ∧ Below W.heap.size W w') := fun W => by rw [← hl]; exact (HNR.out sa P W hPa hPb).mono (fun e w' h => ⟨h.1, by rw [h.2]; exact Below.refl _ _⟩)
  have HN3 : Hid (∀ W : World, Calls Tryz.prog 7 #[.int .i64 sb, .int .i64 (P : Int)] W fun e w' => e = .returned (.int .i64 (h : Int)) ∧ Below W.heap.size W w') := fun W => by rw [← hh]; exact (HNR.out sb P W hPa hPb).mono (fun e w' h => ⟨h.1, by rw [h.2]; exact Below.refl _ _⟩)
  have HN4 : Hid (∀ W : World, Calls Tryz.prog 7 #[.int .i64 sc, .int .i64 (nf : Int)] W fun e w' => e = .returned (.int .i64 (k : Int)) ∧ w' = W) := fun W => by rw [← hk]; exact HNR.out sc nf W (by omega) (by omega)
  have s0 : (0 : Int) ≤ (b : Int) := by omega
  have s1 : (b : Int) < 64 := by omega
  have z2 : (z : Int) < 32 := by omega
  clear hz hb hP hp0 hp2 hPa hPb l0 l1 h0 h1 k0 k1 hl hh hk z0 z1 HNR
  have hcA := HCL.out (w.alloc (.cells #[.int .i64 kd, .int .i64 sa, .int .i64 sb, .int .i64 sc, .string ⟨ss.toArray⟩] 45 (0, 0))) (Below.refl _ _)
  go_enter Tryz.func16, Tryz.ntmps16
  go_wp2_with fail
  refine (HN1.out _).mono ?_
  rintro e Wa ⟨rfl, rfl⟩
  go_wp2_with fail
  have BEL : BLZ (w.alloc (.cells #[.int .i64 kd, .int .i64 sa, .int .i64 sb, .int .i64 sc, .string ⟨ss.toArray⟩] 45 (0, 0))) (w.alloc (.cells #[.int .i64 kd, .int .i64 sa, .int .i64 sb, .int .i64 sc, .string ⟨ss.toArray⟩] 45 (0, 0))) := Below.refl _ _
  refine quiet_lit3 (C := fun U => BLZ (w.alloc (.cells #[.int .i64 kd, .int .i64 sa, .int .i64 sb, .int .i64 sc, .string ⟨ss.toArray⟩] 45 (0, 0))) U) (by kernel_rfl) (by kernel_rfl) (show BLZ _ _ from Below.drew BEL) ?_
  go_big_quiet_want
  refine ⟨.pointer (some ⟨bb, 1, none⟩), fun W hW => ?_, ?_⟩
  · go_simp
  go_big_quiet_on
  simp only [Act.put, List.setIfInBounds_toArray, List.set_cons_zero, List.set_cons_succ]
  go_big_quiet_want
  refine ⟨.int .i64 sa, fun W hW => ?_, ?_⟩
  · have s1 := HCL.out W hW
    go_simp
  go_big_quiet_on
  simp only [Act.put, List.setIfInBounds_toArray, List.set_cons_zero, List.set_cons_succ]
  go_big_quiet_want
  go_big_quiet_op
  go_big_quiet_on
  go_big_quiet_want
  refine ⟨.int .i64 (P : Int), fun W hW => ?_, ?_⟩
  · go_simp
  go_big_quiet_on
  simp only [Act.put, List.setIfInBounds_toArray, List.set_cons_zero, List.set_cons_succ]
  go_big_quiet_want
  refine ⟨.int .i64 (l : Int), fun W hW => ?_, ?_⟩
  · go_simp
    refine (HN2.out W).mono ?_
    rintro e w7 ⟨rfl, hb⟩
    exact ⟨rfl, hW.trans hb⟩
  go_big_quiet_on
  simp only [Act.put, List.setIfInBounds_toArray, List.set_cons_zero, List.set_cons_succ]
  go_big_quiet_want
  go_big_quiet_op
  go_big_quiet_on
  refine wpQuiet_nil ?_
  intro z5 hz5
  clear BEL hcA
  have BEL : BLZ (w.alloc (.cells #[.int .i64 kd, .int .i64 sa, .int .i64 sb, .int .i64 sc, .string ⟨ss.toArray⟩] 45 (0, 0))) z5 := hz5
  go_wp2_with fail
  refine quiet_lit3 (C := fun U => BLZ (w.alloc (.cells #[.int .i64 kd, .int .i64 sa, .int .i64 sb, .int .i64 sc, .string ⟨ss.toArray⟩] 45 (0, 0))) U) (by kernel_rfl) (by kernel_rfl) (show BLZ _ _ from Below.drew BEL) ?_
  go_big_quiet_want
  refine ⟨.pointer (some ⟨bb, 2, none⟩), fun W hW => ?_, ?_⟩
  · go_simp
  go_big_quiet_on
  simp only [Act.put, List.setIfInBounds_toArray, List.set_cons_zero, List.set_cons_succ]
  go_big_quiet_want
  refine ⟨.int .i64 sb, fun W hW => ?_, ?_⟩
  · have s1 := HCL.out W hW
    go_simp
  go_big_quiet_on
  simp only [Act.put, List.setIfInBounds_toArray, List.set_cons_zero, List.set_cons_succ]
  go_big_quiet_want
  go_big_quiet_op
  go_big_quiet_on
  go_big_quiet_want
  refine ⟨.int .i64 (P : Int), fun W hW => ?_, ?_⟩
  · go_simp
  go_big_quiet_on
  simp only [Act.put, List.setIfInBounds_toArray, List.set_cons_zero, List.set_cons_succ]
  go_big_quiet_want
  refine ⟨.int .i64 (h : Int), fun W hW => ?_, ?_⟩
  · go_simp
    refine (HN3.out W).mono ?_
    rintro e w7 ⟨rfl, hb⟩
    exact ⟨rfl, hW.trans hb⟩
  go_big_quiet_on
  simp only [Act.put, List.setIfInBounds_toArray, List.set_cons_zero, List.set_cons_succ]
  go_big_quiet_want
  go_big_quiet_op
  go_big_quiet_on
  refine wpQuiet_nil ?_
  intro z6 BZ6
  clear BEL hz5 HN1 HN2 HN3
  by_cases g : (h : Int) < (l : Int)
  · have g' : (l : Int) > (h : Int) := g
    have HCO : Hid (∀ W : World, Below w.heap.size w W → Calls Tryz.prog 33 #[.int .i64 (b : Int), .int .i64 (h : Int), .int .i64 (l : Int)] W fun e w' => ∃ p1 c1 L, e = .returned (.tuple #[.slice p1 (L : List (List UInt8)).length c1, .int .i64 0]) ∧ OWZ 9 w' W.heap.size (.slice p1 L.length c1) (stZ L) ∧ L.length ≤ 8589934592 ∧ Below W.heap.size W w') := fun W hW => HCV.out b h l W hW (by omega) (by omega) (by omega) (by rw [HPP.out]; omega)
    go_wp2_with fail
    refine (HCO.out _ (bel0Z HWA.out BZ6)).mono ?_
    rintro e y1 ⟨p1, c1, L, rfl, o1, hL, hb4⟩
    have BY1 : BLZ (w.alloc (.cells #[.int .i64 kd, .int .i64 sa, .int .i64 sb, .int .i64 sc, .string ⟨ss.toArray⟩] 45 (0, 0))) y1 := bel0Z BZ6 hb4
    have cs := HCL.out y1 BY1
    by_cases hkd : bits .and .i64 kd 1 = 1
    · have hkd1 : (bits .and .i64 kd 1 == 1) = true := by simpa using hkd
      clear o1 hL hb4 HCO
      obtain ⟨m0, hm0⟩ : ∃ m, L.length = m := ⟨_, rfl⟩
      rw [hm0]
      clear hm0 L
      have BEL : BLZ (w.alloc (.cells #[.int .i64 kd, .int .i64 sa, .int .i64 sb, .int .i64 sc, .string ⟨ss.toArray⟩] 45 (0, 0))) y1 := BY1
      have hs0 : ∀ j, y1.drew.cell? ⟨bb, j, none⟩ = (#[.int .i64 kd, .int .i64 sa, .int .i64 sb, .int .i64 sc, .string ⟨ss.toArray⟩] : Array Value)[j]? := cs
      have HBZ : Hid (Below w.heap.size w y1.drew) := (bel0Z HWA.out BY1).drew
      go_wp2_with fail
      refine wp_region_held_drew (S := fun U => ∀ j, U.cell? ⟨bb, j, none⟩ = (#[.int .i64 kd, .int .i64 sa, .int .i64 sb, .int .i64 sc, .string ⟨ss.toArray⟩] : Array Value)[j]?) (by kernel_rfl) hs0 (fun _ => ?_)
      refine wpAnyH_take (i := 0) (v := .slice p nf c) rfl (by kernel_rfl) (by kernel_rfl) (by kernel_rfl) (fun _ _ _ h => h) (Or.inl ⟨by rfl, ?_⟩) hs0 ?_
      · rintro w s1; go_simp
      refine wpAnyH_take (i := 1) (v := .slice p nf c) rfl (by kernel_rfl) (by kernel_rfl) (by kernel_rfl) (fun _ _ _ h => h) (Or.inl ⟨by rfl, ?_⟩) hs0 ?_
      · rintro w s1; go_simp
      refine wpAnyH_take (i := 2) (v := .pointer (some ⟨bb, 3, none⟩)) rfl (by kernel_rfl) (by kernel_rfl) (by kernel_rfl) (fun _ _ _ h => h) (Or.inl ⟨by rfl, ?_⟩) hs0 ?_
      · rintro w s1; go_simp
      refine wpAnyH_take (i := 3) (v := .int .i64 sc) rfl (by kernel_rfl) (by kernel_rfl) (by kernel_rfl) (fun _ _ _ h => h) (Or.inl ⟨by rfl, ?_⟩) hs0 ?_
      · rintro w s1; go_simp
      refine wpAnyH_take (i := 4) (v := .slice p nf c) rfl (by kernel_rfl) (by kernel_rfl) (by kernel_rfl) (fun _ _ _ h => h) (Or.inl ⟨by rfl, ?_⟩) hs0 ?_
      · rintro w s1; go_simp
      refine wpAnyH_take (i := 5) (v := .int .i64 (nf : Int)) rfl (by kernel_rfl) (by kernel_rfl) (by kernel_rfl) (fun _ _ _ h => h) (Or.inl ⟨by rfl, ?_⟩) hs0 ?_
      · rintro w s1; go_simp
      refine wpAnyH_take (i := 7) (v := .pointer (some ⟨bb, 0, none⟩)) rfl (by kernel_rfl) (by kernel_rfl) (by kernel_rfl) (fun _ _ _ h => h) (Or.inl ⟨by rfl, ?_⟩) hs0 ?_
      · rintro w s1; go_simp
      refine wpAnyH_take (i := 8) (v := .int .i64 kd) rfl (by kernel_rfl) (by kernel_rfl) (by kernel_rfl) (fun _ _ _ h => h) (Or.inl ⟨by rfl, ?_⟩) hs0 ?_
      · rintro w s1; go_simp
      refine wpAnyH_take (i := 9) (v := .int .i64 (kd / 2)) rfl (by kernel_rfl) (by kernel_rfl) (by kernel_rfl) (fun _ _ _ h => h) (Or.inl ⟨by rfl, ?_⟩) hs0 ?_
      · rintro w s1; go_simp
      refine wpAnyH_take (i := 10) (v := .pointer (some ⟨bb, 1, none⟩)) rfl (by kernel_rfl) (by kernel_rfl) (by kernel_rfl) (fun _ _ _ h => h) (Or.inl ⟨by rfl, ?_⟩) hs0 ?_
      · rintro w s1; go_simp
      refine wpAnyH_take (i := 11) (v := .int .i64 sa) rfl (by kernel_rfl) (by kernel_rfl) (by kernel_rfl) (fun _ _ _ h => h) (Or.inl ⟨by rfl, ?_⟩) hs0 ?_
      · rintro w s1; go_simp
      refine wpAnyH_take (i := 12) (v := .pointer (some ⟨bb, 2, none⟩)) rfl (by kernel_rfl) (by kernel_rfl) (by kernel_rfl) (fun _ _ _ h => h) (Or.inl ⟨by rfl, ?_⟩) hs0 ?_
      · rintro w s1; go_simp
      refine wpAnyH_take (i := 13) (v := .int .i64 sb) rfl (by kernel_rfl) (by kernel_rfl) (by kernel_rfl) (fun _ _ _ h => h) (Or.inl ⟨by rfl, ?_⟩) hs0 ?_
      · rintro w s1; go_simp
      refine wpAnyH_take (i := 14) (v := .pointer (some ⟨bb, 3, none⟩)) rfl (by kernel_rfl) (by kernel_rfl) (by kernel_rfl) (fun _ _ _ h => h) (Or.inl ⟨by rfl, ?_⟩) hs0 ?_
      · rintro w s1; go_simp
      refine wpAnyH_take (i := 15) (v := .int .i64 sc) rfl (by kernel_rfl) (by kernel_rfl) (by kernel_rfl) (fun _ _ _ h => h) (Or.inl ⟨by rfl, ?_⟩) hs0 ?_
      · rintro w s1; go_simp
      refine wpAnyH_take (i := 16) (v := .pointer (some ⟨bb, 4, none⟩)) rfl (by kernel_rfl) (by kernel_rfl) (by kernel_rfl) (fun _ _ _ h => h) (Or.inl ⟨by rfl, ?_⟩) hs0 ?_
      · rintro w s1; go_simp
      refine wpAnyH_take (i := 17) (v := .string ⟨ss.toArray⟩) rfl (by kernel_rfl) (by kernel_rfl) (by kernel_rfl) (fun _ _ _ h => h) (Or.inl ⟨by rfl, ?_⟩) hs0 ?_
      · rintro w s1; go_simp
      refine wpAnyH_ready (rs := [6]) (by kernel_rfl) (by simp) ?_
      refine AllReadyH.cons rfl (fun KK hKK => ?_) AllReadyH.nil
      go_simp
      refine (HN4.out _).mono ?_
      rintro e Wk ⟨rfl, rfl⟩
      go_simp
      refine hKK.out _ _ hs0 (fun _ => ?_)
      clear hKK KK
      refine wpAnyH_ready (rs := [18]) (by kernel_rfl) (by simp) ?_
      refine AllReadyH.cons rfl (fun KK hKK => ?_) AllReadyH.nil
      go_simp
      refine (HTS.out k (kd / 2) sa sb sc _ HBZ.out hkn).mono ?_
      rintro e y3 ⟨tv, rfl, htv, hb3⟩
      have BY3 : BLZ (w.alloc (.cells #[.int .i64 kd, .int .i64 sa, .int .i64 sb, .int .i64 sc, .string ⟨ss.toArray⟩] 45 (0, 0))) y3 := bel0Z (Below.drew BEL) hb3
      have hs3 := HCL.out y3 BY3
      have HTV : Hid (TQ tv) := htv
      clear htv
      go_simp
      refine hKK.out _ _ hs3 (fun _ => ?_)
      clear hKK KK
      refine wpAnyH_ready (rs := [19]) (by kernel_rfl) (by simp) ?_
      refine AllReadyH.cons rfl (fun KK hKK => ?_) AllReadyH.nil
      go_simp
      refine (HCU.out tv y3 (bel0Z HWA.out BY3) HTV.out).mono ?_
      rintro e y4 ⟨p1, c1, L, rfl, o1, hL, hb4⟩
      have BY4 : BLZ (w.alloc (.cells #[.int .i64 kd, .int .i64 sa, .int .i64 sb, .int .i64 sc, .string ⟨ss.toArray⟩] 45 (0, 0))) y4 := bel0Z BY3 hb4
      have hs4 := HCL.out y4 BY4
      have hb4' : w.heap.size ≤ y3.heap.size := (bel0Z HWA.out BY3).size
      have HO1 : Hid (OWZ 9 y4 w.heap.size (.slice p1 L.length c1) (stZ L) ∧ L.length ≤ 8589934592) := ⟨o1.base hb4', hL⟩
      clear o1 hL hb4 hb4' hb3
      obtain ⟨m1, hm1⟩ : ∃ m, L.length = m := ⟨_, rfl⟩
      rw [hm1]
      have HM1 : Hid (L.length = m1) := hm1
      clear hm1
      go_simp
      refine hKK.out _ _ hs4 (fun _ => ?_)
      clear hKK KK
      refine wpAnyH_take (i := 20) (v := .tuple #[.slice p1 m1 c1, .int .i64 0]) rfl (by kernel_rfl) (by kernel_rfl) (by kernel_rfl) (fun _ _ _ h => h) (Or.inl ⟨by rfl, ?_⟩) hs4 ?_
      · rintro w s1; go_simp
      refine wpAnyH_take (i := 21) (v := .slice p1 m1 c1) rfl (by kernel_rfl) (by kernel_rfl) (by kernel_rfl) (fun _ _ _ h => h) (Or.inl ⟨by rfl, ?_⟩) hs4 ?_
      · rintro w s1; go_simp
      refine wpAnyH_take (i := 22) (v := .int .i64 0) rfl (by kernel_rfl) (by kernel_rfl) (by kernel_rfl) (fun _ _ _ h => h) (Or.inl ⟨by rfl, ?_⟩) hs4 ?_
      · rintro w s1; go_simp
      refine wpAnyH_take (i := 23) (v := .slice p1 m1 c1) rfl (by kernel_rfl) (by kernel_rfl) (by kernel_rfl) (fun _ _ _ h => h) (Or.inl ⟨by rfl, ?_⟩) hs4 ?_
      · rintro w s1; go_simp
      refine wpAnyH_ready (rs := [24]) (by kernel_rfl) (by simp) ?_
      refine AllReadyH.cons rfl (fun KK hKK => ?_) AllReadyH.nil
      go_simp
      refine hKK.out _ _ hs4 (fun _ => ?_)
      clear hKK KK
      refine wpAnyH_done (by kernel_rfl) ?_ _
      clear hs3 hs4 hs0
      have cs := HCL.out y4 BY4
      go_wp2_with fail
      refine (HHD.out _ (bel0Z HWA.out BY4)).mono ?_
      rintro e y5 ⟨G, rfl, hG, hb5⟩
      have BY5 : BLZ (w.alloc (.cells #[.int .i64 kd, .int .i64 sa, .int .i64 sb, .int .i64 sc, .string ⟨ss.toArray⟩] 45 (0, 0))) y5 := bel0Z BY4 hb5
      have HGQ : Hid (GQ G) := hG
      clear hG cs
      go_wp2_with fail
      refine (HUN.out G _ (bel0Z HWA.out BY5) HGQ.out).mono ?_
      rintro e y6 ⟨p2, c2, V, rfl, hV, o2, hb6⟩
      have HE : Hid (∃ p1' c1' p2' c2' L V, Ending.returned (.tuple #[.slice p1 m1 c1, .slice p2 nf c2, .bool true]) = .returned (.tuple #[.slice p1' (L : List (List UInt8)).length c1', .slice p2' (V : List Int).length c2', .bool true]) ∧ HO y6 w.heap.size ⟨p1', c1', p2', c2', L, V⟩ ∧ Below w.heap.size w y6) := by
        have h1 := HO1.out
        refine ⟨p1, c1, p2, c2, L, V, by rw [HM1.out, hV], ⟨(h1.1.below hb5).below hb6, ?_, h1.2, by rw [show (HZ.mk p1 c1 p2 c2 L V).V = V from rfl, hV]; omega⟩, bel0Z HWA.out (bel0Z BY5 hb6)⟩
        show OWZ 3 y6 w.heap.size (.slice p2 V.length c2) (inZ V)
        rw [hV]
        exact o2.base (bel0Z HWA.out BY5).size
      clear hV o2 hb6 hb5
      go_wp2_with fail
      refine (numZ_any 0 _).mono ?_
      rintro e y7 ⟨rfl, rfl⟩
      go_wp2_with fail
      refine (numZ_any 0 _).mono ?_
      rintro e y8 ⟨rfl, rfl⟩
      go_wp2_with fail
      refine bodyPost_ret (results_tmp3 rfl _ _ _) rfl ?_
      exact HE.out
    · have hkd1 : (bits .and .i64 kd 1 == 1) = false := by simpa using hkd
      have BY4 : BLZ (w.alloc (.cells #[.int .i64 kd, .int .i64 sa, .int .i64 sb, .int .i64 sc, .string ⟨ss.toArray⟩] 45 (0, 0))) y1 := BY1
      have HO1 : Hid (OWZ 9 y1 w.heap.size (.slice p1 L.length c1) (stZ L) ∧ L.length ≤ 8589934592) := ⟨o1.base (bel0Z HWA.out BZ6).size, hL⟩
      obtain ⟨m1, hm1⟩ : ∃ m, L.length = m := ⟨_, rfl⟩
      rw [hm1]
      have HM1 : Hid (L.length = m1) := hm1
      clear hm1 o1 hL hb4 HCO
      have cs := HCL.out y1 BY4
      go_wp2_with fail
      refine (HHD.out _ (bel0Z HWA.out BY4)).mono ?_
      rintro e y5 ⟨G, rfl, hG, hb5⟩
      have BY5 : BLZ (w.alloc (.cells #[.int .i64 kd, .int .i64 sa, .int .i64 sb, .int .i64 sc, .string ⟨ss.toArray⟩] 45 (0, 0))) y5 := bel0Z BY4 hb5
      have HGQ : Hid (GQ G) := hG
      clear hG cs
      go_wp2_with fail
      refine (HUN.out G _ (bel0Z HWA.out BY5) HGQ.out).mono ?_
      rintro e y6 ⟨p2, c2, V, rfl, hV, o2, hb6⟩
      have HE : Hid (∃ p1' c1' p2' c2' L V, Ending.returned (.tuple #[.slice p1 m1 c1, .slice p2 nf c2, .bool true]) = .returned (.tuple #[.slice p1' (L : List (List UInt8)).length c1', .slice p2' (V : List Int).length c2', .bool true]) ∧ HO y6 w.heap.size ⟨p1', c1', p2', c2', L, V⟩ ∧ Below w.heap.size w y6) := by
        have h1 := HO1.out
        refine ⟨p1, c1, p2, c2, L, V, by rw [HM1.out, hV], ⟨(h1.1.below hb5).below hb6, ?_, h1.2, by rw [show (HZ.mk p1 c1 p2 c2 L V).V = V from rfl, hV]; omega⟩, bel0Z HWA.out (bel0Z BY5 hb6)⟩
        show OWZ 3 y6 w.heap.size (.slice p2 V.length c2) (inZ V)
        rw [hV]
        exact o2.base (bel0Z HWA.out BY5).size
      clear hV o2 hb6 hb5
      go_wp2_with fail
      refine (numZ_any 0 _).mono ?_
      rintro e y7 ⟨rfl, rfl⟩
      go_wp2_with fail
      refine (numZ_any 0 _).mono ?_
      rintro e y8 ⟨rfl, rfl⟩
      go_wp2_with fail
      refine bodyPost_ret (results_tmp3 rfl _ _ _) rfl ?_
      exact HE.out
  · have g' : ¬ (l : Int) > (h : Int) := g
    have HCO : Hid (∀ W : World, Below w.heap.size w W → Calls Tryz.prog 33 #[.int .i64 (b : Int), .int .i64 (l : Int), .int .i64 (h : Int)] W fun e w' => ∃ p1 c1 L, e = .returned (.tuple #[.slice p1 (L : List (List UInt8)).length c1, .int .i64 0]) ∧ OWZ 9 w' W.heap.size (.slice p1 L.length c1) (stZ L) ∧ L.length ≤ 8589934592 ∧ Below W.heap.size W w') := fun W hW => HCV.out b l h W hW (by omega) (by omega) (by omega) (by rw [HPP.out]; omega)
    go_wp2_with fail
    refine (HCO.out _ (bel0Z HWA.out BZ6)).mono ?_
    rintro e y1 ⟨p1, c1, L, rfl, o1, hL, hb4⟩
    have BY1 : BLZ (w.alloc (.cells #[.int .i64 kd, .int .i64 sa, .int .i64 sb, .int .i64 sc, .string ⟨ss.toArray⟩] 45 (0, 0))) y1 := bel0Z BZ6 hb4
    have cs := HCL.out y1 BY1
    by_cases hkd : bits .and .i64 kd 1 = 1
    · have hkd1 : (bits .and .i64 kd 1 == 1) = true := by simpa using hkd
      clear o1 hL hb4 HCO
      obtain ⟨m0, hm0⟩ : ∃ m, L.length = m := ⟨_, rfl⟩
      rw [hm0]
      clear hm0 L
      have BEL : BLZ (w.alloc (.cells #[.int .i64 kd, .int .i64 sa, .int .i64 sb, .int .i64 sc, .string ⟨ss.toArray⟩] 45 (0, 0))) y1 := BY1
      have hs0 : ∀ j, y1.drew.cell? ⟨bb, j, none⟩ = (#[.int .i64 kd, .int .i64 sa, .int .i64 sb, .int .i64 sc, .string ⟨ss.toArray⟩] : Array Value)[j]? := cs
      have HBZ : Hid (Below w.heap.size w y1.drew) := (bel0Z HWA.out BY1).drew
      go_wp2_with fail
      refine wp_region_held_drew (S := fun U => ∀ j, U.cell? ⟨bb, j, none⟩ = (#[.int .i64 kd, .int .i64 sa, .int .i64 sb, .int .i64 sc, .string ⟨ss.toArray⟩] : Array Value)[j]?) (by kernel_rfl) hs0 (fun _ => ?_)
      refine wpAnyH_take (i := 0) (v := .slice p nf c) rfl (by kernel_rfl) (by kernel_rfl) (by kernel_rfl) (fun _ _ _ h => h) (Or.inl ⟨by rfl, ?_⟩) hs0 ?_
      · rintro w s1; go_simp
      refine wpAnyH_take (i := 1) (v := .slice p nf c) rfl (by kernel_rfl) (by kernel_rfl) (by kernel_rfl) (fun _ _ _ h => h) (Or.inl ⟨by rfl, ?_⟩) hs0 ?_
      · rintro w s1; go_simp
      refine wpAnyH_take (i := 2) (v := .pointer (some ⟨bb, 3, none⟩)) rfl (by kernel_rfl) (by kernel_rfl) (by kernel_rfl) (fun _ _ _ h => h) (Or.inl ⟨by rfl, ?_⟩) hs0 ?_
      · rintro w s1; go_simp
      refine wpAnyH_take (i := 3) (v := .int .i64 sc) rfl (by kernel_rfl) (by kernel_rfl) (by kernel_rfl) (fun _ _ _ h => h) (Or.inl ⟨by rfl, ?_⟩) hs0 ?_
      · rintro w s1; go_simp
      refine wpAnyH_take (i := 4) (v := .slice p nf c) rfl (by kernel_rfl) (by kernel_rfl) (by kernel_rfl) (fun _ _ _ h => h) (Or.inl ⟨by rfl, ?_⟩) hs0 ?_
      · rintro w s1; go_simp
      refine wpAnyH_take (i := 5) (v := .int .i64 (nf : Int)) rfl (by kernel_rfl) (by kernel_rfl) (by kernel_rfl) (fun _ _ _ h => h) (Or.inl ⟨by rfl, ?_⟩) hs0 ?_
      · rintro w s1; go_simp
      refine wpAnyH_take (i := 7) (v := .pointer (some ⟨bb, 0, none⟩)) rfl (by kernel_rfl) (by kernel_rfl) (by kernel_rfl) (fun _ _ _ h => h) (Or.inl ⟨by rfl, ?_⟩) hs0 ?_
      · rintro w s1; go_simp
      refine wpAnyH_take (i := 8) (v := .int .i64 kd) rfl (by kernel_rfl) (by kernel_rfl) (by kernel_rfl) (fun _ _ _ h => h) (Or.inl ⟨by rfl, ?_⟩) hs0 ?_
      · rintro w s1; go_simp
      refine wpAnyH_take (i := 9) (v := .int .i64 (kd / 2)) rfl (by kernel_rfl) (by kernel_rfl) (by kernel_rfl) (fun _ _ _ h => h) (Or.inl ⟨by rfl, ?_⟩) hs0 ?_
      · rintro w s1; go_simp
      refine wpAnyH_take (i := 10) (v := .pointer (some ⟨bb, 1, none⟩)) rfl (by kernel_rfl) (by kernel_rfl) (by kernel_rfl) (fun _ _ _ h => h) (Or.inl ⟨by rfl, ?_⟩) hs0 ?_
      · rintro w s1; go_simp
      refine wpAnyH_take (i := 11) (v := .int .i64 sa) rfl (by kernel_rfl) (by kernel_rfl) (by kernel_rfl) (fun _ _ _ h => h) (Or.inl ⟨by rfl, ?_⟩) hs0 ?_
      · rintro w s1; go_simp
      refine wpAnyH_take (i := 12) (v := .pointer (some ⟨bb, 2, none⟩)) rfl (by kernel_rfl) (by kernel_rfl) (by kernel_rfl) (fun _ _ _ h => h) (Or.inl ⟨by rfl, ?_⟩) hs0 ?_
      · rintro w s1; go_simp
      refine wpAnyH_take (i := 13) (v := .int .i64 sb) rfl (by kernel_rfl) (by kernel_rfl) (by kernel_rfl) (fun _ _ _ h => h) (Or.inl ⟨by rfl, ?_⟩) hs0 ?_
      · rintro w s1; go_simp
      refine wpAnyH_take (i := 14) (v := .pointer (some ⟨bb, 3, none⟩)) rfl (by kernel_rfl) (by kernel_rfl) (by kernel_rfl) (fun _ _ _ h => h) (Or.inl ⟨by rfl, ?_⟩) hs0 ?_
      · rintro w s1; go_simp
      refine wpAnyH_take (i := 15) (v := .int .i64 sc) rfl (by kernel_rfl) (by kernel_rfl) (by kernel_rfl) (fun _ _ _ h => h) (Or.inl ⟨by rfl, ?_⟩) hs0 ?_
      · rintro w s1; go_simp
      refine wpAnyH_take (i := 16) (v := .pointer (some ⟨bb, 4, none⟩)) rfl (by kernel_rfl) (by kernel_rfl) (by kernel_rfl) (fun _ _ _ h => h) (Or.inl ⟨by rfl, ?_⟩) hs0 ?_
      · rintro w s1; go_simp
      refine wpAnyH_take (i := 17) (v := .string ⟨ss.toArray⟩) rfl (by kernel_rfl) (by kernel_rfl) (by kernel_rfl) (fun _ _ _ h => h) (Or.inl ⟨by rfl, ?_⟩) hs0 ?_
      · rintro w s1; go_simp
      refine wpAnyH_ready (rs := [6]) (by kernel_rfl) (by simp) ?_
      refine AllReadyH.cons rfl (fun KK hKK => ?_) AllReadyH.nil
      go_simp
      refine (HN4.out _).mono ?_
      rintro e Wk ⟨rfl, rfl⟩
      go_simp
      refine hKK.out _ _ hs0 (fun _ => ?_)
      clear hKK KK
      refine wpAnyH_ready (rs := [18]) (by kernel_rfl) (by simp) ?_
      refine AllReadyH.cons rfl (fun KK hKK => ?_) AllReadyH.nil
      go_simp
      refine (HTS.out k (kd / 2) sa sb sc _ HBZ.out hkn).mono ?_
      rintro e y3 ⟨tv, rfl, htv, hb3⟩
      have BY3 : BLZ (w.alloc (.cells #[.int .i64 kd, .int .i64 sa, .int .i64 sb, .int .i64 sc, .string ⟨ss.toArray⟩] 45 (0, 0))) y3 := bel0Z (Below.drew BEL) hb3
      have hs3 := HCL.out y3 BY3
      have HTV : Hid (TQ tv) := htv
      clear htv
      go_simp
      refine hKK.out _ _ hs3 (fun _ => ?_)
      clear hKK KK
      refine wpAnyH_ready (rs := [19]) (by kernel_rfl) (by simp) ?_
      refine AllReadyH.cons rfl (fun KK hKK => ?_) AllReadyH.nil
      go_simp
      refine (HCU.out tv y3 (bel0Z HWA.out BY3) HTV.out).mono ?_
      rintro e y4 ⟨p1, c1, L, rfl, o1, hL, hb4⟩
      have BY4 : BLZ (w.alloc (.cells #[.int .i64 kd, .int .i64 sa, .int .i64 sb, .int .i64 sc, .string ⟨ss.toArray⟩] 45 (0, 0))) y4 := bel0Z BY3 hb4
      have hs4 := HCL.out y4 BY4
      have hb4' : w.heap.size ≤ y3.heap.size := (bel0Z HWA.out BY3).size
      have HO1 : Hid (OWZ 9 y4 w.heap.size (.slice p1 L.length c1) (stZ L) ∧ L.length ≤ 8589934592) := ⟨o1.base hb4', hL⟩
      clear o1 hL hb4 hb4' hb3
      obtain ⟨m1, hm1⟩ : ∃ m, L.length = m := ⟨_, rfl⟩
      rw [hm1]
      have HM1 : Hid (L.length = m1) := hm1
      clear hm1
      go_simp
      refine hKK.out _ _ hs4 (fun _ => ?_)
      clear hKK KK
      refine wpAnyH_take (i := 20) (v := .tuple #[.slice p1 m1 c1, .int .i64 0]) rfl (by kernel_rfl) (by kernel_rfl) (by kernel_rfl) (fun _ _ _ h => h) (Or.inl ⟨by rfl, ?_⟩) hs4 ?_
      · rintro w s1; go_simp
      refine wpAnyH_take (i := 21) (v := .slice p1 m1 c1) rfl (by kernel_rfl) (by kernel_rfl) (by kernel_rfl) (fun _ _ _ h => h) (Or.inl ⟨by rfl, ?_⟩) hs4 ?_
      · rintro w s1; go_simp
      refine wpAnyH_take (i := 22) (v := .int .i64 0) rfl (by kernel_rfl) (by kernel_rfl) (by kernel_rfl) (fun _ _ _ h => h) (Or.inl ⟨by rfl, ?_⟩) hs4 ?_
      · rintro w s1; go_simp
      refine wpAnyH_take (i := 23) (v := .slice p1 m1 c1) rfl (by kernel_rfl) (by kernel_rfl) (by kernel_rfl) (fun _ _ _ h => h) (Or.inl ⟨by rfl, ?_⟩) hs4 ?_
      · rintro w s1; go_simp
      refine wpAnyH_ready (rs := [24]) (by kernel_rfl) (by simp) ?_
      refine AllReadyH.cons rfl (fun KK hKK => ?_) AllReadyH.nil
      go_simp
      refine hKK.out _ _ hs4 (fun _ => ?_)
      clear hKK KK
      refine wpAnyH_done (by kernel_rfl) ?_ _
      clear hs3 hs4 hs0
      have cs := HCL.out y4 BY4
      go_wp2_with fail
      refine (HHD.out _ (bel0Z HWA.out BY4)).mono ?_
      rintro e y5 ⟨G, rfl, hG, hb5⟩
      have BY5 : BLZ (w.alloc (.cells #[.int .i64 kd, .int .i64 sa, .int .i64 sb, .int .i64 sc, .string ⟨ss.toArray⟩] 45 (0, 0))) y5 := bel0Z BY4 hb5
      have HGQ : Hid (GQ G) := hG
      clear hG cs
      go_wp2_with fail
      refine (HUN.out G _ (bel0Z HWA.out BY5) HGQ.out).mono ?_
      rintro e y6 ⟨p2, c2, V, rfl, hV, o2, hb6⟩
      have HE : Hid (∃ p1' c1' p2' c2' L V, Ending.returned (.tuple #[.slice p1 m1 c1, .slice p2 nf c2, .bool true]) = .returned (.tuple #[.slice p1' (L : List (List UInt8)).length c1', .slice p2' (V : List Int).length c2', .bool true]) ∧ HO y6 w.heap.size ⟨p1', c1', p2', c2', L, V⟩ ∧ Below w.heap.size w y6) := by
        have h1 := HO1.out
        refine ⟨p1, c1, p2, c2, L, V, by rw [HM1.out, hV], ⟨(h1.1.below hb5).below hb6, ?_, h1.2, by rw [show (HZ.mk p1 c1 p2 c2 L V).V = V from rfl, hV]; omega⟩, bel0Z HWA.out (bel0Z BY5 hb6)⟩
        show OWZ 3 y6 w.heap.size (.slice p2 V.length c2) (inZ V)
        rw [hV]
        exact o2.base (bel0Z HWA.out BY5).size
      clear hV o2 hb6 hb5
      go_wp2_with fail
      refine (numZ_any 0 _).mono ?_
      rintro e y7 ⟨rfl, rfl⟩
      go_wp2_with fail
      refine (numZ_any 0 _).mono ?_
      rintro e y8 ⟨rfl, rfl⟩
      go_wp2_with fail
      refine bodyPost_ret (results_tmp3 rfl _ _ _) rfl ?_
      exact HE.out
    · have hkd1 : (bits .and .i64 kd 1 == 1) = false := by simpa using hkd
      have BY4 : BLZ (w.alloc (.cells #[.int .i64 kd, .int .i64 sa, .int .i64 sb, .int .i64 sc, .string ⟨ss.toArray⟩] 45 (0, 0))) y1 := BY1
      have HO1 : Hid (OWZ 9 y1 w.heap.size (.slice p1 L.length c1) (stZ L) ∧ L.length ≤ 8589934592) := ⟨o1.base (bel0Z HWA.out BZ6).size, hL⟩
      obtain ⟨m1, hm1⟩ : ∃ m, L.length = m := ⟨_, rfl⟩
      rw [hm1]
      have HM1 : Hid (L.length = m1) := hm1
      clear hm1 o1 hL hb4 HCO
      have cs := HCL.out y1 BY4
      go_wp2_with fail
      refine (HHD.out _ (bel0Z HWA.out BY4)).mono ?_
      rintro e y5 ⟨G, rfl, hG, hb5⟩
      have BY5 : BLZ (w.alloc (.cells #[.int .i64 kd, .int .i64 sa, .int .i64 sb, .int .i64 sc, .string ⟨ss.toArray⟩] 45 (0, 0))) y5 := bel0Z BY4 hb5
      have HGQ : Hid (GQ G) := hG
      clear hG cs
      go_wp2_with fail
      refine (HUN.out G _ (bel0Z HWA.out BY5) HGQ.out).mono ?_
      rintro e y6 ⟨p2, c2, V, rfl, hV, o2, hb6⟩
      have HE : Hid (∃ p1' c1' p2' c2' L V, Ending.returned (.tuple #[.slice p1 m1 c1, .slice p2 nf c2, .bool true]) = .returned (.tuple #[.slice p1' (L : List (List UInt8)).length c1', .slice p2' (V : List Int).length c2', .bool true]) ∧ HO y6 w.heap.size ⟨p1', c1', p2', c2', L, V⟩ ∧ Below w.heap.size w y6) := by
        have h1 := HO1.out
        refine ⟨p1, c1, p2, c2, L, V, by rw [HM1.out, hV], ⟨(h1.1.below hb5).below hb6, ?_, h1.2, by rw [show (HZ.mk p1 c1 p2 c2 L V).V = V from rfl, hV]; omega⟩, bel0Z HWA.out (bel0Z BY5 hb6)⟩
        show OWZ 3 y6 w.heap.size (.slice p2 V.length c2) (inZ V)
        rw [hV]
        exact o2.base (bel0Z HWA.out BY5).size
      clear hV o2 hb6 hb5
      go_wp2_with fail
      refine (numZ_any 0 _).mono ?_
      rintro e y7 ⟨rfl, rfl⟩
      go_wp2_with fail
      refine (numZ_any 0 _).mono ?_
      rintro e y8 ⟨rfl, rfl⟩
      go_wp2_with fail
      refine bodyPost_ret (results_tmp3 rfl _ _ _) rfl ?_
      exact HE.out
/-- a mark, in twelve bits -/
def btZ (j : Nat) : List UInt8 := (List.range 12).map fun k => if j / 2 ^ (11 - k) % 2 = 1 then 49 else 48
end Go.Proofs.YtnboehlbcjfndaaGreatDoor
namespace Go.Proofs.YtnboehlbcjfndaaGreatDoor
open Go.RowKit
theorem bel_drewZ {B : Nat} {w W : World} (n : Nat) (h : Below B w W) : Below B w (W.drewN n) := ⟨h.os, h.tape, h.output, h.size, h.block⟩
theorem stZ_get {L : List (List UInt8)} {i : Nat} {x : List UInt8} (h : L[i]? = some x) : (stZ L)[i]? = some (.string ⟨x.toArray⟩) := stZ_at h
theorem inZ_get {V : List Int} {i : Nat} {v : Int} (h : V[i]? = some v) : (inZ V)[i]? = some (.int .i64 v) := by simp [inZ, h]
set_option maxRecDepth 100000 in
set_option maxHeartbeats 4000000 in
theorem sameZ_any (L : List (List UInt8)) (p1 p2 : Option Addr) (n c1 c2 B1 B2 : Nat) (w : World) (hn : L.length = n) (hN : n ≤ 8589934592) (h1 : OWZ 9 w B1 (.slice p1 n c1) (stZ L)) (h2 : OWZ 9 w B2 (.slice p2 n c2) (stZ L)) :
    Calls Tryz.prog 22 #[.slice p1 n c1, .slice p2 n c2] w fun e w' => e = .returned (.bool true) ∧ Below w.heap.size w w' := by
  have HH : Hid (OWZ 9 w B1 (.slice p1 n c1) (stZ L) ∧ OWZ 9 w B2 (.slice p2 n c2) (stZ L) ∧ L.length = n) := ⟨h1, h2, hn⟩
  clear h1 h2 hn
  go_enter Tryz.func22, Tryz.ntmps22
  go_wp2_with fail
  go_loopw [5] (fun vi wr => ∃ i : Nat, vi = .int .i64 (i : Int) ∧ i ≤ n ∧ Hid (Below w.heap.size w wr)) (fun vi _ => n - (intOf vi).toNat)
  case atStart => exact ⟨0, rfl, Nat.zero_le _, Below.refl _ _⟩
  case round =>
    obtain ⟨i, rfl, hi, HW⟩ := hrel
    by_cases hlt : i < n
    · have q1 : (i : Int) < (n : Int) := by omega
      have q0 : (0 : Int) ≤ (i : Int) := by omega
      obtain ⟨x, hx⟩ : ∃ x, L[i]? = some x := ⟨_, List.getElem?_eq_getElem (by rw [HH.out.2.2]; exact hlt)⟩
      obtain ⟨ga, rfl, ca, -⟩ := (HH.out.1.below HW.out).cell (stZ_get hx)
      obtain ⟨gb, rfl, cb, -⟩ := (HH.out.2.1.below HW.out).cell (stZ_get hx)
      clear hx HH
      go_wp2_with fail
      go_quiet (fail)
      go_wp2_with fail
      go_roundw
      case rel => exact ⟨i + 1, by go_num, by omega, bel_drewZ _ HW.out⟩
      case measure => simp [intOf]; omega
    · have q1 : ¬ (i : Int) < (n : Int) := by omega
      clear HH
      go_wp2_with fail
      go_ret
      exact ⟨rfl, HW.out⟩
def btR (j r : Nat) : List UInt8 := (List.range r).map (bitB 12 j)
theorem btR_succ (j r : Nat) : btR j (r + 1) = btR j r ++ [bitB 12 j r] := by
  unfold btR
  rw [List.range_succ, List.map_append]
  rfl
theorem btR_len (j r : Nat) : (btR j r).length = r := by simp [btR]
set_option maxRecDepth 100000 in
set_option maxHeartbeats 4000000 in
theorem bitsOf_any (j : Nat) (w : World) (hj : j ≤ 100000) : Calls Tryz.prog 37 #[.int .i64 (j : Int), .int .i64 12] w fun e w' => e = .returned (.string ⟨(btR j 12).toArray⟩) ∧ Below w.heap.size w w' := by
  obtain ⟨i0, hi, hz0, hz1, hz2⟩ := info_parts info_u8
  go_enter Tryz.func37, Tryz.ntmps37
  go_wp2_with fail
  go_loopw [5, 6] (fun v5 v6 wr => ∃ (r : Nat) (z : Int) (pv : Option Addr) (cv : Nat), v6 = .int .i64 z ∧ v5 = .slice pv r cv ∧ r ≤ 12 ∧ z = 11 - (r : Int) ∧ Hid (wr.ownsRow w.heap.size 5 1 (.slice pv r cv) r (Lib.byteCells (btR j r)) ∧ Below w.heap.size w wr)) (fun _ v6 _ => (intOf v6 + 1).toNat)
  case atStart => exact ⟨0, 11, none, 0, rfl, rfl, by omega, by omega, World.ownsRow_nil _ _ _ _, Below.refl _ _⟩
  case round =>
    obtain ⟨r, z, pv, cv, rfl, rfl, hr, hz, HR⟩ := hrel
    by_cases hlt : r < 12
    · obtain ⟨q, hq⟩ : ∃ q : Nat, 12 - 1 - r = q := ⟨_, rfl⟩
      obtain rfl : z = (q : Int) := by omega
      have HZ : Hid ((q : Int) = 11 - (r : Int)) := hz
      have q0 : (0 : Int) ≤ (q : Int) := by omega
      have q1 : (q : Int) < 64 := by omega
      have hbv := bit_val 12 j r (by omega)
      rw [hq] at hbv
      obtain ⟨D, hD⟩ : ∃ D : UInt8, bitB 12 j r = D := ⟨_, rfl⟩
      rw [hD] at hbv
      have hd1 : (j : Int) / 2 ^ q = ((j / 2 ^ q : Nat) : Int) := div_cast j q
      have hd2 : j / 2 ^ q ≤ j := Nat.div_le_self _ _
      obtain ⟨X, hX⟩ : ∃ X, j / 2 ^ q = X := ⟨_, rfl⟩
      rw [hX] at hd1 hd2
      rw [hd1, and1 X (by omega)] at hbv
      have ha := and1 X (show X < 8589934592 by omega)
      have hD2 : (48 + X % 2 : Nat) = D.toNat := by omega
      have hx2 : X % 2 < 2 := Nat.mod_lt _ (by decide)
      obtain ⟨Y, hY⟩ : ∃ Y, X % 2 = Y := ⟨_, rfl⟩
      rw [hY] at ha hD2 hx2
      have e48 : (48 : Int) + (Y : Int) = (D.toNat : Int) := by omega
      have hBC : Hid (Lib.byteCells (btR j (r + 1)) = Lib.byteCells (btR j r) ++ [.int .u8 (D.toNat : Int)] ∧ D.toNat < 256) := ⟨by rw [btR_succ, hD, byteCells_append]; rfl, D.toNat_lt⟩
      have eu : (D.toNat : Int) % 256 = (D.toNat : Int) := by have := D.toNat_lt; omega
      have hO : (wr.alloc (.cells #[.int .u8 (D.toNat : Int)] 5 (0, 0))).ownsRow w.heap.size 5 1 (.slice pv r cv) r (Lib.byteCells (btR j r)) := own_belZ HR.out.1 (belAZ (Below.refl _ _) _)
      have hbs : w.heap.size ≤ (wr.alloc (.cells #[.int .u8 (D.toNat : Int)] 5 (0, 0))).heap.size := (belAZ HR.out.2 _).size
      have HB : Hid (Below w.heap.size w wr) := HR.out.2
      obtain ⟨d, hd⟩ : ∃ d : Int, (D.toNat : Int) = d := ⟨_, rfl⟩
      rw [hd] at e48 eu hO hbs
      have HD : Hid ((D.toNat : Int) = d) := hd
      have hd0 : 0 ≤ d := by omega
      have hd9 : d < 256 := by have := D.toNat_lt; omega
      clear hbv hD hX hD2 hY hd2 hd HR hq hx2 hz
      go_wp2_with (at_builtin; refine wpList_append_own _ rfl _ _ 60 rfl w.heap.size 5 i0 _ 1 1 Tryz.underlying60 hi hz0 hz1 hz2 rfl (by decide) _ _ _ rfl hO ⟨_, 0, none⟩ 1 1 [.int .u8 d] rfl rfl (World.news_of_block (cs := #[.int .u8 d]) (t := 5) (fr := (0, 0)) (alloc_getZ _ _)) (by simp [Value.oneCell']) (by unfold maxLen; omega) (by omega) hbs ?_; intro v5 w5 oB hg5 _)
      obtain ⟨p5, c5, rfl⟩ := shapeZ oB
      have HX : Hid (w5.ownsRow w.heap.size 5 1 (.slice p5 (r + 1) c5) (r + 1) (Lib.byteCells (btR j (r + 1))) ∧ Below w.heap.size w w5) := ⟨by rw [hBC.out.1, HD.out]; exact oB, bel_grZ (belAZ HB.out _) hg5 (fun k e => (hO.lt k e).1)⟩
      clear oB hg5 hO hbs
      go_roundw
      case rel => exact ⟨r + 1, (q : Int) - 1, p5, c5, by go_num, rfl, by omega, by have := HZ.out; omega, HX⟩
      case measure => simp [intOf]
    · obtain rfl : r = 12 := by omega
      obtain rfl : z = -1 := by omega
      have hcv := conv_own (btR j 12) (by rw [btR_len]; exact HR.out.1)
      obtain ⟨Y, hY⟩ : ∃ Y, btR j 12 = Y := ⟨_, rfl⟩
      rw [hY] at hcv
      have HY : Hid (btR j 12 = Y) := hY
      have HB : Hid (Below w.heap.size w wr) := HR.out.2
      clear HR hY hz
      go_wp2_with fail
      go_ret
      exact ⟨by rw [HY.out]; rfl, HB.out⟩
theorem and01 (z : Int) : bits .and .i64 z 1 = 0 ∨ bits .and .i64 z 1 = 1 := by
  have a2 : (BitVec.ofInt 64 (1 : Int)).toNat = 1 := by decide
  obtain ⟨m, hm⟩ : ∃ m, (BitVec.ofInt 64 z).toNat = m := ⟨_, rfl⟩
  have a3 : m &&& 1 = m % 2 := Nat.and_two_pow_sub_one_eq_mod m 1
  have e : bits .and .i64 z 1 = IntKind.i64.wrap ((m % 2 : Nat) : Int) := by
    show IntKind.i64.wrap ((BitVec.ofInt 64 z &&& BitVec.ofInt 64 (1 : Int)).toNat : Int) = _
    rw [BitVec.toNat_and, hm, a2, a3]
  rw [e, IntKind.wrap_i64]
  omega
end Go.Proofs.YtnboehlbcjfndaaGreatDoor
