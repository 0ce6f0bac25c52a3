import Derived.Test.YtffgkjmfeannoaaGreatDoorXAD
import Derived.Deep.RegionWith
import Derived.Test.YtffgkjmfeannoaaGreatDoorXBA
import Derived.Test.YtffgkjmfeannoaaGreatDoorXAS
namespace Go.Proofs.YtffgkjmfeannoaaGreatDoor
open Go.RowKit
set_option maxRecDepth 100000 in
set_option maxHeartbeats 4000000 in
theorem refEscape_any (l : List UInt8) (i : Nat) (w : World) (hs : l.length ≤ 281474976710656) (hi : i < l.length) :
    Calls Tryz.prog 84 #[.string ⟨l.toArray⟩, .int .i64 (i : Int)] w fun e w' => e = .returned (.tuple #[.int .i64 ((escS l i).1 : Int), .string ⟨(escS l i).2.toArray⟩]) ∧ Below w.heap.size w w' := by
  by_cases h1 : l.length ≤ i + 1
  · have hr : Hid (escS l i = (0, [])) := if_pos h1
    have i1 : (l.length : Int) ≤ (i : Int) + 1 := by omega
    go_enter Tryz.func84, Tryz.ntmps84
    go_wp2_with fail
    go_ret2
    exact ⟨by rw [hr.out]; rfl, Below.refl _ _⟩
  · have i1 : ¬ (l.length : Int) ≤ (i : Int) + 1 := by omega
    have i2 : (i : Int) + 1 < (l.length : Int) := by omega
    obtain ⟨c, hc, hlc⟩ := byte_get l (i + 1) (by omega)
    have hb := bt_of hlc
    have hne : ∀ k : UInt8, c ≠ k → ((c.toNat : Int) == (k.toNat : Int)) = false := fun k h => u8_ne h
    have hnb : ∀ k : UInt8, c ≠ k → bt l (i + 1) ≠ k.toNat := fun k h e => h (UInt8.toNat_inj.1 (by rw [← hb]; exact e))
    by_cases g34 : c = 34
    · have hr : Hid (escS l i = (2, [34])) := by unfold Hid escS; rw [if_neg h1, if_pos (by rw [hb, g34]; rfl)]
      subst g34
      clear hne hnb hb
      go_enter Tryz.func84, Tryz.ntmps84
      go_wp2_with fail
      go_ret2
      exact ⟨by rw [hr.out]; rfl, Below.refl _ _⟩
    have n34 := g34
    have m34 : ((c.toNat : Int) == 34) = false := hne 34 n34
    clear g34
    by_cases g92 : c = 92
    · have hr : Hid (escS l i = (2, [92])) := by unfold Hid escS; rw [if_neg h1, if_neg (show ¬ bt l (i + 1) = 34 from hnb 34 n34), if_pos (by rw [hb, g92]; rfl)]
      subst g92
      clear hne hnb hb
      go_enter Tryz.func84, Tryz.ntmps84
      go_wp2_with fail
      go_ret2
      exact ⟨by rw [hr.out]; rfl, Below.refl _ _⟩
    have n92 := g92
    have m92 : ((c.toNat : Int) == 92) = false := hne 92 n92
    clear g92
    by_cases g110 : c = 110
    · have hr : Hid (escS l i = (2, [10])) := by unfold Hid escS; rw [if_neg h1, if_neg (show ¬ bt l (i + 1) = 34 from hnb 34 n34), if_neg (show ¬ bt l (i + 1) = 92 from hnb 92 n92), if_pos (by rw [hb, g110]; rfl)]
      subst g110
      clear hne hnb hb
      go_enter Tryz.func84, Tryz.ntmps84
      go_wp2_with fail
      go_ret2
      exact ⟨by rw [hr.out]; rfl, Below.refl _ _⟩
    have n110 := g110
    have m110 : ((c.toNat : Int) == 110) = false := hne 110 n110
    clear g110
    by_cases g114 : c = 114
    · have hr : Hid (escS l i = (2, [13])) := by unfold Hid escS; rw [if_neg h1, if_neg (show ¬ bt l (i + 1) = 34 from hnb 34 n34), if_neg (show ¬ bt l (i + 1) = 92 from hnb 92 n92), if_neg (show ¬ bt l (i + 1) = 110 from hnb 110 n110), if_pos (by rw [hb, g114]; rfl)]
      subst g114
      clear hne hnb hb
      go_enter Tryz.func84, Tryz.ntmps84
      go_wp2_with fail
      go_ret2
      exact ⟨by rw [hr.out]; rfl, Below.refl _ _⟩
    have n114 := g114
    have m114 : ((c.toNat : Int) == 114) = false := hne 114 n114
    clear g114
    by_cases g116 : c = 116
    · have hr : Hid (escS l i = (2, [9])) := by unfold Hid escS; rw [if_neg h1, if_neg (show ¬ bt l (i + 1) = 34 from hnb 34 n34), if_neg (show ¬ bt l (i + 1) = 92 from hnb 92 n92), if_neg (show ¬ bt l (i + 1) = 110 from hnb 110 n110), if_neg (show ¬ bt l (i + 1) = 114 from hnb 114 n114), if_pos (by rw [hb, g116]; rfl)]
      subst g116
      clear hne hnb hb
      go_enter Tryz.func84, Tryz.ntmps84
      go_wp2_with fail
      go_ret2
      exact ⟨by rw [hr.out]; rfl, Below.refl _ _⟩
    have n116 := g116
    have m116 : ((c.toNat : Int) == 116) = false := hne 116 n116
    clear g116
    by_cases g120 : c = 120
    · have hE : escS l i = (if i + 3 < l.length then match hexD (l.getD (i + 2) 0), hexD (l.getD (i + 3) 0) with
        | some a, some b => (4, [UInt8.ofNat (16 * a + b)])
        | _, _ => (0, []) else (0, [])) := by unfold escS; rw [if_neg h1, if_neg (show ¬ bt l (i + 1) = 34 from hnb 34 n34), if_neg (show ¬ bt l (i + 1) = 92 from hnb 92 n92), if_neg (show ¬ bt l (i + 1) = 110 from hnb 110 n110), if_neg (show ¬ bt l (i + 1) = 114 from hnb 114 n114), if_neg (show ¬ bt l (i + 1) = 116 from hnb 116 n116), if_pos (by rw [hb, g120]; rfl)]; rfl
      subst g120
      clear hne hnb hb m34 m92 m110 m114 m116 n34 n92 n110 n114 n116
      by_cases h3 : i + 3 < l.length
      · have i3 : (i : Int) + 3 < (l.length : Int) := by omega
        have i4 : (i : Int) + 2 < (l.length : Int) := by omega
        obtain ⟨p, hp, hlp⟩ := byte_get l (i + 2) (by omega)
        obtain ⟨q, hq, hlq⟩ := byte_get l (i + 3) h3
        rw [if_pos h3, getD_of hlp, getD_of hlq] at hE
        have HP := fun W => refHex_any p W
        have HQ := fun W => refHex_any q W
        cases dp : hexD p with
        | none =>
          rw [dp] at hE HP
          simp only [optI] at HP
          have hr : Hid (escS l i = (0, [])) := hE
          clear hE dp
          go_enter Tryz.func84, Tryz.ntmps84
          go_wp2_with fail
          refine (HP _).mono ?_
          rintro e w2 ⟨rfl, rfl⟩
          go_wp2_with fail
          go_ret2
          exact ⟨by rw [hr.out]; rfl, Below.refl _ _⟩
        | some a =>
          have ha := hexD_lt dp
          have ja : (0 : Int) ≤ (a : Int) := by omega
          cases dq : hexD q with
          | none =>
            rw [dp, dq] at hE
            rw [dp] at HP
            rw [dq] at HQ
            simp only [optI] at HP HQ
            have hr : Hid (escS l i = (0, [])) := hE
            clear hE dp dq
            go_enter Tryz.func84, Tryz.ntmps84
            go_wp2_with fail
            refine (HP _).mono ?_
            rintro e w2 ⟨rfl, rfl⟩
            go_wp2_with fail
            refine (HQ _).mono ?_
            rintro e w2 ⟨rfl, rfl⟩
            go_wp2_with fail
            go_ret2
            exact ⟨by rw [hr.out]; rfl, Below.refl _ _⟩
          | some b =>
            have hbb := hexD_lt dq
            have jb : (0 : Int) ≤ (b : Int) := by omega
            rw [dp, dq] at hE
            rw [dp] at HP
            rw [dq] at HQ
            simp only [optI] at HP HQ
            have hr : Hid (escS l i = (4, [UInt8.ofNat (16 * a + b)])) := hE
            have cvd : Sem.run Tryz.prog (convert 42 9 (.slice (some ⟨w.heap.size, 0, none⟩) 1 1)) (w.alloc (.cells #[.int .u8 (16 * (a : Int) + (b : Int))] 5)).drew = .ok (.string ⟨#[UInt8.ofNat (16 * a + b)]⟩) (w.alloc (.cells #[.int .u8 (16 * (a : Int) + (b : Int))] 5)).drew := conv_new w [UInt8.ofNat (16 * a + b)] 1 _ (fun j hj => by
              show (w.alloc (.cells #[.int .u8 (16 * (a : Int) + (b : Int))] 5)).cell? ⟨w.heap.size, j, none⟩ = _
              rw [cells_new]
              match j, hj with
              | 0, _ =>
                show some (Value.int .u8 (16 * (a : Int) + (b : Int))) = some (.int .u8 ((UInt8.ofNat (16 * a + b)).toNat : Int))
                exact congrArg (fun z => some (Value.int .u8 z)) (by have := ofN (16 * a + b) (by omega); omega)
              | j + 1, h => simp only [List.length_cons, List.length_nil] at h; omega)
            have hwr : IntKind.i64.wrap (16 * (a : Int)) = 16 * (a : Int) := by rw [IntKind.wrap_i64]; omega
            have hwr2 : IntKind.i64.wrap (16 * (a : Int) + (b : Int)) = 16 * (a : Int) + (b : Int) := by rw [IntKind.wrap_i64]; omega
            have hwr3 : IntKind.u8.wrap (16 * (a : Int) + (b : Int)) = 16 * (a : Int) + (b : Int) := by rw [IntKind.wrap_u8]; omega
            have HP2 : Hid (∀ W, Calls Tryz.prog 81 #[.int .u8 (p.toNat : Int)] W fun e w' => e = .returned (.int .i64 (a : Int)) ∧ W = w') := fun W => (HP W).mono (fun e w' h => ⟨h.1, h.2.symm⟩)
            have HQ2 : Hid (∀ W, Calls Tryz.prog 81 #[.int .u8 (q.toNat : Int)] W fun e w' => e = .returned (.int .i64 (b : Int)) ∧ W = w') := fun W => (HQ W).mono (fun e w' h => ⟨h.1, h.2.symm⟩)
            have hwi2 : IntKind.i64.wrap ((i : Int) + 2) = (i : Int) + 2 := by rw [IntKind.wrap_i64]; omega
            have hwi3 : IntKind.i64.wrap ((i : Int) + 3) = (i : Int) + 3 := by rw [IntKind.wrap_i64]; omega
            have ix2 := fun W => idx_str l (i + 2) p hlp ((i : Int) + 2) (by omega) W
            have ix3 := fun W => idx_str l (i + 3) q hlq ((i : Int) + 3) (by omega) W
            clear hE dp dq HP HQ
            go_enter Tryz.func84, Tryz.ntmps84
            go_wp2_with fail
            refine (HP2.out _).mono ?_
            rintro e w2 ⟨rfl, rfl⟩
            go_wp2_with fail
            refine (HQ2.out _).mono ?_
            rintro e w2 ⟨rfl, rfl⟩
            go_wp2_with fail
            obtain ⟨SV, hSV⟩ : ∃ SV, Value.string ⟨l.toArray⟩ = SV := ⟨_, rfl⟩
            rw [hSV] at ix2 ix3 ⊢
            obtain ⟨xp, hxp⟩ : ∃ x : Int, (p.toNat : Int) = x := ⟨_, rfl⟩
            obtain ⟨xq, hxq⟩ : ∃ x : Int, (q.toNat : Int) = x := ⟨_, rfl⟩
            rw [hxp] at HP2 ix2 ⊢
            rw [hxq] at HQ2 ix3 ⊢
            clear hSV hxp hxq hp hq hlp hlq hc hlc
            go_region_with (go_at_call 81; (first | with_reducible refine (HP2.out _).mono ?_ | with_reducible refine (HQ2.out _).mono ?_); rintro e w3 ⟨rfl, rfl⟩)
            all_goals
              go_wp2_with fail
              go_ret2
              exact ⟨by rw [hr.out]; first | rfl | (simp [Act.put]; done) | (simp only [Act.put]; rfl), by first | exact ((Below.refl _ _).alloc (Nat.le_refl _) _).drew | exact (Below.refl _ _).alloc (Nat.le_refl _) _⟩
      · have i3 : ¬ (i : Int) + 3 < (l.length : Int) := by omega
        rw [if_neg h3] at hE
        have hr : Hid (escS l i = (0, [])) := hE
        clear hE
        go_enter Tryz.func84, Tryz.ntmps84
        go_wp2_with fail
        go_ret2
        exact ⟨by rw [hr.out]; rfl, Below.refl _ _⟩
    have n120 := g120
    have m120 : ((c.toNat : Int) == 120) = false := hne 120 n120
    clear g120
    by_cases g117 : c = 117
    · have hE : escS l i = (if 0 < (brS l i).1 then ((brS l i).1, utfL (brS l i).2) else (0, [])) := by unfold escS; rw [if_neg h1, if_neg (show ¬ bt l (i + 1) = 34 from hnb 34 n34), if_neg (show ¬ bt l (i + 1) = 92 from hnb 92 n92), if_neg (show ¬ bt l (i + 1) = 110 from hnb 110 n110), if_neg (show ¬ bt l (i + 1) = 114 from hnb 114 n114), if_neg (show ¬ bt l (i + 1) = 116 from hnb 116 n116), if_neg (show ¬ bt l (i + 1) = 120 from hnb 120 n120), if_pos (by rw [hb, g117]; rfl)]
      subst g117
      have HB := refBraced_any l i w hs hi
      have hle := brS_le l i
      clear hne hnb hb m34 m92 m110 m114 m116 m120 n34 n92 n110 n114 n116 n120
      obtain ⟨K, hK⟩ : ∃ K, (brS l i).1 = K := ⟨_, rfl⟩
      obtain ⟨N, hN⟩ : ∃ N, (brS l i).2 = N := ⟨_, rfl⟩
      rw [hK, hN] at hE HB hle
      clear hK hN
      by_cases h0 : 0 < K
      · have k0 : (0 : Int) < (K : Int) := by omega
        rw [if_pos h0] at hE
        have HU := fun W => refUtf_any N W (hle h0)
        have hr : Hid (escS l i = (K, utfL N)) := hE
        clear hE hle
        go_enter Tryz.func84, Tryz.ntmps84
        go_wp2_with fail
        refine HB.mono ?_
        rintro e w2 ⟨rfl, hb2⟩
        go_wp2_with fail
        refine (HU _).mono ?_
        rintro e w3 ⟨rfl, hb3⟩
        go_wp2_with fail
        go_ret2
        exact ⟨by rw [hr.out]; rfl, bel0 hb2 hb3⟩
      · have k0 : ¬ (0 : Int) < (K : Int) := by omega
        rw [if_neg h0] at hE
        have hr : Hid (escS l i = (0, [])) := hE
        clear hE hle
        go_enter Tryz.func84, Tryz.ntmps84
        go_wp2_with fail
        refine HB.mono ?_
        rintro e w2 ⟨rfl, hb2⟩
        go_wp2_with fail
        go_ret2
        exact ⟨by rw [hr.out]; rfl, hb2⟩
    have m117 : ((c.toNat : Int) == 117) = false := hne 117 g117
    have hr : Hid (escS l i = (0, [])) := by unfold Hid escS; rw [if_neg h1, if_neg (show ¬ bt l (i + 1) = 34 from hnb 34 n34), if_neg (show ¬ bt l (i + 1) = 92 from hnb 92 n92), if_neg (show ¬ bt l (i + 1) = 110 from hnb 110 n110), if_neg (show ¬ bt l (i + 1) = 114 from hnb 114 n114), if_neg (show ¬ bt l (i + 1) = 116 from hnb 116 n116), if_neg (show ¬ bt l (i + 1) = 120 from hnb 120 n120), if_neg (show ¬ bt l (i + 1) = 117 from hnb 117 g117)]
    clear hne hnb hb
    go_enter Tryz.func84, Tryz.ntmps84
    go_wp2_with fail
    go_ret2
    exact ⟨by rw [hr.out]; rfl, Below.refl _ _⟩
end Go.Proofs.YtffgkjmfeannoaaGreatDoor
namespace Go.Proofs.YtffgkjmfeannoaaGreatDoor
open Go.RowKit Go.Shelf
theorem results_rt (tmps : Array Value) (W : World) (a b c : Value) (h : tmps.getD 4 undef = a ∧ tmps.getD 5 undef = b ∧ tmps.getD 6 undef = c) : (results Tryz.f48 tmps).run Tryz.prog W = .ok (.tuple #[a, b, c]) W := by
  obtain ⟨h1, h2, h3⟩ := h
  have h1' : tmps[4]?.getD undef = a := by simpa using h1
  have h2' : tmps[5]?.getD undef = b := by simpa using h2
  have h3' : tmps[6]?.getD undef = c := by simpa using h3
  simp [results, h1', h2', h3', go_sem]
set_option maxRecDepth 100000 in
set_option maxHeartbeats 1000000 in
theorem tk_A (l : List UInt8) (i : Nat) (c : UInt8) (w : World) (hi : (i : Int) < (l.length : Int)) (hs : l.length ≤ 281474976710656) (hc : ∀ h', (ByteArray.mk l.toArray)[i]'h' = c) (j : Nat) (_hij : i < j) (_hjl : j ≤ l.length) (HL : Hid (∀ W : World, Calls Tryz.prog 67 #[.int .u8 (c.toNat : Int)] W fun e w' => e = .returned (.bool true) ∧ w' = W)) (HR : Hid (∀ W : World, Calls Tryz.prog 68 #[.string ⟨l.toArray⟩, .int .i64 (i : Int)] W fun e w' => e = .returned (.int .i64 (j : Int)) ∧ w' = W)) (h24 : (24 : Int) < (j : Int) - (i : Int)) :
    Calls Tryz.prog 48 #[.string ⟨l.toArray⟩, .int .i64 (i : Int)] w fun e w' => e = .returned (.tuple #[.int .i64 0, .int .i64 (i : Int), .int .i64 36]) ∧ Below w.heap.size w w' := by
  go_enter Tryz.func48, Tryz.ntmps48
  go_wp2_with fail
  refine (HL.out _).mono ?_
  rintro e w ⟨rfl, rfl⟩
  go_wp2_with fail
  refine (HR.out _).mono ?_
  rintro e w ⟨rfl, rfl⟩
  go_wp2_with fail
  refine bodyPost_ret (results_rt _ _ _ _ _ ⟨rfl, rfl, rfl⟩) rfl ?_
  exact ⟨rfl, Below.refl _ _⟩
set_option maxRecDepth 100000 in
set_option maxHeartbeats 1000000 in
theorem tk_B1 (l : List UInt8) (i : Nat) (c : UInt8) (w : World) (hi : (i : Int) < (l.length : Int)) (hs : l.length ≤ 281474976710656) (hc : ∀ h', (ByteArray.mk l.toArray)[i]'h' = c) (j : Nat) (_hij : i < j) (_hjl : j ≤ l.length) (HL : Hid (∀ W : World, Calls Tryz.prog 67 #[.int .u8 (c.toNat : Int)] W fun e w' => e = .returned (.bool true) ∧ w' = W)) (HR : Hid (∀ W : World, Calls Tryz.prog 68 #[.string ⟨l.toArray⟩, .int .i64 (i : Int)] W fun e w' => e = .returned (.int .i64 (j : Int)) ∧ w' = W)) (h24 : ¬ (24 : Int) < (j : Int) - (i : Int)) (he : (l.length : Int) ≤ (j : Int) + 1) :
    Calls Tryz.prog 48 #[.string ⟨l.toArray⟩, .int .i64 (i : Int)] w fun e w' => e = .returned (.tuple #[.int .i64 2, .int .i64 (j : Int), .int .i64 0]) ∧ Below w.heap.size w w' := by
  go_enter Tryz.func48, Tryz.ntmps48
  go_wp2_with fail
  refine (HL.out _).mono ?_
  rintro e w ⟨rfl, rfl⟩
  go_wp2_with fail
  refine (HR.out _).mono ?_
  rintro e w ⟨rfl, rfl⟩
  go_wp2_with fail
  refine bodyPost_ret (results_rt _ _ _ _ _ ⟨rfl, rfl, rfl⟩) rfl ?_
  exact ⟨rfl, Below.refl _ _⟩
set_option maxRecDepth 100000 in
set_option maxHeartbeats 1000000 in
theorem tk_B2 (l : List UInt8) (i : Nat) (c : UInt8) (w : World) (hi : (i : Int) < (l.length : Int)) (hs : l.length ≤ 281474976710656) (hc : ∀ h', (ByteArray.mk l.toArray)[i]'h' = c) (j : Nat) (_hij : i < j) (_hjl : j ≤ l.length) (HL : Hid (∀ W : World, Calls Tryz.prog 67 #[.int .u8 (c.toNat : Int)] W fun e w' => e = .returned (.bool true) ∧ w' = W)) (HR : Hid (∀ W : World, Calls Tryz.prog 68 #[.string ⟨l.toArray⟩, .int .i64 (i : Int)] W fun e w' => e = .returned (.int .i64 (j : Int)) ∧ w' = W)) (h24 : ¬ (24 : Int) < (j : Int) - (i : Int)) (he : ¬ (l.length : Int) ≤ (j : Int) + 1) (d : UInt8) (hd : ∀ h', (ByteArray.mk l.toArray)[j]'h' = d) (h46 : ((d.toNat : Int) == 46) = false) :
    Calls Tryz.prog 48 #[.string ⟨l.toArray⟩, .int .i64 (i : Int)] w fun e w' => e = .returned (.tuple #[.int .i64 2, .int .i64 (j : Int), .int .i64 0]) ∧ Below w.heap.size w w' := by
  have j1 : (j : Int) < (l.length : Int) := by omega
  have m46 : ((d.toNat : Int) != 46) = true := by rw [bne, h46]; rfl
  go_enter Tryz.func48, Tryz.ntmps48
  go_wp2_with fail
  refine (HL.out _).mono ?_
  rintro e w ⟨rfl, rfl⟩
  go_wp2_with fail
  refine (HR.out _).mono ?_
  rintro e w ⟨rfl, rfl⟩
  go_wp2_with fail
  refine bodyPost_ret (results_rt _ _ _ _ _ ⟨rfl, rfl, rfl⟩) rfl ?_
  exact ⟨rfl, Below.refl _ _⟩
set_option maxRecDepth 100000 in
set_option maxHeartbeats 1000000 in
theorem tk_B3 (l : List UInt8) (i : Nat) (c : UInt8) (w : World) (hi : (i : Int) < (l.length : Int)) (hs : l.length ≤ 281474976710656) (hc : ∀ h', (ByteArray.mk l.toArray)[i]'h' = c) (j : Nat) (_hij : i < j) (_hjl : j ≤ l.length) (HL : Hid (∀ W : World, Calls Tryz.prog 67 #[.int .u8 (c.toNat : Int)] W fun e w' => e = .returned (.bool true) ∧ w' = W)) (HR : Hid (∀ W : World, Calls Tryz.prog 68 #[.string ⟨l.toArray⟩, .int .i64 (i : Int)] W fun e w' => e = .returned (.int .i64 (j : Int)) ∧ w' = W)) (h24 : ¬ (24 : Int) < (j : Int) - (i : Int)) (e2 : UInt8) (hd : ∀ h', (ByteArray.mk l.toArray)[j]'h' = 46) (hd2 : ∀ h', (ByteArray.mk l.toArray)[j + 1]'h' = e2) (he : ¬ (l.length : Int) ≤ (j : Int) + 1) (HL2 : Hid (∀ W : World, Calls Tryz.prog 67 #[.int .u8 (e2.toNat : Int)] W fun e w' => e = .returned (.bool false) ∧ w' = W)) :
    Calls Tryz.prog 48 #[.string ⟨l.toArray⟩, .int .i64 (i : Int)] w fun e w' => e = .returned (.tuple #[.int .i64 2, .int .i64 (j : Int), .int .i64 0]) ∧ Below w.heap.size w w' := by
  have j1 : (j : Int) < (l.length : Int) := by omega
  have j2 : (j : Int) + 1 < (l.length : Int) := by omega
  have j3 : (0 : Int) ≤ (j : Int) + 1 := by omega
  go_enter Tryz.func48, Tryz.ntmps48
  go_wp2_with fail
  refine (HL.out _).mono ?_
  rintro e w ⟨rfl, rfl⟩
  go_wp2_with fail
  refine (HR.out _).mono ?_
  rintro e w ⟨rfl, rfl⟩
  go_wp2_with fail
  refine (HL2.out _).mono ?_
  rintro e w ⟨rfl, rfl⟩
  go_wp2_with fail
  refine bodyPost_ret (results_rt _ _ _ _ _ ⟨rfl, rfl, rfl⟩) rfl ?_
  exact ⟨rfl, Below.refl _ _⟩
set_option maxRecDepth 100000 in
set_option maxHeartbeats 1000000 in
theorem tk_C1 (l : List UInt8) (i : Nat) (c : UInt8) (w : World) (hi : (i : Int) < (l.length : Int)) (hs : l.length ≤ 281474976710656) (hc : ∀ h', (ByteArray.mk l.toArray)[i]'h' = c) (j : Nat) (_hij : i < j) (_hjl : j ≤ l.length) (HL : Hid (∀ W : World, Calls Tryz.prog 67 #[.int .u8 (c.toNat : Int)] W fun e w' => e = .returned (.bool true) ∧ w' = W)) (HR : Hid (∀ W : World, Calls Tryz.prog 68 #[.string ⟨l.toArray⟩, .int .i64 (i : Int)] W fun e w' => e = .returned (.int .i64 (j : Int)) ∧ w' = W)) (h24 : ¬ (24 : Int) < (j : Int) - (i : Int)) (e2 : UInt8) (hd : ∀ h', (ByteArray.mk l.toArray)[j]'h' = 46) (hd2 : ∀ h', (ByteArray.mk l.toArray)[j + 1]'h' = e2) (he : ¬ (l.length : Int) ≤ (j : Int) + 1) (HL2 : Hid (∀ W : World, Calls Tryz.prog 67 #[.int .u8 (e2.toNat : Int)] W fun e w' => e = .returned (.bool true) ∧ w' = W)) (k : Nat) (_hk1 : j + 1 < k) (_hk2 : k ≤ l.length) (HR2 : Hid (∀ W : World, Calls Tryz.prog 68 #[.string ⟨l.toArray⟩, .int .i64 ((j : Int) + 1)] W fun e w' => e = .returned (.int .i64 (k : Int)) ∧ w' = W)) (g24 : (24 : Int) < (k : Int) - (j : Int) - 1) :
    Calls Tryz.prog 48 #[.string ⟨l.toArray⟩, .int .i64 (i : Int)] w fun e w' => e = .returned (.tuple #[.int .i64 0, .int .i64 (i : Int), .int .i64 36]) ∧ Below w.heap.size w w' := by
  have j1 : (j : Int) < (l.length : Int) := by omega
  have j2 : (j : Int) + 1 < (l.length : Int) := by omega
  have j3 : (0 : Int) ≤ (j : Int) + 1 := by omega
  go_enter Tryz.func48, Tryz.ntmps48
  go_wp2_with fail
  refine (HL.out _).mono ?_
  rintro e w ⟨rfl, rfl⟩
  go_wp2_with fail
  refine (HR.out _).mono ?_
  rintro e w ⟨rfl, rfl⟩
  go_wp2_with fail
  refine (HL2.out _).mono ?_
  rintro e w ⟨rfl, rfl⟩
  go_wp2_with fail
  refine (HR2.out _).mono ?_
  rintro e w ⟨rfl, rfl⟩
  go_wp2_with fail
  refine bodyPost_ret (results_rt _ _ _ _ _ ⟨rfl, rfl, rfl⟩) rfl ?_
  exact ⟨rfl, Below.refl _ _⟩
set_option maxRecDepth 100000 in
set_option maxHeartbeats 1000000 in
theorem tk_C2 (l : List UInt8) (i : Nat) (c : UInt8) (w : World) (hi : (i : Int) < (l.length : Int)) (hs : l.length ≤ 281474976710656) (hc : ∀ h', (ByteArray.mk l.toArray)[i]'h' = c) (j : Nat) (_hij : i < j) (_hjl : j ≤ l.length) (HL : Hid (∀ W : World, Calls Tryz.prog 67 #[.int .u8 (c.toNat : Int)] W fun e w' => e = .returned (.bool true) ∧ w' = W)) (HR : Hid (∀ W : World, Calls Tryz.prog 68 #[.string ⟨l.toArray⟩, .int .i64 (i : Int)] W fun e w' => e = .returned (.int .i64 (j : Int)) ∧ w' = W)) (h24 : ¬ (24 : Int) < (j : Int) - (i : Int)) (e2 : UInt8) (hd : ∀ h', (ByteArray.mk l.toArray)[j]'h' = 46) (hd2 : ∀ h', (ByteArray.mk l.toArray)[j + 1]'h' = e2) (he : ¬ (l.length : Int) ≤ (j : Int) + 1) (HL2 : Hid (∀ W : World, Calls Tryz.prog 67 #[.int .u8 (e2.toNat : Int)] W fun e w' => e = .returned (.bool true) ∧ w' = W)) (k : Nat) (_hk1 : j + 1 < k) (_hk2 : k ≤ l.length) (HR2 : Hid (∀ W : World, Calls Tryz.prog 68 #[.string ⟨l.toArray⟩, .int .i64 ((j : Int) + 1)] W fun e w' => e = .returned (.int .i64 (k : Int)) ∧ w' = W)) (g24 : ¬ (24 : Int) < (k : Int) - (j : Int) - 1) :
    Calls Tryz.prog 48 #[.string ⟨l.toArray⟩, .int .i64 (i : Int)] w fun e w' => e = .returned (.tuple #[.int .i64 3, .int .i64 (k : Int), .int .i64 0]) ∧ Below w.heap.size w w' := by
  have j1 : (j : Int) < (l.length : Int) := by omega
  have j2 : (j : Int) + 1 < (l.length : Int) := by omega
  have j3 : (0 : Int) ≤ (j : Int) + 1 := by omega
  go_enter Tryz.func48, Tryz.ntmps48
  go_wp2_with fail
  refine (HL.out _).mono ?_
  rintro e w ⟨rfl, rfl⟩
  go_wp2_with fail
  refine (HR.out _).mono ?_
  rintro e w ⟨rfl, rfl⟩
  go_wp2_with fail
  refine (HL2.out _).mono ?_
  rintro e w ⟨rfl, rfl⟩
  go_wp2_with fail
  refine (HR2.out _).mono ?_
  rintro e w ⟨rfl, rfl⟩
  go_wp2_with fail
  refine bodyPost_ret (results_rt _ _ _ _ _ ⟨rfl, rfl, rfl⟩) rfl ?_
  exact ⟨rfl, Below.refl _ _⟩
theorem dotA_bt {l : List UInt8} {j : Nat} (hj : j + 1 < l.length) : dotA l j 4 = (decide (bt l j = 46) && digX (bt l (j + 1))) := by
  unfold dotA
  rw [kl_bt hj, digX_cls (bt_lt l (j + 1))]
  congr 1
  by_cases h : bt l j = 46
  · have : kl l j = 5 := by rw [kl_bt (by omega), h]; rfl
    rw [this, h]
    rfl
  · have : kl l j ≠ 5 := fun e => h (kl5 e).2
    rw [decide_eq_false this, decide_eq_false h]
theorem dotA_end {l : List UInt8} {j c : Nat} (hc : c ≠ 0) (hj : ¬ j + 1 < l.length) : dotA l j c = false := by
  unfold dotA
  rw [kl0.2 hj, decide_eq_false (show ¬ 0 = c by omega), Bool.and_false]
theorem dotA_no {l : List UInt8} {j c : Nat} (h : bt l j ≠ 46) : dotA l j c = false := by
  unfold dotA
  rw [decide_eq_false (show ¬ kl l j = 5 from fun e => h (kl5 e).2), Bool.false_and]
set_option maxRecDepth 100000 in
set_option maxHeartbeats 1000000 in
theorem tk_num (l : List UInt8) (i : Nat) (c : UInt8) (w : World) (hi : (i : Int) < (l.length : Int)) (hs : l.length ≤ 281474976710656) (hc : ∀ h', (ByteArray.mk l.toArray)[i]'h' = c) (HL : Hid (∀ W : World, Calls Tryz.prog 67 #[.int .u8 (c.toNat : Int)] W fun e w' => e = .returned (.bool false) ∧ w' = W)) (HD : Hid (∀ W : World, Calls Tryz.prog 69 #[.int .u8 (c.toNat : Int)] W fun e w' => e = .returned (.bool true) ∧ w' = W)) (hi' : i < l.length) (v : Option Nat) (hv : Hid (numN (subL l i (nrun l i)) = v)) (hn1 : i ≤ nrun l i) (hn2 : nrun l i ≤ l.length) :
    Calls Tryz.prog 48 #[.string ⟨l.toArray⟩, .int .i64 (i : Int)] w fun e w' => e = .returned (.tuple #[.int .i64 (if v = none then 0 else 4), .int .i64 (if v = none then (i : Int) else (nrun l i : Int)), .int .i64 (if v = none then 31 else 0)]) ∧ Below w.heap.size w w' := by
  obtain ⟨r, hr⟩ : ∃ r, nrun l i = r := ⟨_, rfl⟩
  rw [hr] at hv hn1 hn2 ⊢
  have HR : Hid (nrun l i = r) := hr
  clear hr
  go_enter Tryz.func48, Tryz.ntmps48
  go_wp2_with fail
  refine (HL.out _).mono ?_
  rintro e w ⟨rfl, rfl⟩
  go_wp2_with fail
  refine (HD.out _).mono ?_
  rintro e w ⟨rfl, rfl⟩
  go_wp2_with fail
  go_loopw [10] (fun vj wr => ∃ k : Nat, i ≤ k ∧ k ≤ l.length ∧ vj = .int .i64 k ∧ Hid (nrun l k = r) ∧ wr = w) (fun vj _ => l.length - (intOf vj).toNat)
  case atStart => exact ⟨i, Nat.le_refl _, Nat.le_of_lt hi', rfl, HR, rfl⟩
  case round =>
    obtain ⟨k, hk1, hk2, rfl, hkr, rfl⟩ := hrel
    by_cases hlt : k < l.length
    · have j0 : (0 : Int) ≤ (k : Int) := by omega
      have j1 : (k : Int) < (l.length : Int) := by omega
      obtain ⟨d, hd, hld⟩ := byte_get l k hlt
      have hb := bt_of hld
      have hw := inW_bt hlt
      rw [hb] at hw
      have HW := refWord_any d.toNat wr
      cases hq : (letX d.toNat || digX d.toNat) with
      | true =>
        rw [hq] at HW hw
        have HI : Hid (nrun l (k + 1) = r) := by rw [← nrun_yes (by rw [hw]; rfl)]; exact hkr.out
        clear hkr hw hb hq
        go_wp2_with fail
        refine HW.mono ?_
        rintro e w2 ⟨rfl, rfl⟩
        go_wp2_with fail
        go_roundw
        case rel => exact ⟨k + 1, by omega, by omega, by go_num, HI, trivial⟩
        case measure => simp [intOf]; omega
      | false =>
        rw [hq] at HW hw
        clear hq
        by_cases h46 : d = 46
        · subst h46
          by_cases hl2 : k + 1 < l.length
          · have j2 : (k : Int) + 1 < (l.length : Int) := by omega
            have j3 : (0 : Int) ≤ (k : Int) + 1 := by omega
            obtain ⟨d2, hd2, hld2⟩ := byte_get l (k + 1) hl2
            have hb2 := bt_of hld2
            have hdA := dotA_bt hl2
            rw [hb, hb2] at hdA
            have HD2 := refDigit_any d2.toNat wr
            cases hq2 : digX d2.toNat with
            | true =>
              rw [hq2] at HD2 hdA
              have HI : Hid (nrun l (k + 1) = r) := by rw [← nrun_yes (by rw [hdA]; simp)]; exact hkr.out
              clear hkr hw hb hb2 hq2 hdA
              go_wp2_with fail
              refine HW.mono ?_
              rintro e w2 ⟨rfl, rfl⟩
              go_wp2_with fail
              refine HD2.mono ?_
              rintro e w2 ⟨rfl, rfl⟩
              go_wp2_with fail
              go_roundw
              case rel => exact ⟨k + 1, by omega, by omega, by go_num, HI, trivial⟩
              case measure => simp [intOf]; omega
            | false =>
              rw [hq2] at HD2 hdA
              have HI : r = k := by rw [← hkr.out]; exact nrun_no (by rw [hw, hdA]; simp)
              subst HI
              clear hkr hw hb hb2 hq2 hdA
              go_wp2_with fail
              refine HW.mono ?_
              rintro e w2 ⟨rfl, rfl⟩
              go_wp2_with fail
              refine HD2.mono ?_
              rintro e w2 ⟨rfl, rfl⟩
              have HN := fun W : World => refNumber_all (subL l i r) W (by have := subL_len l i r; omega)
              simp only [hv.out] at HN
              have hE : (ByteArray.mk l.toArray).extract i r = ⟨(subL l i r).toArray⟩ := ext_sub l i r
              obtain ⟨T, hT⟩ : ∃ T, subL l i r = T := ⟨_, rfl⟩
              simp only [hT] at HN
              rw [hT] at hE
              clear hT hv
              have j5 : (i : Int) ≤ (r : Int) := by omega
              have j6 : (r : Int) ≤ (l.length : Int) := by omega
              cases v with
              | none =>
                go_wp2_with fail
                refine (HN _).mono ?_
                rintro e w3 ⟨rfl, hb3⟩
                go_wp2_with fail
                refine bodyPost_ret (results_rt _ _ _ _ _ ⟨rfl, rfl, rfl⟩) rfl ?_
                exact ⟨rfl, hb3⟩
              | some x =>
                have jx : ¬ (x : Int) < 0 := by omega
                go_wp2_with fail
                refine (HN _).mono ?_
                rintro e w3 ⟨rfl, hb3⟩
                go_wp2_with fail
                refine bodyPost_ret (results_rt _ _ _ _ _ ⟨rfl, rfl, rfl⟩) rfl ?_
                exact ⟨rfl, hb3⟩
          · have j2 : ¬ (k : Int) + 1 < (l.length : Int) := by omega
            have HI : r = k := by rw [← hkr.out]; exact nrun_no (by rw [hw, dotA_end (by decide) hl2]; rfl)
            subst HI
            clear hkr hw hb
            go_wp2_with fail
            refine HW.mono ?_
            rintro e w2 ⟨rfl, rfl⟩
            have HN := fun W : World => refNumber_all (subL l i r) W (by have := subL_len l i r; omega)
            simp only [hv.out] at HN
            have hE : (ByteArray.mk l.toArray).extract i r = ⟨(subL l i r).toArray⟩ := ext_sub l i r
            obtain ⟨T, hT⟩ : ∃ T, subL l i r = T := ⟨_, rfl⟩
            simp only [hT] at HN
            rw [hT] at hE
            clear hT hv
            have j5 : (i : Int) ≤ (r : Int) := by omega
            have j6 : (r : Int) ≤ (l.length : Int) := by omega
            cases v with
            | none =>
              go_wp2_with fail
              refine (HN _).mono ?_
              rintro e w3 ⟨rfl, hb3⟩
              go_wp2_with fail
              refine bodyPost_ret (results_rt _ _ _ _ _ ⟨rfl, rfl, rfl⟩) rfl ?_
              exact ⟨rfl, hb3⟩
            | some x =>
              have jx : ¬ (x : Int) < 0 := by omega
              go_wp2_with fail
              refine (HN _).mono ?_
              rintro e w3 ⟨rfl, hb3⟩
              go_wp2_with fail
              refine bodyPost_ret (results_rt _ _ _ _ _ ⟨rfl, rfl, rfl⟩) rfl ?_
              exact ⟨rfl, hb3⟩
        · have hne : ((d.toNat : Int) == 46) = false := u8_ne (d := 46) h46
          have HI : r = k := by rw [← hkr.out]; exact nrun_no (by rw [hw, dotA_no (by rw [hb]; exact fun e => h46 (UInt8.toNat_inj.1 e))]; rfl)
          subst HI
          clear hkr hw hb
          go_wp2_with fail
          refine HW.mono ?_
          rintro e w2 ⟨rfl, rfl⟩
          have HN := fun W : World => refNumber_all (subL l i r) W (by have := subL_len l i r; omega)
          simp only [hv.out] at HN
          have hE : (ByteArray.mk l.toArray).extract i r = ⟨(subL l i r).toArray⟩ := ext_sub l i r
          obtain ⟨T, hT⟩ : ∃ T, subL l i r = T := ⟨_, rfl⟩
          simp only [hT] at HN
          rw [hT] at hE
          clear hT hv
          have j5 : (i : Int) ≤ (r : Int) := by omega
          have j6 : (r : Int) ≤ (l.length : Int) := by omega
          cases v with
          | none =>
            go_wp2_with fail
            refine (HN _).mono ?_
            rintro e w3 ⟨rfl, hb3⟩
            go_wp2_with fail
            refine bodyPost_ret (results_rt _ _ _ _ _ ⟨rfl, rfl, rfl⟩) rfl ?_
            exact ⟨rfl, hb3⟩
          | some x =>
            have jx : ¬ (x : Int) < 0 := by omega
            go_wp2_with fail
            refine (HN _).mono ?_
            rintro e w3 ⟨rfl, hb3⟩
            go_wp2_with fail
            refine bodyPost_ret (results_rt _ _ _ _ _ ⟨rfl, rfl, rfl⟩) rfl ?_
            exact ⟨rfl, hb3⟩
    · have j1 : ¬ (k : Int) < (l.length : Int) := by omega
      have HI : r = k := by rw [← hkr.out]; exact nrun_no (by rw [inW_end hlt, dotA_end (by decide) (by omega)]; rfl)
      subst HI
      clear hkr
      have HN := fun W : World => refNumber_all (subL l i r) W (by have := subL_len l i r; omega)
      simp only [hv.out] at HN
      have hE : (ByteArray.mk l.toArray).extract i r = ⟨(subL l i r).toArray⟩ := ext_sub l i r
      obtain ⟨T, hT⟩ : ∃ T, subL l i r = T := ⟨_, rfl⟩
      simp only [hT] at HN
      rw [hT] at hE
      clear hT hv
      have j5 : (i : Int) ≤ (r : Int) := by omega
      have j6 : (r : Int) ≤ (l.length : Int) := by omega
      cases v with
      | none =>
        go_wp2_with fail
        refine (HN _).mono ?_
        rintro e w3 ⟨rfl, hb3⟩
        go_wp2_with fail
        refine bodyPost_ret (results_rt _ _ _ _ _ ⟨rfl, rfl, rfl⟩) rfl ?_
        exact ⟨rfl, hb3⟩
      | some x =>
        have jx : ¬ (x : Int) < 0 := by omega
        go_wp2_with fail
        refine (HN _).mono ?_
        rintro e w3 ⟨rfl, hb3⟩
        go_wp2_with fail
        refine bodyPost_ret (results_rt _ _ _ _ _ ⟨rfl, rfl, rfl⟩) rfl ?_
        exact ⟨rfl, hb3⟩
end Go.Proofs.YtffgkjmfeannoaaGreatDoor
