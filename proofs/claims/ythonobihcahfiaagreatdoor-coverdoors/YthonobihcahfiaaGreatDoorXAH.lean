import Derived.Test.YthonobihcahfiaaGreatDoorXAG
import Derived.Lib.ConvBytes
import Derived.Lib.AtoiErrMem
import Derived.Laws.Strings3
import Derived.Laws.Closers25
import Derived.Laws.Closers25b
import Derived.BigCall
import Derived.BigGuard
namespace Go.Proofs.YthonobihcahfiaaGreatDoor
open Go.RowKit
theorem lower_any (x : Int) (w : World) : Calls Tryz.prog 121 #[.int .u8 x] w fun e w' => e = .returned (.int .u8 (bits .or .u8 x 32)) ∧ w' = w := by
  go_enter Tryz.func121, Tryz.ntmps121
  go_wp2
  go_ret
  exact ⟨rfl, rfl⟩
theorem low_tab (c : UInt8) : ∃ lo : Nat, bits .or .u8 (c.toNat : Int) 32 = (lo : Int) ∧ lo < 256 ∧ ((48 ≤ c.toNat ∧ c.toNat ≤ 57 ∧ hexD c = some (c.toNat - 48)) ∨ (¬ (48 ≤ c.toNat ∧ c.toNat ≤ 57) ∧ 97 ≤ lo ∧ lo ≤ 102 ∧ hexD c = some (lo - 87)) ∨ (¬ (48 ≤ c.toNat ∧ c.toNat ≤ 57) ∧ 103 ≤ lo ∧ lo ≤ 122 ∧ hexD c = none) ∨ (¬ (48 ≤ c.toNat ∧ c.toNat ≤ 57) ∧ (lo < 97 ∨ 122 < lo) ∧ hexD c = none)) := by
  have h : ∀ n : Fin 256, bits .or .u8 (n.val : Int) 32 = ((n.val ||| 32 : Nat) : Int) ∧ (n.val ||| 32) < 256 ∧ ((48 ≤ n.val ∧ n.val ≤ 57 ∧ hexD (UInt8.ofNat n.val) = some (n.val - 48)) ∨ (¬ (48 ≤ n.val ∧ n.val ≤ 57) ∧ 97 ≤ (n.val ||| 32) ∧ (n.val ||| 32) ≤ 102 ∧ hexD (UInt8.ofNat n.val) = some ((n.val ||| 32) - 87)) ∨ (¬ (48 ≤ n.val ∧ n.val ≤ 57) ∧ 103 ≤ (n.val ||| 32) ∧ (n.val ||| 32) ≤ 122 ∧ hexD (UInt8.ofNat n.val) = none) ∨ (¬ (48 ≤ n.val ∧ n.val ≤ 57) ∧ ((n.val ||| 32) < 97 ∨ 122 < (n.val ||| 32)) ∧ hexD (UInt8.ofNat n.val) = none)) := by decide +kernel
  have := h ⟨c.toNat, c.toNat_lt⟩
  simp only [UInt8.ofNat_toNat] at this
  exact ⟨_, this⟩
theorem low_95 {c : UInt8} {lo : Nat} (h : Hid (bits .or .u8 (c.toNat : Int) 32 = (lo : Int))) (h2 : 97 ≤ lo) (h3 : lo ≤ 126 := by omega) : c.toNat ≠ 95 := by
  intro e
  have := h.out
  rw [e, show bits .or .u8 ((95 : Nat) : Int) 32 = 127 by decide] at this
  omega

set_option maxRecDepth 100000 in
set_option maxHeartbeats 2000000 in
theorem pu16 (l : List UInt8) (w : World) (hs : l.length ≤ 16384) (hne : l ≠ []) :
    Calls Tryz.prog 116 #[.string ⟨l.toArray⟩, .int .i64 16, .int .i64 64] w fun e w' => (∃ (n : Int) (r : Value), e = .returned (.tuple #[.int .u64 n, r]) ∧ ((r = .nilIface ∧ (l.length ≤ 8 → ∃ v : Nat, n = v ∧ foldN 16 hexD l 0 = some v)) ∨ ((r = .iface 155 (.int .i64 2) ∨ r = .iface 155 (.int .i64 1)) ∧ (l.length ≤ 8 → foldN 16 hexD l 0 = none)))) ∧ Below w.heap.size w w' := by
  have hz : (l == []) = false := beq_eq_false_iff_ne.2 hne
  have hsz : (ByteArray.mk l.toArray).size = l.length := by simp [ByteArray.size]
  have hcv := Lib.run_convert_string_bytes (P := Tryz.prog) w 9 103 5 ⟨l.toArray⟩ (u := .string) Tryz.underlying9 Tryz.underlying103 Tryz.underlying5
  have hB : Hid (∀ j c, l[j]? = some c → (Lib.bytesWorld w 5 ⟨l.toArray⟩).cell? ⟨w.heap.size, j, none⟩ = some (.int .u8 (c.toNat : Int))) := fun j c hj => by
    obtain ⟨h1, h2⟩ := List.getElem?_eq_some_iff.1 hj
    rw [Lib.bytesWorld_cell w 5 ⟨l.toArray⟩ j (by rw [hsz]; exact h1)]
    simp [List.getD, hj]
  have hbel : Hid (Below w.heap.size w (Lib.bytesWorld w 5 ⟨l.toArray⟩)) := Lib.bytesWorld_below _ _ _
  obtain ⟨cp, hcp⟩ : ∃ cp, grownCap w (ByteArray.mk l.toArray).size 0 5 = cp := ⟨_, rfl⟩
  rw [hcp, hsz] at hcv
  obtain ⟨W1, hW1⟩ : ∃ W1, W1 = Lib.bytesWorld w 5 ⟨l.toArray⟩ := ⟨_, rfl⟩
  rw [← hW1] at hcv hB hbel
  clear hW1 hcp
  have hmv : IntKind.u64.wrap (IntKind.u64.wrap 18446744073709551616 - 1) = 18446744073709551615 := by
    rw [IntKind.wrap_u64, IntKind.wrap_u64]
    decide
  go_enter Tryz.func116, Tryz.ntmps116
  go_wp2_with fail
  go_loop [12, 13, 101] (fun vu vn vi => ∃ (k : Nat) (a : Int), vu = .bool false ∧ vn = .int .u64 a ∧ vi = .int .i64 k ∧ k ≤ l.length ∧ 0 ≤ a ∧ a < 18446744073709551616 ∧ Hid (l.length ≤ 8 → ∃ acc : Nat, a = (acc : Int) ∧ acc < 16 ^ k ∧ foldN 16 hexD (l.drop k) acc = foldN 16 hexD l 0)) (fun _ _ vi => l.length - (intOf vi).toNat)
  case atStart => exact ⟨0, 0, rfl, rfl, rfl, Nat.zero_le _, by omega, by omega, fun _ => ⟨0, rfl, by decide, by rw [List.drop_zero]⟩⟩
  case round =>
    obtain ⟨k, a, rfl, rfl, rfl, hk, a0, a1, hh⟩ := hrel
    by_cases hlt : k < l.length
    · have j1 : (k : Int) < (l.length : Int) := by omega
      have j0 : (0 : Int) ≤ (k : Int) := by omega
      obtain ⟨c, hlc⟩ : ∃ c, l[k]? = some c := ⟨_, List.getElem?_eq_getElem hlt⟩
      have hc := hB.out k c hlc
      obtain ⟨lo, hlo0, hlo2, htab⟩ := low_tab c
      have HL : ∀ W, Calls Tryz.prog 121 #[.int .u8 (c.toNat : Int)] W fun e w' => e = .returned (.int .u8 (lo : Int)) ∧ w' = W := fun W => by rw [← hlo0]; exact lower_any _ W
      have hlo : Hid (bits .or .u8 (c.toNat : Int) 32 = (lo : Int)) := hlo0
      clear hlo0
      rcases htab with ⟨h1, h2, hD⟩ | ⟨h1, h2, h3, hD⟩ | ⟨h1, h2, h3, hD⟩ | ⟨h1, h2, hD⟩
      · obtain ⟨x, hx⟩ : ∃ x, c.toNat = x := ⟨_, rfl⟩
        rw [hx] at hc h1 h2 hD HL
        obtain ⟨dn, hdn⟩ : ∃ dn, x - 48 = dn := ⟨_, rfl⟩
        rw [hdn] at hD
        have c95 : ((x : Int) == 95) = false := by rw [beq_eq_false_iff_ne]; omega
        have b1 : (48 : Int) ≤ (x : Int) := by omega
        have b2 : (x : Int) ≤ 57 := by omega
        have hw0 : IntKind.u8.wrap ((x : Int) - 48) = (x : Int) - 48 := by rw [IntKind.wrap_u8]; omega
        have b3 : ¬ (16 : Int) ≤ (x : Int) - 48 := by omega
        by_cases hcut : 1152921504606846976 ≤ a
        · have HF : Hid (l.length ≤ 8 → foldN 16 hexD l 0 = none) := by
            unfold Hid
            intro hl
            obtain ⟨acc, ha, hlt2, _⟩ := hh.out hl
            have := Nat.lt_of_lt_of_le hlt2 (Nat.pow_le_pow_right (j := 8) (show 16 > 0 by decide) (by omega))
            have h2 : (16 : Nat) ^ 8 ≤ 1152921504606846976 := by decide
            omega
          clear hh
          go_wp2_with (go_at_call 121; refine (HL _).mono ?_; rintro e w' ⟨rfl, rfl⟩)
          go_ret2
          exact ⟨⟨_, _, rfl, .inr ⟨.inr rfl, HF.out⟩⟩, hbel.out⟩
        · have icut : a < 1152921504606846976 := by omega
          have iov : a * 16 + ((x : Int) - 48) < 18446744073709551616 := by omega
          have hw1 : IntKind.u64.wrap (a * 16) = a * 16 := by rw [IntKind.wrap_u64]; omega
          have hw2 : IntKind.u64.wrap (a * 16 + ((x : Int) - 48)) = a * 16 + ((x : Int) - 48) := by rw [IntKind.wrap_u64]; omega
          have hi1 : ¬ a * 16 + ((x : Int) - 48) < a * 16 := by omega
          have hi2 : ¬ (18446744073709551615 : Int) < a * 16 + ((x : Int) - 48) := by omega
          have HH : Hid (l.length ≤ 8 → ∃ acc : Nat, a * 16 + ((x : Int) - 48) = (acc : Int) ∧ acc < 16 ^ (k + 1) ∧ foldN 16 hexD (l.drop (k + 1)) acc = foldN 16 hexD l 0) := by
            unfold Hid
            intro hl
            obtain ⟨acc, ha, hlt2, hf⟩ := hh.out hl
            exact ⟨16 * acc + dn, by omega, by rw [Nat.pow_succ]; omega, by rw [← hf]; exact (foldN_some hlc hD acc).symm⟩
          clear hh hcut
          go_wp2_with (go_at_call 121; refine (HL _).mono ?_; rintro e w' ⟨rfl, rfl⟩)
          go_round
          case rel => exact ⟨k + 1, a * 16 + ((x : Int) - 48), rfl, by go_num, by go_num, by omega, by omega, by omega, HH⟩
          case measure => simp [intOf]; omega
      · obtain ⟨x, hx⟩ : ∃ x, c.toNat = x := ⟨_, rfl⟩
        rw [hx] at hc h1 HL
        have hx95 : x ≠ 95 := hx ▸ low_95 hlo h2
        obtain ⟨dn, hdn⟩ : ∃ dn, lo - 87 = dn := ⟨_, rfl⟩
        rw [hdn] at hD
        by_cases b1 : (48 : Int) ≤ (x : Int)
        · have b2 : ¬ (x : Int) ≤ 57 := by omega
          have c95 : ((x : Int) == 95) = false := by rw [beq_eq_false_iff_ne]; omega
          have b3 : (97 : Int) ≤ (lo : Int) := by omega
          have b4 : (lo : Int) ≤ 122 := by omega
          have hw0 : IntKind.u8.wrap ((lo : Int) - 97) = (lo : Int) - 97 := by rw [IntKind.wrap_u8]; omega
          have hw00 : IntKind.u8.wrap ((lo : Int) - 97 + 10) = (lo : Int) - 97 + 10 := by rw [IntKind.wrap_u8]; omega
          have b5 : ¬ (16 : Int) ≤ (lo : Int) - 97 + 10 := by omega
          by_cases hcut : 1152921504606846976 ≤ a
          · have HF : Hid (l.length ≤ 8 → foldN 16 hexD l 0 = none) := by
              unfold Hid
              intro hl
              obtain ⟨acc, ha, hlt2, _⟩ := hh.out hl
              have := Nat.lt_of_lt_of_le hlt2 (Nat.pow_le_pow_right (j := 8) (show 16 > 0 by decide) (by omega))
              have h2 : (16 : Nat) ^ 8 ≤ 1152921504606846976 := by decide
              omega
            clear hh
            go_wp2_with (go_at_call 121; refine (HL _).mono ?_; rintro e w' ⟨rfl, rfl⟩)
            go_ret2
            exact ⟨⟨_, _, rfl, .inr ⟨.inr rfl, HF.out⟩⟩, hbel.out⟩
          · have icut : a < 1152921504606846976 := by omega
            have iov : a * 16 + ((lo : Int) - 97 + 10) < 18446744073709551616 := by omega
            have hw1 : IntKind.u64.wrap (a * 16) = a * 16 := by rw [IntKind.wrap_u64]; omega
            have hw2 : IntKind.u64.wrap (a * 16 + ((lo : Int) - 97 + 10)) = a * 16 + ((lo : Int) - 97 + 10) := by rw [IntKind.wrap_u64]; omega
            have hi1 : ¬ a * 16 + ((lo : Int) - 97 + 10) < a * 16 := by omega
            have hi2 : ¬ (18446744073709551615 : Int) < a * 16 + ((lo : Int) - 97 + 10) := by omega
            have HH : Hid (l.length ≤ 8 → ∃ acc : Nat, a * 16 + ((lo : Int) - 97 + 10) = (acc : Int) ∧ acc < 16 ^ (k + 1) ∧ foldN 16 hexD (l.drop (k + 1)) acc = foldN 16 hexD l 0) := by
              unfold Hid
              intro hl
              obtain ⟨acc, ha, hlt2, hf⟩ := hh.out hl
              exact ⟨16 * acc + dn, by omega, by rw [Nat.pow_succ]; omega, by rw [← hf]; exact (foldN_some hlc hD acc).symm⟩
            clear hh hcut
            go_wp2_with (go_at_call 121; refine (HL _).mono ?_; rintro e w' ⟨rfl, rfl⟩)
            go_round
            case rel => exact ⟨k + 1, a * 16 + ((lo : Int) - 97 + 10), rfl, by go_num, by go_num, by omega, by omega, by omega, HH⟩
            case measure => simp [intOf]; omega
        · skip
          have c95 : ((x : Int) == 95) = false := by rw [beq_eq_false_iff_ne]; omega
          have b3 : (97 : Int) ≤ (lo : Int) := by omega
          have b4 : (lo : Int) ≤ 122 := by omega
          have hw0 : IntKind.u8.wrap ((lo : Int) - 97) = (lo : Int) - 97 := by rw [IntKind.wrap_u8]; omega
          have hw00 : IntKind.u8.wrap ((lo : Int) - 97 + 10) = (lo : Int) - 97 + 10 := by rw [IntKind.wrap_u8]; omega
          have b5 : ¬ (16 : Int) ≤ (lo : Int) - 97 + 10 := by omega
          by_cases hcut : 1152921504606846976 ≤ a
          · have HF : Hid (l.length ≤ 8 → foldN 16 hexD l 0 = none) := by
              unfold Hid
              intro hl
              obtain ⟨acc, ha, hlt2, _⟩ := hh.out hl
              have := Nat.lt_of_lt_of_le hlt2 (Nat.pow_le_pow_right (j := 8) (show 16 > 0 by decide) (by omega))
              have h2 : (16 : Nat) ^ 8 ≤ 1152921504606846976 := by decide
              omega
            clear hh
            go_wp2_with (go_at_call 121; refine (HL _).mono ?_; rintro e w' ⟨rfl, rfl⟩)
            go_ret2
            exact ⟨⟨_, _, rfl, .inr ⟨.inr rfl, HF.out⟩⟩, hbel.out⟩
          · have icut : a < 1152921504606846976 := by omega
            have iov : a * 16 + ((lo : Int) - 97 + 10) < 18446744073709551616 := by omega
            have hw1 : IntKind.u64.wrap (a * 16) = a * 16 := by rw [IntKind.wrap_u64]; omega
            have hw2 : IntKind.u64.wrap (a * 16 + ((lo : Int) - 97 + 10)) = a * 16 + ((lo : Int) - 97 + 10) := by rw [IntKind.wrap_u64]; omega
            have hi1 : ¬ a * 16 + ((lo : Int) - 97 + 10) < a * 16 := by omega
            have hi2 : ¬ (18446744073709551615 : Int) < a * 16 + ((lo : Int) - 97 + 10) := by omega
            have HH : Hid (l.length ≤ 8 → ∃ acc : Nat, a * 16 + ((lo : Int) - 97 + 10) = (acc : Int) ∧ acc < 16 ^ (k + 1) ∧ foldN 16 hexD (l.drop (k + 1)) acc = foldN 16 hexD l 0) := by
              unfold Hid
              intro hl
              obtain ⟨acc, ha, hlt2, hf⟩ := hh.out hl
              exact ⟨16 * acc + dn, by omega, by rw [Nat.pow_succ]; omega, by rw [← hf]; exact (foldN_some hlc hD acc).symm⟩
            clear hh hcut
            go_wp2_with (go_at_call 121; refine (HL _).mono ?_; rintro e w' ⟨rfl, rfl⟩)
            go_round
            case rel => exact ⟨k + 1, a * 16 + ((lo : Int) - 97 + 10), rfl, by go_num, by go_num, by omega, by omega, by omega, HH⟩
            case measure => simp [intOf]; omega
      · obtain ⟨x, hx⟩ : ∃ x, c.toNat = x := ⟨_, rfl⟩
        rw [hx] at hc h1 HL
        have hx95 : x ≠ 95 := hx ▸ low_95 hlo (by omega)
        by_cases b1 : (48 : Int) ≤ (x : Int)
        · have b2 : ¬ (x : Int) ≤ 57 := by omega
          have HF : Hid (l.length ≤ 8 → foldN 16 hexD l 0 = none) := by
            unfold Hid
            intro hl
            obtain ⟨acc, _, _, hf⟩ := hh.out hl
            rw [← hf]
            exact foldN_none hlc hD acc
          clear hh
          have c95 : ((x : Int) == 95) = false := by rw [beq_eq_false_iff_ne]; omega
          have b3 : (97 : Int) ≤ (lo : Int) := by omega
          have b4 : (lo : Int) ≤ 122 := by omega
          have hw0 : IntKind.u8.wrap ((lo : Int) - 97) = (lo : Int) - 97 := by rw [IntKind.wrap_u8]; omega
          have hw00 : IntKind.u8.wrap ((lo : Int) - 97 + 10) = (lo : Int) - 97 + 10 := by rw [IntKind.wrap_u8]; omega
          have b5 : (16 : Int) ≤ (lo : Int) - 97 + 10 := by omega
          go_wp2_with (go_at_call 121; refine (HL _).mono ?_; rintro e w' ⟨rfl, rfl⟩)
          all_goals go_ret2
          all_goals exact ⟨⟨_, _, rfl, .inr ⟨.inl rfl, HF.out⟩⟩, hbel.out⟩
        · skip
          have HF : Hid (l.length ≤ 8 → foldN 16 hexD l 0 = none) := by
            unfold Hid
            intro hl
            obtain ⟨acc, _, _, hf⟩ := hh.out hl
            rw [← hf]
            exact foldN_none hlc hD acc
          clear hh
          have c95 : ((x : Int) == 95) = false := by rw [beq_eq_false_iff_ne]; omega
          have b3 : (97 : Int) ≤ (lo : Int) := by omega
          have b4 : (lo : Int) ≤ 122 := by omega
          have hw0 : IntKind.u8.wrap ((lo : Int) - 97) = (lo : Int) - 97 := by rw [IntKind.wrap_u8]; omega
          have hw00 : IntKind.u8.wrap ((lo : Int) - 97 + 10) = (lo : Int) - 97 + 10 := by rw [IntKind.wrap_u8]; omega
          have b5 : (16 : Int) ≤ (lo : Int) - 97 + 10 := by omega
          go_wp2_with (go_at_call 121; refine (HL _).mono ?_; rintro e w' ⟨rfl, rfl⟩)
          all_goals go_ret2
          all_goals exact ⟨⟨_, _, rfl, .inr ⟨.inl rfl, HF.out⟩⟩, hbel.out⟩
      · obtain ⟨x, hx⟩ : ∃ x, c.toNat = x := ⟨_, rfl⟩
        rw [hx] at hc h1 HL
        by_cases b1 : (48 : Int) ≤ (x : Int)
        · have b2 : ¬ (x : Int) ≤ 57 := by omega
          by_cases hx95 : x = 95
          · subst hx95
            have HF : Hid (l.length ≤ 8 → foldN 16 hexD l 0 = none) := by
              unfold Hid
              intro hl
              obtain ⟨acc, _, _, hf⟩ := hh.out hl
              rw [← hf]
              exact foldN_none hlc hD acc
            clear hh
            go_wp2_with (go_at_call 121; refine (HL _).mono ?_; rintro e w' ⟨rfl, rfl⟩)
            all_goals go_ret2
            all_goals exact ⟨⟨_, _, rfl, .inr ⟨.inl rfl, HF.out⟩⟩, hbel.out⟩
          · have c95 : ((x : Int) == 95) = false := by rw [beq_eq_false_iff_ne]; omega
            by_cases b3 : (97 : Int) ≤ (lo : Int)
            · have b4 : ¬ (lo : Int) ≤ 122 := by omega
              have HF : Hid (l.length ≤ 8 → foldN 16 hexD l 0 = none) := by
                unfold Hid
                intro hl
                obtain ⟨acc, _, _, hf⟩ := hh.out hl
                rw [← hf]
                exact foldN_none hlc hD acc
              clear hh
              go_wp2_with (go_at_call 121; refine (HL _).mono ?_; rintro e w' ⟨rfl, rfl⟩)
              all_goals go_ret2
              all_goals exact ⟨⟨_, _, rfl, .inr ⟨.inl rfl, HF.out⟩⟩, hbel.out⟩
            · skip
              have HF : Hid (l.length ≤ 8 → foldN 16 hexD l 0 = none) := by
                unfold Hid
                intro hl
                obtain ⟨acc, _, _, hf⟩ := hh.out hl
                rw [← hf]
                exact foldN_none hlc hD acc
              clear hh
              go_wp2_with (go_at_call 121; refine (HL _).mono ?_; rintro e w' ⟨rfl, rfl⟩)
              all_goals go_ret2
              all_goals exact ⟨⟨_, _, rfl, .inr ⟨.inl rfl, HF.out⟩⟩, hbel.out⟩
        · skip
          by_cases hx95 : x = 95
          · subst hx95
            have HF : Hid (l.length ≤ 8 → foldN 16 hexD l 0 = none) := by
              unfold Hid
              intro hl
              obtain ⟨acc, _, _, hf⟩ := hh.out hl
              rw [← hf]
              exact foldN_none hlc hD acc
            clear hh
            go_wp2_with (go_at_call 121; refine (HL _).mono ?_; rintro e w' ⟨rfl, rfl⟩)
            all_goals go_ret2
            all_goals exact ⟨⟨_, _, rfl, .inr ⟨.inl rfl, HF.out⟩⟩, hbel.out⟩
          · have c95 : ((x : Int) == 95) = false := by rw [beq_eq_false_iff_ne]; omega
            by_cases b3 : (97 : Int) ≤ (lo : Int)
            · have b4 : ¬ (lo : Int) ≤ 122 := by omega
              have HF : Hid (l.length ≤ 8 → foldN 16 hexD l 0 = none) := by
                unfold Hid
                intro hl
                obtain ⟨acc, _, _, hf⟩ := hh.out hl
                rw [← hf]
                exact foldN_none hlc hD acc
              clear hh
              go_wp2_with (go_at_call 121; refine (HL _).mono ?_; rintro e w' ⟨rfl, rfl⟩)
              all_goals go_ret2
              all_goals exact ⟨⟨_, _, rfl, .inr ⟨.inl rfl, HF.out⟩⟩, hbel.out⟩
            · skip
              have HF : Hid (l.length ≤ 8 → foldN 16 hexD l 0 = none) := by
                unfold Hid
                intro hl
                obtain ⟨acc, _, _, hf⟩ := hh.out hl
                rw [← hf]
                exact foldN_none hlc hD acc
              clear hh
              go_wp2_with (go_at_call 121; refine (HL _).mono ?_; rintro e w' ⟨rfl, rfl⟩)
              all_goals go_ret2
              all_goals exact ⟨⟨_, _, rfl, .inr ⟨.inl rfl, HF.out⟩⟩, hbel.out⟩
    · have j1 : ¬ (k : Int) < (l.length : Int) := by omega
      obtain rfl : k = l.length := by omega
      have HF : Hid (l.length ≤ 8 → ∃ v : Nat, a = v ∧ foldN 16 hexD l 0 = some v) := by
        unfold Hid
        intro hl
        obtain ⟨acc, ha, _, hf⟩ := hh.out hl
        exact ⟨acc, ha, by rw [← hf]; exact foldN_end _ _ _ _⟩
      clear hh
      go_wp2_with fail
      go_ret2
      exact ⟨⟨_, _, rfl, .inl ⟨rfl, HF.out⟩⟩, hbel.out⟩

set_option maxRecDepth 100000 in
set_option maxHeartbeats 2000000 in
theorem pu2 (l : List UInt8) (w : World) (hs : l.length ≤ 16384) (hne : l ≠ []) :
    Calls Tryz.prog 116 #[.string ⟨l.toArray⟩, .int .i64 2, .int .i64 64] w fun e w' => (∃ (n : Int) (r : Value), e = .returned (.tuple #[.int .u64 n, r]) ∧ ((r = .nilIface ∧ (l.length ≤ 32 → ∃ v : Nat, n = v ∧ foldN 2 binD l 0 = some v)) ∨ ((r = .iface 155 (.int .i64 2) ∨ r = .iface 155 (.int .i64 1)) ∧ (l.length ≤ 32 → foldN 2 binD l 0 = none)))) ∧ Below w.heap.size w w' := by
  have hz : (l == []) = false := beq_eq_false_iff_ne.2 hne
  have hsz : (ByteArray.mk l.toArray).size = l.length := by simp [ByteArray.size]
  have hcv := Lib.run_convert_string_bytes (P := Tryz.prog) w 9 103 5 ⟨l.toArray⟩ (u := .string) Tryz.underlying9 Tryz.underlying103 Tryz.underlying5
  have hB : Hid (∀ j c, l[j]? = some c → (Lib.bytesWorld w 5 ⟨l.toArray⟩).cell? ⟨w.heap.size, j, none⟩ = some (.int .u8 (c.toNat : Int))) := fun j c hj => by
    obtain ⟨h1, h2⟩ := List.getElem?_eq_some_iff.1 hj
    rw [Lib.bytesWorld_cell w 5 ⟨l.toArray⟩ j (by rw [hsz]; exact h1)]
    simp [List.getD, hj]
  have hbel : Hid (Below w.heap.size w (Lib.bytesWorld w 5 ⟨l.toArray⟩)) := Lib.bytesWorld_below _ _ _
  obtain ⟨cp, hcp⟩ : ∃ cp, grownCap w (ByteArray.mk l.toArray).size 0 5 = cp := ⟨_, rfl⟩
  rw [hcp, hsz] at hcv
  obtain ⟨W1, hW1⟩ : ∃ W1, W1 = Lib.bytesWorld w 5 ⟨l.toArray⟩ := ⟨_, rfl⟩
  rw [← hW1] at hcv hB hbel
  clear hW1 hcp
  have hmv : IntKind.u64.wrap (IntKind.u64.wrap 18446744073709551616 - 1) = 18446744073709551615 := by
    rw [IntKind.wrap_u64, IntKind.wrap_u64]
    decide
  go_enter Tryz.func116, Tryz.ntmps116
  go_wp2_with fail
  go_loop [12, 13, 101] (fun vu vn vi => ∃ (k : Nat) (a : Int), vu = .bool false ∧ vn = .int .u64 a ∧ vi = .int .i64 k ∧ k ≤ l.length ∧ 0 ≤ a ∧ a < 18446744073709551616 ∧ Hid (l.length ≤ 32 → ∃ acc : Nat, a = (acc : Int) ∧ acc < 2 ^ k ∧ foldN 2 binD (l.drop k) acc = foldN 2 binD l 0)) (fun _ _ vi => l.length - (intOf vi).toNat)
  case atStart => exact ⟨0, 0, rfl, rfl, rfl, Nat.zero_le _, by omega, by omega, fun _ => ⟨0, rfl, by decide, by rw [List.drop_zero]⟩⟩
  case round =>
    obtain ⟨k, a, rfl, rfl, rfl, hk, a0, a1, hh⟩ := hrel
    by_cases hlt : k < l.length
    · have j1 : (k : Int) < (l.length : Int) := by omega
      have j0 : (0 : Int) ≤ (k : Int) := by omega
      obtain ⟨c, hlc⟩ : ∃ c, l[k]? = some c := ⟨_, List.getElem?_eq_getElem hlt⟩
      have hc := hB.out k c hlc
      obtain ⟨lo, hlo0, hlo2, htab⟩ := low_tab c
      have HL : ∀ W, Calls Tryz.prog 121 #[.int .u8 (c.toNat : Int)] W fun e w' => e = .returned (.int .u8 (lo : Int)) ∧ w' = W := fun W => by rw [← hlo0]; exact lower_any _ W
      have hlo : Hid (bits .or .u8 (c.toNat : Int) 32 = (lo : Int)) := hlo0
      clear hlo0
      rcases htab with ⟨h1, h2, hD⟩ | ⟨h1, h2, h3, hD⟩ | ⟨h1, h2, h3, hD⟩ | ⟨h1, h2, hD⟩
      · clear hD
        obtain ⟨x, hx⟩ : ∃ x, c.toNat = x := ⟨_, rfl⟩
        rw [hx] at hc h1 h2 HL
        by_cases hb : x ≤ 49
        · obtain ⟨dn, hdn⟩ : ∃ dn, x - 48 = dn := ⟨_, rfl⟩
          have hD : binD c = some dn := by
            unfold binD
            by_cases e : x = 48
            · rw [if_pos (UInt8.toNat_inj.1 (by rw [hx, e]; rfl)), ← hdn, e]
            · have e2 : x = 49 := by omega
              rw [if_neg (fun h => e (by rw [← hx, h]; rfl)), if_pos (UInt8.toNat_inj.1 (by rw [hx, e2]; rfl)), ← hdn, e2]
          have c95 : ((x : Int) == 95) = false := by rw [beq_eq_false_iff_ne]; omega
          have b1 : (48 : Int) ≤ (x : Int) := by omega
          have b2 : (x : Int) ≤ 57 := by omega
          have hw0 : IntKind.u8.wrap ((x : Int) - 48) = (x : Int) - 48 := by rw [IntKind.wrap_u8]; omega
          have b3 : ¬ (2 : Int) ≤ (x : Int) - 48 := by omega
          by_cases hcut : 9223372036854775808 ≤ a
          · have HF : Hid (l.length ≤ 32 → foldN 2 binD l 0 = none) := by
              unfold Hid
              intro hl
              obtain ⟨acc, ha, hlt2, _⟩ := hh.out hl
              have := Nat.lt_of_lt_of_le hlt2 (Nat.pow_le_pow_right (j := 32) (show 2 > 0 by decide) (by omega))
              have h2 : (2 : Nat) ^ 32 ≤ 9223372036854775808 := by decide
              omega
            clear hh
            go_wp2_with (go_at_call 121; refine (HL _).mono ?_; rintro e w' ⟨rfl, rfl⟩)
            go_ret2
            exact ⟨⟨_, _, rfl, .inr ⟨.inr rfl, HF.out⟩⟩, hbel.out⟩
          · have icut : a < 9223372036854775808 := by omega
            have iov : a * 2 + ((x : Int) - 48) < 18446744073709551616 := by omega
            have hw1 : IntKind.u64.wrap (a * 2) = a * 2 := by rw [IntKind.wrap_u64]; omega
            have hw2 : IntKind.u64.wrap (a * 2 + ((x : Int) - 48)) = a * 2 + ((x : Int) - 48) := by rw [IntKind.wrap_u64]; omega
            have hi1 : ¬ a * 2 + ((x : Int) - 48) < a * 2 := by omega
            have hi2 : ¬ (18446744073709551615 : Int) < a * 2 + ((x : Int) - 48) := by omega
            have HH : Hid (l.length ≤ 32 → ∃ acc : Nat, a * 2 + ((x : Int) - 48) = (acc : Int) ∧ acc < 2 ^ (k + 1) ∧ foldN 2 binD (l.drop (k + 1)) acc = foldN 2 binD l 0) := by
              unfold Hid
              intro hl
              obtain ⟨acc, ha, hlt2, hf⟩ := hh.out hl
              exact ⟨2 * acc + dn, by omega, by rw [Nat.pow_succ]; omega, by rw [← hf]; exact (foldN_some hlc hD acc).symm⟩
            clear hh hcut
            go_wp2_with (go_at_call 121; refine (HL _).mono ?_; rintro e w' ⟨rfl, rfl⟩)
            go_round
            case rel => exact ⟨k + 1, a * 2 + ((x : Int) - 48), rfl, by go_num, by go_num, by omega, by omega, by omega, HH⟩
            case measure => simp [intOf]; omega
        · have hD : binD c = none := by
            unfold binD
            rw [if_neg (fun h => hb (by rw [← hx, h]; decide)), if_neg (fun h => hb (by rw [← hx, h]; decide))]
          have HF : Hid (l.length ≤ 32 → foldN 2 binD l 0 = none) := by
            unfold Hid
            intro hl
            obtain ⟨acc, _, _, hf⟩ := hh.out hl
            rw [← hf]
            exact foldN_none hlc hD acc
          clear hh
          have c95 : ((x : Int) == 95) = false := by rw [beq_eq_false_iff_ne]; omega
          have b1 : (48 : Int) ≤ (x : Int) := by omega
          have b2 : (x : Int) ≤ 57 := by omega
          have hw0 : IntKind.u8.wrap ((x : Int) - 48) = (x : Int) - 48 := by rw [IntKind.wrap_u8]; omega
          have b3 : (2 : Int) ≤ (x : Int) - 48 := by omega
          go_wp2_with (go_at_call 121; refine (HL _).mono ?_; rintro e w' ⟨rfl, rfl⟩)
          all_goals go_ret2
          all_goals exact ⟨⟨_, _, rfl, .inr ⟨.inl rfl, HF.out⟩⟩, hbel.out⟩
      · obtain ⟨x, hx⟩ : ∃ x, c.toNat = x := ⟨_, rfl⟩
        rw [hx] at hc h1 HL
        have hx95 : x ≠ 95 := hx ▸ low_95 hlo h2
        clear hD
        have hD : binD c = none := by
          unfold binD
          rw [if_neg (fun h => h1 (by rw [← hx, h]; decide)), if_neg (fun h => h1 (by rw [← hx, h]; decide))]
        by_cases b1 : (48 : Int) ≤ (x : Int)
        · have b2 : ¬ (x : Int) ≤ 57 := by omega
          have HF : Hid (l.length ≤ 32 → foldN 2 binD l 0 = none) := by
            unfold Hid
            intro hl
            obtain ⟨acc, _, _, hf⟩ := hh.out hl
            rw [← hf]
            exact foldN_none hlc hD acc
          clear hh
          have c95 : ((x : Int) == 95) = false := by rw [beq_eq_false_iff_ne]; omega
          have b3 : (97 : Int) ≤ (lo : Int) := by omega
          have b4 : (lo : Int) ≤ 122 := by omega
          have hw0 : IntKind.u8.wrap ((lo : Int) - 97) = (lo : Int) - 97 := by rw [IntKind.wrap_u8]; omega
          have hw00 : IntKind.u8.wrap ((lo : Int) - 97 + 10) = (lo : Int) - 97 + 10 := by rw [IntKind.wrap_u8]; omega
          have b5 : (2 : Int) ≤ (lo : Int) - 97 + 10 := by omega
          go_wp2_with (go_at_call 121; refine (HL _).mono ?_; rintro e w' ⟨rfl, rfl⟩)
          all_goals go_ret2
          all_goals exact ⟨⟨_, _, rfl, .inr ⟨.inl rfl, HF.out⟩⟩, hbel.out⟩
        · skip
          have HF : Hid (l.length ≤ 32 → foldN 2 binD l 0 = none) := by
            unfold Hid
            intro hl
            obtain ⟨acc, _, _, hf⟩ := hh.out hl
            rw [← hf]
            exact foldN_none hlc hD acc
          clear hh
          have c95 : ((x : Int) == 95) = false := by rw [beq_eq_false_iff_ne]; omega
          have b3 : (97 : Int) ≤ (lo : Int) := by omega
          have b4 : (lo : Int) ≤ 122 := by omega
          have hw0 : IntKind.u8.wrap ((lo : Int) - 97) = (lo : Int) - 97 := by rw [IntKind.wrap_u8]; omega
          have hw00 : IntKind.u8.wrap ((lo : Int) - 97 + 10) = (lo : Int) - 97 + 10 := by rw [IntKind.wrap_u8]; omega
          have b5 : (2 : Int) ≤ (lo : Int) - 97 + 10 := by omega
          go_wp2_with (go_at_call 121; refine (HL _).mono ?_; rintro e w' ⟨rfl, rfl⟩)
          all_goals go_ret2
          all_goals exact ⟨⟨_, _, rfl, .inr ⟨.inl rfl, HF.out⟩⟩, hbel.out⟩
      · obtain ⟨x, hx⟩ : ∃ x, c.toNat = x := ⟨_, rfl⟩
        rw [hx] at hc h1 HL
        have hx95 : x ≠ 95 := hx ▸ low_95 hlo (by omega)
        clear hD
        have hD : binD c = none := by
          unfold binD
          rw [if_neg (fun h => h1 (by rw [← hx, h]; decide)), if_neg (fun h => h1 (by rw [← hx, h]; decide))]
        by_cases b1 : (48 : Int) ≤ (x : Int)
        · have b2 : ¬ (x : Int) ≤ 57 := by omega
          have HF : Hid (l.length ≤ 32 → foldN 2 binD l 0 = none) := by
            unfold Hid
            intro hl
            obtain ⟨acc, _, _, hf⟩ := hh.out hl
            rw [← hf]
            exact foldN_none hlc hD acc
          clear hh
          have c95 : ((x : Int) == 95) = false := by rw [beq_eq_false_iff_ne]; omega
          have b3 : (97 : Int) ≤ (lo : Int) := by omega
          have b4 : (lo : Int) ≤ 122 := by omega
          have hw0 : IntKind.u8.wrap ((lo : Int) - 97) = (lo : Int) - 97 := by rw [IntKind.wrap_u8]; omega
          have hw00 : IntKind.u8.wrap ((lo : Int) - 97 + 10) = (lo : Int) - 97 + 10 := by rw [IntKind.wrap_u8]; omega
          have b5 : (2 : Int) ≤ (lo : Int) - 97 + 10 := by omega
          go_wp2_with (go_at_call 121; refine (HL _).mono ?_; rintro e w' ⟨rfl, rfl⟩)
          all_goals go_ret2
          all_goals exact ⟨⟨_, _, rfl, .inr ⟨.inl rfl, HF.out⟩⟩, hbel.out⟩
        · skip
          have HF : Hid (l.length ≤ 32 → foldN 2 binD l 0 = none) := by
            unfold Hid
            intro hl
            obtain ⟨acc, _, _, hf⟩ := hh.out hl
            rw [← hf]
            exact foldN_none hlc hD acc
          clear hh
          have c95 : ((x : Int) == 95) = false := by rw [beq_eq_false_iff_ne]; omega
          have b3 : (97 : Int) ≤ (lo : Int) := by omega
          have b4 : (lo : Int) ≤ 122 := by omega
          have hw0 : IntKind.u8.wrap ((lo : Int) - 97) = (lo : Int) - 97 := by rw [IntKind.wrap_u8]; omega
          have hw00 : IntKind.u8.wrap ((lo : Int) - 97 + 10) = (lo : Int) - 97 + 10 := by rw [IntKind.wrap_u8]; omega
          have b5 : (2 : Int) ≤ (lo : Int) - 97 + 10 := by omega
          go_wp2_with (go_at_call 121; refine (HL _).mono ?_; rintro e w' ⟨rfl, rfl⟩)
          all_goals go_ret2
          all_goals exact ⟨⟨_, _, rfl, .inr ⟨.inl rfl, HF.out⟩⟩, hbel.out⟩
      · obtain ⟨x, hx⟩ : ∃ x, c.toNat = x := ⟨_, rfl⟩
        rw [hx] at hc h1 HL
        clear hD
        have hD : binD c = none := by
          unfold binD
          rw [if_neg (fun h => h1 (by rw [← hx, h]; decide)), if_neg (fun h => h1 (by rw [← hx, h]; decide))]
        by_cases b1 : (48 : Int) ≤ (x : Int)
        · have b2 : ¬ (x : Int) ≤ 57 := by omega
          by_cases hx95 : x = 95
          · subst hx95
            have HF : Hid (l.length ≤ 32 → foldN 2 binD l 0 = none) := by
              unfold Hid
              intro hl
              obtain ⟨acc, _, _, hf⟩ := hh.out hl
              rw [← hf]
              exact foldN_none hlc hD acc
            clear hh
            go_wp2_with (go_at_call 121; refine (HL _).mono ?_; rintro e w' ⟨rfl, rfl⟩)
            all_goals go_ret2
            all_goals exact ⟨⟨_, _, rfl, .inr ⟨.inl rfl, HF.out⟩⟩, hbel.out⟩
          · have c95 : ((x : Int) == 95) = false := by rw [beq_eq_false_iff_ne]; omega
            by_cases b3 : (97 : Int) ≤ (lo : Int)
            · have b4 : ¬ (lo : Int) ≤ 122 := by omega
              have HF : Hid (l.length ≤ 32 → foldN 2 binD l 0 = none) := by
                unfold Hid
                intro hl
                obtain ⟨acc, _, _, hf⟩ := hh.out hl
                rw [← hf]
                exact foldN_none hlc hD acc
              clear hh
              go_wp2_with (go_at_call 121; refine (HL _).mono ?_; rintro e w' ⟨rfl, rfl⟩)
              all_goals go_ret2
              all_goals exact ⟨⟨_, _, rfl, .inr ⟨.inl rfl, HF.out⟩⟩, hbel.out⟩
            · skip
              have HF : Hid (l.length ≤ 32 → foldN 2 binD l 0 = none) := by
                unfold Hid
                intro hl
                obtain ⟨acc, _, _, hf⟩ := hh.out hl
                rw [← hf]
                exact foldN_none hlc hD acc
              clear hh
              go_wp2_with (go_at_call 121; refine (HL _).mono ?_; rintro e w' ⟨rfl, rfl⟩)
              all_goals go_ret2
              all_goals exact ⟨⟨_, _, rfl, .inr ⟨.inl rfl, HF.out⟩⟩, hbel.out⟩
        · skip
          by_cases hx95 : x = 95
          · subst hx95
            have HF : Hid (l.length ≤ 32 → foldN 2 binD l 0 = none) := by
              unfold Hid
              intro hl
              obtain ⟨acc, _, _, hf⟩ := hh.out hl
              rw [← hf]
              exact foldN_none hlc hD acc
            clear hh
            go_wp2_with (go_at_call 121; refine (HL _).mono ?_; rintro e w' ⟨rfl, rfl⟩)
            all_goals go_ret2
            all_goals exact ⟨⟨_, _, rfl, .inr ⟨.inl rfl, HF.out⟩⟩, hbel.out⟩
          · have c95 : ((x : Int) == 95) = false := by rw [beq_eq_false_iff_ne]; omega
            by_cases b3 : (97 : Int) ≤ (lo : Int)
            · have b4 : ¬ (lo : Int) ≤ 122 := by omega
              have HF : Hid (l.length ≤ 32 → foldN 2 binD l 0 = none) := by
                unfold Hid
                intro hl
                obtain ⟨acc, _, _, hf⟩ := hh.out hl
                rw [← hf]
                exact foldN_none hlc hD acc
              clear hh
              go_wp2_with (go_at_call 121; refine (HL _).mono ?_; rintro e w' ⟨rfl, rfl⟩)
              all_goals go_ret2
              all_goals exact ⟨⟨_, _, rfl, .inr ⟨.inl rfl, HF.out⟩⟩, hbel.out⟩
            · skip
              have HF : Hid (l.length ≤ 32 → foldN 2 binD l 0 = none) := by
                unfold Hid
                intro hl
                obtain ⟨acc, _, _, hf⟩ := hh.out hl
                rw [← hf]
                exact foldN_none hlc hD acc
              clear hh
              go_wp2_with (go_at_call 121; refine (HL _).mono ?_; rintro e w' ⟨rfl, rfl⟩)
              all_goals go_ret2
              all_goals exact ⟨⟨_, _, rfl, .inr ⟨.inl rfl, HF.out⟩⟩, hbel.out⟩
    · have j1 : ¬ (k : Int) < (l.length : Int) := by omega
      obtain rfl : k = l.length := by omega
      have HF : Hid (l.length ≤ 32 → ∃ v : Nat, a = v ∧ foldN 2 binD l 0 = some v) := by
        unfold Hid
        intro hl
        obtain ⟨acc, ha, _, hf⟩ := hh.out hl
        exact ⟨acc, ha, by rw [← hf]; exact foldN_end _ _ _ _⟩
      clear hh
      go_wp2_with fail
      go_ret2
      exact ⟨⟨_, _, rfl, .inl ⟨rfl, HF.out⟩⟩, hbel.out⟩
end Go.Proofs.YthonobihcahfiaaGreatDoor
