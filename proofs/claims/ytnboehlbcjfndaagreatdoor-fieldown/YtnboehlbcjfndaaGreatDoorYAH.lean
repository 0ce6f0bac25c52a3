import Derived.Test.YtnboehlbcjfndaaGreatDoorYAG
import Derived.Lib.ConvBytes
import Derived.Lib.AtoiErrMem
import Derived.Laws.Strings3
import Derived.Laws.Closers25
import Derived.Laws.Closers25b
import Derived.BigCall
import Derived.BigGuard
import Derived.Shelf.Strconv.ToError
import Derived.Shelf.Strconv.ToErrorRange
import Derived.Ground.NamesProg
import Derived.Test.YtnboehlbcjfndaaGreatDoorProg
namespace Go.Proofs.YtnboehlbcjfndaaGreatDoor
open Go.RowKit
theorem lower_any (x : Int) (w : World) : Calls Tryz.prog 197 #[.int .u8 x] w fun e w' => e = .returned (.int .u8 (bits .or .u8 x 32)) ∧ w' = w := by
  go_enter Tryz.func197, Tryz.ntmps197
  go_wp2
  go_ret
  exact ⟨rfl, rfl⟩
theorem low_tab (c : UInt8) : ∃ lo : Nat, bits .or .u8 (c.toNat : Int) 32 = (lo : Int) ∧ lo < 256 ∧ ((48 ≤ c.toNat ∧ c.toNat ≤ 57 ∧ hexD c = some (c.toNat - 48)) ∨ (¬ (48 ≤ c.toNat ∧ c.toNat ≤ 57) ∧ 97 ≤ lo ∧ lo ≤ 102 ∧ hexD c = some (lo - 87)) ∨ (¬ (48 ≤ c.toNat ∧ c.toNat ≤ 57) ∧ 103 ≤ lo ∧ lo ≤ 122 ∧ hexD c = none) ∨ (¬ (48 ≤ c.toNat ∧ c.toNat ≤ 57) ∧ (lo < 97 ∨ 122 < lo) ∧ hexD c = none)) := by
  have h : ∀ n : Fin 256, bits .or .u8 (n.val : Int) 32 = ((n.val ||| 32 : Nat) : Int) ∧ (n.val ||| 32) < 256 ∧ ((48 ≤ n.val ∧ n.val ≤ 57 ∧ hexD (UInt8.ofNat n.val) = some (n.val - 48)) ∨ (¬ (48 ≤ n.val ∧ n.val ≤ 57) ∧ 97 ≤ (n.val ||| 32) ∧ (n.val ||| 32) ≤ 102 ∧ hexD (UInt8.ofNat n.val) = some ((n.val ||| 32) - 87)) ∨ (¬ (48 ≤ n.val ∧ n.val ≤ 57) ∧ 103 ≤ (n.val ||| 32) ∧ (n.val ||| 32) ≤ 122 ∧ hexD (UInt8.ofNat n.val) = none) ∨ (¬ (48 ≤ n.val ∧ n.val ≤ 57) ∧ ((n.val ||| 32) < 97 ∨ 122 < (n.val ||| 32)) ∧ hexD (UInt8.ofNat n.val) = none)) := by decide +kernel
  have := h ⟨c.toNat, c.toNat_lt⟩
  simp only [UInt8.ofNat_toNat] at this
  exact ⟨_, this⟩
theorem low_95 {c : UInt8} {lo : Nat} (h : Hid (bits .or .u8 (c.toNat : Int) 32 = (lo : Int))) (h2 : 97 ≤ lo) (h3 : lo ≤ 126 := by omega) : c.toNat ≠ 95 := by
  intro e
  have := h.out
  rw [e, show bits .or .u8 ((95 : Nat) : Int) 32 = 127 by decide] at this
  omega

set_option maxRecDepth 100000 in
set_option maxHeartbeats 2000000 in
theorem pu16 (l : List UInt8) (w : World) (hs : l.length ≤ 16384) (hne : l ≠ []) :
    Calls Tryz.prog 194 #[.string ⟨l.toArray⟩, .int .i64 16, .int .i64 64] w fun e w' => (∃ (n : Int) (r : Value), e = .returned (.tuple #[.int .u64 n, r]) ∧ ((r = .nilIface ∧ (l.length ≤ 8 → ∃ v : Nat, n = v ∧ foldN 16 hexD l 0 = some v)) ∨ ((r = .iface 237 (.int .i64 2) ∨ r = .iface 237 (.int .i64 1)) ∧ (l.length ≤ 8 → foldN 16 hexD l 0 = none)))) ∧ Below w.heap.size w w' := by
  have hz : (l == []) = false := beq_eq_false_iff_ne.2 hne
  have hsz : (ByteArray.mk l.toArray).size = l.length := by simp [ByteArray.size]
  have hcv := Lib.run_convert_string_bytes (P := Tryz.prog) w 9 60 5 ⟨l.toArray⟩ (u := .string) Tryz.underlying9 Tryz.underlying60 Tryz.underlying5
  have hB : Hid (∀ j c, l[j]? = some c → (Lib.bytesWorld w 5 ⟨l.toArray⟩).cell? ⟨w.heap.size, j, none⟩ = some (.int .u8 (c.toNat : Int))) := fun j c hj => by
    obtain ⟨h1, h2⟩ := List.getElem?_eq_some_iff.1 hj
    rw [Lib.bytesWorld_cell w 5 ⟨l.toArray⟩ j (by rw [hsz]; exact h1)]
    simp [List.getD, hj]
  have hbel : Hid (Below w.heap.size w (Lib.bytesWorld w 5 ⟨l.toArray⟩)) := Lib.bytesWorld_below _ _ _
  obtain ⟨cp, hcp⟩ : ∃ cp, grownCap w (ByteArray.mk l.toArray).size 0 5 = cp := ⟨_, rfl⟩
  rw [hcp, hsz] at hcv
  obtain ⟨W1, hW1⟩ : ∃ W1, W1 = Lib.bytesWorld w 5 ⟨l.toArray⟩ := ⟨_, rfl⟩
  rw [← hW1] at hcv hB hbel
  clear hW1 hcp
  have hmv : IntKind.u64.wrap (IntKind.u64.wrap 18446744073709551616 - 1) = 18446744073709551615 := by
    rw [IntKind.wrap_u64, IntKind.wrap_u64]
    decide
  go_enter Tryz.func194, Tryz.ntmps194
  go_wp2_with fail
  go_loop [12, 13, 101] (fun vu vn vi => ∃ (k : Nat) (a : Int), vu = .bool false ∧ vn = .int .u64 a ∧ vi = .int .i64 k ∧ k ≤ l.length ∧ 0 ≤ a ∧ a < 18446744073709551616 ∧ Hid (l.length ≤ 8 → ∃ acc : Nat, a = (acc : Int) ∧ acc < 16 ^ k ∧ foldN 16 hexD (l.drop k) acc = foldN 16 hexD l 0)) (fun _ _ vi => l.length - (intOf vi).toNat)
  case atStart => exact ⟨0, 0, rfl, rfl, rfl, Nat.zero_le _, by omega, by omega, fun _ => ⟨0, rfl, by decide, by rw [List.drop_zero]⟩⟩
  case round =>
    obtain ⟨k, a, rfl, rfl, rfl, hk, a0, a1, hh⟩ := hrel
    by_cases hlt : k < l.length
    · have j1 : (k : Int) < (l.length : Int) := by omega
      have j0 : (0 : Int) ≤ (k : Int) := by omega
      obtain ⟨c, hlc⟩ : ∃ c, l[k]? = some c := ⟨_, List.getElem?_eq_getElem hlt⟩
      have hc := hB.out k c hlc
      obtain ⟨lo, hlo0, hlo2, htab⟩ := low_tab c
      have HL : ∀ W, Calls Tryz.prog 197 #[.int .u8 (c.toNat : Int)] W fun e w' => e = .returned (.int .u8 (lo : Int)) ∧ w' = W := fun W => by rw [← hlo0]; exact lower_any _ W
      have hlo : Hid (bits .or .u8 (c.toNat : Int) 32 = (lo : Int)) := hlo0
      clear hlo0
      rcases htab with ⟨h1, h2, hD⟩ | ⟨h1, h2, h3, hD⟩ | ⟨h1, h2, h3, hD⟩ | ⟨h1, h2, hD⟩
      · obtain ⟨x, hx⟩ : ∃ x, c.toNat = x := ⟨_, rfl⟩
        rw [hx] at hc h1 h2 hD HL
        obtain ⟨dn, hdn⟩ : ∃ dn, x - 48 = dn := ⟨_, rfl⟩
        rw [hdn] at hD
        have c95 : ((x : Int) == 95) = false := by rw [beq_eq_false_iff_ne]; omega
        have b1 : (48 : Int) ≤ (x : Int) := by omega
        have b2 : (x : Int) ≤ 57 := by omega
        have hw0 : IntKind.u8.wrap ((x : Int) - 48) = (x : Int) - 48 := by rw [IntKind.wrap_u8]; omega
        have b3 : ¬ (16 : Int) ≤ (x : Int) - 48 := by omega
        by_cases hcut : 1152921504606846976 ≤ a
        · have HF : Hid (l.length ≤ 8 → foldN 16 hexD l 0 = none) := by
            unfold Hid
            intro hl
            obtain ⟨acc, ha, hlt2, _⟩ := hh.out hl
            have := Nat.lt_of_lt_of_le hlt2 (Nat.pow_le_pow_right (j := 8) (show 16 > 0 by decide) (by omega))
            have h2 : (16 : Nat) ^ 8 ≤ 1152921504606846976 := by decide
            omega
          clear hh
          go_wp2_with (go_at_call 197; refine (HL _).mono ?_; rintro e w' ⟨rfl, rfl⟩)
          go_ret2
          exact ⟨⟨_, _, rfl, .inr ⟨.inr rfl, HF.out⟩⟩, hbel.out⟩
        · have icut : a < 1152921504606846976 := by omega
          have iov : a * 16 + ((x : Int) - 48) < 18446744073709551616 := by omega
          have hw1 : IntKind.u64.wrap (a * 16) = a * 16 := by rw [IntKind.wrap_u64]; omega
          have hw2 : IntKind.u64.wrap (a * 16 + ((x : Int) - 48)) = a * 16 + ((x : Int) - 48) := by rw [IntKind.wrap_u64]; omega
          have hi1 : ¬ a * 16 + ((x : Int) - 48) < a * 16 := by omega
          have hi2 : ¬ (18446744073709551615 : Int) < a * 16 + ((x : Int) - 48) := by omega
          have HH : Hid (l.length ≤ 8 → ∃ acc : Nat, a * 16 + ((x : Int) - 48) = (acc : Int) ∧ acc < 16 ^ (k + 1) ∧ foldN 16 hexD (l.drop (k + 1)) acc = foldN 16 hexD l 0) := by
            unfold Hid
            intro hl
            obtain ⟨acc, ha, hlt2, hf⟩ := hh.out hl
            exact ⟨16 * acc + dn, by omega, by rw [Nat.pow_succ]; omega, by rw [← hf]; exact (foldN_some hlc hD acc).symm⟩
          clear hh hcut
          go_wp2_with (go_at_call 197; refine (HL _).mono ?_; rintro e w' ⟨rfl, rfl⟩)
          go_round
          case rel => exact ⟨k + 1, a * 16 + ((x : Int) - 48), rfl, by go_num, by go_num, by omega, by omega, by omega, HH⟩
          case measure => simp [intOf]; omega
      · obtain ⟨x, hx⟩ : ∃ x, c.toNat = x := ⟨_, rfl⟩
        rw [hx] at hc h1 HL
        have hx95 : x ≠ 95 := hx ▸ low_95 hlo h2
        obtain ⟨dn, hdn⟩ : ∃ dn, lo - 87 = dn := ⟨_, rfl⟩
        rw [hdn] at hD
        by_cases b1 : (48 : Int) ≤ (x : Int)
        · have b2 : ¬ (x : Int) ≤ 57 := by omega
          have c95 : ((x : Int) == 95) = false := by rw [beq_eq_false_iff_ne]; omega
          have b3 : (97 : Int) ≤ (lo : Int) := by omega
          have b4 : (lo : Int) ≤ 122 := by omega
          have hw0 : IntKind.u8.wrap ((lo : Int) - 97) = (lo : Int) - 97 := by rw [IntKind.wrap_u8]; omega
          have hw00 : IntKind.u8.wrap ((lo : Int) - 97 + 10) = (lo : Int) - 97 + 10 := by rw [IntKind.wrap_u8]; omega
          have b5 : ¬ (16 : Int) ≤ (lo : Int) - 97 + 10 := by omega
          by_cases hcut : 1152921504606846976 ≤ a
          · have HF : Hid (l.length ≤ 8 → foldN 16 hexD l 0 = none) := by
              unfold Hid
              intro hl
              obtain ⟨acc, ha, hlt2, _⟩ := hh.out hl
              have := Nat.lt_of_lt_of_le hlt2 (Nat.pow_le_pow_right (j := 8) (show 16 > 0 by decide) (by omega))
              have h2 : (16 : Nat) ^ 8 ≤ 1152921504606846976 := by decide
              omega
            clear hh
            go_wp2_with (go_at_call 197; refine (HL _).mono ?_; rintro e w' ⟨rfl, rfl⟩)
            go_ret2
            exact ⟨⟨_, _, rfl, .inr ⟨.inr rfl, HF.out⟩⟩, hbel.out⟩
          · have icut : a < 1152921504606846976 := by omega
            have iov : a * 16 + ((lo : Int) - 97 + 10) < 18446744073709551616 := by omega
            have hw1 : IntKind.u64.wrap (a * 16) = a * 16 := by rw [IntKind.wrap_u64]; omega
            have hw2 : IntKind.u64.wrap (a * 16 + ((lo : Int) - 97 + 10)) = a * 16 + ((lo : Int) - 97 + 10) := by rw [IntKind.wrap_u64]; omega
            have hi1 : ¬ a * 16 + ((lo : Int) - 97 + 10) < a * 16 := by omega
            have hi2 : ¬ (18446744073709551615 : Int) < a * 16 + ((lo : Int) - 97 + 10) := by omega
            have HH : Hid (l.length ≤ 8 → ∃ acc : Nat, a * 16 + ((lo : Int) - 97 + 10) = (acc : Int) ∧ acc < 16 ^ (k + 1) ∧ foldN 16 hexD (l.drop (k + 1)) acc = foldN 16 hexD l 0) := by
              unfold Hid
              intro hl
              obtain ⟨acc, ha, hlt2, hf⟩ := hh.out hl
              exact ⟨16 * acc + dn, by omega, by rw [Nat.pow_succ]; omega, by rw [← hf]; exact (foldN_some hlc hD acc).symm⟩
            clear hh hcut
            go_wp2_with (go_at_call 197; refine (HL _).mono ?_; rintro e w' ⟨rfl, rfl⟩)
            go_round
            case rel => exact ⟨k + 1, a * 16 + ((lo : Int) - 97 + 10), rfl, by go_num, by go_num, by omega, by omega, by omega, HH⟩
            case measure => simp [intOf]; omega
        · skip
          have c95 : ((x : Int) == 95) = false := by rw [beq_eq_false_iff_ne]; omega
          have b3 : (97 : Int) ≤ (lo : Int) := by omega
          have b4 : (lo : Int) ≤ 122 := by omega
          have hw0 : IntKind.u8.wrap ((lo : Int) - 97) = (lo : Int) - 97 := by rw [IntKind.wrap_u8]; omega
          have hw00 : IntKind.u8.wrap ((lo : Int) - 97 + 10) = (lo : Int) - 97 + 10 := by rw [IntKind.wrap_u8]; omega
          have b5 : ¬ (16 : Int) ≤ (lo : Int) - 97 + 10 := by omega
          by_cases hcut : 1152921504606846976 ≤ a
          · have HF : Hid (l.length ≤ 8 → foldN 16 hexD l 0 = none) := by
              unfold Hid
              intro hl
              obtain ⟨acc, ha, hlt2, _⟩ := hh.out hl
              have := Nat.lt_of_lt_of_le hlt2 (Nat.pow_le_pow_right (j := 8) (show 16 > 0 by decide) (by omega))
              have h2 : (16 : Nat) ^ 8 ≤ 1152921504606846976 := by decide
              omega
            clear hh
            go_wp2_with (go_at_call 197; refine (HL _).mono ?_; rintro e w' ⟨rfl, rfl⟩)
            go_ret2
            exact ⟨⟨_, _, rfl, .inr ⟨.inr rfl, HF.out⟩⟩, hbel.out⟩
          · have icut : a < 1152921504606846976 := by omega
            have iov : a * 16 + ((lo : Int) - 97 + 10) < 18446744073709551616 := by omega
            have hw1 : IntKind.u64.wrap (a * 16) = a * 16 := by rw [IntKind.wrap_u64]; omega
            have hw2 : IntKind.u64.wrap (a * 16 + ((lo : Int) - 97 + 10)) = a * 16 + ((lo : Int) - 97 + 10) := by rw [IntKind.wrap_u64]; omega
            have hi1 : ¬ a * 16 + ((lo : Int) - 97 + 10) < a * 16 := by omega
            have hi2 : ¬ (18446744073709551615 : Int) < a * 16 + ((lo : Int) - 97 + 10) := by omega
            have HH : Hid (l.length ≤ 8 → ∃ acc : Nat, a * 16 + ((lo : Int) - 97 + 10) = (acc : Int) ∧ acc < 16 ^ (k + 1) ∧ foldN 16 hexD (l.drop (k + 1)) acc = foldN 16 hexD l 0) := by
              unfold Hid
              intro hl
              obtain ⟨acc, ha, hlt2, hf⟩ := hh.out hl
              exact ⟨16 * acc + dn, by omega, by rw [Nat.pow_succ]; omega, by rw [← hf]; exact (foldN_some hlc hD acc).symm⟩
            clear hh hcut
            go_wp2_with (go_at_call 197; refine (HL _).mono ?_; rintro e w' ⟨rfl, rfl⟩)
            go_round
            case rel => exact ⟨k + 1, a * 16 + ((lo : Int) - 97 + 10), rfl, by go_num, by go_num, by omega, by omega, by omega, HH⟩
            case measure => simp [intOf]; omega
      · obtain ⟨x, hx⟩ : ∃ x, c.toNat = x := ⟨_, rfl⟩
        rw [hx] at hc h1 HL
        have hx95 : x ≠ 95 := hx ▸ low_95 hlo (by omega)
        by_cases b1 : (48 : Int) ≤ (x : Int)
        · have b2 : ¬ (x : Int) ≤ 57 := by omega
          have HF : Hid (l.length ≤ 8 → foldN 16 hexD l 0 = none) := by
            unfold Hid
            intro hl
            obtain ⟨acc, _, _, hf⟩ := hh.out hl
            rw [← hf]
            exact foldN_none hlc hD acc
          clear hh
          have c95 : ((x : Int) == 95) = false := by rw [beq_eq_false_iff_ne]; omega
          have b3 : (97 : Int) ≤ (lo : Int) := by omega
          have b4 : (lo : Int) ≤ 122 := by omega
          have hw0 : IntKind.u8.wrap ((lo : Int) - 97) = (lo : Int) - 97 := by rw [IntKind.wrap_u8]; omega
          have hw00 : IntKind.u8.wrap ((lo : Int) - 97 + 10) = (lo : Int) - 97 + 10 := by rw [IntKind.wrap_u8]; omega
          have b5 : (16 : Int) ≤ (lo : Int) - 97 + 10 := by omega
          go_wp2_with (go_at_call 197; refine (HL _).mono ?_; rintro e w' ⟨rfl, rfl⟩)
          all_goals go_ret2
          all_goals exact ⟨⟨_, _, rfl, .inr ⟨.inl rfl, HF.out⟩⟩, hbel.out⟩
        · skip
          have HF : Hid (l.length ≤ 8 → foldN 16 hexD l 0 = none) := by
            unfold Hid
            intro hl
            obtain ⟨acc, _, _, hf⟩ := hh.out hl
            rw [← hf]
            exact foldN_none hlc hD acc
          clear hh
          have c95 : ((x : Int) == 95) = false := by rw [beq_eq_false_iff_ne]; omega
          have b3 : (97 : Int) ≤ (lo : Int) := by omega
          have b4 : (lo : Int) ≤ 122 := by omega
          have hw0 : IntKind.u8.wrap ((lo : Int) - 97) = (lo : Int) - 97 := by rw [IntKind.wrap_u8]; omega
          have hw00 : IntKind.u8.wrap ((lo : Int) - 97 + 10) = (lo : Int) - 97 + 10 := by rw [IntKind.wrap_u8]; omega
          have b5 : (16 : Int) ≤ (lo : Int) - 97 + 10 := by omega
          go_wp2_with (go_at_call 197; refine (HL _).mono ?_; rintro e w' ⟨rfl, rfl⟩)
          all_goals go_ret2
          all_goals exact ⟨⟨_, _, rfl, .inr ⟨.inl rfl, HF.out⟩⟩, hbel.out⟩
      · obtain ⟨x, hx⟩ : ∃ x, c.toNat = x := ⟨_, rfl⟩
        rw [hx] at hc h1 HL
        by_cases b1 : (48 : Int) ≤ (x : Int)
        · have b2 : ¬ (x : Int) ≤ 57 := by omega
          by_cases hx95 : x = 95
          · subst hx95
            have HF : Hid (l.length ≤ 8 → foldN 16 hexD l 0 = none) := by
              unfold Hid
              intro hl
              obtain ⟨acc, _, _, hf⟩ := hh.out hl
              rw [← hf]
              exact foldN_none hlc hD acc
            clear hh
            go_wp2_with (go_at_call 197; refine (HL _).mono ?_; rintro e w' ⟨rfl, rfl⟩)
            all_goals go_ret2
            all_goals exact ⟨⟨_, _, rfl, .inr ⟨.inl rfl, HF.out⟩⟩, hbel.out⟩
          · have c95 : ((x : Int) == 95) = false := by rw [beq_eq_false_iff_ne]; omega
            by_cases b3 : (97 : Int) ≤ (lo : Int)
            · have b4 : ¬ (lo : Int) ≤ 122 := by omega
              have HF : Hid (l.length ≤ 8 → foldN 16 hexD l 0 = none) := by
                unfold Hid
                intro hl
                obtain ⟨acc, _, _, hf⟩ := hh.out hl
                rw [← hf]
                exact foldN_none hlc hD acc
              clear hh
              go_wp2_with (go_at_call 197; refine (HL _).mono ?_; rintro e w' ⟨rfl, rfl⟩)
              all_goals go_ret2
              all_goals exact ⟨⟨_, _, rfl, .inr ⟨.inl rfl, HF.out⟩⟩, hbel.out⟩
            · skip
              have HF : Hid (l.length ≤ 8 → foldN 16 hexD l 0 = none) := by
                unfold Hid
                intro hl
                obtain ⟨acc, _, _, hf⟩ := hh.out hl
                rw [← hf]
                exact foldN_none hlc hD acc
              clear hh
              go_wp2_with (go_at_call 197; refine (HL _).mono ?_; rintro e w' ⟨rfl, rfl⟩)
              all_goals go_ret2
              all_goals exact ⟨⟨_, _, rfl, .inr ⟨.inl rfl, HF.out⟩⟩, hbel.out⟩
        · skip
          by_cases hx95 : x = 95
          · subst hx95
            have HF : Hid (l.length ≤ 8 → foldN 16 hexD l 0 = none) := by
              unfold Hid
              intro hl
              obtain ⟨acc, _, _, hf⟩ := hh.out hl
              rw [← hf]
              exact foldN_none hlc hD acc
            clear hh
            go_wp2_with (go_at_call 197; refine (HL _).mono ?_; rintro e w' ⟨rfl, rfl⟩)
            all_goals go_ret2
            all_goals exact ⟨⟨_, _, rfl, .inr ⟨.inl rfl, HF.out⟩⟩, hbel.out⟩
          · have c95 : ((x : Int) == 95) = false := by rw [beq_eq_false_iff_ne]; omega
            by_cases b3 : (97 : Int) ≤ (lo : Int)
            · have b4 : ¬ (lo : Int) ≤ 122 := by omega
              have HF : Hid (l.length ≤ 8 → foldN 16 hexD l 0 = none) := by
                unfold Hid
                intro hl
                obtain ⟨acc, _, _, hf⟩ := hh.out hl
                rw [← hf]
                exact foldN_none hlc hD acc
              clear hh
              go_wp2_with (go_at_call 197; refine (HL _).mono ?_; rintro e w' ⟨rfl, rfl⟩)
              all_goals go_ret2
              all_goals exact ⟨⟨_, _, rfl, .inr ⟨.inl rfl, HF.out⟩⟩, hbel.out⟩
            · skip
              have HF : Hid (l.length ≤ 8 → foldN 16 hexD l 0 = none) := by
                unfold Hid
                intro hl
                obtain ⟨acc, _, _, hf⟩ := hh.out hl
                rw [← hf]
                exact foldN_none hlc hD acc
              clear hh
              go_wp2_with (go_at_call 197; refine (HL _).mono ?_; rintro e w' ⟨rfl, rfl⟩)
              all_goals go_ret2
              all_goals exact ⟨⟨_, _, rfl, .inr ⟨.inl rfl, HF.out⟩⟩, hbel.out⟩
    · have j1 : ¬ (k : Int) < (l.length : Int) := by omega
      obtain rfl : k = l.length := by omega
      have HF : Hid (l.length ≤ 8 → ∃ v : Nat, a = v ∧ foldN 16 hexD l 0 = some v) := by
        unfold Hid
        intro hl
        obtain ⟨acc, ha, _, hf⟩ := hh.out hl
        exact ⟨acc, ha, by rw [← hf]; exact foldN_end _ _ _ _⟩
      clear hh
      go_wp2_with fail
      go_ret2
      exact ⟨⟨_, _, rfl, .inl ⟨rfl, HF.out⟩⟩, hbel.out⟩
end Go.Proofs.YtnboehlbcjfndaaGreatDoor
namespace Go.Proofs.YtnboehlbcjfndaaGreatDoor
open Go.RowKit

set_option maxRecDepth 100000 in
set_option maxHeartbeats 2000000 in
theorem pu2 (l : List UInt8) (w : World) (hs : l.length ≤ 16384) (hne : l ≠ []) :
    Calls Tryz.prog 194 #[.string ⟨l.toArray⟩, .int .i64 2, .int .i64 64] w fun e w' => (∃ (n : Int) (r : Value), e = .returned (.tuple #[.int .u64 n, r]) ∧ ((r = .nilIface ∧ (l.length ≤ 32 → ∃ v : Nat, n = v ∧ foldN 2 binD l 0 = some v)) ∨ ((r = .iface 237 (.int .i64 2) ∨ r = .iface 237 (.int .i64 1)) ∧ (l.length ≤ 32 → foldN 2 binD l 0 = none)))) ∧ Below w.heap.size w w' := by
  have hz : (l == []) = false := beq_eq_false_iff_ne.2 hne
  have hsz : (ByteArray.mk l.toArray).size = l.length := by simp [ByteArray.size]
  have hcv := Lib.run_convert_string_bytes (P := Tryz.prog) w 9 60 5 ⟨l.toArray⟩ (u := .string) Tryz.underlying9 Tryz.underlying60 Tryz.underlying5
  have hB : Hid (∀ j c, l[j]? = some c → (Lib.bytesWorld w 5 ⟨l.toArray⟩).cell? ⟨w.heap.size, j, none⟩ = some (.int .u8 (c.toNat : Int))) := fun j c hj => by
    obtain ⟨h1, h2⟩ := List.getElem?_eq_some_iff.1 hj
    rw [Lib.bytesWorld_cell w 5 ⟨l.toArray⟩ j (by rw [hsz]; exact h1)]
    simp [List.getD, hj]
  have hbel : Hid (Below w.heap.size w (Lib.bytesWorld w 5 ⟨l.toArray⟩)) := Lib.bytesWorld_below _ _ _
  obtain ⟨cp, hcp⟩ : ∃ cp, grownCap w (ByteArray.mk l.toArray).size 0 5 = cp := ⟨_, rfl⟩
  rw [hcp, hsz] at hcv
  obtain ⟨W1, hW1⟩ : ∃ W1, W1 = Lib.bytesWorld w 5 ⟨l.toArray⟩ := ⟨_, rfl⟩
  rw [← hW1] at hcv hB hbel
  clear hW1 hcp
  have hmv : IntKind.u64.wrap (IntKind.u64.wrap 18446744073709551616 - 1) = 18446744073709551615 := by
    rw [IntKind.wrap_u64, IntKind.wrap_u64]
    decide
  go_enter Tryz.func194, Tryz.ntmps194
  go_wp2_with fail
  go_loop [12, 13, 101] (fun vu vn vi => ∃ (k : Nat) (a : Int), vu = .bool false ∧ vn = .int .u64 a ∧ vi = .int .i64 k ∧ k ≤ l.length ∧ 0 ≤ a ∧ a < 18446744073709551616 ∧ Hid (l.length ≤ 32 → ∃ acc : Nat, a = (acc : Int) ∧ acc < 2 ^ k ∧ foldN 2 binD (l.drop k) acc = foldN 2 binD l 0)) (fun _ _ vi => l.length - (intOf vi).toNat)
  case atStart => exact ⟨0, 0, rfl, rfl, rfl, Nat.zero_le _, by omega, by omega, fun _ => ⟨0, rfl, by decide, by rw [List.drop_zero]⟩⟩
  case round =>
    obtain ⟨k, a, rfl, rfl, rfl, hk, a0, a1, hh⟩ := hrel
    by_cases hlt : k < l.length
    · have j1 : (k : Int) < (l.length : Int) := by omega
      have j0 : (0 : Int) ≤ (k : Int) := by omega
      obtain ⟨c, hlc⟩ : ∃ c, l[k]? = some c := ⟨_, List.getElem?_eq_getElem hlt⟩
      have hc := hB.out k c hlc
      obtain ⟨lo, hlo0, hlo2, htab⟩ := low_tab c
      have HL : ∀ W, Calls Tryz.prog 197 #[.int .u8 (c.toNat : Int)] W fun e w' => e = .returned (.int .u8 (lo : Int)) ∧ w' = W := fun W => by rw [← hlo0]; exact lower_any _ W
      have hlo : Hid (bits .or .u8 (c.toNat : Int) 32 = (lo : Int)) := hlo0
      clear hlo0
      rcases htab with ⟨h1, h2, hD⟩ | ⟨h1, h2, h3, hD⟩ | ⟨h1, h2, h3, hD⟩ | ⟨h1, h2, hD⟩
      · clear hD
        obtain ⟨x, hx⟩ : ∃ x, c.toNat = x := ⟨_, rfl⟩
        rw [hx] at hc h1 h2 HL
        by_cases hb : x ≤ 49
        · obtain ⟨dn, hdn⟩ : ∃ dn, x - 48 = dn := ⟨_, rfl⟩
          have hD : binD c = some dn := by
            unfold binD
            by_cases e : x = 48
            · rw [if_pos (UInt8.toNat_inj.1 (by rw [hx, e]; rfl)), ← hdn, e]
            · have e2 : x = 49 := by omega
              rw [if_neg (fun h => e (by rw [← hx, h]; rfl)), if_pos (UInt8.toNat_inj.1 (by rw [hx, e2]; rfl)), ← hdn, e2]
          have c95 : ((x : Int) == 95) = false := by rw [beq_eq_false_iff_ne]; omega
          have b1 : (48 : Int) ≤ (x : Int) := by omega
          have b2 : (x : Int) ≤ 57 := by omega
          have hw0 : IntKind.u8.wrap ((x : Int) - 48) = (x : Int) - 48 := by rw [IntKind.wrap_u8]; omega
          have b3 : ¬ (2 : Int) ≤ (x : Int) - 48 := by omega
          by_cases hcut : 9223372036854775808 ≤ a
          · have HF : Hid (l.length ≤ 32 → foldN 2 binD l 0 = none) := by
              unfold Hid
              intro hl
              obtain ⟨acc, ha, hlt2, _⟩ := hh.out hl
              have := Nat.lt_of_lt_of_le hlt2 (Nat.pow_le_pow_right (j := 32) (show 2 > 0 by decide) (by omega))
              have h2 : (2 : Nat) ^ 32 ≤ 9223372036854775808 := by decide
              omega
            clear hh
            go_wp2_with (go_at_call 197; refine (HL _).mono ?_; rintro e w' ⟨rfl, rfl⟩)
            go_ret2
            exact ⟨⟨_, _, rfl, .inr ⟨.inr rfl, HF.out⟩⟩, hbel.out⟩
          · have icut : a < 9223372036854775808 := by omega
            have iov : a * 2 + ((x : Int) - 48) < 18446744073709551616 := by omega
            have hw1 : IntKind.u64.wrap (a * 2) = a * 2 := by rw [IntKind.wrap_u64]; omega
            have hw2 : IntKind.u64.wrap (a * 2 + ((x : Int) - 48)) = a * 2 + ((x : Int) - 48) := by rw [IntKind.wrap_u64]; omega
            have hi1 : ¬ a * 2 + ((x : Int) - 48) < a * 2 := by omega
            have hi2 : ¬ (18446744073709551615 : Int) < a * 2 + ((x : Int) - 48) := by omega
            have HH : Hid (l.length ≤ 32 → ∃ acc : Nat, a * 2 + ((x : Int) - 48) = (acc : Int) ∧ acc < 2 ^ (k + 1) ∧ foldN 2 binD (l.drop (k + 1)) acc = foldN 2 binD l 0) := by
              unfold Hid
              intro hl
              obtain ⟨acc, ha, hlt2, hf⟩ := hh.out hl
              exact ⟨2 * acc + dn, by omega, by rw [Nat.pow_succ]; omega, by rw [← hf]; exact (foldN_some hlc hD acc).symm⟩
            clear hh hcut
            go_wp2_with (go_at_call 197; refine (HL _).mono ?_; rintro e w' ⟨rfl, rfl⟩)
            go_round
            case rel => exact ⟨k + 1, a * 2 + ((x : Int) - 48), rfl, by go_num, by go_num, by omega, by omega, by omega, HH⟩
            case measure => simp [intOf]; omega
        · have hD : binD c = none := by
            unfold binD
            rw [if_neg (fun h => hb (by rw [← hx, h]; decide)), if_neg (fun h => hb (by rw [← hx, h]; decide))]
          have HF : Hid (l.length ≤ 32 → foldN 2 binD l 0 = none) := by
            unfold Hid
            intro hl
            obtain ⟨acc, _, _, hf⟩ := hh.out hl
            rw [← hf]
            exact foldN_none hlc hD acc
          clear hh
          have c95 : ((x : Int) == 95) = false := by rw [beq_eq_false_iff_ne]; omega
          have b1 : (48 : Int) ≤ (x : Int) := by omega
          have b2 : (x : Int) ≤ 57 := by omega
          have hw0 : IntKind.u8.wrap ((x : Int) - 48) = (x : Int) - 48 := by rw [IntKind.wrap_u8]; omega
          have b3 : (2 : Int) ≤ (x : Int) - 48 := by omega
          go_wp2_with (go_at_call 197; refine (HL _).mono ?_; rintro e w' ⟨rfl, rfl⟩)
          all_goals go_ret2
          all_goals exact ⟨⟨_, _, rfl, .inr ⟨.inl rfl, HF.out⟩⟩, hbel.out⟩
      · obtain ⟨x, hx⟩ : ∃ x, c.toNat = x := ⟨_, rfl⟩
        rw [hx] at hc h1 HL
        have hx95 : x ≠ 95 := hx ▸ low_95 hlo h2
        clear hD
        have hD : binD c = none := by
          unfold binD
          rw [if_neg (fun h => h1 (by rw [← hx, h]; decide)), if_neg (fun h => h1 (by rw [← hx, h]; decide))]
        by_cases b1 : (48 : Int) ≤ (x : Int)
        · have b2 : ¬ (x : Int) ≤ 57 := by omega
          have HF : Hid (l.length ≤ 32 → foldN 2 binD l 0 = none) := by
            unfold Hid
            intro hl
            obtain ⟨acc, _, _, hf⟩ := hh.out hl
            rw [← hf]
            exact foldN_none hlc hD acc
          clear hh
          have c95 : ((x : Int) == 95) = false := by rw [beq_eq_false_iff_ne]; omega
          have b3 : (97 : Int) ≤ (lo : Int) := by omega
          have b4 : (lo : Int) ≤ 122 := by omega
          have hw0 : IntKind.u8.wrap ((lo : Int) - 97) = (lo : Int) - 97 := by rw [IntKind.wrap_u8]; omega
          have hw00 : IntKind.u8.wrap ((lo : Int) - 97 + 10) = (lo : Int) - 97 + 10 := by rw [IntKind.wrap_u8]; omega
          have b5 : (2 : Int) ≤ (lo : Int) - 97 + 10 := by omega
          go_wp2_with (go_at_call 197; refine (HL _).mono ?_; rintro e w' ⟨rfl, rfl⟩)
          all_goals go_ret2
          all_goals exact ⟨⟨_, _, rfl, .inr ⟨.inl rfl, HF.out⟩⟩, hbel.out⟩
        · skip
          have HF : Hid (l.length ≤ 32 → foldN 2 binD l 0 = none) := by
            unfold Hid
            intro hl
            obtain ⟨acc, _, _, hf⟩ := hh.out hl
            rw [← hf]
            exact foldN_none hlc hD acc
          clear hh
          have c95 : ((x : Int) == 95) = false := by rw [beq_eq_false_iff_ne]; omega
          have b3 : (97 : Int) ≤ (lo : Int) := by omega
          have b4 : (lo : Int) ≤ 122 := by omega
          have hw0 : IntKind.u8.wrap ((lo : Int) - 97) = (lo : Int) - 97 := by rw [IntKind.wrap_u8]; omega
          have hw00 : IntKind.u8.wrap ((lo : Int) - 97 + 10) = (lo : Int) - 97 + 10 := by rw [IntKind.wrap_u8]; omega
          have b5 : (2 : Int) ≤ (lo : Int) - 97 + 10 := by omega
          go_wp2_with (go_at_call 197; refine (HL _).mono ?_; rintro e w' ⟨rfl, rfl⟩)
          all_goals go_ret2
          all_goals exact ⟨⟨_, _, rfl, .inr ⟨.inl rfl, HF.out⟩⟩, hbel.out⟩
      · obtain ⟨x, hx⟩ : ∃ x, c.toNat = x := ⟨_, rfl⟩
        rw [hx] at hc h1 HL
        have hx95 : x ≠ 95 := hx ▸ low_95 hlo (by omega)
        clear hD
        have hD : binD c = none := by
          unfold binD
          rw [if_neg (fun h => h1 (by rw [← hx, h]; decide)), if_neg (fun h => h1 (by rw [← hx, h]; decide))]
        by_cases b1 : (48 : Int) ≤ (x : Int)
        · have b2 : ¬ (x : Int) ≤ 57 := by omega
          have HF : Hid (l.length ≤ 32 → foldN 2 binD l 0 = none) := by
            unfold Hid
            intro hl
            obtain ⟨acc, _, _, hf⟩ := hh.out hl
            rw [← hf]
            exact foldN_none hlc hD acc
          clear hh
          have c95 : ((x : Int) == 95) = false := by rw [beq_eq_false_iff_ne]; omega
          have b3 : (97 : Int) ≤ (lo : Int) := by omega
          have b4 : (lo : Int) ≤ 122 := by omega
          have hw0 : IntKind.u8.wrap ((lo : Int) - 97) = (lo : Int) - 97 := by rw [IntKind.wrap_u8]; omega
          have hw00 : IntKind.u8.wrap ((lo : Int) - 97 + 10) = (lo : Int) - 97 + 10 := by rw [IntKind.wrap_u8]; omega
          have b5 : (2 : Int) ≤ (lo : Int) - 97 + 10 := by omega
          go_wp2_with (go_at_call 197; refine (HL _).mono ?_; rintro e w' ⟨rfl, rfl⟩)
          all_goals go_ret2
          all_goals exact ⟨⟨_, _, rfl, .inr ⟨.inl rfl, HF.out⟩⟩, hbel.out⟩
        · skip
          have HF : Hid (l.length ≤ 32 → foldN 2 binD l 0 = none) := by
            unfold Hid
            intro hl
            obtain ⟨acc, _, _, hf⟩ := hh.out hl
            rw [← hf]
            exact foldN_none hlc hD acc
          clear hh
          have c95 : ((x : Int) == 95) = false := by rw [beq_eq_false_iff_ne]; omega
          have b3 : (97 : Int) ≤ (lo : Int) := by omega
          have b4 : (lo : Int) ≤ 122 := by omega
          have hw0 : IntKind.u8.wrap ((lo : Int) - 97) = (lo : Int) - 97 := by rw [IntKind.wrap_u8]; omega
          have hw00 : IntKind.u8.wrap ((lo : Int) - 97 + 10) = (lo : Int) - 97 + 10 := by rw [IntKind.wrap_u8]; omega
          have b5 : (2 : Int) ≤ (lo : Int) - 97 + 10 := by omega
          go_wp2_with (go_at_call 197; refine (HL _).mono ?_; rintro e w' ⟨rfl, rfl⟩)
          all_goals go_ret2
          all_goals exact ⟨⟨_, _, rfl, .inr ⟨.inl rfl, HF.out⟩⟩, hbel.out⟩
      · obtain ⟨x, hx⟩ : ∃ x, c.toNat = x := ⟨_, rfl⟩
        rw [hx] at hc h1 HL
        clear hD
        have hD : binD c = none := by
          unfold binD
          rw [if_neg (fun h => h1 (by rw [← hx, h]; decide)), if_neg (fun h => h1 (by rw [← hx, h]; decide))]
        by_cases b1 : (48 : Int) ≤ (x : Int)
        · have b2 : ¬ (x : Int) ≤ 57 := by omega
          by_cases hx95 : x = 95
          · subst hx95
            have HF : Hid (l.length ≤ 32 → foldN 2 binD l 0 = none) := by
              unfold Hid
              intro hl
              obtain ⟨acc, _, _, hf⟩ := hh.out hl
              rw [← hf]
              exact foldN_none hlc hD acc
            clear hh
            go_wp2_with (go_at_call 197; refine (HL _).mono ?_; rintro e w' ⟨rfl, rfl⟩)
            all_goals go_ret2
            all_goals exact ⟨⟨_, _, rfl, .inr ⟨.inl rfl, HF.out⟩⟩, hbel.out⟩
          · have c95 : ((x : Int) == 95) = false := by rw [beq_eq_false_iff_ne]; omega
            by_cases b3 : (97 : Int) ≤ (lo : Int)
            · have b4 : ¬ (lo : Int) ≤ 122 := by omega
              have HF : Hid (l.length ≤ 32 → foldN 2 binD l 0 = none) := by
                unfold Hid
                intro hl
                obtain ⟨acc, _, _, hf⟩ := hh.out hl
                rw [← hf]
                exact foldN_none hlc hD acc
              clear hh
              go_wp2_with (go_at_call 197; refine (HL _).mono ?_; rintro e w' ⟨rfl, rfl⟩)
              all_goals go_ret2
              all_goals exact ⟨⟨_, _, rfl, .inr ⟨.inl rfl, HF.out⟩⟩, hbel.out⟩
            · skip
              have HF : Hid (l.length ≤ 32 → foldN 2 binD l 0 = none) := by
                unfold Hid
                intro hl
                obtain ⟨acc, _, _, hf⟩ := hh.out hl
                rw [← hf]
                exact foldN_none hlc hD acc
              clear hh
              go_wp2_with (go_at_call 197; refine (HL _).mono ?_; rintro e w' ⟨rfl, rfl⟩)
              all_goals go_ret2
              all_goals exact ⟨⟨_, _, rfl, .inr ⟨.inl rfl, HF.out⟩⟩, hbel.out⟩
        · skip
          by_cases hx95 : x = 95
          · subst hx95
            have HF : Hid (l.length ≤ 32 → foldN 2 binD l 0 = none) := by
              unfold Hid
              intro hl
              obtain ⟨acc, _, _, hf⟩ := hh.out hl
              rw [← hf]
              exact foldN_none hlc hD acc
            clear hh
            go_wp2_with (go_at_call 197; refine (HL _).mono ?_; rintro e w' ⟨rfl, rfl⟩)
            all_goals go_ret2
            all_goals exact ⟨⟨_, _, rfl, .inr ⟨.inl rfl, HF.out⟩⟩, hbel.out⟩
          · have c95 : ((x : Int) == 95) = false := by rw [beq_eq_false_iff_ne]; omega
            by_cases b3 : (97 : Int) ≤ (lo : Int)
            · have b4 : ¬ (lo : Int) ≤ 122 := by omega
              have HF : Hid (l.length ≤ 32 → foldN 2 binD l 0 = none) := by
                unfold Hid
                intro hl
                obtain ⟨acc, _, _, hf⟩ := hh.out hl
                rw [← hf]
                exact foldN_none hlc hD acc
              clear hh
              go_wp2_with (go_at_call 197; refine (HL _).mono ?_; rintro e w' ⟨rfl, rfl⟩)
              all_goals go_ret2
              all_goals exact ⟨⟨_, _, rfl, .inr ⟨.inl rfl, HF.out⟩⟩, hbel.out⟩
            · skip
              have HF : Hid (l.length ≤ 32 → foldN 2 binD l 0 = none) := by
                unfold Hid
                intro hl
                obtain ⟨acc, _, _, hf⟩ := hh.out hl
                rw [← hf]
                exact foldN_none hlc hD acc
              clear hh
              go_wp2_with (go_at_call 197; refine (HL _).mono ?_; rintro e w' ⟨rfl, rfl⟩)
              all_goals go_ret2
              all_goals exact ⟨⟨_, _, rfl, .inr ⟨.inl rfl, HF.out⟩⟩, hbel.out⟩
    · have j1 : ¬ (k : Int) < (l.length : Int) := by omega
      obtain rfl : k = l.length := by omega
      have HF : Hid (l.length ≤ 32 → ∃ v : Nat, a = v ∧ foldN 2 binD l 0 = some v) := by
        unfold Hid
        intro hl
        obtain ⟨acc, ha, _, hf⟩ := hh.out hl
        exact ⟨acc, ha, by rw [← hf]; exact foldN_end _ _ _ _⟩
      clear hh
      go_wp2_with fail
      go_ret2
      exact ⟨⟨_, _, rfl, .inl ⟨rfl, HF.out⟩⟩, hbel.out⟩
end Go.Proofs.YtnboehlbcjfndaaGreatDoor
namespace Go.Proofs
open Go.Shelf
def Tryz.l245_ren : Go.Shelf.Ren := ⟨fun | 245 => 195 | 279 => 199 | 280 => 200 | 281 => 201 | 282 => 202 | 316 => 134 | 171 => 105 | 205 => 204 | 243 => 133 | 246 => 148 | 283 => 160 | 284 => 161 | 285 => 162 | 286 => 163 | 129 => 114 | 317 => 169 | 318 => 170 | 319 => 171 | 320 => 84 | 337 => 111 | 338 => 112 | n => n, fun | 9 => 9 | 3 => 3 | 75 => 141 | 167 => 237 | 4 => 4 | 168 => 239 | 210 => 245 | 37 => 60 | 0 => 0 | 127 => 169 | 145 => 249 | 143 => 247 | 2 => 2 | 171 => 201 | 53 => 102 | 5 => 5 | 173 => 203 | 212 => 211 | 51 => 161 | 20 => 20 | 213 => 212 | 46 => 70 | 232 => 186 | 233 => 187 | 80 => 133 | n => n, fun | 15 => 9 | 16 => 10 | 17 => 5 | 18 => 1 | 19 => 2 | n => n⟩
theorem Tryz.l245 : Go.Proofs.LaysC.n245 Tryz.prog Tryz.l245_ren := {
  mixed := by kernel_rfl
  f129 := Tryz.func114.trans (congrArg some (by kernel_rfl))
  f171 := Tryz.func105.trans (congrArg some (by kernel_rfl))
  f205 := Tryz.func204.trans (congrArg some (by kernel_rfl))
  f243 := Tryz.func133.trans (congrArg some (by kernel_rfl))
  f245 := Tryz.func195.trans (congrArg some (by kernel_rfl))
  f246 := Tryz.func148.trans (congrArg some (by kernel_rfl))
  f279 := Tryz.func199.trans (congrArg some (by kernel_rfl))
  f280 := Tryz.func200.trans (congrArg some (by kernel_rfl))
  f281 := Tryz.func201.trans (congrArg some (by kernel_rfl))
  f282 := Tryz.func202.trans (congrArg some (by kernel_rfl))
  f283 := Tryz.func160.trans (congrArg some (by kernel_rfl))
  f284 := Tryz.func161.trans (congrArg some (by kernel_rfl))
  f285 := Tryz.func162.trans (congrArg some (by kernel_rfl))
  f286 := Tryz.func163.trans (congrArg some (by kernel_rfl))
  f316 := Tryz.func134.trans (congrArg some (by kernel_rfl))
  f317 := Tryz.func169.trans (congrArg some (by kernel_rfl))
  f318 := Tryz.func170.trans (congrArg some (by kernel_rfl))
  f319 := Tryz.func171.trans (congrArg some (by kernel_rfl))
  f320 := Tryz.func84.trans (congrArg some (by kernel_rfl))
  f337 := Tryz.func111.trans (congrArg some (by kernel_rfl))
  f338 := Tryz.func112.trans (congrArg some (by kernel_rfl))
  t0 := Tryz.underlying0
  a0 := Tryz.isAgg0
  z0 := Tryz.sizeOf0
  v0 := Tryz.zeroValue0
  t2 := Tryz.underlying2
  a2 := Tryz.isAgg2
  z2 := Tryz.sizeOf2
  v2 := Tryz.zeroValue2
  t3 := Tryz.underlying3
  a3 := Tryz.isAgg3
  z3 := Tryz.sizeOf3
  v3 := Tryz.zeroValue3
  t4 := Tryz.underlying4
  a4 := Tryz.isAgg4
  z4 := Tryz.sizeOf4
  v4 := Tryz.zeroValue4
  t5 := Tryz.underlying5
  a5 := Tryz.isAgg5
  z5 := Tryz.sizeOf5
  v5 := Tryz.zeroValue5
  t9 := Tryz.underlying9
  a9 := Tryz.isAgg9
  z9 := Tryz.sizeOf9
  v9 := Tryz.zeroValue9
  t20 := Tryz.underlying20
  a20 := Tryz.isAgg20
  z20 := Tryz.sizeOf20
  v20 := Tryz.zeroValue20
  t37 := Tryz.underlying60
  a37 := Tryz.isAgg60
  z37 := Tryz.sizeOf60
  v37 := Tryz.zeroValue60
  t46 := Tryz.underlying70
  a46 := Tryz.isAgg70
  z46 := Tryz.sizeOf70
  v46 := Tryz.zeroValue70
  t51 := Tryz.underlying161
  a51 := Tryz.isAgg161
  z51 := Tryz.sizeOf161
  v51 := Tryz.zeroValue161
  t53 := Tryz.underlying102
  a53 := Tryz.isAgg102
  z53 := Tryz.sizeOf102
  v53 := Tryz.zeroValue102
  t75 := Tryz.underlying141
  a75 := Tryz.isAgg141
  z75 := Tryz.sizeOf141
  v75 := Tryz.zeroValue141
  t127 := Tryz.underlying169
  a127 := Tryz.isAgg169
  z127 := Tryz.sizeOf169
  v127 := Tryz.zeroValue169
  t143 := Tryz.underlying247
  a143 := Tryz.isAgg247
  z143 := Tryz.sizeOf247
  v143 := Tryz.zeroValue247
  t145 := Tryz.underlying249
  a145 := Tryz.isAgg249
  z145 := Tryz.sizeOf249
  v145 := Tryz.zeroValue249
  t167 := Tryz.underlying237
  a167 := Tryz.isAgg237
  z167 := Tryz.sizeOf237
  v167 := Tryz.zeroValue237
  t168 := Tryz.underlying239
  a168 := Tryz.isAgg239
  z168 := Tryz.sizeOf239
  v168 := Tryz.zeroValue239
  t171 := Tryz.underlying201
  a171 := Tryz.isAgg201
  z171 := Tryz.sizeOf201
  v171 := Tryz.zeroValue201
  t173 := Tryz.underlying203
  a173 := Tryz.isAgg203
  z173 := Tryz.sizeOf203
  v173 := Tryz.zeroValue203
  t210 := Tryz.underlying245
  a210 := Tryz.isAgg245
  z210 := Tryz.sizeOf245
  v210 := Tryz.zeroValue245
  t212 := Tryz.underlying211
  a212 := Tryz.isAgg211
  z212 := Tryz.sizeOf211
  v212 := Tryz.zeroValue211
  t213 := Tryz.underlying212
  a213 := Tryz.isAgg212
  z213 := Tryz.sizeOf212
  t232 := Tryz.underlying186
  a232 := Tryz.isAgg186
  z232 := Tryz.sizeOf186
  v232 := Tryz.zeroValue186
  t233 := Tryz.underlying187
  a233 := Tryz.isAgg187
  z233 := Tryz.sizeOf187
  v233 := Tryz.zeroValue187
  g15 := by kernel_rfl
  g16 := by kernel_rfl
  g17 := by kernel_rfl
  g18 := by kernel_rfl
  g19 := by kernel_rfl
  t80 := Tryz.underlying133
  a80 := Tryz.isAgg133
  z80 := Tryz.sizeOf133
  v80 := Tryz.zeroValue133
  i0 := by kernel_rfl
  i2 := by kernel_rfl
  i3 := by kernel_rfl
  i4 := by kernel_rfl
  i5 := by kernel_rfl
  i9 := by kernel_rfl
  i20 := by kernel_rfl
  i37 := by kernel_rfl
  i46 := by kernel_rfl
  i51 := by kernel_rfl
  i53 := by kernel_rfl
  i75 := by kernel_rfl
  i80 := by kernel_rfl
  i127 := by kernel_rfl
  i143 := by kernel_rfl
  i145 := by kernel_rfl
  i167 := by kernel_rfl
  i168 := by kernel_rfl
  i171 := by kernel_rfl
  i173 := by kernel_rfl
  i210 := by kernel_rfl
  i212 := by kernel_rfl
  i232 := by kernel_rfl
  i233 := by kernel_rfl
  m15 := by kernel_rfl
  m16 := by kernel_rfl
  m17 := by kernel_rfl
  m18 := by kernel_rfl
  m19 := by kernel_rfl
  c0 := by kernel_rfl
  c2 := by kernel_rfl
  c3 := by kernel_rfl
  c4 := by kernel_rfl
  c5 := by kernel_rfl
  c9 := by kernel_rfl
  c20 := by kernel_rfl
  c37 := by kernel_rfl
  c46 := by kernel_rfl
  c51 := by kernel_rfl
  c53 := by kernel_rfl
  c75 := by kernel_rfl
  c80 := by kernel_rfl
  c127 := by kernel_rfl
  c143 := by kernel_rfl
  c145 := by kernel_rfl
  c167 := by kernel_rfl
  c168 := by kernel_rfl
  c171 := by kernel_rfl
  c173 := by kernel_rfl
  c210 := by kernel_rfl
  c212 := by kernel_rfl
  c213 := by kernel_rfl
  c232 := by kernel_rfl
  c233 := by kernel_rfl }
end Go.Proofs
