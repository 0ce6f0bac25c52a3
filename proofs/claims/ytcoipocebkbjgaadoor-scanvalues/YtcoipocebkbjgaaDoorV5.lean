import Derived.Test.YtcoipocebkbjgaaDoorV4
namespace Go.Proofs.YtcoipocebkbjgaaDoor
open Go.RowKit
def optI : Option Nat → Int
  | some v => v
  | none => -1
theorem decV_take (l : List UInt8) (k : Nat) (c : UInt8) (h : l[k]? = some c) : decV (l.take (k + 1)) = 10 * decV (l.take k) + (c.toNat - 48) := by
  rw [List.take_add_one, h]
  exact decV_snoc _ _
theorem decV_lt (l : List UInt8) (h : l.all isDig = true) : decV l < 10 ^ l.length := by
  suffices ∀ m : Nat, ∀ l : List UInt8, l.length = m → l.all isDig = true → decV l < 10 ^ l.length from this _ l rfl h
  intro m
  induction m with
  | zero => intro l hl _; rw [List.length_eq_zero_iff.1 hl]; decide
  | succ m ih =>
    intro l hl ha
    have hn : l ≠ [] := fun e => by subst e; cases hl
    obtain ⟨l', c, rfl⟩ : ∃ l' c, l = l' ++ [c] := ⟨l.dropLast, l.getLast hn, (List.dropLast_concat_getLast hn).symm⟩
    rw [List.all_append, Bool.and_eq_true] at ha
    have hl' : l'.length = m := by simpa using hl
    have h1 := ih l' hl' ha.1
    have hc : isDig c = true := by simpa using ha.2
    simp only [isDig, Bool.and_eq_true, decide_eq_true_eq] at hc
    rw [decV_snoc, List.length_append, List.length_singleton, Nat.pow_succ]
    omega
theorem decV_lt10 (l : List UInt8) (h : l.all isDig = true) (hl : l.length ≤ 10) : decV l < 10000000000 :=
  Nat.lt_of_lt_of_le (decV_lt l h) (Nat.pow_le_pow_right (by decide) hl)
theorem dig_wrap (c : UInt8) (h : isDig c = true) : IntKind.u8.wrap ((c.toNat : Int) - 48) = ((c.toNat - 48 : Nat) : Int) := by
  simp only [isDig, Bool.and_eq_true, decide_eq_true_eq] at h
  rw [IntKind.wrap_u8]
  omega
set_option maxRecDepth 100000 in
theorem refDecimal_any (l : List UInt8) (top : Nat) (w : World) (hs : l.length ≤ 16384) :
    Calls Tryd.prog 53 #[.string ⟨l.toArray⟩, .int .i64 (top : Int)] w fun e w' => e = .returned (.int .i64 (optI (decN l top))) ∧ Below w.heap.size w w' := by
  have HA := all_any l w hs
  by_cases h0 : l = []
  · subst h0
    have hr : Hid (decN [] top = none) := if_neg (fun h => h.1 rfl)
    clear HA
    go_enter Tryd.func53, Tryd.ntmps53
    go_wp2_with fail
    go_ret
    exact ⟨by rw [hr.out]; rfl, Below.refl _ _⟩
  · have z0 : (l == []) = false := beq_eq_false_iff_ne.2 h0
    have hl0 : 0 < l.length := List.length_pos_iff.2 h0
    by_cases h1 : l.all isDig = true
    · rw [h1] at HA
      by_cases h2 : 1 < l.length ∧ l.head? = some 48
      · have hr : Hid (decN l top = none) := if_neg (fun h => h.2.2.1 h2)
        obtain ⟨c, hc, hlc⟩ := byte_get l 0 hl0
        obtain rfl : c = 48 := by rw [← List.head?_eq_getElem?, h2.2] at hlc; exact (Option.some.inj hlc).symm
        have i1 : (1 : Int) < (l.length : Int) := by omega
        go_enter Tryd.func53, Tryd.ntmps53
        go_wp2_with fail
        refine HA.mono ?_
        rintro e w1 ⟨rfl, hb1⟩
        go_wp2_with fail
        go_ret
        exact ⟨by rw [hr.out]; rfl, hb1⟩
      · by_cases hl1 : 1 < l.length
        · have i1 : (1 : Int) < (l.length : Int) := by omega
          obtain ⟨c, hc, hlc⟩ := byte_get l 0 hl0
          have hne : ((c.toNat : Int) == 48) = false := u8_ne (d := 48) (fun e => h2 ⟨hl1, by rw [List.head?_eq_getElem?, hlc, e]⟩)
          by_cases h10 : l.length ≤ 10
          · have i2 : ¬ (10 : Int) < (l.length : Int) := by omega
            go_enter Tryd.func53, Tryd.ntmps53
            go_wp2_with fail
            refine HA.mono ?_
            rintro e w1 ⟨rfl, hb1⟩
            go_wp2_with fail
            go_loopw [5, 6] (fun n i wr => ∃ k : Nat, k ≤ l.length ∧ i = .int .i64 k ∧ n = .int .i64 (decV (l.take k) : Int) ∧ Below w.heap.size w wr) (fun _ i _ => l.length - (intOf i).toNat)
            case atStart => exact ⟨0, Nat.zero_le _, rfl, rfl, hb1⟩
            case round =>
              clear hb1
              obtain ⟨k, hk, rfl, rfl, hB⟩ := hrel
              have hb := decV_lt10 (l.take k) (by rw [List.all_eq_true] at h1 ⊢; exact fun x hx => h1 x (List.mem_of_mem_take hx)) (by simp; omega)
              by_cases hlt : k < l.length
              · have j1 : (k : Int) < (l.length : Int) := by omega
                obtain ⟨d, hd, hld⟩ := byte_get l k hlt
                have hdd : isDig d = true := by rw [List.all_eq_true] at h1; exact h1 d (List.mem_of_getElem? hld)
                have hw := dig_wrap d hdd
                have HT : Hid (decV (l.take (k + 1)) = 10 * decV (l.take k) + (d.toNat - 48)) := decV_take l k d hld
                have hd2 : d.toNat - 48 ≤ 9 := by simp only [isDig, Bool.and_eq_true, decide_eq_true_eq] at hdd; omega
                obtain ⟨x, hx⟩ : ∃ x, d.toNat - 48 = x := ⟨_, rfl⟩
                obtain ⟨y, hy⟩ : ∃ y, decV (l.take k) = y := ⟨_, rfl⟩
                rw [hx] at hw hd2
                rw [hy] at hb
                rw [hy]
                have HX : Hid (d.toNat - 48 = x) := hx
                have HY : Hid (decV (l.take k) = y) := hy
                have hwr : IntKind.i64.wrap (10 * (y : Int)) = 10 * (y : Int) := by rw [IntKind.wrap_i64]; omega
                have hwr2 : IntKind.i64.wrap (10 * (y : Int) + (x : Int)) = 10 * (y : Int) + (x : Int) := by rw [IntKind.wrap_i64]; omega
                clear hx hy hdd
                go_wp2_with fail
                try (go_quiet (fail); go_wp2_with fail)
                go_roundw
                case rel => exact ⟨k + 1, by omega, by go_num, by rw [HT.out, HX.out, HY.out]; go_num, by first | exact hB | exact bel_drewN _ hB⟩
                case measure => simp [intOf]; omega
              · have j1 : ¬ (k : Int) < (l.length : Int) := by omega
                obtain rfl : k = l.length := by omega
                rw [List.take_length] at hb ⊢
                obtain ⟨y, hy⟩ : ∃ y, decV l = y := ⟨_, rfl⟩
                rw [hy] at hb ⊢
                by_cases ht : y ≤ top
                · have j2 : ¬ (top : Int) < (y : Int) := by omega
                  have hr : Hid (decN l top = some y) := by unfold Hid decN; rw [if_pos ⟨h0, h1, h2, h10, by rw [hy]; exact ht⟩, hy]
                  clear hy
                  go_wp2_with fail
                  go_ret
                  exact ⟨by rw [hr.out]; rfl, hB⟩
                · have j2 : (top : Int) < (y : Int) := by omega
                  have hr : Hid (decN l top = none) := if_neg (fun h => ht (by rw [← hy]; exact h.2.2.2.2))
                  clear hy
                  go_wp2_with fail
                  go_ret
                  exact ⟨by rw [hr.out]; rfl, hB⟩
          · have i2 : (10 : Int) < (l.length : Int) := by omega
            have hr : Hid (decN l top = none) := if_neg (fun h => h10 h.2.2.2.1)
            go_enter Tryd.func53, Tryd.ntmps53
            go_wp2_with fail
            refine HA.mono ?_
            rintro e w1 ⟨rfl, hb1⟩
            go_wp2_with fail
            go_ret
            exact ⟨by rw [hr.out]; rfl, hb1⟩
        · have i1 : ¬ (1 : Int) < (l.length : Int) := by omega
          have i2 : ¬ (10 : Int) < (l.length : Int) := by omega
          have h10 : l.length ≤ 10 := by omega
          go_enter Tryd.func53, Tryd.ntmps53
          go_wp2_with fail
          refine HA.mono ?_
          rintro e w1 ⟨rfl, hb1⟩
          go_wp2_with fail
          go_loopw [5, 6] (fun n i wr => ∃ k : Nat, k ≤ l.length ∧ i = .int .i64 k ∧ n = .int .i64 (decV (l.take k) : Int) ∧ Below w.heap.size w wr) (fun _ i _ => l.length - (intOf i).toNat)
          case atStart => exact ⟨0, Nat.zero_le _, rfl, rfl, hb1⟩
          case round =>
            clear hb1
            obtain ⟨k, hk, rfl, rfl, hB⟩ := hrel
            have hb := decV_lt10 (l.take k) (by rw [List.all_eq_true] at h1 ⊢; exact fun x hx => h1 x (List.mem_of_mem_take hx)) (by simp; omega)
            by_cases hlt : k < l.length
            · have j1 : (k : Int) < (l.length : Int) := by omega
              obtain ⟨d, hd, hld⟩ := byte_get l k hlt
              have hdd : isDig d = true := by rw [List.all_eq_true] at h1; exact h1 d (List.mem_of_getElem? hld)
              have hw := dig_wrap d hdd
              have HT : Hid (decV (l.take (k + 1)) = 10 * decV (l.take k) + (d.toNat - 48)) := decV_take l k d hld
              have hd2 : d.toNat - 48 ≤ 9 := by simp only [isDig, Bool.and_eq_true, decide_eq_true_eq] at hdd; omega
              obtain ⟨x, hx⟩ : ∃ x, d.toNat - 48 = x := ⟨_, rfl⟩
              obtain ⟨y, hy⟩ : ∃ y, decV (l.take k) = y := ⟨_, rfl⟩
              rw [hx] at hw hd2
              rw [hy] at hb
              rw [hy]
              have HX : Hid (d.toNat - 48 = x) := hx
              have HY : Hid (decV (l.take k) = y) := hy
              have hwr : IntKind.i64.wrap (10 * (y : Int)) = 10 * (y : Int) := by rw [IntKind.wrap_i64]; omega
              have hwr2 : IntKind.i64.wrap (10 * (y : Int) + (x : Int)) = 10 * (y : Int) + (x : Int) := by rw [IntKind.wrap_i64]; omega
              clear hx hy hdd
              go_wp2_with fail
              try (go_quiet (fail); go_wp2_with fail)
              go_roundw
              case rel => exact ⟨k + 1, by omega, by go_num, by rw [HT.out, HX.out, HY.out]; go_num, by first | exact hB | exact bel_drewN _ hB⟩
              case measure => simp [intOf]; omega
            · have j1 : ¬ (k : Int) < (l.length : Int) := by omega
              obtain rfl : k = l.length := by omega
              rw [List.take_length] at hb ⊢
              obtain ⟨y, hy⟩ : ∃ y, decV l = y := ⟨_, rfl⟩
              rw [hy] at hb ⊢
              by_cases ht : y ≤ top
              · have j2 : ¬ (top : Int) < (y : Int) := by omega
                have hr : Hid (decN l top = some y) := by unfold Hid decN; rw [if_pos ⟨h0, h1, h2, h10, by rw [hy]; exact ht⟩, hy]
                clear hy
                go_wp2_with fail
                go_ret
                exact ⟨by rw [hr.out]; rfl, hB⟩
              · have j2 : (top : Int) < (y : Int) := by omega
                have hr : Hid (decN l top = none) := if_neg (fun h => ht (by rw [← hy]; exact h.2.2.2.2))
                clear hy
                go_wp2_with fail
                go_ret
                exact ⟨by rw [hr.out]; rfl, hB⟩
    · have hr : Hid (decN l top = none) := if_neg (fun h => h1 h.2.1)
      rw [Bool.eq_false_iff.2 h1] at HA
      go_enter Tryd.func53, Tryd.ntmps53
      go_wp2_with fail
      refine HA.mono ?_
      rintro e w1 ⟨rfl, hb1⟩
      go_wp2_with fail
      go_ret
      exact ⟨by rw [hr.out]; rfl, hb1⟩
end Go.Proofs.YtcoipocebkbjgaaDoor
