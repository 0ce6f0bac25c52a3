import Derived.Test.YtffgkjmfeannoaaGreatDoorXAH
import Derived.Test.YtffgkjmfeannoaaGreatDoorXAA
import Derived.Lib.IndexLaws
import Derived.Deep.QuietTactic
import Derived.Test.YtffgkjmfeannoaaGreatDoorXAC
import Derived.Laws.Strings3
import Derived.WalkKit
import Derived.Below
import Derived.BigQuiet
import Derived.Lib.ItoaNum
import Derived.Deep.RegionWith
import Derived.Deep.DeepCutAuto
namespace Go.Proofs.YtffgkjmfeannoaaGreatDoor
open Go.RowKit
theorem idx_eq {l : List UInt8} {c : UInt8} {k : Nat} (h : l[k]? = some c) (hn : ∀ j, j < k → l[j]? ≠ some c) : Lib.indexByte l c = (k : Int) := by
  have hg := Lib.indexByte_ge l c
  rcases Int.lt_or_le (Lib.indexByte l c) 0 with hi | hi
  · exact absurd h (Lib.indexByte_none (by omega) k)
  · obtain ⟨o, ho⟩ : ∃ o : Nat, Lib.indexByte l c = o := ⟨(Lib.indexByte l c).toNat, by omega⟩
    obtain ⟨h1, h2⟩ := Lib.indexByte_some ho
    rcases Nat.lt_trichotomy o k with hlt | rfl | hgt
    · exact absurd h1 (hn o hlt)
    · exact ho
    · exact absurd h (h2 k hgt)
theorem idx_no {l : List UInt8} {c : UInt8} (hn : ∀ j, j < l.length → l[j]? ≠ some c) : Lib.indexByte l c = -1 := by
  have hg := Lib.indexByte_ge l c
  rcases Int.lt_or_le (Lib.indexByte l c) 0 with hi | hi
  · omega
  · obtain ⟨o, ho⟩ : ∃ o : Nat, Lib.indexByte l c = o := ⟨(Lib.indexByte l c).toNat, by omega⟩
    obtain ⟨h1, _⟩ := Lib.indexByte_some ho
    exact absurd h1 (hn o (List.getElem?_eq_some_iff.1 h1).1)
set_option maxRecDepth 100000 in
theorem dot_any (l : List UInt8) (w : World) (hs : l.length ≤ 281474976710656) :
    Calls Tryz.prog 79 #[.string ⟨l.toArray⟩] w fun e w' => e = .returned (.int .i64 (Lib.indexByte l 46)) ∧ Below w.heap.size w w' := by
  go_enter Tryz.func79, Tryz.ntmps79
  go_wp2
  go_loopw [3] (fun i wr => ∃ k : Nat, k ≤ l.length ∧ i = .int .i64 k ∧ (∀ j, j < k → l[j]? ≠ some 46) ∧ Below w.heap.size w wr) (fun i _ => l.length - (intOf i).toNat)
  case atStart => exact ⟨0, Nat.zero_le _, rfl, fun j hj => by omega, Below.refl _ _⟩
  case round =>
    obtain ⟨k, hk, rfl, hn, hB⟩ := hrel
    by_cases hlt : k < l.length
    · have i1 : (k : Int) < (l.length : Int) := by omega
      obtain ⟨c, hc, hlc⟩ := byte_get l k hlt
      by_cases h46 : c = 46
      · subst h46
        have hr : Hid (Lib.indexByte l 46 = (k : Int)) := idx_eq hlc hn
        go_wp2_with fail
        go_ret
        exact ⟨by rw [hr.out]; rfl, hB⟩
      · have hne : ((c.toNat : Int) == 46) = false := u8_ne (d := 46) h46
        have HN : Hid (∀ j, j < k + 1 → l[j]? ≠ some 46) := fun j hj => by
          rcases Nat.lt_or_ge j k with h | h
          · exact hn j h
          · obtain rfl : j = k := by omega
            rw [hlc]; intro e; injection e with e; exact h46 e
        clear hn
        go_wp2_with fail
        go_roundw
        case rel => exact ⟨k + 1, by omega, by go_num, HN.out, hB⟩
        case measure => simp [intOf]; omega
    · have i1 : ¬ (k : Int) < (l.length : Int) := by omega
      have hr : Hid (Lib.indexByte l 46 = -1) := idx_no (fun j hj => hn j (by omega))
      go_wp2_with fail
      go_ret
      exact ⟨by rw [hr.out]; rfl, hB⟩
def digs : List UInt8 := [48, 49, 50, 51, 52, 53, 54, 55, 56, 57]
theorem digs_has (c : UInt8) : digs.contains c = isDig c := by
  have h : ∀ n : Fin 256, digs.contains (UInt8.ofNat n.val) = isDig (UInt8.ofNat n.val) := by decide +kernel
  have := h ⟨c.toNat, c.toNat_lt⟩
  rw [UInt8.ofNat_toNat] at this
  exact this
theorem digs_take (k : Nat) (c d : UInt8) (h : digs[k]? = some d) : (digs.take (k + 1)).contains c = ((digs.take k).contains c || c == d) := by
  rw [List.take_add_one, h, List.contains_append]
  show ((digs.take k).contains c || [d].contains c) = _
  rw [List.contains_cons, List.contains_nil, Bool.or_false]
set_option maxRecDepth 100000 in
theorem all_any (l : List UInt8) (w : World) (hs : l.length ≤ 281474976710656) :
    Calls Tryz.prog 83 #[.string ⟨l.toArray⟩, .string ⟨#[48, 49, 50, 51, 52, 53, 54, 55, 56, 57]⟩] w fun e w' => e = .returned (.bool (l.all isDig)) ∧ Below w.heap.size w w' := by
  go_enter Tryz.func83, Tryz.ntmps83
  go_wp2
  go_loopw [5] (fun i wr => ∃ k : Nat, k ≤ l.length ∧ i = .int .i64 k ∧ (∀ j c, j < k → l[j]? = some c → isDig c = true) ∧ Below w.heap.size w wr) (fun i _ => l.length - (intOf i).toNat)
  case atStart => exact ⟨0, Nat.zero_le _, rfl, fun j c hj => by omega, Below.refl _ _⟩
  case round =>
    obtain ⟨k, hk, rfl, hn, hB⟩ := hrel
    by_cases hlt : k < l.length
    · have i1 : (k : Int) < (l.length : Int) := by omega
      obtain ⟨c, hc, hlc⟩ := byte_get l k hlt
      have HN : Hid (∀ j c, j < k → l[j]? = some c → isDig c = true) := hn
      clear hn
      rename World => wq
      go_wp2_with fail
      go_loopw [6, 7] (fun b j wr => ∃ m : Nat, m ≤ 10 ∧ j = .int .i64 m ∧ b = .bool ((digs.take m).contains c) ∧ Below w.heap.size w wr) (fun _ j _ => 10 - (intOf j).toNat)
      case atStart => exact ⟨0, by omega, rfl, rfl, hB⟩
      case round =>
        clear hB
        obtain ⟨m, hm, rfl, rfl, hB⟩ := hrel
        by_cases hlm : m < 10
        · have i2 : (m : Int) < 10 := by omega
          obtain ⟨d, hd0, hld⟩ := byte_get digs m hlm
          have hd : ∀ h', (ByteArray.mk #[48, 49, 50, 51, 52, 53, 54, 55, 56, 57])[m]'h' = d := hd0
          have ht := digs_take m c d hld
          clear hd0
          obtain ⟨x, hx⟩ : ∃ x, (digs.take m).contains c = x := ⟨_, rfl⟩
          obtain ⟨y, hy⟩ : ∃ y, (digs.take (m + 1)).contains c = y := ⟨_, rfl⟩
          rw [hx, hy] at ht
          have HY : Hid ((digs.take (m + 1)).contains c = y) := hy
          rw [hx]
          clear hx hy
          by_cases hcd : c = d
          · subst hcd
            obtain rfl : y = true := by rw [ht]; simp
            clear ht
            go_wp2_with fail
            go_quiet (fail)
            go_wp2_with fail
            go_roundw
            case rel => exact ⟨m + 1, by omega, by go_num, by rw [HY.out], bel_drewN _ hB⟩
            case measure => simp [intOf]; omega
          · have hne := u8_ne hcd
            obtain rfl : y = x := by rw [ht, beq_eq_false_iff_ne.2 hcd]; simp
            clear ht
            go_wp2_with fail
            go_quiet (fail)
            go_wp2_with fail
            go_roundw
            case rel => exact ⟨m + 1, by omega, by go_num, by rw [HY.out], bel_drewN _ hB⟩
            case measure => simp [intOf]; omega
        · have i2 : ¬ (m : Int) < 10 := by omega
          obtain rfl : m = 10 := by omega
          have hx : (digs.take 10).contains c = isDig c := digs_has c
          rw [hx]
          by_cases hcd : isDig c = true
          · rw [hcd]
            have HN2 : Hid (∀ j c, j < k + 1 → l[j]? = some c → isDig c = true) := fun j e hj he => by
              rcases Nat.lt_or_ge j k with h | h
              · exact HN.out j e h he
              · obtain rfl : j = k := by omega
                rw [hlc] at he; injection he with he; rw [← he]; exact hcd
            go_wp2_with fail
            go_roundw
            case rel => exact ⟨k + 1, by omega, by go_num, HN2.out, hB⟩
            case measure => simp [intOf]; omega
          · have hr : Hid (l.all isDig = false) := by
              unfold Hid
              cases ha : l.all isDig with
              | false => rfl
              | true =>
                rw [List.all_eq_true] at ha
                exact absurd (ha c (List.mem_of_getElem? hlc)) hcd
            rw [Bool.eq_false_iff.2 hcd]
            go_wp2_with fail
            go_ret
            exact ⟨by rw [hr.out]; rfl, hB⟩
    · have i1 : ¬ (k : Int) < (l.length : Int) := by omega
      have hr : Hid (l.all isDig = true) := by
        unfold Hid
        rw [List.all_eq_true]
        intro x hx
        obtain ⟨j, hj, rfl⟩ := List.mem_iff_getElem.1 hx
        exact hn j _ (by omega) (List.getElem?_eq_getElem hj)
      clear hn
      go_wp2_with fail
      go_ret
      exact ⟨by rw [hr.out]; rfl, hB⟩
theorem decV_take (l : List UInt8) (k : Nat) (c : UInt8) (h : l[k]? = some c) : decV (l.take (k + 1)) = 10 * decV (l.take k) + (c.toNat - 48) := by
  rw [List.take_add_one, h]
  exact decV_snoc _ _
theorem decV_lt (l : List UInt8) (h : l.all isDig = true) : decV l < 10 ^ l.length := by
  suffices ∀ m : Nat, ∀ l : List UInt8, l.length = m → l.all isDig = true → decV l < 10 ^ l.length from this _ l rfl h
  intro m
  induction m with
  | zero => intro l hl _; rw [List.length_eq_zero_iff.1 hl]; decide
  | succ m ih =>
    intro l hl ha
    have hn : l ≠ [] := fun e => by subst e; cases hl
    obtain ⟨l', c, rfl⟩ : ∃ l' c, l = l' ++ [c] := ⟨l.dropLast, l.getLast hn, (List.dropLast_concat_getLast hn).symm⟩
    rw [List.all_append, Bool.and_eq_true] at ha
    have hl' : l'.length = m := by simpa using hl
    have h1 := ih l' hl' ha.1
    have hc : isDig c = true := by simpa using ha.2
    simp only [isDig, Bool.and_eq_true, decide_eq_true_eq] at hc
    rw [decV_snoc, List.length_append, List.length_singleton, Nat.pow_succ]
    omega
theorem decV_lt10 (l : List UInt8) (h : l.all isDig = true) (hl : l.length ≤ 10) : decV l < 10000000000 :=
  Nat.lt_of_lt_of_le (decV_lt l h) (Nat.pow_le_pow_right (by decide) hl)
theorem dig_wrap (c : UInt8) (h : isDig c = true) : IntKind.u8.wrap ((c.toNat : Int) - 48) = ((c.toNat - 48 : Nat) : Int) := by
  simp only [isDig, Bool.and_eq_true, decide_eq_true_eq] at h
  rw [IntKind.wrap_u8]
  omega
set_option maxRecDepth 100000 in
theorem refDecimal_any (l : List UInt8) (top : Nat) (w : World) (hs : l.length ≤ 281474976710656) :
    Calls Tryz.prog 82 #[.string ⟨l.toArray⟩, .int .i64 (top : Int)] w fun e w' => e = .returned (.int .i64 (optI (decN l top))) ∧ Below w.heap.size w w' := by
  have HA := all_any l w hs
  by_cases h0 : l = []
  · subst h0
    have hr : Hid (decN [] top = none) := if_neg (fun h => h.1 rfl)
    clear HA
    go_enter Tryz.func82, Tryz.ntmps82
    go_wp2_with fail
    go_ret
    exact ⟨by rw [hr.out]; rfl, Below.refl _ _⟩
  · have z0 : (l == []) = false := beq_eq_false_iff_ne.2 h0
    have hl0 : 0 < l.length := List.length_pos_iff.2 h0
    by_cases h1 : l.all isDig = true
    · rw [h1] at HA
      by_cases h2 : 1 < l.length ∧ l.head? = some 48
      · have hr : Hid (decN l top = none) := if_neg (fun h => h.2.2.1 h2)
        obtain ⟨c, hc, hlc⟩ := byte_get l 0 hl0
        obtain rfl : c = 48 := by rw [← List.head?_eq_getElem?, h2.2] at hlc; exact (Option.some.inj hlc).symm
        have i1 : (1 : Int) < (l.length : Int) := by omega
        go_enter Tryz.func82, Tryz.ntmps82
        go_wp2_with fail
        refine HA.mono ?_
        rintro e w1 ⟨rfl, hb1⟩
        go_wp2_with fail
        go_ret
        exact ⟨by rw [hr.out]; rfl, hb1⟩
      · by_cases hl1 : 1 < l.length
        · have i1 : (1 : Int) < (l.length : Int) := by omega
          obtain ⟨c, hc, hlc⟩ := byte_get l 0 hl0
          have hne : ((c.toNat : Int) == 48) = false := u8_ne (d := 48) (fun e => h2 ⟨hl1, by rw [List.head?_eq_getElem?, hlc, e]⟩)
          by_cases h10 : l.length ≤ 10
          · have i2 : ¬ (10 : Int) < (l.length : Int) := by omega
            go_enter Tryz.func82, Tryz.ntmps82
            go_wp2_with fail
            refine HA.mono ?_
            rintro e w1 ⟨rfl, hb1⟩
            go_wp2_with fail
            go_loopw [5, 6] (fun n i wr => ∃ k : Nat, k ≤ l.length ∧ i = .int .i64 k ∧ n = .int .i64 (decV (l.take k) : Int) ∧ Below w.heap.size w wr) (fun _ i _ => l.length - (intOf i).toNat)
            case atStart => exact ⟨0, Nat.zero_le _, rfl, rfl, hb1⟩
            case round =>
              clear hb1
              obtain ⟨k, hk, rfl, rfl, hB⟩ := hrel
              have hb := decV_lt10 (l.take k) (by rw [List.all_eq_true] at h1 ⊢; exact fun x hx => h1 x (List.mem_of_mem_take hx)) (by simp; omega)
              by_cases hlt : k < l.length
              · have j1 : (k : Int) < (l.length : Int) := by omega
                obtain ⟨d, hd, hld⟩ := byte_get l k hlt
                have hdd : isDig d = true := by rw [List.all_eq_true] at h1; exact h1 d (List.mem_of_getElem? hld)
                have hw := dig_wrap d hdd
                have HT : Hid (decV (l.take (k + 1)) = 10 * decV (l.take k) + (d.toNat - 48)) := decV_take l k d hld
                have hd2 : d.toNat - 48 ≤ 9 := by simp only [isDig, Bool.and_eq_true, decide_eq_true_eq] at hdd; omega
                obtain ⟨x, hx⟩ : ∃ x, d.toNat - 48 = x := ⟨_, rfl⟩
                obtain ⟨y, hy⟩ : ∃ y, decV (l.take k) = y := ⟨_, rfl⟩
                rw [hx] at hw hd2
                rw [hy] at hb
                rw [hy]
                have HX : Hid (d.toNat - 48 = x) := hx
                have HY : Hid (decV (l.take k) = y) := hy
                have hwr : IntKind.i64.wrap (10 * (y : Int)) = 10 * (y : Int) := by rw [IntKind.wrap_i64]; omega
                have hwr2 : IntKind.i64.wrap (10 * (y : Int) + (x : Int)) = 10 * (y : Int) + (x : Int) := by rw [IntKind.wrap_i64]; omega
                clear hx hy hdd
                go_wp2_with fail
                try (go_quiet (fail); go_wp2_with fail)
                go_roundw
                case rel => exact ⟨k + 1, by omega, by go_num, by rw [HT.out, HX.out, HY.out]; go_num, by first | exact hB | exact bel_drewN _ hB⟩
                case measure => simp [intOf]; omega
              · have j1 : ¬ (k : Int) < (l.length : Int) := by omega
                obtain rfl : k = l.length := by omega
                rw [List.take_length] at hb ⊢
                obtain ⟨y, hy⟩ : ∃ y, decV l = y := ⟨_, rfl⟩
                rw [hy] at hb ⊢
                by_cases ht : y ≤ top
                · have j2 : ¬ (top : Int) < (y : Int) := by omega
                  have hr : Hid (decN l top = some y) := by unfold Hid decN; rw [if_pos ⟨h0, h1, h2, h10, by rw [hy]; exact ht⟩, hy]
                  clear hy
                  go_wp2_with fail
                  go_ret
                  exact ⟨by rw [hr.out]; rfl, hB⟩
                · have j2 : (top : Int) < (y : Int) := by omega
                  have hr : Hid (decN l top = none) := if_neg (fun h => ht (by rw [← hy]; exact h.2.2.2.2))
                  clear hy
                  go_wp2_with fail
                  go_ret
                  exact ⟨by rw [hr.out]; rfl, hB⟩
          · have i2 : (10 : Int) < (l.length : Int) := by omega
            have hr : Hid (decN l top = none) := if_neg (fun h => h10 h.2.2.2.1)
            go_enter Tryz.func82, Tryz.ntmps82
            go_wp2_with fail
            refine HA.mono ?_
            rintro e w1 ⟨rfl, hb1⟩
            go_wp2_with fail
            go_ret
            exact ⟨by rw [hr.out]; rfl, hb1⟩
        · have i1 : ¬ (1 : Int) < (l.length : Int) := by omega
          have i2 : ¬ (10 : Int) < (l.length : Int) := by omega
          have h10 : l.length ≤ 10 := by omega
          go_enter Tryz.func82, Tryz.ntmps82
          go_wp2_with fail
          refine HA.mono ?_
          rintro e w1 ⟨rfl, hb1⟩
          go_wp2_with fail
          go_loopw [5, 6] (fun n i wr => ∃ k : Nat, k ≤ l.length ∧ i = .int .i64 k ∧ n = .int .i64 (decV (l.take k) : Int) ∧ Below w.heap.size w wr) (fun _ i _ => l.length - (intOf i).toNat)
          case atStart => exact ⟨0, Nat.zero_le _, rfl, rfl, hb1⟩
          case round =>
            clear hb1
            obtain ⟨k, hk, rfl, rfl, hB⟩ := hrel
            have hb := decV_lt10 (l.take k) (by rw [List.all_eq_true] at h1 ⊢; exact fun x hx => h1 x (List.mem_of_mem_take hx)) (by simp; omega)
            by_cases hlt : k < l.length
            · have j1 : (k : Int) < (l.length : Int) := by omega
              obtain ⟨d, hd, hld⟩ := byte_get l k hlt
              have hdd : isDig d = true := by rw [List.all_eq_true] at h1; exact h1 d (List.mem_of_getElem? hld)
              have hw := dig_wrap d hdd
              have HT : Hid (decV (l.take (k + 1)) = 10 * decV (l.take k) + (d.toNat - 48)) := decV_take l k d hld
              have hd2 : d.toNat - 48 ≤ 9 := by simp only [isDig, Bool.and_eq_true, decide_eq_true_eq] at hdd; omega
              obtain ⟨x, hx⟩ : ∃ x, d.toNat - 48 = x := ⟨_, rfl⟩
              obtain ⟨y, hy⟩ : ∃ y, decV (l.take k) = y := ⟨_, rfl⟩
              rw [hx] at hw hd2
              rw [hy] at hb
              rw [hy]
              have HX : Hid (d.toNat - 48 = x) := hx
              have HY : Hid (decV (l.take k) = y) := hy
              have hwr : IntKind.i64.wrap (10 * (y : Int)) = 10 * (y : Int) := by rw [IntKind.wrap_i64]; omega
              have hwr2 : IntKind.i64.wrap (10 * (y : Int) + (x : Int)) = 10 * (y : Int) + (x : Int) := by rw [IntKind.wrap_i64]; omega
              clear hx hy hdd
              go_wp2_with fail
              try (go_quiet (fail); go_wp2_with fail)
              go_roundw
              case rel => exact ⟨k + 1, by omega, by go_num, by rw [HT.out, HX.out, HY.out]; go_num, by first | exact hB | exact bel_drewN _ hB⟩
              case measure => simp [intOf]; omega
            · have j1 : ¬ (k : Int) < (l.length : Int) := by omega
              obtain rfl : k = l.length := by omega
              rw [List.take_length] at hb ⊢
              obtain ⟨y, hy⟩ : ∃ y, decV l = y := ⟨_, rfl⟩
              rw [hy] at hb ⊢
              by_cases ht : y ≤ top
              · have j2 : ¬ (top : Int) < (y : Int) := by omega
                have hr : Hid (decN l top = some y) := by unfold Hid decN; rw [if_pos ⟨h0, h1, h2, h10, by rw [hy]; exact ht⟩, hy]
                clear hy
                go_wp2_with fail
                go_ret
                exact ⟨by rw [hr.out]; rfl, hB⟩
              · have j2 : (top : Int) < (y : Int) := by omega
                have hr : Hid (decN l top = none) := if_neg (fun h => ht (by rw [← hy]; exact h.2.2.2.2))
                clear hy
                go_wp2_with fail
                go_ret
                exact ⟨by rw [hr.out]; rfl, hB⟩
    · have hr : Hid (decN l top = none) := if_neg (fun h => h1 h.2.1)
      rw [Bool.eq_false_iff.2 h1] at HA
      go_enter Tryz.func82, Tryz.ntmps82
      go_wp2_with fail
      refine HA.mono ?_
      rintro e w1 ⟨rfl, hb1⟩
      go_wp2_with fail
      go_ret
      exact ⟨by rw [hr.out]; rfl, hb1⟩
def quadK : Nat → Nat → List UInt8 → Option Nat
  | 0, n, l => match decN l 255 with
    | some v => some (256 * n + v)
    | none => none
  | k + 1, n, l => if Lib.indexByte l 46 < 0 then none else match decN (l.take (Lib.indexByte l 46).toNat) 255 with
    | some v => quadK k (256 * n + v) (l.drop ((Lib.indexByte l 46).toNat + 1))
    | none => none
theorem decN_le {l : List UInt8} {t v : Nat} (h : decN l t = some v) : v ≤ t := by
  unfold decN at h
  split at h
  · rename_i hc; obtain rfl := Option.some.inj h; exact hc.2.2.2.2
  · cases h
theorem idx_lt (l : List UInt8) (c : UInt8) : Lib.indexByte l c < l.length := by
  rcases Int.lt_or_le (Lib.indexByte l c) 0 with hi | hi
  · omega
  · obtain ⟨o, ho⟩ : ∃ o : Nat, Lib.indexByte l c = o := ⟨(Lib.indexByte l c).toNat, by omega⟩
    have := (List.getElem?_eq_some_iff.1 (Lib.indexByte_some ho).1).1
    omega
theorem ext_take (l : List UInt8) (i : Nat) : (ByteArray.mk l.toArray).extract 0 i = ⟨(l.take i).toArray⟩ := ByteArray.ext (by simp)
set_option maxRecDepth 100000 in
theorem refQuad_any (l : List UInt8) (w : World) (hs : l.length ≤ 281474976710656) :
    Calls Tryz.prog 80 #[.string ⟨l.toArray⟩] w fun e w' => e = .returned (.int .i64 (optI (quadK 3 0 l))) ∧ Below w.heap.size w w' := by
  go_enter Tryz.func80, Tryz.ntmps80
  go_wp2_with fail
  go_loopw [0, 3, 4] (fun s n k wr => ∃ (l' : List UInt8) (m j : Nat), s = .string ⟨l'.toArray⟩ ∧ n = .int .i64 m ∧ k = .int .i64 j ∧ j ≤ 4 ∧ l'.length ≤ 281474976710656 ∧ m < 256 ^ j ∧ (j < 4 → quadK (3 - j) m l' = quadK 3 0 l) ∧ (j = 4 → quadK 3 0 l = some m) ∧ Below w.heap.size w wr) (fun _ _ k _ => 4 - (intOf k).toNat)
  case atStart => exact ⟨l, 0, 0, rfl, rfl, rfl, by omega, hs, by decide, fun _ => rfl, fun h => by omega, Below.refl _ _⟩
  case round =>
    obtain ⟨l', m, j, rfl, rfl, rfl, hj, hs', hm, hq1, hq2, hB⟩ := hrel
    have hm2 : j ≤ 3 → m < 16777216 := fun h => Nat.lt_of_lt_of_le hm (Nat.pow_le_pow_right (j := 3) (show 256 > 0 by decide) h)
    by_cases h4 : j < 4
    · have hm3 := hm2 (by omega)
      have i4 : (j : Int) < 4 := by omega
      have hq := hq1 h4
      clear hq1 hq2
      have HD := dot_any l' wr hs'
      obtain ⟨di, hdi⟩ : ∃ di, Lib.indexByte l' 46 = di := ⟨_, rfl⟩
      have hd1 : -1 ≤ di := by rw [← hdi]; exact Lib.indexByte_ge _ _
      have hd2 : di < l'.length := by rw [← hdi]; exact idx_lt _ _
      rw [hdi] at HD
      by_cases h3 : j < 3
      · have i3 : (j : Int) < 3 := by omega
        obtain ⟨r, hr⟩ : ∃ r, 3 - j = r + 1 := ⟨2 - j, by omega⟩
        rw [hr] at hq
        by_cases hneg : di < 0
        · have HQ : Hid (quadK 3 0 l = none) := by unfold Hid; rw [← hq, quadK, hdi, if_pos hneg]
          clear hq hdi
          go_wp2_with fail
          refine HD.mono ?_
          rintro e w1 ⟨rfl, hb1⟩
          go_wp2_with fail
          go_ret
          exact ⟨by rw [HQ.out]; rfl, bel0 hB hb1⟩
        · obtain ⟨i, rfl⟩ : ∃ i : Nat, di = i := ⟨di.toNat, by omega⟩
          have hnn : ¬ (i : Int) < 0 := by omega
          have hE1 : (ByteArray.mk l'.toArray).extract 0 i = ⟨(l'.take i).toArray⟩ := ext_take l' i
          have hE2 : (ByteArray.mk l'.toArray).extract (i + 1) l'.length = ⟨(l'.drop (i + 1)).toArray⟩ := ext_drop l' (i + 1)
          go_wp2_with fail
          refine HD.mono ?_
          rintro e w1 ⟨rfl, hb1⟩
          go_wp2_with fail
          refine (refDecimal_any _ 255 w1 (by simp; omega)).mono ?_
          rintro e w2 ⟨rfl, hb2⟩
          cases hD : decN (l'.take i) 255 with
          | none =>
            have HQ : Hid (quadK 3 0 l = none) := by unfold Hid; rw [← hq, quadK, hdi, if_neg (show ¬ (i : Int) < 0 by omega), show ((i : Int)).toNat = i from Int.toNat_natCast i, hD]
            clear hq hdi
            simp only [optI]
            go_wp2_with fail
            go_ret
            exact ⟨by rw [HQ.out]; rfl, bel0 hB (bel0 hb1 hb2)⟩
          | some v =>
            have hv := decN_le hD
            simp only [optI]
            have hvv : ¬ (v : Int) < 0 := by omega
            have hwr : IntKind.i64.wrap (256 * (m : Int)) = 256 * (m : Int) := by rw [IntKind.wrap_i64]; omega
            have hwr2 : IntKind.i64.wrap (256 * (m : Int) + (v : Int)) = 256 * (m : Int) + (v : Int) := by rw [IntKind.wrap_i64]; omega
            have HM : Hid (256 * m + v < 256 ^ (j + 1)) := by unfold Hid; rw [Nat.pow_succ]; omega
            have HQ1 : Hid (j + 1 < 4 → quadK (3 - (j + 1)) (256 * m + v) (l'.drop (i + 1)) = quadK 3 0 l) := by
              unfold Hid
              intro _
              rw [show 3 - (j + 1) = r by omega, ← hq, quadK, hdi, if_neg (show ¬ (i : Int) < 0 by omega), show ((i : Int)).toNat = i from Int.toNat_natCast i, hD]
            have HQ2 : Hid (j + 1 = 4 → quadK 3 0 l = some (256 * m + v)) := by unfold Hid; intro h; omega
            clear hq hdi hD
            go_wp2_with fail
            go_roundw
            case rel => exact ⟨_, 256 * m + v, j + 1, rfl, by go_num, by go_num, by omega, by simp; omega, HM.out, HQ1.out, HQ2.out, bel0 hB (bel0 hb1 hb2)⟩
            case measure => simp [intOf]; omega
      · have i3 : ¬ (j : Int) < 3 := by omega
        obtain rfl : j = 3 := by omega
        go_wp2_with fail
        refine HD.mono ?_
        rintro e w1 ⟨rfl, hb1⟩
        go_wp2_with fail
        refine (refDecimal_any _ 255 w1 hs').mono ?_
        rintro e w2 ⟨rfl, hb2⟩
        cases hD : decN (l') 255 with
        | none =>
          have HQ : Hid (quadK 3 0 l = none) := by unfold Hid; rw [← hq, quadK, hD]
          clear hq hdi
          simp only [optI]
          go_wp2_with fail
          go_ret
          exact ⟨by rw [HQ.out]; rfl, bel0 hB (bel0 hb1 hb2)⟩
        | some v =>
          have hv := decN_le hD
          simp only [optI]
          have hvv : ¬ (v : Int) < 0 := by omega
          have hwr : IntKind.i64.wrap (256 * (m : Int)) = 256 * (m : Int) := by rw [IntKind.wrap_i64]; omega
          have hwr2 : IntKind.i64.wrap (256 * (m : Int) + (v : Int)) = 256 * (m : Int) + (v : Int) := by rw [IntKind.wrap_i64]; omega
          have HM : Hid (256 * m + v < 256 ^ (3 + 1)) := by unfold Hid; rw [Nat.pow_succ]; omega
          have HQ1 : Hid (3 + 1 < 4 → quadK (3 - (3 + 1)) (256 * m + v) l' = quadK 3 0 l) := by unfold Hid; intro h; omega
          have HQ2 : Hid (3 + 1 = 4 → quadK 3 0 l = some (256 * m + v)) := by unfold Hid; intro _; rw [← hq, quadK, hD]
          clear hq hdi hD
          go_wp2_with fail
          go_roundw
          case rel => exact ⟨_, 256 * m + v, 3 + 1, rfl, by go_num, by go_num, by omega, hs', HM.out, HQ1.out, HQ2.out, bel0 hB (bel0 hb1 hb2)⟩
          case measure => simp [intOf]
    · have i4 : ¬ (j : Int) < 4 := by omega
      have HQ : Hid (quadK 3 0 l = some m) := hq2 (by omega)
      clear hq1 hq2
      go_wp2_with fail
      go_ret
      exact ⟨by rw [HQ.out]; rfl, hB⟩
end Go.Proofs.YtffgkjmfeannoaaGreatDoor
namespace Go.Proofs.YtffgkjmfeannoaaGreatDoor
open Go.RowKit Go.Shelf

attribute [local go_sem] Oper.semAt_some

theorem index_dot (r : List UInt8) (w : World) : Calls Tryz.prog 111 #[.string ⟨r.toArray⟩, .string ⟨#[46]⟩] w fun e w' => e = .returned (.int .i64 (Lib.indexByte r 46)) ∧ w' = w := Any.strings_Index_one Tryz.l143 ⟨r.toArray⟩ 46 w
theorem cell_of {W : World} {b : Nat} {v : Value} {t : TypeId} {m : Nat × Nat} (h : W.heap[b]? = some (.cells #[v] t m)) : W.cell? ⟨b, 0, none⟩ = some v := by
  unfold World.cell?; rw [h]; simp
theorem froz_of {W : World} {b : Nat} {v : Value} {t : TypeId} (h : W.heap[b]? = some (.cells #[v] t (0, 0))) : W.frozen? ⟨b, 0, none⟩ = false := by
  simp [World.frozen?, h]
def sLen (b : Nat) (W : World) : Nat := match W.cell? ⟨b, 0, none⟩ with
  | some (.string s) => s.size
  | _ => 0
theorem sLen_of {W : World} {b : Nat} {r : List UInt8} (h : W.cell? ⟨b, 0, none⟩ = some (.string ⟨r.toArray⟩)) : sLen b W = r.length := by
  unfold sLen; rw [h]; simp [ByteArray.size]
theorem splitSeq_in (r : List UInt8) (w : World) : Calls Tryz.prog 88 #[.string ⟨r.toArray⟩, .string ⟨#[46]⟩] w fun e w' => e = .returned (.func (.func 109) #[] #[.pointer (some ⟨w.heap.size + 1, 0, none⟩), .pointer (some ⟨w.heap.size, 0, none⟩), .pointer (some ⟨w.heap.size + 1 + 1, 0, none⟩)]) ∧ w' = ((w.alloc (.cells #[.string ⟨r.toArray⟩] 9)).alloc (.cells #[.string ⟨#[46]⟩] 9)).alloc (.cells #[.int .i64 0] 3) := by
  go_enter Tryz.func88, Tryz.ntmps88
  go_wp2
  go_ret
  exact ⟨rfl, rfl⟩

set_option maxRecDepth 100000 in
set_option maxHeartbeats 1000000 in
theorem split_in (n : Nat) (hn : 1 ≤ n) (l b : Nat) (J : List UInt8 → World → Prop) (Jx Je : World → Prop)
    (hbox : ∀ r W, J r W → W.heap[b]? = some (.cells #[.string ⟨r.toArray⟩] 9 (0, 0)) ∧ W.heap[b + 1]? = some (.cells #[.string ⟨#[46]⟩] 9 (0, 0)) ∧ W.heap[b + 1 + 1]? = some (.cells #[.int .i64 0] 3 (0, 0)) ∧ r.length ≤ 16384)
    (hY1 : ∀ r W (i : Nat), J r W → Lib.indexByte r 46 = i → YieldAt Fence.wide (n - 1) Tryz.prog l #[.string ⟨(r.take i).toArray⟩] W fun e W' =>
      (e = .returned (.bool true) ∧ W'.heap[b]? = some (.cells #[.string ⟨r.toArray⟩] 9 (0, 0)) ∧ W'.heap[b + 1]? = some (.cells #[.string ⟨#[46]⟩] 9 (0, 0)) ∧ J (r.drop (i + 1)) (W'.setCell ⟨b, 0, none⟩ (.string ⟨(r.drop (i + 1)).toArray⟩))) ∨ (e = .returned (.bool false) ∧ Jx W'))
    (hY2 : ∀ r W, J r W → Lib.indexByte r 46 < 0 → YieldAt Fence.wide (n - 1) Tryz.prog l #[.string ⟨r.toArray⟩] W fun e W' => (∃ x, e = .returned (.bool x)) ∧ Je W')
    (r0 : List UInt8) (W0 : World) (h0 : J r0 W0) :
    CallsIn Fence.wide n Tryz.prog 109 #[.func (.yield l) #[] #[], .pointer (some ⟨b + 1, 0, none⟩), .pointer (some ⟨b, 0, none⟩), .pointer (some ⟨b + 1 + 1, 0, none⟩)] W0 fun e W' => (∃ v, e = .returned v) ∧ (Jx W' ∨ Je W') := by
  obtain ⟨z1, z2, z3, z4⟩ := hbox _ _ h0
  have c2 := cell_of z2
  refine callsIn_of_wp Tryz.func109 rfl trivial ?_ rfl
  simp only [Tryz.ntmps109, List.size_toArray, List.length_cons, List.length_nil, Nat.reduceAdd, Nat.reduceSub, Array.replicate_succ, Array.replicate_zero, List.push_toArray, List.append_toArray, List.nil_append, List.cons_append]
  gi_wp2
  gi_loopw [7] (fun _ wr => ∃ r, J r wr) (fun _ wr => sLen b wr)
  case atStart => exact ⟨r0, h0⟩
  case round =>
    clear z1 z2 z3 z4 c2
    obtain ⟨r, hJ⟩ := hrel
    obtain ⟨z1, z2, z3, z4⟩ := hbox _ _ hJ
    have c1 := cell_of z1
    have c2 := cell_of z2
    have c3 := cell_of z3
    have hI := index_dot r wr
    obtain ⟨di, hdi⟩ : ∃ di, Lib.indexByte r 46 = di := ⟨_, rfl⟩
    have hd1 : -1 ≤ di := by rw [← hdi]; exact Lib.indexByte_ge _ _
    have hd2 : di < r.length := by rw [← hdi]; exact idx_lt _ _
    rw [hdi] at hI
    by_cases hneg : di < 0
    · obtain ⟨fn, tmps, assign, body, hy, hR⟩ := hY2 r wr hJ (by rw [hdi]; exact hneg)
      gi_wp2_with (refine ⟨trivial, ?_⟩; gi_at_call 111; refine (callsIn_wide.2 hI).mono ?_; rintro e w' ⟨rfl, rfl⟩)
      refine hR.mono ?_
      rintro e W3 ⟨⟨x, rfl⟩, hJe⟩
      gi_wp2
      go_end0
      exact ⟨⟨_, rfl⟩, .inr hJe⟩
    · obtain ⟨i, rfl⟩ : ∃ i : Nat, di = i := ⟨di.toNat, by omega⟩
      have hnn : ¬ (i : Int) < 0 := by omega
      obtain ⟨fn, tmps, assign, body, hy, hR⟩ := hY1 r wr i hJ hdi
      have hE1 := ext_take r i
      have hE2 := ext_drop r (i + 1)
      gi_wp2_with (refine ⟨trivial, ?_⟩; gi_at_call 111; refine (callsIn_wide.2 hI).mono ?_; rintro e w' ⟨rfl, rfl⟩)
      refine hR.mono ?_
      rintro e W3 (⟨rfl, y1, y2, hJ3⟩ | ⟨rfl, hJx3⟩)
      · have d1 := cell_of y1
        have d2 := cell_of y2
        have f1 := froz_of y1
        have hm : sLen b (W3.setCell ⟨b, 0, none⟩ (.string ⟨(r.drop (i + 1)).toArray⟩)) < sLen b w' := by
          rw [sLen_of c1, sLen_of (cell_of (hbox _ _ hJ3).1)]
          simp; omega
        have HM : Hid (sLen b (W3.setCell ⟨b, 0, none⟩ (.string ⟨(r.drop (i + 1)).toArray⟩)) < sLen b w') := hm
        clear hm
        gi_wp2
        go_roundw
        case rel => exact ⟨_, hJ3⟩
        case measure => exact HM.out
      · gi_wp2
        refine bodyPost_ret (results_none rfl _ _ _) rfl ?_
        exact ⟨⟨_, rfl⟩, .inl hJx3⟩
def parts (r : List UInt8) : List (List UInt8) :=
  if Lib.indexByte r 46 < 0 then [r] else r.take (Lib.indexByte r 46).toNat :: parts (r.drop ((Lib.indexByte r 46).toNat + 1))
termination_by r.length
decreasing_by
  have := idx_lt r 46
  simp
  omega
theorem parts_neg {r : List UInt8} (h : Lib.indexByte r 46 < 0) : parts r = [r] := by rw [parts, if_pos h]
theorem parts_pos {r : List UInt8} {i : Nat} (h : Lib.indexByte r 46 = i) : parts r = r.take i :: parts (r.drop (i + 1)) := by
  rw [parts, if_neg (by omega), h]; rfl
theorem parts_ne (r : List UInt8) : 0 < (parts r).length := by
  rw [parts]; split <;> simp
theorem parts_len (m : Nat) : ∀ r : List UInt8, r.length ≤ m → (parts r).length ≤ m + 1 := by
  induction m using Nat.strongRecOn with
  | ind m ih =>
  intro r hr
  rw [parts]
  split
  · simp
  · rename_i h
    have h1 := idx_lt r 46
    have h2 := ih (m - 1) (by omega) (r.drop ((Lib.indexByte r 46).toNat + 1)) (by simp; omega)
    simp only [List.length_cons]
    omega
def evalP (n : Nat) : List (List UInt8) → Option Nat
  | [] => some n
  | p :: ps => match decN p 255 with
    | some v => evalP (256 * n + v) ps
    | none => none
theorem decN_dot {r : List UInt8} {i : Nat} (h : Lib.indexByte r 46 = i) (t : Nat) : decN r t = none := by
  unfold decN
  rw [if_neg]
  rintro ⟨_, ha, _⟩
  have h1 := (Lib.indexByte_some h).1
  rw [List.all_eq_true] at ha
  exact absurd (ha 46 (List.mem_of_getElem? h1)) (by decide)
theorem quadK_parts (k : Nat) : ∀ (n : Nat) (r : List UInt8), quadK k n r = if (parts r).length = k + 1 then evalP n (parts r) else none := by
  induction k with
  | zero =>
    intro n r
    rw [quadK]
    by_cases h : Lib.indexByte r 46 < 0
    · rw [parts_neg h, if_pos (show [r].length = 0 + 1 from rfl), evalP]
      cases decN r 255 <;> rfl
    · obtain ⟨i, hi⟩ : ∃ i : Nat, Lib.indexByte r 46 = i := ⟨(Lib.indexByte r 46).toNat, by omega⟩
      rw [decN_dot hi, parts_pos hi, if_neg]
      have := parts_ne (r.drop (i + 1))
      simp only [List.length_cons]
      omega
  | succ k ih =>
    intro n r
    rw [quadK]
    by_cases h : Lib.indexByte r 46 < 0
    · rw [if_pos h, parts_neg h, if_neg (by simp)]
    · obtain ⟨i, hi⟩ : ∃ i : Nat, Lib.indexByte r 46 = i := ⟨(Lib.indexByte r 46).toNat, by omega⟩
      rw [if_neg h, parts_pos hi, hi, show ((i : Int)).toNat = i from Int.toNat_natCast i, evalP]
      cases hd : decN (r.take i) 255 with
      | none =>
        show none = if (r.take i :: parts (r.drop (i + 1))).length = k + 1 + 1 then none else none
        rw [ite_self]
      | some v =>
        show quadK k (256 * n + v) (r.drop (i + 1)) = if (r.take i :: parts (r.drop (i + 1))).length = k + 1 + 1 then evalP (256 * n + v) (parts (r.drop (i + 1))) else none
        rw [ih]
        simp only [List.length_cons, Nat.add_right_cancel_iff]
theorem quad_none {l : List UInt8} (h : (parts l).length = 4 → evalP 0 (parts l) = none) : quadK 3 0 l = none := by
  rw [quadK_parts]
  split
  · rename_i h4; exact h h4
  · rfl
theorem shl_or (m v : Nat) (hm : m < 16777216) (hv : v ≤ 255) : bits .or .i64 (wrap64 ((m : Int) * 256)) (v : Int) = ((256 * m + v : Nat) : Int) := by
  have h1 : wrap64 ((m : Int) * 256) = ((256 * m : Nat) : Int) := by unfold wrap64; omega
  rw [h1]
  have a1 : (BitVec.ofInt 64 ((256 * m : Nat) : Int)).toNat = 256 * m := by
    rw [BitVec.ofInt_natCast, BitVec.toNat_ofNat]; exact Nat.mod_eq_of_lt (by omega)
  have a2 : (BitVec.ofInt 64 (v : Int)).toNat = v := by
    rw [BitVec.ofInt_natCast, BitVec.toNat_ofNat]; exact Nat.mod_eq_of_lt (by omega)
  have a3 : 256 * m ||| v = 256 * m + v := by
    have := Nat.two_pow_add_eq_or_of_lt (i := 8) (b := v) (by omega) m
    rw [show (256 : Nat) = 2 ^ 8 by decide]
    exact this.symm
  show IntKind.i64.wrap ((BitVec.ofInt 64 ((256 * m : Nat) : Int) ||| BitVec.ofInt 64 (v : Int)).toNat : Int) = _
  rw [BitVec.toNat_or, a1, a2, a3, IntKind.wrap_i64]
  omega
end Go.Proofs.YtffgkjmfeannoaaGreatDoor
namespace Go.Proofs.YtffgkjmfeannoaaGreatDoor
open Go.RowKit
open Go.RowKit
end Go.Proofs.YtffgkjmfeannoaaGreatDoor
