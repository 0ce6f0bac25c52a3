import Derived.Test.YtggifkdgkjmljaaGreatDoorZ3
import Derived.Test.YtggifkdgkjmljaaGreatDoorZ1
namespace Go.Proofs.YtggifkdgkjmljaaGreatDoor
open Go.RowKit
/-- how many hexadecimal digits stand at the beginning, and the number that they tell; no more than so many are read -/
def hexRun : Nat → List UInt8 → Nat → Nat × Nat
  | 0, _, n => (0, n)
  | _ + 1, [], n => (0, n)
  | f + 1, c :: r, n => match hexD c with
    | some d => ((hexRun f r (16 * n + d)).1 + 1, (hexRun f r (16 * n + d)).2)
    | none => (0, n)
/-- the piece with a number in braces: its length (0: none) and the number -/
def brS (l : List UInt8) (i : Nat) : Nat × Nat :=
  if l.length < i + 3 ∨ bt l (i + 2) ≠ 123 then (0, 0) else
    if (hexRun 6 (l.drop (i + 3)) 0).1 = 0 ∨ l.length ≤ i + 3 + (hexRun 6 (l.drop (i + 3)) 0).1 ∨ bt l (i + 3 + (hexRun 6 (l.drop (i + 3)) 0).1) ≠ 125 ∨ 1114111 < (hexRun 6 (l.drop (i + 3)) 0).2 ∨ (55296 ≤ (hexRun 6 (l.drop (i + 3)) 0).2 ∧ (hexRun 6 (l.drop (i + 3)) 0).2 ≤ 57343) then (0, 0)
    else (4 + (hexRun 6 (l.drop (i + 3)) 0).1, (hexRun 6 (l.drop (i + 3)) 0).2)
theorem hexRun_none {f : Nat} {l : List UInt8} {k : Nat} {c : UInt8} (h : l[k]? = some c) (hD : hexD c = none) (n : Nat) : hexRun f (l.drop k) n = (0, n) := by
  obtain ⟨hk, rfl⟩ := List.getElem?_eq_some_iff.1 h
  rw [List.drop_eq_getElem_cons hk]
  cases f with
  | zero => rfl
  | succ f => rw [hexRun, hD]
theorem hexRun_some {f : Nat} {l : List UInt8} {k : Nat} {c : UInt8} {d : Nat} (h : l[k]? = some c) (hD : hexD c = some d) (n : Nat) : hexRun (f + 1) (l.drop k) n = ((hexRun f (l.drop (k + 1)) (16 * n + d)).1 + 1, (hexRun f (l.drop (k + 1)) (16 * n + d)).2) := by
  obtain ⟨hk, rfl⟩ := List.getElem?_eq_some_iff.1 h
  rw [List.drop_eq_getElem_cons hk, hexRun, hD]
theorem hexRun_end (f : Nat) (l : List UInt8) (k : Nat) (h : l.length ≤ k) (n : Nat) : hexRun f (l.drop k) n = (0, n) := by
  rw [List.drop_eq_nil_of_le h]
  cases f <;> rfl
set_option maxRecDepth 100000 in
set_option maxHeartbeats 4000000 in
theorem refBraced_any (l : List UInt8) (i : Nat) (w : World) (hs : l.length ≤ 281474976710656) (hi : i < l.length) :
    Calls Tryz.prog 52 #[.string ⟨l.toArray⟩, .int .i64 (i : Int)] w fun e w' => e = .returned (.tuple #[.int .i64 ((brS l i).1 : Int), .int .i64 ((brS l i).2 : Int)]) ∧ Below w.heap.size w w' := by
  by_cases h1 : l.length < i + 3
  · have hr : Hid (brS l i = (0, 0)) := if_pos (.inl h1)
    have i1 : (l.length : Int) < (i : Int) + 3 := by omega
    go_enter Tryz.func52, Tryz.ntmps52
    go_wp2_with fail
    go_ret2
    exact ⟨by rw [hr.out]; rfl, Below.refl _ _⟩
  · have i1 : ¬ (l.length : Int) < (i : Int) + 3 := by omega
    have i2 : (i : Int) + 2 < (l.length : Int) := by omega
    obtain ⟨c, hc, hlc⟩ := byte_get l (i + 2) (by omega)
    by_cases h2 : c = 123
    · subst h2
      go_enter Tryz.func52, Tryz.ntmps52
      have hb2 : bt l (i + 2) = 123 := by rw [bt_of hlc]; rfl
      have HB : Hid (∀ K m, hexRun 6 (l.drop (i + 3)) 0 = (K, m) → brS l i = if K = 0 ∨ l.length ≤ i + 3 + K ∨ bt l (i + 3 + K) ≠ 125 ∨ 1114111 < m ∨ (55296 ≤ m ∧ m ≤ 57343) then (0, 0) else (4 + K, m)) := fun K m h => by
        unfold brS
        rw [if_neg (fun e => e.elim h1 (fun e => e hb2)), h]
      go_wp2_with fail
      go_loopw [6, 7] (fun vn vj wr => ∃ (K f m j : Nat), K + f = 6 ∧ vn = .int .i64 m ∧ vj = .int .i64 j ∧ j = i + 3 + K ∧ j ≤ l.length ∧ m < 16 ^ K ∧ hexRun 6 (l.drop (i + 3)) 0 = ((hexRun f (l.drop j) m).1 + K, (hexRun f (l.drop j) m).2) ∧ Below w.heap.size w wr) (fun _ vj _ => l.length - (intOf vj).toNat)
      case atStart => exact ⟨0, 6, 0, i + 3, rfl, rfl, by go_num, rfl, by omega, by decide, by simp, Below.refl _ _⟩
      case round =>
        obtain ⟨K, f, m, j, hKf0, rfl, rfl, hj0, hjl, hm, hrun, hB⟩ := hrel
        have hj : Hid (j = i + 3 + K) := hj0
        have hKf : Hid (K + f = 6) := hKf0
        have q3 : (i : Int) + 3 ≤ (j : Int) := by omega
        have q9 : (j : Int) ≤ (i : Int) + 9 := by omega
        have hm6 : m < 16777216 := Nat.lt_of_lt_of_le hm (Nat.pow_le_pow_right (j := 6) (show 16 > 0 by decide) (by omega))
        by_cases hlt : j < l.length
        · have k1 : (j : Int) < (l.length : Int) := by omega
          have k0 : (0 : Int) ≤ (j : Int) := by omega
          have k2 : ¬ (l.length : Int) ≤ (j : Int) := by omega
          obtain ⟨e, he, hle⟩ := byte_get l j hlt
          have HH := fun W => refHex_any e W
          cases hD : hexD e with
          | none =>
            rw [hexRun_none hle hD, Nat.zero_add] at hrun
            have hbr := HB.out K m hrun
            rw [← hj.out] at hbr
            rw [hD] at HH
            simp only [optI] at HH
            clear hrun hD hm
            by_cases c0 : K = 0
            · have hr : Hid (brS l i = (0, 0)) := by unfold Hid; rw [hbr, if_pos (.inl c0)]
              have e0 : ((j : Int) == (i : Int) + 3) = true := by rw [beq_iff_eq]; omega
              clear hbr
              clear hj0 hKf0
              go_wp2_with fail
              refine (HH _).mono ?_
              rintro e w2 ⟨rfl, rfl⟩
              go_wp2_with fail
              go_ret2
              exact ⟨by rw [hr.out]; rfl, hB⟩
            · have e0 : ((j : Int) == (i : Int) + 3) = false := by rw [beq_eq_false_iff_ne]; omega
              by_cases c1 : e = 125
              · have hbe : bt l j = 125 := by rw [bt_of hle, c1]; rfl
                subst c1
                by_cases c2 : 1114111 < m
                · have hr : Hid (brS l i = (0, 0)) := by unfold Hid; rw [hbr, if_pos (.inr (.inr (.inr (.inl c2))))]
                  have n1 : (1114111 : Int) < (m : Int) := by omega
                  clear hbr
                  clear hj0 hKf0
                  go_wp2_with fail
                  refine (HH _).mono ?_
                  rintro e w2 ⟨rfl, rfl⟩
                  go_wp2_with fail
                  go_ret2
                  exact ⟨by rw [hr.out]; rfl, hB⟩
                · have n1 : ¬ (1114111 : Int) < (m : Int) := by omega
                  by_cases c3 : 55296 ≤ m
                  · have n2 : (55296 : Int) ≤ (m : Int) := by omega
                    by_cases c4 : m ≤ 57343
                    · have n3 : (m : Int) ≤ 57343 := by omega
                      have hr : Hid (brS l i = (0, 0)) := by unfold Hid; rw [hbr, if_pos (.inr (.inr (.inr (.inr ⟨c3, c4⟩))))]
                      clear hbr
                      clear hj0 hKf0
                      go_wp2_with fail
                      refine (HH _).mono ?_
                      rintro e w2 ⟨rfl, rfl⟩
                      go_wp2_with fail
                      go_ret2
                      exact ⟨by rw [hr.out]; rfl, hB⟩
                    · have n3 : ¬ (m : Int) ≤ 57343 := by omega
                      have hr : Hid (brS l i = (4 + K, m)) := by unfold Hid; rw [hbr, if_neg (by rintro (h | h | h | h | h); exact c0 h; omega; exact h hbe; exact c2 h; exact c4 h.2)]
                      clear hbr
                      clear hj0 hKf0
                      go_wp2_with fail
                      refine (HH _).mono ?_
                      rintro e w2 ⟨rfl, rfl⟩
                      go_wp2_with fail
                      go_ret2
                      have := hj.out
                      exact ⟨by rw [hr.out]; simp; omega, hB⟩
                  · have n2 : ¬ (55296 : Int) ≤ (m : Int) := by omega
                    have hr : Hid (brS l i = (4 + K, m)) := by unfold Hid; rw [hbr, if_neg (by rintro (h | h | h | h | h); exact c0 h; omega; exact h hbe; exact c2 h; exact c3 h.1)]
                    clear hbr c0 c2 c3 hbe hm6
                    clear hj0 hKf0
                    obtain ⟨z, hz⟩ : ∃ z : Int, (m : Int) = z := ⟨_, rfl⟩
                    rw [hz] at n1 n2 ⊢
                    have HZ : Hid ((m : Int) = z) := hz
                    clear hz
                    go_wp2_with fail
                    refine (HH _).mono ?_
                    rintro e w2 ⟨rfl, rfl⟩
                    go_wp2_with fail
                    go_ret2
                    have := hj.out
                    have := HZ.out
                    exact ⟨by rw [hr.out]; simp; omega, hB⟩
              · have hr : Hid (brS l i = (0, 0)) := by unfold Hid; rw [hbr, if_pos (.inr (.inr (.inl (by rw [bt_of hle]; intro h; exact c1 (UInt8.toNat_inj.1 h)))))]
                have n0 : ((e.toNat : Int) == 125) = false := u8_ne (d := 125) c1
                have n00 : ((e.toNat : Int) != 125) = true := by rw [bne, n0]; rfl
                clear hbr
                clear hj0 hKf0
                go_wp2_with fail
                refine (HH _).mono ?_
                rintro e w2 ⟨rfl, rfl⟩
                go_wp2_with fail
                go_ret2
                exact ⟨by rw [hr.out]; rfl, hB⟩
          | some d =>
            have hd16 := hexD_lt hD
            cases f with
            | zero =>
              obtain rfl : K = 6 := by omega
              clear hKf
              have h0 : hexRun 0 (l.drop j) m = (0, m) := rfl
              rw [h0, Nat.zero_add] at hrun
              have hbr := HB.out 6 m hrun
              rw [← hj.out] at hbr
              have c1 : e ≠ 125 := fun h => by rw [h, show hexD 125 = none by decide] at hD; cases hD
              have hr : Hid (brS l i = (0, 0)) := by unfold Hid; rw [hbr, if_pos (.inr (.inr (.inl (by rw [bt_of hle]; intro h; exact c1 (UInt8.toNat_inj.1 h)))))]
              have n0 : ((e.toNat : Int) == 125) = false := u8_ne (d := 125) c1
              have n00 : ((e.toNat : Int) != 125) = true := by rw [bne, n0]; rfl
              have e0 : ((j : Int) == (i : Int) + 3) = false := by rw [beq_eq_false_iff_ne]; omega
              have e9 : ¬ (j : Int) < (i : Int) + 9 := by omega
              have jd : (0 : Int) ≤ (d : Int) := by omega
              rw [hD] at HH
              simp only [optI] at HH
              clear hbr hrun hD h0 hm
              clear hj0 hKf0
              go_wp2_with fail
              refine (HH _).mono ?_
              rintro e w2 ⟨rfl, rfl⟩
              go_wp2_with fail
              go_ret2
              exact ⟨by rw [hr.out]; rfl, hB⟩
            | succ f =>
              rw [hexRun_some hle hD] at hrun
              have HR : Hid (hexRun 6 (l.drop (i + 3)) 0 = ((hexRun f (l.drop (j + 1)) (16 * m + d)).1 + (K + 1), (hexRun f (l.drop (j + 1)) (16 * m + d)).2)) := by unfold Hid; rw [hrun]; simp; omega
              have HM : Hid (16 * m + d < 16 ^ (K + 1)) := by unfold Hid; rw [Nat.pow_succ]; omega
              have e9 : (j : Int) < (i : Int) + 9 := by omega
              have jd : (0 : Int) ≤ (d : Int) := by omega
              rw [hD] at HH
              simp only [optI] at HH
              have hwr : IntKind.i64.wrap (16 * (m : Int)) = 16 * (m : Int) := by rw [IntKind.wrap_i64]; omega
              have hwr2 : IntKind.i64.wrap (16 * (m : Int) + (d : Int)) = 16 * (m : Int) + (d : Int) := by rw [IntKind.wrap_i64]; omega
              clear hrun hD hm
              clear hj0 hKf0
              go_wp2_with fail
              refine (HH _).mono ?_
              rintro e w2 ⟨rfl, rfl⟩
              go_wp2_with fail
              refine (HH _).mono ?_
              rintro e w3 ⟨rfl, rfl⟩
              go_wp2_with fail
              go_roundw
              case rel => exact ⟨K + 1, f, 16 * m + d, j + 1, by have := hKf.out; omega, by go_num, by go_num, by have := hj.out; omega, by omega, HM.out, HR.out, hB⟩
              case measure => simp [intOf]; omega
        · have k1 : ¬ (j : Int) < (l.length : Int) := by omega
          have k2 : (l.length : Int) ≤ (j : Int) := by omega
          rw [hexRun_end f l j (by omega), Nat.zero_add] at hrun
          have hr : Hid (brS l i = (0, 0)) := by unfold Hid; rw [HB.out K m hrun, if_pos (.inr (.inl (by omega)))]
          clear hrun
          by_cases c0 : K = 0
          · have e0 : ((j : Int) == (i : Int) + 3) = true := by rw [beq_iff_eq]; omega
            clear hj0 hKf0
            go_wp2_with fail
            go_ret2
            exact ⟨by rw [hr.out]; rfl, hB⟩
          · have e0 : ((j : Int) == (i : Int) + 3) = false := by rw [beq_eq_false_iff_ne]; omega
            clear hj0 hKf0
            go_wp2_with fail
            go_ret2
            exact ⟨by rw [hr.out]; rfl, hB⟩
    · have hr : Hid (brS l i = (0, 0)) := if_pos (.inr (by rw [bt_of hlc]; intro e; exact h2 (UInt8.toNat_inj.1 e)))
      have hne : ((c.toNat : Int) == 123) = false := u8_ne (d := 123) h2
      have hnn : ((c.toNat : Int) != 123) = true := by rw [bne, hne]; rfl
      go_enter Tryz.func52, Tryz.ntmps52
      go_wp2_with fail
      go_ret2
      exact ⟨by rw [hr.out]; rfl, Below.refl _ _⟩
end Go.Proofs.YtggifkdgkjmljaaGreatDoor
