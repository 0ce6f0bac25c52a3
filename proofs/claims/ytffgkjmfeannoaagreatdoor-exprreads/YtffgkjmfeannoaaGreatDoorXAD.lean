import Derived.Test.YtffgkjmfeannoaaGreatDoorXAC
import Derived.Test.YtffgkjmfeannoaaGreatDoorXAA
import Derived.Laws.IdiomStrings
namespace Go.Proofs.YtffgkjmfeannoaaGreatDoor
open Go.RowKit
def hexC : Nat → List (Int × Nat) → Nat → Nat × Nat
  | 0, _, n => (0, n)
  | _ + 1, [], n => (0, n)
  | f + 1, c :: r, n => if 0 ≤ hexI c.1 then ((hexC f r (16 * n + (hexI c.1).toNat)).1 + 1, (hexC f r (16 * n + (hexI c.1).toNat)).2) else (0, n)
theorem hexC_no {f : Nat} {C : List (Int × Nat)} {k : Nat} {c : Int × Nat} (h : C[k]? = some c) (hc : ¬ 0 ≤ hexI c.1) (n : Nat) : hexC f (C.drop k) n = (0, n) := by
  obtain ⟨hk, rfl⟩ := List.getElem?_eq_some_iff.1 h
  rw [List.drop_eq_getElem_cons hk]
  cases f with
  | zero => rfl
  | succ f => rw [hexC, if_neg hc]
theorem hexC_yes {f : Nat} {C : List (Int × Nat)} {k : Nat} {c : Int × Nat} (h : C[k]? = some c) (hc : 0 ≤ hexI c.1) (n : Nat) : hexC (f + 1) (C.drop k) n = ((hexC f (C.drop (k + 1)) (16 * n + (hexI c.1).toNat)).1 + 1, (hexC f (C.drop (k + 1)) (16 * n + (hexI c.1).toNat)).2) := by
  obtain ⟨hk, rfl⟩ := List.getElem?_eq_some_iff.1 h
  rw [List.drop_eq_getElem_cons hk, hexC, if_pos hc]
theorem hexI_lt (r : Int) : -1 ≤ hexI r ∧ hexI r < 16 := by
  unfold hexI
  repeat' split
  all_goals omega
theorem shl_or32 (m d : Nat) (hm : m < 1048576) (hd : d < 16) : bits .or .i32 ((m : Int) * 16) (d : Int) = ((16 * m + d : Nat) : Int) := by
  have h1 : (m : Int) * 16 = ((16 * m : Nat) : Int) := by omega
  rw [h1]
  have a1 : (BitVec.ofInt 32 ((16 * m : Nat) : Int)).toNat = 16 * m := by
    rw [BitVec.ofInt_natCast, BitVec.toNat_ofNat]; exact Nat.mod_eq_of_lt (by omega)
  have a2 : (BitVec.ofInt 32 (d : Int)).toNat = d := by
    rw [BitVec.ofInt_natCast, BitVec.toNat_ofNat]; exact Nat.mod_eq_of_lt (by omega)
  have a3 : 16 * m ||| d = 16 * m + d := by
    have := Nat.two_pow_add_eq_or_of_lt (i := 4) (b := d) (by omega) m
    rw [show (16 : Nat) = 2 ^ 4 by decide]
    exact this.symm
  show IntKind.i32.wrap ((BitVec.ofInt 32 ((16 * m : Nat) : Int) ||| BitVec.ofInt 32 (d : Int)).toNat : Int) = _
  rw [BitVec.toNat_or, a1, a2, a3, IntKind.wrap_i32]
  omega
set_option maxRecDepth 100000 in
set_option maxHeartbeats 1000000 in
theorem hexAt_any (C : List (Int × Nat)) (ad : Addr) (cap most : Nat) (w : World) (hmost : most ≤ 6) (hC0 : CH w ad C) (hr0 : ∀ c ∈ C, -2 ≤ c.1 ∧ c.1 ≤ 1114111) (hend0 : ∃ (k : Nat) (c : Int × Nat), C[k]? = some c ∧ ¬ 0 ≤ hexI c.1) :
    Calls Tryz.prog 107 #[.slice (some ad) C.length cap, .int .i64 (most : Int)] w fun e w' => e = .returned (.tuple #[.int .i32 ((hexC most C 0).2 : Int), .int .i64 ((hexC most C 0).1 : Int)]) ∧ w' = w := by
  have hC : Hid (CH w ad C) := hC0
  have hr : Hid (∀ c ∈ C, -2 ≤ c.1 ∧ c.1 ≤ 1114111) := hr0
  obtain ⟨ke, ce, hke, hce0⟩ := hend0
  have hce : Hid (¬ 0 ≤ hexI ce.1) := hce0
  clear hce0
  clear hC0 hr0
  go_enter Tryz.func107, Tryz.ntmps107
  go_wp2_with fail
  go_loop [6, 7] (fun vv vn => ∃ (n f m : Nat), vv = .int .i32 m ∧ vn = .int .i64 n ∧ Hid (n + f = most ∧ n ≤ ke ∧ m < 16 ^ n ∧ hexC most C 0 = ((hexC f (C.drop n) m).1 + n, (hexC f (C.drop n) m).2))) (fun _ vn => most - (intOf vn).toNat)
  case atStart => exact ⟨0, most, 0, rfl, rfl, by omega, Nat.zero_le _, by decide, by simp⟩
  case round =>
    obtain ⟨n, f, m, rfl, rfl, hh⟩ := hrel
    obtain ⟨hnf, hnk, hm, hq⟩ := hh.out
    have hke2 := (List.getElem?_eq_some_iff.1 hke).1
    cases f with
    | zero =>
      have i1 : ¬ (n : Int) < (most : Int) := by omega
      have h0 : hexC 0 (C.drop n) m = (0, m) := rfl
      rw [h0, Nat.zero_add] at hq
      have HQ : Hid (hexC most C 0 = (n, m)) := hq
      clear hq h0 hh hnf hm
      go_wp2_with fail
      go_ret2
      exact ⟨by rw [HQ.out]; rfl, rfl⟩
    | succ f =>
      have i1 : (n : Int) < (most : Int) := by omega
      have hnl : n < C.length := by omega
      have i2 : (n : Int) < (C.length : Int) := by omega
      have i0 : (0 : Int) ≤ (n : Int) := by omega
      obtain ⟨c, hc⟩ : ∃ c, C[n]? = some c := ⟨_, List.getElem?_eq_getElem hnl⟩
      obtain ⟨x0, x1⟩ := hC.out n c hc
      obtain ⟨r0, r1⟩ := hr.out c (List.mem_of_getElem? hc)
      have HV := fun W => hexValue_any c.1 W r0 r1
      obtain ⟨q0, q1⟩ := hexI_lt c.1
      by_cases hp : 0 ≤ hexI c.1
      · obtain ⟨d, hd⟩ : ∃ d : Nat, hexI c.1 = d := ⟨(hexI c.1).toNat, by omega⟩
        rw [hexC_yes hc hp, hd, show ((d : Int)).toNat = d from Int.toNat_natCast d] at hq
        have hm2 : m < 1048576 := Nat.lt_of_lt_of_le hm (Nat.pow_le_pow_right (j := 5) (show 16 > 0 by decide) (by omega))
        have hne : n ≠ ke := fun e => by
          have h1 := hce.out
          rw [e, hke] at hc
          rw [← Option.some.inj hc] at hp
          omega
        have HH : Hid (n + 1 + f = most ∧ n + 1 ≤ ke ∧ 16 * m + d < 16 ^ (n + 1) ∧ hexC most C 0 = ((hexC f (C.drop (n + 1)) (16 * m + d)).1 + (n + 1), (hexC f (C.drop (n + 1)) (16 * m + d)).2)) := ⟨by omega, by omega, by rw [Nat.pow_succ]; omega, by rw [hq]; simp; omega⟩
        have hb := shl_or32 m d hm2 (by omega)
        have jd : (0 : Int) ≤ (d : Int) := by omega
        rw [hd] at HV
        obtain ⟨c0, hc0⟩ : ∃ z, c.1 = z := ⟨_, rfl⟩
        rw [hc0] at x0 HV
        have hcast : ((16 * m + d : Nat) : Int) = 16 * (m : Int) + (d : Int) := by omega
        have HZ : Hid (n + (f + 1) = most) := hnf
        clear hq hh hp hd hm hne hnf hc0 r0 r1 q0 q1 hcast
        go_wp2_with fail
        refine (HV _).mono ?_
        rintro e w2 ⟨rfl, rfl⟩
        go_wp2_with fail
        refine (HV _).mono ?_
        rintro e w3 ⟨rfl, rfl⟩
        go_wp2_with fail
        go_round
        case rel => exact ⟨n + 1, f, 16 * m + d, by go_num, by go_num, HH⟩
        case measure => have := HZ.out; simp [intOf]; omega
      · rw [hexC_no hc hp, Nat.zero_add] at hq
        have HQ : Hid (hexC most C 0 = (n, m)) := hq
        obtain ⟨z, hz⟩ : ∃ z, hexI c.1 = z := ⟨_, rfl⟩
        rw [hz] at HV hp
        have jz : ¬ (0 : Int) ≤ z := hp
        obtain ⟨c0, hc0⟩ : ∃ z, c.1 = z := ⟨_, rfl⟩
        rw [hc0] at x0 HV
        clear hq hh hm hnf hc0 r0 r1 q0 q1 hz hp
        go_wp2_with fail
        refine (HV _).mono ?_
        rintro e w2 ⟨rfl, rfl⟩
        go_wp2_with fail
        go_ret2
        exact ⟨by rw [HQ.out]; rfl, rfl⟩
def hexD (c : UInt8) : Option Nat :=
  if 48 ≤ c.toNat ∧ c.toNat ≤ 57 then some (c.toNat - 48) else if 97 ≤ c.toNat ∧ c.toNat ≤ 102 then some (c.toNat - 87) else if 65 ≤ c.toNat ∧ c.toNat ≤ 70 then some (c.toNat - 55) else none
def binD (c : UInt8) : Option Nat := if c = 48 then some 0 else if c = 49 then some 1 else none
def foldN (b : Nat) (D : UInt8 → Option Nat) : List UInt8 → Nat → Option Nat
  | [], n => some n
  | c :: r, n => match D c with
    | some d => foldN b D r (b * n + d)
    | none => none
theorem hexD_lt {c : UInt8} {d : Nat} (h : hexD c = some d) : d < 16 := by
  unfold hexD at h
  split at h
  · obtain rfl := Option.some.inj h; omega
  · split at h
    · obtain rfl := Option.some.inj h; omega
    · split at h
      · obtain rfl := Option.some.inj h; omega
      · cases h
set_option maxRecDepth 100000 in
theorem refHex_any (c : UInt8) (w : World) :
    Calls Tryz.prog 81 #[.int .u8 (c.toNat : Int)] w fun e w' => e = .returned (.int .i64 (optI (hexD c))) ∧ w' = w := by
  obtain ⟨x, hx⟩ : ∃ x, c.toNat = x := ⟨_, rfl⟩
  have h256 : x < 256 := by rw [← hx]; exact c.toNat_lt
  have h48 : 48 ≤ x → IntKind.u8.wrap ((x : Int) - 48) = (x : Int) - 48 := fun h => by rw [IntKind.wrap_u8]; omega
  have h97 : 97 ≤ x → IntKind.u8.wrap ((x : Int) - 97) = (x : Int) - 97 := fun h => by rw [IntKind.wrap_u8]; omega
  have h65 : 65 ≤ x → IntKind.u8.wrap ((x : Int) - 65) = (x : Int) - 65 := fun h => by rw [IntKind.wrap_u8]; omega
  by_cases a1 : 48 ≤ x ∧ x ≤ 57
  · have hr : Hid (hexD c = some (x - 48)) := by unfold Hid hexD; rw [hx, if_pos a1]
    have e := h48 a1.1
    have j0 : ¬ (x : Int) < 48 := by omega
    have j1 : (48 : Int) ≤ (x : Int) := by omega
    have j2 : (x : Int) ≤ 57 := by omega
    clear h48 h97 h65
    rw [hx]
    go_enter Tryz.func81, Tryz.ntmps81
    go_wp2
    go_ret
    refine ⟨?_, rfl⟩
    rw [hr.out]
    simp [optI]
    try omega
  · by_cases a2 : 97 ≤ x ∧ x ≤ 102
    · have hr : Hid (hexD c = some (x - 97 + 10)) := by unfold Hid hexD; rw [hx, if_neg a1, if_pos a2]; exact congrArg some (by omega)
      have e := h97 a2.1
      have j0 : ¬ (x : Int) ≤ 57 := by omega
      have j1 : (48 : Int) ≤ (x : Int) := by omega
      have j2 : (97 : Int) ≤ (x : Int) := by omega
      have j3 : (x : Int) ≤ 102 := by omega
      clear h48 h97 h65
      rw [hx]
      go_enter Tryz.func81, Tryz.ntmps81
      go_wp2
      go_ret
      refine ⟨?_, rfl⟩
      rw [hr.out]
      simp [optI]
      try omega
    · by_cases a3 : 65 ≤ x ∧ x ≤ 70
      · have hr : Hid (hexD c = some (x - 65 + 10)) := by unfold Hid hexD; rw [hx, if_neg a1, if_neg a2, if_pos a3]; exact congrArg some (by omega)
        have e := h65 a3.1
        have j0 : ¬ (x : Int) ≤ 57 := by omega
        have j1 : (48 : Int) ≤ (x : Int) := by omega
        have j2 : ¬ (97 : Int) ≤ (x : Int) := by omega
        have j3 : (65 : Int) ≤ (x : Int) := by omega
        have j4 : (x : Int) ≤ 70 := by omega
        clear h48 h97 h65
        rw [hx]
        go_enter Tryz.func81, Tryz.ntmps81
        go_wp2
        go_ret
        refine ⟨?_, rfl⟩
        rw [hr.out]
        simp [optI]
        try omega
      · have hr : Hid (hexD c = none) := by unfold Hid hexD; rw [hx, if_neg a1, if_neg a2, if_neg a3]
        clear h48 h97 h65
        rw [hx]
        have b1 : (decide ((48 : Int) ≤ (x : Int)) && decide ((x : Int) ≤ 57)) = false := by rw [Bool.eq_false_iff]; simp; omega
        go_enter Tryz.func81, Tryz.ntmps81
        by_cases c1 : (48 : Int) ≤ (x : Int)
        · have d1 : ¬ (x : Int) ≤ 57 := by omega
          by_cases c2 : (97 : Int) ≤ (x : Int)
          · have d2 : ¬ (x : Int) ≤ 102 := by omega
            have c3 : (65 : Int) ≤ (x : Int) := by omega
            have d3 : ¬ (x : Int) ≤ 70 := by omega
            go_wp2
            go_ret
            exact ⟨by rw [hr.out]; rfl, rfl⟩
          · by_cases c3 : (65 : Int) ≤ (x : Int)
            · have d3 : ¬ (x : Int) ≤ 70 := by omega
              go_wp2
              go_ret
              exact ⟨by rw [hr.out]; rfl, rfl⟩
            · go_wp2
              go_ret
              exact ⟨by rw [hr.out]; rfl, rfl⟩
        · have c2 : ¬ (97 : Int) ≤ (x : Int) := by omega
          have c3 : ¬ (65 : Int) ≤ (x : Int) := by omega
          go_wp2
          go_ret
          exact ⟨by rw [hr.out]; rfl, rfl⟩
def hexRun : Nat → List UInt8 → Nat → Nat × Nat
  | 0, _, n => (0, n)
  | _ + 1, [], n => (0, n)
  | f + 1, c :: r, n => match hexD c with
    | some d => ((hexRun f r (16 * n + d)).1 + 1, (hexRun f r (16 * n + d)).2)
    | none => (0, n)
def brS (l : List UInt8) (i : Nat) : Nat × Nat :=
  if l.length < i + 3 ∨ bt l (i + 2) ≠ 123 then (0, 0) else
    if (hexRun 6 (l.drop (i + 3)) 0).1 = 0 ∨ l.length ≤ i + 3 + (hexRun 6 (l.drop (i + 3)) 0).1 ∨ bt l (i + 3 + (hexRun 6 (l.drop (i + 3)) 0).1) ≠ 125 ∨ 1114111 < (hexRun 6 (l.drop (i + 3)) 0).2 ∨ (55296 ≤ (hexRun 6 (l.drop (i + 3)) 0).2 ∧ (hexRun 6 (l.drop (i + 3)) 0).2 ≤ 57343) then (0, 0)
    else (4 + (hexRun 6 (l.drop (i + 3)) 0).1, (hexRun 6 (l.drop (i + 3)) 0).2)
theorem hexRun_none {f : Nat} {l : List UInt8} {k : Nat} {c : UInt8} (h : l[k]? = some c) (hD : hexD c = none) (n : Nat) : hexRun f (l.drop k) n = (0, n) := by
  obtain ⟨hk, rfl⟩ := List.getElem?_eq_some_iff.1 h
  rw [List.drop_eq_getElem_cons hk]
  cases f with
  | zero => rfl
  | succ f => rw [hexRun, hD]
theorem hexRun_some {f : Nat} {l : List UInt8} {k : Nat} {c : UInt8} {d : Nat} (h : l[k]? = some c) (hD : hexD c = some d) (n : Nat) : hexRun (f + 1) (l.drop k) n = ((hexRun f (l.drop (k + 1)) (16 * n + d)).1 + 1, (hexRun f (l.drop (k + 1)) (16 * n + d)).2) := by
  obtain ⟨hk, rfl⟩ := List.getElem?_eq_some_iff.1 h
  rw [List.drop_eq_getElem_cons hk, hexRun, hD]
theorem hexRun_end (f : Nat) (l : List UInt8) (k : Nat) (h : l.length ≤ k) (n : Nat) : hexRun f (l.drop k) n = (0, n) := by
  rw [List.drop_eq_nil_of_le h]
  cases f <;> rfl
set_option maxRecDepth 100000 in
set_option maxHeartbeats 4000000 in
theorem refBraced_any (l : List UInt8) (i : Nat) (w : World) (hs : l.length ≤ 281474976710656) (hi : i < l.length) :
    Calls Tryz.prog 94 #[.string ⟨l.toArray⟩, .int .i64 (i : Int)] w fun e w' => e = .returned (.tuple #[.int .i64 ((brS l i).1 : Int), .int .i64 ((brS l i).2 : Int)]) ∧ Below w.heap.size w w' := by
  by_cases h1 : l.length < i + 3
  · have hr : Hid (brS l i = (0, 0)) := if_pos (.inl h1)
    have i1 : (l.length : Int) < (i : Int) + 3 := by omega
    go_enter Tryz.func94, Tryz.ntmps94
    go_wp2_with fail
    go_ret2
    exact ⟨by rw [hr.out]; rfl, Below.refl _ _⟩
  · have i1 : ¬ (l.length : Int) < (i : Int) + 3 := by omega
    have i2 : (i : Int) + 2 < (l.length : Int) := by omega
    obtain ⟨c, hc, hlc⟩ := byte_get l (i + 2) (by omega)
    by_cases h2 : c = 123
    · subst h2
      go_enter Tryz.func94, Tryz.ntmps94
      have hb2 : bt l (i + 2) = 123 := by rw [bt_of hlc]; rfl
      have HB : Hid (∀ K m, hexRun 6 (l.drop (i + 3)) 0 = (K, m) → brS l i = if K = 0 ∨ l.length ≤ i + 3 + K ∨ bt l (i + 3 + K) ≠ 125 ∨ 1114111 < m ∨ (55296 ≤ m ∧ m ≤ 57343) then (0, 0) else (4 + K, m)) := fun K m h => by
        unfold brS
        rw [if_neg (fun e => e.elim h1 (fun e => e hb2)), h]
      go_wp2_with fail
      go_loopw [6, 7] (fun vn vj wr => ∃ (K f m j : Nat), K + f = 6 ∧ vn = .int .i64 m ∧ vj = .int .i64 j ∧ j = i + 3 + K ∧ j ≤ l.length ∧ m < 16 ^ K ∧ hexRun 6 (l.drop (i + 3)) 0 = ((hexRun f (l.drop j) m).1 + K, (hexRun f (l.drop j) m).2) ∧ Below w.heap.size w wr) (fun _ vj _ => l.length - (intOf vj).toNat)
      case atStart => exact ⟨0, 6, 0, i + 3, rfl, rfl, by go_num, rfl, by omega, by decide, by simp, Below.refl _ _⟩
      case round =>
        obtain ⟨K, f, m, j, hKf0, rfl, rfl, hj0, hjl, hm, hrun, hB⟩ := hrel
        have hj : Hid (j = i + 3 + K) := hj0
        have hKf : Hid (K + f = 6) := hKf0
        have q3 : (i : Int) + 3 ≤ (j : Int) := by omega
        have q9 : (j : Int) ≤ (i : Int) + 9 := by omega
        have hm6 : m < 16777216 := Nat.lt_of_lt_of_le hm (Nat.pow_le_pow_right (j := 6) (show 16 > 0 by decide) (by omega))
        by_cases hlt : j < l.length
        · have k1 : (j : Int) < (l.length : Int) := by omega
          have k0 : (0 : Int) ≤ (j : Int) := by omega
          have k2 : ¬ (l.length : Int) ≤ (j : Int) := by omega
          obtain ⟨e, he, hle⟩ := byte_get l j hlt
          have HH := fun W => refHex_any e W
          cases hD : hexD e with
          | none =>
            rw [hexRun_none hle hD, Nat.zero_add] at hrun
            have hbr := HB.out K m hrun
            rw [← hj.out] at hbr
            rw [hD] at HH
            simp only [optI] at HH
            clear hrun hD hm
            by_cases c0 : K = 0
            · have hr : Hid (brS l i = (0, 0)) := by unfold Hid; rw [hbr, if_pos (.inl c0)]
              have e0 : ((j : Int) == (i : Int) + 3) = true := by rw [beq_iff_eq]; omega
              clear hbr
              clear hj0 hKf0
              go_wp2_with fail
              refine (HH _).mono ?_
              rintro e w2 ⟨rfl, rfl⟩
              go_wp2_with fail
              go_ret2
              exact ⟨by rw [hr.out]; rfl, hB⟩
            · have e0 : ((j : Int) == (i : Int) + 3) = false := by rw [beq_eq_false_iff_ne]; omega
              by_cases c1 : e = 125
              · have hbe : bt l j = 125 := by rw [bt_of hle, c1]; rfl
                subst c1
                by_cases c2 : 1114111 < m
                · have hr : Hid (brS l i = (0, 0)) := by unfold Hid; rw [hbr, if_pos (.inr (.inr (.inr (.inl c2))))]
                  have n1 : (1114111 : Int) < (m : Int) := by omega
                  clear hbr
                  clear hj0 hKf0
                  go_wp2_with fail
                  refine (HH _).mono ?_
                  rintro e w2 ⟨rfl, rfl⟩
                  go_wp2_with fail
                  go_ret2
                  exact ⟨by rw [hr.out]; rfl, hB⟩
                · have n1 : ¬ (1114111 : Int) < (m : Int) := by omega
                  by_cases c3 : 55296 ≤ m
                  · have n2 : (55296 : Int) ≤ (m : Int) := by omega
                    by_cases c4 : m ≤ 57343
                    · have n3 : (m : Int) ≤ 57343 := by omega
                      have hr : Hid (brS l i = (0, 0)) := by unfold Hid; rw [hbr, if_pos (.inr (.inr (.inr (.inr ⟨c3, c4⟩))))]
                      clear hbr
                      clear hj0 hKf0
                      go_wp2_with fail
                      refine (HH _).mono ?_
                      rintro e w2 ⟨rfl, rfl⟩
                      go_wp2_with fail
                      go_ret2
                      exact ⟨by rw [hr.out]; rfl, hB⟩
                    · have n3 : ¬ (m : Int) ≤ 57343 := by omega
                      have hr : Hid (brS l i = (4 + K, m)) := by unfold Hid; rw [hbr, if_neg (by rintro (h | h | h | h | h); exact c0 h; omega; exact h hbe; exact c2 h; exact c4 h.2)]
                      clear hbr
                      clear hj0 hKf0
                      go_wp2_with fail
                      refine (HH _).mono ?_
                      rintro e w2 ⟨rfl, rfl⟩
                      go_wp2_with fail
                      go_ret2
                      have := hj.out
                      exact ⟨by rw [hr.out]; simp; omega, hB⟩
                  · have n2 : ¬ (55296 : Int) ≤ (m : Int) := by omega
                    have hr : Hid (brS l i = (4 + K, m)) := by unfold Hid; rw [hbr, if_neg (by rintro (h | h | h | h | h); exact c0 h; omega; exact h hbe; exact c2 h; exact c3 h.1)]
                    clear hbr c0 c2 c3 hbe hm6
                    clear hj0 hKf0
                    obtain ⟨z, hz⟩ : ∃ z : Int, (m : Int) = z := ⟨_, rfl⟩
                    rw [hz] at n1 n2 ⊢
                    have HZ : Hid ((m : Int) = z) := hz
                    clear hz
                    go_wp2_with fail
                    refine (HH _).mono ?_
                    rintro e w2 ⟨rfl, rfl⟩
                    go_wp2_with fail
                    go_ret2
                    have := hj.out
                    have := HZ.out
                    exact ⟨by rw [hr.out]; simp; omega, hB⟩
              · have hr : Hid (brS l i = (0, 0)) := by unfold Hid; rw [hbr, if_pos (.inr (.inr (.inl (by rw [bt_of hle]; intro h; exact c1 (UInt8.toNat_inj.1 h)))))]
                have n0 : ((e.toNat : Int) == 125) = false := u8_ne (d := 125) c1
                have n00 : ((e.toNat : Int) != 125) = true := by rw [bne, n0]; rfl
                clear hbr
                clear hj0 hKf0
                go_wp2_with fail
                refine (HH _).mono ?_
                rintro e w2 ⟨rfl, rfl⟩
                go_wp2_with fail
                go_ret2
                exact ⟨by rw [hr.out]; rfl, hB⟩
          | some d =>
            have hd16 := hexD_lt hD
            cases f with
            | zero =>
              obtain rfl : K = 6 := by omega
              clear hKf
              have h0 : hexRun 0 (l.drop j) m = (0, m) := rfl
              rw [h0, Nat.zero_add] at hrun
              have hbr := HB.out 6 m hrun
              rw [← hj.out] at hbr
              have c1 : e ≠ 125 := fun h => by rw [h, show hexD 125 = none by decide] at hD; cases hD
              have hr : Hid (brS l i = (0, 0)) := by unfold Hid; rw [hbr, if_pos (.inr (.inr (.inl (by rw [bt_of hle]; intro h; exact c1 (UInt8.toNat_inj.1 h)))))]
              have n0 : ((e.toNat : Int) == 125) = false := u8_ne (d := 125) c1
              have n00 : ((e.toNat : Int) != 125) = true := by rw [bne, n0]; rfl
              have e0 : ((j : Int) == (i : Int) + 3) = false := by rw [beq_eq_false_iff_ne]; omega
              have e9 : ¬ (j : Int) < (i : Int) + 9 := by omega
              have jd : (0 : Int) ≤ (d : Int) := by omega
              rw [hD] at HH
              simp only [optI] at HH
              clear hbr hrun hD h0 hm
              clear hj0 hKf0
              go_wp2_with fail
              refine (HH _).mono ?_
              rintro e w2 ⟨rfl, rfl⟩
              go_wp2_with fail
              go_ret2
              exact ⟨by rw [hr.out]; rfl, hB⟩
            | succ f =>
              rw [hexRun_some hle hD] at hrun
              have HR : Hid (hexRun 6 (l.drop (i + 3)) 0 = ((hexRun f (l.drop (j + 1)) (16 * m + d)).1 + (K + 1), (hexRun f (l.drop (j + 1)) (16 * m + d)).2)) := by unfold Hid; rw [hrun]; simp; omega
              have HM : Hid (16 * m + d < 16 ^ (K + 1)) := by unfold Hid; rw [Nat.pow_succ]; omega
              have e9 : (j : Int) < (i : Int) + 9 := by omega
              have jd : (0 : Int) ≤ (d : Int) := by omega
              rw [hD] at HH
              simp only [optI] at HH
              have hwr : IntKind.i64.wrap (16 * (m : Int)) = 16 * (m : Int) := by rw [IntKind.wrap_i64]; omega
              have hwr2 : IntKind.i64.wrap (16 * (m : Int) + (d : Int)) = 16 * (m : Int) + (d : Int) := by rw [IntKind.wrap_i64]; omega
              clear hrun hD hm
              clear hj0 hKf0
              go_wp2_with fail
              refine (HH _).mono ?_
              rintro e w2 ⟨rfl, rfl⟩
              go_wp2_with fail
              refine (HH _).mono ?_
              rintro e w3 ⟨rfl, rfl⟩
              go_wp2_with fail
              go_roundw
              case rel => exact ⟨K + 1, f, 16 * m + d, j + 1, by have := hKf.out; omega, by go_num, by go_num, by have := hj.out; omega, by omega, HM.out, HR.out, hB⟩
              case measure => simp [intOf]; omega
        · have k1 : ¬ (j : Int) < (l.length : Int) := by omega
          have k2 : (l.length : Int) ≤ (j : Int) := by omega
          rw [hexRun_end f l j (by omega), Nat.zero_add] at hrun
          have hr : Hid (brS l i = (0, 0)) := by unfold Hid; rw [HB.out K m hrun, if_pos (.inr (.inl (by omega)))]
          clear hrun
          by_cases c0 : K = 0
          · have e0 : ((j : Int) == (i : Int) + 3) = true := by rw [beq_iff_eq]; omega
            clear hj0 hKf0
            go_wp2_with fail
            go_ret2
            exact ⟨by rw [hr.out]; rfl, hB⟩
          · have e0 : ((j : Int) == (i : Int) + 3) = false := by rw [beq_eq_false_iff_ne]; omega
            clear hj0 hKf0
            go_wp2_with fail
            go_ret2
            exact ⟨by rw [hr.out]; rfl, hB⟩
    · have hr : Hid (brS l i = (0, 0)) := if_pos (.inr (by rw [bt_of hlc]; intro e; exact h2 (UInt8.toNat_inj.1 e)))
      have hne : ((c.toNat : Int) == 123) = false := u8_ne (d := 123) h2
      have hnn : ((c.toNat : Int) != 123) = true := by rw [bne, hne]; rfl
      go_enter Tryz.func94, Tryz.ntmps94
      go_wp2_with fail
      go_ret2
      exact ⟨by rw [hr.out]; rfl, Below.refl _ _⟩
def utfL (n : Nat) : List UInt8 :=
  if n < 128 then [UInt8.ofNat n] else if n < 2048 then [UInt8.ofNat (192 + n / 64), UInt8.ofNat (128 + n % 64)]
  else if n < 65536 then [UInt8.ofNat (224 + n / 4096), UInt8.ofNat (128 + n / 64 % 64), UInt8.ofNat (128 + n % 64)]
  else [UInt8.ofNat (240 + n / 262144), UInt8.ofNat (128 + n / 4096 % 64), UInt8.ofNat (128 + n / 64 % 64), UInt8.ofNat (128 + n % 64)]
theorem ofN (n : Nat) (h : n < 256) : ((UInt8.ofNat n).toNat : Int) = (n : Int) := by rw [UInt8.toNat_ofNat']; omega
theorem conv_new (w : World) (l : List UInt8) (c : Nat) (V : World) (hV : ∀ j (hj : j < l.length), V.cell? ⟨w.heap.size, j, none⟩ = some (.int .u8 (l[j].toNat : Int))) :
    Sem.run Tryz.prog (convert 42 9 (.slice (some ⟨w.heap.size, 0, none⟩) l.length c)) V = .ok (.string ⟨l.toArray⟩) V :=
  run_convert_bytes_back V _ _ 5 ⟨w.heap.size, 0, none⟩ c l Tryz.underlying42 Tryz.underlying5 Tryz.underlying9 (fun j hj => by
    rw [← hV j hj]
    simp only [Addr.add]
    split
    · rename_i h; subst h; rfl
    · simp)
theorem cells_new (w : World) (cs : Array Value) (t : TypeId) (j : Nat) : (w.alloc (.cells cs t)).cell? ⟨w.heap.size, j, none⟩ = cs[j]? := by
  unfold World.cell?
  rw [alloc_get]
  simp
set_option maxRecDepth 100000 in
set_option maxHeartbeats 2000000 in
theorem refUtf_any (n : Nat) (w : World) (hn : n ≤ 1114111) :
    Calls Tryz.prog 95 #[.int .i64 (n : Int)] w fun e w' => e = .returned (.string ⟨(utfL n).toArray⟩) ∧ Below w.heap.size w w' := by
  have hb : Below w.heap.size w w := Below.refl _ _
  by_cases h1 : n < 128
  · have hr : Hid (utfL n = [UInt8.ofNat (n)]) := by unfold Hid utfL; rw [if_pos h1]
    have i0 : (n : Int) < 128 := by omega
    have cv := conv_new w [UInt8.ofNat (n)] 1 (w.alloc (.cells #[.int .u8 ((n : Int))] 5)) (fun j hj => by
      rw [cells_new]
      match j, hj with
      | 0, _ =>
        show some (Value.int .u8 ((n : Int))) = some (.int .u8 ((UInt8.ofNat (n)).toNat : Int))
        exact congrArg (fun z => some (Value.int .u8 z)) (by have := ofN (n) (by omega); omega)
      | j + 1, h => simp only [List.length_cons, List.length_nil] at h; omega)
    simp only [List.length_cons, List.length_nil, Nat.reduceAdd] at cv
    go_enter Tryz.func95, Tryz.ntmps95
    go_wp2_with fail
    go_ret
    exact ⟨by rw [hr.out]; first | rfl | simp, hb.alloc (Nat.le_refl _) _⟩
  · by_cases h2 : n < 2048
    · have hr : Hid (utfL n = [UInt8.ofNat (192 + n / 64), UInt8.ofNat (128 + n % 64)]) := by unfold Hid utfL; rw [if_neg h1, if_pos h2]
      have i0 : ¬ (n : Int) < 128 := by omega
      have i1 : (n : Int) < 2048 := by omega
      have cv := conv_new w [UInt8.ofNat (192 + n / 64), UInt8.ofNat (128 + n % 64)] 2 (w.alloc (.cells #[.int .u8 (192 + (n : Int) / 64), .int .u8 (128 + (n : Int) % 64)] 5)) (fun j hj => by
        rw [cells_new]
        match j, hj with
        | 0, _ =>
          show some (Value.int .u8 (192 + (n : Int) / 64)) = some (.int .u8 ((UInt8.ofNat (192 + n / 64)).toNat : Int))
          exact congrArg (fun z => some (Value.int .u8 z)) (by have := ofN (192 + n / 64) (by omega); omega)
        | 1, _ =>
          show some (Value.int .u8 (128 + (n : Int) % 64)) = some (.int .u8 ((UInt8.ofNat (128 + n % 64)).toNat : Int))
          exact congrArg (fun z => some (Value.int .u8 z)) (by have := ofN (128 + n % 64) (by omega); omega)
        | j + 2, h => simp only [List.length_cons, List.length_nil] at h; omega)
      simp only [List.length_cons, List.length_nil, Nat.reduceAdd] at cv
      go_enter Tryz.func95, Tryz.ntmps95
      go_wp2_with fail
      go_ret
      exact ⟨by rw [hr.out]; first | rfl | simp, hb.alloc (Nat.le_refl _) _⟩
    · by_cases h3 : n < 65536
      · have hr : Hid (utfL n = [UInt8.ofNat (224 + n / 4096), UInt8.ofNat (128 + n / 64 % 64), UInt8.ofNat (128 + n % 64)]) := by unfold Hid utfL; rw [if_neg h1, if_neg h2, if_pos h3]
        have i0 : ¬ (n : Int) < 128 := by omega
        have i1 : ¬ (n : Int) < 2048 := by omega
        have i2 : (n : Int) < 65536 := by omega
        have cv := conv_new w [UInt8.ofNat (224 + n / 4096), UInt8.ofNat (128 + n / 64 % 64), UInt8.ofNat (128 + n % 64)] 3 (w.alloc (.cells #[.int .u8 (224 + (n : Int) / 4096), .int .u8 (128 + (n : Int) / 64 % 64), .int .u8 (128 + (n : Int) % 64)] 5)) (fun j hj => by
          rw [cells_new]
          match j, hj with
          | 0, _ =>
            show some (Value.int .u8 (224 + (n : Int) / 4096)) = some (.int .u8 ((UInt8.ofNat (224 + n / 4096)).toNat : Int))
            exact congrArg (fun z => some (Value.int .u8 z)) (by have := ofN (224 + n / 4096) (by omega); omega)
          | 1, _ =>
            show some (Value.int .u8 (128 + (n : Int) / 64 % 64)) = some (.int .u8 ((UInt8.ofNat (128 + n / 64 % 64)).toNat : Int))
            exact congrArg (fun z => some (Value.int .u8 z)) (by have := ofN (128 + n / 64 % 64) (by omega); omega)
          | 2, _ =>
            show some (Value.int .u8 (128 + (n : Int) % 64)) = some (.int .u8 ((UInt8.ofNat (128 + n % 64)).toNat : Int))
            exact congrArg (fun z => some (Value.int .u8 z)) (by have := ofN (128 + n % 64) (by omega); omega)
          | j + 3, h => simp only [List.length_cons, List.length_nil] at h; omega)
        simp only [List.length_cons, List.length_nil, Nat.reduceAdd] at cv
        go_enter Tryz.func95, Tryz.ntmps95
        go_wp2_with fail
        go_ret
        exact ⟨by rw [hr.out]; first | rfl | simp, hb.alloc (Nat.le_refl _) _⟩
      · have hr : Hid (utfL n = [UInt8.ofNat (240 + n / 262144), UInt8.ofNat (128 + n / 4096 % 64), UInt8.ofNat (128 + n / 64 % 64), UInt8.ofNat (128 + n % 64)]) := by unfold Hid utfL; rw [if_neg h1, if_neg h2, if_neg h3]
        have i0 : ¬ (n : Int) < 128 := by omega
        have i1 : ¬ (n : Int) < 2048 := by omega
        have i2 : ¬ (n : Int) < 65536 := by omega
        have cv := conv_new w [UInt8.ofNat (240 + n / 262144), UInt8.ofNat (128 + n / 4096 % 64), UInt8.ofNat (128 + n / 64 % 64), UInt8.ofNat (128 + n % 64)] 4 (w.alloc (.cells #[.int .u8 (240 + (n : Int) / 262144), .int .u8 (128 + (n : Int) / 4096 % 64), .int .u8 (128 + (n : Int) / 64 % 64), .int .u8 (128 + (n : Int) % 64)] 5)) (fun j hj => by
          rw [cells_new]
          match j, hj with
          | 0, _ =>
            show some (Value.int .u8 (240 + (n : Int) / 262144)) = some (.int .u8 ((UInt8.ofNat (240 + n / 262144)).toNat : Int))
            exact congrArg (fun z => some (Value.int .u8 z)) (by have := ofN (240 + n / 262144) (by omega); omega)
          | 1, _ =>
            show some (Value.int .u8 (128 + (n : Int) / 4096 % 64)) = some (.int .u8 ((UInt8.ofNat (128 + n / 4096 % 64)).toNat : Int))
            exact congrArg (fun z => some (Value.int .u8 z)) (by have := ofN (128 + n / 4096 % 64) (by omega); omega)
          | 2, _ =>
            show some (Value.int .u8 (128 + (n : Int) / 64 % 64)) = some (.int .u8 ((UInt8.ofNat (128 + n / 64 % 64)).toNat : Int))
            exact congrArg (fun z => some (Value.int .u8 z)) (by have := ofN (128 + n / 64 % 64) (by omega); omega)
          | 3, _ =>
            show some (Value.int .u8 (128 + (n : Int) % 64)) = some (.int .u8 ((UInt8.ofNat (128 + n % 64)).toNat : Int))
            exact congrArg (fun z => some (Value.int .u8 z)) (by have := ofN (128 + n % 64) (by omega); omega)
          | j + 4, h => simp only [List.length_cons, List.length_nil] at h; omega)
        simp only [List.length_cons, List.length_nil, Nat.reduceAdd] at cv
        go_enter Tryz.func95, Tryz.ntmps95
        go_wp2_with fail
        go_ret
        exact ⟨by rw [hr.out]; first | rfl | simp, hb.alloc (Nat.le_refl _) _⟩
def escS (l : List UInt8) (i : Nat) : Nat × List UInt8 :=
  if l.length ≤ i + 1 then (0, [])
  else if bt l (i + 1) = 34 then (2, [34])
  else if bt l (i + 1) = 92 then (2, [92])
  else if bt l (i + 1) = 110 then (2, [10])
  else if bt l (i + 1) = 114 then (2, [13])
  else if bt l (i + 1) = 116 then (2, [9])
  else if bt l (i + 1) = 120 then (if i + 3 < l.length then match hexD (l.getD (i + 2) 0), hexD (l.getD (i + 3) 0) with
    | some a, some b => (4, [UInt8.ofNat (16 * a + b)])
    | _, _ => (0, []) else (0, []))
  else if bt l (i + 1) = 117 then (if 0 < (brS l i).1 then ((brS l i).1, utfL (brS l i).2) else (0, []))
  else (0, [])
theorem brS_le (l : List UInt8) (i : Nat) (h : 0 < (brS l i).1) : (brS l i).2 ≤ 1114111 := by
  unfold brS at h ⊢
  split at h
  · simp at h
  · split at h
    · simp at h
    · rename_i h1 h2
      rw [if_neg h1, if_neg h2]
      show (hexRun 6 (l.drop (i + 3)) 0).2 ≤ 1114111
      omega
theorem getD_of {l : List UInt8} {i : Nat} {c : UInt8} (h : l[i]? = some c) : l.getD i 0 = c := by simp [List.getD, h]
theorem idx_str (l : List UInt8) (k : Nat) (c : UInt8) (h : l[k]? = some c) (K : Int) (hK : K = (k : Int)) (W : World) : Sem.run Tryz.prog (Instr.index 9 (.string ⟨l.toArray⟩) (.int .i64 K)) W = .ok (.int .u8 (c.toNat : Int)) W := by
  subst hK
  obtain ⟨hk, _⟩ := List.getElem?_eq_some_iff.1 h
  have h0 : (0 : Int) ≤ (k : Int) := by omega
  have h1 : (k : Int) < (l.length : Int) := by omega
  have u := Tryz.underlying9
  have e := byte_get l k hk
  obtain ⟨d, hd, hd2⟩ := e
  obtain rfl : d = c := by rw [h] at hd2; exact (Option.some.inj hd2).symm
  simp [go_sem, u, h1, hd]
theorem utfL_len (n : Nat) : (utfL n).length ≤ 4 := by
  unfold utfL
  repeat' split
  all_goals simp
theorem brS_end (l : List UInt8) (i : Nat) (h : 0 < (brS l i).1) : 5 ≤ (brS l i).1 ∧ i + (brS l i).1 ≤ l.length := by
  unfold brS at h ⊢
  split at h
  · simp at h
  · split at h
    · simp at h
    · rename_i h1 h2
      rw [if_neg h1, if_neg h2]
      show 5 ≤ 4 + (hexRun 6 (l.drop (i + 3)) 0).1 ∧ i + (4 + (hexRun 6 (l.drop (i + 3)) 0).1) ≤ l.length
      omega
theorem escS_end (l : List UInt8) (i : Nat) (h : 0 < (escS l i).1) : i + (escS l i).1 ≤ l.length ∧ (escS l i).2.length ≤ (escS l i).1 := by
  unfold escS at h ⊢
  split at h
  · simp at h
  rename_i g0
  rw [if_neg g0]
  repeat' split
  all_goals first
    | (simp; omega)
    | (rename_i g; have hb1 := brS_end l i g; have hu := utfL_len (brS l i).2; exact ⟨hb1.2, by omega⟩)
    | skip
  all_goals simp_all
  have hb1 := brS_end l i (by assumption)
  have hu := utfL_len (brS l i).2
  exact ⟨hb1.2, by omega⟩
end Go.Proofs.YtffgkjmfeannoaaGreatDoor
