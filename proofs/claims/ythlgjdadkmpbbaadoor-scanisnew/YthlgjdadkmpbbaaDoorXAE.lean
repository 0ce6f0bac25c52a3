import Derived.Test.YthlgjdadkmpbbaaDoorXAD
import Derived.Test.YthlgjdadkmpbbaaDoorXAA
import Derived.Laws.IdiomStrings
namespace Go.Proofs.YthlgjdadkmpbbaaDoor
open Go.RowKit
def hexI (r : Int) : Int := if 48 ≤ r ∧ r ≤ 57 then r - 48 else if 97 ≤ r ∧ r ≤ 102 then r - 97 + 10 else if 65 ≤ r ∧ r ≤ 70 then r - 65 + 10 else -1
set_option maxRecDepth 100000 in
theorem hexValue_any (r : Int) (w : World) (h0 : -2 ≤ r) (h1 : r ≤ 1114111) :
    Calls Tryd.prog 56 #[.int .i32 r] w fun e w' => e = .returned (.int .i32 (hexI r)) ∧ w' = w := by
  by_cases a1 : 48 ≤ r ∧ r ≤ 57
  · have hr : Hid (hexI r = r - 48) := by unfold Hid hexI; rw [if_pos a1]
    have w0 : IntKind.i32.wrap (r - 48) = r - 48 := by rw [IntKind.wrap_i32]; omega
    have j0 : 48 ≤ r := by omega
    have j1 : r ≤ 57 := by omega
    go_enter Tryd.func56, Tryd.ntmps56
    go_wp2
    go_ret
    exact ⟨by rw [hr.out]; rfl, rfl⟩
  · by_cases a2 : 97 ≤ r ∧ r ≤ 102
    · have hr : Hid (hexI r = r - 97 + 10) := by unfold Hid hexI; rw [if_neg a1, if_pos a2]
      have w0 : IntKind.i32.wrap (r - 97) = r - 97 := by rw [IntKind.wrap_i32]; omega
      have w1 : IntKind.i32.wrap (r - 97 + 10) = r - 97 + 10 := by rw [IntKind.wrap_i32]; omega
      have j0 : 48 ≤ r := by omega
      have j1 : ¬ r ≤ 57 := by omega
      have j2 : 97 ≤ r := by omega
      have j3 : r ≤ 102 := by omega
      go_enter Tryd.func56, Tryd.ntmps56
      go_wp2
      go_ret
      exact ⟨by rw [hr.out]; rfl, rfl⟩
    · by_cases a3 : 65 ≤ r ∧ r ≤ 70
      · have hr : Hid (hexI r = r - 65 + 10) := by unfold Hid hexI; rw [if_neg a1, if_neg a2, if_pos a3]
        have w0 : IntKind.i32.wrap (r - 65) = r - 65 := by rw [IntKind.wrap_i32]; omega
        have w1 : IntKind.i32.wrap (r - 65 + 10) = r - 65 + 10 := by rw [IntKind.wrap_i32]; omega
        have j0 : 48 ≤ r := by omega
        have j1 : ¬ r ≤ 57 := by omega
        have j2 : ¬ 97 ≤ r := by omega
        have j3 : 65 ≤ r := by omega
        have j4 : r ≤ 70 := by omega
        go_enter Tryd.func56, Tryd.ntmps56
        go_wp2
        go_ret
        exact ⟨by rw [hr.out]; rfl, rfl⟩
      · have hr : Hid (hexI r = -1) := by unfold Hid hexI; rw [if_neg a1, if_neg a2, if_neg a3]
        by_cases c1 : 48 ≤ r
        · have d1 : ¬ r ≤ 57 := by omega
          by_cases c2 : 97 ≤ r
          · have d2 : ¬ r ≤ 102 := by omega
            have c3 : 65 ≤ r := by omega
            have d3 : ¬ r ≤ 70 := by omega
            go_enter Tryd.func56, Tryd.ntmps56
            go_wp2
            go_ret
            exact ⟨by rw [hr.out]; rfl, rfl⟩
          · by_cases c3 : 65 ≤ r
            · have d3 : ¬ r ≤ 70 := by omega
              go_enter Tryd.func56, Tryd.ntmps56
              go_wp2
              go_ret
              exact ⟨by rw [hr.out]; rfl, rfl⟩
            · go_enter Tryd.func56, Tryd.ntmps56
              go_wp2
              go_ret
              exact ⟨by rw [hr.out]; rfl, rfl⟩
        · have c2 : ¬ 97 ≤ r := by omega
          have c3 : ¬ 65 ≤ r := by omega
          go_enter Tryd.func56, Tryd.ntmps56
          go_wp2
          go_ret
          exact ⟨by rw [hr.out]; rfl, rfl⟩
/-- a run of characters lies there -/
def CH (W : World) (ad : Addr) (C : List (Int × Nat)) : Prop := ∀ k c, C[k]? = some c → W.cell? (ad.add (k * 2)) = some (.int .i32 c.1) ∧ W.cell? (ad.add (k * 2 + 1)) = some (.int .i64 (c.2 : Int))
theorem CH.below {W X : World} {ad : Addr} {C : List (Int × Nat)} (h : CH W ad C) (hb : Below W.heap.size W X) : CH X ad C := fun k c hc =>
  ⟨(hb.cell (World.block_lt_of_cell? W _ (h k c hc).1)).trans (h k c hc).1, (hb.cell (World.block_lt_of_cell? W _ (h k c hc).2)).trans (h k c hc).2⟩
end Go.Proofs.YthlgjdadkmpbbaaDoor
namespace Go.Proofs.YthlgjdadkmpbbaaDoor
open Go.RowKit
/-- how many characters at the beginning are hexadecimal digits (no more than so many are read), and their number -/
def hexC : Nat → List (Int × Nat) → Nat → Nat × Nat
  | 0, _, n => (0, n)
  | _ + 1, [], n => (0, n)
  | f + 1, c :: r, n => if 0 ≤ hexI c.1 then ((hexC f r (16 * n + (hexI c.1).toNat)).1 + 1, (hexC f r (16 * n + (hexI c.1).toNat)).2) else (0, n)
theorem hexC_no {f : Nat} {C : List (Int × Nat)} {k : Nat} {c : Int × Nat} (h : C[k]? = some c) (hc : ¬ 0 ≤ hexI c.1) (n : Nat) : hexC f (C.drop k) n = (0, n) := by
  obtain ⟨hk, rfl⟩ := List.getElem?_eq_some_iff.1 h
  rw [List.drop_eq_getElem_cons hk]
  cases f with
  | zero => rfl
  | succ f => rw [hexC, if_neg hc]
theorem hexC_yes {f : Nat} {C : List (Int × Nat)} {k : Nat} {c : Int × Nat} (h : C[k]? = some c) (hc : 0 ≤ hexI c.1) (n : Nat) : hexC (f + 1) (C.drop k) n = ((hexC f (C.drop (k + 1)) (16 * n + (hexI c.1).toNat)).1 + 1, (hexC f (C.drop (k + 1)) (16 * n + (hexI c.1).toNat)).2) := by
  obtain ⟨hk, rfl⟩ := List.getElem?_eq_some_iff.1 h
  rw [List.drop_eq_getElem_cons hk, hexC, if_pos hc]
theorem hexI_lt (r : Int) : -1 ≤ hexI r ∧ hexI r < 16 := by
  unfold hexI
  repeat' split
  all_goals omega
theorem shl_or32 (m d : Nat) (hm : m < 1048576) (hd : d < 16) : bits .or .i32 ((m : Int) * 16) (d : Int) = ((16 * m + d : Nat) : Int) := by
  have h1 : (m : Int) * 16 = ((16 * m : Nat) : Int) := by omega
  rw [h1]
  have a1 : (BitVec.ofInt 32 ((16 * m : Nat) : Int)).toNat = 16 * m := by
    rw [BitVec.ofInt_natCast, BitVec.toNat_ofNat]; exact Nat.mod_eq_of_lt (by omega)
  have a2 : (BitVec.ofInt 32 (d : Int)).toNat = d := by
    rw [BitVec.ofInt_natCast, BitVec.toNat_ofNat]; exact Nat.mod_eq_of_lt (by omega)
  have a3 : 16 * m ||| d = 16 * m + d := by
    have := Nat.two_pow_add_eq_or_of_lt (i := 4) (b := d) (by omega) m
    rw [show (16 : Nat) = 2 ^ 4 by decide]
    exact this.symm
  show IntKind.i32.wrap ((BitVec.ofInt 32 ((16 * m : Nat) : Int) ||| BitVec.ofInt 32 (d : Int)).toNat : Int) = _
  rw [BitVec.toNat_or, a1, a2, a3, IntKind.wrap_i32]
  omega
set_option maxRecDepth 100000 in
set_option maxHeartbeats 1000000 in
theorem hexAt_any (C : List (Int × Nat)) (ad : Addr) (cap most : Nat) (w : World) (hmost : most ≤ 6) (hC0 : CH w ad C) (hr0 : ∀ c ∈ C, -2 ≤ c.1 ∧ c.1 ≤ 1114111) (hend0 : ∃ (k : Nat) (c : Int × Nat), C[k]? = some c ∧ ¬ 0 ≤ hexI c.1) :
    Calls Tryd.prog 43 #[.slice (some ad) C.length cap, .int .i64 (most : Int)] w fun e w' => e = .returned (.tuple #[.int .i32 ((hexC most C 0).2 : Int), .int .i64 ((hexC most C 0).1 : Int)]) ∧ w' = w := by
  have hC : Hid (CH w ad C) := hC0
  have hr : Hid (∀ c ∈ C, -2 ≤ c.1 ∧ c.1 ≤ 1114111) := hr0
  obtain ⟨ke, ce, hke, hce0⟩ := hend0
  have hce : Hid (¬ 0 ≤ hexI ce.1) := hce0
  clear hce0
  clear hC0 hr0
  go_enter Tryd.func43, Tryd.ntmps43
  go_wp2_with fail
  go_loop [6, 7] (fun vv vn => ∃ (n f m : Nat), vv = .int .i32 m ∧ vn = .int .i64 n ∧ Hid (n + f = most ∧ n ≤ ke ∧ m < 16 ^ n ∧ hexC most C 0 = ((hexC f (C.drop n) m).1 + n, (hexC f (C.drop n) m).2))) (fun _ vn => most - (intOf vn).toNat)
  case atStart => exact ⟨0, most, 0, rfl, rfl, by omega, Nat.zero_le _, by decide, by simp⟩
  case round =>
    obtain ⟨n, f, m, rfl, rfl, hh⟩ := hrel
    obtain ⟨hnf, hnk, hm, hq⟩ := hh.out
    have hke2 := (List.getElem?_eq_some_iff.1 hke).1
    cases f with
    | zero =>
      have i1 : ¬ (n : Int) < (most : Int) := by omega
      have h0 : hexC 0 (C.drop n) m = (0, m) := rfl
      rw [h0, Nat.zero_add] at hq
      have HQ : Hid (hexC most C 0 = (n, m)) := hq
      clear hq h0 hh hnf hm
      go_wp2_with fail
      go_ret2
      exact ⟨by rw [HQ.out]; rfl, rfl⟩
    | succ f =>
      have i1 : (n : Int) < (most : Int) := by omega
      have hnl : n < C.length := by omega
      have i2 : (n : Int) < (C.length : Int) := by omega
      have i0 : (0 : Int) ≤ (n : Int) := by omega
      obtain ⟨c, hc⟩ : ∃ c, C[n]? = some c := ⟨_, List.getElem?_eq_getElem hnl⟩
      obtain ⟨x0, x1⟩ := hC.out n c hc
      obtain ⟨r0, r1⟩ := hr.out c (List.mem_of_getElem? hc)
      have HV := fun W => hexValue_any c.1 W r0 r1
      obtain ⟨q0, q1⟩ := hexI_lt c.1
      by_cases hp : 0 ≤ hexI c.1
      · obtain ⟨d, hd⟩ : ∃ d : Nat, hexI c.1 = d := ⟨(hexI c.1).toNat, by omega⟩
        rw [hexC_yes hc hp, hd, show ((d : Int)).toNat = d from Int.toNat_natCast d] at hq
        have hm2 : m < 1048576 := Nat.lt_of_lt_of_le hm (Nat.pow_le_pow_right (j := 5) (show 16 > 0 by decide) (by omega))
        have hne : n ≠ ke := fun e => by
          have h1 := hce.out
          rw [e, hke] at hc
          rw [← Option.some.inj hc] at hp
          omega
        have HH : Hid (n + 1 + f = most ∧ n + 1 ≤ ke ∧ 16 * m + d < 16 ^ (n + 1) ∧ hexC most C 0 = ((hexC f (C.drop (n + 1)) (16 * m + d)).1 + (n + 1), (hexC f (C.drop (n + 1)) (16 * m + d)).2)) := ⟨by omega, by omega, by rw [Nat.pow_succ]; omega, by rw [hq]; simp; omega⟩
        have hb := shl_or32 m d hm2 (by omega)
        have jd : (0 : Int) ≤ (d : Int) := by omega
        rw [hd] at HV
        obtain ⟨c0, hc0⟩ : ∃ z, c.1 = z := ⟨_, rfl⟩
        rw [hc0] at x0 HV
        have hcast : ((16 * m + d : Nat) : Int) = 16 * (m : Int) + (d : Int) := by omega
        have HZ : Hid (n + (f + 1) = most) := hnf
        clear hq hh hp hd hm hne hnf hc0 r0 r1 q0 q1 hcast
        go_wp2_with fail
        refine (HV _).mono ?_
        rintro e w2 ⟨rfl, rfl⟩
        go_wp2_with fail
        refine (HV _).mono ?_
        rintro e w3 ⟨rfl, rfl⟩
        go_wp2_with fail
        go_round
        case rel => exact ⟨n + 1, f, 16 * m + d, by go_num, by go_num, HH⟩
        case measure => have := HZ.out; simp [intOf]; omega
      · rw [hexC_no hc hp, Nat.zero_add] at hq
        have HQ : Hid (hexC most C 0 = (n, m)) := hq
        obtain ⟨z, hz⟩ : ∃ z, hexI c.1 = z := ⟨_, rfl⟩
        rw [hz] at HV hp
        have jz : ¬ (0 : Int) ≤ z := hp
        obtain ⟨c0, hc0⟩ : ∃ z, c.1 = z := ⟨_, rfl⟩
        rw [hc0] at x0 HV
        clear hq hh hm hnf hc0 r0 r1 q0 q1 hz hp
        go_wp2_with fail
        refine (HV _).mono ?_
        rintro e w2 ⟨rfl, rfl⟩
        go_wp2_with fail
        go_ret2
        exact ⟨by rw [HQ.out]; rfl, rfl⟩
end Go.Proofs.YthlgjdadkmpbbaaDoor
namespace Go.Proofs.YthlgjdadkmpbbaaDoor
open Go.RowKit
def hexD (c : UInt8) : Option Nat :=
  if 48 ≤ c.toNat ∧ c.toNat ≤ 57 then some (c.toNat - 48) else if 97 ≤ c.toNat ∧ c.toNat ≤ 102 then some (c.toNat - 87) else if 65 ≤ c.toNat ∧ c.toNat ≤ 70 then some (c.toNat - 55) else none
def binD (c : UInt8) : Option Nat := if c = 48 then some 0 else if c = 49 then some 1 else none
def foldN (b : Nat) (D : UInt8 → Option Nat) : List UInt8 → Nat → Option Nat
  | [], n => some n
  | c :: r, n => match D c with
    | some d => foldN b D r (b * n + d)
    | none => none
theorem hexD_lt {c : UInt8} {d : Nat} (h : hexD c = some d) : d < 16 := by
  unfold hexD at h
  split at h
  · obtain rfl := Option.some.inj h; omega
  · split at h
    · obtain rfl := Option.some.inj h; omega
    · split at h
      · obtain rfl := Option.some.inj h; omega
      · cases h
end Go.Proofs.YthlgjdadkmpbbaaDoor
namespace Go.Proofs.YthlgjdadkmpbbaaDoor
open Go.RowKit
/-- how many hexadecimal digits stand at the beginning, and the number that they tell; no more than so many are read -/
def hexRun : Nat → List UInt8 → Nat → Nat × Nat
  | 0, _, n => (0, n)
  | _ + 1, [], n => (0, n)
  | f + 1, c :: r, n => match hexD c with
    | some d => ((hexRun f r (16 * n + d)).1 + 1, (hexRun f r (16 * n + d)).2)
    | none => (0, n)
/-- the piece with a number in braces: its length (0: none) and the number -/
def brS (l : List UInt8) (i : Nat) : Nat × Nat :=
  if l.length < i + 3 ∨ bt l (i + 2) ≠ 123 then (0, 0) else
    if (hexRun 6 (l.drop (i + 3)) 0).1 = 0 ∨ l.length ≤ i + 3 + (hexRun 6 (l.drop (i + 3)) 0).1 ∨ bt l (i + 3 + (hexRun 6 (l.drop (i + 3)) 0).1) ≠ 125 ∨ 1114111 < (hexRun 6 (l.drop (i + 3)) 0).2 ∨ (55296 ≤ (hexRun 6 (l.drop (i + 3)) 0).2 ∧ (hexRun 6 (l.drop (i + 3)) 0).2 ≤ 57343) then (0, 0)
    else (4 + (hexRun 6 (l.drop (i + 3)) 0).1, (hexRun 6 (l.drop (i + 3)) 0).2)
end Go.Proofs.YthlgjdadkmpbbaaDoor
namespace Go.Proofs.YthlgjdadkmpbbaaDoor
open Go.RowKit
/-- the bytes of the character of that number -/
def utfL (n : Nat) : List UInt8 :=
  if n < 128 then [UInt8.ofNat n] else if n < 2048 then [UInt8.ofNat (192 + n / 64), UInt8.ofNat (128 + n % 64)]
  else if n < 65536 then [UInt8.ofNat (224 + n / 4096), UInt8.ofNat (128 + n / 64 % 64), UInt8.ofNat (128 + n % 64)]
  else [UInt8.ofNat (240 + n / 262144), UInt8.ofNat (128 + n / 4096 % 64), UInt8.ofNat (128 + n / 64 % 64), UInt8.ofNat (128 + n % 64)]
theorem ofN (n : Nat) (h : n < 256) : ((UInt8.ofNat n).toNat : Int) = (n : Int) := by rw [UInt8.toNat_ofNat']; omega
end Go.Proofs.YthlgjdadkmpbbaaDoor
namespace Go.Proofs.YthlgjdadkmpbbaaDoor
open Go.RowKit
/-- the piece that begins with a backslash: its length (0: none) and what it says -/
def escS (l : List UInt8) (i : Nat) : Nat × List UInt8 :=
  if l.length ≤ i + 1 then (0, [])
  else if bt l (i + 1) = 34 then (2, [34])
  else if bt l (i + 1) = 92 then (2, [92])
  else if bt l (i + 1) = 110 then (2, [10])
  else if bt l (i + 1) = 114 then (2, [13])
  else if bt l (i + 1) = 116 then (2, [9])
  else if bt l (i + 1) = 120 then (if i + 3 < l.length then match hexD (l.getD (i + 2) 0), hexD (l.getD (i + 3) 0) with
    | some a, some b => (4, [UInt8.ofNat (16 * a + b)])
    | _, _ => (0, []) else (0, []))
  else if bt l (i + 1) = 117 then (if 0 < (brS l i).1 then ((brS l i).1, utfL (brS l i).2) else (0, []))
  else (0, [])
theorem utfL_len (n : Nat) : (utfL n).length ≤ 4 := by
  unfold utfL
  repeat' split
  all_goals simp
theorem brS_end (l : List UInt8) (i : Nat) (h : 0 < (brS l i).1) : 5 ≤ (brS l i).1 ∧ i + (brS l i).1 ≤ l.length := by
  unfold brS at h ⊢
  split at h
  · simp at h
  · split at h
    · simp at h
    · rename_i h1 h2
      rw [if_neg h1, if_neg h2]
      show 5 ≤ 4 + (hexRun 6 (l.drop (i + 3)) 0).1 ∧ i + (4 + (hexRun 6 (l.drop (i + 3)) 0).1) ≤ l.length
      omega
/-- a piece with a backslash lies in the text, and says no more bytes than it has -/
theorem escS_end (l : List UInt8) (i : Nat) (h : 0 < (escS l i).1) : i + (escS l i).1 ≤ l.length ∧ (escS l i).2.length ≤ (escS l i).1 := by
  unfold escS at h ⊢
  split at h
  · simp at h
  rename_i g0
  rw [if_neg g0]
  repeat' split
  all_goals first
    | (simp; omega)
    | (rename_i g; have hb1 := brS_end l i g; have hu := utfL_len (brS l i).2; exact ⟨hb1.2, by omega⟩)
    | skip
  all_goals simp_all
  have hb1 := brS_end l i (by assumption)
  have hu := utfL_len (brS l i).2
  exact ⟨hb1.2, by omega⟩
end Go.Proofs.YthlgjdadkmpbbaaDoor
