import Derived.Test.YtfbmagnfgnebdaaGreatDoorYAD
import Derived.Test.YtfbmagnfgnebdaaGreatDoorYAA
import Derived.Test.YtfbmagnfgnebdaaGreatDoorYAB
import Derived.Laws.IdiomStrings
import Derived.Lib.MapLaws
import Derived.Lib.TrimUEq
namespace Go.Proofs.YtfbmagnfgnebdaaGreatDoor
open Go.RowKit
/-- how many characters at the beginning are hexadecimal digits (no more than so many are read), and their number -/
def hexC : Nat → List (Int × Nat) → Nat → Nat × Nat
  | 0, _, n => (0, n)
  | _ + 1, [], n => (0, n)
  | f + 1, c :: r, n => if 0 ≤ hexI c.1 then ((hexC f r (16 * n + (hexI c.1).toNat)).1 + 1, (hexC f r (16 * n + (hexI c.1).toNat)).2) else (0, n)
theorem hexC_no {f : Nat} {C : List (Int × Nat)} {k : Nat} {c : Int × Nat} (h : C[k]? = some c) (hc : ¬ 0 ≤ hexI c.1) (n : Nat) : hexC f (C.drop k) n = (0, n) := by
  obtain ⟨hk, rfl⟩ := List.getElem?_eq_some_iff.1 h
  rw [List.drop_eq_getElem_cons hk]
  cases f with
  | zero => rfl
  | succ f => rw [hexC, if_neg hc]
theorem hexC_yes {f : Nat} {C : List (Int × Nat)} {k : Nat} {c : Int × Nat} (h : C[k]? = some c) (hc : 0 ≤ hexI c.1) (n : Nat) : hexC (f + 1) (C.drop k) n = ((hexC f (C.drop (k + 1)) (16 * n + (hexI c.1).toNat)).1 + 1, (hexC f (C.drop (k + 1)) (16 * n + (hexI c.1).toNat)).2) := by
  obtain ⟨hk, rfl⟩ := List.getElem?_eq_some_iff.1 h
  rw [List.drop_eq_getElem_cons hk, hexC, if_pos hc]
theorem hexI_lt (r : Int) : -1 ≤ hexI r ∧ hexI r < 16 := by
  unfold hexI
  repeat' split
  all_goals omega
theorem shl_or32 (m d : Nat) (hm : m < 1048576) (hd : d < 16) : bits .or .i32 ((m : Int) * 16) (d : Int) = ((16 * m + d : Nat) : Int) := by
  have h1 : (m : Int) * 16 = ((16 * m : Nat) : Int) := by omega
  rw [h1]
  have a1 : (BitVec.ofInt 32 ((16 * m : Nat) : Int)).toNat = 16 * m := by
    rw [BitVec.ofInt_natCast, BitVec.toNat_ofNat]; exact Nat.mod_eq_of_lt (by omega)
  have a2 : (BitVec.ofInt 32 (d : Int)).toNat = d := by
    rw [BitVec.ofInt_natCast, BitVec.toNat_ofNat]; exact Nat.mod_eq_of_lt (by omega)
  have a3 : 16 * m ||| d = 16 * m + d := by
    have := Nat.two_pow_add_eq_or_of_lt (i := 4) (b := d) (by omega) m
    rw [show (16 : Nat) = 2 ^ 4 by decide]
    exact this.symm
  show IntKind.i32.wrap ((BitVec.ofInt 32 ((16 * m : Nat) : Int) ||| BitVec.ofInt 32 (d : Int)).toNat : Int) = _
  rw [BitVec.toNat_or, a1, a2, a3, IntKind.wrap_i32]
  omega
set_option maxRecDepth 100000 in
set_option maxHeartbeats 1000000 in
theorem hexAt_any (C : List (Int × Nat)) (ad : Addr) (cap most : Nat) (w : World) (hmost : most ≤ 6) (hC0 : CH w ad C) (hr0 : ∀ c ∈ C, -2 ≤ c.1 ∧ c.1 ≤ 1114111) (hend0 : ∃ (k : Nat) (c : Int × Nat), C[k]? = some c ∧ ¬ 0 ≤ hexI c.1) :
    Calls Tryz.prog 184 #[.slice (some ad) C.length cap, .int .i64 (most : Int)] w fun e w' => e = .returned (.tuple #[.int .i32 ((hexC most C 0).2 : Int), .int .i64 ((hexC most C 0).1 : Int)]) ∧ w' = w := by
  have hC : Hid (CH w ad C) := hC0
  have hr : Hid (∀ c ∈ C, -2 ≤ c.1 ∧ c.1 ≤ 1114111) := hr0
  obtain ⟨ke, ce, hke, hce0⟩ := hend0
  have hce : Hid (¬ 0 ≤ hexI ce.1) := hce0
  clear hce0
  clear hC0 hr0
  go_enter Tryz.func184, Tryz.ntmps184
  go_wp2_with fail
  go_loop [6, 7] (fun vv vn => ∃ (n f m : Nat), vv = .int .i32 m ∧ vn = .int .i64 n ∧ Hid (n + f = most ∧ n ≤ ke ∧ m < 16 ^ n ∧ hexC most C 0 = ((hexC f (C.drop n) m).1 + n, (hexC f (C.drop n) m).2))) (fun _ vn => most - (intOf vn).toNat)
  case atStart => exact ⟨0, most, 0, rfl, rfl, by omega, Nat.zero_le _, by decide, by simp⟩
  case round =>
    obtain ⟨n, f, m, rfl, rfl, hh⟩ := hrel
    obtain ⟨hnf, hnk, hm, hq⟩ := hh.out
    have hke2 := (List.getElem?_eq_some_iff.1 hke).1
    cases f with
    | zero =>
      have i1 : ¬ (n : Int) < (most : Int) := by omega
      have h0 : hexC 0 (C.drop n) m = (0, m) := rfl
      rw [h0, Nat.zero_add] at hq
      have HQ : Hid (hexC most C 0 = (n, m)) := hq
      clear hq h0 hh hnf hm
      go_wp2_with fail
      go_ret2
      exact ⟨by rw [HQ.out]; rfl, rfl⟩
    | succ f =>
      have i1 : (n : Int) < (most : Int) := by omega
      have hnl : n < C.length := by omega
      have i2 : (n : Int) < (C.length : Int) := by omega
      have i0 : (0 : Int) ≤ (n : Int) := by omega
      obtain ⟨c, hc⟩ : ∃ c, C[n]? = some c := ⟨_, List.getElem?_eq_getElem hnl⟩
      obtain ⟨x0, x1⟩ := hC.out n c hc
      obtain ⟨r0, r1⟩ := hr.out c (List.mem_of_getElem? hc)
      have HV := fun W => hexValue_any c.1 W r0 r1
      obtain ⟨q0, q1⟩ := hexI_lt c.1
      by_cases hp : 0 ≤ hexI c.1
      · obtain ⟨d, hd⟩ : ∃ d : Nat, hexI c.1 = d := ⟨(hexI c.1).toNat, by omega⟩
        rw [hexC_yes hc hp, hd, show ((d : Int)).toNat = d from Int.toNat_natCast d] at hq
        have hm2 : m < 1048576 := Nat.lt_of_lt_of_le hm (Nat.pow_le_pow_right (j := 5) (show 16 > 0 by decide) (by omega))
        have hne : n ≠ ke := fun e => by
          have h1 := hce.out
          rw [e, hke] at hc
          rw [← Option.some.inj hc] at hp
          omega
        have HH : Hid (n + 1 + f = most ∧ n + 1 ≤ ke ∧ 16 * m + d < 16 ^ (n + 1) ∧ hexC most C 0 = ((hexC f (C.drop (n + 1)) (16 * m + d)).1 + (n + 1), (hexC f (C.drop (n + 1)) (16 * m + d)).2)) := ⟨by omega, by omega, by rw [Nat.pow_succ]; omega, by rw [hq]; simp; omega⟩
        have hb := shl_or32 m d hm2 (by omega)
        have jd : (0 : Int) ≤ (d : Int) := by omega
        rw [hd] at HV
        obtain ⟨c0, hc0⟩ : ∃ z, c.1 = z := ⟨_, rfl⟩
        rw [hc0] at x0 HV
        have hcast : ((16 * m + d : Nat) : Int) = 16 * (m : Int) + (d : Int) := by omega
        have HZ : Hid (n + (f + 1) = most) := hnf
        clear hq hh hp hd hm hne hnf hc0 r0 r1 q0 q1 hcast
        go_wp2_with fail
        refine (HV _).mono ?_
        rintro e w2 ⟨rfl, rfl⟩
        go_wp2_with fail
        refine (HV _).mono ?_
        rintro e w3 ⟨rfl, rfl⟩
        go_wp2_with fail
        go_round
        case rel => exact ⟨n + 1, f, 16 * m + d, by go_num, by go_num, HH⟩
        case measure => have := HZ.out; simp [intOf]; omega
      · rw [hexC_no hc hp, Nat.zero_add] at hq
        have HQ : Hid (hexC most C 0 = (n, m)) := hq
        obtain ⟨z, hz⟩ : ∃ z, hexI c.1 = z := ⟨_, rfl⟩
        rw [hz] at HV hp
        have jz : ¬ (0 : Int) ≤ z := hp
        obtain ⟨c0, hc0⟩ : ∃ z, c.1 = z := ⟨_, rfl⟩
        rw [hc0] at x0 HV
        clear hq hh hm hnf hc0 r0 r1 q0 q1 hz hp
        go_wp2_with fail
        refine (HV _).mono ?_
        rintro e w2 ⟨rfl, rfl⟩
        go_wp2_with fail
        go_ret2
        exact ⟨by rw [HQ.out]; rfl, rfl⟩
end Go.Proofs.YtfbmagnfgnebdaaGreatDoor
namespace Go.Proofs.YtfbmagnfgnebdaaGreatDoor
open Go.RowKit
def hexD (c : UInt8) : Option Nat :=
  if 48 ≤ c.toNat ∧ c.toNat ≤ 57 then some (c.toNat - 48) else if 97 ≤ c.toNat ∧ c.toNat ≤ 102 then some (c.toNat - 87) else if 65 ≤ c.toNat ∧ c.toNat ≤ 70 then some (c.toNat - 55) else none
def binD (c : UInt8) : Option Nat := if c = 48 then some 0 else if c = 49 then some 1 else none
def foldN (b : Nat) (D : UInt8 → Option Nat) : List UInt8 → Nat → Option Nat
  | [], n => some n
  | c :: r, n => match D c with
    | some d => foldN b D r (b * n + d)
    | none => none
theorem hexD_lt {c : UInt8} {d : Nat} (h : hexD c = some d) : d < 16 := by
  unfold hexD at h
  split at h
  · obtain rfl := Option.some.inj h; omega
  · split at h
    · obtain rfl := Option.some.inj h; omega
    · split at h
      · obtain rfl := Option.some.inj h; omega
      · cases h
end Go.Proofs.YtfbmagnfgnebdaaGreatDoor
namespace Go.Proofs.YtfbmagnfgnebdaaGreatDoor
open Go.RowKit
/-- how many hexadecimal digits stand at the beginning, and the number that they tell; no more than so many are read -/
def hexRun : Nat → List UInt8 → Nat → Nat × Nat
  | 0, _, n => (0, n)
  | _ + 1, [], n => (0, n)
  | f + 1, c :: r, n => match hexD c with
    | some d => ((hexRun f r (16 * n + d)).1 + 1, (hexRun f r (16 * n + d)).2)
    | none => (0, n)
/-- the piece with a number in braces: its length (0: none) and the number -/
def brS (l : List UInt8) (i : Nat) : Nat × Nat :=
  if l.length < i + 3 ∨ bt l (i + 2) ≠ 123 then (0, 0) else
    if (hexRun 6 (l.drop (i + 3)) 0).1 = 0 ∨ l.length ≤ i + 3 + (hexRun 6 (l.drop (i + 3)) 0).1 ∨ bt l (i + 3 + (hexRun 6 (l.drop (i + 3)) 0).1) ≠ 125 ∨ 1114111 < (hexRun 6 (l.drop (i + 3)) 0).2 ∨ (55296 ≤ (hexRun 6 (l.drop (i + 3)) 0).2 ∧ (hexRun 6 (l.drop (i + 3)) 0).2 ≤ 57343) then (0, 0)
    else (4 + (hexRun 6 (l.drop (i + 3)) 0).1, (hexRun 6 (l.drop (i + 3)) 0).2)
end Go.Proofs.YtfbmagnfgnebdaaGreatDoor
namespace Go.Proofs.YtfbmagnfgnebdaaGreatDoor
open Go.RowKit
/-- the bytes of the character of that number -/
def utfL (n : Nat) : List UInt8 :=
  if n < 128 then [UInt8.ofNat n] else if n < 2048 then [UInt8.ofNat (192 + n / 64), UInt8.ofNat (128 + n % 64)]
  else if n < 65536 then [UInt8.ofNat (224 + n / 4096), UInt8.ofNat (128 + n / 64 % 64), UInt8.ofNat (128 + n % 64)]
  else [UInt8.ofNat (240 + n / 262144), UInt8.ofNat (128 + n / 4096 % 64), UInt8.ofNat (128 + n / 64 % 64), UInt8.ofNat (128 + n % 64)]
theorem ofN (n : Nat) (h : n < 256) : ((UInt8.ofNat n).toNat : Int) = (n : Int) := by rw [UInt8.toNat_ofNat']; omega
end Go.Proofs.YtfbmagnfgnebdaaGreatDoor
namespace Go.Proofs.YtfbmagnfgnebdaaGreatDoor
open Go.RowKit
/-- the piece that begins with a backslash: its length (0: none) and what it says -/
def escS (l : List UInt8) (i : Nat) : Nat × List UInt8 :=
  if l.length ≤ i + 1 then (0, [])
  else if bt l (i + 1) = 34 then (2, [34])
  else if bt l (i + 1) = 92 then (2, [92])
  else if bt l (i + 1) = 110 then (2, [10])
  else if bt l (i + 1) = 114 then (2, [13])
  else if bt l (i + 1) = 116 then (2, [9])
  else if bt l (i + 1) = 120 then (if i + 3 < l.length then match hexD (l.getD (i + 2) 0), hexD (l.getD (i + 3) 0) with
    | some a, some b => (4, [UInt8.ofNat (16 * a + b)])
    | _, _ => (0, []) else (0, []))
  else if bt l (i + 1) = 117 then (if 0 < (brS l i).1 then ((brS l i).1, utfL (brS l i).2) else (0, []))
  else (0, [])
theorem utfL_len (n : Nat) : (utfL n).length ≤ 4 := by
  unfold utfL
  repeat' split
  all_goals simp
theorem brS_end (l : List UInt8) (i : Nat) (h : 0 < (brS l i).1) : 5 ≤ (brS l i).1 ∧ i + (brS l i).1 ≤ l.length := by
  unfold brS at h ⊢
  split at h
  · simp at h
  · split at h
    · simp at h
    · rename_i h1 h2
      rw [if_neg h1, if_neg h2]
      show 5 ≤ 4 + (hexRun 6 (l.drop (i + 3)) 0).1 ∧ i + (4 + (hexRun 6 (l.drop (i + 3)) 0).1) ≤ l.length
      omega
/-- a piece with a backslash lies in the text, and says no more bytes than it has -/
theorem escS_end (l : List UInt8) (i : Nat) (h : 0 < (escS l i).1) : i + (escS l i).1 ≤ l.length ∧ (escS l i).2.length ≤ (escS l i).1 := by
  unfold escS at h ⊢
  split at h
  · simp at h
  rename_i g0
  rw [if_neg g0]
  repeat' split
  all_goals first
    | (simp; omega)
    | (rename_i g; have hb1 := brS_end l i g; have hu := utfL_len (brS l i).2; exact ⟨hb1.2, by omega⟩)
    | skip
  all_goals simp_all
  have hb1 := brS_end l i (by assumption)
  have hu := utfL_len (brS l i).2
  exact ⟨hb1.2, by omega⟩
end Go.Proofs.YtfbmagnfgnebdaaGreatDoor
namespace Go.Proofs.YtfbmagnfgnebdaaGreatDoor
open Go.RowKit
theorem dc_asc {l : List UInt8} {i : Nat} (h : bt l i < 128) : dc l i = (bt l i, 1) := by
  unfold dc Lib.decodeN
  rw [if_pos h]
theorem dc_big {l : List UInt8} {i : Nat} (h : ¬ bt l i < 128) : 128 ≤ (dc l i).1 ∧ (dc l i).1 ≤ 1114111 := by
  unfold dc
  have := bt_lt l i
  have := bt_lt l (i + 1)
  have := bt_lt l (i + 2)
  have := bt_lt l (i + 3)
  rcases Lib.decodeN_shape (l.length - i) (bt l i) (bt l (i + 1)) (bt l (i + 2)) (bt l (i + 3)) with ⟨a1, e⟩ | ⟨a1, a2, a3, a4, e⟩ | ⟨a1, a2, a3, a4, a5, a6, e⟩ | ⟨a1, a2, a3, a4, a5, a6, a7, e⟩ | e
  all_goals rw [e]
  all_goals simp only
  all_goals omega
theorem lo1_asc {l : List UInt8} {i : Nat} (h : bt l i < 128) : lo1 l i = false := by
  unfold lo1
  rw [dc_asc h]
  refine decide_eq_false (fun e => ?_)
  injection e with e1 _
  omega
/-- the number of the character at a place; -2 behind the end -/
def chr (l : List UInt8) (i : Nat) : Int := if i < l.length then (if lo1 l i then -1 else ((dc l i).1 : Int)) else -2
theorem chars_head (l : List UInt8) (i : Nat) : ∃ r, chars l i = (chr l i, (if i < l.length then i else l.length)) :: r := by
  unfold chr
  by_cases h : i < l.length
  · rw [chars_lt h, if_pos h, if_pos h]; exact ⟨_, rfl⟩
  · rw [chars_end h, if_neg h, if_neg h]; exact ⟨_, rfl⟩
theorem chars_asc {l : List UInt8} {i : Nat} (h : i < l.length) (hb : bt l i < 128) : chars l i = ((bt l i : Int), i) :: chars l (i + 1) := by
  rw [chars_lt h, lo1_asc hb, dc_asc hb]
  rfl
/-- a character below 128 is the byte that stands there -/
theorem chr_asc (l : List UInt8) (i k : Nat) (hk : k < 128) : chr l i = (k : Int) ↔ i < l.length ∧ bt l i = k := by
  unfold chr
  by_cases h : i < l.length
  · rw [if_pos h]
    by_cases hb : bt l i < 128
    · rw [lo1_asc hb, dc_asc hb]
      simp only [Bool.false_eq_true, if_false]
      omega
    · have := dc_big hb
      split <;> omega
  · rw [if_neg h]
    omega
theorem chr_range (l : List UInt8) (i : Nat) : -2 ≤ chr l i ∧ chr l i ≤ 1114111 := by
  unfold chr
  split
  · split
    · omega
    · by_cases hb : bt l i < 128
      · rw [dc_asc hb]; simp only; omega
      · have := dc_big hb; omega
  · omega
/-- the hexadecimal digits, as characters and as bytes -/
theorem hexI_chr (l : List UInt8) (i : Nat) (h : i < l.length) : (hexD (l.getD i 0) = none ∧ ¬ 0 ≤ hexI (chr l i)) ∨ ∃ d : Nat, hexD (l.getD i 0) = some d ∧ hexI (chr l i) = d ∧ bt l i < 128 := by
  have hc : bt l i = (l.getD i 0).toNat := rfl
  by_cases hb : bt l i < 128
  · have he : chr l i = (bt l i : Int) := (chr_asc l i (bt l i) hb).2 ⟨h, rfl⟩
    rw [he]
    unfold hexD hexI
    rw [← hc]
    by_cases a1 : 48 ≤ bt l i ∧ bt l i ≤ 57
    · exact .inr ⟨bt l i - 48, by rw [if_pos a1], by rw [if_pos (by omega)]; omega, hb⟩
    · by_cases a2 : 97 ≤ bt l i ∧ bt l i ≤ 102
      · exact .inr ⟨bt l i - 87, by rw [if_neg a1, if_pos a2], by rw [if_neg (by omega), if_pos (by omega)]; omega, hb⟩
      · by_cases a3 : 65 ≤ bt l i ∧ bt l i ≤ 70
        · exact .inr ⟨bt l i - 55, by rw [if_neg a1, if_neg a2, if_pos a3], by rw [if_neg (by omega), if_neg (by omega), if_pos (by omega)]; omega, hb⟩
        · exact .inl ⟨by rw [if_neg a1, if_neg a2, if_neg a3], by rw [if_neg (by omega), if_neg (by omega), if_neg (by omega)]; omega⟩
  · refine .inl ⟨?_, ?_⟩
    · unfold hexD
      rw [← hc, if_neg (by omega), if_neg (by omega), if_neg (by omega)]
    · have hr : chr l i = -1 ∨ 128 ≤ chr l i := by
        unfold chr
        rw [if_pos h]
        have := dc_big hb
        split
        · exact .inl rfl
        · exact .inr (by omega)
      unfold hexI
      repeat' split
      all_goals omega
theorem getD_drop {l : List UInt8} {i : Nat} (h : i < l.length) : l.drop i = l.getD i 0 :: l.drop (i + 1) := by
  rw [List.drop_eq_getElem_cons h]
  simp [List.getD, List.getElem?_eq_getElem h]
/-- a run of digits, as characters and as bytes -/
theorem hexC_chars (f : Nat) : ∀ (l : List UInt8) (i n : Nat), hexC f (chars l i) n = hexRun f (l.drop i) n := by
  induction f with
  | zero => intro l i n; rfl
  | succ f ih =>
    intro l i n
    by_cases h : i < l.length
    · rw [getD_drop h]
      rcases hexI_chr l i h with ⟨h1, h2⟩ | ⟨d, h1, h2, h3⟩
      · obtain ⟨r, hr⟩ := chars_head l i
        rw [hr, hexC, if_neg h2, hexRun, h1]
      · rw [chars_asc h h3, hexC]
        have he : chr l i = (bt l i : Int) := (chr_asc l i (bt l i) h3).2 ⟨h, rfl⟩
        rw [he] at h2
        simp only [h2]
        rw [if_pos (by omega), hexRun, h1, show ((d : Int)).toNat = d from Int.toNat_natCast d, ih]
    · rw [chars_end h, List.drop_eq_nil_of_le (by omega), hexRun, hexC, if_neg (show ¬ 0 ≤ hexI (-2) by decide)]
end Go.Proofs.YtfbmagnfgnebdaaGreatDoor
namespace Go.Proofs.YtfbmagnfgnebdaaGreatDoor
open Go.RowKit
/-- a character that is no loose byte is its own bytes -/
theorem take_own (l : List UInt8) (i : Nat) (h : i < l.length) (hlo : lo1 l i = false) : Lib.runeCells ((dc l i).1 : Int) = Lib.byteCells ((l.drop i).take (dc l i).2) := by
  have hd : Lib.decodeL (l.drop i) = dc l i := by
    have := Lib.decodeL_drop ⟨l.toArray⟩ i
    rw [← dc_decode]
    simpa using this
  have hn : l.drop i ≠ [] := fun e => by
    have := congrArg List.length e
    simp at this
    omega
  have hne : ¬ (dc l i = (65533, 1)) := of_decide_eq_false hlo
  have he := Lib.encode_decode (l.drop i) hn (by rw [hd]; exact fun hh => hne (Prod.ext hh.1 hh.2))
  rw [hd] at he
  rw [← Lib.byteCells_encodeRune, he]
theorem hv8 (a : Int) (b : Nat) (hb : b < 256) (e : a = (b : Int)) : Value.int .u8 a = Value.int .u8 ((UInt8.ofNat b).toNat : Int) := by rw [ofN b hb, e]
/-- the bytes of a character by its number -/
theorem utf_cells (n : Nat) (h : n ≤ 1114111) (hs : ¬ (55296 ≤ n ∧ n ≤ 57343)) : Lib.runeCells (n : Int) = Lib.byteCells (utfL n) := by
  unfold utfL Lib.runeCells Lib.byteCells
  by_cases h1 : n < 128
  · rw [if_pos h1, Lib.encodeRuneZ_one (by omega) (by omega)]
    exact congrArg (fun x => [x]) (hv8 _ _ (by omega) rfl)
  · rw [if_neg h1]
    by_cases h2 : n < 2048
    · rw [if_pos h2, Lib.encodeRuneZ_two (by omega) (by omega)]
      simp only [List.map]
      rw [hv8 (192 + (n : Int) / 64) (192 + n / 64) (by omega) (by omega), hv8 (128 + (n : Int) % 64) (128 + n % 64) (by omega) (by omega)]
    · rw [if_neg h2]
      by_cases h3 : n < 65536
      · rw [if_pos h3, Lib.encodeRuneZ_three (by omega)]
        simp only [List.map]
        rw [hv8 (224 + (n : Int) / 4096) (224 + n / 4096) (by omega) (by omega), hv8 (128 + (n : Int) / 64 % 64) (128 + n / 64 % 64) (by omega) (by omega), hv8 (128 + (n : Int) % 64) (128 + n % 64) (by omega) (by omega)]
      · rw [if_neg h3, Lib.encodeRuneZ_four (by omega) (by omega)]
        simp only [List.map]
        rw [hv8 (240 + (n : Int) / 262144) (240 + n / 262144) (by omega) (by omega), hv8 (128 + (n : Int) / 4096 % 64) (128 + n / 4096 % 64) (by omega) (by omega), hv8 (128 + (n : Int) / 64 % 64) (128 + n / 64 % 64) (by omega) (by omega), hv8 (128 + (n : Int) % 64) (128 + n % 64) (by omega) (by omega)]
/-- a part of a run -/
theorem add_add (a : Addr) (i j : Nat) : (a.add i).add j = a.add (i + j) := by simp [Addr.add]; split <;> split <;> simp_all <;> omega
theorem CH.drop {W : World} {ad : Addr} {C : List (Int × Nat)} (h : CH W ad C) (k : Nat) : CH W (ad.add (k * 2)) (C.drop k) := fun j c hc => by
  rw [List.getElem?_drop] at hc
  have := h (k + j) c hc
  rw [add_add, add_add]
  rw [show k * 2 + j * 2 = (k + j) * 2 by omega, show k * 2 + (j * 2 + 1) = (k + j) * 2 + 1 by omega]
  exact this
/-- the last of the characters is the end -/
theorem chars_no (l : List UInt8) : ∀ (m i : Nat), l.length - i ≤ m → ∃ (k : Nat) (c : Int × Nat), (chars l i)[k]? = some c ∧ ¬ 0 ≤ hexI c.1
  | m, i, hm => by
    by_cases h : i < l.length
    · have hp := dc_pos l i
      match m, hm with
      | 0, hm => omega
      | m + 1, hm =>
        obtain ⟨k, c, h1, h2⟩ := chars_no l m (i + (dc l i).2) (by omega)
        exact ⟨k + 1, c, by rw [chars_lt h]; exact h1, h2⟩
    · exact ⟨0, (-2, l.length), by rw [chars_end h]; rfl, (by decide : ¬ 0 ≤ hexI (-2))⟩
theorem chars_range (l : List UInt8) : ∀ (m i : Nat), l.length - i ≤ m → ∀ c ∈ chars l i, -2 ≤ c.1 ∧ c.1 ≤ 1114111
  | m, i, hm => by
    intro c hc
    by_cases h : i < l.length
    · have hp := dc_pos l i
      match m, hm with
      | 0, hm => omega
      | m + 1, hm =>
        obtain ⟨r, hr⟩ := chars_head l i
        have hr2 := hr
        rw [chars_lt h] at hr2
        rw [hr] at hc
        rcases List.mem_cons.1 hc with e | e
        · rw [e]; exact chr_range l i
        · have := (List.cons.inj hr2).2
          rw [← this] at e
          exact chars_range l m (i + (dc l i).2) (by omega) c e
    · rw [chars_end h] at hc
      rw [List.mem_singleton.1 hc]
      exact (by decide : (-2 : Int) ≤ -2 ∧ (-2 : Int) ≤ 1114111)
theorem chars_len (l : List UInt8) : ∀ (m i : Nat), l.length - i ≤ m → (chars l i).length ≤ m + 1
  | m, i, hm => by
    by_cases h : i < l.length
    · have hp := dc_pos l i
      match m, hm with
      | 0, hm => omega
      | m + 1, hm =>
        rw [chars_lt h]
        have := chars_len l m (i + (dc l i).2) (by omega)
        simp only [List.length_cons]
        omega
    · rw [chars_end h]; simp
/-- behind the digits -/
theorem drop_hex (f : Nat) : ∀ (l : List UInt8) (i n : Nat), (chars l i).drop (hexRun f (l.drop i) n).1 = chars l (i + (hexRun f (l.drop i) n).1) := by
  induction f with
  | zero => intro l i n; rfl
  | succ f ih =>
    intro l i n
    by_cases h : i < l.length
    · rw [getD_drop h]
      rcases hexI_chr l i h with ⟨h1, h2⟩ | ⟨d, h1, h2, h3⟩
      · rw [hexRun, h1]; rfl
      · rw [hexRun, h1]
        show (chars l i).drop ((hexRun f (l.drop (i + 1)) (16 * n + d)).1 + 1) = chars l (i + ((hexRun f (l.drop (i + 1)) (16 * n + d)).1 + 1))
        rw [chars_asc h h3, List.drop_succ_cons, ih]
        exact congrArg (chars l) (by rw [Nat.add_assoc, Nat.add_comm 1])
    · have hd : l.drop i = [] := List.drop_eq_nil_of_le (by omega)
      rw [hd, hexRun]; rfl
theorem hexRun_le (f : Nat) : ∀ (r : List UInt8) (n : Nat), (hexRun f r n).1 ≤ r.length ∧ (hexRun f r n).1 ≤ f := by
  induction f with
  | zero => intro r n; exact ⟨Nat.zero_le _, Nat.le_refl _⟩
  | succ f ih =>
    intro r n
    cases r with
    | nil => exact ⟨Nat.le_refl _, Nat.zero_le _⟩
    | cons c r =>
      rw [hexRun]
      cases hexD c with
      | none => exact ⟨Nat.zero_le _, Nat.zero_le _⟩
      | some d =>
        have := ih r (16 * n + d)
        show (hexRun f r (16 * n + d)).1 + 1 ≤ (c :: r).length ∧ (hexRun f r (16 * n + d)).1 + 1 ≤ f + 1
        simp only [List.length_cons]
        omega
end Go.Proofs.YtfbmagnfgnebdaaGreatDoor
