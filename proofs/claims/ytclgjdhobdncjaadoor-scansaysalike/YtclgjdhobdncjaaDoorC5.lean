import Derived.Test.YtclgjdhobdncjaaDoorC4
import Derived.Lib.MapLaws
import Derived.Lib.TrimUEq
namespace Go.Proofs.YtclgjdhobdncjaaDoor
open Go.RowKit
/-- a character that is no loose byte is its own bytes -/
theorem take_own (l : List UInt8) (i : Nat) (h : i < l.length) (hlo : lo1 l i = false) : Lib.runeCells ((dc l i).1 : Int) = Lib.byteCells ((l.drop i).take (dc l i).2) := by
  have hd : Lib.decodeL (l.drop i) = dc l i := by
    have := Lib.decodeL_drop ⟨l.toArray⟩ i
    rw [← dc_decode]
    simpa using this
  have hn : l.drop i ≠ [] := fun e => by
    have := congrArg List.length e
    simp at this
    omega
  have hne : ¬ (dc l i = (65533, 1)) := of_decide_eq_false hlo
  have he := Lib.encode_decode (l.drop i) hn (by rw [hd]; exact fun hh => hne (Prod.ext hh.1 hh.2))
  rw [hd] at he
  rw [← Lib.byteCells_encodeRune, he]
theorem hv8 (a : Int) (b : Nat) (hb : b < 256) (e : a = (b : Int)) : Value.int .u8 a = Value.int .u8 ((UInt8.ofNat b).toNat : Int) := by rw [ofN b hb, e]
/-- the bytes of a character by its number -/
theorem utf_cells (n : Nat) (h : n ≤ 1114111) (hs : ¬ (55296 ≤ n ∧ n ≤ 57343)) : Lib.runeCells (n : Int) = Lib.byteCells (utfL n) := by
  unfold utfL Lib.runeCells Lib.byteCells
  by_cases h1 : n < 128
  · rw [if_pos h1, Lib.encodeRuneZ_one (by omega) (by omega)]
    exact congrArg (fun x => [x]) (hv8 _ _ (by omega) rfl)
  · rw [if_neg h1]
    by_cases h2 : n < 2048
    · rw [if_pos h2, Lib.encodeRuneZ_two (by omega) (by omega)]
      simp only [List.map]
      rw [hv8 (192 + (n : Int) / 64) (192 + n / 64) (by omega) (by omega), hv8 (128 + (n : Int) % 64) (128 + n % 64) (by omega) (by omega)]
    · rw [if_neg h2]
      by_cases h3 : n < 65536
      · rw [if_pos h3, Lib.encodeRuneZ_three (by omega)]
        simp only [List.map]
        rw [hv8 (224 + (n : Int) / 4096) (224 + n / 4096) (by omega) (by omega), hv8 (128 + (n : Int) / 64 % 64) (128 + n / 64 % 64) (by omega) (by omega), hv8 (128 + (n : Int) % 64) (128 + n % 64) (by omega) (by omega)]
      · rw [if_neg h3, Lib.encodeRuneZ_four (by omega) (by omega)]
        simp only [List.map]
        rw [hv8 (240 + (n : Int) / 262144) (240 + n / 262144) (by omega) (by omega), hv8 (128 + (n : Int) / 4096 % 64) (128 + n / 4096 % 64) (by omega) (by omega), hv8 (128 + (n : Int) / 64 % 64) (128 + n / 64 % 64) (by omega) (by omega), hv8 (128 + (n : Int) % 64) (128 + n % 64) (by omega) (by omega)]
/-- a part of a run -/
theorem add_add (a : Addr) (i j : Nat) : (a.add i).add j = a.add (i + j) := by simp [Addr.add]; split <;> split <;> simp_all <;> omega
theorem CH.drop {W : World} {ad : Addr} {C : List (Int × Nat)} (h : CH W ad C) (k : Nat) : CH W (ad.add (k * 2)) (C.drop k) := fun j c hc => by
  rw [List.getElem?_drop] at hc
  have := h (k + j) c hc
  rw [add_add, add_add]
  rw [show k * 2 + j * 2 = (k + j) * 2 by omega, show k * 2 + (j * 2 + 1) = (k + j) * 2 + 1 by omega]
  exact this
/-- the last of the characters is the end -/
theorem chars_no (l : List UInt8) : ∀ (m i : Nat), l.length - i ≤ m → ∃ (k : Nat) (c : Int × Nat), (chars l i)[k]? = some c ∧ ¬ 0 ≤ hexI c.1
  | m, i, hm => by
    by_cases h : i < l.length
    · have hp := dc_pos l i
      match m, hm with
      | 0, hm => omega
      | m + 1, hm =>
        obtain ⟨k, c, h1, h2⟩ := chars_no l m (i + (dc l i).2) (by omega)
        exact ⟨k + 1, c, by rw [chars_lt h]; exact h1, h2⟩
    · exact ⟨0, (-2, l.length), by rw [chars_end h]; rfl, (by decide : ¬ 0 ≤ hexI (-2))⟩
theorem chars_range (l : List UInt8) : ∀ (m i : Nat), l.length - i ≤ m → ∀ c ∈ chars l i, -2 ≤ c.1 ∧ c.1 ≤ 1114111
  | m, i, hm => by
    intro c hc
    by_cases h : i < l.length
    · have hp := dc_pos l i
      match m, hm with
      | 0, hm => omega
      | m + 1, hm =>
        obtain ⟨r, hr⟩ := chars_head l i
        have hr2 := hr
        rw [chars_lt h] at hr2
        rw [hr] at hc
        rcases List.mem_cons.1 hc with e | e
        · rw [e]; exact chr_range l i
        · have := (List.cons.inj hr2).2
          rw [← this] at e
          exact chars_range l m (i + (dc l i).2) (by omega) c e
    · rw [chars_end h] at hc
      rw [List.mem_singleton.1 hc]
      exact (by decide : (-2 : Int) ≤ -2 ∧ (-2 : Int) ≤ 1114111)
theorem chars_len (l : List UInt8) : ∀ (m i : Nat), l.length - i ≤ m → (chars l i).length ≤ m + 1
  | m, i, hm => by
    by_cases h : i < l.length
    · have hp := dc_pos l i
      match m, hm with
      | 0, hm => omega
      | m + 1, hm =>
        rw [chars_lt h]
        have := chars_len l m (i + (dc l i).2) (by omega)
        simp only [List.length_cons]
        omega
    · rw [chars_end h]; simp
/-- behind the digits -/
theorem drop_hex (f : Nat) : ∀ (l : List UInt8) (i n : Nat), (chars l i).drop (hexRun f (l.drop i) n).1 = chars l (i + (hexRun f (l.drop i) n).1) := by
  induction f with
  | zero => intro l i n; rfl
  | succ f ih =>
    intro l i n
    by_cases h : i < l.length
    · rw [getD_drop h]
      rcases hexI_chr l i h with ⟨h1, h2⟩ | ⟨d, h1, h2, h3⟩
      · rw [hexRun, h1]; rfl
      · rw [hexRun, h1]
        show (chars l i).drop ((hexRun f (l.drop (i + 1)) (16 * n + d)).1 + 1) = chars l (i + ((hexRun f (l.drop (i + 1)) (16 * n + d)).1 + 1))
        rw [chars_asc h h3, List.drop_succ_cons, ih]
        exact congrArg (chars l) (by rw [Nat.add_assoc, Nat.add_comm 1])
    · have hd : l.drop i = [] := List.drop_eq_nil_of_le (by omega)
      rw [hd, hexRun]; rfl
theorem hexRun_le (f : Nat) : ∀ (r : List UInt8) (n : Nat), (hexRun f r n).1 ≤ r.length ∧ (hexRun f r n).1 ≤ f := by
  induction f with
  | zero => intro r n; exact ⟨Nat.zero_le _, Nat.le_refl _⟩
  | succ f ih =>
    intro r n
    cases r with
    | nil => exact ⟨Nat.le_refl _, Nat.zero_le _⟩
    | cons c r =>
      rw [hexRun]
      cases hexD c with
      | none => exact ⟨Nat.zero_le _, Nat.zero_le _⟩
      | some d =>
        have := ih r (16 * n + d)
        show (hexRun f r (16 * n + d)).1 + 1 ≤ (c :: r).length ∧ (hexRun f r (16 * n + d)).1 + 1 ≤ f + 1
        simp only [List.length_cons]
        omega
end Go.Proofs.YtclgjdhobdncjaaDoor
