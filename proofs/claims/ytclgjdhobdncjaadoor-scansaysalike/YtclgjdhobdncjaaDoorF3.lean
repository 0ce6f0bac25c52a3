import Derived.Test.YtclgjdhobdncjaaDoorF2
import Derived.Lib.AppendStr
import Derived.Deep.RegionWith
namespace Go.Proofs.YtclgjdhobdncjaaDoor
open Go.RowKit Go.Shelf
/-- the letter of the escape that says it -/
def shL (x : Int) : Option Int := if x = 34 then some 34 else if x = 92 then some 92 else if x = 10 then some 110 else if x = 13 then some 114 else if x = 9 then some 116 else none
/-- how a character is told -/
def apT (r : Int) (b : Nat) : List UInt8 :=
  match shL r with
  | some y => [92, UInt8.ofNat y.toNat]
  | none => if r < 32 ∨ r = 127 then looS b else if unsN r.toNat = true then [92, 117, 123] ++ hexN r.toNat ++ [125] else Lib.encodeRune r
theorem shL_of {k : Nat} {z : Int × Int} (hz : shortsL[k]? = some z) : shL z.2 = some z.1 := by
  match k, hz with
  | 0, hz => obtain rfl := Option.some.inj hz; rfl
  | 1, hz => obtain rfl := Option.some.inj hz; rfl
  | 2, hz => obtain rfl := Option.some.inj hz; rfl
  | 3, hz => obtain rfl := Option.some.inj hz; rfl
  | 4, hz => obtain rfl := Option.some.inj hz; rfl
  | k + 5, hz => simp at hz
theorem shL_none {x : Int} (h : ∀ (j : Nat) (z : Int × Int), j < 5 → shortsL[j]? = some z → z.2 ≠ x) : shL x = none := by
  have h0 := h 0 _ (by decide) rfl
  have h1 := h 1 _ (by decide) rfl
  have h2 := h 2 _ (by decide) rfl
  have h3 := h 3 _ (by decide) rfl
  have h4 := h 4 _ (by decide) rfl
  simp only at h0 h1 h2 h3 h4
  unfold shL
  rw [if_neg (fun e => h0 e.symm), if_neg (fun e => h1 e.symm), if_neg (fun e => h2 e.symm), if_neg (fun e => h3 e.symm), if_neg (fun e => h4 e.symm)]
theorem sh_small {k : Nat} {z : Int × Int} (hz : shortsL[k]? = some z) : 0 ≤ z.1 ∧ z.1 < 256 := by
  match k, hz with
  | 0, hz => obtain rfl := Option.some.inj hz; decide
  | 1, hz => obtain rfl := Option.some.inj hz; decide
  | 2, hz => obtain rfl := Option.some.inj hz; decide
  | 3, hz => obtain rfl := Option.some.inj hz; decide
  | 4, hz => obtain rfl := Option.some.inj hz; decide
  | k + 5, hz => simp at hz
theorem byteCells_inj : ∀ {a b : List UInt8}, Lib.byteCells a = Lib.byteCells b → a = b
  | [], [], _ => rfl
  | [], _ :: _, h => by simp [Lib.byteCells] at h
  | _ :: _, [], h => by simp [Lib.byteCells] at h
  | x :: a, y :: b, h => by
    have h1 : Value.int .u8 (x.toNat : Int) :: Lib.byteCells a = Value.int .u8 (y.toNat : Int) :: Lib.byteCells b := h
    injection h1 with h2 h3
    injection h2 with _ h4
    rw [byteCells_inj h3, UInt8.toNat_inj.1 (show x.toNat = y.toNat by omega)]
theorem own_asc (l : List UInt8) (i : Nat) (h : i < l.length) (hb : bt l i < 128) : own l i = [l.getD i 0] := by
  unfold own
  rw [dc_asc hb, getD_drop h]
  rfl
theorem own_eq (l : List UInt8) (i : Nat) (h : i < l.length) (c : UInt8) (hc : c.toNat < 128) : own l i = [c] ↔ bt l i = c.toNat := by
  constructor
  · intro e
    by_cases hb : bt l i < 128
    · rw [own_asc l i h hb] at e
      injection e with e
      unfold bt
      rw [e]
    · have hp := dc_pos l i
      have h0 := own_get l i 0 (by omega)
      rw [e] at h0
      have h1 : l.getD i 0 = c := by simpa using h0.symm
      unfold bt
      rw [h1]
  · intro e
    rw [own_asc l i h (by omega)]
    exact congrArg (fun x => [x]) (UInt8.toNat_inj.1 e)
/-- the document's and the program's way to tell a character are one -/
theorem pcS_ap (l : List UInt8) (i : Nat) (h : i < l.length) : pcS l i = apT (chr l i) (bt l i) := by
  unfold pcS
  cases hlo : lo1 l i with
  | true =>
    have hc : chr l i = -1 := by unfold chr; rw [if_pos h, if_pos hlo]
    rw [if_pos rfl, hc]
    rfl
  | false =>
    have hc : chr l i = ((dc l i).1 : Int) := by unfold chr; rw [if_pos h, if_neg (by rw [hlo]; decide)]
    have ht := take_own l i h hlo
    rw [if_neg (by decide)]
    have key : ∀ k : Nat, k < 128 → ((chr l i = (k : Int)) ↔ own l i = [UInt8.ofNat k]) := fun k hk => by
      rw [chr_asc l i k hk, own_eq l i h _ (by rw [UInt8.toNat_ofNat']; omega), UInt8.toNat_ofNat', Nat.mod_eq_of_lt (by omega)]
      exact ⟨fun e => e.2, fun e => ⟨h, e⟩⟩
    have k34 : chr l i = 34 ↔ own l i = [34] := key 34 (by decide)
    have k92 : chr l i = 92 ↔ own l i = [92] := key 92 (by decide)
    have k10 : chr l i = 10 ↔ own l i = [10] := key 10 (by decide)
    have k13 : chr l i = 13 ↔ own l i = [13] := key 13 (by decide)
    have k9 : chr l i = 9 ↔ own l i = [9] := key 9 (by decide)
    have henc : Lib.encodeRune (chr l i) = own l i := by
      have h1 := Lib.byteCells_encodeRune (chr l i)
      rw [hc, ht] at h1
      rw [hc]
      exact byteCells_inj h1
    unfold saiS apT shL
    by_cases g34 : chr l i = 34
    · rw [if_pos (k34.1 g34), if_pos g34]; rfl
    rw [if_neg (fun e => g34 (k34.2 e)), if_neg g34]
    by_cases g92 : chr l i = 92
    · rw [if_pos (k92.1 g92), if_pos g92]; rfl
    rw [if_neg (fun e => g92 (k92.2 e)), if_neg g92]
    by_cases g10 : chr l i = 10
    · rw [if_pos (k10.1 g10), if_pos g10]; rfl
    rw [if_neg (fun e => g10 (k10.2 e)), if_neg g10]
    by_cases g13 : chr l i = 13
    · rw [if_pos (k13.1 g13), if_pos g13]; rfl
    rw [if_neg (fun e => g13 (k13.2 e)), if_neg g13]
    by_cases g9 : chr l i = 9
    · rw [if_pos (k9.1 g9), if_pos g9]; rfl
    rw [if_neg (fun e => g9 (k9.2 e)), if_neg g9]
    show _ = if chr l i < 32 ∨ chr l i = 127 then looS (bt l i) else if unsN (chr l i).toNat = true then [92, 117, 123] ++ hexN (chr l i).toNat ++ [125] else Lib.encodeRune (chr l i)
    rw [henc, hc, Int.toNat_natCast]
    by_cases hb : (dc l i).1 < 32 ∨ (dc l i).1 = 127
    · rw [if_pos hb, if_pos (by omega)]
      have : bt l i < 128 := Classical.byContradiction (fun hn => by have := dc_big hn; omega)
      rw [dc_asc this]
    · rw [if_neg hb, if_neg (show ¬ (((dc l i).1 : Int) < 32 ∨ ((dc l i).1 : Int) = 127) by omega)]
end Go.Proofs.YtclgjdhobdncjaaDoor
