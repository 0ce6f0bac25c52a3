import Derived.Test.YtcoipocebkbjgaaDoorVD
namespace Go.Proofs.YtcoipocebkbjgaaDoor
open Go.RowKit Go.Shelf
def parts (r : List UInt8) : List (List UInt8) :=
  if Lib.indexByte r 46 < 0 then [r] else r.take (Lib.indexByte r 46).toNat :: parts (r.drop ((Lib.indexByte r 46).toNat + 1))
termination_by r.length
decreasing_by
  have := idx_lt r 46
  simp
  omega
theorem parts_neg {r : List UInt8} (h : Lib.indexByte r 46 < 0) : parts r = [r] := by rw [parts, if_pos h]
theorem parts_pos {r : List UInt8} {i : Nat} (h : Lib.indexByte r 46 = i) : parts r = r.take i :: parts (r.drop (i + 1)) := by
  rw [parts, if_neg (by omega), h]; rfl
theorem parts_ne (r : List UInt8) : 0 < (parts r).length := by
  rw [parts]; split <;> simp
theorem parts_len (m : Nat) : ∀ r : List UInt8, r.length ≤ m → (parts r).length ≤ m + 1 := by
  induction m using Nat.strongRecOn with
  | ind m ih =>
  intro r hr
  rw [parts]
  split
  · simp
  · rename_i h
    have h1 := idx_lt r 46
    have h2 := ih (m - 1) (by omega) (r.drop ((Lib.indexByte r 46).toNat + 1)) (by simp; omega)
    simp only [List.length_cons]
    omega
def evalP (n : Nat) : List (List UInt8) → Option Nat
  | [] => some n
  | p :: ps => match decN p 255 with
    | some v => evalP (256 * n + v) ps
    | none => none
theorem decN_dot {r : List UInt8} {i : Nat} (h : Lib.indexByte r 46 = i) (t : Nat) : decN r t = none := by
  unfold decN
  rw [if_neg]
  rintro ⟨_, ha, _⟩
  have h1 := (Lib.indexByte_some h).1
  rw [List.all_eq_true] at ha
  exact absurd (ha 46 (List.mem_of_getElem? h1)) (by decide)
theorem quadK_parts (k : Nat) : ∀ (n : Nat) (r : List UInt8), quadK k n r = if (parts r).length = k + 1 then evalP n (parts r) else none := by
  induction k with
  | zero =>
    intro n r
    rw [quadK]
    by_cases h : Lib.indexByte r 46 < 0
    · rw [parts_neg h, if_pos (show [r].length = 0 + 1 from rfl), evalP]
      cases decN r 255 <;> rfl
    · obtain ⟨i, hi⟩ : ∃ i : Nat, Lib.indexByte r 46 = i := ⟨(Lib.indexByte r 46).toNat, by omega⟩
      rw [decN_dot hi, parts_pos hi, if_neg]
      have := parts_ne (r.drop (i + 1))
      simp only [List.length_cons]
      omega
  | succ k ih =>
    intro n r
    rw [quadK]
    by_cases h : Lib.indexByte r 46 < 0
    · rw [if_pos h, parts_neg h, if_neg (by simp)]
    · obtain ⟨i, hi⟩ : ∃ i : Nat, Lib.indexByte r 46 = i := ⟨(Lib.indexByte r 46).toNat, by omega⟩
      rw [if_neg h, parts_pos hi, hi, show ((i : Int)).toNat = i from Int.toNat_natCast i, evalP]
      cases hd : decN (r.take i) 255 with
      | none =>
        show none = if (r.take i :: parts (r.drop (i + 1))).length = k + 1 + 1 then none else none
        rw [ite_self]
      | some v =>
        show quadK k (256 * n + v) (r.drop (i + 1)) = if (r.take i :: parts (r.drop (i + 1))).length = k + 1 + 1 then evalP (256 * n + v) (parts (r.drop (i + 1))) else none
        rw [ih]
        simp only [List.length_cons, Nat.add_right_cancel_iff]
theorem quad_none {l : List UInt8} (h : (parts l).length = 4 → evalP 0 (parts l) = none) : quadK 3 0 l = none := by
  rw [quadK_parts]
  split
  · rename_i h4; exact h h4
  · rfl
theorem shl_or (m v : Nat) (hm : m < 16777216) (hv : v ≤ 255) : bits .or .i64 (wrap64 ((m : Int) * 256)) (v : Int) = ((256 * m + v : Nat) : Int) := by
  have h1 : wrap64 ((m : Int) * 256) = ((256 * m : Nat) : Int) := by unfold wrap64; omega
  rw [h1]
  have a1 : (BitVec.ofInt 64 ((256 * m : Nat) : Int)).toNat = 256 * m := by
    rw [BitVec.ofInt_natCast, BitVec.toNat_ofNat]; exact Nat.mod_eq_of_lt (by omega)
  have a2 : (BitVec.ofInt 64 (v : Int)).toNat = v := by
    rw [BitVec.ofInt_natCast, BitVec.toNat_ofNat]; exact Nat.mod_eq_of_lt (by omega)
  have a3 : 256 * m ||| v = 256 * m + v := by
    have := Nat.two_pow_add_eq_or_of_lt (i := 8) (b := v) (by omega) m
    rw [show (256 : Nat) = 2 ^ 8 by decide]
    exact this.symm
  show IntKind.i64.wrap ((BitVec.ofInt 64 ((256 * m : Nat) : Int) ||| BitVec.ofInt 64 (v : Int)).toNat : Int) = _
  rw [BitVec.toNat_or, a1, a2, a3, IntKind.wrap_i64]
  omega
end Go.Proofs.YtcoipocebkbjgaaDoor
