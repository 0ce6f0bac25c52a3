import Derived.Test.YthlgjdadkmpbbaaDoorXAO
import Derived.Test.YthlgjdadkmpbbaaDoorXAE
namespace Go.Proofs.YthlgjdadkmpbbaaDoor
open Go.RowKit
def numN (l : List UInt8) : Option Nat :=
  if 0 ≤ Lib.indexByte l 46 then quadK 3 0 l
  else if (3 ≤ l.length ∧ l.length ≤ 10) ∧ l.take 2 = [48, 120] then foldN 16 hexD (l.drop 2) 0
  else if (3 ≤ l.length ∧ l.length ≤ 34) ∧ l.take 2 = [48, 98] then foldN 2 binD (l.drop 2) 0
  else decN l 4294967295
theorem foldN_some {b : Nat} {D : UInt8 → Option Nat} {l : List UInt8} {k : Nat} {c : UInt8} {d : Nat} (h : l[k]? = some c) (hD : D c = some d) (m : Nat) : foldN b D (l.drop k) m = foldN b D (l.drop (k + 1)) (b * m + d) := by
  obtain ⟨hk, rfl⟩ := List.getElem?_eq_some_iff.1 h
  rw [List.drop_eq_getElem_cons hk, foldN, hD]
theorem foldN_none {b : Nat} {D : UInt8 → Option Nat} {l : List UInt8} {k : Nat} {c : UInt8} (h : l[k]? = some c) (hD : D c = none) (m : Nat) : foldN b D (l.drop k) m = none := by
  obtain ⟨hk, rfl⟩ := List.getElem?_eq_some_iff.1 h
  rw [List.drop_eq_getElem_cons hk, foldN, hD]
theorem foldN_end (b : Nat) (D : UInt8 → Option Nat) (l : List UInt8) (m : Nat) : foldN b D (l.drop l.length) m = some m := by rw [List.drop_length]; rfl
theorem binD_or {c : UInt8} {d : Nat} (h : binD c = some d) : (c = 48 ∧ d = 0) ∨ (c = 49 ∧ d = 1) := by
  unfold binD at h
  split at h
  · exact .inl ⟨by assumption, (Option.some.inj h).symm⟩
  · split at h
    · exact .inr ⟨by assumption, (Option.some.inj h).symm⟩
    · cases h
end Go.Proofs.YthlgjdadkmpbbaaDoor
namespace Go.Proofs.YthlgjdadkmpbbaaDoor
open Go.RowKit
/-- what Value answers -/
def valV (l : List UInt8) : Int := if 16384 < l.length then 0 else match numN l with
  | some v => v
  | none => 0
def valE (l : List UInt8) : Int := if 16384 < l.length then 2 else match numN l with
  | some _ => 0
  | none => 31
end Go.Proofs.YthlgjdadkmpbbaaDoor
