import Derived.Test.YtnobpeghofoniaaGreatDoorZ4
import Derived.Test.YtnobpeghofoniaaGreatDoorZ2
namespace Go.Proofs.YtnobpeghofoniaaGreatDoor
open Go.RowKit
/-- how many hexadecimal digits stand at the beginning, and the number that they tell; no more than so many are read -/
def hexRun : Nat → List UInt8 → Nat → Nat × Nat
  | 0, _, n => (0, n)
  | _ + 1, [], n => (0, n)
  | f + 1, c :: r, n => match hexD c with
    | some d => ((hexRun f r (16 * n + d)).1 + 1, (hexRun f r (16 * n + d)).2)
    | none => (0, n)
/-- the piece with a number in braces: its length (0: none) and the number -/
def brS (l : List UInt8) (i : Nat) : Nat × Nat :=
  if l.length < i + 3 ∨ bt l (i + 2) ≠ 123 then (0, 0) else
    if (hexRun 6 (l.drop (i + 3)) 0).1 = 0 ∨ l.length ≤ i + 3 + (hexRun 6 (l.drop (i + 3)) 0).1 ∨ bt l (i + 3 + (hexRun 6 (l.drop (i + 3)) 0).1) ≠ 125 ∨ 1114111 < (hexRun 6 (l.drop (i + 3)) 0).2 ∨ (55296 ≤ (hexRun 6 (l.drop (i + 3)) 0).2 ∧ (hexRun 6 (l.drop (i + 3)) 0).2 ≤ 57343) then (0, 0)
    else (4 + (hexRun 6 (l.drop (i + 3)) 0).1, (hexRun 6 (l.drop (i + 3)) 0).2)
theorem hexRun_none {f : Nat} {l : List UInt8} {k : Nat} {c : UInt8} (h : l[k]? = some c) (hD : hexD c = none) (n : Nat) : hexRun f (l.drop k) n = (0, n) := by
  obtain ⟨hk, rfl⟩ := List.getElem?_eq_some_iff.1 h
  rw [List.drop_eq_getElem_cons hk]
  cases f with
  | zero => rfl
  | succ f => rw [hexRun, hD]
theorem hexRun_some {f : Nat} {l : List UInt8} {k : Nat} {c : UInt8} {d : Nat} (h : l[k]? = some c) (hD : hexD c = some d) (n : Nat) : hexRun (f + 1) (l.drop k) n = ((hexRun f (l.drop (k + 1)) (16 * n + d)).1 + 1, (hexRun f (l.drop (k + 1)) (16 * n + d)).2) := by
  obtain ⟨hk, rfl⟩ := List.getElem?_eq_some_iff.1 h
  rw [List.drop_eq_getElem_cons hk, hexRun, hD]
theorem hexRun_end (f : Nat) (l : List UInt8) (k : Nat) (h : l.length ≤ k) (n : Nat) : hexRun f (l.drop k) n = (0, n) := by
  rw [List.drop_eq_nil_of_le h]
  cases f <;> rfl
end Go.Proofs.YtnobpeghofoniaaGreatDoor
