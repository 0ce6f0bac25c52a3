import Derived.Test.YtclgjdhobdncjaaDoorU5
import Derived.Test.YtclgjdhobdncjaaDoorC1
namespace Go.Proofs.YtclgjdhobdncjaaDoor
open Go.RowKit
/-- the piece that begins with a backslash: its length (0: none) and what it says -/
def escS (l : List UInt8) (i : Nat) : Nat × List UInt8 :=
  if l.length ≤ i + 1 then (0, [])
  else if bt l (i + 1) = 34 then (2, [34])
  else if bt l (i + 1) = 92 then (2, [92])
  else if bt l (i + 1) = 110 then (2, [10])
  else if bt l (i + 1) = 114 then (2, [13])
  else if bt l (i + 1) = 116 then (2, [9])
  else if bt l (i + 1) = 120 then (if i + 3 < l.length then match hexD (l.getD (i + 2) 0), hexD (l.getD (i + 3) 0) with
    | some a, some b => (4, [UInt8.ofNat (16 * a + b)])
    | _, _ => (0, []) else (0, []))
  else if bt l (i + 1) = 117 then (if 0 < (brS l i).1 then ((brS l i).1, utfL (brS l i).2) else (0, []))
  else (0, [])
theorem brS_le (l : List UInt8) (i : Nat) (h : 0 < (brS l i).1) : (brS l i).2 ≤ 1114111 := by
  unfold brS at h ⊢
  split at h
  · simp at h
  · split at h
    · simp at h
    · rename_i h1 h2
      rw [if_neg h1, if_neg h2]
      show (hexRun 6 (l.drop (i + 3)) 0).2 ≤ 1114111
      omega
theorem getD_of {l : List UInt8} {i : Nat} {c : UInt8} (h : l[i]? = some c) : l.getD i 0 = c := by simp [List.getD, h]
theorem idx_str (l : List UInt8) (k : Nat) (c : UInt8) (h : l[k]? = some c) (K : Int) (hK : K = (k : Int)) (W : World) : Sem.run Tryd.prog (Instr.index 9 (.string ⟨l.toArray⟩) (.int .i64 K)) W = .ok (.int .u8 (c.toNat : Int)) W := by
  subst hK
  obtain ⟨hk, _⟩ := List.getElem?_eq_some_iff.1 h
  have h0 : (0 : Int) ≤ (k : Int) := by omega
  have h1 : (k : Int) < (l.length : Int) := by omega
  have u := Tryd.underlying9
  have e := byte_get l k hk
  obtain ⟨d, hd, hd2⟩ := e
  obtain rfl : d = c := by rw [h] at hd2; exact (Option.some.inj hd2).symm
  simp [go_sem, u, h1, hd]
theorem utfL_len (n : Nat) : (utfL n).length ≤ 4 := by
  unfold utfL
  repeat' split
  all_goals simp
theorem brS_end (l : List UInt8) (i : Nat) (h : 0 < (brS l i).1) : 5 ≤ (brS l i).1 ∧ i + (brS l i).1 ≤ l.length := by
  unfold brS at h ⊢
  split at h
  · simp at h
  · split at h
    · simp at h
    · rename_i h1 h2
      rw [if_neg h1, if_neg h2]
      show 5 ≤ 4 + (hexRun 6 (l.drop (i + 3)) 0).1 ∧ i + (4 + (hexRun 6 (l.drop (i + 3)) 0).1) ≤ l.length
      omega
/-- a piece with a backslash lies in the text, and says no more bytes than it has -/
theorem escS_end (l : List UInt8) (i : Nat) (h : 0 < (escS l i).1) : i + (escS l i).1 ≤ l.length ∧ (escS l i).2.length ≤ (escS l i).1 := by
  unfold escS at h ⊢
  split at h
  · simp at h
  rename_i g0
  rw [if_neg g0]
  repeat' split
  all_goals first
    | (simp; omega)
    | (rename_i g; have hb1 := brS_end l i g; have hu := utfL_len (brS l i).2; exact ⟨hb1.2, by omega⟩)
    | skip
  all_goals simp_all
  have hb1 := brS_end l i (by assumption)
  have hu := utfL_len (brS l i).2
  exact ⟨hb1.2, by omega⟩
end Go.Proofs.YtclgjdhobdncjaaDoor
