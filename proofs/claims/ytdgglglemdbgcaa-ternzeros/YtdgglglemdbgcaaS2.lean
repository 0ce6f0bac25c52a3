import Derived.Test.YtdgglglemdbgcaaS1
namespace Go.Proofs.Ytdgglglemdbgcaa
open Go.RowKit

/-- texts as strings -/
def sts (l : List (List UInt8)) : List Value := l.map (fun t => .string ⟨t.toArray⟩)
theorem sts_snoc (l : List (List UInt8)) (t : List UInt8) : sts (l ++ [t]) = sts l ++ [.string ⟨t.toArray⟩] := by simp [sts]

theorem pcs_skip1 (a b : List UInt8) (k : Nat) (h : qual a b k = false) : pcs a b (k + 1) = pcs a b k := by
  refine pcs_skip a b k (k + 1) (by omega) ?_
  intro j h1 h2
  obtain rfl : j = k := by omega
  exact h

end Go.Proofs.Ytdgglglemdbgcaa
