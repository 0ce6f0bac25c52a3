import Derived.Test.YtfcdaljhbeogeaaBF
namespace Go.Proofs.Ytfcdaljhbeogeaa
open Go.RowKit
theorem rfirst_succ {b v : Nat} {L : List IRt} {i : Nat} {r : IRt} (h : L[i]? = some r) : rfirst b v L (i + 1) = if rhas b r v = true ∧ (rfirst b v L i = 0 ∨ rahead r (L.getD (rfirst b v L i - 1) (0, 0, 0, 0)) = true) then i + 1 else rfirst b v L i := by
  have e : L.getD i (0, 0, 0, 0) = r := by simp [List.getD, h]
  rw [rfirst, e]
theorem rfit_ok {bits : Int} {L : List IRt} (h : rfit bits L = 0) : 1 ≤ bits ∧ bits ≤ 32 ∧ L.length ≤ 256 ∧ L.all (rmay bits.toNat) = true := by
  unfold rfit at h
  split at h
  · omega
  · rename_i h1
    split at h
    · omega
    · rename_i h2
      split at h
      · rename_i h3
        have h2 := Classical.not_not.1 h2
        exact ⟨h2.1, h2.2, by omega, h3⟩
      · omega
end Go.Proofs.Ytfcdaljhbeogeaa
