import Derived.Test.YtdgglglemdbgcaaS3
import Derived.Test.YtdgglglemdbgcaaW14
namespace Go.Proofs.Ytdgglglemdbgcaa
open Go.RowKit

theorem texts_D (L : List (List UInt8)) (V1 V2 : Value) (B1 B2 : Nat) (w : World) (gL : ∀ x ∈ L, good x = true) (hLl : L.length ≤ 256)
    (h1 : w.ownsRow B1 26 9 V1 L.length (cels L)) (h2 : w.ownsRow B2 9 1 V2 L.length (sts L)) :
    Calls Try.prog 20 #[V1, V2] w fun e w' => e = .returned (.bool true) ∧ Below w.heap.size w w' := by
  rcases h1.2 with ⟨rfl, n1⟩ | ⟨g1, c1, _, rfl, _⟩ <;> rcases h2.2 with ⟨rfl, n2⟩ | ⟨g2, c2, _, rfl, _⟩
  · exact texts_nil _ _ _ _ w
  · rw [n1]; exact texts_nil _ _ _ _ w
  · rw [n2]; exact texts_nil _ _ _ _ w
  · exact texts_some L g1 c1 g2 c2 B1 B2 w gL hLl h1 h2

theorem refC_T (s : ByteArray) (D : List UInt8) (w : World) (hs : s.size ≤ maxLen) (h : cubeT s.data.toList = D) :
    Calls Try.prog 10 #[.string s] w fun e w' => e = .returned (.string ⟨D.toArray⟩) ∧ w = w' := (refC_D s D w hs h).mono (fun _ _ h => ⟨h.1, h.2.symm⟩)

end Go.Proofs.Ytdgglglemdbgcaa
