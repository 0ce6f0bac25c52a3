import Derived.Test.YtdgglglemdbgcaaR2
import Derived.Test.YtdgglglemdbgcaaW8
namespace Go.Proofs.Ytdgglglemdbgcaa
open Go.RowKit

theorem refC_S (s : ByteArray) (D : List UInt8) (w : World) (hs : s.size ≤ maxLen) (h : cubeT s.data.toList = D) :
    Calls Try.prog 10 #[.string s] w fun e w' => e = .returned (.string ⟨D.toArray⟩) ∧ w = w' := (refC_D s D w hs h).mono (fun _ _ h => ⟨h.1, h.2.symm⟩)
theorem is_self (a : List UInt8) (w : World) (ha : good a = true) :
    Calls Try.prog 25 #[cubeV a, .string ⟨a.toArray⟩] w fun e w' => e = .returned (.bool true) ∧ Below w.heap.size w w' := by
  have h := is_list a a w ha (good_len ha)
  rw [show (a == a) = true by simp] at h
  exact h

theorem meet33 (X : List UInt8) (w : World) (h : allT 3 = X) : Calls Try.prog 14 #[cubeV (allT 3), cubeV (allT 3)] w fun e w' => e = .returned (.tuple #[cubeV X, .bool true]) ∧ Below w.heap.size w w' :=
  meet_D (allT 3) (allT 3) X true w (good_allT 3) (by rw [← h]; decide) (by decide)
theorem isX3 (X : List UInt8) (w : World) (h : allT 3 = X) : Calls Try.prog 25 #[cubeV X, .string ⟨#[120, 120, 120]⟩] w fun e w' => e = .returned (.bool true) ∧ Below w.heap.size w w' := by
  subst h; exact is_self (allT 3) w (good_allT 3)

end Go.Proofs.Ytdgglglemdbgcaa
