import Derived.Test.YtbdnpbiimbeflaaW6
import Derived.Deep.RegionWith
namespace Go.Proofs.Ytbdnpbiimbeflaa
open Go.RowKit
theorem ne_byte' {b : UInt8} {n : Nat} (h : b ≠ UInt8.ofNat n) : ((b.toNat : Int) != ((n : Nat) : Int)) = true := by
  have := ne_byte h
  unfold bne
  rw [this]; rfl

theorem toList_str (s : ByteArray) : (⟨s.data.toList.toArray⟩ : ByteArray) = s := by
  obtain ⟨l⟩ := s; simp

end Go.Proofs.Ytbdnpbiimbeflaa
