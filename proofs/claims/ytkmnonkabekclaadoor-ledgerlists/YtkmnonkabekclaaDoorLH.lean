import Derived.Test.YtkmnonkabekclaaDoorLG
import Derived.Deep.RegionHeld3
import Derived.Lib.SlBytesConst
namespace Go.Proofs.YtkmnonkabekclaaDoor
open Go.RowKit
/-- a list of no bytes that was made here -/
theorem OB_empty {W : World} {B b : Nat} (h : W.heap[b]? = some (.cells #[] 5 (0, 0))) (hB : B ≤ b) : OB W B (.slice (some ⟨b, 0, none⟩) 0 0) [] :=
  ⟨rfl, .inr ⟨b, 0, #[], rfl, hB, h, Nat.le_refl _, by unfold maxLen; omega, rfl, rfl⟩⟩
theorem BR.len0 {W : World} {p : Option Addr} : BR W p [] := fun k x hx => by simp at hx
end Go.Proofs.YtkmnonkabekclaaDoor
