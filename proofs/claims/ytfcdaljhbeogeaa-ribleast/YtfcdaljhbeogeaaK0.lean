import Derived.Test.YtfcdaljhbeogeaaG
import Derived.Lib.IndexLaws
import Derived.Deep.DeepCutAuto
import Derived.Deep.RegionWith
import Derived.Deep.QuietTactic
namespace Go.Proofs.Ytfcdaljhbeogeaa
open Go.RowKit
theorem cat_bytes (a b : List UInt8) : (ByteArray.mk a.toArray) ++ (ByteArray.mk b.toArray) = ⟨(a ++ b).toArray⟩ := ByteArray.ext (by simp)
theorem byte_get (l : List UInt8) (k : Nat) (h : k < l.length) : ∃ c, (∀ h', (ByteArray.mk l.toArray)[k]'h' = c) ∧ l[k]? = some c := ⟨l[k], fun _ => rfl, List.getElem?_eq_getElem h⟩
theorem u8_ne {c d : UInt8} (h : c ≠ d) : ((c.toNat : Int) == (d.toNat : Int)) = false := by
  rw [beq_eq_false_iff_ne]
  intro e
  exact h (UInt8.toNat_inj.1 (by omega))
def optI : Option Nat → Int
  | some v => v
  | none => -1
theorem ext_drop (l : List UInt8) (i : Nat) : (ByteArray.mk l.toArray).extract i l.length = ⟨(l.drop i).toArray⟩ := ByteArray.ext (by simp; exact List.take_of_length_le (by simp))
end Go.Proofs.Ytfcdaljhbeogeaa
