import Derived.Test.YtmblloddhpcdeaaN2
import Derived.Test.YtmblloddhpcdeaaL2
namespace Go.Proofs.Ytmblloddhpcdeaa
open Go.RowKit

theorem ternHulls_walk (t : ByteArray) (p : Option Addr) (len cap : Nat) (SL : List ByteArray) (w : World) (ht : t.size ≤ maxLen)
    (hlen : SL.length = len) (hlb : len ≤ 1048576) (hcell : ∀ i, i < len → ∃ ad, p = some ad ∧ w.cell? (ad.add i) = some (.string (SL.getD i ByteArray.empty))) (hsz : ∀ s ∈ SL, s.size ≤ maxLen) :
    Calls Try.prog 8 #[.string t, .slice p len cap] w fun e w' => e = .returned (.bool true) ∧ Below w.heap.size w w' := by
  refine hulls_try t p len cap SL _ w ht rfl hlen hlb hcell hsz (good_cubeT _) (good_cubL SL) _ rfl ?_
  intro H hH
  unfold hulF at hH
  split at hH
  · cases hH
  · exact hul_good _ _ H hH (good_cubeT _) (good_cubL SL)
end Go.Proofs.Ytmblloddhpcdeaa
