import Derived.Test.YtodhgeolcbmeiabBR
namespace Go.Proofs.Ytodhgeolcbmeiab
open Go.RowKit
/-- what Order answers of routes: in order, or none -/
def ordR (bits : Int) (L O : List IRt) : Prop := if rfit bits L = 0 then OrdOf L O else O = []
theorem ordR_uniq {bits : Int} {L A B : List IRt} (h1 : ordR bits L A) (h2 : ordR bits L B) : A = B := by
  unfold ordR at h1 h2
  split at h1
  · rename_i h
    rw [if_pos h] at h2
    exact ord_uniq h1 h2
  · rename_i h
    rw [if_neg h] at h2
    rw [h1, h2]
theorem ordR_len {bits : Int} {L O : List IRt} (h : ordR bits L O) : O.length ≤ L.length := by
  unfold ordR at h
  split at h
  · exact ord_len h.srt (fun o ho => h.mem ho)
  · rw [h]
    exact Nat.zero_le _
theorem own_base {W : World} {B B' n sz : Nat} {e : TypeId} {v : Value} {xs : List Value} (h : W.ownsRow B' e sz v n xs) (hb : B ≤ B') : W.ownsRow B e sz v n xs := by
  refine ⟨h.1, ?_⟩
  rcases h.2 with hh | ⟨g, c, cur, h1, h2, r⟩
  · exact .inl hh
  · exact .inr ⟨g, c, cur, h1, Nat.le_trans hb h2, r⟩
end Go.Proofs.Ytodhgeolcbmeiab
