import Derived.Test.YtfcdaljhbeogeaaBZ
import Derived.Test.YtfcdaljhbeogeaaRV
namespace Go.Proofs.Ytfcdaljhbeogeaa
open Go.RowKit
theorem aw_look : rlook 4 [(2, 8, 1, 2), (3, 8, 2, 3), (1, 8, 1, 1), (2, 0, 0, 5), (2, 8, 1, 4)] 12 = (2, 0) := by decide
theorem aw_fit : rfit 4 [(2, 8, 1, 2), (3, 8, 2, 3), (1, 8, 1, 1), (2, 0, 0, 5), (2, 8, 1, 4)] = 0 := by decide
theorem aw_ord : ordR 4 [(2, 8, 1, 2), (3, 8, 2, 3), (1, 8, 1, 1), (2, 0, 0, 5), (2, 8, 1, 4)] [(3, 8, 2, 3), (1, 8, 1, 1), (2, 0, 0, 5)] := by
  unfold ordR
  rw [if_pos aw_fit]
  exact ⟨by simp [plt, rpre], by simp [bst, rpre], by simp [rpre]⟩
theorem aw_fit2 : rfit 4 [(2, 0, 0, 3), (2, 8, 1, 3)] = 0 := by decide
theorem aw_slim : slimR 4 [(2, 0, 0, 3), (2, 8, 1, 3)] [(2, 0, 0, 3)] := by
  unfold slimR
  rw [if_pos aw_fit2]
  exact ⟨[(2, 8, 1, 3), (2, 0, 0, 3)], ⟨by simp [plt, rpre], by simp [bst, rpre], by simp [rpre]⟩, by decide +kernel⟩
theorem aw_gfit : gfit 2 [(0, 1, 7, 4)] [1] = 0 := by decide
theorem aw_short : shortR 2 [(0, 1, 7, 4)] [1] [7, 0] [0, -1] := by
  have hg : ∀ v, v ≠ 0 → v ≠ 1 → gF [7, 0] v = -1 := fun v h0 h1 => by
    match v, h0, h1 with
    | v + 2, _, _ => simp [gF]
  have h0 : gF [7, 0] 0 = 7 := rfl
  have h1 : gF [7, 0] 1 = 0 := rfl
  have c : ∀ v, (v = 0 ∧ gF [7, 0] v = 7) ∨ (v = 1 ∧ gF [7, 0] v = 0) ∨ gF [7, 0] v = -1 := fun v => by
    by_cases e0 : v = 0
    · exact .inl ⟨e0, by rw [e0]; rfl⟩
    · by_cases e1 : v = 1
      · exact .inr (.inl ⟨e1, by rw [e1]; rfl⟩)
      · exact .inr (.inr (hg v e0 e1))
  unfold shortR
  rw [if_pos aw_gfit]
  refine ⟨⟨fun v => ?_, fun d hd => ?_, fun e he _ => ?_, fun v hv => ?_⟩, rfl, ⟨rfl, fun v hv => ?_⟩, fun u => ?_⟩
  · rcases c v with ⟨_, h⟩ | ⟨_, h⟩ | h <;> omega
  · have hd2 : d = 1 := by simpa using hd
    rw [hd2]
    rfl
  · have he2 : e = (0, 1, 7, 4) := by simpa using he
    rw [he2]
    exact ⟨by decide, by decide⟩
  · rcases c v with ⟨e, h⟩ | ⟨e, h⟩ | h
    · exact .inr ⟨(0, 1, 7, 4), by simp, e.symm, by decide, by rw [h]; decide⟩
    · exact .inl ⟨h, by rw [e]; decide⟩
    · omega
  · have hv2 : v = 0 ∨ v = 1 := by
      have : v < 2 := hv
      omega
    rcases hv2 with rfl | rfl
    · exact .inr ⟨0, rfl, Nat.zero_le _, by decide, ⟨(0, 1, 7, 4), rfl, rfl, by decide⟩, fun j e _ hj => by omega⟩
    · refine .inl ⟨rfl, fun i e _ hi he hev => ?_⟩
      have hi0 : i = 0 := by
        have : i < 1 := hi
        omega
      subst hi0
      have he2 : e = (0, 1, 7, 4) := by
        injection he with he
        exact he.symm
      subst he2
      cases hev
  · rcases c u with ⟨_, h⟩ | ⟨_, h⟩ | h <;> omega
end Go.Proofs.Ytfcdaljhbeogeaa
