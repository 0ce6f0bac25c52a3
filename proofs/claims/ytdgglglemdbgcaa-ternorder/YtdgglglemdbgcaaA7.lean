import Derived.Test.YtdgglglemdbgcaaA6
namespace Go.Proofs.Ytdgglglemdbgcaa
open Go.RowKit

theorem ternOrder_walk (a b d : ByteArray) (w : World) (ha : a.size ≤ maxLen) (hb : b.size ≤ maxLen) (hd : d.size ≤ maxLen) :
    Calls Try.prog 5 #[.string a, .string b, .string d] w fun e w' => e = .returned (.bool true) ∧ Below w.heap.size w w' := by
  by_cases h : cubB a.data.toList = false ∨ cubB b.data.toList = false ∨ cubB d.data.toList = false ∨ a.size ≠ b.size ∨ a.size ≠ d.size
  · exact ternOrder_off a b d _ _ _ _ _ _ w ha hb hd rfl rfl rfl rfl rfl rfl _ _ _ rfl rfl rfl h
  · have la : a.data.toList.length = a.size := by simp
    have lb : b.data.toList.length = b.size := by simp
    have ld : d.data.toList.length = d.size := by simp
    have ca : cubB a.data.toList = true := by
      cases e : cubB a.data.toList
      · exact absurd (.inl e) h
      · rfl
    have cb : cubB b.data.toList = true := by
      cases e : cubB b.data.toList
      · exact absurd (.inr (.inl e)) h
      · rfl
    have cd : cubB d.data.toList = true := by
      cases e : cubB d.data.toList
      · exact absurd (.inr (.inr (.inl e))) h
      · rfl
    have s1 : a.size = b.size := by
      by_cases e : a.size = b.size
      · exact e
      · exact absurd (.inr (.inr (.inr (.inl e)))) h
    have s2 : a.size = d.size := by
      by_cases e : a.size = d.size
      · exact e
      · exact absurd (.inr (.inr (.inr (.inr e)))) h
    obtain ⟨na, ga⟩ := (cubB_iff _).1 ca
    obtain ⟨nb, gb⟩ := (cubB_iff _).1 cb
    obtain ⟨nd, gd⟩ := (cubB_iff _).1 cd
    have g := good_mtT a.data.toList b.data.toList ga gb
    refine ternOrder_on a b d a.data.toList b.data.toList d.data.toList _ _ _ w ha hb hd (cubeT_good _ ga) (cubeT_good _ gb) (cubeT_good _ gd) rfl rfl rfl
      (mtT a.data.toList b.data.toList) (agB a.data.toList b.data.toList) _ _ _ _ _ (a.data.toList == b.data.toList) ca cb cd ga gb gd g rfl rfl rfl rfl rfl rfl rfl (wi_refl _ na) _ rfl
      (wi_meet _ _ _ na nd (by omega) (by omega) ga gb gd) (wi_anti _ _ na nb (by omega) ga gb) (by simp [s1]) (by simp [s2]) ?_ ?_
    · intro W; exact eql_cube _ _ ga gb W
    · rw [ByteArray.toList_eq, ByteArray.toList_eq]
end Go.Proofs.Ytdgglglemdbgcaa
