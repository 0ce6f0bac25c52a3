import Derived.Test.YtnobpeghofoniaaGreatDoorZ41
namespace Go.Proofs.YtnobpeghofoniaaGreatDoor
open Go.RowKit Go.Shelf
theorem ly_nodup (ws : List Int) : ((lyL ws).map (·.1)).Nodup := by
  unfold lyL
  split
  · decide
  · exact lyF_nodup ws 0
theorem gvN_take {S : List IFld} {j : Nat} {u : IFld} (x : List UInt8) (hn : (S.map (·.1)).Nodup) (h : S[j]? = some u) : gvN (S.take (j + 1)) x = if u.1 = x then some u.2 else gvN (S.take j) x := by
  rw [List.take_add_one, h, Option.toList_some]
  by_cases e : u.1 = x
  · rw [if_pos e, ← e]
    refine gvN_snoc _ _ fun t ht he => ?_
    obtain ⟨hj, e1⟩ := List.getElem?_eq_some_iff.1 h
    have eS : S = S.take j ++ (u :: S.drop (j + 1)) := by rw [← e1, ← List.drop_eq_getElem_cons hj, List.take_append_drop]
    rw [eS, List.map_append, List.map_cons, List.nodup_append] at hn
    exact hn.2.2 t.1 (List.mem_map_of_mem ht) u.1 (by simp) he
  · rw [if_neg e]
    exact gvN_app _ _ _ e
theorem ov_take {A B : List UInt8} {i : Nat} {a b : UInt8} (ha : A[i]? = some a) (hb : B[i]? = some b) : (ovW A B).take (i + 1) = (ovW A B).take i ++ [if a = 120 then b else a] := by
  rw [List.take_add_one]
  congr 1
  unfold ovW
  rw [List.getElem?_zipWith, ha, hb]
  rfl
theorem nodup_at : ∀ (L : List IFld) (f g : IFld), (L.map (·.1)).Nodup → f ∈ L → g ∈ L → f.1 = g.1 → f = g
  | [], f, g, _, h, _, _ => by simp at h
  | a :: L, f, g, hn, hf, hg, e => by
    rw [List.map_cons, List.nodup_cons] at hn
    rcases List.mem_cons.1 hf with h1 | h1
    · rcases List.mem_cons.1 hg with h2 | h2
      · rw [h1, h2]
      · exact absurd (show a.1 ∈ L.map (·.1) by rw [← h1, e]; exact List.mem_map_of_mem h2) hn.1
    · rcases List.mem_cons.1 hg with h2 | h2
      · exact absurd (show a.1 ∈ L.map (·.1) by rw [← h2, ← e]; exact List.mem_map_of_mem h1) hn.1
      · exact nodup_at L f g hn.2 h1 h2 e
theorem gv_in {L S : List IFld} (hn : (L.map (·.1)).Nodup) (hs : ∀ s ∈ S, setB L s) : ∀ f ∈ L, ∀ v, gvN S f.1 = some v → 0 ≤ v ∧ v ≤ ((2 ^ f.2.toNat - 1 : Nat) : Int) := fun f hf v hv => by
  obtain ⟨s, h1, h2, h3⟩ := gvN_mem S f.1 v hv
  obtain ⟨k, g, hg, h4, h5, h6⟩ := hs s h1
  have := nodup_at L g f hn (List.mem_of_getElem? hg) hf (h4.trans h2)
  subst this h3
  exact ⟨h5, h6⟩
/-- what the law wants of a field -/
def wantV (d : Int) : Option Int → Int
  | some v => v
  | none => d
theorem wn_at {S L : List IFld} {h : List UInt8} {k b p : Nat} {x : List UInt8} (hp : posB L) (hf : L[k]? = some (x, (b : Int))) (hs : sumB (L.take k) = (p : Int)) : (wnL S L h)[k]? = some (wantV (valF 0 (subL h p (p + b)) : Int) (gvN S x)) := by
  have := wnL_at S h L 0 k hp
  rw [List.drop_zero, hf, hs, Nat.zero_add, Int.toNat_natCast, Option.map_some] at this
  rw [this]
  simp only [Int.toNat_natCast]
  cases gvN S x <;> rfl
end Go.Proofs.YtnobpeghofoniaaGreatDoor
