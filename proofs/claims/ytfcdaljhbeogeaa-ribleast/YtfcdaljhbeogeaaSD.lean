import Derived.Test.YtfcdaljhbeogeaaSC
namespace Go.Proofs.Ytfcdaljhbeogeaa
open Go.RowKit
/-- K is the place and one of the route that must be told; 0: none has the value -/
def LongK (b v : Nat) (L : List IRt) (n K : Nat) : Prop := (K = 0 → ∀ (i : Nat) (r : IRt), i < n → L[i]? = some r → rhas b r v = false) ∧ ∀ k, K = k + 1 → k < n ∧ ∃ s, L[k]? = some s ∧ rhas b s v = true ∧ ∀ (i : Nat) (r : IRt), i < n → L[i]? = some r → rhas b r v = true → r.2.2.1 ≤ s.2.2.1 ∧ (r.2.2.1 = s.2.2.1 → s.1 ≤ r.1 ∧ (r.1 = s.1 → k ≤ i))
theorem longK_ok (b v : Nat) (L : List IRt) (hm : ∀ r ∈ L, rmay b r = true) : ∀ n, n ≤ L.length → LongK b v L n (rfirst b v L n)
  | 0, _ => ⟨fun _ i r h => by omega, fun k h => by simp [rfirst] at h⟩
  | n + 1, hn => by
    have ih := longK_ok b v L hm n (by omega)
    obtain ⟨t, ht⟩ : ∃ t, L[n]? = some t := ⟨_, List.getElem?_eq_getElem (by omega)⟩
    have et : L.getD n (0, 0, 0, 0) = t := by simp [List.getD, ht]
    have hmt := hm t (List.mem_of_getElem? ht)
    rw [rfirst, et]
    obtain ⟨K, hK⟩ : ∃ K, rfirst b v L n = K := ⟨_, rfl⟩
    rw [hK] at ih ⊢
    obtain ⟨ih0, ih1⟩ := ih
    by_cases h1 : rhas b t v = true
    · cases K with
      | zero =>
        rw [if_pos ⟨h1, .inl rfl⟩]
        refine ⟨fun h => by omega, fun k hk => ?_⟩
        obtain rfl : n = k := by omega
        refine ⟨by omega, t, ht, h1, fun i r hi hr hh => ?_⟩
        by_cases e : i = n
        · subst e
          rw [ht] at hr
          injection hr with hr
          subst hr
          exact ⟨Int.le_refl _, fun _ => ⟨Int.le_refl _, fun _ => Nat.le_refl _⟩⟩
        · rw [ih0 rfl i r (by omega) hr] at hh
          cases hh
      | succ k =>
        obtain ⟨hk, s, hs, hsv, hall⟩ := ih1 k rfl
        have es : L.getD (k + 1 - 1) (0, 0, 0, 0) = s := by simp [List.getD, hs]
        have hms := hm s (List.mem_of_getElem? hs)
        rw [es]
        have key : ∀ r, r ∈ L → rhas b r v = true → r.2.2.1 = s.2.2.1 → r.2.1 = s.2.1 := fun r hr hh e => congrArg Prod.snd (has_one (hm r hr) hms e hh hsv)
        by_cases h2 : rahead t s = true
        · rw [if_pos ⟨h1, .inr h2⟩]
          refine ⟨fun h => by omega, fun k2 hk2 => ?_⟩
          obtain rfl : n = k2 := by omega
          have h3 : s.2.2.1 < t.2.2.1 ∨ (t.2.2.1 = s.2.2.1 ∧ t.1 < s.1) := by
            unfold rahead at h2
            by_cases e : t.2.2.1 = s.2.2.1
            · rw [if_neg (fun h => h e), if_neg (fun h => h (key t (List.mem_of_getElem? ht) h1 e))] at h2
              exact .inr ⟨e, of_decide_eq_true h2⟩
            · rw [if_pos e] at h2
              exact .inl (of_decide_eq_true h2)
          refine ⟨by omega, t, ht, h1, fun i r hi hr hh => ?_⟩
          by_cases e : i = n
          · subst e
            rw [ht] at hr
            injection hr with hr
            subst hr
            exact ⟨Int.le_refl _, fun _ => ⟨Int.le_refl _, fun _ => Nat.le_refl _⟩⟩
          · obtain ⟨a1, a2⟩ := hall i r (by omega) hr hh
            rcases h3 with h3 | ⟨h3, h4⟩
            · exact ⟨by omega, fun e => by omega⟩
            · refine ⟨by omega, fun e => ?_⟩
              have := (a2 (by omega)).1
              exact ⟨by omega, fun e2 => by omega⟩
        · rw [if_neg (fun h => h.2.elim (fun h => by omega) h2)]
          refine ⟨fun h => by omega, fun k2 hk2 => ?_⟩
          obtain rfl : k = k2 := by omega
          refine ⟨by omega, s, hs, hsv, fun i r hi hr hh => ?_⟩
          by_cases e : i = n
          · subst e
            rw [ht] at hr
            injection hr with hr
            subst hr
            unfold rahead at h2
            by_cases e : t.2.2.1 = s.2.2.1
            · rw [if_neg (fun h => h e), if_neg (fun h => h (key t (List.mem_of_getElem? ht) h1 e))] at h2
              have h5 : ¬ t.1 < s.1 := fun h => h2 (decide_eq_true h)
              exact ⟨by omega, fun _ => ⟨by omega, fun _ => by omega⟩⟩
            · rw [if_pos e] at h2
              have h5 : ¬ s.2.2.1 < t.2.2.1 := fun h => h2 (decide_eq_true h)
              exact ⟨by omega, fun h => absurd h e⟩
          · exact hall i r (by omega) hr hh
    · rw [if_neg (fun h => h1 h.1)]
      refine ⟨fun h i r hi hr => ?_, fun k hk => ?_⟩
      · by_cases e : i = n
        · subst e
          rw [ht] at hr
          injection hr with hr
          subst hr
          exact Bool.eq_false_iff.2 h1
        · exact ih0 h i r (by omega) hr
      · obtain ⟨a0, s, a1, a2, a3⟩ := ih1 k hk
        refine ⟨by omega, s, a1, a2, fun i r hi hr hh => ?_⟩
        by_cases e : i = n
        · subst e
          rw [ht] at hr
          injection hr with hr
          subst hr
          exact absurd hh h1
        · exact a3 i r (by omega) hr hh
end Go.Proofs.Ytfcdaljhbeogeaa
