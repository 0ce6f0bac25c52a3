import Derived.Test.YtfcdaljhbeogeaaSJ
import Derived.Deep.RegionHeld3
namespace Go.Proofs.Ytfcdaljhbeogeaa
open Go.RowKit
theorem sumTo_atmost {f : Nat → Nat} {lo M : Nat} : ∀ {n : Nat}, (∀ i, i < n → f i ≤ 1) → (∀ i, i < n → f i ≠ 0 → lo ≤ i ∧ i < lo + M) → sumTo f n ≤ min M (n - lo)
  | 0, _, _ => Nat.zero_le _
  | n + 1, h, hu => by
    have ih := sumTo_atmost (f := f) (lo := lo) (M := M) (n := n) (fun i hi => h i (by omega)) (fun i hi => hu i (by omega))
    have h1 := h n (by omega)
    unfold sumTo
    by_cases e : f n = 0
    · rw [e]
      omega
    · have := hu n (by omega) e
      omega
theorem sumTo_ge {f : Nat → Nat} : ∀ {n : Nat}, (∀ i, i < n → 1 ≤ f i) → n ≤ sumTo f n
  | 0, _ => Nat.le_refl _
  | n + 1, h => Nat.add_le_add (sumTo_ge fun i hi => h i (by omega)) (h n (by omega))
theorem sumTo_term {f : Nat → Nat} {k : Nat} : ∀ {n : Nat}, k < n → f k ≤ sumTo f n
  | 0, h => by omega
  | n + 1, h => by
    unfold sumTo
    by_cases e : k = n
    · subst e
      omega
    · have := sumTo_term (f := f) (k := k) (n := n) (by omega)
      omega
/-- the last ahead of k that has the value has k as its parent -/
theorem last_par {b v : Nat} {S : List IRt} (h : Srt b S) {k : Nat} {t : IRt} (hk : S[k]? = some t) (ht : rhas b t v = true) {s : IRt} (hs : s ∈ S) (hv : rhas b s v = true) (hl : t.2.2.1 < s.2.2.1) : ∃ i r, S[i]? = some r ∧ rhas b r v = true ∧ par b S i = k + 1 := by
  obtain ⟨j, hj⟩ := List.getElem?_of_mem hs
  have hjk := h.later hj hk hl
  obtain ⟨d, hd⟩ : ∃ d, k - j = d := ⟨_, rfl⟩
  have mt := h.may t (List.mem_of_getElem? hk)
  induction d using Nat.strongRecOn generalizing j s with
  | _ d ih =>
    have ms := h.may s hs
    by_cases hx : ∃ i r, j < i ∧ i < k ∧ S[i]? = some r ∧ rhas b r v = true
    · obtain ⟨i, r, h1, h2, h3, h4⟩ := hx
      have hp := h.at h3 hk h2
      have hne : t.2.2.1 < r.2.2.1 := by
        by_cases e : r.2.2.1 = t.2.2.1
        · have := has_one (h.may r (List.mem_of_getElem? h3)) mt e h4 ht
          rw [this] at hp
          exact (plt_irrefl hp).elim
        · unfold plt rpre at hp
          simp only at hp
          omega
      exact ih (k - i) (by omega) (List.mem_of_getElem? h3) h4 hne i h3 h2 rfl
    · refine ⟨j, s, hj, hv, ?_⟩
      refine (IsPar.uniq (Nat.lt_trans hjk (List.getElem?_eq_some_iff.1 hk).1) (p := k + 1) ⟨fun e => (by cases e), fun q e => ?_⟩ (par_is b S j)).symm
      · obtain rfl : q = k := by omega
        refine ⟨hjk, (List.getElem?_eq_some_iff.1 hk).1, fun r' s' h1 h2 => ?_, fun i r s' h1 h2 h3 h4 => ?_⟩
        · rw [hk] at h1
          rw [hj] at h2
          cases h1
          cases h2
          exact has_sub mt ms (by omega) ht hv (has_self s)
        · rw [hj] at h4
          cases h4
          cases e2 : rhas b r s.2.1.toNat with
          | false => rfl
          | true =>
            have hb := h.behind hj h3 h1 e2
            exact absurd ⟨i, r, h1, h2, h3, has_sub (h.may r (List.mem_of_getElem? h3)) ms (by omega) e2 (has_self s) hv⟩ hx
/-- one that is met has a value that no longer one has -/
theorem is_met {b : Nat} {S : List IRt} (h : Srt b S) {k : Nat} {t : IRt} (hk : S[k]? = some t) (hn : metB b S k = true) : ∃ v, IsWin b v S t := by
  refine Classical.byContradiction fun hc => ?_
  have hmt := h.may t (List.mem_of_getElem? hk)
  have hc' : ∀ v, rhas b t v = true → ∃ s ∈ S, rhas b s v = true ∧ t.2.2.1 < s.2.2.1 := fun v hv => by
    refine Classical.byContradiction fun g => hc ⟨v, List.mem_of_getElem? hk, hv, fun x hx hxv => ?_⟩
    refine Classical.byContradiction fun g2 => g ⟨x, hx, hxv, by omega⟩
  clear hc
  have hgt : S.getD k (0, 0, 0, 0) = t := by simp [List.getD, hk]
  unfold metB at hn
  rw [hgt] at hn
  have hn2 := of_decide_eq_true hn
  clear hn
  obtain ⟨V, hV⟩ : ∃ V, t.2.1.toNat = V := ⟨_, rfl⟩
  obtain ⟨N, hN⟩ : ∃ N, 2 ^ (b - t.2.2.1.toNat) = N := ⟨_, rfl⟩
  rw [hN] at hn2
  have hrt : ∀ u, rhas b t u = true ↔ V ≤ u ∧ u < V + N := fun u => by rw [has_range hmt, hV, hN]
  obtain ⟨F, hF⟩ : ∃ F : Nat → Nat → Nat, F = fun i u => if par b S i = k + 1 ∧ rhas b (S.getD i (0, 0, 0, 0)) (V + u) = true then 1 else 0 := ⟨_, rfl⟩
  have step : ∀ n, n ≤ S.length → sumTo (fun i => sumTo (fun u => F i u) N) n ≤ csum b S k n := fun n => by
    induction n with
    | zero => intro _; exact Nat.le_refl _
    | succ n ih =>
      intro hn
      show sumTo (fun i => sumTo (fun u => F i u) N) n + sumTo (fun u => F n u) N ≤ csum b S k n + _
      refine Nat.add_le_add (ih (by omega)) ?_
      obtain ⟨s, hs⟩ : ∃ s, S[n]? = some s := ⟨_, List.getElem?_eq_getElem (by omega)⟩
      have eg : S.getD n (0, 0, 0, 0) = s := by simp [List.getD, hs]
      have hms := h.may s (List.mem_of_getElem? hs)
      rw [eg]
      by_cases hp : par b S n = k + 1
      · rw [if_pos hp]
        obtain ⟨c1, c2, c3, _⟩ := (par_is b S n).some k hp
        have hlo := (hrt _).1 (c3 t s hk hs)
        refine Nat.le_trans (sumTo_atmost (lo := s.2.1.toNat - V) (M := 2 ^ (b - s.2.2.1.toNat)) (fun i _ => by rw [hF]; simp only; split <;> omega) (fun i _ hi => ?_)) (Nat.min_le_left _ _)
        have ei : par b S n = k + 1 ∧ rhas b (S.getD n (0, 0, 0, 0)) (V + i) = true := Classical.byContradiction fun g => hi (by rw [hF]; simp only; rw [if_neg g])
        rw [eg] at ei
        have := (has_range hms).1 ei.2
        omega
      · rw [if_neg hp, sumTo_none (fun i _ => by rw [hF]; simp only; rw [if_neg (fun g => hp g.1)])]
        exact Nat.le_refl _
  have h1 := step S.length (Nat.le_refl _)
  rw [sumTo_swap] at h1
  have h2 : N ≤ sumTo (fun v => sumTo (fun i => F i v) S.length) N := sumTo_ge (fun u hu => by
    have htu := (hrt (V + u)).2 (by omega)
    obtain ⟨s, hs, hsv, hl⟩ := hc' (V + u) htu
    obtain ⟨i, r, hi, hr, hp⟩ := last_par h hk htu hs hsv hl
    have hil := (List.getElem?_eq_some_iff.1 hi).1
    refine Nat.le_trans ?_ (sumTo_term hil)
    rw [hF]
    simp only
    rw [if_pos ⟨hp, by rw [show S.getD i (0, 0, 0, 0) = r by simp [List.getD, hi]]; exact hr⟩]
    exact Nat.le_refl _)
  omega
theorem rfirst_congr {b u v : Nat} {L : List IRt} (h : ∀ r ∈ L, rhas b r u = rhas b r v) : ∀ n, n ≤ L.length → rfirst b u L n = rfirst b v L n
  | 0, _ => rfl
  | n + 1, hn => by
    obtain ⟨x, hx⟩ : ∃ x, L[n]? = some x := ⟨_, List.getElem?_eq_getElem (by omega)⟩
    have eg : L.getD n (0, 0, 0, 0) = x := by simp [List.getD, hx]
    rw [rfirst, rfirst, rfirst_congr h n (by omega), eg, h x (List.mem_of_getElem? hx)]
theorem outL_congr {b u v : Nat} {L : List IRt} (h : ∀ r ∈ L, rhas b r u = rhas b r v) : outL b u L = outL b v L := by
  unfold outL
  rw [rfirst_congr h L.length (Nat.le_refl _)]
theorem top_of {v : Nat} : ∀ (l : List Int), (∃ x ∈ l, 0 ≤ x ∧ x ≤ (v : Int)) → ∃ p : Nat, (p : Int) ∈ l ∧ p ≤ v ∧ ∀ x ∈ l, 0 ≤ x → x ≤ (v : Int) → x ≤ (p : Int)
  | [], h => by simp at h
  | y :: l, h => by
    by_cases hl : ∃ x ∈ l, 0 ≤ x ∧ x ≤ (v : Int)
    · obtain ⟨p, h1, h2, h3⟩ := top_of l hl
      by_cases hy : (0 ≤ y ∧ y ≤ (v : Int)) ∧ (p : Int) < y
      · refine ⟨y.toNat, by rw [Int.toNat_of_nonneg hy.1.1]; simp, by omega, fun x hx g1 g2 => ?_⟩
        rcases List.mem_cons.1 hx with e | e
        · omega
        · have := h3 x e g1 g2
          omega
      · refine ⟨p, List.mem_cons_of_mem _ h1, h2, fun x hx g1 g2 => ?_⟩
        rcases List.mem_cons.1 hx with e | e
        · subst e
          omega
        · exact h3 x e g1 g2
    · obtain ⟨x, hx, g1, g2⟩ := h
      rcases List.mem_cons.1 hx with e | e
      · subst e
        refine ⟨x.toNat, by rw [Int.toNat_of_nonneg g1]; simp, by omega, fun z hz g3 g4 => ?_⟩
        rcases List.mem_cons.1 hz with e | e
        · omega
        · exact absurd ⟨z, e, g3, g4⟩ hl
      · exact absurd ⟨x, e, g1, g2⟩ hl
/-- every value goes by the greatest point at or below it -/
theorem point_of {b v : Nat} {L : List IRt} (hm : ∀ r ∈ L, rmay b r = true) (hv : v < 2 ^ b) : ∃ p : Nat, (p : Int) ∈ pts b L ∧ ∀ r ∈ L, rhas b r p = rhas b r v := by
  obtain ⟨p, h1, h2, h3⟩ := top_of (v := v) (pts b L) ⟨0, by unfold pts; simp, by omega, by omega⟩
  refine ⟨p, h1, fun r hr => ?_⟩
  have hmr := hm r hr
  obtain ⟨_, _, m3, _⟩ := may_ok hmr
  have hin : ∀ x ∈ pt1 b r, x ∈ pts b L := fun x hx => List.mem_cons_of_mem _ (List.mem_flatMap.2 ⟨r, hr, hx⟩)
  have a1 : r.2.1 ∈ pts b L := hin _ (by unfold pt1; split <;> simp)
  have a2 : r.2.1 + 2 ^ (b - r.2.2.1.toNat) < 2 ^ b → r.2.1 + 2 ^ (b - r.2.2.1.toNat) ∈ pts b L := fun h => hin _ (by unfold pt1; rw [if_pos h]; simp)
  rw [pow_cast, pow_cast] at a2
  rw [Bool.eq_iff_iff, has_range hmr, has_range hmr]
  have hvi : (v : Int) < ((2 ^ b : Nat) : Int) := Int.ofNat_lt.2 hv
  generalize 2 ^ (b - r.2.2.1.toNat) = N at a2 ⊢
  generalize ((2 ^ b : Nat) : Int) = Q at a2 hvi
  constructor
  · rintro ⟨g1, g2⟩
    refine ⟨by omega, ?_⟩
    refine Classical.byContradiction fun g => ?_
    have := h3 _ (a2 (by omega)) (by omega) (by omega)
    omega
  · rintro ⟨g1, g2⟩
    have := h3 _ a1 m3 (by omega)
    exact ⟨by omega, by omega⟩
/-- down to the first from a place on that is kept all go to the same -/
theorem ned_chain2 {b v a : Nat} {S : List IRt} (h : Srt b S) {m : Nat} {t : IRt} (hm : S[m]? = some t) (ht : rhas b t v = true) (hf : ∀ j s, a ≤ j → j < m → S[j]? = some s → rhas b s v = true → nedB b S j = false) : ∀ (d j : Nat) (s : IRt), m - j ≤ d → a ≤ j → j ≤ m → S[j]? = some s → rhas b s v = true → s.2.2.2 = t.2.2.2 := fun d => by
  induction d with
  | zero =>
    intro j s h1 _ h2 hj _
    obtain rfl : j = m := by omega
    rw [hm] at hj
    cases hj
    rfl
  | succ d ih =>
    intro j s h1 ha h2 hj hs
    by_cases e : j = m
    · subst e
      rw [hm] at hj
      cases hj
      rfl
    have hn := hf j s ha (by omega) hj hs
    unfold nedB at hn
    rw [Bool.or_eq_false_iff] at hn
    have n1 := of_decide_eq_false hn.1
    obtain ⟨q, hq⟩ : ∃ q, par b S j = q + 1 := ⟨par b S j - 1, by omega⟩
    obtain ⟨c1, c2, c3, c4⟩ := (par_is b S j).some q hq
    obtain ⟨x, hx⟩ : ∃ x, S[q]? = some x := ⟨_, List.getElem?_eq_getElem c2⟩
    have c5 := c3 x s hx hj
    have hl := h.behind hj hx c1 c5
    have ms := h.may s (List.mem_of_getElem? hj)
    have hvx := has_sub (h.may x (List.mem_of_getElem? hx)) ms (by omega) c5 (has_self s) hs
    have hqm : q ≤ m := by
      refine Classical.byContradiction fun g => ?_
      have c6 := c4 m t s (by omega) (by omega) hm hj
      have hp := h.at hj hm (by omega)
      have hle : t.2.2.1 ≤ s.2.2.1 := by
        unfold plt rpre at hp
        simp only at hp
        omega
      rw [has_sub (h.may t (List.mem_of_getElem? hm)) ms hle ht hs (has_self s)] at c6
      cases c6
    have hi := ih q x (by omega) (by omega) hqm hx hvx
    have n2 := Classical.not_not.1 (of_decide_eq_false hn.2)
    rw [hq, show q + 1 - 1 = q by omega, show S.getD q (0, 0, 0, 0) = x by simp [List.getD, hx], show S.getD j (0, 0, 0, 0) = s by simp [List.getD, hj]] at n2
    rw [← n2, hi]
theorem Srt.ahead {b v : Nat} {S : List IRt} (h : Srt b S) {i j : Nat} {r s : IRt} (hi : S[i]? = some r) (hj : S[j]? = some s) (hlt : i < j) (hr : rhas b r v = true) (hs : rhas b s v = true) : s.2.2.1 < r.2.2.1 := by
  have hp := h.at hi hj hlt
  by_cases e : r.2.2.1 = s.2.2.1
  · have := has_one (h.may r (List.mem_of_getElem? hi)) (h.may s (List.mem_of_getElem? hj)) e hr hs
    rw [this] at hp
    exact (plt_irrefl hp).elim
  · unfold plt rpre at hp
    simp only at hp
    omega
/-- without one of the list: what is left -/
theorem erase_mem {b : Nat} {M : List IRt} (h : Srt b M) {k : Nat} {t : IRt} (hk : M[k]? = some t) (x : IRt) : x ∈ M.eraseIdx k ↔ x ∈ M ∧ x ≠ t := by
  constructor
  · intro hx
    refine ⟨(List.eraseIdx_sublist M k).subset hx, fun e => ?_⟩
    subst e
    obtain ⟨j, hj⟩ := List.getElem?_of_mem hx
    rw [List.getElem?_eraseIdx] at hj
    split at hj
    · rename_i hlt
      have := h.one hj hk rfl
      omega
    · rename_i hlt
      have := h.one hj hk rfl
      omega
  · rintro ⟨hx, hne⟩
    obtain ⟨j, hj⟩ := List.getElem?_of_mem hx
    by_cases e : j = k
    · subst e
      rw [hk] at hj
      cases hj
      exact absurd rfl hne
    · by_cases hlt : j < k
      · exact List.mem_of_getElem? (i := j) (by rw [List.getElem?_eraseIdx, if_pos hlt]; exact hj)
      · exact List.mem_of_getElem? (i := j - 1) (by rw [List.getElem?_eraseIdx, if_neg (by omega), show j - 1 + 1 = j by omega]; exact hj)
theorem least_at {b v : Nat} {S : List IRt} (h : Srt b S) {k : Nat} {t : IRt} (hk : (nedL b S)[k]? = some t) (hw : IsWin b v S t) : outL b v (nedL b S) ≠ outL b v ((nedL b S).eraseIdx k) := by
  have hM := h.sub (nedL_sub b S)
  have hE : Srt b ((nedL b S).eraseIdx k) := hM.sub (List.eraseIdx_sublist _ _)
  have htm := List.mem_of_getElem? hk
  have hin : ∀ x, x ∈ nedL b S ↔ ∃ j, j < S.length ∧ nedB b S j = true ∧ S[j]? = some x := fun x => by unfold nedL; exact keepI_mem (Nat.le_refl _)
  rw [srt_out hM ⟨htm, hw.has, fun x hx hv => hw.top x ((nedL_sub b S).subset hx) hv⟩]
  obtain ⟨j0, hj0l, hj0n, hj0⟩ := (hin t).1 htm
  have mt := h.may t (List.mem_of_getElem? hj0)
  have hbeh : ∀ x, x ∈ (nedL b S).eraseIdx k → rhas b x v = true → ∃ i, j0 < i ∧ S[i]? = some x ∧ nedB b S i = true ∧ rhas b x t.2.1.toNat = true := fun x hx hxv => by
    obtain ⟨hx1, hx2⟩ := (erase_mem hM hk x).1 hx
    obtain ⟨i, _, hin2, hi⟩ := (hin x).1 hx1
    have hle := hw.top x (List.mem_of_getElem? hi) hxv
    have hlt : j0 < i := by
      rcases Nat.lt_trichotomy j0 i with g | g | g
      · exact g
      · subst g
        rw [hj0] at hi
        cases hi
        exact absurd rfl hx2
      · have := h.ahead hi hj0 g hxv hw.has
        omega
    exact ⟨i, hlt, hi, hin2, has_sub (h.may x (List.mem_of_getElem? hi)) mt hle hxv hw.has (has_self t)⟩
  cases hp : par b S j0 with
  | zero =>
    rw [outL_none hE.may (fun x hx => by
      cases e : rhas b x v with
      | false => rfl
      | true =>
        obtain ⟨i, h1, h2, _, h4⟩ := hbeh x hx e
        rw [(par_is b S j0).none hp i x t h1 h2 hj0] at h4
        cases h4)]
    obtain ⟨_, _, _, _, _, m6, _⟩ := may_ok mt
    omega
  | succ q =>
    obtain ⟨c1, c2, c3, c4⟩ := (par_is b S j0).some q hp
    obtain ⟨y, hy⟩ : ∃ y, S[q]? = some y := ⟨_, List.getElem?_eq_getElem c2⟩
    have c5 := c3 y t hy hj0
    have hl := h.behind hj0 hy c1 c5
    have hvy := has_sub (h.may y (List.mem_of_getElem? hy)) mt (by omega) c5 (has_self t) hw.has
    have hyt : y.2.2.2 ≠ t.2.2.2 := by
      unfold nedB at hj0n
      rw [hp] at hj0n
      simp only [Nat.add_one_sub_one, Bool.or_eq_true, decide_eq_true_eq, show S.getD q (0, 0, 0, 0) = y by simp [List.getD, hy], show S.getD j0 (0, 0, 0, 0) = t by simp [List.getD, hj0]] at hj0n
      rcases hj0n with g | g
      · omega
      · exact g
    obtain ⟨k2, r2, hk2q, hk2, hv2, hn2⟩ := ned_last h hy hvy
    have hex : ∃ x ∈ (nedL b S).eraseIdx k, rhas b x v = true := ⟨r2, (erase_mem hM hk r2).2 ⟨(hin r2).2 ⟨k2, (List.getElem?_eq_some_iff.1 hk2).1, hn2, hk2⟩, fun e => by
      subst e
      have := h.one hk2 hj0 rfl
      omega⟩, hv2⟩
    obtain ⟨_, x, _, hx, hox, _⟩ := outL_some hE.may hex
    rw [hox]
    obtain ⟨i, h1, h2, h3, h4⟩ := hbeh x hx.mem hx.has
    have hqi : q ≤ i := by
      refine Classical.byContradiction fun g => ?_
      rw [c4 i x t h1 (by omega) h2 hj0] at h4
      cases h4
    have hch := ned_chain2 (a := q) h h2 hx.has (fun j s ha hji hj hs => by
      cases e : nedB b S j with
      | false => rfl
      | true =>
        have hin3 : s ∈ (nedL b S).eraseIdx k := (erase_mem hM hk s).2 ⟨(hin s).2 ⟨j, (List.getElem?_eq_some_iff.1 hj).1, e, hj⟩, fun e2 => by
          subst e2
          have := h.one hj hj0 rfl
          omega⟩
        have g1 := hx.top s hin3 hs
        have := h.ahead hj h2 hji hs hx.has
        omega) (i - q) q y (Nat.le_refl _) (Nat.le_refl _) hqi hy hvy
    rw [← hch]
    exact fun e => hyt e.symm
theorem least_ok {b : Nat} {L O : List IRt} (hm : ∀ r ∈ L, rmay b r = true) (h : OrdOf L O) {k : Nat} (hk : k < (nedL b (metL b O)).length) : ∃ p : Nat, (p : Int) ∈ pts b L ∧ outL b p (nedL b (metL b O)) ≠ outL b p ((nedL b (metL b O)).eraseIdx k) := by
  have hO : Srt b O := ⟨h.srt, fun r hr => hm r (h.mem hr)⟩
  have hS := hO.sub (metL_sub b O)
  obtain ⟨t, ht⟩ : ∃ t, (nedL b (metL b O))[k]? = some t := ⟨_, List.getElem?_eq_getElem hk⟩
  have htS : t ∈ metL b O := (nedL_sub b _).subset (List.mem_of_getElem? ht)
  have htO := htS
  unfold metL at htO
  rw [keepI_mem (Nat.le_refl _)] at htO
  obtain ⟨j, _, hjm, hj⟩ := htO
  obtain ⟨v, hw⟩ := is_met hO hj hjm
  have hwS : IsWin b v (metL b O) t := ⟨htS, hw.has, fun x hx hv => hw.top x ((metL_sub b O).subset hx) hv⟩
  have hne := least_at hS ht hwS
  have mt := hm t (h.mem hw.mem)
  have hvb : v < 2 ^ b := by
    obtain ⟨t1, t2, t3, t4, t5, _⟩ := may_ok mt
    have hr := (has_range mt).1 hw.has
    have hd : 2 ^ b = 2 ^ (b - t.2.2.1.toNat) * 2 ^ t.2.2.1.toNat := by
      rw [← Nat.pow_add]
      congr 1
      omega
    have t6 : t.2.1.toNat < 2 ^ b := by omega
    have hle : t.2.1.toNat + 2 ^ (b - t.2.2.1.toNat) ≤ 2 ^ b := by
      rw [hd] at t6 ⊢
      generalize 2 ^ (b - t.2.2.1.toNat) = N at t5 t6 ⊢
      generalize t.2.1.toNat = V at t5 t6 ⊢
      obtain ⟨c, rfl⟩ := Nat.dvd_of_mod_eq_zero t5
      have : c < 2 ^ t.2.2.1.toNat := Nat.lt_of_mul_lt_mul_left t6
      have h9 : N * (c + 1) ≤ N * 2 ^ t.2.2.1.toNat := Nat.mul_le_mul_left _ this
      rw [Nat.mul_add, Nat.mul_one] at h9
      exact h9
    omega
  obtain ⟨p, hp, hc⟩ := point_of hm hvb
  refine ⟨p, hp, ?_⟩
  have s1 := (nedL_sub b (metL b O)).trans (metL_sub b O)
  rw [outL_congr (fun r hr => hc r (h.mem (s1.subset hr))), outL_congr (fun r hr => hc r (h.mem (s1.subset ((List.eraseIdx_sublist _ _).subset hr))))]
  exact hne
theorem rels_add (A B : List IRt) : rels (A ++ B) = rels A ++ rels B := by simp [rels]
theorem irr_news {w : World} {g o0 : Nat} {L : List IRt} (h : IRR w (some ⟨g, o0, none⟩) L) (j : Nat) (u : Value) (hu : (rels L)[j]? = some u) : w.cell? ((⟨g, o0, none⟩ : Addr).add j) = some u := by
  have := rels_news h j u hu
  unfold Addr.add
  split
  · rename_i e
    subst e
    simpa using this
  · exact this
theorem irr_take {w : World} {g o0 : Nat} {L : List IRt} (h : IRR w (some ⟨g, o0, none⟩) L) (k : Nat) : IRR w (some ⟨g, o0, none⟩) (L.take k) := fun W hW i r hi => by
  rw [List.getElem?_take] at hi
  split at hi
  · exact h W hW i r hi
  · cases hi
theorem irr_drop {w : World} {g o0 : Nat} {L : List IRt} (h : IRR w (some ⟨g, o0, none⟩) L) (k : Nat) : IRR w (some ⟨g, o0 + k * 4, none⟩) (L.drop k) := fun W hW i r hi => by
  rw [List.getElem?_drop] at hi
  obtain ⟨g', o', e, c0, c1, c2, c3⟩ := h W hW (k + i) r hi
  injection e with e
  injection e with e1 e2
  subst e1 e2
  have e4 : o0 + (k + i) * 4 = o0 + k * 4 + i * 4 := by omega
  rw [e4] at c0 c1 c2 c3
  exact ⟨g, o0 + k * 4, rfl, c0, c1, c2, c3⟩
set_option maxRecDepth 100000 in
set_option maxHeartbeats 2000000 in
theorem without_any (M : List IRt) (n k g c : Nat) (w : World) (hn : M.length = n) (hk : k < n) (h60 : n ≤ 60) (hc : n ≤ c) (hr : IRR w (some ⟨g, 0, none⟩) M) :
    Calls Try.prog 30 #[.slice (some ⟨g, 0, none⟩) n c, .int .i64 (k : Int)] w fun e w' => ∃ v : Value, e = .returned v ∧ w'.ownsRow w.heap.size 59 4 v (M.eraseIdx k).length (rels (M.eraseIdx k)) ∧ Below w.heap.size w w' := by
  obtain ⟨i0, hi, hz0, hz1, hz2⟩ := info_parts info_rt
  have k0 : (0 : Int) ≤ (k : Int) := by omega
  have k1 : (k : Int) ≤ (c : Int) := by omega
  have k2 : (k : Int) + 1 ≤ (n : Int) := by omega
  have k3 : (0 : Int) ≤ (k : Int) + 1 := by omega
  have k4 : (n : Int) ≤ (c : Int) := by omega
  have k5 : (k : Int) + 1 ≤ (c : Int) := by omega
  have HM : Hid (IRR w (some ⟨g, 0, none⟩) M ∧ M.length = n) := ⟨hr, hn⟩
  clear hr hn
  go_enter Try.func30, Try.ntmps30
  go_upto_region 2 with fail
  have HN1 : Hid (∀ (j : Nat) (u : Value), (rels (M.take k))[j]? = some u → w.cell? ((⟨g, 0, none⟩ : Addr).add j) = some u) := fun j u h => irr_news (irr_take HM.out.1 k) j u h
  have HO1 : Hid (∀ u ∈ rels (M.take k), u.oneCell' = true) := rels_one
  have hl1 : (rels (M.take k)).length = k * 4 := by rw [rels_len, List.length_take, HM.out.2]; omega
  obtain ⟨v0, hv0⟩ : ∃ v0, Value.slice none 0 0 = v0 := ⟨_, rfl⟩
  have oZ : w.ownsRow w.heap.size 59 4 v0 0 [] := by rw [← hv0]; exact World.ownsRow_nil _ _ _ _
  simp only [hv0]
  clear hv0
  go_upto_region 3 with (at_builtin; refine wpList_append_own _ rfl _ _ 36 rfl w.heap.size 59 i0 _ 4 32 Try.underlying36 hi hz0 hz1 hz2 rfl (by decide) _ 0 [] rfl oZ ⟨g, 0, none⟩ k c (rels (M.take k)) rfl hl1 HN1.out HO1.out (by unfold maxLen; omega) (by omega) (Nat.le_refl _) ?_; intro v5 w5 oA hg5 _)
  have oA' : w5.ownsRow w.heap.size 59 4 v5 k (rels (M.take k)) := by
    rw [Nat.zero_add, List.nil_append] at oA
    exact oA
  have hB5 : Below w.heap.size w w5 := (Below.refl _ _).grown hg5 (Nat.le_refl _) (fun k e => (oZ.lt k e).1)
  clear HN1 HO1 hl1 oA hg5
  have he : M.eraseIdx k = M.take k ++ M.drop (k + 1) := List.eraseIdx_eq_take_drop_succ M k
  have hel : (M.eraseIdx k).length = k + (n - (k + 1)) := by
    rw [he, List.length_append, List.length_take, List.length_drop, HM.out.2]
    omega
  have HE : Hid (M.eraseIdx k = M.take k ++ M.drop (k + 1)) := he
  have hl2 : (rels (M.drop (k + 1))).length = (n - (k + 1)) * 4 := by rw [rels_len, List.length_drop, HM.out.2]
  have HO2 : Hid (∀ u ∈ rels (M.drop (k + 1)), u.oneCell' = true) := rels_one
  have HO5 : Hid (w5.ownsRow w.heap.size 59 4 v5 k (rels (M.take k))) := oA'
  have HEL : Hid ((M.eraseIdx k).length = k + (n - (k + 1))) := hel
  clear oA' he hel
  by_cases hcap : c = k + 1
  · obtain rfl : n = k + 1 := by omega
    subst hcap
    have HN2 : Hid (∀ (j : Nat) (u : Value), (rels (M.drop (k + 1)))[j]? = some u → w5.cell? ((⟨g, 0, none⟩ : Addr).add j) = some u) := fun j u h => by
      rw [List.drop_of_length_le (by rw [HM.out.2]; exact Nat.le_refl _)] at h
      simp [rels] at h
    have e0 : k + 1 - (k + 1) = 0 := by omega
    rw [e0] at hl2 HEL
    go_wp2_with (at_builtin; refine wpList_append_own _ rfl _ _ 36 rfl w.heap.size 59 i0 _ 4 32 Try.underlying36 hi hz0 hz1 hz2 rfl (by decide) _ k (rels (M.take k)) rfl HO5.out ⟨g, 0, none⟩ 0 0 (rels (M.drop (k + 1))) rfl hl2 HN2.out HO2.out (by unfold maxLen; omega) (by omega) hB5.size ?_; intro v6 w6 oB hg6 _)
    go_ret
    refine ⟨_, rfl, ?_, hB5.grown hg6 hB5.size (fun k e => (HO5.out.lt k e).1)⟩
    rw [HEL.out, HE.out, rels_add]
    exact oB
  · have k6 : ¬ (c : Int) = (k : Int) + 1 := by omega
    have HN2 : Hid (∀ (j : Nat) (u : Value), (rels (M.drop (k + 1)))[j]? = some u → w5.cell? ((⟨g, (k + 1) * 4, none⟩ : Addr).add j) = some u) := fun j u h => by
      have := irr_news (irr_drop (HM.out.1.later hB5) (k + 1)) j u h
      rw [Nat.zero_add] at this
      exact this
    go_wp2_with (at_builtin; refine wpList_append_own _ rfl _ _ 36 rfl w.heap.size 59 i0 _ 4 32 Try.underlying36 hi hz0 hz1 hz2 rfl (by decide) _ k (rels (M.take k)) rfl HO5.out ⟨g, (k + 1) * 4, none⟩ (n - (k + 1)) (c - (k + 1)) (rels (M.drop (k + 1))) rfl hl2 HN2.out HO2.out (by unfold maxLen; omega) (by omega) hB5.size ?_; intro v6 w6 oB hg6 _)
    go_ret
    refine ⟨_, rfl, ?_, hB5.grown hg6 hB5.size (fun k e => (HO5.out.lt k e).1)⟩
    rw [HEL.out, HE.out, rels_add]
    exact oB
theorem bel_und {a W : World} (h : Below a.drew.heap.size a.drew W) : Below a.heap.size a W := ⟨h.os, h.tape, h.output, h.size, h.block⟩
set_option maxRecDepth 100000 in
set_option maxHeartbeats 4000000 in
theorem ribLeast_walk (bits : Int) (L : List IRt) (n : Nat) (o : Option Addr) (c : Nat) (w : World) (hL : L.length = n) (hr : IRR w o L) :
    Calls Try.prog 8 #[.int .i64 bits, .slice o n c] w fun e w' => e = .returned (.bool true) ∧ Below w.heap.size w w' := by
  have HAW : Hid (Calls Try.prog 22 #[] w fun e w' => e = .returned (.bool true) ∧ Below w.heap.size w w') := awake_any w
  by_cases h40 : 40 < n
  · have i1 : (40 : Int) < (n : Int) := by omega
    clear hr
    go_enter Try.func8, Try.ntmps8
    go_wp2_with fail
    refine HAW.out.mono ?_
    rintro e W0 ⟨rfl, hb0⟩
    go_wp2_with fail
    go_ret
    exact ⟨rfl, hb0⟩
  have i1 : ¬ (40 : Int) < (n : Int) := by omega
  have hSL : ∀ W, Below w.heap.size w W → Calls Try.prog 28 #[.int .i64 bits, .slice o n c] W fun e w' => ∃ (O : List IRt) (v : Value), e = .returned (.tuple #[v, .int .i64 (rfit bits L)]) ∧ slimR bits L O ∧ w'.ownsRow W.heap.size 59 4 v O.length (rels O) ∧ Below W.heap.size W w' := fun W hW => by
    have := bslim_any bits L o c W (by omega) (hr.later hW)
    rw [hL] at this
    exact this
  by_cases hF : rfit bits L = 0
  rotate_left
  · have HE : Hid (∀ O, slimR bits L O → O = []) := fun O => by
      unfold slimR
      rw [if_neg hF]
      exact fun h => h
    obtain ⟨F, hF2⟩ : ∃ F, rfit bits L = F := ⟨_, rfl⟩
    rw [hF2] at hSL hF
    have y0 : (F == 0) = false := beq_false_of_ne hF
    have HSL : Hid (∀ W, Below w.heap.size w W → Calls Try.prog 28 #[.int .i64 bits, .slice o n c] W fun e w' => ∃ (O : List IRt) (v : Value), e = .returned (.tuple #[v, .int .i64 F]) ∧ slimR bits L O ∧ w'.ownsRow W.heap.size 59 4 v O.length (rels O) ∧ Below W.heap.size W w') := hSL
    clear hr hSL hF2
    go_enter Try.func8, Try.ntmps8
    go_wp2_with fail
    refine HAW.out.mono ?_
    rintro e W0 ⟨rfl, hb0⟩
    go_wp2_with fail
    refine (HSL.out _ hb0).mono ?_
    rintro e W2 ⟨O, v2, rfl, hs, o2, hb2⟩
    obtain rfl := HE.out O hs
    obtain ⟨p2, c2, rfl⟩ := shapeP o2
    clear o2 hs HSL HE
    go_wp2_with fail
    go_ret
    exact ⟨rfl, bel0 hb0 hb2⟩
  obtain ⟨⟨hb1, hb2⟩, hm⟩ := rfit_ok2 hF
  obtain ⟨b, rfl⟩ : ∃ b : Nat, bits = b := ⟨bits.toNat, by omega⟩
  rw [Int.toNat_natCast] at hm
  have hb32 : b ≤ 32 := by omega
  have k1 : ¬ (b : Int) < 1 := by omega
  have k2 : ¬ (32 : Int) < (b : Int) := by omega
  have HE : Hid (∀ M, slimR (b : Int) L M → M.length ≤ n ∧ (∀ r ∈ M, rmay b r = true) ∧ ∀ k, k < M.length → ∃ p : Nat, (p : Int) ∈ pts b L ∧ outL b p M ≠ outL b p (M.eraseIdx k)) := fun M h2 => by
    unfold slimR at h2
    rw [if_pos hF] at h2
    obtain ⟨O, h1, rfl⟩ := h2
    rw [Int.toNat_natCast]
    have s1 := (nedL_sub b (metL b O)).trans (metL_sub b O)
    exact ⟨Nat.le_trans s1.length_le (by rw [← hL]; exact ord_len h1.srt (fun o ho => h1.mem ho)), fun r hr => hm r (h1.mem (s1.subset hr)), fun k hk => least_ok hm h1 hk⟩
  have HSL : Hid (∀ W, Below w.heap.size w W → Calls Try.prog 28 #[.int .i64 (b : Int), .slice o n c] W fun e w' => ∃ (O : List IRt) (v : Value), e = .returned (.tuple #[v, .int .i64 0]) ∧ slimR (b : Int) L O ∧ w'.ownsRow W.heap.size 59 4 v O.length (rels O) ∧ Below W.heap.size W w') := by
    unfold Hid
    rw [hF] at hSL
    exact hSL
  have HPT : Hid (∀ W, Below w.heap.size w W → Calls Try.prog 25 #[.int .i64 (b : Int), .slice o n c] W fun e w' => ∃ v : Value, e = .returned v ∧ w'.ownsRow W.heap.size 3 1 v (pts b L).length (iv (pts b L)) ∧ Below W.heap.size W w') := fun W hW => points_any b n L o c W hb32 hL (by omega) (hr.later hW) hm
  have HOU : Hid (∀ (W : World) (v : Nat) (p : Option Addr) (c m : Nat) (S : List IRt), S.length = m → m ≤ n → (∀ r ∈ S, rmay b r = true) → IRR W p S → Calls Try.prog 29 #[.int .i64 (b : Int), .slice p m c, .int .i64 (v : Int)] W fun e w' => e = .returned (.int .i64 (outL b v S)) ∧ Below W.heap.size W w') := fun W v p c m S h1 h2 h3 h4 => out_any b v m S p c W hb32 h1 (by omega) h4 h3
  have HZP : Hid (∀ x ∈ pts b L, 0 ≤ x) := fun x hx => pts_nat hm hx
  have hpl := pts_len b L
  rw [hL] at hpl
  obtain ⟨Y, hY⟩ : ∃ Y, pts b L = Y := ⟨_, rfl⟩
  have hY1 : 1 ≤ Y.length := by rw [← hY]; unfold pts; simp
  simp only [hY] at HPT hpl HZP HE
  clear hr hSL hF hm hb1 hb2 hL hY
  go_enter Try.func8, Try.ntmps8
  go_wp2_with fail
  refine HAW.out.mono ?_
  rintro e W0 ⟨rfl, hb0⟩
  go_wp2_with fail
  refine (HSL.out _ hb0).mono ?_
  rintro e W2 ⟨M, v2, rfl, hM, o2, hb2⟩
  have hbW2 := bel0 hb0 hb2
  obtain ⟨p2, c2, rfl⟩ := shapeP o2
  obtain ⟨g1, g4, g5⟩ := HE.out M hM
  obtain ⟨nM, hnM⟩ : ∃ nM, M.length = nM := ⟨_, rfl⟩
  have hcap := rown_cap o2
  rw [hnM] at g1 g5 o2 hcap
  have HMM : Hid (IRR W2 p2 M ∧ M.length = nM ∧ (∀ r ∈ M, rmay b r = true) ∧ (0 < nM → ∃ g : Nat, p2 = some ⟨g, 0, none⟩) ∧ nM ≤ c2) := ⟨IRR_of_own o2, hnM, g4, fun h => rown_at o2 h, hcap⟩
  have HLK : Hid (∀ k, k < nM → ∃ p : Nat, (p : Int) ∈ Y ∧ outL b p M ≠ outL b p (M.eraseIdx k)) := g5
  simp only [hnM]
  clear o2 hM HE g4 g5 hnM HSL HAW hb0 hcap
  go_wp2_with fail
  refine (HPT.out _ hbW2).mono ?_
  rintro e W3 ⟨v3, rfl, o3, hb3⟩
  have hbW3 := bel0 hbW2 hb3
  obtain ⟨p3, c3, rfl⟩ := shapeP o3
  obtain ⟨g8, rfl⟩ := rown_at o3 (by omega)
  have HZ : Hid (IRI W3 (some ⟨g8, 0, none⟩) Y) := IRI_of o3
  obtain ⟨z, hz⟩ : ∃ z, Y.length = z := ⟨_, rfl⟩
  have HZN : Hid (Y.length = z) := hz
  rw [hz] at hpl hY1
  simp only [hz]
  have HB3 : Hid (Below W2.heap.size W2 W3) := hb3
  clear o3 hz HPT hbW2 hb3 hb2
  go_wp2_with fail
  go_loopw [8] (fun vi wr => ∃ i : Nat, vi = .int .i64 (i : Int) ∧ i ≤ nM ∧ Below W3.heap.size W3 wr) (fun vi _ => nM - (intOf vi).toNat)
  case atStart => exact ⟨0, rfl, Nat.zero_le _, Below.refl _ _⟩
  case round =>
    obtain ⟨k, rfl, hin, hB⟩ := hrel
    by_cases hlt : k < nM
    · have j1 : (k : Int) < (nM : Int) := by omega
      have j0 : (0 : Int) ≤ (k : Int) := by omega
      obtain ⟨g2, rfl⟩ := HMM.out.2.2.2.1 (by omega)
      have HWO : Hid (Calls Try.prog 30 #[.slice (some ⟨g2, 0, none⟩) nM c2, .int .i64 (k : Int)] wr fun e w' => ∃ v : Value, e = .returned v ∧ w'.ownsRow wr.heap.size 59 4 v (M.eraseIdx k).length (rels (M.eraseIdx k)) ∧ Below wr.heap.size wr w') := without_any M nM k g2 c2 wr HMM.out.2.1 hlt (by omega) HMM.out.2.2.2.2 (HMM.out.1.later (bel0 HB3.out hB))
      obtain ⟨pp, hpp, hpne⟩ := HLK.out k hlt
      go_wp2_with fail
      refine HWO.out.mono ?_
      rintro e W4 ⟨v4, rfl, o4, hb4⟩
      have hB4 := bel0 hB hb4
      obtain ⟨p4, c4, rfl⟩ := shapeP o4
      obtain ⟨E, hE⟩ : ∃ E, M.eraseIdx k = E := ⟨_, rfl⟩
      rw [hE] at o4 hpne
      obtain ⟨nE, hnE⟩ : ∃ nE, E.length = nE := ⟨_, rfl⟩
      have hEs : E.Sublist M := by rw [← hE]; exact List.eraseIdx_sublist _ _
      have HEE : Hid (IRR W4 p4 E ∧ E.length = nE ∧ (∀ r ∈ E, rmay b r = true) ∧ nE ≤ n) := ⟨IRR_of_own o4, hnE, fun r hr => HMM.out.2.2.1 r (hEs.subset hr), by rw [← hnE]; exact Nat.le_trans hEs.length_le (by rw [HMM.out.2.1]; exact g1)⟩
      have HPP : Hid ((pp : Int) ∈ Y ∧ outL b pp M ≠ outL b pp E) := ⟨hpp, hpne⟩
      simp only [hE, hnE]
      clear o4 hpp hpne hE hnE hEs HWO
      go_wp2_with fail
      go_loopw [10, 11] (fun vn vi wq => ∃ (i : Nat) (B : Bool), vi = .int .i64 (i : Int) ∧ i ≤ z ∧ vn = .bool B ∧ (B = false → ∀ (j : Nat) (v : Nat), j < i → Y[j]? = some (v : Int) → outL b v M = outL b v E) ∧ Below W4.heap.size W4 wq) (fun _ vi _ => z - (intOf vi).toNat)
      case atStart => exact ⟨0, false, rfl, Nat.zero_le _, rfl, fun _ j v h => by omega, Below.refl _ _⟩
      case round =>
        obtain ⟨i, B, rfl, hin, rfl, hall, hBq⟩ := hrel
        have HALL : Hid (B = false → ∀ (j : Nat) (v : Nat), j < i → Y[j]? = some (v : Int) → outL b v M = outL b v E) := hall
        clear hall
        cases B with
        | true =>
          by_cases hiz : i < z
          · have q1 : (i : Int) < (z : Int) := by omega
            go_wp2_with fail
            go_roundw
            case rel => exact ⟨k + 1, by go_num, by omega, bel0 hB4 hBq⟩
            case measure => simp [intOf]; omega
          · have q1 : ¬ (i : Int) < (z : Int) := by omega
            go_wp2_with fail
            go_roundw
            case rel => exact ⟨k + 1, by go_num, by omega, bel0 hB4 hBq⟩
            case measure => simp [intOf]; omega
        | false =>
          by_cases hiz : i < z
          · have q1 : (i : Int) < (z : Int) := by omega
            have q0 : (0 : Int) ≤ (i : Int) := by omega
            obtain ⟨x, hxi⟩ : ∃ x, Y[i]? = some x := ⟨_, List.getElem?_eq_getElem (by rw [HZN.out]; omega)⟩
            have hx0 := HZP.out x (List.mem_of_getElem? hxi)
            obtain ⟨v, rfl⟩ : ∃ v : Nat, x = v := ⟨x.toNat, (Int.toNat_of_nonneg hx0).symm⟩
            have HC0 : Hid (∀ W, Below W4.heap.size W4 W → W.cell? ⟨g8, i, none⟩ = some (.int .i64 (v : Int))) := fun W hW => by
              have := iri_cell HZ.out hxi (bel0 hB4 hW)
              simpa using this
            have p0 := HC0.out _ hBq
            obtain ⟨X1, hX1⟩ : ∃ X, outL b v M = X := ⟨_, rfl⟩
            obtain ⟨X2, hX2⟩ : ∃ X, outL b v E = X := ⟨_, rfl⟩
            have HC1 : Hid (∀ W, Below W4.heap.size W4 W → Calls Try.prog 29 #[.int .i64 (b : Int), .slice (some ⟨g2, 0, none⟩) nM c2, .int .i64 (v : Int)] W fun e w' => e = .returned (.int .i64 X1) ∧ Below W.heap.size W w') := fun W hW => by
              have := HOU.out W v (some ⟨g2, 0, none⟩) c2 nM M HMM.out.2.1 g1 HMM.out.2.2.1 (HMM.out.1.later (bel0 (bel0 HB3.out hB4) hW))
              rw [hX1] at this
              exact this
            have HC2 : Hid (∀ W, Below W4.heap.size W4 W → Calls Try.prog 29 #[.int .i64 (b : Int), .slice p4 nE c4, .int .i64 (v : Int)] W fun e w' => e = .returned (.int .i64 X2) ∧ Below W.heap.size W w') := fun W hW => by
              have := HOU.out W v p4 c4 nE E HEE.out.2.1 HEE.out.2.2.2 HEE.out.2.2.1 (HEE.out.1.later hW)
              rw [hX2] at this
              exact this
            have HNX : Hid (X1 = X2 → ∀ (j : Nat) (v' : Nat), j < i + 1 → Y[j]? = some (v' : Int) → outL b v' M = outL b v' E) := fun e j v' hj hy => by
              by_cases ej : j = i
              · subst ej
                rw [hxi] at hy
                have : v = v' := by injection hy with hy; exact Int.ofNat.inj hy
                subst this
                rw [hX1, hX2, e]
              · exact HALL.out rfl j v' (by omega) hy
            clear hX1 hX2 hxi hx0 HALL
            go_upto_region 19 with fail
            go_region_held3 (fun W => W.cell? ⟨g8, i, none⟩ = some (.int .i64 (v : Int))) (first | exact p0 | exact HC0.out _ hB7 | exact HC0.out _ hB6) (first | (have chk := h1d; go_at_call 29; refine (HC2.out _ (by first | exact hB6 | exact hB6.drew | exact bel_drewN _ hB6)).mono ?_; rintro e w7 ⟨rfl, hb7⟩; have hB7 : Below W4.heap.size W4 w7 := bel0 hB6 (by first | exact hb7 | exact bel_und hb7)) | (go_at_call 29; refine (HC1.out _ (by first | exact hBq | exact hBq.drew | exact bel_drewN _ hBq)).mono ?_; rintro e w6 ⟨rfl, hb6⟩; have hB6 : Below W4.heap.size W4 w6 := bel0 hBq (by first | exact hb6 | exact bel_und hb6); have h1d : True := trivial))
            clear HC1 HC2 HC0 p0
            go_wp2_with fail
            go_roundw
            case rel => exact ⟨i + 1, (X1 != X2), by go_num, by omega, rfl, fun e => HNX.out (by simpa using e), hB7⟩
            case measure => simp [intOf]; omega
          · have q1 : ¬ (i : Int) < (z : Int) := by omega
            obtain ⟨j, hj⟩ := List.getElem?_of_mem HPP.out.1
            have hjl := (List.getElem?_eq_some_iff.1 hj).1
            exact absurd (HALL.out rfl j pp (by rw [HZN.out] at hjl; omega) hj) HPP.out.2
    · have j1 : ¬ (k : Int) < (nM : Int) := by omega
      go_wp2_with fail
      go_ret
      exact ⟨rfl, bel0 hbW3 hB⟩
end Go.Proofs.Ytfcdaljhbeogeaa
