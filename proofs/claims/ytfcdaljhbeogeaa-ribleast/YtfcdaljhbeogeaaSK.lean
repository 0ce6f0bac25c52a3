import Derived.Test.YtfcdaljhbeogeaaSH
import Derived.Test.YtfcdaljhbeogeaaSF
namespace Go.Proofs.Ytfcdaljhbeogeaa
open Go.RowKit
theorem sumTo_atmost {f : Nat → Nat} {lo M : Nat} : ∀ {n : Nat}, (∀ i, i < n → f i ≤ 1) → (∀ i, i < n → f i ≠ 0 → lo ≤ i ∧ i < lo + M) → sumTo f n ≤ min M (n - lo)
  | 0, _, _ => Nat.zero_le _
  | n + 1, h, hu => by
    have ih := sumTo_atmost (f := f) (lo := lo) (M := M) (n := n) (fun i hi => h i (by omega)) (fun i hi => hu i (by omega))
    have h1 := h n (by omega)
    unfold sumTo
    by_cases e : f n = 0
    · rw [e]
      omega
    · have := hu n (by omega) e
      omega
theorem sumTo_ge {f : Nat → Nat} : ∀ {n : Nat}, (∀ i, i < n → 1 ≤ f i) → n ≤ sumTo f n
  | 0, _ => Nat.le_refl _
  | n + 1, h => Nat.add_le_add (sumTo_ge fun i hi => h i (by omega)) (h n (by omega))
theorem sumTo_term {f : Nat → Nat} {k : Nat} : ∀ {n : Nat}, k < n → f k ≤ sumTo f n
  | 0, h => by omega
  | n + 1, h => by
    unfold sumTo
    by_cases e : k = n
    · subst e
      omega
    · have := sumTo_term (f := f) (k := k) (n := n) (by omega)
      omega
/-- the last ahead of k that has the value has k as its parent -/
theorem last_par {b v : Nat} {S : List IRt} (h : Srt b S) {k : Nat} {t : IRt} (hk : S[k]? = some t) (ht : rhas b t v = true) {s : IRt} (hs : s ∈ S) (hv : rhas b s v = true) (hl : t.2.2.1 < s.2.2.1) : ∃ i r, S[i]? = some r ∧ rhas b r v = true ∧ par b S i = k + 1 := by
  obtain ⟨j, hj⟩ := List.getElem?_of_mem hs
  have hjk := h.later hj hk hl
  obtain ⟨d, hd⟩ : ∃ d, k - j = d := ⟨_, rfl⟩
  have mt := h.may t (List.mem_of_getElem? hk)
  induction d using Nat.strongRecOn generalizing j s with
  | _ d ih =>
    have ms := h.may s hs
    by_cases hx : ∃ i r, j < i ∧ i < k ∧ S[i]? = some r ∧ rhas b r v = true
    · obtain ⟨i, r, h1, h2, h3, h4⟩ := hx
      have hp := h.at h3 hk h2
      have hne : t.2.2.1 < r.2.2.1 := by
        by_cases e : r.2.2.1 = t.2.2.1
        · have := has_one (h.may r (List.mem_of_getElem? h3)) mt e h4 ht
          rw [this] at hp
          exact (plt_irrefl hp).elim
        · unfold plt rpre at hp
          simp only at hp
          omega
      exact ih (k - i) (by omega) (List.mem_of_getElem? h3) h4 hne i h3 h2 rfl
    · refine ⟨j, s, hj, hv, ?_⟩
      refine (IsPar.uniq (Nat.lt_trans hjk (List.getElem?_eq_some_iff.1 hk).1) (p := k + 1) ⟨fun e => (by cases e), fun q e => ?_⟩ (par_is b S j)).symm
      · obtain rfl : q = k := by omega
        refine ⟨hjk, (List.getElem?_eq_some_iff.1 hk).1, fun r' s' h1 h2 => ?_, fun i r s' h1 h2 h3 h4 => ?_⟩
        · rw [hk] at h1
          rw [hj] at h2
          cases h1
          cases h2
          exact has_sub mt ms (by omega) ht hv (has_self s)
        · rw [hj] at h4
          cases h4
          cases e2 : rhas b r s.2.1.toNat with
          | false => rfl
          | true =>
            have hb := h.behind hj h3 h1 e2
            exact absurd ⟨i, r, h1, h2, h3, has_sub (h.may r (List.mem_of_getElem? h3)) ms (by omega) e2 (has_self s) hv⟩ hx
/-- one that is met has a value that no longer one has -/
theorem is_met {b : Nat} {S : List IRt} (h : Srt b S) {k : Nat} {t : IRt} (hk : S[k]? = some t) (hn : metB b S k = true) : ∃ v, IsWin b v S t := by
  refine Classical.byContradiction fun hc => ?_
  have hmt := h.may t (List.mem_of_getElem? hk)
  have hc' : ∀ v, rhas b t v = true → ∃ s ∈ S, rhas b s v = true ∧ t.2.2.1 < s.2.2.1 := fun v hv => by
    refine Classical.byContradiction fun g => hc ⟨v, List.mem_of_getElem? hk, hv, fun x hx hxv => ?_⟩
    refine Classical.byContradiction fun g2 => g ⟨x, hx, hxv, by omega⟩
  clear hc
  have hgt : S.getD k (0, 0, 0, 0) = t := by simp [List.getD, hk]
  unfold metB at hn
  rw [hgt] at hn
  have hn2 := of_decide_eq_true hn
  clear hn
  obtain ⟨V, hV⟩ : ∃ V, t.2.1.toNat = V := ⟨_, rfl⟩
  obtain ⟨N, hN⟩ : ∃ N, 2 ^ (b - t.2.2.1.toNat) = N := ⟨_, rfl⟩
  rw [hN] at hn2
  have hrt : ∀ u, rhas b t u = true ↔ V ≤ u ∧ u < V + N := fun u => by rw [has_range hmt, hV, hN]
  obtain ⟨F, hF⟩ : ∃ F : Nat → Nat → Nat, F = fun i u => if par b S i = k + 1 ∧ rhas b (S.getD i (0, 0, 0, 0)) (V + u) = true then 1 else 0 := ⟨_, rfl⟩
  have step : ∀ n, n ≤ S.length → sumTo (fun i => sumTo (fun u => F i u) N) n ≤ csum b S k n := fun n => by
    induction n with
    | zero => intro _; exact Nat.le_refl _
    | succ n ih =>
      intro hn
      show sumTo (fun i => sumTo (fun u => F i u) N) n + sumTo (fun u => F n u) N ≤ csum b S k n + _
      refine Nat.add_le_add (ih (by omega)) ?_
      obtain ⟨s, hs⟩ : ∃ s, S[n]? = some s := ⟨_, List.getElem?_eq_getElem (by omega)⟩
      have eg : S.getD n (0, 0, 0, 0) = s := by simp [List.getD, hs]
      have hms := h.may s (List.mem_of_getElem? hs)
      rw [eg]
      by_cases hp : par b S n = k + 1
      · rw [if_pos hp]
        obtain ⟨c1, c2, c3, _⟩ := (par_is b S n).some k hp
        have hlo := (hrt _).1 (c3 t s hk hs)
        refine Nat.le_trans (sumTo_atmost (lo := s.2.1.toNat - V) (M := 2 ^ (b - s.2.2.1.toNat)) (fun i _ => by rw [hF]; simp only; split <;> omega) (fun i _ hi => ?_)) (Nat.min_le_left _ _)
        have ei : par b S n = k + 1 ∧ rhas b (S.getD n (0, 0, 0, 0)) (V + i) = true := Classical.byContradiction fun g => hi (by rw [hF]; simp only; rw [if_neg g])
        rw [eg] at ei
        have := (has_range hms).1 ei.2
        omega
      · rw [if_neg hp, sumTo_none (fun i _ => by rw [hF]; simp only; rw [if_neg (fun g => hp g.1)])]
        exact Nat.le_refl _
  have h1 := step S.length (Nat.le_refl _)
  rw [sumTo_swap] at h1
  have h2 : N ≤ sumTo (fun v => sumTo (fun i => F i v) S.length) N := sumTo_ge (fun u hu => by
    have htu := (hrt (V + u)).2 (by omega)
    obtain ⟨s, hs, hsv, hl⟩ := hc' (V + u) htu
    obtain ⟨i, r, hi, hr, hp⟩ := last_par h hk htu hs hsv hl
    have hil := (List.getElem?_eq_some_iff.1 hi).1
    refine Nat.le_trans ?_ (sumTo_term hil)
    rw [hF]
    simp only
    rw [if_pos ⟨hp, by rw [show S.getD i (0, 0, 0, 0) = r by simp [List.getD, hi]]; exact hr⟩]
    exact Nat.le_refl _)
  omega
theorem rfirst_congr {b u v : Nat} {L : List IRt} (h : ∀ r ∈ L, rhas b r u = rhas b r v) : ∀ n, n ≤ L.length → rfirst b u L n = rfirst b v L n
  | 0, _ => rfl
  | n + 1, hn => by
    obtain ⟨x, hx⟩ : ∃ x, L[n]? = some x := ⟨_, List.getElem?_eq_getElem (by omega)⟩
    have eg : L.getD n (0, 0, 0, 0) = x := by simp [List.getD, hx]
    rw [rfirst, rfirst, rfirst_congr h n (by omega), eg, h x (List.mem_of_getElem? hx)]
theorem outL_congr {b u v : Nat} {L : List IRt} (h : ∀ r ∈ L, rhas b r u = rhas b r v) : outL b u L = outL b v L := by
  unfold outL
  rw [rfirst_congr h L.length (Nat.le_refl _)]
theorem top_of {v : Nat} : ∀ (l : List Int), (∃ x ∈ l, 0 ≤ x ∧ x ≤ (v : Int)) → ∃ p : Nat, (p : Int) ∈ l ∧ p ≤ v ∧ ∀ x ∈ l, 0 ≤ x → x ≤ (v : Int) → x ≤ (p : Int)
  | [], h => by simp at h
  | y :: l, h => by
    by_cases hl : ∃ x ∈ l, 0 ≤ x ∧ x ≤ (v : Int)
    · obtain ⟨p, h1, h2, h3⟩ := top_of l hl
      by_cases hy : (0 ≤ y ∧ y ≤ (v : Int)) ∧ (p : Int) < y
      · refine ⟨y.toNat, by rw [Int.toNat_of_nonneg hy.1.1]; simp, by omega, fun x hx g1 g2 => ?_⟩
        rcases List.mem_cons.1 hx with e | e
        · omega
        · have := h3 x e g1 g2
          omega
      · refine ⟨p, List.mem_cons_of_mem _ h1, h2, fun x hx g1 g2 => ?_⟩
        rcases List.mem_cons.1 hx with e | e
        · subst e
          omega
        · exact h3 x e g1 g2
    · obtain ⟨x, hx, g1, g2⟩ := h
      rcases List.mem_cons.1 hx with e | e
      · subst e
        refine ⟨x.toNat, by rw [Int.toNat_of_nonneg g1]; simp, by omega, fun z hz g3 g4 => ?_⟩
        rcases List.mem_cons.1 hz with e | e
        · omega
        · exact absurd ⟨z, e, g3, g4⟩ hl
      · exact absurd ⟨x, e, g1, g2⟩ hl
/-- every value goes by the greatest point at or below it -/
theorem point_of {b v : Nat} {L : List IRt} (hm : ∀ r ∈ L, rmay b r = true) (hv : v < 2 ^ b) : ∃ p : Nat, (p : Int) ∈ pts b L ∧ ∀ r ∈ L, rhas b r p = rhas b r v := by
  obtain ⟨p, h1, h2, h3⟩ := top_of (v := v) (pts b L) ⟨0, by unfold pts; simp, by omega, by omega⟩
  refine ⟨p, h1, fun r hr => ?_⟩
  have hmr := hm r hr
  obtain ⟨_, _, m3, _⟩ := may_ok hmr
  have hin : ∀ x ∈ pt1 b r, x ∈ pts b L := fun x hx => List.mem_cons_of_mem _ (List.mem_flatMap.2 ⟨r, hr, hx⟩)
  have a1 : r.2.1 ∈ pts b L := hin _ (by unfold pt1; split <;> simp)
  have a2 : r.2.1 + 2 ^ (b - r.2.2.1.toNat) < 2 ^ b → r.2.1 + 2 ^ (b - r.2.2.1.toNat) ∈ pts b L := fun h => hin _ (by unfold pt1; rw [if_pos h]; simp)
  rw [pow_cast, pow_cast] at a2
  rw [Bool.eq_iff_iff, has_range hmr, has_range hmr]
  have hvi : (v : Int) < ((2 ^ b : Nat) : Int) := Int.ofNat_lt.2 hv
  generalize 2 ^ (b - r.2.2.1.toNat) = N at a2 ⊢
  generalize ((2 ^ b : Nat) : Int) = Q at a2 hvi
  constructor
  · rintro ⟨g1, g2⟩
    refine ⟨by omega, ?_⟩
    refine Classical.byContradiction fun g => ?_
    have := h3 _ (a2 (by omega)) (by omega) (by omega)
    omega
  · rintro ⟨g1, g2⟩
    have := h3 _ a1 m3 (by omega)
    exact ⟨by omega, by omega⟩
/-- down to the first from a place on that is kept all go to the same -/
theorem ned_chain2 {b v a : Nat} {S : List IRt} (h : Srt b S) {m : Nat} {t : IRt} (hm : S[m]? = some t) (ht : rhas b t v = true) (hf : ∀ j s, a ≤ j → j < m → S[j]? = some s → rhas b s v = true → nedB b S j = false) : ∀ (d j : Nat) (s : IRt), m - j ≤ d → a ≤ j → j ≤ m → S[j]? = some s → rhas b s v = true → s.2.2.2 = t.2.2.2 := fun d => by
  induction d with
  | zero =>
    intro j s h1 _ h2 hj _
    obtain rfl : j = m := by omega
    rw [hm] at hj
    cases hj
    rfl
  | succ d ih =>
    intro j s h1 ha h2 hj hs
    by_cases e : j = m
    · subst e
      rw [hm] at hj
      cases hj
      rfl
    have hn := hf j s ha (by omega) hj hs
    unfold nedB at hn
    rw [Bool.or_eq_false_iff] at hn
    have n1 := of_decide_eq_false hn.1
    obtain ⟨q, hq⟩ : ∃ q, par b S j = q + 1 := ⟨par b S j - 1, by omega⟩
    obtain ⟨c1, c2, c3, c4⟩ := (par_is b S j).some q hq
    obtain ⟨x, hx⟩ : ∃ x, S[q]? = some x := ⟨_, List.getElem?_eq_getElem c2⟩
    have c5 := c3 x s hx hj
    have hl := h.behind hj hx c1 c5
    have ms := h.may s (List.mem_of_getElem? hj)
    have hvx := has_sub (h.may x (List.mem_of_getElem? hx)) ms (by omega) c5 (has_self s) hs
    have hqm : q ≤ m := by
      refine Classical.byContradiction fun g => ?_
      have c6 := c4 m t s (by omega) (by omega) hm hj
      have hp := h.at hj hm (by omega)
      have hle : t.2.2.1 ≤ s.2.2.1 := by
        unfold plt rpre at hp
        simp only at hp
        omega
      rw [has_sub (h.may t (List.mem_of_getElem? hm)) ms hle ht hs (has_self s)] at c6
      cases c6
    have hi := ih q x (by omega) (by omega) hqm hx hvx
    have n2 := Classical.not_not.1 (of_decide_eq_false hn.2)
    rw [hq, show q + 1 - 1 = q by omega, show S.getD q (0, 0, 0, 0) = x by simp [List.getD, hx], show S.getD j (0, 0, 0, 0) = s by simp [List.getD, hj]] at n2
    rw [← n2, hi]
theorem Srt.ahead {b v : Nat} {S : List IRt} (h : Srt b S) {i j : Nat} {r s : IRt} (hi : S[i]? = some r) (hj : S[j]? = some s) (hlt : i < j) (hr : rhas b r v = true) (hs : rhas b s v = true) : s.2.2.1 < r.2.2.1 := by
  have hp := h.at hi hj hlt
  by_cases e : r.2.2.1 = s.2.2.1
  · have := has_one (h.may r (List.mem_of_getElem? hi)) (h.may s (List.mem_of_getElem? hj)) e hr hs
    rw [this] at hp
    exact (plt_irrefl hp).elim
  · unfold plt rpre at hp
    simp only at hp
    omega
/-- without one of the list: what is left -/
theorem erase_mem {b : Nat} {M : List IRt} (h : Srt b M) {k : Nat} {t : IRt} (hk : M[k]? = some t) (x : IRt) : x ∈ M.eraseIdx k ↔ x ∈ M ∧ x ≠ t := by
  constructor
  · intro hx
    refine ⟨(List.eraseIdx_sublist M k).subset hx, fun e => ?_⟩
    subst e
    obtain ⟨j, hj⟩ := List.getElem?_of_mem hx
    rw [List.getElem?_eraseIdx] at hj
    split at hj
    · rename_i hlt
      have := h.one hj hk rfl
      omega
    · rename_i hlt
      have := h.one hj hk rfl
      omega
  · rintro ⟨hx, hne⟩
    obtain ⟨j, hj⟩ := List.getElem?_of_mem hx
    by_cases e : j = k
    · subst e
      rw [hk] at hj
      cases hj
      exact absurd rfl hne
    · by_cases hlt : j < k
      · exact List.mem_of_getElem? (i := j) (by rw [List.getElem?_eraseIdx, if_pos hlt]; exact hj)
      · exact List.mem_of_getElem? (i := j - 1) (by rw [List.getElem?_eraseIdx, if_neg (by omega), show j - 1 + 1 = j by omega]; exact hj)
theorem least_at {b v : Nat} {S : List IRt} (h : Srt b S) {k : Nat} {t : IRt} (hk : (nedL b S)[k]? = some t) (hw : IsWin b v S t) : outL b v (nedL b S) ≠ outL b v ((nedL b S).eraseIdx k) := by
  have hM := h.sub (nedL_sub b S)
  have hE : Srt b ((nedL b S).eraseIdx k) := hM.sub (List.eraseIdx_sublist _ _)
  have htm := List.mem_of_getElem? hk
  have hin : ∀ x, x ∈ nedL b S ↔ ∃ j, j < S.length ∧ nedB b S j = true ∧ S[j]? = some x := fun x => by unfold nedL; exact keepI_mem (Nat.le_refl _)
  rw [srt_out hM ⟨htm, hw.has, fun x hx hv => hw.top x ((nedL_sub b S).subset hx) hv⟩]
  obtain ⟨j0, hj0l, hj0n, hj0⟩ := (hin t).1 htm
  have mt := h.may t (List.mem_of_getElem? hj0)
  have hbeh : ∀ x, x ∈ (nedL b S).eraseIdx k → rhas b x v = true → ∃ i, j0 < i ∧ S[i]? = some x ∧ nedB b S i = true ∧ rhas b x t.2.1.toNat = true := fun x hx hxv => by
    obtain ⟨hx1, hx2⟩ := (erase_mem hM hk x).1 hx
    obtain ⟨i, _, hin2, hi⟩ := (hin x).1 hx1
    have hle := hw.top x (List.mem_of_getElem? hi) hxv
    have hlt : j0 < i := by
      rcases Nat.lt_trichotomy j0 i with g | g | g
      · exact g
      · subst g
        rw [hj0] at hi
        cases hi
        exact absurd rfl hx2
      · have := h.ahead hi hj0 g hxv hw.has
        omega
    exact ⟨i, hlt, hi, hin2, has_sub (h.may x (List.mem_of_getElem? hi)) mt hle hxv hw.has (has_self t)⟩
  cases hp : par b S j0 with
  | zero =>
    rw [outL_none hE.may (fun x hx => by
      cases e : rhas b x v with
      | false => rfl
      | true =>
        obtain ⟨i, h1, h2, _, h4⟩ := hbeh x hx e
        rw [(par_is b S j0).none hp i x t h1 h2 hj0] at h4
        cases h4)]
    obtain ⟨_, _, _, _, _, m6, _⟩ := may_ok mt
    omega
  | succ q =>
    obtain ⟨c1, c2, c3, c4⟩ := (par_is b S j0).some q hp
    obtain ⟨y, hy⟩ : ∃ y, S[q]? = some y := ⟨_, List.getElem?_eq_getElem c2⟩
    have c5 := c3 y t hy hj0
    have hl := h.behind hj0 hy c1 c5
    have hvy := has_sub (h.may y (List.mem_of_getElem? hy)) mt (by omega) c5 (has_self t) hw.has
    have hyt : y.2.2.2 ≠ t.2.2.2 := by
      unfold nedB at hj0n
      rw [hp] at hj0n
      simp only [Nat.add_one_sub_one, Bool.or_eq_true, decide_eq_true_eq, show S.getD q (0, 0, 0, 0) = y by simp [List.getD, hy], show S.getD j0 (0, 0, 0, 0) = t by simp [List.getD, hj0]] at hj0n
      rcases hj0n with g | g
      · omega
      · exact g
    obtain ⟨k2, r2, hk2q, hk2, hv2, hn2⟩ := ned_last h hy hvy
    have hex : ∃ x ∈ (nedL b S).eraseIdx k, rhas b x v = true := ⟨r2, (erase_mem hM hk r2).2 ⟨(hin r2).2 ⟨k2, (List.getElem?_eq_some_iff.1 hk2).1, hn2, hk2⟩, fun e => by
      subst e
      have := h.one hk2 hj0 rfl
      omega⟩, hv2⟩
    obtain ⟨_, x, _, hx, hox, _⟩ := outL_some hE.may hex
    rw [hox]
    obtain ⟨i, h1, h2, h3, h4⟩ := hbeh x hx.mem hx.has
    have hqi : q ≤ i := by
      refine Classical.byContradiction fun g => ?_
      rw [c4 i x t h1 (by omega) h2 hj0] at h4
      cases h4
    have hch := ned_chain2 (a := q) h h2 hx.has (fun j s ha hji hj hs => by
      cases e : nedB b S j with
      | false => rfl
      | true =>
        have hin3 : s ∈ (nedL b S).eraseIdx k := (erase_mem hM hk s).2 ⟨(hin s).2 ⟨j, (List.getElem?_eq_some_iff.1 hj).1, e, hj⟩, fun e2 => by
          subst e2
          have := h.one hj hj0 rfl
          omega⟩
        have g1 := hx.top s hin3 hs
        have := h.ahead hj h2 hji hs hx.has
        omega) (i - q) q y (Nat.le_refl _) (Nat.le_refl _) hqi hy hvy
    rw [← hch]
    exact fun e => hyt e.symm
theorem least_ok {b : Nat} {L O : List IRt} (hm : ∀ r ∈ L, rmay b r = true) (h : OrdOf L O) {k : Nat} (hk : k < (nedL b (metL b O)).length) : ∃ p : Nat, (p : Int) ∈ pts b L ∧ outL b p (nedL b (metL b O)) ≠ outL b p ((nedL b (metL b O)).eraseIdx k) := by
  have hO : Srt b O := ⟨h.srt, fun r hr => hm r (h.mem hr)⟩
  have hS := hO.sub (metL_sub b O)
  obtain ⟨t, ht⟩ : ∃ t, (nedL b (metL b O))[k]? = some t := ⟨_, List.getElem?_eq_getElem hk⟩
  have htS : t ∈ metL b O := (nedL_sub b _).subset (List.mem_of_getElem? ht)
  have htO := htS
  unfold metL at htO
  rw [keepI_mem (Nat.le_refl _)] at htO
  obtain ⟨j, _, hjm, hj⟩ := htO
  obtain ⟨v, hw⟩ := is_met hO hj hjm
  have hwS : IsWin b v (metL b O) t := ⟨htS, hw.has, fun x hx hv => hw.top x ((metL_sub b O).subset hx) hv⟩
  have hne := least_at hS ht hwS
  have mt := hm t (h.mem hw.mem)
  have hvb : v < 2 ^ b := by
    obtain ⟨t1, t2, t3, t4, t5, _⟩ := may_ok mt
    have hr := (has_range mt).1 hw.has
    have hd : 2 ^ b = 2 ^ (b - t.2.2.1.toNat) * 2 ^ t.2.2.1.toNat := by
      rw [← Nat.pow_add]
      congr 1
      omega
    have t6 : t.2.1.toNat < 2 ^ b := by omega
    have hle : t.2.1.toNat + 2 ^ (b - t.2.2.1.toNat) ≤ 2 ^ b := by
      rw [hd] at t6 ⊢
      generalize 2 ^ (b - t.2.2.1.toNat) = N at t5 t6 ⊢
      generalize t.2.1.toNat = V at t5 t6 ⊢
      obtain ⟨c, rfl⟩ := Nat.dvd_of_mod_eq_zero t5
      have : c < 2 ^ t.2.2.1.toNat := Nat.lt_of_mul_lt_mul_left t6
      have h9 : N * (c + 1) ≤ N * 2 ^ t.2.2.1.toNat := Nat.mul_le_mul_left _ this
      rw [Nat.mul_add, Nat.mul_one] at h9
      exact h9
    omega
  obtain ⟨p, hp, hc⟩ := point_of hm hvb
  refine ⟨p, hp, ?_⟩
  have s1 := (nedL_sub b (metL b O)).trans (metL_sub b O)
  rw [outL_congr (fun r hr => hc r (h.mem (s1.subset hr))), outL_congr (fun r hr => hc r (h.mem (s1.subset ((List.eraseIdx_sublist _ _).subset hr))))]
  exact hne
end Go.Proofs.Ytfcdaljhbeogeaa
