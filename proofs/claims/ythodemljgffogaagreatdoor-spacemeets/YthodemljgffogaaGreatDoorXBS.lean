import Derived.Test.YthodemljgffogaaGreatDoorXBO
import Derived.Test.YthodemljgffogaaGreatDoorXBR
namespace Go.Proofs.YthodemljgffogaaGreatDoor
open Go.RowKit Go.Shelf
/-- every term of what is read has its form, and its width -/
theorem prT_ft (b : Int) (l : List UInt8) : ∀ t ∈ prT b l, FTm t ∧ (t.1.length : Int) = b ∧ 1 ≤ b ∧ b ≤ 256 ∧ prE b l = 0 := fun t ht => by
  unfold prT at ht
  split at ht
  · rename_i h0
    obtain ⟨h1, h2, h3⟩ := prE_zero h0
    split at ht
    · cases ht
    · rename_i hn
      rcases h3 with h3 | h3
      · exact absurd h3 hn
      · obtain ⟨hf, y, hy, he⟩ := FTm_form (gdC_tcon h3) t ht
        refine ⟨hf, ?_, h1, h2, h0⟩
        obtain ⟨p, hp, rfl⟩ := List.mem_map.1 hy
        have h4 := List.all_eq_true.1 h3 p hp
        have hne := prts_ne 45 p
        have : (tcon p).1.length = b.toNat := by
          unfold tcon
          unfold okT at h4
          cases hc : prts 45 p with
          | nil => rw [hc] at hne; exact absurd hne (by simp)
          | cons c r =>
            rw [hc] at h4
            have h5 := List.all_eq_true.1 h4 c List.mem_cons_self
            unfold okP at h5
            simpa using (Bool.and_eq_true_iff.1 h5).2
        rw [← he, this]
        omega
  · cases ht
theorem okH_at {t h : List UInt8} {k : Nat} (hk : k < t.length) (hk2 : k < h.length) : okH t h k = ((h[k] == 48 || h[k] == 49) && (t[k] == 120 || t[k] == h[k])) := by
  unfold okH
  rw [List.getElem?_eq_getElem hk, List.getElem?_eq_getElem hk2]
theorem has_wi {t h : List UInt8} (hl : t.length = h.length) (hd : h.all digB = true) : hasB t h = wiB h t := by
  have hd' := List.all_eq_true.1 hd
  unfold hasB wiB fitB
  have e1 : t.isEmpty = h.isEmpty := by
    cases t <;> cases h <;> first | rfl | (simp at hl)
  rw [e1, hl, Bool.eq_iff_iff]
  simp only [Bool.and_eq_true, allTo_iff]
  refine and_congr (by simp) (forall_congr' fun k => forall_congr' fun hk => ?_)
  rw [okH_at (by omega) hk, List.getElem?_eq_getElem hk, List.getElem?_eq_getElem (show k < t.length by omega)]
  have h1 := hd' _ (List.getElem_mem hk)
  unfold digB at h1
  rw [h1, Bool.true_and]
  simp only [Bool.or_eq_true, beq_iff_eq]
  exact ⟨fun h => h.imp id Eq.symm, fun h => h.imp id Eq.symm⟩
theorem has_hd {b : Int} {t h : List UInt8} (hb : (t.length : Int) = b) (h1 : 1 ≤ b) (hh : hdB b h = false) : hasB t h = false := by
  cases hc : hasB t h with
  | false => rfl
  | true =>
    unfold hasB at hc
    obtain ⟨h2, h3⟩ := Bool.and_eq_true_iff.1 hc
    have h4 : t.length = h.length := by simpa using (Bool.and_eq_true_iff.1 h2).2
    have h5 := (allTo_iff _ _).1 h3
    have : hdB b h = true := by
      unfold hdB
      rw [← h4, show ((t.length : Int) == b) = true by simpa using hb, show (b == 0) = false by simp; omega]
      simp only [Bool.not_false, Bool.and_true, Bool.true_and]
      refine List.all_eq_true.2 (fun x hx => ?_)
      obtain ⟨k, hk, rfl⟩ := List.getElem_of_mem hx
      have h6 := h5 k (by omega)
      rw [okH_at (by omega) hk] at h6
      exact (Bool.and_eq_true_iff.1 h6).1
    rw [this] at hh
    cases hh
theorem any_congrB {α : Type} {L : List α} {p q : α → Bool} (h : ∀ t ∈ L, p t = q t) : L.any p = L.any q := by
  induction L with
  | nil => rfl
  | cons x l ih => rw [List.any_cons, List.any_cons, h x List.mem_cons_self, ih (fun t ht => h t (List.mem_cons_of_mem _ ht))]
theorem all_congrB {α : Type} {L : List α} {p q : α → Bool} (h : ∀ t ∈ L, p t = q t) : L.all p = L.all q := by
  induction L with
  | nil => rfl
  | cons x l ih => rw [List.all_cons, List.all_cons, h x List.mem_cons_self, ih (fun t ht => h t (List.mem_cons_of_mem _ ht))]
/-- the program's Has is the document's -/
theorem hs_eq (b : Int) (l h : List UInt8) : hsB (prT b l) h = (hdB (prB b l) h && (prT b l).any (fun t => tdB t.1 t.2 h)) := by
  have hF := prT_ft b l
  unfold hsB
  by_cases hX : prT b l = []
  · rw [hX]; simp
  · obtain ⟨t0, ht0⟩ : ∃ t, t ∈ prT b l := by
      cases hx : prT b l with
      | nil => exact absurd hx hX
      | cons t r => exact ⟨t, List.mem_cons_self⟩
    have e0 : prB b l = b := by unfold prB; rw [if_pos (hF t0 ht0).2.2.2.2]
    rw [e0]
    cases hh : hdB b h with
    | false =>
      rw [Bool.false_and, List.any_eq_false]
      intro t ht
      obtain ⟨hf, hl, h1, h2, -⟩ := hF t ht
      unfold thB
      rw [has_hd hl h1 hh]
      simp
    | true =>
      rw [Bool.true_and]
      refine any_congrB (fun t ht => ?_)
      obtain ⟨hf, hl, h1, h2, -⟩ := hF t ht
      have hd : h.all digB = true := (Bool.and_eq_true_iff.1 hh).2
      have hln : (h.length : Int) = b := by simpa using (Bool.and_eq_true_iff.1 (Bool.and_eq_true_iff.1 hh).1).1
      unfold thB tdB
      rw [has_wi (by omega) hd]
      congr 1
      refine all_congrB (fun m hm => ?_)
      have h3 := hf.wi m hm
      unfold wiB at h3
      have h4 := fitB_len (Bool.and_eq_true_iff.1 h3).1
      rw [has_wi (by omega) hd]
end Go.Proofs.YthodemljgffogaaGreatDoor
namespace Go.Proofs.YthodemljgffogaaGreatDoor
open Go.RowKit Go.Shelf
theorem jn_ok (b b2 : Int) (A C : List (List UInt8 × List (List UInt8))) (hg1 : gdC A) (hg2 : gdC C) : gdC (jnT b b2 A C) ∧ szC (jnT b b2 A C) ≤ 128 := by
  unfold jnT
  split
  · rename_i h
    have h2 : szC (topC (A ++ C)) ≤ 128 := by
      unfold jnE at h
      split at h
      · exact absurd h (by decide)
      · split at h
        · assumption
        · exact absurd h (by decide)
    refine ⟨gdC_ord (gdC_top (fun t ht => ?_)), by rw [szC_ord]; exact h2⟩
    rcases List.mem_append.1 ht with ht | ht
    · exact hg1 t ht
    · exact hg2 t ht
  · exact ⟨(fun t h => by cases h), Nat.zero_le _⟩
theorem prB_ge (b : Int) (l : List UInt8) : 0 ≤ prB b l := by
  unfold prB
  split
  · rename_i h
    have := (prE_zero h).1
    omega
  · exact Int.le_refl _
end Go.Proofs.YthodemljgffogaaGreatDoor
namespace Go.Proofs.YthodemljgffogaaGreatDoor
open Go.RowKit Go.Shelf
/-- what each two terms have in common, not yet in its form -/
def cmN (A C : List (List UInt8 × List (List UInt8))) : List (List UInt8 × List (List UInt8)) := A.flatMap (fun a => C.filterMap (fun c => if agB a.1 c.1 = true then some (mtT a.1 c.1, a.2 ++ c.2) else none))
theorem cmN_step {A C : List (List UInt8 × List (List UInt8))} {i : Nat} {a : List UInt8 × List (List UInt8)} (h : A[i]? = some a) : cmN (A.take (i + 1)) C = cmN (A.take i) C ++ cmN [a] C := by
  unfold cmN
  rw [List.take_add_one, h, List.flatMap_append]
  rfl
theorem cmN_sing (a : List UInt8 × List (List UInt8)) (C : List (List UInt8 × List (List UInt8))) : cmN [a] C = C.filterMap (fun c => if agB a.1 c.1 = true then some (mtT a.1 c.1, a.2 ++ c.2) else none) := by
  unfold cmN
  rw [List.flatMap_cons, List.flatMap_nil, List.append_nil]
theorem cmN_one {C : List (List UInt8 × List (List UInt8))} {j : Nat} {a c : List UInt8 × List (List UInt8)} (h : C[j]? = some c) : cmN [a] (C.take (j + 1)) = cmN [a] (C.take j) ++ (if agB a.1 c.1 = true then [(mtT a.1 c.1, a.2 ++ c.2)] else []) := by
  rw [cmN_sing, cmN_sing, List.take_add_one, h, List.filterMap_append]
  congr 1
  by_cases hq : agB a.1 c.1 = true
  · simp [hq]
  · simp [hq]
theorem prT_fix (b : Int) (l : List UInt8) : ordT (topC (stl (prT b l))) = prT b l := by
  by_cases hX : prT b l = []
  · rw [hX]; simp [ordT, srtLn, topC, stl]
  · have h0 : prE b l = 0 := by
      by_cases h : prE b l = 0
      · exact h
      · exact absurd (by unfold prT; rw [if_neg h]) hX
    have hn : ¬ l = [110, 111, 110, 101] := fun hc => hX (by unfold prT; rw [if_pos h0, if_pos hc])
    have hT : prT b l = ordT (topC (stl ((prts 43 l).map tcon))) := by unfold prT; rw [if_pos h0, if_neg hn]
    rw [hT]
    exact form_id (gdC_tcon ((prE_zero h0).2.2.resolve_left hn))
theorem rep_get (n k : Nat) (hk : k < n) : (List.replicate n (120 : UInt8))[k]? = some 120 := by rw [List.getElem?_replicate, if_pos hk]
theorem rep_good (n : Nat) (hn : n ≤ 256) : good (List.replicate n 120) = true := by
  unfold good
  rw [Bool.and_eq_true, List.all_eq_true]
  refine ⟨by simpa using hn, fun x hx => ?_⟩
  rw [(List.mem_replicate.1 hx).2]
  rfl
theorem wi_rep {c : List UInt8} (h : c ≠ []) : wiB c (List.replicate c.length 120) = true := by
  unfold wiB
  rw [Bool.and_eq_true, allTo_iff]
  refine ⟨fit_of h (by simp), fun k hk => ?_⟩
  rw [rep_get _ _ hk, List.getElem?_eq_getElem hk]
  rfl
/-- all headers leave a cube as it is -/
theorem mt_rep {c : List UInt8} (h : c ≠ []) (gc : good c = true) : agB c (List.replicate c.length 120) = true ∧ mtT c (List.replicate c.length 120) = c := by
  have h1 := wi_eq c (List.replicate c.length 120) gc (rep_good _ (good_le gc))
  rw [wi_rep h] at h1
  obtain ⟨h2, h3⟩ := Bool.and_eq_true_iff.1 h1
  exact ⟨h2, by simpa using h3⟩
theorem mt_rep2 {c : List UInt8} (h : c ≠ []) : agB (List.replicate c.length 120) c = true ∧ mtT (List.replicate c.length 120) c = c := by
  have hf : fitB (List.replicate c.length 120) c = true := fit_of (by intro e; apply h; have := congrArg List.length e; simpa using this) (by simp)
  have ha : agB (List.replicate c.length 120) c = true := agB_all _ _ hf (fun k hk => by
    unfold cfl fx
    rw [rep_get _ _ (by simpa using hk)]
    simp)
  refine ⟨ha, ?_⟩
  unfold mtT
  rw [if_pos ha]
  apply List.ext_getElem?
  intro k
  by_cases hk : k < c.length
  · rw [meetT_get _ _ (by simp) k (by simpa using hk), List.getElem?_eq_getElem hk]
    simp
  · rw [List.getElem?_eq_none (by rw [meetT_len _ _ (by simp)]; simp; omega), List.getElem?_eq_none (by omega)]
theorem cm_all1 {C : List (List UInt8 × List (List UInt8))} {n : Nat} (h : ∀ t ∈ C, t.1.length = n ∧ t.1 ≠ []) : cmN [(List.replicate n 120, [])] C = C := by
  rw [cmN_sing]
  induction C with
  | nil => rfl
  | cons c l ih =>
    have h1 := h c List.mem_cons_self
    have h2 := mt_rep2 h1.2
    rw [h1.1] at h2
    have ih' := ih (fun t ht => h t (List.mem_cons_of_mem _ ht))
    rw [List.filterMap_cons_some (b := c) (by rw [if_pos h2.1, h2.2]; rfl), ih']
theorem cm_all2 {A : List (List UInt8 × List (List UInt8))} {n : Nat} (h : ∀ t ∈ A, t.1.length = n ∧ t.1 ≠ [] ∧ good t.1 = true) : cmN A [(List.replicate n 120, [])] = A := by
  induction A with
  | nil => rfl
  | cons a l ih =>
    have h1 := h a List.mem_cons_self
    have h2 := mt_rep h1.2.1 h1.2.2
    rw [h1.1] at h2
    have ih' := ih (fun t ht => h t (List.mem_cons_of_mem _ ht))
    have e : cmN (a :: l) [(List.replicate n 120, [])] = cmN [a] [(List.replicate n 120, [])] ++ cmN l [(List.replicate n 120, [])] := by
      unfold cmN
      simp only [List.flatMap_cons, List.flatMap_nil, List.append_nil]
    rw [e, ih', cmN_sing, List.filterMap_cons_some (b := a) (by rw [if_pos h2.1, h2.2, List.append_nil])]
    rfl
theorem gdC_cm {A C : List (List UInt8 × List (List UInt8))} (h1 : gdC A) (h2 : gdC C) : gdC (cmN A C) := fun t ht => by
  unfold cmN at ht
  obtain ⟨a, ha, ht⟩ := List.mem_flatMap.1 ht
  obtain ⟨c, hc, he⟩ := List.mem_filterMap.1 ht
  split at he
  · obtain rfl := Option.some.inj he
    refine ⟨good_mtT _ _ (h1 a ha).1 (h2 c hc).1, fun x hx => ?_⟩
    rcases List.mem_append.1 hx with hx | hx
    · exact (h1 a ha).2 x hx
    · exact (h2 c hc).2 x hx
  · cases he
end Go.Proofs.YthodemljgffogaaGreatDoor
