import Derived.Test.YtodhgeolcbmeiaaRQ
namespace Go.Proofs.Ytodhgeolcbmeiaa
open Go.RowKit
theorem flt_lt {p q : Nat → Bool} : ∀ {L : List Nat}, (∀ x ∈ L, p x = true → q x = true) → (∃ x ∈ L, q x = true ∧ p x = false) → (L.filter p).length < (L.filter q).length
  | [], _, ⟨x, hx, _⟩ => by cases hx
  | a :: L, hs, ⟨x, hx, h1, h2⟩ => by
    have hle : ∀ {M : List Nat}, (∀ x ∈ M, p x = true → q x = true) → (M.filter p).length ≤ (M.filter q).length := fun {M} hM => by
      induction M with
      | nil => exact Nat.le_refl _
      | cons b M ih =>
        have i := ih (fun x hx => hM x (List.mem_cons_of_mem _ hx))
        cases hb : p b with
        | true => rw [List.filter_cons_of_pos hb, List.filter_cons_of_pos (hM b List.mem_cons_self hb)]; simp only [List.length_cons]; omega
        | false =>
          rw [List.filter_cons_of_neg (by rw [hb]; decide)]
          cases hq : q b with
          | true => rw [List.filter_cons_of_pos hq]; simp only [List.length_cons]; omega
          | false => rw [List.filter_cons_of_neg (by rw [hq]; decide)]; exact i
    have hs' : ∀ x ∈ L, p x = true → q x = true := fun x hx => hs x (List.mem_cons_of_mem _ hx)
    rcases List.mem_cons.1 hx with rfl | hx
    · rw [List.filter_cons_of_neg (by rw [h2]; decide), List.filter_cons_of_pos h1]
      have := hle hs'
      simp only [List.length_cons]
      omega
    · have ih := flt_lt hs' ⟨x, hx, h1, h2⟩
      cases ha : p a with
      | true => rw [List.filter_cons_of_pos ha, List.filter_cons_of_pos (hs a List.mem_cons_self ha)]; simp only [List.length_cons]; omega
      | false =>
        rw [List.filter_cons_of_neg (by rw [ha]; decide)]
        cases hq : q a with
        | true => rw [List.filter_cons_of_pos hq]; simp only [List.length_cons]; omega
        | false => rw [List.filter_cons_of_neg (by rw [hq]; decide)]; exact ih
/-- how many are nearer -/
def rnk (G : List Int) (v : Nat) : Nat := ((List.range G.length).filter (fun u => decide (0 ≤ gF G u ∧ gF G u < gF G v))).length
theorem rnk_lt {G : List Int} {t v : Nat} (h0 : 0 ≤ gF G t) (h : gF G t < gF G v) : rnk G t < rnk G v := by
  unfold rnk
  refine flt_lt (fun x _ hx => ?_) ⟨t, List.mem_range.2 (gF_lt h0), ?_, ?_⟩
  · rw [decide_eq_true_eq] at *; omega
  · rw [decide_eq_true_eq]; omega
  · rw [decide_eq_false_iff_not]; omega
theorem rnk_le {G : List Int} {v : Nat} (h0 : 0 ≤ gF G v) : rnk G v < G.length := by
  unfold rnk
  have := flt_lt (p := fun u => decide (0 ≤ gF G u ∧ gF G u < gF G v)) (q := fun _ => true) (L := List.range G.length) (fun _ _ _ => rfl) ⟨v, List.mem_range.2 (gF_lt h0), rfl, by rw [decide_eq_false_iff_not]; omega⟩
  rw [List.filter_eq_self.2 (fun _ _ => rfl), List.length_range] at this
  exact this
/-- what rounds over all edges have come to: exact up to a rank, and for those of the next one that have a tight edge among the first i -/
structure BF (E : List IRt) (G F : List Int) (r i : Nat) : Prop where
  len : F.length = G.length
  dom : ∀ v, gF F v = -1 ∨ 0 ≤ gF F v
  snd : ∀ v, 0 ≤ gF F v → 0 ≤ gF G v ∧ gF G v ≤ gF F v
  exa : ∀ v, 0 ≤ gF G v → rnk G v ≤ r → gF F v = gF G v
  nxt : ∀ j e, j < i → E[j]? = some e → tgh G e = true → rnk G e.1.toNat ≤ r + 1 → gF F e.1.toNat = gF G e.1.toNat
def rlx (F : List Int) (e : IRt) : List Int := if 0 ≤ gF F e.2.1.toNat ∧ (gF F e.1.toNat < 0 ∨ gF F e.2.1.toNat + e.2.2.1 < gF F e.1.toNat) then F.set e.1.toNat (gF F e.2.1.toNat + e.2.2.1) else F
theorem BF.step {E : List IRt} {D : List Nat} {G F : List Int} {r i : Nat} {e : IRt} (hG : Cert E D G) (h : BF E G F r i) (he : E[i]? = some e) (hc : 1 ≤ e.2.2.1) (hn : e.1.toNat < F.length) : BF E G (rlx F e) r (i + 1) := by
  have hm := List.mem_of_getElem? he
  have tgt : tgh G e = true → 0 ≤ gF G e.2.1.toNat ∧ gF G e.1.toNat = gF G e.2.1.toNat + e.2.2.1 := fun ht => by
    unfold tgh at ht
    rw [Bool.and_eq_true, decide_eq_true_eq, decide_eq_true_eq] at ht
    exact ht
  unfold rlx
  split
  · rename_i c
    have g := gF_set hn (gF F e.2.1.toNat + e.2.2.1)
    have s1 := h.snd _ c.1
    have s2 := hG.rel e hm s1.1
    have up : ∀ v, 0 ≤ gF G v → gF F v = gF G v → gF (F.set e.1.toNat (gF F e.2.1.toNat + e.2.2.1)) v = gF G v := fun v hv h1 => by
      rw [g]
      split
      · rename_i ev
        subst ev
        omega
      · exact h1
    refine ⟨by rw [List.length_set]; exact h.len, fun v => ?_, fun v => ?_, fun v hv hr => up v hv (h.exa v hv hr), fun j e' hj he' ht hr => ?_⟩
    · rw [g]
      split
      · omega
      · exact h.dom v
    · rw [g]
      split
      · rename_i ev
        subst ev
        intro _
        omega
      · exact h.snd v
    · have t' : 0 ≤ gF G e'.2.1.toNat ∧ gF G e'.1.toNat = gF G e'.2.1.toNat + e'.2.2.1 := by
        unfold tgh at ht
        rw [Bool.and_eq_true, decide_eq_true_eq, decide_eq_true_eq] at ht
        exact ht
      have r' := hG.rel e' (List.mem_of_getElem? he') t'.1
      by_cases ej : j = i
      · subst ej
        rw [he] at he'
        cases he'
        have hx := h.exa e.2.1.toNat t'.1 (by have := rnk_lt t'.1 (show gF G e.2.1.toNat < gF G e.1.toNat by omega); omega)
        rw [g, if_pos rfl, hx, t'.2]
      · exact up _ r'.1 (h.nxt j e' (by omega) he' ht hr)
  · rename_i c
    refine ⟨h.len, h.dom, h.snd, h.exa, fun j e' hj he' ht hr => ?_⟩
    by_cases ej : j = i
    · subst ej
      rw [he] at he'
      cases he'
      have t' := tgt ht
      have r' := hG.rel e hm t'.1
      have hx := h.exa e.2.1.toNat t'.1 (by have := rnk_lt t'.1 (show gF G e.2.1.toNat < gF G e.1.toNat by omega); omega)
      have hf : 0 ≤ gF F e.1.toNat := by
        rcases h.dom e.1.toNat with a | a
        · exact absurd ⟨by omega, .inl (by omega)⟩ c
        · exact a
      have hs := h.snd _ hf
      have : ¬ gF F e.2.1.toNat + e.2.2.1 < gF F e.1.toNat := fun x => c ⟨by omega, .inr x⟩
      omega
    · exact h.nxt j e' (by omega) he' ht hr
theorem BF.round {E : List IRt} {D : List Nat} {G F : List Int} {r : Nat} (hG : Cert E D G) (h : BF E G F r E.length) : BF E G F (r + 1) 0 := by
  refine ⟨h.len, h.dom, h.snd, fun v hv hr => ?_, fun j e hj => by omega⟩
  rcases hG.tgt v hv with a | ⟨e, he, e1, e2, e3⟩
  · refine h.exa v hv ?_
    have : rnk G v = 0 := by
      unfold rnk
      rw [List.filter_eq_nil_iff.2 (fun u _ => by rw [decide_eq_true_eq]; omega)]
      rfl
    omega
  · obtain ⟨j, hj⟩ := List.getElem?_of_mem he
    have hl := (List.getElem?_eq_some_iff.1 hj).1
    have ht : tgh G e = true := by unfold tgh; rw [e1, decide_eq_true e2, decide_eq_true e3]; rfl
    have := h.nxt j e hl hj ht (by rw [e1]; exact hr)
    rw [e1] at this
    exact this
theorem BF.done {E : List IRt} {G F : List Int} {r i : Nat} {D : List Nat} (hG : Cert E D G) (h : BF E G F r i) (hr : G.length ≤ r + 1) : F = G := by
  refine gF_ext h.len (fun v _ => ?_)
  rcases hG.dom v with a | a
  · rcases h.dom v with b | b
    · omega
    · have := h.snd v b
      omega
  · exact h.exa v a (by have := rnk_le a; omega)
/-- the lengths behind the first i dests -/
def bf0 (N : Nat) (D : List Nat) : Nat → List Int
  | 0 => List.replicate N (-1)
  | i + 1 => (bf0 N D i).set (D.getD i 0) 0
theorem bf0_len (N : Nat) (D : List Nat) : ∀ i, (bf0 N D i).length = N
  | 0 => by simp [bf0]
  | i + 1 => by rw [bf0, List.length_set, bf0_len N D i]
theorem bf0_at (N : Nat) (D : List Nat) (hD : ∀ d ∈ D, d < N) : ∀ i, i ≤ D.length → ∀ v, gF (bf0 N D i) v = if v ∈ D.take i then 0 else -1
  | 0, _, v => by rw [bf0, gF_rep]; simp
  | i + 1, hi, v => by
    have hg : D[i]? = some (D.getD i 0) := by simp [List.getD, List.getElem?_eq_getElem (show i < D.length by omega)]
    have hd := hD _ (List.mem_of_getElem? hg)
    rw [bf0, gF_set (by rw [bf0_len]; exact hd), bf0_at N D hD i (by omega) v, List.take_add_one, hg]
    simp only [Option.toList_some, List.mem_append, List.mem_singleton]
    by_cases e : v = D.getD i 0
    · rw [if_pos e, if_pos (.inr e)]
    · rw [if_neg e]
      by_cases e2 : v ∈ D.take i
      · rw [if_pos e2, if_pos (.inl e2)]
      · rw [if_neg e2, if_neg (fun x => x.elim e2 e)]
theorem BF.start {E : List IRt} {D : List Nat} {G : List Int} (hG : Cert E D G) (hE : ∀ e ∈ E, 1 ≤ e.2.2.1) (hD : ∀ d ∈ D, d < G.length) : BF E G (bf0 G.length D D.length) 0 0 := by
  have key := bf0_at G.length D hD D.length (Nat.le_refl _)
  rw [List.take_length] at key
  refine ⟨bf0_len _ _ _, fun v => ?_, fun v hv => ?_, fun v hv hr => ?_, fun j e hj => by omega⟩
  · rw [key]; split
    · exact .inr (Int.le_refl _)
    · exact .inl rfl
  · rw [key] at hv ⊢
    by_cases e : v ∈ D
    · have := hG.dst v e
      rw [if_pos e]
      omega
    · rw [if_neg e] at hv
      omega
  · rw [key]
    rcases hG.tgt v hv with a | ⟨e, he, e1, e2, e3⟩
    · rw [if_pos a.2, a.1]
    · have hc := hE e he
      have := rnk_lt e2 (show gF G e.2.1.toNat < gF G v by omega)
      omega
end Go.Proofs.Ytodhgeolcbmeiaa
