import Derived.Test.YtkmnonkabekclaaDoorLC
namespace Go.Proofs.YtkmnonkabekclaaDoor
theorem whL_at : ∀ (k s : Nat) (D : List UInt8), k ≤ (whL s D).length → whL (s + k) (D.drop (whB ((whL s D).take k))) = (whL s D).drop k ∧ whB ((whL s D).take k) ≤ D.length := by
  intro k
  induction k with
  | zero => intro s D _; simp [whB]
  | succ k ih =>
    intro s D h
    by_cases ho : onB s D
    · rw [whL_on ho] at h ⊢
      rw [List.length_cons] at h
      obtain ⟨i1, i2⟩ := ih (s + 1) (nxt D) (by omega)
      have h3 := (rdE_ok ho.1).2.2.1
      have ht := rdT_len ho.1
      have hl : (nxt D).length = D.length - (rdN D + 20) := by simp [nxt]
      rw [List.take_succ_cons, whB_cons, List.drop_succ_cons]
      have e : (rdR D).text.length = rdN D := ht
      rw [e]
      refine ⟨?_, by omega⟩
      rw [← i1, nxt, List.drop_drop, show s + 1 + k = s + (k + 1) by omega]
    · rw [whL_off ho] at h
      cases h
/-- the place of the k-th record -/
def plc (D : List UInt8) (k : Nat) : Nat := whB ((whL 1 D).take k)
theorem plc_le {D : List UInt8} {k : Nat} (h : k ≤ (whL 1 D).length) : plc D k ≤ D.length := (whL_at k 1 D h).2
theorem plc_on {D : List UInt8} {k : Nat} (h : k < (whL 1 D).length) : onB (k + 1) (D.drop (plc D k)) ∧ (whL 1 D)[k]? = some (rdR (D.drop (plc D k))) ∧ plc D (k + 1) = plc D k + rdN (D.drop (plc D k)) + 20 := by
  have h1 := (whL_at k 1 D (by omega)).1
  have hne : (whL 1 D).drop k = (whL 1 D)[k] :: (whL 1 D).drop (k + 1) := List.drop_eq_getElem_cons h
  rw [hne] at h1
  have ho : onB (1 + k) (D.drop (plc D k)) := by
    refine Classical.byContradiction (fun hc => ?_)
    have h2 := whL_off hc
    unfold plc at h2
    rw [h2] at h1
    cases h1
  have h3 := whL_on ho
  unfold plc at h3
  rw [h3] at h1
  injection h1 with h4 _
  have e2 : (whL 1 D)[k]? = some (rdR (D.drop (plc D k))) := by rw [List.getElem?_eq_getElem h, ← h4]; rfl
  refine ⟨by rw [Nat.add_comm]; exact ho, e2, ?_⟩
  have e3 : plc D (k + 1) = plc D k + ((rdR (D.drop (plc D k))).text.length + 20) := by
    unfold plc
    rw [List.take_add_one, e2, whB_app]
    simp [whB, plc]
  rw [e3]
  have := rdT_len ho.1
  show _ + ((rdT (D.drop (plc D k))).length + 20) = _
  omega
theorem plc_off {D : List UInt8} : ¬ onB ((whL 1 D).length + 1) (D.drop (plc D (whL 1 D).length)) := by
  intro ho
  have h1 := (whL_at (whL 1 D).length 1 D (Nat.le_refl _)).1
  rw [List.drop_length] at h1
  rw [Nat.add_comm] at ho
  have := whL_on ho
  unfold plc at this
  rw [this] at h1
  cases h1
theorem whE_at : ∀ (n s : Nat) (D : List UInt8), (whL s D).length = n → whE s D = (if (D.drop (whB (whL s D))).length = 0 then 0 else if rdE (D.drop (whB (whL s D))) = 0 then 192 else rdE (D.drop (whB (whL s D)))) := by
  intro n
  induction n with
  | zero =>
    intro s D h
    by_cases ho : onB s D
    · rw [whL_on ho] at h; cases h
    · rw [whE_off ho, whL_off ho]
      simp [whB]
  | succ n ih =>
    intro s D h
    by_cases ho : onB s D
    · rw [whL_on ho, List.length_cons] at h
      have := ih (s + 1) (nxt D) (by omega)
      rw [whE_on ho, this, whL_on ho, whB_cons]
      have ht := rdT_len ho.1
      have e : (rdR D).text.length = rdN D := ht
      rw [e, nxt, List.drop_drop]
    · rw [whL_off ho] at h; cases h
theorem plc_len {D : List UInt8} {k : Nat} (h : k ≤ (whL 1 D).length) : 20 * k ≤ plc D k := by
  induction k with
  | zero => exact Nat.zero_le _
  | succ k ih =>
    have := (plc_on (D := D) (k := k) (by omega)).2.2
    have := ih (by omega)
    omega
end Go.Proofs.YtkmnonkabekclaaDoor
