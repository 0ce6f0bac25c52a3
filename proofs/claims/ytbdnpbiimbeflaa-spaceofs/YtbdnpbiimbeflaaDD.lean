import Derived.Test.YtbdnpbiimbeflaaQN
import Derived.Test.YtbdnpbiimbeflaaQD
namespace Go.Proofs.Ytbdnpbiimbeflaa
open Go.RowKit Go.Shelf
/-- Go's order of texts -/
theorem bl_cmp : ∀ (a b : List UInt8), Op.bytesLess a b = decide (Lib.compareBytes a b < 0)
  | [], [] => by simp [Op.bytesLess, Lib.compareBytes]
  | _ :: _, [] => by simp [Op.bytesLess, Lib.compareBytes]
  | [], _ :: _ => by simp [Op.bytesLess, Lib.compareBytes]
  | x :: a, y :: b => by
    rw [Op.bytesLess, Lib.compareBytes, bl_cmp a b]
    by_cases h1 : x < y
    · simp [h1]
    · by_cases h2 : y < x
      · have h3 : (x == y) = false := by
          rw [beq_eq_false_iff_ne]
          rintro rfl
          exact h1 h2
        simp [h1, h2, h3]
      · have h3 : x = y := by
          have a1 := UInt8.not_lt.1 h1
          have a2 := UInt8.not_lt.1 h2
          exact UInt8.le_antisymm a2 a1
        simp [h3]
def insT (x : List UInt8) : List (List UInt8) → List (List UInt8)
  | [] => [x]
  | y :: r => if Op.bytesLess x y = true then x :: y :: r else y :: insT x r
def putT (T : List (List UInt8)) (x : List UInt8) : List (List UInt8) := if T.any (fun y => wiB x y) = true then T else insT x (T.filter (fun y => !wiB y x))
def putL (L : List (List UInt8)) : List (List UInt8) := L.foldl putT []
theorem insT_perm (x : List UInt8) : ∀ L, (insT x L).Perm (x :: L)
  | [] => List.Perm.refl _
  | y :: r => by
    unfold insT
    split
    · exact List.Perm.refl _
    · exact ((insT_perm x r).cons y).trans (List.Perm.swap x y r)
theorem leB_of_less {x y : List UInt8} (h : Op.bytesLess x y = true) : leB x y = true := by
  rw [bl_cmp] at h
  unfold leB
  simp only [decide_eq_true_eq] at h ⊢
  omega
theorem leB_of_not {x y : List UInt8} (h : ¬ Op.bytesLess x y = true) : leB y x = true := by
  rw [bl_cmp] at h
  unfold leB
  simp only [decide_eq_true_eq] at h ⊢
  rcases cmpB_three x y with ⟨h1, h2⟩ | ⟨h1, h2⟩ | ⟨h1, h2⟩ <;> omega
theorem insT_sorted (x : List UInt8) : ∀ L : List (List UInt8), L.Pairwise (fun a b => leB a b = true) → (insT x L).Pairwise (fun a b => leB a b = true)
  | [], _ => by simp [insT]
  | y :: r, h => by
    rw [List.pairwise_cons] at h
    unfold insT
    split
    · rename_i hl
      have h1 := leB_of_less hl
      rw [List.pairwise_cons, List.pairwise_cons]
      refine ⟨fun z hz => ?_, h.1, h.2⟩
      rcases List.mem_cons.1 hz with rfl | hz
      · exact h1
      · exact leB_trans _ _ _ h1 (h.1 z hz)
    · rename_i hl
      have h1 := leB_of_not hl
      rw [List.pairwise_cons]
      refine ⟨fun z hz => ?_, insT_sorted x r h.2⟩
      rcases List.mem_cons.1 ((insT_perm x r).mem_iff.1 hz) with rfl | hz
      · exact h1
      · exact h.1 z hz
theorem any_perm {T U : List (List UInt8)} (hp : T.Perm U) (p : List UInt8 → Bool) : T.any p = U.any p := by
  rw [Bool.eq_iff_iff, List.any_eq_true, List.any_eq_true]
  exact ⟨fun ⟨x, h1, h2⟩ => ⟨x, hp.mem_iff.1 h1, h2⟩, fun ⟨x, h1, h2⟩ => ⟨x, hp.mem_iff.2 h1, h2⟩⟩
theorem putT_top {T U : List (List UInt8)} (x : List UInt8) (hp : T.Perm U) (hs : T.Pairwise (fun a b => leB a b = true)) : (putT T x).Perm (topS U x) ∧ (putT T x).Pairwise (fun a b => leB a b = true) := by
  unfold putT topS
  rw [any_perm hp]
  split
  · exact ⟨hp, hs⟩
  · refine ⟨(insT_perm x _).trans ?_, insT_sorted x _ (hs.sublist List.filter_sublist)⟩
    have h1 := hp.filter (fun y => !wiB y x)
    refine (h1.cons x).trans ?_
    exact (List.perm_append_comm (l₁ := [x]) (l₂ := List.filter (fun y => !wiB y x) U))
theorem putF_top (L : List (List UInt8)) : ∀ (T U : List (List UInt8)), T.Perm U → T.Pairwise (fun a b => leB a b = true) → (L.foldl putT T).Perm (L.foldl topS U) ∧ (L.foldl putT T).Pairwise (fun a b => leB a b = true) := by
  induction L with
  | nil => exact fun T U h1 h2 => ⟨h1, h2⟩
  | cons x r ih =>
    intro T U h1 h2
    have h3 := putT_top x h1 h2
    exact ih _ _ h3.1 h3.2
theorem putL_eq (L : List (List UInt8)) : putL L = srtT (topL L) :=
  have h := putF_top L [] [] (List.Perm.refl _) List.Pairwise.nil
  srt_eq h.1 h.2
theorem putL_step {L : List (List UInt8)} {k : Nat} {x : List UInt8} (h : L[k]? = some x) : putL (L.take (k + 1)) = putT (putL (L.take k)) x := by
  unfold putL
  rw [List.take_add_one, h, List.foldl_append]
  rfl
theorem wi_anti2 {a b : List UInt8} (h1 : wiB a b = true) (h2 : wiB b a = true) : a = b := by
  unfold wiB at h1 h2
  rw [Bool.and_eq_true, allTo_iff] at h1 h2
  have hl := fitB_len h1.1
  apply List.ext_getElem hl
  intro k k1 k2
  have e1 := h1.2 k k1
  have e2 := h2.2 k k2
  simp only [List.getElem?_eq_getElem k1, List.getElem?_eq_getElem k2] at e1 e2
  generalize a[k] = x at *
  generalize b[k] = y at *
  simp only [Bool.or_eq_true, beq_iff_eq] at e1 e2
  rcases e1 with e1 | e1
  · rcases e2 with e2 | e2
    · rw [e1, e2]
    · exact e2.symm
  · exact e1
/-- what two have in common is within the second -/
theorem mt_within {m c : List UInt8} (gm : good m = true) (gc : good c = true) (h : agB m c = true) : wiB (mtT m c) c = true := by
  have hf := agB_fit h
  have hl := fitB_len hf
  have hne : c ≠ [] := by
    rintro rfl
    have : m = [] := by simpa using hl
    rw [this] at hf
    simp [fitB] at hf
  unfold mtT
  rw [if_pos h]
  unfold wiB
  have hml := meetT_len m c hl
  rw [Bool.and_eq_true, allTo_iff]
  refine ⟨?_, fun k hk => ?_⟩
  · unfold fitB
    have h1 : meetT m c ≠ [] := by
      intro e
      rw [e] at hml
      exact hne (List.eq_nil_of_length_eq_zero (by rw [← hl, ← hml]; rfl))
    cases hz : meetT m c with
    | nil => exact absurd hz h1
    | cons z r =>
      rw [← hz, hml, hl]
      simp
      intro e
      exact h1 e
  · have k1 : k < m.length := by omega
    have k2 : k < c.length := by omega
    rw [meetT_get m c hl k k1, List.getElem?_eq_getElem k2]
    have hc := agB_cfl h k
    unfold cfl fx on at hc
    rw [List.getElem?_eq_getElem k1, List.getElem?_eq_getElem k2] at hc
    have ta := good_tri gm k k1
    have tb := good_tri gc k k2
    generalize m[k] = x at *
    generalize c[k] = y at *
    simp [tri] at ta tb
    rcases ta with (rfl | rfl) | rfl <;> rcases tb with (rfl | rfl) | rfl <;> simp_all
theorem lesL_within {c : List UInt8} {M : List (List UInt8)} (gc : good c = true) (gM : ∀ m ∈ M, good m = true) : ∀ t ∈ lesL c M, wiB t c = true := fun t ht => by
  unfold lesL at ht
  obtain ⟨m, hm, h⟩ := List.mem_filterMap.1 ht
  split at h
  · rename_i ha
    obtain rfl := Option.some.inj h
    exact mt_within (gM m hm) gc ha
  · cases h
/-- where c itself is among those that lie within c, c alone is left -/
theorem topF_whole {c : List UInt8} : ∀ (L T : List (List UInt8)), (∀ t ∈ L, wiB t c = true) → (∀ t ∈ T, wiB t c = true) → (T = [c] ∨ (c ∉ T ∧ c ∈ L)) → L.foldl topS T = [c]
  | [], T, _, _, h => by
    rcases h with rfl | ⟨-, h⟩
    · rfl
    · cases h
  | x :: L, T, hL, hT, h => by
    have hx := hL x List.mem_cons_self
    have hL2 : ∀ t ∈ L, wiB t c = true := fun t ht => hL t (List.mem_cons_of_mem _ ht)
    have hT2 : ∀ t ∈ topS T x, wiB t c = true := fun t ht => by
      rcases topS_mem ht with h | rfl
      · exact hT t h
      · exact hx
    refine topF_whole L (topS T x) hL2 hT2 ?_
    rcases h with rfl | ⟨h1, h2⟩
    · left
      unfold topS
      rw [if_pos (by simp [hx])]
    · by_cases hxc : x = c
      · subst hxc
        left
        unfold topS
        rw [if_neg, List.filter_eq_nil_iff.2]
        · rfl
        · intro y hy
          simp [hT y hy]
        · intro ha
          obtain ⟨y, hy, hw⟩ := List.any_eq_true.1 ha
          obtain rfl := wi_anti2 hw (hT y hy)
          exact h1 hy
      · right
        refine ⟨fun hm => ?_, ?_⟩
        · rcases topS_mem hm with h | h
          · exact h1 h
          · exact hxc h.symm
        · rcases List.mem_cons.1 h2 with h | h
          · exact absurd h.symm hxc
          · exact h
theorem put_none {c : List UInt8} {M : List (List UInt8)} (gc : good c = true) (gM : ∀ m ∈ M, good m = true) (h : setO c M = none) : putL (lesL c M) = [c] := by
  unfold setO at h
  split at h
  · rename_i ha
    obtain ⟨t, ht, he⟩ := List.any_eq_true.1 ha
    obtain rfl := beq_iff_eq.1 he
    rw [putL_eq]
    unfold topL
    rw [topF_whole _ [] (lesL_within gc gM) (by simp) (.inr ⟨by simp, ht⟩)]
    unfold srtT
    exact List.mergeSort_singleton _
  · cases h
theorem put_some {c : List UInt8} {M R : List (List UInt8)} (h : setO c M = some R) : putL (lesL c M) = srtT R ∧ c ∉ srtT R := by
  unfold setO at h
  split at h
  · cases h
  · rename_i ha
    obtain rfl := Option.some.inj h
    refine ⟨putL_eq _, fun hm => ha ?_⟩
    have h1 := topL_mem ((srtT_perm _).mem_iff.1 hm)
    exact List.any_eq_true.2 ⟨c, h1, by simp⟩
end Go.Proofs.Ytbdnpbiimbeflaa
