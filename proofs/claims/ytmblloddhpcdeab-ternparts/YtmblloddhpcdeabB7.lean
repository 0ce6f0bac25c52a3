import Derived.Test.YtmblloddhpcdeabB6
namespace Go.Proofs.Ytmblloddhpcdeab
open Go.RowKit

theorem good_set (t : List UInt8) (p : Nat) (x : UInt8) (ht : good t = true) (hx : tri x = true) : good (t.set p x) = true := by
  simp only [good, Bool.and_eq_true, decide_eq_true_eq, List.all_eq_true, List.length_set] at ht ⊢
  refine ⟨ht.1, fun y hy => ?_⟩
  rcases List.mem_or_eq_of_mem_set hy with h | rfl
  · exact ht.2 y h
  · exact hx

theorem good_pcs (a b : List UInt8) (hl : a.length = b.length) (ga : good a = true) (gb : good b = true) (p : Nat) : ∀ x ∈ pcs a b p, good x = true := by
  induction p with
  | zero => intro x hx; simp [pcs] at hx
  | succ p ih =>
    cases hq : qual a b p
    · have hs : ∀ k, p ≤ k → k < p + 1 → qual a b k = false := by
        intro k h1 h2
        have e : k = p := by omega
        subst e
        exact hq
      rw [pcs_skip a b p (p + 1) (by omega) hs]
      exact ih
    · rw [pcs_succ a b p hq]
      intro x hx
      rcases List.mem_append.1 hx with h | h
      · exact ih x h
      · rw [List.mem_singleton] at h
        subst h
        exact good_set _ _ _ (rs_good a b hl ga gb p) (by unfold oth; split <;> decide)

theorem good_spl (a b : List UInt8) (hl : a.length = b.length) (ga : good a = true) (gb : good b = true) : ∀ x ∈ splT a b, good x = true := by
  unfold splT
  split
  · exact good_pcs a b hl ga gb _
  · intro x hx
    rw [List.mem_singleton] at hx
    subst hx
    exact ga

theorem spl_len (a b : List UInt8) (ha : a.length ≤ 256) : (splT a b).length ≤ 256 := by
  unfold splT
  split
  · have := pcs_len a b a.length; omega
  · simp

theorem ternParts_walk (t r h : ByteArray) (w : World) (ht : t.size ≤ maxLen) (hr : r.size ≤ maxLen) (hh : h.size ≤ maxLen) :
    Calls Try.prog 3 #[.string t, .string r, .string h] w fun e w' => e = .returned (.bool true) ∧ Below w.heap.size w w' := by
  by_cases H : cubB t.data.toList = false ∨ cubB r.data.toList = false ∨ (hdB h.data.toList && ((h.size : Int) == (t.size : Int))) = false ∨ t.size ≠ r.size
  · exact ternParts_off t r h _ _ _ _ w ht hr hh rfl rfl rfl rfl _ _ _ rfl rfl rfl H
  · have lt : t.data.toList.length = t.size := by simp
    have lr : r.data.toList.length = r.size := by simp
    have lh : h.data.toList.length = h.size := by simp
    have ct : cubB t.data.toList = true := by
      cases e : cubB t.data.toList
      · exact absurd (.inl e) H
      · rfl
    have cr : cubB r.data.toList = true := by
      cases e : cubB r.data.toList
      · exact absurd (.inr (.inl e)) H
      · rfl
    have ch : (hdB h.data.toList && ((h.size : Int) == (t.size : Int))) = true := by
      cases e : (hdB h.data.toList && ((h.size : Int) == (t.size : Int)))
      · exact absurd (.inr (.inr (.inl e))) H
      · rfl
    have s1 : t.size = r.size := by
      by_cases e : t.size = r.size
      · exact e
      · exact absurd (.inr (.inr (.inr e))) H
    obtain ⟨nt, gt⟩ := (cubB_iff _).1 ct
    obtain ⟨nr, gr⟩ := (cubB_iff _).1 cr
    have hd : h.data.toList.all dig = true := by
      rw [Bool.and_eq_true] at ch; exact ch.1
    have s2 : h.size = t.size := by
      rw [Bool.and_eq_true, beq_iff_eq] at ch; omega
    have tl := good_len gt
    have l1 : t.data.toList.length = r.data.toList.length := by omega
    have l2 : t.data.toList.length = h.data.toList.length := by omega
    have l3 : r.data.toList.length = h.data.toList.length := by omega
    have hfit : fitB t.data.toList r.data.toList = true := by
      cases e : t.data.toList with
      | nil => exact absurd e nt
      | cons x l => rw [e] at l1; simp [fitB]; simpa using l1
    exact ternParts_on t r h t.data.toList r.data.toList _ _ w ht hr hh (cubeT_good _ gt) (cubeT_good _ gr) rfl rfl ct cr ch
      (splT t.data.toList r.data.toList) (hoB t.data.toList h.data.toList) (hoB r.data.toList h.data.toList) gt gr (by omega) (by omega) s2.symm (by omega)
      (has_ho _ _ nt l2 hd) rfl (has_ho _ _ nr l3 hd) rfl rfl (good_spl _ _ l1 gt gr) (spl_len _ _ tl) (parts_cnt _ _ _ nt l1 l2 gt gr hd hfit) (by simp [s1])
end Go.Proofs.Ytmblloddhpcdeab
