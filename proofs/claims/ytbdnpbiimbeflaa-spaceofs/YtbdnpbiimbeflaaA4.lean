import Derived.Test.YtbdnpbiimbeflaaW13
import Derived.Deep.RegionHeld3
namespace Go.Proofs.Ytbdnpbiimbeflaa
open Go.RowKit

/-- place k of a lies in place k of b -/
def inK (a b : List UInt8) (k : Nat) : Bool := match a[k]?, b[k]? with | some x, some y => y == 120 || x == y | _, _ => true
theorem wiB_eq (a b : List UInt8) : wiB a b = (fitB a b && allTo (inK a b) a.length) := rfl

theorem wi_refl (a : List UInt8) (h : a ≠ []) : wiB a a = true := by
  rw [wiB_eq, Bool.and_eq_true, allTo_iff]
  refine ⟨?_, ?_⟩
  · cases a with
    | nil => exact absurd rfl h
    | cons x l => simp [fitB]
  · intro k hk
    simp [inK, List.getElem?_eq_getElem hk]

theorem fit_of {a b : List UInt8} (h : a ≠ []) (hl : a.length = b.length) : fitB a b = true := by
  cases a with
  | nil => exact absurd rfl h
  | cons x l => simp [fitB]; simpa using hl

theorem wi_anti (a b : List UInt8) (ha : a ≠ []) (hb : b ≠ []) (hl : a.length = b.length) (ga : good a = true) (gb : good b = true) : (wiB a b && wiB b a) = (a == b) := by
  rw [wiB_eq, wiB_eq, fit_of ha hl, fit_of hb hl.symm, Bool.true_and, Bool.true_and, Bool.eq_iff_iff, Bool.and_eq_true, allTo_iff, allTo_iff, beq_iff_eq]
  constructor
  · rintro ⟨h1, h2⟩
    apply List.ext_getElem hl
    intro k k1 k2
    have e1 := h1 k k1
    have e2 := h2 k k2
    have ta := good_tri ga k k1
    have tb := good_tri gb k k2
    simp only [inK, List.getElem?_eq_getElem k1, List.getElem?_eq_getElem k2] at e1 e2
    generalize a[k] = x at *
    generalize b[k] = y at *
    simp [tri] at ta tb
    rcases ta with (rfl | rfl) | rfl <;> rcases tb with (rfl | rfl) | rfl <;> simp_all
  · rintro rfl
    refine ⟨fun k hk => ?_, fun k hk => ?_⟩ <;> simp [inK, List.getElem?_eq_getElem hk]

theorem mt_nil (a b : List UInt8) (h : agB a b = false) : mtT a b = [] := by unfold mtT; rw [h]; rfl
theorem mt_yes (a b : List UInt8) (h : agB a b = true) : mtT a b = meetT a b := by unfold mtT; rw [if_pos h]

theorem wi_meet (a b d : List UInt8) (ha : a ≠ []) (hd : d ≠ []) (hl : a.length = b.length) (hl2 : a.length = d.length) (ga : good a = true) (gb : good b = true) (gd : good d = true) :
    (wiB d a && wiB d b) = (agB a b && wiB d (mtT a b)) := by
  cases hag : agB a b
  · rw [Bool.false_and, Bool.eq_false_iff]
    intro h
    rw [Bool.and_eq_true, wiB_eq, wiB_eq, Bool.and_eq_true, Bool.and_eq_true, allTo_iff, allTo_iff] at h
    have : agB a b = true := by
      unfold agB
      rw [fit_of ha hl, Bool.true_and, allTo_iff]
      intro k hk
      have e1 := h.1.2 k (by omega)
      have e2 := h.2.2 k (by omega)
      have kb : k < b.length := by omega
      have kd : k < d.length := by omega
      have ta := good_tri ga k hk
      have tb := good_tri gb k kb
      have td := good_tri gd k kd
      simp only [inK, cfl, fx, on, List.getElem?_eq_getElem hk, List.getElem?_eq_getElem kb, List.getElem?_eq_getElem kd] at e1 e2 ⊢
      generalize a[k] = x at *
      generalize b[k] = y at *
      generalize d[k] = z at *
      simp [tri] at ta tb td
      rcases ta with (rfl | rfl) | rfl <;> rcases tb with (rfl | rfl) | rfl <;> rcases td with (rfl | rfl) | rfl <;> simp_all
    rw [hag] at this
    cases this
  · rw [Bool.true_and, mt_yes a b hag]
    have hm := meetT_len a b hl
    rw [wiB_eq, wiB_eq, wiB_eq, fit_of hd (by omega), fit_of hd (by omega), fit_of hd (by omega), Bool.true_and, Bool.true_and, Bool.true_and, Bool.eq_iff_iff, Bool.and_eq_true, allTo_iff, allTo_iff, allTo_iff]
    have key : ∀ k, k < d.length → ((inK d a k = true ∧ inK d b k = true) ↔ inK d (meetT a b) k = true) := by
      intro k kd
      have ka : k < a.length := by omega
      have kb : k < b.length := by omega
      have hc := agB_cfl hag k
      have ta := good_tri ga k ka
      have tb := good_tri gb k kb
      have td := good_tri gd k kd
      simp only [inK, cfl, fx, on, meetT_get a b hl k ka, List.getElem?_eq_getElem ka, List.getElem?_eq_getElem kb, List.getElem?_eq_getElem kd] at hc ⊢
      generalize a[k] = x at *
      generalize b[k] = y at *
      generalize d[k] = z at *
      simp [tri] at ta tb td
      rcases ta with (rfl | rfl) | rfl <;> rcases tb with (rfl | rfl) | rfl <;> rcases td with (rfl | rfl) | rfl <;> simp_all
    constructor
    · rintro ⟨h1, h2⟩ k hk
      exact (key k hk).1 ⟨h1 k hk, h2 k hk⟩
    · intro h
      exact ⟨fun k hk => ((key k hk).2 (h k hk)).1, fun k hk => ((key k hk).2 (h k hk)).2⟩

theorem text_xx (w : World) : Calls Try.prog 28 #[cubeV (allT 2)] w fun e w' => e = .returned (.string ⟨#[120, 120]⟩) ∧ Below w.heap.size w w' :=
  text_any (allT 2) w (good_allT 2)

end Go.Proofs.Ytbdnpbiimbeflaa
