import Derived.Test.YtmblloddhpcdeacW10
import Derived.Test.YtmblloddhpcdeacW8
namespace Go.Proofs.Ytmblloddhpcdeac
open Go.RowKit

theorem meet_any (a b : List UInt8) (w : World) (ha : good a = true) :
    Calls Try.prog 30 #[cubeV a, cubeV b] w fun e w' => e = .returned (.tuple #[cubeV (mtT a b), .bool (agB a b)]) ∧ Below w.heap.size w w' := by
  unfold mtT
  cases hq : agB a b
  · exact meet_no a b w ha hq
  · have hl := fitB_len (agB_fit hq)
    have hc := agB_cfl hq
    refine (meet_raw _ _ _ _ _ _ _ _ _ _ _ _ _ _ _ _ _ _ w (fun W => agrees_D a b true W ha hq)).mono ?_
    rintro e w' ⟨rfl, hb⟩
    refine ⟨?_, hb⟩
    rw [FW_meet a b hl, FW_meet a b hl, FW_meet a b hl, FW_meet a b hl, OW_meet a b hl hc, OW_meet a b hl hc, OW_meet a b hl hc, OW_meet a b hl hc, if_pos rfl]
    unfold cubeV
    rw [meetT_len a b hl]

theorem meet_D (a b M : List UInt8) (q : Bool) (w : World) (ha : good a = true) (hM : mtT a b = M) (hq : agB a b = q) :
    Calls Try.prog 30 #[cubeV a, cubeV b] w fun e w' => e = .returned (.tuple #[cubeV M, .bool q]) ∧ Below w.heap.size w w' := by
  subst hM hq; exact meet_any a b w ha

theorem wi_eq (a b : List UInt8) (ha : good a = true) (hb : good b = true) : (agB a b && (mtT a b == a)) = wiB a b := by
  unfold wiB mtT
  cases hf : fitB a b
  · have : agB a b = false := by unfold agB; rw [hf]; rfl
    rw [this]; rfl
  · have hl := fitB_len hf
    rw [Bool.true_and, Bool.eq_iff_iff, allTo_iff]
    constructor
    · intro h k hk
      simp only [Bool.and_eq_true] at h
      rw [if_pos h.1, beq_iff_eq] at h
      have hm := meetT_get a b hl k hk
      rw [h.2, List.getElem?_eq_getElem hk] at hm
      have hc := agB_cfl h.1 k
      have hkb : k < b.length := by omega
      have ta := good_tri ha k hk
      have tb := good_tri hb k hkb
      simp only [cfl, fx, on, List.getElem?_eq_getElem hk, List.getElem?_eq_getElem hkb] at hc ⊢
      generalize a[k] = x at *
      generalize b[k] = y at *
      simp [tri] at ta tb
      rcases ta with (rfl | rfl) | rfl <;> rcases tb with (rfl | rfl) | rfl <;> simp_all
    · intro h
      have hag : agB a b = true := by
        unfold agB
        rw [hf, Bool.true_and, allTo_iff]
        intro k hk
        have hkb : k < b.length := by omega
        have hh := h k hk
        simp only [cfl, fx, on, List.getElem?_eq_getElem hk, List.getElem?_eq_getElem hkb] at hh ⊢
        generalize a[k] = x at *
        generalize b[k] = y at *
        simp at hh
        rcases hh with rfl | rfl <;> simp
      rw [hag, Bool.true_and, if_pos rfl, beq_iff_eq]
      apply List.ext_getElem?
      intro k
      by_cases hk : k < a.length
      · have hkb : k < b.length := by omega
        have hh := h k hk
        rw [meetT_get a b hl k hk, List.getElem?_eq_getElem hk]
        simp only [List.getElem?_eq_getElem hk, List.getElem?_eq_getElem hkb] at hh
        generalize a[k] = x at *
        generalize b[k] = y at *
        simp at hh
        rcases hh with rfl | rfl <;> by_cases e : x = 120 <;> simp [e]
      · rw [List.getElem?_eq_none (by rw [meetT_len a b hl]; omega), List.getElem?_eq_none (by omega)]

set_option maxHeartbeats 400000 in
theorem within_walk (a b M : List UInt8) (q : Bool) (w : World) (ha : good a = true) (hgM : good M = true) (hM0 : mtT a b = M) (hq0 : agB a b = q) :
    Calls Try.prog 29 #[cubeV a, cubeV b] w fun e w' => e = .returned (.bool (q && (M == a))) ∧ Below w.heap.size w w' := by
  have hM : Hid (mtT a b = M) := hM0
  have hq : Hid (agB a b = q) := hq0
  clear hM0 hq0
  have hE := eql_cube M a hgM ha
  unfold cubeV cv
  cases q
  all_goals
    go_enter Try.func29, Try.ntmps29
    go_wp2_with (go_at_call 30; refine (meet_D a b M _ _ ha hM.out hq.out).mono ?_; rintro e w1 ⟨rfl, hb1⟩; obtain ⟨hc1, hf1⟩ := bcell hb1; have hz1 : w.heap.size < w1.heap.size := by { have := hb1.size; simp at this; omega }; unfold cubeV cv)
    go_ret
    exact ⟨rfl, belA (bel1 (bel1 hb1)) _⟩

theorem within_any (a b : List UInt8) (w : World) (ha : good a = true) (hb : good b = true) :
    Calls Try.prog 29 #[cubeV a, cubeV b] w fun e w' => e = .returned (.bool (wiB a b)) ∧ Below w.heap.size w w' := by
  refine (within_walk a b _ _ w ha (good_mtT a b ha hb) rfl rfl).mono ?_
  rintro e w' ⟨rfl, h⟩
  exact ⟨by rw [wi_eq a b ha hb], h⟩
theorem within_D (a b : List UInt8) (q : Bool) (w : World) (ha : good a = true) (hb : good b = true) (h : wiB a b = q) :
    Calls Try.prog 29 #[cubeV a, cubeV b] w fun e w' => e = .returned (.bool q) ∧ Below w.heap.size w w' := by
  subst h; exact within_any a b w ha hb
end Go.Proofs.Ytmblloddhpcdeac
