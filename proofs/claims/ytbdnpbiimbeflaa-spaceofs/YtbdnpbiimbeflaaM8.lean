import Derived.Test.YtbdnpbiimbeflaaW18
import Derived.Test.YtbdnpbiimbeflaaA4
namespace Go.Proofs.Ytbdnpbiimbeflaa

theorem fitB_ne {a b : List UInt8} (h : fitB a b = true) : a ≠ [] := by
  intro e; subst e; simp [fitB] at h

theorem wi_hu (a b z : List UInt8) (ha : a ≠ []) (hl : a.length = b.length) (hl2 : a.length = z.length) : wiB (huT a b) z = (wiB a z && wiB b z) := by
  have hb : b ≠ [] := by
    intro e; subst e; exact ha (List.eq_nil_of_length_eq_zero hl)
  have hlh := huT_len a b hl
  have hh : huT a b ≠ [] := by
    intro e; rw [e] at hlh; exact ha (List.eq_nil_of_length_eq_zero hlh.symm)
  rw [wiB_eq, wiB_eq, wiB_eq, fit_of ha hl2, fit_of hb (by omega), fit_of hh (by omega), Bool.true_and, Bool.true_and, Bool.true_and, hlh, ← hl]
  have key : ∀ k, k < a.length → inK (huT a b) z k = (inK a z k && inK b z k) := by
    intro k hk
    have kb : k < b.length := by omega
    have kz : k < z.length := by omega
    simp only [inK, huT_get a b hl k hk, List.getElem?_eq_getElem hk, List.getElem?_eq_getElem kb, List.getElem?_eq_getElem kz]
    generalize a[k] = x
    generalize b[k] = y
    generalize z[k] = v
    by_cases e : x = y
    · subst e; simp
    · by_cases e2 : v = 120
      · subst e2; simp
      · have e3 : ((120 : UInt8) == v) = false := by simpa using fun h => e2 h.symm
        have e4 : (v == 120) = false := by simpa using e2
        have e5 : (x == y) = false := by simpa using e
        rw [e4, e5, Bool.false_or, Bool.false_or, Bool.false_or]
        show ((120 : UInt8) == v) = _
        rw [e3]
        cases h1 : (x == v)
        · rfl
        · cases h2 : (y == v)
          · rfl
          · exact absurd ((eq_of_beq h1).trans (eq_of_beq h2).symm) e
  rw [Bool.eq_iff_iff, Bool.and_eq_true, allTo_iff, allTo_iff, allTo_iff]
  constructor
  · intro h
    refine ⟨fun k hk => ?_, fun k hk => ?_⟩
    · have := h k hk; rw [key k hk, Bool.and_eq_true] at this; exact this.1
    · have := h k hk; rw [key k hk, Bool.and_eq_true] at this; exact this.2
  · rintro ⟨h1, h2⟩ k hk
    rw [key k hk, h1 k hk, h2 k hk]; rfl

/-- the hull lies in z just if all of them do -/
theorem hul_wi (F : List UInt8) (L : List (List UInt8)) (H z : List UInt8) (hF : F ≠ []) (h : hulA F L = some H) (hl : F.length = z.length) :
    wiB H z = (wiB F z && L.all (fun x => wiB x z)) := by
  induction L generalizing F with
  | nil =>
    obtain rfl : F = H := Option.some.inj h
    simp
  | cons d l ih =>
    have h' : (if fitB F d = true then hulA (huT F d) l else none) = some H := h
    cases hf : fitB F d
    · rw [hf] at h'; cases h'
    · rw [if_pos hf] at h'
      have hld := fitB_len hf
      have hlh := huT_len F d hld
      have hh : huT F d ≠ [] := by
        intro e; rw [e] at hlh; exact hF (List.eq_nil_of_length_eq_zero hlh.symm)
      rw [ih (huT F d) hh h' (by omega), wi_hu F d z hF hld hl, List.all_cons, Bool.and_assoc]

theorem hul_len (F : List UInt8) (L : List (List UInt8)) (H : List UInt8) (h : hulA F L = some H) : H.length = F.length := by
  induction L generalizing F with
  | nil =>
    obtain rfl : F = H := Option.some.inj h
    rfl
  | cons d l ih =>
    have h' : (if fitB F d = true then hulA (huT F d) l else none) = some H := h
    cases hf : fitB F d
    · rw [hf] at h'; cases h'
    · rw [if_pos hf] at h'
      rw [ih (huT F d) h', huT_len F d (fitB_len hf)]

theorem hul_good (F : List UInt8) (L : List (List UInt8)) (H : List UInt8) (h : hulA F L = some H) (gF : good F = true) (gL : ∀ x ∈ L, good x = true) : good H = true := by
  induction L generalizing F with
  | nil =>
    obtain rfl : F = H := Option.some.inj h
    exact gF
  | cons d l ih =>
    have h' : (if fitB F d = true then hulA (huT F d) l else none) = some H := h
    cases hf : fitB F d
    · rw [hf] at h'; cases h'
    · rw [if_pos hf] at h'
      exact ih (huT F d) h' (good_huT F d gF (gL d (by simp))) (fun x hx => gL x (by simp [hx]))

theorem hul_fits (F : List UInt8) (L : List (List UInt8)) (hF : F ≠ []) (hL : ∀ x ∈ L, x.length = F.length) : ∃ H, hulA F L = some H := by
  induction L generalizing F with
  | nil => exact ⟨F, rfl⟩
  | cons d l ih =>
    have hld : F.length = d.length := (hL d (by simp)).symm
    have hf : fitB F d = true := fit_of hF hld
    have hlh := huT_len F d hld
    have hh : huT F d ≠ [] := by
      intro e; rw [e] at hlh; exact hF (List.eq_nil_of_length_eq_zero hlh.symm)
    obtain ⟨H, hH⟩ := ih (huT F d) hh (fun x hx => by rw [hL x (by simp [hx]), hlh])
    exact ⟨H, by show (if fitB F d = true then hulA (huT F d) l else none) = _; rw [if_pos hf]; exact hH⟩

/-- it holds all, and lies in every cube that does -/
theorem hul_least (F : List UInt8) (L : List (List UInt8)) (H : List UInt8) (hF : F ≠ []) (h : hulA F L = some H) : wiB F H = true ∧ ∀ x ∈ L, wiB x H = true := by
  have hl := hul_len F L H h
  have hH : H ≠ [] := by
    intro e; rw [e] at hl; exact hF (List.eq_nil_of_length_eq_zero hl.symm)
  have := hul_wi F L H H hF h hl.symm
  rw [wi_refl H hH, eq_comm, Bool.and_eq_true, List.all_eq_true] at this
  exact this
end Go.Proofs.Ytbdnpbiimbeflaa
