import Derived.Test.YtbdnpbiimbeflaaW19
import Derived.Test.YtbdnpbiimbeflaaM8
namespace Go.Proofs.Ytbdnpbiimbeflaa
open Go.RowKit

/-- the digit of the hull at a place, one cube behind the other -/
def hdg (i : Nat) (d : UInt8) (L : List (List UInt8)) : UInt8 := L.foldl (fun d x => if x.getD i 0 == d then d else 120) d
theorem hdg_snoc (i : Nat) (d : UInt8) (L : List (List UInt8)) (k : Nat) (hk : k < L.length) : hdg i d (L.take (k + 1)) = if L[k].getD i 0 == hdg i d (L.take k) then hdg i d (L.take k) else 120 := by
  rw [List.take_add_one, List.getElem?_eq_getElem hk]
  show (L.take k ++ [L[k]]).foldl _ d = _
  rw [List.foldl_append]
  rfl
theorem hul_get (F : List UInt8) (L : List (List UInt8)) (H : List UInt8) (h : hulA F L = some H) (i : Nat) (hi : i < F.length) : H[i]? = some (hdg i F[i] L) := by
  induction L generalizing F with
  | nil =>
    obtain rfl : F = H := Option.some.inj h
    exact List.getElem?_eq_getElem hi
  | cons d l ih =>
    have h' : (if fitB F d = true then hulA (huT F d) l else none) = some H := h
    cases hf : fitB F d
    · rw [hf] at h'; cases h'
    · rw [if_pos hf] at h'
      have hld := fitB_len hf
      have hi2 : i < (huT F d).length := by rw [huT_len F d hld]; exact hi
      rw [ih (huT F d) h' hi2]
      have hg := huT_get F d hld i hi
      rw [List.getElem?_eq_getElem hi2] at hg
      rw [Option.some.inj hg]
      show some (hdg i _ l) = some (hdg i (if d.getD i 0 == F[i] then F[i] else 120) l)
      have hd : d.getD i 0 = d[i]'(by omega) := by simp [List.getElem?_eq_getElem (show i < d.length by omega)]
      rw [hd]
      congr 2
      by_cases e : F[i] = d[i]'(by omega)
      · rw [e]
      · have e2 : ¬ (d[i]'(by omega)) = F[i] := fun x => e x.symm
        simp [e, e2]
theorem hul_lens (F : List UInt8) (L : List (List UInt8)) (H : List UInt8) (h : hulA F L = some H) : ∀ x ∈ L, x.length = F.length := by
  induction L generalizing F with
  | nil => intro x hx; simp at hx
  | cons d l ih =>
    have h' : (if fitB F d = true then hulA (huT F d) l else none) = some H := h
    cases hf : fitB F d
    · rw [hf] at h'; cases h'
    · rw [if_pos hf] at h'
      have hld := fitB_len hf
      intro x hx
      rcases List.mem_cons.1 hx with rfl | hx
      · exact hld.symm
      · rw [ih _ h' x hx, huT_len F d hld]

theorem hulF_none (F : List UInt8) (L : List (List UInt8)) (x : List UInt8) (hx : x ∈ F :: L) (h : fitB x F = false) : hulF F L = none := by
  unfold hulF
  split
  · rfl
  · rename_i hF
    cases hA : hulA F L with
    | none => rfl
    | some H =>
      exfalso
      have hlen : x.length = F.length := by
        rcases List.mem_cons.1 hx with rfl | hx
        · rfl
        · exact hul_lens F L H hA x hx
      have hxe : x ≠ [] := by
        intro e
        rw [e] at hlen
        exact hF (List.eq_nil_of_length_eq_zero hlen.symm)
      rw [fit_of hxe hlen] at h
      cases h
theorem hulF_some (F : List UInt8) (L : List (List UInt8)) (h : ∀ x ∈ F :: L, fitB x F = true) : ∃ H, hulF F L = some H ∧ F ≠ [] ∧ H.length = F.length ∧ ∀ i, i < F.length → H[i]? = some (hdg i (F.getD i 0) (F :: L)) := by
  have hF : F ≠ [] := fitB_ne (h F (by simp))
  obtain ⟨H, hH⟩ := hul_fits F L hF (fun x hx => fitB_len (h x (by simp [hx])))
  refine ⟨H, ?_, hF, hul_len F L H hH, fun i hi => ?_⟩
  · unfold hulF; rw [if_neg hF]; exact hH
  · rw [hul_get F L H hH i hi]
    have hd : F.getD i 0 = F[i] := by simp [List.getElem?_eq_getElem hi]
    show some (hdg i F[i] L) = some (hdg i (if F.getD i 0 == F.getD i 0 then F.getD i 0 else 120) L)
    rw [hd]
    simp

/-- texts as strings -/
def stx (l : List (List UInt8)) : List Value := l.map (fun t => .string ⟨t.toArray⟩)
theorem stx_snoc (l : List (List UInt8)) (t : List UInt8) : stx (l ++ [t]) = stx l ++ [.string ⟨t.toArray⟩] := by simp [stx]
theorem stx_at {W : World} {B g cap k : Nat} {L : List (List UInt8)} {P : List UInt8} (hown : W.ownsRow B 9 1 (.slice (some ⟨g, 0, none⟩) L.length cap) L.length (stx L)) (hk : k < L.length) (hP : L[k] = P) :
    W.cell? ⟨g, k, none⟩ = some (.string ⟨P.toArray⟩) := by
  rw [hown.cellAt k (by omega)]
  simp [stx, List.getElem?_eq_getElem hk, hP]
/-- what the reference's Hull answers -/
def hulR : Option (List UInt8) → Value
  | some H => .tuple #[.string ⟨H.toArray⟩, .int .i64 0]
  | none => .tuple #[.string ⟨#[]⟩, .int .i64 11]
end Go.Proofs.Ytbdnpbiimbeflaa
