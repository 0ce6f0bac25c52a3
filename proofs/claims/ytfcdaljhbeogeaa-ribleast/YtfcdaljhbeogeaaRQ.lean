import Derived.Test.YtfcdaljhbeogeaaRO
namespace Go.Proofs.Ytfcdaljhbeogeaa
open Go.RowKit
/-- a shortest way may begin with the edge -/
def tgh (G : List Int) (e : IRt) : Bool := decide (0 ≤ gF G e.2.1.toNat) && decide (gF G e.1.toNat = gF G e.2.1.toNat + e.2.2.1)
/-- x is the place of the first tight edge from v among those from lo to hi; -1: none -/
def IsF (E : List IRt) (G : List Int) (lo hi v : Nat) (x : Int) : Prop := (x = -1 ∧ ∀ i e, lo ≤ i → i < hi → E[i]? = some e → e.1.toNat = v → tgh G e = false) ∨ ∃ i : Nat, x = (i : Int) ∧ lo ≤ i ∧ i < hi ∧ (∃ e, E[i]? = some e ∧ e.1.toNat = v ∧ tgh G e = true) ∧ ∀ j e, lo ≤ j → j < i → E[j]? = some e → e.1.toNat = v → tgh G e = false
theorem IsF.uniq {E : List IRt} {G : List Int} {lo hi v : Nat} {x y : Int} (h1 : IsF E G lo hi v x) (h2 : IsF E G lo hi v y) : x = y := by
  rcases h1 with ⟨a, b⟩ | ⟨i, a, b, c, ⟨e, d1, d2, d3⟩, f⟩
  · rcases h2 with ⟨a', b'⟩ | ⟨i', a', b', c', ⟨e', d1', d2', d3'⟩, f'⟩
    · omega
    · have := b i' e' b' c' d1' d2'
      rw [d3'] at this
      cases this
  · rcases h2 with ⟨a', b'⟩ | ⟨i', a', b', c', ⟨e', d1', d2', d3'⟩, f'⟩
    · have := b' i e b c d1 d2
      rw [d3] at this
      cases this
    · have h3 : ¬ i < i' := fun hl => by
        have := f' i e b hl d1 d2
        rw [d3] at this
        cases this
      have h4 : ¬ i' < i := fun hl => by
        have := f i' e' b' hl d1' d2'
        rw [d3'] at this
        cases this
      omega
theorem IsF.none (E : List IRt) (G : List Int) (i v : Nat) : IsF E G i i v (-1) := .inl ⟨rfl, fun j e h1 h2 => by omega⟩
theorem IsF.on_no {E : List IRt} {G : List Int} {i v : Nat} {x : Int} {e : IRt} (h : IsF E G 0 i v x) (he : E[i]? = some e) (hn : 0 ≤ x ∨ e.1.toNat ≠ v ∨ tgh G e = false) : IsF E G 0 (i + 1) v x := by
  rcases h with ⟨a, b⟩ | ⟨k, a, b, c, d, f⟩
  · refine .inl ⟨a, fun j e' h1 h2 h3 h4 => ?_⟩
    by_cases e2 : j = i
    · subst e2
      rw [he] at h3
      cases h3
      rcases hn with g | g | g
      · omega
      · exact absurd h4 g
      · exact g
    · exact b j e' h1 (by omega) h3 h4
  · exact .inr ⟨k, a, b, by omega, d, f⟩
theorem IsF.on_yes {E : List IRt} {G : List Int} {i v : Nat} {x : Int} {e : IRt} (h : IsF E G 0 i v x) (he : E[i]? = some e) (hx : x < 0) (h1 : e.1.toNat = v) (h2 : tgh G e = true) : IsF E G 0 (i + 1) v (i : Int) := by
  rcases h with ⟨a, b⟩ | ⟨k, a, b, c, d, f⟩
  · exact .inr ⟨i, rfl, by omega, by omega, ⟨e, he, h1, h2⟩, fun j e' g1 g2 g3 g4 => b j e' g1 g2 g3 g4⟩
  · omega
theorem IsF.back_no {E : List IRt} {G : List Int} {i n v : Nat} {x : Int} {e : IRt} (h : IsF E G (i + 1) n v x) (he : E[i]? = some e) (hn : e.1.toNat ≠ v ∨ tgh G e = false) : IsF E G i n v x := by
  have key : ∀ e', E[i]? = some e' → e'.1.toNat = v → tgh G e' = false := fun e' g1 g2 => by
    rw [he] at g1
    cases g1
    rcases hn with g | g
    · exact absurd g2 g
    · exact g
  rcases h with ⟨a, b⟩ | ⟨k, a, b, c, d, f⟩
  · refine .inl ⟨a, fun j e' h1 h2 h3 h4 => ?_⟩
    by_cases e2 : j = i
    · exact key e' (e2 ▸ h3) h4
    · exact b j e' (by omega) h2 h3 h4
  · refine .inr ⟨k, a, by omega, c, d, fun j e' h1 h2 h3 h4 => ?_⟩
    by_cases e2 : j = i
    · exact key e' (e2 ▸ h3) h4
    · exact f j e' (by omega) h2 h3 h4
theorem IsF.back_yes {E : List IRt} {G : List Int} {i n v : Nat} {e : IRt} (he : E[i]? = some e) (hi : i < n) (h1 : e.1.toNat = v) (h2 : tgh G e = true) : IsF E G i n v (i : Int) :=
  .inr ⟨i, rfl, Nat.le_refl _, hi, ⟨e, he, h1, h2⟩, fun j e' g1 g2 => by omega⟩
theorem gF_ext {A B : List Int} (hl : A.length = B.length) (h : ∀ v, v < A.length → gF A v = gF B v) : A = B := by
  apply List.ext_getElem?
  intro v
  by_cases hv : v < A.length
  · have := h v hv
    unfold gF at this
    simp only [List.getD, List.getElem?_eq_getElem hv, List.getElem?_eq_getElem (hl ▸ hv), Option.getD_some] at this
    rw [List.getElem?_eq_getElem hv, List.getElem?_eq_getElem (hl ▸ hv), this]
  · rw [List.getElem?_eq_none (by omega), List.getElem?_eq_none (by omega)]
/-- what Shortest answers beside the lengths -/
def Fst (E : List IRt) (G B : List Int) : Prop := B.length = G.length ∧ ∀ v, v < G.length → IsF E G 0 E.length v (gF B v)
theorem Fst.uniq {E : List IRt} {G A B : List Int} (h1 : Fst E G A) (h2 : Fst E G B) : A = B := gF_ext (by rw [h1.1, h2.1]) (fun v hv => (h1.2 v (h1.1 ▸ hv)).uniq (h2.2 v (h1.1 ▸ hv)))
end Go.Proofs.Ytfcdaljhbeogeaa
