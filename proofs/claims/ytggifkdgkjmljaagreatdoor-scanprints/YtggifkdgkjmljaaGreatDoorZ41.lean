import Derived.Test.YtggifkdgkjmljaaGreatDoorZ31
import Derived.Deep.OwnRows
namespace Go.Proofs.YtggifkdgkjmljaaGreatDoor
open Go.RowKit Go.Shelf
/-- the cells of a row of tokens -/
def iels (L : List ITok) : List Value := L.flatMap icel
theorem iels_len (L : List ITok) : (iels L).length = L.length * 4 := by
  unfold iels
  induction L with
  | nil => rfl
  | cons t L ih => rw [List.flatMap_cons, List.length_append, ih, List.length_cons]; show 4 + _ = _; omega
theorem iels_get (L : List ITok) : ∀ (k m : Nat), m < 4 → (iels L)[k * 4 + m]? = L[k]?.bind fun t => (icel t)[m]? := by
  induction L with
  | nil => intro k m _; simp [iels]
  | cons t L ih =>
    intro k m hm
    have e : iels (t :: L) = icel t ++ iels L := rfl
    rw [e]
    cases k with
    | zero =>
      rw [List.getElem?_append_left (by show 0 * 4 + m < 4; omega)]
      simp
    | succ k =>
      rw [List.getElem?_append_right (by show 4 ≤ _; omega), show (k + 1) * 4 + m - (icel t).length = k * 4 + m by show _ - 4 = _; omega, ih k m hm]
      simp
theorem iels_at {L : List ITok} {k : Nat} {t : ITok} (h : L[k]? = some t) : (iels L)[k * 4]? = some (.int .i64 t.1) ∧ (iels L)[k * 4 + 1]? = some (.string ⟨t.2.1.toArray⟩) ∧ (iels L)[k * 4 + 2]? = some (.int .i64 t.2.2.1) ∧ (iels L)[k * 4 + 3]? = some (.int .i64 t.2.2.2) := by
  have h0 := iels_get L k 0 (by decide)
  have h1 := iels_get L k 1 (by decide)
  have h2 := iels_get L k 2 (by decide)
  have h3 := iels_get L k 3 (by decide)
  rw [h] at h0 h1 h2 h3
  exact ⟨h0, h1, h2, h3⟩
theorem iels_set (L : List ITok) (k : Nat) (t : ITok) (hk : k < L.length) : ((((iels L).set (k * 4) (.int .i64 t.1)).set (k * 4 + 1) (.string ⟨t.2.1.toArray⟩)).set (k * 4 + 2) (.int .i64 t.2.2.1)).set (k * 4 + 3) (.int .i64 t.2.2.2) = iels (L.set k t) := by
  have hl := iels_len L
  apply List.ext_getElem?
  intro j
  obtain ⟨q, m, rfl, hm⟩ : ∃ q m, j = q * 4 + m ∧ m < 4 := ⟨j / 4, j % 4, by omega, by omega⟩
  rw [iels_get (L.set k t) q m hm]
  by_cases hq : q = k
  · subst hq
    rw [List.getElem?_set_self hk]
    have hc : m = 0 ∨ m = 1 ∨ m = 2 ∨ m = 3 := by omega
    rcases hc with rfl | rfl | rfl | rfl <;>
      (repeat rw [List.getElem?_set_ne (by omega)]) <;>
      (first | (rw [List.getElem?_set_self (by simp only [List.length_set]; omega)]; rfl) | (show (((iels L).set (q * 4) _))[q * 4]? = _; rw [List.getElem?_set_self (by omega)]; rfl))
  · rw [List.getElem?_set_ne (by omega), List.getElem?_set_ne (by omega), List.getElem?_set_ne (by omega), List.getElem?_set_ne (by omega), iels_get L q m hm, List.getElem?_set_ne (fun e => hq e.symm)]
abbrev zeroT : ITok := (0, [], 0, 0)
theorem iels_made (n : Nat) : (madeCells (Value.agg #[.int .i64 0, .string ⟨#[]⟩, .int .i64 0, .int .i64 0]).cells (n * 4)).toList = iels (List.replicate n zeroT) := by
  apply List.ext_getElem?
  intro j
  obtain ⟨q, m, rfl, hm⟩ : ∃ q m, j = q * 4 + m ∧ m < 4 := ⟨j / 4, j % 4, by omega, by omega⟩
  rw [iels_get _ q m hm]
  unfold madeCells
  by_cases hq : q < n
  · rw [List.getElem?_replicate, if_pos hq]
    have hc : m = 0 ∨ m = 1 ∨ m = 2 ∨ m = 3 := by omega
    have hj : q * 4 + m < n * 4 := by omega
    have e4 : (Value.agg #[.int .i64 0, .string ⟨#[]⟩, .int .i64 0, .int .i64 0]).cells = #[.int .i64 0, .string ⟨#[]⟩, .int .i64 0, .int .i64 0] := rfl
    rw [e4]
    have em : (q * 4 + m) % 4 = m := by omega
    simp only [Array.toList_map, Array.toList_range, List.getElem?_map, List.getElem?_range hj, Option.map_some]
    rcases hc with rfl | rfl | rfl | rfl <;> simp [em, icel]
  · rw [List.getElem?_eq_none (by simp; omega), List.getElem?_eq_none (by simp; omega)]
    rfl
def put4k (W : World) (g k : Nat) (t : ITok) : World :=
  (((W.setCell ⟨g, k * 4, none⟩ (.int .i64 t.1)).setCell ⟨g, k * 4 + 1, none⟩ (.string ⟨t.2.1.toArray⟩)).setCell ⟨g, k * 4 + 2, none⟩ (.int .i64 t.2.2.1)).setCell ⟨g, k * 4 + 3, none⟩ (.int .i64 t.2.2.2)
theorem gr_trans {w w1 w2 : World} {r : Option Nat} (h1 : w.grownBy w1 r) (h2 : w1.grownBy w2 r) : w.grownBy w2 r :=
  ⟨h2.os.trans h1.os, h2.tape.trans h1.tape, h2.output.trans h1.output, Nat.le_trans h1.size h2.size, fun k hk hr => (h2.block k (Nat.lt_of_lt_of_le hk h1.size) hr).trans (h1.block k hk hr)⟩
theorem put4k_own {W : World} {B g n c k : Nat} {K : List ITok} (t : ITok) (h : W.ownsRow B 24 4 (.slice (some ⟨g, 0, none⟩) n c) n (iels K)) (hk : k < K.length) :
    (put4k W g k t).ownsRow B 24 4 (.slice (some ⟨g, 0, none⟩) n c) n (iels (K.set k t)) ∧ W.grownBy (put4k W g k t) (some g) := by
  have s0 := h.stored (k * 4) (.int .i64 t.1)
  have s1 := s0.1.stored (k * 4 + 1) (.string ⟨t.2.1.toArray⟩)
  have s2 := s1.1.stored (k * 4 + 2) (.int .i64 t.2.2.1)
  have s3 := s2.1.stored (k * 4 + 3) (.int .i64 t.2.2.2)
  rw [← iels_set K k t hk]
  exact ⟨s3.1, gr_trans s0.2 (gr_trans s1.2 (gr_trans s2.2 s3.2))⟩
/-- what is held of an owned row's token -/
theorem itok_cell {W : World} {B g n c : Nat} {K : List ITok} (h : W.ownsRow B 24 4 (.slice (some ⟨g, 0, none⟩) n c) n (iels K)) {k : Nat} {t : ITok} (ht : K[k]? = some t) :
    W.cell? ⟨g, k * 4, none⟩ = some (.int .i64 t.1) ∧ W.cell? ⟨g, k * 4 + 1, none⟩ = some (.string ⟨t.2.1.toArray⟩) ∧ W.cell? ⟨g, k * 4 + 2, none⟩ = some (.int .i64 t.2.2.1) ∧ W.cell? ⟨g, k * 4 + 3, none⟩ = some (.int .i64 t.2.2.2) := by
  have hl : K.length = n := by
    have := h.1
    rw [iels_len] at this
    omega
  have hk := (List.getElem?_eq_some_iff.1 ht).1
  obtain ⟨a0, a1, a2, a3⟩ := iels_at ht
  exact ⟨(h.cellAt _ (by omega)).trans a0, (h.cellAt _ (by omega)).trans a1, (h.cellAt _ (by omega)).trans a2, (h.cellAt _ (by omega)).trans a3⟩
/-- a row that is owned lies there, now and later -/
theorem IR_own {W : World} {B g n c : Nat} {K L : List ITok} (h : W.ownsRow B 24 4 (.slice (some ⟨g, 0, none⟩) n c) n (iels K)) (hL : ∀ (k : Nat) (t : ITok), L[k]? = some t → K[k]? = some t) : IR W (some ⟨g, 0, none⟩) L := fun W' hW k t ht => by
  obtain ⟨a0, a1, a2, a3⟩ := itok_cell (owns_below h hW) (hL k t ht)
  exact ⟨g, 0, rfl, by rw [Nat.zero_add]; exact a0, by rw [Nat.zero_add]; exact a1, by rw [Nat.zero_add]; exact a2, by rw [Nat.zero_add]; exact a3⟩
theorem fill_set (L : List ITok) (k m : Nat) {t : ITok} (ht : L[k]? = some t) : (L.take k ++ List.replicate (m + 1) zeroT).set k t = L.take (k + 1) ++ List.replicate m zeroT := by
  obtain ⟨hk, e⟩ := List.getElem?_eq_some_iff.1 ht
  have hl : (L.take k).length = k := by rw [List.length_take]; omega
  rw [List.set_append_right _ _ (by omega), hl, Nat.sub_self, List.replicate_succ, List.set_cons_zero, List.take_add_one, ht, List.append_assoc]
  rfl
end Go.Proofs.YtggifkdgkjmljaaGreatDoor
