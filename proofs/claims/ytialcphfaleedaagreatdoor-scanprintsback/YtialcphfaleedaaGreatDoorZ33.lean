import Derived.Test.YtialcphfaleedaaGreatDoorZ29
import Derived.Test.YtialcphfaleedaaGreatDoorZ1
import Derived.Test.YtialcphfaleedaaGreatDoorZ31
namespace Go.Proofs.YtialcphfaleedaaGreatDoor
open Go.RowKit Go.Shelf
theorem take_nls {l : List UInt8} {k : Nat} {c : UInt8} (h : l[k]? = some c) : nls (l.take (k + 1)) = nls (l.take k) + (if c = 10 then 1 else 0) := by
  unfold nls
  rw [List.take_add_one, h, Option.toList_some, List.count_append]
  by_cases e : c = 10
  · rw [if_pos e, e]; rfl
  · rw [if_neg e]
    simp [e]
theorem nls_le (l : List UInt8) : nls l ≤ l.length := List.count_le_length
def tagg (t : Tok) : Value := .agg (tcel t).toArray
set_option maxRecDepth 100000 in
set_option maxHeartbeats 2000000 in
theorem same_any (t : Tok) (w : World) :
    Calls Tryz.prog 28 #[tagg t, tagg t] w fun e w' => e = .returned (.bool true) ∧ Below w.heap.size w w' := by
  obtain ⟨a, b, c, d⟩ := t
  show Calls Tryz.prog 28 #[.agg #[.int .i64 (a : Int), .string ⟨b.toArray⟩, .int .i64 (c : Int), .int .i64 (d : Int)], .agg #[.int .i64 (a : Int), .string ⟨b.toArray⟩, .int .i64 (c : Int), .int .i64 (d : Int)]] w _
  go_enter Tryz.func28, Tryz.ntmps28
  go_wp2_with fail
  go_ret
  exact ⟨rfl, ((Below.refl _ _).alloc (Nat.le_refl _) _).alloc (by simp) _⟩
end Go.Proofs.YtialcphfaleedaaGreatDoor
namespace Go.Proofs.YtialcphfaleedaaGreatDoor
open Go.RowKit Go.Shelf
set_option maxRecDepth 100000 in
set_option maxHeartbeats 2000000 in
theorem sameAll_any (D : List Tok) (o1 o2 : Option Addr) (c1 c2 B1 B2 : Nat) (w : World) (h1 : w.ownsRow B1 31 4 (.slice o1 D.length c1) D.length (tcels D)) (h2 : w.ownsRow B2 31 4 (.slice o2 D.length c2) D.length (tcels D)) :
    Calls Tryz.prog 19 #[.slice o1 D.length c1, .slice o2 D.length c2] w fun e w' => e = .returned (.bool true) ∧ Below w.heap.size w w' := by
  have m1 : D.length ≤ maxLen := own_le h1
  unfold maxLen at m1
  have x1 : Hid (w.ownsRow B1 31 4 (.slice o1 D.length c1) D.length (tcels D)) := h1
  have x2 : Hid (w.ownsRow B2 31 4 (.slice o2 D.length c2) D.length (tcels D)) := h2
  clear h1 h2
  go_enter Tryz.func19, Tryz.ntmps19
  go_wp2_with fail
  go_loopw [5] (fun i wr => ∃ k : Nat, k ≤ D.length ∧ i = .int .i64 k ∧ Below w.heap.size w wr) (fun i _ => D.length - (intOf i).toNat)
  case atStart => exact ⟨0, Nat.zero_le _, rfl, Below.refl _ _⟩
  case round =>
    obtain ⟨k, hk, rfl, hB⟩ := hrel
    by_cases hlt : k < D.length
    · have j1 : (k : Int) < (D.length : Int) := by omega
      have j0 : (0 : Int) ≤ (k : Int) := by omega
      obtain ⟨G1, rfl⟩ := own_at x1.out (by omega)
      obtain ⟨G2, rfl⟩ := own_at x2.out (by omega)
      obtain ⟨t, ht⟩ : ∃ t, D[k]? = some t := ⟨_, List.getElem?_eq_getElem hlt⟩
      have X1 : Hid (∀ W, Below w.heap.size w W → W.cell? ⟨G1, k * 4, none⟩ = some (.int .i64 (t.1 : Int)) ∧ W.cell? ⟨G1, k * 4 + 1, none⟩ = some (.string ⟨t.2.1.toArray⟩) ∧ W.cell? ⟨G1, k * 4 + 2, none⟩ = some (.int .i64 (t.2.2.1 : Int)) ∧ W.cell? ⟨G1, k * 4 + 3, none⟩ = some (.int .i64 (t.2.2.2 : Int))) := fun W hW => tok_cell (owns_below x1.out hW) ht
      have X2 : Hid (∀ W, Below w.heap.size w W → W.cell? ⟨G2, k * 4, none⟩ = some (.int .i64 (t.1 : Int)) ∧ W.cell? ⟨G2, k * 4 + 1, none⟩ = some (.string ⟨t.2.1.toArray⟩) ∧ W.cell? ⟨G2, k * 4 + 2, none⟩ = some (.int .i64 (t.2.2.1 : Int)) ∧ W.cell? ⟨G2, k * 4 + 3, none⟩ = some (.int .i64 (t.2.2.2 : Int))) := fun W hW => tok_cell (owns_below x2.out hW) ht
      clear x1 x2
      go_wp2_with fail
      refine quiet_lit3 (C := fun W => Below w.heap.size w W) (by kernel_rfl) (by kernel_rfl) (show Below _ _ _ from hB.drew) ?_
      go_big_quiet_want
      go_big_quiet_op
      go_big_quiet_on
      go_big_quiet_want
      go_big_quiet_op
      go_big_quiet_on
      go_big_quiet_want
      refine ⟨.pointer (some ⟨G1, k * 4, none⟩), fun W hW => ?_, ?_⟩
      · go_simp
      go_big_quiet_on
      simp only [Act.put, List.setIfInBounds_toArray, List.set_cons_zero, List.set_cons_succ]
      go_big_quiet_want
      refine ⟨tagg t, fun W hW => ?_, ?_⟩
      · obtain ⟨p0, p1, p2, p3⟩ := X1.out W hW
        go_simp
        rfl
      go_big_quiet_on
      simp only [Act.put, List.setIfInBounds_toArray, List.set_cons_zero, List.set_cons_succ]
      go_big_quiet_want
      go_big_quiet_op
      go_big_quiet_on
      go_big_quiet_want
      go_big_quiet_op
      go_big_quiet_on
      go_big_quiet_want
      refine ⟨.pointer (some ⟨G2, k * 4, none⟩), fun W hW => ?_, ?_⟩
      · go_simp
      go_big_quiet_on
      simp only [Act.put, List.setIfInBounds_toArray, List.set_cons_zero, List.set_cons_succ]
      go_big_quiet_want
      refine ⟨tagg t, fun W hW => ?_, ?_⟩
      · obtain ⟨p0, p1, p2, p3⟩ := X2.out W hW
        go_simp
        rfl
      go_big_quiet_on
      simp only [Act.put, List.setIfInBounds_toArray, List.set_cons_zero, List.set_cons_succ]
      go_big_quiet_want
      refine ⟨.bool true, fun W hW => ?_, ?_⟩
      · go_simp
        refine (same_any t W).mono ?_
        rintro e w7 ⟨rfl, hb⟩
        exact ⟨rfl, bel0 hW hb⟩
      go_big_quiet_on
      simp only [Act.put, List.setIfInBounds_toArray, List.set_cons_zero, List.set_cons_succ]
      go_big_quiet_want
      refine ⟨.bool false, fun W hW => ?_, ?_⟩
      · go_simp
      go_big_quiet_on
      simp only [Act.put, List.setIfInBounds_toArray, List.set_cons_zero, List.set_cons_succ]
      refine wpQuiet_nil ?_
      intro W hW
      go_wp2_with fail
      go_roundw
      case rel => exact ⟨k + 1, by omega, by go_num, hW⟩
      case measure => simp [intOf]; omega
    · have j1 : ¬ (k : Int) < (D.length : Int) := by omega
      go_wp2_with fail
      go_ret
      exact ⟨rfl, hB⟩
end Go.Proofs.YtialcphfaleedaaGreatDoor
