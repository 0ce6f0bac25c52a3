import Derived.Test.YtnboehlbcjfndaaGreatDoorYBA
namespace Go.Proofs.YtnboehlbcjfndaaGreatDoor
open Go.RowKit Go.Shelf
set_option maxRecDepth 100000 in
set_option maxHeartbeats 2000000 in
theorem alike_any (V : List Int) (o1 o2 : Option Addr) (c1 c2 : Nat) (w : World) (hL : V.length ≤ 281474976710656) (h1 : IRV w o1 V) (h2 : IRV w o2 V) :
    Calls Tryz.prog 23 #[.slice o1 V.length c1, .slice o2 V.length c2] w fun e w' => e = .returned (.bool true) ∧ Below w.heap.size w w' := by
  have x1 : Hid (IRV w o1 V) := h1
  have x2 : Hid (IRV w o2 V) := h2
  clear h1 h2
  go_enter Tryz.func23, Tryz.ntmps23
  go_wp2_with fail
  go_loopw [5] (fun i wr => ∃ k : Nat, k ≤ V.length ∧ i = .int .i64 k ∧ Below w.heap.size w wr) (fun i _ => V.length - (intOf i).toNat)
  case atStart => exact ⟨0, Nat.zero_le _, rfl, Below.refl _ _⟩
  case round =>
    obtain ⟨k, hk, rfl, hB⟩ := hrel
    by_cases hlt : k < V.length
    · have j1 : (k : Int) < (V.length : Int) := by omega
      have j0 : (0 : Int) ≤ (k : Int) := by omega
      obtain ⟨f, hf⟩ : ∃ f, V[k]? = some f := ⟨_, List.getElem?_eq_getElem hlt⟩
      obtain ⟨G1, Q1, rfl, -⟩ := x1.out w (Below.refl _ _) k f hf
      obtain ⟨G2, Q2, rfl, -⟩ := x2.out w (Below.refl _ _) k f hf
      have X1 : Hid (∀ W, Below w.heap.size w W → W.cell? ⟨G1, Q1 + k, none⟩ = some (.int .i64 f)) := fun W hW => by
        obtain ⟨g2, q2, e, h⟩ := x1.out W hW k f hf
        injection e with e
        injection e with e1 e2
        subst e1 e2
        exact h
      have X2 : Hid (∀ W, Below w.heap.size w W → W.cell? ⟨G2, Q2 + k, none⟩ = some (.int .i64 f)) := fun W hW => by
        obtain ⟨g2, q2, e, h⟩ := x2.out W hW k f hf
        injection e with e
        injection e with e1 e2
        subst e1 e2
        exact h
      clear x1 x2 hf
      go_wp2_with fail
      refine quiet_lit3 (C := fun W => Below w.heap.size w W) (by kernel_rfl) (by kernel_rfl) (show Below _ _ _ from hB.drew) ?_
      go_big_quiet_want
      go_big_quiet_op
      go_big_quiet_on
      go_big_quiet_want
      go_big_quiet_op
      go_big_quiet_on
      go_big_quiet_want
      refine ⟨.pointer (some ⟨G1, Q1 + k, none⟩), fun W hW => ?_, ?_⟩
      · go_simp
      go_big_quiet_on
      simp only [Act.put, List.setIfInBounds_toArray, List.set_cons_zero, List.set_cons_succ]
      go_big_quiet_want
      refine ⟨.int .i64 f, fun W hW => ?_, ?_⟩
      · have z0 := X1.out W hW
        go_simp
      go_big_quiet_on
      simp only [Act.put, List.setIfInBounds_toArray, List.set_cons_zero, List.set_cons_succ]
      go_big_quiet_want
      go_big_quiet_op
      go_big_quiet_on
      go_big_quiet_want
      go_big_quiet_op
      go_big_quiet_on
      go_big_quiet_want
      refine ⟨.pointer (some ⟨G2, Q2 + k, none⟩), fun W hW => ?_, ?_⟩
      · go_simp
      go_big_quiet_on
      simp only [Act.put, List.setIfInBounds_toArray, List.set_cons_zero, List.set_cons_succ]
      go_big_quiet_want
      refine ⟨.int .i64 f, fun W hW => ?_, ?_⟩
      · have z0 := X2.out W hW
        go_simp
      go_big_quiet_on
      simp only [Act.put, List.setIfInBounds_toArray, List.set_cons_zero, List.set_cons_succ]
      go_big_quiet_want
      refine ⟨.bool false, fun W hW => ?_, ?_⟩
      · go_simp
      go_big_quiet_on
      simp only [Act.put, List.setIfInBounds_toArray, List.set_cons_zero, List.set_cons_succ]
      refine wpQuiet_nil ?_
      intro W hW
      go_wp2_with fail
      go_roundw
      case rel => exact ⟨k + 1, by omega, by go_num, hW⟩
      case measure => simp [intOf]; omega
    · have j1 : ¬ (k : Int) < (V.length : Int) := by omega
      go_wp2_with fail
      go_ret
      exact ⟨rfl, hB⟩
end Go.Proofs.YtnboehlbcjfndaaGreatDoor
