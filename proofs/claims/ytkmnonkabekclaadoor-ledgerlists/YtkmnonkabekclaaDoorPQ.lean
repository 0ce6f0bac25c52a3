import Derived.Test.YtkmnonkabekclaaDoorPP
namespace Go.Proofs.YtkmnonkabekclaaDoor
open Go.RowKit Go.Shelf
theorem unW_len : ∀ (n : Nat) (l : List UInt8) (L : List (List UInt8)), l.length ≤ n → unW l = some L → L.length ≤ l.length
  | n, [], L, _, h => by
    rw [unW_nil] at h
    obtain rfl := Option.some.inj h
    exact Nat.le_refl _
  | 0, c :: r, L, hn, _ => by simp at hn
  | n + 1, c :: r, L, hn, h => by
    cases hu : un1 (c :: r) with
    | none => rw [unW_no (by simp) hu] at h; cases h
    | some p =>
      obtain ⟨x, y⟩ := p
      have hy := (un1_less hu).1
      rw [unW_go (by simp) hu] at h
      obtain ⟨M, hM, rfl⟩ := Option.map_eq_some_iff.1 h
      have := unW_len n y M (by omega) hM
      rw [List.length_cons]
      omega
/-- what two readers of one text answered -/
def TWO (W : World) (v1 v2 : Value) (L : List (List UInt8)) : Prop := ∃ q1 c1 q2 c2, v1 = .slice q1 L.length c1 ∧ v2 = .slice q2 L.length c2 ∧ TR W q1 L ∧ TR W q2 L
theorem TR_nilP (W : World) (q : Option Addr) : TR W q [] := fun k x hx => by cases hx
theorem two_of {l : List UInt8} {w W1 W2 : World} {v1 v2 : Value} {E1 E2 : Int}
    (h1 : (16384 < l.length ∧ E1 = 2 ∧ v1 = .slice none 0 0) ∨ (l.length ≤ 16384 ∧ ((unW l = none ∧ E1 = 193 ∧ v1 = .slice none 0 0) ∨ ∃ L, unW l = some L ∧ E1 = 0 ∧ OS W1 w.heap.size v1 L)))
    (h2 : (16384 < l.length ∧ E2 = 2 ∧ v2 = .slice none 0 0) ∨ (l.length ≤ 16384 ∧ ((unW l = none ∧ E2 = 193 ∧ v2 = .slice none 0 0) ∨ ∃ L, unW l = some L ∧ E2 = 0 ∧ OS W2 W1.heap.size v2 L)))
    (b2 : Below W1.heap.size W1 W2) : E1 = E2 ∧ ∃ L, TWO W2 v1 v2 L ∧ L.length ≤ 16384 := by
  rcases h1 with ⟨a1, rfl, rfl⟩ | ⟨a1, ⟨u1, rfl, rfl⟩ | ⟨L1, u1, rfl, o1⟩⟩
  · rcases h2 with ⟨_, rfl, rfl⟩ | ⟨a2, _⟩
    · exact ⟨rfl, [], ⟨none, 0, none, 0, rfl, rfl, TR_nilP _ _, TR_nilP _ _⟩, by simp⟩
    · omega
  · rcases h2 with ⟨a2, _⟩ | ⟨_, ⟨_, rfl, rfl⟩ | ⟨L2, u2, _⟩⟩
    · omega
    · exact ⟨rfl, [], ⟨none, 0, none, 0, rfl, rfl, TR_nilP _ _, TR_nilP _ _⟩, by simp⟩
    · rw [u1] at u2; cases u2
  · rcases h2 with ⟨a2, _⟩ | ⟨_, ⟨u2, _⟩ | ⟨L2, u2, rfl, o2⟩⟩
    · omega
    · rw [u1] at u2; cases u2
    · rw [u1] at u2
      obtain rfl := Option.some.inj u2
      obtain ⟨q1, c1, rfl⟩ := shapeZ o1
      obtain ⟨q2, c2, rfl⟩ := shapeZ o2
      have hl := unW_len l.length l L1 (Nat.le_refl _) u1
      exact ⟨rfl, L1, ⟨q1, c1, q2, c2, rfl, rfl, OS.tr (o1.below b2), OS.tr o2⟩, by omega⟩
theorem ex_U : unW [49, 58, 97, 48, 58] = some [[97], []] := by
  have h1 : un1 [49, 58, 97, 48, 58] = some ([97], [48, 58]) := by decide +kernel
  have h2 : un1 [48, 58] = some ([], []) := by decide +kernel
  rw [unW_go (by simp) h1, unW_go (by simp) h2, unW_nil]
  rfl
set_option maxRecDepth 100000 in
set_option maxHeartbeats 4000000 in
theorem ledgerUnpacks_walk (l : List UInt8) (w : World) (hl : l.length ≤ 281474976710656) (hv : VWP w) :
    Calls Tryd.prog 5 #[.string ⟨l.toArray⟩] w fun e w' => e = .returned (.bool true) ∧ Below w.heap.size w w' := by
  have HU := unpack_any l w hl hv
  have HV : Hid (∀ W, Below w.heap.size w W → VWP W) := fun W h => hv.below h
  clear hv
  go_enter Tryd.func5, Tryd.ntmps5
  go_wp2_with fail
  refine HU.mono ?_
  rintro e W1 ⟨⟨v1, E1, rfl, hc1⟩, b1⟩
  have HD := dunpack_any l W1 hl (HV.out W1 b1).pow
  have HB1 : Hid (Below w.heap.size w W1) := b1
  have HC1 : Hid ((16384 < l.length ∧ E1 = 2 ∧ v1 = .slice none 0 0) ∨ (l.length ≤ 16384 ∧ ((unW l = none ∧ E1 = 193 ∧ v1 = .slice none 0 0) ∨ ∃ L, unW l = some L ∧ E1 = 0 ∧ OS W1 w.heap.size v1 L))) := hc1
  clear HU b1 hc1
  go_wp2_with fail
  refine HD.mono ?_
  rintro e W2 ⟨⟨v2, E2, rfl, hc2⟩, b2⟩
  obtain ⟨rfl, L, ⟨q1, c1, q2, c2, rfl, rfl, t1, t2⟩, hLl⟩ := two_of (l := l) (w := w) (W1 := W1) (W2 := W2) (v1 := v1) (v2 := v2) (E1 := E1) (E2 := E2) HC1.out hc2 b2
  have HB2 : Hid (Below w.heap.size w W2) := bel0Z HB1.out b2
  have HT1 : Hid (TR W2 q1 L) := t1
  have HT2 : Hid (TR W2 q2 L) := t2
  clear HD HC1 hc2 b2 t1 t2 HB1
  go_wp2_with fail
  go_loopw [7] (fun vi wr => ∃ i : Nat, vi = .int .i64 (i : Int) ∧ i ≤ L.length ∧ Hid (Below W2.heap.size W2 wr)) (fun vi _ => L.length - (intOf vi).toNat)
  case atStart => exact ⟨0, rfl, Nat.zero_le _, Below.refl _ _⟩
  case round =>
    obtain ⟨i, rfl, hi, HBW⟩ := hrel
    by_cases hlt : i < L.length
    · obtain ⟨x, hx⟩ : ∃ x, L[i]? = some x := ⟨_, List.getElem?_eq_getElem hlt⟩
      obtain ⟨g1, o1, rfl, k1⟩ := HT1.out i x hx
      obtain ⟨g2, o2, rfl, k2⟩ := HT2.out i x hx
      have j0 : (0 : Int) ≤ (i : Int) := by omega
      have j1 : (i : Int) < (L.length : Int) := by omega
      have HC1 : Hid (∀ U, Below wr.heap.size wr U → U.cell? ⟨g1, o1 + i, none⟩ = some (.string ⟨x.toArray⟩)) := fun U hU => ((bel0Z HBW.out hU).cell (World.block_lt_of_cell? W2 _ k1)).trans k1
      have HC2 : Hid (∀ U, Below wr.heap.size wr U → U.cell? ⟨g2, o2 + i, none⟩ = some (.string ⟨x.toArray⟩)) := fun U hU => ((bel0Z HBW.out hU).cell (World.block_lt_of_cell? W2 _ k2)).trans k2
      clear hx k1 k2
      go_wp2_with fail
      refine quiet_lit3 (C := fun U => Below wr.heap.size wr U) (by kernel_rfl) (by kernel_rfl) (show Below _ _ _ from (Below.refl _ _).drew) ?_
      go_big_quiet_want
      go_big_quiet_op
      go_big_quiet_on
      go_big_quiet_want
      go_big_quiet_op
      go_big_quiet_on
      go_big_quiet_want
      refine ⟨.pointer (some ⟨g1, o1 + i, none⟩), fun W hW => ?_, ?_⟩
      · go_simp
      go_big_quiet_on
      simp only [Act.put, List.setIfInBounds_toArray, List.set_cons_zero, List.set_cons_succ]
      go_big_quiet_want
      refine ⟨.string ⟨x.toArray⟩, fun W hW => ?_, ?_⟩
      · have cx := HC1.out W hW
        go_simp
      go_big_quiet_on
      simp only [Act.put, List.setIfInBounds_toArray, List.set_cons_zero, List.set_cons_succ]
      go_big_quiet_want
      go_big_quiet_op
      go_big_quiet_on
      go_big_quiet_want
      go_big_quiet_op
      go_big_quiet_on
      go_big_quiet_want
      refine ⟨.pointer (some ⟨g2, o2 + i, none⟩), fun W hW => ?_, ?_⟩
      · go_simp
      go_big_quiet_on
      simp only [Act.put, List.setIfInBounds_toArray, List.set_cons_zero, List.set_cons_succ]
      go_big_quiet_want
      refine ⟨.string ⟨x.toArray⟩, fun W hW => ?_, ?_⟩
      · have cx := HC2.out W hW
        go_simp
      go_big_quiet_on
      simp only [Act.put, List.setIfInBounds_toArray, List.set_cons_zero, List.set_cons_succ]
      go_big_quiet_want
      refine ⟨.bool false, fun W hW => ?_, ?_⟩
      · go_simp
      go_big_quiet_on
      simp only [Act.put, List.setIfInBounds_toArray, List.set_cons_zero, List.set_cons_succ]
      refine wpQuiet_nil ?_
      intro W5 hW5
      have HB5 : Hid (Below W2.heap.size W2 W5) := bel0Z HBW.out hW5
      clear HC1 HC2 hW5 HBW
      go_wp2_with fail
      exact ⟨⟨i + 1, rfl, by omega, HB5⟩, by simp only [intOf]; omega⟩
    · obtain rfl : i = L.length := by omega
      have HX := unpack_any [49, 58, 97, 48, 58] wr (by decide) (HV.out wr (bel0Z HB2.out HBW.out))
      clear HT1 HT2 hlt hi hLl
      go_wp2_with fail
      refine HX.mono ?_
      rintro e W3 ⟨⟨v3, E3, rfl, hc3⟩, b3⟩
      rcases hc3 with ⟨a, _⟩ | ⟨_, ⟨u, _⟩ | ⟨M, u, rfl, o3⟩⟩
      · simp at a
      · rw [ex_U] at u; cases u
      rw [ex_U] at u
      obtain rfl := Option.some.inj u
      obtain ⟨q3, c3, rfl⟩ := shapeZ o3
      obtain ⟨g, o, rfl, k0⟩ := OS.tr o3 0 [97] rfl
      obtain ⟨g', o', hg, k1⟩ := OS.tr o3 1 [] rfl
      cases hg
      have HB3 : Hid (Below w.heap.size w W3) := bel0Z (bel0Z HB2.out HBW.out) b3
      rw [Nat.add_zero] at k0
      clear o3 b3 u HX HB2
      go_wp2_with fail
      go_ret
      exact ⟨rfl, HB3.out⟩
end Go.Proofs.YtkmnonkabekclaaDoor
