import Derived.Test.YtcejejiomhhpgaaGreatDoorXL2
import Derived.Test.YtcejejiomhhpgaaGreatDoorXS1
namespace Go.Proofs.YtcejejiomhhpgaaGreatDoor
open Go.RowKit Go.Shelf
def PR (b : Int) (l : List UInt8) (B E : Int) (X : (List (List UInt8 × List (List UInt8)))) : Prop := GS B X ∧ E = prE b l ∧ B = prB b l ∧ X = prT b l
theorem opP (b : Int) (l : List UInt8) (W : World) (hl : l.length ≤ maxLen) : Calls Tryz.prog 7 #[.int .i64 b, .string ⟨l.toArray⟩] W fun e w' => ∃ B E X p n c, e = .returned (.tuple #[.agg #[.int .i64 B, .slice p n c, .bool false], .int .i64 E]) ∧ PR b l B E X ∧ SPL w' 0 (.slice p n c) X ∧ Below W.heap.size W w' := by
  refine (sParse_any b l W hl).mono ?_
  rintro e w' ⟨V, e1, e2, e3⟩
  obtain ⟨p, c, rfl⟩ := e2.shape
  exact ⟨_, _, _, p, _, c, e1, ⟨gs_pr b l, rfl, rfl, rfl⟩, e2.base (Nat.zero_le _), e3⟩
theorem pr_bits {b B : Int} {l : List UInt8} {X : (List (List UInt8 × List (List UInt8)))} (h : PR b l B 0 X) : 1 ≤ b ∧ B = b := by
  obtain ⟨-, h1, h2, -⟩ := h
  refine ⟨(prE_zero h1.symm).1, ?_⟩
  rw [h2]
  unfold prB
  rw [if_pos h1.symm]
theorem BX.c3 {W : World} {g : Nat} {B : Int} {p : Option Addr} {n c : Nat} {X : (List (List UInt8 × List (List UInt8)))} (h : BX W g B p n c X) : W.cell? ⟨g, 0, none⟩ = some (.int .i64 B) ∧ W.cell? ⟨g, 1, none⟩ = some (.slice p n c) ∧ W.cell? ⟨g, 2, none⟩ = some (.bool false) := ⟨h.cells 0, h.cells 1, h.cells 2⟩
theorem latJ {b B B2 E : Int} {A C X X2 : (List (List UInt8 × List (List UInt8)))} (r : JR b b A C B E X) (r2 : JR b b C A B2 E X2) (fA : FO A) (fC : FO C) (h : E = 0) : B = B2 ∧ X = X2 := by
  obtain ⟨e1, -, e2⟩ := r.2.2 h
  obtain ⟨e3, -, e4⟩ := r2.2.2 h
  exact ⟨e1.trans e3.symm, by rw [e2, e4]; exact jn_comm fA fC⟩
theorem latM {b B B2 E : Int} {A C X X2 : (List (List UInt8 × List (List UInt8)))} (r : MR b b A C B E X) (r2 : MR b b C A B2 E X2) (fA : FO A) (fC : FO C) (h : E = 0) : B = B2 ∧ X = X2 := by
  obtain ⟨e1, -, e2⟩ := r.2.2 h
  obtain ⟨e3, -, e4⟩ := r2.2.2 h
  exact ⟨e1.trans e3.symm, by rw [e2, e4]; exact mn_comm fA fC⟩
set_option maxRecDepth 100000 in
set_option maxHeartbeats 16000000 in
theorem lattice_walk (b : Int) (l1 l2 l3 : List UInt8) (w : World) (g1 : l1.length ≤ 281474976710656) (g2 : l2.length ≤ 281474976710656) (g3 : l3.length ≤ 281474976710656) : Calls Tryz.prog 5 #[.int .i64 b, .string ⟨l1.toArray⟩, .string ⟨l2.toArray⟩, .string ⟨l3.toArray⟩] w fun e w' => e = .returned (.bool true) ∧ Below w.heap.size w w' := by
  have hl1 : l1.length ≤ maxLen := by unfold maxLen; omega
  have hl2 : l2.length ≤ maxLen := by unfold maxLen; omega
  have hl3 : l3.length ≤ maxLen := by unfold maxLen; omega
  go_enter Tryz.func5, Tryz.ntmps5
  go_wp2_with fail
  refine (awake_any _).mono ?_
  rintro e w1 ⟨rfl, hB⟩
  by_cases j1 : 2000 < l1.length
  · have k1 : (2000 : Int) < (l1.length : Int) := by omega
    go_wp2_with fail
    go_ret
    exact ⟨rfl, hB⟩
  by_cases j2 : 2000 < l2.length
  · have k1 : ¬ (2000 : Int) < (l1.length : Int) := by omega
    have k2 : (2000 : Int) < (l2.length : Int) := by omega
    go_wp2_with fail
    go_ret
    exact ⟨rfl, hB⟩
  by_cases j3 : 2000 < l3.length
  · have k1 : ¬ (2000 : Int) < (l1.length : Int) := by omega
    have k2 : ¬ (2000 : Int) < (l2.length : Int) := by omega
    have k3 : (2000 : Int) < (l3.length : Int) := by omega
    go_wp2_with fail
    go_ret
    exact ⟨rfl, hB⟩
  have k1 : ¬ (2000 : Int) < (l1.length : Int) := by omega
  have k2 : ¬ (2000 : Int) < (l2.length : Int) := by omega
  have k3 : ¬ (2000 : Int) < (l3.length : Int) := by omega
  go_wp2_with fail
  refine (opP b l1 _ hl1).mono ?_
  rintro e w9 ⟨B9, E10, X9, p9, n9, c9, rfl, r9, s9, hb9⟩
  have st := belA hb9 (.cells #[.int .i64 B9, .slice p9 n9 c9, .bool false] 26 (0, 0))
  have x9 := BX.new s9 r9.1
  replace hB := bel0 hB st
  clear st s9 hb9
  clear k1 k2 k3 j1 j2 j3
  go_wp2_with fail
  refine (opP b l2 _ hl2).mono ?_
  rintro e w11 ⟨B11, E12, X11, p11, n11, c11, rfl, r11, s11, hb11⟩
  have st := belA hb11 (.cells #[.int .i64 B11, .slice p11 n11 c11, .bool false] 26 (0, 0))
  have x11 := BX.new s11 r11.1
  replace x9 := x9.later st
  replace hB := bel0 hB st
  clear st s11 hb11
  go_wp2_with fail
  refine (opP b l3 _ hl3).mono ?_
  rintro e w13 ⟨B13, E14, X13, p13, n13, c13, rfl, r13, s13, hb13⟩
  have st := belA hb13 (.cells #[.int .i64 B13, .slice p13 n13 c13, .bool false] 26 (0, 0))
  have x13 := BX.new s13 r13.1
  replace x9 := x9.later st
  replace x11 := x11.later st
  replace hB := bel0 hB st
  clear st s13 hb13
  by_cases h10 : ¬ E10 = 0
  · have e0 : (E10 != 0) = true := by simpa using h10
    clear h10
    go_wp2_with fail
    go_ret
    exact ⟨rfl, hB⟩
  obtain rfl : E10 = 0 := Decidable.not_not.1 h10
  clear h10
  by_cases h12 : ¬ E12 = 0
  · have e0 : (E12 != 0) = true := by simpa using h12
    clear h12
    go_wp2_with fail
    go_ret
    exact ⟨rfl, hB⟩
  obtain rfl : E12 = 0 := Decidable.not_not.1 h12
  clear h12
  by_cases h14 : ¬ E14 = 0
  · have e0 : (E14 != 0) = true := by simpa using h14
    clear h14
    go_wp2_with fail
    go_ret
    exact ⟨rfl, hB⟩
  obtain rfl : E14 = 0 := Decidable.not_not.1 h14
  clear h14
  have hfew : Hid (l1.length < 64 → X9.length ≤ 45) := fun h => by
    rw [r9.2.2.2]
    exact prT_few h
  obtain ⟨h1b, eB9⟩ := pr_bits r9
  obtain ⟨-, eB11⟩ := pr_bits r11
  obtain ⟨-, eB13⟩ := pr_bits r13
  obtain rfl : B9 = b := eB9
  obtain rfl : B9 = B11 := eB11.symm
  obtain rfl : B9 = B13 := eB13.symm
  have H1 : Hid (1 ≤ B9) := h1b
  have HG : Hid (GS B9 X9 ∧ GS B9 X11 ∧ GS B9 X13) := ⟨r9.1, r11.1, r13.1⟩
  clear r9 r11 r13 h1b
  try clear eB11
  try clear eB13
  have f1 := x9.cells
  have f2 := x11.cells
  go_wp2_with fail
  refine (opJ x9 x11).mono ?_
  rintro e w15 ⟨B15, E16, X15, p15, n15, c15, rfl, r15, s15, hb15⟩
  clear f1 f2
  have st := belA hb15 (.cells #[.int .i64 B15, .slice p15 n15 c15, .bool false] 26 (0, 0))
  have x15 := BX.new s15 r15.1
  have hle15 : Hid (w.heap.size ≤ w15.heap.size) := (bel0 hB hb15).size
  have l9_15 : Hid (w9.heap.size ≠ w15.heap.size) := Nat.ne_of_lt (x9.later hb15).lt
  replace x9 := x9.later st
  have l11_15 : Hid (w11.heap.size ≠ w15.heap.size) := Nat.ne_of_lt (x11.later hb15).lt
  replace x11 := x11.later st
  have l13_15 : Hid (w13.heap.size ≠ w15.heap.size) := Nat.ne_of_lt (x13.later hb15).lt
  replace x13 := x13.later st
  replace hB := bel0 hB st
  clear st s15 hb15
  have f1 := x11.cells
  have f2 := x9.cells
  go_wp2_with fail
  refine (opJ x11 x9).mono ?_
  rintro e w17 ⟨B17, E18, X17, p17, n17, c17, rfl, r17, s17, hb17⟩
  clear f1 f2
  have st := belA hb17 (.cells #[.int .i64 B17, .slice p17 n17 c17, .bool false] 26 (0, 0))
  have x17 := BX.new s17 r17.1
  have hle17 : Hid (w.heap.size ≤ w17.heap.size) := (bel0 hB hb17).size
  have l9_17 : Hid (w9.heap.size ≠ w17.heap.size) := Nat.ne_of_lt (x9.later hb17).lt
  replace x9 := x9.later st
  have l11_17 : Hid (w11.heap.size ≠ w17.heap.size) := Nat.ne_of_lt (x11.later hb17).lt
  replace x11 := x11.later st
  have l13_17 : Hid (w13.heap.size ≠ w17.heap.size) := Nat.ne_of_lt (x13.later hb17).lt
  replace x13 := x13.later st
  have l15_17 : Hid (w15.heap.size ≠ w17.heap.size) := Nat.ne_of_lt (x15.later hb17).lt
  replace x15 := x15.later st
  replace hB := bel0 hB st
  clear st s17 hb17
  obtain rfl : E16 = E18 := by rw [r15.2.1, r17.2.1]; exact jnE_comm HG.out.1 HG.out.2.1
  have f1 := x15.cells
  have f2 := x17.cells
  have LT : Hid (E16 = 0 → E16 = 0 → B15 = B17 ∧ X15 = X17) := fun h _ => latJ r15 r17 HG.out.1.1 HG.out.2.1.1 h
  go_wp2_with fail
  refine (alike_any x15 x17 E16 E16 LT.out).mono ?_
  rintro e u15 ⟨rfl, hbz⟩
  clear f1 f2 LT
  replace x9 := x9.later hbz
  replace x11 := x11.later hbz
  replace x13 := x13.later hbz
  replace x15 := x15.later hbz
  replace x17 := x17.later hbz
  replace hB := bel0 hB hbz
  clear hbz
  clear r15 r17
  have f1 := x9.cells
  have f2 := x11.cells
  go_wp2_with fail
  refine (opM x9 x11).mono ?_
  rintro e w15a ⟨B15a, E16a, X15a, p15a, n15a, c15a, rfl, r15a, s15a, hb15a⟩
  clear f1 f2
  replace x9 := x9.later hb15a
  replace x11 := x11.later hb15a
  replace x13 := x13.later hb15a
  replace x15 := x15.later hb15a
  replace x17 := x17.later hb15a
  replace hB := bel0 hB hb15a
  have f3 := x15.cells
  have f4 := x15.froz
  go_upto_region 15 with fail
  clear f3 f4
  have z9 := x9.keep (B := B15a) (p := p15a) (n := n15a) (c := c15a) x15 l9_15.out
  have z11 := x11.keep (B := B15a) (p := p15a) (n := n15a) (c := c15a) x15 l11_15.out
  have z13 := x13.keep (B := B15a) (p := p15a) (n := n15a) (c := c15a) x15 l13_15.out
  have z17 := x17.keep (B := B15a) (p := p15a) (n := n15a) (c := c15a) x15 (Ne.symm l15_17.out)
  have z15 := x15.put s15a r15a.1
  have zB : Below w.heap.size w (((w15a.setCell ⟨w15.heap.size, 0, none⟩ (.int .i64 B15a)).setCell ⟨w15.heap.size, 1, none⟩ (.slice p15a n15a c15a)).setCell ⟨w15.heap.size, 2, none⟩ (.bool false)) := ((hB.setCell hle15.out _).setCell hle15.out _).setCell hle15.out _
  clear x9 x11 x13 x15 x17 hB s15a hb15a
  obtain ⟨v15a, hv⟩ : ∃ v, (((w15a.setCell ⟨w15.heap.size, 0, none⟩ (.int .i64 B15a)).setCell ⟨w15.heap.size, 1, none⟩ (.slice p15a n15a c15a)).setCell ⟨w15.heap.size, 2, none⟩ (.bool false)) = v := ⟨_, rfl⟩
  rw [hv] at z9 z11 z13 z15 z17 zB ⊢
  clear hv
  have x9 := z9
  clear z9
  have x11 := z11
  clear z11
  have x13 := z13
  clear z13
  have x15 := z15
  clear z15
  have x17 := z17
  clear z17
  have hB := zB
  clear zB
  have f1 := x11.cells
  have f2 := x9.cells
  go_wp2_with fail
  refine (opM x11 x9).mono ?_
  rintro e w17a ⟨B17a, E18a, X17a, p17a, n17a, c17a, rfl, r17a, s17a, hb17a⟩
  clear f1 f2
  replace x9 := x9.later hb17a
  replace x11 := x11.later hb17a
  replace x13 := x13.later hb17a
  replace x15 := x15.later hb17a
  replace x17 := x17.later hb17a
  replace hB := bel0 hB hb17a
  have f3 := x17.cells
  have f4 := x17.froz
  go_upto_region 16 with fail
  clear f3 f4
  have z9 := x9.keep (B := B17a) (p := p17a) (n := n17a) (c := c17a) x17 l9_17.out
  have z11 := x11.keep (B := B17a) (p := p17a) (n := n17a) (c := c17a) x17 l11_17.out
  have z13 := x13.keep (B := B17a) (p := p17a) (n := n17a) (c := c17a) x17 l13_17.out
  have z15 := x15.keep (B := B17a) (p := p17a) (n := n17a) (c := c17a) x17 l15_17.out
  have z17 := x17.put s17a r17a.1
  have zB : Below w.heap.size w (((w17a.setCell ⟨w17.heap.size, 0, none⟩ (.int .i64 B17a)).setCell ⟨w17.heap.size, 1, none⟩ (.slice p17a n17a c17a)).setCell ⟨w17.heap.size, 2, none⟩ (.bool false)) := ((hB.setCell hle17.out _).setCell hle17.out _).setCell hle17.out _
  clear x9 x11 x13 x15 x17 hB s17a hb17a
  obtain ⟨v17a, hv⟩ : ∃ v, (((w17a.setCell ⟨w17.heap.size, 0, none⟩ (.int .i64 B17a)).setCell ⟨w17.heap.size, 1, none⟩ (.slice p17a n17a c17a)).setCell ⟨w17.heap.size, 2, none⟩ (.bool false)) = v := ⟨_, rfl⟩
  rw [hv] at z9 z11 z13 z15 z17 zB ⊢
  clear hv
  have x9 := z9
  clear z9
  have x11 := z11
  clear z11
  have x13 := z13
  clear z13
  have x15 := z15
  clear z15
  have x17 := z17
  clear z17
  have hB := zB
  clear zB
  obtain rfl : E16a = E18a := by rw [r15a.2.1, r17a.2.1]; exact mnE_comm HG.out.1 HG.out.2.1
  have f1 := x15.cells
  have f2 := x17.cells
  have LT : Hid (E16a = 0 → E16a = 0 → B15a = B17a ∧ X15a = X17a) := fun h _ => latM r15a r17a HG.out.1.1 HG.out.2.1.1 h
  go_wp2_with fail
  refine (alike_any x15 x17 E16a E16a LT.out).mono ?_
  rintro e u15a ⟨rfl, hbz⟩
  clear f1 f2 LT
  replace x9 := x9.later hbz
  replace x11 := x11.later hbz
  replace x13 := x13.later hbz
  replace x15 := x15.later hbz
  replace x17 := x17.later hbz
  replace hB := bel0 hB hbz
  clear hbz
  clear r15a r17a
  have f1 := x9.cells
  go_wp2_with fail
  refine (opJ x9 x9).mono ?_
  rintro e w15b ⟨B15b, E16b, X15b, p15b, n15b, c15b, rfl, r15b, s15b, hb15b⟩
  clear f1
  replace x9 := x9.later hb15b
  replace x11 := x11.later hb15b
  replace x13 := x13.later hb15b
  replace x15 := x15.later hb15b
  replace x17 := x17.later hb15b
  replace hB := bel0 hB hb15b
  have f3 := x15.cells
  have f4 := x15.froz
  go_upto_region 19 with fail
  clear f3 f4
  have z9 := x9.keep (B := B15b) (p := p15b) (n := n15b) (c := c15b) x15 l9_15.out
  have z11 := x11.keep (B := B15b) (p := p15b) (n := n15b) (c := c15b) x15 l11_15.out
  have z13 := x13.keep (B := B15b) (p := p15b) (n := n15b) (c := c15b) x15 l13_15.out
  have z17 := x17.keep (B := B15b) (p := p15b) (n := n15b) (c := c15b) x15 (Ne.symm l15_17.out)
  have z15 := x15.put s15b r15b.1
  have zB : Below w.heap.size w (((w15b.setCell ⟨w15.heap.size, 0, none⟩ (.int .i64 B15b)).setCell ⟨w15.heap.size, 1, none⟩ (.slice p15b n15b c15b)).setCell ⟨w15.heap.size, 2, none⟩ (.bool false)) := ((hB.setCell hle15.out _).setCell hle15.out _).setCell hle15.out _
  clear x9 x11 x13 x15 x17 hB s15b hb15b
  obtain ⟨v15b, hv⟩ : ∃ v, (((w15b.setCell ⟨w15.heap.size, 0, none⟩ (.int .i64 B15b)).setCell ⟨w15.heap.size, 1, none⟩ (.slice p15b n15b c15b)).setCell ⟨w15.heap.size, 2, none⟩ (.bool false)) = v := ⟨_, rfl⟩
  rw [hv] at z9 z11 z13 z15 z17 zB ⊢
  clear hv
  have x9 := z9
  clear z9
  have x11 := z11
  clear z11
  have x13 := z13
  clear z13
  have x15 := z15
  clear z15
  have x17 := z17
  clear z17
  have hB := zB
  clear zB
  have f1 := x9.cells
  go_wp2_with fail
  refine (opM x9 x9).mono ?_
  rintro e w17b ⟨B17b, E18b, X17b, p17b, n17b, c17b, rfl, r17b, s17b, hb17b⟩
  clear f1
  replace x9 := x9.later hb17b
  replace x11 := x11.later hb17b
  replace x13 := x13.later hb17b
  replace x15 := x15.later hb17b
  replace x17 := x17.later hb17b
  replace hB := bel0 hB hb17b
  have f3 := x17.cells
  have f4 := x17.froz
  go_upto_region 20 with fail
  clear f3 f4
  have z9 := x9.keep (B := B17b) (p := p17b) (n := n17b) (c := c17b) x17 l9_17.out
  have z11 := x11.keep (B := B17b) (p := p17b) (n := n17b) (c := c17b) x17 l11_17.out
  have z13 := x13.keep (B := B17b) (p := p17b) (n := n17b) (c := c17b) x17 l13_17.out
  have z15 := x15.keep (B := B17b) (p := p17b) (n := n17b) (c := c17b) x17 l15_17.out
  have z17 := x17.put s17b r17b.1
  have zB : Below w.heap.size w (((w17b.setCell ⟨w17.heap.size, 0, none⟩ (.int .i64 B17b)).setCell ⟨w17.heap.size, 1, none⟩ (.slice p17b n17b c17b)).setCell ⟨w17.heap.size, 2, none⟩ (.bool false)) := ((hB.setCell hle17.out _).setCell hle17.out _).setCell hle17.out _
  clear x9 x11 x13 x15 x17 hB s17b hb17b
  obtain ⟨v17b, hv⟩ : ∃ v, (((w17b.setCell ⟨w17.heap.size, 0, none⟩ (.int .i64 B17b)).setCell ⟨w17.heap.size, 1, none⟩ (.slice p17b n17b c17b)).setCell ⟨w17.heap.size, 2, none⟩ (.bool false)) = v := ⟨_, rfl⟩
  rw [hv] at z9 z11 z13 z15 z17 zB ⊢
  clear hv
  have x9 := z9
  clear z9
  have x11 := z11
  clear z11
  have x13 := z13
  clear z13
  have x15 := z15
  clear z15
  have x17 := z17
  clear z17
  have hB := zB
  clear zB
  obtain rfl : E16b = 0 := by rw [r15b.2.1]; exact jnE_self H1.out HG.out.1
  obtain ⟨-, -, hXX⟩ := r15b.2.2 rfl
  rw [jn_idem HG.out.1.1] at hXX
  obtain rfl : X9 = X15b := hXX.symm
  have HE : Hid (l1.length < 64 → E18b = 0) := fun h => by
    rw [r17b.2.1]
    exact mnE_self H1.out HG.out.1 (hfew.out h)
  have LT : Hid (E18b = 0 → (0 : Int) = 0 → B17b = B9 ∧ X17b = X9) := fun h _ => by
    obtain ⟨e1, -, e2⟩ := r17b.2.2 h
    rw [mn_idem HG.out.1.1] at e2
    exact ⟨e1, e2⟩
  have HZ : Hid (szC X9 ≤ 128 ∧ gdC X9) := ⟨HG.out.1.2.1, HG.out.1.gd⟩
  clear r15b r17b hfew
  go_wp2_with fail
  by_cases hE : E18b = 0
  · subst hE
    refine quiet_lit3 (C := fun W => Below v17b.heap.size v17b W) (by kernel_rfl) (by kernel_rfl) (show Below _ _ _ from (Below.refl _ _).drew) ?_
    go_big_quiet_want
    go_big_quiet_op
    go_big_quiet_on
    go_big_quiet_want
    refine ⟨.bool false, fun W hW => ?_, ?_⟩
    · go_simp
    go_big_quiet_on
    simp only [Act.put, List.setIfInBounds_toArray, List.set_cons_zero, List.set_cons_succ]
    go_big_quiet_want
    go_big_quiet_op
    go_big_quiet_on
    go_big_quiet_want
    refine ⟨.agg #[.int .i64 B15b, .slice p15b n15b c15b, .bool false], fun W hW => ?_, ?_⟩
    · obtain ⟨q0, q1, q2⟩ := (x15.later hW).c3
      go_simp
    go_big_quiet_on
    simp only [Act.put, List.setIfInBounds_toArray, List.set_cons_zero, List.set_cons_succ]
    go_big_quiet_want
    refine ⟨.string ⟨(txC X9).toArray⟩, fun W hW => ?_, ?_⟩
    · go_simp
      refine (spText_any B15b _ X9 0 W (x15.later hW).2.1 HZ.out.1 HZ.out.2).mono ?_
      rintro e w7 ⟨rfl, hb⟩
      exact ⟨rfl, bel0 hW hb⟩
    go_big_quiet_on
    simp only [Act.put, List.setIfInBounds_toArray, List.set_cons_zero, List.set_cons_succ]
    go_big_quiet_want
    refine ⟨.agg #[.int .i64 B9, .slice p9 n9 c9, .bool false], fun W hW => ?_, ?_⟩
    · obtain ⟨q0, q1, q2⟩ := (x9.later hW).c3
      go_simp
    go_big_quiet_on
    simp only [Act.put, List.setIfInBounds_toArray, List.set_cons_zero, List.set_cons_succ]
    go_big_quiet_want
    refine ⟨.string ⟨(txC X9).toArray⟩, fun W hW => ?_, ?_⟩
    · go_simp
      refine (spText_any B9 _ X9 0 W (x9.later hW).2.1 HZ.out.1 HZ.out.2).mono ?_
      rintro e w7 ⟨rfl, hb⟩
      exact ⟨rfl, bel0 hW hb⟩
    go_big_quiet_on
    simp only [Act.put, List.setIfInBounds_toArray, List.set_cons_zero, List.set_cons_succ]
    go_big_quiet_want
    refine ⟨.bool false, fun W hW => ?_, ?_⟩
    · go_simp
    go_big_quiet_on
    simp only [Act.put, List.setIfInBounds_toArray, List.set_cons_zero, List.set_cons_succ]
    go_big_quiet_want
    refine ⟨.bool false, fun W hW => ?_, ?_⟩
    · go_simp
    go_big_quiet_on
    simp only [Act.put, List.setIfInBounds_toArray, List.set_cons_zero, List.set_cons_succ]
    go_big_quiet_want
    go_big_quiet_op
    go_big_quiet_on
    go_big_quiet_want
    go_big_quiet_op
    go_big_quiet_on
    go_big_quiet_want
    refine ⟨.bool false, fun W hW => ?_, ?_⟩
    · go_simp
    go_big_quiet_on
    simp only [Act.put, List.setIfInBounds_toArray, List.set_cons_zero, List.set_cons_succ]
    go_big_quiet_want
    go_big_quiet_op
    go_big_quiet_on
    go_big_quiet_skip
    go_big_quiet_skip
    go_big_quiet_skip
    go_big_quiet_want
    refine ⟨.bool false, fun W hW => ?_, ?_⟩
    · go_simp
    go_big_quiet_on
    simp only [Act.put, List.setIfInBounds_toArray, List.set_cons_zero, List.set_cons_succ]
    go_big_quiet_want
    refine ⟨.bool false, fun W hW => ?_, ?_⟩
    · go_simp
    go_big_quiet_on
    simp only [Act.put, List.setIfInBounds_toArray, List.set_cons_zero, List.set_cons_succ]
    go_big_quiet_want
    go_big_quiet_op
    go_big_quiet_on
    go_big_quiet_want
    refine ⟨.agg #[.int .i64 B17b, .slice p17b n17b c17b, .bool false], fun W hW => ?_, ?_⟩
    · obtain ⟨q0, q1, q2⟩ := (x17.later hW).c3
      go_simp
    go_big_quiet_on
    simp only [Act.put, List.setIfInBounds_toArray, List.set_cons_zero, List.set_cons_succ]
    go_big_quiet_want
    go_big_quiet_op
    go_big_quiet_on
    go_big_quiet_want
    refine ⟨.agg #[.int .i64 B9, .slice p9 n9 c9, .bool false], fun W hW => ?_, ?_⟩
    · obtain ⟨q0, q1, q2⟩ := (x9.later hW).c3
      go_simp
    go_big_quiet_on
    simp only [Act.put, List.setIfInBounds_toArray, List.set_cons_zero, List.set_cons_succ]
    go_big_quiet_want
    refine ⟨.bool true, fun W hW => ?_, ?_⟩
    · go_simp
      refine (alike_any (x17.later hW) (x9.later hW) 0 0 (fun h _ => LT.out h (by trivial))).mono ?_
      rintro e w7 ⟨rfl, hb⟩
      exact ⟨rfl, bel0 hW hb⟩
    go_big_quiet_on
    simp only [Act.put, List.setIfInBounds_toArray, List.set_cons_zero, List.set_cons_succ]
    go_big_quiet_want
    refine ⟨.bool false, fun W hW => ?_, ?_⟩
    · go_simp
    go_big_quiet_on
    simp only [Act.put, List.setIfInBounds_toArray, List.set_cons_zero, List.set_cons_succ]
    go_big_quiet_want
    refine ⟨.bool false, fun W hW => ?_, ?_⟩
    · go_simp
    go_big_quiet_on
    simp only [Act.put, List.setIfInBounds_toArray, List.set_cons_zero, List.set_cons_succ]
    refine wpQuiet_nil ?_
    intro W hW
    have y9 := x9.later hW
    have y11 := x11.later hW
    have y13 := x13.later hW
    have f1 := y9.cells
    have f2 := y11.cells
    have f3 := y13.cells
    have HQ : Hid (Below w.heap.size w W) := bel0 hB hW
    clear hW x9 x11 x13 x15 x17 hB
    go_wp2_with fail
    refine (grouped_any y9 y11 y13).mono ?_
    rintro e wz ⟨rfl, hbz⟩
    go_wp2_with fail
    go_ret
    exact ⟨rfl, bel0 HQ.out hbz⟩
  · have e0 : (E18b != 0) = true := by simpa using hE
    have k6 : ¬ (l1.length : Int) < 64 := fun h => hE (HE.out (by omega))
    clear hE HE
    refine quiet_lit3 (C := fun W => Below v17b.heap.size v17b W) (by kernel_rfl) (by kernel_rfl) (show Below _ _ _ from (Below.refl _ _).drew) ?_
    go_big_quiet_want
    go_big_quiet_op
    go_big_quiet_on
    go_big_quiet_want
    refine ⟨.bool false, fun W hW => ?_, ?_⟩
    · go_simp
    go_big_quiet_on
    simp only [Act.put, List.setIfInBounds_toArray, List.set_cons_zero, List.set_cons_succ]
    go_big_quiet_want
    go_big_quiet_op
    go_big_quiet_on
    go_big_quiet_want
    refine ⟨.agg #[.int .i64 B15b, .slice p15b n15b c15b, .bool false], fun W hW => ?_, ?_⟩
    · obtain ⟨q0, q1, q2⟩ := (x15.later hW).c3
      go_simp
    go_big_quiet_on
    simp only [Act.put, List.setIfInBounds_toArray, List.set_cons_zero, List.set_cons_succ]
    go_big_quiet_want
    refine ⟨.string ⟨(txC X9).toArray⟩, fun W hW => ?_, ?_⟩
    · go_simp
      refine (spText_any B15b _ X9 0 W (x15.later hW).2.1 HZ.out.1 HZ.out.2).mono ?_
      rintro e w7 ⟨rfl, hb⟩
      exact ⟨rfl, bel0 hW hb⟩
    go_big_quiet_on
    simp only [Act.put, List.setIfInBounds_toArray, List.set_cons_zero, List.set_cons_succ]
    go_big_quiet_want
    refine ⟨.agg #[.int .i64 B9, .slice p9 n9 c9, .bool false], fun W hW => ?_, ?_⟩
    · obtain ⟨q0, q1, q2⟩ := (x9.later hW).c3
      go_simp
    go_big_quiet_on
    simp only [Act.put, List.setIfInBounds_toArray, List.set_cons_zero, List.set_cons_succ]
    go_big_quiet_want
    refine ⟨.string ⟨(txC X9).toArray⟩, fun W hW => ?_, ?_⟩
    · go_simp
      refine (spText_any B9 _ X9 0 W (x9.later hW).2.1 HZ.out.1 HZ.out.2).mono ?_
      rintro e w7 ⟨rfl, hb⟩
      exact ⟨rfl, bel0 hW hb⟩
    go_big_quiet_on
    simp only [Act.put, List.setIfInBounds_toArray, List.set_cons_zero, List.set_cons_succ]
    go_big_quiet_want
    refine ⟨.bool false, fun W hW => ?_, ?_⟩
    · go_simp
    go_big_quiet_on
    simp only [Act.put, List.setIfInBounds_toArray, List.set_cons_zero, List.set_cons_succ]
    go_big_quiet_want
    refine ⟨.bool false, fun W hW => ?_, ?_⟩
    · go_simp
    go_big_quiet_on
    simp only [Act.put, List.setIfInBounds_toArray, List.set_cons_zero, List.set_cons_succ]
    go_big_quiet_want
    go_big_quiet_op
    go_big_quiet_on
    go_big_quiet_want
    go_big_quiet_op
    go_big_quiet_on
    go_big_quiet_want
    refine ⟨.bool true, fun W hW => ?_, ?_⟩
    · go_simp
    go_big_quiet_on
    simp only [Act.put, List.setIfInBounds_toArray, List.set_cons_zero, List.set_cons_succ]
    go_big_quiet_want
    go_big_quiet_op
    go_big_quiet_on
    go_big_quiet_want
    go_big_quiet_op
    go_big_quiet_on
    go_big_quiet_want
    refine ⟨.int .i64 (l1.length : Int), fun W hW => ?_, ?_⟩
    · go_simp
    go_big_quiet_on
    simp only [Act.put, List.setIfInBounds_toArray, List.set_cons_zero, List.set_cons_succ]
    go_big_quiet_want
    refine ⟨.bool false, fun W hW => ?_, ?_⟩
    · go_simp
    go_big_quiet_on
    simp only [Act.put, List.setIfInBounds_toArray, List.set_cons_zero, List.set_cons_succ]
    go_big_quiet_want
    refine ⟨.bool false, fun W hW => ?_, ?_⟩
    · go_simp
    go_big_quiet_on
    simp only [Act.put, List.setIfInBounds_toArray, List.set_cons_zero, List.set_cons_succ]
    go_big_quiet_want
    refine ⟨.bool false, fun W hW => ?_, ?_⟩
    · go_simp
    go_big_quiet_on
    simp only [Act.put, List.setIfInBounds_toArray, List.set_cons_zero, List.set_cons_succ]
    go_big_quiet_want
    go_big_quiet_op
    go_big_quiet_on
    go_big_quiet_want
    refine ⟨.agg #[.int .i64 B17b, .slice p17b n17b c17b, .bool false], fun W hW => ?_, ?_⟩
    · obtain ⟨q0, q1, q2⟩ := (x17.later hW).c3
      go_simp
    go_big_quiet_on
    simp only [Act.put, List.setIfInBounds_toArray, List.set_cons_zero, List.set_cons_succ]
    go_big_quiet_want
    go_big_quiet_op
    go_big_quiet_on
    go_big_quiet_want
    refine ⟨.agg #[.int .i64 B9, .slice p9 n9 c9, .bool false], fun W hW => ?_, ?_⟩
    · obtain ⟨q0, q1, q2⟩ := (x9.later hW).c3
      go_simp
    go_big_quiet_on
    simp only [Act.put, List.setIfInBounds_toArray, List.set_cons_zero, List.set_cons_succ]
    go_big_quiet_want
    refine ⟨.bool true, fun W hW => ?_, ?_⟩
    · go_simp
      refine (alike_any (x17.later hW) (x9.later hW) E18b 0 (fun h _ => LT.out h (by trivial))).mono ?_
      rintro e w7 ⟨rfl, hb⟩
      exact ⟨rfl, bel0 hW hb⟩
    go_big_quiet_on
    simp only [Act.put, List.setIfInBounds_toArray, List.set_cons_zero, List.set_cons_succ]
    go_big_quiet_want
    refine ⟨.bool false, fun W hW => ?_, ?_⟩
    · go_simp
    go_big_quiet_on
    simp only [Act.put, List.setIfInBounds_toArray, List.set_cons_zero, List.set_cons_succ]
    go_big_quiet_want
    refine ⟨.bool false, fun W hW => ?_, ?_⟩
    · go_simp
    go_big_quiet_on
    simp only [Act.put, List.setIfInBounds_toArray, List.set_cons_zero, List.set_cons_succ]
    refine wpQuiet_nil ?_
    intro W hW
    have y9 := x9.later hW
    have y11 := x11.later hW
    have y13 := x13.later hW
    have f1 := y9.cells
    have f2 := y11.cells
    have f3 := y13.cells
    have HQ : Hid (Below w.heap.size w W) := bel0 hB hW
    clear hW x9 x11 x13 x15 x17 hB
    go_wp2_with fail
    refine (grouped_any y9 y11 y13).mono ?_
    rintro e wz ⟨rfl, hbz⟩
    go_wp2_with fail
    go_ret
    exact ⟨rfl, bel0 HQ.out hbz⟩
end Go.Proofs.YtcejejiomhhpgaaGreatDoor
