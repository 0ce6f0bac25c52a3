import Derived.Test.YtcejejiomhhpgaaGreatDoorXL1
namespace Go.Proofs.YtcejejiomhhpgaaGreatDoor
open Go.RowKit Go.Shelf
section
variable {b B7 B9 B11 B13 B15 B17 B19 B21 B23 B25 B27 B29 B31 B33 E8 E10 E12 E14 E16 E18 E20 E22 E24 E26 E28 E30 E32 E34 : Int} {A C D X7 X9 X11 X13 X15 X17 X19 X21 X23 X25 X27 X29 X31 X33 : (List (List UInt8 × List (List UInt8)))}
theorem lat1 (r7 : JR b b A C B7 E8 X7) (r9 : JR b b C D B9 E10 X9) (r11 : JR B7 b X7 D B11 E12 X11) (r13 : JR b B9 A X9 B13 E14 X13) (fA : FO A) (fC : FO C) (fD : FO D) (h8 : E8 = 0) (h10 : E10 = 0) : E12 = 0 → E14 = 0 → B11 = B13 ∧ X11 = X13 := fun h12 h14 => by
  obtain ⟨rfl, -, rfl⟩ := r7.2.2 h8
  obtain ⟨rfl, -, rfl⟩ := r9.2.2 h10
  obtain ⟨rfl, -, rfl⟩ := r11.2.2 h12
  obtain ⟨e, -, rfl⟩ := r13.2.2 h14
  exact ⟨e.symm, jn_assoc fA fC fD⟩
theorem lat2 (r15 : MR b b A C B15 E16 X15) (r17 : MR b b C D B17 E18 X17) (r19 : MR B15 b X15 D B19 E20 X19) (r21 : MR b B17 A X17 B21 E22 X21) (fA : FO A) (fC : FO C) (fD : FO D) (h8 : E16 = 0) (h10 : E18 = 0) : E20 = 0 → E22 = 0 → B19 = B21 ∧ X19 = X21 := fun h12 h14 => by
  obtain ⟨rfl, -, rfl⟩ := r15.2.2 h8
  obtain ⟨rfl, -, rfl⟩ := r17.2.2 h10
  obtain ⟨rfl, -, rfl⟩ := r19.2.2 h12
  obtain ⟨e, -, rfl⟩ := r21.2.2 h14
  exact ⟨e.symm, mn_assoc fA fC fD⟩
theorem lat3 (r9 : JR b b C D B9 E10 X9) (r15 : MR b b A C B15 E16 X15) (r23 : MR b b A D B23 E24 X23) (r25 : MR b B9 A X9 B25 E26 X25) (r27 : JR B15 B23 X15 X23 B27 E28 X27) (fA : FO A) (fC : FO C) (fD : FO D) (h10 : E10 = 0) (h16 : E16 = 0) (h24 : E24 = 0) : E26 = 0 → E28 = 0 → B25 = B27 ∧ X25 = X27 := fun h26 h28 => by
  obtain ⟨rfl, -, rfl⟩ := r9.2.2 h10
  obtain ⟨rfl, -, rfl⟩ := r15.2.2 h16
  obtain ⟨e2, -, rfl⟩ := r23.2.2 h24
  obtain ⟨e3, -, rfl⟩ := r25.2.2 h26
  obtain ⟨e4, -, rfl⟩ := r27.2.2 h28
  exact ⟨e3.trans e4.symm, mn_jn fA fC fD⟩
theorem lat4 (r7 : JR b b A C B7 E8 X7) (r17 : MR b b C D B17 E18 X17) (r29 : JR b B17 A X17 B29 E30 X29) (r31 : JR b b A D B31 E32 X31) (r33 : MR B7 B31 X7 X31 B33 E34 X33) (fA : FO A) (fC : FO C) (fD : FO D) (h18 : E18 = 0) (h8 : E8 = 0) (h32 : E32 = 0) : E30 = 0 → E34 = 0 → B29 = B33 ∧ X29 = X33 := fun h30 h34 => by
  obtain ⟨rfl, -, rfl⟩ := r7.2.2 h8
  obtain ⟨rfl, -, rfl⟩ := r17.2.2 h18
  obtain ⟨e2, -, rfl⟩ := r31.2.2 h32
  obtain ⟨e3, -, rfl⟩ := r29.2.2 h30
  obtain ⟨e4, -, rfl⟩ := r33.2.2 h34
  exact ⟨e3.trans e4.symm, jn_mn fA fC fD⟩
end
set_option maxRecDepth 100000 in
set_option maxHeartbeats 16000000 in
theorem grouped_any {w : World} {g3 g4 g5 : Nat} {B3 : Int} {p3 p4 p5 : Option Addr} {n3 c3 n4 c4 n5 c5 : Nat} {X3 X4 X5 : (List (List UInt8 × List (List UInt8)))} (y3 : BX w g3 B3 p3 n3 c3 X3) (y4 : BX w g4 B3 p4 n4 c4 X4) (y5 : BX w g5 B3 p5 n5 c5 X5) : Calls Tryz.prog 19 #[.agg #[.int .i64 B3, .slice p3 n3 c3, .bool false], .agg #[.int .i64 B3, .slice p4 n4 c4, .bool false], .agg #[.int .i64 B3, .slice p5 n5 c5, .bool false]] w fun e w' => e = .returned (.bool true) ∧ Below w.heap.size w w' := by
  have hB : Below w.heap.size w (((w.alloc (.cells #[.int .i64 B3, .slice p3 n3 c3, .bool false] 26 (0, 0))).alloc (.cells #[.int .i64 B3, .slice p4 n4 c4, .bool false] 26 (0, 0))).alloc (.cells #[.int .i64 B3, .slice p5 n5 c5, .bool false] 26 (0, 0))) := belA (belA (belA (Below.refl _ _) _) _) _
  have x3 : BX (((w.alloc (.cells #[.int .i64 B3, .slice p3 n3 c3, .bool false] 26 (0, 0))).alloc (.cells #[.int .i64 B3, .slice p4 n4 c4, .bool false] 26 (0, 0))).alloc (.cells #[.int .i64 B3, .slice p5 n5 c5, .bool false] 26 (0, 0))) w.heap.size B3 p3 n3 c3 X3 := ⟨allocblk3 (allocblk3 (alloc_get _ _) _) _, y3.2.1.below hB, y3.2.2⟩
  have x4 : BX (((w.alloc (.cells #[.int .i64 B3, .slice p3 n3 c3, .bool false] 26 (0, 0))).alloc (.cells #[.int .i64 B3, .slice p4 n4 c4, .bool false] 26 (0, 0))).alloc (.cells #[.int .i64 B3, .slice p5 n5 c5, .bool false] 26 (0, 0))) (w.heap.size + 1) B3 p4 n4 c4 X4 := ⟨allocblk3 (alloc_get1 _ _ _) _, y4.2.1.below hB, y4.2.2⟩
  have x5 : BX (((w.alloc (.cells #[.int .i64 B3, .slice p3 n3 c3, .bool false] 26 (0, 0))).alloc (.cells #[.int .i64 B3, .slice p4 n4 c4, .bool false] 26 (0, 0))).alloc (.cells #[.int .i64 B3, .slice p5 n5 c5, .bool false] 26 (0, 0))) (w.heap.size + 1 + 1) B3 p5 n5 c5 X5 := ⟨(by have h := alloc_get ((w.alloc (.cells #[.int .i64 B3, .slice p3 n3 c3, .bool false] 26 (0, 0))).alloc (.cells #[.int .i64 B3, .slice p4 n4 c4, .bool false] 26 (0, 0))) (.cells #[.int .i64 B3, .slice p5 n5 c5, .bool false] 26 (0, 0)); simpa using h), y5.2.1.below hB, y5.2.2⟩
  have fA : FO X3 := y3.2.2.1
  have fC : FO X4 := y4.2.2.1
  have fD : FO X5 := y5.2.2.1
  clear y3 y4 y5
  go_enter Tryz.func19, Tryz.ntmps19
  have f1 := x3.cells
  have f2 := x4.cells
  go_wp2_with fail
  refine (opJ x3 x4).mono ?_
  rintro e w7 ⟨B7, E8, X7, p7, n7, c7, rfl, r7, s7, hb7⟩
  clear f1 f2
  have st := belA hb7 (.cells #[.int .i64 B7, .slice p7 n7 c7, .bool false] 26 (0, 0))
  have x7 := BX.new s7 r7.1
  replace x3 := x3.later st
  replace x4 := x4.later st
  replace x5 := x5.later st
  replace hB := bel0 hB st
  clear st s7 hb7
  have f1 := x4.cells
  have f2 := x5.cells
  go_wp2_with fail
  refine (opJ x4 x5).mono ?_
  rintro e w9 ⟨B9, E10, X9, p9, n9, c9, rfl, r9, s9, hb9⟩
  clear f1 f2
  have st := belA hb9 (.cells #[.int .i64 B9, .slice p9 n9 c9, .bool false] 26 (0, 0))
  have x9 := BX.new s9 r9.1
  replace x3 := x3.later st
  replace x4 := x4.later st
  replace x5 := x5.later st
  replace x7 := x7.later st
  replace hB := bel0 hB st
  clear st s9 hb9
  have f1 := x7.cells
  have f2 := x5.cells
  go_wp2_with fail
  refine (opJ x7 x5).mono ?_
  rintro e w11 ⟨B11, E12, X11, p11, n11, c11, rfl, r11, s11, hb11⟩
  clear f1 f2
  have st := belA hb11 (.cells #[.int .i64 B11, .slice p11 n11 c11, .bool false] 26 (0, 0))
  have x11 := BX.new s11 r11.1
  replace x3 := x3.later st
  replace x4 := x4.later st
  replace x5 := x5.later st
  replace x7 := x7.later st
  replace x9 := x9.later st
  replace hB := bel0 hB st
  clear st s11 hb11
  have f1 := x3.cells
  have f2 := x9.cells
  go_wp2_with fail
  refine (opJ x3 x9).mono ?_
  rintro e w13 ⟨B13, E14, X13, p13, n13, c13, rfl, r13, s13, hb13⟩
  clear f1 f2
  have st := belA hb13 (.cells #[.int .i64 B13, .slice p13 n13 c13, .bool false] 26 (0, 0))
  have x13 := BX.new s13 r13.1
  replace x3 := x3.later st
  replace x4 := x4.later st
  replace x5 := x5.later st
  replace x7 := x7.later st
  replace x9 := x9.later st
  replace x11 := x11.later st
  replace hB := bel0 hB st
  clear st s13 hb13
  go_upto_region 5 with fail
  go_cut [72] (fun v wc => v = .bool false ∧ Hid (Below (w13.alloc (.cells #[.int .i64 B13, .slice p13 n13 c13, .bool false] 26 (0, 0))).heap.size (w13.alloc (.cells #[.int .i64 B13, .slice p13 n13 c13, .bool false] 26 (0, 0))) wc))
  case first =>
    by_cases h8 : E8 = 0
    · subst h8
      by_cases h10 : E10 = 0
      · subst h10
        have f1 := x11.cells
        have f2 := x13.cells
        have LT : Hid (E12 = 0 → E14 = 0 → B11 = B13 ∧ X11 = X13) := lat1 r7 r9 r11 r13 fA fC fD rfl rfl
        go_wp2_with fail
        refine (alike_any x11 x13 E12 E14 LT.out).mono ?_
        rintro e wz ⟨rfl, hbz⟩
        go_wp2_with fail
        go_meet
        exact ⟨rfl, hbz⟩
      · have e0 : (E10 == 0) = false := by simpa using h10
        clear h10
        go_wp2_with fail
        go_meet
        exact ⟨rfl, Below.refl _ _⟩
    · have e0 : (E8 == 0) = false := by simpa using h8
      clear h8
      go_wp2_with fail
      go_meet
      exact ⟨rfl, Below.refl _ _⟩
  case rest =>
    obtain ⟨rfl, hz⟩ := hcut
    rename World => v1
    replace x3 := x3.later hz.out
    replace x4 := x4.later hz.out
    replace x5 := x5.later hz.out
    replace x7 := x7.later hz.out
    replace x9 := x9.later hz.out
    replace x11 := x11.later hz.out
    replace x13 := x13.later hz.out
    replace hB := bel0 hB hz.out
    clear hz
    clear r11 r13
    clear x11
    clear x13
    have f1 := x3.cells
    have f2 := x4.cells
    go_wp2_with fail
    refine (opM x3 x4).mono ?_
    rintro e w15 ⟨B15, E16, X15, p15, n15, c15, rfl, r15, s15, hb15⟩
    clear f1 f2
    have st := belA hb15 (.cells #[.int .i64 B15, .slice p15 n15 c15, .bool false] 26 (0, 0))
    have x15 := BX.new s15 r15.1
    replace x3 := x3.later st
    replace x4 := x4.later st
    replace x5 := x5.later st
    replace x7 := x7.later st
    replace x9 := x9.later st
    replace hB := bel0 hB st
    clear st s15 hb15
    have f1 := x4.cells
    have f2 := x5.cells
    go_wp2_with fail
    refine (opM x4 x5).mono ?_
    rintro e w17 ⟨B17, E18, X17, p17, n17, c17, rfl, r17, s17, hb17⟩
    clear f1 f2
    have st := belA hb17 (.cells #[.int .i64 B17, .slice p17 n17 c17, .bool false] 26 (0, 0))
    have x17 := BX.new s17 r17.1
    replace x3 := x3.later st
    replace x4 := x4.later st
    replace x5 := x5.later st
    replace x7 := x7.later st
    replace x9 := x9.later st
    replace x15 := x15.later st
    replace hB := bel0 hB st
    clear st s17 hb17
    have f1 := x15.cells
    have f2 := x5.cells
    go_wp2_with fail
    refine (opM x15 x5).mono ?_
    rintro e w19 ⟨B19, E20, X19, p19, n19, c19, rfl, r19, s19, hb19⟩
    clear f1 f2
    have st := belA hb19 (.cells #[.int .i64 B19, .slice p19 n19 c19, .bool false] 26 (0, 0))
    have x19 := BX.new s19 r19.1
    replace x3 := x3.later st
    replace x4 := x4.later st
    replace x5 := x5.later st
    replace x7 := x7.later st
    replace x9 := x9.later st
    replace x15 := x15.later st
    replace x17 := x17.later st
    replace hB := bel0 hB st
    clear st s19 hb19
    have f1 := x3.cells
    have f2 := x17.cells
    go_wp2_with fail
    refine (opM x3 x17).mono ?_
    rintro e w21 ⟨B21, E22, X21, p21, n21, c21, rfl, r21, s21, hb21⟩
    clear f1 f2
    have st := belA hb21 (.cells #[.int .i64 B21, .slice p21 n21 c21, .bool false] 26 (0, 0))
    have x21 := BX.new s21 r21.1
    replace x3 := x3.later st
    replace x4 := x4.later st
    replace x5 := x5.later st
    replace x7 := x7.later st
    replace x9 := x9.later st
    replace x15 := x15.later st
    replace x17 := x17.later st
    replace x19 := x19.later st
    replace hB := bel0 hB st
    clear st s21 hb21
    go_upto_region 11 with fail
    go_cut [110] (fun v wc => v = .bool false ∧ Hid (Below (w21.alloc (.cells #[.int .i64 B21, .slice p21 n21 c21, .bool false] 26 (0, 0))).heap.size (w21.alloc (.cells #[.int .i64 B21, .slice p21 n21 c21, .bool false] 26 (0, 0))) wc))
    case first =>
      by_cases h16 : E16 = 0
      · subst h16
        by_cases h18 : E18 = 0
        · subst h18
          have f1 := x19.cells
          have f2 := x21.cells
          have LT : Hid (E20 = 0 → E22 = 0 → B19 = B21 ∧ X19 = X21) := lat2 r15 r17 r19 r21 fA fC fD rfl rfl
          go_wp2_with fail
          refine (alike_any x19 x21 E20 E22 LT.out).mono ?_
          rintro e wz ⟨rfl, hbz⟩
          go_wp2_with fail
          go_meet
          exact ⟨rfl, hbz⟩
        · have e0 : (E18 == 0) = false := by simpa using h18
          clear h18
          go_wp2_with fail
          go_meet
          exact ⟨rfl, Below.refl _ _⟩
      · have e0 : (E16 == 0) = false := by simpa using h16
        clear h16
        go_wp2_with fail
        go_meet
        exact ⟨rfl, Below.refl _ _⟩
    case rest =>
      obtain ⟨rfl, hz⟩ := hcut
      rename World => v2
      replace x3 := x3.later hz.out
      replace x4 := x4.later hz.out
      replace x5 := x5.later hz.out
      replace x7 := x7.later hz.out
      replace x9 := x9.later hz.out
      replace x15 := x15.later hz.out
      replace x17 := x17.later hz.out
      replace x19 := x19.later hz.out
      replace x21 := x21.later hz.out
      replace hB := bel0 hB hz.out
      clear hz
      clear r19 r21
      clear x19
      clear x21
      have f1 := x3.cells
      have f2 := x5.cells
      go_wp2_with fail
      refine (opM x3 x5).mono ?_
      rintro e w23 ⟨B23, E24, X23, p23, n23, c23, rfl, r23, s23, hb23⟩
      clear f1 f2
      have st := belA hb23 (.cells #[.int .i64 B23, .slice p23 n23 c23, .bool false] 26 (0, 0))
      have x23 := BX.new s23 r23.1
      replace x3 := x3.later st
      replace x4 := x4.later st
      replace x5 := x5.later st
      replace x7 := x7.later st
      replace x9 := x9.later st
      replace x15 := x15.later st
      replace x17 := x17.later st
      replace hB := bel0 hB st
      clear st s23 hb23
      have f1 := x3.cells
      have f2 := x9.cells
      go_wp2_with fail
      refine (opM x3 x9).mono ?_
      rintro e w25 ⟨B25, E26, X25, p25, n25, c25, rfl, r25, s25, hb25⟩
      clear f1 f2
      have st := belA hb25 (.cells #[.int .i64 B25, .slice p25 n25 c25, .bool false] 26 (0, 0))
      have x25 := BX.new s25 r25.1
      replace x3 := x3.later st
      replace x4 := x4.later st
      replace x5 := x5.later st
      replace x7 := x7.later st
      replace x9 := x9.later st
      replace x15 := x15.later st
      replace x17 := x17.later st
      replace x23 := x23.later st
      replace hB := bel0 hB st
      clear st s25 hb25
      have f1 := x15.cells
      have f2 := x23.cells
      go_wp2_with fail
      refine (opJ x15 x23).mono ?_
      rintro e w27 ⟨B27, E28, X27, p27, n27, c27, rfl, r27, s27, hb27⟩
      clear f1 f2
      have st := belA hb27 (.cells #[.int .i64 B27, .slice p27 n27 c27, .bool false] 26 (0, 0))
      have x27 := BX.new s27 r27.1
      replace x3 := x3.later st
      replace x4 := x4.later st
      replace x5 := x5.later st
      replace x7 := x7.later st
      replace x9 := x9.later st
      replace x15 := x15.later st
      replace x17 := x17.later st
      replace x23 := x23.later st
      replace x25 := x25.later st
      replace hB := bel0 hB st
      clear st s27 hb27
      go_upto_region 16 with fail
      go_cut [146] (fun v wc => v = .bool false ∧ Hid (Below (w27.alloc (.cells #[.int .i64 B27, .slice p27 n27 c27, .bool false] 26 (0, 0))).heap.size (w27.alloc (.cells #[.int .i64 B27, .slice p27 n27 c27, .bool false] 26 (0, 0))) wc))
      case first =>
        by_cases h10 : E10 = 0
        · subst h10
          by_cases h16 : E16 = 0
          · subst h16
            by_cases h24 : E24 = 0
            · subst h24
              have f1 := x25.cells
              have f2 := x27.cells
              have LT : Hid (E26 = 0 → E28 = 0 → B25 = B27 ∧ X25 = X27) := lat3 r9 r15 r23 r25 r27 fA fC fD rfl rfl rfl
              go_wp2_with fail
              refine (alike_any x25 x27 E26 E28 LT.out).mono ?_
              rintro e wz ⟨rfl, hbz⟩
              go_wp2_with fail
              go_meet
              exact ⟨rfl, hbz⟩
            · have e0 : (E24 == 0) = false := by simpa using h24
              clear h24
              go_wp2_with fail
              go_meet
              exact ⟨rfl, Below.refl _ _⟩
          · have e0 : (E16 == 0) = false := by simpa using h16
            clear h16
            go_wp2_with fail
            go_meet
            exact ⟨rfl, Below.refl _ _⟩
        · have e0 : (E10 == 0) = false := by simpa using h10
          clear h10
          go_wp2_with fail
          go_meet
          exact ⟨rfl, Below.refl _ _⟩
      case rest =>
        obtain ⟨rfl, hz⟩ := hcut
        rename World => v3
        replace x3 := x3.later hz.out
        replace x4 := x4.later hz.out
        replace x5 := x5.later hz.out
        replace x7 := x7.later hz.out
        replace x9 := x9.later hz.out
        replace x15 := x15.later hz.out
        replace x17 := x17.later hz.out
        replace x23 := x23.later hz.out
        replace x25 := x25.later hz.out
        replace x27 := x27.later hz.out
        replace hB := bel0 hB hz.out
        clear hz
        clear r23 r25 r27 r9 r15
        clear x25
        clear x27
        clear x23
        clear x15
        clear x9
        have f1 := x3.cells
        have f2 := x17.cells
        go_wp2_with fail
        refine (opJ x3 x17).mono ?_
        rintro e w29 ⟨B29, E30, X29, p29, n29, c29, rfl, r29, s29, hb29⟩
        clear f1 f2
        have st := belA hb29 (.cells #[.int .i64 B29, .slice p29 n29 c29, .bool false] 26 (0, 0))
        have x29 := BX.new s29 r29.1
        replace x3 := x3.later st
        replace x4 := x4.later st
        replace x5 := x5.later st
        replace x7 := x7.later st
        replace x17 := x17.later st
        replace hB := bel0 hB st
        clear st s29 hb29
        have f1 := x3.cells
        have f2 := x5.cells
        go_wp2_with fail
        refine (opJ x3 x5).mono ?_
        rintro e w31 ⟨B31, E32, X31, p31, n31, c31, rfl, r31, s31, hb31⟩
        clear f1 f2
        have st := belA hb31 (.cells #[.int .i64 B31, .slice p31 n31 c31, .bool false] 26 (0, 0))
        have x31 := BX.new s31 r31.1
        replace x3 := x3.later st
        replace x4 := x4.later st
        replace x5 := x5.later st
        replace x7 := x7.later st
        replace x17 := x17.later st
        replace x29 := x29.later st
        replace hB := bel0 hB st
        clear st s31 hb31
        have f1 := x7.cells
        have f2 := x31.cells
        go_wp2_with fail
        refine (opM x7 x31).mono ?_
        rintro e w33 ⟨B33, E34, X33, p33, n33, c33, rfl, r33, s33, hb33⟩
        clear f1 f2
        have st := belA hb33 (.cells #[.int .i64 B33, .slice p33 n33 c33, .bool false] 26 (0, 0))
        have x33 := BX.new s33 r33.1
        replace x3 := x3.later st
        replace x4 := x4.later st
        replace x5 := x5.later st
        replace x7 := x7.later st
        replace x17 := x17.later st
        replace x29 := x29.later st
        replace x31 := x31.later st
        replace hB := bel0 hB st
        clear st s33 hb33
        by_cases h18 : E18 = 0
        · subst h18
          by_cases h8 : E8 = 0
          · subst h8
            by_cases h32 : E32 = 0
            · subst h32
              have f1 := x29.cells
              have f2 := x33.cells
              have LT : Hid (E30 = 0 → E34 = 0 → B29 = B33 ∧ X29 = X33) := lat4 r7 r17 r29 r31 r33 fA fC fD rfl rfl rfl
              go_wp2_with fail
              refine (alike_any x29 x33 E30 E34 LT.out).mono ?_
              rintro e wz ⟨rfl, hbz⟩
              go_wp2_with fail
              go_ret
              exact ⟨rfl, bel0 hB hbz⟩
            · have e0 : (E32 != 0) = true := by simpa using h32
              clear h32
              go_wp2_with fail
              go_ret
              exact ⟨rfl, hB⟩
          · have e0 : (E8 != 0) = true := by simpa using h8
            clear h8
            go_wp2_with fail
            go_ret
            exact ⟨rfl, hB⟩
        · have e0 : (E18 != 0) = true := by simpa using h18
          clear h18
          go_wp2_with fail
          go_ret
          exact ⟨rfl, hB⟩
end Go.Proofs.YtcejejiomhhpgaaGreatDoor
