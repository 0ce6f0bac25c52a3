import Derived.Test.YtnboehlbcjfndaaGreatDoorYBN
namespace Go.Proofs.YtnboehlbcjfndaaGreatDoor
open Go.RowKit Go.Shelf
theorem splX_good {b : Nat} {c : List UInt8} (hb : b ≤ 32) (hl : c.length = b) (hc : Tn.good c = true) : ∀ x ∈ splX b c, Tn.good x = true := by
  unfold splX
  exact Tn.good_pcs _ _ (by rw [List.length_replicate, hl]) (Tn.good_replicate b (by omega)) hc b
theorem splX_len (b : Nat) (c : List UInt8) : (splX b c).length ≤ b := Tn.pcs_len _ _ b
set_option maxRecDepth 100000 in
set_option maxHeartbeats 2000000 in
theorem othersX_any (b : Nat) (t : TS) (w : World) (hb1 : 1 ≤ b) (hb : b ≤ 32) (h : TOK b t) (h3 : ¬ t.form = 3) : Calls Tryz.prog 56 #[.int .i64 (b : Int), t.v] w fun e w' => slR w (othM b t) e w' := by
  obtain ⟨i0, hi0, hz0, hz1, hz2⟩ := info_parts info_str
  obtain ⟨o1, o2⟩ := one_good hb h
  have hM : othM b t = splX b (oneM b t) := by unfold othM; rw [if_neg h3]
  rw [hM]
  have HO1 := fun W => one_any b t W hb1 hb h
  obtain ⟨c, hc⟩ : ∃ c, oneM b t = c := ⟨_, rfl⟩
  rw [hc] at o1 o2 ⊢
  simp only [hc] at HO1
  have hsg := splX_good hb o1 o2
  have hsl := splX_len b c
  have hst := splT_x (c := c) (by omega) o1
  have HSP := fun W => Tn.split_any (List.replicate b 120) c (splX b c) W (Tn.good_replicate b (by omega)) o2 hst
  have HAL := fun W => Tn.all_any (b : Int) W
  have hif : (if (1 : Int) ≤ (b : Int) ∧ (b : Int) ≤ 256 then List.replicate (b : Int).toNat (120 : UInt8) else []) = List.replicate b 120 := by rw [if_pos (by omega), Int.toNat_natCast]
  simp only [hif] at HAL
  have HPA := fun W => Tn.parse_any ⟨c.toArray⟩ W (by unfold maxLen; simp [ByteArray.size]; omega)
  have hP0 : Tn.refP c = 0 := (Tn.refP_zero c).2 ⟨fun e => by rw [e] at o1; simp at o1; omega, o2⟩
  have hPT : Tn.cubeT c = c := Tn.cubeT_self c hP0
  have HPB : ∀ W : World, Calls Tryz.prog 83 #[.string ⟨c.toArray⟩] W fun e w' => e = .returned (.tuple #[Tn.cubeV c, .int .i64 0]) ∧ Below W.heap.size W w' := fun W => by
    have := HPA W
    rw [show (⟨c.toArray⟩ : ByteArray).data.toList = c from rfl, hPT, hP0] at this
    exact this
  obtain ⟨L, hL⟩ : ∃ L, splX b c = L := ⟨_, rfl⟩
  rw [hL] at hsg hsl ⊢
  simp only [hL] at HSP
  have HONE0 : ∀ W : World, Calls Tryz.prog 57 #[.int .i64 (b : Int), t.v] W fun e w' => e = .returned (.string ⟨c.toArray⟩) ∧ Below W.heap.size W w' := HO1
  obtain ⟨f, op, form, lo, hi, len, pat⟩ := t
  simp only at h3
  have g3 : (form == 3) = false := by rw [beq_eq_false_iff_ne]; exact h3
  have HONE : Hid (∀ W : World, Calls Tryz.prog 57 #[.int .i64 (b : Int), .agg #[.string ⟨f.toArray⟩, .int .i64 op, .int .i64 form, .int .i64 lo, .int .i64 hi, .int .i64 len, .string ⟨pat.toArray⟩]] W fun e w' => e = .returned (.string ⟨c.toArray⟩) ∧ Below W.heap.size W w') := HONE0
  obtain ⟨c0, c1, c2, c3, c4, c5, c6, c7, c8, hcu⟩ : ∃ c0 c1 c2 c3 c4 c5 c6 c7 c8 : Int, Tn.cubeV c = .agg #[.int .i64 c0, .int .u64 c1, .int .u64 c2, .int .u64 c3, .int .u64 c4, .int .u64 c5, .int .u64 c6, .int .u64 c7, .int .u64 c8] := ⟨_, _, _, _, _, _, _, _, _, rfl⟩
  simp only [hcu] at HPB HSP
  have hax : Tn.cubeV (List.replicate b 120) = .agg #[.int .i64 (b : Int), .int .u64 0, .int .u64 0, .int .u64 0, .int .u64 0, .int .u64 0, .int .u64 0, .int .u64 0, .int .u64 0] := Tn.cubeV_all b
  simp only [hax] at HAL HSP
  have HPR : Hid (∀ W : World, Calls Tryz.prog 83 #[.string ⟨c.toArray⟩] W fun e w' => e = .returned (.tuple #[.agg #[.int .i64 c0, .int .u64 c1, .int .u64 c2, .int .u64 c3, .int .u64 c4, .int .u64 c5, .int .u64 c6, .int .u64 c7, .int .u64 c8], .int .i64 0]) ∧ Below W.heap.size W w') := HPB
  have HALL : Hid (∀ W : World, Calls Tryz.prog 59 #[.int .i64 (b : Int)] W fun e w' => e = .returned (.agg #[.int .i64 (b : Int), .int .u64 0, .int .u64 0, .int .u64 0, .int .u64 0, .int .u64 0, .int .u64 0, .int .u64 0, .int .u64 0]) ∧ Below W.heap.size W w') := HAL
  have HSPL : Hid (∀ W : World, Calls Tryz.prog 86 #[.agg #[.int .i64 (b : Int), .int .u64 0, .int .u64 0, .int .u64 0, .int .u64 0, .int .u64 0, .int .u64 0, .int .u64 0, .int .u64 0], .agg #[.int .i64 c0, .int .u64 c1, .int .u64 c2, .int .u64 c3, .int .u64 c4, .int .u64 c5, .int .u64 c6, .int .u64 c7, .int .u64 c8]] W fun e w' => ∃ v, e = .returned v ∧ w'.ownsRow W.heap.size 106 9 v L.length (Tn.cels L) ∧ Below W.heap.size W w') := HSP
  have HSG : Hid (∀ x ∈ L, Tn.good x = true) := hsg
  show Calls Tryz.prog 56 #[.int .i64 (b : Int), .agg #[.string ⟨f.toArray⟩, .int .i64 op, .int .i64 form, .int .i64 lo, .int .i64 hi, .int .i64 len, .string ⟨pat.toArray⟩]] w _
  obtain ⟨O, hO⟩ : ∃ O : Obj, Obj.cells #[.string ⟨f.toArray⟩, .int .i64 op, .int .i64 form, .int .i64 lo, .int .i64 hi, .int .i64 len, .string ⟨pat.toArray⟩] 27 = O := ⟨_, rfl⟩
  have hB1 : Below w.heap.size w (w.alloc O) := (Below.refl _ _).alloc (Nat.le_refl _) _
  have hbx : (w.alloc O).heap[w.heap.size]? = some (.cells #[.string ⟨f.toArray⟩, .int .i64 op, .int .i64 form, .int .i64 lo, .int .i64 hi, .int .i64 len, .string ⟨pat.toArray⟩] 27) := by rw [hO]; exact alloc_get _ _
  have HX : Hid (∀ W : World, Below (w.alloc O).heap.size (w.alloc O) W → W.cell? ⟨w.heap.size, 0, none⟩ = some (.string ⟨f.toArray⟩) ∧ W.cell? ⟨w.heap.size, 1, none⟩ = some (.int .i64 op) ∧ W.cell? ⟨w.heap.size, 2, none⟩ = some (.int .i64 form) ∧ W.cell? ⟨w.heap.size, 3, none⟩ = some (.int .i64 lo) ∧ W.cell? ⟨w.heap.size, 4, none⟩ = some (.int .i64 hi) ∧ W.cell? ⟨w.heap.size, 5, none⟩ = some (.int .i64 len) ∧ W.cell? ⟨w.heap.size, 6, none⟩ = some (.string ⟨pat.toArray⟩)) := fun W hW => ⟨cell_of_row _ _ 0 _ _ _ (keepblk hW hbx), cell_of_row _ _ 1 _ _ _ (keepblk hW hbx), cell_of_row _ _ 2 _ _ _ (keepblk hW hbx), cell_of_row _ _ 3 _ _ _ (keepblk hW hbx), cell_of_row _ _ 4 _ _ _ (keepblk hW hbx), cell_of_row _ _ 5 _ _ _ (keepblk hW hbx), cell_of_row _ _ 6 _ _ _ (keepblk hW hbx)⟩
  obtain ⟨t0, t1, t2, t3, t4, t5, t6⟩ := HX.out _ (Below.refl _ _)
  clear hbx HO1 HONE0 HPA HPB HSP HAL hif hst o1 o2 hM hc hL hcu hax hP0 hPT h3 hsg
  go_enter Tryz.func56, Tryz.ntmps56
  go_wp2_with fail
  try simp only [hO]
  refine (HONE.out _).mono ?_
  rintro e W1 ⟨rfl, hb1⟩
  go_wp2_with fail
  refine (HPR.out _).mono ?_
  rintro e W2 ⟨rfl, hb2⟩
  have hB2 := bel0 (bel0 hB1 hb1) hb2
  clear HX t0 t1 t2 t3 t4 t5 t6 hb1 hb2 hB1 hO
  go_wp2_with fail
  obtain ⟨O2, hO2⟩ : ∃ O2 : Obj, Obj.cells #[.int .i64 c0, .int .u64 c1, .int .u64 c2, .int .u64 c3, .int .u64 c4, .int .u64 c5, .int .u64 c6, .int .u64 c7, .int .u64 c8] 106 = O2 := ⟨_, rfl⟩
  have hB3 : Below w.heap.size w (W2.alloc O2) := hB2.alloc hB2.size O2
  have hbx2 : (W2.alloc O2).heap[W2.heap.size]? = some (.cells #[.int .i64 c0, .int .u64 c1, .int .u64 c2, .int .u64 c3, .int .u64 c4, .int .u64 c5, .int .u64 c6, .int .u64 c7, .int .u64 c8] 106) := by rw [hO2]; exact alloc_get _ _
  have X5 : Hid (∀ W : World, Below (W2.alloc O2).heap.size (W2.alloc O2) W → W.cell? ⟨W2.heap.size, 0, none⟩ = some (.int .i64 c0) ∧ W.cell? ⟨W2.heap.size, 1, none⟩ = some (.int .u64 c1) ∧ W.cell? ⟨W2.heap.size, 2, none⟩ = some (.int .u64 c2) ∧ W.cell? ⟨W2.heap.size, 3, none⟩ = some (.int .u64 c3) ∧ W.cell? ⟨W2.heap.size, 4, none⟩ = some (.int .u64 c4) ∧ W.cell? ⟨W2.heap.size, 5, none⟩ = some (.int .u64 c5) ∧ W.cell? ⟨W2.heap.size, 6, none⟩ = some (.int .u64 c6) ∧ W.cell? ⟨W2.heap.size, 7, none⟩ = some (.int .u64 c7) ∧ W.cell? ⟨W2.heap.size, 8, none⟩ = some (.int .u64 c8)) := fun W hW => ⟨cell_of_row _ _ 0 _ _ _ (keepblk hW hbx2), cell_of_row _ _ 1 _ _ _ (keepblk hW hbx2), cell_of_row _ _ 2 _ _ _ (keepblk hW hbx2), cell_of_row _ _ 3 _ _ _ (keepblk hW hbx2), cell_of_row _ _ 4 _ _ _ (keepblk hW hbx2), cell_of_row _ _ 5 _ _ _ (keepblk hW hbx2), cell_of_row _ _ 6 _ _ _ (keepblk hW hbx2), cell_of_row _ _ 7 _ _ _ (keepblk hW hbx2), cell_of_row _ _ 8 _ _ _ (keepblk hW hbx2)⟩
  obtain ⟨s0, s1, s2, s3, s4, s5, s6, s7, s8⟩ := X5.out _ (Below.refl _ _).drew
  obtain ⟨r0, r1, r2, r3, r4, r5, r6, r7, r8⟩ := X5.out _ (Below.refl _ _)
  have hB3d := hB3.drew
  clear hbx2
  try simp only [hO2]
  go_region_law ((first | (have chk := hal; go_simp; go_at_call 86; refine (HSPL.out _).mono ?_; rintro e w4 ⟨v4, rfl, ho4, hb4⟩; have hB4 := bel0 hBa hb4; obtain ⟨p4, q4, rfl⟩ := shapeP ho4) | (go_simp; go_at_call 59; refine (HALL.out _).mono ?_; rintro e w3 ⟨rfl, hb3⟩; have hal : True := trivial; have hBa := (by first | exact bel0 hB3d hb3 | exact bel0 hB3 hb3 : Below w.heap.size w w3); obtain ⟨y0, y1, y2, y3, y4, y5, y6, y7, y8⟩ := X5.out w3 (by first | exact bel0 (Below.refl _ _).drew hb3 | exact hb3))))
  all_goals
    have HO4 : Hid (w4.ownsRow w3.heap.size 106 9 (.slice p4 L.length q4) L.length (Tn.cels L)) := ho4
    have hw4 := hB4.size
    clear ho4 hb4 hb3 hBa hB3 hB3d X5
    go_wp2_with fail
    simp only [List.getElem_toArray, List.getElem_cons_succ, List.getElem_cons_zero, Act.put, List.setIfInBounds_toArray, List.set_cons_zero, List.set_cons_succ]
    go_loopw [7, 38] (fun v vk wr => ∃ k : Nat, vk = .int .i64 k ∧ k ≤ L.length ∧ wr.ownsRow w4.heap.size 9 1 v k (stx (L.take k)) ∧ Below w4.heap.size w4 wr) (fun _ vk _ => L.length - (intOf vk).toNat)
    case atStart => exact ⟨0, rfl, Nat.zero_le _, World.ownsRow_nil _ _ _ _, Below.refl _ _⟩
    case round =>
      obtain ⟨k, rfl, hk, hown, hB⟩ := hrel
      obtain ⟨pv, cv, rfl⟩ := shapeP hown
      by_cases hlt : k < L.length
      · have j1 : (k : Int) < (L.length : Int) := by omega
        have j0 : (0 : Int) ≤ (k : Int) := by omega
        have hoc := owns_below HO4.out hB
        obtain ⟨g4, rfl⟩ := own_at hoc (by omega)
        have hgD := HSG.out L[k] (List.getElem_mem hlt)
        have hTK : stx (L.take (k + 1)) = stx (L.take k) ++ [.string ⟨(L[k]).toArray⟩] := by unfold stx; rw [List.take_add_one, List.getElem?_eq_getElem hlt, Option.toList_some, List.map_append]; rfl
        have q0 : wr.cell? ⟨g4, k * 9, none⟩ = some (.int .i64 ((L[k]).length : Int)) := Tn.own_cel hoc hlt 0 (by decide)
        have q1 : wr.cell? ⟨g4, k * 9 + 1, none⟩ = some (.int .u64 (Tn.FW L[k] 0 : Int)) := Tn.own_cel hoc hlt 1 (by decide)
        have q2 : wr.cell? ⟨g4, k * 9 + 2, none⟩ = some (.int .u64 (Tn.FW L[k] 1 : Int)) := Tn.own_cel hoc hlt 2 (by decide)
        have q3 : wr.cell? ⟨g4, k * 9 + 3, none⟩ = some (.int .u64 (Tn.FW L[k] 2 : Int)) := Tn.own_cel hoc hlt 3 (by decide)
        have q4' : wr.cell? ⟨g4, k * 9 + 4, none⟩ = some (.int .u64 (Tn.FW L[k] 3 : Int)) := Tn.own_cel hoc hlt 4 (by decide)
        have q5 : wr.cell? ⟨g4, k * 9 + 5, none⟩ = some (.int .u64 (Tn.OW L[k] 0 : Int)) := Tn.own_cel hoc hlt 5 (by decide)
        have q6 : wr.cell? ⟨g4, k * 9 + 6, none⟩ = some (.int .u64 (Tn.OW L[k] 1 : Int)) := Tn.own_cel hoc hlt 6 (by decide)
        have q7 : wr.cell? ⟨g4, k * 9 + 7, none⟩ = some (.int .u64 (Tn.OW L[k] 2 : Int)) := Tn.own_cel hoc hlt 7 (by decide)
        have q8 : wr.cell? ⟨g4, k * 9 + 8, none⟩ = some (.int .u64 (Tn.OW L[k] 3 : Int)) := Tn.own_cel hoc hlt 8 (by decide)
        have HTX : ∀ W : World, Calls Tryz.prog 87 #[Tn.cubeV L[k]] W fun e w' => e = .returned (.string ⟨(L[k]).toArray⟩) ∧ Below W.heap.size W w' := fun W => Tn.text_any L[k] W hgD
        have hcv : Tn.cubeV L[k] = .agg #[.int .i64 ((L[k]).length : Int), .int .u64 (Tn.FW L[k] 0 : Int), .int .u64 (Tn.FW L[k] 1 : Int), .int .u64 (Tn.FW L[k] 2 : Int), .int .u64 (Tn.FW L[k] 3 : Int), .int .u64 (Tn.OW L[k] 0 : Int), .int .u64 (Tn.OW L[k] 1 : Int), .int .u64 (Tn.OW L[k] 2 : Int), .int .u64 (Tn.OW L[k] 3 : Int)] := rfl
        simp only [hcv] at HTX
        obtain ⟨D, hD⟩ : ∃ D, L[k] = D := ⟨_, rfl⟩
        simp only [hD] at q0 q1 q2 q3 q4' q5 q6 q7 q8 HTX hTK
        obtain ⟨d0, hd0⟩ : ∃ x : Int, ((D.length : Nat) : Int) = x := ⟨_, rfl⟩
        obtain ⟨d1, hd1⟩ : ∃ x : Int, ((Tn.FW D 0 : Nat) : Int) = x := ⟨_, rfl⟩
        obtain ⟨d2, hd2⟩ : ∃ x : Int, ((Tn.FW D 1 : Nat) : Int) = x := ⟨_, rfl⟩
        obtain ⟨d3, hd3⟩ : ∃ x : Int, ((Tn.FW D 2 : Nat) : Int) = x := ⟨_, rfl⟩
        obtain ⟨d4, hd4⟩ : ∃ x : Int, ((Tn.FW D 3 : Nat) : Int) = x := ⟨_, rfl⟩
        obtain ⟨d5, hd5⟩ : ∃ x : Int, ((Tn.OW D 0 : Nat) : Int) = x := ⟨_, rfl⟩
        obtain ⟨d6, hd6⟩ : ∃ x : Int, ((Tn.OW D 1 : Nat) : Int) = x := ⟨_, rfl⟩
        obtain ⟨d7, hd7⟩ : ∃ x : Int, ((Tn.OW D 2 : Nat) : Int) = x := ⟨_, rfl⟩
        obtain ⟨d8, hd8⟩ : ∃ x : Int, ((Tn.OW D 3 : Nat) : Int) = x := ⟨_, rfl⟩
        simp only [hd0, hd1, hd2, hd3, hd4, hd5, hd6, hd7, hd8] at q0 q1 q2 q3 q4' q5 q6 q7 q8 HTX
        have HT : Hid (∀ W : World, Calls Tryz.prog 87 #[.agg #[.int .i64 d0, .int .u64 d1, .int .u64 d2, .int .u64 d3, .int .u64 d4, .int .u64 d5, .int .u64 d6, .int .u64 d7, .int .u64 d8]] W fun e w' => e = .returned (.string ⟨D.toArray⟩) ∧ Below W.heap.size W w') := HTX
        have HTK : Hid (stx (L.take (k + 1)) = stx (L.take k) ++ [.string ⟨D.toArray⟩]) := hTK
        have hBs := hB.size
        obtain ⟨O3, hO3⟩ : ∃ O3 : Obj, Obj.cells #[.int .i64 d0, .int .u64 d1, .int .u64 d2, .int .u64 d3, .int .u64 d4, .int .u64 d5, .int .u64 d6, .int .u64 d7, .int .u64 d8] 106 = O3 := ⟨_, rfl⟩
        have hbx3 : (wr.alloc O3).heap[wr.heap.size]? = some (.cells #[.int .i64 d0, .int .u64 d1, .int .u64 d2, .int .u64 d3, .int .u64 d4, .int .u64 d5, .int .u64 d6, .int .u64 d7, .int .u64 d8] 106) := by rw [hO3]; exact alloc_get _ _
        have z0 : (wr.alloc O3).cell? ⟨wr.heap.size, 0, none⟩ = some (.int .i64 d0) := cell_of_row _ _ 0 _ _ _ hbx3
        have z1 : (wr.alloc O3).cell? ⟨wr.heap.size, 1, none⟩ = some (.int .u64 d1) := cell_of_row _ _ 1 _ _ _ hbx3
        have z2 : (wr.alloc O3).cell? ⟨wr.heap.size, 2, none⟩ = some (.int .u64 d2) := cell_of_row _ _ 2 _ _ _ hbx3
        have z3 : (wr.alloc O3).cell? ⟨wr.heap.size, 3, none⟩ = some (.int .u64 d3) := cell_of_row _ _ 3 _ _ _ hbx3
        have z4 : (wr.alloc O3).cell? ⟨wr.heap.size, 4, none⟩ = some (.int .u64 d4) := cell_of_row _ _ 4 _ _ _ hbx3
        have z5 : (wr.alloc O3).cell? ⟨wr.heap.size, 5, none⟩ = some (.int .u64 d5) := cell_of_row _ _ 5 _ _ _ hbx3
        have z6 : (wr.alloc O3).cell? ⟨wr.heap.size, 6, none⟩ = some (.int .u64 d6) := cell_of_row _ _ 6 _ _ _ hbx3
        have z7 : (wr.alloc O3).cell? ⟨wr.heap.size, 7, none⟩ = some (.int .u64 d7) := cell_of_row _ _ 7 _ _ _ hbx3
        have z8 : (wr.alloc O3).cell? ⟨wr.heap.size, 8, none⟩ = some (.int .u64 d8) := cell_of_row _ _ 8 _ _ _ hbx3
        have hB5 : Below w4.heap.size w4 (wr.alloc O3) := hB.alloc hBs O3
        have hown5 : (wr.alloc O3).ownsRow w4.heap.size 9 1 (.slice pv k cv) k (stx (L.take k)) := hown.alloc O3
        clear hbx3 hoc hgD hTK HTX hcv hD hd0 hd1 hd2 hd3 hd4 hd5 hd6 hd7 hd8 hown
        go_wp2_with fail
        try simp only [hO3]
        refine (HT.out _).mono ?_
        rintro e w6 ⟨rfl, hb6⟩
        have hown6 := owns_below hown5 hb6
        have hB6 := bel0 hB5 hb6
        have hs6 := hB6.size
        go_wp2_with (at_builtin; refine wpList_append_own _ rfl _ _ 30 rfl w4.heap.size 9 i0 _ 1 16 Tryz.underlying30 hi0 hz0 hz1 hz2 rfl (by decide) _ _ _ rfl (hown6.alloc _) ⟨w6.heap.size, 0, none⟩ 1 1 [Value.string ⟨D.toArray⟩] rfl rfl (World.news_of_block (cs := #[.string ⟨D.toArray⟩]) (t := 9) (fr := (0, 0)) (alloc_get _ _)) (by simp [Value.oneCell']) (by unfold maxLen; omega) (by omega) (by simp; omega) ?_; intro v5 w5 oB hg5 _; have b5 : Below w4.heap.size w4 w5 := (hB6.alloc hB6.size _).grown hg5 (by simp; omega) (fun k e => (hown6.lt k e).1))
        go_roundw
        case rel => exact ⟨k + 1, by go_num, by omega, by rw [HTK.out]; exact oB, b5⟩
        case measure => simp [intOf]; omega
      · have j1 : ¬ (k : Int) < (L.length : Int) := by omega
        obtain rfl : k = L.length := by omega
        rw [List.take_of_length_le (Nat.le_refl _)] at hown
        have HO : Hid (wr.ownsRow w4.heap.size 9 1 (.slice pv L.length cv) L.length (stx L)) := hown
        clear hown
        go_wp2_with fail
        go_ret
        exact ⟨_, rfl, Tn.own_base HO.out hw4, bel0 hB4 hB⟩
theorem others_any (b : Nat) (t : TS) (w : World) (hb1 : 1 ≤ b) (hb : b ≤ 32) (h : TOK b t) (hdb : DB w) : Calls Tryz.prog 56 #[.int .i64 (b : Int), t.v] w fun e w' => slR w (othM b t) e w' := by
  by_cases h3 : t.form = 3
  · exact others3_any b t w hb1 hb h h3 hdb
  · exact othersX_any b t w hb1 hb h h3
def pieM (b : Nat) (t : TS) : List (List UInt8) := if t.op = 4 then covI b 0 t.lo else if t.op = 3 then covI b 0 (t.lo - 1) else if t.op = 6 then covI b t.lo ((2 ^ b - 1 : Nat) : Int) else if t.op = 5 then covI b (t.lo + 1) ((2 ^ b - 1 : Nat) : Int) else if t.op = 2 then othM b t else if t.form = 3 then covI b t.lo t.hi else [oneM b t]
set_option maxRecDepth 100000 in
set_option maxHeartbeats 1000000 in
theorem fpieces_any (b : Nat) (t : TS) (w : World) (hb1 : 1 ≤ b) (hb : b ≤ 32) (h : TOK b t) (hdb : DB w) : Calls Tryz.prog 29 #[.int .i64 (b : Int), t.v] w fun e w' => slR w (pieM b t) e w' := by
  have hp : 2 ^ b ≤ 2 ^ 32 := Nat.pow_le_pow_right (by decide) hb
  have hp0 : 0 < 2 ^ b := Nat.pow_pos (by decide)
  obtain ⟨i0, hi0, hz0, hz1, hz2⟩ := info_parts info_str
  have HOT0 := fun (W : World) (hW : Below w.heap.size w W) => others_any b t W hb1 hb h (hdb.below hW)
  have HON0 := fun W => one_any b t W hb1 hb h
  have hol := (one_good hb h).1
  obtain ⟨-, k2, k3, k4, k5, -, -, -, k8, -⟩ := h
  obtain ⟨R, hR⟩ : ∃ R, pieM b t = R := ⟨_, rfl⟩
  rw [hR]
  have HG0 := fun W => greatest_any b hb W
  have HPF : ∀ (x y : Int) (W : World), 0 ≤ x → y < ((2 ^ b : Nat) : Int) → Below w.heap.size w W → Calls Tryz.prog 55 #[.int .i64 (b : Int), .int .i64 x, .int .i64 y] W fun e w' => slR W (covI b x y) e w' := fun x y W hx hy hW => prefixesI_any b x y hb1 hb hx hy W (hdb.below hW)
  obtain ⟨ot, hot⟩ : ∃ x, othM b t = x := ⟨_, rfl⟩
  obtain ⟨on, hon⟩ : ∃ x, oneM b t = x := ⟨_, rfl⟩
  have hRR : pieM b t = R := hR
  unfold pieM at hRR
  rw [hot, hon] at hRR
  simp only [hot] at HOT0
  simp only [hon] at HON0
  rw [hon] at hol
  obtain ⟨f, op, form, lo, hi, len, pat⟩ := t
  simp only at k2 k3 k4 k5 hRR k8
  obtain ⟨G, hG⟩ : ∃ G : Nat, 2 ^ b - 1 = G := ⟨_, rfl⟩
  have hGp : ((2 ^ b : Nat) : Int) = (G : Int) + 1 := by omega
  simp only [hG] at HG0 k3 k5 hRR
  rw [hGp] at HPF
  have hG32 : (G : Int) < 4294967296 := by omega
  have HP : Hid (∀ (x y : Int) (W : World), 0 ≤ x → y < (G : Int) + 1 → Below w.heap.size w W → Calls Tryz.prog 55 #[.int .i64 (b : Int), .int .i64 x, .int .i64 y] W fun e w' => slR W (covI b x y) e w') := HPF
  have HG : Hid (∀ W : World, Calls Tryz.prog 53 #[.int .i64 (b : Int)] W fun e w' => e = .returned (.int .i64 (G : Int)) ∧ w' = W) := HG0
  have HOT : Hid (∀ (W : World), Below w.heap.size w W → Calls Tryz.prog 56 #[.int .i64 (b : Int), .agg #[.string ⟨f.toArray⟩, .int .i64 op, .int .i64 form, .int .i64 lo, .int .i64 hi, .int .i64 len, .string ⟨pat.toArray⟩]] W fun e w' => slR W ot e w') := HOT0
  have HON : Hid (∀ (W : World), Calls Tryz.prog 57 #[.int .i64 (b : Int), .agg #[.string ⟨f.toArray⟩, .int .i64 op, .int .i64 form, .int .i64 lo, .int .i64 hi, .int .i64 len, .string ⟨pat.toArray⟩]] W fun e w' => e = .returned (.string ⟨on.toArray⟩) ∧ Below W.heap.size W w') := HON0
  have u1 : wrap64 (lo + 1) = lo + 1 := w64 (by omega) (by omega)
  have u2 : wrap64 (lo - 1) = lo - 1 := w64 (by omega) (by omega)
  have u3 : wrap64 (lo + 1 - 1) = lo := by rw [w64 (by omega) (by omega)]; omega
  have u4 : wrap64 (lo - 1 + 1) = lo := by rw [w64 (by omega) (by omega)]; omega
  have u5 : wrap64 lo = lo := w64 (by omega) (by omega)
  show Calls Tryz.prog 29 #[.int .i64 (b : Int), .agg #[.string ⟨f.toArray⟩, .int .i64 op, .int .i64 form, .int .i64 lo, .int .i64 hi, .int .i64 len, .string ⟨pat.toArray⟩]] w _
  obtain ⟨O, hO⟩ : ∃ O : Obj, Obj.cells #[.string ⟨f.toArray⟩, .int .i64 op, .int .i64 form, .int .i64 lo, .int .i64 hi, .int .i64 len, .string ⟨pat.toArray⟩] 27 = O := ⟨_, rfl⟩
  have hB1 : Below w.heap.size w (w.alloc O) := (Below.refl _ _).alloc (Nat.le_refl _) _
  have hbx : (w.alloc O).heap[w.heap.size]? = some (.cells #[.string ⟨f.toArray⟩, .int .i64 op, .int .i64 form, .int .i64 lo, .int .i64 hi, .int .i64 len, .string ⟨pat.toArray⟩] 27) := by rw [hO]; exact alloc_get _ _
  have HX : Hid (∀ W : World, Below (w.alloc O).heap.size (w.alloc O) W → W.cell? ⟨w.heap.size, 0, none⟩ = some (.string ⟨f.toArray⟩) ∧ W.cell? ⟨w.heap.size, 1, none⟩ = some (.int .i64 op) ∧ W.cell? ⟨w.heap.size, 2, none⟩ = some (.int .i64 form) ∧ W.cell? ⟨w.heap.size, 3, none⟩ = some (.int .i64 lo) ∧ W.cell? ⟨w.heap.size, 4, none⟩ = some (.int .i64 hi) ∧ W.cell? ⟨w.heap.size, 5, none⟩ = some (.int .i64 len) ∧ W.cell? ⟨w.heap.size, 6, none⟩ = some (.string ⟨pat.toArray⟩)) := fun W hW => ⟨cell_of_row _ _ 0 _ _ _ (keepblk hW hbx), cell_of_row _ _ 1 _ _ _ (keepblk hW hbx), cell_of_row _ _ 2 _ _ _ (keepblk hW hbx), cell_of_row _ _ 3 _ _ _ (keepblk hW hbx), cell_of_row _ _ 4 _ _ _ (keepblk hW hbx), cell_of_row _ _ 5 _ _ _ (keepblk hW hbx), cell_of_row _ _ 6 _ _ _ (keepblk hW hbx)⟩
  obtain ⟨t0, t1, t2, t3, t4, t5, t6⟩ := HX.out _ (Below.refl _ _)
  have HRR : Hid ((if op = 4 then covI b 0 lo else if op = 3 then covI b 0 (lo - 1) else if op = 6 then covI b lo (G : Int) else if op = 5 then covI b (lo + 1) (G : Int) else if op = 2 then ot else if form = 3 then covI b lo hi else [on]) = R) := hRR
  clear hbx HOT0 HON0 HG0 HPF hG hGp hR hRR hot hon hp hp0
  by_cases p4 : op = 4
  · have hR := HRR.out
    rw [if_pos p4] at hR
    subst p4
    subst hR
    clear HRR
    go_enter Tryz.func29, Tryz.ntmps29
    go_wp2_with fail
    try simp only [hO]
    refine (HP.out 0 lo _ (by omega) (by omega) hB1).mono ?_
    rintro e W1 ⟨v1, rfl, ho1, hb1⟩
    go_wp2_with fail
    go_ret
    exact ⟨_, rfl, Tn.own_base ho1 hB1.size, bel0 hB1 hb1⟩
  have q4 : (op == 4) = false := by rw [beq_eq_false_iff_ne]; exact p4
  by_cases p3 : op = 3
  · have hR := HRR.out
    rw [if_neg p4, if_pos p3] at hR
    subst p3
    subst hR
    clear HRR p4 q4
    go_enter Tryz.func29, Tryz.ntmps29
    go_wp2_with fail
    try simp only [hO]
    refine (HP.out 0 (lo - 1) _ (by omega) (by omega) hB1).mono ?_
    rintro e W1 ⟨v1, rfl, ho1, hb1⟩
    go_wp2_with fail
    go_ret
    exact ⟨_, rfl, Tn.own_base ho1 hB1.size, bel0 hB1 hb1⟩
  have q3 : (op == 3) = false := by rw [beq_eq_false_iff_ne]; exact p3
  by_cases p6 : op = 6
  · have hR := HRR.out
    rw [if_neg p4, if_neg p3, if_pos p6] at hR
    subst p6
    subst hR
    clear HRR p4 q4 p3 q3
    go_enter Tryz.func29, Tryz.ntmps29
    go_wp2_with fail
    try simp only [hO]
    refine (HG.out _).mono ?_
    rintro e Wg ⟨rfl, hWg⟩
    subst hWg
    go_wp2_with fail
    try simp only [hO]
    refine (HP.out lo (G : Int) _ (by omega) (by omega) hB1).mono ?_
    rintro e W1 ⟨v1, rfl, ho1, hb1⟩
    go_wp2_with fail
    go_ret
    exact ⟨_, rfl, Tn.own_base ho1 hB1.size, bel0 hB1 hb1⟩
  have q6 : (op == 6) = false := by rw [beq_eq_false_iff_ne]; exact p6
  by_cases p5 : op = 5
  · have hR := HRR.out
    rw [if_neg p4, if_neg p3, if_neg p6, if_pos p5] at hR
    subst p5
    subst hR
    clear HRR p4 q4 p3 q3 p6 q6
    go_enter Tryz.func29, Tryz.ntmps29
    go_wp2_with fail
    try simp only [hO]
    refine (HG.out _).mono ?_
    rintro e Wg ⟨rfl, hWg⟩
    subst hWg
    go_wp2_with fail
    try simp only [hO]
    refine (HP.out (lo + 1) (G : Int) _ (by omega) (by omega) hB1).mono ?_
    rintro e W1 ⟨v1, rfl, ho1, hb1⟩
    go_wp2_with fail
    go_ret
    exact ⟨_, rfl, Tn.own_base ho1 hB1.size, bel0 hB1 hb1⟩
  have q5 : (op == 5) = false := by rw [beq_eq_false_iff_ne]; exact p5
  by_cases p2 : op = 2
  · have hR := HRR.out
    rw [if_neg p4, if_neg p3, if_neg p6, if_neg p5, if_pos p2] at hR
    subst p2
    subst hR
    clear HRR p4 q4 p3 q3 p6 q6 p5 q5
    go_enter Tryz.func29, Tryz.ntmps29
    go_wp2_with fail
    try simp only [hO]
    refine (HOT.out _ hB1).mono ?_
    rintro e W1 ⟨v1, rfl, ho1, hb1⟩
    go_wp2_with fail
    go_ret
    exact ⟨_, rfl, Tn.own_base ho1 hB1.size, bel0 hB1 hb1⟩
  have q2 : (op == 2) = false := by rw [beq_eq_false_iff_ne]; exact p2
  by_cases p1 : form = 3
  · have hR := HRR.out
    rw [if_neg p4, if_neg p3, if_neg p6, if_neg p5, if_neg p2, if_pos p1] at hR
    have hlh := k8 p1
    subst p1
    subst hR
    clear HRR p4 p3 p6 p5 p2
    go_enter Tryz.func29, Tryz.ntmps29
    go_wp2_with fail
    try simp only [hO]
    refine (HP.out lo hi _ (by omega) (by omega) hB1).mono ?_
    rintro e W1 ⟨v1, rfl, ho1, hb1⟩
    go_wp2_with fail
    go_ret
    exact ⟨_, rfl, Tn.own_base ho1 hB1.size, bel0 hB1 hb1⟩
  · have q1 : (form == 3) = false := by rw [beq_eq_false_iff_ne]; exact p1
    have hR := HRR.out
    rw [if_neg p4, if_neg p3, if_neg p6, if_neg p5, if_neg p2, if_neg p1] at hR
    subst hR
    clear HRR p4 p3 p6 p5 p2 p1
    go_enter Tryz.func29, Tryz.ntmps29
    go_wp2_with fail
    try simp only [hO]
    refine (HON.out _).mono ?_
    rintro e W1 ⟨rfl, hb1⟩
    have hBB := bel0 hB1 hb1
    go_wp2_with fail
    go_ret
    exact ⟨_, rfl, World.ownsRow_lit W1 #[.string ⟨on.toArray⟩] 1 hBB.size (by decide) rfl, hBB.alloc hBB.size _⟩
end Go.Proofs.YtnboehlbcjfndaaGreatDoor
