import Derived.Test.YthonobihcahfiaaGreatDoorXBI
namespace Go.Proofs.YthonobihcahfiaaGreatDoor.Nt
open Go.RowKit Go.Shelf
def nnX : NN := ⟨1, [⟨[97, 46, 98], 0, true, -1⟩], [[]], [[]]⟩
theorem full_ab : fullN [97, 46, 98] = true := by decide +kernel
theorem netP_X : NetP nnX := by
  refine ⟨⟨by decide, by decide, by decide, by decide, rfl⟩, by decide, by decide, ⟨fun p hp => ?_, by decide⟩, fun g hg => ?_, fun k t ht => ?_⟩
  · have hp : p = ⟨[97, 46, 98], 0, true, -1⟩ := by simpa [nnX] using hp
    subst hp
    exact ⟨full_ab, by decide, by decide, .inl rfl⟩
  · have hg : g = [] := by simpa [nnX] using hg
    subst hg
    exact ⟨fun l hl => by simp at hl, by decide⟩
  · have ht9 : t ∈ nnX.tabs := List.mem_of_getElem? ht
    have ht9 : t = [] := by simpa [nnX] using ht9
    subst ht9
    exact ⟨fun l hl => by simp at hl, by decide⟩
theorem okX : okN nnX := by
  refine ⟨by decide, fun p hp => ?_, by decide, fun t ht => ?_, by decide, fun t ht => ?_⟩
  · have hp : p = ⟨[97, 46, 98], 0, true, -1⟩ := by simpa [nnX] using hp
    subst hp
    exact (by decide : (3 : Nat) ≤ 140737488351232)
  · have ht : t = [] := by simpa [nnX] using ht
    subst ht
    exact ⟨by decide, fun l hl => by simp at hl⟩
  · have ht : t = [] := by simpa [nnX] using ht
    subst ht
    exact ⟨by decide, fun l hl => by simp at hl⟩
theorem dAll_X : dAll nnX = [0] := by
  unfold dAll
  rw [if_pos (pb_yes netP_X)]
  decide +kernel
theorem lnX {w : World} {x1 x2 x3 : Nat} (h1 : w.heap[x1]? = some (.cells #[.slice none 0 0] 42 (0, 0))) (h2 : w.heap[x2]? = some (.cells #[.string ⟨#[97, 46, 98]⟩, .int .i64 0, .bool true, .int .i64 (-1)] 38 (0, 0))) (h3 : w.heap[x3]? = some (.cells #[.slice none 0 0] 47 (0, 0))) : LN w nnX ⟨some ⟨x2, 0, none⟩, 1, some ⟨x1, 0, none⟩, 1, some ⟨x3, 0, none⟩, 1⟩ := by
  have a1 := (cellsZ h1).1
  have a2 := (cellsZ h2).1
  have a3 := (cellsZ h3).1
  refine ⟨fun k x hx => ?_, Nat.le_refl 1, fun k x hx => ?_, Nat.le_refl 1, fun k x hx => ?_, Nat.le_refl 1⟩
  · have hk : k < 1 := (List.getElem?_eq_some_iff.1 hx).1
    obtain rfl : k = 0 := by omega
    have hx : x = ⟨[97, 46, 98], 0, true, -1⟩ := (Option.some.inj hx).symm
    subst hx
    exact ⟨x2, 0, rfl, by rw [a2]; rfl, by rw [a2]; rfl, by rw [a2]; rfl, by rw [a2]; rfl⟩
  · have hk : k < 1 := (List.getElem?_eq_some_iff.1 hx).1
    obtain rfl : k = 0 := by omega
    have hx : x = [] := (Option.some.inj hx).symm
    subst hx
    exact ⟨x1, 0, none, 0, rfl, by rw [a1]; rfl, fun k x hx => by simp at hx, by decide⟩
  · have hk : k < 1 := (List.getElem?_eq_some_iff.1 hx).1
    obtain rfl : k = 0 := by omega
    have hx : x = [] := (Option.some.inj hx).symm
    subst hx
    exact ⟨x3, 0, none, 0, rfl, by rw [a3]; rfl, fun k x hx => by simp at hx, by decide⟩
set_option maxRecDepth 100000 in
set_option maxHeartbeats 24000000 in
theorem coverDoors_walk (n : NN) (v : NV) (w : World) (hN : LN w n v) (hO : okN n) (hT : TAB w) :
    Calls Tryz.prog 4 #[.agg (nnA n v)] w fun e w' => e = .returned (.bool true) ∧ Below w.heap.size w w' := by
  obtain ⟨R, hR⟩ : ∃ R : Int, (if pb (NetP n) = true then (0 : Int) else 90) = R := ⟨_, rfl⟩
  obtain ⟨pp, cp, pt, ct, pg, cg⟩ := v
  obtain ⟨np, hnp⟩ : ∃ np, n.ports.length = np := ⟨_, rfl⟩
  obtain ⟨nt, hnt⟩ : ∃ nt, n.tabs.length = nt := ⟨_, rfl⟩
  obtain ⟨ng, hng⟩ : ∃ ng, n.grds.length = ng := ⟨_, rfl⟩
  obtain ⟨bits, hbits⟩ : ∃ bits, n.bits = bits := ⟨_, rfl⟩
  obtain ⟨m, hm⟩ : ∃ m, (dAll n).length = m := ⟨_, rfl⟩
  have hmo : m ≤ 140737488351232 := by
    have h1 := dL_len n n.ports.length
    have h2 := hO.1
    have h3 : (dAll n).length ≤ (dL n n.ports.length).length := by unfold dAll; split <;> simp
    omega
  have hE : ∀ p1 c1 p2 c2 p3 c3, nnA n ⟨p1, c1, p2, c2, p3, c3⟩ = #[.int .i64 bits, .slice p1 np c1, .slice p2 nt c2, .slice p3 ng c3] := fun p1 c1 p2 c2 p3 c3 => by unfold nnA; rw [hnp, hnt, hng, hbits]
  rw [hE]
  obtain ⟨B, hB⟩ : ∃ B, w.heap.size = B := ⟨_, rfl⟩
  obtain ⟨W1, hW1⟩ : ∃ W1, w.alloc (.cells #[.int .i64 bits, .slice pp np cp, .slice pt nt ct, .slice pg ng cg] 26) = W1 := ⟨_, rfl⟩
  have b1 : Below w.heap.size w W1 := by rw [← hW1]; exact belAZ (Below.refl _ _) _
  have k1 : W1.heap[B]? = some (.cells #[.int .i64 bits, .slice pp np cp, .slice pt nt ct, .slice pg ng cg] 26 (0, 0)) := by rw [← hW1, ← hB]; exact alloc_getZ _ _
  have HC : Hid (∀ U, Below W1.heap.size W1 U → U.cell? ⟨B, 0, none⟩ = some (.int .i64 bits) ∧ U.cell? ⟨B, 1, none⟩ = some (.slice pp np cp) ∧ U.cell? ⟨B, 2, none⟩ = some (.slice pt nt ct) ∧ U.cell? ⟨B, 3, none⟩ = some (.slice pg ng cg)) := fun U hU => by
    have e1 := (cellsZ (keepZ hU k1)).1
    exact ⟨by rw [e1]; rfl, by rw [e1]; rfl, by rw [e1]; rfl, by rw [e1]; rfl⟩
  obtain ⟨x1, hx1⟩ : ∃ x1, W1.heap.size = x1 := ⟨_, rfl⟩
  obtain ⟨x2, hx2⟩ : ∃ x2, W1.heap.size + 1 = x2 := ⟨_, rfl⟩
  obtain ⟨x3, hx3⟩ : ∃ x3, W1.heap.size + 1 + 1 = x3 := ⟨_, rfl⟩
  obtain ⟨WX, hWX⟩ : ∃ WX, (((W1.alloc (.cells #[.slice none 0 0] 42)).alloc (.cells #[.string ⟨#[97, 46, 98]⟩, .int .i64 0, .bool true, .int .i64 (-1)] 38)).alloc (.cells #[.slice none 0 0] 47)) = WX := ⟨_, rfl⟩
  have bX : Below W1.heap.size W1 WX := by rw [← hWX]; exact belAZ (belAZ (belAZ (Below.refl _ _) _) _) _
  have HX0 : Hid (Calls Tryz.prog 9 #[(.agg #[.int .i64 1, .slice (some ⟨x2, 0, none⟩) 1 1, .slice (some ⟨x1, 0, none⟩) 1 1, .slice (some ⟨x3, 0, none⟩) 1 1])] WX fun e w' => ∃ p c, e = .returned (.tuple #[.slice p 1 c, .int .i64 0]) ∧ LI w' p [0] ∧ Below WX.heap.size WX w') := by
    have hz2 : (W1.alloc (.cells #[.slice none 0 0] 42)).heap.size = W1.heap.size + 1 := Array.size_push _
    have hz3 : ((W1.alloc (.cells #[.slice none 0 0] 42)).alloc (.cells #[.string ⟨#[97, 46, 98]⟩, .int .i64 0, .bool true, .int .i64 (-1)] 38)).heap.size = W1.heap.size + 1 + 1 := by
      show ((W1.heap.push _).push _).size = _
      rw [Array.size_push, Array.size_push]
    have h := xdoors_any nnX ⟨some ⟨x2, 0, none⟩, 1, some ⟨x1, 0, none⟩, 1, some ⟨x3, 0, none⟩, 1⟩ WX (lnX (by rw [← hWX, ← hx1]; exact keepZ (belAZ (belAZ (Below.refl _ _) _) _) (alloc_getZ _ _)) (by rw [← hWX, ← hx2, ← hz2]; exact keepZ (belAZ (Below.refl _ _) _) (alloc_getZ _ _)) (by rw [← hWX, ← hx3, ← hz3]; exact alloc_getZ _ _)) okX (hT.at (bel0Z b1 bX))
    refine Calls.mono h ?_
    rintro e w' ⟨p, c, he, ho, hb⟩
    rw [dAll_X, if_pos (pb_yes netP_X)] at he
    rw [dAll_X] at ho
    exact ⟨p, c, he, own_li ho rfl, hb⟩
  have HRM : Hid (∀ U, Below W1.heap.size W1 U → Calls Tryz.prog 6 #[.agg #[.int .i64 bits, .slice pp np cp, .slice pt nt ct, .slice pg ng cg]] U fun e w' => ∃ p1 c1 p2 c2 p3 c3 r1 d1 r2 d2 r3 d3, e = .returned (.tuple #[.agg #[.int .i64 bits, .slice p1 np c1, .slice p2 nt c2, .slice p3 ng c3], .agg #[.int .i64 bits, .slice r1 np d1, .slice r2 nt d2, .slice r3 ng d3]]) ∧ (GVN w' n ⟨p1, c1, p2, c2, p3, c3⟩ ∧ KPN w' n ⟨r1, d1, r2, d2, r3, d3⟩) ∧ Below U.heap.size U w') := fun U hU => by
    have h := roomy_any n ⟨pp, cp, pt, ct, pg, cg⟩ U (hN.below (bel0Z b1 hU)) hO
    rw [hE] at h
    refine h.mono ?_
    rintro e w' ⟨⟨p1, c1, p2, c2, p3, c3⟩, ⟨q1, d1, q2, d2, q3, d3⟩, he, hg, hk, hb⟩
    rw [hE, hE] at he
    exact ⟨p1, c1, p2, c2, p3, c3, q1, d1, q2, d2, q3, d3, he, ⟨hg, hk⟩, hb⟩
  have HVG : Hid (∀ U p1 c1 p2 c2 p3 c3, Below W1.heap.size W1 U → GVN U n ⟨p1, c1, p2, c2, p3, c3⟩ → Calls Tryz.prog 9 #[.agg #[.int .i64 bits, .slice p1 np c1, .slice p2 nt c2, .slice p3 ng c3]] U fun e w' => ∃ p c, e = .returned (.tuple #[.slice p m c, .int .i64 R]) ∧ LI w' p (dAll n) ∧ Below U.heap.size U w') := fun U p1 c1 p2 c2 p3 c3 hU hg => by
    have h := xdoors_any n ⟨p1, c1, p2, c2, p3, c3⟩ U hg.ln hO (hT.at (bel0Z b1 hU))
    rw [hE] at h
    refine Calls.mono h ?_
    rintro e w' ⟨p, c, he, ho, hb⟩
    rw [hm, hR] at he
    exact ⟨p, c, he, own_li ho rfl, hb⟩
  have HVD : Hid (∀ U, Below W1.heap.size W1 U → Calls Tryz.prog 10 #[.agg #[.int .i64 bits, .slice pp np cp, .slice pt nt ct, .slice pg ng cg]] U fun e w' => ∃ p c, e = .returned (.tuple #[.slice p m c, .int .i64 R]) ∧ LI w' p (dAll n) ∧ Below U.heap.size U w') := fun U hU => by
    have h := ydoors_any n ⟨pp, cp, pt, ct, pg, cg⟩ U (hN.below (bel0Z b1 hU)) hO
    rw [hE] at h
    refine Calls.mono h ?_
    rintro e w' ⟨p, c, he, ho, hb⟩
    rw [hm, hR] at he
    exact ⟨p, c, he, own_li ho rfl, hb⟩
  have HEQ : Hid (∀ (U : World) p q c1 c2, LI U p (dAll n) → LI U q (dAll n) → Calls Tryz.prog 11 #[.slice p m c1, .slice q m c2] U fun e w' => e = .returned (.bool true) ∧ Below U.heap.size U w') := fun U p q c1 c2 h1 h2 => eqi_any (dAll n) p q m c1 c2 U hm h1 h2 hmo
  have HEQ1 : Hid (∀ (U : World) p q c1 c2, LI U p [0] → LI U q [0] → Calls Tryz.prog 11 #[.slice p 1 c1, .slice q 1 c2] U fun e w' => e = .returned (.bool true) ∧ Below U.heap.size U w') := fun U p q c1 c2 h1 h2 => eqi_any [0] p q 1 c1 c2 U rfl h1 h2 (by decide)
  have HMK : Hid (∀ U p1 c1 p2 c2 p3 c3 r1 d1 r2 d2 r3 d3, Below W1.heap.size W1 U → GVN U n ⟨p1, c1, p2, c2, p3, c3⟩ → KPN U n ⟨r1, d1, r2, d2, r3, d3⟩ → Calls Tryz.prog 8 #[.agg #[.int .i64 bits, .slice p1 np c1, .slice p2 nt c2, .slice p3 ng c3], .agg #[.int .i64 bits, .slice r1 np d1, .slice r2 nt d2, .slice r3 ng d3], .agg #[.int .i64 bits, .slice pp np cp, .slice pt nt ct, .slice pg ng cg]] U fun e w' => e = .returned (.bool true) ∧ Below U.heap.size U w') := fun U p1 c1 p2 c2 p3 c3 q1 d1 q2 d2 q3 d3 hU hg hk => by
    have h := marked_any n ⟨p1, c1, p2, c2, p3, c3⟩ ⟨q1, d1, q2, d2, q3, d3⟩ ⟨pp, cp, pt, ct, pg, cg⟩ U hg hk (hN.below (bel0Z b1 hU)) hO
    rw [hE, hE, hE] at h
    exact h
  have HF : Hid (∀ U, Below W1.heap.size W1 U → Below w.heap.size w U) := fun U hU => bel0Z b1 hU
  have HB1 := hideL hB
  have HW := hideL hW1
  have HWX := hideL hWX
  have HX1 := hideL hx1
  have HX2 := hideL hx2
  have HX3 := hideL hx3
  have HBX := hideL bX
  clear hR hnp hnt hng hbits hE hB hW1 b1 k1 hN hO hT hm hWX hx1 hx2 hx3 bX
  obtain ⟨q0, q1, q2, q3⟩ := HC.out W1 (Below.refl _ _)
  go_enter Tryz.func4, Tryz.ntmps4
  go_upto_region 1 with fail
  rw [HW.out, HB1.out]
  go_wp2_with fail
  rw [HWX.out, HX3.out, HX2.out, HX1.out]
  refine (HX0.out).mono ?_
  rintro e W2 ⟨ph, ch, rfl, hlh, c2⟩
  have c2 := bel0Z HBX.out c2
  have HLH := hideL hlh
  clear q0 q1 q2 q3 hlh
  obtain ⟨q0, q1, q2, q3⟩ := HC.out W2 c2
  go_upto_region 2 with fail
  go_wp2_with fail
  refine (HRM.out W2 c2).mono ?_
  rintro e W4 ⟨p1, c1, p2, c2', p3, c3, r1, d1, r2, d2, r3, d3, rfl, hGK, c4⟩
  have c4' := bel0Z c2 c4
  have HLH := hideL (HLH.out.below c4)
  clear q0 q1 q2 q3 c2 c4
  obtain ⟨X, hX⟩ : ∃ X, W4.heap.size = X := ⟨_, rfl⟩
  obtain ⟨Y, hY⟩ : ∃ Y, W4.heap.size + 1 = Y := ⟨_, rfl⟩
  obtain ⟨W5, hW5⟩ : ∃ W, (W4.alloc (.cells #[.int .i64 bits, .slice p1 np c1, .slice p2 nt c2', .slice p3 ng c3] 26)).alloc (.cells #[.int .i64 bits, .slice r1 np d1, .slice r2 nt d2, .slice r3 ng d3] 26) = W := ⟨_, rfl⟩
  have b5 : Below W4.heap.size W4 W5 := by rw [← hW5]; exact belAZ (belAZ (Below.refl _ _) _) _
  have kX : W5.heap[X]? = some (.cells #[.int .i64 bits, .slice p1 np c1, .slice p2 nt c2', .slice p3 ng c3] 26 (0, 0)) := by rw [← hW5, ← hX]; exact keepZ (belAZ (Below.refl _ _) _) (alloc_getZ _ _)
  have kY : W5.heap[Y]? = some (.cells #[.int .i64 bits, .slice r1 np d1, .slice r2 nt d2, .slice r3 ng d3] 26 (0, 0)) := by
    rw [← hW5, ← hY, show W4.heap.size + 1 = (W4.alloc (.cells #[.int .i64 bits, .slice p1 np c1, .slice p2 nt c2', .slice p3 ng c3] 26)).heap.size from (Array.size_push _).symm]
    exact alloc_getZ _ _
  have c5 := bel0Z c4' b5
  have HD : Hid (∀ U, Below W5.heap.size W5 U → (U.cell? ⟨B, 0, none⟩ = some (.int .i64 bits) ∧ U.cell? ⟨B, 1, none⟩ = some (.slice pp np cp) ∧ U.cell? ⟨B, 2, none⟩ = some (.slice pt nt ct) ∧ U.cell? ⟨B, 3, none⟩ = some (.slice pg ng cg)) ∧ (U.cell? ⟨X, 0, none⟩ = some (.int .i64 bits) ∧ U.cell? ⟨X, 1, none⟩ = some (.slice p1 np c1) ∧ U.cell? ⟨X, 2, none⟩ = some (.slice p2 nt c2') ∧ U.cell? ⟨X, 3, none⟩ = some (.slice p3 ng c3)) ∧ (U.cell? ⟨Y, 0, none⟩ = some (.int .i64 bits) ∧ U.cell? ⟨Y, 1, none⟩ = some (.slice r1 np d1) ∧ U.cell? ⟨Y, 2, none⟩ = some (.slice r2 nt d2) ∧ U.cell? ⟨Y, 3, none⟩ = some (.slice r3 ng d3)) ∧ Below W1.heap.size W1 U ∧ GVN U n ⟨p1, c1, p2, c2', p3, c3⟩ ∧ KPN U n ⟨r1, d1, r2, d2, r3, d3⟩ ∧ LI U ph [0]) := fun U hU => by
    have e1 := (cellsZ (keepZ hU kX)).1
    have e2 := (cellsZ (keepZ hU kY)).1
    exact ⟨HC.out U (bel0Z c5 hU), ⟨by rw [e1]; rfl, by rw [e1]; rfl, by rw [e1]; rfl, by rw [e1]; rfl⟩, ⟨by rw [e2]; rfl, by rw [e2]; rfl, by rw [e2]; rfl, by rw [e2]; rfl⟩, bel0Z c5 hU, hGK.1.below (bel0Z b5 hU), hGK.2.below (bel0Z b5 hU), HLH.out.below (bel0Z b5 hU)⟩
  have HW5 := hideL hW5
  have HX := hideL hX
  have HY := hideL hY
  clear hW5 hX hY b5 kX kY c5 c4' hGK
  go_upto_region 3 with fail
  rw [HW5.out, HY.out, HX.out]
  obtain ⟨⟨q0, q1, q2, q3⟩, ⟨s0, s1, s2, s3⟩, ⟨y0, y1, y2, y3⟩, e5, g5, k5, l5⟩ := HD.out W5 (Below.refl _ _)
  go_wp2_with fail
  refine (HVG.out W5 _ _ _ _ _ _ e5 g5).mono ?_
  rintro e W6 ⟨pl, cl, rfl, hl6, b6⟩
  clear q0 q1 q2 q3 s0 s1 s2 s3 y0 y1 y2 y3 e5 g5 k5 l5
  obtain ⟨⟨q0, q1, q2, q3⟩, ⟨s0, s1, s2, s3⟩, ⟨y0, y1, y2, y3⟩, e5, g5, k5, l5⟩ := HD.out W6 b6
  go_wp2_with fail
  refine (HVD.out W6 e5).mono ?_
  rintro e W7 ⟨pm, cm, rfl, hl7, b7⟩
  have b7' := bel0Z b6 b7
  have hl6 := hl6.below b7
  clear q0 q1 q2 q3 s0 s1 s2 s3 y0 y1 y2 y3 e5 g5 k5 l5 b6 b7
  obtain ⟨W8, hW8⟩ : ∃ W8, W7.alloc (.cells #[.int .i64 0] 3) = W8 := ⟨_, rfl⟩
  have b8 : Below W7.heap.size W7 W8 := by rw [← hW8]; exact belAZ (Below.refl _ _) _
  obtain ⟨z, hz⟩ : ∃ z, W7.heap.size = z := ⟨_, rfl⟩
  have kz : W8.heap[z]? = some (.cells #[.int .i64 0] 3 (0, 0)) := by rw [← hW8, ← hz]; exact alloc_getZ _ _
  have hlz : LI W8 (some ⟨z, 0, none⟩) [0] := fun k x hx => by
    have hk : k < 1 := (List.getElem?_eq_some_iff.1 hx).1
    obtain rfl : k = 0 := by omega
    have hx : x = 0 := (Option.some.inj hx).symm
    subst hx
    exact ⟨z, 0, rfl, by rw [(cellsZ kz).1]; rfl⟩
  have b8' := bel0Z b7' b8
  have HL6 := hideL (hl6.below b8)
  have HL7 := hideL (hl7.below b8)
  have HLZ := hideL hlz
  have HB8 := hideL b8'
  have HW8 := hideL hW8
  have HZ := hideL hz
  clear hl6 hl7 hlz b8 kz b7' b8' hW8 hz
  go_wp2_with fail
  rw [HW8.out, HZ.out]
  obtain ⟨⟨q0, q1, q2, q3⟩, ⟨s0, s1, s2, s3⟩, ⟨y0, y1, y2, y3⟩, e5, g5, k5, l5⟩ := HD.out W8 HB8.out
  refine (HEQ1.out W8 _ _ _ _ l5 HLZ.out).mono ?_
  rintro e W9 ⟨rfl, b9⟩
  have b9' := bel0Z HB8.out b9
  have HL6 := hideL (HL6.out.below b9)
  have HL7 := hideL (HL7.out.below b9)
  clear q0 q1 q2 q3 s0 s1 s2 s3 y0 y1 y2 y3 e5 g5 k5 l5 b9
  go_wp2_with fail
  refine (HEQ.out W9 _ _ _ _ HL6.out HL7.out).mono ?_
  rintro e WA ⟨rfl, bA⟩
  have bA' := bel0Z b9' bA
  clear b9' bA
  obtain ⟨⟨q0, q1, q2, q3⟩, ⟨s0, s1, s2, s3⟩, ⟨y0, y1, y2, y3⟩, e5, g5, k5, l5⟩ := HD.out WA bA'
  go_wp2_with fail
  refine (HMK.out WA _ _ _ _ _ _ _ _ _ _ _ _ e5 g5 k5).mono ?_
  rintro e WB ⟨rfl, bB⟩
  have HFF := hideL (HF.out WB (bel0Z e5 bB))
  clear q0 q1 q2 q3 s0 s1 s2 s3 y0 y1 y2 y3 e5 g5 k5 l5 bA' bB
  go_wp2_with fail
  go_ret
  exact ⟨rfl, HFF.out⟩
end Go.Proofs.YthonobihcahfiaaGreatDoor.Nt
