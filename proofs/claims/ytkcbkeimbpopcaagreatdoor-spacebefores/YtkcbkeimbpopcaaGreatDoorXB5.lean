import Derived.Test.YtkcbkeimbpopcaaGreatDoorXB1
import Derived.Test.YtkcbkeimbpopcaaGreatDoorXBT
import Derived.Test.YtkcbkeimbpopcaaGreatDoorXBQ
namespace Go.Proofs.YtkcbkeimbpopcaaGreatDoor
open Go.RowKit Go.Shelf
theorem dbefore_D (a r D : List UInt8) (q : Bool) (w : World) (ga : good a = true) (gr : good r = true) (hf : fitB a r = true) (hD : beT a r = D) (hq : agB a r = q) : Calls Tryz.prog 68 #[.string ⟨a.toArray⟩, .string ⟨r.toArray⟩] w fun e w' => e = .returned (.tuple #[.string ⟨D.toArray⟩, .bool q]) ∧ Below w.heap.size w w' := by
  subst hD hq
  exact dbefore_any a r w ga gr hf
theorem fit_mkB {a r : List UInt8} (h : a.length = r.length) (hn : a ≠ []) : fitB a r = true := fit_of hn h
set_option maxRecDepth 100000 in
set_option maxHeartbeats 8000000 in
theorem dBefore_any (b : Int) (A : List (List UInt8 × List (List UInt8))) (r : List UInt8) (V1 : Value) (w : World) (h1 : RSR w V1 A) (hs1 : szC A ≤ 128) (hg1 : gdC A) (gr : good r = true) (hw : ∀ t ∈ A, FTm t ∧ (t.1.length : Int) = b ∧ t.1 ≠ []) :
    Calls Tryz.prog 28 #[.agg #[.int .i64 b, V1], .string ⟨r.toArray⟩] w fun e w' => ∃ V, e = .returned (.tuple #[.agg #[.int .i64 (bvB b r), V], .int .i64 (bvE b r)]) ∧ RSR w' V (bvT b A r) ∧ Below w.heap.size w w' := by
  obtain ⟨iT, hiT, hzT0, hzT1, hzT2⟩ := info_parts info_rtm
  obtain ⟨iS, hiS, hzS0, hzS1, hzS2⟩ := info_parts info_strY
  have hl1 := szC_len A
  obtain ⟨Z1, p1, k1, rfl, rfl, r1, t1⟩ := h1
  rw [List.length_map] at hl1
  have HG1 : Hid (∀ z ∈ Z1, IRSt w z.q z.L ∧ z.L.length ≤ 128 ∧ good z.c = true ∧ (∀ x ∈ z.L, good x = true) ∧ FTm z.cont ∧ (z.c.length : Int) = b ∧ z.c ≠ []) := fun z hz => by
    have hm := szC_mem z.cont (List.mem_map_of_mem (f := ZT.cont) hz)
    have e : z.cont.2 = z.L := rfl
    rw [e] at hm
    have h2 := hg1 z.cont (List.mem_map_of_mem (f := ZT.cont) hz)
    exact ⟨t1 z hz, by omega, h2.1, h2.2, hw z.cont (List.mem_map_of_mem (f := ZT.cont) hz)⟩
  have HFR : Hid (frmD (topC (stD (bfN r (Z1.map ZT.cont)))) = (ordT (topC (stl (bfN r (Z1.map ZT.cont)))))) := frm_eq _
  obtain ⟨n1, hn1⟩ : ∃ n, Z1.length = n := ⟨_, rfl⟩
  rw [hn1] at hl1 ⊢
  obtain ⟨wA, hwA⟩ : ∃ wA, ((w.alloc (.cells #[.int .i64 b, .slice p1 n1 k1] 27 (0, 0))).alloc (.cells #[.int .i64 0, .slice none 0 0] 27 (0, 0))) = wA := ⟨_, rfl⟩
  have hBA : Below w.heap.size w wA := by rw [← hwA]; exact belA (belA (Below.refl _ _) _) _
  have d1 : wA.heap[w.heap.size]? = some (.cells #[.int .i64 b, .slice p1 n1 k1] 27 (0, 0)) := by rw [← hwA]; exact alw_0 _ _ _
  have d3 : wA.heap[w.heap.size + 1]? = some (.cells #[.int .i64 0, .slice none 0 0] 27 (0, 0)) := by rw [← hwA]; exact alw_1 _ _ _
  have HD : Hid (∀ W, Below wA.heap.size wA W → W.heap[w.heap.size]? = some (.cells #[.int .i64 b, .slice p1 n1 k1] 27 (0, 0)) ∧ W.heap[w.heap.size + 1]? = some (.cells #[.int .i64 0, .slice none 0 0] 27 (0, 0)) ∧ IRR W p1 Z1 ∧ Below w.heap.size w W) := fun W hW => ⟨keepblk3 hW d1, keepblk3 hW d3, r1.later (bel0 hBA hW), bel0 hBA hW⟩
  obtain ⟨hc1, -⟩ := cells_block d1
  have HN : Hid (Z1.length = n1 ∧ n1 ≤ 128) := ⟨hn1, by omega⟩
  have hb1 : n1 ≤ 128 := by omega
  have GR : Hid (good r = true) := gr
  have h2 : (⟨r.toArray⟩ : ByteArray).size = r.length := by simp [ByteArray.size]
  obtain ⟨q1, hq1⟩ : ∃ q, (b == 0) = q := ⟨_, rfl⟩
  obtain ⟨q2, hq2⟩ : ∃ q, ((r.length : Int) != b) = q := ⟨_, rfl⟩
  have hE : bvE b r = if (q1 || q2) = true then 11 else 0 := by
    unfold bvE
    have e : (!(b == 0) && (b == (r.length : Int))) = !(q1 || q2) := by
      rw [← hq1, ← hq2, Bool.not_or, bne, Bool.not_not]
      congr 1
      rw [Bool.eq_iff_iff, beq_iff_eq, beq_iff_eq]
      exact eq_comm
    rw [e]
    cases (q1 || q2) <;> rfl
  have HB0 : Hid (bvB b r = (if bvE b r = 0 then b else 0) ∧ bvT b (Z1.map ZT.cont) r = if bvE b r = 0 then (ordT (topC (stl (bfN r (Z1.map ZT.cont))))) else []) := ⟨rfl, rfl⟩
  by_cases hqq : (q1 || q2) = true
  · have e1 : bvE b r = 11 := by rw [hE, if_pos hqq]
    have e2 : bvB b r = 0 := by rw [HB0.out.1, e1]; rfl
    have e3 : bvT b (Z1.map ZT.cont) r = [] := by rw [HB0.out.2, e1]; rfl
    rw [e1, e2, e3]
    clear hBA d1 r1 t1 hs1 hg1 hn1 hl1 gr hE e1 e2 e3 hw
    have HP : Hid (((wA.setCell ⟨w.heap.size + 1, 0, none⟩ (.int .i64 0)).setCell ⟨w.heap.size + 1, 1, none⟩ (.slice none 0 0)).heap[w.heap.size + 1]? = some (.cells #[.int .i64 0, .slice none 0 0] 27 (0, 0)) ∧ Below w.heap.size w ((wA.setCell ⟨w.heap.size + 1, 0, none⟩ (.int .i64 0)).setCell ⟨w.heap.size + 1, 1, none⟩ (.slice none 0 0))) := ⟨set2_get _ _ d3, ((HD.out wA (Below.refl _ _)).2.2.2.setCell (by simp) _).setCell (by simp) _⟩
    obtain ⟨hc3, hf3⟩ := cells_block d3
    clear d3
    cases q1 <;> cases q2
    · cases hqq
    all_goals
      go_enter Tryz.func28, Tryz.ntmps28
      go_wp2_with fail
      refine bodyPost_ret (v := .tuple #[.agg #[.int .i64 0, .slice none 0 0], .int .i64 11]) (res_rs2 _ _ (w.heap.size + 1) _ _ Tryz.results28 rfl HP.out.1) rfl ?_
      exact ⟨_, rfl, RSR_nil _, HP.out.2⟩
  · have e1 : bvE b r = 0 := by rw [hE, if_neg hqq]
    have e2 : bvB b r = b := by rw [HB0.out.1, e1]; rfl
    have e3 : bvT b (Z1.map ZT.cont) r = (ordT (topC (stl (bfN r (Z1.map ZT.cont))))) := by rw [HB0.out.2, e1]; rfl
    rw [e1, e2, e3]
    obtain ⟨rfl, rfl⟩ : q1 = false ∧ q2 = false := by cases q1 <;> cases q2 <;> simp_all
    have HRL : Hid ((r.length : Int) = b) := by
      unfold Hid
      simpa [bne] using hq2
    clear hBA d1 d3 r1 t1 hs1 hg1 hn1 hl1 gr hE e1 e2 e3 hqq HB0 hw
    go_enter Tryz.func28, Tryz.ntmps28
    go_wp2_with fail
    have HS0 : Hid (DZ wA (.slice none 0 0) [] (stD (bfN r ((Z1.map ZT.cont).take 0))) wA) := ⟨by simp [bfN, stD], World.ownsRow_nil _ _ _ _, (fun z hz => by cases hz), Below.refl _ _⟩
    clear hwA hc1 h2 hq1 hq2
    go_loopw [6, 7] (fun v6 v7 wr => ∃ (k : Nat) (Z : List ZT), v7 = .int .i64 (k : Int) ∧ k ≤ n1 ∧ Hid (DZ wA v6 Z (stD (bfN r ((Z1.map ZT.cont).take k))) wr)) (fun _ v7 _ => n1 - (intOf v7).toNat)
    case atStart => exact ⟨0, [], rfl, Nat.zero_le _, HS0⟩
    case round =>
      clear HS0
      obtain ⟨k, Z, rfl, hk, HDZ⟩ := hrel
      obtain ⟨gg1, -, iR1, hBw⟩ := HD.out wr HDZ.out.2.2.2
      have hc4 := (cells_block gg1).1
      by_cases hlt : k < n1
      · have j1 : (k : Int) < (n1 : Int) := by omega
        have j0 : (0 : Int) ≤ (k : Int) := by omega
        obtain ⟨za, hza⟩ : ∃ z, Z1[k]? = some z := ⟨_, List.getElem?_eq_getElem (by rw [HN.out.1]; exact hlt)⟩
        obtain ⟨ac, aq, ak, aL⟩ := za
        have hzA := HG1.out _ (List.mem_of_getElem? hza)
        simp only at hzA
        obtain ⟨ga, oa, rfl, x0, x1⟩ := iR1 wr (Below.refl _ _) k _ hza
        simp only at x0 x1
        have hft : FTm (ac, aL) := hzA.2.2.2.2.1
        have hal : ac.length = r.length := by have h5 := HRL.out; have h6 := hzA.2.2.2.2.2.1; omega
        have hfa : fitB ac r = true := fit_mkB hal hzA.2.2.2.2.2.2
        have HZA : Hid (Z1[k]? = some ⟨ac, aq, ak, aL⟩ ∧ IRSt w aq aL ∧ aL.length ≤ 128 ∧ good ac = true ∧ (∀ x ∈ aL, good x = true) ∧ ∀ x ∈ aL, fitB x r = true) := ⟨hza, hzA.1, hzA.2.1, hzA.2.2.1, hzA.2.2.2.1, fun x hx => by
          have h7 := hft.wi x hx
          have h8 : fitB x ac = true := by
            unfold wiB at h7
            exact (Bool.and_eq_true_iff.1 h7).1
          have h9 := fitB_len h8
          refine fit_mkB (by omega) (fun e => ?_)
          rw [e] at h9
          apply hzA.2.2.2.2.2.2
          exact List.eq_nil_of_length_eq_zero (by simpa using h9.symm)⟩
        have hst0 := bfN_step (r := r) (A := Z1.map ZT.cont) (k := k) (a := (ac, aL)) (by rw [List.getElem?_map, hza]; rfl)
        simp only at hst0
        obtain ⟨D, hD⟩ : ∃ D, beT ac r = D := ⟨_, rfl⟩
        obtain ⟨q, hq⟩ : ∃ q, agB ac r = q := ⟨_, rfl⟩
        have gD : Hid (good D = true) := by unfold Hid; rw [← hD]; exact good_beT _ _ hzA.2.2.1 GR.out
        have HBF : Hid (∀ W, Calls Tryz.prog 68 #[.string ⟨ac.toArray⟩, .string ⟨r.toArray⟩] W fun e w' => e = .returned (.tuple #[.string ⟨D.toArray⟩, .bool q]) ∧ Below W.heap.size W w') := fun W => dbefore_D ac r D q W hzA.2.2.1 GR.out hfa hD hq
        rw [hD, hq] at hst0
        have HST : Hid (bfN r ((Z1.map ZT.cont).take (k + 1)) = bfN r ((Z1.map ZT.cont).take k) ++ (if q = true then [(D, bfL r aL)] else [])) := hst0
        obtain ⟨na, hna⟩ : ∃ n, aL.length = n := ⟨_, rfl⟩
        rw [hna] at x1
        have HNA : Hid (aL.length = na ∧ na ≤ 128) := ⟨hna, by have := hzA.2.1; omega⟩
        have hb2 : na ≤ 128 := HNA.out.2
        clear hza hzA gg1 iR1 hBw hst0 hD hq hna hft hal hfa
        go_wp2_with fail
        refine (HBF.out _).mono ?_
        rintro e w5 ⟨rfl, hb5⟩
        have HDZ5 : Hid (DZ wA u6 Z (stD (bfN r ((Z1.map ZT.cont).take k))) w5) := HDZ.out.below hb5
        obtain ⟨gg1, -, iR1, -⟩ := HD.out w5 HDZ5.out.2.2.2
        have hc5 := (cells_block gg1).1
        clear hc4 x0 x1 HBF HDZ hb5
        cases q with
        | false =>
          have HX : Hid (DZ wA u6 Z (stD (bfN r ((Z1.map ZT.cont).take (k + 1)))) w5) := by
            unfold Hid
            rw [HST.out, if_neg (by simp), List.append_nil]
            exact HDZ5.out
          clear gg1 iR1
          go_wp2_with fail
          go_roundw
          case rel => exact ⟨k + 1, Z, by go_num, by omega, HX⟩
          case measure => simp [intOf]; omega
        | true =>
          go_wp2_with fail
          have HS1 : Hid (w5.ownsRow w5.heap.size 9 1 (.slice none 0 0) (bfL r (aL.take 0)).length (stx (bfL r (aL.take 0))) ∧ Below w5.heap.size w5 w5) := ⟨World.ownsRow_nil _ _ _ _, Below.refl _ _⟩
          clear gg1 iR1 hc5
          go_loopw [10, 11] (fun v10 v11 ws => ∃ j : Nat, v11 = .int .i64 (j : Int) ∧ j ≤ na ∧ Hid (ws.ownsRow w5.heap.size 9 1 v10 (bfL r (aL.take j)).length (stx (bfL r (aL.take j))) ∧ Below w5.heap.size w5 ws)) (fun _ v11 _ => na - (intOf v11).toNat)
          case atStart => exact ⟨0, rfl, Nat.zero_le _, HS1⟩
          case round =>
            clear HS1
            obtain ⟨j, rfl, hj, HL⟩ := hrel
            have hBj := bel0 HDZ5.out.2.2.2 HL.out.2
            obtain ⟨gg1, -, iR1, hBw⟩ := HD.out wr hBj
            have hc5 := (cells_block gg1).1
            obtain ⟨ga2, oa2, e2, x0, x1⟩ := iR1 wr (Below.refl _ _) k _ HZA.out.1
            injection e2 with e2
            injection e2 with e3 e4
            subst e3 e4
            simp only at x0 x1
            rw [HNA.out.1] at x1
            by_cases hltj : j < na
            · have r1 : (j : Int) < (na : Int) := by omega
              have r0 : (0 : Int) ≤ (j : Int) := by omega
              obtain ⟨x, hx⟩ : ∃ z, aL[j]? = some z := ⟨_, List.getElem?_eq_getElem (by rw [HNA.out.1]; exact hltj)⟩
              have hxm := List.mem_of_getElem? hx
              obtain ⟨gx, ox, rfl, y0⟩ := HZA.out.2.1 wr hBw j _ hx
              have hst1 := bfL_step (r := r) hx
              obtain ⟨Dx, hDx⟩ : ∃ D, beT x r = D := ⟨_, rfl⟩
              obtain ⟨qx, hqx⟩ : ∃ q, agB x r = q := ⟨_, rfl⟩
              have HBX : Hid (∀ W, Calls Tryz.prog 68 #[.string ⟨x.toArray⟩, .string ⟨r.toArray⟩] W fun e w' => e = .returned (.tuple #[.string ⟨Dx.toArray⟩, .bool qx]) ∧ Below W.heap.size W w') := fun W => dbefore_D x r Dx qx W (HZA.out.2.2.2.2.1 x hxm) GR.out (HZA.out.2.2.2.2.2 x hxm) hDx hqx
              rw [hDx, hqx] at hst1
              obtain ⟨Lj, hLj⟩ : ∃ l, bfL r (aL.take j) = l := ⟨_, rfl⟩
              have hlm : Lj.length ≤ 128 := by
                have h7 := bfL_len r (aL.take j)
                rw [List.length_take, hLj] at h7
                have h8 := HNA.out.2
                omega
              rw [hLj] at hst1 HL
              have HST1 : Hid (bfL r (aL.take (j + 1)) = Lj ++ (if qx = true then [Dx] else [])) := hst1
              clear hx hxm hst1 hDx hqx hLj gg1 iR1 hBw hBj
              go_wp2_with fail
              refine (HBX.out _).mono ?_
              rintro e w6 ⟨rfl, hb6⟩
              clear hc5 x0 x1 y0 HBX
              have o6 := own_belQ HL.out.1 hb6
              have hB6 := bel0 HL.out.2 hb6
              cases qx with
              | false =>
                have HX : Hid (w6.ownsRow w5.heap.size 9 1 u10 (bfL r (aL.take (j + 1))).length (stx (bfL r (aL.take (j + 1)))) ∧ Below w5.heap.size w5 w6) := by
                  unfold Hid
                  rw [HST1.out, if_neg (by simp), List.append_nil]
                  exact ⟨o6, hB6⟩
                clear o6 hB6 hb6
                go_wp2_with fail
                go_roundw
                case rel => exact ⟨j + 1, by go_num, by omega, HX⟩
                case measure => simp [intOf]; omega
              | true =>
                have hs6 := hB6.size
                clear hb6
                go_wp2_with (at_builtin; refine wpList_append_own _ rfl _ _ 40 rfl w5.heap.size 9 iS _ 1 16 Tryz.underlying40 hiS hzS0 hzS1 hzS2 rfl (by decide) _ _ _ rfl (o6.alloc _) ⟨_, 0, none⟩ 1 1 [.string ⟨Dx.toArray⟩] rfl rfl (World.news_of_block (cs := #[.string ⟨Dx.toArray⟩]) (t := 9) (fr := (0, 0)) (alloc_get _ _)) (by simp [Value.oneCell']) (by unfold maxLen; omega) (by omega) (by simp; omega) ?_; intro v8 w8 o8 g8 _)
                have HX : Hid (w8.ownsRow w5.heap.size 9 1 v8 (bfL r (aL.take (j + 1))).length (stx (bfL r (aL.take (j + 1)))) ∧ Below w5.heap.size w5 w8) := by
                  unfold Hid
                  rw [HST1.out, if_pos (by first | rfl | trivial), List.length_append]
                  refine ⟨?_, (belA hB6 _).grown g8 (by simp; omega) (fun b e => (o6.lt b e).1)⟩
                  have e5 : stx (Lj ++ [Dx]) = stx Lj ++ [.string ⟨Dx.toArray⟩] := by simp [stx]
                  rw [e5]
                  exact o8
                clear o6 o8 g8 hB6
                go_wp2_with fail
                go_roundw
                case rel => exact ⟨j + 1, by go_num, by omega, HX⟩
                case measure => simp [intOf]; omega
            · have r1 : ¬ (j : Int) < (na : Int) := by omega
              have e5 : aL.take j = aL := List.take_of_length_le (by rw [HNA.out.1]; omega)
              rw [e5] at HL
              obtain ⟨wl, rfl⟩ : ∃ wl, wl = wr := ⟨wr, rfl⟩
              obtain ⟨p9, c9, rfl⟩ := shapeQ1 HL.out.1
              have gBL : ∀ x ∈ bfL r aL, good x = true := bfL_good GR.out HZA.out.2.2.2.2.1
              have hbl : (bfL r aL).length ≤ 128 := by have h7 := bfL_len r aL; have h8 := HZA.out.2.2.1; omega
              have HTE := term_any D (bfL r aL) (bfL r aL).length p9 c9 wl rfl (by omega) gD.out gBL (IRSt_own HL.out.1 rfl)
              have HDL : Hid (DZ wA u6 Z (stD (bfN r ((Z1.map ZT.cont).take k))) wl) := HDZ5.out.below HL.out.2
              obtain ⟨nb, hnb⟩ : ∃ n, (bfL r aL).length = n := ⟨_, rfl⟩
              rw [hnb] at HTE hbl ⊢
              have HTT : Hid (Calls Tryz.prog 58 #[.string ⟨D.toArray⟩, .slice p9 nb c9] wl _) := HTE
              have HGB : Hid (∀ x ∈ bfL r aL, good x = true) := gBL
              have HNB : Hid ((bfL r aL).length = nb) := hnb
              clear HTE gBL gg1 iR1 hBw hBj HL HDZ5 e5 hnb
              go_wp2_with fail
              refine HTT.out.mono ?_
              rintro e w8 ⟨hb8, ⟨hso, rfl⟩ | ⟨R, v, hso, rfl, o8⟩⟩
              · have HX : Hid (∀ o : Obj, DZ wA u6 Z (stD (bfN r ((Z1.map ZT.cont).take (k + 1)))) (w8.alloc o)) := fun o => by
                  rw [HST.out, if_pos (by first | rfl | trivial), stD_app, stD_sing, hso]
                  show DZ wA u6 Z (_ ++ []) _
                  rw [List.append_nil]
                  exact HDL.out.below (belA hb8 _)
                clear hso hb8 HTT hc5 x0 x1 HDL
                go_wp2_with fail
                go_roundw
                case rel => exact ⟨k + 1, Z, by go_num, by omega, HX.out _⟩
                case measure => simp [intOf]; omega
              · obtain ⟨S, hS⟩ : ∃ S, srtT R = S := ⟨_, rfl⟩
                obtain ⟨nS, hnS⟩ : ∃ nS, R.length = nS := ⟨_, rfl⟩
                rw [hnS, hS] at o8
                have HSL : Hid (S.length = nS) := by unfold Hid; rw [← hS, srtT_len, hnS]
                have hnS2 : nS ≤ 256 := by
                  have h7 := setO_len hso
                  have h8 := HNB.out
                  omega
                have HSG : Hid (good D = true ∧ ∀ t ∈ S, good t = true) := ⟨gD.out, fun t ht => by
                  rw [← hS] at ht
                  have h1 := (srtT_perm R).mem_iff.1 ht
                  have h2 := (put_some hso).1
                  have h3 : t ∈ putL (lesL D (bfL r aL)) := by rw [h2]; exact (srtT_perm R).mem_iff.2 h1
                  exact lesL_good gD.out HGB.out t (putL_mem h3)⟩
                have HST2 : Hid (stD (bfN r ((Z1.map ZT.cont).take (k + 1))) = stD (bfN r ((Z1.map ZT.cont).take k)) ++ [(D, S)]) := by
                  unfold Hid
                  rw [HST.out, if_pos (by first | rfl | trivial), stD_app, stD_sing, hso, ← hS]
                obtain ⟨pv, cv, rfl⟩ := shapeQ1 o8
                obtain ⟨X, hX⟩ : ∃ X, w8.alloc (.cells #[.string ⟨D.toArray⟩, .slice pv nS cv] 80 (0, 0)) = X := ⟨_, rfl⟩
                have hgX : X.heap[w8.heap.size]? = some (.cells #[.string ⟨D.toArray⟩, .slice pv nS cv] 80 (0, 0)) := by rw [← hX]; exact alloc_get _ _
                obtain ⟨hcT, -⟩ := cells_block hgX
                have HDX : Hid (DZ wA u6 Z (stD (bfN r ((Z1.map ZT.cont).take k))) X) := by unfold Hid; rw [← hX]; exact HDL.out.below (belA hb8 _)
                have HOX : Hid (X.ownsRow 0 9 1 (.slice pv nS cv) nS (stx S)) := by unfold Hid; rw [← hX]; exact own_base (o8.alloc _) (Nat.zero_le _)
                have oZ := HDX.out.2.1
                have hXs := HDX.out.2.2.2.size
                have hZl : Z.length ≤ 128 := by
                  have h7 := congrArg List.length HDX.out.1
                  rw [List.length_map] at h7
                  have h8 := stD_len (bfN r ((Z1.map ZT.cont).take k))
                  have h9 := bfN_len r ((Z1.map ZT.cont).take k)
                  rw [List.length_take, List.length_map, HN.out.1] at h9
                  have h10 := HN.out.2
                  omega
                clear hso hS hnS hb8 HTT hc5 x0 x1 HDL o8 hgX
                go_wp2_with (at_builtin; refine wpList_append_own _ rfl _ _ 25 rfl wA.heap.size 80 iT _ 2 40 Tryz.underlying25 hiT hzT0 hzT1 hzT2 rfl (by decide) _ _ _ rfl (oZ.alloc _) ⟨_, 0, none⟩ 1 1 [.string ⟨D.toArray⟩, .slice pv nS cv] rfl rfl (World.news_of_block (cs := #[.string ⟨D.toArray⟩, .slice pv nS cv]) (t := 80) (fr := (0, 0)) (alloc_get _ _)) (by simp [Value.oneCell']) (by unfold maxLen; omega) (by omega) (by simp; omega) ?_; intro v8 w9 o9 g9 _)
                have HD8 : Hid (DZ wA v8 (Z ++ [⟨D, pv, cv, S⟩]) (stD (bfN r ((Z1.map ZT.cont).take (k + 1)))) w9) := by
                  have hS := HSL.out
                  refine ⟨?_, ?_, ?_, ?_⟩
                  · rw [HST2.out, List.map_append, HDX.out.1]
                    rfl
                  · rw [rts_snoc, List.length_append, hS]
                    exact o9
                  · intro z hz
                    rcases List.mem_append.1 hz with hz | hz
                    · exact ⟨own_other ((HDX.out.2.2.1 z hz).1.alloc _) (oZ.alloc _) (by decide) g9, (HDX.out.2.2.1 z hz).2⟩
                    · obtain rfl := List.mem_singleton.1 hz
                      refine ⟨?_, ?_, HSG.out.1, HSG.out.2⟩
                      · show w9.ownsRow 0 9 1 (.slice pv S.length cv) S.length (stx S)
                        rw [hS]
                        exact own_other (HOX.out.alloc _) (oZ.alloc _) (by decide) g9
                      · show S.length ≤ 1000000
                        rw [hS]
                        omega
                  · exact (belA HDX.out.2.2.2 _).grown g9 (belA HDX.out.2.2.2 _).size (fun b e => (oZ.lt b e).1)
                clear o9 g9 oZ hcT HDX HOX hX
                go_wp2_with fail
                go_roundw
                case rel => exact ⟨k + 1, _, by go_num, by omega, HD8⟩
                case measure => simp [intOf]; omega
      · have j1 : ¬ (k : Int) < (n1 : Int) := by omega
        have e : (Z1.map ZT.cont).take k = Z1.map ZT.cont := List.take_of_length_le (by rw [List.length_map, HN.out.1]; omega)
        rw [e] at HDZ
        clear e
        obtain ⟨hZ, oZ, hZZ, hBz⟩ := HDZ.out
        obtain ⟨pZ, cZ, rfl⟩ := shapeQ1 oZ
        have hZl : Z.length ≤ 128 := by
          have h7 := congrArg List.length hZ
          rw [List.length_map] at h7
          have h8 := stD_len (bfN r (Z1.map ZT.cont))
          have h9 := bfN_len r (Z1.map ZT.cont)
          rw [List.length_map, HN.out.1] at h9
          have h10 := HN.out.2
          omega
        have HFO0 := dform_any b Z Z.length pZ cZ wr rfl (by omega) (IRR_own oZ rfl) (fun z hz => ⟨IRSt_own (hZZ z hz).1 rfl, (hZZ z hz).2⟩)
        have HFO : Hid (Calls Tryz.prog 52 #[.int .i64 b, .slice pZ Z.length cZ] wr fun e w' => ∃ V, e = .returned (.agg #[.int .i64 b, V]) ∧ RSR w' V (frmD (topC (Z.map ZT.cont))) ∧ Below wr.heap.size wr w') := HFO0
        rw [hZ, HFR.out] at HFO
        have HBz : Hid (Below wA.heap.size wA wr) := hBz
        obtain ⟨nZ, hnZ⟩ : ∃ n, Z.length = n := ⟨_, rfl⟩
        rw [hnZ] at HFO ⊢
        clear hZ oZ hZZ hBz HDZ gg1 iR1 hBw hnZ hZl HFO0
        go_wp2_with fail
        refine HFO.out.mono ?_
        rintro e w10 ⟨V10, rfl, s10, hb10⟩
        obtain ⟨p8, c8, rfl⟩ := s10.shape
        obtain ⟨n8, hn8⟩ : ∃ n, ((ordT (topC (stl (bfN r (Z1.map ZT.cont))))) : List (List UInt8 × List (List UInt8))).length = n := ⟨_, rfl⟩
        rw [hn8] at s10 ⊢
        obtain ⟨-, k3, -, hB1⟩ := HD.out w10 (bel0 HBz.out hb10)
        obtain ⟨hc3, hf3⟩ := cells_block k3
        have HP : Hid (((w10.setCell ⟨w.heap.size + 1, 0, none⟩ (.int .i64 b)).setCell ⟨w.heap.size + 1, 1, none⟩ (.slice p8 n8 c8)).heap[w.heap.size + 1]? = some (.cells #[.int .i64 b, .slice p8 n8 c8] 27 (0, 0)) ∧ RSR ((w10.setCell ⟨w.heap.size + 1, 0, none⟩ (.int .i64 b)).setCell ⟨w.heap.size + 1, 1, none⟩ (.slice p8 n8 c8)) (.slice p8 n8 c8) (ordT (topC (stl (bfN r (Z1.map ZT.cont))))) ∧ Below w.heap.size w ((w10.setCell ⟨w.heap.size + 1, 0, none⟩ (.int .i64 b)).setCell ⟨w.heap.size + 1, 1, none⟩ (.slice p8 n8 c8))) := ⟨set2_get _ _ k3, s10.kept (gr2 _ _ _ _) (no_str2 k3), (hB1.setCell (by simp) _).setCell (by simp) _⟩
        clear k3 hb10 hB1 s10 hc4 HFO HBz
        go_wp2_with fail
        refine bodyPost_ret (v := .tuple #[.agg #[.int .i64 b, .slice p8 n8 c8], .int .i64 0]) (res_rs2 _ _ (w.heap.size + 1) _ _ Tryz.results28 rfl HP.out.1) rfl ?_
        exact ⟨_, rfl, HP.out.2⟩
end Go.Proofs.YtkcbkeimbpopcaaGreatDoor
