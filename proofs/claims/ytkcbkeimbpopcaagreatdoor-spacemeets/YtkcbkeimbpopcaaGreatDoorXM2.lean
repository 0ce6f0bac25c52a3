import Derived.Test.YtkcbkeimbpopcaaGreatDoorXBT
import Derived.BigQuiet
namespace Go.Proofs.YtkcbkeimbpopcaaGreatDoor
open Go.RowKit Go.Shelf
theorem cm_sz1 (a : List UInt8 × List (List UInt8)) (C : List (List UInt8 × List (List UInt8))) : szC (cmN [a] C) ≤ (1 + a.2.length) * szC C := by
  rw [cmN_sing]
  induction C with
  | nil => simp [szC]
  | cons c r ih =>
    rw [List.filterMap_cons, szC, Nat.mul_add]
    have h : 1 + (a.2.length + c.2.length) ≤ (1 + a.2.length) * (1 + c.2.length) := by
      rw [Nat.add_mul, Nat.one_mul, Nat.mul_add, Nat.mul_one]
      omega
    by_cases hq : agB a.1 c.1 = true
    · rw [if_pos hq]
      simp only [szC, List.length_append]
      omega
    · rw [if_neg hq]
      simp only
      omega
theorem cm_sz (A C : List (List UInt8 × List (List UInt8))) : szC (cmN A C) ≤ szC A * szC C := by
  induction A with
  | nil => simp [cmN, szC]
  | cons a l ih =>
    have e : cmN (a :: l) C = cmN [a] C ++ cmN l C := by
      unfold cmN
      simp only [List.flatMap_cons, List.flatMap_nil, List.append_nil]
    have h1 := cm_sz1 a C
    rw [e, szC_append, szC, Nat.add_mul]
    omega
set_option maxRecDepth 100000 in
set_option maxHeartbeats 8000000 in
theorem dMeet_any (b b2 : Int) (A C : List (List UInt8 × List (List UInt8))) (V1 V2 : Value) (w : World) (h1 : RSR w V1 A) (h2 : RSR w V2 C) (hs1 : szC A ≤ 128) (hs2 : szC C ≤ 128) (hg1 : gdC A) (hg2 : gdC C) (hb : 0 ≤ b) :
    Calls Tryz.prog 23 #[.agg #[.int .i64 b, V1], .agg #[.int .i64 b2, V2]] w fun e w' => ∃ V, e = .returned (.tuple #[.agg #[.int .i64 (mnB b b2 A C), V], .int .i64 (mnE b b2 A C)]) ∧ RSR w' V (mnT b b2 A C) ∧ Below w.heap.size w w' := by
  obtain ⟨iT, hiT, hzT0, hzT1, hzT2⟩ := info_parts info_rtm
  have hl1 := szC_len A
  have hl2 := szC_len C
  obtain ⟨Z1, p1, k1, rfl, rfl, r1, t1⟩ := h1
  obtain ⟨Z2, p2, k2, rfl, rfl, r2, t2⟩ := h2
  have HSZ : Hid (szC (topC (stl (cmN (Z1.map ZT.cont) (Z2.map ZT.cont)))) ≤ 1000000) := by
    have h1 := szC_top (cmN (Z1.map ZT.cont) (Z2.map ZT.cont))
    have h2 := cm_sz (Z1.map ZT.cont) (Z2.map ZT.cont)
    have h3 : szC (Z1.map ZT.cont) * szC (Z2.map ZT.cont) ≤ 128 * 128 := Nat.mul_le_mul hs1 hs2
    unfold Hid
    omega
  have HFR : Hid (frmD (topC (stD (cmN (Z1.map ZT.cont) (Z2.map ZT.cont)))) = ordT (topC (stl (cmN (Z1.map ZT.cont) (Z2.map ZT.cont))))) := frm_eq _
  have HM1 : Hid (mnE b b2 (Z1.map ZT.cont) (Z2.map ZT.cont) = if (!(b == 0) && (b == b2)) = false then 11 else if 2048 < Z1.length * Z2.length then 3 else if szC (topC (stl (cmN (Z1.map ZT.cont) (Z2.map ZT.cont)))) ≤ 128 then 0 else 3) := by unfold Hid mnE; rw [List.length_map, List.length_map]
  have HMB : Hid (mnB b b2 (Z1.map ZT.cont) (Z2.map ZT.cont) = if mnE b b2 (Z1.map ZT.cont) (Z2.map ZT.cont) = 0 then b else 0) := rfl
  have HMT : Hid (mnT b b2 (Z1.map ZT.cont) (Z2.map ZT.cont) = if mnE b b2 (Z1.map ZT.cont) (Z2.map ZT.cont) = 0 then ordT (topC (stl (cmN (Z1.map ZT.cont) (Z2.map ZT.cont)))) else []) := rfl
  rw [List.length_map] at hl1 hl2
  have HG1 : Hid (∀ z ∈ Z1, IRSt w z.q z.L ∧ z.L.length ≤ 128 ∧ good z.c = true ∧ ∀ x ∈ z.L, good x = true) := fun z hz => by
    have hm := szC_mem z.cont (List.mem_map_of_mem (f := ZT.cont) hz)
    have e : z.cont.2 = z.L := rfl
    rw [e] at hm
    exact ⟨t1 z hz, by omega, hg1 z.cont (List.mem_map_of_mem (f := ZT.cont) hz)⟩
  have HG2 : Hid (∀ z ∈ Z2, IRSt w z.q z.L ∧ z.L.length ≤ 128 ∧ good z.c = true ∧ ∀ x ∈ z.L, good x = true) := fun z hz => by
    have hm := szC_mem z.cont (List.mem_map_of_mem (f := ZT.cont) hz)
    have e : z.cont.2 = z.L := rfl
    rw [e] at hm
    exact ⟨t2 z hz, by omega, hg2 z.cont (List.mem_map_of_mem (f := ZT.cont) hz)⟩
  obtain ⟨n1, hn1⟩ : ∃ n, Z1.length = n := ⟨_, rfl⟩
  obtain ⟨n2, hn2⟩ : ∃ n, Z2.length = n := ⟨_, rfl⟩
  rw [hn1] at hl1 HM1 ⊢
  rw [hn2] at hl2 HM1 ⊢
  obtain ⟨je, hje⟩ : ∃ j, mnE b b2 (Z1.map ZT.cont) (Z2.map ZT.cont) = j := ⟨_, rfl⟩
  obtain ⟨jb, hjb⟩ : ∃ j, mnB b b2 (Z1.map ZT.cont) (Z2.map ZT.cont) = j := ⟨_, rfl⟩
  obtain ⟨jt, hjt⟩ : ∃ j, mnT b b2 (Z1.map ZT.cont) (Z2.map ZT.cont) = j := ⟨_, rfl⟩
  rw [hje] at HM1 HMB HMT
  rw [hjb] at HMB
  rw [hjt] at HMT
  rw [hjb, hje, hjt]
  obtain ⟨N, hN⟩ : ∃ N, n1 * n2 = N := ⟨_, rfl⟩
  rw [hN] at HM1
  have hNb : N ≤ 16384 := by
    have : n1 * n2 ≤ 128 * 128 := Nat.mul_le_mul (by omega) (by omega)
    omega
  have hmul : (n1 : Int) * (n2 : Int) = (N : Int) := by rw [← hN]; simp
  obtain ⟨wA, hwA⟩ : ∃ wA, (((w.alloc (.cells #[.int .i64 b, .slice p1 n1 k1] 27 (0, 0))).alloc (.cells #[.int .i64 b2, .slice p2 n2 k2] 27 (0, 0))).alloc (.cells #[.int .i64 0, .slice none 0 0] 27 (0, 0))) = wA := ⟨_, rfl⟩
  have hBA : Below w.heap.size w wA := by rw [← hwA]; exact belA (belA (belA (Below.refl _ _) _) _) _
  have d1 : wA.heap[w.heap.size]? = some (.cells #[.int .i64 b, .slice p1 n1 k1] 27 (0, 0)) := by rw [← hwA, Below.heap_alloc _ _ _ (by simp <;> omega)]; exact alw_0 _ _ _
  have d2 : wA.heap[w.heap.size + 1]? = some (.cells #[.int .i64 b2, .slice p2 n2 k2] 27 (0, 0)) := by rw [← hwA, Below.heap_alloc _ _ _ (by simp <;> omega)]; exact alw_1 _ _ _
  have d3 : wA.heap[w.heap.size + 1 + 1]? = some (.cells #[.int .i64 0, .slice none 0 0] 27 (0, 0)) := by rw [← hwA]; have := alloc_get ((w.alloc (.cells #[.int .i64 b, .slice p1 n1 k1] 27 (0, 0))).alloc (.cells #[.int .i64 b2, .slice p2 n2 k2] 27 (0, 0))) (.cells #[.int .i64 0, .slice none 0 0] 27 (0, 0)); simpa using this
  have HD : Hid (∀ W, Below wA.heap.size wA W → W.heap[w.heap.size]? = some (.cells #[.int .i64 b, .slice p1 n1 k1] 27 (0, 0)) ∧ W.heap[w.heap.size + 1]? = some (.cells #[.int .i64 b2, .slice p2 n2 k2] 27 (0, 0)) ∧ W.heap[w.heap.size + 1 + 1]? = some (.cells #[.int .i64 0, .slice none 0 0] 27 (0, 0)) ∧ IRR W p1 Z1 ∧ IRR W p2 Z2 ∧ Below w.heap.size w W) := fun W hW => ⟨keepblk3 hW d1, keepblk3 hW d2, keepblk3 hW d3, r1.later (bel0 hBA hW), r2.later (bel0 hBA hW), bel0 hBA hW⟩
  obtain ⟨hc1, -⟩ := cells_block d1
  obtain ⟨hc2, -⟩ := cells_block d2
  have HN : Hid (Z1.length = n1 ∧ Z2.length = n2) := ⟨hn1, hn2⟩
  have HBO : Hid (∀ (W : World) (V : Value), RSR W V (ordT (topC (stl (cmN (Z1.map ZT.cont) (Z2.map ZT.cont))))) → szC (topC (stl (cmN (Z1.map ZT.cont) (Z2.map ZT.cont)))) ≤ 1000000 → Calls Tryz.prog 51 #[.agg #[.int .i64 b, V]] W fun e w' => ((128 < szC (topC (stl (cmN (Z1.map ZT.cont) (Z2.map ZT.cont)))) ∧ e = .returned (.tuple #[.agg #[.int .i64 0, .slice none 0 0], .int .i64 3])) ∨ (¬ 128 < szC (topC (stl (cmN (Z1.map ZT.cont) (Z2.map ZT.cont)))) ∧ e = .returned (.tuple #[.agg #[.int .i64 b, V], .int .i64 0]))) ∧ Below W.heap.size W w') := fun W V h hle => by
    have h' := dbound2 b V _ W h (by rw [szC_ord]; exact hle)
    rw [szC_ord] at h'
    exact h'
  obtain ⟨q, hq⟩ : ∃ q, (!(b == 0) && (b == b2)) = q := ⟨_, rfl⟩
  have HF2 := dfit_any b b2 p1 p2 n1 n2 k1 k2 wA hb
  rw [hq] at HF2 HM1
  have HFF : Hid (Calls Tryz.prog 50 #[.agg #[.int .i64 b, .slice p1 n1 k1], .agg #[.int .i64 b2, .slice p2 n2 k2]] wA fun e w' => e = .returned (.bool q) ∧ Below wA.heap.size wA w') := HF2
  have hb1 : n1 ≤ 128 := by omega
  have hb2 : n2 ≤ 128 := by omega
  clear hBA d1 d2 d3 r1 r2 t1 t2 hs1 hs2 hg1 hg2 hn1 hn2 hb hjb hje hjt HF2 hq hN hl1 hl2
  cases q with
  | false =>
    have e1 : je = 11 := HM1.out
    subst e1
    have e2 : jb = 0 := HMB.out
    subst e2
    have e3 : jt = [] := HMT.out
    subst e3
    clear HM1 HMB HMT
    go_enter Tryz.func23, Tryz.ntmps23
    go_wp2_with fail
    refine HFF.out.mono ?_
    rintro e W1 ⟨rfl, hbw1⟩
    obtain ⟨-, -, k3, -, -, hB1⟩ := HD.out W1 hbw1
    obtain ⟨hc3, hf3⟩ := cells_block k3
    have HP : Hid (((W1.setCell ⟨w.heap.size + 1 + 1, 0, none⟩ (.int .i64 0)).setCell ⟨w.heap.size + 1 + 1, 1, none⟩ (.slice none 0 0)).heap[w.heap.size + 1 + 1]? = some (.cells #[.int .i64 0, .slice none 0 0] 27 (0, 0)) ∧ Below w.heap.size w ((W1.setCell ⟨w.heap.size + 1 + 1, 0, none⟩ (.int .i64 0)).setCell ⟨w.heap.size + 1 + 1, 1, none⟩ (.slice none 0 0))) := ⟨set2_get _ _ k3, (hB1.setCell (by simp; omega) _).setCell (by simp; omega) _⟩
    clear hc1 hc2 k3 hwA hbw1 hB1
    go_wp2_with fail
    refine bodyPost_ret (v := .tuple #[.agg #[.int .i64 0, .slice none 0 0], .int .i64 11]) (res_rs2 _ _ (w.heap.size + 1 + 1) _ _ Tryz.results23 rfl HP.out.1) rfl ?_
    exact ⟨_, rfl, RSR_nil _, HP.out.2⟩
  | true =>
    by_cases hbig : 2048 < N
    · have e1 : je = 3 := by rw [HM1.out, if_neg (by simp), if_pos hbig]
      subst e1
      have e2 : jb = 0 := HMB.out
      subst e2
      have e3 : jt = [] := HMT.out
      subst e3
      have jg : (N : Int) > 2048 := by omega
      clear HM1 HMB HMT hbig
      go_enter Tryz.func23, Tryz.ntmps23
      go_wp2_with fail
      refine HFF.out.mono ?_
      rintro e W1 ⟨rfl, hbw1⟩
      obtain ⟨g1, g2, k3, -, -, hB1⟩ := HD.out W1 hbw1
      have hc4 := (cells_block g1).1
      have hc5 := (cells_block g2).1
      obtain ⟨hc3, hf3⟩ := cells_block k3
      have HP : Hid (((W1.setCell ⟨w.heap.size + 1 + 1, 0, none⟩ (.int .i64 0)).setCell ⟨w.heap.size + 1 + 1, 1, none⟩ (.slice none 0 0)).heap[w.heap.size + 1 + 1]? = some (.cells #[.int .i64 0, .slice none 0 0] 27 (0, 0)) ∧ Below w.heap.size w ((W1.setCell ⟨w.heap.size + 1 + 1, 0, none⟩ (.int .i64 0)).setCell ⟨w.heap.size + 1 + 1, 1, none⟩ (.slice none 0 0))) := ⟨set2_get _ _ k3, (hB1.setCell (by simp; omega) _).setCell (by simp; omega) _⟩
      clear hc1 hc2 k3 hwA hbw1 hB1 g1 g2
      go_wp2_with fail
      refine bodyPost_ret (v := .tuple #[.agg #[.int .i64 0, .slice none 0 0], .int .i64 3]) (res_rs2 _ _ (w.heap.size + 1 + 1) _ _ Tryz.results23 rfl HP.out.1) rfl ?_
      exact ⟨_, rfl, RSR_nil _, HP.out.2⟩
    · have jg : ¬ (N : Int) > 2048 := by omega
      have HM2 : Hid (je = if szC (topC (stl (cmN (Z1.map ZT.cont) (Z2.map ZT.cont)))) ≤ 128 then 0 else 3) := by unfold Hid; rw [HM1.out, if_neg (by simp), if_neg hbig]
      clear HM1 hbig
      go_enter Tryz.func23, Tryz.ntmps23
      go_wp2_with fail
      refine HFF.out.mono ?_
      rintro e W1 ⟨rfl, hbw1⟩
      obtain ⟨g1, g2, -, -, -, -⟩ := HD.out W1 hbw1
      have hc4 := (cells_block g1).1
      have hc5 := (cells_block g2).1
      have HB1 : Hid (Below wA.heap.size wA W1) := hbw1
      clear hc1 hc2 hwA hbw1 g1 g2
      go_wp2_with fail
      obtain ⟨W0, hW0⟩ : ∃ W0, W1 = W0 := ⟨_, rfl⟩
      have HS0 : Hid (DZ wA (.slice none 0 0) [] (stD (cmN ((Z1.take 0).map ZT.cont) (Z2.map ZT.cont))) W1) := by
        refine ⟨?_, World.ownsRow_nil _ _ _ _, (fun z hz => by cases hz), HB1.out⟩
        simp [cmN, stD]
      clear hc4 hc5 HB1 hW0 W0
      go_loopw [6, 7] (fun v6 v7 wr => ∃ (k : Nat) (Z : List ZT), v7 = .int .i64 (k : Int) ∧ k ≤ n1 ∧ Hid (DZ wA v6 Z (stD (cmN ((Z1.take k).map ZT.cont) (Z2.map ZT.cont))) wr)) (fun _ v7 _ => n1 - (intOf v7).toNat)
      case atStart => exact ⟨0, [], rfl, Nat.zero_le _, HS0⟩
      case round =>
        clear HS0
        obtain ⟨k, Z, rfl, hk, HDZ⟩ := hrel
        obtain ⟨gg1, gg2, -, iR1, iR2, hBw⟩ := HD.out wr HDZ.out.2.2.2
        have hc4 := (cells_block gg1).1
        have hc5 := (cells_block gg2).1
        by_cases hlt : k < n1
        · have j1 : (k : Int) < (n1 : Int) := by omega
          have j0 : (0 : Int) ≤ (k : Int) := by omega
          obtain ⟨za, hza⟩ : ∃ z, Z1[k]? = some z := ⟨_, List.getElem?_eq_getElem (by rw [HN.out.1]; exact hlt)⟩
          obtain ⟨ac, aq, ak, aL⟩ := za
          have hzA := HG1.out _ (List.mem_of_getElem? hza)
          have HZA : Hid (Z1[k]? = some ⟨ac, aq, ak, aL⟩ ∧ IRSt w aq aL ∧ aL.length ≤ 128 ∧ good ac = true ∧ ∀ x ∈ aL, good x = true) := ⟨hza, hzA⟩
          have HS1 : Hid (DZ wA u6 Z (stD (cmN ((Z1.take k).map ZT.cont) (Z2.map ZT.cont) ++ cmN [(ac, aL)] ((Z2.take 0).map ZT.cont))) wr) := by
            have e : stD (cmN ((Z1.take k).map ZT.cont) (Z2.map ZT.cont) ++ cmN [(ac, aL)] ((Z2.take 0).map ZT.cont)) = stD (cmN ((Z1.take k).map ZT.cont) (Z2.map ZT.cont)) := by simp [cmN_sing]
            unfold Hid
            rw [e]
            exact HDZ.out
          obtain ⟨na, hna⟩ : ∃ n, aL.length = n := ⟨_, rfl⟩
          have HNA : Hid (aL.length = na) := hna
          clear hza hzA HDZ hna gg1 gg2 iR1 iR2 hBw
          obtain ⟨wo, rfl⟩ : ∃ wo, wo = wr := ⟨wr, rfl⟩
          go_wp2_with fail
          clear hc4 hc5
          go_loopw [6, 8] (fun v6 v8 ws => ∃ (j : Nat) (Z : List ZT), v8 = .int .i64 (j : Int) ∧ j ≤ n2 ∧ Hid (DZ wA v6 Z (stD (cmN ((Z1.take k).map ZT.cont) (Z2.map ZT.cont) ++ cmN [(ac, aL)] ((Z2.take j).map ZT.cont))) ws)) (fun _ v8 _ => n2 - (intOf v8).toNat)
          case atStart => exact ⟨0, _, rfl, Nat.zero_le _, HS1⟩
          case round =>
            clear HS1
            obtain ⟨j, Z, rfl, hj, HDZ⟩ := hrel
            obtain ⟨gg1, gg2, -, iR1, iR2, hBw⟩ := HD.out wr HDZ.out.2.2.2
            by_cases hltj : j < n2
            · have r1 : (j : Int) < (n2 : Int) := by omega
              have r0 : (0 : Int) ≤ (j : Int) := by omega
              obtain ⟨zb, hzb⟩ : ∃ z, Z2[j]? = some z := ⟨_, List.getElem?_eq_getElem (by rw [HN.out.2]; exact hltj)⟩
              obtain ⟨bc, bq, bk, bL⟩ := zb
              have hzB := HG2.out _ (List.mem_of_getElem? hzb)
              have HZB : Hid (Z2[j]? = some ⟨bc, bq, bk, bL⟩ ∧ IRSt w bq bL ∧ bL.length ≤ 128 ∧ good bc = true ∧ ∀ x ∈ bL, good x = true) := ⟨hzb, hzB⟩
              obtain ⟨nb, hnb⟩ : ∃ n, bL.length = n := ⟨_, rfl⟩
              have HNB : Hid (bL.length = nb) := hnb
              obtain ⟨ga, oa, e1, -, -⟩ := iR1 wr (Below.refl _ _) k _ HZA.out.1
              subst e1
              obtain ⟨gb, ob, e2, -, -⟩ := iR2 wr (Below.refl _ _) j _ hzb
              subst e2
              have HK : Hid (∀ W, Below wr.heap.size wr W → ((∀ j, W.cell? ⟨w.heap.size, j, none⟩ = (#[.int .i64 b, .slice (some ⟨ga, oa, none⟩) n1 k1] : Array Value)[j]?) ∧ (∀ j, W.cell? ⟨w.heap.size + 1, j, none⟩ = (#[.int .i64 b2, .slice (some ⟨gb, ob, none⟩) n2 k2] : Array Value)[j]?)) ∧ (W.cell? ⟨ga, oa + k * 2, none⟩ = some (.string ⟨ac.toArray⟩) ∧ W.cell? ⟨ga, oa + k * 2 + 1, none⟩ = some (.slice aq na ak)) ∧ W.cell? ⟨gb, ob + j * 2, none⟩ = some (.string ⟨bc.toArray⟩) ∧ W.cell? ⟨gb, ob + j * 2 + 1, none⟩ = some (.slice bq nb bk)) := fun W hW => by
                obtain ⟨f1, f2, -, f3, f4, -⟩ := HD.out W (bel0 HDZ.out.2.2.2 hW)
                obtain ⟨g3, o3, e3, x0, x1⟩ := f3 W (Below.refl _ _) k _ HZA.out.1
                injection e3 with e3
                injection e3 with e4 e5
                subst e4 e5
                obtain ⟨g4, o4, e6, y0, y1⟩ := f4 W (Below.refl _ _) j _ HZB.out.1
                injection e6 with e6
                injection e6 with e7 e8
                subst e7 e8
                simp only at x0 x1 y0 y1
                rw [HNA.out] at x1
                rw [HNB.out] at y1
                exact ⟨⟨(cells_block f1).1, (cells_block f2).1⟩, ⟨x0, x1⟩, y0, y1⟩
              have hst : (Z2.map ZT.cont)[j]? = some (bc, bL) := by rw [List.getElem?_map, hzb]; rfl
              have HST : Hid (cmN [(ac, aL)] ((Z2.take (j + 1)).map ZT.cont) = cmN [(ac, aL)] ((Z2.take j).map ZT.cont) ++ (if agB ac bc = true then [(mtT ac bc, aL ++ bL)] else [])) := by
                have h := cmN_one (a := (ac, aL)) hst
                unfold Hid
                rw [List.map_take, List.map_take]
                exact h
              obtain ⟨M, hM⟩ : ∃ M, mtT ac bc = M := ⟨_, rfl⟩
              obtain ⟨q, hq⟩ : ∃ q, agB ac bc = q := ⟨_, rfl⟩
              have gM : Hid (good M = true) := by unfold Hid; rw [← hM]; exact good_mtT ac bc HZA.out.2.2.2.1 HZB.out.2.2.2.1
              have HMT2 : Hid (∀ W, Calls Tryz.prog 57 #[.string ⟨ac.toArray⟩, .string ⟨bc.toArray⟩] W fun e w' => e = .returned (.tuple #[.string ⟨M.toArray⟩, .bool q]) ∧ Below W.heap.size W w') := fun W => by
                have h := dmeet_any ac bc W HZA.out.2.2.2.1 HZB.out.2.2.2.1
                rw [hM, hq] at h
                exact h
              rw [hM, hq] at HST
              have HBW : Hid (Below w.heap.size w wr) := hBw
              have hk0 := HK.out wr (Below.refl _ _)
              have hk0d : ((∀ j, wr.drew.cell? ⟨w.heap.size, j, none⟩ = (#[.int .i64 b, .slice (some ⟨ga, oa, none⟩) n1 k1] : Array Value)[j]?) ∧ (∀ j, wr.drew.cell? ⟨w.heap.size + 1, j, none⟩ = (#[.int .i64 b2, .slice (some ⟨gb, ob, none⟩) n2 k2] : Array Value)[j]?)) ∧ (wr.drew.cell? ⟨ga, oa + k * 2, none⟩ = some (.string ⟨ac.toArray⟩) ∧ wr.drew.cell? ⟨ga, oa + k * 2 + 1, none⟩ = some (.slice aq na ak)) ∧ wr.drew.cell? ⟨gb, ob + j * 2, none⟩ = some (.string ⟨bc.toArray⟩) ∧ wr.drew.cell? ⟨gb, ob + j * 2 + 1, none⟩ = some (.slice bq nb bk) := hk0
              obtain ⟨⟨hc4, hc5⟩, -⟩ := hk0
              have hk0 := HK.out wr (Below.refl _ _)
              clear hzb hzB hnb hst hM hq gg1 gg2 iR1 iR2 hBw
              go_upto_region 12 with fail
              clear hc4 hc5
              go_region_held3 (fun W => ((∀ j, W.cell? ⟨w.heap.size, j, none⟩ = (#[.int .i64 b, .slice (some ⟨ga, oa, none⟩) n1 k1] : Array Value)[j]?) ∧ (∀ j, W.cell? ⟨w.heap.size + 1, j, none⟩ = (#[.int .i64 b2, .slice (some ⟨gb, ob, none⟩) n2 k2] : Array Value)[j]?)) ∧ (W.cell? ⟨ga, oa + k * 2, none⟩ = some (.string ⟨ac.toArray⟩) ∧ W.cell? ⟨ga, oa + k * 2 + 1, none⟩ = some (.slice aq na ak)) ∧ W.cell? ⟨gb, ob + j * 2, none⟩ = some (.string ⟨bc.toArray⟩) ∧ W.cell? ⟨gb, ob + j * 2 + 1, none⟩ = some (.slice bq nb bk)) (first | with_reducible exact hk0 | with_reducible exact hk0d | with_reducible exact hk5) (first | (go_at_call 57; refine (HMT2.out _).mono ?_; rintro e w5 ⟨rfl, hb5⟩; have hb5' : Below wr.heap.size wr w5 := (by first | exact hb5 | exact und hb5); have hk5 := HK.out w5 hb5'))
              have HB5 : Hid (Below wr.heap.size wr w5) := hb5'
              clear hk0 hk0d hb5 hb5'
              cases q with
              | false =>
                have HX : Hid (DZ wA u6 Z (stD (cmN ((Z1.take k).map ZT.cont) (Z2.map ZT.cont) ++ cmN [(ac, aL)] ((Z2.take (j + 1)).map ZT.cont))) w5) := by
                  unfold Hid
                  rw [HST.out, if_neg (by simp), List.append_nil]
                  exact HDZ.out.below HB5.out
                clear hk5
                go_wp2_with fail
                go_roundw
                case rel => exact ⟨j + 1, Z, by go_num, by omega, HX⟩
                case measure => simp [intOf]; omega
              | true =>
                obtain ⟨nab, hnab⟩ : ∃ n, na + nb = n := ⟨_, rfl⟩
                have hNa : na ≤ 128 := by have := HZA.out.2.2.1; rw [HNA.out] at this; exact this
                have hNb : nb ≤ 128 := by have := HZB.out.2.2.1; rw [HNB.out] at this; exact this
                have HBH : Hid (∀ W, Below wr.heap.size wr W → Calls Tryz.prog 59 #[.slice aq na ak, .slice bq nb bk] W fun e w' => ∃ v, e = .returned v ∧ w'.ownsRow W.heap.size 9 1 v nab (stx (aL ++ bL)) ∧ Below W.heap.size W w') := fun W hW => by
                  have h := dboth_any aL bL aq bq na nb ak bk W HNA.out HNB.out (by omega) (by omega) (HZA.out.2.1.later (bel0 HBW.out hW)) (HZB.out.2.1.later (bel0 HBW.out hW))
                  rw [hnab] at h
                  exact h
                have HAB : Hid ((aL ++ bL).length = nab ∧ nab ≤ 256 ∧ ∀ x ∈ aL ++ bL, good x = true) := ⟨by rw [List.length_append, HNA.out, HNB.out, hnab], by omega, fun x hx => by
                  rcases List.mem_append.1 hx with hx | hx
                  · exact HZA.out.2.2.2.2 x hx
                  · exact HZB.out.2.2.2.2 x hx⟩
                have HTE : Hid (∀ (W : World) (p : Option Addr) (c : Nat), IRSt W p (aL ++ bL) → Calls Tryz.prog 58 #[.string ⟨M.toArray⟩, .slice p nab c] W fun e w' => Below W.heap.size W w' ∧ ((setO M (aL ++ bL) = none ∧ e = .returned (.tuple #[.agg #[.string ⟨#[]⟩, .slice none 0 0], .bool false])) ∨ ∃ R v, setO M (aL ++ bL) = some R ∧ e = .returned (.tuple #[.agg #[.string ⟨M.toArray⟩, v], .bool true]) ∧ w'.ownsRow W.heap.size 9 1 v R.length (stx (srtT R)))) := fun W p c hr => term_any M (aL ++ bL) nab p c W HAB.out.1 (by have := HAB.out.2.1; omega) gM.out HAB.out.2.2 hr
                have HK5 : Hid (∀ W, Below w5.heap.size w5 W → ((∀ j, W.cell? ⟨w.heap.size, j, none⟩ = (#[.int .i64 b, .slice (some ⟨ga, oa, none⟩) n1 k1] : Array Value)[j]?) ∧ (∀ j, W.cell? ⟨w.heap.size + 1, j, none⟩ = (#[.int .i64 b2, .slice (some ⟨gb, ob, none⟩) n2 k2] : Array Value)[j]?)) ∧ (W.cell? ⟨ga, oa + k * 2, none⟩ = some (.string ⟨ac.toArray⟩) ∧ W.cell? ⟨ga, oa + k * 2 + 1, none⟩ = some (.slice aq na ak)) ∧ W.cell? ⟨gb, ob + j * 2, none⟩ = some (.string ⟨bc.toArray⟩) ∧ W.cell? ⟨gb, ob + j * 2 + 1, none⟩ = some (.slice bq nb bk)) := fun W hW => HK.out W (bel0 HB5.out hW)
                have hxk := hk5.2.1
                clear hnab hNa hNb hxk
                cases hso : setO M (aL ++ bL) with
                | none =>
                  have HT2 : Hid (∀ (W : World) (p : Option Addr) (c : Nat), IRSt W p (aL ++ bL) → Calls Tryz.prog 58 #[.string ⟨M.toArray⟩, .slice p nab c] W fun e w' => e = .returned (.tuple #[.agg #[.string ⟨#[]⟩, .slice none 0 0], .bool false]) ∧ Below W.heap.size W w') := fun W p c hr => (HTE.out W p c hr).mono (fun e w' h => ⟨(h.2.resolve_right (fun ⟨R, v, hR, _⟩ => by rw [hso] at hR; cases hR)).2, h.1⟩)
                  have HST2 : Hid (stD (cmN ((Z1.take k).map ZT.cont) (Z2.map ZT.cont) ++ cmN [(ac, aL)] ((Z2.take (j + 1)).map ZT.cont)) = stD (cmN ((Z1.take k).map ZT.cont) (Z2.map ZT.cont) ++ cmN [(ac, aL)] ((Z2.take j).map ZT.cont))) := by
                    unfold Hid
                    rw [HST.out, if_pos (by first | rfl | trivial), ← List.append_assoc, stD_app, stD_sing, hso]
                    simp
                  clear HTE hso HST
                  go_upto_region 14 with fail
                  go_cut [11, 12] (fun h e wc => ∃ bt : Nat, h = .pointer (some ⟨bt, 0, none⟩) ∧ e = .bool false ∧ Hid (Below w5.heap.size w5 wc))
                  case first =>
                    go_region_held3 (fun W => ((∀ j, W.cell? ⟨w.heap.size, j, none⟩ = (#[.int .i64 b, .slice (some ⟨ga, oa, none⟩) n1 k1] : Array Value)[j]?) ∧ (∀ j, W.cell? ⟨w.heap.size + 1, j, none⟩ = (#[.int .i64 b2, .slice (some ⟨gb, ob, none⟩) n2 k2] : Array Value)[j]?)) ∧ (W.cell? ⟨ga, oa + k * 2, none⟩ = some (.string ⟨ac.toArray⟩) ∧ W.cell? ⟨ga, oa + k * 2 + 1, none⟩ = some (.slice aq na ak)) ∧ W.cell? ⟨gb, ob + j * 2, none⟩ = some (.string ⟨bc.toArray⟩) ∧ W.cell? ⟨gb, ob + j * 2 + 1, none⟩ = some (.slice bq nb bk)) (first | with_reducible exact HK5.out _ (Below.refl _ _) | with_reducible exact HK5.out _ (Below.refl _ _).drew | with_reducible exact HK5.out _ (belA (Below.refl _ _) _) | with_reducible exact HK5.out _ (belA (Below.refl _ _).drew _) | with_reducible exact HK5.out _ hb7' | with_reducible exact HK5.out _ (belA hb7' _) | with_reducible exact HK5.out _ hb8' | with_reducible exact HK5.out _ (belA hb8' _) | with_reducible exact HK5.out _ ((hb8'.setCell (Nat.le_refl _) _).setCell (Nat.le_refl _) _) | with_reducible exact HK5.out _ ((hb8'.setCell hb7'.size _).setCell hb7'.size _) | with_reducible exact HK5.out _ (((belA hb8' _).setCell hb8'.size _).setCell hb8'.size _)) (first | (go_at_call 59; refine (HBH.out _ (by first | exact HB5.out | exact HB5.out.drew | exact belA HB5.out.drew _ | exact (belA HB5.out _).drew)).mono ?_; rintro e w7 ⟨v7, rfl, o7, hb7⟩; obtain ⟨pv7, cv7, rfl⟩ := shapeQ1 o7; have hb7' : Below w5.heap.size w5 w7 := (by first | exact hb7 | exact und hb7 | exact bel1 (und hb7) | exact und (bel1 hb7))) | (go_at_call 58; refine (HT2.out _ _ _ (by first | exact IRSt_own o7 HAB.out.1 | exact IRSt_own (o7.alloc _) HAB.out.1)).mono ?_; rintro e w8 ⟨rfl, hb8⟩; have hb8' : Below w5.heap.size w5 w8 := (by first | exact bel0 hb7' hb8 | exact bel0 hb7' (bel1 hb8)); (first | (have ht8 := keepblk3 hb8 (keepblk3 (und hb7) (alloc_get w5 (.cells #[.string ⟨#[]⟩, .slice none 0 0] 80 (0, 0)))); have hc8 := (cells_block ht8).1; have hf8 := (cells_block ht8).2) | (have ht8 := keepblk3 hb8 (alloc_get w7 (.cells #[.string ⟨#[]⟩, .slice none 0 0] 80 (0, 0))); have hc8 := (cells_block ht8).1; have hf8 := (cells_block ht8).2) | skip)))
                    all_goals go_wp2
                    all_goals go_meet
                    · exact ⟨_, rfl, rfl, belA hb8' _⟩
                    · exact ⟨_, rfl, rfl, ((hb8'.setCell hb7'.size _).setCell hb7'.size _)⟩
                    · exact ⟨_, rfl, rfl, ((hb8'.setCell (Nat.le_refl _) _).setCell (Nat.le_refl _) _)⟩
                  case rest =>
                    obtain ⟨bt, rfl, rfl, HC⟩ := hcut
                    rename World => X
                    have HX : Hid (DZ wA u6 Z (stD (cmN ((Z1.take k).map ZT.cont) (Z2.map ZT.cont) ++ cmN [(ac, aL)] ((Z2.take (j + 1)).map ZT.cont))) X) := by
                      unfold Hid
                      rw [HST2.out]
                      exact HDZ.out.below (bel0 HB5.out HC.out)
                    clear hk5
                    go_wp2_with fail
                    go_roundw
                    case rel => exact ⟨j + 1, Z, by go_num, by omega, HX⟩
                    case measure => simp [intOf]; omega
                | some R =>
                  obtain ⟨S, hS⟩ : ∃ S, srtT R = S := ⟨_, rfl⟩
                  obtain ⟨nS, hnS⟩ : ∃ nS, R.length = nS := ⟨_, rfl⟩
                  have HSL : Hid (S.length = nS) := by unfold Hid; rw [← hS, srtT_len, hnS]
                  have hnS2 : nS ≤ 256 := by
                    have h1 := setO_len hso
                    have h2 := HAB.out
                    omega
                  have HSG : Hid (good M = true ∧ ∀ t ∈ S, good t = true) := ⟨gM.out, fun t ht => by
                    rw [← hS] at ht
                    have h1 := (srtT_perm R).mem_iff.1 ht
                    have h2 := (put_some hso).1
                    have h3 : t ∈ putL (lesL M (aL ++ bL)) := by rw [h2]; exact (srtT_perm R).mem_iff.2 h1
                    exact lesL_good gM.out HAB.out.2.2 t (putL_mem h3)⟩
                  have HST2 : Hid (stD (cmN ((Z1.take k).map ZT.cont) (Z2.map ZT.cont) ++ cmN [(ac, aL)] ((Z2.take (j + 1)).map ZT.cont)) = stD (cmN ((Z1.take k).map ZT.cont) (Z2.map ZT.cont) ++ cmN [(ac, aL)] ((Z2.take j).map ZT.cont)) ++ [(M, S)]) := by
                    unfold Hid
                    rw [HST.out, if_pos (by first | rfl | trivial), ← List.append_assoc, stD_app, stD_sing, hso, ← hS]
                  have HT2 : Hid (∀ (W : World) (p : Option Addr) (c : Nat), IRSt W p (aL ++ bL) → Calls Tryz.prog 58 #[.string ⟨M.toArray⟩, .slice p nab c] W fun e w' => ∃ pv cv, e = .returned (.tuple #[.agg #[.string ⟨M.toArray⟩, .slice pv nS cv], .bool true]) ∧ Below W.heap.size W w' ∧ w'.ownsRow W.heap.size 9 1 (.slice pv nS cv) nS (stx S)) := fun W p c hr => (HTE.out W p c hr).mono (fun e w' h => by
                    rcases h with ⟨h1, ⟨h2, _⟩ | ⟨R2, v, h2, h3, h4⟩⟩
                    · rw [hso] at h2; cases h2
                    · rw [hso] at h2
                      obtain rfl := Option.some.inj h2
                      rw [hnS, hS] at h4
                      obtain ⟨pv, cv, rfl⟩ := shapeQ1 h4
                      exact ⟨pv, cv, h3, h1, h4⟩)
                  clear HTE hso HST hS hnS
                  go_upto_region 14 with fail
                  go_cut [11, 12] (fun h e wc => ∃ (bt : Nat) (pv : Option Addr) (cv : Nat), h = .pointer (some ⟨bt, 0, none⟩) ∧ e = .bool true ∧ Hid (wc.heap[bt]? = some (.cells #[.string ⟨M.toArray⟩, .slice pv nS cv] 80 (0, 0)) ∧ wc.ownsRow 0 9 1 (.slice pv nS cv) nS (stx S) ∧ Below w5.heap.size w5 wc))
                  case first =>
                    go_region_held3 (fun W => ((∀ j, W.cell? ⟨w.heap.size, j, none⟩ = (#[.int .i64 b, .slice (some ⟨ga, oa, none⟩) n1 k1] : Array Value)[j]?) ∧ (∀ j, W.cell? ⟨w.heap.size + 1, j, none⟩ = (#[.int .i64 b2, .slice (some ⟨gb, ob, none⟩) n2 k2] : Array Value)[j]?)) ∧ (W.cell? ⟨ga, oa + k * 2, none⟩ = some (.string ⟨ac.toArray⟩) ∧ W.cell? ⟨ga, oa + k * 2 + 1, none⟩ = some (.slice aq na ak)) ∧ W.cell? ⟨gb, ob + j * 2, none⟩ = some (.string ⟨bc.toArray⟩) ∧ W.cell? ⟨gb, ob + j * 2 + 1, none⟩ = some (.slice bq nb bk)) (first | with_reducible exact HK5.out _ (Below.refl _ _) | with_reducible exact HK5.out _ (Below.refl _ _).drew | with_reducible exact HK5.out _ (belA (Below.refl _ _) _) | with_reducible exact HK5.out _ (belA (Below.refl _ _).drew _) | with_reducible exact HK5.out _ hb7' | with_reducible exact HK5.out _ (belA hb7' _) | with_reducible exact HK5.out _ hb8' | with_reducible exact HK5.out _ (belA hb8' _) | with_reducible exact HK5.out _ ((hb8'.setCell (Nat.le_refl _) _).setCell (Nat.le_refl _) _) | with_reducible exact HK5.out _ ((hb8'.setCell hb7'.size _).setCell hb7'.size _) | with_reducible exact HK5.out _ (((belA hb8' _).setCell hb8'.size _).setCell hb8'.size _)) (first | (go_at_call 59; refine (HBH.out _ (by first | exact HB5.out | exact HB5.out.drew | exact belA HB5.out.drew _ | exact (belA HB5.out _).drew)).mono ?_; rintro e w7 ⟨v7, rfl, o7, hb7⟩; obtain ⟨pv7, cv7, rfl⟩ := shapeQ1 o7; have hb7' : Below w5.heap.size w5 w7 := (by first | exact hb7 | exact und hb7 | exact bel1 (und hb7) | exact und (bel1 hb7))) | (go_at_call 58; refine (HT2.out _ _ _ (by first | exact IRSt_own o7 HAB.out.1 | exact IRSt_own (o7.alloc _) HAB.out.1)).mono ?_; rintro e w8 ⟨pv, cv, rfl, hb8, o8⟩; have hb8' : Below w5.heap.size w5 w8 := (by first | exact bel0 hb7' hb8 | exact bel0 hb7' (bel1 hb8)); (first | (have ht8 := keepblk3 hb8 (keepblk3 (und hb7) (alloc_get w5 (.cells #[.string ⟨#[]⟩, .slice none 0 0] 80 (0, 0)))); have hc8 := (cells_block ht8).1; have hf8 := (cells_block ht8).2) | (have ht8 := keepblk3 hb8 (alloc_get w7 (.cells #[.string ⟨#[]⟩, .slice none 0 0] 80 (0, 0))); have hc8 := (cells_block ht8).1; have hf8 := (cells_block ht8).2) | skip)))
                    all_goals go_wp2
                    all_goals go_meet
                    · exact ⟨_, pv, cv, rfl, rfl, alloc_get _ _, own_base (o8.alloc _) (Nat.zero_le _), belA hb8' _⟩
                    · exact ⟨_, pv, cv, rfl, rfl, set2_get _ _ ht8, own_base ((o8.kept (set_grS _ _ _ _) (.inr (fun e => by have h1 := (o8.lt _ e).1; (try simp at h1); omega))).kept (set_grS _ _ _ _) (.inr (fun e => by have h1 := (o8.lt _ e).1; (try simp at h1); omega))) (Nat.zero_le _), ((hb8'.setCell hb7'.size _).setCell hb7'.size _)⟩
                    · have hs7 := hb7.size
                      simp at hs7
                      exact ⟨_, pv, cv, rfl, rfl, set2_get _ _ ht8, own_base ((o8.kept (set_grS _ _ _ _) (.inr (fun e => by have h1 := (o8.lt _ e).1; (try simp at h1); omega))).kept (set_grS _ _ _ _) (.inr (fun e => by have h1 := (o8.lt _ e).1; (try simp at h1); omega))) (Nat.zero_le _), ((hb8'.setCell (Nat.le_refl _) _).setCell (Nat.le_refl _) _)⟩
                  case rest =>
                    obtain ⟨bt, pv, cv, rfl, rfl, HC⟩ := hcut
                    rename World => X
                    obtain ⟨hcT, -⟩ := cells_block HC.out.1
                    have HDX : Hid (DZ wA u6 Z (stD (cmN ((Z1.take k).map ZT.cont) (Z2.map ZT.cont) ++ cmN [(ac, aL)] ((Z2.take j).map ZT.cont))) X) := HDZ.out.below (bel0 HB5.out HC.out.2.2)
                    have oZ := HDX.out.2.1
                    have hXs := HDX.out.2.2.2.size
                    have HOX : Hid (X.ownsRow 0 9 1 (.slice pv nS cv) nS (stx S)) := HC.out.2.1
                    have hZl : Z.length ≤ 16512 := by
                      have h := cm_most Z1 Z2 k j (ac, aL) (by rw [HN.out.1]; exact hb1) (by rw [HN.out.2]; exact hb2)
                      rw [← HDX.out.1, List.length_map] at h
                      exact h
                    clear hk5 HC HDZ
                    go_wp2_with (at_builtin; refine wpList_append_own _ rfl _ _ 25 rfl wA.heap.size 80 iT _ 2 40 Tryz.underlying25 hiT hzT0 hzT1 hzT2 rfl (by decide) _ _ _ rfl (oZ.alloc _) ⟨_, 0, none⟩ 1 1 [.string ⟨M.toArray⟩, .slice pv nS cv] rfl rfl (World.news_of_block (cs := #[.string ⟨M.toArray⟩, .slice pv nS cv]) (t := 80) (fr := (0, 0)) (alloc_get _ _)) (by simp [Value.oneCell']) (by unfold maxLen; omega) (by omega) (by simp; omega) ?_)
                    intro v8 w8 o8 g8 _
                    have HD8 : Hid (DZ wA v8 (Z ++ [⟨M, pv, cv, S⟩]) (stD (cmN ((Z1.take k).map ZT.cont) (Z2.map ZT.cont) ++ cmN [(ac, aL)] ((Z2.take (j + 1)).map ZT.cont))) w8) := by
                      have hS := HSL.out
                      refine ⟨?_, ?_, ?_, ?_⟩
                      · rw [HST2.out, List.map_append, HDX.out.1]
                        rfl
                      · rw [rts_snoc, List.length_append, hS]
                        exact o8
                      · intro z hz
                        rcases List.mem_append.1 hz with hz | hz
                        · exact ⟨own_other ((HDX.out.2.2.1 z hz).1.alloc _) (oZ.alloc _) (by decide) g8, (HDX.out.2.2.1 z hz).2⟩
                        · obtain rfl := List.mem_singleton.1 hz
                          refine ⟨?_, ?_, HSG.out.1, HSG.out.2⟩
                          · show w8.ownsRow 0 9 1 (.slice pv S.length cv) S.length (stx S)
                            rw [hS]
                            exact own_other (HOX.out.alloc _) (oZ.alloc _) (by decide) g8
                          · show S.length ≤ 1000000
                            rw [hS]
                            omega
                      · exact (belA HDX.out.2.2.2 _).grown g8 (belA HDX.out.2.2.2 _).size (fun b e => (oZ.lt b e).1)
                    clear o8 g8 oZ hcT HDX HOX
                    go_wp2_with fail
                    go_roundw
                    case rel => exact ⟨j + 1, _, by go_num, by omega, HD8⟩
                    case measure => simp [intOf]; omega
            · have r1 : ¬ (j : Int) < (n2 : Int) := by omega
              have HX : Hid (DZ wA u6 Z (stD (cmN ((Z1.take (k + 1)).map ZT.cont) (Z2.map ZT.cont))) wr) := by
                have hst : (Z1.map ZT.cont)[k]? = some (ac, aL) := by rw [List.getElem?_map, HZA.out.1]; rfl
                have h := cmN_step (C := Z2.map ZT.cont) hst
                have h3 := HDZ.out
                rw [List.take_of_length_le (show Z2.length ≤ j by rw [HN.out.2]; omega)] at h3
                unfold Hid
                rw [List.map_take, h, ← List.map_take]
                exact h3
              have hc5 := (cells_block gg2).1
              have hc4 := (cells_block gg1).1
              clear HDZ gg1 gg2 iR1 iR2 hBw
              go_wp2_with fail
              go_roundw
              case rel => exact ⟨k + 1, Z, by go_num, by omega, HX⟩
              case measure => simp [intOf]; omega
        · have j1 : ¬ (k : Int) < (n1 : Int) := by omega
          have e : Z1.take k = Z1 := List.take_of_length_le (by rw [HN.out.1]; omega)
          rw [e] at HDZ
          clear e
          obtain ⟨hZ, oZ, hZZ, hBz⟩ := HDZ.out
          obtain ⟨pZ, cZ, rfl⟩ := shapeQ1 oZ
          have hZl : Z.length ≤ 16512 := by
            have h := cm_most Z1 Z2 n1 0 ([], []) (by rw [HN.out.1]; exact hb1) (by rw [HN.out.2]; exact hb2)
            rw [List.take_of_length_le (by rw [HN.out.1]; omega)] at h
            simp only [List.take_zero, List.map_nil, cmN_sing, List.filterMap_nil, List.append_nil] at h
            rw [← hZ, List.length_map] at h
            exact h
          have HFO : Hid (Calls Tryz.prog 52 #[.int .i64 b, .slice pZ Z.length cZ] wr fun e w' => ∃ V, e = .returned (.agg #[.int .i64 b, V]) ∧ RSR w' V (frmD (topC (Z.map ZT.cont))) ∧ Below wr.heap.size wr w') := dform_any b Z Z.length pZ cZ wr rfl (by omega) (IRR_own oZ rfl) (fun z hz => ⟨IRSt_own (hZZ z hz).1 rfl, (hZZ z hz).2⟩)
          rw [hZ, HFR.out] at HFO
          have HBz : Hid (Below wA.heap.size wA wr) := hBz
          obtain ⟨nZ, hnZ⟩ : ∃ n, Z.length = n := ⟨_, rfl⟩
          rw [hnZ] at HFO ⊢
          clear hZ oZ hZZ hBz HDZ gg1 gg2 iR1 iR2 hBw hnZ hZl
          go_wp2_with fail
          refine HFO.out.mono ?_
          rintro e w10 ⟨V10, rfl, s10, hb10⟩
          obtain ⟨p8, c8, rfl⟩ := s10.shape
          obtain ⟨n8, hn8⟩ : ∃ n, (ordT (topC (stl (cmN (Z1.map ZT.cont) (Z2.map ZT.cont))))).length = n := ⟨_, rfl⟩
          rw [hn8] at s10 ⊢
          have HS10 : Hid (RSR w10 (.slice p8 n8 c8) (ordT (topC (stl (cmN (Z1.map ZT.cont) (Z2.map ZT.cont))))) ∧ Below wA.heap.size wA w10) := ⟨s10, bel0 HBz.out hb10⟩
          clear s10 hb10 hc4 hc5 HFO HBz
          go_wp2_with fail
          refine (HBO.out w10 _ HS10.out.1 HSZ.out).mono ?_
          rintro e w11 ⟨⟨hgt, rfl⟩ | ⟨hle, rfl⟩, hb11⟩
          · have e1 : je = 3 := by rw [HM2.out, if_neg (by omega)]
            subst e1
            have e2 : jb = 0 := HMB.out
            subst e2
            have e3 : jt = [] := HMT.out
            subst e3
            obtain ⟨-, -, k3, -, -, hB1⟩ := HD.out w11 (bel0 HS10.out.2 hb11)
            obtain ⟨hc3, hf3⟩ := cells_block k3
            have HP : Hid (((w11.setCell ⟨w.heap.size + 1 + 1, 0, none⟩ (.int .i64 0)).setCell ⟨w.heap.size + 1 + 1, 1, none⟩ (.slice none 0 0)).heap[w.heap.size + 1 + 1]? = some (.cells #[.int .i64 0, .slice none 0 0] 27 (0, 0)) ∧ Below w.heap.size w ((w11.setCell ⟨w.heap.size + 1 + 1, 0, none⟩ (.int .i64 0)).setCell ⟨w.heap.size + 1 + 1, 1, none⟩ (.slice none 0 0))) := ⟨set2_get _ _ k3, (hB1.setCell (by simp; omega) _).setCell (by simp; omega) _⟩
            clear k3 hb11 hB1 hgt HM2 HMB HMT
            go_wp2_with fail
            refine bodyPost_ret (v := .tuple #[.agg #[.int .i64 0, .slice none 0 0], .int .i64 3]) (res_rs2 _ _ (w.heap.size + 1 + 1) _ _ Tryz.results23 rfl HP.out.1) rfl ?_
            exact ⟨_, rfl, RSR_nil _, HP.out.2⟩
          · have e1 : je = 0 := by rw [HM2.out, if_pos (by omega)]
            subst e1
            have e2 : jb = b := HMB.out
            subst e2
            have e3 : jt = ordT (topC (stl (cmN (Z1.map ZT.cont) (Z2.map ZT.cont)))) := HMT.out
            subst e3
            obtain ⟨-, -, k3, -, -, hB1⟩ := HD.out w11 (bel0 HS10.out.2 hb11)
            obtain ⟨hc3, hf3⟩ := cells_block k3
            have HP : Hid (((w11.setCell ⟨w.heap.size + 1 + 1, 0, none⟩ (.int .i64 jb)).setCell ⟨w.heap.size + 1 + 1, 1, none⟩ (.slice p8 n8 c8)).heap[w.heap.size + 1 + 1]? = some (.cells #[.int .i64 jb, .slice p8 n8 c8] 27 (0, 0)) ∧ RSR ((w11.setCell ⟨w.heap.size + 1 + 1, 0, none⟩ (.int .i64 jb)).setCell ⟨w.heap.size + 1 + 1, 1, none⟩ (.slice p8 n8 c8)) (.slice p8 n8 c8) (ordT (topC (stl (cmN (Z1.map ZT.cont) (Z2.map ZT.cont))))) ∧ Below w.heap.size w ((w11.setCell ⟨w.heap.size + 1 + 1, 0, none⟩ (.int .i64 jb)).setCell ⟨w.heap.size + 1 + 1, 1, none⟩ (.slice p8 n8 c8))) := ⟨set2_get _ _ k3, (HS10.out.1.later hb11).kept (gr2 _ _ _ _) (no_str2 k3), (hB1.setCell (by simp; omega) _).setCell (by simp; omega) _⟩
            clear k3 hb11 hB1 hle HM2 HMB HMT
            go_wp2_with fail
            refine bodyPost_ret (v := .tuple #[.agg #[.int .i64 jb, .slice p8 n8 c8], .int .i64 0]) (res_rs2 _ _ (w.heap.size + 1 + 1) _ _ Tryz.results23 rfl HP.out.1) rfl ?_
            exact ⟨_, rfl, HP.out.2⟩
end Go.Proofs.YtkcbkeimbpopcaaGreatDoor
