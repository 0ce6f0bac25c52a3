import Derived.Test.YtfhghplplkkpmaaGreatDoorXAY
import Derived.Test.YtfhghplplkkpmaaGreatDoorXAZ
namespace Go.Proofs.YtfhghplplkkpmaaGreatDoor
open Go.RowKit Go.Shelf
set_option maxRecDepth 100000 in
set_option maxHeartbeats 8000000 in
theorem without_any (Z1 : List ZT) (n1 : Nat) (p1 : Option Addr) (k1 : Nat) (uc : List UInt8) (uL : List (List UInt8)) (uq : Option Addr) (n2 uk : Nat) (w : World) (hn1 : Z1.length = n1) (hn2 : uL.length = n2) (hN1 : n1 ≤ 128) (hN2 : n2 ≤ 128) (hr1 : IRZ w p1 Z1) (g1 : ∀ z ∈ Z1, ZOK w z ∧ z.L.length ≤ 128 ∧ Sd z.cont) (iu : IRK w uq uL) (gc : good uc = true) (gu : ∀ x ∈ uL, good x = true) :
    Calls Tryz.prog 43 #[.slice p1 n1 k1, .agg #[.int .i64 (uc.length : Int), .int .u64 (FW uc 0 : Int), .int .u64 (FW uc 1 : Int), .int .u64 (FW uc 2 : Int), .int .u64 (FW uc 3 : Int), .int .u64 (OW uc 0 : Int), .int .u64 (OW uc 1 : Int), .int .u64 (OW uc 2 : Int), .int .u64 (OW uc 3 : Int), .slice uq n2 uk]] w fun e w' => Below w.heap.size w w' ∧ ((¬ 2048 < n1 * (1 + n2) ∧ szC (topC (stl (wtN (Z1.map ZT.cont) uc uL))) ≤ 128 ∧ ∃ ZZ v, e = .returned v ∧ ZZ.map ZT.cont = topC (stl (wtN (Z1.map ZT.cont) uc uL)) ∧ w'.ownsRow w.heap.size 62 10 v ZZ.length (tes ZZ) ∧ ∀ z ∈ ZZ, ZOK w' z) ∨ ((2048 < n1 * (1 + n2) ∨ (¬ 2048 < n1 * (1 + n2) ∧ 128 < szC (topC (stl (wtN (Z1.map ZT.cont) uc uL))))) ∧ e = .panicked [{ v := .iface 89 (.agg #[]), recovered := false }])) := by
  obtain ⟨i1, hi1, hy0, hy1, hy2⟩ := info_parts info_term
  obtain ⟨w2, hw2⟩ : ∃ w2, w.alloc (.cells #[.int .i64 (uc.length : Int), .int .u64 (FW uc 0 : Int), .int .u64 (FW uc 1 : Int), .int .u64 (FW uc 2 : Int), .int .u64 (FW uc 3 : Int), .int .u64 (OW uc 0 : Int), .int .u64 (OW uc 1 : Int), .int .u64 (OW uc 2 : Int), .int .u64 (OW uc 3 : Int), .slice uq n2 uk] 62 (0, 0)) = w2 := ⟨_, rfl⟩
  have hA : w2.heap[w.heap.size]? = some (.cells #[.int .i64 (uc.length : Int), .int .u64 (FW uc 0 : Int), .int .u64 (FW uc 1 : Int), .int .u64 (FW uc 2 : Int), .int .u64 (FW uc 3 : Int), .int .u64 (OW uc 0 : Int), .int .u64 (OW uc 1 : Int), .int .u64 (OW uc 2 : Int), .int .u64 (OW uc 3 : Int), .slice uq n2 uk] 62 (0, 0)) := by rw [← hw2]; exact alloc_get _ _
  have hB2 : Below w.heap.size w w2 := by rw [← hw2]; exact belA (Below.refl _ _) _
  have HW2 : Hid (w2.heap[w.heap.size]? = some (.cells #[.int .i64 (uc.length : Int), .int .u64 (FW uc 0 : Int), .int .u64 (FW uc 1 : Int), .int .u64 (FW uc 2 : Int), .int .u64 (FW uc 3 : Int), .int .u64 (OW uc 0 : Int), .int .u64 (OW uc 1 : Int), .int .u64 (OW uc 2 : Int), .int .u64 (OW uc 3 : Int), .slice uq n2 uk] 62 (0, 0)) ∧ Below w.heap.size w w2) := ⟨hA, hB2⟩
  have HR1 : Hid (IRZ w p1 Z1) := hr1
  have HG1 : Hid (∀ z ∈ Z1, ZOK w z ∧ z.L.length ≤ 128 ∧ Sd z.cont) := g1
  have HN : Hid (Z1.length = n1 ∧ uL.length = n2) := ⟨hn1, hn2⟩
  have HU : Hid (IRK w uq uL ∧ good uc = true ∧ ∀ x ∈ uL, good x = true) := ⟨iu, gc, gu⟩
  have HLB : Hid (∀ (k j : Nat) (x y : List UInt8 × List (List UInt8)), (stl (wtN ((Z1.take k).map ZT.cont) uc uL ++ (y :: wtI x (uL.take j)))).length ≤ 20000) := fun k j x y => by
    have h := wt_most Z1 uc uL k j x y (by omega) (by omega)
    rw [stD_eq, List.length_map] at h
    exact h
  obtain ⟨N, hN⟩ : ∃ N, n1 * (1 + n2) = N := ⟨_, rfl⟩
  have hNb : N ≤ 16512 := by
    have : n1 * (1 + n2) ≤ 128 * 129 := Nat.mul_le_mul (by omega) (by omega)
    omega
  have hmul : (n1 : Int) * (1 + (n2 : Int)) = (N : Int) := by rw [← hN]; simp
  rw [hN]
  obtain ⟨hcW, -⟩ := cells_block hA
  clear hr1 g1 hn1 hn2 iu gc gu hA hB2 hN
  by_cases hbig : 2048 < N
  · have H0 := spend_over (N : Int) 2048 w2 (by omega)
    go_enter Tryz.func43, Tryz.ntmps43
    go_wp2_with fail
    refine H0.mono ?_
    rintro e W1 ⟨rfl, rfl⟩
    clear H0 hcW
    go_wp2_with fail
    exact ⟨rfl, HW2.out.2, .inr ⟨.inl hbig, rfl⟩⟩
  · have H0 := spend_ok (N : Int) 2048 w2 (by omega)
    go_enter Tryz.func43, Tryz.ntmps43
    go_wp2_with fail
    refine H0.mono ?_
    rintro e W1 ⟨rfl, hW1⟩
    rw [hW1]
    clear hW1 W1
    clear H0 hcW hw2
    go_wp2_with fail
    go_loopw [5, 26] (fun v5 v26 wr => ∃ k : Nat, v26 = .int .i64 (k : Int) ∧ k ≤ n1 ∧ Hid (Below w2.heap.size w2 wr ∧ (∃ Zq : List ZT, Zq.map ZT.cont = stl (wtN ((Z1.take k).map ZT.cont) uc uL) ∧ Zq.length ≤ 20100 ∧ wr.ownsRow w2.heap.size 62 10 v5 Zq.length (tes Zq) ∧ ∀ z ∈ Zq, ZOK wr z))) (fun _ v26 _ => n1 - (intOf v26).toNat)
    case atStart => exact ⟨0, rfl, Nat.zero_le _, Below.refl _ _, [], rfl, Nat.zero_le _, World.ownsRow_nil _ _ _ _, fun z hz => by cases hz⟩
    case round =>
      obtain ⟨k, rfl, hk, hZ0⟩ := hrel
      have hB := hZ0.out.1
      by_cases hlt : k < n1
      · have j1 : (k : Int) < (n1 : Int) := by omega
        have j0 : (0 : Int) ≤ (k : Int) := by omega
        obtain ⟨za, hza⟩ : ∃ z, Z1[k]? = some z := ⟨_, List.getElem?_eq_getElem (by rw [HN.out.1]; exact hlt)⟩
        obtain ⟨ac, aq, ak, aL⟩ := za
        obtain ⟨ga, oa, rfl, p0, p1, p2, p3, p4, p5, p6, p7, p8, p9⟩ := HR1.out wr (bel0 HW2.out.2 hB) k _ hza
        simp only at p0 p1 p2 p3 p4 p5 p6 p7 p8 p9
        have hzok := HG1.out _ (List.mem_of_getElem? hza)
        have HZA : Hid (Z1[k]? = some ⟨ac, aq, ak, aL⟩ ∧ IRK w aq aL ∧ aL.length ≤ 128 ∧ good ac = true ∧ (∀ x ∈ aL, good x = true) ∧ Sd (ac, aL)) := ⟨hza, hzok.1.1, hzok.2.1, hzok.1.2.2.1, hzok.1.2.2.2, hzok.2.2⟩
        obtain ⟨wo, rfl⟩ : ∃ wo, wo = wr := ⟨wr, rfl⟩
        obtain ⟨wa, hwa⟩ : ∃ wa, wo.alloc (.cells #[.int .i64 (ac.length : Int), .int .u64 (FW ac 0 : Int), .int .u64 (FW ac 1 : Int), .int .u64 (FW ac 2 : Int), .int .u64 (FW ac 3 : Int), .int .u64 (OW ac 0 : Int), .int .u64 (OW ac 1 : Int), .int .u64 (OW ac 2 : Int), .int .u64 (OW ac 3 : Int), .slice aq aL.length ak] 62 (0, 0)) = wa := ⟨_, rfl⟩
        have hal : Below wo.heap.size wo wa := by rw [← hwa]; exact belA (Below.refl _ _) _
        have hga : wa.heap[wo.heap.size]? = some (.cells #[.int .i64 (ac.length : Int), .int .u64 (FW ac 0 : Int), .int .u64 (FW ac 1 : Int), .int .u64 (FW ac 2 : Int), .int .u64 (FW ac 3 : Int), .int .u64 (OW ac 0 : Int), .int .u64 (OW ac 1 : Int), .int .u64 (OW ac 2 : Int), .int .u64 (OW ac 3 : Int), .slice aq aL.length ak] 62 (0, 0)) := by rw [← hwa]; exact alloc_get _ _
        have hcA2 := (cells_block hga).1
        have hcW := (cells_block (keepblk3 (bel0 hB hal) HW2.out.1)).1
        have HWA : Hid (Below wo.heap.size wo wa ∧ wa.heap[wo.heap.size]? = some (.cells #[.int .i64 (ac.length : Int), .int .u64 (FW ac 0 : Int), .int .u64 (FW ac 1 : Int), .int .u64 (FW ac 2 : Int), .int .u64 (FW ac 3 : Int), .int .u64 (OW ac 0 : Int), .int .u64 (OW ac 1 : Int), .int .u64 (OW ac 2 : Int), .int .u64 (OW ac 3 : Int), .slice aq aL.length ak] 62 (0, 0)) ∧ Below w2.heap.size w2 wa) := ⟨hal, hga, bel0 hB hal⟩
        have HOU : Hid (Calls Tryz.prog 63 #[.agg #[.int .i64 (ac.length : Int), .int .u64 (FW ac 0 : Int), .int .u64 (FW ac 1 : Int), .int .u64 (FW ac 2 : Int), .int .u64 (FW ac 3 : Int), .int .u64 (OW ac 0 : Int), .int .u64 (OW ac 1 : Int), .int .u64 (OW ac 2 : Int), .int .u64 (OW ac 3 : Int), .slice aq aL.length ak], .agg #[.int .i64 (uc.length : Int), .int .u64 (FW uc 0 : Int), .int .u64 (FW uc 1 : Int), .int .u64 (FW uc 2 : Int), .int .u64 (FW uc 3 : Int), .int .u64 (OW uc 0 : Int), .int .u64 (OW uc 1 : Int), .int .u64 (OW uc 2 : Int), .int .u64 (OW uc 3 : Int)]] wa fun e w' => Below wa.heap.size wa w' ∧ ((outO (ac, aL) uc = none ∧ e = .returned (.tuple #[.agg #[.int .i64 0, .int .u64 0, .int .u64 0, .int .u64 0, .int .u64 0, .int .u64 0, .int .u64 0, .int .u64 0, .int .u64 0, .slice none 0 0], .bool false])) ∨ ∃ R q k, outO (ac, aL) uc = some (ac, R) ∧ e = .returned (.tuple #[.agg #[.int .i64 (ac.length : Int), .int .u64 (FW ac 0 : Int), .int .u64 (FW ac 1 : Int), .int .u64 (FW ac 2 : Int), .int .u64 (FW ac 3 : Int), .int .u64 (OW ac 0 : Int), .int .u64 (OW ac 1 : Int), .int .u64 (OW ac 2 : Int), .int .u64 (OW ac 3 : Int), .slice q R.length k], .bool true]) ∧ IRK w' q R)) := outside_any ac aq aL.length ak aL uc wa rfl (HZA.out.2.1.later (KC_below (bel0 HW2.out.2 (bel0 hB hal)))) (by have := HZA.out.2.2.1; omega) HZA.out.2.2.2.1 HZA.out.2.2.2.2.1 HU.out.2.1
        have HOE : Hid (outO (ac, aL) uc = (setO ac (aL ++ [uc])).map (fun R => (ac, R))) := out_eq HZA.out.2.2.2.2.2
        have hneA : u5.ownBlock ≠ some wo.heap.size := fun e => by
          obtain ⟨Zk, e1, e2, e3, e4⟩ := hZ0.out.2
          have := (e3.lt _ e).2
          omega
        clear hza hzok hal hga
        go_wp2_with fail
        refine HOU.out.mono ?_
        rintro e W6 ⟨hb6, ⟨hN1, rfl⟩ | ⟨R, q, kq, hN1, rfl, iR⟩⟩
        · have HSO : Hid (setO ac (aL ++ [uc]) = none) := by
            have h := HOE.out
            rw [hN1] at h
            cases hs : setO ac (aL ++ [uc]) with
            | none => exact (by unfold Hid; rfl)
            | some R => rw [hs] at h; cases h
          have hBr6 := bel0 HWA.out.1 hb6
          have HS0 : Hid (Below w2.heap.size w2 (W6.alloc (.cells #[.int .i64 0, .int .u64 0, .int .u64 0, .int .u64 0, .int .u64 0, .int .u64 0, .int .u64 0, .int .u64 0, .int .u64 0, .slice none 0 0] 62 (0, 0))) ∧ (W6.alloc (.cells #[.int .i64 0, .int .u64 0, .int .u64 0, .int .u64 0, .int .u64 0, .int .u64 0, .int .u64 0, .int .u64 0, .int .u64 0, .slice none 0 0] 62 (0, 0))).heap[wo.heap.size]? = some (.cells #[.int .i64 (ac.length : Int), .int .u64 (FW ac 0 : Int), .int .u64 (FW ac 1 : Int), .int .u64 (FW ac 2 : Int), .int .u64 (FW ac 3 : Int), .int .u64 (OW ac 0 : Int), .int .u64 (OW ac 1 : Int), .int .u64 (OW ac 2 : Int), .int .u64 (OW ac 3 : Int), .slice aq aL.length ak] 62 (0, 0)) ∧ u5.ownBlock ≠ some wo.heap.size ∧ (∃ Zq : List ZT, Zq.map ZT.cont = stl (wtN ((Z1.take k).map ZT.cont) uc uL ++ ((ac, aL ++ [uc]) :: wtI (ac, aL) (uL.take 0))) ∧ Zq.length ≤ 20100 ∧ (W6.alloc (.cells #[.int .i64 0, .int .u64 0, .int .u64 0, .int .u64 0, .int .u64 0, .int .u64 0, .int .u64 0, .int .u64 0, .int .u64 0, .slice none 0 0] 62 (0, 0))).ownsRow w2.heap.size 62 10 u5 Zq.length (tes Zq) ∧ ∀ z ∈ Zq, ZOK (W6.alloc (.cells #[.int .i64 0, .int .u64 0, .int .u64 0, .int .u64 0, .int .u64 0, .int .u64 0, .int .u64 0, .int .u64 0, .int .u64 0, .slice none 0 0] 62 (0, 0))) z)) := by
            obtain ⟨Zk, e1, e2, e3, e4⟩ := hZ0.out.2
            have hBw : Below wo.heap.size wo (W6.alloc (.cells #[.int .i64 0, .int .u64 0, .int .u64 0, .int .u64 0, .int .u64 0, .int .u64 0, .int .u64 0, .int .u64 0, .int .u64 0, .slice none 0 0] 62 (0, 0))) := belA hBr6 _
            refine ⟨belA (bel0 HWA.out.2.2 hb6) _, keepblk3 (belA hb6 _) HWA.out.2.1, hneA, Zk, ?_, e2, own_belQ e3 hBw, fun z hz => (e4 z hz).later (KC_below hBw)⟩
            rw [List.take_zero, show wtI (ac, aL) [] = [] from rfl, stl_app, stl_sing, HSO.out, ← e1]
            simp
          have hcW7 := (cells_block (keepblk3 HS0.out.1 HW2.out.1)).1
          clear hcA2 hcW hwa p0 p1 p2 p3 p4 p5 p6 p7 p8 p9 hb6 HOU hN1 hBr6 hZ0 HOE
          go_wp2_with fail
          clear hcW7
          go_loopw [5, 45] (fun v5 v45 ws => ∃ j : Nat, v45 = .int .i64 (j : Int) ∧ j ≤ n2 ∧ Hid (Below w2.heap.size w2 ws ∧ ws.heap[wo.heap.size]? = some (.cells #[.int .i64 (ac.length : Int), .int .u64 (FW ac 0 : Int), .int .u64 (FW ac 1 : Int), .int .u64 (FW ac 2 : Int), .int .u64 (FW ac 3 : Int), .int .u64 (OW ac 0 : Int), .int .u64 (OW ac 1 : Int), .int .u64 (OW ac 2 : Int), .int .u64 (OW ac 3 : Int), .slice aq aL.length ak] 62 (0, 0)) ∧ v5.ownBlock ≠ some wo.heap.size ∧ (∃ Zq : List ZT, Zq.map ZT.cont = stl (wtN ((Z1.take k).map ZT.cont) uc uL ++ ((ac, aL ++ [uc]) :: wtI (ac, aL) (uL.take j))) ∧ Zq.length ≤ 20100 ∧ ws.ownsRow w2.heap.size 62 10 v5 Zq.length (tes Zq) ∧ ∀ z ∈ Zq, ZOK ws z))) (fun _ v45 _ => n2 - (intOf v45).toNat)
          case atStart => exact ⟨0, rfl, Nat.zero_le _, HS0⟩
          case round =>
            clear HS0
            obtain ⟨j, rfl, hj, hZ⟩ := hrel
            have hB0 := hZ.out.1
            have hA0 := hZ.out.2.1
            by_cases hltj : j < n2
            · have r1 : (j : Int) < (n2 : Int) := by omega
              have r0 : (0 : Int) ≤ (j : Int) := by omega
              obtain ⟨bc, hbc⟩ : ∃ z, uL[j]? = some z := ⟨_, List.getElem?_eq_getElem (by rw [HN.out.2]; exact hltj)⟩
              obtain ⟨gb, ob, rfl, p0, p1, p2, p3, p4, p5, p6, p7, p8⟩ := HU.out.1.irc wr (bel0 HW2.out.2 hB0) j _ hbc
              have hgb := HU.out.2.2 _ (List.mem_of_getElem? hbc)
              have HST : Hid (wtI (ac, aL) (uL.take (j + 1)) = wtI (ac, aL) (uL.take j) ++ (if agB ac bc = true then [(mtT ac bc, aL)] else [])) := wtI_step (x := (ac, aL)) hbc
              obtain ⟨wb, hwb⟩ : ∃ wb, wr.alloc (.cells #[.int .i64 (bc.length : Int), .int .u64 (FW bc 0 : Int), .int .u64 (FW bc 1 : Int), .int .u64 (FW bc 2 : Int), .int .u64 (FW bc 3 : Int), .int .u64 (OW bc 0 : Int), .int .u64 (OW bc 1 : Int), .int .u64 (OW bc 2 : Int), .int .u64 (OW bc 3 : Int)] 40 (0, 0)) = wb := ⟨_, rfl⟩
              have hal : Below wr.heap.size wr wb := by rw [← hwb]; exact belA (Below.refl _ _) _
              have hgb2 : wb.heap[wr.heap.size]? = some (.cells #[.int .i64 (bc.length : Int), .int .u64 (FW bc 0 : Int), .int .u64 (FW bc 1 : Int), .int .u64 (FW bc 2 : Int), .int .u64 (FW bc 3 : Int), .int .u64 (OW bc 0 : Int), .int .u64 (OW bc 1 : Int), .int .u64 (OW bc 2 : Int), .int .u64 (OW bc 3 : Int)] 40 (0, 0)) := by rw [← hwb]; exact alloc_get _ _
              obtain ⟨hcb, -⟩ := cells_block hgb2
              obtain ⟨hca, -⟩ := cells_block (keepblk3 hal hA0)
              obtain ⟨M, hM⟩ : ∃ M, mtT ac bc = M := ⟨_, rfl⟩
              obtain ⟨q, hq⟩ : ∃ q, agB ac bc = q := ⟨_, rfl⟩
              have gM : Hid (good M = true) := by unfold Hid; rw [← hM]; exact good_mtT ac bc HZA.out.2.2.2.1 hgb
              have HMt : Hid (Calls Tryz.prog 56 #[.agg #[.int .i64 (ac.length : Int), .int .u64 (FW ac 0 : Int), .int .u64 (FW ac 1 : Int), .int .u64 (FW ac 2 : Int), .int .u64 (FW ac 3 : Int), .int .u64 (OW ac 0 : Int), .int .u64 (OW ac 1 : Int), .int .u64 (OW ac 2 : Int), .int .u64 (OW ac 3 : Int)], .agg #[.int .i64 (bc.length : Int), .int .u64 (FW bc 0 : Int), .int .u64 (FW bc 1 : Int), .int .u64 (FW bc 2 : Int), .int .u64 (FW bc 3 : Int), .int .u64 (OW bc 0 : Int), .int .u64 (OW bc 1 : Int), .int .u64 (OW bc 2 : Int), .int .u64 (OW bc 3 : Int)]] wb fun e w' => e = .returned (.tuple #[.agg #[.int .i64 (M.length : Int), .int .u64 (FW M 0 : Int), .int .u64 (FW M 1 : Int), .int .u64 (FW M 2 : Int), .int .u64 (FW M 3 : Int), .int .u64 (OW M 0 : Int), .int .u64 (OW M 1 : Int), .int .u64 (OW M 2 : Int), .int .u64 (OW M 3 : Int)], .bool q]) ∧ Below wb.heap.size wb w') := meet_D ac bc M q wb HZA.out.2.2.2.1 hM hq
              rw [hM, hq] at HST
              have HGB : Hid (wb.heap[wo.heap.size]? = some (.cells #[.int .i64 (ac.length : Int), .int .u64 (FW ac 0 : Int), .int .u64 (FW ac 1 : Int), .int .u64 (FW ac 2 : Int), .int .u64 (FW ac 3 : Int), .int .u64 (OW ac 0 : Int), .int .u64 (OW ac 1 : Int), .int .u64 (OW ac 2 : Int), .int .u64 (OW ac 3 : Int), .slice aq aL.length ak] 62 (0, 0)) ∧ Below wr.heap.size wr wb ∧ Below w2.heap.size w2 wb) := ⟨keepblk3 hal hA0, hal, bel0 hB0 hal⟩
              clear hbc hgb hgb2 hal hM hq hA0
              cases q with
              | false =>
                go_wp2_with fail
                refine HMt.out.mono ?_
                rintro e W3 ⟨rfl, hb3⟩
                have HX : Hid (Below w2.heap.size w2 (W3.alloc (.cells #[.int .i64 (M.length : Int), .int .u64 (FW M 0 : Int), .int .u64 (FW M 1 : Int), .int .u64 (FW M 2 : Int), .int .u64 (FW M 3 : Int), .int .u64 (OW M 0 : Int), .int .u64 (OW M 1 : Int), .int .u64 (OW M 2 : Int), .int .u64 (OW M 3 : Int)] 40 (0, 0))) ∧ (W3.alloc (.cells #[.int .i64 (M.length : Int), .int .u64 (FW M 0 : Int), .int .u64 (FW M 1 : Int), .int .u64 (FW M 2 : Int), .int .u64 (FW M 3 : Int), .int .u64 (OW M 0 : Int), .int .u64 (OW M 1 : Int), .int .u64 (OW M 2 : Int), .int .u64 (OW M 3 : Int)] 40 (0, 0))).heap[wo.heap.size]? = some (.cells #[.int .i64 (ac.length : Int), .int .u64 (FW ac 0 : Int), .int .u64 (FW ac 1 : Int), .int .u64 (FW ac 2 : Int), .int .u64 (FW ac 3 : Int), .int .u64 (OW ac 0 : Int), .int .u64 (OW ac 1 : Int), .int .u64 (OW ac 2 : Int), .int .u64 (OW ac 3 : Int), .slice aq aL.length ak] 62 (0, 0)) ∧ u5.ownBlock ≠ some wo.heap.size ∧ (∃ Zq : List ZT, Zq.map ZT.cont = stl (wtN ((Z1.take k).map ZT.cont) uc uL ++ ((ac, aL ++ [uc]) :: wtI (ac, aL) (uL.take (j + 1)))) ∧ Zq.length ≤ 20100 ∧ (W3.alloc (.cells #[.int .i64 (M.length : Int), .int .u64 (FW M 0 : Int), .int .u64 (FW M 1 : Int), .int .u64 (FW M 2 : Int), .int .u64 (FW M 3 : Int), .int .u64 (OW M 0 : Int), .int .u64 (OW M 1 : Int), .int .u64 (OW M 2 : Int), .int .u64 (OW M 3 : Int)] 40 (0, 0))).ownsRow w2.heap.size 62 10 u5 Zq.length (tes Zq) ∧ ∀ z ∈ Zq, ZOK (W3.alloc (.cells #[.int .i64 (M.length : Int), .int .u64 (FW M 0 : Int), .int .u64 (FW M 1 : Int), .int .u64 (FW M 2 : Int), .int .u64 (FW M 3 : Int), .int .u64 (OW M 0 : Int), .int .u64 (OW M 1 : Int), .int .u64 (OW M 2 : Int), .int .u64 (OW M 3 : Int)] 40 (0, 0))) z)) := by
                  obtain ⟨-, f1, f2, Zk, e1, e2, e3, e4⟩ := hZ.out
                  have hBw : Below wr.heap.size wr (W3.alloc (.cells #[.int .i64 (M.length : Int), .int .u64 (FW M 0 : Int), .int .u64 (FW M 1 : Int), .int .u64 (FW M 2 : Int), .int .u64 (FW M 3 : Int), .int .u64 (OW M 0 : Int), .int .u64 (OW M 1 : Int), .int .u64 (OW M 2 : Int), .int .u64 (OW M 3 : Int)] 40 (0, 0))) := belA (bel0 HGB.out.2.1 hb3) _
                  refine ⟨belA (bel0 HGB.out.2.2 hb3) _, keepblk3 hBw f1, f2, Zk, ?_, e2, own_belQ e3 hBw, fun z hz => (e4 z hz).later (KC_below hBw)⟩
                  rw [HST.out, if_neg (by simp), List.append_nil]
                  exact e1
                clear hcb hca hwb p0 p1 p2 p3 p4 p5 p6 p7 p8 hb3 HMt
                go_wp2_with fail
                go_roundw
                case rel => exact ⟨j + 1, by go_num, by omega, HX⟩
                case measure => simp [intOf]; omega
              | true =>
                go_wp2_with fail
                refine HMt.out.mono ?_
                rintro e W3 ⟨rfl, hb3⟩
                have hk4 : Below wb.heap.size wb (W3.alloc (.cells #[.int .i64 (M.length : Int), .int .u64 (FW M 0 : Int), .int .u64 (FW M 1 : Int), .int .u64 (FW M 2 : Int), .int .u64 (FW M 3 : Int), .int .u64 (OW M 0 : Int), .int .u64 (OW M 1 : Int), .int .u64 (OW M 2 : Int), .int .u64 (OW M 3 : Int)] 40 (0, 0))) := belA hb3 _
                obtain ⟨hcm, -⟩ := cells_block (alloc_get W3 (.cells #[.int .i64 (M.length : Int), .int .u64 (FW M 0 : Int), .int .u64 (FW M 1 : Int), .int .u64 (FW M 2 : Int), .int .u64 (FW M 3 : Int), .int .u64 (OW M 0 : Int), .int .u64 (OW M 1 : Int), .int .u64 (OW M 2 : Int), .int .u64 (OW M 3 : Int)] 40 (0, 0)))
                obtain ⟨hca4, -⟩ := cells_block (keepblk3 hk4 HGB.out.1)
                obtain ⟨W4, hW4⟩ : ∃ W4, W3.alloc (.cells #[.int .i64 (M.length : Int), .int .u64 (FW M 0 : Int), .int .u64 (FW M 1 : Int), .int .u64 (FW M 2 : Int), .int .u64 (FW M 3 : Int), .int .u64 (OW M 0 : Int), .int .u64 (OW M 1 : Int), .int .u64 (OW M 2 : Int), .int .u64 (OW M 3 : Int)] 40 (0, 0)) = W4 := ⟨_, rfl⟩
                rw [hW4] at hk4 hcm hca4
                obtain ⟨W5, hW5⟩ : ∃ W5, W4.alloc (.cells #[.slice aq aL.length ak] 53 (0, 0)) = W5 := ⟨_, rfl⟩
                have hk5 : Below W4.heap.size W4 W5 := by rw [← hW5]; exact belA (Below.refl _ _) _
                have hg5 : W5.heap[W4.heap.size]? = some (.cells #[.slice aq aL.length ak] 53 (0, 0)) := by rw [← hW5]; exact alloc_get _ _
                have hBw5 : Below w.heap.size w W5 := bel0 HW2.out.2 (bel0 hB0 (bel0 HGB.out.2.1 (bel0 hk4 hk5)))
                have hIRL : IRL W5 (some ⟨W4.heap.size, 0, none⟩) [aL] := fun W hW x K hK => by
                  match x, hK with
                  | 0, hK =>
                    obtain rfl : aL = K := by simpa using hK
                    exact ⟨W4.heap.size, 0, aq, ak, rfl, (cells_block (keepblk3 hW hg5)).1 0, HZA.out.2.1.irc.later (bel0 hBw5 hW)⟩
                  | x + 1, hK => simp at hK
                have hfl : ([aL] : List (List (List UInt8))).flatten = aL := by simp
                have H1 := settled_any M [aL] 1 (some ⟨W4.heap.size, 0, none⟩) 1 W5 rfl (by rw [hfl]; have := HZA.out.2.2.1; omega) (by omega) gM.out hIRL (by rw [hfl]; exact HZA.out.2.2.2.2.1)
                rw [hfl] at H1
                have HSE : Hid (Calls Tryz.prog 41 #[.agg #[.int .i64 (M.length : Int), .int .u64 (FW M 0 : Int), .int .u64 (FW M 1 : Int), .int .u64 (FW M 2 : Int), .int .u64 (FW M 3 : Int), .int .u64 (OW M 0 : Int), .int .u64 (OW M 1 : Int), .int .u64 (OW M 2 : Int), .int .u64 (OW M 3 : Int)], .slice (some ⟨W4.heap.size, 0, none⟩) 1 1] W5 fun e w' => Below W5.heap.size W5 w' ∧ ((setO M aL = none ∧ e = .returned (.tuple #[.agg #[.int .i64 0, .int .u64 0, .int .u64 0, .int .u64 0, .int .u64 0, .int .u64 0, .int .u64 0, .int .u64 0, .int .u64 0, .slice none 0 0], .bool false])) ∨ ∃ R v, setO M aL = some R ∧ e = .returned (.tuple #[.agg #[.int .i64 (M.length : Int), .int .u64 (FW M 0 : Int), .int .u64 (FW M 1 : Int), .int .u64 (FW M 2 : Int), .int .u64 (FW M 3 : Int), .int .u64 (OW M 0 : Int), .int .u64 (OW M 1 : Int), .int .u64 (OW M 2 : Int), .int .u64 (OW M 3 : Int), v], .bool true]) ∧ w'.ownsRow W5.heap.size 40 9 v R.length (ces R))) := H1
                have HK5 : Hid (Below wr.heap.size wr W5 ∧ Below w2.heap.size w2 W5) := ⟨bel0 HGB.out.2.1 (bel0 hk4 hk5), bel0 HGB.out.2.2 (bel0 hk4 hk5)⟩
                clear hcb hca hwb p0 p1 p2 p3 p4 p5 p6 p7 p8 HMt hb3 hk4 hk5 hg5 hIRL H1 hfl hBw5
                go_wp2_with fail
                refine HSE.out.mono ?_
                rintro e W6 ⟨hb6, ⟨hN1, rfl⟩ | ⟨R, v, hN1, rfl, oR⟩⟩
                · have HX : Hid (∀ o : Obj, (Below w2.heap.size w2 (W6.alloc o) ∧ (W6.alloc o).heap[wo.heap.size]? = some (.cells #[.int .i64 (ac.length : Int), .int .u64 (FW ac 0 : Int), .int .u64 (FW ac 1 : Int), .int .u64 (FW ac 2 : Int), .int .u64 (FW ac 3 : Int), .int .u64 (OW ac 0 : Int), .int .u64 (OW ac 1 : Int), .int .u64 (OW ac 2 : Int), .int .u64 (OW ac 3 : Int), .slice aq aL.length ak] 62 (0, 0)) ∧ u5.ownBlock ≠ some wo.heap.size ∧ (∃ Zq : List ZT, Zq.map ZT.cont = stl (wtN ((Z1.take k).map ZT.cont) uc uL ++ ((ac, aL ++ [uc]) :: wtI (ac, aL) (uL.take (j + 1)))) ∧ Zq.length ≤ 20100 ∧ (W6.alloc o).ownsRow w2.heap.size 62 10 u5 Zq.length (tes Zq) ∧ ∀ z ∈ Zq, ZOK (W6.alloc o) z))) := fun o => by
                    obtain ⟨-, f1, f2, Zk, e1, e2, e3, e4⟩ := hZ.out
                    have hBw : Below wr.heap.size wr (W6.alloc o) := belA (bel0 HK5.out.1 hb6) _
                    refine ⟨belA (bel0 HK5.out.2 hb6) _, keepblk3 hBw f1, f2, Zk, ?_, e2, own_belQ e3 hBw, fun z hz => (e4 z hz).later (KC_below hBw)⟩
                    rw [HST.out, if_pos (by first | rfl | trivial), ← List.cons_append, ← List.append_assoc, stl_app, stl_sing, hN1, ← e1]
                    simp
                  clear hcm hca4 hW4 hW5 hb6 HSE hN1
                  go_wp2_with fail
                  go_roundw
                  case rel => exact ⟨j + 1, by go_num, by omega, HX.out _⟩
                  case measure => simp [intOf]; omega
                · obtain ⟨pv, cv1, rfl⟩ := shapeQ1 oR
                  obtain ⟨-, f1, f2, Zk, e1, e2, e3, e4⟩ := hZ.out
                  have hBr6 := bel0 HK5.out.1 hb6
                  have o5 := own_belQ e3 hBr6
                  obtain ⟨p5', c5', rfl⟩ := shapeQ1 o5
                  have hs1 := (bel0 hB0 hBr6).size
                  have hzl : Zk.length ≤ 20000 := by
                    have h1 := congrArg List.length e1
                    rw [List.length_map] at h1
                    have h2 := HLB.out k j (ac, aL) (ac, aL ++ [uc])
                    omega
                  have HOR : Hid (W6.ownsRow W5.heap.size 40 9 (.slice pv R.length cv1) R.length (ces R) ∧ setO M aL = some R) := ⟨oR, hN1⟩
                  have HZK : Hid (Zk.map ZT.cont = stl (wtN ((Z1.take k).map ZT.cont) uc uL ++ ((ac, aL ++ [uc]) :: wtI (ac, aL) (uL.take j))) ∧ ∀ z ∈ Zk, ZOK wr z) := ⟨e1, e4⟩
                  have HB6 : Hid (Below wr.heap.size wr W6 ∧ Below w2.heap.size w2 W6 ∧ W6.heap[wo.heap.size]? = some (.cells #[.int .i64 (ac.length : Int), .int .u64 (FW ac 0 : Int), .int .u64 (FW ac 1 : Int), .int .u64 (FW ac 2 : Int), .int .u64 (FW ac 3 : Int), .int .u64 (OW ac 0 : Int), .int .u64 (OW ac 1 : Int), .int .u64 (OW ac 2 : Int), .int .u64 (OW ac 3 : Int), .slice aq aL.length ak] 62 (0, 0)) ∧ (Value.slice p5' Zk.length c5').ownBlock ≠ some wo.heap.size ∧ wo.heap.size < W6.heap.size) := ⟨hBr6, bel0 HK5.out.2 hb6, keepblk3 hBr6 f1, f2, lt_of_get3 (keepblk3 hBr6 f1)⟩
                  clear hcm hca4 hW4 hW5 hb6 HSE hN1 oR e1 e4 e2 e3 hZ hBr6 f1 f2
                  go_wp2_with (at_builtin; refine wpList_append_lies _ rfl _ _ 24 rfl w2.heap.size 62 i1 _ 10 96 Tryz.underlying24 hi1 hy0 hy1 hy2 rfl (by decide) _ _ _ rfl ((o5.alloc _).alloc _) ⟨_, 0, none⟩ 1 1 ([.int .i64 (M.length : Int), .int .u64 (FW M 0 : Int), .int .u64 (FW M 1 : Int), .int .u64 (FW M 2 : Int), .int .u64 (FW M 3 : Int), .int .u64 (OW M 0 : Int), .int .u64 (OW M 1 : Int), .int .u64 (OW M 2 : Int), .int .u64 (OW M 3 : Int), .slice pv R.length cv1]) rfl rfl (World.news_of_block (cs := #[.int .i64 (M.length : Int), .int .u64 (FW M 0 : Int), .int .u64 (FW M 1 : Int), .int .u64 (FW M 2 : Int), .int .u64 (FW M 3 : Int), .int .u64 (OW M 0 : Int), .int .u64 (OW M 1 : Int), .int .u64 (OW M 2 : Int), .int .u64 (OW M 3 : Int), .slice pv R.length cv1]) (t := 62) (fr := (0, 0)) (by first | exact alw_1 _ _ _ | exact alloc_get _ _)) (by simp [Value.oneCell']) (by decide) (by unfold maxLen; omega) (by omega) (by simp; omega) _ rfl ?_; intro g9 c9 w4 o4 g4 hg9 _)
                  have HE : Hid (Below w2.heap.size w2 w4 ∧ w4.heap[wo.heap.size]? = some (.cells #[.int .i64 (ac.length : Int), .int .u64 (FW ac 0 : Int), .int .u64 (FW ac 1 : Int), .int .u64 (FW ac 2 : Int), .int .u64 (FW ac 3 : Int), .int .u64 (OW ac 0 : Int), .int .u64 (OW ac 1 : Int), .int .u64 (OW ac 2 : Int), .int .u64 (OW ac 3 : Int), .slice aq aL.length ak] 62 (0, 0)) ∧ (Value.slice (some ⟨g9, 0, none⟩) (Zk.length + 1) c9).ownBlock ≠ some wo.heap.size ∧ (∃ Zq : List ZT, Zq.map ZT.cont = stl (wtN ((Z1.take k).map ZT.cont) uc uL ++ ((ac, aL ++ [uc]) :: wtI (ac, aL) (uL.take (j + 1)))) ∧ Zq.length ≤ 20100 ∧ w4.ownsRow w2.heap.size 62 10 (Value.slice (some ⟨g9, 0, none⟩) (Zk.length + 1) c9) Zq.length (tes Zq) ∧ ∀ z ∈ Zq, ZOK w4 z)) := by
                    have oX := (o5.alloc (.cells #[.int .i64 (M.length : Int), .int .u64 (FW M 0 : Int), .int .u64 (FW M 1 : Int), .int .u64 (FW M 2 : Int), .int .u64 (FW M 3 : Int), .int .u64 (OW M 0 : Int), .int .u64 (OW M 1 : Int), .int .u64 (OW M 2 : Int), .int .u64 (OW M 3 : Int), .slice pv R.length cv1] 62 (0, 0))).alloc (.cells #[.int .i64 (M.length : Int), .int .u64 (FW M 0 : Int), .int .u64 (FW M 1 : Int), .int .u64 (FW M 2 : Int), .int .u64 (FW M 3 : Int), .int .u64 (OW M 0 : Int), .int .u64 (OW M 1 : Int), .int .u64 (OW M 2 : Int), .int .u64 (OW M 3 : Int), .slice pv R.length cv1] 62 (0, 0))
                    have hk4 : KC W6 w4 := (KC_below (belA (belA (Below.refl _ _) _) _)).trans (KC_own oX g4)
                    have hl6 := HB6.out.2.2.2.2
                    refine ⟨(belA (belA HB6.out.2.1 _) _).grown g4 (by simp; omega) (fun b e => (o5.lt b e).1), ?_, ?_, Zk ++ [⟨M, pv, cv1, R⟩], ?_, by rw [List.length_append]; simp; omega, ?_, ?_⟩
                    · refine (g4.block wo.heap.size (by simp; omega) (fun e => HB6.out.2.2.2.1 e.symm)).trans ?_
                      rw [Below.heap_alloc _ _ _ (by simp; omega), Below.heap_alloc _ _ _ hl6]
                      exact HB6.out.2.2.1
                    · intro e
                      have e9 : g9 = wo.heap.size := Option.some.inj e
                      rcases hg9 with h | h
                      · exact HB6.out.2.2.2.1 (by rw [← e9]; exact h)
                      · simp at h
                        omega
                    · rw [HST.out, if_pos (by first | rfl | trivial), ← List.cons_append, ← List.append_assoc, stl_app, stl_sing, HOR.out.2, List.map_append, HZK.out.1]
                      rfl
                    · rw [tes_snoc, List.length_append]
                      exact o4
                    · intro y hy
                      rcases List.mem_append.1 hy with hy | hy
                      · exact (HZK.out.2 y hy).later ((KC_below HB6.out.1).trans hk4)
                      · obtain rfl := List.mem_singleton.1 hy
                        have h5 := setO_len HOR.out.2
                        exact ⟨(IRK_own HOR.out.1 rfl).later hk4, by have := HZA.out.2.2.1; show R.length ≤ 1000000; omega, gM.out, setO_good HOR.out.2 gM.out HZA.out.2.2.2.2.1⟩
                  clear o4 g4 o5
                  go_wp2_with fail
                  go_roundw
                  case rel => exact ⟨j + 1, by go_num, by omega, HE⟩
                  case measure => simp [intOf]; omega
            · have r1 : ¬ (j : Int) < (n2 : Int) := by omega
              have HX : Hid (Below w2.heap.size w2 wr ∧ (∃ Zq : List ZT, Zq.map ZT.cont = stl (wtN ((Z1.take (k + 1)).map ZT.cont) uc uL) ∧ Zq.length ≤ 20100 ∧ wr.ownsRow w2.heap.size 62 10 u5 Zq.length (tes Zq) ∧ ∀ z ∈ Zq, ZOK wr z)) := by
                obtain ⟨-, -, -, Zk, e1, e2, e3, e4⟩ := hZ.out
                refine ⟨hB0, Zk, ?_, e2, e3, e4⟩
                have hst : (Z1.map ZT.cont)[k]? = some (ac, aL) := by rw [List.getElem?_map, HZA.out.1]; rfl
                have h := wtN_step (c := uc) (L := uL) hst
                rw [List.map_take, h, ← List.map_take, e1, List.take_of_length_le (show uL.length ≤ j by rw [HN.out.2]; omega)]
              clear hZ
              go_wp2_with fail
              go_roundw
              case rel => exact ⟨k + 1, by go_num, by omega, HX⟩
              case measure => simp [intOf]; omega
        · have HSO : Hid (setO ac (aL ++ [uc]) = some R) := by
            have h := HOE.out
            rw [hN1] at h
            cases hs : setO ac (aL ++ [uc]) with
            | none => rw [hs] at h; cases h
            | some R' =>
              rw [hs] at h
              have e := Option.some.inj h
              have e2 : R = R' := congrArg Prod.snd e
              show some R' = some R
              rw [e2]
          obtain ⟨Zk, e1, e2, e3, e4⟩ := hZ0.out.2
          have hBr6 := bel0 HWA.out.1 hb6
          have o5 := own_belQ e3 hBr6
          obtain ⟨p5', c5', rfl⟩ := shapeQ1 o5
          have hs1 := (bel0 hB hBr6).size
          have hzl : Zk.length ≤ 20000 := by
            have h1 := congrArg List.length e1
            rw [List.length_map] at h1
            have h2 := wt_all ((Z1.take k).map ZT.cont) uc uL (by rw [List.length_map, List.length_take, HN.out.1]; omega) (by rw [HN.out.2]; exact hN2)
            rw [stD_eq, List.length_map] at h2
            omega
          have HOR : Hid (IRK W6 q R) := iR
          have HZK : Hid (Zk.map ZT.cont = stl (wtN ((Z1.take k).map ZT.cont) uc uL) ∧ ∀ z ∈ Zk, ZOK wo z) := ⟨e1, e4⟩
          have HB6 : Hid (Below wo.heap.size wo W6 ∧ Below w2.heap.size w2 W6 ∧ W6.heap[wo.heap.size]? = some (.cells #[.int .i64 (ac.length : Int), .int .u64 (FW ac 0 : Int), .int .u64 (FW ac 1 : Int), .int .u64 (FW ac 2 : Int), .int .u64 (FW ac 3 : Int), .int .u64 (OW ac 0 : Int), .int .u64 (OW ac 1 : Int), .int .u64 (OW ac 2 : Int), .int .u64 (OW ac 3 : Int), .slice aq aL.length ak] 62 (0, 0)) ∧ (Value.slice p5' Zk.length c5').ownBlock ≠ some wo.heap.size ∧ wo.heap.size < W6.heap.size) := ⟨hBr6, bel0 HWA.out.2.2 hb6, keepblk3 hb6 HWA.out.2.1, hneA, lt_of_get3 (keepblk3 hb6 HWA.out.2.1)⟩
          clear hcA2 hcW hwa p0 p1 p2 p3 p4 p5 p6 p7 p8 p9 HOU hN1 hBr6 hZ0 HOE e1 e2 e3 e4 iR hb6 hneA
          go_wp2_with (at_builtin; refine wpList_append_lies _ rfl _ _ 24 rfl w2.heap.size 62 i1 _ 10 96 Tryz.underlying24 hi1 hy0 hy1 hy2 rfl (by decide) _ _ _ rfl ((o5.alloc _).alloc _) ⟨_, 0, none⟩ 1 1 ([.int .i64 (ac.length : Int), .int .u64 (FW ac 0 : Int), .int .u64 (FW ac 1 : Int), .int .u64 (FW ac 2 : Int), .int .u64 (FW ac 3 : Int), .int .u64 (OW ac 0 : Int), .int .u64 (OW ac 1 : Int), .int .u64 (OW ac 2 : Int), .int .u64 (OW ac 3 : Int), .slice q R.length kq]) rfl rfl (World.news_of_block (cs := #[.int .i64 (ac.length : Int), .int .u64 (FW ac 0 : Int), .int .u64 (FW ac 1 : Int), .int .u64 (FW ac 2 : Int), .int .u64 (FW ac 3 : Int), .int .u64 (OW ac 0 : Int), .int .u64 (OW ac 1 : Int), .int .u64 (OW ac 2 : Int), .int .u64 (OW ac 3 : Int), .slice q R.length kq]) (t := 62) (fr := (0, 0)) (by first | exact alw_1 _ _ _ | exact alloc_get _ _)) (by simp [Value.oneCell']) (by decide) (by unfold maxLen; omega) (by omega) (by simp; omega) _ rfl ?_; intro g9 c9 w4 o4 g4 hg9 _; have hcW7 := (cells_block (keepblk3 ((belA (belA HB6.out.2.1 _) _).grown g4 (by simp; omega) (fun b e => (o5.lt b e).1)) HW2.out.1)).1)
          have HE : Hid (Below w2.heap.size w2 w4 ∧ w4.heap[wo.heap.size]? = some (.cells #[.int .i64 (ac.length : Int), .int .u64 (FW ac 0 : Int), .int .u64 (FW ac 1 : Int), .int .u64 (FW ac 2 : Int), .int .u64 (FW ac 3 : Int), .int .u64 (OW ac 0 : Int), .int .u64 (OW ac 1 : Int), .int .u64 (OW ac 2 : Int), .int .u64 (OW ac 3 : Int), .slice aq aL.length ak] 62 (0, 0)) ∧ (Value.slice (some ⟨g9, 0, none⟩) (Zk.length + 1) c9).ownBlock ≠ some wo.heap.size ∧ (∃ Zq : List ZT, Zq.map ZT.cont = stl (wtN ((Z1.take k).map ZT.cont) uc uL ++ ((ac, aL ++ [uc]) :: wtI (ac, aL) (uL.take 0))) ∧ Zq.length ≤ 20100 ∧ w4.ownsRow w2.heap.size 62 10 (Value.slice (some ⟨g9, 0, none⟩) (Zk.length + 1) c9) Zq.length (tes Zq) ∧ ∀ z ∈ Zq, ZOK w4 z)) := by
            have oX := (o5.alloc (.cells #[.int .i64 (ac.length : Int), .int .u64 (FW ac 0 : Int), .int .u64 (FW ac 1 : Int), .int .u64 (FW ac 2 : Int), .int .u64 (FW ac 3 : Int), .int .u64 (OW ac 0 : Int), .int .u64 (OW ac 1 : Int), .int .u64 (OW ac 2 : Int), .int .u64 (OW ac 3 : Int), .slice q R.length kq] 62 (0, 0))).alloc (.cells #[.int .i64 (ac.length : Int), .int .u64 (FW ac 0 : Int), .int .u64 (FW ac 1 : Int), .int .u64 (FW ac 2 : Int), .int .u64 (FW ac 3 : Int), .int .u64 (OW ac 0 : Int), .int .u64 (OW ac 1 : Int), .int .u64 (OW ac 2 : Int), .int .u64 (OW ac 3 : Int), .slice q R.length kq] 62 (0, 0))
            have hk4 : KC W6 w4 := (KC_below (belA (belA (Below.refl _ _) _) _)).trans (KC_own oX g4)
            have hl6 := HB6.out.2.2.2.2
            refine ⟨(belA (belA HB6.out.2.1 _) _).grown g4 (by simp; omega) (fun b e => (o5.lt b e).1), ?_, ?_, Zk ++ [⟨ac, q, kq, R⟩], ?_, by rw [List.length_append]; simp; omega, ?_, ?_⟩
            · refine (g4.block wo.heap.size (by simp; omega) (fun e => HB6.out.2.2.2.1 e.symm)).trans ?_
              rw [Below.heap_alloc _ _ _ (by simp; omega), Below.heap_alloc _ _ _ hl6]
              exact HB6.out.2.2.1
            · intro e
              have e9 : g9 = wo.heap.size := Option.some.inj e
              rcases hg9 with h | h
              · exact HB6.out.2.2.2.1 (by rw [← e9]; exact h)
              · simp at h
                omega
            · rw [List.take_zero, show wtI (ac, aL) [] = [] from rfl, stl_app, stl_sing, HSO.out, List.map_append, HZK.out.1]
              rfl
            · rw [tes_snoc, List.length_append]
              exact o4
            · intro y hy
              rcases List.mem_append.1 hy with hy | hy
              · exact (HZK.out.2 y hy).later ((KC_below HB6.out.1).trans hk4)
              · obtain rfl := List.mem_singleton.1 hy
                have h5 := setO_len HSO.out
                rw [List.length_append] at h5
                refine ⟨HOR.out.later hk4, by have := HZA.out.2.2.1; show R.length ≤ 1000000; simp at h5; omega, HZA.out.2.2.2.1, setO_good HSO.out HZA.out.2.2.2.1 (fun x hx => ?_)⟩
                rcases List.mem_append.1 hx with hx | hx
                · exact HZA.out.2.2.2.2.1 x hx
                · obtain rfl := List.mem_singleton.1 hx
                  exact HU.out.2.1

          have HS0 := HE
          clear o4 g4 o5 HE hcW7
          go_loopw [5, 45] (fun v5 v45 ws => ∃ j : Nat, v45 = .int .i64 (j : Int) ∧ j ≤ n2 ∧ Hid (Below w2.heap.size w2 ws ∧ ws.heap[wo.heap.size]? = some (.cells #[.int .i64 (ac.length : Int), .int .u64 (FW ac 0 : Int), .int .u64 (FW ac 1 : Int), .int .u64 (FW ac 2 : Int), .int .u64 (FW ac 3 : Int), .int .u64 (OW ac 0 : Int), .int .u64 (OW ac 1 : Int), .int .u64 (OW ac 2 : Int), .int .u64 (OW ac 3 : Int), .slice aq aL.length ak] 62 (0, 0)) ∧ v5.ownBlock ≠ some wo.heap.size ∧ (∃ Zq : List ZT, Zq.map ZT.cont = stl (wtN ((Z1.take k).map ZT.cont) uc uL ++ ((ac, aL ++ [uc]) :: wtI (ac, aL) (uL.take j))) ∧ Zq.length ≤ 20100 ∧ ws.ownsRow w2.heap.size 62 10 v5 Zq.length (tes Zq) ∧ ∀ z ∈ Zq, ZOK ws z))) (fun _ v45 _ => n2 - (intOf v45).toNat)
          case atStart => exact ⟨0, rfl, Nat.zero_le _, HS0⟩
          case round =>
            clear HS0
            obtain ⟨j, rfl, hj, hZ⟩ := hrel
            have hB0 := hZ.out.1
            have hA0 := hZ.out.2.1
            by_cases hltj : j < n2
            · have r1 : (j : Int) < (n2 : Int) := by omega
              have r0 : (0 : Int) ≤ (j : Int) := by omega
              obtain ⟨bc, hbc⟩ : ∃ z, uL[j]? = some z := ⟨_, List.getElem?_eq_getElem (by rw [HN.out.2]; exact hltj)⟩
              obtain ⟨gb, ob, rfl, p0, p1, p2, p3, p4, p5, p6, p7, p8⟩ := HU.out.1.irc wr (bel0 HW2.out.2 hB0) j _ hbc
              have hgb := HU.out.2.2 _ (List.mem_of_getElem? hbc)
              have HST : Hid (wtI (ac, aL) (uL.take (j + 1)) = wtI (ac, aL) (uL.take j) ++ (if agB ac bc = true then [(mtT ac bc, aL)] else [])) := wtI_step (x := (ac, aL)) hbc
              obtain ⟨wb, hwb⟩ : ∃ wb, wr.alloc (.cells #[.int .i64 (bc.length : Int), .int .u64 (FW bc 0 : Int), .int .u64 (FW bc 1 : Int), .int .u64 (FW bc 2 : Int), .int .u64 (FW bc 3 : Int), .int .u64 (OW bc 0 : Int), .int .u64 (OW bc 1 : Int), .int .u64 (OW bc 2 : Int), .int .u64 (OW bc 3 : Int)] 40 (0, 0)) = wb := ⟨_, rfl⟩
              have hal : Below wr.heap.size wr wb := by rw [← hwb]; exact belA (Below.refl _ _) _
              have hgb2 : wb.heap[wr.heap.size]? = some (.cells #[.int .i64 (bc.length : Int), .int .u64 (FW bc 0 : Int), .int .u64 (FW bc 1 : Int), .int .u64 (FW bc 2 : Int), .int .u64 (FW bc 3 : Int), .int .u64 (OW bc 0 : Int), .int .u64 (OW bc 1 : Int), .int .u64 (OW bc 2 : Int), .int .u64 (OW bc 3 : Int)] 40 (0, 0)) := by rw [← hwb]; exact alloc_get _ _
              obtain ⟨hcb, -⟩ := cells_block hgb2
              obtain ⟨hca, -⟩ := cells_block (keepblk3 hal hA0)
              obtain ⟨M, hM⟩ : ∃ M, mtT ac bc = M := ⟨_, rfl⟩
              obtain ⟨q, hq⟩ : ∃ q, agB ac bc = q := ⟨_, rfl⟩
              have gM : Hid (good M = true) := by unfold Hid; rw [← hM]; exact good_mtT ac bc HZA.out.2.2.2.1 hgb
              have HMt : Hid (Calls Tryz.prog 56 #[.agg #[.int .i64 (ac.length : Int), .int .u64 (FW ac 0 : Int), .int .u64 (FW ac 1 : Int), .int .u64 (FW ac 2 : Int), .int .u64 (FW ac 3 : Int), .int .u64 (OW ac 0 : Int), .int .u64 (OW ac 1 : Int), .int .u64 (OW ac 2 : Int), .int .u64 (OW ac 3 : Int)], .agg #[.int .i64 (bc.length : Int), .int .u64 (FW bc 0 : Int), .int .u64 (FW bc 1 : Int), .int .u64 (FW bc 2 : Int), .int .u64 (FW bc 3 : Int), .int .u64 (OW bc 0 : Int), .int .u64 (OW bc 1 : Int), .int .u64 (OW bc 2 : Int), .int .u64 (OW bc 3 : Int)]] wb fun e w' => e = .returned (.tuple #[.agg #[.int .i64 (M.length : Int), .int .u64 (FW M 0 : Int), .int .u64 (FW M 1 : Int), .int .u64 (FW M 2 : Int), .int .u64 (FW M 3 : Int), .int .u64 (OW M 0 : Int), .int .u64 (OW M 1 : Int), .int .u64 (OW M 2 : Int), .int .u64 (OW M 3 : Int)], .bool q]) ∧ Below wb.heap.size wb w') := meet_D ac bc M q wb HZA.out.2.2.2.1 hM hq
              rw [hM, hq] at HST
              have HGB : Hid (wb.heap[wo.heap.size]? = some (.cells #[.int .i64 (ac.length : Int), .int .u64 (FW ac 0 : Int), .int .u64 (FW ac 1 : Int), .int .u64 (FW ac 2 : Int), .int .u64 (FW ac 3 : Int), .int .u64 (OW ac 0 : Int), .int .u64 (OW ac 1 : Int), .int .u64 (OW ac 2 : Int), .int .u64 (OW ac 3 : Int), .slice aq aL.length ak] 62 (0, 0)) ∧ Below wr.heap.size wr wb ∧ Below w2.heap.size w2 wb) := ⟨keepblk3 hal hA0, hal, bel0 hB0 hal⟩
              clear hbc hgb hgb2 hal hM hq hA0
              cases q with
              | false =>
                go_wp2_with fail
                refine HMt.out.mono ?_
                rintro e W3 ⟨rfl, hb3⟩
                have HX : Hid (Below w2.heap.size w2 (W3.alloc (.cells #[.int .i64 (M.length : Int), .int .u64 (FW M 0 : Int), .int .u64 (FW M 1 : Int), .int .u64 (FW M 2 : Int), .int .u64 (FW M 3 : Int), .int .u64 (OW M 0 : Int), .int .u64 (OW M 1 : Int), .int .u64 (OW M 2 : Int), .int .u64 (OW M 3 : Int)] 40 (0, 0))) ∧ (W3.alloc (.cells #[.int .i64 (M.length : Int), .int .u64 (FW M 0 : Int), .int .u64 (FW M 1 : Int), .int .u64 (FW M 2 : Int), .int .u64 (FW M 3 : Int), .int .u64 (OW M 0 : Int), .int .u64 (OW M 1 : Int), .int .u64 (OW M 2 : Int), .int .u64 (OW M 3 : Int)] 40 (0, 0))).heap[wo.heap.size]? = some (.cells #[.int .i64 (ac.length : Int), .int .u64 (FW ac 0 : Int), .int .u64 (FW ac 1 : Int), .int .u64 (FW ac 2 : Int), .int .u64 (FW ac 3 : Int), .int .u64 (OW ac 0 : Int), .int .u64 (OW ac 1 : Int), .int .u64 (OW ac 2 : Int), .int .u64 (OW ac 3 : Int), .slice aq aL.length ak] 62 (0, 0)) ∧ u5.ownBlock ≠ some wo.heap.size ∧ (∃ Zq : List ZT, Zq.map ZT.cont = stl (wtN ((Z1.take k).map ZT.cont) uc uL ++ ((ac, aL ++ [uc]) :: wtI (ac, aL) (uL.take (j + 1)))) ∧ Zq.length ≤ 20100 ∧ (W3.alloc (.cells #[.int .i64 (M.length : Int), .int .u64 (FW M 0 : Int), .int .u64 (FW M 1 : Int), .int .u64 (FW M 2 : Int), .int .u64 (FW M 3 : Int), .int .u64 (OW M 0 : Int), .int .u64 (OW M 1 : Int), .int .u64 (OW M 2 : Int), .int .u64 (OW M 3 : Int)] 40 (0, 0))).ownsRow w2.heap.size 62 10 u5 Zq.length (tes Zq) ∧ ∀ z ∈ Zq, ZOK (W3.alloc (.cells #[.int .i64 (M.length : Int), .int .u64 (FW M 0 : Int), .int .u64 (FW M 1 : Int), .int .u64 (FW M 2 : Int), .int .u64 (FW M 3 : Int), .int .u64 (OW M 0 : Int), .int .u64 (OW M 1 : Int), .int .u64 (OW M 2 : Int), .int .u64 (OW M 3 : Int)] 40 (0, 0))) z)) := by
                  obtain ⟨-, f1, f2, Zk, e1, e2, e3, e4⟩ := hZ.out
                  have hBw : Below wr.heap.size wr (W3.alloc (.cells #[.int .i64 (M.length : Int), .int .u64 (FW M 0 : Int), .int .u64 (FW M 1 : Int), .int .u64 (FW M 2 : Int), .int .u64 (FW M 3 : Int), .int .u64 (OW M 0 : Int), .int .u64 (OW M 1 : Int), .int .u64 (OW M 2 : Int), .int .u64 (OW M 3 : Int)] 40 (0, 0))) := belA (bel0 HGB.out.2.1 hb3) _
                  refine ⟨belA (bel0 HGB.out.2.2 hb3) _, keepblk3 hBw f1, f2, Zk, ?_, e2, own_belQ e3 hBw, fun z hz => (e4 z hz).later (KC_below hBw)⟩
                  rw [HST.out, if_neg (by simp), List.append_nil]
                  exact e1
                clear hcb hca hwb p0 p1 p2 p3 p4 p5 p6 p7 p8 hb3 HMt
                go_wp2_with fail
                go_roundw
                case rel => exact ⟨j + 1, by go_num, by omega, HX⟩
                case measure => simp [intOf]; omega
              | true =>
                go_wp2_with fail
                refine HMt.out.mono ?_
                rintro e W3 ⟨rfl, hb3⟩
                have hk4 : Below wb.heap.size wb (W3.alloc (.cells #[.int .i64 (M.length : Int), .int .u64 (FW M 0 : Int), .int .u64 (FW M 1 : Int), .int .u64 (FW M 2 : Int), .int .u64 (FW M 3 : Int), .int .u64 (OW M 0 : Int), .int .u64 (OW M 1 : Int), .int .u64 (OW M 2 : Int), .int .u64 (OW M 3 : Int)] 40 (0, 0))) := belA hb3 _
                obtain ⟨hcm, -⟩ := cells_block (alloc_get W3 (.cells #[.int .i64 (M.length : Int), .int .u64 (FW M 0 : Int), .int .u64 (FW M 1 : Int), .int .u64 (FW M 2 : Int), .int .u64 (FW M 3 : Int), .int .u64 (OW M 0 : Int), .int .u64 (OW M 1 : Int), .int .u64 (OW M 2 : Int), .int .u64 (OW M 3 : Int)] 40 (0, 0)))
                obtain ⟨hca4, -⟩ := cells_block (keepblk3 hk4 HGB.out.1)
                obtain ⟨W4, hW4⟩ : ∃ W4, W3.alloc (.cells #[.int .i64 (M.length : Int), .int .u64 (FW M 0 : Int), .int .u64 (FW M 1 : Int), .int .u64 (FW M 2 : Int), .int .u64 (FW M 3 : Int), .int .u64 (OW M 0 : Int), .int .u64 (OW M 1 : Int), .int .u64 (OW M 2 : Int), .int .u64 (OW M 3 : Int)] 40 (0, 0)) = W4 := ⟨_, rfl⟩
                rw [hW4] at hk4 hcm hca4
                obtain ⟨W5, hW5⟩ : ∃ W5, W4.alloc (.cells #[.slice aq aL.length ak] 53 (0, 0)) = W5 := ⟨_, rfl⟩
                have hk5 : Below W4.heap.size W4 W5 := by rw [← hW5]; exact belA (Below.refl _ _) _
                have hg5 : W5.heap[W4.heap.size]? = some (.cells #[.slice aq aL.length ak] 53 (0, 0)) := by rw [← hW5]; exact alloc_get _ _
                have hBw5 : Below w.heap.size w W5 := bel0 HW2.out.2 (bel0 hB0 (bel0 HGB.out.2.1 (bel0 hk4 hk5)))
                have hIRL : IRL W5 (some ⟨W4.heap.size, 0, none⟩) [aL] := fun W hW x K hK => by
                  match x, hK with
                  | 0, hK =>
                    obtain rfl : aL = K := by simpa using hK
                    exact ⟨W4.heap.size, 0, aq, ak, rfl, (cells_block (keepblk3 hW hg5)).1 0, HZA.out.2.1.irc.later (bel0 hBw5 hW)⟩
                  | x + 1, hK => simp at hK
                have hfl : ([aL] : List (List (List UInt8))).flatten = aL := by simp
                have H1 := settled_any M [aL] 1 (some ⟨W4.heap.size, 0, none⟩) 1 W5 rfl (by rw [hfl]; have := HZA.out.2.2.1; omega) (by omega) gM.out hIRL (by rw [hfl]; exact HZA.out.2.2.2.2.1)
                rw [hfl] at H1
                have HSE : Hid (Calls Tryz.prog 41 #[.agg #[.int .i64 (M.length : Int), .int .u64 (FW M 0 : Int), .int .u64 (FW M 1 : Int), .int .u64 (FW M 2 : Int), .int .u64 (FW M 3 : Int), .int .u64 (OW M 0 : Int), .int .u64 (OW M 1 : Int), .int .u64 (OW M 2 : Int), .int .u64 (OW M 3 : Int)], .slice (some ⟨W4.heap.size, 0, none⟩) 1 1] W5 fun e w' => Below W5.heap.size W5 w' ∧ ((setO M aL = none ∧ e = .returned (.tuple #[.agg #[.int .i64 0, .int .u64 0, .int .u64 0, .int .u64 0, .int .u64 0, .int .u64 0, .int .u64 0, .int .u64 0, .int .u64 0, .slice none 0 0], .bool false])) ∨ ∃ R v, setO M aL = some R ∧ e = .returned (.tuple #[.agg #[.int .i64 (M.length : Int), .int .u64 (FW M 0 : Int), .int .u64 (FW M 1 : Int), .int .u64 (FW M 2 : Int), .int .u64 (FW M 3 : Int), .int .u64 (OW M 0 : Int), .int .u64 (OW M 1 : Int), .int .u64 (OW M 2 : Int), .int .u64 (OW M 3 : Int), v], .bool true]) ∧ w'.ownsRow W5.heap.size 40 9 v R.length (ces R))) := H1
                have HK5 : Hid (Below wr.heap.size wr W5 ∧ Below w2.heap.size w2 W5) := ⟨bel0 HGB.out.2.1 (bel0 hk4 hk5), bel0 HGB.out.2.2 (bel0 hk4 hk5)⟩
                clear hcb hca hwb p0 p1 p2 p3 p4 p5 p6 p7 p8 HMt hb3 hk4 hk5 hg5 hIRL H1 hfl hBw5
                go_wp2_with fail
                refine HSE.out.mono ?_
                rintro e W6 ⟨hb6, ⟨hN1, rfl⟩ | ⟨R, v, hN1, rfl, oR⟩⟩
                · have HX : Hid (∀ o : Obj, (Below w2.heap.size w2 (W6.alloc o) ∧ (W6.alloc o).heap[wo.heap.size]? = some (.cells #[.int .i64 (ac.length : Int), .int .u64 (FW ac 0 : Int), .int .u64 (FW ac 1 : Int), .int .u64 (FW ac 2 : Int), .int .u64 (FW ac 3 : Int), .int .u64 (OW ac 0 : Int), .int .u64 (OW ac 1 : Int), .int .u64 (OW ac 2 : Int), .int .u64 (OW ac 3 : Int), .slice aq aL.length ak] 62 (0, 0)) ∧ u5.ownBlock ≠ some wo.heap.size ∧ (∃ Zq : List ZT, Zq.map ZT.cont = stl (wtN ((Z1.take k).map ZT.cont) uc uL ++ ((ac, aL ++ [uc]) :: wtI (ac, aL) (uL.take (j + 1)))) ∧ Zq.length ≤ 20100 ∧ (W6.alloc o).ownsRow w2.heap.size 62 10 u5 Zq.length (tes Zq) ∧ ∀ z ∈ Zq, ZOK (W6.alloc o) z))) := fun o => by
                    obtain ⟨-, f1, f2, Zk, e1, e2, e3, e4⟩ := hZ.out
                    have hBw : Below wr.heap.size wr (W6.alloc o) := belA (bel0 HK5.out.1 hb6) _
                    refine ⟨belA (bel0 HK5.out.2 hb6) _, keepblk3 hBw f1, f2, Zk, ?_, e2, own_belQ e3 hBw, fun z hz => (e4 z hz).later (KC_below hBw)⟩
                    rw [HST.out, if_pos (by first | rfl | trivial), ← List.cons_append, ← List.append_assoc, stl_app, stl_sing, hN1, ← e1]
                    simp
                  clear hcm hca4 hW4 hW5 hb6 HSE hN1
                  go_wp2_with fail
                  go_roundw
                  case rel => exact ⟨j + 1, by go_num, by omega, HX.out _⟩
                  case measure => simp [intOf]; omega
                · obtain ⟨pv, cv1, rfl⟩ := shapeQ1 oR
                  obtain ⟨-, f1, f2, Zk, e1, e2, e3, e4⟩ := hZ.out
                  have hBr6 := bel0 HK5.out.1 hb6
                  have o5 := own_belQ e3 hBr6
                  obtain ⟨p5', c5', rfl⟩ := shapeQ1 o5
                  have hs1 := (bel0 hB0 hBr6).size
                  have hzl : Zk.length ≤ 20000 := by
                    have h1 := congrArg List.length e1
                    rw [List.length_map] at h1
                    have h2 := HLB.out k j (ac, aL) (ac, aL ++ [uc])
                    omega
                  have HOR : Hid (W6.ownsRow W5.heap.size 40 9 (.slice pv R.length cv1) R.length (ces R) ∧ setO M aL = some R) := ⟨oR, hN1⟩
                  have HZK : Hid (Zk.map ZT.cont = stl (wtN ((Z1.take k).map ZT.cont) uc uL ++ ((ac, aL ++ [uc]) :: wtI (ac, aL) (uL.take j))) ∧ ∀ z ∈ Zk, ZOK wr z) := ⟨e1, e4⟩
                  have HB6 : Hid (Below wr.heap.size wr W6 ∧ Below w2.heap.size w2 W6 ∧ W6.heap[wo.heap.size]? = some (.cells #[.int .i64 (ac.length : Int), .int .u64 (FW ac 0 : Int), .int .u64 (FW ac 1 : Int), .int .u64 (FW ac 2 : Int), .int .u64 (FW ac 3 : Int), .int .u64 (OW ac 0 : Int), .int .u64 (OW ac 1 : Int), .int .u64 (OW ac 2 : Int), .int .u64 (OW ac 3 : Int), .slice aq aL.length ak] 62 (0, 0)) ∧ (Value.slice p5' Zk.length c5').ownBlock ≠ some wo.heap.size ∧ wo.heap.size < W6.heap.size) := ⟨hBr6, bel0 HK5.out.2 hb6, keepblk3 hBr6 f1, f2, lt_of_get3 (keepblk3 hBr6 f1)⟩
                  clear hcm hca4 hW4 hW5 hb6 HSE hN1 oR e1 e4 e2 e3 hZ hBr6 f1 f2
                  go_wp2_with (at_builtin; refine wpList_append_lies _ rfl _ _ 24 rfl w2.heap.size 62 i1 _ 10 96 Tryz.underlying24 hi1 hy0 hy1 hy2 rfl (by decide) _ _ _ rfl ((o5.alloc _).alloc _) ⟨_, 0, none⟩ 1 1 ([.int .i64 (M.length : Int), .int .u64 (FW M 0 : Int), .int .u64 (FW M 1 : Int), .int .u64 (FW M 2 : Int), .int .u64 (FW M 3 : Int), .int .u64 (OW M 0 : Int), .int .u64 (OW M 1 : Int), .int .u64 (OW M 2 : Int), .int .u64 (OW M 3 : Int), .slice pv R.length cv1]) rfl rfl (World.news_of_block (cs := #[.int .i64 (M.length : Int), .int .u64 (FW M 0 : Int), .int .u64 (FW M 1 : Int), .int .u64 (FW M 2 : Int), .int .u64 (FW M 3 : Int), .int .u64 (OW M 0 : Int), .int .u64 (OW M 1 : Int), .int .u64 (OW M 2 : Int), .int .u64 (OW M 3 : Int), .slice pv R.length cv1]) (t := 62) (fr := (0, 0)) (by first | exact alw_1 _ _ _ | exact alloc_get _ _)) (by simp [Value.oneCell']) (by decide) (by unfold maxLen; omega) (by omega) (by simp; omega) _ rfl ?_; intro g9 c9 w4 o4 g4 hg9 _)
                  have HE : Hid (Below w2.heap.size w2 w4 ∧ w4.heap[wo.heap.size]? = some (.cells #[.int .i64 (ac.length : Int), .int .u64 (FW ac 0 : Int), .int .u64 (FW ac 1 : Int), .int .u64 (FW ac 2 : Int), .int .u64 (FW ac 3 : Int), .int .u64 (OW ac 0 : Int), .int .u64 (OW ac 1 : Int), .int .u64 (OW ac 2 : Int), .int .u64 (OW ac 3 : Int), .slice aq aL.length ak] 62 (0, 0)) ∧ (Value.slice (some ⟨g9, 0, none⟩) (Zk.length + 1) c9).ownBlock ≠ some wo.heap.size ∧ (∃ Zq : List ZT, Zq.map ZT.cont = stl (wtN ((Z1.take k).map ZT.cont) uc uL ++ ((ac, aL ++ [uc]) :: wtI (ac, aL) (uL.take (j + 1)))) ∧ Zq.length ≤ 20100 ∧ w4.ownsRow w2.heap.size 62 10 (Value.slice (some ⟨g9, 0, none⟩) (Zk.length + 1) c9) Zq.length (tes Zq) ∧ ∀ z ∈ Zq, ZOK w4 z)) := by
                    have oX := (o5.alloc (.cells #[.int .i64 (M.length : Int), .int .u64 (FW M 0 : Int), .int .u64 (FW M 1 : Int), .int .u64 (FW M 2 : Int), .int .u64 (FW M 3 : Int), .int .u64 (OW M 0 : Int), .int .u64 (OW M 1 : Int), .int .u64 (OW M 2 : Int), .int .u64 (OW M 3 : Int), .slice pv R.length cv1] 62 (0, 0))).alloc (.cells #[.int .i64 (M.length : Int), .int .u64 (FW M 0 : Int), .int .u64 (FW M 1 : Int), .int .u64 (FW M 2 : Int), .int .u64 (FW M 3 : Int), .int .u64 (OW M 0 : Int), .int .u64 (OW M 1 : Int), .int .u64 (OW M 2 : Int), .int .u64 (OW M 3 : Int), .slice pv R.length cv1] 62 (0, 0))
                    have hk4 : KC W6 w4 := (KC_below (belA (belA (Below.refl _ _) _) _)).trans (KC_own oX g4)
                    have hl6 := HB6.out.2.2.2.2
                    refine ⟨(belA (belA HB6.out.2.1 _) _).grown g4 (by simp; omega) (fun b e => (o5.lt b e).1), ?_, ?_, Zk ++ [⟨M, pv, cv1, R⟩], ?_, by rw [List.length_append]; simp; omega, ?_, ?_⟩
                    · refine (g4.block wo.heap.size (by simp; omega) (fun e => HB6.out.2.2.2.1 e.symm)).trans ?_
                      rw [Below.heap_alloc _ _ _ (by simp; omega), Below.heap_alloc _ _ _ hl6]
                      exact HB6.out.2.2.1
                    · intro e
                      have e9 : g9 = wo.heap.size := Option.some.inj e
                      rcases hg9 with h | h
                      · exact HB6.out.2.2.2.1 (by rw [← e9]; exact h)
                      · simp at h
                        omega
                    · rw [HST.out, if_pos (by first | rfl | trivial), ← List.cons_append, ← List.append_assoc, stl_app, stl_sing, HOR.out.2, List.map_append, HZK.out.1]
                      rfl
                    · rw [tes_snoc, List.length_append]
                      exact o4
                    · intro y hy
                      rcases List.mem_append.1 hy with hy | hy
                      · exact (HZK.out.2 y hy).later ((KC_below HB6.out.1).trans hk4)
                      · obtain rfl := List.mem_singleton.1 hy
                        have h5 := setO_len HOR.out.2
                        exact ⟨(IRK_own HOR.out.1 rfl).later hk4, by have := HZA.out.2.2.1; show R.length ≤ 1000000; omega, gM.out, setO_good HOR.out.2 gM.out HZA.out.2.2.2.2.1⟩
                  clear o4 g4 o5
                  go_wp2_with fail
                  go_roundw
                  case rel => exact ⟨j + 1, by go_num, by omega, HE⟩
                  case measure => simp [intOf]; omega
            · have r1 : ¬ (j : Int) < (n2 : Int) := by omega
              have HX : Hid (Below w2.heap.size w2 wr ∧ (∃ Zq : List ZT, Zq.map ZT.cont = stl (wtN ((Z1.take (k + 1)).map ZT.cont) uc uL) ∧ Zq.length ≤ 20100 ∧ wr.ownsRow w2.heap.size 62 10 u5 Zq.length (tes Zq) ∧ ∀ z ∈ Zq, ZOK wr z)) := by
                obtain ⟨-, -, -, Zk, e1, e2, e3, e4⟩ := hZ.out
                refine ⟨hB0, Zk, ?_, e2, e3, e4⟩
                have hst : (Z1.map ZT.cont)[k]? = some (ac, aL) := by rw [List.getElem?_map, HZA.out.1]; rfl
                have h := wtN_step (c := uc) (L := uL) hst
                rw [List.map_take, h, ← List.map_take, e1, List.take_of_length_le (show uL.length ≤ j by rw [HN.out.2]; omega)]
              clear hZ
              go_wp2_with fail
              go_roundw
              case rel => exact ⟨k + 1, by go_num, by omega, HX⟩
              case measure => simp [intOf]; omega
      · have j1 : ¬ (k : Int) < (n1 : Int) := by omega
        obtain ⟨hBl, Zk, hz1, hz2, hz3, hz4⟩ := hZ0.out
        rw [List.take_of_length_le (by rw [HN.out.1]; omega)] at hz1
        have hT1 := topC_map Zk
        rw [hz1] at hT1
        have hT2 := szC_map (topZL Zk)
        rw [hT1] at hT2
        have hTl := topZL_len Zk
        have hTs := szZ_le (topZL Zk) (fun z hz => (hz4 z (topZL_mem hz)).2.1)
        obtain ⟨p5, c5, rfl⟩ := shapeQ1 hz3
        have H1 := topmost_any Zk Zk.length p5 c5 wr rfl (by omega) (IRZ_own hz3 rfl) hz4 (by
          have : (topZL Zk).length * 1000001 ≤ 20100 * 1000001 := Nat.mul_le_mul_right _ (by omega)
          omega)
        rw [hT2] at H1
        have HT : Hid ((topZL Zk).map ZT.cont = topC (stl (wtN (Z1.map ZT.cont) uc uL)) ∧ ∀ z ∈ topZL Zk, ZOK wr z) := ⟨hT1, fun z hz => hz4 z (topZL_mem hz)⟩
        clear hT1 hT2 hTl hTs hz1 hz2 hz3 hz4 hZ0
        go_wp2_with fail
        refine H1.mono ?_
        rintro e W1 ⟨hb1, ⟨hle, v1, rfl, o1⟩ | ⟨hgt, rfl⟩⟩
        · have HX : Hid (Below w.heap.size w W1 ∧ W1.ownsRow w.heap.size 62 10 v1 (topZL Zk).length (tes (topZL Zk))) := ⟨bel0 HW2.out.2 (bel0 hB hb1), own_base o1 (bel0 HW2.out.2 hB).size⟩
          clear H1 o1
          go_wp2_with fail
          go_ret
          exact ⟨HX.out.1, .inl ⟨hbig, hle, topZL Zk, _, rfl, HT.out.1, HX.out.2, fun z hz => (HT.out.2 z hz).later (KC_below hb1)⟩⟩
        · have HX : Hid (Below w.heap.size w W1) := bel0 HW2.out.2 (bel0 hB hb1)
          clear H1
          go_wp2_with fail
          exact ⟨rfl, HX.out, .inr ⟨.inr ⟨hbig, hgt⟩, rfl⟩⟩
end Go.Proofs.YtfhghplplkkpmaaGreatDoor
