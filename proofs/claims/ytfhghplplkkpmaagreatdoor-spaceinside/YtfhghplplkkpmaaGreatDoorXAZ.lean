import Derived.Test.YtfhghplplkkpmaaGreatDoorXAV
namespace Go.Proofs.YtfhghplplkkpmaaGreatDoor
open Go.RowKit Go.Shelf
theorem stl_app (X Y : List (List UInt8 × List (List UInt8))) : stl (X ++ Y) = stl X ++ stl Y := by unfold stl; rw [List.filterMap_append]
theorem stl_sing (c : List UInt8) (L : List (List UInt8)) : stl [(c, L)] = match setO c L with | none => [] | some R => [(c, R)] := by
  unfold stl
  cases h : setO c L <;> simp [h]
theorem cmN_len (A C : List (List UInt8 × List (List UInt8))) : (cmN A C).length ≤ A.length * C.length := by
  induction A with
  | nil => simp [cmN]
  | cons a l ih =>
    have e : cmN (a :: l) C = cmN [a] C ++ cmN l C := by
      unfold cmN
      simp only [List.flatMap_cons, List.flatMap_nil, List.append_nil]
    have h1 : (cmN [a] C).length ≤ C.length := by rw [cmN_sing]; exact List.length_filterMap_le _ _
    rw [e, List.length_append, List.length_cons, Nat.succ_mul]
    omega
theorem stl_len (X : List (List UInt8 × List (List UInt8))) : (stl X).length ≤ X.length := List.length_filterMap_le _ _
set_option maxRecDepth 100000 in
set_option maxHeartbeats 8000000 in
theorem common_list (Z1 Z2 : List ZT) (n1 n2 : Nat) (p1 p2 : Option Addr) (k1 k2 : Nat) (w : World) (hn1 : Z1.length = n1) (hn2 : Z2.length = n2) (hN1 : n1 ≤ 128) (hN2 : n2 ≤ 128) (hr1 : IRZ w p1 Z1) (hr2 : IRZ w p2 Z2) (g1 : ∀ z ∈ Z1, ZOK w z ∧ z.L.length ≤ 128) (g2 : ∀ z ∈ Z2, ZOK w z ∧ z.L.length ≤ 128) :
    Calls Tryz.prog 35 #[.slice p1 n1 k1, .slice p2 n2 k2] w fun e w' => ∃ v, e = .returned v ∧ Below w.heap.size w w' ∧ (∃ Zq : List ZT, Zq.map ZT.cont = stl (cmN (Z1.map ZT.cont) (Z2.map ZT.cont)) ∧ Zq.length ≤ 20000 ∧ w'.ownsRow w.heap.size 62 10 v Zq.length (tes Zq) ∧ ∀ z ∈ Zq, ZOK w' z) := by
  obtain ⟨i1, hi1, hy0, hy1, hy2⟩ := info_parts info_term
  have HR1 : Hid (IRZ w p1 Z1) := hr1
  have HR2 : Hid (IRZ w p2 Z2) := hr2
  have HG1 : Hid (∀ z ∈ Z1, ZOK w z ∧ z.L.length ≤ 128) := g1
  have HG2 : Hid (∀ z ∈ Z2, ZOK w z ∧ z.L.length ≤ 128) := g2
  have HN : Hid (Z1.length = n1 ∧ Z2.length = n2) := ⟨hn1, hn2⟩
  have HLB : Hid (∀ A' C' : List (List UInt8 × List (List UInt8)), A'.length ≤ 128 → C'.length ≤ 128 → (stl (cmN A' C')).length ≤ 16384) := fun A' C' h1 h2 => by
    have h3 := stl_len (cmN A' C')
    have h4 := cmN_len A' C'
    have h5 : A'.length * C'.length ≤ 128 * 128 := Nat.mul_le_mul h1 h2
    omega
  clear hr1 hr2 g1 g2 hn1 hn2
  go_enter Tryz.func35, Tryz.ntmps35
  go_wp2_with fail
  go_loopw [5, 16] (fun v5 v16 wr => ∃ k : Nat, v16 = .int .i64 (k : Int) ∧ k ≤ n1 ∧ Below w.heap.size w wr ∧ Hid (∃ Zq : List ZT, Zq.map ZT.cont = stl (cmN ((Z1.take k).map ZT.cont) (Z2.map ZT.cont)) ∧ Zq.length ≤ 20000 ∧ wr.ownsRow w.heap.size 62 10 v5 Zq.length (tes Zq) ∧ ∀ z ∈ Zq, ZOK wr z)) (fun _ v16 _ => n1 - (intOf v16).toNat)
  case atStart => exact ⟨0, rfl, Nat.zero_le _, Below.refl _ _, [], rfl, Nat.zero_le _, World.ownsRow_nil _ _ _ _, fun z hz => by cases hz⟩
  case round =>
    obtain ⟨k, rfl, hk, hB, hZ⟩ := hrel
    by_cases hlt : k < n1
    · have j1 : (k : Int) < (n1 : Int) := by omega
      have j0 : (0 : Int) ≤ (k : Int) := by omega
      obtain ⟨za, hza⟩ : ∃ z, Z1[k]? = some z := ⟨_, List.getElem?_eq_getElem (by rw [HN.out.1]; exact hlt)⟩
      obtain ⟨ac, aq, ak, aL⟩ := za
      obtain ⟨ga, oa, rfl, p0, p1, p2, p3, p4, p5, p6, p7, p8, p9⟩ := HR1.out wr hB k _ hza
      simp only at p0 p1 p2 p3 p4 p5 p6 p7 p8 p9
      have hzok := HG1.out _ (List.mem_of_getElem? hza)
      have HZA : Hid (Z1[k]? = some ⟨ac, aq, ak, aL⟩ ∧ IRK w aq aL ∧ aL.length ≤ 128 ∧ good ac = true ∧ ∀ x ∈ aL, good x = true) := ⟨hza, hzok.1.1, hzok.2, hzok.1.2.2.1, hzok.1.2.2.2⟩
      obtain ⟨cA, hcA⟩ : ∃ c, wr.heap.size = c := ⟨_, rfl⟩
      have HS0 : Hid (Below w.heap.size w (wr.alloc (.cells #[.int .i64 (ac.length : Int), .int .u64 (FW ac 0 : Int), .int .u64 (FW ac 1 : Int), .int .u64 (FW ac 2 : Int), .int .u64 (FW ac 3 : Int), .int .u64 (OW ac 0 : Int), .int .u64 (OW ac 1 : Int), .int .u64 (OW ac 2 : Int), .int .u64 (OW ac 3 : Int), .slice aq aL.length ak] 62 (0, 0))) ∧ (wr.alloc (.cells #[.int .i64 (ac.length : Int), .int .u64 (FW ac 0 : Int), .int .u64 (FW ac 1 : Int), .int .u64 (FW ac 2 : Int), .int .u64 (FW ac 3 : Int), .int .u64 (OW ac 0 : Int), .int .u64 (OW ac 1 : Int), .int .u64 (OW ac 2 : Int), .int .u64 (OW ac 3 : Int), .slice aq aL.length ak] 62 (0, 0))).heap[cA]? = some (.cells #[.int .i64 (ac.length : Int), .int .u64 (FW ac 0 : Int), .int .u64 (FW ac 1 : Int), .int .u64 (FW ac 2 : Int), .int .u64 (FW ac 3 : Int), .int .u64 (OW ac 0 : Int), .int .u64 (OW ac 1 : Int), .int .u64 (OW ac 2 : Int), .int .u64 (OW ac 3 : Int), .slice aq aL.length ak] 62 (0, 0)) ∧ u5.ownBlock ≠ some cA ∧ (∃ Zq : List ZT, Zq.map ZT.cont = stl (cmN ((Z1.take k).map ZT.cont) (Z2.map ZT.cont) ++ cmN [(ac, aL)] ((Z2.take 0).map ZT.cont)) ∧ Zq.length ≤ 20000 ∧ (wr.alloc (.cells #[.int .i64 (ac.length : Int), .int .u64 (FW ac 0 : Int), .int .u64 (FW ac 1 : Int), .int .u64 (FW ac 2 : Int), .int .u64 (FW ac 3 : Int), .int .u64 (OW ac 0 : Int), .int .u64 (OW ac 1 : Int), .int .u64 (OW ac 2 : Int), .int .u64 (OW ac 3 : Int), .slice aq aL.length ak] 62 (0, 0))).ownsRow w.heap.size 62 10 u5 Zq.length (tes Zq) ∧ ∀ z ∈ Zq, ZOK (wr.alloc (.cells #[.int .i64 (ac.length : Int), .int .u64 (FW ac 0 : Int), .int .u64 (FW ac 1 : Int), .int .u64 (FW ac 2 : Int), .int .u64 (FW ac 3 : Int), .int .u64 (OW ac 0 : Int), .int .u64 (OW ac 1 : Int), .int .u64 (OW ac 2 : Int), .int .u64 (OW ac 3 : Int), .slice aq aL.length ak] 62 (0, 0))) z)) := by
        obtain ⟨Zk, e1, e2, e3, e4⟩ := hZ.out
        refine ⟨belA hB _, by rw [← hcA]; exact alloc_get _ _, fun e => by have := (e3.lt _ e).2; omega, Zk, ?_, e2, e3.alloc _, fun z hz => (e4 z hz).later (KC_below (belA (Below.refl _ _) _))⟩
        rw [e1]
        congr 1
        simp [cmN]
      clear hza hzok hZ
      obtain ⟨wo, rfl⟩ : ∃ wo, wo = wr := ⟨wr, rfl⟩
      go_wp2_with fail
      obtain ⟨wA, hwA⟩ : ∃ wA, wo.alloc (.cells #[.int .i64 (ac.length : Int), .int .u64 (FW ac 0 : Int), .int .u64 (FW ac 1 : Int), .int .u64 (FW ac 2 : Int), .int .u64 (FW ac 3 : Int), .int .u64 (OW ac 0 : Int), .int .u64 (OW ac 1 : Int), .int .u64 (OW ac 2 : Int), .int .u64 (OW ac 3 : Int), .slice aq aL.length ak] 62 (0, 0)) = wA := ⟨_, rfl⟩
      rw [hwA] at HS0 ⊢
      clear p0 p1 p2 p3 p4 p5 p6 p7 p8 p9 hwA
      go_loopw [5, 22] (fun v5 v22 ws => ∃ j : Nat, v22 = .int .i64 (j : Int) ∧ j ≤ n2 ∧ Below w.heap.size w ws ∧ Hid (ws.heap[cA]? = some (.cells #[.int .i64 (ac.length : Int), .int .u64 (FW ac 0 : Int), .int .u64 (FW ac 1 : Int), .int .u64 (FW ac 2 : Int), .int .u64 (FW ac 3 : Int), .int .u64 (OW ac 0 : Int), .int .u64 (OW ac 1 : Int), .int .u64 (OW ac 2 : Int), .int .u64 (OW ac 3 : Int), .slice aq aL.length ak] 62 (0, 0)) ∧ v5.ownBlock ≠ some cA ∧ (∃ Zq : List ZT, Zq.map ZT.cont = stl (cmN ((Z1.take k).map ZT.cont) (Z2.map ZT.cont) ++ cmN [(ac, aL)] ((Z2.take j).map ZT.cont)) ∧ Zq.length ≤ 20000 ∧ ws.ownsRow w.heap.size 62 10 v5 Zq.length (tes Zq) ∧ ∀ z ∈ Zq, ZOK ws z))) (fun _ v22 _ => n2 - (intOf v22).toNat)
      case atStart => exact ⟨0, rfl, Nat.zero_le _, HS0.out.1, HS0.out.2⟩
      case round =>
        clear HS0
        obtain ⟨j, rfl, hj, hB0, hZ⟩ := hrel
        have hA0 := hZ.out.1
        have hlA := lt_of_get3 hA0
        by_cases hltj : j < n2
        · have r1 : (j : Int) < (n2 : Int) := by omega
          have r0 : (0 : Int) ≤ (j : Int) := by omega
          obtain ⟨zb, hzb⟩ : ∃ z, Z2[j]? = some z := ⟨_, List.getElem?_eq_getElem (by rw [HN.out.2]; exact hltj)⟩
          obtain ⟨bc, bq, bk, bL⟩ := zb
          obtain ⟨gb, ob, rfl, p0, p1, p2, p3, p4, p5, p6, p7, p8, p9⟩ := HR2.out wr hB0 j _ hzb
          simp only at p0 p1 p2 p3 p4 p5 p6 p7 p8 p9
          have hzok := HG2.out _ (List.mem_of_getElem? hzb)
          have HZB : Hid (IRK w bq bL ∧ bL.length ≤ 128 ∧ good bc = true ∧ ∀ x ∈ bL, good x = true) := ⟨hzok.1.1, hzok.2, hzok.1.2.2.1, hzok.1.2.2.2⟩
          have hst : (Z2.map ZT.cont)[j]? = some (bc, bL) := by rw [List.getElem?_map, hzb]; rfl
          have HST : Hid (cmN [(ac, aL)] ((Z2.take (j + 1)).map ZT.cont) = cmN [(ac, aL)] ((Z2.take j).map ZT.cont) ++ (if agB ac bc = true then [(mtT ac bc, aL ++ bL)] else [])) := by
            have h := cmN_one (a := (ac, aL)) hst
            unfold Hid
            rw [List.map_take, List.map_take]
            exact h
          obtain ⟨wb, hwb⟩ : ∃ wb, wr.alloc (.cells #[.int .i64 (bc.length : Int), .int .u64 (FW bc 0 : Int), .int .u64 (FW bc 1 : Int), .int .u64 (FW bc 2 : Int), .int .u64 (FW bc 3 : Int), .int .u64 (OW bc 0 : Int), .int .u64 (OW bc 1 : Int), .int .u64 (OW bc 2 : Int), .int .u64 (OW bc 3 : Int), .slice bq bL.length bk] 62 (0, 0)) = wb := ⟨_, rfl⟩
          have hal : Below wr.heap.size wr wb := by rw [← hwb]; exact belA (Below.refl _ _) _
          have hgb : wb.heap[wr.heap.size]? = some (.cells #[.int .i64 (bc.length : Int), .int .u64 (FW bc 0 : Int), .int .u64 (FW bc 1 : Int), .int .u64 (FW bc 2 : Int), .int .u64 (FW bc 3 : Int), .int .u64 (OW bc 0 : Int), .int .u64 (OW bc 1 : Int), .int .u64 (OW bc 2 : Int), .int .u64 (OW bc 3 : Int), .slice bq bL.length bk] 62 (0, 0)) := by rw [← hwb]; exact alloc_get _ _
          have hBb := bel0 hB0 hal
          obtain ⟨hcb, -⟩ := cells_block hgb
          obtain ⟨hca, -⟩ := cells_block (keepblk3 hal hA0)
          obtain ⟨M, hM⟩ : ∃ M, mtT ac bc = M := ⟨_, rfl⟩
          obtain ⟨q, hq⟩ : ∃ q, agB ac bc = q := ⟨_, rfl⟩
          have gM : Hid (good M = true) := by unfold Hid; rw [← hM]; exact good_mtT ac bc HZA.out.2.2.2.1 HZB.out.2.2.1
          have HMt : Hid (Calls Tryz.prog 56 #[.agg #[.int .i64 (ac.length : Int), .int .u64 (FW ac 0 : Int), .int .u64 (FW ac 1 : Int), .int .u64 (FW ac 2 : Int), .int .u64 (FW ac 3 : Int), .int .u64 (OW ac 0 : Int), .int .u64 (OW ac 1 : Int), .int .u64 (OW ac 2 : Int), .int .u64 (OW ac 3 : Int)], .agg #[.int .i64 (bc.length : Int), .int .u64 (FW bc 0 : Int), .int .u64 (FW bc 1 : Int), .int .u64 (FW bc 2 : Int), .int .u64 (FW bc 3 : Int), .int .u64 (OW bc 0 : Int), .int .u64 (OW bc 1 : Int), .int .u64 (OW bc 2 : Int), .int .u64 (OW bc 3 : Int)]] wb fun e w' => e = .returned (.tuple #[.agg #[.int .i64 (M.length : Int), .int .u64 (FW M 0 : Int), .int .u64 (FW M 1 : Int), .int .u64 (FW M 2 : Int), .int .u64 (FW M 3 : Int), .int .u64 (OW M 0 : Int), .int .u64 (OW M 1 : Int), .int .u64 (OW M 2 : Int), .int .u64 (OW M 3 : Int)], .bool q]) ∧ Below wb.heap.size wb w') := meet_D ac bc M q wb HZA.out.2.2.2.1 hM hq
          rw [hM, hq] at HST
          have HGB : Hid (wb.heap[wr.heap.size]? = some (.cells #[.int .i64 (bc.length : Int), .int .u64 (FW bc 0 : Int), .int .u64 (FW bc 1 : Int), .int .u64 (FW bc 2 : Int), .int .u64 (FW bc 3 : Int), .int .u64 (OW bc 0 : Int), .int .u64 (OW bc 1 : Int), .int .u64 (OW bc 2 : Int), .int .u64 (OW bc 3 : Int), .slice bq bL.length bk] 62 (0, 0)) ∧ wb.heap[cA]? = some (.cells #[.int .i64 (ac.length : Int), .int .u64 (FW ac 0 : Int), .int .u64 (FW ac 1 : Int), .int .u64 (FW ac 2 : Int), .int .u64 (FW ac 3 : Int), .int .u64 (OW ac 0 : Int), .int .u64 (OW ac 1 : Int), .int .u64 (OW ac 2 : Int), .int .u64 (OW ac 3 : Int), .slice aq aL.length ak] 62 (0, 0)) ∧ Below wr.heap.size wr wb ∧ Below w.heap.size w wb) := ⟨hgb, keepblk3 hal hA0, hal, hBb⟩
          clear hzb hzok hst hgb hal hBb hM hq hA0
          cases q with
          | false =>
            go_wp2_with fail
            refine HMt.out.mono ?_
            rintro e W3 ⟨rfl, hb3⟩
            have HX : Hid (Below w.heap.size w (W3.alloc (.cells #[.int .i64 (M.length : Int), .int .u64 (FW M 0 : Int), .int .u64 (FW M 1 : Int), .int .u64 (FW M 2 : Int), .int .u64 (FW M 3 : Int), .int .u64 (OW M 0 : Int), .int .u64 (OW M 1 : Int), .int .u64 (OW M 2 : Int), .int .u64 (OW M 3 : Int)] 40 (0, 0))) ∧ (W3.alloc (.cells #[.int .i64 (M.length : Int), .int .u64 (FW M 0 : Int), .int .u64 (FW M 1 : Int), .int .u64 (FW M 2 : Int), .int .u64 (FW M 3 : Int), .int .u64 (OW M 0 : Int), .int .u64 (OW M 1 : Int), .int .u64 (OW M 2 : Int), .int .u64 (OW M 3 : Int)] 40 (0, 0))).heap[cA]? = some (.cells #[.int .i64 (ac.length : Int), .int .u64 (FW ac 0 : Int), .int .u64 (FW ac 1 : Int), .int .u64 (FW ac 2 : Int), .int .u64 (FW ac 3 : Int), .int .u64 (OW ac 0 : Int), .int .u64 (OW ac 1 : Int), .int .u64 (OW ac 2 : Int), .int .u64 (OW ac 3 : Int), .slice aq aL.length ak] 62 (0, 0)) ∧ u5.ownBlock ≠ some cA ∧ (∃ Zq : List ZT, Zq.map ZT.cont = stl (cmN ((Z1.take k).map ZT.cont) (Z2.map ZT.cont) ++ cmN [(ac, aL)] ((Z2.take (j + 1)).map ZT.cont)) ∧ Zq.length ≤ 20000 ∧ (W3.alloc (.cells #[.int .i64 (M.length : Int), .int .u64 (FW M 0 : Int), .int .u64 (FW M 1 : Int), .int .u64 (FW M 2 : Int), .int .u64 (FW M 3 : Int), .int .u64 (OW M 0 : Int), .int .u64 (OW M 1 : Int), .int .u64 (OW M 2 : Int), .int .u64 (OW M 3 : Int)] 40 (0, 0))).ownsRow w.heap.size 62 10 u5 Zq.length (tes Zq) ∧ ∀ z ∈ Zq, ZOK (W3.alloc (.cells #[.int .i64 (M.length : Int), .int .u64 (FW M 0 : Int), .int .u64 (FW M 1 : Int), .int .u64 (FW M 2 : Int), .int .u64 (FW M 3 : Int), .int .u64 (OW M 0 : Int), .int .u64 (OW M 1 : Int), .int .u64 (OW M 2 : Int), .int .u64 (OW M 3 : Int)] 40 (0, 0))) z)) := by
              obtain ⟨f1, f2, Zk, e1, e2, e3, e4⟩ := hZ.out
              have hBw : Below wr.heap.size wr (W3.alloc (.cells #[.int .i64 (M.length : Int), .int .u64 (FW M 0 : Int), .int .u64 (FW M 1 : Int), .int .u64 (FW M 2 : Int), .int .u64 (FW M 3 : Int), .int .u64 (OW M 0 : Int), .int .u64 (OW M 1 : Int), .int .u64 (OW M 2 : Int), .int .u64 (OW M 3 : Int)] 40 (0, 0))) := belA (bel0 HGB.out.2.2.1 hb3) _
              refine ⟨belA (bel0 HGB.out.2.2.2 hb3) _, keepblk3 hBw f1, f2, Zk, ?_, e2, own_belQ e3 hBw, fun z hz => (e4 z hz).later (KC_below hBw)⟩
              rw [HST.out, if_neg (by simp), List.append_nil]
              exact e1
            clear hcb hca hwb p0 p1 p2 p3 p4 p5 p6 p7 p8 p9 hb3 HMt
            go_wp2_with fail
            go_roundw
            case rel => exact ⟨j + 1, by go_num, by omega, HX.out.1, HX.out.2⟩
            case measure => simp [intOf]; omega
          | true =>
            go_wp2_with fail
            refine HMt.out.mono ?_
            rintro e W3 ⟨rfl, hb3⟩
            have hk4 : Below wb.heap.size wb (W3.alloc (.cells #[.int .i64 (M.length : Int), .int .u64 (FW M 0 : Int), .int .u64 (FW M 1 : Int), .int .u64 (FW M 2 : Int), .int .u64 (FW M 3 : Int), .int .u64 (OW M 0 : Int), .int .u64 (OW M 1 : Int), .int .u64 (OW M 2 : Int), .int .u64 (OW M 3 : Int)] 40 (0, 0))) := belA hb3 _
            obtain ⟨hcm, -⟩ := cells_block (alloc_get W3 (.cells #[.int .i64 (M.length : Int), .int .u64 (FW M 0 : Int), .int .u64 (FW M 1 : Int), .int .u64 (FW M 2 : Int), .int .u64 (FW M 3 : Int), .int .u64 (OW M 0 : Int), .int .u64 (OW M 1 : Int), .int .u64 (OW M 2 : Int), .int .u64 (OW M 3 : Int)] 40 (0, 0)))
            obtain ⟨hcb4, -⟩ := cells_block (keepblk3 hk4 HGB.out.1)
            obtain ⟨hca4, -⟩ := cells_block (keepblk3 hk4 HGB.out.2.1)
            obtain ⟨W4, hW4⟩ : ∃ W4, W3.alloc (.cells #[.int .i64 (M.length : Int), .int .u64 (FW M 0 : Int), .int .u64 (FW M 1 : Int), .int .u64 (FW M 2 : Int), .int .u64 (FW M 3 : Int), .int .u64 (OW M 0 : Int), .int .u64 (OW M 1 : Int), .int .u64 (OW M 2 : Int), .int .u64 (OW M 3 : Int)] 40 (0, 0)) = W4 := ⟨_, rfl⟩
            rw [hW4] at hk4 hcm hcb4 hca4
            obtain ⟨W5, hW5⟩ : ∃ W5, W4.alloc (.cells #[.slice aq aL.length ak, .slice bq bL.length bk] 53 (0, 0)) = W5 := ⟨_, rfl⟩
            have hk5 : Below W4.heap.size W4 W5 := by rw [← hW5]; exact belA (Below.refl _ _) _
            have hg5 : W5.heap[W4.heap.size]? = some (.cells #[.slice aq aL.length ak, .slice bq bL.length bk] 53 (0, 0)) := by rw [← hW5]; exact alloc_get _ _
            have hBw5 : Below w.heap.size w W5 := bel0 hB0 (bel0 HGB.out.2.2.1 (bel0 hk4 hk5))
            have hIRL : IRL W5 (some ⟨W4.heap.size, 0, none⟩) [aL, bL] := fun W hW x K hK => by
              match x, hK with
              | 0, hK =>
                obtain rfl : aL = K := by simpa using hK
                exact ⟨W4.heap.size, 0, aq, ak, rfl, (cells_block (keepblk3 hW hg5)).1 0, HZA.out.2.1.irc.later (bel0 hBw5 hW)⟩
              | 1, hK =>
                obtain rfl : bL = K := by simpa using hK
                exact ⟨W4.heap.size, 0, bq, bk, rfl, (cells_block (keepblk3 hW hg5)).1 1, HZB.out.1.irc.later (bel0 hBw5 hW)⟩
              | x + 2, hK => simp at hK
            have hfl : ([aL, bL] : List (List (List UInt8))).flatten = aL ++ bL := by simp
            have H1 := settled_any M [aL, bL] 2 (some ⟨W4.heap.size, 0, none⟩) 2 W5 rfl (by rw [hfl, List.length_append]; have := HZA.out.2.2.1; have := HZB.out.2.1; omega) (by omega) gM.out hIRL (by
              rw [hfl]
              intro m hm
              rcases List.mem_append.1 hm with hm | hm
              · exact HZA.out.2.2.2.2 m hm
              · exact HZB.out.2.2.2 m hm)
            rw [hfl] at H1
            have HSE : Hid (Calls Tryz.prog 41 #[.agg #[.int .i64 (M.length : Int), .int .u64 (FW M 0 : Int), .int .u64 (FW M 1 : Int), .int .u64 (FW M 2 : Int), .int .u64 (FW M 3 : Int), .int .u64 (OW M 0 : Int), .int .u64 (OW M 1 : Int), .int .u64 (OW M 2 : Int), .int .u64 (OW M 3 : Int)], .slice (some ⟨W4.heap.size, 0, none⟩) 2 2] W5 fun e w' => Below W5.heap.size W5 w' ∧ ((setO M (aL ++ bL) = none ∧ e = .returned (.tuple #[.agg #[.int .i64 0, .int .u64 0, .int .u64 0, .int .u64 0, .int .u64 0, .int .u64 0, .int .u64 0, .int .u64 0, .int .u64 0, .slice none 0 0], .bool false])) ∨ ∃ R v, setO M (aL ++ bL) = some R ∧ e = .returned (.tuple #[.agg #[.int .i64 (M.length : Int), .int .u64 (FW M 0 : Int), .int .u64 (FW M 1 : Int), .int .u64 (FW M 2 : Int), .int .u64 (FW M 3 : Int), .int .u64 (OW M 0 : Int), .int .u64 (OW M 1 : Int), .int .u64 (OW M 2 : Int), .int .u64 (OW M 3 : Int), v], .bool true]) ∧ w'.ownsRow W5.heap.size 40 9 v R.length (ces R))) := H1
            have HK5 : Hid (Below wr.heap.size wr W5 ∧ Below w.heap.size w W5) := ⟨bel0 HGB.out.2.2.1 (bel0 hk4 hk5), bel0 HGB.out.2.2.2 (bel0 hk4 hk5)⟩
            clear hcb hca hwb p0 p1 p2 p3 p4 p5 p6 p7 p8 p9 HMt hb3 hk4 hk5 hg5 hIRL H1 hfl hBw5
            go_wp2_with fail
            refine HSE.out.mono ?_
            rintro e W6 ⟨hb6, ⟨hN1, rfl⟩ | ⟨R, v, hN1, rfl, oR⟩⟩
            · have HX : Hid (∀ o : Obj, Below w.heap.size w (W6.alloc o) ∧ (W6.alloc o).heap[cA]? = some (.cells #[.int .i64 (ac.length : Int), .int .u64 (FW ac 0 : Int), .int .u64 (FW ac 1 : Int), .int .u64 (FW ac 2 : Int), .int .u64 (FW ac 3 : Int), .int .u64 (OW ac 0 : Int), .int .u64 (OW ac 1 : Int), .int .u64 (OW ac 2 : Int), .int .u64 (OW ac 3 : Int), .slice aq aL.length ak] 62 (0, 0)) ∧ u5.ownBlock ≠ some cA ∧ (∃ Zq : List ZT, Zq.map ZT.cont = stl (cmN ((Z1.take k).map ZT.cont) (Z2.map ZT.cont) ++ cmN [(ac, aL)] ((Z2.take (j + 1)).map ZT.cont)) ∧ Zq.length ≤ 20000 ∧ (W6.alloc o).ownsRow w.heap.size 62 10 u5 Zq.length (tes Zq) ∧ ∀ z ∈ Zq, ZOK (W6.alloc o) z)) := fun o => by
                obtain ⟨f1, f2, Zk, e1, e2, e3, e4⟩ := hZ.out
                have hBw : Below wr.heap.size wr (W6.alloc o) := belA (bel0 HK5.out.1 hb6) _
                refine ⟨belA (bel0 HK5.out.2 hb6) _, keepblk3 hBw f1, f2, Zk, ?_, e2, own_belQ e3 hBw, fun z hz => (e4 z hz).later (KC_below hBw)⟩
                rw [HST.out, if_pos (by first | rfl | trivial), ← List.append_assoc, stl_app, stl_sing, hN1, ← e1]
                simp
              clear hcm hcb4 hca4 hW4 hW5 hb6 HSE hN1
              go_wp2_with fail
              go_roundw
              case rel => exact ⟨j + 1, by go_num, by omega, (HX.out _).1, (HX.out _).2⟩
              case measure => simp [intOf]; omega
            · obtain ⟨pv, cv1, rfl⟩ := shapeQ1 oR
              obtain ⟨f1, f2, Zk, e1, e2, e3, e4⟩ := hZ.out
              have hBr6 := bel0 HK5.out.1 hb6
              have o5 := own_belQ e3 hBr6
              obtain ⟨p5', c5', rfl⟩ := shapeQ1 o5
              have hs1 := (bel0 hB0 hBr6).size
              have hzl : Zk.length ≤ 16512 := by
                have h1 := congrArg List.length e1
                rw [List.length_map] at h1
                have h2 := stl_len (cmN ((Z1.take k).map ZT.cont) (Z2.map ZT.cont) ++ cmN [(ac, aL)] ((Z2.take j).map ZT.cont))
                rw [List.length_append] at h2
                have h3 := cmN_len ((Z1.take k).map ZT.cont) (Z2.map ZT.cont)
                have h4 := cmN_len [(ac, aL)] ((Z2.take j).map ZT.cont)
                rw [List.length_map, List.length_take] at h3
                rw [List.length_map, List.length_take, List.length_singleton] at h4
                rw [List.length_map, HN.out.2] at h3
                have h5 : min k Z1.length * n2 ≤ 128 * 128 := Nat.mul_le_mul (by omega) hN2
                omega
              have HOR : Hid (W6.ownsRow W5.heap.size 40 9 (.slice pv R.length cv1) R.length (ces R) ∧ setO M (aL ++ bL) = some R) := ⟨oR, hN1⟩
              have HZK : Hid (Zk.map ZT.cont = stl (cmN ((Z1.take k).map ZT.cont) (Z2.map ZT.cont) ++ cmN [(ac, aL)] ((Z2.take j).map ZT.cont)) ∧ ∀ z ∈ Zk, ZOK wr z) := ⟨e1, e4⟩
              have HB6 : Hid (Below wr.heap.size wr W6 ∧ Below w.heap.size w W6 ∧ W6.heap[cA]? = some (.cells #[.int .i64 (ac.length : Int), .int .u64 (FW ac 0 : Int), .int .u64 (FW ac 1 : Int), .int .u64 (FW ac 2 : Int), .int .u64 (FW ac 3 : Int), .int .u64 (OW ac 0 : Int), .int .u64 (OW ac 1 : Int), .int .u64 (OW ac 2 : Int), .int .u64 (OW ac 3 : Int), .slice aq aL.length ak] 62 (0, 0)) ∧ (Value.slice p5' Zk.length c5').ownBlock ≠ some cA ∧ cA < W6.heap.size) := ⟨hBr6, bel0 HK5.out.2 hb6, keepblk3 hBr6 f1, f2, lt_of_get3 (keepblk3 hBr6 f1)⟩
              clear hcm hcb4 hca4 hW4 hW5 hb6 HSE hN1 oR e1 e4 e2 e3 hZ hBr6 f1 f2
              go_wp2_with (at_builtin; refine wpList_append_lies _ rfl _ _ 24 rfl w.heap.size 62 i1 _ 10 96 Tryz.underlying24 hi1 hy0 hy1 hy2 rfl (by decide) _ _ _ rfl ((o5.alloc _).alloc _) ⟨_, 0, none⟩ 1 1 ([.int .i64 (M.length : Int), .int .u64 (FW M 0 : Int), .int .u64 (FW M 1 : Int), .int .u64 (FW M 2 : Int), .int .u64 (FW M 3 : Int), .int .u64 (OW M 0 : Int), .int .u64 (OW M 1 : Int), .int .u64 (OW M 2 : Int), .int .u64 (OW M 3 : Int), .slice pv R.length cv1]) rfl rfl (World.news_of_block (cs := #[.int .i64 (M.length : Int), .int .u64 (FW M 0 : Int), .int .u64 (FW M 1 : Int), .int .u64 (FW M 2 : Int), .int .u64 (FW M 3 : Int), .int .u64 (OW M 0 : Int), .int .u64 (OW M 1 : Int), .int .u64 (OW M 2 : Int), .int .u64 (OW M 3 : Int), .slice pv R.length cv1]) (t := 62) (fr := (0, 0)) (by first | exact alw_1 _ _ _ | exact alloc_get _ _)) (by simp [Value.oneCell']) (by decide) (by unfold maxLen; omega) (by omega) (by simp; omega) _ rfl ?_; intro g9 c9 w4 o4 g4 hg9 _)
              have HE : Hid (Below w.heap.size w w4 ∧ w4.heap[cA]? = some (.cells #[.int .i64 (ac.length : Int), .int .u64 (FW ac 0 : Int), .int .u64 (FW ac 1 : Int), .int .u64 (FW ac 2 : Int), .int .u64 (FW ac 3 : Int), .int .u64 (OW ac 0 : Int), .int .u64 (OW ac 1 : Int), .int .u64 (OW ac 2 : Int), .int .u64 (OW ac 3 : Int), .slice aq aL.length ak] 62 (0, 0)) ∧ (Value.slice (some ⟨g9, 0, none⟩) (Zk.length + 1) c9).ownBlock ≠ some cA ∧ (∃ Zq : List ZT, Zq.map ZT.cont = stl (cmN ((Z1.take k).map ZT.cont) (Z2.map ZT.cont) ++ cmN [(ac, aL)] ((Z2.take (j + 1)).map ZT.cont)) ∧ Zq.length ≤ 20000 ∧ w4.ownsRow w.heap.size 62 10 (.slice (some ⟨g9, 0, none⟩) (Zk.length + 1) c9) Zq.length (tes Zq) ∧ ∀ z ∈ Zq, ZOK w4 z)) := by
                have oX := (o5.alloc (.cells #[.int .i64 (M.length : Int), .int .u64 (FW M 0 : Int), .int .u64 (FW M 1 : Int), .int .u64 (FW M 2 : Int), .int .u64 (FW M 3 : Int), .int .u64 (OW M 0 : Int), .int .u64 (OW M 1 : Int), .int .u64 (OW M 2 : Int), .int .u64 (OW M 3 : Int), .slice pv R.length cv1] 62 (0, 0))).alloc (.cells #[.int .i64 (M.length : Int), .int .u64 (FW M 0 : Int), .int .u64 (FW M 1 : Int), .int .u64 (FW M 2 : Int), .int .u64 (FW M 3 : Int), .int .u64 (OW M 0 : Int), .int .u64 (OW M 1 : Int), .int .u64 (OW M 2 : Int), .int .u64 (OW M 3 : Int), .slice pv R.length cv1] 62 (0, 0))
                have hk4 : KC W6 w4 := (KC_below (belA (belA (Below.refl _ _) _) _)).trans (KC_own oX g4)
                have hl6 := HB6.out.2.2.2.2
                refine ⟨(belA (belA HB6.out.2.1 _) _).grown g4 (by simp; omega) (fun b e => (o5.lt b e).1), ?_, ?_, Zk ++ [⟨M, pv, cv1, R⟩], ?_, by rw [List.length_append]; simp; omega, ?_, ?_⟩
                · refine (g4.block cA (by simp; omega) (fun e => HB6.out.2.2.2.1 e.symm)).trans ?_
                  rw [Below.heap_alloc _ _ _ (by simp; omega), Below.heap_alloc _ _ _ hl6]
                  exact HB6.out.2.2.1
                · intro e
                  have e9 : g9 = cA := Option.some.inj e
                  rcases hg9 with h | h
                  · exact HB6.out.2.2.2.1 (by rw [← e9]; exact h)
                  · simp at h
                    omega
                · rw [HST.out, if_pos (by first | rfl | trivial), ← List.append_assoc, stl_app, stl_sing, HOR.out.2, List.map_append, HZK.out.1]
                  rfl
                · rw [tes_snoc, List.length_append]
                  exact o4
                · intro y hy
                  rcases List.mem_append.1 hy with hy | hy
                  · exact (HZK.out.2 y hy).later ((KC_below HB6.out.1).trans hk4)
                  · obtain rfl := List.mem_singleton.1 hy
                    have h5 := setO_len HOR.out.2
                    rw [List.length_append] at h5
                    refine ⟨(IRK_own HOR.out.1 rfl).later hk4, by have := HZA.out.2.2.1; have := HZB.out.2.1; show R.length ≤ 1000000; omega, gM.out, setO_good HOR.out.2 gM.out (fun x hx => ?_)⟩
                    rcases List.mem_append.1 hx with hx | hx
                    · exact HZA.out.2.2.2.2 x hx
                    · exact HZB.out.2.2.2 x hx
              clear o4 g4 o5
              go_wp2_with fail
              go_roundw
              case rel => exact ⟨j + 1, by go_num, by omega, HE.out.1, HE.out.2⟩
              case measure => simp [intOf]; omega
        · have r1 : ¬ (j : Int) < (n2 : Int) := by omega
          have hjn : j = n2 := by omega
          have HX : Hid (Below w.heap.size w wr ∧ (∃ Zq : List ZT, Zq.map ZT.cont = stl (cmN ((Z1.take (k + 1)).map ZT.cont) (Z2.map ZT.cont)) ∧ Zq.length ≤ 20000 ∧ wr.ownsRow w.heap.size 62 10 u5 Zq.length (tes Zq) ∧ ∀ z ∈ Zq, ZOK wr z)) := by
            obtain ⟨-, -, Zk, e1, e2, e3, e4⟩ := hZ.out
            refine ⟨hB0, Zk, ?_, e2, e3, e4⟩
            have hst : (Z1.map ZT.cont)[k]? = some (ac, aL) := by rw [List.getElem?_map, HZA.out.1]; rfl
            have h := cmN_step (C := Z2.map ZT.cont) hst
            rw [List.map_take, h, ← List.map_take, e1, List.take_of_length_le (show Z2.length ≤ j by rw [HN.out.2]; omega)]
          clear hZ hjn
          go_wp2_with fail
          go_roundw
          case rel => exact ⟨k + 1, by go_num, by omega, HX.out.1, HX.out.2⟩
          case measure => simp [intOf]; omega
    · have j1 : ¬ (k : Int) < (n1 : Int) := by omega
      have HX : Hid (Below w.heap.size w wr ∧ (∃ Zq : List ZT, Zq.map ZT.cont = stl (cmN (Z1.map ZT.cont) (Z2.map ZT.cont)) ∧ Zq.length ≤ 20000 ∧ wr.ownsRow w.heap.size 62 10 u5 Zq.length (tes Zq) ∧ ∀ z ∈ Zq, ZOK wr z)) := by
        have h := hZ.out
        rw [List.take_of_length_le (by rw [HN.out.1]; omega)] at h
        exact ⟨hB, h⟩
      clear hZ
      go_wp2_with fail
      go_ret
      exact ⟨_, rfl, HX.out.1, HX.out.2⟩
end Go.Proofs.YtfhghplplkkpmaaGreatDoor
