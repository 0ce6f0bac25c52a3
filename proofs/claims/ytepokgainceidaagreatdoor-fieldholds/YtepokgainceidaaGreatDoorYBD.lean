import Derived.Test.YtepokgainceidaaGreatDoorYBC
import Derived.Test.YtepokgainceidaaGreatDoorYBB
namespace Go.Proofs.YtepokgainceidaaGreatDoor.Tn
open Go.RowKit

set_option maxRecDepth 100000 in
set_option maxHeartbeats 2000000 in
theorem split_try (a b : List UInt8) (w : World) (ha : good a = true) (gb : good b = true) (hq0 : agB a b = true) :
    Calls Tryz.prog 103 #[cubeV a, cubeV b] w fun e w' => ∃ v, e = .returned v ∧ w'.ownsRow w.heap.size 123 9 v (pcs a b a.length).length (cels (pcs a b a.length)) ∧ Below w.heap.size w w' := by
  have hq : Hid (agB a b = true) := hq0
  have hl : Hid (a.length = b.length) := fitB_len (agB_fit hq0)
  have hal := good_len ha
  clear hq0
  obtain ⟨i0, hi, hz0, hz1, hz2⟩ := info_parts info_cube
  unfold cubeV cv
  go_enter Tryz.func103, Tryz.ntmps103
  go_wp2_with (go_at_call 132; refine (agrees_D a b true _ ha hq.out).mono ?_; rintro e w1 ⟨rfl, hb1⟩; obtain ⟨hc1, hf1⟩ := bcell hb1)
  have hA1 := allocblk (keepblk hb1 (alloc2_0 w (.cells #[.int .i64 (a.length : Int), .int .u64 (FW a 0 : Int), .int .u64 (FW a 1 : Int), .int .u64 (FW a 2 : Int), .int .u64 (FW a 3 : Int), .int .u64 (OW a 0 : Int), .int .u64 (OW a 1 : Int), .int .u64 (OW a 2 : Int), .int .u64 (OW a 3 : Int)] 123) (.cells #[.int .i64 (b.length : Int), .int .u64 (FW b 0 : Int), .int .u64 (FW b 1 : Int), .int .u64 (FW b 2 : Int), .int .u64 (FW b 3 : Int), .int .u64 (OW b 0 : Int), .int .u64 (OW b 1 : Int), .int .u64 (OW b 2 : Int), .int .u64 (OW b 3 : Int)] 123))) (.cells #[.int .i64 (a.length : Int), .int .u64 (FW a 0 : Int), .int .u64 (FW a 1 : Int), .int .u64 (FW a 2 : Int), .int .u64 (FW a 3 : Int), .int .u64 (OW a 0 : Int), .int .u64 (OW a 1 : Int), .int .u64 (OW a 2 : Int), .int .u64 (OW a 3 : Int)] 123)
  have hB1 := allocblk (keepblk hb1 (alloc2_1 w (.cells #[.int .i64 (a.length : Int), .int .u64 (FW a 0 : Int), .int .u64 (FW a 1 : Int), .int .u64 (FW a 2 : Int), .int .u64 (FW a 3 : Int), .int .u64 (OW a 0 : Int), .int .u64 (OW a 1 : Int), .int .u64 (OW a 2 : Int), .int .u64 (OW a 3 : Int)] 123) (.cells #[.int .i64 (b.length : Int), .int .u64 (FW b 0 : Int), .int .u64 (FW b 1 : Int), .int .u64 (FW b 2 : Int), .int .u64 (FW b 3 : Int), .int .u64 (OW b 0 : Int), .int .u64 (OW b 1 : Int), .int .u64 (OW b 2 : Int), .int .u64 (OW b 3 : Int)] 123))) (.cells #[.int .i64 (a.length : Int), .int .u64 (FW a 0 : Int), .int .u64 (FW a 1 : Int), .int .u64 (FW a 2 : Int), .int .u64 (FW a 3 : Int), .int .u64 (OW a 0 : Int), .int .u64 (OW a 1 : Int), .int .u64 (OW a 2 : Int), .int .u64 (OW a 3 : Int)] 123)
  have hR1 : (w1.alloc (.cells #[.int .i64 (a.length : Int), .int .u64 (FW a 0 : Int), .int .u64 (FW a 1 : Int), .int .u64 (FW a 2 : Int), .int .u64 (FW a 3 : Int), .int .u64 (OW a 0 : Int), .int .u64 (OW a 1 : Int), .int .u64 (OW a 2 : Int), .int .u64 (OW a 3 : Int)] 123)).heap[w1.heap.size]? = some (.cells (#[.int .i64 ((rsT a b (64 * 0)).length : Int), .int .u64 (FW (rsT a b (64 * 0)) 0 : Int), .int .u64 (FW (rsT a b (64 * 0)) 1 : Int), .int .u64 (FW (rsT a b (64 * 0)) 2 : Int), .int .u64 (FW (rsT a b (64 * 0)) 3 : Int), .int .u64 (OW (rsT a b (64 * 0)) 0 : Int), .int .u64 (OW (rsT a b (64 * 0)) 1 : Int), .int .u64 (OW (rsT a b (64 * 0)) 2 : Int), .int .u64 (OW (rsT a b (64 * 0)) 3 : Int)]) 123 (0, 0)) := by rw [Nat.mul_zero, rs_zero]; exact alloc_get _ _
  have hW1 := belA (bel1 (bel1 hb1)) (.cells #[.int .i64 (a.length : Int), .int .u64 (FW a 0 : Int), .int .u64 (FW a 1 : Int), .int .u64 (FW a 2 : Int), .int .u64 (FW a 3 : Int), .int .u64 (OW a 0 : Int), .int .u64 (OW a 1 : Int), .int .u64 (OW a 2 : Int), .int .u64 (OW a 3 : Int)] 123)
  have hgw : w.heap.size + 2 ≤ w1.heap.size := by have := hb1.size; simp at this; omega
  clear hb1 hc1 hf1
  go_loopw [5, 17] (fun v i wr => ∃ k : Nat, k ≤ 4 ∧ i = .int .i64 k ∧ wr.heap[w.heap.size]? = some (.cells (#[.int .i64 (a.length : Int), .int .u64 (FW a 0 : Int), .int .u64 (FW a 1 : Int), .int .u64 (FW a 2 : Int), .int .u64 (FW a 3 : Int), .int .u64 (OW a 0 : Int), .int .u64 (OW a 1 : Int), .int .u64 (OW a 2 : Int), .int .u64 (OW a 3 : Int)]) 123 (0, 0)) ∧ wr.heap[w.heap.size + 1]? = some (.cells (#[.int .i64 (b.length : Int), .int .u64 (FW b 0 : Int), .int .u64 (FW b 1 : Int), .int .u64 (FW b 2 : Int), .int .u64 (FW b 3 : Int), .int .u64 (OW b 0 : Int), .int .u64 (OW b 1 : Int), .int .u64 (OW b 2 : Int), .int .u64 (OW b 3 : Int)]) 123 (0, 0)) ∧ wr.heap[w1.heap.size]? = some (.cells (#[.int .i64 ((rsT a b (64 * k)).length : Int), .int .u64 (FW (rsT a b (64 * k)) 0 : Int), .int .u64 (FW (rsT a b (64 * k)) 1 : Int), .int .u64 (FW (rsT a b (64 * k)) 2 : Int), .int .u64 (FW (rsT a b (64 * k)) 3 : Int), .int .u64 (OW (rsT a b (64 * k)) 0 : Int), .int .u64 (OW (rsT a b (64 * k)) 1 : Int), .int .u64 (OW (rsT a b (64 * k)) 2 : Int), .int .u64 (OW (rsT a b (64 * k)) 3 : Int)]) 123 (0, 0)) ∧ wr.ownsRow (w1.heap.size + 1) 123 9 v (pcs a b (64 * k)).length (cels (pcs a b (64 * k))) ∧ Below w.heap.size w wr ∧ w1.heap.size + 1 ≤ wr.heap.size) (fun _ i _ => 4 - (intOf i).toNat)
  case atStart => exact ⟨0, by omega, rfl, hA1, hB1, hR1, World.ownsRow_nil _ _ _ _, hW1, by simp⟩
  case round =>
    clear hA1 hB1 hR1 hW1
    obtain ⟨k, hk, rfl, hA, hBb, hR, hown, hB, hsz⟩ := hrel
    by_cases hk4 : k < 4
    · skip
      have cA := cellF (cells_block hA).1 hk4
      have cB := cellF (cells_block hBb).1 hk4
      have hst := opn_start a b k
      have j0 : (0 : Int) ≤ (k : Int) := by omega
      have j1 : (k : Int) < 4 := by omega
      go_wp2
      go_quiet (fail)
      go_wp2
      go_loopw [5, 8] (fun v o wr => ∃ i : Nat, i ≤ 64 ∧ o = .int .u64 ((opn a b k i : Nat) : Int) ∧ wr.heap[w.heap.size]? = some (.cells (#[.int .i64 (a.length : Int), .int .u64 (FW a 0 : Int), .int .u64 (FW a 1 : Int), .int .u64 (FW a 2 : Int), .int .u64 (FW a 3 : Int), .int .u64 (OW a 0 : Int), .int .u64 (OW a 1 : Int), .int .u64 (OW a 2 : Int), .int .u64 (OW a 3 : Int)]) 123 (0, 0)) ∧ wr.heap[w.heap.size + 1]? = some (.cells (#[.int .i64 (b.length : Int), .int .u64 (FW b 0 : Int), .int .u64 (FW b 1 : Int), .int .u64 (FW b 2 : Int), .int .u64 (FW b 3 : Int), .int .u64 (OW b 0 : Int), .int .u64 (OW b 1 : Int), .int .u64 (OW b 2 : Int), .int .u64 (OW b 3 : Int)]) 123 (0, 0)) ∧ wr.heap[w1.heap.size]? = some (.cells (#[.int .i64 ((rsT a b (64 * k + i)).length : Int), .int .u64 (FW (rsT a b (64 * k + i)) 0 : Int), .int .u64 (FW (rsT a b (64 * k + i)) 1 : Int), .int .u64 (FW (rsT a b (64 * k + i)) 2 : Int), .int .u64 (FW (rsT a b (64 * k + i)) 3 : Int), .int .u64 (OW (rsT a b (64 * k + i)) 0 : Int), .int .u64 (OW (rsT a b (64 * k + i)) 1 : Int), .int .u64 (OW (rsT a b (64 * k + i)) 2 : Int), .int .u64 (OW (rsT a b (64 * k + i)) 3 : Int)]) 123 (0, 0)) ∧ wr.ownsRow (w1.heap.size + 1) 123 9 v (pcs a b (64 * k + i)).length (cels (pcs a b (64 * k + i))) ∧ Below w.heap.size w wr ∧ w1.heap.size + 1 ≤ wr.heap.size) (fun _ o _ => (intOf o).toNat)
      case atStart => exact ⟨0, by omega, rfl, hA, hBb, hR, hown, hB.trans (below_drewN _ _ _), hsz⟩
      case round =>
        clear hA hBb hR hown hB hsz cA cB hst
        obtain ⟨i, hi64, rfl, hA, hBb, hR, hown, hB, hsz⟩ := hrel
        by_cases hO0 : opn a b k i = 0
        · have hzq := opn_zero a b k i hO0
          have hrs := rs_skip a b hl.out (64 * k + i) (64 * (k + 1)) (by omega) (fun j h1 h2 => by have := hzq (j - 64 * k) (by omega) (by omega); rwa [show 64 * k + (j - 64 * k) = j by omega] at this)
          have hpc := pcs_skip a b (64 * k + i) (64 * (k + 1)) (by omega) (fun j h1 h2 => by have := hzq (j - 64 * k) (by omega) (by omega); rwa [show 64 * k + (j - 64 * k) = j by omega] at this)
          rw [← hrs] at hR
          rw [← hpc] at hown
          rw [hO0]
          clear hzq hrs hpc hO0
          go_wp2
          go_roundw
          case rel => exact ⟨(k + 1), by omega, by go_num, hA, hBb, hR, hown, hB, hsz⟩
          case measure => simp [intOf]; omega
        · obtain ⟨r, hir, hr, hqu, hbet, hlow, hnext⟩ := opn_step a b k i hO0
          obtain ⟨O, hO⟩ : ∃ O, opn a b k i = O := ⟨_, rfl⟩
          have hne : ((O : Int) != 0) = true := by rw [← hO]; simp; omega
          have hOl : O < 18446744073709551616 := by rw [← hO]; exact opn_lt _ _ _ _
          rw [hO] at hlow
          rw [hO] at hnext
          have hp : 64 * k + r < a.length := qual_lt a b hl.out _ hqu
          have hRS := rs_skip a b hl.out (64 * k + i) (64 * k + r) (by omega) (fun j h1 h2 => by have := hbet (j - 64 * k) (by omega) (by omega); rwa [show 64 * k + (j - 64 * k) = j by omega] at this)
          have hPC := pcs_skip a b (64 * k + i) (64 * k + r) (by omega) (fun j h1 h2 => by have := hbet (j - 64 * k) (by omega) (by omega); rwa [show 64 * k + (j - 64 * k) = j by omega] at this)
          have hfixO := fun W => fix_oth a b k r W hk4 hr hl.out gb hqu
          have hfixD := fun W => fix_own a b k r W hk4 hr hl.out gb hqu
          have hPCn := pcs_len a b (64 * k + r)
          have hPS := pcs_succ a b _ hqu
          obtain ⟨X, hX⟩ : ∃ X, 2 ^ r = X := ⟨_, rfl⟩
          rw [hX] at hfixO hfixD
          have hbit : bits .and .u64 (O : Int) (IntKind.u64.wrap (-(O : Int))) = (X : Int) := by rw [← hX]; exact low_bits O r (by intro e; rw [e] at hO; exact hO0 hO) hOl hlow
          obtain ⟨N, hN⟩ : ∃ N, opn a b k (r + 1) = N := ⟨_, rfl⟩
          have hnx : bits .and .u64 (O : Int) (IntKind.u64.wrap ((O : Int) - 1)) = (N : Int) := by rw [← hN]; exact next_bits O _ (by intro e; rw [e] at hO; exact hO0 hO) hOl hnext
          have hnx2 : bits .and .u64 (O : Int) ((O : Int) - 1) = (N : Int) := by rw [← hN]; exact next_bits2 O _ (by intro e; rw [e] at hO; exact hO0 hO) hOl hnext
          have hNlt : N < O := by rw [← hN, ← hnext]; exact Nat.lt_of_le_of_lt Nat.and_le_right (by have : O ≠ 0 := (by intro e; rw [e] at hO; exact hO0 hO); omega)
          obtain ⟨RS, hRS1⟩ : ∃ RS, rsT a b (64 * k + r) = RS := ⟨_, rfl⟩
          obtain ⟨RN, hRN1⟩ : ∃ RN, rsT a b (64 * k + r + 1) = RN := ⟨_, rfl⟩
          obtain ⟨P, hP1⟩ : ∃ P, pcT a b (64 * k + r) = P := ⟨_, rfl⟩
          obtain ⟨L, hL1⟩ : ∃ L, pcs a b (64 * k + r) = L := ⟨_, rfl⟩
          rw [← hRS, hRS1] at hR
          rw [← hPC, hL1] at hown
          rw [hRS1, hP1] at hfixO
          rw [hRS1, hRN1] at hfixD
          rw [hL1] at hPCn
          have HO : Hid (opn a b k i = O) := hO
          have HN : Hid (opn a b k (r + 1) = N) := hN
          have HRN : Hid (rsT a b (64 * k + r + 1) = RN) := hRN1
          have HL : Hid (pcs a b (64 * k + r + 1) = L ++ [P]) := by unfold Hid; rw [hPS, hL1, hP1]
          have hfO : Hid (∀ W, Calls Tryz.prog 133 #[cubeV RS, .int .i64 k, .int .u64 (X : Int), .int .u64 (bits .xor .u64 (if IntKind.u64.signed = true then -1 else IntKind.u64.max) (OW b k : Int))] W fun e w' => e = .returned (cubeV P) ∧ Below W.heap.size W w') := hfixO
          have hfD : Hid (∀ W, Calls Tryz.prog 133 #[cubeV RS, .int .i64 k, .int .u64 (X : Int), .int .u64 (OW b k : Int)] W fun e w' => e = .returned (cubeV RN) ∧ Below W.heap.size W w') := hfixD
          rw [hO]
          clear hfixO hfixD hO hN hRN1 hP1 hL1 hRS1 hRS hPC hPS hX hlow hnext hbet hO0
          have cR := (cells_block hR).1
          have cBb := cellO (cells_block hBb).1 hk4
          go_wp2
          go_region_held3 (fun W => (∀ j, W.cell? ⟨w1.heap.size, j, none⟩ = (#[.int .i64 (RS.length : Int), .int .u64 (FW RS 0 : Int), .int .u64 (FW RS 1 : Int), .int .u64 (FW RS 2 : Int), .int .u64 (FW RS 3 : Int), .int .u64 (OW RS 0 : Int), .int .u64 (OW RS 1 : Int), .int .u64 (OW RS 2 : Int), .int .u64 (OW RS 3 : Int)] : Array Value)[j]?) ∧ W.cell? ⟨w.heap.size + 1, 5 + k, none⟩ = some (.int .u64 (OW b k : Int))) (first | exact ⟨cR, cBb⟩ | exact ⟨(cellkeepS hbU (by exact lt_of_get hR) cR), (cell1keep hbU (by exact lt_of_get hBb) cBb)⟩ | exact ⟨allockeepS (Nat.lt_of_lt_of_le (lt_of_get hR) hbU.size) (cellkeepS hbU (by exact lt_of_get hR) cR) _, alloc1keep (Nat.lt_of_lt_of_le (lt_of_get hBb) hbU.size) (cell1keep hbU (by exact lt_of_get hBb) cBb) _⟩ | exact ⟨cellgrowS hgrow (ltA (Nat.lt_of_lt_of_le (lt_of_get hR) hbU.size) _) (fun e => by have := (hown.lt _ e.symm).1; omega) (allockeepS (Nat.lt_of_lt_of_le (lt_of_get hR) hbU.size) (cellkeepS hbU (by exact lt_of_get hR) cR) _), cell1grow hgrow (ltA (Nat.lt_of_lt_of_le (lt_of_get hBb) hbU.size) _) (fun e => by have := (hown.lt _ e.symm).1; omega) (alloc1keep (Nat.lt_of_lt_of_le (lt_of_get hBb) hbU.size) (cell1keep hbU (by exact lt_of_get hBb) cBb) _)⟩) (first | (go_at_call 133; refine (hfO.out _).mono ?_; rintro e wU ⟨rfl, hbU⟩; unfold cubeV cv) | (refine step_append_lies _ (by rfl) _ _ _ (by rfl) (w1.heap.size + 1) 123 i0 _ 9 72 Tryz.underlying150 hi hz0 hz1 hz2 rfl (by omega) u5 L.length (cels L) (by rfl) (World.ownsRow.alloc (owns_below hown (undrewS hbU)) _) ⟨wU.heap.size, 0, none⟩ 1 1 (cel P) (by rfl) (by rfl) (World.news_of_block (cs := #[.int .i64 (P.length : Int), .int .u64 (FW P 0 : Int), .int .u64 (FW P 1 : Int), .int .u64 (FW P 2 : Int), .int .u64 (FW P 3 : Int), .int .u64 (OW P 0 : Int), .int .u64 (OW P 1 : Int), .int .u64 (OW P 2 : Int), .int .u64 (OW P 3 : Int)]) (t := 123) (fr := (0, 0)) (heap_alloc_new wU _)) (by simp [cel, Value.oneCell']) (by omega) (by unfold maxLen; omega) (by omega) (by have hzz := hbU.size; simp at hzz ⊢; omega) (wU.heap.size + 1) (by simp) ?_; intro gg cap w2 hown2 hgrow hat hlt))
          have zU : wr.heap.size ≤ wU.heap.size := hbU.size
          have hA2 := growblk hgrow (allocblk (keepblk (undrewS hbU) hA) _) (fun e => by have := (hown.lt _ e.symm).1; omega)
          have hBb2 := growblk hgrow (allocblk (keepblk (undrewS hbU) hBb) _) (fun e => by have := (hown.lt _ e.symm).1; omega)
          have hR2 := growblk hgrow (allocblk (keepblk (undrewS hbU) hR) _) (fun e => by have := (hown.lt _ e.symm).1; omega)
          have hB2 := bel_app2 (bel0 hB (undrewS hbU)) (owns_below hown (undrewS hbU)) hgrow (by omega)
          have hz2' : w1.heap.size + 1 ≤ w2.heap.size := by have := hgrow.size; simp at this; omega
          clear hat hgrow hbU cR cBb hA hBb hR hB hown zU hsz
          have cR := (cells_block hR2).1
          have cBb := cellO (cells_block hBb2).1 hk4
          go_wp2
          go_region_with (go_at_call 133; refine (hfD.out _).mono ?_; rintro e wV ⟨rfl, hbV⟩; unfold cubeV cv; have hRV := keepblk (undrewS hbV) hR2; have cRV := (cells_block hRV).1; have fRV := (cells_block hRV).2)
          all_goals
            have hAV := keepblk (undrewS hbV) hA2
            have hBV := keepblk (undrewS hbV) hBb2
            have hoV := owns_below hown2 (undrewS hbV)
            have hBeV := bel0 hB2 (undrewS hbV)
            have zV : w2.heap.size ≤ wV.heap.size := hbV.size
            have HPL : Hid ((pcs a b (64 * k + (r + 1))).length = L.length + 1) := by unfold Hid; rw [show pcs a b (64 * k + (r + 1)) = L ++ [P] from HL.out]; simp
            have HPC : Hid (cels (pcs a b (64 * k + (r + 1))) = cels L ++ cel P) := by unfold Hid; rw [show pcs a b (64 * k + (r + 1)) = L ++ [P] from HL.out]; exact cels_snoc L P
            have HPR : Hid (rsT a b (64 * k + (r + 1)) = RN) := HRN.out
            clear hA2 hBb2 hR2 hown2 hB2 cR cBb hbV
            go_wp2
            go_roundw
            case rel =>
              exact ⟨r + 1, by omega, by rw [HN.out], put9_ne _ _ _ _ _ _ _ _ _ (by omega) hAV, put9_ne _ _ _ _ _ _ _ _ _ (by omega) hBV, (by rw [HPR.out]; exact put9_get _ _ _ _ _ _ _ _ _ hRV), (by rw [HPL.out, HPC.out]; exact own_put9 _ _ _ _ _ _ _ _ _ hoV (by omega)), put9_below _ _ _ _ _ _ _ _ _ hBeV (by omega), put9_szle _ _ _ _ _ _ _ _ _ (by omega)⟩
            case measure => simp [intOf]; omega
    · have hkk : k = 4 := by omega
      subst hkk
      have hfin := pcs_skip a b a.length (64 * 4) (by omega) (fun j h1 h2 => by
        cases e : qual a b j
        · rfl
        · have := qual_lt a b hl.out j e; omega)
      rw [hfin] at hown
      have hown' := own_base hown (show w.heap.size ≤ w1.heap.size + 1 by omega)
      clear hfin hown
      go_wp2
      go_ret
      exact ⟨_, rfl, hown', hB⟩
end Go.Proofs.YtepokgainceidaaGreatDoor.Tn
namespace Go.Proofs.YtepokgainceidaaGreatDoor.Tn
open Go.RowKit
theorem split_any (a b : List UInt8) (L : List (List UInt8)) (w : World) (ha : good a = true) (gb : good b = true) (hL : splT a b = L) :
    Calls Tryz.prog 103 #[cubeV a, cubeV b] w fun e w' => ∃ v, e = .returned v ∧ w'.ownsRow w.heap.size 123 9 v L.length (cels L) ∧ Below w.heap.size w w' := by
  subst hL
  unfold splT
  cases h : agB a b
  · exact split_no a b w ha h
  · exact split_try a b w ha gb h

theorem cels_get (L : List (List UInt8)) (k m : Nat) (hm : m < 9) : (cels L)[k * 9 + m]? = (L[k]?).bind (fun t => (cel t)[m]?) := by
  induction L generalizing k with
  | nil => simp [cels]
  | cons t l ih =>
    have hc : cels (t :: l) = cel t ++ cels l := rfl
    have hl : (cel t).length = 9 := rfl
    rw [hc]
    cases k with
    | zero =>
      rw [List.getElem?_append_left (by rw [hl]; omega)]
      simp
    | succ k =>
      rw [List.getElem?_append_right (by rw [hl]; omega), hl, show (k + 1) * 9 + m - 9 = k * 9 + m by omega, ih]
      simp

theorem own_cel {W : World} {B g cap k : Nat} {L : List (List UInt8)} (hown : W.ownsRow B 123 9 (.slice (some ⟨g, 0, none⟩) L.length cap) L.length (cels L)) (hk : k < L.length) (m : Nat) (hm : m < 9) : W.cell? ⟨g, k * 9 + m, none⟩ = (cel L[k])[m]? := by
  rw [hown.cellAt (k * 9 + m) (by omega), cels_get L k m hm, List.getElem?_eq_getElem hk]
  rfl

theorem good_set (t : List UInt8) (p : Nat) (x : UInt8) (ht : good t = true) (hx : tri x = true) : good (t.set p x) = true := by
  simp only [good, Bool.and_eq_true, decide_eq_true_eq, List.all_eq_true, List.length_set] at ht ⊢
  refine ⟨ht.1, fun y hy => ?_⟩
  rcases List.mem_or_eq_of_mem_set hy with h | rfl
  · exact ht.2 y h
  · exact hx

theorem good_pcs (a b : List UInt8) (hl : a.length = b.length) (ga : good a = true) (gb : good b = true) (p : Nat) : ∀ x ∈ pcs a b p, good x = true := by
  induction p with
  | zero => intro x hx; simp [pcs] at hx
  | succ p ih =>
    cases hq : qual a b p
    · have hs : ∀ k, p ≤ k → k < p + 1 → qual a b k = false := by
        intro k h1 h2
        have e : k = p := by omega
        subst e
        exact hq
      rw [pcs_skip a b p (p + 1) (by omega) hs]
      exact ih
    · rw [pcs_succ a b p hq]
      intro x hx
      rcases List.mem_append.1 hx with h | h
      · exact ih x h
      · rw [List.mem_singleton] at h
        subst h
        exact good_set _ _ _ (rs_good a b hl ga gb p) (by unfold oth; split <;> decide)

end Go.Proofs.YtepokgainceidaaGreatDoor.Tn
namespace Go.Proofs.YtepokgainceidaaGreatDoor
open Go.RowKit Go.Shelf
theorem own_capK {W : World} {B n c e sz : Nat} {o : Option Addr} {xs : List Value} (h : W.ownsRow B e sz (.slice o n c) n xs) : n ≤ c := by
  rcases h.2 with ⟨h', hn⟩ | ⟨g, cap, cur, h', _, _, hnc, _⟩
  · injection h' with _ h2 h3
    omega
  · injection h' with _ _ h3
    omega
theorem bitB_01k (b v p : Nat) : dg01 (bitB b v p) = true := by
  unfold bitB
  rcases (show v / 2 ^ (b - 1 - p) % 2 = 0 ∨ v / 2 ^ (b - 1 - p) % 2 = 1 by omega) with h | h <;> rw [h] <;> rfl
theorem grl_len (e : Nat) : ∀ (m a : Nat), e + 1 - a ≤ m → (gr a e).length ≤ m := by
  intro m
  induction m with
  | zero =>
    intro a h
    rw [gr_end (by omega)]
    simp
  | succ m ih =>
    intro a h
    by_cases hle : a ≤ e
    · rw [gr_le hle, List.length_cons]
      have hp : 0 < 2 ^ fre a e := Nat.pow_pos (by decide)
      have := ih (a + 2 ^ fre a e) (by omega)
      omega
    · rw [gr_end hle]
      simp
theorem covI_len {b : Nat} {lo hi : Int} (hb : b ≤ 32) (_h0 : 0 ≤ lo) (hh : hi < ((2 ^ b : Nat) : Int)) : (covI b lo hi).length ≤ 4294967296 := by
  have hp : 2 ^ b ≤ 2 ^ 32 := Nat.pow_le_pow_right (by decide) hb
  obtain ⟨P, hP⟩ : ∃ P, 2 ^ b = P := ⟨_, rfl⟩
  rw [hP] at hp hh
  clear hP
  unfold covI
  split
  · simp
  · unfold cov
    rw [List.length_map]
    have := grl_len hi.toNat (hi.toNat + 1 - lo.toNat) lo.toNat (Nat.le_refl _)
    omega
theorem covI_pos {b : Nat} {lo hi : Int} (_h0 : 0 ≤ lo) (h : ¬ hi < lo) : 0 < (covI b lo hi).length := by
  unfold covI
  rw [if_neg h, cov_le (by omega), List.length_cons]
  omega
theorem digL_tri (b v f : Nat) : (digL b v f).all Tn.tri = true := by
  unfold digL
  rw [List.all_append, Bool.and_eq_true]
  constructor
  · rw [List.all_eq_true]
    intro c hc
    obtain ⟨p, -, rfl⟩ := List.mem_map.1 hc
    have := bitB_01k b v p
    unfold dg01 at this
    unfold Tn.tri
    rw [this]
    rfl
  · rw [List.all_eq_true]
    intro c hc
    rw [(List.mem_replicate.1 hc).2]
    rfl
theorem one_good {b : Nat} {t : TS} (hb : b ≤ 32) (h : TOK b t) : (oneM b t).length = b ∧ Tn.good (oneM b t) = true := by
  have e : (oneM b t).length = b ∧ (oneM b t).all Tn.tri = true := by
    unfold oneM
    split
    · rename_i f4
      have := h.dig f4
      unfold cuB at this
      rw [Bool.and_eq_true, decide_eq_true_eq] at this
      exact this
    · split
      · have := h.len1
        exact ⟨digL_len _ _ _ (Nat.sub_le _ _), digL_tri _ _ _⟩
      · exact ⟨digL_len _ _ _ (Nat.zero_le _), digL_tri _ _ _⟩
  refine ⟨e.1, ?_⟩
  unfold Tn.good
  rw [e.2, decide_eq_true (by omega)]
  rfl
theorem fx_all (n k : Nat) : Tn.fx (List.replicate n 120) k = false := by
  unfold Tn.fx
  rw [List.getElem?_replicate]
  split <;> simp_all
theorem ag_x {n : Nat} {c : List UInt8} (h0 : 0 < n) (hl : c.length = n) : Tn.agB (List.replicate n 120) c = true := by
  refine Tn.agB_all _ _ ?_ fun k _ => ?_
  · unfold Tn.fitB
    have : (List.replicate n (120 : UInt8)).isEmpty = false := by cases n with | zero => omega | succ n => rfl
    rw [this, List.length_replicate, hl]
    simp
  · unfold Tn.cfl
    rw [fx_all]
    rfl
def splX (b : Nat) (c : List UInt8) : List (List UInt8) := Tn.pcs (List.replicate b 120) c b
theorem splT_x {b : Nat} {c : List UInt8} (h0 : 0 < b) (hl : c.length = b) : Tn.splT (List.replicate b 120) c = splX b c := by
  unfold Tn.splT splX
  rw [if_pos (ag_x h0 hl), List.length_replicate]
def othM (b : Nat) (t : TS) : List (List UInt8) := if t.form = 3 then covI b 0 (t.lo - 1) ++ covI b (t.hi + 1) ((2 ^ b - 1 : Nat) : Int) else splX b (oneM b t)
set_option maxRecDepth 100000 in
set_option maxHeartbeats 800000 in
theorem others3_any (b : Nat) (t : TS) (w : World) (hb1 : 1 ≤ b) (hb : b ≤ 32) (h : TOK b t) (h3 : t.form = 3) (hdb : DB w) : Calls Tryz.prog 81 #[.int .i64 (b : Int), t.v] w fun e w' => slR w (othM b t) e w' := by
  have hp : 2 ^ b ≤ 2 ^ 32 := Nat.pow_le_pow_right (by decide) hb
  have hp0 : 0 < 2 ^ b := Nat.pow_pos (by decide)
  obtain ⟨-, k2, k3, k4, k5, -, -, -, k8, -⟩ := h
  obtain ⟨i0, hi0, hz0, hz1, hz2⟩ := info_parts info_str
  have hM : othM b t = covI b 0 (t.lo - 1) ++ covI b (t.hi + 1) ((2 ^ b - 1 : Nat) : Int) := by unfold othM; rw [if_pos h3]
  rw [hM]
  obtain ⟨f, op, form, lo, hi, len, pat⟩ := t
  simp only at h3 k2 k3 k4 k5
  have g3 : (form == 3) = true := by rw [h3]; rfl
  clear h3
  have HG0 := fun W => greatest_any b hb W
  have l1 := covI_len (b := b) (lo := 0) (hi := lo - 1) hb (by omega) (by omega)
  have l2 := covI_len (b := b) (lo := hi + 1) (hi := ((2 ^ b - 1 : Nat) : Int)) hb (by omega) (by omega)
  have p1 := fun (W : World) (hW : Below w.heap.size w W) => prefixesI_any b 0 (lo - 1) hb1 hb (by omega) (by omega) W (hdb.below hW)
  have p2 := fun (W : World) (hW : Below w.heap.size w W) => prefixesI_any b (hi + 1) ((2 ^ b - 1 : Nat) : Int) hb1 hb (by omega) (by omega) W (hdb.below hW)
  have n2 : ∀ W : World, (((2 ^ b - 1 : Nat) : Int) < hi + 1) → Calls Tryz.prog 80 #[.int .i64 (b : Int), .int .i64 (hi + 1), .int .i64 ((2 ^ b - 1 : Nat) : Int)] W fun e w' => e = .returned (.slice none 0 0) ∧ w' = W := fun W h => prefixes_none b (hi + 1) _ W h
  have m2 : ¬ (((2 ^ b - 1 : Nat) : Int) < hi + 1) → 0 < (covI b (hi + 1) ((2 ^ b - 1 : Nat) : Int)).length := fun h => covI_pos (by omega) h
  have z2 : (((2 ^ b - 1 : Nat) : Int) < hi + 1) → covI b (hi + 1) ((2 ^ b - 1 : Nat) : Int) = [] := fun h => if_pos h
  have n1 : ∀ W : World, lo - 1 < 0 → Calls Tryz.prog 80 #[.int .i64 (b : Int), .int .i64 0, .int .i64 (lo - 1)] W fun e w' => e = .returned (.slice none 0 0) ∧ w' = W := fun W h => prefixes_none b 0 _ W h
  have m1 : ¬ (lo - 1 < 0) → 0 < (covI b 0 (lo - 1)).length := fun h => covI_pos (by omega) h
  have z1 : lo - 1 < 0 → covI b 0 (lo - 1) = [] := fun h => if_pos h
  obtain ⟨G, hG⟩ : ∃ G : Nat, 2 ^ b - 1 = G := ⟨_, rfl⟩
  simp only [hG] at HG0 l2 p2 n2 m2 z2 k3 k5 ⊢
  have hG32 : G < 4294967296 := by omega
  obtain ⟨L1, hL1⟩ : ∃ L, covI b 0 (lo - 1) = L := ⟨_, rfl⟩
  obtain ⟨L2, hL2⟩ : ∃ L, covI b (hi + 1) (G : Int) = L := ⟨_, rfl⟩
  simp only [hL1] at l1 p1 m1 z1 ⊢
  simp only [hL2] at l2 p2 m2 z2 ⊢
  have e1 : IntKind.i64.wrap (lo - 1) = lo - 1 := by rw [IntKind.wrap_i64]; omega
  have e2 : IntKind.i64.wrap (hi + 1) = hi + 1 := by rw [IntKind.wrap_i64]; omega
  obtain ⟨lo1, hlo1⟩ : ∃ x, lo - 1 = x := ⟨_, rfl⟩
  obtain ⟨hi1, hhi1⟩ : ∃ x, hi + 1 = x := ⟨_, rfl⟩
  replace e1 : IntKind.i64.wrap (lo - 1) = lo1 := e1.trans hlo1
  replace e2 : IntKind.i64.wrap (hi + 1) = hi1 := e2.trans hhi1
  rw [hlo1] at p1 n1 m1 z1
  rw [hhi1] at p2 n2 m2 z2
  have HP1 : Hid (∀ (W : World), Below w.heap.size w W → Calls Tryz.prog 80 #[.int .i64 (b : Int), .int .i64 0, .int .i64 lo1] W fun e w' => slR W L1 e w') := p1
  have HP2 : Hid (∀ (W : World), Below w.heap.size w W → Calls Tryz.prog 80 #[.int .i64 (b : Int), .int .i64 hi1, .int .i64 (G : Int)] W fun e w' => slR W L2 e w') := p2
  have HG : Hid (∀ W : World, Calls Tryz.prog 79 #[.int .i64 (b : Int)] W fun e w' => e = .returned (.int .i64 (G : Int)) ∧ w' = W) := HG0
  show Calls Tryz.prog 81 #[.int .i64 (b : Int), .agg #[.string ⟨f.toArray⟩, .int .i64 op, .int .i64 form, .int .i64 lo, .int .i64 hi, .int .i64 len, .string ⟨pat.toArray⟩]] w _
  obtain ⟨O, hO⟩ : ∃ O : Obj, Obj.cells #[.string ⟨f.toArray⟩, .int .i64 op, .int .i64 form, .int .i64 lo, .int .i64 hi, .int .i64 len, .string ⟨pat.toArray⟩] 24 = O := ⟨_, rfl⟩
  have hB1 : Below w.heap.size w (w.alloc O) := (Below.refl _ _).alloc (Nat.le_refl _) _
  have hbx : (w.alloc O).heap[w.heap.size]? = some (.cells #[.string ⟨f.toArray⟩, .int .i64 op, .int .i64 form, .int .i64 lo, .int .i64 hi, .int .i64 len, .string ⟨pat.toArray⟩] 24) := by rw [hO]; exact alloc_get _ _
  have HX : Hid (∀ W : World, Below (w.alloc O).heap.size (w.alloc O) W → W.cell? ⟨w.heap.size, 0, none⟩ = some (.string ⟨f.toArray⟩) ∧ W.cell? ⟨w.heap.size, 1, none⟩ = some (.int .i64 op) ∧ W.cell? ⟨w.heap.size, 2, none⟩ = some (.int .i64 form) ∧ W.cell? ⟨w.heap.size, 3, none⟩ = some (.int .i64 lo) ∧ W.cell? ⟨w.heap.size, 4, none⟩ = some (.int .i64 hi) ∧ W.cell? ⟨w.heap.size, 5, none⟩ = some (.int .i64 len) ∧ W.cell? ⟨w.heap.size, 6, none⟩ = some (.string ⟨pat.toArray⟩)) := fun W hW => ⟨cell_of_row _ _ 0 _ _ _ (keepblk hW hbx), cell_of_row _ _ 1 _ _ _ (keepblk hW hbx), cell_of_row _ _ 2 _ _ _ (keepblk hW hbx), cell_of_row _ _ 3 _ _ _ (keepblk hW hbx), cell_of_row _ _ 4 _ _ _ (keepblk hW hbx), cell_of_row _ _ 5 _ _ _ (keepblk hW hbx), cell_of_row _ _ 6 _ _ _ (keepblk hW hbx)⟩
  obtain ⟨t0, t1, t2, t3, t4, t5, t6⟩ := HX.out _ (Below.refl _ _)
  have hX0 := HX.out _ ((Below.refl _ _).drew)
  have hB1d : Below w.heap.size w (w.alloc O).drew := hB1.drew
  clear hbx p1 p2 HG0 hp hp0 hM hG hL1 hL2 k2 k3 k4 k5 k8 hlo1 hhi1
  by_cases hend : (G : Int) < hi1
  · obtain rfl := z2 hend
    have HN2 : Hid (∀ W : World, Calls Tryz.prog 80 #[.int .i64 (b : Int), .int .i64 hi1, .int .i64 (G : Int)] W fun e w' => e = .returned (.slice none 0 0) ∧ w' = W) := fun W => n2 W hend
    clear n2 m2 z2 hend HP2
    by_cases hst : lo1 < 0
    · obtain rfl := z1 hst
      have HN1 : Hid (∀ W : World, Calls Tryz.prog 80 #[.int .i64 (b : Int), .int .i64 0, .int .i64 lo1] W fun e w' => e = .returned (.slice none 0 0) ∧ w' = W) := fun W => n1 W hst
      clear n1 m1 z1 hst HP1
      go_enter Tryz.func81, Tryz.ntmps81
      go_wp2_with fail
      try simp only [hO]
      obtain ⟨y0, y1, y2, y3, y4, y5, y6⟩ := hX0
      go_region_law ((first | (have chk := hone; go_simp; go_at_call 80; refine (HN2.out _).mono ?_; rintro e w2 ⟨rfl, rfl⟩) | (go_simp; go_at_call 80; refine (HN1.out _).mono ?_; rintro e w1 ⟨rfl, rfl⟩; have hone : True := trivial) | (go_simp; go_at_call 79; refine (HG.out _).mono ?_; rintro e wg ⟨rfl, rfl⟩)))
      all_goals
        go_wp2_with fail
        go_ret
        exact ⟨_, rfl, World.ownsRow_nil _ _ _ _, by first | exact hB1d | exact hB1⟩
    · have hpos1 := m1 hst
      clear n1 m1 z1 hst
      go_enter Tryz.func81, Tryz.ntmps81
      go_wp2_with fail
      try simp only [hO]
      go_region_law ((first | (have chk := ho1; go_simp; go_at_call 80; refine (HN2.out _).mono ?_; rintro e w2 ⟨rfl, rfl⟩) | (go_simp; go_at_call 80; refine (HP1.out _ (by first | exact hB1d | exact hB1)).mono ?_; rintro e w1 ⟨v1, rfl, ho1, hb1⟩; have hB3 := (by first | exact bel0 hB1d hb1 | exact bel0 hB1 hb1 : Below w.heap.size w w1); have hXb := (by first | exact bel0 (Below.refl _ _).drew hb1 | exact hb1 : Below (w.alloc O).heap.size (w.alloc O) w1); obtain ⟨x0, x1, x2, x3, x4, x5, x6⟩ := HX.out w1 hXb; have ho1 := Tn.own_base ho1 (show w.heap.size ≤ _ from (by first | exact hB1d.size | exact hB1.size)); obtain ⟨o1, c1, rfl⟩ := shapeP ho1; obtain ⟨g1, rfl⟩ := own_at ho1 hpos1; have hcap1 := own_capK ho1) | (go_simp; go_at_call 79; refine (HG.out _).mono ?_; rintro e wg ⟨rfl, rfl⟩)))
      all_goals
        go_wp2_with fail
        go_ret
        exact ⟨_, rfl, by rw [List.append_nil]; exact ho1, hB3⟩
  · have hpos := m2 hend
    clear n2 m2 z2 hend n1 m1 z1
    go_enter Tryz.func81, Tryz.ntmps81
    go_wp2_with fail
    try simp only [hO]
    go_region_law ((first | (have chk := ho1b; refine step_append_lies _ (by rfl) _ _ 25 (by rfl) w.heap.size 9 i0 _ 1 16 Tryz.underlying25 hi0 hz0 hz1 hz2 rfl (by decide) _ L1.length (stx L1) (by rfl) ho1b ⟨g2, 0, none⟩ L2.length c2 (stx L2) (by rfl) (by rw [stx_len, Nat.mul_one]) (ho2.cells rfl) (fun u hu => by unfold stx at hu; obtain ⟨z, -, rfl⟩ := List.mem_map.1 hu; rfl) hpos (by unfold maxLen; omega) (by omega) hs2 _ rfl ?_; intro g5 c5 w5 oB hg5 _ _) | (have chk := ho1; go_simp; go_at_call 80; refine (HP2.out _ (by first | exact hB3)).mono ?_; rintro e w2 ⟨v2, rfl, ho2, hb2⟩; obtain ⟨o2, c2, rfl⟩ := shapeP ho2; obtain ⟨g2, rfl⟩ := own_at ho2 hpos; have ho1b := owns_below ho1 hb2; have hB4 := bel0 hB3 hb2; have hs2 := hB4.size; obtain ⟨y0, y1, y2, y3, y4, y5, y6⟩ := HX.out w2 (bel0 hXb hb2)) | (go_simp; go_at_call 80; refine (HP1.out _ (by first | exact hB1d | exact hB1)).mono ?_; rintro e w1 ⟨v1, rfl, ho1, hb1⟩; have hB3 := (by first | exact bel0 hB1d hb1 | exact bel0 hB1 hb1 : Below w.heap.size w w1); have hXb := (by first | exact bel0 (Below.refl _ _).drew hb1 | exact hb1 : Below (w.alloc O).heap.size (w.alloc O) w1); obtain ⟨x0, x1, x2, x3, x4, x5, x6⟩ := HX.out w1 hXb; have ho1 := Tn.own_base ho1 (show w.heap.size ≤ _ from (by first | exact hB1d.size | exact hB1.size)); obtain ⟨o1, c1, rfl⟩ := shapeP ho1) | (go_simp; go_at_call 79; refine (HG.out _).mono ?_; rintro e wg ⟨rfl, rfl⟩)))
    all_goals
      go_wp2_with fail
      go_ret
      exact ⟨_, rfl, by rw [List.length_append, stx, List.map_append]; exact oB, Below.grown hB4 hg5 hs2 (fun k e => (ho1b.lt k e).1)⟩
end Go.Proofs.YtepokgainceidaaGreatDoor
