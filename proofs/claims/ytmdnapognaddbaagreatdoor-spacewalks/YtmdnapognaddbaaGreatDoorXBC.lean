import Derived.Test.YtmdnapognaddbaaGreatDoorXBB
import Derived.RowKit
import Derived.Test.YtmdnapognaddbaaGreatDoorXAF
import Derived.RangeFuncSeq
namespace Go.Proofs.YtmdnapognaddbaaGreatDoor
open Go.RowKit

set_option maxRecDepth 100000 in
set_option maxHeartbeats 2000000 in
theorem split_try (a b : List UInt8) (w : World) (ha : good a = true) (gb : good b = true) (hq0 : agB a b = true) :
    Calls Tryz.prog 75 #[cubeV a, cubeV b] w fun e w' => ∃ v, e = .returned v ∧ w'.ownsRow w.heap.size 40 9 v (pcs a b a.length).length (cels (pcs a b a.length)) ∧ Below w.heap.size w w' := by
  have hq : Hid (agB a b = true) := hq0
  have hl : Hid (a.length = b.length) := fitB_len (agB_fit hq0)
  have hal := good_len ha
  clear hq0
  obtain ⟨i0, hi, hz0, hz1, hz2⟩ := info_parts info_cube
  unfold cubeV cv
  go_enter Tryz.func75, Tryz.ntmps75
  go_wp2_with (go_at_call 62; refine (agrees_D a b true _ ha hq.out).mono ?_; rintro e w1 ⟨rfl, hb1⟩; obtain ⟨hc1, hf1⟩ := bcell hb1)
  have hA1 := allocblk (keepblk hb1 (alloc2_0 w (.cells #[.int .i64 (a.length : Int), .int .u64 (FW a 0 : Int), .int .u64 (FW a 1 : Int), .int .u64 (FW a 2 : Int), .int .u64 (FW a 3 : Int), .int .u64 (OW a 0 : Int), .int .u64 (OW a 1 : Int), .int .u64 (OW a 2 : Int), .int .u64 (OW a 3 : Int)] 40) (.cells #[.int .i64 (b.length : Int), .int .u64 (FW b 0 : Int), .int .u64 (FW b 1 : Int), .int .u64 (FW b 2 : Int), .int .u64 (FW b 3 : Int), .int .u64 (OW b 0 : Int), .int .u64 (OW b 1 : Int), .int .u64 (OW b 2 : Int), .int .u64 (OW b 3 : Int)] 40))) (.cells #[.int .i64 (a.length : Int), .int .u64 (FW a 0 : Int), .int .u64 (FW a 1 : Int), .int .u64 (FW a 2 : Int), .int .u64 (FW a 3 : Int), .int .u64 (OW a 0 : Int), .int .u64 (OW a 1 : Int), .int .u64 (OW a 2 : Int), .int .u64 (OW a 3 : Int)] 40)
  have hB1 := allocblk (keepblk hb1 (alloc2_1 w (.cells #[.int .i64 (a.length : Int), .int .u64 (FW a 0 : Int), .int .u64 (FW a 1 : Int), .int .u64 (FW a 2 : Int), .int .u64 (FW a 3 : Int), .int .u64 (OW a 0 : Int), .int .u64 (OW a 1 : Int), .int .u64 (OW a 2 : Int), .int .u64 (OW a 3 : Int)] 40) (.cells #[.int .i64 (b.length : Int), .int .u64 (FW b 0 : Int), .int .u64 (FW b 1 : Int), .int .u64 (FW b 2 : Int), .int .u64 (FW b 3 : Int), .int .u64 (OW b 0 : Int), .int .u64 (OW b 1 : Int), .int .u64 (OW b 2 : Int), .int .u64 (OW b 3 : Int)] 40))) (.cells #[.int .i64 (a.length : Int), .int .u64 (FW a 0 : Int), .int .u64 (FW a 1 : Int), .int .u64 (FW a 2 : Int), .int .u64 (FW a 3 : Int), .int .u64 (OW a 0 : Int), .int .u64 (OW a 1 : Int), .int .u64 (OW a 2 : Int), .int .u64 (OW a 3 : Int)] 40)
  have hR1 : (w1.alloc (.cells #[.int .i64 (a.length : Int), .int .u64 (FW a 0 : Int), .int .u64 (FW a 1 : Int), .int .u64 (FW a 2 : Int), .int .u64 (FW a 3 : Int), .int .u64 (OW a 0 : Int), .int .u64 (OW a 1 : Int), .int .u64 (OW a 2 : Int), .int .u64 (OW a 3 : Int)] 40)).heap[w1.heap.size]? = some (.cells (#[.int .i64 ((rsT a b (64 * 0)).length : Int), .int .u64 (FW (rsT a b (64 * 0)) 0 : Int), .int .u64 (FW (rsT a b (64 * 0)) 1 : Int), .int .u64 (FW (rsT a b (64 * 0)) 2 : Int), .int .u64 (FW (rsT a b (64 * 0)) 3 : Int), .int .u64 (OW (rsT a b (64 * 0)) 0 : Int), .int .u64 (OW (rsT a b (64 * 0)) 1 : Int), .int .u64 (OW (rsT a b (64 * 0)) 2 : Int), .int .u64 (OW (rsT a b (64 * 0)) 3 : Int)]) 40 (0, 0)) := by rw [Nat.mul_zero, rs_zero]; exact alloc_get _ _
  have hW1 := belA (bel1 (bel1 hb1)) (.cells #[.int .i64 (a.length : Int), .int .u64 (FW a 0 : Int), .int .u64 (FW a 1 : Int), .int .u64 (FW a 2 : Int), .int .u64 (FW a 3 : Int), .int .u64 (OW a 0 : Int), .int .u64 (OW a 1 : Int), .int .u64 (OW a 2 : Int), .int .u64 (OW a 3 : Int)] 40)
  have hgw : w.heap.size + 2 ≤ w1.heap.size := by have := hb1.size; simp at this; omega
  clear hb1 hc1 hf1
  go_loopw [5, 17] (fun v i wr => ∃ k : Nat, k ≤ 4 ∧ i = .int .i64 k ∧ wr.heap[w.heap.size]? = some (.cells (#[.int .i64 (a.length : Int), .int .u64 (FW a 0 : Int), .int .u64 (FW a 1 : Int), .int .u64 (FW a 2 : Int), .int .u64 (FW a 3 : Int), .int .u64 (OW a 0 : Int), .int .u64 (OW a 1 : Int), .int .u64 (OW a 2 : Int), .int .u64 (OW a 3 : Int)]) 40 (0, 0)) ∧ wr.heap[w.heap.size + 1]? = some (.cells (#[.int .i64 (b.length : Int), .int .u64 (FW b 0 : Int), .int .u64 (FW b 1 : Int), .int .u64 (FW b 2 : Int), .int .u64 (FW b 3 : Int), .int .u64 (OW b 0 : Int), .int .u64 (OW b 1 : Int), .int .u64 (OW b 2 : Int), .int .u64 (OW b 3 : Int)]) 40 (0, 0)) ∧ wr.heap[w1.heap.size]? = some (.cells (#[.int .i64 ((rsT a b (64 * k)).length : Int), .int .u64 (FW (rsT a b (64 * k)) 0 : Int), .int .u64 (FW (rsT a b (64 * k)) 1 : Int), .int .u64 (FW (rsT a b (64 * k)) 2 : Int), .int .u64 (FW (rsT a b (64 * k)) 3 : Int), .int .u64 (OW (rsT a b (64 * k)) 0 : Int), .int .u64 (OW (rsT a b (64 * k)) 1 : Int), .int .u64 (OW (rsT a b (64 * k)) 2 : Int), .int .u64 (OW (rsT a b (64 * k)) 3 : Int)]) 40 (0, 0)) ∧ wr.ownsRow (w1.heap.size + 1) 40 9 v (pcs a b (64 * k)).length (cels (pcs a b (64 * k))) ∧ Below w.heap.size w wr ∧ w1.heap.size + 1 ≤ wr.heap.size) (fun _ i _ => 4 - (intOf i).toNat)
  case atStart => exact ⟨0, by omega, rfl, hA1, hB1, hR1, World.ownsRow_nil _ _ _ _, hW1, by simp⟩
  case round =>
    clear hA1 hB1 hR1 hW1
    obtain ⟨k, hk, rfl, hA, hBb, hR, hown, hB, hsz⟩ := hrel
    by_cases hk4 : k < 4
    · skip
      have cA := cellF (cells_block hA).1 hk4
      have cB := cellF (cells_block hBb).1 hk4
      have hst := opn_start a b k
      have j0 : (0 : Int) ≤ (k : Int) := by omega
      have j1 : (k : Int) < 4 := by omega
      go_wp2
      go_quiet (fail)
      go_wp2
      go_loopw [5, 8] (fun v o wr => ∃ i : Nat, i ≤ 64 ∧ o = .int .u64 ((opn a b k i : Nat) : Int) ∧ wr.heap[w.heap.size]? = some (.cells (#[.int .i64 (a.length : Int), .int .u64 (FW a 0 : Int), .int .u64 (FW a 1 : Int), .int .u64 (FW a 2 : Int), .int .u64 (FW a 3 : Int), .int .u64 (OW a 0 : Int), .int .u64 (OW a 1 : Int), .int .u64 (OW a 2 : Int), .int .u64 (OW a 3 : Int)]) 40 (0, 0)) ∧ wr.heap[w.heap.size + 1]? = some (.cells (#[.int .i64 (b.length : Int), .int .u64 (FW b 0 : Int), .int .u64 (FW b 1 : Int), .int .u64 (FW b 2 : Int), .int .u64 (FW b 3 : Int), .int .u64 (OW b 0 : Int), .int .u64 (OW b 1 : Int), .int .u64 (OW b 2 : Int), .int .u64 (OW b 3 : Int)]) 40 (0, 0)) ∧ wr.heap[w1.heap.size]? = some (.cells (#[.int .i64 ((rsT a b (64 * k + i)).length : Int), .int .u64 (FW (rsT a b (64 * k + i)) 0 : Int), .int .u64 (FW (rsT a b (64 * k + i)) 1 : Int), .int .u64 (FW (rsT a b (64 * k + i)) 2 : Int), .int .u64 (FW (rsT a b (64 * k + i)) 3 : Int), .int .u64 (OW (rsT a b (64 * k + i)) 0 : Int), .int .u64 (OW (rsT a b (64 * k + i)) 1 : Int), .int .u64 (OW (rsT a b (64 * k + i)) 2 : Int), .int .u64 (OW (rsT a b (64 * k + i)) 3 : Int)]) 40 (0, 0)) ∧ wr.ownsRow (w1.heap.size + 1) 40 9 v (pcs a b (64 * k + i)).length (cels (pcs a b (64 * k + i))) ∧ Below w.heap.size w wr ∧ w1.heap.size + 1 ≤ wr.heap.size) (fun _ o _ => (intOf o).toNat)
      case atStart => exact ⟨0, by omega, rfl, hA, hBb, hR, hown, hB.trans (below_drewN _ _ _), hsz⟩
      case round =>
        clear hA hBb hR hown hB hsz cA cB hst
        obtain ⟨i, hi64, rfl, hA, hBb, hR, hown, hB, hsz⟩ := hrel
        by_cases hO0 : opn a b k i = 0
        · have hzq := opn_zero a b k i hO0
          have hrs := rs_skip a b hl.out (64 * k + i) (64 * (k + 1)) (by omega) (fun j h1 h2 => by have := hzq (j - 64 * k) (by omega) (by omega); rwa [show 64 * k + (j - 64 * k) = j by omega] at this)
          have hpc := pcs_skip a b (64 * k + i) (64 * (k + 1)) (by omega) (fun j h1 h2 => by have := hzq (j - 64 * k) (by omega) (by omega); rwa [show 64 * k + (j - 64 * k) = j by omega] at this)
          rw [← hrs] at hR
          rw [← hpc] at hown
          rw [hO0]
          clear hzq hrs hpc hO0
          go_wp2
          go_roundw
          case rel => exact ⟨(k + 1), by omega, by go_num, hA, hBb, hR, hown, hB, hsz⟩
          case measure => simp [intOf]; omega
        · obtain ⟨r, hir, hr, hqu, hbet, hlow, hnext⟩ := opn_step a b k i hO0
          obtain ⟨O, hO⟩ : ∃ O, opn a b k i = O := ⟨_, rfl⟩
          have hne : ((O : Int) != 0) = true := by rw [← hO]; simp; omega
          have hOl : O < 18446744073709551616 := by rw [← hO]; exact opn_lt _ _ _ _
          rw [hO] at hlow
          rw [hO] at hnext
          have hp : 64 * k + r < a.length := qual_lt a b hl.out _ hqu
          have hRS := rs_skip a b hl.out (64 * k + i) (64 * k + r) (by omega) (fun j h1 h2 => by have := hbet (j - 64 * k) (by omega) (by omega); rwa [show 64 * k + (j - 64 * k) = j by omega] at this)
          have hPC := pcs_skip a b (64 * k + i) (64 * k + r) (by omega) (fun j h1 h2 => by have := hbet (j - 64 * k) (by omega) (by omega); rwa [show 64 * k + (j - 64 * k) = j by omega] at this)
          have hfixO := fun W => fix_oth a b k r W hk4 hr hl.out gb hqu
          have hfixD := fun W => fix_own a b k r W hk4 hr hl.out gb hqu
          have hPCn := pcs_len a b (64 * k + r)
          have hPS := pcs_succ a b _ hqu
          obtain ⟨X, hX⟩ : ∃ X, 2 ^ r = X := ⟨_, rfl⟩
          rw [hX] at hfixO hfixD
          have hbit : bits .and .u64 (O : Int) (IntKind.u64.wrap (-(O : Int))) = (X : Int) := by rw [← hX]; exact low_bits O r (by intro e; rw [e] at hO; exact hO0 hO) hOl hlow
          obtain ⟨N, hN⟩ : ∃ N, opn a b k (r + 1) = N := ⟨_, rfl⟩
          have hnx : bits .and .u64 (O : Int) (IntKind.u64.wrap ((O : Int) - 1)) = (N : Int) := by rw [← hN]; exact next_bits O _ (by intro e; rw [e] at hO; exact hO0 hO) hOl hnext
          have hnx2 : bits .and .u64 (O : Int) ((O : Int) - 1) = (N : Int) := by rw [← hN]; exact next_bits2 O _ (by intro e; rw [e] at hO; exact hO0 hO) hOl hnext
          have hNlt : N < O := by rw [← hN, ← hnext]; exact Nat.lt_of_le_of_lt Nat.and_le_right (by have : O ≠ 0 := (by intro e; rw [e] at hO; exact hO0 hO); omega)
          obtain ⟨RS, hRS1⟩ : ∃ RS, rsT a b (64 * k + r) = RS := ⟨_, rfl⟩
          obtain ⟨RN, hRN1⟩ : ∃ RN, rsT a b (64 * k + r + 1) = RN := ⟨_, rfl⟩
          obtain ⟨P, hP1⟩ : ∃ P, pcT a b (64 * k + r) = P := ⟨_, rfl⟩
          obtain ⟨L, hL1⟩ : ∃ L, pcs a b (64 * k + r) = L := ⟨_, rfl⟩
          rw [← hRS, hRS1] at hR
          rw [← hPC, hL1] at hown
          rw [hRS1, hP1] at hfixO
          rw [hRS1, hRN1] at hfixD
          rw [hL1] at hPCn
          have HO : Hid (opn a b k i = O) := hO
          have HN : Hid (opn a b k (r + 1) = N) := hN
          have HRN : Hid (rsT a b (64 * k + r + 1) = RN) := hRN1
          have HL : Hid (pcs a b (64 * k + r + 1) = L ++ [P]) := by unfold Hid; rw [hPS, hL1, hP1]
          have hfO : Hid (∀ W, Calls Tryz.prog 90 #[cubeV RS, .int .i64 k, .int .u64 (X : Int), .int .u64 (bits .xor .u64 (if IntKind.u64.signed = true then -1 else IntKind.u64.max) (OW b k : Int))] W fun e w' => e = .returned (cubeV P) ∧ Below W.heap.size W w') := hfixO
          have hfD : Hid (∀ W, Calls Tryz.prog 90 #[cubeV RS, .int .i64 k, .int .u64 (X : Int), .int .u64 (OW b k : Int)] W fun e w' => e = .returned (cubeV RN) ∧ Below W.heap.size W w') := hfixD
          rw [hO]
          clear hfixO hfixD hO hN hRN1 hP1 hL1 hRS1 hRS hPC hPS hX hlow hnext hbet hO0
          have cR := (cells_block hR).1
          have cBb := cellO (cells_block hBb).1 hk4
          go_wp2
          go_region_held3 (fun W => (∀ j, W.cell? ⟨w1.heap.size, j, none⟩ = (#[.int .i64 (RS.length : Int), .int .u64 (FW RS 0 : Int), .int .u64 (FW RS 1 : Int), .int .u64 (FW RS 2 : Int), .int .u64 (FW RS 3 : Int), .int .u64 (OW RS 0 : Int), .int .u64 (OW RS 1 : Int), .int .u64 (OW RS 2 : Int), .int .u64 (OW RS 3 : Int)] : Array Value)[j]?) ∧ W.cell? ⟨w.heap.size + 1, 5 + k, none⟩ = some (.int .u64 (OW b k : Int))) (first | exact ⟨cR, cBb⟩ | exact ⟨(cellkeepS hbU (by exact lt_of_get hR) cR), (cell1keep hbU (by exact lt_of_get hBb) cBb)⟩ | exact ⟨allockeepS (Nat.lt_of_lt_of_le (lt_of_get hR) hbU.size) (cellkeepS hbU (by exact lt_of_get hR) cR) _, alloc1keep (Nat.lt_of_lt_of_le (lt_of_get hBb) hbU.size) (cell1keep hbU (by exact lt_of_get hBb) cBb) _⟩ | exact ⟨cellgrowS hgrow (ltA (Nat.lt_of_lt_of_le (lt_of_get hR) hbU.size) _) (fun e => by have := (hown.lt _ e.symm).1; omega) (allockeepS (Nat.lt_of_lt_of_le (lt_of_get hR) hbU.size) (cellkeepS hbU (by exact lt_of_get hR) cR) _), cell1grow hgrow (ltA (Nat.lt_of_lt_of_le (lt_of_get hBb) hbU.size) _) (fun e => by have := (hown.lt _ e.symm).1; omega) (alloc1keep (Nat.lt_of_lt_of_le (lt_of_get hBb) hbU.size) (cell1keep hbU (by exact lt_of_get hBb) cBb) _)⟩) (first | (go_at_call 90; refine (hfO.out _).mono ?_; rintro e wU ⟨rfl, hbU⟩; unfold cubeV cv) | (refine step_append_lies _ (by rfl) _ _ _ (by rfl) (w1.heap.size + 1) 40 i0 _ 9 72 Tryz.underlying80 hi hz0 hz1 hz2 rfl (by omega) u5 L.length (cels L) (by rfl) (World.ownsRow.alloc (owns_below hown (undrewS hbU)) _) ⟨wU.heap.size, 0, none⟩ 1 1 (cel P) (by rfl) (by rfl) (World.news_of_block (cs := #[.int .i64 (P.length : Int), .int .u64 (FW P 0 : Int), .int .u64 (FW P 1 : Int), .int .u64 (FW P 2 : Int), .int .u64 (FW P 3 : Int), .int .u64 (OW P 0 : Int), .int .u64 (OW P 1 : Int), .int .u64 (OW P 2 : Int), .int .u64 (OW P 3 : Int)]) (t := 40) (fr := (0, 0)) (heap_alloc_new wU _)) (by simp [cel, Value.oneCell']) (by omega) (by unfold maxLen; omega) (by omega) (by have hzz := hbU.size; simp at hzz ⊢; omega) (wU.heap.size + 1) (by simp) ?_; intro gg cap w2 hown2 hgrow hat hlt))
          have zU : wr.heap.size ≤ wU.heap.size := hbU.size
          have hA2 := growblk hgrow (allocblk (keepblk (undrewS hbU) hA) _) (fun e => by have := (hown.lt _ e.symm).1; omega)
          have hBb2 := growblk hgrow (allocblk (keepblk (undrewS hbU) hBb) _) (fun e => by have := (hown.lt _ e.symm).1; omega)
          have hR2 := growblk hgrow (allocblk (keepblk (undrewS hbU) hR) _) (fun e => by have := (hown.lt _ e.symm).1; omega)
          have hB2 := bel_app2 (bel0 hB (undrewS hbU)) (owns_below hown (undrewS hbU)) hgrow (by omega)
          have hz2' : w1.heap.size + 1 ≤ w2.heap.size := by have := hgrow.size; simp at this; omega
          clear hat hgrow hbU cR cBb hA hBb hR hB hown zU hsz
          have cR := (cells_block hR2).1
          have cBb := cellO (cells_block hBb2).1 hk4
          go_wp2
          go_region_with (go_at_call 90; refine (hfD.out _).mono ?_; rintro e wV ⟨rfl, hbV⟩; unfold cubeV cv; have hRV := keepblk (undrewS hbV) hR2; have cRV := (cells_block hRV).1; have fRV := (cells_block hRV).2)
          all_goals
            have hAV := keepblk (undrewS hbV) hA2
            have hBV := keepblk (undrewS hbV) hBb2
            have hoV := owns_below hown2 (undrewS hbV)
            have hBeV := bel0 hB2 (undrewS hbV)
            have zV : w2.heap.size ≤ wV.heap.size := hbV.size
            have HPL : Hid ((pcs a b (64 * k + (r + 1))).length = L.length + 1) := by unfold Hid; rw [show pcs a b (64 * k + (r + 1)) = L ++ [P] from HL.out]; simp
            have HPC : Hid (cels (pcs a b (64 * k + (r + 1))) = cels L ++ cel P) := by unfold Hid; rw [show pcs a b (64 * k + (r + 1)) = L ++ [P] from HL.out]; exact cels_snoc L P
            have HPR : Hid (rsT a b (64 * k + (r + 1)) = RN) := HRN.out
            clear hA2 hBb2 hR2 hown2 hB2 cR cBb hbV
            go_wp2
            go_roundw
            case rel =>
              exact ⟨r + 1, by omega, by rw [HN.out], put9_ne _ _ _ _ _ _ _ _ _ (by omega) hAV, put9_ne _ _ _ _ _ _ _ _ _ (by omega) hBV, (by rw [HPR.out]; exact put9_get _ _ _ _ _ _ _ _ _ hRV), (by rw [HPL.out, HPC.out]; exact own_put9 _ _ _ _ _ _ _ _ _ hoV (by omega)), put9_below _ _ _ _ _ _ _ _ _ hBeV (by omega), put9_szle _ _ _ _ _ _ _ _ _ (by omega)⟩
            case measure => simp [intOf]; omega
    · have hkk : k = 4 := by omega
      subst hkk
      have hfin := pcs_skip a b a.length (64 * 4) (by omega) (fun j h1 h2 => by
        cases e : qual a b j
        · rfl
        · have := qual_lt a b hl.out j e; omega)
      rw [hfin] at hown
      have hown' := own_baseW hown (show w.heap.size ≤ w1.heap.size + 1 by omega)
      clear hfin hown
      go_wp2
      go_ret
      exact ⟨_, rfl, hown', hB⟩
end Go.Proofs.YtmdnapognaddbaaGreatDoor
namespace Go.Proofs.YtmdnapognaddbaaGreatDoor
section
variable {α : Type} (sp : α → α → List α)
/-- one list further: each of l without d -/
def exS (l : List α) (d : α) : List α := l.flatMap (fun c => sp c d)
/-- what is left of all of l, without the one behind the other -/
def exT (l : List α) : List α → List α
  | [] => l
  | d :: r => exT (exS sp l d) r
/-- how many there are where j are still to be taken away -/
def lvl (l : List α) : List α → Nat → Nat
  | [], j => if j = 0 then l.length else 0
  | d :: r, j => if j = r.length + 1 then l.length else lvl (exS sp l d) r j
/-- no list on the way is longer than lim, together with n -/
def exO (n lim : Nat) (l : List α) : List α → Bool
  | [] => decide (n + l.length ≤ lim)
  | d :: r => decide (n + l.length ≤ lim) && exO n lim (exS sp l d) r
/-- terms, one behind the other; none: some list was too long -/
def exE (lim : Nat) : List α → List (α × List α) → Option (List α)
  | out, [] => some out
  | out, t :: r => if exO sp out.length lim [t.1] t.2 = true then exE lim (out ++ exT sp [t.1] t.2) r else none
theorem exS_app (l m : List α) (d : α) : exS sp (l ++ m) d = exS sp l d ++ exS sp m d := List.flatMap_append
theorem exS_one (c d : α) : exS sp [c] d = sp c d := by simp [exS]
theorem exS_nil (d : α) : exS sp [] d = [] := rfl
theorem exT_app : ∀ (L l m : List α), exT sp (l ++ m) L = exT sp l L ++ exT sp m L
  | [], _, _ => rfl
  | d :: r, l, m => by
    show exT sp (exS sp (l ++ m) d) r = _
    rw [exS_app, exT_app r]
    rfl
theorem exT_nil : ∀ (L : List α), exT sp [] L = []
  | [] => rfl
  | _ :: r => exT_nil r
theorem lvl_app : ∀ (L l m : List α) (j : Nat), lvl sp (l ++ m) L j = lvl sp l L j + lvl sp m L j
  | [], l, m, j => by
    unfold lvl
    split
    · simp
    · rfl
  | d :: r, l, m, j => by
    unfold lvl
    split
    · simp
    · rw [exS_app, lvl_app r]
theorem lvl_nil : ∀ (L : List α) (j : Nat), lvl sp [] L j = 0
  | [], j => by
    unfold lvl
    split <;> rfl
  | d :: r, j => by
    unfold lvl
    split
    · rfl
    · exact lvl_nil r j
theorem lvl_top (l : List α) : ∀ L : List α, lvl sp l L L.length = l.length
  | [] => by simp [lvl]
  | d :: r => by simp [lvl]
theorem lvl_over : ∀ (L l : List α) (j : Nat), L.length < j → lvl sp l L j = 0
  | [], l, j, h => by
    have : ¬ j = 0 := by simp at h; omega
    simp [lvl, this]
  | d :: r, l, j, h => by
    have h1 : ¬ j = r.length + 1 := by simp at h; omega
    simp only [lvl, if_neg h1]
    exact lvl_over r _ j (by simp at h; omega)
theorem lvl_zero : ∀ (L l : List α), lvl sp l L 0 = (exT sp l L).length
  | [], l => by simp [lvl, exT]
  | d :: r, l => by
    have h1 : ¬ (0 = r.length + 1) := by omega
    simp only [lvl, if_neg h1, exT]
    exact lvl_zero r _
theorem lvl_take (L P : List α) (i j : Nat) : lvl sp (P.take i) L j ≤ lvl sp P L j := by
  have h := lvl_app sp L (P.take i) (P.drop i) j
  rw [List.take_append_drop] at h
  omega
theorem lvl_succ {L P : List α} {i : Nat} {p : α} (h : P[i]? = some p) (j : Nat) : lvl sp (P.take (i + 1)) L j = lvl sp (P.take i) L j + lvl sp [p] L j := by
  rw [List.take_add_one, h, lvl_app]
  rfl
theorem exT_succ {L P : List α} {i : Nat} {p : α} (h : P[i]? = some p) : exT sp (P.take (i + 1)) L = exT sp (P.take i) L ++ exT sp [p] L := by
  rw [List.take_add_one, h, exT_app]
  rfl
theorem lvl_cons (c d : α) (r : List α) (j : Nat) : lvl sp [c] (d :: r) j = if j = r.length + 1 then 1 else lvl sp (sp c d) r j := by
  show (if j = r.length + 1 then [c].length else lvl sp (exS sp [c] d) r j) = _
  rw [exS_one]
  rfl
theorem exT_cons (c d : α) (r : List α) : exT sp [c] (d :: r) = exT sp (sp c d) r := by
  show exT sp (exS sp [c] d) r = _
  rw [exS_one]
/-- the counts that a way down from l adds stay within the room -/
def dok (room : Int) (M : Nat → Nat) (l L : List α) : Prop := ∀ j, j ≤ L.length → ((M j + lvl sp l L j : Nat) : Int) ≤ room
theorem exO_iff (n lim : Nat) : ∀ (L l : List α), exO sp n lim l L = true ↔ ∀ j, j ≤ L.length → n + lvl sp l L j ≤ lim
  | [], l => by
    unfold exO
    rw [decide_eq_true_iff]
    constructor
    · intro h j hj
      have : j = 0 := by simpa using hj
      subst this
      simpa [lvl] using h
    · intro h
      have := h 0 (Nat.le_refl _)
      simpa [lvl] using this
  | d :: r, l => by
    unfold exO
    rw [Bool.and_eq_true, decide_eq_true_iff, exO_iff n lim r]
    constructor
    · rintro ⟨h1, h2⟩ j hj
      unfold lvl
      split
      · exact h1
      · rename_i hne
        exact h2 j (by simp at hj; omega)
    · intro h
      refine ⟨?_, fun j hj => ?_⟩
      · have := h (r.length + 1) (by simp)
        simpa [lvl] using this
      · have h3 := h j (by simp; omega)
        unfold lvl at h3
        rw [if_neg (by omega)] at h3
        exact h3
theorem dok_exO {n lim : Nat} (l L : List α) : dok sp ((lim : Int) - (n : Int)) (fun _ => 0) l L ↔ exO sp n lim l L = true := by
  rw [exO_iff]
  unfold dok
  constructor
  · intro h j hj
    have h1 : ((0 + lvl sp l L j : Nat) : Int) ≤ (lim : Int) - (n : Int) := h j hj
    omega
  · intro h j hj
    have h1 := h j hj
    show ((0 + lvl sp l L j : Nat) : Int) ≤ (lim : Int) - (n : Int)
    omega
theorem exO_len {n lim : Nat} {l L : List α} (h : exO sp n lim l L = true) : n + (exT sp l L).length ≤ lim := by
  have := (exO_iff sp n lim L l).1 h 0 (Nat.zero_le _)
  rw [lvl_zero] at this
  exact this
/-- the first count on the way down -/
theorem dok_first {room : Int} {M : Nat → Nat} {c : α} {L : List α} (h : dok sp room M [c] L) : ((M L.length + 1 : Nat) : Int) ≤ room := by
  have := h L.length (Nat.le_refl _)
  rw [lvl_top] at this
  exact this
/-- the way down from c, by the pieces -/
theorem dok_down {room : Int} {M : Nat → Nat} {c d : α} {r : List α} : dok sp room M [c] (d :: r) ↔ ((M (r.length + 1) + 1 : Nat) : Int) ≤ room ∧ dok sp room M (sp c d) r := by
  unfold dok
  constructor
  · intro h
    refine ⟨?_, fun j hj => ?_⟩
    · have := h (r.length + 1) (by simp)
      rw [lvl_cons, if_pos rfl] at this
      exact this
    · have := h j (by simp; omega)
      rw [lvl_cons, if_neg (by omega)] at this
      exact this
  · rintro ⟨h1, h2⟩ j hj
    rw [lvl_cons]
    split
    · rename_i e
      rw [e]
      exact h1
    · exact h2 j (by simp at hj; omega)
theorem dok_piece {room : Int} {M : Nat → Nat} {P r : List α} {i : Nat} {p : α} (hp : P[i]? = some p) (h : dok sp room M P r) : dok sp room (fun j => M j + lvl sp (P.take i) r j) [p] r := fun j hj => by
  have h1 := h j hj
  have h2 := lvl_take sp r P (i + 1) j
  rw [lvl_succ sp hp] at h2
  show ((M j + lvl sp (P.take i) r j + lvl sp [p] r j : Nat) : Int) ≤ room
  omega
theorem dok_all {room : Int} {M : Nat → Nat} {P r : List α} (hr : ∀ j, j ≤ r.length → (M j : Int) ≤ room) (h : ∀ i p, P[i]? = some p → dok sp room (fun j => M j + lvl sp (P.take i) r j) [p] r) : dok sp room M P r := fun j hj => by
  cases hP : P.length with
  | zero =>
    rw [List.eq_nil_of_length_eq_zero hP, lvl_nil]
    exact hr j hj
  | succ m =>
    have hm : m < P.length := by omega
    have h1 := h m P[m] (List.getElem?_eq_getElem hm) j hj
    have h2 := lvl_succ sp (L := r) (List.getElem?_eq_getElem hm) j
    have e : P.take (m + 1) = P := List.take_of_length_le (by omega)
    rw [e] at h2
    rw [h2]
    have h1' : ((M j + lvl sp (P.take m) r j + lvl sp [P[m]] r j : Nat) : Int) ≤ room := h1
    omega
/-- the counts behind i pieces -/
def cntD (M : Nat → Nat) (k : Nat) (j : Nat) : Nat := if j = k then M j + 1 else M j
end
end Go.Proofs.YtmdnapognaddbaaGreatDoor
namespace Go.Proofs.YtmdnapognaddbaaGreatDoor
open Go.RowKit
theorem split_any (a b : List UInt8) (L : List (List UInt8)) (w : World) (ha : good a = true) (gb : good b = true) (hL : splT a b = L) :
    Calls Tryz.prog 75 #[cubeV a, cubeV b] w fun e w' => ∃ v, e = .returned v ∧ w'.ownsRow w.heap.size 40 9 v L.length (cels L) ∧ Below w.heap.size w w' := by
  subst hL
  unfold splT
  cases h : agB a b
  · exact split_no a b w ha h
  · exact split_try a b w ha gb h
theorem good_set (t : List UInt8) (p : Nat) (x : UInt8) (ht : good t = true) (hx : tri x = true) : good (t.set p x) = true := by
  simp only [good, Bool.and_eq_true, decide_eq_true_eq, List.all_eq_true, List.length_set] at ht ⊢
  refine ⟨ht.1, fun y hy => ?_⟩
  rcases List.mem_or_eq_of_mem_set hy with h | rfl
  · exact ht.2 y h
  · exact hx

theorem good_pcs (a b : List UInt8) (hl : a.length = b.length) (ga : good a = true) (gb : good b = true) (p : Nat) : ∀ x ∈ pcs a b p, good x = true := by
  induction p with
  | zero => intro x hx; simp [pcs] at hx
  | succ p ih =>
    cases hq : qual a b p
    · have hs : ∀ k, p ≤ k → k < p + 1 → qual a b k = false := by
        intro k h1 h2
        have e : k = p := by omega
        subst e
        exact hq
      rw [pcs_skip a b p (p + 1) (by omega) hs]
      exact ih
    · rw [pcs_succ a b p hq]
      intro x hx
      rcases List.mem_append.1 hx with h | h
      · exact ih x h
      · rw [List.mem_singleton] at h
        subst h
        exact good_set _ _ _ (rs_good a b hl ga gb p) (by unfold oth; split <;> decide)

theorem good_spl (a b : List UInt8) (hl : a.length = b.length) (ga : good a = true) (gb : good b = true) : ∀ x ∈ splT a b, good x = true := by
  unfold splT
  split
  · exact good_pcs a b hl ga gb _
  · intro x hx
    rw [List.mem_singleton] at hx
    subst hx
    exact ga

theorem spl_len (a b : List UInt8) (ha : a.length ≤ 256) : (splT a b).length ≤ 256 := by
  unfold splT
  split
  · have := pcs_len a b a.length; omega
  · simp
theorem pcs_wide (a b : List UInt8) (hl : a.length = b.length) (p : Nat) : ∀ x ∈ pcs a b p, x.length = a.length := by
  induction p with
  | zero => intro x hx; simp [pcs] at hx
  | succ p ih =>
    cases hq : qual a b p
    · have hs : ∀ k, p ≤ k → k < p + 1 → qual a b k = false := by
        intro k h1 h2
        have e : k = p := by omega
        subst e
        exact hq
      rw [pcs_skip a b p (p + 1) (by omega) hs]
      exact ih
    · rw [pcs_succ a b p hq]
      intro x hx
      rcases List.mem_append.1 hx with h | h
      · exact ih x h
      · rw [List.mem_singleton] at h
        subst h
        unfold pcT
        rw [List.length_set, rs_len a b hl]
theorem spl_wide (a b : List UInt8) (hl : a.length = b.length) : ∀ x ∈ splT a b, x.length = a.length := by
  unfold splT
  split
  · exact pcs_wide a b hl _
  · intro x hx
    rw [List.mem_singleton] at hx
    subst hx
    rfl
/-- good cubes of one width -/
def gdW (n : Nat) (l : List (List UInt8)) : Prop := ∀ x ∈ l, good x = true ∧ x.length = n
theorem gdW_exS {n : Nat} {l : List (List UInt8)} {d : List UInt8} (h : gdW n l) (hd : good d = true) (hn : d.length = n) : gdW n (exS splT l d) := fun x hx => by
  unfold exS at hx
  obtain ⟨c, hc, hx⟩ := List.mem_flatMap.1 hx
  obtain ⟨h1, h2⟩ := h c hc
  exact ⟨good_spl c d (by omega) h1 hd x hx, (spl_wide c d (by omega) x hx).trans h2⟩
theorem gdW_exT {n : Nat} : ∀ (L l : List (List UInt8)), gdW n l → gdW n L → gdW n (exT splT l L)
  | [], _, h, _ => h
  | d :: r, _, h, hL => gdW_exT r _ (gdW_exS h (hL d List.mem_cons_self).1 (hL d List.mem_cons_self).2) (fun x hx => hL x (List.mem_cons_of_mem _ hx))
end Go.Proofs.YtmdnapognaddbaaGreatDoor
namespace Go.Proofs.YtmdnapognaddbaaGreatDoor
open Go.RowKit
/-- what a round keeps: all that is not the caller's own: X, and the row r that grows -/
def YK (X : Nat → Prop) (r : Option Nat) (W : World) (r' : Option Nat) (W' : World) : Prop := W.heap.size ≤ W'.heap.size ∧ ∀ k, k < W.heap.size → ¬ X k → some k ≠ r → W'.heap[k]? = W.heap[k]? ∧ some k ≠ r'
theorem YK.refl (X : Nat → Prop) (r : Option Nat) (W : World) : YK X r W r W := ⟨Nat.le_refl _, fun _ _ _ h => ⟨rfl, h⟩⟩
theorem YK.trans {X : Nat → Prop} {r r' r'' : Option Nat} {W W' W'' : World} (h : YK X r W r' W') (g : YK X r' W' r'' W'') : YK X r W r'' W'' := ⟨Nat.le_trans h.1 g.1, fun k h1 h2 h3 => by
  obtain ⟨a1, a2⟩ := h.2 k h1 h2 h3
  obtain ⟨b1, b2⟩ := g.2 k (Nat.lt_of_lt_of_le h1 h.1) h2 a2
  exact ⟨b1.trans a1, b2⟩⟩
theorem YK.below {X : Nat → Prop} {r : Option Nat} {W W' : World} (h : Below W.heap.size W W') : YK X r W r W' := ⟨h.size, fun k h1 _ h3 => ⟨h.block k h1, h3⟩⟩
theorem YK.wider {X Y : Nat → Prop} {r r' : Option Nat} {W W' : World} (h : YK X r W r' W') (hx : ∀ k, X k → Y k) : YK Y r W r' W' := ⟨h.1, fun k h1 h2 h3 => h.2 k h1 (fun h => h2 (hx k h)) h3⟩
theorem YK.blk {X : Nat → Prop} {r r' : Option Nat} {W W' : World} {k : Nat} {o : Obj} (h : YK X r W r' W') (hk : W.heap[k]? = some o) (hx : ¬ X k) (hr : some k ≠ r) : W'.heap[k]? = some o := (h.2 k (lt_of_get3 hk) hx hr).1.trans hk
theorem size_setC (W : World) (p : Addr) (v : Value) : (W.setCell p v).heap.size = W.heap.size := by simp [World.setCell]
theorem YK.set {X : Nat → Prop} {r : Option Nat} (W : World) {b : Nat} (j : Nat) (v : Value) (hx : X b) : YK X r W r (W.setCell ⟨b, j, none⟩ v) := ⟨by rw [size_setC]; exact Nat.le_refl _, fun k _ h2 h3 => ⟨Below.heap_setCell _ _ _ _ (by rintro rfl; exact h2 hx), h3⟩⟩
/-- the caller's own, and one block more -/
def XB (X : Nat → Prop) (b : Nat) (k : Nat) : Prop := X k ∨ k = b
/-- the counts, as they lie -/
def mtA (K : Nat) (M : Nat → Nat) : Array Value := ((List.range K).map (fun j => Value.int .i64 ((M j : Nat) : Int))).toArray
def MET (W : World) (b K : Nat) (M : Nat → Nat) : Prop := W.heap[b]? = some (.cells (mtA K M) 3 (0, 0))
theorem mtA_at {K : Nat} {M : Nat → Nat} {j : Nat} (hj : j < K) : (mtA K M)[j]? = some (.int .i64 ((M j : Nat) : Int)) := by simp [mtA, hj]
theorem mtA_put {K : Nat} {M : Nat → Nat} {j : Nat} (_hj : j < K) : (mtA K M).setIfInBounds j (.int .i64 ((M j : Nat) + 1 : Int)) = mtA K (cntD M j) := by
  apply Array.ext
  · simp [mtA]
  · intro i h1 h2
    have hi : i < K := by simpa [mtA] using h2
    rw [Array.getElem_setIfInBounds (by simpa [mtA] using hi)]
    by_cases e : j = i
    · subst e
      simp [mtA, cntD]
    · have e' : ¬ i = j := fun h => e h.symm
      simp [mtA, cntD, e, e']
theorem MET.cell {W : World} {b K : Nat} {M : Nat → Nat} {j : Nat} (h : MET W b K M) (hj : j < K) : W.cell? ⟨b, j, none⟩ = some (.int .i64 ((M j : Nat) : Int)) ∧ W.frozen? ⟨b, j, none⟩ = false := by
  obtain ⟨c, f⟩ := cells_block h
  exact ⟨(c j).trans (mtA_at hj), f j⟩
theorem MET.put {W : World} {b K : Nat} {M : Nat → Nat} {j : Nat} (h : MET W b K M) (hj : j < K) : MET (W.setCell ⟨b, j, none⟩ (.int .i64 ((M j : Nat) + 1 : Int))) b K (cntD M j) := by
  have h1 := set_get (j := j) (.int .i64 ((M j : Nat) + 1 : Int)) h
  rw [mtA_put hj] at h1
  exact h1
theorem MET.cong {W : World} {b K : Nat} {M M' : Nat → Nat} (h : MET W b K M) (e : ∀ j, M j = M' j) : MET W b K M' := by
  have : M = M' := funext e
  rw [← this]
  exact h
theorem CB.same {W X : World} {g o : Nat} {t : List UInt8} (h : CB W g o t) (hb : X.heap[g]? = W.heap[g]?) : CB X g o t := by
  have hk : ∀ j, X.cell? ⟨g, j, none⟩ = W.cell? ⟨g, j, none⟩ := fun j => by unfold World.cell?; rw [hb]
  obtain ⟨a0, a1, a2, a3, a4, a5, a6, a7, a8⟩ := h
  exact ⟨(hk _).trans a0, (hk _).trans a1, (hk _).trans a2, (hk _).trans a3, (hk _).trans a4, (hk _).trans a5, (hk _).trans a6, (hk _).trans a7, (hk _).trans a8⟩
/-- a row of cubes that is none of the caller's own lies there -/
def RC (W : World) (X : Nat → Prop) (r : Option Nat) (p : Option Addr) (L : List (List UInt8)) : Prop := ∀ (i : Nat) (z : List UInt8), L[i]? = some z → ∃ g o0, p = some ⟨g, o0, none⟩ ∧ CB W g (o0 + i * 9) z ∧ ¬ X g ∧ some g ≠ r
theorem RC.keep {W W' : World} {X : Nat → Prop} {r r' : Option Nat} {p : Option Addr} {L : List (List UInt8)} (h : RC W X r p L) (hy : YK X r W r' W') : RC W' X r' p L := fun i z hz => by
  obtain ⟨g, o0, e, c, h1, h2⟩ := h i z hz
  obtain ⟨k1, k2⟩ := hy.2 g (World.block_lt_of_cell? W _ c.1) h1 h2
  exact ⟨g, o0, e, c.same k1, h1, k2⟩
theorem RC.tail {W : World} {X : Nat → Prop} {r : Option Nat} {g o0 k : Nat} {d : List UInt8} {L : List (List UInt8)} (h : RC W X r (some ⟨g, o0, none⟩) (d :: L)) (hk : L.length + 1 ≤ k) : RC W X r (if k = 1 then some ⟨g, o0, none⟩ else some ⟨g, o0 + 9, none⟩) L := fun i z hz => by
  obtain ⟨g', o', e, c, h1, h2⟩ := h (i + 1) z (by rw [List.getElem?_cons_succ]; exact hz)
  injection e with e
  injection e with e1 e2 _
  subst e1
  subst e2
  have hi := (List.getElem?_eq_some_iff.1 hz).1
  have hk1 : ¬ k = 1 := by omega
  refine ⟨g, o0 + 9, if_neg hk1, ?_, h1, h2⟩
  have e3 : o0 + (i + 1) * 9 = o0 + 9 + i * 9 := by omega
  rw [e3] at c
  exact c
/-- what the caller holds while it is handed cube after cube -/
structure JY (X : Nat → Prop) (N0 : Nat) (J : List (List UInt8) → Option Nat → World → Prop) : Prop where
  below : ∀ o r W W', J o r W → Below W.heap.size W W' → J o r W'
  set : ∀ o r W (b j : Nat) v, J o r W → N0 ≤ b → some b ≠ r → J o r (W.setCell ⟨b, j, none⟩ v)
  low : ∀ k, X k → k < N0
  size : ∀ o r W, J o r W → N0 ≤ W.heap.size
  row : ∀ o r W k, J o r W → r = some k → k < W.heap.size
/-- what a call of yield does -/
def YLD (A : List (List UInt8)) (X : Nat → Prop) (J : List (List UInt8) → Option Nat → World → Prop) (Jx : World → Prop) (l m n : Nat) : Prop := ∀ o r W x, J o r W → o.length ≤ 8192 → good x = true → x.length = n → (o ++ [x]) <+: A → YieldAt Fence.wide m Tryz.prog l #[.agg #[.int .i64 (x.length : Int), .int .u64 (FW x 0 : Int), .int .u64 (FW x 1 : Int), .int .u64 (FW x 2 : Int), .int .u64 (FW x 3 : Int), .int .u64 (OW x 0 : Int), .int .u64 (OW x 1 : Int), .int .u64 (OW x 2 : Int), .int .u64 (OW x 3 : Int)]] W fun e W' => ∃ r', YK X r W r' W' ∧ ((e = .returned (.bool true) ∧ J (o ++ [x]) r' W') ∨ (e = .returned (.bool false) ∧ Jx W'))
/-- what a way down ends with -/
def DP (X : Nat → Prop) (J : List (List UInt8) → Option Nat → World → Prop) (Jx : World → Prop) (bm K : Nat) (room : Int) (M : Nat → Nat) (c : List UInt8) (L : List (List UInt8)) (o : List (List UInt8)) (r : Option Nat) (W : World) (e : Ending) (W' : World) : Prop :=
  (∃ ok r', e = .returned (.bool ok) ∧ some bm ≠ r' ∧ YK (XB X bm) r W r' W' ∧ ((ok = true ∧ dok splT room M [c] L ∧ J (o ++ exT splT [c] L) r' W' ∧ MET W' bm K (fun j => M j + lvl splT [c] L j)) ∨ (ok = false ∧ Jx W'))) ∨ (e = .panicked [{ v := .iface 122 (.agg #[]), recovered := false }] ∧ ¬ dok splT room M [c] L ∧ ∃ o' r', J o' r' W')
/-- down, with that list still to be taken away -/
def DWN (A : List (List UInt8)) (X : Nat → Prop) (J : List (List UInt8) → Option Nat → World → Prop) (Jx : World → Prop) (nb l bm K nf : Nat) (room : Int) (L : List (List UInt8)) : Prop := ∀ (c : List UInt8) (M : Nat → Nat) (o : List (List UInt8)) (r : Option Nat) (p : Option Addr) (k : Nat) (W : World), good c = true → c.length = nb → J o r W → MET W bm K M → some bm ≠ r → (∀ j, j ≤ L.length → ((M j : Nat) : Int) ≤ room) → (room ≤ 4096 ∨ dok splT 4096 M [c] L) → RC W (XB X bm) r p L → L.length ≤ k → o.length ≤ nf + M 0 → (o ++ exT splT [c] L) <+: A →
    Calls Tryz.prog 53 #[.agg #[.int .i64 room, .slice (some ⟨bm, 0, none⟩) K K, .func (.yield l) #[] #[]], .agg #[.int .i64 (c.length : Int), .int .u64 (FW c 0 : Int), .int .u64 (FW c 1 : Int), .int .u64 (FW c 2 : Int), .int .u64 (FW c 3 : Int), .int .u64 (OW c 0 : Int), .int .u64 (OW c 1 : Int), .int .u64 (OW c 2 : Int), .int .u64 (OW c 3 : Int)], .slice p L.length k] W (DP X J Jx bm K room M c L o r W)
/-- one piece of a list that lies ahead -/
theorem pre_piece {A o P L : List (List UInt8)} {z : List UInt8} {i : Nat} (h : (o ++ exT splT P L) <+: A) (hz : P[i]? = some z) : ((o ++ exT splT (P.take i) L) ++ exT splT [z] L) <+: A := by
  refine List.IsPrefix.trans ?_ h
  rw [List.append_assoc, ← exT_succ splT hz]
  have e := exT_app splT L (P.take (i + 1)) (P.drop (i + 1))
  rw [List.take_append_drop] at e
  rw [e, ← List.append_assoc]
  exact List.prefix_append _ _
/-- all the plain cubes, one term behind the other -/
def flT (Ts : List (List UInt8 × List (List UInt8))) : List (List UInt8) := Ts.flatMap (fun t => exT splT [t.1] t.2)
theorem flT_cons (t : List UInt8 × List (List UInt8)) (Ts : List (List UInt8 × List (List UInt8))) : flT (t :: Ts) = exT splT [t.1] t.2 ++ flT Ts := rfl
theorem exE_fl {lim : Nat} : ∀ (Ts : List (List UInt8 × List (List UInt8))) (out R : List (List UInt8)), exE splT lim out Ts = some R → R = out ++ flT Ts
  | [], out, R, e => by
    injection e with e
    rw [← e]
    exact (List.append_nil _).symm
  | t :: r, out, R, e => by
    unfold exE at e
    split at e
    · rw [exE_fl r _ R e, flT_cons, List.append_assoc]
    · cases e
theorem few_of {room : Int} {M : Nat → Nat} {c : List UInt8} {L : List (List UInt8)} (h1 : ∀ j, j ≤ L.length → ((M j : Nat) : Int) ≤ room) (h2 : room ≤ 4096 ∨ dok splT 4096 M [c] L) (j : Nat) (hj : j ≤ L.length) : M j ≤ 4096 := by
  rcases h2 with h2 | h2
  · have := h1 j hj
    omega
  · have := h2 j hj
    omega
theorem dok_cnt {room : Int} {M : Nat → Nat} {k : Nat} {l L : List (List UInt8)} (hk : L.length < k) : dok splT room (cntD M k) l L ↔ dok splT room M l L := by
  unfold dok
  constructor
  · intro h j hj
    have := h j hj
    unfold cntD at this
    rw [if_neg (by omega)] at this
    exact this
  · intro h j hj
    have := h j hj
    unfold cntD
    rw [if_neg (by omega)]
    exact this
/-- the counts behind all the pieces -/
theorem cnt_all (M : Nat → Nat) (c d : List UInt8) (L : List (List UInt8)) (j : Nat) : cntD M (L.length + 1) j + lvl splT (splT c d) L j = M j + lvl splT [c] (d :: L) j := by
  rw [lvl_cons]
  unfold cntD
  split
  · rename_i e
    subst e
    rw [lvl_over splT L _ _ (by omega)]
  · rfl
theorem cnt_nil (M : Nat → Nat) (c : List UInt8) (j : Nat) : cntD M 0 j = M j + lvl splT [c] [] j := by
  unfold cntD lvl
  split <;> simp
theorem dok_nil {room : Int} {M : Nat → Nat} {c : List UInt8} : dok splT room M [c] [] ↔ ((M 0 : Nat) + 1 : Int) ≤ room := by
  unfold dok
  constructor
  · intro h
    have := h 0 (Nat.le_refl _)
    simpa [lvl] using this
  · intro h j hj
    have : j = 0 := by simpa using hj
    subst this
    simpa [lvl] using h
end Go.Proofs.YtmdnapognaddbaaGreatDoor
