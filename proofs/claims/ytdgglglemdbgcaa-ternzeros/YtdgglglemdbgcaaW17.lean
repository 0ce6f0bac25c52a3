import Derived.Test.YtdgglglemdbgcaaW16
namespace Go.Proofs.Ytdgglglemdbgcaa
open Go.RowKit

set_option maxRecDepth 100000 in
set_option maxHeartbeats 2000000 in
theorem split_try (a b : List UInt8) (w : World) (ha : good a = true) (gb : good b = true) (hq0 : agB a b = true) :
    Calls Try.prog 21 #[cubeV a, cubeV b] w fun e w' => ∃ v, e = .returned v ∧ w'.ownsRow w.heap.size 26 9 v (pcs a b a.length).length (cels (pcs a b a.length)) ∧ Below w.heap.size w w' := by
  have hq : Hid (agB a b = true) := hq0
  have hl : Hid (a.length = b.length) := fitB_len (agB_fit hq0)
  have hal := good_len ha
  clear hq0
  obtain ⟨i0, hi, hz0, hz1, hz2⟩ := info_parts info_cube
  unfold cubeV cv
  go_enter Try.func21, Try.ntmps21
  go_wp2_with (go_at_call 26; refine (agrees_D a b true _ ha hq.out).mono ?_; rintro e w1 ⟨rfl, hb1⟩; obtain ⟨hc1, hf1⟩ := bcell hb1)
  have hA1 := allocblk (keepblk hb1 (alloc2_0 w (.cells #[.int .i64 (a.length : Int), .int .u64 (FW a 0 : Int), .int .u64 (FW a 1 : Int), .int .u64 (FW a 2 : Int), .int .u64 (FW a 3 : Int), .int .u64 (OW a 0 : Int), .int .u64 (OW a 1 : Int), .int .u64 (OW a 2 : Int), .int .u64 (OW a 3 : Int)] 26) (.cells #[.int .i64 (b.length : Int), .int .u64 (FW b 0 : Int), .int .u64 (FW b 1 : Int), .int .u64 (FW b 2 : Int), .int .u64 (FW b 3 : Int), .int .u64 (OW b 0 : Int), .int .u64 (OW b 1 : Int), .int .u64 (OW b 2 : Int), .int .u64 (OW b 3 : Int)] 26))) (.cells #[.int .i64 (a.length : Int), .int .u64 (FW a 0 : Int), .int .u64 (FW a 1 : Int), .int .u64 (FW a 2 : Int), .int .u64 (FW a 3 : Int), .int .u64 (OW a 0 : Int), .int .u64 (OW a 1 : Int), .int .u64 (OW a 2 : Int), .int .u64 (OW a 3 : Int)] 26)
  have hB1 := allocblk (keepblk hb1 (alloc2_1 w (.cells #[.int .i64 (a.length : Int), .int .u64 (FW a 0 : Int), .int .u64 (FW a 1 : Int), .int .u64 (FW a 2 : Int), .int .u64 (FW a 3 : Int), .int .u64 (OW a 0 : Int), .int .u64 (OW a 1 : Int), .int .u64 (OW a 2 : Int), .int .u64 (OW a 3 : Int)] 26) (.cells #[.int .i64 (b.length : Int), .int .u64 (FW b 0 : Int), .int .u64 (FW b 1 : Int), .int .u64 (FW b 2 : Int), .int .u64 (FW b 3 : Int), .int .u64 (OW b 0 : Int), .int .u64 (OW b 1 : Int), .int .u64 (OW b 2 : Int), .int .u64 (OW b 3 : Int)] 26))) (.cells #[.int .i64 (a.length : Int), .int .u64 (FW a 0 : Int), .int .u64 (FW a 1 : Int), .int .u64 (FW a 2 : Int), .int .u64 (FW a 3 : Int), .int .u64 (OW a 0 : Int), .int .u64 (OW a 1 : Int), .int .u64 (OW a 2 : Int), .int .u64 (OW a 3 : Int)] 26)
  have hR1 : (w1.alloc (.cells #[.int .i64 (a.length : Int), .int .u64 (FW a 0 : Int), .int .u64 (FW a 1 : Int), .int .u64 (FW a 2 : Int), .int .u64 (FW a 3 : Int), .int .u64 (OW a 0 : Int), .int .u64 (OW a 1 : Int), .int .u64 (OW a 2 : Int), .int .u64 (OW a 3 : Int)] 26)).heap[w1.heap.size]? = some (.cells (#[.int .i64 ((rsT a b (64 * 0)).length : Int), .int .u64 (FW (rsT a b (64 * 0)) 0 : Int), .int .u64 (FW (rsT a b (64 * 0)) 1 : Int), .int .u64 (FW (rsT a b (64 * 0)) 2 : Int), .int .u64 (FW (rsT a b (64 * 0)) 3 : Int), .int .u64 (OW (rsT a b (64 * 0)) 0 : Int), .int .u64 (OW (rsT a b (64 * 0)) 1 : Int), .int .u64 (OW (rsT a b (64 * 0)) 2 : Int), .int .u64 (OW (rsT a b (64 * 0)) 3 : Int)]) 26 (0, 0)) := by rw [Nat.mul_zero, rs_zero]; exact alloc_get _ _
  have hW1 := belA (bel1 (bel1 hb1)) (.cells #[.int .i64 (a.length : Int), .int .u64 (FW a 0 : Int), .int .u64 (FW a 1 : Int), .int .u64 (FW a 2 : Int), .int .u64 (FW a 3 : Int), .int .u64 (OW a 0 : Int), .int .u64 (OW a 1 : Int), .int .u64 (OW a 2 : Int), .int .u64 (OW a 3 : Int)] 26)
  have hgw : w.heap.size + 2 ≤ w1.heap.size := by have := hb1.size; simp at this; omega
  clear hb1 hc1 hf1
  go_loopw [5, 17] (fun v i wr => ∃ k : Nat, k ≤ 4 ∧ i = .int .i64 k ∧ wr.heap[w.heap.size]? = some (.cells (#[.int .i64 (a.length : Int), .int .u64 (FW a 0 : Int), .int .u64 (FW a 1 : Int), .int .u64 (FW a 2 : Int), .int .u64 (FW a 3 : Int), .int .u64 (OW a 0 : Int), .int .u64 (OW a 1 : Int), .int .u64 (OW a 2 : Int), .int .u64 (OW a 3 : Int)]) 26 (0, 0)) ∧ wr.heap[w.heap.size + 1]? = some (.cells (#[.int .i64 (b.length : Int), .int .u64 (FW b 0 : Int), .int .u64 (FW b 1 : Int), .int .u64 (FW b 2 : Int), .int .u64 (FW b 3 : Int), .int .u64 (OW b 0 : Int), .int .u64 (OW b 1 : Int), .int .u64 (OW b 2 : Int), .int .u64 (OW b 3 : Int)]) 26 (0, 0)) ∧ wr.heap[w1.heap.size]? = some (.cells (#[.int .i64 ((rsT a b (64 * k)).length : Int), .int .u64 (FW (rsT a b (64 * k)) 0 : Int), .int .u64 (FW (rsT a b (64 * k)) 1 : Int), .int .u64 (FW (rsT a b (64 * k)) 2 : Int), .int .u64 (FW (rsT a b (64 * k)) 3 : Int), .int .u64 (OW (rsT a b (64 * k)) 0 : Int), .int .u64 (OW (rsT a b (64 * k)) 1 : Int), .int .u64 (OW (rsT a b (64 * k)) 2 : Int), .int .u64 (OW (rsT a b (64 * k)) 3 : Int)]) 26 (0, 0)) ∧ wr.ownsRow (w1.heap.size + 1) 26 9 v (pcs a b (64 * k)).length (cels (pcs a b (64 * k))) ∧ Below w.heap.size w wr ∧ w1.heap.size + 1 ≤ wr.heap.size) (fun _ i _ => 4 - (intOf i).toNat)
  case atStart => exact ⟨0, by omega, rfl, hA1, hB1, hR1, World.ownsRow_nil _ _ _ _, hW1, by simp⟩
  case round =>
    clear hA1 hB1 hR1 hW1
    obtain ⟨k, hk, rfl, hA, hBb, hR, hown, hB, hsz⟩ := hrel
    by_cases hk4 : k < 4
    · skip
      have cA := cellF (cells_block hA).1 hk4
      have cB := cellF (cells_block hBb).1 hk4
      have hst := opn_start a b k
      have j0 : (0 : Int) ≤ (k : Int) := by omega
      have j1 : (k : Int) < 4 := by omega
      go_wp2
      go_quiet (fail)
      go_wp2
      go_loopw [5, 8] (fun v o wr => ∃ i : Nat, i ≤ 64 ∧ o = .int .u64 ((opn a b k i : Nat) : Int) ∧ wr.heap[w.heap.size]? = some (.cells (#[.int .i64 (a.length : Int), .int .u64 (FW a 0 : Int), .int .u64 (FW a 1 : Int), .int .u64 (FW a 2 : Int), .int .u64 (FW a 3 : Int), .int .u64 (OW a 0 : Int), .int .u64 (OW a 1 : Int), .int .u64 (OW a 2 : Int), .int .u64 (OW a 3 : Int)]) 26 (0, 0)) ∧ wr.heap[w.heap.size + 1]? = some (.cells (#[.int .i64 (b.length : Int), .int .u64 (FW b 0 : Int), .int .u64 (FW b 1 : Int), .int .u64 (FW b 2 : Int), .int .u64 (FW b 3 : Int), .int .u64 (OW b 0 : Int), .int .u64 (OW b 1 : Int), .int .u64 (OW b 2 : Int), .int .u64 (OW b 3 : Int)]) 26 (0, 0)) ∧ wr.heap[w1.heap.size]? = some (.cells (#[.int .i64 ((rsT a b (64 * k + i)).length : Int), .int .u64 (FW (rsT a b (64 * k + i)) 0 : Int), .int .u64 (FW (rsT a b (64 * k + i)) 1 : Int), .int .u64 (FW (rsT a b (64 * k + i)) 2 : Int), .int .u64 (FW (rsT a b (64 * k + i)) 3 : Int), .int .u64 (OW (rsT a b (64 * k + i)) 0 : Int), .int .u64 (OW (rsT a b (64 * k + i)) 1 : Int), .int .u64 (OW (rsT a b (64 * k + i)) 2 : Int), .int .u64 (OW (rsT a b (64 * k + i)) 3 : Int)]) 26 (0, 0)) ∧ wr.ownsRow (w1.heap.size + 1) 26 9 v (pcs a b (64 * k + i)).length (cels (pcs a b (64 * k + i))) ∧ Below w.heap.size w wr ∧ w1.heap.size + 1 ≤ wr.heap.size) (fun _ o _ => (intOf o).toNat)
      case atStart => exact ⟨0, by omega, rfl, hA, hBb, hR, hown, hB.trans (below_drewN _ _ _), hsz⟩
      case round =>
        clear hA hBb hR hown hB hsz cA cB hst
        obtain ⟨i, hi64, rfl, hA, hBb, hR, hown, hB, hsz⟩ := hrel
        by_cases hO0 : opn a b k i = 0
        · have hzq := opn_zero a b k i hO0
          have hrs := rs_skip a b hl.out (64 * k + i) (64 * (k + 1)) (by omega) (fun j h1 h2 => by have := hzq (j - 64 * k) (by omega) (by omega); rwa [show 64 * k + (j - 64 * k) = j by omega] at this)
          have hpc := pcs_skip a b (64 * k + i) (64 * (k + 1)) (by omega) (fun j h1 h2 => by have := hzq (j - 64 * k) (by omega) (by omega); rwa [show 64 * k + (j - 64 * k) = j by omega] at this)
          rw [← hrs] at hR
          rw [← hpc] at hown
          rw [hO0]
          clear hzq hrs hpc hO0
          go_wp2
          go_roundw
          case rel => exact ⟨(k + 1), by omega, by go_num, hA, hBb, hR, hown, hB, hsz⟩
          case measure => simp [intOf]; omega
        · obtain ⟨r, hir, hr, hqu, hbet, hlow, hnext⟩ := opn_step a b k i hO0
          obtain ⟨O, hO⟩ : ∃ O, opn a b k i = O := ⟨_, rfl⟩
          have hne : ((O : Int) != 0) = true := by rw [← hO]; simp; omega
          have hOl : O < 18446744073709551616 := by rw [← hO]; exact opn_lt _ _ _ _
          rw [hO] at hlow
          rw [hO] at hnext
          have hp : 64 * k + r < a.length := qual_lt a b hl.out _ hqu
          have hRS := rs_skip a b hl.out (64 * k + i) (64 * k + r) (by omega) (fun j h1 h2 => by have := hbet (j - 64 * k) (by omega) (by omega); rwa [show 64 * k + (j - 64 * k) = j by omega] at this)
          have hPC := pcs_skip a b (64 * k + i) (64 * k + r) (by omega) (fun j h1 h2 => by have := hbet (j - 64 * k) (by omega) (by omega); rwa [show 64 * k + (j - 64 * k) = j by omega] at this)
          have hfixO := fun W => fix_oth a b k r W hk4 hr hl.out gb hqu
          have hfixD := fun W => fix_own a b k r W hk4 hr hl.out gb hqu
          have hPCn := pcs_len a b (64 * k + r)
          have hPS := pcs_succ a b _ hqu
          obtain ⟨X, hX⟩ : ∃ X, 2 ^ r = X := ⟨_, rfl⟩
          rw [hX] at hfixO hfixD
          have hbit : bits .and .u64 (O : Int) (IntKind.u64.wrap (-(O : Int))) = (X : Int) := by rw [← hX]; exact low_bits O r (by intro e; rw [e] at hO; exact hO0 hO) hOl hlow
          obtain ⟨N, hN⟩ : ∃ N, opn a b k (r + 1) = N := ⟨_, rfl⟩
          have hnx : bits .and .u64 (O : Int) (IntKind.u64.wrap ((O : Int) - 1)) = (N : Int) := by rw [← hN]; exact next_bits O _ (by intro e; rw [e] at hO; exact hO0 hO) hOl hnext
          have hnx2 : bits .and .u64 (O : Int) ((O : Int) - 1) = (N : Int) := by rw [← hN]; exact next_bits2 O _ (by intro e; rw [e] at hO; exact hO0 hO) hOl hnext
          have hNlt : N < O := by rw [← hN, ← hnext]; exact Nat.lt_of_le_of_lt Nat.and_le_right (by have : O ≠ 0 := (by intro e; rw [e] at hO; exact hO0 hO); omega)
          obtain ⟨RS, hRS1⟩ : ∃ RS, rsT a b (64 * k + r) = RS := ⟨_, rfl⟩
          obtain ⟨RN, hRN1⟩ : ∃ RN, rsT a b (64 * k + r + 1) = RN := ⟨_, rfl⟩
          obtain ⟨P, hP1⟩ : ∃ P, pcT a b (64 * k + r) = P := ⟨_, rfl⟩
          obtain ⟨L, hL1⟩ : ∃ L, pcs a b (64 * k + r) = L := ⟨_, rfl⟩
          rw [← hRS, hRS1] at hR
          rw [← hPC, hL1] at hown
          rw [hRS1, hP1] at hfixO
          rw [hRS1, hRN1] at hfixD
          rw [hL1] at hPCn
          have HO : Hid (opn a b k i = O) := hO
          have HN : Hid (opn a b k (r + 1) = N) := hN
          have HRN : Hid (rsT a b (64 * k + r + 1) = RN) := hRN1
          have HL : Hid (pcs a b (64 * k + r + 1) = L ++ [P]) := by unfold Hid; rw [hPS, hL1, hP1]
          have hfO : Hid (∀ W, Calls Try.prog 32 #[cubeV RS, .int .i64 k, .int .u64 (X : Int), .int .u64 (bits .xor .u64 (if IntKind.u64.signed = true then -1 else IntKind.u64.max) (OW b k : Int))] W fun e w' => e = .returned (cubeV P) ∧ Below W.heap.size W w') := hfixO
          have hfD : Hid (∀ W, Calls Try.prog 32 #[cubeV RS, .int .i64 k, .int .u64 (X : Int), .int .u64 (OW b k : Int)] W fun e w' => e = .returned (cubeV RN) ∧ Below W.heap.size W w') := hfixD
          rw [hO]
          clear hfixO hfixD hO hN hRN1 hP1 hL1 hRS1 hRS hPC hPS hX hlow hnext hbet hO0
          have cR := (cells_block hR).1
          have cBb := cellO (cells_block hBb).1 hk4
          go_wp2
          go_region_held3 (fun W => (∀ j, W.cell? ⟨w1.heap.size, j, none⟩ = (#[.int .i64 (RS.length : Int), .int .u64 (FW RS 0 : Int), .int .u64 (FW RS 1 : Int), .int .u64 (FW RS 2 : Int), .int .u64 (FW RS 3 : Int), .int .u64 (OW RS 0 : Int), .int .u64 (OW RS 1 : Int), .int .u64 (OW RS 2 : Int), .int .u64 (OW RS 3 : Int)] : Array Value)[j]?) ∧ W.cell? ⟨w.heap.size + 1, 5 + k, none⟩ = some (.int .u64 (OW b k : Int))) (first | exact ⟨cR, cBb⟩ | exact ⟨(cellkeepS hbU (by exact lt_of_get hR) cR), (cell1keep hbU (by exact lt_of_get hBb) cBb)⟩ | exact ⟨allockeepS (Nat.lt_of_lt_of_le (lt_of_get hR) hbU.size) (cellkeepS hbU (by exact lt_of_get hR) cR) _, alloc1keep (Nat.lt_of_lt_of_le (lt_of_get hBb) hbU.size) (cell1keep hbU (by exact lt_of_get hBb) cBb) _⟩ | exact ⟨cellgrowS hgrow (ltA (Nat.lt_of_lt_of_le (lt_of_get hR) hbU.size) _) (fun e => by have := (hown.lt _ e.symm).1; omega) (allockeepS (Nat.lt_of_lt_of_le (lt_of_get hR) hbU.size) (cellkeepS hbU (by exact lt_of_get hR) cR) _), cell1grow hgrow (ltA (Nat.lt_of_lt_of_le (lt_of_get hBb) hbU.size) _) (fun e => by have := (hown.lt _ e.symm).1; omega) (alloc1keep (Nat.lt_of_lt_of_le (lt_of_get hBb) hbU.size) (cell1keep hbU (by exact lt_of_get hBb) cBb) _)⟩) (first | (go_at_call 32; refine (hfO.out _).mono ?_; rintro e wU ⟨rfl, hbU⟩; unfold cubeV cv) | (refine step_append_lies _ (by rfl) _ _ _ (by rfl) (w1.heap.size + 1) 26 i0 _ 9 72 Try.underlying44 hi hz0 hz1 hz2 rfl (by omega) u5 L.length (cels L) (by rfl) (World.ownsRow.alloc (owns_below hown (undrewS hbU)) _) ⟨wU.heap.size, 0, none⟩ 1 1 (cel P) (by rfl) (by rfl) (World.news_of_block (cs := #[.int .i64 (P.length : Int), .int .u64 (FW P 0 : Int), .int .u64 (FW P 1 : Int), .int .u64 (FW P 2 : Int), .int .u64 (FW P 3 : Int), .int .u64 (OW P 0 : Int), .int .u64 (OW P 1 : Int), .int .u64 (OW P 2 : Int), .int .u64 (OW P 3 : Int)]) (t := 26) (fr := (0, 0)) (heap_alloc_new wU _)) (by simp [cel, Value.oneCell']) (by omega) (by unfold maxLen; omega) (by omega) (by have hzz := hbU.size; simp at hzz ⊢; omega) (wU.heap.size + 1) (by simp) ?_; intro gg cap w2 hown2 hgrow hat hlt))
          have zU : wr.heap.size ≤ wU.heap.size := hbU.size
          have hA2 := growblk hgrow (allocblk (keepblk (undrewS hbU) hA) _) (fun e => by have := (hown.lt _ e.symm).1; omega)
          have hBb2 := growblk hgrow (allocblk (keepblk (undrewS hbU) hBb) _) (fun e => by have := (hown.lt _ e.symm).1; omega)
          have hR2 := growblk hgrow (allocblk (keepblk (undrewS hbU) hR) _) (fun e => by have := (hown.lt _ e.symm).1; omega)
          have hB2 := bel_app2 (bel0 hB (undrewS hbU)) (owns_below hown (undrewS hbU)) hgrow (by omega)
          have hz2' : w1.heap.size + 1 ≤ w2.heap.size := by have := hgrow.size; simp at this; omega
          clear hat hgrow hbU cR cBb hA hBb hR hB hown zU hsz
          have cR := (cells_block hR2).1
          have cBb := cellO (cells_block hBb2).1 hk4
          go_wp2
          go_region_with (go_at_call 32; refine (hfD.out _).mono ?_; rintro e wV ⟨rfl, hbV⟩; unfold cubeV cv; have hRV := keepblk (undrewS hbV) hR2; have cRV := (cells_block hRV).1; have fRV := (cells_block hRV).2)
          all_goals
            have hAV := keepblk (undrewS hbV) hA2
            have hBV := keepblk (undrewS hbV) hBb2
            have hoV := owns_below hown2 (undrewS hbV)
            have hBeV := bel0 hB2 (undrewS hbV)
            have zV : w2.heap.size ≤ wV.heap.size := hbV.size
            have HPL : Hid ((pcs a b (64 * k + (r + 1))).length = L.length + 1) := by unfold Hid; rw [show pcs a b (64 * k + (r + 1)) = L ++ [P] from HL.out]; simp
            have HPC : Hid (cels (pcs a b (64 * k + (r + 1))) = cels L ++ cel P) := by unfold Hid; rw [show pcs a b (64 * k + (r + 1)) = L ++ [P] from HL.out]; exact cels_snoc L P
            have HPR : Hid (rsT a b (64 * k + (r + 1)) = RN) := HRN.out
            clear hA2 hBb2 hR2 hown2 hB2 cR cBb hbV
            go_wp2
            go_roundw
            case rel =>
              exact ⟨r + 1, by omega, by rw [HN.out], put9_ne _ _ _ _ _ _ _ _ _ (by omega) hAV, put9_ne _ _ _ _ _ _ _ _ _ (by omega) hBV, (by rw [HPR.out]; exact put9_get _ _ _ _ _ _ _ _ _ hRV), (by rw [HPL.out, HPC.out]; exact own_put9 _ _ _ _ _ _ _ _ _ hoV (by omega)), put9_below _ _ _ _ _ _ _ _ _ hBeV (by omega), put9_szle _ _ _ _ _ _ _ _ _ (by omega)⟩
            case measure => simp [intOf]; omega
    · have hkk : k = 4 := by omega
      subst hkk
      have hfin := pcs_skip a b a.length (64 * 4) (by omega) (fun j h1 h2 => by
        cases e : qual a b j
        · rfl
        · have := qual_lt a b hl.out j e; omega)
      rw [hfin] at hown
      have hown' := own_base hown (show w.heap.size ≤ w1.heap.size + 1 by omega)
      clear hfin hown
      go_wp2
      go_ret
      exact ⟨_, rfl, hown', hB⟩
end Go.Proofs.Ytdgglglemdbgcaa
